import PyProof.Rows.All
import Wide.All
import OpenK.AllK
import Wide.FinOn
import HandS.ForMost
import HandS.Defaults
import HandS.MakeKwOnly
import HandS.Conv
import HandS.IsInst
import HandS.Walk
import HandS.Flow
import KE.SortData
import KE.DataMinMax
import KE.GoesMore
import HandS.Replace
import HandS.DictComp
import HandS.MakeKw
import HandS.Style
import HandS.More
import KE.KStateDown
import Lean
import HandS.Ends
import HandS.WordsExc
import HandS.Head0
import HandS.Head1
import HandS.Head2
import HandS.HeadEnd
import HandS.HeadHook1
import HandS.HeadHook2
import HandS.HeadNt
import PySem.Challenge.RW_wordlines_k03_whole_no_shorter_rows
set_option Elab.async false
set_option linter.all false
set_option maxRecDepth 100000
set_option maxHeartbeats 4000000
/-! Rules of ours beside the layer: sorted of data, min and max of two texts, in of nested tuples, methods by keyword, enumerate of a tuple. -/
namespace Wl
open PySem PySem.Spec PyProof.Rows L2

/-! sorted(list of data) -/
def rSortD (K : PySem.W.Frag) : List V → Hp → VK → Prop := fun vs H Q =>
  ∃ (a : Addr) (bs : List (V × PyData)), vs = [V.ref a] ∧ SqL K H a (bs.map (·.1)) ∧ (∀ b ∈ bs, Dp K H b.1 b.2) ∧
    PySem.W.AllAlike (bs.map (·.2)) ∧ PySem.W.Sortable (bs.map (·.2)) ∧ (∀ b ∈ bs, b.2.depth ≤ 8) ∧
    ∀ p, H p = none → Q (.ref p) (upd H p (.lst ((bs.mergeSort (PySem.W.dataLe false (·.2))).map (·.1))))
theorem each_of_vals : ∀ {bs : List (V × PyData)} {its : List Value}, Vals (bs.map (·.1)) its → PySem.W.EachIs (fun u b => RelV b.1 u) its bs
  | [], [], _ => .nil
  | [], _ :: _, h => nomatch h
  | _ :: _, [], h => nomatch h
  | b :: bs, u :: us, h => by
    cases h with
    | cons r t => exact .cons r (each_of_vals t)
theorem vals_of_each : ∀ {bs : List (V × PyData)} {its : List Value}, PySem.W.EachIs (fun u b => RelV b.1 u) its bs → Vals (bs.map (·.1)) its
  | _, _, .nil => .nil
  | _, _, .cons r t => .cons r (vals_of_each t)
theorem each_reads {X : Cx} {pins : List (Addr × Obj)} {σ : L2.St} {H : Hp} {s : Shared} (I : Inv X pins σ H s) :
    ∀ {bs : List (V × PyData)} {its : List Value}, (∀ b ∈ bs, Dp X.K H b.1 b.2) → PySem.W.EachIs (fun u b => RelV b.1 u) its bs →
      PySem.W.EachIs (fun v b => ∃ as, Reads s.heap v b.2 as) its bs
  | _, _, _, .nil => .nil
  | _, _, hd, .cons r t => .cons (Dp.reads I _ _ _ (hd _ List.mem_cons_self) r) (each_reads I (fun b m => hd b (List.mem_cons_of_mem _ m)) t)
theorem cr_sortD {X : Cx} (hu : X.A.units + 64 < cLine) : CallR X (.builtin "sorted") (rSortD X.K) := by
  intro pins s σ H vs us Q I r h
  obtain ⟨a, bs, rfl, hs, hd, ha, hk, hz, q⟩ := h
  obtain ⟨its, rv, hl, hn⟩ := I.list hs
  obtain ⟨u, rfl, ru⟩ := vals1 r
  obtain rfl : u = Value.ref a := ru
  have e := each_of_vals rv
  have hbn : bs.length ≤ sizeLine := by
    rw [List.length_map] at hn
    exact hn
  refine PySem.W.sorted_data (R := fun u b => RelV b.1 u) (enc := (·.2)) hl.isList e (each_reads I hd e) ha hk hbn (fun b hb => ?_) fun out ho eo => ?_
  · have := hz b hb
    omega
  · have rv2 := vals_of_each eo
    obtain ⟨n, hn2⟩ := sortedAll_at s.heap its out.toArray
    have hlen : ((bs.mergeSort (PySem.W.dataLe false (·.2))).map (·.1)).length ≤ sizeLine := by
      rw [List.length_map, List.length_mergeSort]
      exact hbn
    exact ⟨.ref (s.heap.objs.size + 1), _, I.laid (t' := s.toks) (o := .lst ((bs.mergeSort (PySem.W.dataLe false (·.2))).map (·.1))) (fun b o e => sortedAll_old e) (Nat.le_succ _) ⟨hlen, out, n, rv2, hn2⟩, rfl, q _ (I.hok.fresh (Nat.le_succ _))⟩

/-! min, max of a tuple of two texts -/
def rTwo (K : PySem.W.Frag) (f : Str → Str → Str) : List V → Hp → VK → Prop := fun vs H Q =>
  ∃ (a : Addr) (x y : Str), vs = [V.ref a] ∧ SqT K H a [.str x, .str y] ∧ Q (.str (f x y)) H
def lessOf (x y : Str) : Str := if y.cps.toList < x.cps.toList then y else x
def moreOf (x y : Str) : Str := if x.cps.toList < y.cps.toList then y else x
theorem alike2 (x y : Str) : PySem.W.AlikeAll [PyData.str x, .str y] := by
  refine ⟨fun a ha b hb => ?_, fun a ha => ?_⟩
  · simp only [List.mem_cons, List.not_mem_nil, or_false] at ha hb
    rcases ha with rfl | rfl <;> rcases hb with rfl | rfl <;> rfl
  · simp only [List.mem_cons, List.not_mem_nil, or_false] at ha
    rcases ha with rfl | rfl <;> exact fun z => by cases z
theorem dp2 {K : PySem.W.Frag} {H : Hp} (x y : Str) : DpAll K H [.str x, .str y] [PyData.str x, .str y] := .cons (.str x) (.cons (.str y) .nil)
theorem cr_minT {X : Cx} (hc : X.calm = true) (hu : X.A.units + 64 < cLine) : CallR X (.builtin "min") (rTwo X.K lessOf) := by
  intro pins s σ H vs us Q I r h
  obtain ⟨a, x, y, rfl, hs, q⟩ := h
  obtain ⟨its, rv, hl, hn⟩ := I.tuple hs
  obtain ⟨u, rfl, ru⟩ := vals1 r
  obtain rfl : u = Value.ref a := ru
  obtain ⟨as, hr⟩ := Dp.readsAll I _ _ its (dp2 x y) rv
  refine PySem.W.min_tuple_data (I.ok.hd hc) (show s.heap.IsTuple a its.toArray from hl) (by simpa using hr) (alike2 x y) (by
    have : PyData.depthAll [PyData.str x, .str y] = 0 := rfl
    omega) fun i v h' tk bs hv hR hk => ?_
  have e : PySem.W.minD (.str x) [.str y] = .str (lessOf x y) := by
    unfold PySem.W.minD lessOf
    simp only [List.foldl_cons, List.foldl_nil, PySem.W.dataLt_str]
    by_cases c : y.cps.toList < x.cps.toList <;> simp [c]
  rw [e] at hR
  cases hR with
  | str z t => exact ⟨.str _, H, I.kept (t' := tk) hk, ⟨_, rfl⟩, q⟩
theorem cr_maxT {X : Cx} (hc : X.calm = true) (hu : X.A.units + 64 < cLine) : CallR X (.builtin "max") (rTwo X.K moreOf) := by
  intro pins s σ H vs us Q I r h
  obtain ⟨a, x, y, rfl, hs, q⟩ := h
  obtain ⟨its, rv, hl, hn⟩ := I.tuple hs
  obtain ⟨u, rfl, ru⟩ := vals1 r
  obtain rfl : u = Value.ref a := ru
  obtain ⟨as, hr⟩ := Dp.readsAll I _ _ its (dp2 x y) rv
  refine PySem.W.max_tuple_data (I.ok.hd hc) (show s.heap.IsTuple a its.toArray from hl) (by simpa using hr) (alike2 x y) (by
    have : PyData.depthAll [PyData.str x, .str y] = 0 := rfl
    omega) fun i v h' tk bs hv hR hk => ?_
  have e : PySem.W.maxD (.str x) [.str y] = .str (moreOf x y) := by
    unfold PySem.W.maxD moreOf
    simp only [List.foldl_cons, List.foldl_nil, PySem.W.dataLt_str]
    by_cases c : x.cps.toList < y.cps.toList <;> simp [c]
  rw [e] at hR
  cases hR with
  | str z t => exact ⟨.str _, H, I.kept (t' := tk) hk, ⟨_, rfl⟩, q⟩

/-! x in a tuple of data -/
def rInDT (K : PySem.W.Frag) : R2 := fun x y H Q => ∃ d ds, Dp K H x d ∧ Dp K H y (.tuple ds) ∧ SeqAt.shaped d = true ∧
  SeqAt.shaped (.tuple ds) = true ∧ Q (.bl (ds.any fun z => PyData.eqv z d)) H
theorem op_inDT {X : Cx} (hu : X.A.units + 65 < cLine) : OpR X (compareOp .In) (rInDT X.K) := by
  intro pins s σ H x y v u Q I rx ry h
  obtain ⟨d, ds, hd, he, sd, se, q⟩ := h
  obtain ⟨as, r1⟩ := Dp.reads I d x v hd rx
  obtain ⟨bs, r2⟩ := Dp.reads I (.tuple ds) y u he ry
  exact SeqAt.in_tuple_reads r2 r1 (SeqAt.canLay_of_shaped se) (SeqAt.canLay_of_shaped sd) (room_in_shaped sd hu) ⟨.bl _, H, I, rfl, q⟩

/-! o.m(k = e): one argument by its name -/
def g2 {α : Type} : List α → List α → List α
  | [a], [b] => [a, b]
  | _, _ => []
theorem g2_rel : ∀ {vs : List V} {us : List Value} {zs : List V} {ws : List Value}, Vals vs us → Vals zs ws → Vals (g2 vs zs) (g2 us ws)
  | _, _, _, _, .nil, _ => .nil
  | _, _, _, _, .cons a (.cons b c), _ => .nil
  | _, _, _, _, .cons a .nil, .nil => .nil
  | _, _, _, _, .cons a .nil, .cons b .nil => .cons a (.cons b .nil)
  | _, _, _, _, .cons a .nil, .cons b (.cons c d) => .nil
def tMethK (C : Addr) (m : Str) (sp : Sp) (E : XK) (ta : TE) (tk : TA) : TE := fun σ H Q => ta σ H fun x H1 =>
  ∃ a dx fs, x = .ref a ∧ H1 a = some (.ins C dx fs) ∧ fs.lookup m = none ∧ tk σ H1 fun zs H2 => sp (g2 [.ref a] zs) H2 Q E
theorem pe_methK {X : Cx} {CX : CXT} {k : Nat} {f C : Addr} {fd : FuncData} {ps ks : List Str} {sp : Sp} {E : XK} {m : Str} {pos apos : Pos} {o : Expr} {kws : List Keyword} {ta : TE} {tk : TA} {pl : Sem Bool}
    (he : PE X o ta) (c : Cls X.K C) (hm : Meth X.K C m f) (F : FnOk X.prog X.w X.K X.mg X.base CX k f fd ps sp) (hr : Room k X.A) (hb : KBinds X.K fd ps ks g2 g2) (hx : Passes CX X E) (hkw : PK X kws tk)
    (hall : (backToKw pos (keywordEach kws X.env)).all (·.1.isSome) = true := by rfl) (hks : (backToKw pos (keywordEach kws X.env)).filterMap (·.1) = ks := by rfl)
    (hpl : ((backTo pos (starEach [] X.env)).any (·.1) || (backToKw pos (keywordEach kws X.env)).any (·.1.isNone)) = false := by rfl)
    (ht : eval (.Call (.Attribute o m apos) [] kws pos) X.env = (do
      let ov ← eval o X.env
      standAt apos.atName
      let (f, first) ← holding [ov] (getMethod ov m pl)
      callWith pos f first (backTo pos (starEach [] X.env)) (backToKw pos (keywordEach kws X.env))) := by rfl) :
    PE X (.Call (.Attribute o m apos) [] kws pos) (tMethK C m sp E ta tk) := by
  refine ⟨fun pins s σ H Q I h => ?_⟩
  refine PySem.W.methodCall_KW (pl := pl) (thn (he.run pins s σ H _ I h) fun u s1 ⟨x, H1, I1, rx, a, dx, fs, ex, ea, l, q⟩ => ?_) ht
  subst ex
  obtain rfl : u = Value.ref a := rx
  refine getmeth_ok I1 ea c hm l ?_
  refine PySem.W.callWith_KW0 (first := [.ref a]) (h₀ := X.base) I.ok.mod.kin hm.kp hall (thn (hkw.run pos pins s1 σ H1 _ I1 q) fun ws s2 ⟨zs, H2, I2, rz, q2⟩ => ⟨I2.kIn, ?_⟩) hpl
  rw [hks]
  exact run_fnk (us := [.ref a]) (vs := [.ref a]) F hr hb hx I2 (.cons rfl .nil) rz q2

/-! enumerate(a tuple) -/
open AutoSeq1 (wpAny_loadPart') in
theorem new_enumT (l : Addr) (items : Array Value) (n : Nat) (dct : Option Addr) (sl : Array (Option Value)) :
    Meets (Builtin.«enumerate.__new__» ⟨[.type "enumerate", .ref l], []⟩) (fun _ R s =>
      s.heap.get? l = some { cls := .type "tuple", dict := dct, data := .seq items n, slots := sl } ∧
      R (.ok (.ret (.ref (s.heap.push { cls := .type "tuple_iterator", data := .fields #[.ref l, .int 0 0] }).objs.size)))
        { s with heap := (s.heap.push { cls := .type "tuple_iterator", data := .fields #[.ref l, .int 0 0] }).push { cls := .type "enumerate", data := .fields #[.none, .bool false, .ref s.heap.objs.size, rawInt 0, .none, .none] } }) :=
  .of_wp fun prog w A R s h => by
    obtain ⟨hp, g, d, tk, os⟩ := s
    obtain ⟨hl, h⟩ := h
    have hsub := sub_enumerate
    have hT : Heap.IsTuple (Shared.heap ⟨hp, g, d, tk, os⟩) l items := ⟨_, hl, rfl, n, rfl⟩
    wp_walk using wpAny_loadPart' hl
    refine wpAny_stack_any fun st => wpAny_pure ?_
    split
    · rename_i c _ _ _ _ _
      cases (c == Value.type "enumerate") <;> (wp_walk using wpAny_loadPart' hl, wpAny_pyIter_tuple hT; exact ⟨_, rfl, h⟩)
    · (wp_walk using wpAny_loadPart' hl, wpAny_pyIter_tuple hT); exact ⟨_, rfl, h⟩
section
variable {prog : Program} {w : World} {A : Around} {E : Value → Shared → Prop} {s : Shared}
theorem make_enumT {l : Addr} {items : Array Value} {Q : Value → Shared → Prop} (hL : s.heap.IsTuple l items)
    (h : ∀ h', IsEnum h' (s.heap.objs.size + 1) s.heap.objs.size 0 .none → h'.IsTupleIter s.heap.objs.size l 0 →
      (∀ b o, s.heap.get? b = some o → h'.get? b = some o) → Q (.ref (s.heap.objs.size + 1)) { s with heap := h' }) :
    wpAny (model prog w) A (call (.type "enumerate") [.ref l]) Q E s := by
  obtain ⟨⟨c, dct, dt, sl⟩, hl, hc, n, hd⟩ := hL
  obtain rfl : c = .type "tuple" := hc
  obtain rfl : dt = .seq items n := hd
  refine callType_new F.called_enumerate (by decide) (F.typeCall_enumerate_1 _) (F.newCall_enumerate_1 _) (fun obj => F.args_object_init_2 obj _) F.entry_enumerate_new (new_enumT l items n dct sl) ⟨hl, ?_⟩
  have hz : (s.heap.push { cls := .type "tuple_iterator", data := .fields #[.ref l, .int 0 0] }).objs.size = s.heap.objs.size + 1 := Heap.size_push ..
  rw [hz]
  have he : IsEnum ((s.heap.push { cls := .type "tuple_iterator", data := .fields #[.ref l, .int 0 0] }).push { cls := .type "enumerate", data := .fields #[.none, .bool false, .ref s.heap.objs.size, rawInt 0, .none, .none] })
      (s.heap.objs.size + 1) s.heap.objs.size 0 .none := hz ▸ Heap.get?_push_size (s.heap.push { cls := .type "tuple_iterator", data := .fields #[.ref l, .int 0 0] }) rfl
  exact ⟨⟨_, he, rfl⟩, h _ he ⟨_, Heap.get?_push_of_some _ (Heap.get?_push_size _ rfl), rfl, rfl⟩ fun b o x => Heap.get?_push_of_some _ (Heap.get?_push_of_some _ x)⟩
end
def IteT (K : PySem.W.Frag) (a : Addr) : It where
  go := fun i H => ∃ (xs : List V) (x : V), SqT K H a xs ∧ xs[i]? = some x
  yld := fun i H v H' => ∃ T x, v = .ref T ∧ H T = none ∧ H' = upd H T (.tup [.int (i : Nat), x]) ∧ ∀ xs, SqT K H a xs → xs[i]? = some x
  stop := fun i H => ∃ xs : List V, SqT K H a xs ∧ xs.length ≤ i
theorem apart_of {h : Heap} {a b : Addr} {o u : Obj} (ha : h.get? a = some o) (hb : h.get? b = some u) (hc : o.cls ≠ u.cls) : a ≠ b := fun e => by
  subst e
  rw [ha] at hb
  exact hc (congrArg Obj.cls (Option.some.inj hb))
theorem turn_enumT {P : Program} {w : World} {K : PySem.W.Frag} {elts : List Expr} {kk : Nat} {tpos : Pos} (a e it : Addr) :
    Turn P w K (.Tuple elts kk tpos) (IteT K a) [e, it] e (fun i h => (∃ old, IsEnum h e it ((i : Nat) : Int) old) ∧ h.IsTupleIter it a i ∧ e ≠ it) where
  mem := by simp
  obj := fun i h st b hb => by
    obtain ⟨⟨old, he⟩, ⟨o, ho, hc, hd⟩, _⟩ := st
    rcases (show b = e ∨ b = it by simpa using hb) with z | z
    · subst z; exact ⟨_, he, fun v q => nomatch q⟩
    · subst z; exact ⟨o, ho, fun v q => by rw [hd] at q; cases q⟩
  keep := fun i h h' st k => let ⟨⟨old, he⟩, hi, hne⟩ := st; ⟨⟨old, k e (by simp) _ he⟩, hi.at fun o q => k it (by simp) o q, hne⟩
  item := by
    intro X hP hw hK hc i pins s σ H E I hf st hg
    subst hP hw hK
    obtain ⟨⟨old, he⟩, hit, hne⟩ := st
    obtain ⟨xs, x, hq, hx⟩ := hg
    obtain ⟨its, rv, p, hz⟩ := I.tuple hq
    obtain ⟨u, hu, ru⟩ := rv.get hx
    have hT : s.heap.IsTuple a its.toArray := p
    obtain ⟨oi, hoi, hci, _⟩ := id hit
    obtain ⟨oa, hoa, hca, _⟩ := id hT
    have hel : e < s.heap.objs.size := Heap.lt_size he
    have hil : it < s.heap.objs.size := Heap.lt_size hoi
    have nai : a ≠ it := apart_of hoa hoi (by rw [hca, hci]; decide)
    have nea : e ≠ a := apart_of he hoa (by rw [hca]; show Value.type "enumerate" ≠ Value.type "tuple"; decide)
    have hi : i < its.toArray.size := by
      have := (List.getElem?_eq_some_iff.mp hu).1
      simpa using this
    refine wpAny_pyNext_enum_itemD (Draws.tuple (prog := X.prog) (w := X.w) (A := X.A.in1) (I.ok.hd hc) it a nai its.toArray) he ⟨hit, hT⟩ hi hne (by simp [hne, nea]) fun y h' tk hy ho hst hTp hsz hk => ?_
    obtain rfl : u = y := by
      have q : its.toArray[i]? = some u := by simpa using hu
      exact Option.some.inj (q.symm.trans hy)
    refine ⟨_, rfl, wpAny_letOwnedTupleGo_enum (s := { s with heap := h', toks := tk + 1 }) ho fun h'' he' sb => ?_⟩
    have hT2 : h''.get? s.heap.objs.size = some { cls := .type "tuple", data := .seq #[.int i tk, u] } := (sb.2 _ (Nat.ne_of_gt hel)).trans hTp
    have new : ObjOk X.prog X.w (upd H s.heap.objs.size (.tup [.int (i : Nat), x])) h'' s.heap.objs.size (.tup [.int (i : Nat), x]) :=
      ⟨by show 2 ≤ sizeLine; decide, [.int i tk, u], .cons ⟨_, rfl⟩ (.cons ru .nil), ⟨_, hT2, rfl, _, rfl⟩⟩
    have I1 : L2.Inv X pins σ (upd H s.heap.objs.size (.tup [.int (i : Nat), x])) { s with heap := h'', toks := tk + 1 } :=
      I.turnedNew (ch := [e, it]) (fun b ob hb q => by
        simp only [List.mem_cons, List.not_mem_nil, or_false, not_or] at hb
        exact (sb.2 b hb.1).trans (hk b ob hb.1 hb.2 q)) hf (Nat.le_refl _) new
    have e1 : ((i + 1 : Nat) : Int) = (i : Int) + 1 := by omega
    refine ⟨.ref s.heap.objs.size, _, I1, rfl, ⟨_, x, rfl, I.hok.fresh (Nat.le_refl _), rfl, fun ys hy => by rw [I.tuple_inj hy hq]; exact hx⟩,
      ⟨⟨u, by rw [e1]; exact he'⟩, hst.1.at fun o q => (sb.2 it (Ne.symm hne)).trans q, hne⟩, fun b hb => ?_⟩
    have hb' : b < s.heap.objs.size := by
      rcases (show b = e ∨ b = it by simpa using hb) with z | z <;> subst z <;> assumption
    rw [upd_ne (Nat.ne_of_lt hb')]
    exact (hf b hb).1
  done := by
    intro X hP hw hK hc i pins s σ H E I hf st hg
    subst hP hw hK
    obtain ⟨⟨old, he⟩, hit, hne⟩ := st
    obtain ⟨xs, hq, hx⟩ := hg
    obtain ⟨its, rv, p, hz⟩ := I.tuple hq
    obtain ⟨f0, f1, f2, f3, f4, f5⟩ := hf it (by simp)
    have hT : s.heap.IsTuple a its.toArray := p
    have hl : xs.length = its.length := rv.length
    have hT2 : ¬ (i < its.toArray.size) := by simp; omega
    show wpAny _ _ (pyNext (.ref e)) _ _ s
    have hTy : s.TypeIs (.ref e) "enumerate" := ⟨_, he, rfl⟩
    unfold pyNext
    refine wpAny_bind (wpAny_attempt (wpAny_callSpecial?_slot (name := Str.ofString "__next__") hTy F.slot_enumerate_next (wpAny_call_entry F.slot_enumerate_next hTy F.entry_enumerate_next ?_ (F.args_enumerate_next_1 _))))
    show wpAny _ _ (field (.ref e) 2 >>= _) _ _ _
    refine wpAny_bind (wpAny_field he rfl (x := .ref it) rfl (wpAny_bind (wpAny_nextOf_tuple_end (I.ok.hd hc) hit hT (Array.getElem?_eq_none (by omega)) fun h' x he' hx' => ?_)))
    obtain ⟨o, ho, hcc⟩ := hx'
    exact wpAny_bind (wpAny_isInstance (T := "StopIteration") (b := true) ⟨o, ho, hcc⟩ isSubtype_stop (wpAny_pure ⟨rfl, I.turned (t' := s.toks) (fun b o hb q => he' b o hb q) f0 f1 f3 f4 f5⟩))
  self := fun A i s Q E st h => let ⟨⟨_, he⟩, _⟩ := st; wpAny_pyIter_enum he h
def iEnumT (K : PySem.W.Frag) (ta : TA) : TI := fun σ H R => ta σ H fun vs H1 => ∃ a xs, vs = [.ref a] ∧ SqT K H1 a xs ∧ R (IteT K a) H1
theorem pi_enumT {X : Cx} {e : Expr} {ta : TA} {p pos tpos : Pos} {elts : List Expr} {kk : Nat} (hg : Gl X "enumerate") (hm : X.mg "enumerate" = none) (ha : PA X [e] ta) (hs : starEach [e] X.env = [(false, eval e X.env)] := by rfl) :
    PI X (.Tuple elts kk tpos) (.Call (.Name "enumerate" p) [e] [] pos) (iEnumT X.K ta) := by
  refine ⟨fun pins s σ H R I h => ?_⟩
  refine Call_ (ld_blt I hg hm boot_enumerate (PyProof.Rows.callWith_type1 (thn (ha.run pos pins s σ H _ I h) fun us s1 ⟨vs, H1, I1, r1, q1⟩ => ?_) hs rfl))
  obtain ⟨a, xs, rfl, hq, q⟩ := q1
  obtain ⟨u, rfl, ru⟩ := vals1 r1
  obtain rfl : u = Value.ref a := ru
  obtain ⟨its, rv, p', hz⟩ := I1.tuple hq
  refine make_enumT (show s1.heap.IsTuple a its.toArray from p') fun h' he hit hk => wpAny_pyIter_enum he ?_
  refine ⟨s1.heap.objs.size + 1, [s1.heap.objs.size + 1, s1.heap.objs.size], _, _, H1, rfl, I1.kept (t' := s1.toks) hk, turn_enumT a (s1.heap.objs.size + 1) s1.heap.objs.size, ⟨⟨.none, he⟩, hit, Nat.succ_ne_self _⟩, fun b hb => ?_, q⟩
  have hle : s1.heap.objs.size ≤ b := by
    rcases (show b = s1.heap.objs.size + 1 ∨ b = s1.heap.objs.size by simpa using hb) with z | z <;> rw [z]
    · exact Nat.le_add_right _ _
    · exact Nat.le_refl _
  exact I1.fpOk hle (I1.hok.fresh hle)
theorem walk_enumT {K : PySem.W.Frag} {a : Addr} {xs : List V} : Walk (IteT K a) xs.length (fun H => SqT K H a xs) (YPair (fun i => some (.int (i : Nat))) (fun i => xs[i]?)) := by
  refine ⟨fun i _ hi q => ⟨xs, xs[i], q, by simp [hi]⟩, fun _ q => ⟨xs, q, Nat.le_refl _⟩, ?_⟩
  rintro i H v H' _ q ⟨T, x, h1, h2, h3, h4⟩
  exact ⟨T, .int (i : Nat), x, h1, h2, h3, rfl, h4 xs q⟩
end Wl

namespace Wl
open PySem

/-! ### strictly rising lists -/
theorem rising_ext {α : Type} {lt : α → α → Prop} (ir : ∀ a, ¬ lt a a) (tr : ∀ a b c, lt a b → lt b c → lt a c) :
    ∀ {l m : List α}, l.Pairwise lt → m.Pairwise lt → (∀ x, x ∈ l ↔ x ∈ m) → l = m
  | [], [], _, _, _ => rfl
  | [], y :: m, _, _, h => absurd ((h y).mpr List.mem_cons_self) (by simp)
  | x :: l, [], _, _, h => absurd ((h x).mp List.mem_cons_self) (by simp)
  | x :: l, y :: m, hl, hm, h => by
    obtain ⟨hx, hl'⟩ := List.pairwise_cons.mp hl
    obtain ⟨hy, hm'⟩ := List.pairwise_cons.mp hm
    have e : x = y := by
      rcases List.mem_cons.mp ((h x).mp List.mem_cons_self) with e | h1
      · exact e
      · rcases List.mem_cons.mp ((h y).mpr List.mem_cons_self) with e | h2
        · exact e.symm
        · exact absurd (tr _ _ _ (hx y h2) (hy x h1)) (ir x)
    subst e
    have : l = m := rising_ext ir tr hl' hm' fun z => by
      constructor
      · intro hz
        rcases List.mem_cons.mp ((h z).mp (List.mem_cons_of_mem _ hz)) with e | q
        · exact absurd (hx z hz) (by rw [e]; exact ir x)
        · exact q
      · intro hz
        rcases List.mem_cons.mp ((h z).mpr (List.mem_cons_of_mem _ hz)) with e | q
        · exact absurd (hy z hz) (by rw [e]; exact ir x)
        · exact q
    rw [this]

/-! ### texts by their codes -/
theorem str_ext {a b : Str} (h : a.cps.toList = b.cps.toList) : a = b := by
  cases a; cases b
  exact congrArg Str.mk (Array.ext' h)
abbrev ltS (a b : Str) : Prop := a.cps.toList < b.cps.toList
theorem ltS_irr (a : Str) : ¬ ltS a a := List.lt_irrefl _
theorem ltS_tr (a b c : Str) (h : ltS a b) (k : ltS b c) : ltS a c := List.lt_trans h k
theorem ltS_tot {a b : Str} (h : ¬ ltS a b) (k : ¬ ltS b a) : a = b :=
  str_ext (List.le_antisymm (List.not_lt.mp k) (List.not_lt.mp h))
def leB (a b : Str) : Bool := !decide (ltS b a)
theorem leB_trans (a b c : Str) (h : leB a b = true) (k : leB b c = true) : leB a c = true := by
  simp only [leB, Bool.not_eq_true', decide_eq_false_iff_not] at h k ⊢
  exact fun q => by
    by_cases e : ltS a b
    · exact k (ltS_tr _ _ _ q e)
    · have := ltS_tot e h
      subst this
      exact k q
theorem leB_total (a b : Str) : (leB a b || leB b a) = true := by
  simp only [leB, Bool.or_eq_true, Bool.not_eq_true', decide_eq_false_iff_not]
  by_cases h : ltS b a
  · exact .inr fun q => ltS_irr _ (ltS_tr _ _ _ h q)
  · exact .inl h
def sortS (xs : List Str) : List Str := xs.mergeSort leB
theorem mem_sortS {xs : List Str} {z : Str} : z ∈ sortS xs ↔ z ∈ xs := List.mem_mergeSort
theorem sortS_len (xs : List Str) : (sortS xs).length = xs.length := List.length_mergeSort _
theorem sortS_rising {xs : List Str} (h : xs.Nodup) : (sortS xs).Pairwise ltS := by
  have h1 : (sortS xs).Pairwise (fun a b => leB a b = true) := List.pairwise_mergeSort leB_trans leB_total xs
  have h2 : (sortS xs).Pairwise (· ≠ ·) := (List.mergeSort_perm xs leB).nodup_iff.mpr h
  refine List.Pairwise.imp₂ ?_ h1 h2
  intro a b q n
  simp only [leB, Bool.not_eq_true', decide_eq_false_iff_not] at q
  exact Classical.byContradiction fun c => n (ltS_tot c q)
/-- what is strictly rising with the same members is the sorted list -/
theorem sortS_eq {xs l : List Str} (h : xs.Nodup) (hl : l.Pairwise ltS) (hm : ∀ z, z ∈ l ↔ z ∈ xs) : l = sortS xs :=
  rising_ext ltS_irr ltS_tr hl (sortS_rising h) fun z => (hm z).trans mem_sortS.symm

/-! ### pairs of texts -/
abbrev Two := Str × Str
def ltP (p q : Two) : Prop := ltS p.1 q.1 ∨ (p.1 = q.1 ∧ ltS p.2 q.2)
instance (p q : Two) : Decidable (ltP p q) := by unfold ltP; infer_instance
theorem ltP_irr (p : Two) : ¬ ltP p p := by
  rintro (h | ⟨_, h⟩) <;> exact ltS_irr _ h
theorem ltP_tr (p q r : Two) (h : ltP p q) (k : ltP q r) : ltP p r := by
  obtain ⟨p1, p2⟩ := p
  obtain ⟨q1, q2⟩ := q
  obtain ⟨r1, r2⟩ := r
  rcases h with h | ⟨e, h⟩ <;> rcases k with k | ⟨f, k⟩
  · exact .inl (ltS_tr _ _ _ h k)
  · simp only at f; subst f; exact .inl h
  · simp only at e; subst e; exact .inl k
  · simp only at e f; subst e f; exact .inr ⟨rfl, ltS_tr _ _ _ h k⟩
theorem ltP_tot {p q : Two} (h : ¬ ltP p q) (k : ¬ ltP q p) : p = q := by
  obtain ⟨p1, p2⟩ := p
  obtain ⟨q1, q2⟩ := q
  simp only [ltP, not_or, not_and] at h k
  have e : p1 = q1 := ltS_tot h.1 k.1
  subst e
  rw [ltS_tot (h.2 rfl) (k.2 rfl)]
def lePB (a b : Two) : Bool := !decide (ltP b a)
theorem lePB_trans (a b c : Two) (h : lePB a b = true) (k : lePB b c = true) : lePB a c = true := by
  simp only [lePB, Bool.not_eq_true', decide_eq_false_iff_not] at h k ⊢
  exact fun q => by
    by_cases e : ltP a b
    · exact k (ltP_tr _ _ _ q e)
    · have := ltP_tot e h
      subst this
      exact k q
theorem lePB_total (a b : Two) : (lePB a b || lePB b a) = true := by
  simp only [lePB, Bool.or_eq_true, Bool.not_eq_true', decide_eq_false_iff_not]
  by_cases h : ltP b a
  · exact .inr fun q => ltP_irr _ (ltP_tr _ _ _ h q)
  · exact .inl h
def sortP (xs : List Two) : List Two := xs.mergeSort lePB
theorem mem_sortP {xs : List Two} {z : Two} : z ∈ sortP xs ↔ z ∈ xs := List.mem_mergeSort
theorem sortP_len (xs : List Two) : (sortP xs).length = xs.length := List.length_mergeSort _
theorem sortP_rising {xs : List Two} (h : xs.Nodup) : (sortP xs).Pairwise ltP := by
  have h1 : (sortP xs).Pairwise (fun a b => lePB a b = true) := List.pairwise_mergeSort lePB_trans lePB_total xs
  have h2 : (sortP xs).Pairwise (· ≠ ·) := (List.mergeSort_perm xs lePB).nodup_iff.mpr h
  refine List.Pairwise.imp₂ ?_ h1 h2
  intro a b q n
  simp only [lePB, Bool.not_eq_true', decide_eq_false_iff_not] at q
  exact Classical.byContradiction fun c => n (ltP_tot c q)
theorem sortP_eq {xs l : List Two} (h : xs.Nodup) (hl : l.Pairwise ltP) (hm : ∀ z, z ∈ l ↔ z ∈ xs) : l = sortP xs :=
  rising_ext ltP_irr ltP_tr hl (sortP_rising h) fun z => (hm z).trans mem_sortP.symm

/-! ### the machine's order is ours -/
theorem le_data_str (a b : Str) : (!PySem.W.dataLt (.str b) (.str a)) = leB a b := by
  rw [PySem.W.dataLt_str]
  rfl
theorem le_data_two (a b : Two) : (!PySem.W.dataLt (.tuple [.str b.1, .str b.2]) (.tuple [.str a.1, .str a.2])) = lePB a b := by
  rw [PySem.W.dataLt_pair rfl rfl, PySem.W.dataLt_str, PySem.W.dataLt_str]
  unfold lePB
  congr 1
  have q : ∀ x y : Str, (PyData.eqv (.str x) (.str y) = true) = (x = y) := fun x y => by simp [PyData.eqv]
  simp only [q]
  by_cases h : b.1 = a.1
  · by_cases k : b.2 = a.2
    · have e : b = a := Prod.ext h k
      subst e
      simp [ltP_irr]
    · simp only [h, k, if_true, if_false, ltP]
      by_cases z : ltS b.2 a.2
      · simp [z]
      · simp [z, ltS_irr]
  · simp only [h, if_false, ltP]
    by_cases z : ltS b.1 a.1 <;> simp [z, h]
end Wl

namespace Wl
open PySem PySem.Spec PyProof.Rows L2

/-! ### defs that keep promises, by name -/
def Has (P : Program) (w : World) (K : PySem.W.Frag) (mg : Str → Option Value) (base : Heap) (x : Str) (k : Nat) (ps : List Str) (sp : Sp) : Prop :=
  ∃ f fd, FnOk P w K mg base CX0 k f fd ps sp ∧ mg x = some (.ref f) ∧ PySem.W.keepIn K (.ref f) = true ∧ Binds K fd ps []
def HasM (P : Program) (w : World) (K : PySem.W.Frag) (mg : Str → Option Value) (base : Heap) (C : Addr) (m : Str) (k : Nat) (ps : List Str) (sp : Sp) : Prop :=
  ∃ f fd, FnOk P w K mg base CX0 k f fd ps sp ∧ Meth K C m f ∧ Binds K fd ps []
section
variable {X : Cx} {k j : Nat} {C : Addr} {ps ks : List Str} {sp : Sp} {x m : Str} {p pos apos : Pos} {e o : Expr} {es : List Expr} {kws : List Keyword} {ta : TE} {t tk : TA}
theorem pe_h (h : Has X.prog X.w X.K X.mg X.base x k ps sp) (hr : Room j X.A) (ha : PA X (e :: es) t) (hkj : k ≤ j := by decide) (hg : Gl X x := by rfl) (hdb : (x == ("__debug__" : Str)) = false := by decide)
    (he : starEach (e :: es) X.env = (false, eval e X.env) :: starEach es X.env := by rfl) (hpl : (backTo pos (starEach es X.env)).any (·.1) = false := by rfl) :
    PE X (.Call (.Name x p) (e :: es) [] pos) (tCall sp [] E0 t) := by
  obtain ⟨f, fd, F, g, kp, b⟩ := h
  exact pe_call F (hr.mono hkj) hg g kp b .nil pass0 ha hdb he hpl
theorem pe_h0 (h : Has X.prog X.w X.K X.mg X.base x k ps sp) (hr : Room j X.A) (hkj : k ≤ j := by decide) (hg : Gl X x := by rfl) (hdb : (x == ("__debug__" : Str)) = false := by decide) :
    PE X (.Call (.Name x p) [] [] pos) (tCall sp [] E0 tNil) := by
  obtain ⟨f, fd, F, g, kp, b⟩ := h
  exact pe_call0 F (hr.mono hkj) hg g kp b .nil pass0 hdb
theorem pe_hm {pl : Sem Bool} (h : HasM X.prog X.w X.K X.mg X.base C m k ps sp) (c : Cls X.K C) (hr : Room j X.A) (ho : PE X o ta) (ha : PA X (e :: es) t) (hkj : k ≤ j := by decide)
    (hst : starEach (e :: es) X.env = (false, eval e X.env) :: starEach es X.env := by rfl) (hpl : (backTo pos (starEach es X.env)).any (·.1) = false := by rfl)
    (ht : eval (.Call (.Attribute o m apos) (e :: es) [] pos) X.env = (do
      let ov ← eval o X.env
      standAt apos.atName
      let (f, first) ← holding [ov] (getMethod ov m pl)
      callWith pos f first (backTo pos (starEach (e :: es) X.env)) (backToKw pos (keywordEach [] X.env))) := by rfl) :
    PE X (.Call (.Attribute o m apos) (e :: es) [] pos) (tMeth C m sp [] E0 ta t) := by
  obtain ⟨f, fd, F, g, b⟩ := h
  exact pe_meth ho c g F (hr.mono hkj) b .nil pass0 ha hst hpl ht
theorem pe_hm0 {pl : Sem Bool} (h : HasM X.prog X.w X.K X.mg X.base C m k ps sp) (c : Cls X.K C) (hr : Room j X.A) (ho : PE X o ta) (hkj : k ≤ j := by decide)
    (ht : eval (.Call (.Attribute o m apos) [] [] pos) X.env = (do
      let ov ← eval o X.env
      standAt apos.atName
      let (f, first) ← holding [ov] (getMethod ov m pl)
      callWith pos f first (backTo pos (starEach [] X.env)) (backToKw pos (keywordEach [] X.env))) := by rfl) :
    PE X (.Call (.Attribute o m apos) [] [] pos) (tMeth C m sp [] E0 ta tNil) := by
  obtain ⟨f, fd, F, g, b⟩ := h
  exact pe_meth0 ho c g F (hr.mono hkj) b .nil pass0 ht
end

/-! ### heaps -/
theorem same_new {H : Hp} {p : Addr} {o : HO} (h : H p = none) : Same H (upd H p o) := fun b x e => by
  rw [upd_ne (ne_of_none e h)]
  exact e
theorem same_mut {H H' : Hp} {p : Addr} {o : HO} (s : Same H H') (h : H p = none) : Same H (upd H' p o) := fun b x e => by
  rw [upd_ne (ne_of_none e h)]
  exact s b x e
theorem tup_same {K : PySem.W.Frag} {H H' : Hp} {a : Addr} {xs : List V} (e : Same H H') (h : SqT K H a xs) : SqT K H' a xs := by
  rcases h with (h | ⟨o, h⟩) | h
  · exact .inl (.inl (e _ _ h))
  · exact .inl (.inr ⟨o, e _ _ h⟩)
  · exact .inr h
/-- all but what stands at a is as it was -/
def SameX (a : Addr) (H H' : Hp) : Prop := ∀ b o, b ≠ a → H b = some o → H' b = some o
theorem SameX.refl (a : Addr) (H : Hp) : SameX a H H := fun _ _ _ h => h
theorem SameX.trans {a : Addr} {H H1 H2 : Hp} (s : SameX a H H1) (t : SameX a H1 H2) : SameX a H H2 := fun b o n h => t b o n (s b o n h)
theorem sx {a : Addr} {H H' : Hp} (s : Same H H') : SameX a H H' := fun b o _ h => s b o h
theorem sameX_upd {a : Addr} {H : Hp} {o : HO} : SameX a H (upd H a o) := fun b u n h => by rw [upd_ne n]; exact h
/-- an object that H does not know may change -/
theorem sameX_mut {a : Addr} {H H' : Hp} {p : Addr} {o : HO} (s : SameX a H H') (h : H p = none) : SameX a H (upd H' p o) := fun b u n e => by
  rw [upd_ne (ne_of_none e h)]
  exact s b u n e
theorem SameX.free {a l : Addr} {H H' : Hp} (e : SameX a H H') (n : l ≠ a) (h : H' l = none) : H l = none := by
  cases q : H l with
  | none => rfl
  | some o =>
    rw [e l o n q] at h
    cases h
theorem SameX.tup {K : PySem.W.Frag} {a p : Addr} {H H' : Hp} {xs ys : List V} (e : SameX a H H') (ha : H a = some (.lst ys)) (h : SqT K H p xs) : SqT K H' p xs := by
  rcases h with (h | ⟨o, h⟩) | h
  · exact .inl (.inl (e _ _ (ne_of h ha (by intro z; cases z)) h))
  · exact .inl (.inr ⟨o, e _ _ (ne_of h ha (by intro z; cases z)) h⟩)
  · exact .inr h

/-! ### tests whose answer is known -/
theorem ite_b {b : Bool} {A B : Prop} (h1 : b = true → A) (h2 : b = false → B) : if b = true then A else B := by
  cases b with
  | true => exact iteT (h1 rfl)
  | false => exact iteF (h2 rfl)
theorem not_b {b : Bool} {A B : Prop} (h1 : b = false → A) (h2 : b = true → B) : if (!b) = true then A else B := by
  cases b with
  | true => exact iteF (h2 rfl)
  | false => exact iteT (h1 rfl)

theorem yes_it {σ : L2.St} {H : Hp} {A B : Hp → Prop} (h : A H) : tYes σ H (fun b H' => if b = true then A H' else B H') := by
  show if true = true then A H else B H
  rw [if_pos rfl]
  exact h
theorem lz {n : Nat} (h : Nat.ble n 1000 = true := by rfl) : n ≤ sizeLine := Nat.le_trans (Nat.le_of_ble_eq_true h) (by decide)
theorem lzl {n : Nat} (h : n ≤ 1000) : n ≤ sizeLine := Nat.le_trans h (by decide)

/-! ### words -/
def wdB (z : Str) : Bool := decide (1 ≤ z.length) && decide (z.length ≤ 8) && z.cps.toList.all fun c => decide (97 ≤ c) && decide (c ≤ 122)
def IsWd (z : Str) : Prop := wdB z = true
instance (z : Str) : Decidable (IsWd z) := inferInstanceAs (Decidable (wdB z = true))
def oV : Option Str → V
  | none => .non
  | some z => .str z

/-! ### the built-ins that the text leaves as they are -/
structure Bi (mg : Str → Option Value) : Prop where
  len : mg "len" = none
  range : mg "range" = none
  isi : mg "isinstance" = none
  tuple : mg "tuple" = none
  list : mg "list" = none
  sorted : mg "sorted" = none
  all : mg "all" = none
  int : mg "int" = none
  max : mg "max" = none
  min : mg "min" = none
  enum : mg "enumerate" = none
  str : mg "str" = none
end Wl
namespace Wl
open PySem PySem.Spec PyProof.Rows L2
theorem atI_tab {ns : List Int} {r : Int} (h0 : 0 ≤ r) (h : r < ns.length) : ∃ n ∈ ns, atI (ns.map V.int) r = some (.int n) := by
  have hr : r.toNat < ns.length := by omega
  refine ⟨ns[r.toNat], List.getElem_mem hr, at_of (j := r.toNat) (by omega) ?_⟩
  rw [List.getElem?_map, List.getElem?_eq_getElem hr]
  rfl
theorem atI_strs {zs : List Str} {r : Int} (h0 : 0 ≤ r) (h : r < zs.length) : ∃ z ∈ zs, atI (zs.map V.str) r = some (.str z) := by
  have hr : r.toNat < zs.length := by omega
  refine ⟨zs[r.toNat], List.getElem_mem hr, at_of (j := r.toNat) (by omega) ?_⟩
  rw [List.getElem?_map, List.getElem?_eq_getElem hr]
  rfl
theorem letters_eq : ("abcdefghijklmnopqrstuvwxyz" : Str).cps.toList = List.range' 97 26 := by decide +kernel
theorem letter_at {r : Int} (h0 : 0 ≤ r) (h : r < 26) : atI ("abcdefghijklmnopqrstuvwxyz" : Str).cps.toList r = some (97 + r.toNat) := by
  rw [letters_eq]
  refine at_of' (j := r.toNat) (by omega) ?_
  rw [List.getElem?_range' (by omega)]
  congr 1
  omega
where
  at_of' {xs : List Nat} {z : Int} {j : Nat} {v : Nat} (e : z = (j : Int)) (h : xs[j]? = some v) : atI xs z = some v := by
    rw [e]
    exact atI_nat h
def sign (c : Nat) : Str := ⟨#[c]⟩
theorem joinL_flat : ∀ ps : List (List Nat), TL.joinL [] ps = ps.flatten
  | [] => rfl
  | [p] => by simp [TL.joinL]
  | p :: q :: r => by
    show p ++ ([] ++ TL.joinL [] (q :: r)) = _
    rw [joinL_flat (q :: r)]
    simp
theorem join_codes (ys : List Str) : (Txt.join ("" : Str) ys).cps.toList = (ys.map fun y => y.cps.toList).flatten := by
  have h := TL.tl_join ("" : Str) ys
  rw [show TL.tl ("" : Str) = [] by decide +kernel, joinL_flat] at h
  rw [TL.join_eq]
  exact h
theorem join_signs (cs : List Nat) : (Txt.join ("" : Str) (cs.map sign)).cps.toList = cs := by
  rw [join_codes, List.map_map]
  induction cs with
  | nil => rfl
  | cons c r ih => exact congrArg (c :: ·) ih
theorem isWd_of {z : Str} (h1 : 1 ≤ z.cps.toList.length) (h8 : z.cps.toList.length ≤ 8) (hc : ∀ c ∈ z.cps.toList, 97 ≤ c ∧ c ≤ 122) : IsWd z := by
  unfold IsWd wdB Str.length
  rw [Array.length_toList] at h1 h8
  simp only [Bool.and_eq_true, decide_eq_true_eq, List.all_eq_true]
  exact ⟨⟨h1, h8⟩, hc⟩
theorem IsWd.len {z : Str} (h : IsWd z) : 1 ≤ z.length ∧ z.length ≤ 8 := by
  unfold IsWd wdB at h
  simp only [Bool.and_eq_true, decide_eq_true_eq] at h
  exact h.1
end Wl

namespace Wl
open PySem PySem.Spec PyProof.Rows L2

inductive Each {α β : Type} (R : α → β → Prop) : List α → List β → Prop
  | nil : Each R [] []
  | cons {a : α} {b : β} {as : List α} {bs : List β} : R a b → Each R as bs → Each R (a :: as) (b :: bs)
section
variable {α β : Type} {R S : α → β → Prop}
theorem Each.length : ∀ {as : List α} {bs : List β}, Each R as bs → as.length = bs.length
  | _, _, .nil => rfl
  | _, _, .cons _ t => congrArg (· + 1) t.length
theorem Each.mono (h : ∀ a b, R a b → S a b) : ∀ {as : List α} {bs : List β}, Each R as bs → Each S as bs
  | _, _, .nil => .nil
  | _, _, .cons r t => .cons (h _ _ r) (t.mono h)
theorem Each.append : ∀ {as : List α} {bs : List β} {cs : List α} {ds : List β}, Each R as bs → Each R cs ds → Each R (as ++ cs) (bs ++ ds)
  | _, _, _, _, .nil, s => s
  | _, _, _, _, .cons r t, s => .cons r (t.append s)
theorem Each.get : ∀ {as : List α} {bs : List β} {i : Nat} {a : α}, Each R as bs → as[i]? = some a → ∃ b, bs[i]? = some b ∧ R a b
  | _, _, _, _, .nil, e => by simp at e
  | _, _, 0, _, .cons r _, e => by simp at e; subst e; exact ⟨_, rfl, r⟩
  | _, _, i + 1, x, .cons _ t, e => by
    obtain ⟨u, h1, h2⟩ := t.get (i := i) (a := x) (by simpa using e)
    exact ⟨u, by simpa using h1, h2⟩
theorem Each.get2 : ∀ {as : List α} {bs : List β} {i : Nat} {b : β}, Each R as bs → bs[i]? = some b → ∃ a, as[i]? = some a ∧ R a b
  | _, _, _, _, .nil, e => by simp at e
  | _, _, 0, _, .cons r _, e => by simp at e; subst e; exact ⟨_, rfl, r⟩
  | _, _, i + 1, x, .cons _ t, e => by
    obtain ⟨u, h1, h2⟩ := t.get2 (i := i) (b := x) (by simpa using e)
    exact ⟨u, by simpa using h1, h2⟩
theorem Each.mem2 : ∀ {as : List α} {bs : List β} {b : β}, Each R as bs → b ∈ bs → ∃ a ∈ as, R a b
  | _, _, _, .nil, h => by simp at h
  | _, _, _, .cons r t, h => by
    rcases List.mem_cons.mp h with rfl | h
    · exact ⟨_, List.mem_cons_self, r⟩
    · obtain ⟨a, ha, hr⟩ := t.mem2 h
      exact ⟨a, List.mem_cons_of_mem _ ha, hr⟩
theorem each_fn {f : α → β} : ∀ {as : List α} {bs : List β}, Each (fun a b => b = f a) as bs → bs = as.map f
  | _, _, .nil => rfl
  | _, _, .cons r t => by rw [List.map_cons, ← each_fn t, r]
theorem each_map_l {γ : Type} {g : γ → α} : ∀ {cs : List γ} {bs : List β}, Each R (cs.map g) bs → Each (fun c b => R (g c) b) cs bs
  | [], [], _ => .nil
  | [], _ :: _, h => nomatch h
  | _ :: _, [], h => nomatch h
  | _ :: _, _ :: _, .cons r t => .cons r (each_map_l t)
theorem each_map_r {γ : Type} {g : γ → α} : ∀ {cs : List γ} {bs : List β}, Each (fun c b => R (g c) b) cs bs → Each R (cs.map g) bs
  | _, _, .nil => .nil
  | _, _, .cons r t => .cons r (each_map_r t)
end

theorem filter_take_snoc {α : Type} {p : α → Bool} {ys : List α} {i : Nat} {x : α} (h : ys[i]? = some x) : (ys.take (i + 1)).filter p = (ys.take i).filter p ++ (if p x then [x] else []) := by
  rw [List.take_add_one, h, List.filter_append]
  congr 1
  by_cases c : p x = true
  · simp [c]
  · simp [c]

section
variable {J : It} {ys : List V} {G : Hp → Prop} {slot : Nat} {tt : TT} {te : TE} {vs : List Nat} {σ : L2.St} {H1 : Hp} {D : Addr} {Qd : Hp → Prop}
/-- a comprehension [e for x in ys if t]: each e a value that R tells of, the heap only growing -/
theorem lc_rel (w : L2.Walk J ys.length G (YAt ys)) (hD : H1 D = none) (keep : V → Bool) (R : V → V → Hp → Prop)
    (hG : ∀ H, Same H1 H → G H)
    (hw : ∀ x, wipe ((wipe σ vs).set slot (some x)) vs = wipe σ vs)
    (ht : ∀ (x : V) (H : Hp), x ∈ ys → Same H1 H → ∀ Q : Bool → Hp → Prop, Q (keep x) H → tt ((wipe σ vs).set slot (some x)) H Q)
    (he : ∀ (x : V) (H : Hp), x ∈ ys → keep x = true → Same H1 H → ∀ Q : VK, (∀ y H', Same H H' → R x y H' → Q y H') → te ((wipe σ vs).set slot (some x)) H Q)
    (hR : ∀ x y H H' acc, H D = some (.lst acc) → SameX D H H' → R x y H → R x y H')
    (hn : ys.length < sizeLine)
    (hd : ∀ zs H, Same H1 H → H D = some (.lst zs) → Each (fun x z => R x z H) (ys.filter keep) zs → Qd H) :
    ∃ W : Nat → Nat → Hp → Prop, (∃ m, W 0 m (upd H1 D (.lst []))) ∧ ∀ i m H, W i m H →
      (J.stop i H ∧ Qd H) ∨ (J.go i H ∧ ∃ Nx : Hp → Prop, (∀ H', Nx H' → ∃ m', m' < m ∧ W (i + 1) m' H') ∧ ∀ x H', J.yld i H x H' → gName slot x (wipe σ vs) H' fun σ2 H2 => wipe σ2 vs = wipe σ vs ∧ tt σ2 H2 fun b H3 =>
        if b = true then te σ2 H3 fun y H4 => ∃ acc, H4 D = some (.lst acc) ∧ acc.length < sizeLine ∧ Nx (upd H4 D (.lst (acc ++ [y]))) else Nx H3) := by
  refine lc_it w (fun i H => ∃ zs, Same H1 H ∧ H D = some (.lst zs) ∧ Each (fun x z => R x z H) ((ys.take i).filter keep) zs) ⟨[], same_new hD, upd_same, by simpa using Each.nil⟩ (fun i H _ h => ?_) ?_ ?_
  · obtain ⟨zs, s, _⟩ := h
    exact hG H s
  · rintro i x H H' hi ⟨zs, s, hz, ez⟩ ⟨rfl, hx⟩
    have hm : x ∈ ys := List.mem_of_getElem? hx
    refine ⟨hw x, ht x _ hm s _ ?_⟩
    have hf := filter_take_snoc (p := keep) hx
    refine ite_b (fun e => ?_) (fun e => ?_)
    · refine he x _ hm e s _ fun y H4 s4 r4 => ⟨zs, s4 _ _ hz, ?_, zs ++ [y], same_mut (s.trans s4) hD, upd_same, ?_⟩
      · have h1 := ez.length
        have h2 : ((ys.take i).filter keep).length ≤ (ys.take i).length := List.length_filter_le _ _
        have h3 : (ys.take i).length ≤ ys.length := List.length_take_le' _ _
        omega
      · rw [hf, if_pos e]
        have hD4 : H4 D = some (.lst zs) := s4 _ _ hz
        refine Each.append (ez.mono fun a b r => ?_) (.cons ?_ .nil)
        · exact hR _ _ _ _ _ hz (fun b o n h => by rw [upd_ne n]; exact s4 _ _ h) r
        · exact hR _ _ _ _ _ hD4 sameX_upd r4
    · refine ⟨zs, s, hz, ?_⟩
      rw [hf, if_neg (by rw [e]; decide), List.append_nil]
      exact ez
  · rintro H ⟨zs, s, hz, ez⟩
    rw [List.take_length] at ez
    exact hd zs H s hz ez
/-- the same, each e a plain value, the heap as it was -/
theorem lc_map (w : L2.Walk J ys.length G (YAt ys)) (hD : H1 D = none) (keep : V → Bool) (f : V → V)
    (hG : ∀ H, Same H1 H → G H)
    (hw : ∀ x, wipe ((wipe σ vs).set slot (some x)) vs = wipe σ vs)
    (ht : ∀ (x : V) (H : Hp), x ∈ ys → Same H1 H → ∀ Q : Bool → Hp → Prop, Q (keep x) H → tt ((wipe σ vs).set slot (some x)) H Q)
    (he : ∀ (x : V) (H : Hp), x ∈ ys → keep x = true → Same H1 H → ∀ Q : VK, Q (f x) H → te ((wipe σ vs).set slot (some x)) H Q)
    (hn : ys.length < sizeLine)
    (hd : ∀ H, Same H1 H → H D = some (.lst ((ys.filter keep).map f)) → Qd H) :
    ∃ W : Nat → Nat → Hp → Prop, (∃ m, W 0 m (upd H1 D (.lst []))) ∧ ∀ i m H, W i m H →
      (J.stop i H ∧ Qd H) ∨ (J.go i H ∧ ∃ Nx : Hp → Prop, (∀ H', Nx H' → ∃ m', m' < m ∧ W (i + 1) m' H') ∧ ∀ x H', J.yld i H x H' → gName slot x (wipe σ vs) H' fun σ2 H2 => wipe σ2 vs = wipe σ vs ∧ tt σ2 H2 fun b H3 =>
        if b = true then te σ2 H3 fun y H4 => ∃ acc, H4 D = some (.lst acc) ∧ acc.length < sizeLine ∧ Nx (upd H4 D (.lst (acc ++ [y]))) else Nx H3) :=
  lc_rel w hD keep (fun x y _ => y = f x) hG hw ht (fun x H hx hk s Q q => he x H hx hk s Q (q _ H (Same.refl H) rfl)) (fun _ _ _ _ _ _ _ r => r) hn fun zs H s hz ez => hd H s (by rw [hz, each_fn ez])
end
/-- a text's signs as a list -/
def signsOf (z : Str) : List V := z.cps.toList.map fun c => .str (sign c)
theorem walk_signs {z : Str} : L2.Walk (Its z) (signsOf z).length (fun _ => True) (YAt (signsOf z)) := by
  have e : (signsOf z).length = z.cps.size := by simp [signsOf]
  rw [e]
  refine ⟨fun _ _ hi _ => hi, fun _ _ => Nat.le_refl _, ?_⟩
  rintro i H x H' _ _ ⟨rfl, c, hc, rfl⟩
  refine ⟨rfl, ?_⟩
  have : z.cps.toList[i]? = some c := by simpa using hc
  simp only [signsOf, List.getElem?_map, this]
  rfl
theorem yes_pure {σ : L2.St} {H : Hp} {Q : Bool → Hp → Prop} (h : Q true H) : tYes σ H Q := h
theorem inV_strs (z : Str) (ws : List Str) : inV (.str z) (ws.map V.str) = decide (z ∈ ws) := by
  unfold inV
  induction ws with
  | nil => rfl
  | cons x r ih =>
    rw [List.map_cons, List.any_cons, ih]
    by_cases h : x = z
    · subst h
      simp [eqV]
    · have h2 : ¬ z = x := fun e => h e.symm
      simp [eqV, h, h2]
theorem flat_strs (ws : List Str) : (ws.map V.str).all flatV = true := by
  rw [List.all_eq_true]
  intro v hv
  obtain ⟨x, _, rfl⟩ := List.mem_map.mp hv
  rfl
theorem dp_strs {K : PySem.W.Frag} {H : Hp} : ∀ ws : List Str, DpAll K H (ws.map V.str) (ws.map PyData.str)
  | [] => .nil
  | z :: r => .cons (.str z) (dp_strs r)
theorem wd_ok {z : Str} (h : IsWd z) : PyData.strOk z = true := by
  unfold PyData.strOk
  rw [← Array.all_toList, List.all_eq_true]
  intro c hc
  unfold IsWd wdB at h
  simp only [Bool.and_eq_true, decide_eq_true_eq, List.all_eq_true] at h
  have := h.2 c hc
  exact decide_eq_true (by omega)
theorem lay_strs : ∀ {ws : List Str}, (∀ z ∈ ws, IsWd z) → PyData.canLayAll0 (ws.map PyData.str) = true
  | [], _ => by simp [PyData.canLayAll0]
  | z :: r, h => by
    have h1 := wd_ok (h z List.mem_cons_self)
    have h2 := lay_strs (ws := r) fun y hy => h y (List.mem_cons_of_mem _ hy)
    simp [PyData.canLayAll0, PyData.canLay0, h1, h2]
theorem depth_strs : ∀ ws : List Str, PyData.depthAll (ws.map PyData.str) = 0
  | [] => by simp [PyData.depthAll]
  | z :: r => by simp [PyData.depthAll, PyData.depth, depth_strs r]
theorem shaped_list {ds : List PyData} (h : PyData.canLayAll0 ds = true) (d : PyData.depthAll ds ≤ 60) : SeqAt.shaped (.list ds) = true := by
  unfold SeqAt.shaped
  rw [Bool.and_eq_true]
  refine ⟨by simpa [PyData.canLay0] using h, decide_eq_true ?_⟩
  simp only [PyData.depth]
  omega
theorem shaped_tuple {ds : List PyData} (h : PyData.canLayAll0 ds = true) (d : PyData.depthAll ds ≤ 60) : SeqAt.shaped (.tuple ds) = true := by
  unfold SeqAt.shaped
  rw [Bool.and_eq_true]
  refine ⟨by simpa [PyData.canLay0] using h, decide_eq_true ?_⟩
  simp only [PyData.depth]
  omega
theorem cut_hi (z : Str) (k : Nat) : (cutS z none (some (k : Int))).cps.toList = z.cps.toList.take k := by
  show ((z.cps.toList.drop (HT.sIx z.length 0 none)).take (HT.sIx z.length z.length (some (k : Int)) - HT.sIx z.length 0 none)) = _
  rw [HT.sIx_none, HT.sIx_nat, Nat.sub_zero, List.drop_zero]
  have : z.length = z.cps.toList.length := by simp [Str.length]
  rw [this]
  by_cases h : k ≤ z.cps.toList.length
  · rw [Nat.min_eq_left h]
  · rw [Nat.min_eq_right (by omega), List.take_length, List.take_of_length_le (by omega)]
end Wl

namespace Wl
open PySem PySem.Spec PyProof.Rows L2
inductive Wh where
  | first | last | any
  deriving DecidableEq
def whS : Wh → Str
  | .first => "first"
  | .last => "last"
  | .any => "any"
abbrev Chg := Nat × Nat × Wh
def isLet (c : Nat) : Prop := 97 ≤ c ∧ c ≤ 122
instance (c : Nat) : Decidable (isLet c) := by unfold isLet; infer_instance
def OkC (ch : Chg) : Prop := isLet ch.1 ∧ isLet ch.2.1 ∧ ch.1 ≠ ch.2.1
def acts (wh : Wh) (i n : Nat) : Bool := match wh with
  | .first => decide (i = 0)
  | .last => decide (i + 1 = n)
  | .any => true
abbrev Edges := List (Nat × Nat)
def es (chs : List Chg) (i n : Nat) : Edges := (chs.filter fun ch => acts ch.2.2 i n).map fun ch => (ch.1, ch.2.1)
def nbE (c : Nat) (e : Nat × Nat) : List Nat := (if e.1 = c then [e.2] else []) ++ (if e.2 = c then [e.1] else [])
def nbrs (E : Edges) (c : Nat) : List Nat := E.flatMap (nbE c)
theorem mem_nbrs {E : Edges} {c d : Nat} : d ∈ nbrs E c ↔ (c, d) ∈ E ∨ (d, c) ∈ E := by
  unfold nbrs nbE
  rw [List.mem_flatMap]
  constructor
  · rintro ⟨⟨x, y⟩, he, h⟩
    rcases List.mem_append.mp h with k | k
    · by_cases q : x = c
      · rw [if_pos q, List.mem_singleton] at k
        rw [k, ← q]
        exact .inl he
      · rw [if_neg q] at k
        cases k
    · by_cases q : y = c
      · rw [if_pos q, List.mem_singleton] at k
        rw [k, ← q]
        exact .inr he
      · rw [if_neg q] at k
        cases k
  · rintro (h | h)
    · exact ⟨(c, d), h, List.mem_append_left _ (by simp)⟩
    · exact ⟨(d, c), h, List.mem_append_right _ (by simp)⟩
theorem nbrs_symm {E : Edges} {c d : Nat} (h : d ∈ nbrs E c) : c ∈ nbrs E d := mem_nbrs.mpr ((mem_nbrs.mp h).symm)
theorem nbrs_snoc (E : Edges) (x y c : Nat) : nbrs (E ++ [(x, y)]) c = nbrs E c ++ ((if x = c then [y] else []) ++ (if y = c then [x] else [])) := by
  unfold nbrs
  rw [List.flatMap_append]
  simp [nbE]
inductive Conn (E : Edges) : Nat → Nat → Prop
  | refl (a : Nat) : Conn E a a
  | step {a b c : Nat} : Conn E a b → c ∈ nbrs E b → Conn E a c
theorem Conn.trans {E : Edges} {a b c : Nat} (h : Conn E a b) (k : Conn E b c) : Conn E a c := by
  induction k with
  | refl => exact h
  | step _ m ih => exact .step ih m
theorem Conn.symm {E : Edges} {a b : Nat} (h : Conn E a b) : Conn E b a := by
  induction h with
  | refl => exact .refl _
  | step _ m ih => exact (Conn.step (.refl _) (nbrs_symm m)).trans ih
def OkE (E : Edges) : Prop := ∀ e ∈ E, isLet e.1 ∧ isLet e.2
theorem conn_let {E : Edges} (ok : OkE E) {a b : Nat} (h : Conn E a b) (ha : isLet a) : isLet b := by
  induction h with
  | refl => exact ha
  | step _ m _ =>
    rcases mem_nbrs.mp m with m | m
    · exact (ok _ m).2
    · exact (ok _ m).1
theorem es_ok {chs : List Chg} (h : ∀ ch ∈ chs, OkC ch) (i n : Nat) : OkE (es chs i n) := fun e he => by
  obtain ⟨ch, hc, rfl⟩ := List.mem_map.mp he
  have := h ch (List.mem_filter.mp hc).1
  exact ⟨this.1, this.2.1⟩
theorem least_of (p : Nat → Prop) : ∀ n, p n → ∃ m, p m ∧ ∀ d, p d → m ≤ d := by
  intro n
  induction n using Nat.strongRecOn with
  | _ n ih =>
    intro hn
    by_cases h : ∃ k, k < n ∧ p k
    · obtain ⟨k, hk, pk⟩ := h
      exact ih k hk pk
    · exact ⟨n, hn, fun d hd => Nat.le_of_not_lt fun q => h ⟨d, q, hd⟩⟩
noncomputable def lo (E : Edges) (c : Nat) : Nat := Classical.choose (least_of (Conn E c) c (.refl c))
theorem lo_conn (E : Edges) (c : Nat) : Conn E c (lo E c) := (Classical.choose_spec (least_of (Conn E c) c (.refl c))).1
theorem lo_le {E : Edges} {c d : Nat} (h : Conn E c d) : lo E c ≤ d := (Classical.choose_spec (least_of (Conn E c) c (.refl c))).2 d h
theorem lo_self (E : Edges) (c : Nat) : lo E c ≤ c := lo_le (.refl c)
theorem lo_eq {E : Edges} {c d : Nat} : lo E c = lo E d ↔ Conn E c d := by
  constructor
  · intro e
    have h1 := lo_conn E c
    have h2 := lo_conn E d
    rw [← e] at h2
    exact h1.trans h2.symm
  · intro h
    exact Nat.le_antisymm (lo_le (h.trans (lo_conn E d))) (lo_le (h.symm.trans (lo_conn E c)))
theorem lo_of {E : Edges} {c m : Nat} (h : Conn E c m) (k : ∀ d, Conn E c d → m ≤ d) : lo E c = m := Nat.le_antisymm (lo_le h) (k _ (lo_conn E c))
/-! ### words -/
abbrev codes (z : Str) : List Nat := z.cps.toList
def ofC (l : List Nat) : Str := ⟨l.toArray⟩
theorem codes_ofC (l : List Nat) : codes (ofC l) = l := rfl
noncomputable def mean (chs : List Chg) (z : Str) : Str := ofC ((codes z).mapIdx fun i c => lo (es chs i (codes z).length) c)
theorem mean_len (chs : List Chg) (z : Str) : (codes (mean chs z)).length = (codes z).length := by
  unfold mean
  rw [codes_ofC, List.length_mapIdx]
theorem mean_at (chs : List Chg) (z : Str) {i c : Nat} (h : (codes z)[i]? = some c) : (codes (mean chs z))[i]? = some (lo (es chs i (codes z).length) c) := by
  unfold mean
  rw [codes_ofC, List.getElem?_mapIdx, h]
  rfl
/-- they are one: as long, and at each place the letters hang together -/
def OneP (chs : List Chg) (z y : Str) : Prop := (codes z).length = (codes y).length ∧ ∀ i a b, (codes z)[i]? = some a → (codes y)[i]? = some b → Conn (es chs i (codes z).length) b a
theorem one_iff {chs : List Chg} {z y : Str} : OneP chs z y ↔ (codes z).length = (codes y).length ∧ mean chs z = mean chs y := by
  constructor
  · rintro ⟨hl, h⟩
    refine ⟨hl, str_ext ?_⟩
    refine List.ext_getElem? fun i => ?_
    by_cases hi : i < (codes z).length
    · have h1 : (codes z)[i]? = some (codes z)[i] := List.getElem?_eq_getElem hi
      have h2 : (codes y)[i]? = some ((codes y)[i]'(by omega)) := List.getElem?_eq_getElem (by omega)
      have e1 := mean_at chs z h1
      have e2 := mean_at chs y h2
      rw [e1, e2, hl]
      rw [hl] at h
      exact congrArg some (lo_eq.mpr (h i _ _ h1 h2).symm)
    · have q1 : (codes (mean chs z))[i]? = none := List.getElem?_eq_none (by rw [mean_len]; omega)
      have q2 : (codes (mean chs y))[i]? = none := List.getElem?_eq_none (by rw [mean_len]; omega)
      exact q1.trans q2.symm
  · rintro ⟨hl, e⟩
    refine ⟨hl, fun i a b ha hb => ?_⟩
    have e1 := mean_at chs z ha
    have e2 := mean_at chs y hb
    rw [e, e2, ← hl] at e1
    exact lo_eq.mp (Option.some.inj e1)
theorem mean_mean {chs : List Chg} (z : Str) : mean chs (mean chs z) = mean chs z := by
  refine str_ext (List.ext_getElem? fun i => ?_)
  have l1 := mean_len chs z
  have l2 := mean_len chs (mean chs z)
  by_cases hi : i < (codes z).length
  · have h1 : (codes z)[i]? = some (codes z)[i] := List.getElem?_eq_getElem hi
    have e1 := mean_at chs z h1
    have e2 := mean_at chs (mean chs z) e1
    rw [e2, e1, l1]
    exact congrArg some (lo_eq.mpr (lo_conn _ _).symm)
  · have q1 : (codes (mean chs (mean chs z)))[i]? = none := List.getElem?_eq_none (by rw [mean_len, mean_len]; omega)
    have q2 : (codes (mean chs z))[i]? = none := List.getElem?_eq_none (by rw [mean_len]; omega)
    exact q1.trans q2.symm
theorem one_mean (chs : List Chg) (z : Str) : OneP chs (mean chs z) z := one_iff.mpr ⟨mean_len chs z, mean_mean z⟩
theorem one_symm {chs : List Chg} {z y : Str} : OneP chs z y ↔ OneP chs y z := by
  rw [one_iff, one_iff]
  constructor <;> rintro ⟨a, b⟩ <;> exact ⟨a.symm, b.symm⟩
theorem lt_no : ∀ {l m : List Nat}, l.length = m.length → (∀ (i a b : Nat), l[i]? = some a → m[i]? = some b → a ≤ b) → ¬ m < l
  | [], [], _, _ => List.lt_irrefl _
  | a :: l, b :: m, hl, h => by
    have h0 : a ≤ b := h 0 a b rfl rfl
    have ih := lt_no (l := l) (m := m) (by simpa using hl) fun i x y hx hy => h (i + 1) x y (by simpa using hx) (by simpa using hy)
    intro q
    rcases List.cons_lt_cons_iff.mp q with q | ⟨e, q⟩
    · omega
    · exact ih q
  | [], b :: m, hl, _ => by simp at hl
  | a :: l, [], hl, _ => by simp at hl
theorem mean_le (chs : List Chg) (z : Str) : ¬ ltS z (mean chs z) := by
  refine lt_no (mean_len chs z) fun i a b ha hb => ?_
  rw [mean_at chs z hb] at ha
  cases ha
  exact lo_self _ _
theorem es_nil (i n : Nat) : es [] i n = [] := rfl
theorem conn_nil {a b : Nat} (h : Conn [] a b) : a = b := by
  induction h with
  | refl => rfl
  | step _ m _ => cases m
theorem one_plain {z y : Str} : OneP [] z y ↔ z = y := by
  constructor
  · rintro ⟨hl, h⟩
    refine str_ext (List.ext_getElem? fun i => ?_)
    by_cases hi : i < (codes z).length
    · have h1 : (codes z)[i]? = some (codes z)[i] := List.getElem?_eq_getElem hi
      have h2 : (codes y)[i]? = some ((codes y)[i]'(by omega)) := List.getElem?_eq_getElem (by omega)
      exact h1.trans ((congrArg some (conn_nil (h i _ _ h1 h2)).symm).trans h2.symm)
    · have q1 : (codes z)[i]? = none := List.getElem?_eq_none (by omega)
      have q2 : (codes y)[i]? = none := List.getElem?_eq_none (by omega)
      exact q1.trans q2.symm
  · rintro rfl
    refine ⟨rfl, fun i a b h1 h2 => ?_⟩
    rw [h1] at h2
    cases h2
    exact .refl _
theorem mean_plain (z : Str) : mean [] z = z := by
  refine str_ext (List.ext_getElem? fun i => ?_)
  have l1 := mean_len [] z
  by_cases hi : i < (codes z).length
  · have h1 : (codes z)[i]? = some (codes z)[i] := List.getElem?_eq_getElem hi
    exact (mean_at [] z h1).trans ((congrArg some (conn_nil (lo_conn _ _)).symm).trans h1.symm)
  · have q1 : (codes (mean [] z))[i]? = none := List.getElem?_eq_none (by rw [mean_len]; omega)
    have q2 : (codes z)[i]? = none := List.getElem?_eq_none (by omega)
    exact q1.trans q2.symm
theorem wd_codes {z : Str} : IsWd z ↔ (1 ≤ (codes z).length ∧ (codes z).length ≤ 8) ∧ ∀ c ∈ codes z, isLet c := by
  unfold IsWd wdB isLet Str.length codes
  rw [Array.length_toList]
  simp only [Bool.and_eq_true, decide_eq_true_eq, List.all_eq_true]
theorem mean_wd {chs : List Chg} (h : ∀ ch ∈ chs, OkC ch) {z : Str} (hz : IsWd z) : IsWd (mean chs z) := by
  obtain ⟨h1, h2⟩ := wd_codes.mp hz
  refine wd_codes.mpr ⟨by rw [mean_len]; exact h1, fun c hc => ?_⟩
  obtain ⟨i, hi, rfl⟩ := List.mem_iff_getElem.mp hc
  have hi2 : i < (codes z).length := by rw [mean_len] at hi; exact hi
  have e := mean_at chs z (List.getElem?_eq_getElem hi2)
  rw [List.getElem?_eq_getElem hi] at e
  rw [Option.some.inj e]
  exact conn_let (es_ok h _ _) (lo_conn _ _) (h2 _ (List.getElem_mem hi2))
/-! ### the walk over letters, by breadth -/
structure Bfs (E : Edges) (goal : Nat) (tw : List (Nat × Option Nat)) (at' : Nat) : Prop where
  nd : (tw.map (·.1)).Nodup
  lets : ∀ x ∈ tw.map (·.1), isLet x
  conn : ∀ x ∈ tw.map (·.1), Conn E goal x
  head : tw[0]? = some (goal, none)
  par : ∀ (i c d : Nat), tw[i]? = some (c, some d) → ∃ j o, j < i ∧ tw[j]? = some (d, o)
  non : ∀ (i c : Nat), tw[i]? = some (c, none) → i = 0
  closed : ∀ (j x : Nat) (o : Option Nat), j < at' → tw[j]? = some (x, o) → ∀ y ∈ nbrs E x, y ∈ tw.map (·.1)
theorem Bfs.start {E : Edges} {goal : Nat} (h : isLet goal) : Bfs E goal [(goal, none)] 0 := by
  refine ⟨by simp, ?_, ?_, rfl, ?_, ?_, fun j x o hj => by omega⟩
  · intro x hx
    simp at hx
    subst hx
    exact h
  · intro x hx
    simp at hx
    subst hx
    exact .refl _
  · intro i c d hi
    match i, hi with
    | 0, e => cases e
    | n + 1, e => simp at e
  · intro i c hi
    match i, hi with
    | 0, _ => rfl
    | n + 1, e => simp at e
theorem Bfs.len {E : Edges} {goal : Nat} {tw : List (Nat × Option Nat)} {a : Nat} (b : Bfs E goal tw a) : tw.length ≤ 26 := by
  have h := b.nd.length_le_of_subset (l₂ := List.range' 97 26) fun x hx => by
    have := b.lets x hx
    rw [List.mem_range'_1]
    unfold isLet at this
    omega
  simpa using h
theorem Bfs.push {E : Edges} {goal x y : Nat} {tw : List (Nat × Option Nat)} {a : Nat} {o : Option Nat} (b : Bfs E goal tw a) (hx : tw[a]? = some (x, o)) (hy : y ∈ nbrs E x) (hl : isLet y) (hn : y ∉ tw.map (·.1)) : Bfs E goal (tw ++ [(y, some x)]) a := by
  have ha : a < tw.length := (List.getElem?_eq_some_iff.mp hx).1
  have old : ∀ {i : Nat} {p : Nat × Option Nat}, tw[i]? = some p → (tw ++ [(y, some x)])[i]? = some p := fun {i p} h => by
    rw [List.getElem?_append_left (List.getElem?_eq_some_iff.mp h).1]
    exact h
  have back : ∀ {i : Nat} {p : Nat × Option Nat}, (tw ++ [(y, some x)])[i]? = some p → tw[i]? = some p ∨ (i = tw.length ∧ p = (y, some x)) := fun {i p} h => by
    by_cases q : i < tw.length
    · rw [List.getElem?_append_left q] at h
      exact .inl h
    · rw [List.getElem?_append_right (by omega)] at h
      have : i - tw.length = 0 := by
        have := (List.getElem?_eq_some_iff.mp h).1
        simp at this
        omega
      rw [this] at h
      simp at h
      exact .inr ⟨by omega, h.symm⟩
  refine ⟨?_, ?_, ?_, old b.head, ?_, ?_, ?_⟩
  · rw [List.map_append, List.nodup_append]
    refine ⟨b.nd, by simp, fun u hu v hv e => ?_⟩
    simp at hv
    subst hv e
    exact hn hu
  · intro u hu
    rw [List.map_append] at hu
    rcases List.mem_append.mp hu with hu | hu
    · exact b.lets u hu
    · simp at hu
      subst hu
      exact hl
  · intro u hu
    rw [List.map_append] at hu
    rcases List.mem_append.mp hu with hu | hu
    · exact b.conn u hu
    · simp at hu
      subst hu
      exact .step (b.conn x (List.mem_map.mpr ⟨_, List.mem_of_getElem? hx, rfl⟩)) hy
  · intro i c d hi
    rcases back hi with h | ⟨e, h⟩
    · obtain ⟨j, o', hj, h'⟩ := b.par i c d h
      exact ⟨j, o', hj, old h'⟩
    · cases h
      exact ⟨a, o, by omega, old hx⟩
  · intro i c hi
    rcases back hi with h | ⟨e, h⟩
    · exact b.non i c h
    · cases h
  · intro j u o' hj h v hv
    rcases back h with h | ⟨e, h⟩
    · rw [List.map_append]
      exact List.mem_append_left _ (b.closed j u o' hj h v hv)
    · omega
theorem Bfs.next {E : Edges} {goal x : Nat} {tw : List (Nat × Option Nat)} {a : Nat} {o : Option Nat} (b : Bfs E goal tw a) (hx : tw[a]? = some (x, o)) (h : ∀ y ∈ nbrs E x, y ∈ tw.map (·.1)) : Bfs E goal tw (a + 1) := by
  refine ⟨b.nd, b.lets, b.conn, b.head, b.par, b.non, fun j u o' hj hu => ?_⟩
  by_cases q : j < a
  · exact b.closed j u o' q hu
  · have : j = a := by omega
    subst this
    rw [hx] at hu
    cases hu
    exact h
theorem Bfs.done {E : Edges} {goal : Nat} {tw : List (Nat × Option Nat)} {a : Nat} (b : Bfs E goal tw a) (ha : tw.length ≤ a) {c : Nat} : c ∈ tw.map (·.1) ↔ Conn E goal c := by
  refine ⟨b.conn c, fun h => ?_⟩
  induction h with
  | refl => exact List.mem_map.mpr ⟨_, List.mem_of_getElem? b.head, rfl⟩
  | step _ m ih =>
    obtain ⟨⟨u, o⟩, hu, rfl⟩ := List.mem_map.mp ih
    obtain ⟨j, hj, e⟩ := List.mem_iff_getElem.mp hu
    exact b.closed j u o (by omega) (by rw [List.getElem?_eq_getElem hj, e]) _ m
end Wl

namespace Wl
open PySem PySem.Spec PyProof.Rows L2
/-! enumerate(a text) -/
def IteS (z : Str) : It where
  go := fun i _ => i < z.cps.size
  yld := fun i H v H' => ∃ T c, v = .ref T ∧ H T = none ∧ z.cps[i]? = some c ∧ H' = upd H T (.tup [.int (i : Nat), .str (sign c)])
  stop := fun i _ => z.cps.size ≤ i
theorem turn_enumS {P : Program} {w : World} {K : PySem.W.Frag} {elts : List Expr} {kk : Nat} {tpos : Pos} (z : Str) (t : Tok) (e it : Addr) :
    Turn P w K (.Tuple elts kk tpos) (IteS z) [e, it] e (fun i h => (∃ old, IsEnum h e it ((i : Nat) : Int) old) ∧ h.IsStrIter it (strIterType z) z t i ∧ e ≠ it) where
  mem := by simp
  obj := fun i h st b hb => by
    obtain ⟨⟨old, he⟩, ⟨o, ho, hc, hd⟩, _⟩ := st
    rcases (show b = e ∨ b = it by simpa using hb) with q | q
    · subst q; exact ⟨_, he, fun v q => nomatch q⟩
    · subst q; exact ⟨o, ho, fun v q => by rw [hd] at q; cases q⟩
  keep := fun i h h' st k => let ⟨⟨old, he⟩, ⟨o, ho, r⟩, hne⟩ := st; ⟨⟨old, k e (by simp) _ he⟩, ⟨o, k it (by simp) o ho, r⟩, hne⟩
  item := by
    intro X hP hw hK hc i pins s σ H E I hf st hg
    subst hP hw hK
    obtain ⟨⟨old, he⟩, hit, hne⟩ := st
    have hi : i < z.cps.size := hg
    obtain ⟨oi, hoi, _⟩ := id hit
    have hel : e < s.heap.objs.size := Heap.lt_size he
    have hil : it < s.heap.objs.size := Heap.lt_size hoi
    refine wpAny_pyNext_enum_itemD (Draws.text (prog := X.prog) (w := X.w) (A := X.A.in1) (I.ok.hd hc) it z t) he hit hi hne (by simp [hne]) fun y h' tk hy ho hst hTp hsz hk => ?_
    obtain ⟨c, tu, hcz, rfl⟩ := hy
    refine ⟨_, rfl, wpAny_letOwnedTupleGo_enum (s := { s with heap := h', toks := tk + 1 }) ho fun h'' he' sb => ?_⟩
    have hT2 : h''.get? s.heap.objs.size = some { cls := .type "tuple", data := .seq #[.int i tk, .str ⟨#[c]⟩ tu] } := (sb.2 _ (Nat.ne_of_gt hel)).trans hTp
    have new : ObjOk X.prog X.w (upd H s.heap.objs.size (.tup [.int (i : Nat), .str (sign c)])) h'' s.heap.objs.size (.tup [.int (i : Nat), .str (sign c)]) :=
      ⟨by show 2 ≤ sizeLine; decide, [.int i tk, .str ⟨#[c]⟩ tu], .cons ⟨_, rfl⟩ (.cons ⟨_, rfl⟩ .nil), ⟨_, hT2, rfl, _, rfl⟩⟩
    have I1 : L2.Inv X pins σ (upd H s.heap.objs.size (.tup [.int (i : Nat), .str (sign c)])) { s with heap := h'', toks := tk + 1 } :=
      I.turnedNew (ch := [e, it]) (fun b ob hb q => by
        simp only [List.mem_cons, List.not_mem_nil, or_false, not_or] at hb
        exact (sb.2 b hb.1).trans (hk b ob hb.1 hb.2 q)) hf (Nat.le_refl _) new
    have e1 : ((i + 1 : Nat) : Int) = (i : Int) + 1 := by omega
    obtain ⟨o2, ho2, r2⟩ := hst
    refine ⟨.ref s.heap.objs.size, _, I1, rfl, ⟨_, c, rfl, I.hok.fresh (Nat.le_refl _), hcz, rfl⟩, ⟨⟨.str ⟨#[c]⟩ tu, by rw [e1]; exact he'⟩, ⟨o2, (sb.2 it (Ne.symm hne)).trans ho2, r2⟩, hne⟩, fun b hb => ?_⟩
    have hb' : b < s.heap.objs.size := by
      rcases (show b = e ∨ b = it by simpa using hb) with q | q <;> subst q <;> assumption
    rw [upd_ne (Nat.ne_of_lt hb')]
    exact (hf b hb).1
  done := by
    intro X hP hw hK hc i pins s σ H E I hf st hg
    subst hP hw hK
    obtain ⟨⟨old, he⟩, hit, hne⟩ := st
    have hi : z.cps.size ≤ i := hg
    obtain ⟨f0, f1, f2, f3, f4, f5⟩ := hf it (by simp)
    have hTy : s.TypeIs (.ref e) "enumerate" := ⟨_, he, rfl⟩
    show wpAny _ _ (pyNext (.ref e)) _ _ s
    unfold pyNext
    refine wpAny_bind (wpAny_attempt (wpAny_callSpecial?_slot (name := Str.ofString "__next__") hTy F.slot_enumerate_next (wpAny_call_entry F.slot_enumerate_next hTy F.entry_enumerate_next ?_ (F.args_enumerate_next_1 _))))
    show wpAny _ _ (field (.ref e) 2 >>= _) _ _ _
    refine wpAny_bind (wpAny_field he rfl (x := .ref it) rfl (wpAny_bind ?_))
    have hx : z.cps[i]? = none := Array.getElem?_eq_none hi
    cases ha : z.cps.all (· < 128)
    · simp only [strIterType, ha, Bool.false_eq_true, if_false] at hit
      refine wpAny_nextOf_wide_end (I.ok.hd hc) hit hx fun h' x he' hx' => ?_
      obtain ⟨o, ho, hcc⟩ := hx'
      exact wpAny_bind (wpAny_isInstance (T := "StopIteration") (b := true) ⟨o, ho, hcc⟩ isSubtype_stop (wpAny_pure ⟨rfl, I.turned (t' := s.toks) (fun b o hb q => he' b o hb q) f0 f1 f3 f4 f5⟩))
    · simp only [strIterType, ha, if_true] at hit
      refine wpAny_nextOf_ascii_end (I.ok.hd hc) hit hx fun h' x he' hx' => ?_
      obtain ⟨o, ho, hcc⟩ := hx'
      exact wpAny_bind (wpAny_isInstance (T := "StopIteration") (b := true) ⟨o, ho, hcc⟩ isSubtype_stop (wpAny_pure ⟨rfl, I.turned (t' := s.toks) (fun b o hb q => he' b o hb q) f0 f1 f3 f4 f5⟩))
  self := fun A i s Q E st h => let ⟨⟨_, he⟩, _⟩ := st; wpAny_pyIter_enum he h
def iEnumS (ta : TA) : TI := fun σ H R => ta σ H fun vs H1 => ∃ z, vs = [.str z] ∧ R (IteS z) H1
theorem pi_enumS {X : Cx} {e : Expr} {ta : TA} {p pos tpos : Pos} {elts : List Expr} {kk : Nat} (hg : Gl X "enumerate") (hm : X.mg "enumerate" = none) (ha : PA X [e] ta) (hs : starEach [e] X.env = [(false, eval e X.env)] := by rfl) :
    PI X (.Tuple elts kk tpos) (.Call (.Name "enumerate" p) [e] [] pos) (iEnumS ta) := by
  refine ⟨fun pins s σ H R I h => ?_⟩
  refine Call_ (ld_blt I hg hm boot_enumerate (PyProof.Rows.callWith_type1 (thn (ha.run pos pins s σ H _ I h) fun us s1 ⟨vs, H1, I1, r1, q1⟩ => ?_) hs rfl))
  obtain ⟨z, rfl, q⟩ := q1
  obtain ⟨u, rfl, ru⟩ := vals1 r1
  obtain ⟨t, rfl⟩ := ru
  refine call_enumerate_str fun h' he hit hsz hk => wpAny_pyIter_enum he ?_
  refine ⟨s1.heap.objs.size + 1, [s1.heap.objs.size + 1, s1.heap.objs.size], _, _, H1, rfl, I1.kept (t' := s1.toks) hk, turn_enumS z t (s1.heap.objs.size + 1) s1.heap.objs.size, ⟨⟨.none, he⟩, hit, Nat.succ_ne_self _⟩, fun b hb => ?_, q⟩
  have hle : s1.heap.objs.size ≤ b := by
    rcases (show b = s1.heap.objs.size + 1 ∨ b = s1.heap.objs.size by simpa using hb) with q | q <;> rw [q]
    · exact Nat.le_add_right _ _
    · exact Nat.le_refl _
  exact I1.fpOk hle (I1.hok.fresh hle)
theorem walk_enumS {z : Str} : L2.Walk (IteS z) (codes z).length (fun _ => True) (fun i H v H' => ∃ T c, v = .ref T ∧ H T = none ∧ (codes z)[i]? = some c ∧ H' = upd H T (.tup [.int (i : Nat), .str (sign c)])) := by
  have e : (codes z).length = z.cps.size := by simp [codes]
  rw [e]
  refine ⟨fun _ _ hi _ => hi, fun _ _ => Nat.le_refl _, ?_⟩
  rintro i H v H' _ _ ⟨T, c, h1, h2, h3, h4⟩
  exact ⟨T, c, h1, h2, by simpa [codes] using h3, h4⟩
/-! f(k = v, ..) with no place -/
theorem pe_callN0 {X : Cx} {CX : CXT} {k : Nat} {f : Addr} {fd : FuncData} {ps ks : List Str} {sp : Sp} {E : XK} {x : Str} {p pos : Pos} {kws : List Keyword} {tk : TA} {g : List Value → List Value → List Value} {gV : List V → List V → List V}
    (F : FnOk X.prog X.w X.K X.mg X.base CX k f fd ps sp) (hr : Room k X.A) (hg : Gl X x) (hm : X.mg x = some (.ref f)) (hk : PySem.W.keepIn X.K (.ref f) = true) (hb : KBn X.K fd ps 0 ks g gV) (hx : Passes CX X E) (hkw : PK X kws tk)
    (hall : (backToKw pos (keywordEach kws X.env)).all (·.1.isSome) = true := by rfl) (hks : (backToKw pos (keywordEach kws X.env)).filterMap (·.1) = ks := by rfl) (hdb : (x == ("__debug__" : Str)) = false := by decide)
    (hpl : ((backTo pos (starEach [] X.env)).any (·.1) || (backToKw pos (keywordEach kws X.env)).any (·.1.isNone)) = false := by rfl) :
    PE X (.Call (.Name x p) [] kws pos) (L2.tCallN 0 ks.length sp gV E tNil tk) := by
  refine ⟨fun pins s σ H Q I h => ?_⟩
  refine wpAny_Call_Name_kw (ld_glob I hg hm ?_ hdb)
  refine PySem.W.callWith_KW0 (h₀ := X.base) I.ok.mod.kin hk hall ?_ hpl
  refine thn (hkw.run pos pins s σ H _ I h) fun ws s2 ⟨zs, H2, I2, rz, l1, l2, q2⟩ => ⟨I2.kIn, ?_⟩
  rw [hks]
  exact run_fnN (us := []) (vs := []) F hr hb hx I2 .nil rz rfl l2 q2
/-! min of a list of signs -/
def sgV (c : Nat) : V := .str (sign c)
def rMinL (K : PySem.W.Frag) : List V → Hp → VK → Prop := fun vs H Q => ∃ (a : Addr) (cs : List Nat), vs = [V.ref a] ∧ SqL K H a (cs.map sgV) ∧ cs ≠ [] ∧ cs.length ≤ 1000 ∧ ∀ m ∈ cs, (∀ c ∈ cs, m ≤ c) → Q (sgV m) H
theorem dp_signs {K : PySem.W.Frag} {H : Hp} : ∀ cs : List Nat, DpAll K H (cs.map sgV) (cs.map fun c => PyData.str (sign c))
  | [] => .nil
  | c :: r => .cons (.str _) (dp_signs r)
theorem sign_lt (a b : Nat) : ((sign a).cps.toList < (sign b).cps.toList) ↔ a < b := by
  show ([a] < [b]) ↔ _
  constructor
  · intro h
    rcases List.cons_lt_cons_iff.mp h with h | ⟨_, h⟩
    · exact h
    · exact absurd h (List.lt_irrefl _)
  · intro h
    exact List.cons_lt_cons_iff.mpr (.inl h)
theorem minD_signs : ∀ (c : Nat) (cs : List Nat), ∃ m, m ∈ c :: cs ∧ (∀ d ∈ c :: cs, m ≤ d) ∧ PySem.W.minD (.str (sign c)) (cs.map fun c => PyData.str (sign c)) = .str (sign m)
  | c, [] => ⟨c, List.mem_cons_self, fun d hd => by simp at hd; omega, rfl⟩
  | c, d :: r => by
    by_cases h : d < c
    · obtain ⟨m, h1, h2, h3⟩ := minD_signs d r
      refine ⟨m, List.mem_cons_of_mem _ h1, fun x hx => ?_, ?_⟩
      · rcases List.mem_cons.mp hx with rfl | hx
        · have := h2 d List.mem_cons_self
          omega
        · exact h2 x hx
      · rw [← h3]
        unfold PySem.W.minD
        rw [List.map_cons, List.foldl_cons, PySem.W.dataLt_str, decide_eq_true ((sign_lt d c).mpr h)]
        rfl
    · obtain ⟨m, h1, h2, h3⟩ := minD_signs c r
      refine ⟨m, ?_, fun x hx => ?_, ?_⟩
      · rcases List.mem_cons.mp h1 with rfl | h1
        · exact List.mem_cons_self
        · exact List.mem_cons_of_mem _ (List.mem_cons_of_mem _ h1)
      · rcases List.mem_cons.mp hx with rfl | hx
        · exact h2 x List.mem_cons_self
        · rcases List.mem_cons.mp hx with rfl | hx
          · have := h2 c List.mem_cons_self
            omega
          · exact h2 x (List.mem_cons_of_mem _ hx)
      · rw [← h3]
        unfold PySem.W.minD
        rw [List.map_cons, List.foldl_cons, PySem.W.dataLt_str, decide_eq_false (fun q => h ((sign_lt d c).mp q))]
        rfl
theorem cr_minL {X : Cx} (hc : X.calm = true) (hu : X.A.units + 64 < cLine) : CallR X (.builtin "min") (rMinL X.K) := by
  intro pins s σ H vs us Q I r h
  obtain ⟨a, cs, rfl, hs, hne, hlen, q⟩ := h
  obtain ⟨its, rv, hl, hn⟩ := I.list hs
  obtain ⟨u, rfl, ru⟩ := vals1 r
  obtain rfl : u = Value.ref a := ru
  obtain ⟨as, hr⟩ := Dp.readsAll I _ _ its (dp_signs cs) rv
  cases cs with
  | nil => exact absurd rfl hne
  | cons c cs =>
    have al : PySem.W.AlikeAll (((c :: cs)).map fun c => PyData.str (sign c)) := by
      refine ⟨fun x hx y hy => ?_, fun x hx => ?_⟩
      · obtain ⟨i, _, rfl⟩ := List.mem_map.mp hx
        obtain ⟨j, _, rfl⟩ := List.mem_map.mp hy
        rfl
      · obtain ⟨i, _, rfl⟩ := List.mem_map.mp hx
        exact fun q => by cases q
    have dp : ∀ l : List Nat, PyData.depthAll (l.map fun c => PyData.str (sign c)) = 0 := fun l => by
      induction l with
      | nil => rfl
      | cons x r ih => simp [PyData.depthAll, PyData.depth, ih]
    refine PySem.W.min_list_data (x := .str (sign c)) (xs := cs.map fun c => PyData.str (sign c)) (I.ok.hd hc) hl.isList (by simpa using hr) al (by
      have := dp (c :: cs)
      rw [List.map_cons] at this
      omega) fun i v h' tk bs hv hR hk => ?_
    obtain ⟨m, h1, h2, h3⟩ := minD_signs c cs
    rw [h3] at hR
    cases hR with
    | str z t => exact ⟨.str _, H, I.kept (t' := tk) hk, ⟨_, rfl⟩, q m h1 h2⟩
/-! 'a' * 8 -/
def rMulA : R2 := fun x y H Q => x = .str "a" ∧ y = .int 8 ∧ Q (.str "aaaaaaaa") H
theorem op_mulA {X : Cx} : OpR X (binaryOp .Mult) rMulA := by
  intro pins s σ H x y v u Q I rx ry h
  obtain ⟨rfl, rfl, q⟩ := h
  obtain ⟨t, rfl⟩ := rx
  obtain ⟨t', rfl⟩ := ry
  refine P.mul_str (by decide) (fun _ _ => by decide +kernel) (fun _ _ => by decide +kernel) ?_
  have e1 : ((8 : Int) == 1 || ("a" : Str).length == 0) = false := by decide +kernel
  rw [if_neg (by decide), e1]
  have e2 : (⟨(List.replicate (8 : Int).toNat ("a" : Str).cps).foldl (· ++ ·) #[]⟩ : Str) = "aaaaaaaa" := by decide +kernel
  show Made.post (Made.str (⟨(List.replicate (8 : Int).toNat ("a" : Str).cps).foldl (· ++ ·) #[]⟩ : Str)) _ _
  rw [e2]
  exact ⟨by decide +kernel, .str _, H, I.tok _, ⟨_, rfl⟩, q⟩
end Wl

namespace Wl
open PySem PySem.Spec PyProof.Rows L2
def topW (i : Nat) : Stmt := PySem.Challenge.pw_wordlines_k03_whole_no_shorter_rows.main.body.getD i (.Pass ⟨0, 0, 0, 0⟩)
abbrev wIsWord : Stmt := topW 9
abbrev wCheck : Stmt := topW 10
abbrev wIsLetter : Stmt := topW 11
abbrev wIsChange : Stmt := topW 12
abbrev wTupTo : Stmt := topW 13
abbrev wChecked : Stmt := topW 14
abbrev wReaches : Stmt := topW 15
abbrev wTurned : Stmt := topW 16
/-! y = {k: v for x in ..} -/
theorem ps_setDc {X : Cx} {i : Nat} {y : Str} {py : Pos} {kx vx tg iter : Expr} {ifs : List Expr} {scope : Scope} {own : List (Str × Nat)} {pos spos : Pos} {wi : TI} {g : TG} {tt : TT} {tk tv : TE} (hc : X.calm = true) (hN : X.N.Nodup) (hy : X.N[i]? = some y) (hyl : X.env.scope.names.lookup y = some .local)
    (hsw : swapsWith (.DictComp kx vx [⟨tg, iter, ifs, 0⟩] scope pos) (some (.Name y py)) spos.line X.env = pure true) (hi : PI X tg iter wi) (ok : BlkOk X.N X.env.scope scope own)
    (hg : ∀ (s : Shared) (H : Hp) (C : Addr) (cl : List (Str × Addr)) (fp : List Addr), PG (X.blk s H scope (compEnvC scope cl C X.env) fp) tg g) (ht : ∀ (s : Shared) (H : Hp) (C : Addr) (cl : List (Str × Addr)) (fp : List Addr), PTs (X.blk s H scope (compEnvC scope cl C X.env) fp) ifs tt)
    (hk : ∀ (s : Shared) (H : Hp) (C : Addr) (cl : List (Str × Addr)) (fp : List Addr), PE (X.blk s H scope (compEnvC scope cl C X.env) fp) kx tk) (he : ∀ (s : Shared) (H : Hp) (C : Addr) (cl : List (Str × Addr)) (fp : List Addr), PE (X.blk s H scope (compEnvC scope cl C X.env) fp) vx tv)
    (hs : ∀ x, foldedSetIterable iter X.env x = pure x := by intro _; rfl) :
    PS X (.Assign [.Name y py] (.DictComp kx vx [⟨tg, iter, ifs, 0⟩] scope pos) spos) (tAsg (tDc wi g tt tk tv (own.map (·.2))) (gName i)) := by
  constructor
  intro pins s σ H D I h
  rw [exec_Assign_Name_used _ _ _ _ hsw]
  refine wpAny_bind (wpAny_standAt (wpAny_bind ?_))
  show wpAny _ X.A (do let _ ← comprehension (.DictComp kx vx [⟨tg, iter, ifs, 0⟩] scope pos) scope X.env (firstIterPos [⟨tg, iter, ifs, 0⟩] pos) newDict false (eval iter X.env) (some (assign (.Name y py) X.env))) _ _ s
  have h2 : tDc wi g tt tk tv (own.map (·.2)) σ H (fun x H1 => gName i x σ H1 D.nx) := h
  refine wpAny_bind (thn (dc_core (Qf := fun _ s' => SP X pins D .next s') hc hN I hi ok hg ht hk he hs h2 fun L C s' m H' I' q hn f => ?_) fun _ s' hq => wpAny_pure (wpAny_pure hq))
  show wpAny _ _ (assign (.Name y py) X.env (.ref L)) _ _ _
  obtain ⟨f0, f1, f2, f3, f4, f5⟩ := f
  refine wpAny_assign_Name (store_ok2 (v := V.ref L) I' hN hy (.inl hyl) rfl (fun s2 I2 ⟨a, sb, ha⟩ => ?_) (.inr hyl))
  have haC : C ≠ a := ha.elim (fun z => z ▸ f1) (fun z e => f4 y a z e.symm)
  exact ⟨m, hn.sameBut sb haC, fun h3 sb3 => ⟨_, H', I2.turned (t' := s2.toks) (fun b o hb e => (sb3.2 b hb).trans e) f0 f1 f3 f4 f5, q⟩⟩
theorem sw_dict {kx vx : Expr} {gs : List Comprehension} {scope : Scope} {pos py : Pos} {y : Str} {l : Nat} {env : Env} (hk : env.scope.kind = .function) (hy : env.scope.names.lookup y = some .local) (hl : (py.line == pos.line) = true)
    (ha : (scope.names.any fun (n, k) => n == y && (k == .local || k == .cell)) = false) : swapsWith (.DictComp kx vx gs scope pos) (some (.Name y py)) l env = pure true := by
  have ky : env.kindOf y = some .local := hy
  have hb : env.blockKind = .function := by
    show env.blockKind = _
    unfold Env.blockKind
    rw [hk]
    rfl
  show (do return env.blockKind == .function && env.kindOf y == some .local && py.line == pos.line && !(scope.names.any fun (n, k) => n == y && (k == .local || k == .cell)) : Sem Bool) = _
  rw [hb, ky, ha, hl]
  rfl

structure Bw (mg : Str → Option Value) : Prop where
  bool : mg "bool" = none
structure Gw (K : PySem.W.Frag) (mg : Str → Option Value) : Prop where
  letters : ∃ t, mg "LETTERS" = some (.str "abcdefghijklmnopqrstuvwxyz" t)
  longest : ∃ t, mg "LONGEST_WORD" = some (.int 8 t)
  mostch : ∃ t, mg "MOST_CHANGES" = some (.int 12 t)
  wheres : ∃ a, mg "WHERES" = some (.ref a) ∧ ∀ H, SqT K H a [.str "first", .str "last", .str "any"]
def letB (c : Nat) : Bool := decide (97 ≤ c) && decide (c ≤ 122)
def letV : V → V
  | .str s => .bl (s.cps.toList.all letB)
  | v => v
theorem letB_mem (c : Nat) : decide (c ∈ ("abcdefghijklmnopqrstuvwxyz" : Str).cps.toList) = letB c := by
  rw [letters_eq]
  unfold letB
  by_cases h : c ∈ List.range' 97 26
  · rw [decide_eq_true h]
    rw [List.mem_range'_1] at h
    simp
    omega
  · rw [decide_eq_false h]
    rw [List.mem_range'_1] at h
    symm
    rw [Bool.and_eq_false_iff, decide_eq_false_iff_not, decide_eq_false_iff_not]
    omega
/-- whether a thing of any kind is a word -/
def Wv (K : PySem.W.Frag) (H : Hp) (v : V) (b : Bool) : Prop := (∃ z, v = .str z ∧ z.length ≤ 1000 ∧ b = wdB z) ∨ (∃ t, TyX K H v t ∧ PySem.W.kitOne K t (.type "str") = some false ∧ b = false)
section
variable {P : Program} {w : World} {K : PySem.W.Frag} {mg : Str → Option Value} {base : Heap} {f : Addr} {fd : FuncData}
def spIsW (K : PySem.W.Frag) : Sp := fun vs H Q _ => ∃ (v : V) (b : Bool), vs = [v] ∧ Wv K H v b ∧ ∀ (H' : Hp), Same H H' → Q (.bl b) H'
abbrev nIsWord : List Str := ["thing", "letter"]
theorem scIsW : FnScope nIsWord ["thing"] (defScope wIsWord) := ⟨rfl, rfl, rfl, by decide +kernel, rfl, by decide +kernel, by decide +kernel⟩
theorem ok_isw (F : Fun K "is_word" "is_word" wIsWord f fd) (B : Bi mg) (G : Gw K mg) : FnOk P w K mg base CX0 1 f fd ["thing"] (spIsW K) := by
  obtain ⟨t1, g1⟩ := G.letters
  obtain ⟨t2, g2⟩ := G.longest
  refine F.ok scIsW (fun vs H Q E h => ?_) (fun cdv A outer s H vs Q E hr h => ?_)
  · obtain ⟨v, b, rfl, _⟩ := h
    rfl
  · obtain ⟨v, b, rfl, hw, q⟩ := h
    refine ⟨_, pss_cons (ps_if (PW.pt (pw_or (pt_not (pt_val (pe_callB call_isi (by rfl) B.isi (by decide +kernel) (pa_cons (pv 0) (pa_cons (pe_bltn (v := .ty "str") (by rfl) B.str (by decide +kernel) rfl) pa_nil)))))
        (pw_or1 (pt_not (pt_chain op_le op_le pe_int (pe_callB call_len_str (by rfl) B.len PySem.boot_len (pa_cons (pv 0) pa_nil)) (pe_glob (v := .int 8) rfl g2 ⟨_, rfl⟩)))))) (pss_one (ps_ret pe_bl)) pss_nil)
      (pss_one (ps_ret (pe_callB (cr_all rfl) (by rfl) B.all (by decide +kernel) (pa_cons (pe_lc (own := [("letter", 1)]) (g := gName 1) (tt := tYes) rfl scIsW.nd (pi_str (pv 0)) (blkOk_by (N := nIsWord) (sc := defScope wIsWord) (by decide +kernel))
        (fun _ _ _ _ _ => pg_name (i := 1) scIsW.nd rfl (.inl rfl)) (fun _ _ _ _ _ => pts_nil) (fun _ _ _ _ _ => pe_cmpR op_in_sign (pv 1) (pe_glob (v := .str "abcdefghijklmnopqrstuvwxyz") rfl g1 ⟨_, rfl⟩) rfl)) pa_nil)))), ?_⟩
    rcases hw with ⟨z, rfl, hz, rfl⟩ | ⟨t, ty, hk, rfl⟩
    · refine ⟨_, rfl, _, _, _, _, _, rfl, .ty "str", .base (.str z), kit_ty (r := true) (by decide +kernel), true, rfl, ?_⟩
      refine iteF ⟨_, rfl, _, rfl, lzl hz, _, _, rfl, rfl, _, rfl, ite_b (fun e1 => ?_) (fun e1 => ?_)⟩
      · refine ⟨_, _, rfl, rfl, _, rfl, not_b (fun e2 => ?_) (fun e2 => ?_)⟩
        · have e2' : ¬ ((z.length : Int) ≤ 8) := of_decide_eq_false e2
          have : wdB z = false := by
            unfold wdB
            rw [decide_eq_false (show ¬ z.length ≤ 8 by omega)]
            simp
          rw [← this]
          exact q H (Same.refl H)
        · have h1 : 1 ≤ z.length := by
            have := of_decide_eq_true e1
            omega
          have h8 : z.length ≤ 8 := by
            have := of_decide_eq_true e2
            omega
          refine ⟨_, rfl, _, rfl, fun D hD => lc_map walk_signs hD (fun _ => true) letV (fun _ _ => trivial) (fun _ => rfl) (fun x H' _ _ Q' q' => q') ?_ ?_ ?_⟩
          · intro x H' hx _ _ Q' q'
            obtain ⟨c, hc, rfl⟩ := List.mem_map.mp hx
            refine ⟨_, rfl, c, _, rfl, rfl, ?_⟩
            rw [letB_mem]
            have : letV (.str (sign c)) = .bl (letB c) := by
              show V.bl ([c].all letB) = _
              simp
            rw [this] at q'
            exact q'
          · unfold signsOf
            rw [List.length_map, Array.length_toList]
            exact small1000 (by have : z.length = z.cps.size := rfl; omega)
          · intro H' s' hD'
            have e0 : ((signsOf z).filter fun _ => true).map letV = (z.cps.toList.map letB).map V.bl := by
              rw [List.filter_eq_self.mpr fun _ _ => rfl]
              unfold signsOf
              rw [List.map_map, List.map_map]
              refine List.map_congr_left fun c _ => ?_
              show V.bl ([c].all letB) = _
              simp
            refine ⟨D, z.cps.toList.map letB, rfl, .inl (.inl (by rw [hD', e0])), ?_⟩
            have : (z.cps.toList.map letB).all id = wdB z := by
              unfold wdB
              rw [decide_eq_true h1, decide_eq_true h8, List.all_map]
              rfl
            rw [this]
            exact q H' s'
      · refine ⟨false, rfl, iteT ?_⟩
        have : wdB z = false := by
          have e1' : ¬ ((1 : Int) ≤ z.length) := of_decide_eq_false e1
          unfold wdB
          rw [decide_eq_false (show ¬ 1 ≤ z.length by omega)]
          simp
        rw [← this]
        exact q H (Same.refl H)
    · exact ⟨_, rfl, _, _, _, _, _, rfl, .ty "str", ty, hk, false, rfl, iteT (q H (Same.refl H))⟩
theorem wv_wd {K : PySem.W.Frag} {H : Hp} {z : Str} (h : IsWd z) : Wv K H (.str z) true := .inl ⟨z, rfl, by have := h.len; omega, (show wdB z = true from h).symm⟩
theorem sign_wd {c : Nat} (h : isLet c) : IsWd (sign c) := wd_codes.mpr ⟨⟨Nat.le_refl 1, Nat.le_of_ble_eq_true rfl⟩, fun d hd => by
  have : d = c := by simpa [codes, sign] using hd
  rw [this]
  exact h⟩
/-! ### check_word, is_letter -/
def spCheckW : Sp := fun vs H Q _ => ∃ (z : Str), vs = [.str z] ∧ IsWd z ∧ ∀ (H' : Hp), Same H H' → Q .non H'
theorem scCheckW : FnScope ["word"] ["word"] (defScope wCheck) := ⟨rfl, rfl, rfl, by decide +kernel, rfl, by decide +kernel, by decide +kernel⟩
theorem ok_checkw (F : Fun K "check_word" "check_word" wCheck f fd) (hI : Has P w K mg base "is_word" 1 ["thing"] (spIsW K)) : FnOk P w K mg base CX0 2 f fd ["word"] spCheckW := by
  refine F.ok scCheckW (fun vs H Q E h => ?_) (fun cdv A outer s H vs Q E hr h => ?_)
  · obtain ⟨z, rfl, _⟩ := h
    rfl
  · obtain ⟨z, rfl, hz, q⟩ := h
    exact ⟨_, pss_one (ps_if (pt_not (pt_val (pe_h hI hr (pa_cons (pv 0) pa_nil)))) (pss_one ps_never) pss_nil), _, rfl, _, true, rfl, wv_wd hz, fun H1 s1 => ⟨_, rfl, iteF (q H1 s1)⟩⟩
def spIsLet : Sp := fun vs H Q _ => ∃ (c : Nat), vs = [sgV c] ∧ isLet c ∧ ∀ (H' : Hp), Same H H' → Q (.bl true) H'
theorem scIsLet : FnScope ["thing"] ["thing"] (defScope wIsLetter) := ⟨rfl, rfl, rfl, by decide +kernel, rfl, by decide +kernel, by decide +kernel⟩
theorem ok_islet (F : Fun K "is_letter" "is_letter" wIsLetter f fd) (B : Bi mg) (hI : Has P w K mg base "is_word" 1 ["thing"] (spIsW K)) : FnOk P w K mg base CX0 2 f fd ["thing"] spIsLet := by
  refine F.ok scIsLet (fun vs H Q E h => ?_) (fun cdv A outer s H vs Q E hr h => ?_)
  · obtain ⟨z, rfl, _⟩ := h
    rfl
  · obtain ⟨c, rfl, hc, q⟩ := h
    refine ⟨_, pss_one (ps_ret (pe_and (pe_h hI hr (pa_cons (pv 0) pa_nil)) (pe_one (pe_cmpR op_eq (pe_callB call_len_str (by rfl) B.len PySem.boot_len (pa_cons (pv 0) pa_nil)) pe_int (nomark _))))), ?_⟩
    refine ⟨_, rfl, _, true, rfl, wv_wd (sign_wd hc), fun H1 s1 => ⟨true, rfl, iteT ⟨_, rfl, _, rfl, lz, rfl, ?_⟩⟩⟩
    rw [show decide (V.int ((sign c).length : Int) = V.int 1) = true from decide_eq_true rfl]
    exact q H1 s1
/-! ### changes -/
def chV (ch : Chg) : List V := [sgV ch.1, sgV ch.2.1, .str (whS ch.2.2)]
theorem wh_dec (a b : Wh) : decide (V.str (whS a) = V.str (whS b)) = decide (a = b) := by
  cases a <;> cases b <;> decide +kernel
theorem sg_dec (a b : Nat) : decide (sgV a = sgV b) = decide (a = b) := by
  by_cases h : a = b
  · subst h
    simp
  · have : sgV a ≠ sgV b := fun e => h (by
      have e2 := congrArg (fun z : Str => z.cps.toList) (V.str.inj e)
      simpa [sign] using e2)
    rw [decide_eq_false h, decide_eq_false this]
def spIsCh : Sp := fun vs H Q _ => ∃ (p : Addr) (ch : Chg), vs = [.ref p] ∧ H p = some (.tup (chV ch)) ∧ OkC ch ∧ ∀ (H' : Hp), Same H H' → Q (.bl true) H'
abbrev nIsCh : List Str := ["thing", "one", "other", "where"]
theorem scIsCh : FnScope nIsCh ["thing"] (defScope wIsChange) := ⟨rfl, rfl, rfl, by decide +kernel, rfl, by decide +kernel, by decide +kernel⟩
theorem ok_isch (F : Fun K "is_change" "is_change" wIsChange f fd) (B : Bi mg) (G : Gw K mg) (hL : Has P w K mg base "is_letter" 2 ["thing"] spIsLet) : FnOk P w K mg base CX0 3 f fd ["thing"] spIsCh := by
  obtain ⟨wa, gw, hw⟩ := G.wheres
  refine F.ok scIsCh (fun vs H Q E h => ?_) (fun cdv A outer s H vs Q E hr h => ?_)
  · obtain ⟨p, ch, rfl, _⟩ := h
    rfl
  · obtain ⟨p, ch, rfl, hp, ok, q⟩ := h
    refine ⟨_, pss_cons (ps_if (PW.pt (pw_or (pt_not (pt_val (pe_callB call_isi (by rfl) B.isi (by decide +kernel) (pa_cons (pv 0) (pa_cons (pe_bltn (v := .ty "tuple") (by rfl) B.tuple (by decide +kernel) rfl) pa_nil)))))
        (pw_or1 (pt_cmpR op_ne (pe_callB call_len_seq (by rfl) B.len PySem.boot_len (pa_cons (pv 0) pa_nil)) pe_int (nomark _))))) (pss_one (ps_ret pe_bl)) pss_nil)
      (pss_cons (ps_asg (pv 0) (pg_tup rfl (pgs_cons (pg_name (i := 1) scIsCh.nd rfl (.inl rfl)) (pgs_cons (pg_name (i := 2) scIsCh.nd rfl (.inl rfl)) (pgs_cons (pg_name (i := 3) scIsCh.nd rfl (.inl rfl)) pgs_nil)))))
      (pss_cons (ps_if (PW.pt (pw_or (pt_not (pt_val (pe_h hL hr (pa_cons (pv 1) pa_nil)))) (pw_or (pt_not (pt_val (pe_h hL hr (pa_cons (pv 2) pa_nil)))) (pw_or1 (pt_cmpR op_eq (pv 1) (pv 2) (nomark _)))))) (pss_one (ps_ret pe_bl)) pss_nil)
      (pss_one (ps_ret (pe_and (pe_callB call_isi (by rfl) B.isi (by decide +kernel) (pa_cons (pv 3) (pa_cons (pe_bltn (v := .ty "str") (by rfl) B.str (by decide +kernel) rfl) pa_nil))) (pe_one (pe_cmpR op_in_seq (pv 3) (pe_glob (v := .ref wa) rfl gw rfl) (by rfl)))))))), ?_⟩
    refine ⟨_, rfl, _, _, _, _, _, rfl, .ty "tuple", .base (.tup hp), kit_ty (r := true) (by decide +kernel), true, rfl, ?_⟩
    refine iteF ⟨_, rfl, p, _, rfl, .inr (.inl (.inl hp)), rfl, _, rfl, ?_⟩
    refine iteNS rfl ?_
    refine ⟨_, rfl, p, _, rfl, .inl (.inl hp), rfl, _, _, rfl, _, _, rfl, _, _, rfl, rfl, ?_⟩
    refine ⟨_, rfl, ch.1, rfl, ok.1, fun H1 s1 => ⟨true, rfl, iteF ⟨_, rfl, ch.2.1, rfl, ok.2.1, fun H2 s2 => ⟨true, rfl, iteF ⟨_, rfl, _, rfl, rfl, _, rfl, ?_⟩⟩⟩⟩⟩
    rw [sg_dec, decide_eq_false ok.2.2]
    refine iteF ⟨_, rfl, _, _, _, _, _, rfl, .ty "str", .base (.str _), kit_ty (r := true) (by decide +kernel), true, rfl, iteT ⟨_, rfl, wa, _, rfl, .inr (hw H2), rfl, rfl, ?_⟩⟩
    have e : inV (.str (whS ch.2.2)) [.str "first", .str "last", .str "any"] = true := by
      generalize ch.2.2 = wh
      cases wh <;> decide +kernel
    rw [if_neg (by decide), e]
    exact q H2 (s1.trans s2)
/-- a tuple of changes -/
def ChAt (H : Hp) (S : Addr) (chs : List Chg) : Prop := ∃ as : List Addr, H S = some (.tup (as.map V.ref)) ∧ Each (fun (p : Addr) (ch : Chg) => H p = some (.tup (chV ch))) as chs
theorem ChAt.keep {H H' : Hp} {S : Addr} {chs : List Chg} (h : ChAt H S chs) (k : ∀ p xs, H p = some (.tup xs) → H' p = some (.tup xs)) : ChAt H' S chs := by
  obtain ⟨as, h1, h2⟩ := h
  exact ⟨as, k _ _ h1, h2.mono fun p ch e => k _ _ e⟩
theorem ChAt.same {H H' : Hp} {S : Addr} {chs : List Chg} (h : ChAt H S chs) (s : Same H H') : ChAt H' S chs := h.keep fun p xs e => s _ _ e
def OkCs (chs : List Chg) : Prop := chs.length ≤ 12 ∧ ∀ ch ∈ chs, OkC ch
/-- what is handed in for changes: None, or a tuple of them -/
def ChV (H : Hp) (v : V) (chs : List Chg) : Prop := (v = .non ∧ chs = []) ∨ ∃ S, v = .ref S ∧ ChAt H S chs
theorem ChV.same {H H' : Hp} {v : V} {chs : List Chg} (h : ChV H v chs) (s : Same H H') : ChV H' v chs := by
  rcases h with h | ⟨S, e, h⟩
  · exact .inl h
  · exact .inr ⟨S, e, h.same s⟩
def spChecked : Sp := fun vs H Q _ => ∃ (v : V) (chs : List Chg), vs = [v] ∧ ChV H v chs ∧ OkCs chs ∧ ∀ (S : Addr) (H' : Hp), Same H H' → ChAt H' S chs → Q (.ref S) H'
abbrev nChecked : List Str := ["changes", "place", "change"]
theorem scChecked : FnScope nChecked ["changes"] (defScope wChecked) := ⟨rfl, rfl, rfl, by decide +kernel, rfl, by decide +kernel, by decide +kernel⟩
/-! ### is_tuple_up_to -/
def spTupTo : Sp := fun vs H Q _ => ∃ (S : Addr) (xs : List V) (n : Int), vs = [.ref S, .int n] ∧ H S = some (.tup xs) ∧ Q (.bl (decide ((xs.length : Int) ≤ n))) H
theorem scTupTo : FnScope ["thing", "most"] ["thing", "most"] (defScope wTupTo) := ⟨rfl, rfl, rfl, by decide +kernel, rfl, by decide +kernel, by decide +kernel⟩
theorem ok_tupto (F : Fun K "is_tuple_up_to" "is_tuple_up_to" wTupTo f fd) (B : Bi mg) : FnOk P w K mg base CX0 1 f fd ["thing", "most"] spTupTo := by
  refine F.ok scTupTo (fun vs H Q E h => ?_) (fun cdv A outer s H vs Q E hr h => ?_)
  · obtain ⟨S, xs, n, rfl, _⟩ := h
    rfl
  · obtain ⟨S, xs, n, rfl, hS, q⟩ := h
    refine ⟨_, pss_one (ps_ret (pe_and (pe_callB call_isi (by rfl) B.isi (by decide +kernel) (pa_cons (pv 0) (pa_cons (pe_bltn (v := .ty "tuple") (by rfl) B.tuple (by decide +kernel) rfl) pa_nil))) (pe_one (pe_cmpR op_le (pe_callB call_len_seq (by rfl) B.len PySem.boot_len (pa_cons (pv 0) pa_nil)) (pv 1) (nomark _))))), ?_⟩
    exact ⟨_, rfl, _, _, _, _, _, rfl, .ty "tuple", .base (.tup hS), kit_ty (r := true) (by decide +kernel), true, rfl, iteT ⟨_, rfl, S, _, rfl, .inr (.inl (.inl hS)), _, rfl, _, _, rfl, rfl, q⟩⟩
theorem ok_checked (F : Fun K "checked_changes" "checked_changes" wChecked f fd) (B : Bi mg) (G : Gw K mg) (hTu : Has P w K mg base "is_tuple_up_to" 1 ["thing", "most"] spTupTo) (hC : Has P w K mg base "is_change" 3 ["thing"] spIsCh) : FnOk P w K mg base CX0 4 f fd ["changes"] spChecked := by
  obtain ⟨t1, g1⟩ := G.mostch
  refine F.ok scChecked (fun vs H Q E h => ?_) (fun cdv A outer s H vs Q E hr h => ?_)
  · obtain ⟨v, chs, rfl, _⟩ := h
    rfl
  · obtain ⟨v, chs, rfl, hv, ok, q⟩ := h
    refine ⟨_, pss_cons (ps_if (pt_cmp (pc_isN (pv 0))) (pss_one (ps_ret (pe_tup pa_nil))) pss_nil)
      (pss_cons (ps_if (pt_not (pt_val (pe_h hTu hr (pa_cons (pv 0) (pa_cons (pe_glob (v := .int 12) rfl g1 ⟨_, rfl⟩) pa_nil))))) (pss_one ps_never) pss_nil)
      (pss_cons (ps_for PassesOwn.never rfl (pi_enumT (by rfl) B.enum (pa_cons (pv 0) pa_nil)) (pg_tup rfl (pgs_cons (pg_name (i := 1) scChecked.nd rfl (.inl rfl)) (pgs_cons (pg_name (i := 2) scChecked.nd rfl (.inl rfl)) pgs_nil)))
        (pss_one (ps_if (pt_not (pt_val (pe_h hC hr (pa_cons (pv 2) pa_nil)))) (pss_one ps_never) pss_nil)))
      (pss_one (ps_ret (pv 0))))), ?_⟩
    rcases hv with ⟨rfl, rfl⟩ | ⟨S, rfl, as, hS, hE⟩
    · exact ⟨_, rfl, _, rfl, iteT ⟨lz, fun p hp => q p _ (same_new hp) ⟨[], upd_same, .nil⟩⟩⟩
    · refine ⟨_, rfl, _, rfl, iteF ?_⟩
      have hl : (as.map V.ref).length = chs.length := by rw [List.length_map, hE.length]
      refine ⟨_, rfl, S, _, 12, rfl, hS, _, rfl, ?_⟩
      rw [hl, decide_eq_true (by have := ok.1; omega)]
      refine iteF ⟨_, rfl, S, _, rfl, .inl (.inl hS), for_it (walk_enumT (K := K) (a := S) (xs := as.map V.ref)) (fun i σ H' => (∃ y1 y2, σ = [some (.ref S), y1, y2]) ∧ Same H H') ⟨⟨_, _, rfl⟩, Same.refl H⟩ (fun i σ H' _ h => .inl (.inl (h.2 _ _ hS))) ?_ ?_⟩
      · rintro i x σ H1 H2 hi ⟨⟨y1, y2, rfl⟩, s1⟩ ⟨T, x1, x2, rfl, hT, rfl, ex1, ex2⟩
        cases ex1
        have ex2 : (as.map V.ref)[i]? = some x2 := ex2
        rw [List.getElem?_map] at ex2
        obtain ⟨p, hp, rfl⟩ := Option.map_eq_some_iff.mp ex2
        obtain ⟨ch, hch, hH⟩ := hE.get hp
        have s2 : Same H1 (upd H1 T (.tup [.int i, .ref p])) := same_new hT
        refine ⟨T, _, rfl, .inl (.inl upd_same), rfl, _, _, rfl, _, _, rfl, rfl, ?_⟩
        exact ⟨_, rfl, p, ch, rfl, s2 _ _ (s1 _ _ hH), ok.2 ch (List.mem_of_getElem? hch), fun H3 s3 => ⟨true, rfl, iteF ⟨⟨_, _, rfl⟩, (s1.trans s2).trans s3⟩⟩⟩
      · rintro σ H1 ⟨⟨y1, y2, rfl⟩, s1⟩
        exact ⟨_, rfl, q S H1 s1 ⟨as, s1 _ _ hS, hE.mono fun p ch e => s1 _ _ e⟩⟩
/-! ### reaches -/
def spReaches : Sp := fun vs H Q _ => ∃ (wh : Wh) (i n : Nat), vs = [.str (whS wh), .int i, .int n] ∧ Q (.bl (acts wh i n)) H
theorem scReaches : FnScope ["where", "place", "length"] ["where", "place", "length"] (defScope wReaches) := ⟨rfl, rfl, rfl, by decide +kernel, rfl, by decide +kernel, by decide +kernel⟩
theorem int_dec (a b : Int) : decide (V.int a = V.int b) = decide (a = b) := by
  by_cases h : a = b
  · subst h
    simp
  · rw [decide_eq_false h, decide_eq_false fun e => h (V.int.inj e)]
theorem ok_reaches (F : Fun K "reaches" "reaches" wReaches f fd) : FnOk P w K mg base CX0 1 f fd ["where", "place", "length"] spReaches := by
  refine F.ok scReaches (fun vs H Q E h => ?_) (fun cdv A outer s H vs Q E hr h => ?_)
  · obtain ⟨wh, i, n, rfl, _⟩ := h
    rfl
  · obtain ⟨wh, i, n, rfl, q⟩ := h
    refine ⟨_, pss_cons (ps_if (pt_cmpR op_eq (pv 0) pe_str (nomark _)) (pss_one (ps_ret (pe_cmpR op_eq (pv 1) pe_int (nomark _)))) pss_nil)
      (pss_cons (ps_if (pt_cmpR op_eq (pv 0) pe_str (nomark _)) (pss_one (ps_ret (pe_cmpR op_eq (pv 1) (pe_op op_sub (pv 2) pe_int) (nomark _)))) pss_nil)
      (pss_one (ps_ret pe_bl))), ?_⟩
    have e1 : decide (V.str (whS wh) = V.str "first") = decide (wh = .first) := wh_dec wh .first
    have e2 : decide (V.str (whS wh) = V.str "last") = decide (wh = .last) := wh_dec wh .last
    refine ⟨_, rfl, rfl, _, rfl, ?_⟩
    rw [e1]
    cases wh with
    | first =>
      refine iteT ⟨_, rfl, rfl, ?_⟩
      rw [int_dec]
      have : decide ((i : Int) = 0) = acts .first i n := by
        unfold acts
        by_cases h : i = 0
        · simp [h]
        · simp [h]
      rw [this]
      exact q
    | last =>
      refine iteF ⟨_, rfl, rfl, _, rfl, ?_⟩
      rw [e2]
      refine iteT ⟨_, rfl, _, rfl, _, _, rfl, rfl, rfl, ?_⟩
      rw [int_dec]
      have : decide ((i : Int) = (n : Int) - 1) = acts .last i n := by
        unfold acts
        by_cases h : i + 1 = n
        · rw [decide_eq_true h, decide_eq_true (by omega)]
        · rw [decide_eq_false h, decide_eq_false (by omega)]
      rw [this]
      exact q
    | any =>
      refine iteF ⟨_, rfl, rfl, _, rfl, ?_⟩
      rw [e2]
      exact iteF q
end
end Wl

namespace Wl
open PySem PySem.Spec PyProof.Rows L2
abbrev wSteps : Stmt := topW 17
/-! a dict comprehension over a walk -/
theorem dc_it {J : It} {n : Nat} {G : Hp → Prop} {Y : Nat → Hp → V → Hp → Prop} (w : L2.Walk J n G Y) {g : TG} {tt : TT} {tk tv : TE} {vs : List Nat} {σ : L2.St} {H1 : Hp} {D : Addr} {Qd : Hp → Prop} (Pv : Nat → Hp → Prop) (h0 : Pv 0 (upd H1 D (.dK []))) (hG : ∀ i H, i ≤ n → Pv i H → G H)
    (hs : ∀ i x H H', i < n → Pv i H → Y i H x H' → g x (wipe σ vs) H' fun σ2 H2 => wipe σ2 vs = wipe σ vs ∧ tt σ2 H2 fun b H3 =>
      if b = true then tk σ2 H3 fun y H4 => tv σ2 H4 fun z H5 => ∃ kvs k, y = kV k ∧ H5 D = some (.dK kvs) ∧ kvs.length < sizeLine ∧ Pv (i + 1) (upd H5 D (.dK (putK kvs k z))) else Pv (i + 1) H3) (hd : ∀ H, Pv n H → Qd H) :
    ∃ W : Nat → Nat → Hp → Prop, (∃ m, W 0 m (upd H1 D (.dK []))) ∧ ∀ i m H, W i m H →
      (J.stop i H ∧ Qd H) ∨ (J.go i H ∧ ∃ Nx : Hp → Prop, (∀ H', Nx H' → ∃ m', m' < m ∧ W (i + 1) m' H') ∧ ∀ x H', J.yld i H x H' → g x (wipe σ vs) H' fun σ2 H2 => wipe σ2 vs = wipe σ vs ∧ tt σ2 H2 fun b H3 =>
        if b = true then tk σ2 H3 fun y H4 => tv σ2 H4 fun z H5 => ∃ kvs k, y = kV k ∧ H5 D = some (.dK kvs) ∧ kvs.length < sizeLine ∧ Nx (upd H5 D (.dK (putK kvs k z))) else Nx H3) := by
  refine ⟨fun i m H => m = n - i ∧ i ≤ n ∧ Pv i H, ⟨n, by simp, Nat.zero_le _, h0⟩, ?_⟩
  rintro i m H ⟨rfl, hi, p⟩
  have q := hG i H hi p
  by_cases hlt : i < n
  · exact .inr ⟨w.goes i H hlt q, Pv (i + 1), fun H' p' => ⟨n - (i + 1), by omega, rfl, hlt, p'⟩, fun x H' y => hs i x H H' hlt p (w.yields i H x H' hlt q y)⟩
  · have e : i = n := by omega
    subst e
    exact .inl ⟨w.stops H q, hd H p⟩
abbrev kS (c : Nat) : Key := Sum.inr (sign c)
theorem kS_inj {a b : Nat} (h : kS a = kS b) : a = b := by
  have e := congrArg (fun z : Str => z.cps.toList) (Sum.inr.inj h)
  simpa [sign] using e
def kvL (ad : Nat → V) (l : List Nat) : List (Key × V) := l.map fun c => (kS c, ad c)
theorem valV_kvL (ad : Nat → V) (c : Nat) : ∀ l : List Nat, valV (kvL ad l) (kS c) = if c ∈ l then some (ad c) else none
  | [] => rfl
  | d :: r => by
    by_cases h : d = c
    · subst h
      rw [if_pos List.mem_cons_self]
      exact valV_pos rfl
    · have h1 : valV (kvL ad (d :: r)) (kS c) = valV (kvL ad r) (kS c) := valV_neg fun e => h (kS_inj e)
      rw [h1, valV_kvL ad c r]
      have h2 : (c ∈ d :: r) = (c ∈ r) := by
        simp only [List.mem_cons, eq_iff_iff]
        constructor
        · rintro (e | e)
          · exact absurd e.symm h
          · exact e
        · exact .inr
      simp only [h2]
theorem kvL_congr {a b : Nat → V} {l : List Nat} (h : ∀ c ∈ l, a c = b c) : kvL a l = kvL b l := List.map_congr_left fun c hc => by rw [h c hc]
structure TurnI (H : Hp) (D : Addr) (ad : Nat → Addr) (E : Edges) : Prop where
  dict : H D = some (.dK (kvL (fun c => .ref (ad c)) (List.range' 97 26)))
  lst : ∀ c, isLet c → H (ad c) = some (.lst ((nbrs E c).map sgV))
  inj : ∀ c d, isLet c → isLet d → ad c = ad d → c = d
theorem let_mem {c : Nat} : isLet c ↔ c ∈ List.range' 97 26 := by
  rw [List.mem_range'_1]
  unfold isLet
  omega
def TurnAt (H : Hp) (D : Addr) (E : Edges) : Prop := ∃ ad, TurnI H D ad E
theorem TurnI.val {H : Hp} {D : Addr} {ad : Nat → Addr} {E : Edges} (t : TurnI H D ad E) {c : Nat} (h : isLet c) : DGet H D (sgV c) (some (.ref (ad c))) := by
  have := DGet.k (k := kS c) t.dict
  rw [valV_kvL, if_pos (let_mem.mp h)] at this
  exact this
theorem TurnI.same {H H' : Hp} {D : Addr} {ad : Nat → Addr} {E : Edges} (t : TurnI H D ad E) (s : Same H H') : TurnI H' D ad E := ⟨s _ _ t.dict, fun c h => s _ _ (t.lst c h), t.inj⟩
theorem room1 {k : Nat} {A : Around} (r : Room k A) : A.units + 1 < cLine := by have := r.un; omega
theorem nbrs_len (E : Edges) (c : Nat) : (nbrs E c).length ≤ 2 * E.length := by
  induction E with
  | nil => simp [nbrs]
  | cons e r ih =>
    have h1 : nbrs (e :: r) c = nbE c e ++ nbrs r c := rfl
    have h2 : (nbE c e).length ≤ 2 := by
      unfold nbE
      split <;> split <;> simp
    rw [h1, List.length_append, List.length_cons]
    omega
theorem es_len (chs : List Chg) (i n : Nat) : (es chs i n).length ≤ chs.length := by
  unfold es
  rw [List.length_map]
  exact List.length_filter_le _ _
theorem es_snoc (l : List Chg) (ch : Chg) (i n : Nat) : es (l ++ [ch]) i n = es l i n ++ (if acts ch.2.2 i n = true then [(ch.1, ch.2.1)] else []) := by
  unfold es
  rw [List.filter_append, List.map_append]
  by_cases h : acts ch.2.2 i n = true
  · simp [h]
  · simp [h]
theorem signs_abc : signsOf "abcdefghijklmnopqrstuvwxyz" = (List.range' 97 26).map sgV := by
  unfold signsOf
  rw [letters_eq]
  rfl
theorem TurnI.push {H : Hp} {D : Addr} {ad : Nat → Addr} {E : Edges} (t : TurnI H D ad E) {a b : Nat} (ha : isLet a) (hb : isLet b) (hn : a ≠ b) :
    TurnI (upd (upd H (ad a) (.lst ((nbrs E a).map sgV ++ [sgV b]))) (ad b) (.lst ((nbrs E b).map sgV ++ [sgV a]))) D ad (E ++ [(a, b)]) := by
  have nab : ad a ≠ ad b := fun e => hn (t.inj a b ha hb e)
  have nd : ∀ c, isLet c → D ≠ ad c := fun c hc => ne_of t.dict (t.lst c hc) (by intro z; cases z)
  refine ⟨?_, fun c hc => ?_, t.inj⟩
  · rw [upd_ne (nd b hb), upd_ne (nd a ha)]
    exact t.dict
  · rw [nbrs_snoc]
    by_cases h1 : b = c
    · subst h1
      rw [upd_same, if_neg hn, if_pos rfl, List.map_append]
      rfl
    · have n1 : ad c ≠ ad b := fun e => h1 (t.inj c b hc hb e).symm
      rw [upd_ne n1, if_neg h1]
      by_cases h2 : a = c
      · subst h2
        rw [upd_same, if_pos rfl, List.map_append]
        rfl
      · have n2 : ad c ≠ ad a := fun e => h2 (t.inj c a hc ha e).symm
        rw [upd_ne n2, if_neg h2, t.lst c hc]
        simp
section
variable {P : Program} {w : World} {K : PySem.W.Frag} {mg : Str → Option Value} {base : Heap} {f : Addr} {fd : FuncData}
def spTurned : Sp := fun vs H Q _ => ∃ (S : Addr) (chs : List Chg) (i n : Nat), vs = [.ref S, .int i, .int n] ∧ ChAt H S chs ∧ OkCs chs ∧ ∀ (D : Addr) (H' : Hp), Same H H' → TurnAt H' D (es chs i n) → Q (.ref D) H'
abbrev nTurned : List Str := ["changes", "place", "length", "turned", "letter", "one", "other", "where"]
theorem scTurned : FnScope nTurned ["changes", "place", "length"] (defScope wTurned) := ⟨rfl, rfl, rfl, by decide +kernel, rfl, by decide +kernel, by decide +kernel⟩
theorem ok_turned (F : Fun K "turned_letters" "turned_letters" wTurned f fd) (G : Gw K mg) (hR : Has P w K mg base "reaches" 1 ["where", "place", "length"] spReaches) : FnOk P w K mg base CX0 2 f fd ["changes", "place", "length"] spTurned := by
  obtain ⟨t1, g1⟩ := G.letters
  refine F.ok scTurned (fun vs H Q E h => ?_) (fun cdv A outer s H vs Q E hr h => ?_)
  · obtain ⟨S, chs, i, n, rfl, _⟩ := h
    rfl
  · obtain ⟨S, chs, pl, n, rfl, ⟨as, hS, hE⟩, ok, q⟩ := h
    refine ⟨_, pss_cons (ps_setDc (i := 3) (own := [("letter", 4)]) (g := gName 4) (tt := tYes) rfl scTurned.nd rfl rfl (sw_dict rfl rfl rfl rfl) (pi_str (pe_glob (v := .str "abcdefghijklmnopqrstuvwxyz") rfl g1 ⟨_, rfl⟩)) (blkOk_by (N := nTurned) (sc := defScope wTurned) (by decide +kernel))
        (fun _ _ _ _ _ => pg_name (i := 4) scTurned.nd rfl (.inl rfl)) (fun _ _ _ _ _ => pts_nil) (fun _ _ _ _ _ => pv 4) (fun _ _ _ _ _ => pe_lst pa_nil))
      (pss_cons (ps_for PassesOwn.never rfl (pi_tup (pv 0)) (pg_tup rfl (pgs_cons (pg_name (i := 5) scTurned.nd rfl (.inl rfl)) (pgs_cons (pg_name (i := 6) scTurned.nd rfl (.inl rfl)) (pgs_cons (pg_name (i := 7) scTurned.nd rfl (.inl rfl)) pgs_nil))))
        (pss_one (ps_if (pt_val (pe_h hR hr (pa_cons (pv 7) (pa_cons (pv 1) (pa_cons (pv 2) pa_nil)))))
          (pss_cons (ps_expr (pe_bm PySem.F.plainAttrs_list PySem.F.slot_list_append PySem.F.type_list_append mt_append (pe_dget (room1 hr) (pv 3) (pv 5) (fun _ _ => rfl)) (pa_cons (pv 6) pa_nil)))
          (pss_one (ps_expr (pe_bm PySem.F.plainAttrs_list PySem.F.slot_list_append PySem.F.type_list_append mt_append (pe_dget (room1 hr) (pv 3) (pv 6) (fun _ _ => rfl)) (pa_cons (pv 5) pa_nil))))) pss_nil)))
      (pss_one (ps_ret (pv 3)))), ?_⟩
    refine ⟨_, rfl, fun D hD => dc_it walk_signs (fun i H' => ∃ ad : Nat → Addr, Same H H' ∧ H' D = some (.dK (kvL (fun c => .ref (ad c)) (List.range' 97 i))) ∧ (∀ c ∈ List.range' 97 i, H' (ad c) = some (.lst []) ∧ H (ad c) = none) ∧ ∀ c d, c ∈ List.range' 97 i → d ∈ List.range' 97 i → ad c = ad d → c = d) ⟨fun _ => 0, same_new hD, upd_same, fun c hc => by simp at hc, fun c d hc => by simp at hc⟩ (fun _ _ _ _ => trivial) ?_ ?_⟩
    · rintro i x H1 H2 hi ⟨ad, s1, hd, hl, hj⟩ ⟨rfl, hx⟩
      have hi26 : i < 26 := by
        rw [signs_abc, List.length_map, List.length_range'] at hi
        exact hi
      rw [signs_abc, List.getElem?_map, List.getElem?_range' hi26] at hx
      obtain rfl := Option.some.inj hx
      have e97 : 97 + 1 * i = 97 + i := by omega
      rw [e97]
      refine ⟨rfl, yes_it ⟨_, rfl, lz, fun p hp => ⟨_, kS (97 + i), rfl, (same_new hp) _ _ hd, ?_, fun c => if c = 97 + i then p else ad c, ?_, ?_, ?_, ?_⟩⟩⟩
      · unfold kvL
        rw [List.length_map, List.length_range']
        exact small1000 (by omega)
      · exact same_mut (s1.trans (same_new hp)) hD
      · rw [upd_same, putK_new]
        · have e : List.range' 97 (i + 1) = List.range' 97 i ++ [97 + i] := by
            have := List.range'_concat (s := 97) (n := i) (step := 1)
            simpa using this
          rw [e]
          unfold kvL
          rw [List.map_append]
          have e2 : (List.range' 97 i).map (fun c => (kS c, V.ref (if c = 97 + i then p else ad c))) = (List.range' 97 i).map fun c => (kS c, V.ref (ad c)) := List.map_congr_left fun c hc => by
            rw [List.mem_range'_1] at hc
            rw [if_neg (by omega)]
          rw [e2]
          simp
        · rw [valV_kvL, if_neg]
          rw [List.mem_range'_1]
          omega
      · intro c hc
        rw [List.mem_range'_1] at hc
        have nD : p ≠ D := (ne_of_none hd hp).symm
        dsimp only
        by_cases h : c = 97 + i
        · rw [if_pos h]
          exact ⟨by rw [upd_ne nD, upd_same], s1.free hp⟩
        · rw [if_neg h]
          obtain ⟨h1, h2⟩ := hl c (by rw [List.mem_range'_1]; omega)
          have n1 : ad c ≠ D := ne_of h1 hd (by intro z; cases z)
          exact ⟨by rw [upd_ne n1]; exact (same_new hp) _ _ h1, h2⟩
      · intro c d hc hd' e
        rw [List.mem_range'_1] at hc hd'
        dsimp only at e
        have np : ∀ c, c < 97 + i → 97 ≤ c → ad c ≠ p := fun c h1 h2 => ne_of_none (hl c (by rw [List.mem_range'_1]; omega)).1 hp
        by_cases h1 : c = 97 + i <;> by_cases h2 : d = 97 + i
        · omega
        · rw [if_pos h1, if_neg h2] at e
          exact absurd e.symm (np d (by omega) (by omega))
        · rw [if_neg h1, if_pos h2] at e
          exact absurd e (np c (by omega) (by omega))
        · rw [if_neg h1, if_neg h2] at e
          exact hj c d (by rw [List.mem_range'_1]; omega) (by rw [List.mem_range'_1]; omega) e
    · rintro H1 ⟨ad, s1, hd, hl, hj⟩
      have e26 : (signsOf "abcdefghijklmnopqrstuvwxyz").length = 26 := by rw [signs_abc, List.length_map, List.length_range']
      rw [e26] at hd hl hj
      have T1 : TurnI H1 D ad (es (chs.take 0) pl n) := ⟨hd, fun c hc => (hl c (let_mem.mp hc)).1, fun c d hc hd' e => hj c d (let_mem.mp hc) (let_mem.mp hd') e⟩
      refine ⟨_, rfl, S, rfl, ⟨_, .inl (.inl (s1 _ _ hS))⟩, for_it (walk_tup (K := K) (a := S) (xs := as.map V.ref)) (fun i σ H' => (∃ y4 y5 y6 y7, σ = [some (.ref S), some (.int pl), some (.int n), some (.ref D), y4, y5, y6, y7]) ∧ Same H H' ∧ TurnI H' D ad (es (chs.take i) pl n)) ⟨⟨_, _, _, _, rfl⟩, s1, T1⟩ (fun i σ H' _ h => .inl (.inl (h.2.1 _ _ hS))) ?_ ?_⟩
      · rintro i x σ H2 H3 hi ⟨⟨y4, y5, y6, y7, rfl⟩, s2, t2⟩ ⟨rfl, hx⟩
        rw [List.getElem?_map] at hx
        obtain ⟨p, hp, rfl⟩ := Option.map_eq_some_iff.mp hx
        obtain ⟨ch, hch, hH⟩ := hE.get hp
        obtain ⟨o1, o2, o3⟩ := ok.2 ch (List.mem_of_getElem? hch)
        have etk : chs.take (i + 1) = chs.take i ++ [ch] := by rw [List.take_add_one, hch]; rfl
        have lenE : ∀ c, ((nbrs (es (chs.take i) pl n) c).map sgV).length < sizeLine := fun c => by
          rw [List.length_map]
          have h1 := nbrs_len (es (chs.take i) pl n) c
          have h2 := es_len (chs.take i) pl n
          have h3 : (chs.take i).length ≤ chs.length := List.length_take_le' _ _
          have h4 := ok.1
          exact small1000 (by omega)
        refine ⟨p, _, rfl, .inl (.inl (s2 _ _ hH)), rfl, _, _, rfl, _, _, rfl, _, _, rfl, rfl, ?_⟩
        refine ⟨_, rfl, _, rfl, _, rfl, ch.2.2, pl, n, rfl, _, rfl, ite_b (fun e => ?_) (fun e => ?_)⟩
        · refine ⟨_, rfl, _, rfl, D, _, rfl, t2.val o1, .inl ⟨rfl, _, .inl (.inl (t2.lst _ o1))⟩, _, rfl, ad ch.1, _, _, rfl, rfl, t2.lst _ o1, lenE _, ?_⟩
          have nab : ad ch.2.1 ≠ ad ch.1 := fun e => o3 (t2.inj _ _ o2 o1 e).symm
          have hb : upd H3 (ad ch.1) (.lst ((nbrs (es (chs.take i) pl n) ch.1).map sgV ++ [sgV ch.2.1])) (ad ch.2.1) = some (.lst ((nbrs (es (chs.take i) pl n) ch.2.1).map sgV)) := by
            rw [upd_ne nab]
            exact t2.lst _ o2
          have hDg : DGet (upd H3 (ad ch.1) (.lst ((nbrs (es (chs.take i) pl n) ch.1).map sgV ++ [sgV ch.2.1]))) D (sgV ch.2.1) (some (.ref (ad ch.2.1))) := by
            have nD : D ≠ ad ch.1 := ne_of t2.dict (t2.lst _ o1) (by intro z; cases z)
            have := DGet.k (k := kS ch.2.1) (show upd H3 (ad ch.1) (.lst ((nbrs (es (chs.take i) pl n) ch.1).map sgV ++ [sgV ch.2.1])) D = _ by rw [upd_ne nD]; exact t2.dict)
            rw [valV_kvL, if_pos (let_mem.mp o2)] at this
            exact this
          refine ⟨_, rfl, _, rfl, D, _, rfl, hDg, .inl ⟨rfl, _, .inl (.inl hb)⟩, _, rfl, ad ch.2.1, _, _, rfl, rfl, hb, lenE _, ⟨_, _, _, _, rfl⟩, ?_, ?_⟩
          · exact same_mut (same_mut s2 (hl _ (let_mem.mp o1)).2) (hl _ (let_mem.mp o2)).2
          · rw [etk, es_snoc, if_pos e]
            exact t2.push o1 o2 o3
        · refine ⟨⟨_, _, _, _, rfl⟩, s2, ?_⟩
          rw [etk, es_snoc, if_neg (by rw [e]; decide), List.append_nil]
          exact t2
      · rintro σ H2 ⟨⟨y4, y5, y6, y7, rfl⟩, s2, t2⟩
        have : chs.take (as.map V.ref).length = chs := by rw [List.length_map, hE.length, List.take_length]
        rw [this] at t2
        exact ⟨_, rfl, q D H2 s2 ⟨ad, t2⟩⟩
end
end Wl

namespace Wl
open PySem
/-! ### the walk by breadth, with how far each letter is -/
/-- a walk of n steps -/
inductive Wk (E : Edges) : Nat → Nat → Nat → Prop
  | refl (a : Nat) : Wk E a a 0
  | step {a b c n : Nat} : Wk E a b n → c ∈ nbrs E b → Wk E a c (n + 1)
theorem Wk.trans {E : Edges} {a b c n m : Nat} (h : Wk E a b n) (k : Wk E b c m) : Wk E a c (n + m) := by
  induction k with
  | refl => exact h
  | step _ hm ih => exact .step ih hm
theorem Wk.symm {E : Edges} {a b n : Nat} (h : Wk E a b n) : Wk E b a n := by
  induction h with
  | refl => exact .refl _
  | @step b c n _ hm ih =>
    have := (Wk.step (.refl c) (nbrs_symm hm)).trans ih
    rw [Nat.add_comm] at this
    exact this
theorem Wk.conn {E : Edges} {a b n : Nat} (h : Wk E a b n) : Conn E a b := by
  induction h with
  | refl => exact .refl _
  | step _ hm ih => exact .step ih hm
theorem conn_wk {E : Edges} {a b : Nat} (h : Conn E a b) : ∃ n, Wk E a b n := by
  induction h with
  | refl => exact ⟨0, .refl _⟩
  | step _ hm ih =>
    obtain ⟨n, hn⟩ := ih
    exact ⟨n + 1, .step hn hm⟩
/-- as few steps as can be -/
def Far (E : Edges) (a b n : Nat) : Prop := Wk E a b n ∧ ∀ m, Wk E a b m → n ≤ m
theorem Far.uniq {E : Edges} {a b n m : Nat} (h : Far E a b n) (k : Far E a b m) : n = m := Nat.le_antisymm (h.2 _ k.1) (k.2 _ h.1)
theorem Far.symm {E : Edges} {a b n : Nat} (h : Far E a b n) : Far E b a n := ⟨h.1.symm, fun m k => h.2 m k.symm⟩
theorem Far.self (E : Edges) (a : Nat) : Far E a a 0 := ⟨.refl _, fun _ _ => Nat.zero_le _⟩
/-- ds: how far each of the list is -/
structure Dep (E : Edges) (g : Nat) (tw : List (Nat × Option Nat)) (ds : List Nat) (at' : Nat) : Prop where
  b : Bfs E g tw at'
  len : ds.length = tw.length
  zero : ds[0]? = some 0
  mono : ∀ (i j d e : Nat), i ≤ j → ds[i]? = some d → ds[j]? = some e → d ≤ e
  near : ∀ (j d e : Nat), ds[at']? = some d → ds[j]? = some e → e ≤ d + 1
  par : ∀ (i c d n : Nat), tw[i]? = some (c, some d) → ds[i]? = some n → ∃ (j : Nat) (o : Option Nat) (m : Nat), j < i ∧ tw[j]? = some (d, o) ∧ ds[j]? = some m ∧ n = m + 1 ∧ c ∈ nbrs E d
  seen : ∀ (j x d : Nat) (o : Option Nat), j < at' → tw[j]? = some (x, o) → ds[j]? = some d → ∀ y ∈ nbrs E x, ∃ (k : Nat) (p : Option Nat) (e : Nat), tw[k]? = some (y, p) ∧ ds[k]? = some e ∧ e ≤ d + 1
theorem Dep.start {E : Edges} {g : Nat} (h : isLet g) : Dep E g [(g, none)] [0] 0 := by
  refine ⟨Bfs.start h, rfl, rfl, ?_, ?_, ?_, fun j x d o hj => by omega⟩
  · intro i j d e hij hd he
    have h1 : j < 1 := (List.getElem?_eq_some_iff.mp he).1
    have e1 : j = 0 := by omega
    have e2 : i = 0 := by omega
    subst e1 e2
    simp at hd he
    omega
  · intro j d e hd he
    have h1 : j < 1 := (List.getElem?_eq_some_iff.mp he).1
    have e1 : j = 0 := by omega
    subst e1
    simp at hd he
    omega
  · intro i c d n hi
    match i, hi with
    | 0, e => cases e
    | n + 1, e => simp at e
theorem snoc_get {α : Type} {l : List α} {x p : α} {i : Nat} (h : (l ++ [x])[i]? = some p) : l[i]? = some p ∨ (i = l.length ∧ p = x) := by
  by_cases q : i < l.length
  · rw [List.getElem?_append_left q] at h
    exact .inl h
  · rw [List.getElem?_append_right (by omega)] at h
    have : i - l.length = 0 := by
      have := (List.getElem?_eq_some_iff.mp h).1
      simp at this
      omega
    rw [this] at h
    simp at h
    exact .inr ⟨by omega, h.symm⟩
theorem snoc_old {α : Type} {l : List α} {x p : α} {i : Nat} (h : l[i]? = some p) : (l ++ [x])[i]? = some p := by
  rw [List.getElem?_append_left (List.getElem?_eq_some_iff.mp h).1]
  exact h
theorem Dep.push {E : Edges} {g x y d : Nat} {tw : List (Nat × Option Nat)} {ds : List Nat} {a : Nat} {o : Option Nat} (b : Dep E g tw ds a) (hx : tw[a]? = some (x, o)) (hd : ds[a]? = some d) (hy : y ∈ nbrs E x) (hl : isLet y) (hn : y ∉ tw.map (·.1)) : Dep E g (tw ++ [(y, some x)]) (ds ++ [d + 1]) a := by
  have ha : a < tw.length := (List.getElem?_eq_some_iff.mp hx).1
  refine ⟨b.b.push hx hy hl hn, by rw [List.length_append, List.length_append, b.len]; rfl, snoc_old b.zero, ?_, ?_, ?_, ?_⟩
  · intro i j u v hij hu hv
    rcases snoc_get hu with hu | ⟨e1, e2⟩ <;> rcases snoc_get hv with hv | ⟨e3, e4⟩
    · exact b.mono i j u v hij hu hv
    · subst e4
      exact b.near i d u hd hu
    · have := (List.getElem?_eq_some_iff.mp hv).1
      omega
    · omega
  · intro j u v hu hv
    rcases snoc_get hu with hu | ⟨e1, _⟩
    · rw [hd] at hu
      cases hu
      rcases snoc_get hv with hv | ⟨_, e4⟩
      · exact b.near j d v hd hv
      · omega
    · have := b.len
      omega
  · intro i c e n hi hni
    rcases snoc_get hi with hi | ⟨e1, e2⟩
    · have hlt := (List.getElem?_eq_some_iff.mp hi).1
      rcases snoc_get hni with hni | ⟨e3, _⟩
      · obtain ⟨j, o', m, h1, h2, h3, h4, h5⟩ := b.par i c e n hi hni
        exact ⟨j, o', m, h1, snoc_old h2, snoc_old h3, h4, h5⟩
      · have := b.len
        omega
    · cases e2
      rcases snoc_get hni with hni | ⟨_, e4⟩
      · have := (List.getElem?_eq_some_iff.mp hni).1
        have := b.len
        omega
      · exact ⟨a, o, d, by omega, snoc_old hx, snoc_old hd, e4, hy⟩
  · intro j u e o' hj hu he v hv
    have hu' : tw[j]? = some (u, o') := by
      rcases snoc_get hu with hu | ⟨e1, _⟩
      · exact hu
      · omega
    have he' : ds[j]? = some e := by
      rcases snoc_get he with he | ⟨e1, _⟩
      · exact he
      · have := b.len
        omega
    obtain ⟨k, p, m, h1, h2, h3⟩ := b.seen j u e o' hj hu' he' v hv
    exact ⟨k, p, m, snoc_old h1, snoc_old h2, h3⟩
theorem Dep.next {E : Edges} {g x d : Nat} {tw : List (Nat × Option Nat)} {ds : List Nat} {a : Nat} {o : Option Nat} (b : Dep E g tw ds a) (hx : tw[a]? = some (x, o)) (hd : ds[a]? = some d) (h : ∀ y ∈ nbrs E x, y ∈ tw.map (·.1)) : Dep E g tw ds (a + 1) := by
  refine ⟨b.b.next hx h, b.len, b.zero, b.mono, ?_, b.par, ?_⟩
  · intro j u v hu hv
    have h1 := b.mono a (a + 1) d u (by omega) hd hu
    have h2 := b.near j d v hd hv
    omega
  · intro j u e o' hj hu he y hy
    by_cases q : j < a
    · exact b.seen j u e o' q hu he y hy
    · have : j = a := by omega
      subst this
      rw [hx] at hu
      rw [hd] at he
      cases hu
      cases he
      obtain ⟨⟨y', p⟩, hm, e1⟩ := List.mem_map.mp (h y hy)
      have e1 : y' = y := e1
      subst e1
      obtain ⟨k, hk, e2⟩ := List.mem_iff_getElem.mp hm
      have hk2 : k < ds.length := by rw [b.len]; exact hk
      have hk3 : ds[k]? = some ds[k] := List.getElem?_eq_getElem hk2
      exact ⟨k, p, _, by rw [List.getElem?_eq_getElem hk, e2], hk3, b.near k d _ hd hk3⟩
theorem Dep.wk {E : Edges} {g : Nat} {tw : List (Nat × Option Nat)} {ds : List Nat} {a : Nat} (b : Dep E g tw ds a) : ∀ (i c n : Nat) (o : Option Nat), tw[i]? = some (c, o) → ds[i]? = some n → Wk E g c n := by
  intro i
  induction i using Nat.strongRecOn with
  | _ i ih =>
    intro c n o hi hn
    cases o with
    | none =>
      have := b.b.non i c hi
      subst this
      rw [b.b.head] at hi
      rw [b.zero] at hn
      cases hi
      cases hn
      exact .refl _
    | some d =>
      obtain ⟨j, o', m, h1, h2, h3, rfl, h5⟩ := b.par i c d n hi hn
      exact .step (ih j h1 d m o' h2 h3) h5
theorem nodup_at {tw : List (Nat × Option Nat)} (nd : (tw.map (·.1)).Nodup) {i j c : Nat} {o p : Option Nat} (hi : tw[i]? = some (c, o)) (hj : tw[j]? = some (c, p)) : i = j := by
  have h1 : (tw.map (·.1))[i]? = some c := by rw [List.getElem?_map, hi]; rfl
  have h2 : (tw.map (·.1))[j]? = some c := by rw [List.getElem?_map, hj]; rfl
  obtain ⟨k1, e1⟩ := List.getElem?_eq_some_iff.mp h1
  obtain ⟨k2, e2⟩ := List.getElem?_eq_some_iff.mp h2
  have hp := List.pairwise_iff_getElem.mp nd
  rcases Nat.lt_trichotomy i j with h | h | h
  · exact absurd (e1.trans e2.symm) (hp i j k1 k2 h)
  · exact h
  · exact absurd (e2.trans e1.symm) (hp j i k2 k1 h)
theorem Dep.far {E : Edges} {g : Nat} {tw : List (Nat × Option Nat)} {ds : List Nat} (b : Dep E g tw ds tw.length) {i c n : Nat} {o : Option Nat} (hi : tw[i]? = some (c, o)) (hn : ds[i]? = some n) : Far E g c n := by
  refine ⟨b.wk i c n o hi hn, fun m hm => ?_⟩
  have key : ∀ {y m}, Wk E g y m → ∃ (k : Nat) (p : Option Nat) (e : Nat), tw[k]? = some (y, p) ∧ ds[k]? = some e ∧ e ≤ m := by
    intro y m hw
    induction hw with
    | refl => exact ⟨0, none, 0, b.b.head, b.zero, Nat.le_refl _⟩
    | step _ hm ih =>
      obtain ⟨k, p, e, h1, h2, h3⟩ := ih
      obtain ⟨k', p', e', g1, g2, g3⟩ := b.seen k _ e p (List.getElem?_eq_some_iff.mp h1).1 h1 h2 _ hm
      exact ⟨k', p', e', g1, g2, by omega⟩
  obtain ⟨k, p, e, h1, h2, h3⟩ := key hm
  have := nodup_at b.b.nd hi h1
  subst this
  rw [hn] at h2
  cases h2
  exact h3
end Wl

namespace Wl
open PySem
/-! ### the walk by breadth as it goes -/
def visit (x : Nat) : List (Nat × Option Nat) → List Nat → List (Nat × Option Nat)
  | tw, [] => tw
  | tw, y :: ys => visit x (if y ∈ tw.map (·.1) then tw else tw ++ [(y, some x)]) ys
def runB (E : Edges) : Nat → Nat → List (Nat × Option Nat) → List (Nat × Option Nat)
  | 0, _, tw => tw
  | k + 1, a, tw => match tw[a]? with
    | none => tw
    | some p => runB E k (a + 1) (visit p.1 tw (nbrs E p.1))
def bfsT (E : Edges) (g : Nat) : List (Nat × Option Nat) := runB E 26 0 [(g, none)]
theorem runB_end {E : Edges} {k a : Nat} {tw : List (Nat × Option Nat)} (h : tw.length ≤ a) : runB E k a tw = tw := by
  cases k with
  | zero => rfl
  | succ k =>
    unfold runB
    rw [List.getElem?_eq_none h]
theorem runB_go {E : Edges} {a x : Nat} {o : Option Nat} {tw : List (Nat × Option Nat)} (ha : a < 26) (h : tw[a]? = some (x, o)) : runB E (26 - a) a tw = runB E (26 - (a + 1)) (a + 1) (visit x tw (nbrs E x)) := by
  have e : 26 - a = (26 - (a + 1)) + 1 := by omega
  rw [e]
  show (match tw[a]? with | none => tw | some p => runB E (26 - (a + 1)) (a + 1) (visit p.1 tw (nbrs E p.1))) = _
  rw [h]
theorem visit_in {x y : Nat} {tw : List (Nat × Option Nat)} {ys : List Nat} (h : y ∈ tw.map (·.1)) : visit x tw (y :: ys) = visit x tw ys := by
  show visit x (if y ∈ tw.map (·.1) then tw else tw ++ [(y, some x)]) ys = _
  rw [if_pos h]
theorem visit_new {x y : Nat} {tw : List (Nat × Option Nat)} {ys : List Nat} (h : y ∉ tw.map (·.1)) : visit x tw (y :: ys) = visit x (tw ++ [(y, some x)]) ys := by
  show visit x (if y ∈ tw.map (·.1) then tw else tw ++ [(y, some x)]) ys = _
  rw [if_neg h]
/-! ### from a letter to the goal -/
inductive IsUp (tw : List (Nat × Option Nat)) : Option Nat → List Nat → Prop
  | nil : IsUp tw none []
  | cons {d j : Nat} {o : Option Nat} {cs : List Nat} : tw[j]? = some (d, o) → IsUp tw o cs → IsUp tw (some d) (d :: cs)
theorem IsUp.uniq {tw : List (Nat × Option Nat)} (nd : (tw.map (·.1)).Nodup) {o : Option Nat} {cs : List Nat} (h : IsUp tw o cs) : ∀ {ds : List Nat}, IsUp tw o ds → cs = ds := by
  induction h with
  | nil =>
    intro ds k
    cases k
    rfl
  | cons hj _ ih =>
    intro ds k
    cases k with
    | cons hk k' =>
      have := nodup_at nd hj hk
      subst this
      rw [hj] at hk
      cases hk
      rw [ih k']
/-- letters one behind the other -/
def Path (E : Edges) : Nat → Nat → List Nat → Prop
  | a, b, [] => a = b
  | a, b, c :: cs => c ∈ nbrs E a ∧ Path E c b cs
theorem Dep.up {E : Edges} {g : Nat} {tw : List (Nat × Option Nat)} {ds : List Nat} {a : Nat} (b : Dep E g tw ds a) : ∀ (i c n : Nat) (o : Option Nat), tw[i]? = some (c, o) → ds[i]? = some n → ∃ cs, IsUp tw o cs ∧ Path E c g cs ∧ cs.length = n := by
  intro i
  induction i using Nat.strongRecOn with
  | _ i ih =>
    intro c n o hi hn
    cases o with
    | none =>
      have := b.b.non i c hi
      subst this
      rw [b.b.head] at hi
      rw [b.zero] at hn
      cases hi
      cases hn
      exact ⟨[], .nil, rfl, rfl⟩
    | some d =>
      obtain ⟨j, o', m, h1, h2, h3, rfl, h5⟩ := b.par i c d n hi hn
      obtain ⟨cs, u1, u2, u3⟩ := ih j h1 d m o' h2 h3
      exact ⟨d :: cs, .cons h2 u1, ⟨nbrs_symm h5, u2⟩, by rw [List.length_cons, u3]⟩
/-- the way from a to b that the walk about b finds -/
def UpOf (E : Edges) (a b : Nat) (cs : List Nat) : Prop := ∃ (i : Nat) (o : Option Nat), (bfsT E b)[i]? = some (a, o) ∧ IsUp (bfsT E b) o cs
noncomputable def pathC (E : Edges) (a b : Nat) : List Nat := open Classical in if h : ∃ cs, UpOf E a b cs then Classical.choose h else []
theorem pathC_eq {E : Edges} {a b : Nat} {cs : List Nat} (nd : ((bfsT E b).map (·.1)).Nodup) (h : UpOf E a b cs) : pathC E a b = cs := by
  have ex : ∃ cs, UpOf E a b cs := ⟨cs, h⟩
  unfold pathC
  rw [dif_pos ex]
  obtain ⟨i, o, h1, h2⟩ := h
  obtain ⟨j, p, k1, k2⟩ := Classical.choose_spec ex
  have := nodup_at nd h1 k1
  subst this
  rw [h1] at k1
  cases k1
  exact k2.uniq nd h2
end Wl

namespace Wl
open PySem PySem.Spec PyProof.Rows L2
abbrev wBetween : Stmt := topW 18
abbrev Tw := List (Nat × Option Nat)
def oS : Option Nat → V
  | none => .non
  | some d => sgV d
def twK (tw : Tw) : List (Key × V) := tw.map fun p => (kS p.1, oS p.2)
theorem twK_snoc (tw : Tw) (c : Nat) (o : Option Nat) : twK (tw ++ [(c, o)]) = twK tw ++ [(kS c, oS o)] := by
  unfold twK
  rw [List.map_append]
  rfl
theorem twK_in (tw : Tw) (c : Nat) : (valV (twK tw) (kS c)).isSome = decide (c ∈ tw.map (·.1)) := by
  rw [← valV_any]
  induction tw with
  | nil => rfl
  | cons p r ih =>
    have e : twK (p :: r) = (kS p.1, oS p.2) :: twK r := rfl
    rw [e, List.any_cons, ih, List.map_cons]
    by_cases h : p.1 = c
    · subst h
      simp
    · have h1 : ¬ kS p.1 = kS c := fun q => h (kS_inj q)
      have h2 : ¬ c = p.1 := fun q => h q.symm
      rw [decide_eq_false h1]
      simp [h2]
theorem twK_none {tw : Tw} {c : Nat} (h : c ∉ tw.map (·.1)) : valV (twK tw) (kS c) = none := by
  have := twK_in tw c
  rw [decide_eq_false h] at this
  cases q : valV (twK tw) (kS c) with
  | none => rfl
  | some v => rw [q] at this; cases this
theorem twK_val : ∀ {tw : Tw} {i c : Nat} {o : Option Nat}, (tw.map (·.1)).Nodup → tw[i]? = some (c, o) → valV (twK tw) (kS c) = some (oS o)
  | [], i, c, o, _, h => by simp at h
  | p :: r, 0, c, o, _, h => by
    simp at h
    subst h
    exact valV_pos rfl
  | p :: r, i + 1, c, o, nd, h => by
    rw [List.map_cons, List.nodup_cons] at nd
    have h' : r[i]? = some (c, o) := by simpa using h
    have hm : c ∈ r.map (·.1) := List.mem_map.mpr ⟨_, List.mem_of_getElem? h', rfl⟩
    have e : valV (twK (p :: r)) (kS c) = valV (twK r) (kS c) := valV_neg fun q => by
      have := kS_inj q
      rw [this] at nd
      exact nd.1 hm
    rw [e]
    exact twK_val nd.2 h'
section
variable {P : Program} {w : World} {K : PySem.W.Frag} {mg : Str → Option Value} {base : Heap} {f : Addr} {fd : FuncData}
def spSteps : Sp := fun vs H Q _ => ∃ (g : Nat) (D : Addr) (E : Edges), vs = [sgV g, .ref D] ∧ isLet g ∧ TurnAt H D E ∧ OkE E ∧ E.length ≤ 12 ∧ ∀ (W : Addr) (ds : List Nat) (H' : Hp), Same H H' → H' W = some (.dK (twK (bfsT E g))) → Dep E g (bfsT E g) ds (bfsT E g).length → Q (.ref W) H'
abbrev nSteps : List Str := ["goal", "turned", "toward", "waiting", "at", "letter", "ahead"]
theorem scSteps : FnScope nSteps ["goal", "turned"] (defScope wSteps) := ⟨rfl, rfl, rfl, by decide +kernel, rfl, by decide +kernel, by decide +kernel⟩
theorem ok_steps (F : Fun K "steps_toward" "steps_toward" wSteps f fd) (B : Bi mg) : FnOk P w K mg base CX0 1 f fd ["goal", "turned"] spSteps := by
  refine F.ok scSteps (fun vs H Q E h => ?_) (fun cdv A outer s H vs Q E hr h => ?_)
  · obtain ⟨g, D, E, rfl, _⟩ := h
    rfl
  · obtain ⟨g, D, Ed, rfl, hg, ⟨ad, t⟩, okE, lE, q⟩ := h
    refine ⟨_, pss_cons (ps_set (i := 2) scSteps.nd rfl (.inl rfl) (pe_disp (pps_cons (pv 0) pe_non pps_nil) rfl rfl (by simp) (by decide)))
      (pss_cons (ps_set (i := 3) scSteps.nd rfl (.inl rfl) (pe_lst (pa_cons (pv 0) pa_nil)))
      (pss_cons (ps_set (i := 4) scSteps.nd rfl (.inl rfl) pe_int)
      (pss_cons (ps_while PassesOwn.never (pt_cmpR op_lt (pv 4) (pe_callB call_len_seq (by rfl) B.len PySem.boot_len (pa_cons (pv 3) pa_nil)) (nomark _))
        (pss_cons (ps_set (i := 5) scSteps.nd rfl (.inl rfl) (pe_ix ix_list (pv 3) (pv 4) (fun _ _ => rfl)))
        (pss_cons (ps_for PassesOwn.never rfl (pi_list (pe_dget (room1 hr) (pv 1) (pv 5) (fun _ _ => rfl))) (pg_name (i := 6) scSteps.nd rfl (.inl rfl))
          (pss_one (ps_if (pt_cmp (pc_dnotin (room1 hr) (pv 6) (pv 2)))
            (pss_cons (ps_dput (room1 hr) (pv 2) (pv 6) (pv 5) rfl)
            (pss_one (ps_expr (pe_bm PySem.F.plainAttrs_list PySem.F.slot_list_append PySem.F.type_list_append mt_append (pv 3) (pa_cons (pv 6) pa_nil))))) pss_nil)))
        (pss_one (ps_aug (i := 4) scSteps.nd rfl (.inl rfl) pe_int ip_add)))))
      (pss_one (ps_ret (pv 2)))))), ?_⟩
    intro W hW
    refine ⟨_, rfl, upd_same, [(kS g, .non)], rfl, by simp, ?_⟩
    have sW : Same H (upd (upd H W (.dK [])) W (.dK (mergeK [] [(kS g, .non)]))) := same_mut (same_new hW) hW
    have eW : (upd (upd H W (.dK [])) W (.dK (mergeK [] [(kS g, .non)]))) W = some (.dK (twK [(g, none)])) := upd_same
    generalize upd (upd H W (.dK [])) W (.dK (mergeK [] [(kS g, .non)])) = H1 at sW eW
    refine ⟨_, rfl, lz, fun L hL => ?_⟩
    have nLW : L ≠ W := (ne_of_none eW hL).symm
    have hL0 : H L = none := sW.free hL
    refine ⟨fun m σ H' => ∃ (tw : Tw) (ds : List Nat) (a : Nat) (y5 y6 : Option V), m = 26 - a ∧ σ = [some (sgV g), some (.ref D), some (.ref W), some (.ref L), some (.int a), y5, y6] ∧ Same H H' ∧ H' W = some (.dK (twK tw)) ∧ H' L = some (.lst (tw.map fun p => sgV p.1)) ∧ Dep Ed g tw ds a ∧ a ≤ tw.length ∧ runB Ed (26 - a) a tw = bfsT Ed g,
      ⟨26, [(g, none)], [0], 0, _, _, rfl, rfl, sW.trans (same_new hL), (same_new hL) _ _ eW, upd_same, Dep.start hg, by simp, rfl⟩, ?_⟩
    rintro m σ H2 ⟨tw, ds, a, y5, y6, rfl, rfl, s2, hW2, hL2, b2, ha, hrun⟩
    have h26 := b2.b.len
    refine ⟨_, rfl, _, rfl, L, _, rfl, .inl (.inl (.inl hL2)), _, _, rfl, rfl, _, rfl, ite_b (fun e => ?_) (fun e => ?_)⟩
    · have hlt : a < tw.length := by
        have := of_decide_eq_true e
        rw [List.length_map] at this
        omega
      obtain ⟨⟨x, o⟩, hx⟩ : ∃ p, tw[a]? = some p := ⟨tw[a], List.getElem?_eq_getElem hlt⟩
      have hxl : isLet x := b2.b.lets x (List.mem_map.mpr ⟨_, List.mem_of_getElem? hx, rfl⟩)
      have hda : a < ds.length := by rw [b2.len]; exact hlt
      obtain ⟨d, hd⟩ : ∃ d, ds[a]? = some d := ⟨ds[a], List.getElem?_eq_getElem hda⟩
      refine ⟨_, fun σ' H' h => h, ?_⟩
      refine ⟨_, rfl, _, rfl, L, _, _, sgV x, rfl, rfl, .inl (.inl hL2), atI_nat (j := a) (by rw [List.getElem?_map, hx]; rfl), ?_⟩
      have lenN : (nbrs Ed x).length ≤ 24 := by
        have := nbrs_len Ed x
        omega
      refine ⟨_, rfl, _, rfl, D, _, rfl, (t.same s2).val hxl, ad x, rfl, ⟨_, .inl (.inl ((t.same s2).lst x hxl))⟩, for_it (walk_list (K := K) (a := ad x) (xs := (nbrs Ed x).map sgV)) (fun j σ H' => ∃ (tw' : Tw) (ds' : List Nat) (y6 : Option V), σ = [some (sgV g), some (.ref D), some (.ref W), some (.ref L), some (.int a), some (sgV x), y6] ∧ Same H H' ∧ H' W = some (.dK (twK tw')) ∧ H' L = some (.lst (tw'.map fun p => sgV p.1)) ∧ Dep Ed g tw' ds' a ∧ tw'[a]? = some (x, o) ∧ ds'[a]? = some d ∧ (∀ y ∈ (nbrs Ed x).take j, y ∈ tw'.map (·.1)) ∧ visit x tw' ((nbrs Ed x).drop j) = visit x tw (nbrs Ed x))
        ⟨tw, ds, _, rfl, s2, hW2, hL2, b2, hx, hd, (fun y hy => by simp at hy), rfl⟩ (fun j σ H' _ h => ?_) ?_ ?_⟩
      · obtain ⟨_, _, _, _, s3, _⟩ := h
        exact .inl (.inl ((t.same s3).lst x hxl))
      · rintro j v σ H3 H4 hj ⟨tw', ds', y6', rfl, s3, hW3, hL3, b3, hx3, hd3, hin, hvis⟩ ⟨rfl, hv⟩
        rw [List.getElem?_map] at hv
        obtain ⟨c, hc, rfl⟩ := Option.map_eq_some_iff.mp hv
        have hcn : c ∈ nbrs Ed x := List.mem_of_getElem? hc
        have hcl : isLet c := conn_let okE (Conn.step (.refl x) hcn) hxl
        have l3 := b3.b.len
        have etk : (nbrs Ed x).take (j + 1) = (nbrs Ed x).take j ++ [c] := by rw [List.take_add_one, hc]; rfl
        have edr : (nbrs Ed x).drop j = c :: (nbrs Ed x).drop (j + 1) := by
          have hjl := (List.getElem?_eq_some_iff.mp hc)
          rw [List.drop_eq_getElem_cons hjl.1, hjl.2]
        rw [edr] at hvis
        refine ⟨_, rfl, _, rfl, W, _, rfl, DGet.k (k := kS c) hW3, _, rfl, ?_⟩
        rw [twK_in]
        refine not_b (fun e => ?_) (fun e => ?_)
        · have hnot := of_decide_eq_false e
          have lK : (twK tw').length < sizeLine := by
            unfold twK
            rw [List.length_map]
            exact small1000 (by omega)
          refine ⟨_, rfl, _, rfl, _, rfl, W, _, rfl, DPut.k (k := kS c) hW3 lK, ?_⟩
          rw [putK_new _ (twK_none hnot)]
          have hL4 : upd H4 W (.dK (twK tw' ++ [(kS c, sgV x)])) L = some (.lst (tw'.map fun p => sgV p.1)) := by
            rw [upd_ne nLW]
            exact hL3
          refine ⟨_, rfl, .inl ⟨rfl, _, .inl (.inl hL4)⟩, _, rfl, L, _, _, rfl, rfl, hL4, ?_, tw' ++ [(c, some x)], ds' ++ [d + 1], _, rfl, ?_, ?_, ?_, b3.push hx3 hd3 hcn hcl hnot, ?_, snoc_old hd3, ?_, (visit_new hnot).symm.trans hvis⟩
          · rw [List.length_map]
            exact small1000 (by omega)
          · exact same_mut (same_mut s3 hW) hL0
          · rw [upd_ne nLW.symm, upd_same, twK_snoc]
            rfl
          · rw [upd_same, List.map_append]
            rfl
          · rw [List.getElem?_append_left (List.getElem?_eq_some_iff.mp hx3).1]
            exact hx3
          · intro y hy
            rw [etk] at hy
            rw [List.map_append]
            rcases List.mem_append.mp hy with hy | hy
            · exact List.mem_append_left _ (hin y hy)
            · rw [List.mem_singleton] at hy
              subst hy
              exact List.mem_append_right _ (by simp)
        · have hyes := of_decide_eq_true e
          refine ⟨tw', ds', _, rfl, s3, hW3, hL3, b3, hx3, hd3, fun y hy => ?_, (visit_in hyes).symm.trans hvis⟩
          rw [etk] at hy
          rcases List.mem_append.mp hy with hy | hy
          · exact hin y hy
          · rw [List.mem_singleton] at hy
            subst hy
            exact hyes
      · rintro σ H3 ⟨tw', ds', y6', rfl, s3, hW3, hL3, b3, hx3, hd3, hin, hvis⟩
        have hall : ∀ y ∈ nbrs Ed x, y ∈ tw'.map (·.1) := fun y hy => hin y (by rw [List.length_map, List.take_length]; exact hy)
        have hrun2 : runB Ed (26 - (a + 1)) (a + 1) tw' = bfsT Ed g := by
          rw [List.length_map, List.drop_length] at hvis
          have hvis : tw' = visit x tw (nbrs Ed x) := hvis
          rw [hvis, ← runB_go (by omega) hx]
          exact hrun
        have hl3 : a < tw'.length := (List.getElem?_eq_some_iff.mp hx3).1
        exact ⟨_, rfl, _, _, rfl, rfl, 26 - (a + 1), by omega, tw', ds', a + 1, _, _, rfl, rfl, s3, hW3, hL3, b3.next hx3 hd3 hall, hl3, hrun2⟩
    · have hge : tw.length ≤ a := by
        have := of_decide_eq_false e
        rw [List.length_map] at this
        omega
      have : a = tw.length := by omega
      subst this
      have e : tw = bfsT Ed g := (runB_end (Nat.le_refl _)).symm.trans hrun
      rw [← e] at q
      exact ⟨_, rfl, q W ds H2 s2 hW2 b2⟩
end
end Wl

namespace Wl
open PySem PySem.Spec PyProof.Rows L2
section
variable {P : Program} {w : World} {K : PySem.W.Frag} {mg : Str → Option Value} {base : Heap} {f : Addr} {fd : FuncData}
def spBetween : Sp := fun vs H Q _ => ∃ (a b : Nat) (D : Addr) (E : Edges), vs = [sgV a, sgV b, .ref D] ∧ isLet b ∧ TurnAt H D E ∧ OkE E ∧ E.length ≤ 12 ∧
  (Conn E b a → ∀ (L : Addr) (H' : Hp), H L = none → Same H H' → H' L = some (.lst ((pathC E a b).map sgV)) → Path E a b (pathC E a b) → Far E a b (pathC E a b).length → (pathC E a b).length ≤ 26 → Q (.ref L) H') ∧ (¬ Conn E b a → ∀ H', Same H H' → Q .non H')
abbrev nBetween : List Str := ["one", "other", "turned", "toward", "row", "letter"]
theorem scBetween : FnScope nBetween ["one", "other", "turned"] (defScope wBetween) := ⟨rfl, rfl, rfl, by decide +kernel, rfl, by decide +kernel, by decide +kernel⟩
theorem ok_between (F : Fun K "letters_between" "letters_between" wBetween f fd) (hS : Has P w K mg base "steps_toward" 1 ["goal", "turned"] spSteps) : FnOk P w K mg base CX0 2 f fd ["one", "other", "turned"] spBetween := by
  refine F.ok scBetween (fun vs H Q E h => ?_) (fun cdv A outer s H vs Q E hr h => ?_)
  · obtain ⟨a, b, D, E, rfl, _⟩ := h
    rfl
  · obtain ⟨a, b, D, Ed, rfl, hb, t, okE, lE, q1, q2⟩ := h
    refine ⟨_, pss_cons (ps_set (i := 3) scBetween.nd rfl (.inl rfl) (pe_h hS hr (pa_cons (pv 1) (pa_cons (pv 2) pa_nil))))
      (pss_cons (ps_if (pt_cmp (pc_dnotin (room1 hr) (pv 0) (pv 3))) (pss_one (ps_ret pe_non)) pss_nil)
      (pss_cons (ps_set (i := 4) scBetween.nd rfl (.inl rfl) (pe_lst pa_nil))
      (pss_cons (ps_set (i := 5) scBetween.nd rfl (.inl rfl) (pe_dget (room1 hr) (pv 3) (pv 0) (fun _ _ => rfl)))
      (pss_cons (ps_while PassesOwn.never (pt_cmp (pc_notN (pv 5)))
        (pss_cons (ps_expr (pe_bm PySem.F.plainAttrs_list PySem.F.slot_list_append PySem.F.type_list_append mt_append (pv 4) (pa_cons (pv 5) pa_nil)))
        (pss_one (ps_set (i := 5) scBetween.nd rfl (.inl rfl) (pe_dget (room1 hr) (pv 3) (pv 5) (fun _ _ => rfl))))))
      (pss_one (ps_ret (pv 4))))))), ?_⟩
    refine ⟨_, rfl, _, rfl, b, D, Ed, rfl, hb, t, okE, lE, fun W ds H1 s1 hW dp => ?_⟩
    have bf := dp.b
    generalize etw : bfsT Ed b = tw at hW dp bf
    refine ⟨_, rfl, _, rfl, W, _, rfl, DGet.k (k := kS a) hW, _, rfl, ?_⟩
    rw [twK_in]
    refine not_b (fun e => ?_) (fun e => ?_)
    · exact q2 (fun c => of_decide_eq_false e ((bf.done (Nat.le_refl _)).mpr c)) H1 s1
    · have hin := of_decide_eq_true e
      have hc : Conn Ed b a := (bf.done (Nat.le_refl _)).mp hin
      obtain ⟨⟨a', o⟩, hm, e1⟩ := List.mem_map.mp hin
      have e1 : a' = a := e1
      subst e1
      obtain ⟨i, hi, e2⟩ := List.mem_iff_getElem.mp hm
      have hti : tw[i]? = some (a', o) := by rw [List.getElem?_eq_getElem hi, e2]
      have hid : i < ds.length := by rw [dp.len]; exact hi
      obtain ⟨n0, hn0⟩ : ∃ n, ds[i]? = some n := ⟨ds[i], List.getElem?_eq_getElem hid⟩
      obtain ⟨cs0, u1, u2, u3⟩ := dp.up i a' n0 o hti hn0
      have epc : pathC Ed a' b = cs0 := pathC_eq (by rw [etw]; exact bf.nd) ⟨i, o, by rw [etw]; exact hti, by rw [etw]; exact u1⟩
      have far0 : Far Ed a' b cs0.length := by
        rw [u3]
        exact (dp.far hti hn0).symm
      refine ⟨lz, fun R hR => ?_⟩
      have sR : Same H1 (upd H1 R (.lst [])) := same_new hR
      have hv : DGet (upd H1 R (.lst [])) W (sgV a') (some (oS o)) := by
        have := DGet.k (k := kS a') (sR _ _ hW)
        rw [twK_val bf.nd hti] at this
        exact this
      refine ⟨_, rfl, _, rfl, W, _, rfl, hv, ?_⟩
      refine ⟨fun m σ H' => ∃ (c : Nat) (o : Option Nat) (cs rest : List Nat), σ = [some (sgV a'), some (sgV b), some (.ref D), some (.ref W), some (.ref R), some (oS o)] ∧ Same H1 H' ∧ H' R = some (.lst (cs.map sgV)) ∧ tw[m]? = some (c, o) ∧ cs.length + m ≤ 26 ∧ IsUp tw o rest ∧ cs ++ rest = cs0,
        ⟨i, a', o, [], cs0, rfl, sR, upd_same, hti, by have := bf.len; simp; omega, u1, rfl⟩, ?_⟩
      rintro m σ H2 ⟨c, o, cs, rest, rfl, s2, hR2, ht, hl, hup, ecs⟩
      cases o with
      | none =>
        cases hup
        rw [List.append_nil] at ecs
        rw [epc] at q1
        refine ⟨_, rfl, _, rfl, iteF ⟨_, rfl, q1 hc R H2 (s1.free hR) (s1.trans s2) (by rw [hR2, ecs]) u2 far0 (by rw [← ecs]; omega)⟩⟩
      | some d =>
        cases hup with
        | @cons d' j o' rest' htj hup' =>
        obtain ⟨j0, o0, hj0, htj0⟩ := bf.par m c d ht
        have ej := nodup_at bf.nd htj htj0
        subst ej
        refine ⟨_, rfl, _, rfl, iteT ⟨_, fun σ' H' h => h, ?_⟩⟩
        have nW : W ≠ R := ne_of_none hW hR
        have hv2 : DGet (upd H2 R (.lst (cs.map sgV ++ [sgV d]))) W (sgV d) (some (oS o')) := by
          have := DGet.k (k := kS d) (show upd H2 R (.lst (cs.map sgV ++ [sgV d])) W = _ by rw [upd_ne nW]; exact s2 _ _ hW)
          rw [twK_val bf.nd htj] at this
          exact this
        refine ⟨_, rfl, .inl ⟨rfl, _, .inl (.inl hR2)⟩, _, rfl, R, _, _, rfl, rfl, hR2, ?_, ?_⟩
        · rw [List.length_map]
          exact small1000 (by omega)
        · refine ⟨_, rfl, _, rfl, W, _, rfl, hv2, j, hj0, d, o', cs ++ [d], rest', rfl, same_mut s2 hR, ?_, htj, ?_, hup', by rw [List.append_assoc]; exact ecs⟩
          · rw [upd_same, List.map_append]
            rfl
          · rw [List.length_append, List.length_singleton]
            omega
end
end Wl

namespace Wl
open PySem PySem.Spec PyProof.Rows L2
abbrev wRow : Stmt := topW 19
section
variable {P : Program} {w : World} {K : PySem.W.Frag} {mg : Str → Option Value} {base : Heap} {f : Addr} {fd : FuncData}
/-- a def whose last parameter may be left out: None -/
abbrev FunN (K : PySem.W.Frag) (x : Str) (st : Stmt) (f : Addr) (fd : FuncData) : Prop := FunD K x x (defArgs st) (defBody st) (defScope st) [.non] [] f fd
def HasN (P : Program) (w : World) (K : PySem.W.Frag) (mg : Str → Option Value) (base : Heap) (x : Str) (st : Stmt) (k : Nat) (ps : List Str) (sp : Sp) : Prop :=
  ∃ f fd, FnOk P w K mg base CX0 k f fd ps sp ∧ mg x = some (.ref f) ∧ FunN K x st f fd
abbrev ps3 : List Str := ["word", "other", "changes"]
theorem bind3 {x : Str} (F : FunN K x wRow f fd) : Binds K fd ps3 [] := by
  obtain ⟨ds, h1, h2⟩ := F.binds1 (ps := ps3) 3 1 (by simp) rfl (fun T kV doc pm an cdv ct us its l1 l2 => by
      match us, its, l1, l2 with
      | [a, b, c], [d], _, _ => exact ⟨_, rfl, rfl⟩)
  cases h1
  exact h2
theorem bindR2 {x : Str} (F : FunN K x wRow f fd) : ∃ ds, Vals [V.non] ds ∧ Binds K fd ps3 ds :=
  F.binds1 (ps := ps3) 2 0 (by simp) rfl (fun T kV doc pm an cdv ct us its l1 l2 => by
      match us, its, l1, l2 with
      | [a, b], [d], _, _ => exact ⟨_, rfl, rfl⟩)
/-! keywords -/
def gA3 {α : Type} : List α → List α → List α → List α
  | [], _, [c, b, a] => [a, b, c]
  | us, _, _ => us
def gA2 {α : Type} : List α → List α → List α → List α
  | [], ds, zs => zs ++ ds
  | us, _, _ => us
def gA1 {α : Type} : List α → List α → List α → List α
  | us, _, zs => us ++ zs
theorem vals_app {vs zs : List V} {us ws : List Value} (r : Vals vs us) (s : Vals zs ws) : Vals (vs ++ zs) (us ++ ws) := r.append s
theorem gA3_rel {vs ds zs : List V} {us its ws : List Value} (r1 : Vals vs us) (r2 : Vals ds its) (r3 : Vals zs ws) : Vals (gA3 vs ds zs) (gA3 us its ws) := by
  cases r1 with
  | nil =>
    cases r3 with
    | nil => exact .nil
    | cons a r3 => cases r3 with
      | nil => exact .nil
      | cons b r3 => cases r3 with
        | nil => exact .nil
        | cons c r3 => cases r3 with
          | nil => exact .cons c (.cons b (.cons a .nil))
          | cons d r3 => exact .nil
  | cons a r => exact .cons a r
theorem gA2_rel {vs ds zs : List V} {us its ws : List Value} (r1 : Vals vs us) (r2 : Vals ds its) (r3 : Vals zs ws) : Vals (gA2 vs ds zs) (gA2 us its ws) := by
  cases r1 with
  | nil => exact vals_app r3 r2
  | cons a r => exact .cons a r
theorem kwR3 {x : Str} (F : FunN K x wRow f fd) : ∃ its : List Value, KBn K fd ps3 0 ["changes", "other", "word"] (fun us ws => gA3 us its ws) (fun vs zs => gA3 vs [.non] zs) :=
  F.kbindsD (ps := ps3) 0 ["changes", "other", "word"] gA3 (by simp) gA3_rel (fun T kV doc pm an cdv ct us its ws l1 l2 l3 => by
      match us, its, ws, l1, l2, l3 with
      | [], [d], [a, b, c], _, _, _ => exact ⟨_, rfl, rfl⟩)
theorem kwR2 {x : Str} (F : FunN K x wRow f fd) : ∃ its : List Value, KBn K fd ps3 0 ["word", "other"] (fun us ws => gA2 us its ws) (fun vs zs => gA2 vs [.non] zs) :=
  F.kbindsD (ps := ps3) 0 ["word", "other"] gA2 (by simp) gA2_rel (fun T kV doc pm an cdv ct us its ws l1 l2 l3 => by
      match us, its, ws, l1, l2, l3 with
      | [], [d], [a, b], _, _, _ => exact ⟨_, rfl, rfl⟩)
theorem okN {x : Str} {st : Stmt} {N ps : List Str} {k : Nat} {sp : Sp} (F : FunN K x st f fd) (S : FnScope N ps (defScope st)) (len : ∀ vs H Q E, sp vs H Q E → vs.length = ps.length)
    (hbody : ∀ (cdv : Value) (A : Around) (outer : List Env) (s : Shared) (H : Hp) (vs : List V) (Q : VK) (E : XK), Room k (A.deeper (envOfC x (defScope st) s.heap.objs.size f cdv)) → sp vs H Q E →
      ∃ t, PSs (cxOf CX0 P w K mg base N x (defScope st) f cdv A outer s H E).nox (defBody st) t ∧ t { nx := fun _ H' => Q .non H', rt := Q } (start N vs) H) : FnOk P w K mg base CX0 (k + 1) f fd ps sp :=
  F.ok S len fun cdv A outer s H vs Q E hr hsp => let ⟨t, h, q⟩ := hbody cdv A outer s H vs Q E hr hsp; ⟨t, h.nox, q⟩
end
end Wl

namespace Wl
open PySem
/-! ### the row of words, by their letters -/
noncomputable def plL (chs : List Chg) (u v : List Nat) (i : Nat) : List (List Nat) := match u[i]?, v[i]? with
  | some a, some b => (pathC (es chs i u.length) a b).map fun c => v.take i ++ c :: u.drop (i + 1)
  | _, _ => []
noncomputable def rowTo (chs : List Chg) (u v : List Nat) (i : Nat) : List (List Nat) := u :: (List.range i).flatMap (plL chs u v)
theorem rowTo_succ {chs : List Chg} {u v : List Nat} {i a b : Nat} (ha : u[i]? = some a) (hb : v[i]? = some b) : rowTo chs u v (i + 1) = rowTo chs u v i ++ (pathC (es chs i u.length) a b).map fun c => v.take i ++ c :: u.drop (i + 1) := by
  unfold rowTo
  rw [List.range_succ, List.flatMap_append, List.cons_append]
  congr 2
  simp [plL, ha, hb]
def GoodTo (chs : List Chg) (u v : List Nat) (i : Nat) : Prop := ∀ (j a b : Nat), j < i → u[j]? = some a → v[j]? = some b → Path (es chs j u.length) a b (pathC (es chs j u.length) a b) ∧ Far (es chs j u.length) a b (pathC (es chs j u.length) a b).length ∧ (pathC (es chs j u.length) a b).length ≤ 26
/-- by one change -/
def StepL (chs : List Chg) (x y : List Nat) : Prop := ∃ i c d, x[i]? = some c ∧ d ∈ nbrs (es chs i x.length) c ∧ c ≠ d ∧ y = x.set i d
structure RowS (chs : List Chg) (u w : List Nat) (ts : List (List Nat)) : Prop where
  head : ts[0]? = some u
  last : ts.getLast? = some w
  len : ∀ x ∈ ts, x.length = u.length
  steps : ∀ (k : Nat) (x y : List Nat), ts[k]? = some x → ts[k + 1]? = some y → StepL chs x y
theorem RowS.start (chs : List Chg) (u : List Nat) : RowS chs u u [u] := by
  refine ⟨rfl, rfl, fun x hx => by rw [List.mem_singleton.mp hx], fun k x y _ h => ?_⟩
  have := (List.getElem?_eq_some_iff.mp h).1
  simp at this
theorem RowS.push {chs : List Chg} {u w w' : List Nat} {ts : List (List Nat)} (r : RowS chs u w ts) (s : StepL chs w w') : RowS chs u w' (ts ++ [w']) := by
  have hl : ts ≠ [] := by
    intro e
    have := r.head
    rw [e] at this
    cases this
  have lw : w.length = u.length := r.len w (List.mem_of_getLast? r.last)
  have lw' : w'.length = u.length := by
    obtain ⟨i, c, d, _, _, _, e⟩ := s
    rw [e, List.length_set]
    exact lw
  refine ⟨?_, by simp, fun x hx => ?_, fun k x y hx hy => ?_⟩
  · exact snoc_old r.head
  · rcases List.mem_append.mp hx with hx | hx
    · exact r.len x hx
    · rw [List.mem_singleton.mp hx]
      exact lw'
  · rcases snoc_get hy with hy' | ⟨e1, e2⟩
    · have hk := (List.getElem?_eq_some_iff.mp hy').1
      rcases snoc_get hx with hx' | ⟨e3, _⟩
      · exact r.steps k x y hx' hy'
      · omega
    · subst e2
      rcases snoc_get hx with hx' | ⟨e3, _⟩
      · have : ts.getLast? = ts[ts.length - 1]? := List.getLast?_eq_getElem?
        rw [r.last, show ts.length - 1 = k by omega, hx'] at this
        cases this
        exact s
      · omega
theorem nbrs_ne {chs : List Chg} (ok : ∀ ch ∈ chs, OkC ch) {i n c d : Nat} (h : d ∈ nbrs (es chs i n) c) : c ≠ d := by
  have key : ∀ e ∈ es chs i n, e.1 ≠ e.2 := fun e he => by
    obtain ⟨ch, hc, rfl⟩ := List.mem_map.mp he
    exact (ok ch (List.mem_filter.mp hc).1).2.2
  rcases mem_nbrs.mp h with h | h
  · exact key _ h
  · exact fun e => key _ h e.symm
theorem mix_len {u v : List Nat} {i c : Nat} (hl : u.length = v.length) (hi : i < u.length) : (v.take i ++ c :: u.drop (i + 1)).length = u.length := by
  rw [List.length_append, List.length_cons, List.length_take, List.length_drop]
  omega
theorem mix_get {u v : List Nat} {i c : Nat} (hl : u.length = v.length) (hi : i < u.length) : (v.take i ++ c :: u.drop (i + 1))[i]? = some c := by
  have h1 : (v.take i).length = i := by rw [List.length_take]; omega
  rw [List.getElem?_append_right (by omega), h1, Nat.sub_self]
  rfl
theorem mix_set {u v : List Nat} {i c d : Nat} (hl : u.length = v.length) (hi : i < u.length) : (v.take i ++ c :: u.drop (i + 1)).set i d = v.take i ++ d :: u.drop (i + 1) := by
  have h1 : (v.take i).length = i := by rw [List.length_take]; omega
  rw [List.set_append_right _ _ (by omega), h1, Nat.sub_self]
  rfl
theorem RowS.path {chs : List Chg} (ok : ∀ ch ∈ chs, OkC ch) {u v : List Nat} {i b : Nat} (hl : u.length = v.length) (hi : i < u.length) : ∀ {cs : List Nat} {c : Nat} {ts : List (List Nat)}, Path (es chs i u.length) c b cs → RowS chs u (v.take i ++ c :: u.drop (i + 1)) ts →
    RowS chs u (v.take i ++ b :: u.drop (i + 1)) (ts ++ cs.map fun c => v.take i ++ c :: u.drop (i + 1))
  | [], c, ts, p, r => by
    have p : c = b := p
    subst p
    rw [List.map_nil, List.append_nil]
    exact r
  | d :: cs, c, ts, p, r => by
    obtain ⟨p1, p2⟩ := p
    have st : StepL chs (v.take i ++ c :: u.drop (i + 1)) (v.take i ++ d :: u.drop (i + 1)) := ⟨i, c, d, mix_get hl hi, by rw [mix_len hl hi]; exact p1, nbrs_ne ok p1, (mix_set hl hi).symm⟩
    have := RowS.path ok hl hi p2 (r.push st)
    rw [List.append_assoc] at this
    exact this
theorem rowTo_good {chs : List Chg} (ok : ∀ ch ∈ chs, OkC ch) {u v : List Nat} (hl : u.length = v.length) (g : GoodTo chs u v u.length) : ∀ i, i ≤ u.length → RowS chs u (v.take i ++ u.drop i) (rowTo chs u v i)
  | 0, _ => by
    have e : v.take 0 ++ u.drop 0 = u := by simp
    rw [e]
    exact RowS.start chs u
  | i + 1, hi => by
    have r := rowTo_good ok hl g i (by omega)
    have hi' : i < u.length := hi
    have hv' : i < v.length := by omega
    have ha : u[i]? = some u[i] := List.getElem?_eq_getElem hi'
    have hb : v[i]? = some v[i] := List.getElem?_eq_getElem hv'
    have e1 : u.drop i = u[i] :: u.drop (i + 1) := List.drop_eq_getElem_cons hi'
    rw [e1] at r
    have := RowS.path ok hl hi' (g i _ _ hi' ha hb).1 r
    rw [rowTo_succ ha hb]
    have e2 : v.take (i + 1) ++ u.drop (i + 1) = v.take i ++ v[i] :: u.drop (i + 1) := by
      rw [List.take_add_one, hb, List.append_assoc]
      rfl
    rw [e2]
    exact this
theorem rowTo_all {chs : List Chg} (ok : ∀ ch ∈ chs, OkC ch) {u v : List Nat} (hl : u.length = v.length) (g : GoodTo chs u v u.length) : RowS chs u v (rowTo chs u v u.length) := by
  have := rowTo_good ok hl g u.length (Nat.le_refl _)
  rw [hl, List.take_length, ← hl, List.drop_length, List.append_nil] at this
  exact this
end Wl

namespace Wl
open PySem PySem.Spec PyProof.Rows L2
def txV (x : List Nat) : V := .str (ofC x)
theorem ofC_codes (z : Str) : ofC (codes z) = z := str_ext rfl
theorem cut_len (z : Str) (lo hi : Option Int) : (cutS z lo hi).length ≤ z.length := by
  have e : ∀ x : Str, x.length = x.cps.toList.length := fun x => by simp [Str.length]
  rw [e, e]
  show (List.take _ (List.drop _ z.cps.toList)).length ≤ _
  rw [List.length_take, List.length_drop]
  omega
theorem add_len (x y : Str) : (x ++ y).length = x.length + y.length := by
  rw [TL.len_tl, TL.tl_append, List.length_append, ← TL.len_tl, ← TL.len_tl]
theorem codes_len (z : Str) : (codes z).length = z.length := by simp [codes, Str.length]
theorem cut_from (z : Str) (v : Int) : codes (cutS z (some v) none) = (codes z).drop (HT.sIx z.length 0 (some v)) := by
  show ((z.cps.toList.drop (HT.sIx z.length 0 (some v))).take (HT.sIx z.length z.length none - HT.sIx z.length 0 (some v))) = _
  rw [HT.sIx_none]
  refine List.take_of_length_le ?_
  rw [List.length_drop]
  have : z.length = z.cps.toList.length := by simp [Str.length]
  omega
theorem codes_app (x y : Str) : codes (x ++ y) = codes x ++ codes y := TL.tl_append x y
theorem row0 {chs : List Chg} {z y : Str} : HO.lst [V.str z] = HO.lst ((rowTo chs (codes z) (codes y) 0).map txV) := by
  show _ = HO.lst [V.str (ofC (codes z))]
  rw [ofC_codes]
theorem mix_txt (y z : Str) (c i : Nat) (h : i + 1 ≤ z.length) : cutS y none (some (i : Int)) ++ sign c ++ cutS z (some ((i : Int) + 1)) none = ofC ((codes y).take i ++ c :: (codes z).drop (i + 1)) := by
  refine str_ext ?_
  have e1 := cut_hi y i
  have e2 := cut_from z ((i : Int) + 1)
  have e3 := HT.sIx_nat z.length 0 (i + 1)
  have e4 : HT.sIx z.length 0 (some ((i : Int) + 1)) = i + 1 := by
    have : (some ((i : Int) + 1)) = some (((i + 1 : Nat)) : Int) := rfl
    rw [this, e3]
    omega
  rw [e4] at e2
  show codes _ = _
  rw [codes_app, codes_app]
  show (cutS y none (some (i : Int))).cps.toList ++ [c] ++ codes (cutS z (some ((i : Int) + 1)) none) = (codes y).take i ++ c :: (codes z).drop (i + 1)
  rw [e1, e2, List.append_assoc]
  rfl
section
variable {P : Program} {w : World} {K : PySem.W.Frag} {mg : Str → Option Value} {base : Heap} {f : Addr} {fd : FuncData}
def spRow : Sp := fun vs H Q _ => ∃ (z y : Str) (v : V) (chs : List Chg), vs = [.str z, .str y, v] ∧ IsWd z ∧ IsWd y ∧ ChV H v chs ∧ OkCs chs ∧
  (OneP chs z y → ∀ (T : Addr) (H' : Hp), H T = none → Same H H' → H' T = some (.tup ((rowTo chs (codes z) (codes y) (codes z).length).map txV)) → GoodTo chs (codes z) (codes y) (codes z).length → (rowTo chs (codes z) (codes y) (codes z).length).length ≤ 209 → Q (.ref T) H') ∧ (¬ OneP chs z y → ∀ H', Same H H' → Q .non H')
abbrev nRow : List Str := ["word", "other", "changes", "known", "row", "place", "goal", "letters", "letter"]
theorem scRow : FnScope nRow ps3 (defScope wRow) := ⟨rfl, rfl, rfl, by decide +kernel, rfl, by decide +kernel, by decide +kernel⟩
theorem ok_row (F : FunN K "row_between" wRow f fd) (B : Bi mg) (hCk : Has P w K mg base "check_word" 2 ["word"] spCheckW) (hCh : Has P w K mg base "checked_changes" 4 ["changes"] spChecked)
    (hB : Has P w K mg base "letters_between" 2 ["one", "other", "turned"] spBetween) (hT : Has P w K mg base "turned_letters" 2 ["changes", "place", "length"] spTurned) : FnOk P w K mg base CX0 5 f fd ps3 spRow := by
  refine okN F scRow (fun vs H Q E h => ?_) (fun cdv A outer s H vs Q E hr h => ?_)
  · obtain ⟨z, y, v, chs, rfl, _⟩ := h
    rfl
  · obtain ⟨z, y, v, chs, rfl, hz, hy, hv, ok, q1, q2⟩ := h
    refine ⟨_, pss_cons (ps_expr (pe_h hCk hr (pa_cons (pv 0) pa_nil))) (pss_cons (ps_expr (pe_h hCk hr (pa_cons (pv 1) pa_nil)))
      (pss_cons (ps_set (i := 3) scRow.nd rfl (.inl rfl) (pe_h hCh hr (pa_cons (pv 2) pa_nil)))
      (pss_cons (ps_if (pt_cmpR op_ne (pe_callB call_len_str (by rfl) B.len PySem.boot_len (pa_cons (pv 0) pa_nil)) (pe_callB call_len_str (by rfl) B.len PySem.boot_len (pa_cons (pv 1) pa_nil)) (nomark _)) (pss_one (ps_ret pe_non)) pss_nil)
      (pss_cons (ps_set (i := 4) scRow.nd rfl (.inl rfl) (pe_lst (pa_cons (pv 0) pa_nil)))
      (pss_cons (ps_for PassesOwn.never rfl (pi_enumS (by rfl) B.enum (pa_cons (pv 1) pa_nil)) (pg_tup rfl (pgs_cons (pg_name (i := 5) scRow.nd rfl (.inl rfl)) (pgs_cons (pg_name (i := 6) scRow.nd rfl (.inl rfl)) pgs_nil)))
        (pss_cons (ps_set (i := 7) scRow.nd rfl (.inl rfl) (pe_h hB hr (pa_cons (pe_ix ix_str (pv 0) (pv 5) (fun _ _ => rfl)) (pa_cons (pv 6) (pa_cons (pe_h hT hr (pa_cons (pv 3) (pa_cons (pv 5) (pa_cons (pe_callB call_len_str (by rfl) B.len PySem.boot_len (pa_cons (pv 0) pa_nil)) pa_nil)))) pa_nil)))))
        (pss_cons (ps_if (pt_cmp (pc_isN (pv 7))) (pss_one (ps_ret pe_non)) pss_nil)
        (pss_one (ps_for PassesOwn.never rfl (pi_list (pv 7)) (pg_name (i := 8) scRow.nd rfl (.inl rfl)) (pss_one (ps_expr (pe_bm PySem.F.plainAttrs_list PySem.F.slot_list_append PySem.F.type_list_append mt_append (pv 4) (pa_cons
          (pe_op op_add_str (pe_op op_add_str (pe_slice sl_str (pv 1) po_none (po_some (pv 5))) (pv 8)) (pe_slice sl_str (pv 0) (po_some (pe_op op_add (pv 5) pe_int)) po_none)) pa_nil)))))))))
      (pss_one (ps_ret (pe_callTy call_tuple_of (by rfl) B.tuple (by decide +kernel) (pa_cons (pv 4) pa_nil))))))))), ?_⟩
    have z8 := hz.len
    have y8 := hy.len
    refine ⟨_, rfl, z, rfl, hz, fun Ha sa => ⟨_, rfl, y, rfl, hy, fun Hb sb => ?_⟩⟩
    refine ⟨_, rfl, v, chs, rfl, hv.same (sa.trans sb), ok, fun S H1 s1 hS => ?_⟩
    have s01 : Same H H1 := (sa.trans sb).trans s1
    refine ⟨_, rfl, _, rfl, lzl (by omega), _, rfl, _, rfl, lzl (by omega), rfl, _, rfl, ?_⟩
    rw [int_dec]
    refine ite_b (fun e => ?_) (fun e => ?_)
    · refine q2 (fun o => ?_) H1 s01
      have := o.1
      rw [codes_len, codes_len] at this
      rw [decide_eq_true (by omega)] at e
      cases e
    · have hl : z.length = y.length := by
        by_cases q : z.length = y.length
        · exact q
        · rw [decide_eq_false (by omega)] at e
          cases e
      refine ⟨_, rfl, lz, fun R hR => ?_⟩
      refine ⟨_, rfl, y, rfl, for_it walk_enumS (fun i σ H' => (∃ y5 y6 y7 y8, σ = [some (.str z), some (.str y), some v, some (.ref S), some (.ref R), y5, y6, y7, y8]) ∧ Same H1 H' ∧ (H' R = some (.lst ((rowTo chs (codes z) (codes y) i).map txV)) ∧ (rowTo chs (codes z) (codes y) i).length ≤ 1 + 26 * i) ∧ GoodTo chs (codes z) (codes y) i ∧ ∀ j a b, j < i → (codes z)[j]? = some a → (codes y)[j]? = some b → Conn (es chs j (codes z).length) b a)
        ⟨⟨_, _, _, _, rfl⟩, same_new hR, ⟨by rw [upd_same, row0], by simp [rowTo]⟩, (fun j a b hj => by omega), fun j a b hj => by omega⟩ (fun _ _ _ _ _ => trivial) ?_ ?_⟩
      · rintro i x σ H2 H3 hi ⟨⟨y5, y6, y7, y8', rfl⟩, s2, ⟨hx, lx⟩, gd, hc⟩ ⟨T, b, rfl, hT, hb, rfl⟩
        have sT : Same H2 (upd H2 T (.tup [.int i, .str (sign b)])) := same_new hT
        refine ⟨T, _, rfl, .inl (.inl upd_same), rfl, _, _, rfl, _, _, rfl, rfl, ?_⟩
        have hiz : i < (codes z).length := by rw [codes_len] at hi ⊢; omega
        obtain ⟨a, ha⟩ : ∃ a, (codes z)[i]? = some a := ⟨_, List.getElem?_eq_getElem hiz⟩
        have hbl : isLet b := (wd_codes.mp hy).2 b (List.mem_of_getElem? hb)
        have hxT : upd H2 T (.tup [.int i, .str (sign b)]) R = some (.lst ((rowTo chs (codes z) (codes y) i).map txV)) := sT _ _ hx
        have s2T : Same H1 (upd H2 T (.tup [.int i, .str (sign b)])) := s2.trans sT
        generalize upd H2 T (.tup [.int i, .str (sign b)]) = H3 at hxT s2T
        refine ⟨_, rfl, _, rfl, z, _, a, rfl, rfl, lzl (by omega), atI_nat ha, _, rfl, _, rfl, _, rfl, _, rfl, _, rfl, lzl (by omega), S, chs, i, z.length, rfl, hS.same s2T, ok, fun D H4 s4 t4 => ?_⟩
        rw [← codes_len z] at t4
        refine ⟨a, b, D, es chs i (codes z).length, rfl, hbl, t4, es_ok ok.2 _ _, Nat.le_trans (es_len _ _ _) ok.1, fun cc L H5 hLn s5 hL hpath hfar hcs => ?_, fun nc H5 s5 => ?_⟩
        · refine ⟨_, rfl, _, rfl, iteF ⟨_, rfl, L, rfl, ⟨_, .inl (.inl hL)⟩, ?_⟩⟩
          generalize ecs : pathC (es chs i (codes z).length) a b = cs at hL hpath hfar hcs
          have nLR : R ≠ L := ne_of_none (s4 _ _ hxT) hLn
          refine for_it (walk_list (K := K) (a := L) (xs := cs.map sgV)) (fun j σ H' => (∃ y8, σ = [some (.str z), some (.str y), some v, some (.ref S), some (.ref R), some (.int i), some (sgV b), some (.ref L), y8]) ∧ Same H1 H' ∧ H' L = some (.lst (cs.map sgV)) ∧ H' R = some (.lst ((rowTo chs (codes z) (codes y) i ++ (cs.take j).map fun c => (codes y).take i ++ c :: (codes z).drop (i + 1)).map txV)))
            ⟨⟨_, rfl⟩, s2T.trans (s4.trans s5), hL, by rw [List.take_zero, List.map_nil, List.append_nil]; exact s5 _ _ (s4 _ _ hxT)⟩ (fun j σ H' _ h => .inl (.inl h.2.2.1)) ?_ ?_
          · rintro j x σ H6 H7 hj ⟨⟨y9, rfl⟩, s6, hL6, hx6⟩ ⟨rfl, hxj⟩
            rw [List.getElem?_map] at hxj
            obtain ⟨c, hcj, rfl⟩ := Option.map_eq_some_iff.mp hxj
            have l1 : (cutS y none (some (i : Int))).length ≤ 8 := Nat.le_trans (cut_len _ _ _) y8.2
            have l2 : (cutS z (some ((i : Int) + 1)) none).length ≤ 8 := Nat.le_trans (cut_len _ _ _) z8.2
            have l3 : (sign c).length = 1 := rfl
            refine ⟨_, rfl, .inl ⟨rfl, _, .inl (.inl hx6)⟩, ?_⟩
            refine ⟨_, rfl, ⟨_, rfl, _, rfl, y, rfl, lzl (by omega), _, rfl, _, _, rfl, rfl, lzl (by omega), _, rfl, _, rfl, _, _, rfl, rfl, _, rfl, z, rfl, lzl (by omega), _, _, rfl, rfl, lzl (by rw [add_len]; omega), ?_⟩⟩
            refine ⟨R, _, _, rfl, rfl, hx6, ?_, ⟨_, rfl⟩, same_mut s6 hR, ?_, ?_⟩
            · rw [List.length_map, List.length_append, List.length_map]
              have h1 : (cs.take j).length ≤ cs.length := List.length_take_le' _ _
              rw [codes_len] at hi
              exact small1000 (by omega)
            · rw [upd_ne nLR.symm]
              exact hL6
            · rw [upd_same, List.take_add_one, hcj, List.map_append, List.map_append, List.map_append, List.append_assoc]
              have ew : cutS y none (some (i : Int)) ++ sign c ++ cutS z (some ((i : Int) + 1)) none = ofC ((codes y).take i ++ c :: (codes z).drop (i + 1)) := mix_txt y z c i (by rw [codes_len] at hiz; omega)
              rw [ew]
              simp only [List.map_append]
              rfl
          · rintro σ H6 ⟨⟨y9, rfl⟩, s6, hL6, hx6⟩
            have erow := rowTo_succ (chs := chs) ha hb
            rw [ecs] at erow
            rw [List.length_map, List.take_length, ← erow] at hx6
            refine ⟨⟨_, _, _, _, rfl⟩, s6, ⟨hx6, ?_⟩, fun j a' b' hj h1 h2 => ?_, fun j a' b' hj h1 h2 => ?_⟩
            · rw [erow, List.length_append, List.length_map]
              omega
            · by_cases hji : j < i
              · exact gd j a' b' hji h1 h2
              · have : j = i := by omega
                subst this
                rw [ha] at h1
                rw [hb] at h2
                cases h1
                cases h2
                rw [ecs]
                exact ⟨hpath, hfar, hcs⟩
            · by_cases hji : j < i
              · exact hc j a' b' hji h1 h2
              · have : j = i := by omega
                subst this
                rw [ha] at h1
                rw [hb] at h2
                cases h1
                cases h2
                exact cc
        · refine ⟨_, rfl, _, rfl, iteT ?_⟩
          exact q2 (fun o => nc (o.2 i a b ha hb)) H5 (s01.trans (s2T.trans (s4.trans s5)))
      · rintro σ H2 ⟨⟨y5, y6, y7, y8', rfl⟩, s2, ⟨hx, lx⟩, gd, hc⟩
        have eyl : (codes y).length = (codes z).length := by rw [codes_len, codes_len]; exact hl.symm
        rw [eyl] at hx lx gd
        refine ⟨_, rfl, R, _, rfl, .inl ⟨.inl (.inl hx), fun l hl2 => ?_⟩⟩
        refine q1 ⟨by rw [codes_len, codes_len]; exact hl, fun j a b h1 h2 => hc j a b ?_ h1 h2⟩ l _ ((s01.trans s2).free hl2) (s01.trans (s2.trans (same_new hl2))) upd_same gd (by rw [codes_len] at lx ⊢; omega)
        exact (List.getElem?_eq_some_iff.mp h2).1
end
end Wl

/-! sorted of a list of texts, as a reading; the least of sorted letters stands first. -/
namespace Wl
open PySem PySem.Spec PyProof.Rows L2
def dz (z : Str) : V × PyData := (.str z, .str z)
theorem srt_strs (xs : List Str) : ((xs.map dz).mergeSort (PySem.W.dataLe false (·.2))).map (·.1) = (sortS xs).map V.str := by
  have h : (sortS xs).map dz = (xs.map dz).mergeSort (PySem.W.dataLe false (·.2)) := List.map_mergeSort fun a _ b _ => by
    rw [PySem.W.dataLe_eq]
    exact (le_data_str a b).symm
  rw [← h, List.map_map]
  rfl
theorem srt_reads {K : PySem.W.Frag} {H : Hp} {Q : VK} {a : Addr} {xs : List Str} (h : SqL K H a (xs.map V.str)) (q : ∀ p, H p = none → Q (.ref p) (upd H p (.lst ((sortS xs).map V.str)))) : rSortD K [.ref a] H Q := by
  refine ⟨a, xs.map dz, rfl, ?_, ?_, ?_, ?_, ?_, fun p hp => ?_⟩
  · rw [List.map_map]
    exact h
  · intro b hb
    obtain ⟨x, _, rfl⟩ := List.mem_map.mp hb
    exact .str x
  · intro d hd e he
    obtain ⟨b, hb, rfl⟩ := List.mem_map.mp hd
    obtain ⟨x, _, rfl⟩ := List.mem_map.mp hb
    obtain ⟨c, hc, rfl⟩ := List.mem_map.mp he
    obtain ⟨y, _, rfl⟩ := List.mem_map.mp hc
    rfl
  · refine .inr fun d hd => ?_
    obtain ⟨b, hb, rfl⟩ := List.mem_map.mp hd
    obtain ⟨x, _, rfl⟩ := List.mem_map.mp hb
    exact ⟨(fun e => by cases e), (fun ys e => by cases e)⟩
  · intro b hb
    obtain ⟨x, _, rfl⟩ := List.mem_map.mp hb
    show PyData.depth (.str x) ≤ 8
    simp [PyData.depth]
  · rw [srt_strs]
    exact q p hp
theorem ltS_sign {c d : Nat} : ltS (sign c) (sign d) ↔ c < d := by
  show [c] < [d] ↔ c < d
  constructor
  · intro h
    cases h with
    | rel h => exact h
    | cons h => cases h
  · exact fun h => .rel h
theorem sg_inj1 {c d : Nat} (h : sign c = sign d) : c = d := by
  have e := congrArg (fun z : Str => z.cps.toList) h
  simpa [sign] using e
theorem head_sortS {cs : List Nat} {m : Nat} (hm : m ∈ cs) (hmin : ∀ d ∈ cs, m ≤ d) : (sortS (cs.map sign))[0]? = some (sign m) := by
  have h1 : (sortS (cs.map sign)).Pairwise (fun a b => leB a b = true) := List.pairwise_mergeSort leB_trans leB_total _
  have h2 : sign m ∈ sortS (cs.map sign) := mem_sortS.mpr (List.mem_map.mpr ⟨m, hm, rfl⟩)
  have h3 : ∀ x ∈ sortS (cs.map sign), ∃ c ∈ cs, sign c = x := fun x hx => List.mem_map.mp (mem_sortS.mp hx)
  cases e : sortS (cs.map sign) with
  | nil =>
    rw [e] at h2
    cases h2
  | cons x r =>
    rw [e] at h1 h2 h3
    obtain ⟨c, hc, rfl⟩ := h3 x List.mem_cons_self
    have e2 : c = m := by
      rcases List.mem_cons.mp h2 with h | h
      · exact (sg_inj1 h).symm
      · have q := (List.pairwise_cons.mp h1).1 _ h
        unfold leB at q
        rw [Bool.not_eq_true', decide_eq_false_iff_not, ltS_sign] at q
        have := hmin c hc
        omega
    rw [e2]
    rfl
end Wl

namespace Wl
open PySem PySem.Spec PyProof.Rows L2
abbrev wAre : Stmt := topW 20
abbrev wLetAt : Stmt := topW 21
abbrev wMean : Stmt := topW 22
theorem ones_sum (l : List Nat) : (l.map fun _ => 1).sum = l.length := by
  induction l with
  | nil => rfl
  | cons x r ih => rw [List.map_cons, List.sum_cons, ih, List.length_cons]; omega
section
variable {P : Program} {w : World} {K : PySem.W.Frag} {mg : Str → Option Value} {base : Heap} {f : Addr} {fd : FuncData}
theorem bindA3 {x : Str} (F : FunN K x wAre f fd) : Binds K fd ps3 [] := by
  obtain ⟨ds, h1, h2⟩ := F.binds1 (ps := ps3) 3 1 (by simp) rfl (fun T kV doc pm an cdv ct us its l1 l2 => by
      match us, its, l1, l2 with
      | [a, b, c], [d], _, _ => exact ⟨_, rfl, rfl⟩)
  cases h1
  exact h2
abbrev ps2 : List Str := ["word", "changes"]
theorem bindM2 {x : Str} (F : FunN K x wMean f fd) : Binds K fd ps2 [] := by
  obtain ⟨ds, h1, h2⟩ := F.binds1 (ps := ps2) 2 1 (by simp) rfl (fun T kV doc pm an cdv ct us its l1 l2 => by
      match us, its, l1, l2 with
      | [a, b], [d], _, _ => exact ⟨_, rfl, rfl⟩)
  cases h1
  exact h2
def spAre : Sp := fun vs H Q _ => ∃ (z y : Str) (v : V) (chs : List Chg), vs = [.str z, .str y, v] ∧ IsWd z ∧ IsWd y ∧ ChV H v chs ∧ OkCs chs ∧
  ∀ (b : Bool) (H' : Hp), Same H H' → (b = true ↔ OneP chs z y) → Q (.bl b) H'
theorem scAre : FnScope ps3 ps3 (defScope wAre) := ⟨rfl, rfl, rfl, by decide +kernel, rfl, by decide +kernel, by decide +kernel⟩
theorem ok_are (F : FunN K "are_one" wAre f fd) (hR : HasN P w K mg base "row_between" wRow 5 ps3 spRow) : FnOk P w K mg base CX0 6 f fd ps3 spAre := by
  refine okN F scAre (fun vs H Q E h => ?_) (fun cdv A outer s H vs Q E hr h => ?_)
  · obtain ⟨z, y, v, chs, rfl, _⟩ := h
    rfl
  · obtain ⟨z, y, v, chs, rfl, hz, hy, hv, ok, q⟩ := h
    obtain ⟨f1, fd1, F1, m1, N1⟩ := hR
    have b1 := bind3 N1
    refine ⟨_, pss_one (ps_ret (pe_cmp (pc_notN (pe_call F1 hr rfl m1 N1.kp b1 .nil pass0 (pa_cons (pv 0) (pa_cons (pv 1) (pa_cons (pv 2) pa_nil))))))), ?_⟩
    refine ⟨_, rfl, _, rfl, _, rfl, z, y, v, chs, rfl, hz, hy, hv, ok, fun o T H1 _ s1 _ _ _ => ?_, fun no H1 s1 => ?_⟩
    · exact q true H1 s1 ⟨fun _ => o, fun _ => rfl⟩
    · exact q false H1 s1 ⟨(fun e => by cases e), fun o => absurd o no⟩
def spLetAt : Sp := fun vs H Q _ => ∃ (z : Str) (i b : Nat) (S : Addr) (chs : List Chg), vs = [.str z, .int (i : Int), .ref S] ∧ IsWd z ∧ (codes z)[i]? = some b ∧ ChAt H S chs ∧ OkCs chs ∧
  ∀ (L : Addr) (cs : List Nat) (H' : Hp), Same H H' → H' L = some (.lst ((sortS (cs.map sign)).map V.str)) → (∀ d, d ∈ cs ↔ Conn (es chs i (codes z).length) b d) → Q (.ref L) H'
theorem scLetAt : FnScope ["word", "place", "changes"] ["word", "place", "changes"] (defScope wLetAt) := ⟨rfl, rfl, rfl, by decide +kernel, rfl, by decide +kernel, by decide +kernel⟩
theorem ok_letat (F : Fun K "letters_at" "letters_at" wLetAt f fd) (B : Bi mg) (hS : Has P w K mg base "steps_toward" 1 ["goal", "turned"] spSteps) (hT : Has P w K mg base "turned_letters" 2 ["changes", "place", "length"] spTurned) : FnOk P w K mg base CX0 3 f fd ["word", "place", "changes"] spLetAt := by
  refine F.ok scLetAt (fun vs H Q E h => ?_) (fun cdv A outer s H vs Q E hr h => ?_)
  · obtain ⟨z, i, b, S, chs, rfl, _⟩ := h
    rfl
  · obtain ⟨z, i, b, S, chs, rfl, hz, hb, hS', ok, q⟩ := h
    refine ⟨_, pss_one (ps_ret (pe_callB (cr_sortD hr.units) (by rfl) B.sorted (by decide +kernel) (pa_cons (pe_callTy (call_list_dK rfl) (by rfl) B.list (by decide +kernel) (pa_cons (pe_h hS hr (pa_cons (pe_ix ix_str (pv 0) (pv 1) (fun _ _ => rfl)) (pa_cons (pe_h hT hr (pa_cons (pv 2) (pa_cons (pv 1) (pa_cons (pe_callB call_len_str (by rfl) B.len PySem.boot_len (pa_cons (pv 0) pa_nil)) pa_nil)))) pa_nil))) pa_nil)) pa_nil))), ?_⟩
    have z8 := hz.len
    have hbl : isLet b := (wd_codes.mp hz).2 b (List.mem_of_getElem? hb)
    refine ⟨_, rfl, _, rfl, z, _, b, rfl, rfl, lzl (by omega), atI_nat hb, _, rfl, _, rfl, _, rfl, _, rfl, lzl (by omega), S, chs, i, z.length, rfl, hS', ok, fun D H4 s4 t4 => ?_⟩
    rw [← codes_len z] at t4
    refine ⟨b, D, es chs i (codes z).length, rfl, hbl, t4, es_ok ok.2 _ _, Nat.le_trans (es_len _ _ _) ok.1, fun W ds H5 s5 hW dep => ?_⟩
    have bf := dep.b
    generalize bfsT (es chs i (codes z).length) b = tw at hW dep bf
    refine ⟨W, _, rfl, hW, fun L hL => ?_⟩
    have eL : (twK tw).map (fun kv => kV kv.1) = ((tw.map (·.1)).map sign).map V.str := by
      unfold twK
      rw [List.map_map, List.map_map, List.map_map]
      rfl
    dsimp only [tNil]
    refine srt_reads (K := K) (xs := (tw.map (·.1)).map sign) (.inl (.inl (by rw [upd_same, eL]))) fun p hp => ?_
    exact q p (tw.map (·.1)) _ (s4.trans (s5.trans ((same_new hL).trans (same_new hp)))) upd_same fun d => bf.done (Nat.le_refl _)
def spMean : Sp := fun vs H Q _ => ∃ (z : Str) (v : V) (chs : List Chg), vs = [.str z, v] ∧ IsWd z ∧ ChV H v chs ∧ OkCs chs ∧ ∀ (H' : Hp), Same H H' → Q (.str (mean chs z)) H'
abbrev nMean : List Str := ["word", "changes", "known", "place"]
theorem scMean : FnScope nMean ps2 (defScope wMean) := ⟨rfl, rfl, rfl, by decide +kernel, rfl, by decide +kernel, by decide +kernel⟩
theorem room64 {k : Nat} {A : Around} (r : Room k A) : A.units + 64 < cLine := by have := r.un; omega
theorem ok_mean (F : FunN K "meaning" wMean f fd) (B : Bi mg) (hCk : Has P w K mg base "check_word" 2 ["word"] spCheckW) (hCh : Has P w K mg base "checked_changes" 4 ["changes"] spChecked)
    (hL : Has P w K mg base "letters_at" 3 ["word", "place", "changes"] spLetAt) : FnOk P w K mg base CX0 5 f fd ps2 spMean := by
  refine okN F scMean (fun vs H Q E h => ?_) (fun cdv A outer s H vs Q E hr h => ?_)
  · obtain ⟨z, v, chs, rfl, _⟩ := h
    rfl
  · obtain ⟨z, v, chs, rfl, hz, hv, ok, q⟩ := h
    refine ⟨_, pss_cons (ps_expr (pe_h hCk hr (pa_cons (pv 0) pa_nil)))
      (pss_cons (ps_set (i := 2) scMean.nd rfl (.inr rfl) (pe_h hCh hr (pa_cons (pv 1) pa_nil)))
      (pss_one (ps_ret (pe_join pe_str (pe_lc (own := [("place", 3)]) (g := gName 3) (tt := tYes) (te := tOp (rIxL K) (tCall spLetAt [] E0 (tCons (tVar 0) (tCons (tVar 3) (tCons (tVar 2) tNil)))) (tC (.int 0))) rfl scMean.nd (pi_range1 rfl B.range (pa_cons (pe_callB call_len_str (by rfl) B.len PySem.boot_len (pa_cons (pv 0) pa_nil)) pa_nil)) (blkOk_by (N := nMean) (sc := defScope wMean) (by decide +kernel))
        (fun _ _ _ _ _ => pg_name (i := 3) scMean.nd rfl (.inl rfl)) (fun _ _ _ _ _ => pts_nil) (fun _ _ _ _ _ => pe_ix ix_list (pe_h hL hr (pa_cons (pv 0) (pa_cons (pv 3) (pa_cons (pv 2) pa_nil)))) pe_int (fun _ _ => rfl))))))), ?_⟩
    have z8 := hz.len
    refine ⟨_, rfl, z, rfl, hz, fun Ha sa => ⟨_, rfl, v, chs, rfl, hv.same sa, ok, fun S H1 s1 hS => ?_⟩⟩
    have s01 : Same H H1 := sa.trans s1
    refine ⟨⟨_, rfl⟩, _, rfl, _, rfl, lzl (by omega), (z.length : Int), rfl, by omega, by omega, fun D hD => lc_range (lo := 0) (n := z.length) (fun i H' => Same H1 H' ∧ H' D = some (.lst ((((codes (mean chs z)).take i).map sign).map V.str))) ⟨same_new hD, upd_same⟩ ?_ ?_⟩
    · rintro i H2 hi ⟨s2, hD2⟩
      obtain ⟨b, hb⟩ : ∃ b, (codes z)[i]? = some b := ⟨_, List.getElem?_eq_getElem (by rw [codes_len]; exact hi)⟩
      have ei : (0 : Int) + (i : Int) = (i : Int) := by omega
      rw [ei]
      refine ⟨rfl, yes_it ⟨_, rfl, _, rfl, _, rfl, z, i, b, S, chs, rfl, hz, hb, hS.same s2, ok, fun L cs H3 s3 hL3 hcs => ?_⟩⟩
      have hlo : ∀ d ∈ cs, lo (es chs i (codes z).length) b ≤ d := fun d hd => lo_le ((hcs d).mp hd)
      have hhd := head_sortS ((hcs _).mpr (lo_conn (es chs i (codes z).length) b)) hlo
      refine ⟨L, _, 0, .str (sign (lo (es chs i (codes z).length) b)), rfl, rfl, .inl (.inl hL3), atI_nat (j := 0) (by rw [List.getElem?_map, hhd]; rfl), _, s3 _ _ hD2, ?_, same_mut (s2.trans s3) hD, ?_⟩
      · rw [List.length_map, List.length_map]
        have h1 : ((codes (mean chs z)).take i).length ≤ (codes (mean chs z)).length := List.length_take_le' _ _
        rw [mean_len, codes_len] at h1
        exact small1000 (by omega)
      · rw [upd_same, List.take_add_one, mean_at chs z hb, List.map_append, List.map_append]
        rfl
    · rintro H2 ⟨s2, hx⟩
      have e1 : (codes (mean chs z)).take z.length = codes (mean chs z) := by rw [← codes_len z, ← mean_len chs z, List.take_length]
      rw [e1] at hx
      refine ⟨_, D, (codes (mean chs z)).map sign, rfl, rfl, .inl (.inl (.inl hx)), ?_, ?_⟩
      · have e0 : ("" : Str).length = 0 := by decide +kernel
        have e1 : ((codes (mean chs z)).map sign).map (·.length) = (codes (mean chs z)).map fun _ => 1 := by
          rw [List.map_map]
          rfl
        rw [e0, e1, Nat.mul_zero, ones_sum, mean_len, codes_len]
        omega
      · have e2 : Txt.join ("" : Str) ((codes (mean chs z)).map sign) = mean chs z := str_ext (join_signs _)
        rw [e2]
        exact q H2 (s01.trans s2)
end
end Wl

namespace Wl
open PySem PySem.Spec PyProof.Rows L2

/-! ### the text by places -/
abbrev sCell : Stmt := topW 24
abbrev sPurse : Stmt := topW 25
abbrev sPick : Stmt := topW 26

section
variable {P : Program} {w : World} {K : PySem.W.Frag} {mg : Str → Option Value} {base : Heap} {f : Addr} {fd : FuncData}

/-! ### a cell of the script: some int -/
def spCell (K : PySem.W.Frag) : Sp := fun vs H Q _ => ∃ (a : Addr) (ns : List Int) (k : Int), vs = [.ref a, .int k] ∧ SqL K H a (ns.map V.int) ∧ 0 ≤ k ∧ k ≤ 63 ∧
  ∀ (v : Int) (H' : Hp), Same H H' → Q (.int v) H'
theorem scCell : FnScope ["_law_script", "_law_k", "_law_state", "_law_cell_here"] ["_law_script", "_law_k"] (defScope sCell) :=
  ⟨rfl, rfl, rfl, by decide +kernel, rfl, by decide +kernel, by decide +kernel⟩
theorem mem_cut {xs : List V} {lo hi : Option Int} {v : V} (h : v ∈ cutV xs lo hi) : v ∈ xs := List.mem_of_mem_drop (List.mem_of_mem_take h)
theorem ok_cell (F : Fun K "_law_cell" "_law_cell" sCell f fd) (B : Bi mg) : FnOk P w K mg base CX0 1 f fd ["_law_script", "_law_k"] (spCell K) := by
  refine F.ok scCell (fun vs H Q E h => ?_) (fun cdv A outer s H vs Q E hr h => ?_)
  · obtain ⟨a, ns, k, rfl, _⟩ := h
    rfl
  · obtain ⟨a, ns, k, rfl, hS, k0, k1, q⟩ := h
    refine ⟨_, pss_cons (ps_if (pt_cmpR op_lt (pv 1) (pe_callB call_len_seq (by rfl) B.len PySem.boot_len (pa_cons (pv 0) pa_nil)) (nomark _)) (pss_one (ps_ret (pe_ix ix_list (pv 0) (pv 1) (fun _ _ => rfl)))) pss_nil)
      (pss_cons (ps_set (i := 2) scCell.nd rfl (.inl rfl) (pe_op op_mod (pe_op op_mul pe_int (pe_op op_add (pe_op op_add (pe_op op_mul (pv 1) (pv 1)) (pe_op op_mul pe_int (pv 1))) pe_int)) pe_int))
      (pss_cons (ps_for PassesOwn.never rfl (pi_list (pe_slice sl_list (pv 0) po_none (po_some pe_int))) (pg_name (i := 3) scCell.nd rfl (.inl rfl))
        (pss_one (ps_set (i := 2) scCell.nd rfl (.inl rfl) (pe_op op_mod (pe_op op_add (pe_op op_mul (pv 2) pe_int) (pv 3)) pe_int))))
      (pss_one (ps_ret (pv 2))))), ?_⟩
    refine ⟨_, rfl, .ref a, rfl, a, _, rfl, .inl hS, _, _, rfl, rfl, _, rfl, ite_b (fun e => ?_) (fun e => ?_)⟩
    · have hk : k < ((ns.map V.int).length : Int) := of_decide_eq_true e
      rw [List.length_map] at hk
      have hk2 : k.toNat < ns.length := by omega
      refine ⟨_, rfl, _, rfl, a, _, k, .int ns[k.toNat], rfl, rfl, hS, at_of (j := k.toNat) (by omega) ?_, q _ H (Same.refl H)⟩
      rw [List.getElem?_map, List.getElem?_eq_getElem hk2]
      rfl
    · refine ⟨_, rfl, _, rfl, k, k, rfl, rfl, .inl ⟨by omega, by omega⟩, _, rfl, 5, k, rfl, rfl, .inl ⟨by decide, by decide⟩, _, _, rfl, rfl, _, _, rfl, rfl, _, _, rfl, rfl, .inl ⟨by decide, by decide⟩, _, _, rfl, rfl, (show (0 : Int) < 1000000033 by decide), ?_⟩
      refine ⟨_, rfl, 4, rfl, a, _, rfl, hS, fun p hp => ?_⟩
      have hc : SqL K (upd H p (.lst (cutV (ns.map V.int) none (some 4)))) p (cutV (ns.map V.int) none (some 4)) := .inl (.inl upd_same)
      refine ⟨p, rfl, ⟨_, hc⟩, for_list (K := K) (a := p) (xs := cutV (ns.map V.int) none (some 4)) (fun i σ H' => (∃ (z : Int) (y : Option V), σ = [some (.ref a), some (.int k), some (.int z), y]) ∧ H' = upd H p (.lst (cutV (ns.map V.int) none (some 4))))
        ⟨⟨_, _, rfl⟩, rfl⟩ (fun i σ H' _ h => by rw [h.2]; exact hc) ?_ ?_⟩
      · rintro i x σ H' hx ⟨⟨z, y, rfl⟩, rfl⟩
        obtain ⟨n, rfl⟩ : ∃ n, x = V.int n := by
          obtain ⟨n, _, e⟩ := List.mem_map.mp (mem_cut (List.mem_of_getElem? hx))
          exact ⟨n, e.symm⟩
        refine ⟨_, rfl, z, 30029, rfl, rfl, .inr ⟨by decide, by decide⟩, _, rfl, _, _, rfl, rfl, _, _, rfl, rfl, (show (0 : Int) < 1000000033 by decide), ⟨⟨_, _, rfl⟩, rfl⟩⟩
      · rintro σ H' ⟨⟨z, y, rfl⟩, rfl⟩
        exact ⟨_, rfl, q _ _ (same_new hp)⟩

/-! ### the purse -/
def PurseAt (H : Hp) (a : Addr) : Prop := ∃ s b c : Int, H a = some (.lst [.int s, .int b, .int c]) ∧ 0 ≤ b
theorem PurseAt.same {H H' : Hp} {a : Addr} (h : PurseAt H a) (s : Same H H') : PurseAt H' a := by
  obtain ⟨s0, b, c, ha, hb⟩ := h
  exact ⟨s0, b, c, s _ _ ha, hb⟩
theorem PurseAt.ne {H : Hp} {a p : Addr} (h : PurseAt H a) (hp : H p = none) : p ≠ a := by
  obtain ⟨s0, b, c, ha, hb⟩ := h
  exact (ne_of_none ha hp).symm
theorem PurseAt.lst {H : Hp} {a : Addr} (h : PurseAt H a) : ∃ ys, H a = some (.lst ys) := by
  obtain ⟨s0, b, c, ha, hb⟩ := h
  exact ⟨_, ha⟩
def spPurse : Sp := fun vs H Q _ => ∃ (n : Int), vs = [.int n] ∧ ∀ (a : Addr) (H' : Hp), H a = none → Same H H' → PurseAt H' a → Q (.ref a) H'
theorem scPurse : FnScope ["_law_cell_here"] ["_law_cell_here"] (defScope sPurse) :=
  ⟨rfl, rfl, rfl, by decide +kernel, rfl, by decide +kernel, by decide +kernel⟩
theorem ok_purse (F : Fun K "_law_purse" "_law_purse" sPurse f fd) (B : Bi mg) : FnOk P w K mg base CX0 1 f fd ["_law_cell_here"] spPurse := by
  refine F.ok scPurse (fun vs H Q E h => ?_) (fun cdv A outer s H vs Q E hr h => ?_)
  · obtain ⟨n, rfl, _⟩ := h
    rfl
  · obtain ⟨n, rfl, q⟩ := h
    refine ⟨_, pss_one (ps_ret (pe_lst (pa_cons (pe_op op_add (pe_op op_mul (pe_op op_mod (pv 0) pe_int) pe_int) pe_int)
      (pa_cons (pe_ix ix_list (pe_lst (pa_cons pe_int (pa_cons (pv 0) pa_nil))) (pe_callTy call_int1 (by rfl) B.int (by decide +kernel) (pa_cons (pe_cmpR op_ge (pv 0) (pe_op op_pow pe_int pe_int) (nomark _)) pa_nil)) (fun _ _ => rfl))
      (pa_cons pe_int pa_nil))))), ?_⟩
    refine ⟨_, rfl, _, _, rfl, rfl, (show (0 : Int) < 1000000033 by decide), _, _, rfl, rfl, .inr ⟨by decide, by decide⟩, _, _, rfl, rfl, _, rfl, lz, fun p hp => ?_⟩
    have e18 : (10 : Int) ^ (18 : Int).toNat = 1000000000000000000 := by decide
    refine ⟨_, rfl, 10, 18, rfl, rfl, ⟨by decide, by decide, by decide⟩, _, _, rfl, rfl, .inr ⟨_, rfl, ?_⟩⟩
    refine ⟨p, [.int 0, .int n], _, .int (if decide ((10 : Int) ^ (18 : Int).toNat ≤ n) = true then n else 0), rfl, rfl, .inl (.inl upd_same), ?_, lz, fun a ha => ?_⟩
    · by_cases c : (10 : Int) ^ (18 : Int).toNat ≤ n
      · simp only [decide_eq_true c, if_true]
        exact atI_nat (j := 1) rfl
      · simp only [decide_eq_false c]
        exact atI_nat (j := 0) rfl
    · have hp2 : Same H (upd H p (.lst [.int 0, .int n])) := same_new hp
      refine q a _ (hp2.free ha) (hp2.trans (same_new ha)) ⟨_, _, _, upd_same, ?_⟩
      by_cases c : (10 : Int) ^ (18 : Int).toNat ≤ n
      · simp only [decide_eq_true c, if_true]
        rw [e18] at c
        omega
      · simp only [decide_eq_false c]
        exact Int.le_refl 0
/-! ### a pick: some number below many -/
def spPick : Sp := fun vs H Q _ => ∃ (a : Addr) (m : Int), vs = [.ref a, .int m] ∧ PurseAt H a ∧ 0 < m ∧ m < 1073741824 ∧
  ∀ (r : Int) (H' : Hp), 0 ≤ r → r < m → PurseAt H' a → SameX a H H' → (∀ p, H p = none → H' p = none) → Q (.int r) H'
theorem scPick : FnScope ["_law_purse_here", "_law_many", "_law_state", "_law_taken"] ["_law_purse_here", "_law_many"] (defScope sPick) :=
  ⟨rfl, rfl, rfl, by decide +kernel, rfl, by decide +kernel, by decide +kernel⟩
theorem none_upd {H : Hp} {a : Addr} {o u : HO} (h : H a = some o) : ∀ p, H p = none → upd H a u p = none := fun p hp => by
  rw [upd_ne (ne_of_none h hp).symm]
  exact hp
theorem ok_pick (F : Fun K "_law_pick" "_law_pick" sPick f fd) : FnOk P w K mg base CX0 1 f fd ["_law_purse_here", "_law_many"] spPick := by
  refine F.ok scPick (fun vs H Q E h => ?_) (fun cdv A outer s H vs Q E hr h => ?_)
  · obtain ⟨a, m, rfl, _⟩ := h
    rfl
  · obtain ⟨a, m, rfl, ⟨s0, b, c, ha, hb⟩, m0, m1, q⟩ := h
    refine ⟨_, pss_cons (ps_asg (pe_op op_add (pe_ix ix_list (pv 0) pe_int (fun _ _ => rfl)) pe_int) (pg_sub (pv 0) pe_int set_list))
      (pss_cons (ps_set (i := 2) scPick.nd rfl (.inl rfl) (pe_op op_mod (pe_ix ix_list (pv 0) pe_int (fun _ _ => rfl)) pe_int))
      (pss_cons (ps_asg (pe_op op_add (pe_op op_mul (pv 2) (pe_op op_add (pe_op op_mod (pv 2) pe_int) pe_int)) (pe_op op_mul pe_int (pe_ix ix_list (pv 0) pe_int (fun _ _ => rfl)))) (pg_sub (pv 0) pe_int set_list))
      (pss_cons (ps_if (pt_cmpR op_gt (pe_ix ix_list (pv 0) pe_int (fun _ _ => rfl)) pe_int (nomark _))
        (pss_cons (ps_set (i := 3) scPick.nd rfl (.inl rfl) (pe_op op_mod (pe_ix ix_list (pv 0) pe_int (fun _ _ => rfl)) (pv 1)))
        (pss_cons (ps_asg (pe_op op_fdiv (pe_ix ix_list (pv 0) pe_int (fun _ _ => rfl)) (pv 1)) (pg_sub (pv 0) pe_int set_list))
        (pss_one (ps_ret (pv 3))))) pss_nil)
      (pss_one (ps_ret (pe_op op_mod (pe_op op_fdiv (pe_op op_mod (pe_ix ix_list (pv 0) pe_int (fun _ _ => rfl)) pe_int) pe_int) (pv 1))))))), ?_⟩
    have hmod : ∀ x : Int, 0 ≤ x % 1000000033 ∧ x % 1000000033 < 1000000033 := fun x => by omega
    refine ⟨_, rfl, a, _, 2, .int c, rfl, rfl, .inl (.inl ha), atI_nat (j := 2) rfl, _, _, rfl, rfl, _, rfl, a, _, 2, 2, rfl, rfl, ha, rfl, ?_⟩
    refine ⟨_, rfl, a, _, 0, .int s0, rfl, rfl, .inl (.inl upd_same), atI_nat (j := 0) rfl, _, _, rfl, rfl, (show (0 : Int) < 1000000033 by decide), ?_⟩
    refine ⟨_, rfl, _, rfl, _, _, rfl, rfl, (show (0 : Int) < 60013 by decide), _, _, rfl, rfl, _, _, rfl, rfl, .inl ⟨by have := hmod s0; omega, by have := hmod s0; omega⟩,
      _, rfl, a, _, 2, _, rfl, rfl, .inl (.inl upd_same), atI_nat (j := 2) rfl, _, _, rfl, rfl, .inl ⟨by decide, by decide⟩, _, _, rfl, rfl, _, rfl, a, _, 0, 0, rfl, rfl, upd_same, rfl, ?_⟩
    refine ⟨_, rfl, a, _, 1, .int b, rfl, rfl, .inl (.inl upd_same), atI_nat (j := 1) rfl, _, _, rfl, rfl, _, rfl, ite_b (fun e => ?_) (fun e => ?_)⟩
    · refine ⟨_, rfl, a, _, 1, .int b, rfl, rfl, .inl (.inl upd_same), atI_nat (j := 1) rfl, _, rfl, b, m, rfl, rfl, m0, ?_⟩
      refine ⟨_, rfl, a, _, 1, .int b, rfl, rfl, .inl (.inl upd_same), atI_nat (j := 1) rfl, _, rfl, b, m, rfl, rfl, ⟨m0, m1⟩, _, rfl, a, _, 1, 1, rfl, rfl, upd_same, rfl, ?_⟩
      refine ⟨_, rfl, q _ _ (Int.emod_nonneg _ (by omega)) (Int.emod_lt_of_pos _ m0) ⟨_, _, _, upd_same, ?_⟩ (((sameX_upd).trans sameX_upd).trans sameX_upd) fun p hp => ?_⟩
      · exact Int.ediv_nonneg hb (by omega)
      · exact none_upd upd_same p (none_upd upd_same p (none_upd ha p hp))
    · refine ⟨_, rfl, a, _, 0, _, rfl, rfl, .inl (.inl upd_same), atI_nat (j := 0) rfl, _, _, rfl, rfl, (show (0 : Int) < 1000000033 by decide), _, _, rfl, rfl, ⟨by decide, by decide⟩, _, rfl, _, m, rfl, rfl, m0, ?_⟩
      exact q _ _ (Int.emod_nonneg _ (by omega)) (Int.emod_lt_of_pos _ m0) ⟨_, _, _, upd_same, hb⟩ ((sameX_upd).trans sameX_upd) fun p hp => none_upd upd_same p (none_upd ha p hp)

end
end Wl

namespace Wl
open PySem
theorem far_ex {E : Edges} {a b : Nat} (h : Conn E a b) : ∃ m, Far E a b m := by
  obtain ⟨n, hn⟩ := conn_wk h
  obtain ⟨m, h1, h2⟩ := least_of (Wk E a b) n hn
  exact ⟨m, h1, h2⟩
noncomputable def farN (E : Edges) (a b : Nat) : Option Nat := open Classical in if h : ∃ m, Far E a b m then some (Classical.choose h) else none
theorem farN_some {E : Edges} {a b m : Nat} (h : Far E a b m) : farN E a b = some m := by
  have ex : ∃ m, Far E a b m := ⟨m, h⟩
  unfold farN
  rw [dif_pos ex]
  exact congrArg some ((Classical.choose_spec ex).uniq h)
theorem farN_none {E : Edges} {a b : Nat} (h : ¬ Conn E a b) : farN E a b = none := by
  unfold farN
  rw [dif_neg]
  rintro ⟨m, hm⟩
  exact h hm.1.conn
/-- how far, place by place -/
noncomputable def farsL (chs : List Chg) (u v : List Nat) (i : Nat) : List (Option Nat) := (List.range i).map fun k => farN (es chs k u.length) (u.getD k 0) (v.getD k 0)
theorem getD_at {l : List Nat} {k a : Nat} (h : l[k]? = some a) : l.getD k 0 = a := by
  rw [List.getD_eq_getElem?_getD, h]
  rfl
theorem row_len {chs : List Chg} {u v : List Nat} (hl : u.length = v.length) : ∀ i, i ≤ u.length → GoodTo chs u v i → (rowTo chs u v i).length = 1 + ((farsL chs u v i).map fun o => o.getD 0).sum
  | 0, _, _ => rfl
  | i + 1, hi, g => by
    have hi' : i < u.length := hi
    have hv' : i < v.length := by omega
    have ha : u[i]? = some u[i] := List.getElem?_eq_getElem hi'
    have hb : v[i]? = some v[i] := List.getElem?_eq_getElem hv'
    have ih := row_len hl i (by omega) fun j a b hj => g j a b (by omega)
    rw [rowTo_succ ha hb, List.length_append, ih, List.length_map]
    have e : farsL chs u v (i + 1) = farsL chs u v i ++ [some (pathC (es chs i u.length) u[i] v[i]).length] := by
      unfold farsL
      rw [List.range_succ, List.map_append, List.map_singleton, getD_at ha, getD_at hb, farN_some (g i _ _ (by omega) ha hb).2.1]
    rw [e, List.map_append, List.sum_append]
    simp
    omega
theorem fars_all {chs : List Chg} {u v : List Nat} (hl : u.length = v.length) (g : ∀ (i a b : Nat), u[i]? = some a → v[i]? = some b → Conn (es chs i u.length) b a) : none ∉ farsL chs u v u.length := by
  intro h
  unfold farsL at h
  obtain ⟨k, hk, e⟩ := List.mem_map.mp h
  rw [List.mem_range] at hk
  have hv' : k < v.length := by omega
  have ha : u[k]? = some u[k] := List.getElem?_eq_getElem hk
  have hb : v[k]? = some v[k] := List.getElem?_eq_getElem hv'
  rw [getD_at ha, getD_at hb] at e
  obtain ⟨m, hm⟩ := far_ex (g k _ _ ha hb).symm
  rw [farN_some hm] at e
  cases e
theorem fars_no {chs : List Chg} {u v : List Nat} {i a b : Nat} (ha : u[i]? = some a) (hb : v[i]? = some b) (h : ¬ Conn (es chs i u.length) b a) : none ∈ farsL chs u v u.length := by
  unfold farsL
  refine List.mem_map.mpr ⟨i, List.mem_range.mpr (List.getElem?_eq_some_iff.mp ha).1, ?_⟩
  rw [getD_at ha, getD_at hb]
  exact farN_none fun c => h c.symm
end Wl

namespace Wl
open PySem
/-! ### a walk by breadth over anything, with how far each is -/
section
variable {α : Type}
inductive WkG (N : α → List α) : α → α → Nat → Prop
  | refl (a : α) : WkG N a a 0
  | step {a b c : α} {n : Nat} : WkG N a b n → c ∈ N b → WkG N a c (n + 1)
structure DepG (N : α → List α) (g : α) (tw : List α) (ds : List Nat) (at' : Nat) : Prop where
  nd : tw.Nodup
  len : ds.length = tw.length
  head : tw[0]? = some g
  zero : ds[0]? = some 0
  mono : ∀ (i j d e : Nat), i ≤ j → ds[i]? = some d → ds[j]? = some e → d ≤ e
  near : ∀ (j d e : Nat), ds[at']? = some d → ds[j]? = some e → e ≤ d + 1
  wk : ∀ (i n : Nat) (c : α), tw[i]? = some c → ds[i]? = some n → WkG N g c n
  seen : ∀ (j d : Nat) (x : α), j < at' → tw[j]? = some x → ds[j]? = some d → ∀ y ∈ N x, ∃ (k e : Nat), tw[k]? = some y ∧ ds[k]? = some e ∧ e ≤ d + 1
variable {N : α → List α} {g : α}
theorem DepG.start : DepG N g [g] [0] 0 := by
  refine ⟨by simp, rfl, rfl, rfl, ?_, ?_, ?_, fun j d x hj => by omega⟩
  · intro i j d e hij hd he
    have h1 : j < 1 := (List.getElem?_eq_some_iff.mp he).1
    have e1 : j = 0 := by omega
    have e2 : i = 0 := by omega
    subst e1 e2
    simp at hd he
    omega
  · intro j d e hd he
    have h1 : j < 1 := (List.getElem?_eq_some_iff.mp he).1
    have e1 : j = 0 := by omega
    subst e1
    simp at hd he
    omega
  · intro i n c hc hn
    have h1 : i < 1 := (List.getElem?_eq_some_iff.mp hc).1
    have e1 : i = 0 := by omega
    subst e1
    simp at hc hn
    subst hc hn
    exact .refl _
theorem DepG.push {x y : α} {d a : Nat} {tw : List α} {ds : List Nat} (b : DepG N g tw ds a) (hx : tw[a]? = some x) (hd : ds[a]? = some d) (hy : y ∈ N x) (hn : y ∉ tw) : DepG N g (tw ++ [y]) (ds ++ [d + 1]) a := by
  have ha : a < tw.length := (List.getElem?_eq_some_iff.mp hx).1
  have bl := b.len
  refine ⟨?_, by rw [List.length_append, List.length_append, b.len]; rfl, snoc_old b.head, snoc_old b.zero, ?_, ?_, ?_, ?_⟩
  · rw [List.nodup_append]
    refine ⟨b.nd, by simp, fun u hu v hv e => ?_⟩
    rw [List.mem_singleton] at hv
    subst hv e
    exact hn hu
  · intro i j u v hij hu hv
    rcases snoc_get hu with hu | ⟨e1, e2⟩ <;> rcases snoc_get hv with hv | ⟨e3, e4⟩
    · exact b.mono i j u v hij hu hv
    · subst e4
      exact b.near i d u hd hu
    · have := (List.getElem?_eq_some_iff.mp hv).1
      omega
    · omega
  · intro j u v hu hv
    rcases snoc_get hu with hu | ⟨e1, _⟩
    · rw [hd] at hu
      cases hu
      rcases snoc_get hv with hv | ⟨_, e4⟩
      · exact b.near j d v hd hv
      · omega
    · omega
  · intro i n c hi hni
    rcases snoc_get hi with hi | ⟨e1, e2⟩
    · have hlt := (List.getElem?_eq_some_iff.mp hi).1
      rcases snoc_get hni with hni | ⟨e3, _⟩
      · exact b.wk i n c hi hni
      · omega
    · rcases snoc_get hni with hni | ⟨_, e4⟩
      · have := (List.getElem?_eq_some_iff.mp hni).1
        omega
      · subst e2 e4
        exact .step (b.wk a d x hx hd) hy
  · intro j e u hj hu he v hv
    have hu' : tw[j]? = some u := by
      rcases snoc_get hu with hu | ⟨e1, _⟩
      · exact hu
      · omega
    have he' : ds[j]? = some e := by
      rcases snoc_get he with he | ⟨e1, _⟩
      · exact he
      · omega
    obtain ⟨k, m, h1, h2, h3⟩ := b.seen j e u hj hu' he' v hv
    exact ⟨k, m, snoc_old h1, snoc_old h2, h3⟩
theorem DepG.next {x : α} {d a : Nat} {tw : List α} {ds : List Nat} (b : DepG N g tw ds a) (hx : tw[a]? = some x) (hd : ds[a]? = some d) (h : ∀ y ∈ N x, y ∈ tw) : DepG N g tw ds (a + 1) := by
  refine ⟨b.nd, b.len, b.head, b.zero, b.mono, ?_, b.wk, ?_⟩
  · intro j u v hu hv
    have h1 := b.mono a (a + 1) d u (by omega) hd hu
    have h2 := b.near j d v hd hv
    omega
  · intro j e u hj hu he y hy
    by_cases q : j < a
    · exact b.seen j e u q hu he y hy
    · have : j = a := by omega
      subst this
      rw [hx] at hu
      rw [hd] at he
      cases hu
      cases he
      obtain ⟨k, hk, e2⟩ := List.mem_iff_getElem.mp (h y hy)
      have hk2 : k < ds.length := by rw [b.len]; exact hk
      have hk3 : ds[k]? = some ds[k] := List.getElem?_eq_getElem hk2
      exact ⟨k, _, by rw [List.getElem?_eq_getElem hk, e2], hk3, b.near k d _ hd hk3⟩
theorem nodup_idx {tw : List α} (nd : tw.Nodup) {i j : Nat} {c : α} (hi : tw[i]? = some c) (hj : tw[j]? = some c) : i = j := by
  obtain ⟨k1, e1⟩ := List.getElem?_eq_some_iff.mp hi
  obtain ⟨k2, e2⟩ := List.getElem?_eq_some_iff.mp hj
  have hp := List.pairwise_iff_getElem.mp nd
  rcases Nat.lt_trichotomy i j with h | h | h
  · exact absurd (e1.trans e2.symm) (hp i j k1 k2 h)
  · exact h
  · exact absurd (e2.trans e1.symm) (hp j i k2 k1 h)
theorem DepG.all {tw : List α} {ds : List Nat} (b : DepG N g tw ds tw.length) {y : α} {m : Nat} (h : WkG N g y m) : ∃ (k e : Nat), tw[k]? = some y ∧ ds[k]? = some e ∧ e ≤ m := by
  induction h with
  | refl => exact ⟨0, 0, b.head, b.zero, Nat.le_refl _⟩
  | step _ hm ih =>
    obtain ⟨k, e, h1, h2, h3⟩ := ih
    obtain ⟨k', e', g1, g2, g3⟩ := b.seen k e _ (List.getElem?_eq_some_iff.mp h1).1 h1 h2 _ hm
    exact ⟨k', e', g1, g2, by omega⟩
theorem DepG.mem_iff {tw : List α} {ds : List Nat} (b : DepG N g tw ds tw.length) {y : α} : y ∈ tw ↔ ∃ m, WkG N g y m := by
  constructor
  · intro h
    obtain ⟨k, hk, e⟩ := List.mem_iff_getElem.mp h
    have hk2 : k < ds.length := by rw [b.len]; exact hk
    exact ⟨_, b.wk k _ y (by rw [List.getElem?_eq_getElem hk, e]) (List.getElem?_eq_getElem hk2)⟩
  · rintro ⟨m, h⟩
    obtain ⟨k, e, h1, _⟩ := b.all h
    exact List.mem_of_getElem? h1
theorem DepG.least {tw : List α} {ds : List Nat} (b : DepG N g tw ds tw.length) {i n m : Nat} {y : α} (hi : tw[i]? = some y) (hn : ds[i]? = some n) (h : WkG N g y m) : n ≤ m := by
  obtain ⟨k, e, h1, h2, h3⟩ := b.all h
  have := nodup_idx b.nd hi h1
  subst this
  rw [hn] at h2
  cases h2
  exact h3
end
/-! ### words, by one change -/
def nxW (chs : List Chg) (x : List Nat) : List (List Nat) := (List.range x.length).flatMap fun i => (nbrs (es chs i x.length) (x.getD i 0)).map fun d => x.set i d
theorem mem_nxW {chs : List Chg} {x y : List Nat} : y ∈ nxW chs x ↔ ∃ i c d, x[i]? = some c ∧ d ∈ nbrs (es chs i x.length) c ∧ y = x.set i d := by
  unfold nxW
  rw [List.mem_flatMap]
  constructor
  · rintro ⟨i, hi, h⟩
    rw [List.mem_range] at hi
    obtain ⟨d, hd, rfl⟩ := List.mem_map.mp h
    have hx : x[i]? = some x[i] := List.getElem?_eq_getElem hi
    rw [getD_at hx] at hd
    exact ⟨i, _, d, hx, hd, rfl⟩
  · rintro ⟨i, c, d, hx, hd, rfl⟩
    refine ⟨i, List.mem_range.mpr (List.getElem?_eq_some_iff.mp hx).1, List.mem_map.mpr ⟨d, ?_, rfl⟩⟩
    rw [getD_at hx]
    exact hd
theorem nxW_len {chs : List Chg} {x y : List Nat} (h : y ∈ nxW chs x) : y.length = x.length := by
  obtain ⟨i, c, d, _, _, rfl⟩ := mem_nxW.mp h
  exact List.length_set
theorem wkW_len {chs : List Chg} {x y : List Nat} {n : Nat} (h : WkG (nxW chs) x y n) : y.length = x.length := by
  induction h with
  | refl => rfl
  | step _ hm ih => rw [nxW_len hm, ih]
theorem wkW_conn {chs : List Chg} {x y : List Nat} {n : Nat} (h : WkG (nxW chs) x y n) : ∀ (i a b : Nat), x[i]? = some a → y[i]? = some b → Conn (es chs i x.length) a b := by
  induction h with
  | refl =>
    intro i a b h1 h2
    rw [h1] at h2
    cases h2
    exact .refl _
  | step hw hm ih =>
    rename_i b' c' n'
    intro i a b h1 h2
    have hl := wkW_len hw
    obtain ⟨j, c, d, hc, hd, e⟩ := mem_nxW.mp hm
    subst e
    by_cases q : j = i
    · subst q
      rw [List.getElem?_set_self (List.getElem?_eq_some_iff.mp hc).1] at h2
      cases h2
      rw [hl] at hd
      exact .step (ih j a c h1 hc) hd
    · rw [List.getElem?_set_ne q] at h2
      exact ih i a b h1 h2
/-- how far, all places together -/
noncomputable def sumF (chs : List Chg) (u v : List Nat) : Nat := ((farsL chs u v u.length).map fun o => o.getD 0).sum
theorem sum_le_one : ∀ {l m : List Nat} {j : Nat}, l.length = m.length → (∀ i, i ≠ j → l[i]? = m[i]?) → (∀ a b, l[j]? = some a → m[j]? = some b → b ≤ a + 1) → m.sum ≤ l.sum + 1
  | [], [], _, _, _, _ => by simp
  | [], _ :: _, _, h, _, _ => by simp at h
  | _ :: _, [], _, h, _, _ => by simp at h
  | a :: l, b :: m, 0, h, h1, h2 => by
    have e : l = m := List.ext_getElem? fun i => by
      have := h1 (i + 1) (by omega)
      simpa using this
    subst e
    have := h2 a b rfl rfl
    simp only [List.sum_cons]
    omega
  | a :: l, b :: m, j + 1, h, h1, h2 => by
    have e : a = b := by
      have := h1 0 (by omega)
      simpa using this
    subst e
    have := sum_le_one (l := l) (m := m) (j := j) (by simpa using h) (fun i hi => by
      have := h1 (i + 1) (by omega)
      simpa using this) (fun x y hx hy => h2 x y (by simpa using hx) (by simpa using hy))
    simp only [List.sum_cons]
    omega
theorem farN_step {E : Edges} {a b c : Nat} (h : Conn E a b) (hc : c ∈ nbrs E b) : (farN E a c).getD 0 ≤ (farN E a b).getD 0 + 1 := by
  obtain ⟨m, hm⟩ := far_ex h
  obtain ⟨k, hk⟩ := far_ex (Conn.step h hc)
  rw [farN_some hm, farN_some hk]
  exact hk.2 _ (.step hm.1 hc)
theorem sumF_step {chs : List Chg} {x y z : List Nat} (hl : y.length = x.length) (hc : ∀ (i a b : Nat), x[i]? = some a → y[i]? = some b → Conn (es chs i x.length) a b) (hz : z ∈ nxW chs y) : sumF chs x z ≤ sumF chs x y + 1 := by
  obtain ⟨j, c, d, hj, hd, rfl⟩ := mem_nxW.mp hz
  have hjl := (List.getElem?_eq_some_iff.mp hj).1
  unfold sumF farsL
  refine sum_le_one (j := j) (by simp) (fun i hi => ?_) (fun a b ha hb => ?_)
  · simp only [List.getElem?_map]
    cases q : (List.range x.length)[i]? with
    | none => rfl
    | some k =>
      have ek : k = i := by
        obtain ⟨h1, h2⟩ := List.getElem?_eq_some_iff.mp q
        rw [List.getElem_range] at h2
        exact h2.symm
      subst ek
      simp only [Option.map_some]
      congr 3
      rw [List.getD_eq_getElem?_getD, List.getD_eq_getElem?_getD, List.getElem?_set_ne (fun e => hi e.symm)]
  · have hjx : j < x.length := by omega
    have hr : (List.range x.length)[j]? = some j := by rw [List.getElem?_eq_getElem (by simpa using hjx)]; simp
    simp only [List.getElem?_map, hr, Option.map_some, Option.some.injEq] at ha hb
    have hx : x[j]? = some x[j] := List.getElem?_eq_getElem hjx
    rw [getD_at hx] at ha hb
    rw [getD_at hj] at ha
    rw [getD_at (List.getElem?_set_self hjl)] at hb
    rw [← ha, ← hb]
    rw [hl] at hd
    exact farN_step (hc j _ _ hx hj) hd
theorem sumF_self (chs : List Chg) (u : List Nat) : sumF chs u u = 0 := by
  unfold sumF
  have : ∀ o ∈ farsL chs u u u.length, o.getD 0 = 0 := fun o ho => by
    unfold farsL at ho
    obtain ⟨k, _, rfl⟩ := List.mem_map.mp ho
    rw [farN_some (Far.self _ _)]
    rfl
  generalize farsL chs u u u.length = l at this
  induction l with
  | nil => rfl
  | cons o r ih =>
    rw [List.map_cons, List.sum_cons, this o List.mem_cons_self, ih fun q hq => this q (List.mem_cons_of_mem _ hq)]
theorem sumF_le {chs : List Chg} {x y : List Nat} {n : Nat} (h : WkG (nxW chs) x y n) : sumF chs x y ≤ n := by
  induction h with
  | refl => rw [sumF_self]; exact Nat.le_refl _
  | step hw hm ih =>
    have := sumF_step (wkW_len hw) (wkW_conn hw) hm
    omega
/-- a row is a walk -/
theorem rowS_wk {chs : List Chg} {u w : List Nat} {ts : List (List Nat)} (r : RowS chs u w ts) : WkG (nxW chs) u w (ts.length - 1) := by
  have key : ∀ k x, ts[k]? = some x → WkG (nxW chs) u x k := by
    intro k
    induction k with
    | zero =>
      intro x hx
      rw [r.head] at hx
      cases hx
      exact .refl _
    | succ k ih =>
      intro y hy
      have hk : k < ts.length := by
        have := (List.getElem?_eq_some_iff.mp hy).1
        omega
      have hx : ts[k]? = some ts[k] := List.getElem?_eq_getElem hk
      obtain ⟨i, c, d, h1, h2, _, h4⟩ := r.steps k _ y hx hy
      exact .step (ih _ hx) (mem_nxW.mpr ⟨i, c, d, h1, h2, h4⟩)
  have := r.last
  rw [List.getLast?_eq_getElem?] at this
  exact key _ _ this
theorem row_far {chs : List Chg} (ok : ∀ ch ∈ chs, OkC ch) {u v : List Nat} (hl : u.length = v.length) (g : GoodTo chs u v u.length) {tw : List (List Nat)} {ds : List Nat} (b : DepG (nxW chs) u tw ds tw.length) {i n : Nat} (hi : tw[i]? = some v) (hn : ds[i]? = some n) : (rowTo chs u v u.length).length = n + 1 := by
  have r := rowTo_all ok hl g
  have w := rowS_wk r
  have l := row_len hl _ (Nat.le_refl _) g
  have h1 := b.least hi hn w
  have h2 := sumF_le (b.wk i n v hi hn)
  have h3 : sumF chs u v = ((farsL chs u v u.length).map fun o => o.getD 0).sum := rfl
  omega
/-- all that hang together place by place is come to -/
theorem conn_wkW {chs : List Chg} {i a b : Nat} {x : List Nat} (h : Conn (es chs i x.length) a b) (ha : x[i]? = some a) : ∃ n, WkG (nxW chs) x (x.set i b) n := by
  have hi := (List.getElem?_eq_some_iff.mp ha).1
  induction h with
  | refl =>
    refine ⟨0, ?_⟩
    have e : x.set i a = x := by
      refine List.ext_getElem? fun j => ?_
      by_cases q : i = j
      · subst q
        rw [List.getElem?_set_self hi, ha]
      · rw [List.getElem?_set_ne q]
    rw [e]
    exact .refl _
  | @step b' c' _ hm ih =>
    obtain ⟨n, hn⟩ := ih
    refine ⟨n + 1, .step hn (mem_nxW.mpr ⟨i, b', c', List.getElem?_set_self hi, ?_, ?_⟩)⟩
    · rw [List.length_set]
      exact hm
    · rw [List.set_set]
theorem wkW_trans {chs : List Chg} {x y z : List Nat} {n m : Nat} (h : WkG (nxW chs) x y n) (k : WkG (nxW chs) y z m) : WkG (nxW chs) x z (n + m) := by
  induction k with
  | refl => exact h
  | step _ hm ih => exact .step ih hm
theorem one_wk {chs : List Chg} {u v : List Nat} (hl : u.length = v.length) (g : ∀ (i a b : Nat), u[i]? = some a → v[i]? = some b → Conn (es chs i u.length) b a) : ∀ i, i ≤ u.length → ∃ n, WkG (nxW chs) u (v.take i ++ u.drop i) n
  | 0, _ => ⟨0, by simpa using WkG.refl u⟩
  | i + 1, hi => by
    obtain ⟨n, hn⟩ := one_wk hl g i (by omega)
    have hiu : i < u.length := hi
    have hiv : i < v.length := by omega
    have ha : u[i]? = some u[i] := List.getElem?_eq_getElem hiu
    have hb : v[i]? = some v[i] := List.getElem?_eq_getElem hiv
    have ex : v.take i ++ u.drop i = v.take i ++ u[i] :: u.drop (i + 1) := by rw [List.drop_eq_getElem_cons hiu]
    rw [ex] at hn
    have hlen := mix_len (u := u) (v := v) (i := i) (c := u[i]) hl hiu
    have hget := mix_get (u := u) (v := v) (i := i) (c := u[i]) hl hiu
    have hset := mix_set (u := u) (v := v) (i := i) (c := u[i]) (d := v[i]) hl hiu
    have hcn : Conn (es chs i (v.take i ++ u[i] :: u.drop (i + 1)).length) u[i] v[i] := by
      rw [hlen]
      exact (g i _ _ ha hb).symm
    obtain ⟨m, hm⟩ := conn_wkW hcn hget
    rw [hset] at hm
    refine ⟨n + m, ?_⟩
    have e2 : v.take (i + 1) ++ u.drop (i + 1) = v.take i ++ v[i] :: u.drop (i + 1) := by
      rw [List.take_add_one, hb, List.append_assoc]
      rfl
    rw [e2]
    exact wkW_trans hn hm
theorem one_iff_wk {chs : List Chg} {z y : Str} : OneP chs z y ↔ ∃ n, WkG (nxW chs) (codes z) (codes y) n := by
  constructor
  · rintro ⟨hl, g⟩
    obtain ⟨n, hn⟩ := one_wk (u := codes z) (v := codes y) hl g _ (Nat.le_refl _)
    rw [hl, List.take_length, List.drop_of_length_le (by omega), List.append_nil] at hn
    exact ⟨n, hn⟩
  · rintro ⟨n, h⟩
    exact ⟨(wkW_len h).symm, fun i a b h1 h2 => (wkW_conn h i a b h1 h2).symm⟩
/-! ### letters a to e alone: not many words -/
def in5 (c : Nat) : Prop := 97 ≤ c ∧ c ≤ 101
def C5 (chs : List Chg) : Prop := ∀ ch ∈ chs, in5 ch.1 ∧ in5 ch.2.1
def W5 (n : Nat) (x : List Nat) : Prop := x.length = n ∧ ∀ c ∈ x, in5 c
def all5 : Nat → List (List Nat)
  | 0 => [[]]
  | n + 1 => (List.range' 97 5).flatMap fun c => (all5 n).map fun r => c :: r
theorem all5_len : ∀ n, (all5 n).length = 5 ^ n
  | 0 => rfl
  | n + 1 => by
    show ((List.range' 97 5).flatMap fun c => (all5 n).map fun r => c :: r).length = _
    rw [List.length_flatMap]
    simp only [List.length_map, all5_len n]
    rw [Nat.pow_succ]
    show (5 ^ n + (5 ^ n + (5 ^ n + (5 ^ n + (5 ^ n + 0))))) = _
    omega
theorem all5_mem : ∀ {n : Nat} {x : List Nat}, W5 n x → x ∈ all5 n
  | 0, x, h => by
    have : x = [] := List.length_eq_zero_iff.mp h.1
    subst this
    exact List.mem_singleton.mpr rfl
  | n + 1, [], h => by have := h.1; simp at this
  | n + 1, c :: r, h => by
    refine List.mem_flatMap.mpr ⟨c, ?_, List.mem_map.mpr ⟨r, all5_mem ⟨?_, fun d hd => h.2 d (List.mem_cons_of_mem _ hd)⟩, rfl⟩⟩
    · have := h.2 c List.mem_cons_self
      rw [List.mem_range'_1]
      unfold in5 at this
      omega
    · have := h.1
      simpa using this
theorem len5 {n : Nat} {tw : List (List Nat)} (nd : tw.Nodup) (h : ∀ x ∈ tw, W5 n x) : tw.length ≤ 5 ^ n := by
  have := nd.length_le_of_subset (l₂ := all5 n) fun x hx => all5_mem (h x hx)
  rw [all5_len] at this
  exact this
theorem nxW_5 {chs : List Chg} (h5 : C5 chs) {n : Nat} {x y : List Nat} (hx : W5 n x) (h : y ∈ nxW chs x) : W5 n y := by
  refine ⟨(nxW_len h).trans hx.1, fun c hc => ?_⟩
  obtain ⟨i, a, d, h1, h2, rfl⟩ := mem_nxW.mp h
  rcases List.mem_or_eq_of_mem_set hc with hc | rfl
  · exact hx.2 c hc
  · rcases mem_nbrs.mp h2 with m | m
    · obtain ⟨ch, hch, e⟩ := List.mem_map.mp m
      have := (h5 ch (List.mem_filter.mp hch).1).2
      have e2 : ch.2.1 = c := congrArg (·.2) e
      rw [e2] at this
      exact this
    · obtain ⟨ch, hch, e⟩ := List.mem_map.mp m
      have := (h5 ch (List.mem_filter.mp hch).1).1
      have e2 : ch.1 = c := congrArg (·.1) e
      rw [e2] at this
      exact this
theorem nxW_count (chs : List Chg) (x : List Nat) : (nxW chs x).length ≤ x.length * (2 * chs.length) := by
  unfold nxW
  rw [List.length_flatMap]
  have : ∀ l : List Nat, (l.map fun i => ((nbrs (es chs i x.length) (x.getD i 0)).map fun d => x.set i d).length).sum ≤ l.length * (2 * chs.length) := by
    intro l
    induction l with
    | nil => simp
    | cons i r ih =>
      rw [List.map_cons, List.sum_cons, List.length_map, List.length_cons, Nat.add_mul, Nat.one_mul]
      have h1 : (nbrs (es chs i x.length) (x.getD i 0)).length ≤ 2 * chs.length := by
        have a1 : ∀ E : Edges, (nbrs E (x.getD i 0)).length ≤ 2 * E.length := fun E => by
          induction E with
          | nil => simp [nbrs]
          | cons e r ih2 =>
            have h1 : nbrs (e :: r) (x.getD i 0) = nbE (x.getD i 0) e ++ nbrs r (x.getD i 0) := rfl
            have h2 : (nbE (x.getD i 0) e).length ≤ 2 := by
              unfold nbE
              split <;> split <;> simp
            rw [h1, List.length_append, List.length_cons]
            omega
        have a2 := a1 (es chs i x.length)
        have a3 : (es chs i x.length).length ≤ chs.length := by
          unfold es
          rw [List.length_map]
          exact List.length_filter_le _ _
        omega
      omega
  have h := this (List.range x.length)
  rw [List.length_range] at h
  exact h
end Wl

namespace Wl
open PySem PySem.Spec PyProof.Rows L2
/-! sorted(d), min(d) of a dict whose keys are texts, however many -/
theorem sort_strs (ks : List Str) : ks.mergeSort (PySem.W.dataLe false PyData.str) = sortS ks := by
  unfold sortS
  congr 1
  funext a b
  exact le_data_str a b
theorem vals_each_str : ∀ {out : List Value} {ks : List Str}, PySem.W.EachIs (fun u z => RelV (.str z) u) out ks → Vals (ks.map V.str) out
  | _, _, .nil => .nil
  | _, _, .cons r t => .cons r (vals_each_str t)
theorem each_strs : ∀ {us : List Value} {ks : List Str}, us.length = ks.length → (∀ (j : Nat) (v : Value), us[j]? = some v → ∃ y, ks[j]? = some y ∧ RelV (.str y) v) → PySem.W.EachIs (fun u z => RelV (.str z) u) us ks
  | [], [], _, _ => .nil
  | [], _ :: _, h, _ => by simp at h
  | _ :: _, [], h, _ => by simp at h
  | u :: us, k :: ks, h, f => by
    obtain ⟨y, e, r⟩ := f 0 u rfl
    have e : k = y := Option.some.inj e
    subst e
    exact .cons r (each_strs (by simpa using h) fun j v hv => f (j + 1) v (by simpa using hv))
theorem strs_alike (ks : List Str) : PySem.W.AllAlike (ks.map PyData.str) := PySem.W.AllAlike.of fun _ _ => rfl
theorem strs_sortable (ks : List Str) : PySem.W.Sortable (ks.map PyData.str) := PySem.W.Sortable.others fun b => ⟨(fun e => by cases e), (fun xs e => by cases e)⟩
def rSortDk : List V → Hp → VK → Prop := fun vs H Q => ∃ (a : Addr) (kvs : List (Key × V)) (ks : List Str), vs = [V.ref a] ∧ Rd H a (.dK kvs) ∧ kvs.map (·.1) = ks.map Sum.inr ∧
  ∀ p, H p = none → Q (.ref p) (upd H p (.lst ((sortS ks).map V.str)))
theorem cr_sortDk {X : Cx} (hcalm : X.calm = true) (hu : X.A.units + 64 < cLine) : CallR X (.builtin "sorted") rSortDk := by
  intro pins s σ H xs us Q I r q
  obtain ⟨a, kvs, ks, ex, hd, hks, q⟩ := q
  subst ex
  obtain ⟨u, eu, rx⟩ := vals1 r
  subst eu
  cases rx
  obtain ⟨z, lo, vs, rel, dd⟩ := dk_rd I.hok hd
  obtain ⟨ep, hat⟩ := dd.dictAt
  have hkeys : vs.map (·.1) = ks.map Sum.inr := rel.keys.symm.trans hks
  have hl : vs.length = ks.length := by
    have e := congrArg List.length hkeys
    rw [List.length_map, List.length_map] at e
    exact e
  have hl2 : kvs.length = ks.length := by
    have e := congrArg List.length hks
    rw [List.length_map, List.length_map] at e
    exact e
  have h16 : vs.length ≤ sizeLine := by rw [hl, ← hl2]; exact z
  refine Calls.call_function_entry PyProof.Rows.kind_sorted PyProof.Rows.plain_sorted PyProof.Rows.entry_sorted (PyProof.Rows.args_sorted1 _) ?_
  unfold Builtin.«sorted»
  refine wpAny_bind (m := checkCount "sorted" 1 1 _) (wpAny_pure ?_)
  refine wpAny_bind (PySem.W.kdu_collect (A := X.A.in1) (PySem.W.kdl_dict (knd := mixKind X.prog X.w) (kvs := vs) (ep := ep) lo) (I.ok.hd hcalm) hat h16 fun h' tk acc hk hacc => ?_)
  have hal : acc.toList.length = ks.length := by rw [Array.length_toList, hacc.1, hl]
  have hS : PySem.W.EachIs (fun u z => RelV (.str z) u) acc.toList ks := each_strs hal fun j v e => by
    obtain ⟨k, x, e1, e2⟩ := hacc.2 j v (by rw [← Array.getElem?_toList]; exact e)
    have e3 : (vs.map (·.1))[j]? = some k := by rw [List.getElem?_map, e1]; all_goals rfl
    rw [hkeys, List.getElem?_map] at e3
    cases e4 : ks[j]? with
    | none => rw [e4] at e3; cases e3
    | some y =>
      rw [e4] at e3
      have e5 : Sum.inr y = k := Option.some.inj e3
      subst e5
      obtain ⟨t, ev⟩ := Value.isStrOf_shape (x := y) (v := v) e2
      exact ⟨y, rfl, t, ev⟩
  have I1 : Inv X pins σ H { s with heap := h', toks := tk } := I.kept hk
  have h16k : ks.length ≤ sizeLine := by rw [← hl]; exact h16
  refine wpAny_bind (wpAny_newList ?_ (by rw [hal]; exact h16k))
  have hoL : (h'.push (seqObj "list" acc.toList.toArray 0)).get? h'.objs.size = some (seqObj "list" acc.toList.toArray 0) := Heap.get?_push_size _ rfl
  show wpAny _ _ _ _ _ { s with heap := h'.push (seqObj "list" acc.toList.toArray 0), toks := tk }
  refine wpAny_bind (wpAny_holding (PySem.W.list_sort_data (R := fun u z => RelV (.str z) u) (enc := PyData.str) (s := { s with heap := h'.push (seqObj "list" acc.toList.toArray 0), toks := tk }) hoL hS (hS.mono fun v b r => ?_) (strs_alike ks) (strs_sortable ks) h16k (fun b _ => ?_) fun out ho eo => ?_))
  · obtain ⟨t, rfl⟩ := r
    exact ⟨[], .str _ _, by simp⟩
  · show X.A.units + 1 + 1 + 0 < cLine
    omega
  · rw [sort_strs] at eo
    obtain ⟨e', he'⟩ := PyProof.Rows.sortedHeap_at (vs := acc.toList) (out := out.toArray) hoL
    have hlen : ((sortS ks).map V.str).length ≤ sizeLine := by
      rw [List.length_map, sortS_len]
      exact h16k
    refine wpAny_pure ⟨_, rfl, .ref h'.objs.size, upd H h'.objs.size (.lst ((sortS ks).map V.str)), I1.laid (t' := tk) (fun b u e => ?_) (Nat.le_refl _)
      (show ObjOk X.prog X.w _ _ _ (.lst ((sortS ks).map V.str)) from ⟨hlen, out, e', vals_each_str eo, he'⟩), rfl, q _ (I1.hok.fresh (Nat.le_refl _))⟩
    have hb : b < h'.objs.size := Heap.lt_size e
    rw [PyProof.Rows.sortedHeap_old (Nat.ne_of_lt hb) (by rw [size_push']; exact Nat.lt_succ_of_lt hb)]
    exact Heap.get?_push_of_some _ e
theorem minD_strs : ∀ (c : Str) (cs : List Str), ∃ m, m ∈ c :: cs ∧ (∀ d ∈ c :: cs, ¬ ltS d m) ∧ PySem.W.minD (.str c) (cs.map PyData.str) = .str m
  | c, [] => ⟨c, List.mem_cons_self, fun d hd => by rw [List.mem_singleton.mp hd]; exact ltS_irr _, rfl⟩
  | c, d :: r => by
    by_cases h : ltS d c
    · obtain ⟨m, h1, h2, h3⟩ := minD_strs d r
      refine ⟨m, List.mem_cons_of_mem _ h1, fun x hx => ?_, ?_⟩
      · rcases List.mem_cons.mp hx with rfl | hx
        · exact fun q => h2 d List.mem_cons_self (ltS_tr _ _ _ h q)
        · exact h2 x hx
      · rw [← h3]
        unfold PySem.W.minD
        rw [List.map_cons, List.foldl_cons, PySem.W.dataLt_str, decide_eq_true h]
        rfl
    · obtain ⟨m, h1, h2, h3⟩ := minD_strs c r
      refine ⟨m, ?_, fun x hx => ?_, ?_⟩
      · rcases List.mem_cons.mp h1 with rfl | h1
        · exact List.mem_cons_self
        · exact List.mem_cons_of_mem _ (List.mem_cons_of_mem _ h1)
      · rcases List.mem_cons.mp hx with rfl | hx
        · exact h2 x List.mem_cons_self
        · rcases List.mem_cons.mp hx with rfl | hx
          · intro q
            by_cases e : ltS c m
            · exact h2 c List.mem_cons_self e
            · have hmc : ¬ ltS m c := fun k => by
                have := h2 m
                exact h (ltS_tr _ _ _ q k)
              have := ltS_tot e hmc
              subst this
              exact h q
          · exact h2 x (List.mem_cons_of_mem _ hx)
      · rw [← h3]
        unfold PySem.W.minD
        rw [List.map_cons, List.foldl_cons, PySem.W.dataLt_str, decide_eq_false h]
        rfl
def rMinDk : List V → Hp → VK → Prop := fun vs H Q => ∃ (a : Addr) (kvs : List (Key × V)) (ks : List Str), vs = [V.ref a] ∧ Rd H a (.dK kvs) ∧ kvs.map (·.1) = ks.map Sum.inr ∧ ks ≠ [] ∧
  ∀ m ∈ ks, (∀ c ∈ ks, ¬ ltS c m) → Q (.str m) H
theorem cr_minDk {X : Cx} (hcalm : X.calm = true) (hu : X.A.units + 64 < cLine) : CallR X (.builtin "min") rMinDk := by
  intro pins s σ H xs us Q I r q
  obtain ⟨a, kvs, ks, ex, hd, hks, hne, q⟩ := q
  subst ex
  obtain ⟨u, eu, rx⟩ := vals1 r
  subst eu
  cases rx
  obtain ⟨z, lo, vs, rel, dd⟩ := dk_rd I.hok hd
  obtain ⟨ep, hat⟩ := dd.dictAt
  have hkeys : vs.map (·.1) = ks.map Sum.inr := rel.keys.symm.trans hks
  have hl : vs.length = ks.length := by
    have e := congrArg List.length hkeys
    rw [List.length_map, List.length_map] at e
    exact e
  have key : ∀ (i : Nat) (v : Value), (∃ k x, vs[i]? = some (k, x) ∧ (mixKind X.prog X.w).is k v = true) → ∃ y t, ks[i]? = some y ∧ v = .str y t := by
    rintro i v ⟨k, x, e1, e2⟩
    have e3 : (vs.map (·.1))[i]? = some k := by rw [List.getElem?_map, e1]; all_goals rfl
    rw [hkeys, List.getElem?_map] at e3
    cases e4 : ks[i]? with
    | none => rw [e4] at e3; cases e3
    | some y =>
      rw [e4] at e3
      have e5 : Sum.inr y = k := Option.some.inj e3
      subst e5
      obtain ⟨t, ev⟩ := Value.isStrOf_shape (x := y) (v := v) e2
      exact ⟨y, t, rfl, ev⟩
  cases ks with
  | nil => exact absurd rfl hne
  | cons c cs =>
    obtain ⟨oI, St, hit, W, st0⟩ := (PySem.W.kdl_dict (prog := X.prog) (w := X.w) (knd := mixKind X.prog X.w) (kvs := vs) (ep := ep) lo).iter X.A.in1 s (I.ok.hd hcalm) hat
    have hsz : (s.heap.push oI).objs.size = s.heap.objs.size + 1 := Heap.size_push ..
    have hda : a < s.heap.objs.size := hat.lt_size
    refine PySem.call_min_walkH (hit _ _ ⟨_, _, _, _, _, _, _, s.heap, fun i j => PySem.W.dataLt (((c :: cs).map PyData.str).getD i .none) (((c :: cs).map PyData.str).getD j .none), rfl, W.toS, st0, fun b hb => ?_, by rw [hl]; simp, fun b o e hb => ?_, fun b o e => Heap.get?_push_of_some _ e, ?_, fun v s' hP m => ?_⟩)
    · show b < (s.heap.push oI).objs.size
      rw [hsz]
      rcases List.mem_cons.mp hb with rfl | hb
      · exact Nat.lt_succ_self _
      · rw [List.mem_singleton.mp hb]
        exact Nat.lt_succ_of_lt hda
    · exact absurd (Heap.lt_size e) ((List.mem_singleton.mp hb) ▸ Nat.lt_irrefl _)
    · intro i j vi vj s' Q' E' hk hi hj hq
      obtain ⟨y1, t1, k1, rfl⟩ := key i vi hi
      obtain ⟨y2, t2, k2, rfl⟩ := key j vj hj
      have g1 : ((c :: cs).map PyData.str).getD i .none = .str y1 := by rw [List.getD_eq_getElem?_getD, List.getElem?_map, k1]; rfl
      have g2 : ((c :: cs).map PyData.str).getD j .none = .str y2 := by rw [List.getD_eq_getElem?_getD, List.getElem?_map, k2]; rfl
      dsimp only at hq
      rw [g1, g2] at hq
      refine PySem.W.rcLt_alike _ _ X.A.in1 s' _ _ _ _ (.str y1 t1) (.str y2 t2) rfl (fun e => by cases e) ?_ X.prog X.w E' Q' hq
      show X.A.units + 1 + 0 < cLine
      omega
    · obtain ⟨h', tk, rfl, hk'⟩ := PySem.W.moved_old rfl rfl m
      obtain ⟨y, t, k1, rfl⟩ := key _ v hP
      have e2 := (PySem.W.argBest_fold PySem.W.dataLt PyData.none (.str c) (cs.map PyData.str) (cs.map PyData.str).length (Nat.le_refl _)).2
      rw [List.take_length] at e2
      obtain ⟨mm, h1, h2, h3⟩ := minD_strs c cs
      unfold PySem.W.minD at h3
      rw [h3] at e2
      have e3 : vs.length - 1 = (cs.map PyData.str).length := by rw [hl, List.length_map]; rfl
      rw [e3] at k1
      have e4 : ((PyData.str c) :: cs.map PyData.str) = (c :: cs).map PyData.str := rfl
      rw [e4, List.getD_eq_getElem?_getD, List.getElem?_map] at e2
      have k2 : (c :: cs)[PySem.argBest (fun i j => PySem.W.dataLt (((c :: cs).map PyData.str).getD i .none) (((c :: cs).map PyData.str).getD j .none)) (cs.map PyData.str).length]? = some y := k1
      rw [k2] at e2
      have e5 : y = mm := by
        have : PyData.str y = PyData.str mm := e2
        cases this
        rfl
      subst e5
      exact ⟨.str y, H, I.kept (t' := tk) hk', ⟨t, rfl⟩, q y h1 h2⟩
end Wl

namespace Wl
open PySem PySem.Spec PyProof.Rows L2
abbrev sChanges : Stmt := topW 27
theorem abcde_eq : ("abcde" : Str).cps.toList = List.range' 97 5 := by decide +kernel
theorem abcde_at {r : Int} (h0 : 0 ≤ r) (h : r < 5) : atI ("abcde" : Str).cps.toList r = some (97 + r.toNat) := by
  rw [abcde_eq]
  have e : r = ((r.toNat : Nat) : Int) := by omega
  rw [e]
  refine atI_nat ?_
  rw [List.getElem?_range' (by omega)]
  congr 1
  omega
theorem ChAt.X {H H' : Hp} {a S : Addr} {chs : List Chg} {ys : List V} (h : ChAt H S chs) (ha : H a = some (.lst ys)) (s : SameX a H H') : ChAt H' S chs :=
  h.keep fun p xs e => s p _ (ne_of e ha (by intro z; cases z)) e
theorem each_X {H H' : Hp} {a : Addr} {as : List Addr} {chs : List Chg} {ys : List V} (h : Each (fun (p : Addr) (ch : Chg) => H p = some (.tup (chV ch))) as chs) (ha : H a = some (.lst ys)) (s : SameX a H H') : Each (fun (p : Addr) (ch : Chg) => H' p = some (.tup (chV ch))) as chs :=
  h.mono fun p ch e => s p _ (ne_of e ha (by intro z; cases z)) e
section
variable {P : Program} {w : World} {K : PySem.W.Frag} {mg : Str → Option Value} {base : Heap} {f : Addr} {fd : FuncData}
def spChanges : Sp := fun vs H Q _ => ∃ (a : Addr) (m : Int), vs = [.ref a, .int m] ∧ PurseAt H a ∧ 0 ≤ m ∧ m ≤ 12 ∧ ∀ (S : Addr) (chs : List Chg) (H' : Hp), PurseAt H' a → SameX a H H' → ChAt H' S chs → OkCs chs → C5 chs → Q (.ref S) H'
abbrev nChanges : List Str := ["_law_purse_here", "_law_most", "_law_found", "_law_k", "_law_one", "_law_wide", "_law_other", "_law_where"]
theorem scChanges : FnScope nChanges ["_law_purse_here", "_law_most"] (defScope sChanges) := ⟨rfl, rfl, rfl, by decide +kernel, rfl, by decide +kernel, by decide +kernel⟩
theorem ok_changes (F : Fun K "_law_changes" "_law_changes" sChanges f fd) (B : Bi mg) (hp : Has P w K mg base "_law_pick" 1 ["_law_purse_here", "_law_many"] spPick) : FnOk P w K mg base CX0 2 f fd ["_law_purse_here", "_law_most"] spChanges := by
  refine F.ok scChanges (fun vs H Q E h => ?_) (fun cdv A outer s H vs Q E hr h => ?_)
  · obtain ⟨a, m, rfl, _⟩ := h
    rfl
  · obtain ⟨a, m, rfl, hA, m0, m12, q⟩ := h
    refine ⟨_, pss_cons (ps_set (i := 2) scChanges.nd rfl (.inl rfl) (pe_lst pa_nil))
      (pss_cons (ps_for PassesOwn.never rfl (pi_range1 (by rfl) B.range (pa_cons (pe_h hp hr (pa_cons (pv 0) (pa_cons (pe_op op_add (pv 1) pe_int) pa_nil))) pa_nil)) (pg_name (i := 3) scChanges.nd rfl (.inl rfl))
        (pss_cons (ps_par (i := 4) (j := 5) (by rfl) scChanges.nd rfl rfl (by decide) rfl rfl (pa_cons (pe_h hp hr (pa_cons (pv 0) (pa_cons pe_int pa_nil))) (pa_cons (pe_h hp hr (pa_cons (pv 0) (pa_cons pe_int pa_nil))) pa_nil)) (by rfl))
        (pss_cons (ps_set (i := 6) scChanges.nd rfl (.inl rfl) (pe_op op_mod (pe_op op_add (pe_op op_add (pv 4) pe_int) (pv 5)) pe_int))
        (pss_cons (ps_set (i := 7) scChanges.nd rfl (.inl rfl) (pe_ix ix_list (pe_lst (pa_cons pe_str (pa_cons pe_str (pa_cons pe_str (pa_cons pe_str pa_nil))))) (pe_h hp hr (pa_cons (pv 0) (pa_cons pe_int pa_nil))) (fun _ _ => rfl)))
        (pss_one (ps_expr (pe_bm PySem.F.plainAttrs_list PySem.F.slot_list_append PySem.F.type_list_append mt_append (pv 2) (pa_cons (pe_tup (pa_cons (pe_ix ix_str pe_str (pv 4) (fun _ _ => rfl)) (pa_cons (pe_ix ix_str pe_str (pv 6) (fun _ _ => rfl)) (pa_cons (pv 7) pa_nil)))) pa_nil))))))))
      (pss_one (ps_ret (pe_callTy call_tuple_of (by rfl) B.tuple (by decide +kernel) (pa_cons (pv 2) pa_nil))))), ?_⟩
    refine ⟨lz, fun R hR => ?_⟩
    have nRa : R ≠ a := hA.ne hR
    refine ⟨_, rfl, _, rfl, _, _, rfl, rfl, a, m + 1, rfl, hA.same (same_new hR), by omega, by omega, fun r0 H1 r00 r01 hA1 s1 n1 => ?_⟩
    have hR1 := s1 _ _ nRa upd_same
    refine ⟨r0, rfl, by omega, by omega, for_it (walk_range (lo := 0) (n := r0.toNat)) (fun i σ H' => (∃ y3 y4 y5 y6 y7, σ = [some (.ref a), some (.int m), some (.ref R), y3, y4, y5, y6, y7]) ∧ PurseAt H' a ∧ SameX a H H' ∧ ∃ (as : List Addr) (chs : List Chg), H' R = some (.lst (as.map V.ref)) ∧ Each (fun (p : Addr) (ch : Chg) => H' p = some (.tup (chV ch))) as chs ∧ chs.length = i ∧ (∀ ch ∈ chs, OkC ch) ∧ C5 chs)
      ⟨⟨_, _, _, _, _, rfl⟩, hA1, (sx (same_new hR)).trans s1, [], [], hR1, .nil, rfl, (fun ch hc => by cases hc), (fun ch hc => by cases hc)⟩ (fun _ _ _ _ _ => trivial) ?_ ?_⟩
    · rintro i x σ Hq H2 hi ⟨⟨y3, y4, y5, y6, y7, rfl⟩, hA2, s2, as, chs, hR2, hE2, hl2, ok2, c52⟩ ⟨rfl, rfl⟩
      refine ⟨_, rfl, a, 5, rfl, hA2, by decide, by decide, fun u H3 u0 u1 hA3 s3 n3 => ⟨_, rfl, a, 4, rfl, hA3, by decide, by decide, fun v H4 v0 v1 hA4 s4 n4 => ⟨_, _, rfl, ?_⟩⟩⟩
      refine ⟨_, rfl, _, _, rfl, rfl, _, rfl, _, _, rfl, rfl, _, _, rfl, rfl, (show (0 : Int) < 5 by decide), ?_⟩
      refine ⟨lz, fun p hpn => ⟨_, rfl, a, 4, rfl, hA4.same (same_new hpn), by decide, by decide, fun t H5 t0 t1 hA5 s5 n5 => ?_⟩⟩
      have npa := hA4.ne hpn
      obtain ⟨zw, hzm, hzi⟩ := atI_strs (zs := ["first", "last", "any", "any"]) t0 t1
      obtain ⟨wh, rfl⟩ : ∃ wh, zw = whS wh := by
        simp only [List.mem_cons, List.not_mem_nil, or_false] at hzm
        rcases hzm with rfl | rfl | rfl | rfl
        · exact ⟨.first, rfl⟩
        · exact ⟨.last, rfl⟩
        · exact ⟨.any, rfl⟩
        · exact ⟨.any, rfl⟩
      refine ⟨p, _, t, .str (whS wh), rfl, rfl, .inl (.inl (s5 _ _ npa upd_same)), hzi, ?_⟩
      have s25 : SameX a H2 H5 := (s3.trans s4).trans ((sx (same_new hpn)).trans s5)
      have hR5 := s25 _ _ nRa hR2
      obtain ⟨ya, hya⟩ := hA2.lst
      have hE5 := each_X hE2 hya s25
      have b0 : 0 ≤ (u + 1 + v) % 5 := Int.emod_nonneg _ (by decide)
      have b1 : (u + 1 + v) % 5 < 5 := Int.emod_lt_of_pos _ (by decide)
      refine ⟨_, rfl, .inl ⟨rfl, _, .inl (.inl hR5)⟩, ?_⟩
      refine ⟨_, rfl, ⟨_, u, _, rfl, rfl, lz, abcde_at u0 u1, _, rfl, _, _, _, rfl, rfl, lz, abcde_at b0 b1, _, rfl, lz, fun T hT => ?_⟩⟩
      refine ⟨R, _, _, rfl, rfl, (same_new hT) _ _ hR5, ?_, ⟨_, _, _, _, _, rfl⟩, ?_, ?_, as ++ [T], chs ++ [(97 + u.toNat, 97 + ((u + 1 + v) % 5).toNat, wh)], ?_, ?_, ?_, ?_, ?_⟩
      · rw [List.length_map, hE2.length]
        exact small1000 (by omega)
      · have hA6 := hA5.same (same_new (o := .tup [sgV (97 + u.toNat), sgV (97 + ((u + 1 + v) % 5).toNat), .str (whS wh)]) hT)
        obtain ⟨x0, x1, x2, hx, hx1⟩ := hA6
        exact ⟨x0, x1, x2, by rw [upd_ne nRa.symm]; exact hx, hx1⟩
      · exact sameX_mut ((s2.trans s25).trans (sx (same_new hT))) hR
      · rw [upd_same, List.map_append]
        rfl
      · have nTR : T ≠ R := (ne_of_none hR5 hT).symm
        refine Each.append (hE5.mono fun p ch e => ?_) (.cons ?_ .nil)
        · rw [upd_ne (ne_of e hR5 (by intro z; cases z))]
          exact (same_new hT) _ _ e
        · rw [upd_ne nTR, upd_same]
          rfl
      · rw [List.length_append, hl2]
        rfl
      · intro ch hch
        rcases List.mem_append.mp hch with hch | hch
        · exact ok2 ch hch
        · rw [List.mem_singleton] at hch
          subst hch
          refine ⟨?_, ?_, ?_⟩
          · show 97 ≤ 97 + u.toNat ∧ 97 + u.toNat ≤ 122
            omega
          · show 97 ≤ 97 + ((u + 1 + v) % 5).toNat ∧ 97 + ((u + 1 + v) % 5).toNat ≤ 122
            omega
          · show 97 + u.toNat ≠ 97 + ((u + 1 + v) % 5).toNat
            omega
      · intro ch hch
        rcases List.mem_append.mp hch with hch | hch
        · exact c52 ch hch
        · rw [List.mem_singleton] at hch
          subst hch
          refine ⟨?_, ?_⟩
          · show 97 ≤ 97 + u.toNat ∧ 97 + u.toNat ≤ 101
            omega
          · show 97 ≤ 97 + ((u + 1 + v) % 5).toNat ∧ 97 + ((u + 1 + v) % 5).toNat ≤ 101
            omega
    · rintro σ H2 ⟨⟨y3, y4, y5, y6, y7, rfl⟩, hA2, s2, as, chs, hR2, hE2, hl2, ok2, c52⟩
      refine ⟨_, rfl, R, _, rfl, .inl ⟨.inl (.inl hR2), fun l hl => ?_⟩⟩
      refine q l chs _ (hA2.same (same_new hl)) (s2.trans (sx (same_new hl))) ⟨as, upd_same, hE2.mono fun p ch e => (same_new hl) _ _ e⟩ ⟨?_, ok2⟩ c52
      omega
end
end Wl

namespace Wl
open PySem PySem.Spec PyProof.Rows L2
abbrev sNext : Stmt := topW 28
theorem sign_inj {a b : Nat} (h : sign a = sign b) : a = b := by
  have e := congrArg (fun z : Str => z.cps.toList) h
  simpa [sign] using e
theorem mem_signs {a : Nat} {l : List Nat} : sign a ∈ l.map sign ↔ a ∈ l := by
  constructor
  · intro h
    obtain ⟨b, hb, e⟩ := List.mem_map.mp h
    rw [← sign_inj e]
    exact hb
  · exact fun h => List.mem_map.mpr ⟨a, h, rfl⟩
theorem inV_signs (a : Nat) (l : List Nat) : inV (.str (sign a)) ((l.map sign).map V.str) = decide (a ∈ l) := by
  rw [inV_strs]
  by_cases h : a ∈ l
  · rw [decide_eq_true h, decide_eq_true (mem_signs.mpr h)]
  · rw [decide_eq_false h, decide_eq_false fun q => h (mem_signs.mp q)]
section
variable {a : Nat} {l : List Nat}
theorem inT (h : a ∈ l) : V.bl (if (false : Bool) then !inV (.str (sign a)) ((l.map sign).map V.str) else inV (.str (sign a)) ((l.map sign).map V.str)) = .bl true := by
  rw [if_neg (by decide), inV_signs, decide_eq_true h]
theorem inF (h : a ∉ l) : V.bl (if (false : Bool) then !inV (.str (sign a)) ((l.map sign).map V.str) else inV (.str (sign a)) ((l.map sign).map V.str)) = .bl false := by
  rw [if_neg (by decide), inV_signs, decide_eq_false h]
theorem niT (h : a ∉ l) : V.bl (if (true : Bool) then !inV (.str (sign a)) ((l.map sign).map V.str) else inV (.str (sign a)) ((l.map sign).map V.str)) = .bl true := by
  rw [if_pos rfl, inV_signs, decide_eq_false h]
  rfl
theorem niF (h : a ∈ l) : V.bl (if (true : Bool) then !inV (.str (sign a)) ((l.map sign).map V.str) else inV (.str (sign a)) ((l.map sign).map V.str)) = .bl false := by
  rw [if_pos rfl, inV_signs, decide_eq_true h]
  rfl
end

theorem acts_tt {σ : L2.St} {H : Hp} {Q : Bool → Hp → Prop} {wh : Wh} {pl n iw ia : Nat} {tl : TE} (h7 : σ[iw]? = some (some (.str (whS wh)))) (h2 : σ[ia]? = some (some (.int pl))) (hl : ∀ Q' : VK, Q' (.int n) H → tl σ H Q') (q : Q (acts wh pl n) H) :
    tOr (tTest (tOp rEq (tVar iw) (tC (V.str "any")))) (tOr (tAnd (tTest (tOp rEq (tVar iw) (tC (V.str "first")))) (tTest (tOp rEq (tVar ia) (tC (.int 0)))))
      (tAnd (tTest (tOp rEq (tVar iw) (tC (V.str "last")))) (tTest (tOp rEq (tVar ia) (tOp (rI0 fun i j => .int (i - j)) tl (tC (.int 1))))))) σ H Q := by
  have e1 : decide (V.str (whS wh) = V.str "any") = decide (wh = .any) := wh_dec wh .any
  have e2 : decide (V.str (whS wh) = V.str "first") = decide (wh = .first) := wh_dec wh .first
  have e3 : decide (V.str (whS wh) = V.str "last") = decide (wh = .last) := wh_dec wh .last
  refine ⟨_, h7, rfl, _, rfl, ?_⟩
  rw [e1]
  cases wh with
  | any => exact iteT q
  | first =>
    refine iteF ⟨_, h7, rfl, _, rfl, ?_⟩
    rw [e2]
    refine iteT ⟨_, h2, rfl, _, rfl, ?_⟩
    rw [int_dec]
    have e : decide ((pl : Int) = 0) = acts .first pl n := by
      unfold acts
      by_cases h : pl = 0
      · simp [h]
      · simp [h]
    rw [e]
    refine ite_b (fun e => ?_) (fun e => ?_)
    · rw [← e]
      exact q
    · refine ⟨_, h7, rfl, _, rfl, ?_⟩
      rw [e3]
      refine iteF ?_
      rw [← e]
      exact q
  | last =>
    refine iteF ⟨_, h7, rfl, _, rfl, ?_⟩
    rw [e2]
    refine iteF (iteF ⟨_, h7, rfl, _, rfl, ?_⟩)
    rw [e3]
    refine iteT ⟨_, h2, hl _ ⟨_, _, rfl, rfl, rfl, _, rfl, ?_⟩⟩
    rw [int_dec]
    have e : decide ((pl : Int) = (n : Int) - 1) = acts .last pl n := by
      unfold acts
      by_cases h : pl + 1 = n
      · rw [decide_eq_true h, decide_eq_true (by omega)]
      · rw [decide_eq_false h, decide_eq_false (by omega)]
    rw [e]
    exact q
theorem set_mix {x : List Nat} {i d : Nat} (h : i < x.length) : x.set i d = x.take i ++ d :: x.drop (i + 1) := List.set_eq_take_append_cons_drop ▸ if_pos h
/-- what the first i places lead to -/
def nxTo (chs : List Chg) (x : List Nat) (i : Nat) : List (List Nat) := (List.range i).flatMap fun i => (nbrs (es chs i x.length) (x.getD i 0)).map fun d => x.set i d
theorem nxTo_all (chs : List Chg) (x : List Nat) : nxTo chs x x.length = nxW chs x := rfl
theorem nxTo_succ {chs : List Chg} {x : List Nat} {i c : Nat} (h : x[i]? = some c) : nxTo chs x (i + 1) = nxTo chs x i ++ (nbrs (es chs i x.length) c).map fun d => x.set i d := by
  unfold nxTo
  rw [List.range_succ, List.flatMap_append]
  congr 1
  simp only [List.flatMap_cons, List.flatMap_nil, List.append_nil]
  rw [getD_at h]
theorem nxTo_len (chs : List Chg) (x : List Nat) : ∀ i, (nxTo chs x i).length ≤ i * (2 * chs.length)
  | 0 => by simp [nxTo]
  | i + 1 => by
    have ih := nxTo_len chs x i
    unfold nxTo at ih ⊢
    rw [List.range_succ, List.flatMap_append, List.length_append]
    have h1 := nbrs_len (es chs i x.length) (x.getD i 0)
    have h2 := es_len chs i x.length
    simp only [List.flatMap_cons, List.flatMap_nil, List.append_nil, List.length_map, Nat.add_mul, Nat.one_mul]
    omega
section
variable {P : Program} {w : World} {K : PySem.W.Frag} {mg : Str → Option Value} {base : Heap} {f : Addr} {fd : FuncData}
def spNext : Sp := fun vs H Q _ => ∃ (S : Addr) (chs : List Chg) (z : Str), vs = [.ref S, .str z] ∧ ChAt H S chs ∧ OkCs chs ∧ z.length ≤ 8 ∧
  ∀ (L : Addr) (H' : Hp), H L = none → Same H H' → H' L = some (.lst ((nxW chs (codes z)).map txV)) → Q (.ref L) H'
abbrev nNext : List Str := ["_law_some", "_law_text", "_law_found", "_law_at", "_law_one", "_law_two", "_law_where"]
abbrev pNext : List Str := ["_law_some", "_law_text"]
theorem scNext : FnScope nNext pNext (defScope sNext) := ⟨rfl, rfl, rfl, by decide +kernel, rfl, by decide +kernel, by decide +kernel⟩
theorem ok_next (F : Fun K "_law_next" "_law_next" sNext f fd) (B : Bi mg) : FnOk P w K mg base CX0 1 f fd pNext spNext := by
  refine F.ok scNext (fun vs H Q E h => ?_) (fun cdv A outer s H vs Q E hr h => ?_)
  · obtain ⟨S, chs, z, rfl, _⟩ := h
    rfl
  · obtain ⟨S, chs, z, rfl, ⟨as, hS, hE⟩, ok, z8, q⟩ := h
    refine ⟨_, pss_cons (ps_set (i := 2) scNext.nd rfl (.inl rfl) (pe_lst pa_nil))
      (pss_cons (ps_for PassesOwn.never rfl (pi_range1 (by rfl) B.range (pa_cons (pe_callB call_len_str (by rfl) B.len PySem.boot_len (pa_cons (pv 1) pa_nil)) pa_nil)) (pg_name (i := 3) scNext.nd rfl (.inl rfl))
        (pss_one (ps_for PassesOwn.never rfl (pi_tup (pv 0)) (pg_tup rfl (pgs_cons (pg_name (i := 4) scNext.nd rfl (.inl rfl)) (pgs_cons (pg_name (i := 5) scNext.nd rfl (.inl rfl)) (pgs_cons (pg_name (i := 6) scNext.nd rfl (.inl rfl)) pgs_nil))))
          (pss_one (ps_if (PW.pt (pw_or (pt_cmpR op_eq (pv 6) pe_str (nomark _)) (pw_or (PW.pt (pw_and (pt_cmpR op_eq (pv 6) pe_str (nomark _)) (pw_and1 (pt_cmpR op_eq (pv 3) pe_int (nomark _))))) (pw_or1 (PW.pt (pw_and (pt_cmpR op_eq (pv 6) pe_str (nomark _)) (pw_and1 (pt_cmpR op_eq (pv 3) (pe_op op_sub (pe_callB call_len_str (by rfl) B.len PySem.boot_len (pa_cons (pv 1) pa_nil)) pe_int) (nomark _)))))))))
            (pss_one (ps_if (pt_cmpR op_in_seq (pe_ix ix_str (pv 1) (pv 3) (fun _ _ => rfl)) (pe_tup (pa_cons (pv 4) (pa_cons (pv 5) pa_nil))) (by rfl))
              (pss_one (ps_expr (pe_bm PySem.F.plainAttrs_list PySem.F.slot_list_append PySem.F.type_list_append mt_append (pv 2) (pa_cons
                (pe_op op_add_str (pe_op op_add_str (pe_slice sl_str (pv 1) po_none (po_some (pv 3)))
                  (pe_ix ix_list (pe_lst (pa_cons (pv 4) (pa_cons (pv 5) pa_nil))) (pe_callTy call_int1 (by rfl) B.int (by decide +kernel) (pa_cons (pe_cmpR op_eq (pe_ix ix_str (pv 1) (pv 3) (fun _ _ => rfl)) (pv 4) (nomark _)) pa_nil)) (fun _ _ => rfl)))
                  (pe_slice sl_str (pv 1) (po_some (pe_op op_add (pv 3) pe_int)) po_none)) pa_nil)))) pss_nil)) pss_nil)))))
      (pss_one (ps_ret (pv 2)))), ?_⟩
    have ez : (codes z).length = z.length := codes_len z
    have lA := ok.1
    refine ⟨lz, fun R hR => ?_⟩
    refine ⟨_, rfl, _, rfl, lzl (by omega), _, rfl, by omega, by omega, for_it (walk_range (lo := 0) (n := ((z.length : Int)).toNat)) (fun i σ H' => (∃ y3 y4 y5 y6, σ = [some (.ref S), some (.str z), some (.ref R), y3, y4, y5, y6]) ∧ Same H H' ∧ H' R = some (.lst ((nxTo chs (codes z) i).map txV)))
      ⟨⟨_, _, _, _, rfl⟩, same_new hR, upd_same⟩ (fun _ _ _ _ _ => trivial) ?_ ?_⟩
    · rintro i x σ Hq H1 hi ⟨⟨y3, y4, y5, y6, rfl⟩, s1, hR1⟩ ⟨rfl, rfl⟩
      have hiz : i < (codes z).length := by omega
      obtain ⟨c, hc⟩ : ∃ c, (codes z)[i]? = some c := ⟨_, List.getElem?_eq_getElem hiz⟩
      have hc0 : atI z.cps.toList ((0 : Int) + (i : Int)) = some c := by
        rw [Int.zero_add]
        exact atI_nat hc
      have e0 : ((0 : Int) + (i : Int)) = (i : Int) := Int.zero_add _
      rw [e0] at hc0
      rw [show ((fun i : Nat => V.int ((0 : Int) + (i : Int))) i) = V.int (i : Int) from congrArg V.int e0]
      refine ⟨_, rfl, S, rfl, ⟨_, .inl (.inl (s1 _ _ hS))⟩, for_it (walk_tup (K := K) (a := S) (xs := as.map V.ref)) (fun j σ H' => (∃ y4 y5 y6, σ = [some (.ref S), some (.str z), some (.ref R), some (.int i), y4, y5, y6]) ∧ Same H H' ∧ H' R = some (.lst ((nxTo chs (codes z) i ++ (nbrs (es (chs.take j) i (codes z).length) c).map fun d => (codes z).set i d).map txV)))
        ⟨⟨_, _, _, rfl⟩, s1, by rw [hR1]; simp [es, nbrs]⟩ (fun j σ H' _ h => .inl (.inl (h.2.1 _ _ hS))) ?_ ?_⟩
      · rintro j x σ Hq H2 hj ⟨⟨y4, y5, y6, rfl⟩, s2, hR2⟩ ⟨rfl, hx⟩
        rw [List.getElem?_map] at hx
        obtain ⟨p, hp, rfl⟩ := Option.map_eq_some_iff.mp hx
        obtain ⟨⟨a, b, wh⟩, hch, hH⟩ := hE.get hp
        obtain ⟨o1, o2, o3⟩ := ok.2 _ (List.mem_of_getElem? hch)
        have o3 : a ≠ b := o3
        have etk : chs.take (j + 1) = chs.take j ++ [(a, b, wh)] := by rw [List.take_add_one, hch]; rfl
        have lenE : ((nxTo chs (codes z) i ++ (nbrs (es (chs.take j) i (codes z).length) c).map fun d => (codes z).set i d).map txV).length < sizeLine := by
          rw [List.length_map, List.length_append, List.length_map]
          have h1 := nbrs_len (es (chs.take j) i (codes z).length) c
          have h2 := es_len (chs.take j) i (codes z).length
          have h3 : (chs.take j).length ≤ chs.length := List.length_take_le' _ _
          have h4 := nxTo_len chs (codes z) i
          have h5 : i * (2 * chs.length) ≤ 8 * (2 * chs.length) := Nat.mul_le_mul_right _ (by omega)
          exact small1000 (by omega)
        refine ⟨p, _, rfl, .inl (.inl (s2 _ _ hH)), rfl, _, _, rfl, _, _, rfl, _, _, rfl, rfl, ?_⟩
        refine acts_tt (wh := wh) (pl := i) (n := z.length) rfl rfl (fun Q' q' => ⟨_, rfl, _, rfl, lzl (by omega), q'⟩) (ite_b (fun e => ?_) (fun e => ?_))
        · have e' : acts wh i (codes z).length = true := by rw [ez]; exact e
          rw [etk, es_snoc, if_pos e', nbrs_snoc]
          refine ⟨_, rfl, _, rfl, z, _, c, rfl, rfl, lzl (by omega), hc0, _, rfl, _, rfl, lz, fun t ht => ?_⟩
          have hR3 := (same_new (o := .tup [sgV a, sgV b]) ht) _ _ hR2
          have s3 := s2.trans (same_new (o := .tup [sgV a, sgV b]) ht)
          by_cases h : c = a ∨ c = b
          · refine ⟨t, _, rfl, .inr (.inl (.inl upd_same)), rfl, flat_strs ([a, b].map sign), true, inT (l := [a, b]) (by simpa using h), iteT ?_⟩
            have l1 : (cutS z none (some (i : Int))).length ≤ 8 := Nat.le_trans (cut_len _ _ _) z8
            have l2 : (cutS z (some ((i : Int) + 1)) none).length ≤ 8 := Nat.le_trans (cut_len _ _ _) z8
            have ew : ∀ d, cutS z none (some (i : Int)) ++ sign d ++ cutS z (some ((i : Int) + 1)) none = ofC ((codes z).set i d) := fun d => by
              rw [set_mix hiz]
              exact mix_txt z z d i (by omega)
            refine ⟨_, rfl, .inl ⟨rfl, _, .inl (.inl hR3)⟩, ?_⟩
            refine ⟨_, rfl, _, rfl, _, rfl, z, rfl, lzl (by omega), _, rfl, _, rfl, lz, fun l hl => ?_⟩
            refine ⟨_, rfl, _, rfl, z, _, c, rfl, rfl, lzl (by omega), hc0, _, rfl, rfl, .inr ⟨_, rfl, ?_⟩⟩
            have hR4 := (same_new (o := .lst [sgV a, sgV b]) hl) _ _ hR3
            have s4 := s3.trans (same_new (o := .lst [sgV a, sgV b]) hl)
            by_cases hca : c = a
            · subst hca
              refine ⟨l, _, _, sgV b, rfl, rfl, .inl (.inl upd_same), ?_, _, _, rfl, rfl, lzl (by show (cutS z none (some (i : Int))).length + 1 ≤ 1000; omega), _, rfl, _, rfl, _, _, rfl, rfl, _, rfl, z, rfl, lzl (by omega), _, _, rfl, rfl, lzl (by rw [add_len]; show (cutS z none (some (i : Int))).length + 1 + (cutS z (some ((i : Int) + 1)) none).length ≤ 1000; omega), R, _, _, rfl, rfl, hR4, lenE, ⟨_, _, _, rfl⟩, same_mut s4 hR, ?_⟩
              · show atI _ (if decide (sgV c = sgV c) = true then 1 else 0) = _
                rw [decide_eq_true rfl]
                exact atI_nat (j := 1) rfl
              · rw [upd_same, if_pos rfl, if_neg (Ne.symm o3), ew]
                simp only [List.map_append, List.append_assoc]
                rfl
            · have hcb : c = b := h.resolve_left hca
              subst hcb
              refine ⟨l, _, _, sgV a, rfl, rfl, .inl (.inl upd_same), ?_, _, _, rfl, rfl, lzl (by show (cutS z none (some (i : Int))).length + 1 ≤ 1000; omega), _, rfl, _, rfl, _, _, rfl, rfl, _, rfl, z, rfl, lzl (by omega), _, _, rfl, rfl, lzl (by rw [add_len]; show (cutS z none (some (i : Int))).length + 1 + (cutS z (some ((i : Int) + 1)) none).length ≤ 1000; omega), R, _, _, rfl, rfl, hR4, lenE, ⟨_, _, _, rfl⟩, same_mut s4 hR, ?_⟩
              · show atI _ (if decide (sgV c = sgV a) = true then 1 else 0) = _
                rw [sg_dec, decide_eq_false hca]
                exact atI_nat (j := 0) rfl
              · rw [upd_same, if_neg (fun e => hca e.symm), if_pos rfl, ew]
                simp only [List.map_append, List.append_assoc]
                rfl
          · refine ⟨t, _, rfl, .inr (.inl (.inl upd_same)), rfl, flat_strs ([a, b].map sign), false, inF (l := [a, b]) (by simpa using h), iteF ?_⟩
            have h1 : ¬ a = c := fun e => h (.inl e.symm)
            have h2 : ¬ b = c := fun e => h (.inr e.symm)
            refine ⟨⟨_, _, _, rfl⟩, s3, ?_⟩
            rw [if_neg h1, if_neg h2, List.append_nil, List.append_nil]
            exact hR3
        · refine ⟨⟨_, _, _, rfl⟩, s2, ?_⟩
          have e' : acts wh i (codes z).length = false := by rw [ez]; exact e
          rw [etk, es_snoc, if_neg (by rw [e']; decide), List.append_nil]
          exact hR2
      · rintro σ H2 ⟨⟨y4, y5, y6, rfl⟩, s2, hR2⟩
        have : chs.take (as.map V.ref).length = chs := by rw [List.length_map, hE.length, List.take_length]
        rw [this, ← nxTo_succ hc] at hR2
        exact ⟨⟨_, _, _, _, rfl⟩, s2, hR2⟩
    · rintro σ H1 ⟨⟨y3, y4, y5, y6, rfl⟩, s1, hR1⟩
      have en : ((z.length : Int)).toNat = (codes z).length := by omega
      rw [en, nxTo_all] at hR1
      exact ⟨_, rfl, q R H1 hR s1 hR1⟩
end
end Wl

namespace Wl
open PySem PySem.Spec PyProof.Rows L2
abbrev sMet : Stmt := topW 29
abbrev kT (x : List Nat) : Key := Sum.inr (ofC x)
theorem ofC_inj {a b : List Nat} (h : ofC a = ofC b) : a = b := congrArg codes h
theorem kT_inj {a b : List Nat} (h : kT a = kT b) : a = b := ofC_inj (Sum.inr.inj h)
def gW (l : List (List Nat × V)) : List (Key × V) := l.map fun p => (kT p.1, p.2)
theorem gW_in (l : List (List Nat × V)) (c : List Nat) : (valV (gW l) (kT c)).isSome = decide (c ∈ l.map (·.1)) := by
  rw [← valV_any]
  induction l with
  | nil => rfl
  | cons p r ih =>
    have e : gW (p :: r) = (kT p.1, p.2) :: gW r := rfl
    rw [e, List.any_cons, ih, List.map_cons]
    by_cases h : p.1 = c
    · subst h
      simp
    · have h1 : ¬ kT p.1 = kT c := fun q => h (kT_inj q)
      have h2 : ¬ c = p.1 := fun q => h q.symm
      rw [decide_eq_false h1]
      simp [h2]
theorem gW_none {l : List (List Nat × V)} {c : List Nat} (h : c ∉ l.map (·.1)) : valV (gW l) (kT c) = none := by
  have := gW_in l c
  rw [decide_eq_false h] at this
  cases q : valV (gW l) (kT c) with
  | none => rfl
  | some v => rw [q] at this; cases this
theorem gW_val : ∀ {l : List (List Nat × V)} {i : Nat} {c : List Nat} {v : V}, (l.map (·.1)).Nodup → l[i]? = some (c, v) → valV (gW l) (kT c) = some v
  | [], i, c, o, _, h => by simp at h
  | p :: r, 0, c, o, _, h => by
    simp at h
    subst h
    exact valV_pos rfl
  | p :: r, i + 1, c, o, nd, h => by
    rw [List.map_cons, List.nodup_cons] at nd
    have h' : r[i]? = some (c, o) := by simpa using h
    have hm : c ∈ r.map (·.1) := List.mem_map.mpr ⟨_, List.mem_of_getElem? h', rfl⟩
    have e : valV (gW (p :: r)) (kT c) = valV (gW r) (kT c) := valV_neg fun q => by
      have := kT_inj q
      rw [this] at nd
      exact nd.1 hm
    rw [e]
    exact gW_val nd.2 h'
def metW (tw : List (List Nat)) (ds : List Nat) : List (List Nat × V) := List.zipWith (fun p d => (p, V.int ((d : Nat) : Int))) tw ds
theorem metW_keys : ∀ {tw : List (List Nat)} {ds : List Nat}, ds.length = tw.length → (metW tw ds).map (·.1) = tw
  | [], [], _ => rfl
  | p :: tw, d :: ds, h => by
    have := metW_keys (tw := tw) (ds := ds) (by simpa using h)
    show p :: (metW tw ds).map (·.1) = _
    rw [this]
  | [], _ :: _, h => by simp at h
  | _ :: _, [], h => by simp at h
theorem metW_snoc {tw : List (List Nat)} {ds : List Nat} (h : ds.length = tw.length) (p : List Nat) (d : Nat) : metW (tw ++ [p]) (ds ++ [d]) = metW tw ds ++ [(p, .int d)] := by
  unfold metW
  rw [List.zipWith_append h.symm]
  rfl
theorem metW_get {tw : List (List Nat)} {ds : List Nat} {i d : Nat} {c : List Nat} (h1 : tw[i]? = some c) (h2 : ds[i]? = some d) : (metW tw ds)[i]? = some (c, .int d) := by
  unfold metW
  rw [List.getElem?_zipWith, h1, h2]
theorem gW_keys (l : List (List Nat × V)) : (gW l).map (·.1) = ((l.map (·.1)).map ofC).map Sum.inr := by
  unfold gW
  rw [List.map_map, List.map_map, List.map_map]
  rfl
theorem nil_eqv (l : List Str) : PyData.eqv (.list (l.map PyData.str)) (.list []) = decide (l = []) := by
  cases l with
  | nil => rfl
  | cons a r => simp [PyData.eqv, PyData.eqvAll]
theorem W5.wd {n : Nat} {x : List Nat} (h : W5 n x) (h1 : 1 ≤ n) (h3 : n ≤ 3) : IsWd (ofC x) := wd_codes.mpr ⟨by rw [codes_ofC, h.1]; omega, fun c hc => by
  have := h.2 c hc
  unfold in5 at this
  unfold isLet
  omega⟩
theorem pow5 {n : Nat} (h : n ≤ 3) : 5 ^ n ≤ 125 := Nat.le_trans (Nat.pow_le_pow_right (by decide) h) (by decide)
section
variable {P : Program} {w : World} {K : PySem.W.Frag} {mg : Str → Option Value} {base : Heap} {f : Addr} {fd : FuncData}
def spMet : Sp := fun vs H Q _ => ∃ (S : Addr) (chs : List Chg) (z : Str) (n : Nat), vs = [.ref S, .str z] ∧ ChAt H S chs ∧ OkCs chs ∧ C5 chs ∧ W5 n (codes z) ∧ 1 ≤ n ∧ n ≤ 3 ∧
  ∀ (W : Addr) (tw : List (List Nat)) (ds : List Nat) (H' : Hp), Same H H' → H' W = some (.dK (gW (metW tw ds))) → DepG (nxW chs) (codes z) tw ds tw.length → (∀ x ∈ tw, W5 n x) → Q (.ref W) H'
abbrev nMet : List Str := ["_law_some", "_law_text", "_law_met_here", "_law_ahead", "_law_here", "_law_one"]
theorem scMet : FnScope nMet pNext (defScope sMet) := ⟨rfl, rfl, rfl, by decide +kernel, rfl, by decide +kernel, by decide +kernel⟩
theorem ok_met (F : Fun K "_law_met" "_law_met" sMet f fd) (B : Bi mg) (hT : Has P w K mg base "_law_next" 1 pNext spNext) : FnOk P w K mg base CX0 2 f fd pNext spMet := by
  refine F.ok scMet (fun vs H Q E h => ?_) (fun cdv A outer s H vs Q E hr h => ?_)
  · obtain ⟨S, chs, z, n, rfl, _⟩ := h
    rfl
  · obtain ⟨S, chs, z, n, rfl, hS, ok, c5, z5, n1, n3, q⟩ := h
    refine ⟨_, pss_cons (ps_par (i := 2) (j := 3) (by rfl) scMet.nd rfl rfl (by decide) rfl rfl (pa_cons (pe_disp (pps_cons (pv 1) pe_int pps_nil) rfl rfl (by simp) (by decide)) (pa_cons (pe_lst (pa_cons (pv 1) pa_nil)) pa_nil)) (by rfl))
      (pss_cons (ps_while PassesOwn.never (pt_cmpR (op_neD hr.units) (pv 3) (pe_lst pa_nil) (nomark _))
        (pss_cons (ps_set (i := 4) scMet.nd rfl (.inl rfl) (pe_bm PySem.F.plainAttrs_list PySem.F.slot_list_pop PySem.F.type_list_pop mt_popAt (pv 3) (pa_cons pe_int pa_nil)))
        (pss_one (ps_for PassesOwn.never rfl (pi_list (pe_h hT hr (pa_cons (pv 0) (pa_cons (pv 4) pa_nil)))) (pg_name (i := 5) scMet.nd rfl (.inl rfl))
          (pss_one (ps_if (pt_cmp (pc_dnotin (room1 hr) (pv 5) (pv 2)))
            (pss_cons (ps_dput (room1 hr) (pv 2) (pv 5) (pe_op op_add (pe_dget (room1 hr) (pv 2) (pv 4) (fun _ _ => rfl)) pe_int) rfl)
            (pss_one (ps_expr (pe_bm PySem.F.plainAttrs_list PySem.F.slot_list_append PySem.F.type_list_append mt_append (pv 3) (pa_cons (pv 5) pa_nil))))) pss_nil))))))
      (pss_one (ps_ret (pv 2)))), ?_⟩
    have ez : z = ofC (codes z) := (ofC_codes z).symm
    refine fun W hW => ⟨_, rfl, upd_same, [(kT (codes z), .int 0)], by show [(V.str z, V.int 0)] = [(V.str (ofC (codes z)), V.int 0)]; rw [← ez], by simp, ?_⟩
    have sW : Same H (upd (upd H W (.dK [])) W (.dK (mergeK [] [(kT (codes z), .int 0)]))) := same_mut (same_new hW) hW
    have eW : (upd (upd H W (.dK [])) W (.dK (mergeK [] [(kT (codes z), .int 0)]))) W = some (.dK (gW (metW [codes z] [0]))) := upd_same
    generalize upd (upd H W (.dK [])) W (.dK (mergeK [] [(kT (codes z), .int 0)])) = H1 at sW eW
    refine ⟨_, rfl, lz, fun L hL => ⟨_, _, rfl, ?_⟩⟩
    have nLW : L ≠ W := (ne_of_none eW hL).symm
    have hL0 : H L = none := sW.free hL
    refine ⟨fun m σ H' => ∃ (tw : List (List Nat)) (ds : List Nat) (a : Nat) (y7 y8 : Option V), m = 125 - a ∧ σ = [some (.ref S), some (.str z), some (.ref W), some (.ref L), y7, y8] ∧ Same H H' ∧ H' W = some (.dK (gW (metW tw ds))) ∧ H' L = some (.lst (((tw.drop a).map ofC).map V.str)) ∧ DepG (nxW chs) (codes z) tw ds a ∧ a ≤ tw.length ∧ (∀ x ∈ tw, W5 n x),
      ⟨125, [codes z], [0], 0, _, _, rfl, rfl, sW.trans (same_new hL), (same_new hL) _ _ eW, by rw [upd_same]; show some (HO.lst [V.str z]) = some (.lst [V.str (ofC (codes z))]); rw [← ez], DepG.start, by simp, fun x hx => by rw [List.mem_singleton.mp hx]; exact z5⟩, ?_⟩
    rintro m σ H2 ⟨tw, ds, a, y7, y8, rfl, rfl, s2, hW2, hL2, b2, ha, w2⟩
    have h125 := Nat.le_trans (len5 b2.nd w2) (pow5 n3)
    have lets : ∀ z ∈ (tw.drop a).map ofC, IsWd z := fun z hz => by
      obtain ⟨x, hx, rfl⟩ := List.mem_map.mp hz
      exact (w2 x (List.mem_of_mem_drop hx)).wd n1 n3
    refine ⟨_, rfl, lz, fun p hp => ⟨_, _, .lst (.inl (.inl ((same_new hp) _ _ hL2))) (dp_strs _), .lst (.inl (.inl upd_same)) .nil, shaped_list (lay_strs lets) (by rw [depth_strs]; decide), by decide +kernel, _, rfl, ?_⟩⟩
    rw [nil_eqv]
    have s3 := s2.trans (same_new (o := .lst []) hp)
    have hW3 := (same_new (o := .lst []) hp) _ _ hW2
    have hL3 := (same_new (o := .lst []) hp) _ _ hL2
    generalize upd H2 p (.lst []) = H3 at s3 hW3 hL3
    refine not_b (fun e => ?_) (fun e => ?_)
    · have hlt : a < tw.length := by
        by_cases q : a < tw.length
        · exact q
        · have := of_decide_eq_false e
          exact absurd (by rw [List.drop_of_length_le (by omega)]; rfl) this
      obtain ⟨x, hx⟩ : ∃ p, tw[a]? = some p := ⟨tw[a], List.getElem?_eq_getElem hlt⟩
      have hx5 : W5 n x := w2 x (List.mem_of_getElem? hx)
      have hda : a < ds.length := by rw [b2.len]; exact hlt
      obtain ⟨d, hd⟩ : ∃ d, ds[a]? = some d := ⟨ds[a], List.getElem?_eq_getElem hda⟩
      have edr : tw.drop a = x :: tw.drop (a + 1) := by
        have h := List.getElem?_eq_some_iff.mp hx
        rw [List.drop_eq_getElem_cons h.1, h.2]
      rw [edr] at hL3
      refine ⟨_, fun σ' H' h => h, ?_⟩
      refine ⟨_, rfl, .inl ⟨rfl, _, .inl (.inl hL3)⟩, L, _, 0, 0, txV x, rfl, rfl, hL3, by decide, by decide, ?_, rfl, ?_⟩
      · simp [seqIndex?]
      have s4 : Same H (upd H3 L (.lst (((tw.drop (a + 1)).map ofC).map V.str))) := same_mut s3 hL0
      have hL4 : (upd H3 L (.lst (((tw.drop (a + 1)).map ofC).map V.str))) L = some (.lst (((tw.drop (a + 1)).map ofC).map V.str)) := upd_same
      have hW4 : (upd H3 L (.lst (((tw.drop (a + 1)).map ofC).map V.str))) W = some (.dK (gW (metW tw ds))) := by
        rw [upd_ne nLW.symm]
        exact hW3
      have lx : (ofC x).length ≤ 8 := by
        rw [← codes_len, codes_ofC, hx5.1]
        omega
      refine ⟨_, rfl, _, rfl, S, chs, ofC x, rfl, hS.same s4, ok, lx, fun N H5 hN s5 hN5 => ?_⟩
      rw [codes_ofC] at hN5
      have nNW : N ≠ W := (ne_of_none hW4 hN).symm
      have nNL : N ≠ L := (ne_of_none hL4 hN).symm
      have hW5 := s5 _ _ hW4
      have hL5 := s5 _ _ hL4
      refine ⟨N, rfl, ⟨_, .inl (.inl hN5)⟩, for_it (walk_list (K := K) (a := N) (xs := (nxW chs x).map txV)) (fun j σ H' => ∃ (tw' : List (List Nat)) (ds' : List Nat) (y8 : Option V), σ = [some (.ref S), some (.str z), some (.ref W), some (.ref L), some (txV x), y8] ∧ Same H H' ∧ H' W = some (.dK (gW (metW tw' ds'))) ∧ H' L = some (.lst (((tw'.drop (a + 1)).map ofC).map V.str)) ∧ H' N = some (.lst ((nxW chs x).map txV)) ∧ DepG (nxW chs) (codes z) tw' ds' a ∧ tw'[a]? = some x ∧ ds'[a]? = some d ∧ (∀ x ∈ tw', W5 n x) ∧ ∀ y ∈ (nxW chs x).take j, y ∈ tw')
        ⟨tw, ds, _, rfl, s4.trans s5, hW5, hL5, hN5, b2, hx, hd, w2, fun y hy => by simp at hy⟩ (fun j σ H' _ h => ?_) ?_ ?_⟩
      · obtain ⟨_, _, _, _, _, _, _, hN', _⟩ := h
        exact .inl (.inl hN')
      · rintro j v σ Hq H6 hj ⟨tw', ds', y8', rfl, s6, hW6, hL6, hN6, b6, hx6, hd6, w6, hin⟩ ⟨rfl, hv⟩
        rw [List.getElem?_map] at hv
        obtain ⟨y, hy, rfl⟩ := Option.map_eq_some_iff.mp hv
        have hyn : y ∈ nxW chs x := List.mem_of_getElem? hy
        have hy5 : W5 n y := nxW_5 c5 hx5 hyn
        have l6 := Nat.le_trans (len5 b6.nd w6) (pow5 n3)
        have ekey := metW_keys (tw := tw') (ds := ds') b6.len
        have etk : (nxW chs x).take (j + 1) = (nxW chs x).take j ++ [y] := by rw [List.take_add_one, hy]; rfl
        refine ⟨_, rfl, _, rfl, W, _, rfl, DGet.k (k := kT y) hW6, _, rfl, ?_⟩
        rw [gW_in, ekey]
        refine not_b (fun e => ?_) (fun e => ?_)
        · have hnot := of_decide_eq_false e
          have lM : (metW tw' ds').length = tw'.length := by
            have := congrArg List.length ekey
            rw [List.length_map] at this
            exact this
          have lK : (gW (metW tw' ds')).length < sizeLine := by
            unfold gW
            rw [List.length_map, lM]
            exact small1000 (by omega)
          have hdg : DGet H6 W (txV x) (some (.int (d : Nat))) := by
            have := DGet.k (k := kT x) hW6
            rw [gW_val (by rw [ekey]; exact b6.nd) (metW_get hx6 hd6)] at this
            exact this
          refine ⟨_, rfl, _, rfl, W, _, rfl, hdg, _, _, rfl, rfl, _, rfl, _, rfl, W, _, rfl, DPut.k (k := kT y) hW6 lK, ?_⟩
          rw [putK_new _ (gW_none (by rw [ekey]; exact hnot))]
          have hl6 : a + 1 ≤ tw'.length := (List.getElem?_eq_some_iff.mp hx6).1
          have hL7 : upd H6 W (.dK (gW (metW tw' ds') ++ [(kT y, .int ((d : Int) + 1))])) L = some (.lst (((tw'.drop (a + 1)).map ofC).map V.str)) := by
            rw [upd_ne nLW]
            exact hL6
          refine ⟨_, rfl, .inl ⟨rfl, _, .inl (.inl hL7)⟩, _, rfl, L, _, _, rfl, rfl, hL7, ?_, tw' ++ [y], ds' ++ [d + 1], _, rfl, ?_, ?_, ?_, ?_, b6.push hx6 hd6 hyn hnot, snoc_old hx6, snoc_old hd6, ?_, ?_⟩
          · rw [List.length_map, List.length_map, List.length_drop]
            exact small1000 (by omega)
          · exact same_mut (same_mut s6 hW) hL0
          · rw [upd_ne nLW.symm, upd_same, metW_snoc b6.len]
            unfold gW
            rw [List.map_append]
            rfl
          · rw [upd_same, List.drop_append_of_le_length hl6, List.map_append, List.map_append]
            rfl
          · rw [upd_ne nNL, upd_ne nNW]
            exact hN6
          · intro u hu
            rcases List.mem_append.mp hu with hu | hu
            · exact w6 u hu
            · rw [List.mem_singleton.mp hu]
              exact hy5
          · intro u hu
            rw [etk] at hu
            rcases List.mem_append.mp hu with hu | hu
            · exact List.mem_append_left _ (hin u hu)
            · rw [List.mem_singleton] at hu
              subst hu
              exact List.mem_append_right _ (by simp)
        · have hyes := of_decide_eq_true e
          refine ⟨tw', ds', _, rfl, s6, hW6, hL6, hN6, b6, hx6, hd6, w6, fun u hu => ?_⟩
          rw [etk] at hu
          rcases List.mem_append.mp hu with hu | hu
          · exact hin u hu
          · rw [List.mem_singleton] at hu
            subst hu
            exact hyes
      · rintro σ H6 ⟨tw', ds', y8', rfl, s6, hW6, hL6, hN6, b6, hx6, hd6, w6, hin⟩
        have hall : ∀ y ∈ nxW chs x, y ∈ tw' := fun y hy => hin y (by rw [List.length_map, List.take_length]; exact hy)
        have hl6 : a < tw'.length := (List.getElem?_eq_some_iff.mp hx6).1
        exact ⟨125 - (a + 1), by omega, tw', ds', a + 1, _, _, rfl, rfl, s6, hW6, hL6, b6.next hx6 hd6 hall, hl6, w6⟩
    · have hge : tw.length ≤ a := by
        have := of_decide_eq_true e
        have := congrArg List.length this
        rw [List.length_map, List.length_drop] at this
        simp at this
        omega
      have : a = tw.length := by omega
      subst this
      exact ⟨_, rfl, q W tw ds H3 s3 hW3 b2 w2⟩
end
end Wl

namespace Wl
open PySem PySem.Spec PyProof.Rows L2
abbrev sRight : Stmt := topW 30
theorem abcdef_eq : ("abcdef" : Str).cps.toList = List.range' 97 6 := by decide +kernel
theorem abcdef_at {r : Int} (h0 : 0 ≤ r) (h : r < 6) : atI ("abcdef" : Str).cps.toList r = some (97 + r.toNat) := by
  rw [abcdef_eq]
  have e : r = ((r.toNat : Nat) : Int) := by omega
  rw [e]
  refine atI_nat ?_
  rw [List.getElem?_range' (by omega)]
  congr 1
  omega
/-- what the walk from u has come to -/
structure Mt (chs : List Chg) (u : List Nat) (n : Nat) (tw : List (List Nat)) (ds : List Nat) : Prop where
  b : DepG (nxW chs) u tw ds tw.length
  w : ∀ x ∈ tw, W5 n x
theorem Mt.one {chs : List Chg} {u : List Nat} {n : Nat} {tw : List (List Nat)} {ds : List Nat} (m : Mt chs u n tw ds) (v : List Nat) : OneP chs (ofC u) (ofC v) ↔ v ∈ tw := by
  rw [m.b.mem_iff]
  exact one_iff_wk
theorem Mt.start {chs : List Chg} {u : List Nat} {n : Nat} {tw : List (List Nat)} {ds : List Nat} (m : Mt chs u n tw ds) : tw.map ofC ≠ [] := by
  have := List.mem_of_getElem? m.b.head
  intro e
  rw [List.map_eq_nil_iff] at e
  rw [e] at this
  cases this
theorem Mt.min {chs : List Chg} {u : List Nat} {n : Nat} {tw : List (List Nat)} {ds : List Nat} (m : Mt chs u n tw ds) {z : Str} (hz : z ∈ tw.map ofC) (hm : ∀ c ∈ tw.map ofC, ¬ ltS c z) : z = mean chs (ofC u) := by
  have h1 : codes (mean chs (ofC u)) ∈ tw := by
    rw [← m.one]
    rw [ofC_codes]
    exact one_symm.mp (one_mean chs (ofC u))
  have h2 := hm (mean chs (ofC u)) (List.mem_map.mpr ⟨_, h1, ofC_codes _⟩)
  obtain ⟨x, hx, rfl⟩ := List.mem_map.mp hz
  have h3 := (one_iff.mp ((m.one x).mpr hx)).2
  have h4 := mean_le chs (ofC x)
  rw [← h3] at h4
  exact ltS_tot h4 h2
theorem Mt.val {chs : List Chg} {u : List Nat} {n : Nat} {tw : List (List Nat)} {ds : List Nat} (m : Mt chs u n tw ds) {v : List Nat} (h : v ∈ tw) : ∃ (i d : Nat), tw[i]? = some v ∧ ds[i]? = some d ∧ valV (gW (metW tw ds)) (kT v) = some (.int (d : Nat)) := by
  obtain ⟨i, hi, e⟩ := List.mem_iff_getElem.mp h
  have hid : i < ds.length := by rw [m.b.len]; exact hi
  have h1 : tw[i]? = some v := by rw [List.getElem?_eq_getElem hi, e]
  have h2 : ds[i]? = some ds[i] := List.getElem?_eq_getElem hid
  refine ⟨i, _, h1, h2, gW_val ?_ (metW_get h1 h2)⟩
  rw [metW_keys m.b.len]
  exact m.b.nd
theorem Mt.dget {chs : List Chg} {u : List Nat} {n : Nat} {tw : List (List Nat)} {ds : List Nat} (m : Mt chs u n tw ds) {v : List Nat} (h : v ∈ tw) {H : Hp} {W : Addr} (hW : H W = some (.dK (gW (metW tw ds)))) : ∃ (i d : Nat), tw[i]? = some v ∧ ds[i]? = some d ∧ DGet H W (txV v) (some (.int (d : Nat))) := by
  obtain ⟨i, d, h1, h2, h3⟩ := m.val h
  refine ⟨i, d, h1, h2, ?_⟩
  have := DGet.k (k := kT v) hW
  rw [h3] at this
  exact this
theorem Mt.has {chs : List Chg} {u : List Nat} {n : Nat} {tw : List (List Nat)} {ds : List Nat} (m : Mt chs u n tw ds) (v : List Nat) : (valV (gW (metW tw ds)) (kT v)).isSome = decide (v ∈ tw) := by
  rw [gW_in, metW_keys m.b.len]
theorem Mt.keys {chs : List Chg} {u : List Nat} {n : Nat} {tw : List (List Nat)} {ds : List Nat} (m : Mt chs u n tw ds) : (gW (metW tw ds)).map (·.1) = (tw.map ofC).map Sum.inr := by
  rw [gW_keys, metW_keys m.b.len]
theorem bl_dec (a b : Bool) : decide (V.bl a = V.bl b) = (a == b) := by cases a <;> cases b <;> decide +kernel
theorem str_dec (a b : Str) : decide (V.str a = V.str b) = decide (a = b) := by
  by_cases h : a = b
  · subst h
    simp
  · rw [decide_eq_false h, decide_eq_false fun e => h (V.str.inj e)]
section
variable {P : Program} {w : World} {K : PySem.W.Frag} {mg : Str → Option Value} {base : Heap} {f : Addr} {fd : FuncData}
def spRight : Sp := fun vs H Q _ => ∃ (a : Addr) (u v : List Nat) (S : Addr) (chs : List Chg) (n : Nat), vs = [.ref a, txV u, txV v, .ref S] ∧ PurseAt H a ∧ ChAt H S chs ∧ OkCs chs ∧ C5 chs ∧ W5 n u ∧ W5 n v ∧ 1 ≤ n ∧ n ≤ 3 ∧
  ∀ (H' : Hp), PurseAt H' a → SameX a H H' → Q (.bl true) H'
abbrev nRight : List Str := ["_law_purse_here", "_law_one", "_law_two", "_law_some", "_law_met_here", "_law_told", "_law_known", "_law_turn", "_law_text", "_law_far", "_law_sign"]
abbrev pRight : List Str := ["_law_purse_here", "_law_one", "_law_two", "_law_some"]
theorem scRight : FnScope nRight pRight (defScope sRight) := ⟨rfl, rfl, rfl, by decide +kernel, rfl, by decide +kernel, by decide +kernel⟩
/-- what a row's call tells -/
def RowR (chs : List Chg) (u v : List Nat) (t : V) (H : Hp) : Prop := (t = .non ∧ ¬ OneP chs (ofC u) (ofC v)) ∨
  ∃ T, t = .ref T ∧ OneP chs (ofC u) (ofC v) ∧ H T = some (.tup ((rowTo chs u v u.length).map txV)) ∧ GoodTo chs u v u.length ∧ (rowTo chs u v u.length).length ≤ 209
theorem row_by {u v : List Nat} {c : V} {chs : List Chg} {H : Hp} {Q : VK} {E : XK} (hu : IsWd (ofC u)) (hv : IsWd (ofC v)) (hc : ChV H c chs) (ok : OkCs chs) (q : ∀ t H', Same H H' → RowR chs u v t H' → Q t H') : spRow [txV u, txV v, c] H Q E :=
  ⟨ofC u, ofC v, c, chs, rfl, hu, hv, hc, ok, fun o T H' _ s hT g l => q _ H' s (.inr ⟨T, rfl, o, hT, g, l⟩), fun no H' s => q _ H' s (.inl ⟨rfl, no⟩)⟩
theorem are_by {u v : List Nat} {c : V} {chs : List Chg} {H : Hp} {Q : VK} {E : XK} {b : Bool} (hu : IsWd (ofC u)) (hv : IsWd (ofC v)) (hc : ChV H c chs) (ok : OkCs chs) (hb : OneP chs (ofC u) (ofC v) ↔ b = true) (q : ∀ H', Same H H' → Q (.bl b) H') : spAre [txV u, txV v, c] H Q E :=
  ⟨ofC u, ofC v, c, chs, rfl, hu, hv, hc, ok, fun b' H' s h => by
    have : b' = b := by
      have := h.trans hb
      cases b <;> cases b' <;> simp_all
    subst this
    exact q H' s⟩
section
variable {σ : L2.St} {H : Hp} {Q : VK} {u v : List Nat} {c : V} {chs : List Chg} {i j k : Nat}
theorem row_call (h1 : σ[i]? = some (some (txV u))) (h2 : σ[j]? = some (some (txV v))) (h3 : σ[k]? = some (some c)) (hu : IsWd (ofC u)) (hv : IsWd (ofC v)) (hc : ChV H c chs) (ok : OkCs chs) (q : ∀ t H', Same H H' → RowR chs u v t H' → Q t H') :
    tCall spRow [] E0 (tCons (tVar i) (tCons (tVar j) (tCons (tVar k) tNil))) σ H Q := ⟨_, h1, _, h2, _, h3, row_by (E := E0) hu hv hc ok q⟩
theorem are_call {b : Bool} (h1 : σ[i]? = some (some (txV u))) (h2 : σ[j]? = some (some (txV v))) (h3 : σ[k]? = some (some c)) (hu : IsWd (ofC u)) (hv : IsWd (ofC v)) (hc : ChV H c chs) (ok : OkCs chs) (hb : OneP chs (ofC u) (ofC v) ↔ b = true) (q : ∀ H', Same H H' → Q (.bl b) H') :
    tCall spAre [] E0 (tCons (tVar i) (tCons (tVar j) (tCons (tVar k) tNil))) σ H Q := ⟨_, h1, _, h2, _, h3, are_by (E := E0) hu hv hc ok hb q⟩
theorem mean_call (h1 : σ[i]? = some (some (txV u))) (h3 : σ[k]? = some (some c)) (hu : IsWd (ofC u)) (hc : ChV H c chs) (ok : OkCs chs) (q : ∀ H', Same H H' → Q (.str (mean chs (ofC u))) H') :
    tCall spMean [] E0 (tCons (tVar i) (tCons (tVar k) tNil)) σ H Q := ⟨_, h1, _, h3, ofC u, c, chs, rfl, hu, hc, ok, q⟩
theorem min_call {W : Addr} {n : Nat} {tw : List (List Nat)} {ds : List Nat} (h : σ[k]? = some (some (.ref W))) (hW : H W = some (.dK (gW (metW tw ds)))) (m : Mt chs u n tw ds) (q : Q (.str (mean chs (ofC u))) H) : tCB rMinDk (tCons (tVar k) tNil) σ H Q :=
  ⟨_, h, W, _, tw.map ofC, rfl, .inl hW, m.keys, m.start, fun z hz hm => by rw [m.min hz hm]; exact q⟩
/-- told is not None and len(told) != met[two] + 1: never -/
theorem told_tt {K : PySem.W.Frag} {Q : Bool → Hp → Prop} {W : Addr} {t5 : V} {n : Nat} {tw : List (List Nat)} {ds : List Nat} {tl : TE} (h5 : σ[i]? = some (some t5)) (hl : ∀ (T : Addr) (ys : List V) (Q' : VK), t5 = .ref T → H T = some (.tup ys) → Q' (.int ys.length) H → tl σ H Q')
    (h4 : σ[j]? = some (some (.ref W))) (h2 : σ[k]? = some (some (txV v))) (hW : H W = some (.dK (gW (metW tw ds)))) (m : Mt chs u n tw ds) (ok : OkCs chs) (r : RowR chs u v t5 H) (lu : u.length = v.length) (q : Q false H) :
    tAnd (tB (tNotN (tVar i))) (tTest (tOp rNe tl (tOp (rI0 fun i j => V.int (i + j)) (tDGet (tVar j) (tVar k)) (tC (V.int 1))))) σ H Q := by
  rcases r with ⟨rfl, no⟩ | ⟨T, rfl, o, hT, g, l⟩
  · exact ⟨_, h5, _, rfl, iteF q⟩
  · refine ⟨_, h5, _, rfl, iteT (hl T _ _ rfl hT ?_)⟩
    obtain ⟨i', d, h1, h3, hd⟩ := m.dget ((m.one v).mp o) hW
    refine ⟨_, h4, _, h2, W, _, rfl, hd, _, _, rfl, rfl, rfl, _, rfl, ?_⟩
    rw [List.length_map, row_far ok.2 lu g m.b h1 h3, int_dec]
    have : (!decide (((d + 1 : Nat) : Int) = (d : Int) + 1)) = false := by
      rw [decide_eq_true (by omega)]
      rfl
    rw [this]
    exact q
end
theorem ok_right (F : Fun K "_law_right" "_law_right" sRight f fd) (B : Bi mg) (hp : Has P w K mg base "_law_pick" 1 ["_law_purse_here", "_law_many"] spPick) (hM : Has P w K mg base "_law_met" 2 pNext spMet)
    (hR : HasN P w K mg base "row_between" wRow 5 ps3 spRow) (hA : HasN P w K mg base "are_one" wAre 6 ps3 spAre) (hMn : HasN P w K mg base "meaning" wMean 5 ps2 spMean) : FnOk P w K mg base CX0 7 f fd pRight spRight := by
  obtain ⟨f1, fd1, F1, m1, N1⟩ := hR
  have b1 := bind3 N1
  obtain ⟨f2, fd2, F2, m2, N2⟩ := hA
  have b2 := bindA3 N2
  obtain ⟨f3, fd3, F3, m3, N3⟩ := hMn
  have b3 := bindM2 N3
  refine F.ok scRight (fun vs H Q E h => ?_) (fun cdv A outer s H vs Q E hr h => ?_)
  · obtain ⟨a, u, v, S, chs, n, rfl, _⟩ := h
    rfl
  · obtain ⟨a, u, v, S, chs, n, rfl, hP, hS, ok, c5, u5, v5, n1, n3, q⟩ := h
    refine ⟨_, pss_cons (ps_set (i := 4) scRight.nd rfl (.inl rfl) (pe_h hM hr (pa_cons (pv 3) (pa_cons (pv 1) pa_nil))))
      (pss_cons (ps_set (i := 5) scRight.nd rfl (.inl rfl) (pe_call F1 (hr.mono (by decide)) (by rfl) m1 N1.kp b1 .nil pass0 (pa_cons (pv 1) (pa_cons (pv 2) (pa_cons (pv 3) pa_nil)))))
      (pss_cons (ps_if (PW.pt (pw_or (pt_cmpR op_ne (pe_call F2 hr (by rfl) m2 N2.kp b2 .nil pass0 (pa_cons (pv 1) (pa_cons (pv 2) (pa_cons (pv 3) pa_nil)))) (pe_cmp (pc_din (room1 hr) (pv 2) (pv 4)) rfl) (nomark _))
          (pw_or1 (pt_cmpR op_ne (pe_cmp (pc_isN (pv 5)) rfl) (pe_cmp (pc_dnotin (room1 hr) (pv 2) (pv 4)) rfl) (nomark _))))) (pss_one (ps_ret pe_bl)) pss_nil)
      (pss_cons (ps_if (PW.pt (pw_or (PW.pt (pw_and (pt_cmp (pc_notN (pv 5))) (pw_and1 (pt_cmpR op_ne (pe_callB call_len_seq (by rfl) B.len PySem.boot_len (pa_cons (pv 5) pa_nil)) (pe_op op_add (pe_dget (room1 hr) (pv 4) (pv 2) (fun _ _ => rfl)) pe_int) (nomark _)))))
          (pw_or1 (pt_cmpR op_ne (pe_call F3 (hr.mono (by decide)) (by rfl) m3 N3.kp b3 .nil pass0 (pa_cons (pv 1) (pa_cons (pv 3) pa_nil))) (pe_callB (cr_minDk rfl (room64 hr)) (by rfl) B.min (by decide +kernel) (pa_cons (pv 4) pa_nil)) (nomark _))))) (pss_one (ps_ret pe_bl)) pss_nil)
      (pss_cons (ps_set (i := 6) scRight.nd rfl (.inl rfl) (pe_callB (cr_sortDk rfl (room64 hr)) (by rfl) B.sorted (by decide +kernel) (pa_cons (pv 4) pa_nil)))
      (pss_cons (ps_for PassesOwn.never rfl (pi_range1 (by rfl) B.range (pa_cons pe_int pa_nil)) (pg_name (i := 7) scRight.nd rfl (.inl rfl))
        (pss_cons (ps_set (i := 8) scRight.nd rfl (.inl rfl) (pe_ix ix_list (pv 6) (pe_h hp hr (pa_cons (pv 0) (pa_cons (pe_callB call_len_seq (by rfl) B.len PySem.boot_len (pa_cons (pv 6) pa_nil)) pa_nil))) (fun _ _ => rfl)))
        (pss_cons (ps_if (PW.pt (pw_or (pt_not (pt_val (pe_call F2 hr (by rfl) m2 N2.kp b2 .nil pass0 (pa_cons (pv 8) (pa_cons (pv 1) (pa_cons (pv 3) pa_nil))))))
            (pw_or1 (pt_cmpR op_ne (pe_call F3 (hr.mono (by decide)) (by rfl) m3 N3.kp b3 .nil pass0 (pa_cons (pv 8) (pa_cons (pv 3) pa_nil))) (pe_callB (cr_minDk rfl (room64 hr)) (by rfl) B.min (by decide +kernel) (pa_cons (pv 4) pa_nil)) (nomark _))))) (pss_one (ps_ret pe_bl)) pss_nil)
        (pss_cons (ps_if (pt_cmpR op_ne (pe_callB call_len_seq (by rfl) B.len PySem.boot_len (pa_cons (pe_call F1 (hr.mono (by decide)) (by rfl) m1 N1.kp b1 .nil pass0 (pa_cons (pv 1) (pa_cons (pv 8) (pa_cons (pv 3) pa_nil)))) pa_nil)) (pe_op op_add (pe_dget (room1 hr) (pv 4) (pv 8) (fun _ _ => rfl)) pe_int) (nomark _)) (pss_one (ps_ret pe_bl)) pss_nil)
        (pss_cons (ps_set (i := 9) scRight.nd rfl (.inl rfl) (pe_join pe_str (pe_lc (own := [("_law_sign", 10)]) (g := gName 10) (tt := tYes) rfl scRight.nd (pi_str (pv 1)) (blkOk_by (N := nRight) (sc := defScope sRight) (by decide +kernel))
            (fun _ _ _ _ _ => pg_name (i := 10) scRight.nd rfl (.inl rfl)) (fun _ _ _ _ _ => pts_nil) (fun _ _ _ _ _ => pe_ix ix_str pe_str (pe_h hp hr (pa_cons (pv 0) (pa_cons pe_int pa_nil))) (fun _ _ => rfl)))))
        (pss_one (ps_if (PW.pt (pw_or (pt_cmpR op_ne (pe_call F2 hr (by rfl) m2 N2.kp b2 .nil pass0 (pa_cons (pv 1) (pa_cons (pv 9) (pa_cons (pv 3) pa_nil)))) (pe_cmp (pc_din (room1 hr) (pv 9) (pv 4)) rfl) (nomark _))
            (pw_or1 (pt_cmpR op_ne (pe_cmpR op_eq (pe_call F3 (hr.mono (by decide)) (by rfl) m3 N3.kp b3 .nil pass0 (pa_cons (pv 9) (pa_cons (pv 3) pa_nil))) (pe_callB (cr_minDk rfl (room64 hr)) (by rfl) B.min (by decide +kernel) (pa_cons (pv 4) pa_nil)) (nomark _)) (pe_cmp (pc_din (room1 hr) (pv 9) (pv 4)) rfl) (nomark _))))) (pss_one (ps_ret pe_bl)) pss_nil)))))))
      (pss_one (ps_ret pe_bl))))))), ?_⟩
    have hu : IsWd (ofC u) := u5.wd n1 n3
    have hv : IsWd (ofC v) := v5.wd n1 n3
    refine ⟨_, rfl, _, rfl, S, chs, ofC u, n, rfl, hS, ok, c5, u5, n1, n3, fun W tw ds H1 s1 hW1 dep w5 => ?_⟩
    have m : Mt chs u n tw ds := ⟨dep, w5⟩
    have lu : u.length = v.length := u5.1.trans v5.1.symm
    refine row_call rfl rfl rfl hu hv (.inr ⟨S, rfl, hS.same s1⟩) ok fun t5 H2 s2 r5 => ?_
    have hW2 := s2 _ _ hW1
    refine are_call (b := decide (v ∈ tw)) rfl rfl rfl hu hv (.inr ⟨S, rfl, hS.same (s1.trans s2)⟩) ok (by rw [m.one]; simp) fun H3 s3 => ?_
    have hW3 := s3 _ _ hW2
    refine ⟨_, rfl, _, rfl, W, _, rfl, DGet.k (k := kT v) hW3, rfl, _, rfl, ?_⟩
    rw [bl_dec, m.has]
    refine iteNS (by simp) ?_
    refine ⟨_, rfl, _, rfl, _, rfl, W, _, rfl, DGet.k (k := kT v) hW3, rfl, _, rfl, ?_⟩
    rw [m.has, bl_dec]
    have e5 : decide (t5 = V.non) = !decide (v ∈ tw) := by
      rcases r5 with ⟨rfl, no⟩ | ⟨T, rfl, o, _⟩
      · rw [decide_eq_true rfl, decide_eq_false fun h => no ((m.one v).mpr h)]
        rfl
      · rw [decide_eq_false (fun h => by cases h), decide_eq_true ((m.one v).mp o)]
        rfl
    rw [e5]
    refine iteNS (by simp) ?_
    have r53 : RowR chs u v t5 H3 := by
      rcases r5 with h | ⟨T, h1, h2, h3, h4⟩
      · exact .inl h
      · exact .inr ⟨T, h1, h2, s3 _ _ h3, h4⟩
    refine told_tt (u := u) (K := K) rfl (fun T ys Q' e1 e2 q' => ⟨_, rfl, T, ys, by rw [e1], .inr (.inl (.inl e2)), q'⟩) rfl rfl hW3 m ok r53 lu (iteF ?_)
    have s03 : Same H H3 := s1.trans (s2.trans s3)
    refine mean_call rfl rfl hu (.inr ⟨S, rfl, hS.same s03⟩) ok fun H4 s4 => ?_
    have hW4 := s4 _ _ hW3
    refine min_call rfl hW4 m ⟨rfl, _, rfl, ?_⟩
    rw [str_dec, decide_eq_true (rfl : mean chs (ofC u) = mean chs (ofC u))]
    refine iteF ?_
    have s04 : Same H H4 := s03.trans s4
    refine ⟨_, rfl, W, _, tw.map ofC, rfl, .inl hW4, m.keys, fun Kn hKn => ?_⟩
    have ltw : tw.length ≤ 125 := Nat.le_trans (len5 m.b.nd m.w) (pow5 n3)
    have lK : (sortS (tw.map ofC)).length = tw.length := by rw [sortS_len, List.length_map]
    have l0 : 0 < tw.length := by
      have := m.start
      cases tw with
      | nil => exact absurd rfl this
      | cons x r => exact Nat.succ_pos _
    obtain ⟨ya, hya⟩ := hP.lst
    have hP4 := hP.same s04
    have nKa : Kn ≠ a := hP4.ne hKn
    have nWa : W ≠ a := fun e => by
      subst e
      obtain ⟨yb, hyb⟩ := hP4.lst
      rw [hW4] at hyb
      cases hyb
    refine ⟨7, rfl, by decide, by decide, for_it (walk_range (lo := 0) (n := 7)) (fun i σ H' => (∃ y7 y8 y9 y10, σ = [some (.ref a), some (txV u), some (txV v), some (.ref S), some (.ref W), some t5, some (.ref Kn), y7, y8, y9, y10]) ∧ PurseAt H' a ∧ SameX a H H' ∧ H' W = some (.dK (gW (metW tw ds))) ∧ H' Kn = some (.lst ((sortS (tw.map ofC)).map V.str)))
      ⟨⟨_, _, _, _, rfl⟩, hP4.same (same_new hKn), sx (s04.trans (same_new hKn)), (same_new hKn) _ _ hW4, upd_same⟩ (fun _ _ _ _ _ => trivial) ?_ ?_⟩
    · rintro i x σ Hq H5 hi ⟨⟨y7, y8, y9, y10, rfl⟩, hP5, s5, hW5, hK5⟩ ⟨rfl, rfl⟩
      refine ⟨_, rfl, _, rfl, _, rfl, Kn, _, rfl, .inl (.inl (.inl hK5)), a, _, rfl, hP5, ?_, ?_, fun r H6 r0 r1 hP6 s6 f6 => ?_⟩
      · rw [List.length_map, lK]
        omega
      · rw [List.length_map, lK]
        omega
      rw [List.length_map] at r1
      obtain ⟨zt, hzt, hzi⟩ := atI_strs (zs := sortS (tw.map ofC)) r0 r1
      rw [mem_sortS] at hzt
      obtain ⟨x, hx, rfl⟩ := List.mem_map.mp hzt
      have hK6 := s6 _ _ nKa hK5
      have hW6 := s6 _ _ nWa hW5
      have x5 : W5 n x := m.w x hx
      have hx8 : IsWd (ofC x) := x5.wd n1 n3
      have ox : OneP chs (ofC u) (ofC x) := (m.one x).mpr hx
      have s06 : SameX a H H6 := s5.trans s6
      have hS6 : ChAt H6 S chs := hS.X hya s06
      refine ⟨Kn, _, r, txV x, rfl, rfl, .inl (.inl hK6), hzi, ?_⟩
      refine are_call (b := true) rfl rfl rfl hx8 hu (.inr ⟨S, rfl, hS6⟩) ok ⟨fun _ => rfl, fun _ => one_symm.mp ox⟩ fun H7 s7 => ⟨_, rfl, iteF ?_⟩
      have hW7 := s7 _ _ hW6
      refine mean_call rfl rfl hx8 (.inr ⟨S, rfl, hS6.same s7⟩) ok fun H8 s8 => ?_
      have hW8 := s8 _ _ hW7
      refine min_call rfl hW8 m ⟨rfl, _, rfl, ?_⟩
      rw [str_dec, decide_eq_true (one_iff.mp ox).2.symm]
      refine iteF ?_
      have s68 := s7.trans s8
      refine row_call rfl rfl rfl hu hx8 (.inr ⟨S, rfl, hS6.same s68⟩) ok fun t9 H9 s9 r9 => ?_
      rcases r9 with ⟨_, no⟩ | ⟨T, rfl, _, hT, g, _⟩
      · exact absurd ox no
      have hW9 := s9 _ _ hW8
      obtain ⟨i', d, h1, h3, hd⟩ := m.dget hx hW9
      refine ⟨T, _, rfl, .inr (.inl (.inl hT)), _, rfl, _, rfl, W, _, rfl, hd, _, _, rfl, rfl, rfl, _, rfl, ?_⟩
      rw [List.length_map, row_far ok.2 (u5.1.trans x5.1.symm) g m.b h1 h3, int_dec]
      have e1 : (!decide (((d + 1 : Nat) : Int) = (d : Int) + 1)) = false := by
        rw [decide_eq_true (by omega)]
        rfl
      rw [e1]
      refine iteF ?_
      have s69 := s68.trans s9
      have hP9 := hP6.same s69
      have s09 : SameX a H H9 := s06.trans (sx s69)
      have hK9 := s69 _ _ hK6
      refine ⟨⟨_, rfl⟩, _, rfl, ofC u, rfl, fun D hD => ?_⟩
      have nDa : D ≠ a := hP9.ne hD
      have lsu : (signsOf (ofC u)).length = n := by
        unfold signsOf
        rw [List.length_map]
        exact u5.1
      refine lc_it walk_signs (fun i H' => ∃ cs : List Nat, cs.length = i ∧ (∀ c ∈ cs, isLet c) ∧ H' D = some (.lst ((cs.map sign).map V.str)) ∧ PurseAt H' a ∧ SameX a H9 H')
        ⟨[], rfl, (fun c hc => by cases hc), upd_same, hP9.same (same_new hD), sx (same_new hD)⟩ (fun _ _ _ _ => trivial) ?_ ?_
      · rintro i x' Hq H10 hi ⟨cs, hcl, hcs, hDl, hA7, s7⟩ ⟨rfl, _⟩
        rw [lsu] at hi
        refine ⟨rfl, yes_it ⟨_, rfl, a, 6, rfl, hA7, by decide, by decide, fun r8 H11 r80 r81 hA8 s8 n8 => ?_⟩⟩
        refine ⟨_, r8, _, rfl, rfl, lz, abcdef_at r80 r81, _, s8 _ _ nDa hDl, ?_, ?_⟩
        · rw [List.length_map, List.length_map]
          exact small1000 (by omega)
        · refine ⟨cs ++ [97 + r8.toNat], by simp [hcl], fun c hc => ?_, ?_, ?_, sameX_mut (s7.trans s8) hD⟩
          · rcases List.mem_append.mp hc with hc | hc
            · exact hcs c hc
            · rw [List.mem_singleton.mp hc]
              unfold isLet
              omega
          · rw [upd_same, List.map_append, List.map_append]
            rfl
          · obtain ⟨x0, x1, x2, hx, hx1⟩ := hA8
            exact ⟨x0, x1, x2, by rw [upd_ne nDa.symm]; exact hx, hx1⟩
      · rintro H10 ⟨cs, hcl, hcs, hDl, hP10, s10⟩
        rw [lsu] at hcl
        have ejoin : Txt.join ("" : Str) (cs.map sign) = ofC cs := str_ext (join_signs cs)
        refine ⟨_, D, cs.map sign, rfl, rfl, .inl (.inl (.inl hDl)), ?_, ?_⟩
        · have e0 : ("" : Str).length = 0 := by decide +kernel
          have e1 : (cs.map sign).map (·.length) = cs.map fun _ => 1 := by
            rw [List.map_map]
            rfl
          rw [e0, e1, Nat.mul_zero, ones_sum]
          omega
        rw [ejoin]
        have hc8 : IsWd (ofC cs) := wd_codes.mpr ⟨by rw [codes_ofC, hcl]; omega, hcs⟩
        have s010 : SameX a H H10 := s09.trans s10
        have hS10 : ChAt H10 S chs := hS.X hya s010
        have hW10 := s10 _ _ nWa hW9
        have hK10 := s10 _ _ nKa hK9
        refine are_call (v := cs) (b := decide (cs ∈ tw)) rfl rfl rfl hu hc8 (.inr ⟨S, rfl, hS10⟩) ok (by rw [m.one]; simp) fun H11 s11 => ?_
        have hW11 := s11 _ _ hW10
        refine ⟨_, rfl, _, rfl, W, _, rfl, DGet.k (k := kT cs) hW11, rfl, _, rfl, ?_⟩
        rw [bl_dec, m.has]
        refine iteNS (by simp) ?_
        refine mean_call (u := cs) rfl rfl hc8 (.inr ⟨S, rfl, hS10.same s11⟩) ok fun H12 s12 => ?_
        have hW12 := s12 _ _ hW11
        refine min_call rfl hW12 m ⟨rfl, ?_⟩
        refine ⟨_, rfl, _, rfl, W, _, rfl, DGet.k (k := kT cs) hW12, rfl, _, rfl, ?_⟩
        have e2 : decide (mean chs (ofC cs) = mean chs (ofC u)) = decide (cs ∈ tw) := by
          have : (mean chs (ofC cs) = mean chs (ofC u)) ↔ cs ∈ tw := by
            rw [← m.one, one_iff]
            exact ⟨fun e => ⟨by rw [codes_ofC, codes_ofC, hcl]; exact u5.1, e.symm⟩, fun h => h.2.symm⟩
          by_cases h : cs ∈ tw
          · rw [decide_eq_true h, decide_eq_true (this.mpr h)]
          · rw [decide_eq_false h, decide_eq_false fun q => h (this.mp q)]
        rw [str_dec, bl_dec, m.has, e2]
        refine iteNS (by simp) ?_
        have s1012 := s11.trans s12
        exact ⟨⟨_, _, _, _, rfl⟩, hP10.same s1012, s010.trans (sx s1012), hW12, s1012 _ _ hK10⟩
    · rintro σ H5 ⟨⟨y7, y8, y9, y10, rfl⟩, hP5, s5, hW5, hK5⟩
      exact q H5 hP5 s5
end
end Wl

namespace Wl
open PySem PySem.Spec PyProof.Rows L2
abbrev sLaw : Stmt := topW 31
theorem same_x {H0 H1 H2 : Hp} {a : Addr} (s : Same H0 H1) (x : SameX a H1 H2) (h : H0 a = none) : Same H0 H2 := fun b o e => x b o (ne_of_none e h) (s b o e)
section
variable {P : Program} {w : World} {K : PySem.W.Frag} {mg : Str → Option Value} {base : Heap} {f : Addr} {fd : FuncData}
def spLaw (K : PySem.W.Frag) : Sp := fun vs H Q _ => ∃ (a : Addr) (ns : List Int), vs = [.ref a] ∧ SqL K H a (ns.map V.int) ∧ ns.length ≤ 63 ∧ ∀ H', Q (.bl true) H'
abbrev nLaw : List Str := ["_law_script", "_law_k", "_law_purse_here", "_law_many", "_law_some", "_law_one", "_law_two", "_law_j", "_law_sign"]
theorem scLaw : FnScope nLaw ["_law_script"] (defScope sLaw) := ⟨rfl, rfl, rfl, by decide +kernel, rfl, by decide +kernel, by decide +kernel⟩
theorem join_len {cs : List Nat} (h : cs.length ≤ 100) : ((cs.map sign).map (·.length)).sum + (cs.map sign).length * ("" : Str).length ≤ 16777216 := by
  have e0 : ("" : Str).length = 0 := by decide +kernel
  have e1 : (cs.map sign).map (·.length) = cs.map fun _ => 1 := by
    rw [List.map_map]
    rfl
  rw [e0, e1, Nat.mul_zero, ones_sum]
  omega
theorem ok_law (F : Fun K "law" "law" sLaw f fd) (B : Bi mg)
    (hCell : Has P w K mg base "_law_cell" 1 ["_law_script", "_law_k"] (spCell K)) (hPurse : Has P w K mg base "_law_purse" 1 ["_law_cell_here"] spPurse) (hp : Has P w K mg base "_law_pick" 1 ["_law_purse_here", "_law_many"] spPick)
    (hChg : Has P w K mg base "_law_changes" 2 ["_law_purse_here", "_law_most"] spChanges) (hRi : Has P w K mg base "_law_right" 7 pRight spRight) : FnOk P w K mg base CX0 8 f fd ["_law_script"] (spLaw K) := by
  refine F.ok scLaw (fun vs H Q E h => ?_) (fun cdv A outer s H vs Q E hr h => ?_)
  · obtain ⟨a, ns, rfl, _⟩ := h
    rfl
  · obtain ⟨a, ns, rfl, hS, hlen, q⟩ := h
    refine ⟨_, pss_cons (ps_for PassesOwn.never rfl (pi_range1 rfl B.range (pa_cons (pe_callB (call_max2 rfl) (by rfl) B.max (by decide +kernel) (pa_cons pe_int (pa_cons (pe_callB (call_min2 rfl) (by rfl) B.min (by decide +kernel) (pa_cons pe_int (pa_cons (pe_callB call_len_seq (by rfl) B.len PySem.boot_len (pa_cons (pv 0) pa_nil)) pa_nil))) pa_nil))) pa_nil)) (pg_name (i := 1) scLaw.nd rfl (.inl rfl))
        (pss_cons (ps_set (i := 2) scLaw.nd rfl (.inr rfl) (pe_h hPurse hr (pa_cons (pe_h hCell hr (pa_cons (pv 0) (pa_cons (pv 1) pa_nil))) pa_nil)))
        (pss_cons (ps_par (i := 3) (j := 4) (by rfl) scLaw.nd rfl rfl (by decide) rfl rfl (pa_cons (pe_op op_add pe_int (pe_h hp hr (pa_cons (pv 2) (pa_cons pe_int pa_nil)))) (pa_cons (pe_h hChg hr (pa_cons (pv 2) (pa_cons pe_int pa_nil))) pa_nil)) (by rfl))
        (pss_cons (ps_set (i := 5) scLaw.nd rfl (.inl rfl) (pe_join pe_str (pe_lc (own := [("_law_j", 7)]) (g := gName 7) (tt := tYes) rfl scLaw.nd (pi_range1 (by rfl) B.range (pa_cons (pv 3) pa_nil)) (blkOk_by (N := nLaw) (sc := defScope sLaw) (by decide +kernel))
            (fun _ _ _ _ _ => pg_name (i := 7) scLaw.nd rfl (.inl rfl)) (fun _ _ _ _ _ => pts_nil) (fun _ _ _ _ _ => pe_ix ix_str pe_str (pe_h hp hr (pa_cons (pv 2) (pa_cons pe_int pa_nil))) (fun _ _ => rfl)))))
        (pss_cons (ps_set (i := 6) scLaw.nd rfl (.inl rfl) (pe_join pe_str (pe_lc (own := [("_law_sign", 8)]) (g := gName 8) (tt := tYes) (te := tOp (rIxL K) (tLst (tCons (tVar 8) (tCons (tOp rIxS (tC (.str "abcde")) (tCall spPick [] E0 (tCons (tVar 2) (tCons (tC (.int 5)) tNil)))) tNil))) (tCall spPick [] E0 (tCons (tVar 2) (tCons (tC (.int 2)) tNil)))) rfl scLaw.nd (pi_str (pv 5)) (blkOk_by (N := nLaw) (sc := defScope sLaw) (by decide +kernel))
            (fun _ _ _ _ _ => pg_name (i := 8) scLaw.nd rfl (.inl rfl)) (fun _ _ _ _ _ => pts_nil) (fun _ _ _ _ _ => pe_ix ix_list (pe_lst (pa_cons (pv 8) (pa_cons (pe_ix ix_str pe_str (pe_h hp hr (pa_cons (pv 2) (pa_cons pe_int pa_nil))) (fun _ _ => rfl)) pa_nil))) (pe_h hp hr (pa_cons (pv 2) (pa_cons pe_int pa_nil))) (fun _ _ => rfl)))))
        (pss_one (ps_if (pt_not (pt_val (pe_h hRi hr (pa_cons (pv 2) (pa_cons (pv 5) (pa_cons (pv 6) (pa_cons (pv 4) pa_nil))))))) (pss_one (ps_ret pe_bl)) pss_nil)))))))
      (pss_one (ps_ret pe_bl)), ?_⟩
    have hln : ((ns.map V.int).length : Int) = ns.length := by rw [List.length_map]
    refine ⟨_, rfl, a, _, rfl, .inl hS, _, _, rfl, _, _, rfl, _, rfl, ?_, ?_, ?_⟩
    · rw [hln]; split <;> split <;> omega
    · rw [hln]; split <;> split <;> omega
    rw [hln]
    refine for_range (lo := 0) (n := _) (fun i σ H' => (∃ y1 y2 y3 y4 y5 y6 y7 y8, σ = [some (.ref a), y1, y2, y3, y4, y5, y6, y7, y8]) ∧ Same H H') ⟨⟨_, _, _, _, _, _, _, _, rfl⟩, Same.refl H⟩ ?_ ?_
    · rintro i σ H2 hi ⟨⟨y1, y2, y3, y4, y5, y6, y7, y8, rfl⟩, s2⟩
      have hi8 : i < 8 := by
        have : ∀ n : Int, (if (if n < 5 then n else 5) > (2 : Int) then (if n < 5 then n else 5) else 2).toNat ≤ 8 := fun n => by
          split <;> split <;> omega
        exact Nat.lt_of_lt_of_le hi (this _)
      refine ⟨_, rfl, _, rfl, a, ns, 0 + i, rfl, s2.seq hS, by omega, by omega, fun v H3 s3 => ⟨v, rfl, fun pu H4 hpu s4 hP4 => ?_⟩⟩
      have hpu0 : H pu = none := (s2.trans s3).free hpu
      have sP4 : Same H H4 := (s2.trans s3).trans s4
      refine ⟨_, rfl, pu, 3, rfl, hP4, by decide, by decide, fun r H5 r0 r1 hP5 s5 n5 => ⟨_, _, rfl, rfl, _, rfl, pu, 6, rfl, hP5, by decide, by decide, fun S chs H6 hP6 s6 hS6 ok c5 => ⟨_, _, rfl, ?_⟩⟩⟩
      obtain ⟨n, en, n1, n3⟩ : ∃ n : Nat, (1 + r : Int) = (n : Int) ∧ 1 ≤ n ∧ n ≤ 3 := ⟨(1 + r).toNat, by omega, by omega, by omega⟩
      obtain ⟨yp, hyp⟩ := hP6.lst
      -- one
      refine ⟨⟨_, rfl⟩, _, rfl, 1 + r, rfl, by omega, by omega, fun D hD => lc_range (lo := 0) (n := (1 + r).toNat)
        (fun i H' => ∃ cs : List Nat, cs.length = i ∧ (∀ c ∈ cs, in5 c) ∧ H' D = some (.lst ((cs.map sign).map V.str)) ∧ PurseAt H' pu ∧ SameX pu H6 H')
        ⟨[], rfl, (fun c hc => by cases hc), upd_same, hP6.same (same_new hD), sx (same_new hD)⟩ ?_ ?_⟩
      · rintro i H7 hi ⟨cs, hcl, hcs, hDl, hA7, s7⟩
        have nD := hP6.ne hD
        refine ⟨rfl, yes_it ⟨_, rfl, pu, 5, rfl, hA7, by decide, by decide, fun r8 H8 r80 r81 hA8 s8 n8 => ?_⟩⟩
        refine ⟨_, r8, _, rfl, rfl, lz, abcde_at r80 r81, _, s8 _ _ nD hDl, ?_, ?_⟩
        · rw [List.length_map, List.length_map]
          exact small1000 (by omega)
        · refine ⟨cs ++ [97 + r8.toNat], by simp [hcl], fun c hc => ?_, ?_, ?_, sameX_mut (s7.trans s8) hD⟩
          · rcases List.mem_append.mp hc with hc | hc
            · exact hcs c hc
            · rw [List.mem_singleton.mp hc]
              unfold in5
              omega
          · rw [upd_same, List.map_append, List.map_append]
            rfl
          · obtain ⟨x0, x1, x2, hx, hx1⟩ := hA8
            exact ⟨x0, x1, x2, by rw [upd_ne nD.symm]; exact hx, hx1⟩
      · rintro H7 ⟨cs, hcl, hcs, hDl, hP7, s7⟩
        have hcl : cs.length = n := by omega
        have ejoin : Txt.join ("" : Str) (cs.map sign) = ofC cs := str_ext (join_signs cs)
        refine ⟨_, D, cs.map sign, rfl, rfl, .inl (.inl (.inl hDl)), join_len (by omega), ?_⟩
        rw [ejoin]
        have w5 : W5 n cs := ⟨hcl, hcs⟩
        -- two
        refine ⟨⟨_, rfl⟩, _, rfl, ofC cs, rfl, fun D2 hD2 => ?_⟩
        have nD2 := hP7.ne hD2
        have lsu : (signsOf (ofC cs)).length = n := by
          unfold signsOf
          rw [List.length_map]
          exact hcl
        refine lc_it walk_signs (fun i H' => ∃ ds : List Nat, ds.length = i ∧ (∀ c ∈ ds, in5 c) ∧ H' D2 = some (.lst ((ds.map sign).map V.str)) ∧ PurseAt H' pu ∧ SameX pu H7 H')
          ⟨[], rfl, (fun c hc => by cases hc), upd_same, hP7.same (same_new hD2), sx (same_new hD2)⟩ (fun _ _ _ _ => trivial) ?_ ?_
        · rintro i x Hq H8 hi ⟨ds, hdl, hds, hDl2, hP8, s8⟩ ⟨rfl, hx⟩
          rw [lsu] at hi
          unfold signsOf at hx
          rw [List.getElem?_map] at hx
          obtain ⟨c, hc, rfl⟩ := Option.map_eq_some_iff.mp hx
          have hc5 : in5 c := hcs c (List.mem_of_getElem? hc)
          refine ⟨rfl, yes_it ⟨_, rfl, _, rfl, pu, 5, rfl, hP8, by decide, by decide, fun u H9 u0 u1 hP9 s9 n9 => ?_⟩⟩
          refine ⟨_, u, _, rfl, rfl, lz, abcde_at u0 u1, lz, fun l hl => ⟨_, rfl, pu, 2, rfl, hP9.same (same_new hl), by decide, by decide, fun t H10 t0 t1 hP10 s10 n10 => ?_⟩⟩
          have nl := hP9.ne hl
          obtain ⟨d, hd, hdi⟩ : ∃ d, in5 d ∧ atI [V.str (sign c), V.str (sign (97 + u.toNat))] t = some (.str (sign d)) := by
            rcases (show t = 0 ∨ t = 1 by omega) with rfl | rfl
            · exact ⟨c, hc5, atI_nat (j := 0) rfl⟩
            · exact ⟨97 + u.toNat, ⟨by omega, by omega⟩, atI_nat (j := 1) rfl⟩
          have s810 : SameX pu H8 H10 := s9.trans ((sx (same_new hl)).trans s10)
          refine ⟨l, _, t, .str (sign d), rfl, rfl, .inl (.inl (s10 _ _ nl upd_same)), hdi, _, s810 _ _ nD2 hDl2, ?_, ?_⟩
          · rw [List.length_map, List.length_map]
            exact small1000 (by omega)
          · refine ⟨ds ++ [d], by simp [hdl], fun c' hc' => ?_, ?_, ?_, sameX_mut (s8.trans s810) hD2⟩
            · rcases List.mem_append.mp hc' with hc' | hc'
              · exact hds c' hc'
              · rw [List.mem_singleton.mp hc']
                exact hd
            · rw [upd_same, List.map_append, List.map_append]
              rfl
            · obtain ⟨x0, x1, x2, hx, hx1⟩ := hP10
              exact ⟨x0, x1, x2, by rw [upd_ne nD2.symm]; exact hx, hx1⟩
        · rintro H8 ⟨ds, hdl, hds, hDl2, hP8, s8⟩
          rw [lsu] at hdl
          have ejoin2 : Txt.join ("" : Str) (ds.map sign) = ofC ds := str_ext (join_signs ds)
          refine ⟨_, D2, ds.map sign, rfl, rfl, .inl (.inl (.inl hDl2)), join_len (by omega), ?_⟩
          rw [ejoin2]
          have v5 : W5 n ds := ⟨hdl, hds⟩
          have x68 : SameX pu H6 H8 := s7.trans s8
          have x48 : SameX pu H4 H8 := (s5.trans s6).trans x68
          refine ⟨_, rfl, _, rfl, _, rfl, _, rfl, pu, cs, ds, S, chs, n, rfl, hP8, hS6.X hyp x68, ok, c5, w5, v5, n1, n3, fun H9 hP9 s9 => ⟨true, rfl, iteF ?_⟩⟩
          exact ⟨⟨_, _, _, _, _, _, _, _, rfl⟩, same_x sP4 (x48.trans s9) hpu0⟩
    · rintro σ H2 ⟨⟨y1, y2, y3, y4, y5, y6, y7, y8, rfl⟩, s2⟩
      exact q H2
end
end Wl

namespace Wl
open PySem PySem.Spec PyProof.Rows L2
/-- the hook of facts, with one more test of the frame -/
def hookE (n : Nat) (fa : List He.Fa) (fn : List He.DefD) (ex : PySem.W.Frag → Bool) : PySem.W.Hook where
  α := He.AlD × Bool
  obs := fun s => (He.obsDG n fa fn s.heap.get?, ex (He.frG s.heap.get? (He.asD s.heap.get? n)))
  val := fun _ => (He.valD fn, true)
  says := fun _ h => ∃ K : PySem.W.Frag, K.In h ∧ He.SaysD fa fn K ∧ ex K = true
  of := fun _ _ e => ⟨_, He.frG_in, congrArg (fun z : He.AlD × Bool => z.1) e, congrArg (fun z : He.AlD × Bool => z.2) e⟩
  keeps := fun _ _ _ ⟨K, hK, c⟩ k => ⟨K, PySem.W.Frag.In.keeps hK k, c⟩
def dOf (x : Str) (st : Stmt) : He.DefD := ⟨(x, none), x, x, defArgs st, defBody st, defScope st, [], []⟩
def dNon (x : Str) (st : Stmt) : He.DefD := ⟨(x, none), x, x, defArgs st, defBody st, defScope st, [.non], []⟩
def fn : List He.DefD := [dOf "is_word" wIsWord, dOf "check_word" wCheck, dOf "is_letter" wIsLetter, dOf "is_change" wIsChange, dOf "is_tuple_up_to" wTupTo, dOf "checked_changes" wChecked, dOf "reaches" wReaches, dOf "turned_letters" wTurned, dOf "steps_toward" wSteps, dOf "letters_between" wBetween, dNon "row_between" wRow, dNon "are_one" wAre, dOf "letters_at" wLetAt, dNon "meaning" wMean, dOf "_law_cell" sCell, dOf "_law_purse" sPurse, dOf "_law_pick" sPick, dOf "_law_changes" sChanges, dOf "_law_next" sNext, dOf "_law_met" sMet, dOf "_law_right" sRight, dOf "law" sLaw]
def fa : List He.Fa := [.glo "is_word", .glo "check_word", .glo "is_letter", .glo "is_change", .glo "is_tuple_up_to", .glo "checked_changes", .glo "reaches", .glo "turned_letters", .glo "steps_toward", .glo "letters_between", .glo "row_between", .glo "are_one", .glo "letters_at", .glo "meaning", .glo "_law_cell", .glo "_law_purse", .glo "_law_pick", .glo "_law_changes", .glo "_law_next", .glo "_law_met", .glo "_law_right", .glo "law", .str "LETTERS" "abcdefghijklmnopqrstuvwxyz", .int "LONGEST_WORD" 8, .int "MOST_CHANGES" 12, .glo "WHERES", .free "len", .free "range", .free "isinstance", .free "tuple", .free "list", .free "sorted", .free "all", .free "int", .free "max", .free "min", .free "enumerate", .free "str"]
def exW (K : PySem.W.Frag) : Bool := He.tupB K "WHERES" [.str "first", .str "last", .str "any"]
abbrev R : PySem.W.OpenRow := PySem.W.OpenLaw.row PySem.Challenge.rw_wordlines_k03_whole_no_shorter_rows
abbrev hk : PySem.W.Hook := hookE 4 fa fn exW
def ob (s : PySem.W.SharedT) : He.AlD × Bool := (He.obsDG 4 fa fn (HandSHeadRun.getT s), exW (He.frG (HandSHeadRun.getT s) (He.asD (HandSHeadRun.getT s) 4)))
theorem ob_eq (s : PySem.W.SharedT) : ob s = hk.obs s.abs := by
  have e : HandSHeadRun.getT s = s.abs.heap.get? := funext (HandSHeadRun.getT_eq s)
  unfold ob
  rw [e]
  rfl
def others : List PySem.Str := ["WordError", "NoWord", "NoChanges", "LETTERS", "WHERES", "LONGEST_WORD", "MOST_CHANGES", "is_word", "check_word", "is_letter", "is_change", "is_tuple_up_to", "checked_changes", "reaches", "turned_letters", "steps_toward", "letters_between", "row_between", "are_one", "letters_at", "meaning", "_law_cell", "_law_purse", "_law_pick", "_law_changes", "_law_next", "_law_met", "_law_right"]
theorem facts {P : Program} {w : World} {K : PySem.W.Frag} {h : Heap} {mg : Str → Option Value} {f : Addr} (X : K.In h) (G : h.Ns mainGlobals mg) (hfa : mg ("law" : Str) = some (.ref f)) (c : He.SaysD fa fn K) (cx : exW K = true) :
    ∃ fd : FuncData, (∀ (s : Shared) (v : Value), BindsTo s fd ⟨[v], []⟩ [("_law_script", v)]) ∧ ∀ base : Heap, K.In base → base.Ns mainGlobals mg → FnOk P w K mg base CX0 8 f fd ["_law_script"] (spLaw K) := by
  have B : Bi mg := ⟨He.free_ok X G (c.fact 26 (f := .free "len") rfl), He.free_ok X G (c.fact 27 (f := .free "range") rfl), He.free_ok X G (c.fact 28 (f := .free "isinstance") rfl), He.free_ok X G (c.fact 29 (f := .free "tuple") rfl), He.free_ok X G (c.fact 30 (f := .free "list") rfl), He.free_ok X G (c.fact 31 (f := .free "sorted") rfl), He.free_ok X G (c.fact 32 (f := .free "all") rfl), He.free_ok X G (c.fact 33 (f := .free "int") rfl), He.free_ok X G (c.fact 34 (f := .free "max") rfl), He.free_ok X G (c.fact 35 (f := .free "min") rfl), He.free_ok X G (c.fact 36 (f := .free "enumerate") rfl), He.free_ok X G (c.fact 37 (f := .free "str") rfl)⟩
  have Gw' : Gw K mg := ⟨He.str_ok X G (c.fact 22 (f := .str "LETTERS" "abcdefghijklmnopqrstuvwxyz") rfl), He.int_ok X G (c.fact 23 (f := .int "LONGEST_WORD" 8) rfl), He.int_ok X G (c.fact 24 (f := .int "MOST_CHANGES" 12) rfl), _, He.glo_ok X G (c.fact 25 (f := .glo "WHERES") rfl), fun H => He.tupB_ok cx H⟩
  obtain ⟨fd0, F0⟩ := c.def_ 0 (d := dOf "is_word" wIsWord) rfl
  obtain ⟨fd1, F1⟩ := c.def_ 1 (d := dOf "check_word" wCheck) rfl
  obtain ⟨fd2, F2⟩ := c.def_ 2 (d := dOf "is_letter" wIsLetter) rfl
  obtain ⟨fd3, F3⟩ := c.def_ 3 (d := dOf "is_change" wIsChange) rfl
  obtain ⟨fd4, F4⟩ := c.def_ 4 (d := dOf "is_tuple_up_to" wTupTo) rfl
  obtain ⟨fd5, F5⟩ := c.def_ 5 (d := dOf "checked_changes" wChecked) rfl
  obtain ⟨fd6, F6⟩ := c.def_ 6 (d := dOf "reaches" wReaches) rfl
  obtain ⟨fd7, F7⟩ := c.def_ 7 (d := dOf "turned_letters" wTurned) rfl
  obtain ⟨fd8, F8⟩ := c.def_ 8 (d := dOf "steps_toward" wSteps) rfl
  obtain ⟨fd9, F9⟩ := c.def_ 9 (d := dOf "letters_between" wBetween) rfl
  obtain ⟨fd10, F10⟩ := c.def_ 10 (d := dNon "row_between" wRow) rfl
  obtain ⟨fd11, F11⟩ := c.def_ 11 (d := dNon "are_one" wAre) rfl
  obtain ⟨fd12, F12⟩ := c.def_ 12 (d := dOf "letters_at" wLetAt) rfl
  obtain ⟨fd13, F13⟩ := c.def_ 13 (d := dNon "meaning" wMean) rfl
  obtain ⟨fd14, F14⟩ := c.def_ 14 (d := dOf "_law_cell" sCell) rfl
  obtain ⟨fd15, F15⟩ := c.def_ 15 (d := dOf "_law_purse" sPurse) rfl
  obtain ⟨fd16, F16⟩ := c.def_ 16 (d := dOf "_law_pick" sPick) rfl
  obtain ⟨fd17, F17⟩ := c.def_ 17 (d := dOf "_law_changes" sChanges) rfl
  obtain ⟨fd18, F18⟩ := c.def_ 18 (d := dOf "_law_next" sNext) rfl
  obtain ⟨fd19, F19⟩ := c.def_ 19 (d := dOf "_law_met" sMet) rfl
  obtain ⟨fd20, F20⟩ := c.def_ 20 (d := dOf "_law_right" sRight) rfl
  obtain ⟨fd21, F21⟩ := c.def_ 21 (d := dOf "law" sLaw) rfl
  have e := hfa.symm.trans (He.glo_ok X G (c.fact 21 (f := .glo "law") rfl))
  cases e
  have f0 : Fun K "is_word" "is_word" wIsWord _ fd0 := He5.fun_of F0
  have f1 : Fun K "check_word" "check_word" wCheck _ fd1 := He5.fun_of F1
  have f2 : Fun K "is_letter" "is_letter" wIsLetter _ fd2 := He5.fun_of F2
  have f3 : Fun K "is_change" "is_change" wIsChange _ fd3 := He5.fun_of F3
  have f4 : Fun K "is_tuple_up_to" "is_tuple_up_to" wTupTo _ fd4 := He5.fun_of F4
  have f5 : Fun K "checked_changes" "checked_changes" wChecked _ fd5 := He5.fun_of F5
  have f6 : Fun K "reaches" "reaches" wReaches _ fd6 := He5.fun_of F6
  have f7 : Fun K "turned_letters" "turned_letters" wTurned _ fd7 := He5.fun_of F7
  have f8 : Fun K "steps_toward" "steps_toward" wSteps _ fd8 := He5.fun_of F8
  have f9 : Fun K "letters_between" "letters_between" wBetween _ fd9 := He5.fun_of F9
  have F10 : FunN K "row_between" wRow _ fd10 := F10
  have F11 : FunN K "are_one" wAre _ fd11 := F11
  have f12 : Fun K "letters_at" "letters_at" wLetAt _ fd12 := He5.fun_of F12
  have F13 : FunN K "meaning" wMean _ fd13 := F13
  have f14 : Fun K "_law_cell" "_law_cell" sCell _ fd14 := He5.fun_of F14
  have f15 : Fun K "_law_purse" "_law_purse" sPurse _ fd15 := He5.fun_of F15
  have f16 : Fun K "_law_pick" "_law_pick" sPick _ fd16 := He5.fun_of F16
  have f17 : Fun K "_law_changes" "_law_changes" sChanges _ fd17 := He5.fun_of F17
  have f18 : Fun K "_law_next" "_law_next" sNext _ fd18 := He5.fun_of F18
  have f19 : Fun K "_law_met" "_law_met" sMet _ fd19 := He5.fun_of F19
  have f20 : Fun K "_law_right" "_law_right" sRight _ fd20 := He5.fun_of F20
  have f21 : Fun K "law" "law" sLaw _ fd21 := He5.fun_of F21
  refine ⟨fd21, fun s v => ?_, fun base _ _ => ?_⟩
  · obtain ⟨oc, od, kV, doc, pm, an, cdv, ct, osl, e, l, c⟩ := f21.ex
    subst e
    exact .of_eq rfl
  have h_is_word : Has P w K mg base "is_word" 1 ["thing"] (spIsW K) := ⟨_, fd0, ok_isw f0 B Gw', He.glo_ok X G (c.fact 0 (f := .glo "is_word") rfl), f0.kp, f0.binds fun _ _ _ _ _ _ us hl => match us, hl with | [_], _ => rfl⟩
  have h_check_word : Has P w K mg base "check_word" 2 ["word"] spCheckW := ⟨_, fd1, ok_checkw f1 h_is_word, He.glo_ok X G (c.fact 1 (f := .glo "check_word") rfl), f1.kp, f1.binds fun _ _ _ _ _ _ us hl => match us, hl with | [_], _ => rfl⟩
  have h_is_letter : Has P w K mg base "is_letter" 2 ["thing"] spIsLet := ⟨_, fd2, ok_islet f2 B h_is_word, He.glo_ok X G (c.fact 2 (f := .glo "is_letter") rfl), f2.kp, f2.binds fun _ _ _ _ _ _ us hl => match us, hl with | [_], _ => rfl⟩
  have h_is_change : Has P w K mg base "is_change" 3 ["thing"] spIsCh := ⟨_, fd3, ok_isch f3 B Gw' h_is_letter, He.glo_ok X G (c.fact 3 (f := .glo "is_change") rfl), f3.kp, f3.binds fun _ _ _ _ _ _ us hl => match us, hl with | [_], _ => rfl⟩
  have h_is_tuple_up_to : Has P w K mg base "is_tuple_up_to" 1 ["thing", "most"] spTupTo := ⟨_, fd4, ok_tupto f4 B, He.glo_ok X G (c.fact 4 (f := .glo "is_tuple_up_to") rfl), f4.kp, f4.binds fun _ _ _ _ _ _ us hl => match us, hl with | [_, _], _ => rfl⟩
  have h_checked_changes : Has P w K mg base "checked_changes" 4 ["changes"] spChecked := ⟨_, fd5, ok_checked f5 B Gw' h_is_tuple_up_to h_is_change, He.glo_ok X G (c.fact 5 (f := .glo "checked_changes") rfl), f5.kp, f5.binds fun _ _ _ _ _ _ us hl => match us, hl with | [_], _ => rfl⟩
  have h_reaches : Has P w K mg base "reaches" 1 ["where", "place", "length"] spReaches := ⟨_, fd6, ok_reaches f6, He.glo_ok X G (c.fact 6 (f := .glo "reaches") rfl), f6.kp, f6.binds fun _ _ _ _ _ _ us hl => match us, hl with | [_, _, _], _ => rfl⟩
  have h_turned_letters : Has P w K mg base "turned_letters" 2 ["changes", "place", "length"] spTurned := ⟨_, fd7, ok_turned f7 Gw' h_reaches, He.glo_ok X G (c.fact 7 (f := .glo "turned_letters") rfl), f7.kp, f7.binds fun _ _ _ _ _ _ us hl => match us, hl with | [_, _, _], _ => rfl⟩
  have h_steps_toward : Has P w K mg base "steps_toward" 1 ["goal", "turned"] spSteps := ⟨_, fd8, ok_steps f8 B, He.glo_ok X G (c.fact 8 (f := .glo "steps_toward") rfl), f8.kp, f8.binds fun _ _ _ _ _ _ us hl => match us, hl with | [_, _], _ => rfl⟩
  have h_letters_between : Has P w K mg base "letters_between" 2 ["one", "other", "turned"] spBetween := ⟨_, fd9, ok_between f9 h_steps_toward, He.glo_ok X G (c.fact 9 (f := .glo "letters_between") rfl), f9.kp, f9.binds fun _ _ _ _ _ _ us hl => match us, hl with | [_, _, _], _ => rfl⟩
  have h_row_between : HasN P w K mg base "row_between" wRow 5 ps3 spRow := ⟨_, fd10, ok_row F10 B h_check_word h_checked_changes h_letters_between h_turned_letters, He.glo_ok X G (c.fact 10 (f := .glo "row_between") rfl), F10⟩
  have h_are_one : HasN P w K mg base "are_one" wAre 6 ps3 spAre := ⟨_, fd11, ok_are F11 h_row_between, He.glo_ok X G (c.fact 11 (f := .glo "are_one") rfl), F11⟩
  have h_letters_at : Has P w K mg base "letters_at" 3 ["word", "place", "changes"] spLetAt := ⟨_, fd12, ok_letat f12 B h_steps_toward h_turned_letters, He.glo_ok X G (c.fact 12 (f := .glo "letters_at") rfl), f12.kp, f12.binds fun _ _ _ _ _ _ us hl => match us, hl with | [_, _, _], _ => rfl⟩
  have h_meaning : HasN P w K mg base "meaning" wMean 5 ps2 spMean := ⟨_, fd13, ok_mean F13 B h_check_word h_checked_changes h_letters_at, He.glo_ok X G (c.fact 13 (f := .glo "meaning") rfl), F13⟩
  have h__law_cell : Has P w K mg base "_law_cell" 1 ["_law_script", "_law_k"] (spCell K) := ⟨_, fd14, ok_cell f14 B, He.glo_ok X G (c.fact 14 (f := .glo "_law_cell") rfl), f14.kp, f14.binds fun _ _ _ _ _ _ us hl => match us, hl with | [_, _], _ => rfl⟩
  have h__law_purse : Has P w K mg base "_law_purse" 1 ["_law_cell_here"] spPurse := ⟨_, fd15, ok_purse f15 B, He.glo_ok X G (c.fact 15 (f := .glo "_law_purse") rfl), f15.kp, f15.binds fun _ _ _ _ _ _ us hl => match us, hl with | [_], _ => rfl⟩
  have h__law_pick : Has P w K mg base "_law_pick" 1 ["_law_purse_here", "_law_many"] spPick := ⟨_, fd16, ok_pick f16, He.glo_ok X G (c.fact 16 (f := .glo "_law_pick") rfl), f16.kp, f16.binds fun _ _ _ _ _ _ us hl => match us, hl with | [_, _], _ => rfl⟩
  have h__law_changes : Has P w K mg base "_law_changes" 2 ["_law_purse_here", "_law_most"] spChanges := ⟨_, fd17, ok_changes f17 B h__law_pick, He.glo_ok X G (c.fact 17 (f := .glo "_law_changes") rfl), f17.kp, f17.binds fun _ _ _ _ _ _ us hl => match us, hl with | [_, _], _ => rfl⟩
  have h__law_next : Has P w K mg base "_law_next" 1 ["_law_some", "_law_text"] spNext := ⟨_, fd18, ok_next f18 B, He.glo_ok X G (c.fact 18 (f := .glo "_law_next") rfl), f18.kp, f18.binds fun _ _ _ _ _ _ us hl => match us, hl with | [_, _], _ => rfl⟩
  have h__law_met : Has P w K mg base "_law_met" 2 ["_law_some", "_law_text"] spMet := ⟨_, fd19, ok_met f19 B h__law_next, He.glo_ok X G (c.fact 19 (f := .glo "_law_met") rfl), f19.kp, f19.binds fun _ _ _ _ _ _ us hl => match us, hl with | [_, _], _ => rfl⟩
  have h__law_right : Has P w K mg base "_law_right" 7 ["_law_purse_here", "_law_one", "_law_two", "_law_some"] spRight := ⟨_, fd20, ok_right f20 B h__law_pick h__law_met h_row_between h_are_one h_meaning, He.glo_ok X G (c.fact 20 (f := .glo "_law_right") rfl), f20.kp, f20.binds fun _ _ _ _ _ _ us hl => match us, hl with | [_, _, _, _], _ => rfl⟩
  exact ok_law f21 B h__law_cell h__law_purse h__law_pick h__law_changes h__law_right
end Wl

namespace Wl
open PySem PySem.Spec PyProof.Rows L2
theorem run (w : World) : HandSHeadRun.RunEq R (PySem.W.view R.prog [31]) hk ob 4000 others w := by
  intro os
  kernel_rfl
end Wl

open PySem PySem.W PySem.Calls PyProof.Rows
theorem PySem.Challenge.cw_wordlines_k03_whole_no_shorter_rows_holds : PySem.Challenge.rw_wordlines_k03_whole_no_shorter_rows.Holds := by
  w_on; o_law
  refine HandSHeadRun.head_any (r := OpenLaw.row PySem.Challenge.rw_wordlines_k03_whole_no_shorter_rows) (q := view (OpenLaw.row PySem.Challenge.rw_wordlines_k03_whole_no_shorter_rows).prog [31]) (H := Wl.hk) (ob := Wl.ob) (M := 4000) (loose := Wl.others) (d := HandSHeadRun.topDef (OpenLaw.row PySem.Challenge.rw_wordlines_k03_whole_no_shorter_rows).prog 31) (kwd := []) Wl.ob_eq
    (by kernel_rfl) (fun s => by kernel_rfl) Wl.run (by kernel_rfl) (by kernel_rfl) (by kernel_rfl) (by rfl) (by first | assumption | decide +kernel) (by decide +kernel) ⟨rfl, rfl, rfl, rfl, rfl, by decide +kernel⟩ ?hw ?hc
  case hw => w_witness2
  case hc =>
    refine L2.walk_ofE (l := PySem.Challenge.rw_wordlines_k03_whole_no_shorter_rows) (n := 63) (k := 8) (x := "_law_script") (CX := L2.CX0) rfl (by decide) (by kernel_rfl) ⟨rfl, by decide, by decide⟩ ?F (fun _ _ _ _ z => z)
    intro w mg fa h Y G hmg0
    obtain ⟨K, KX, c, cx⟩ := Y
    have hmg : mg ("law" : PySem.Str) = some (.ref fa) := by
      have e : (HandSHeadRun.topDef (OpenLaw.row PySem.Challenge.rw_wordlines_k03_whole_no_shorter_rows).prog 31).name = ("law" : PySem.Str) := by kernel_rfl
      rw [← e]
      exact hmg0
    obtain ⟨fd, hb, hF⟩ := Wl.facts (P := (PySem.Challenge.rw_wordlines_k03_whole_no_shorter_rows).prog) (w := w) KX G hmg c cx
    exact ⟨K, fd, Wl.spLaw K, KX, hb, fun H a ns hl _ hS => ⟨a, ns, rfl, hS, hl, fun _ => rfl⟩, hF⟩

