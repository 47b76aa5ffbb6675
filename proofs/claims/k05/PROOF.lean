import PyProof.Rows.All
import Wide.All
import OpenK.AllK
import Wide.FinOn
import HandS.ForMost
import HandS.Defaults
import HandS.MakeKwOnly
import HandS.Conv
import HandS.IsInst
import HandS.Walk
import HandS.Flow
import KE.SortData
import KE.DataMinMax
import KE.GoesMore
import HandS.Style
import HandS.DictComp
import KE.KStateDown
import Lean
import HandS.Ends
import HandS.More
import HandS.WordsExc
import HandS.Head0
import HandS.Head1
import HandS.Head2
import HandS.HeadEnd
import HandS.HeadHook1
import HandS.HeadHook2
import HandS.HeadNt
import PySem.Challenge.RW_wordlines_k05_lands_told
set_option Elab.async false
set_option linter.all false
set_option maxRecDepth 100000
set_option maxHeartbeats 4000000
/-! Rules of ours beside the layer: sorted of data, min and max of two texts, in of nested tuples, methods by keyword, enumerate of a tuple. -/
namespace Wl
open PySem PySem.Spec PyProof.Rows L2

/-! sorted(list of data) -/
def rSortD (K : PySem.W.Frag) : List V → Hp → VK → Prop := fun vs H Q =>
  ∃ (a : Addr) (bs : List (V × PyData)), vs = [V.ref a] ∧ SqL K H a (bs.map (·.1)) ∧ (∀ b ∈ bs, Dp K H b.1 b.2) ∧
    PySem.W.AllAlike (bs.map (·.2)) ∧ PySem.W.Sortable (bs.map (·.2)) ∧ (∀ b ∈ bs, b.2.depth ≤ 8) ∧
    ∀ p, H p = none → Q (.ref p) (upd H p (.lst ((bs.mergeSort (PySem.W.dataLe false (·.2))).map (·.1))))
theorem each_of_vals : ∀ {bs : List (V × PyData)} {its : List Value}, Vals (bs.map (·.1)) its → PySem.W.EachIs (fun u b => RelV b.1 u) its bs
  | [], [], _ => .nil
  | [], _ :: _, h => nomatch h
  | _ :: _, [], h => nomatch h
  | b :: bs, u :: us, h => by
    cases h with
    | cons r t => exact .cons r (each_of_vals t)
theorem vals_of_each : ∀ {bs : List (V × PyData)} {its : List Value}, PySem.W.EachIs (fun u b => RelV b.1 u) its bs → Vals (bs.map (·.1)) its
  | _, _, .nil => .nil
  | _, _, .cons r t => .cons r (vals_of_each t)
theorem each_reads {X : Cx} {pins : List (Addr × Obj)} {σ : L2.St} {H : Hp} {s : Shared} (I : Inv X pins σ H s) :
    ∀ {bs : List (V × PyData)} {its : List Value}, (∀ b ∈ bs, Dp X.K H b.1 b.2) → PySem.W.EachIs (fun u b => RelV b.1 u) its bs →
      PySem.W.EachIs (fun v b => ∃ as, Reads s.heap v b.2 as) its bs
  | _, _, _, .nil => .nil
  | _, _, hd, .cons r t => .cons (Dp.reads I _ _ _ (hd _ List.mem_cons_self) r) (each_reads I (fun b m => hd b (List.mem_cons_of_mem _ m)) t)
theorem cr_sortD {X : Cx} (hu : X.A.units + 64 < cLine) : CallR X (.builtin "sorted") (rSortD X.K) := by
  intro pins s σ H vs us Q I r h
  obtain ⟨a, bs, rfl, hs, hd, ha, hk, hz, q⟩ := h
  obtain ⟨its, rv, hl, hn⟩ := I.list hs
  obtain ⟨u, rfl, ru⟩ := vals1 r
  obtain rfl : u = Value.ref a := ru
  have e := each_of_vals rv
  have hbn : bs.length ≤ sizeLine := by
    rw [List.length_map] at hn
    exact hn
  refine PySem.W.sorted_data (R := fun u b => RelV b.1 u) (enc := (·.2)) hl.isList e (each_reads I hd e) ha hk hbn (fun b hb => ?_) fun out ho eo => ?_
  · have := hz b hb
    omega
  · have rv2 := vals_of_each eo
    obtain ⟨n, hn2⟩ := sortedAll_at s.heap its out.toArray
    have hlen : ((bs.mergeSort (PySem.W.dataLe false (·.2))).map (·.1)).length ≤ sizeLine := by
      rw [List.length_map, List.length_mergeSort]
      exact hbn
    exact ⟨.ref (s.heap.objs.size + 1), _, I.laid (t' := s.toks) (o := .lst ((bs.mergeSort (PySem.W.dataLe false (·.2))).map (·.1))) (fun b o e => sortedAll_old e) (Nat.le_succ _) ⟨hlen, out, n, rv2, hn2⟩, rfl, q _ (I.hok.fresh (Nat.le_succ _))⟩

/-! min, max of a tuple of two texts -/
def rTwo (K : PySem.W.Frag) (f : Str → Str → Str) : List V → Hp → VK → Prop := fun vs H Q =>
  ∃ (a : Addr) (x y : Str), vs = [V.ref a] ∧ SqT K H a [.str x, .str y] ∧ Q (.str (f x y)) H
def lessOf (x y : Str) : Str := if y.cps.toList < x.cps.toList then y else x
def moreOf (x y : Str) : Str := if x.cps.toList < y.cps.toList then y else x
theorem alike2 (x y : Str) : PySem.W.AlikeAll [PyData.str x, .str y] := by
  refine ⟨fun a ha b hb => ?_, fun a ha => ?_⟩
  · simp only [List.mem_cons, List.not_mem_nil, or_false] at ha hb
    rcases ha with rfl | rfl <;> rcases hb with rfl | rfl <;> rfl
  · simp only [List.mem_cons, List.not_mem_nil, or_false] at ha
    rcases ha with rfl | rfl <;> exact fun z => by cases z
theorem dp2 {K : PySem.W.Frag} {H : Hp} (x y : Str) : DpAll K H [.str x, .str y] [PyData.str x, .str y] := .cons (.str x) (.cons (.str y) .nil)
theorem cr_minT {X : Cx} (hc : X.calm = true) (hu : X.A.units + 64 < cLine) : CallR X (.builtin "min") (rTwo X.K lessOf) := by
  intro pins s σ H vs us Q I r h
  obtain ⟨a, x, y, rfl, hs, q⟩ := h
  obtain ⟨its, rv, hl, hn⟩ := I.tuple hs
  obtain ⟨u, rfl, ru⟩ := vals1 r
  obtain rfl : u = Value.ref a := ru
  obtain ⟨as, hr⟩ := Dp.readsAll I _ _ its (dp2 x y) rv
  refine PySem.W.min_tuple_data (I.ok.hd hc) (show s.heap.IsTuple a its.toArray from hl) (by simpa using hr) (alike2 x y) (by
    have : PyData.depthAll [PyData.str x, .str y] = 0 := rfl
    omega) fun i v h' tk bs hv hR hk => ?_
  have e : PySem.W.minD (.str x) [.str y] = .str (lessOf x y) := by
    unfold PySem.W.minD lessOf
    simp only [List.foldl_cons, List.foldl_nil, PySem.W.dataLt_str]
    by_cases c : y.cps.toList < x.cps.toList <;> simp [c]
  rw [e] at hR
  cases hR with
  | str z t => exact ⟨.str _, H, I.kept (t' := tk) hk, ⟨_, rfl⟩, q⟩
theorem cr_maxT {X : Cx} (hc : X.calm = true) (hu : X.A.units + 64 < cLine) : CallR X (.builtin "max") (rTwo X.K moreOf) := by
  intro pins s σ H vs us Q I r h
  obtain ⟨a, x, y, rfl, hs, q⟩ := h
  obtain ⟨its, rv, hl, hn⟩ := I.tuple hs
  obtain ⟨u, rfl, ru⟩ := vals1 r
  obtain rfl : u = Value.ref a := ru
  obtain ⟨as, hr⟩ := Dp.readsAll I _ _ its (dp2 x y) rv
  refine PySem.W.max_tuple_data (I.ok.hd hc) (show s.heap.IsTuple a its.toArray from hl) (by simpa using hr) (alike2 x y) (by
    have : PyData.depthAll [PyData.str x, .str y] = 0 := rfl
    omega) fun i v h' tk bs hv hR hk => ?_
  have e : PySem.W.maxD (.str x) [.str y] = .str (moreOf x y) := by
    unfold PySem.W.maxD moreOf
    simp only [List.foldl_cons, List.foldl_nil, PySem.W.dataLt_str]
    by_cases c : x.cps.toList < y.cps.toList <;> simp [c]
  rw [e] at hR
  cases hR with
  | str z t => exact ⟨.str _, H, I.kept (t' := tk) hk, ⟨_, rfl⟩, q⟩

/-! x in a tuple of data -/
def rInDT (K : PySem.W.Frag) : R2 := fun x y H Q => ∃ d ds, Dp K H x d ∧ Dp K H y (.tuple ds) ∧ SeqAt.shaped d = true ∧
  SeqAt.shaped (.tuple ds) = true ∧ Q (.bl (ds.any fun z => PyData.eqv z d)) H
theorem op_inDT {X : Cx} (hu : X.A.units + 65 < cLine) : OpR X (compareOp .In) (rInDT X.K) := by
  intro pins s σ H x y v u Q I rx ry h
  obtain ⟨d, ds, hd, he, sd, se, q⟩ := h
  obtain ⟨as, r1⟩ := Dp.reads I d x v hd rx
  obtain ⟨bs, r2⟩ := Dp.reads I (.tuple ds) y u he ry
  exact SeqAt.in_tuple_reads r2 r1 (SeqAt.canLay_of_shaped se) (SeqAt.canLay_of_shaped sd) (room_in_shaped sd hu) ⟨.bl _, H, I, rfl, q⟩

/-! o.m(k = e): one argument by its name -/
def g2 {α : Type} : List α → List α → List α
  | [a], [b] => [a, b]
  | _, _ => []
theorem g2_rel : ∀ {vs : List V} {us : List Value} {zs : List V} {ws : List Value}, Vals vs us → Vals zs ws → Vals (g2 vs zs) (g2 us ws)
  | _, _, _, _, .nil, _ => .nil
  | _, _, _, _, .cons a (.cons b c), _ => .nil
  | _, _, _, _, .cons a .nil, .nil => .nil
  | _, _, _, _, .cons a .nil, .cons b .nil => .cons a (.cons b .nil)
  | _, _, _, _, .cons a .nil, .cons b (.cons c d) => .nil
def tMethK (C : Addr) (m : Str) (sp : Sp) (E : XK) (ta : TE) (tk : TA) : TE := fun σ H Q => ta σ H fun x H1 =>
  ∃ a dx fs, x = .ref a ∧ H1 a = some (.ins C dx fs) ∧ fs.lookup m = none ∧ tk σ H1 fun zs H2 => sp (g2 [.ref a] zs) H2 Q E
theorem pe_methK {X : Cx} {CX : CXT} {k : Nat} {f C : Addr} {fd : FuncData} {ps ks : List Str} {sp : Sp} {E : XK} {m : Str} {pos apos : Pos} {o : Expr} {kws : List Keyword} {ta : TE} {tk : TA} {pl : Sem Bool}
    (he : PE X o ta) (c : Cls X.K C) (hm : Meth X.K C m f) (F : FnOk X.prog X.w X.K X.mg X.base CX k f fd ps sp) (hr : Room k X.A) (hb : KBinds X.K fd ps ks g2 g2) (hx : Passes CX X E) (hkw : PK X kws tk)
    (hall : (backToKw pos (keywordEach kws X.env)).all (·.1.isSome) = true := by rfl) (hks : (backToKw pos (keywordEach kws X.env)).filterMap (·.1) = ks := by rfl)
    (hpl : ((backTo pos (starEach [] X.env)).any (·.1) || (backToKw pos (keywordEach kws X.env)).any (·.1.isNone)) = false := by rfl)
    (ht : eval (.Call (.Attribute o m apos) [] kws pos) X.env = (do
      let ov ← eval o X.env
      standAt apos.atName
      let (f, first) ← holding [ov] (getMethod ov m pl)
      callWith pos f first (backTo pos (starEach [] X.env)) (backToKw pos (keywordEach kws X.env))) := by rfl) :
    PE X (.Call (.Attribute o m apos) [] kws pos) (tMethK C m sp E ta tk) := by
  refine ⟨fun pins s σ H Q I h => ?_⟩
  refine PySem.W.methodCall_KW (pl := pl) (thn (he.run pins s σ H _ I h) fun u s1 ⟨x, H1, I1, rx, a, dx, fs, ex, ea, l, q⟩ => ?_) ht
  subst ex
  obtain rfl : u = Value.ref a := rx
  refine getmeth_ok I1 ea c hm l ?_
  refine PySem.W.callWith_KW0 (first := [.ref a]) (h₀ := X.base) I.ok.mod.kin hm.kp hall (thn (hkw.run pos pins s1 σ H1 _ I1 q) fun ws s2 ⟨zs, H2, I2, rz, q2⟩ => ⟨I2.kIn, ?_⟩) hpl
  rw [hks]
  exact run_fnk (us := [.ref a]) (vs := [.ref a]) F hr hb hx I2 (.cons rfl .nil) rz q2

/-! enumerate(a tuple) -/
open AutoSeq1 (wpAny_loadPart') in
theorem new_enumT (l : Addr) (items : Array Value) (n : Nat) (dct : Option Addr) (sl : Array (Option Value)) :
    Meets (Builtin.«enumerate.__new__» ⟨[.type "enumerate", .ref l], []⟩) (fun _ R s =>
      s.heap.get? l = some { cls := .type "tuple", dict := dct, data := .seq items n, slots := sl } ∧
      R (.ok (.ret (.ref (s.heap.push { cls := .type "tuple_iterator", data := .fields #[.ref l, .int 0 0] }).objs.size)))
        { s with heap := (s.heap.push { cls := .type "tuple_iterator", data := .fields #[.ref l, .int 0 0] }).push { cls := .type "enumerate", data := .fields #[.none, .bool false, .ref s.heap.objs.size, rawInt 0, .none, .none] } }) :=
  .of_wp fun prog w A R s h => by
    obtain ⟨hp, g, d, tk, os⟩ := s
    obtain ⟨hl, h⟩ := h
    have hsub := sub_enumerate
    have hT : Heap.IsTuple (Shared.heap ⟨hp, g, d, tk, os⟩) l items := ⟨_, hl, rfl, n, rfl⟩
    wp_walk using wpAny_loadPart' hl
    refine wpAny_stack_any fun st => wpAny_pure ?_
    split
    · rename_i c _ _ _ _ _
      cases (c == Value.type "enumerate") <;> (wp_walk using wpAny_loadPart' hl, wpAny_pyIter_tuple hT; exact ⟨_, rfl, h⟩)
    · (wp_walk using wpAny_loadPart' hl, wpAny_pyIter_tuple hT); exact ⟨_, rfl, h⟩
section
variable {prog : Program} {w : World} {A : Around} {E : Value → Shared → Prop} {s : Shared}
theorem make_enumT {l : Addr} {items : Array Value} {Q : Value → Shared → Prop} (hL : s.heap.IsTuple l items)
    (h : ∀ h', IsEnum h' (s.heap.objs.size + 1) s.heap.objs.size 0 .none → h'.IsTupleIter s.heap.objs.size l 0 →
      (∀ b o, s.heap.get? b = some o → h'.get? b = some o) → Q (.ref (s.heap.objs.size + 1)) { s with heap := h' }) :
    wpAny (model prog w) A (call (.type "enumerate") [.ref l]) Q E s := by
  obtain ⟨⟨c, dct, dt, sl⟩, hl, hc, n, hd⟩ := hL
  obtain rfl : c = .type "tuple" := hc
  obtain rfl : dt = .seq items n := hd
  refine callType_new F.called_enumerate (by decide) (F.typeCall_enumerate_1 _) (F.newCall_enumerate_1 _) (fun obj => F.args_object_init_2 obj _) F.entry_enumerate_new (new_enumT l items n dct sl) ⟨hl, ?_⟩
  have hz : (s.heap.push { cls := .type "tuple_iterator", data := .fields #[.ref l, .int 0 0] }).objs.size = s.heap.objs.size + 1 := Heap.size_push ..
  rw [hz]
  have he : IsEnum ((s.heap.push { cls := .type "tuple_iterator", data := .fields #[.ref l, .int 0 0] }).push { cls := .type "enumerate", data := .fields #[.none, .bool false, .ref s.heap.objs.size, rawInt 0, .none, .none] })
      (s.heap.objs.size + 1) s.heap.objs.size 0 .none := hz ▸ Heap.get?_push_size (s.heap.push { cls := .type "tuple_iterator", data := .fields #[.ref l, .int 0 0] }) rfl
  exact ⟨⟨_, he, rfl⟩, h _ he ⟨_, Heap.get?_push_of_some _ (Heap.get?_push_size _ rfl), rfl, rfl⟩ fun b o x => Heap.get?_push_of_some _ (Heap.get?_push_of_some _ x)⟩
end
def IteT (K : PySem.W.Frag) (a : Addr) : It where
  go := fun i H => ∃ (xs : List V) (x : V), SqT K H a xs ∧ xs[i]? = some x
  yld := fun i H v H' => ∃ T x, v = .ref T ∧ H T = none ∧ H' = upd H T (.tup [.int (i : Nat), x]) ∧ ∀ xs, SqT K H a xs → xs[i]? = some x
  stop := fun i H => ∃ xs : List V, SqT K H a xs ∧ xs.length ≤ i
theorem apart_of {h : Heap} {a b : Addr} {o u : Obj} (ha : h.get? a = some o) (hb : h.get? b = some u) (hc : o.cls ≠ u.cls) : a ≠ b := fun e => by
  subst e
  rw [ha] at hb
  exact hc (congrArg Obj.cls (Option.some.inj hb))
theorem turn_enumT {P : Program} {w : World} {K : PySem.W.Frag} {elts : List Expr} {kk : Nat} {tpos : Pos} (a e it : Addr) :
    Turn P w K (.Tuple elts kk tpos) (IteT K a) [e, it] e (fun i h => (∃ old, IsEnum h e it ((i : Nat) : Int) old) ∧ h.IsTupleIter it a i ∧ e ≠ it) where
  mem := by simp
  obj := fun i h st b hb => by
    obtain ⟨⟨old, he⟩, ⟨o, ho, hc, hd⟩, _⟩ := st
    rcases (show b = e ∨ b = it by simpa using hb) with z | z
    · subst z; exact ⟨_, he, fun v q => nomatch q⟩
    · subst z; exact ⟨o, ho, fun v q => by rw [hd] at q; cases q⟩
  keep := fun i h h' st k => let ⟨⟨old, he⟩, hi, hne⟩ := st; ⟨⟨old, k e (by simp) _ he⟩, hi.at fun o q => k it (by simp) o q, hne⟩
  item := by
    intro X hP hw hK hc i pins s σ H E I hf st hg
    subst hP hw hK
    obtain ⟨⟨old, he⟩, hit, hne⟩ := st
    obtain ⟨xs, x, hq, hx⟩ := hg
    obtain ⟨its, rv, p, hz⟩ := I.tuple hq
    obtain ⟨u, hu, ru⟩ := rv.get hx
    have hT : s.heap.IsTuple a its.toArray := p
    obtain ⟨oi, hoi, hci, _⟩ := id hit
    obtain ⟨oa, hoa, hca, _⟩ := id hT
    have hel : e < s.heap.objs.size := Heap.lt_size he
    have hil : it < s.heap.objs.size := Heap.lt_size hoi
    have nai : a ≠ it := apart_of hoa hoi (by rw [hca, hci]; decide)
    have nea : e ≠ a := apart_of he hoa (by rw [hca]; show Value.type "enumerate" ≠ Value.type "tuple"; decide)
    have hi : i < its.toArray.size := by
      have := (List.getElem?_eq_some_iff.mp hu).1
      simpa using this
    refine wpAny_pyNext_enum_itemD (Draws.tuple (prog := X.prog) (w := X.w) (A := X.A.in1) (I.ok.hd hc) it a nai its.toArray) he ⟨hit, hT⟩ hi hne (by simp [hne, nea]) fun y h' tk hy ho hst hTp hsz hk => ?_
    obtain rfl : u = y := by
      have q : its.toArray[i]? = some u := by simpa using hu
      exact Option.some.inj (q.symm.trans hy)
    refine ⟨_, rfl, wpAny_letOwnedTupleGo_enum (s := { s with heap := h', toks := tk + 1 }) ho fun h'' he' sb => ?_⟩
    have hT2 : h''.get? s.heap.objs.size = some { cls := .type "tuple", data := .seq #[.int i tk, u] } := (sb.2 _ (Nat.ne_of_gt hel)).trans hTp
    have new : ObjOk X.prog X.w (upd H s.heap.objs.size (.tup [.int (i : Nat), x])) h'' s.heap.objs.size (.tup [.int (i : Nat), x]) :=
      ⟨by show 2 ≤ sizeLine; decide, [.int i tk, u], .cons ⟨_, rfl⟩ (.cons ru .nil), ⟨_, hT2, rfl, _, rfl⟩⟩
    have I1 : L2.Inv X pins σ (upd H s.heap.objs.size (.tup [.int (i : Nat), x])) { s with heap := h'', toks := tk + 1 } :=
      I.turnedNew (ch := [e, it]) (fun b ob hb q => by
        simp only [List.mem_cons, List.not_mem_nil, or_false, not_or] at hb
        exact (sb.2 b hb.1).trans (hk b ob hb.1 hb.2 q)) hf (Nat.le_refl _) new
    have e1 : ((i + 1 : Nat) : Int) = (i : Int) + 1 := by omega
    refine ⟨.ref s.heap.objs.size, _, I1, rfl, ⟨_, x, rfl, I.hok.fresh (Nat.le_refl _), rfl, fun ys hy => by rw [I.tuple_inj hy hq]; exact hx⟩,
      ⟨⟨u, by rw [e1]; exact he'⟩, hst.1.at fun o q => (sb.2 it (Ne.symm hne)).trans q, hne⟩, fun b hb => ?_⟩
    have hb' : b < s.heap.objs.size := by
      rcases (show b = e ∨ b = it by simpa using hb) with z | z <;> subst z <;> assumption
    rw [upd_ne (Nat.ne_of_lt hb')]
    exact (hf b hb).1
  done := by
    intro X hP hw hK hc i pins s σ H E I hf st hg
    subst hP hw hK
    obtain ⟨⟨old, he⟩, hit, hne⟩ := st
    obtain ⟨xs, hq, hx⟩ := hg
    obtain ⟨its, rv, p, hz⟩ := I.tuple hq
    obtain ⟨f0, f1, f2, f3, f4, f5⟩ := hf it (by simp)
    have hT : s.heap.IsTuple a its.toArray := p
    have hl : xs.length = its.length := rv.length
    have hT2 : ¬ (i < its.toArray.size) := by simp; omega
    show wpAny _ _ (pyNext (.ref e)) _ _ s
    have hTy : s.TypeIs (.ref e) "enumerate" := ⟨_, he, rfl⟩
    unfold pyNext
    refine wpAny_bind (wpAny_attempt (wpAny_callSpecial?_slot (name := Str.ofString "__next__") hTy F.slot_enumerate_next (wpAny_call_entry F.slot_enumerate_next hTy F.entry_enumerate_next ?_ (F.args_enumerate_next_1 _))))
    show wpAny _ _ (field (.ref e) 2 >>= _) _ _ _
    refine wpAny_bind (wpAny_field he rfl (x := .ref it) rfl (wpAny_bind (wpAny_nextOf_tuple_end (I.ok.hd hc) hit hT (Array.getElem?_eq_none (by omega)) fun h' x he' hx' => ?_)))
    obtain ⟨o, ho, hcc⟩ := hx'
    exact wpAny_bind (wpAny_isInstance (T := "StopIteration") (b := true) ⟨o, ho, hcc⟩ isSubtype_stop (wpAny_pure ⟨rfl, I.turned (t' := s.toks) (fun b o hb q => he' b o hb q) f0 f1 f3 f4 f5⟩))
  self := fun A i s Q E st h => let ⟨⟨_, he⟩, _⟩ := st; wpAny_pyIter_enum he h
def iEnumT (K : PySem.W.Frag) (ta : TA) : TI := fun σ H R => ta σ H fun vs H1 => ∃ a xs, vs = [.ref a] ∧ SqT K H1 a xs ∧ R (IteT K a) H1
theorem pi_enumT {X : Cx} {e : Expr} {ta : TA} {p pos tpos : Pos} {elts : List Expr} {kk : Nat} (hg : Gl X "enumerate") (hm : X.mg "enumerate" = none) (ha : PA X [e] ta) (hs : starEach [e] X.env = [(false, eval e X.env)] := by rfl) :
    PI X (.Tuple elts kk tpos) (.Call (.Name "enumerate" p) [e] [] pos) (iEnumT X.K ta) := by
  refine ⟨fun pins s σ H R I h => ?_⟩
  refine Call_ (ld_blt I hg hm boot_enumerate (PyProof.Rows.callWith_type1 (thn (ha.run pos pins s σ H _ I h) fun us s1 ⟨vs, H1, I1, r1, q1⟩ => ?_) hs rfl))
  obtain ⟨a, xs, rfl, hq, q⟩ := q1
  obtain ⟨u, rfl, ru⟩ := vals1 r1
  obtain rfl : u = Value.ref a := ru
  obtain ⟨its, rv, p', hz⟩ := I1.tuple hq
  refine make_enumT (show s1.heap.IsTuple a its.toArray from p') fun h' he hit hk => wpAny_pyIter_enum he ?_
  refine ⟨s1.heap.objs.size + 1, [s1.heap.objs.size + 1, s1.heap.objs.size], _, _, H1, rfl, I1.kept (t' := s1.toks) hk, turn_enumT a (s1.heap.objs.size + 1) s1.heap.objs.size, ⟨⟨.none, he⟩, hit, Nat.succ_ne_self _⟩, fun b hb => ?_, q⟩
  have hle : s1.heap.objs.size ≤ b := by
    rcases (show b = s1.heap.objs.size + 1 ∨ b = s1.heap.objs.size by simpa using hb) with z | z <;> rw [z]
    · exact Nat.le_add_right _ _
    · exact Nat.le_refl _
  exact I1.fpOk hle (I1.hok.fresh hle)
theorem walk_enumT {K : PySem.W.Frag} {a : Addr} {xs : List V} : Walk (IteT K a) xs.length (fun H => SqT K H a xs) (YPair (fun i => some (.int (i : Nat))) (fun i => xs[i]?)) := by
  refine ⟨fun i _ hi q => ⟨xs, xs[i], q, by simp [hi]⟩, fun _ q => ⟨xs, q, Nat.le_refl _⟩, ?_⟩
  rintro i H v H' _ q ⟨T, x, h1, h2, h3, h4⟩
  exact ⟨T, .int (i : Nat), x, h1, h2, h3, rfl, h4 xs q⟩
end Wl

namespace Wl
open PySem

/-! ### strictly rising lists -/
theorem rising_ext {α : Type} {lt : α → α → Prop} (ir : ∀ a, ¬ lt a a) (tr : ∀ a b c, lt a b → lt b c → lt a c) :
    ∀ {l m : List α}, l.Pairwise lt → m.Pairwise lt → (∀ x, x ∈ l ↔ x ∈ m) → l = m
  | [], [], _, _, _ => rfl
  | [], y :: m, _, _, h => absurd ((h y).mpr List.mem_cons_self) (by simp)
  | x :: l, [], _, _, h => absurd ((h x).mp List.mem_cons_self) (by simp)
  | x :: l, y :: m, hl, hm, h => by
    obtain ⟨hx, hl'⟩ := List.pairwise_cons.mp hl
    obtain ⟨hy, hm'⟩ := List.pairwise_cons.mp hm
    have e : x = y := by
      rcases List.mem_cons.mp ((h x).mp List.mem_cons_self) with e | h1
      · exact e
      · rcases List.mem_cons.mp ((h y).mpr List.mem_cons_self) with e | h2
        · exact e.symm
        · exact absurd (tr _ _ _ (hx y h2) (hy x h1)) (ir x)
    subst e
    have : l = m := rising_ext ir tr hl' hm' fun z => by
      constructor
      · intro hz
        rcases List.mem_cons.mp ((h z).mp (List.mem_cons_of_mem _ hz)) with e | q
        · exact absurd (hx z hz) (by rw [e]; exact ir x)
        · exact q
      · intro hz
        rcases List.mem_cons.mp ((h z).mpr (List.mem_cons_of_mem _ hz)) with e | q
        · exact absurd (hy z hz) (by rw [e]; exact ir x)
        · exact q
    rw [this]

/-! ### texts by their codes -/
theorem str_ext {a b : Str} (h : a.cps.toList = b.cps.toList) : a = b := by
  cases a; cases b
  exact congrArg Str.mk (Array.ext' h)
abbrev ltS (a b : Str) : Prop := a.cps.toList < b.cps.toList
theorem ltS_irr (a : Str) : ¬ ltS a a := List.lt_irrefl _
theorem ltS_tr (a b c : Str) (h : ltS a b) (k : ltS b c) : ltS a c := List.lt_trans h k
theorem ltS_tot {a b : Str} (h : ¬ ltS a b) (k : ¬ ltS b a) : a = b :=
  str_ext (List.le_antisymm (List.not_lt.mp k) (List.not_lt.mp h))
def leB (a b : Str) : Bool := !decide (ltS b a)
theorem leB_trans (a b c : Str) (h : leB a b = true) (k : leB b c = true) : leB a c = true := by
  simp only [leB, Bool.not_eq_true', decide_eq_false_iff_not] at h k ⊢
  exact fun q => by
    by_cases e : ltS a b
    · exact k (ltS_tr _ _ _ q e)
    · have := ltS_tot e h
      subst this
      exact k q
theorem leB_total (a b : Str) : (leB a b || leB b a) = true := by
  simp only [leB, Bool.or_eq_true, Bool.not_eq_true', decide_eq_false_iff_not]
  by_cases h : ltS b a
  · exact .inr fun q => ltS_irr _ (ltS_tr _ _ _ h q)
  · exact .inl h
def sortS (xs : List Str) : List Str := xs.mergeSort leB
theorem mem_sortS {xs : List Str} {z : Str} : z ∈ sortS xs ↔ z ∈ xs := List.mem_mergeSort
theorem sortS_len (xs : List Str) : (sortS xs).length = xs.length := List.length_mergeSort _
theorem sortS_rising {xs : List Str} (h : xs.Nodup) : (sortS xs).Pairwise ltS := by
  have h1 : (sortS xs).Pairwise (fun a b => leB a b = true) := List.pairwise_mergeSort leB_trans leB_total xs
  have h2 : (sortS xs).Pairwise (· ≠ ·) := (List.mergeSort_perm xs leB).nodup_iff.mpr h
  refine List.Pairwise.imp₂ ?_ h1 h2
  intro a b q n
  simp only [leB, Bool.not_eq_true', decide_eq_false_iff_not] at q
  exact Classical.byContradiction fun c => n (ltS_tot c q)
/-- what is strictly rising with the same members is the sorted list -/
theorem sortS_eq {xs l : List Str} (h : xs.Nodup) (hl : l.Pairwise ltS) (hm : ∀ z, z ∈ l ↔ z ∈ xs) : l = sortS xs :=
  rising_ext ltS_irr ltS_tr hl (sortS_rising h) fun z => (hm z).trans mem_sortS.symm

/-! ### pairs of texts -/
abbrev Two := Str × Str
def ltP (p q : Two) : Prop := ltS p.1 q.1 ∨ (p.1 = q.1 ∧ ltS p.2 q.2)
instance (p q : Two) : Decidable (ltP p q) := by unfold ltP; infer_instance
theorem ltP_irr (p : Two) : ¬ ltP p p := by
  rintro (h | ⟨_, h⟩) <;> exact ltS_irr _ h
theorem ltP_tr (p q r : Two) (h : ltP p q) (k : ltP q r) : ltP p r := by
  obtain ⟨p1, p2⟩ := p
  obtain ⟨q1, q2⟩ := q
  obtain ⟨r1, r2⟩ := r
  rcases h with h | ⟨e, h⟩ <;> rcases k with k | ⟨f, k⟩
  · exact .inl (ltS_tr _ _ _ h k)
  · simp only at f; subst f; exact .inl h
  · simp only at e; subst e; exact .inl k
  · simp only at e f; subst e f; exact .inr ⟨rfl, ltS_tr _ _ _ h k⟩
theorem ltP_tot {p q : Two} (h : ¬ ltP p q) (k : ¬ ltP q p) : p = q := by
  obtain ⟨p1, p2⟩ := p
  obtain ⟨q1, q2⟩ := q
  simp only [ltP, not_or, not_and] at h k
  have e : p1 = q1 := ltS_tot h.1 k.1
  subst e
  rw [ltS_tot (h.2 rfl) (k.2 rfl)]
def lePB (a b : Two) : Bool := !decide (ltP b a)
theorem lePB_trans (a b c : Two) (h : lePB a b = true) (k : lePB b c = true) : lePB a c = true := by
  simp only [lePB, Bool.not_eq_true', decide_eq_false_iff_not] at h k ⊢
  exact fun q => by
    by_cases e : ltP a b
    · exact k (ltP_tr _ _ _ q e)
    · have := ltP_tot e h
      subst this
      exact k q
theorem lePB_total (a b : Two) : (lePB a b || lePB b a) = true := by
  simp only [lePB, Bool.or_eq_true, Bool.not_eq_true', decide_eq_false_iff_not]
  by_cases h : ltP b a
  · exact .inr fun q => ltP_irr _ (ltP_tr _ _ _ h q)
  · exact .inl h
def sortP (xs : List Two) : List Two := xs.mergeSort lePB
theorem mem_sortP {xs : List Two} {z : Two} : z ∈ sortP xs ↔ z ∈ xs := List.mem_mergeSort
theorem sortP_len (xs : List Two) : (sortP xs).length = xs.length := List.length_mergeSort _
theorem sortP_rising {xs : List Two} (h : xs.Nodup) : (sortP xs).Pairwise ltP := by
  have h1 : (sortP xs).Pairwise (fun a b => lePB a b = true) := List.pairwise_mergeSort lePB_trans lePB_total xs
  have h2 : (sortP xs).Pairwise (· ≠ ·) := (List.mergeSort_perm xs lePB).nodup_iff.mpr h
  refine List.Pairwise.imp₂ ?_ h1 h2
  intro a b q n
  simp only [lePB, Bool.not_eq_true', decide_eq_false_iff_not] at q
  exact Classical.byContradiction fun c => n (ltP_tot c q)
theorem sortP_eq {xs l : List Two} (h : xs.Nodup) (hl : l.Pairwise ltP) (hm : ∀ z, z ∈ l ↔ z ∈ xs) : l = sortP xs :=
  rising_ext ltP_irr ltP_tr hl (sortP_rising h) fun z => (hm z).trans mem_sortP.symm

/-! ### the machine's order is ours -/
theorem le_data_str (a b : Str) : (!PySem.W.dataLt (.str b) (.str a)) = leB a b := by
  rw [PySem.W.dataLt_str]
  rfl
theorem le_data_two (a b : Two) : (!PySem.W.dataLt (.tuple [.str b.1, .str b.2]) (.tuple [.str a.1, .str a.2])) = lePB a b := by
  rw [PySem.W.dataLt_pair rfl rfl, PySem.W.dataLt_str, PySem.W.dataLt_str]
  unfold lePB
  congr 1
  have q : ∀ x y : Str, (PyData.eqv (.str x) (.str y) = true) = (x = y) := fun x y => by simp [PyData.eqv]
  simp only [q]
  by_cases h : b.1 = a.1
  · by_cases k : b.2 = a.2
    · have e : b = a := Prod.ext h k
      subst e
      simp [ltP_irr]
    · simp only [h, k, if_true, if_false, ltP]
      by_cases z : ltS b.2 a.2
      · simp [z]
      · simp [z, ltS_irr]
  · simp only [h, if_false, ltP]
    by_cases z : ltS b.1 a.1 <;> simp [z, h]
end Wl

namespace Wl
open PySem PySem.Spec PyProof.Rows L2

/-! ### defs that keep promises, by name -/
def Has (P : Program) (w : World) (K : PySem.W.Frag) (mg : Str → Option Value) (base : Heap) (x : Str) (k : Nat) (ps : List Str) (sp : Sp) : Prop :=
  ∃ f fd, FnOk P w K mg base CX0 k f fd ps sp ∧ mg x = some (.ref f) ∧ PySem.W.keepIn K (.ref f) = true ∧ Binds K fd ps []
def HasM (P : Program) (w : World) (K : PySem.W.Frag) (mg : Str → Option Value) (base : Heap) (C : Addr) (m : Str) (k : Nat) (ps : List Str) (sp : Sp) : Prop :=
  ∃ f fd, FnOk P w K mg base CX0 k f fd ps sp ∧ Meth K C m f ∧ Binds K fd ps []
section
variable {X : Cx} {k j : Nat} {C : Addr} {ps ks : List Str} {sp : Sp} {x m : Str} {p pos apos : Pos} {e o : Expr} {es : List Expr} {kws : List Keyword} {ta : TE} {t tk : TA}
theorem pe_h (h : Has X.prog X.w X.K X.mg X.base x k ps sp) (hr : Room j X.A) (ha : PA X (e :: es) t) (hkj : k ≤ j := by decide) (hg : Gl X x := by rfl) (hdb : (x == ("__debug__" : Str)) = false := by decide)
    (he : starEach (e :: es) X.env = (false, eval e X.env) :: starEach es X.env := by rfl) (hpl : (backTo pos (starEach es X.env)).any (·.1) = false := by rfl) :
    PE X (.Call (.Name x p) (e :: es) [] pos) (tCall sp [] E0 t) := by
  obtain ⟨f, fd, F, g, kp, b⟩ := h
  exact pe_call F (hr.mono hkj) hg g kp b .nil pass0 ha hdb he hpl
theorem pe_h0 (h : Has X.prog X.w X.K X.mg X.base x k ps sp) (hr : Room j X.A) (hkj : k ≤ j := by decide) (hg : Gl X x := by rfl) (hdb : (x == ("__debug__" : Str)) = false := by decide) :
    PE X (.Call (.Name x p) [] [] pos) (tCall sp [] E0 tNil) := by
  obtain ⟨f, fd, F, g, kp, b⟩ := h
  exact pe_call0 F (hr.mono hkj) hg g kp b .nil pass0 hdb
theorem pe_hm {pl : Sem Bool} (h : HasM X.prog X.w X.K X.mg X.base C m k ps sp) (c : Cls X.K C) (hr : Room j X.A) (ho : PE X o ta) (ha : PA X (e :: es) t) (hkj : k ≤ j := by decide)
    (hst : starEach (e :: es) X.env = (false, eval e X.env) :: starEach es X.env := by rfl) (hpl : (backTo pos (starEach es X.env)).any (·.1) = false := by rfl)
    (ht : eval (.Call (.Attribute o m apos) (e :: es) [] pos) X.env = (do
      let ov ← eval o X.env
      standAt apos.atName
      let (f, first) ← holding [ov] (getMethod ov m pl)
      callWith pos f first (backTo pos (starEach (e :: es) X.env)) (backToKw pos (keywordEach [] X.env))) := by rfl) :
    PE X (.Call (.Attribute o m apos) (e :: es) [] pos) (tMeth C m sp [] E0 ta t) := by
  obtain ⟨f, fd, F, g, b⟩ := h
  exact pe_meth ho c g F (hr.mono hkj) b .nil pass0 ha hst hpl ht
theorem pe_hm0 {pl : Sem Bool} (h : HasM X.prog X.w X.K X.mg X.base C m k ps sp) (c : Cls X.K C) (hr : Room j X.A) (ho : PE X o ta) (hkj : k ≤ j := by decide)
    (ht : eval (.Call (.Attribute o m apos) [] [] pos) X.env = (do
      let ov ← eval o X.env
      standAt apos.atName
      let (f, first) ← holding [ov] (getMethod ov m pl)
      callWith pos f first (backTo pos (starEach [] X.env)) (backToKw pos (keywordEach [] X.env))) := by rfl) :
    PE X (.Call (.Attribute o m apos) [] [] pos) (tMeth C m sp [] E0 ta tNil) := by
  obtain ⟨f, fd, F, g, b⟩ := h
  exact pe_meth0 ho c g F (hr.mono hkj) b .nil pass0 ht
end

/-! ### heaps -/
theorem same_new {H : Hp} {p : Addr} {o : HO} (h : H p = none) : Same H (upd H p o) := fun b x e => by
  rw [upd_ne (ne_of_none e h)]
  exact e
theorem same_mut {H H' : Hp} {p : Addr} {o : HO} (s : Same H H') (h : H p = none) : Same H (upd H' p o) := fun b x e => by
  rw [upd_ne (ne_of_none e h)]
  exact s b x e
theorem tup_same {K : PySem.W.Frag} {H H' : Hp} {a : Addr} {xs : List V} (e : Same H H') (h : SqT K H a xs) : SqT K H' a xs := by
  rcases h with (h | ⟨o, h⟩) | h
  · exact .inl (.inl (e _ _ h))
  · exact .inl (.inr ⟨o, e _ _ h⟩)
  · exact .inr h
/-- all but what stands at a is as it was -/
def SameX (a : Addr) (H H' : Hp) : Prop := ∀ b o, b ≠ a → H b = some o → H' b = some o
theorem SameX.refl (a : Addr) (H : Hp) : SameX a H H := fun _ _ _ h => h
theorem SameX.trans {a : Addr} {H H1 H2 : Hp} (s : SameX a H H1) (t : SameX a H1 H2) : SameX a H H2 := fun b o n h => t b o n (s b o n h)
theorem sx {a : Addr} {H H' : Hp} (s : Same H H') : SameX a H H' := fun b o _ h => s b o h
theorem sameX_upd {a : Addr} {H : Hp} {o : HO} : SameX a H (upd H a o) := fun b u n h => by rw [upd_ne n]; exact h
/-- an object that H does not know may change -/
theorem sameX_mut {a : Addr} {H H' : Hp} {p : Addr} {o : HO} (s : SameX a H H') (h : H p = none) : SameX a H (upd H' p o) := fun b u n e => by
  rw [upd_ne (ne_of_none e h)]
  exact s b u n e
theorem SameX.free {a l : Addr} {H H' : Hp} (e : SameX a H H') (n : l ≠ a) (h : H' l = none) : H l = none := by
  cases q : H l with
  | none => rfl
  | some o =>
    rw [e l o n q] at h
    cases h
theorem SameX.tup {K : PySem.W.Frag} {a p : Addr} {H H' : Hp} {xs ys : List V} (e : SameX a H H') (ha : H a = some (.lst ys)) (h : SqT K H p xs) : SqT K H' p xs := by
  rcases h with (h | ⟨o, h⟩) | h
  · exact .inl (.inl (e _ _ (ne_of h ha (by intro z; cases z)) h))
  · exact .inl (.inr ⟨o, e _ _ (ne_of h ha (by intro z; cases z)) h⟩)
  · exact .inr h

/-! ### tests whose answer is known -/
theorem ite_b {b : Bool} {A B : Prop} (h1 : b = true → A) (h2 : b = false → B) : if b = true then A else B := by
  cases b with
  | true => exact iteT (h1 rfl)
  | false => exact iteF (h2 rfl)
theorem not_b {b : Bool} {A B : Prop} (h1 : b = false → A) (h2 : b = true → B) : if (!b) = true then A else B := by
  cases b with
  | true => exact iteF (h2 rfl)
  | false => exact iteT (h1 rfl)

theorem yes_it {σ : L2.St} {H : Hp} {A B : Hp → Prop} (h : A H) : tYes σ H (fun b H' => if b = true then A H' else B H') := by
  show if true = true then A H else B H
  rw [if_pos rfl]
  exact h
theorem lz {n : Nat} (h : Nat.ble n 1000 = true := by rfl) : n ≤ sizeLine := Nat.le_trans (Nat.le_of_ble_eq_true h) (by decide)
theorem lzl {n : Nat} (h : n ≤ 1000) : n ≤ sizeLine := Nat.le_trans h (by decide)

/-! ### words -/
def wdB (z : Str) : Bool := decide (1 ≤ z.length) && decide (z.length ≤ 8) && z.cps.toList.all fun c => decide (97 ≤ c) && decide (c ≤ 122)
def IsWd (z : Str) : Prop := wdB z = true
instance (z : Str) : Decidable (IsWd z) := inferInstanceAs (Decidable (wdB z = true))
def oV : Option Str → V
  | none => .non
  | some z => .str z

/-! ### the built-ins that the text leaves as they are -/
structure Bi (mg : Str → Option Value) : Prop where
  len : mg "len" = none
  range : mg "range" = none
  isi : mg "isinstance" = none
  tuple : mg "tuple" = none
  list : mg "list" = none
  sorted : mg "sorted" = none
  all : mg "all" = none
  int : mg "int" = none
  max : mg "max" = none
  min : mg "min" = none
  enum : mg "enumerate" = none
  str : mg "str" = none
end Wl
namespace Wl
open PySem PySem.Spec PyProof.Rows L2
theorem atI_tab {ns : List Int} {r : Int} (h0 : 0 ≤ r) (h : r < ns.length) : ∃ n ∈ ns, atI (ns.map V.int) r = some (.int n) := by
  have hr : r.toNat < ns.length := by omega
  refine ⟨ns[r.toNat], List.getElem_mem hr, at_of (j := r.toNat) (by omega) ?_⟩
  rw [List.getElem?_map, List.getElem?_eq_getElem hr]
  rfl
theorem atI_strs {zs : List Str} {r : Int} (h0 : 0 ≤ r) (h : r < zs.length) : ∃ z ∈ zs, atI (zs.map V.str) r = some (.str z) := by
  have hr : r.toNat < zs.length := by omega
  refine ⟨zs[r.toNat], List.getElem_mem hr, at_of (j := r.toNat) (by omega) ?_⟩
  rw [List.getElem?_map, List.getElem?_eq_getElem hr]
  rfl
theorem letters_eq : ("abcdefghijklmnopqrstuvwxyz" : Str).cps.toList = List.range' 97 26 := by decide +kernel
theorem letter_at {r : Int} (h0 : 0 ≤ r) (h : r < 26) : atI ("abcdefghijklmnopqrstuvwxyz" : Str).cps.toList r = some (97 + r.toNat) := by
  rw [letters_eq]
  refine at_of' (j := r.toNat) (by omega) ?_
  rw [List.getElem?_range' (by omega)]
  congr 1
  omega
where
  at_of' {xs : List Nat} {z : Int} {j : Nat} {v : Nat} (e : z = (j : Int)) (h : xs[j]? = some v) : atI xs z = some v := by
    rw [e]
    exact atI_nat h
def sign (c : Nat) : Str := ⟨#[c]⟩
theorem joinL_flat : ∀ ps : List (List Nat), TL.joinL [] ps = ps.flatten
  | [] => rfl
  | [p] => by simp [TL.joinL]
  | p :: q :: r => by
    show p ++ ([] ++ TL.joinL [] (q :: r)) = _
    rw [joinL_flat (q :: r)]
    simp
theorem join_codes (ys : List Str) : (Txt.join ("" : Str) ys).cps.toList = (ys.map fun y => y.cps.toList).flatten := by
  have h := TL.tl_join ("" : Str) ys
  rw [show TL.tl ("" : Str) = [] by decide +kernel, joinL_flat] at h
  rw [TL.join_eq]
  exact h
theorem join_signs (cs : List Nat) : (Txt.join ("" : Str) (cs.map sign)).cps.toList = cs := by
  rw [join_codes, List.map_map]
  induction cs with
  | nil => rfl
  | cons c r ih => exact congrArg (c :: ·) ih
theorem isWd_of {z : Str} (h1 : 1 ≤ z.cps.toList.length) (h8 : z.cps.toList.length ≤ 8) (hc : ∀ c ∈ z.cps.toList, 97 ≤ c ∧ c ≤ 122) : IsWd z := by
  unfold IsWd wdB Str.length
  rw [Array.length_toList] at h1 h8
  simp only [Bool.and_eq_true, decide_eq_true_eq, List.all_eq_true]
  exact ⟨⟨h1, h8⟩, hc⟩
theorem IsWd.len {z : Str} (h : IsWd z) : 1 ≤ z.length ∧ z.length ≤ 8 := by
  unfold IsWd wdB at h
  simp only [Bool.and_eq_true, decide_eq_true_eq] at h
  exact h.1
end Wl

namespace Wl
open PySem PySem.Spec PyProof.Rows L2

/-! ### the text by places -/
def topS (i : Nat) : Stmt := PySem.Challenge.pw_wordlines_k05_lands_told.main.body.getD i (.Pass ⟨0, 0, 0, 0⟩)
abbrev sCell : Stmt := topS 18
abbrev sPurse : Stmt := topS 19
abbrev sPick : Stmt := topS 20
abbrev sMenu : Stmt := topS 21
abbrev sWord : Stmt := topS 22

section
variable {P : Program} {w : World} {K : PySem.W.Frag} {mg : Str → Option Value} {base : Heap} {f : Addr} {fd : FuncData}

/-! ### a cell of the script: some int -/
def spCell (K : PySem.W.Frag) : Sp := fun vs H Q _ => ∃ (a : Addr) (ns : List Int) (k : Int), vs = [.ref a, .int k] ∧ SqL K H a (ns.map V.int) ∧ 0 ≤ k ∧ k ≤ 63 ∧
  ∀ (v : Int) (H' : Hp), Same H H' → Q (.int v) H'
theorem scCell : FnScope ["_law_script", "_law_k", "_law_state", "_law_cell_here"] ["_law_script", "_law_k"] (defScope sCell) :=
  ⟨rfl, rfl, rfl, by decide +kernel, rfl, by decide +kernel, by decide +kernel⟩
theorem mem_cut {xs : List V} {lo hi : Option Int} {v : V} (h : v ∈ cutV xs lo hi) : v ∈ xs := List.mem_of_mem_drop (List.mem_of_mem_take h)
theorem ok_cell (F : Fun K "_law_cell" "_law_cell" sCell f fd) (B : Bi mg) : FnOk P w K mg base CX0 1 f fd ["_law_script", "_law_k"] (spCell K) := by
  refine F.ok scCell (fun vs H Q E h => ?_) (fun cdv A outer s H vs Q E hr h => ?_)
  · obtain ⟨a, ns, k, rfl, _⟩ := h
    rfl
  · obtain ⟨a, ns, k, rfl, hS, k0, k1, q⟩ := h
    refine ⟨_, pss_cons (ps_if (pt_cmpR op_lt (pv 1) (pe_callB call_len_seq (by rfl) B.len PySem.boot_len (pa_cons (pv 0) pa_nil)) (nomark _)) (pss_one (ps_ret (pe_ix ix_list (pv 0) (pv 1) (fun _ _ => rfl)))) pss_nil)
      (pss_cons (ps_set (i := 2) scCell.nd rfl (.inl rfl) (pe_op op_mod (pe_op op_mul pe_int (pe_op op_add (pe_op op_add (pe_op op_mul (pv 1) (pv 1)) (pe_op op_mul pe_int (pv 1))) pe_int)) pe_int))
      (pss_cons (ps_for PassesOwn.never rfl (pi_list (pe_slice sl_list (pv 0) po_none (po_some pe_int))) (pg_name (i := 3) scCell.nd rfl (.inl rfl))
        (pss_one (ps_set (i := 2) scCell.nd rfl (.inl rfl) (pe_op op_mod (pe_op op_add (pe_op op_mul (pv 2) pe_int) (pv 3)) pe_int))))
      (pss_one (ps_ret (pv 2))))), ?_⟩
    refine ⟨_, rfl, .ref a, rfl, a, _, rfl, .inl hS, _, _, rfl, rfl, _, rfl, ite_b (fun e => ?_) (fun e => ?_)⟩
    · have hk : k < ((ns.map V.int).length : Int) := of_decide_eq_true e
      rw [List.length_map] at hk
      have hk2 : k.toNat < ns.length := by omega
      refine ⟨_, rfl, _, rfl, a, _, k, .int ns[k.toNat], rfl, rfl, hS, at_of (j := k.toNat) (by omega) ?_, q _ H (Same.refl H)⟩
      rw [List.getElem?_map, List.getElem?_eq_getElem hk2]
      rfl
    · refine ⟨_, rfl, _, rfl, k, k, rfl, rfl, .inl ⟨by omega, by omega⟩, _, rfl, 5, k, rfl, rfl, .inl ⟨by decide, by decide⟩, _, _, rfl, rfl, _, _, rfl, rfl, _, _, rfl, rfl, .inl ⟨by decide, by decide⟩, _, _, rfl, rfl, (show (0 : Int) < 1000000033 by decide), ?_⟩
      refine ⟨_, rfl, 4, rfl, a, _, rfl, hS, fun p hp => ?_⟩
      have hc : SqL K (upd H p (.lst (cutV (ns.map V.int) none (some 4)))) p (cutV (ns.map V.int) none (some 4)) := .inl (.inl upd_same)
      refine ⟨p, rfl, ⟨_, hc⟩, for_list (K := K) (a := p) (xs := cutV (ns.map V.int) none (some 4)) (fun i σ H' => (∃ (z : Int) (y : Option V), σ = [some (.ref a), some (.int k), some (.int z), y]) ∧ H' = upd H p (.lst (cutV (ns.map V.int) none (some 4))))
        ⟨⟨_, _, rfl⟩, rfl⟩ (fun i σ H' _ h => by rw [h.2]; exact hc) ?_ ?_⟩
      · rintro i x σ H' hx ⟨⟨z, y, rfl⟩, rfl⟩
        obtain ⟨n, rfl⟩ : ∃ n, x = V.int n := by
          obtain ⟨n, _, e⟩ := List.mem_map.mp (mem_cut (List.mem_of_getElem? hx))
          exact ⟨n, e.symm⟩
        refine ⟨_, rfl, z, 30029, rfl, rfl, .inr ⟨by decide, by decide⟩, _, rfl, _, _, rfl, rfl, _, _, rfl, rfl, (show (0 : Int) < 1000000033 by decide), ⟨⟨_, _, rfl⟩, rfl⟩⟩
      · rintro σ H' ⟨⟨z, y, rfl⟩, rfl⟩
        exact ⟨_, rfl, q _ _ (same_new hp)⟩

/-! ### the purse -/
def PurseAt (H : Hp) (a : Addr) : Prop := ∃ s b c : Int, H a = some (.lst [.int s, .int b, .int c]) ∧ 0 ≤ b
theorem PurseAt.same {H H' : Hp} {a : Addr} (h : PurseAt H a) (s : Same H H') : PurseAt H' a := by
  obtain ⟨s0, b, c, ha, hb⟩ := h
  exact ⟨s0, b, c, s _ _ ha, hb⟩
theorem PurseAt.ne {H : Hp} {a p : Addr} (h : PurseAt H a) (hp : H p = none) : p ≠ a := by
  obtain ⟨s0, b, c, ha, hb⟩ := h
  exact (ne_of_none ha hp).symm
theorem PurseAt.lst {H : Hp} {a : Addr} (h : PurseAt H a) : ∃ ys, H a = some (.lst ys) := by
  obtain ⟨s0, b, c, ha, hb⟩ := h
  exact ⟨_, ha⟩
def spPurse : Sp := fun vs H Q _ => ∃ (n : Int), vs = [.int n] ∧ ∀ (a : Addr) (H' : Hp), H a = none → Same H H' → PurseAt H' a → Q (.ref a) H'
theorem scPurse : FnScope ["_law_cell_here"] ["_law_cell_here"] (defScope sPurse) :=
  ⟨rfl, rfl, rfl, by decide +kernel, rfl, by decide +kernel, by decide +kernel⟩
theorem ok_purse (F : Fun K "_law_purse" "_law_purse" sPurse f fd) (B : Bi mg) : FnOk P w K mg base CX0 1 f fd ["_law_cell_here"] spPurse := by
  refine F.ok scPurse (fun vs H Q E h => ?_) (fun cdv A outer s H vs Q E hr h => ?_)
  · obtain ⟨n, rfl, _⟩ := h
    rfl
  · obtain ⟨n, rfl, q⟩ := h
    refine ⟨_, pss_one (ps_ret (pe_lst (pa_cons (pe_op op_add (pe_op op_mul (pe_op op_mod (pv 0) pe_int) pe_int) pe_int)
      (pa_cons (pe_ix ix_list (pe_lst (pa_cons pe_int (pa_cons (pv 0) pa_nil))) (pe_callTy call_int1 (by rfl) B.int (by decide +kernel) (pa_cons (pe_cmpR op_ge (pv 0) (pe_op op_pow pe_int pe_int) (nomark _)) pa_nil)) (fun _ _ => rfl))
      (pa_cons pe_int pa_nil))))), ?_⟩
    refine ⟨_, rfl, _, _, rfl, rfl, (show (0 : Int) < 1000000033 by decide), _, _, rfl, rfl, .inr ⟨by decide, by decide⟩, _, _, rfl, rfl, _, rfl, lz, fun p hp => ?_⟩
    have e18 : (10 : Int) ^ (18 : Int).toNat = 1000000000000000000 := by decide
    refine ⟨_, rfl, 10, 18, rfl, rfl, ⟨by decide, by decide, by decide⟩, _, _, rfl, rfl, .inr ⟨_, rfl, ?_⟩⟩
    refine ⟨p, [.int 0, .int n], _, .int (if decide ((10 : Int) ^ (18 : Int).toNat ≤ n) = true then n else 0), rfl, rfl, .inl (.inl upd_same), ?_, lz, fun a ha => ?_⟩
    · by_cases c : (10 : Int) ^ (18 : Int).toNat ≤ n
      · simp only [decide_eq_true c, if_true]
        exact atI_nat (j := 1) rfl
      · simp only [decide_eq_false c]
        exact atI_nat (j := 0) rfl
    · have hp2 : Same H (upd H p (.lst [.int 0, .int n])) := same_new hp
      refine q a _ (hp2.free ha) (hp2.trans (same_new ha)) ⟨_, _, _, upd_same, ?_⟩
      by_cases c : (10 : Int) ^ (18 : Int).toNat ≤ n
      · simp only [decide_eq_true c, if_true]
        rw [e18] at c
        omega
      · simp only [decide_eq_false c]
        exact Int.le_refl 0
/-! ### a pick: some number below many -/
def spPick : Sp := fun vs H Q _ => ∃ (a : Addr) (m : Int), vs = [.ref a, .int m] ∧ PurseAt H a ∧ 0 < m ∧ m < 1073741824 ∧
  ∀ (r : Int) (H' : Hp), 0 ≤ r → r < m → PurseAt H' a → SameX a H H' → (∀ p, H p = none → H' p = none) → Q (.int r) H'
theorem scPick : FnScope ["_law_purse_here", "_law_many", "_law_state", "_law_taken"] ["_law_purse_here", "_law_many"] (defScope sPick) :=
  ⟨rfl, rfl, rfl, by decide +kernel, rfl, by decide +kernel, by decide +kernel⟩
theorem none_upd {H : Hp} {a : Addr} {o u : HO} (h : H a = some o) : ∀ p, H p = none → upd H a u p = none := fun p hp => by
  rw [upd_ne (ne_of_none h hp).symm]
  exact hp
theorem ok_pick (F : Fun K "_law_pick" "_law_pick" sPick f fd) : FnOk P w K mg base CX0 1 f fd ["_law_purse_here", "_law_many"] spPick := by
  refine F.ok scPick (fun vs H Q E h => ?_) (fun cdv A outer s H vs Q E hr h => ?_)
  · obtain ⟨a, m, rfl, _⟩ := h
    rfl
  · obtain ⟨a, m, rfl, ⟨s0, b, c, ha, hb⟩, m0, m1, q⟩ := h
    refine ⟨_, pss_cons (ps_asg (pe_op op_add (pe_ix ix_list (pv 0) pe_int (fun _ _ => rfl)) pe_int) (pg_sub (pv 0) pe_int set_list))
      (pss_cons (ps_set (i := 2) scPick.nd rfl (.inl rfl) (pe_op op_mod (pe_ix ix_list (pv 0) pe_int (fun _ _ => rfl)) pe_int))
      (pss_cons (ps_asg (pe_op op_add (pe_op op_mul (pv 2) (pe_op op_add (pe_op op_mod (pv 2) pe_int) pe_int)) (pe_op op_mul pe_int (pe_ix ix_list (pv 0) pe_int (fun _ _ => rfl)))) (pg_sub (pv 0) pe_int set_list))
      (pss_cons (ps_if (pt_cmpR op_gt (pe_ix ix_list (pv 0) pe_int (fun _ _ => rfl)) pe_int (nomark _))
        (pss_cons (ps_set (i := 3) scPick.nd rfl (.inl rfl) (pe_op op_mod (pe_ix ix_list (pv 0) pe_int (fun _ _ => rfl)) (pv 1)))
        (pss_cons (ps_asg (pe_op op_fdiv (pe_ix ix_list (pv 0) pe_int (fun _ _ => rfl)) (pv 1)) (pg_sub (pv 0) pe_int set_list))
        (pss_one (ps_ret (pv 3))))) pss_nil)
      (pss_one (ps_ret (pe_op op_mod (pe_op op_fdiv (pe_op op_mod (pe_ix ix_list (pv 0) pe_int (fun _ _ => rfl)) pe_int) pe_int) (pv 1))))))), ?_⟩
    have hmod : ∀ x : Int, 0 ≤ x % 1000000033 ∧ x % 1000000033 < 1000000033 := fun x => by omega
    refine ⟨_, rfl, a, _, 2, .int c, rfl, rfl, .inl (.inl ha), atI_nat (j := 2) rfl, _, _, rfl, rfl, _, rfl, a, _, 2, 2, rfl, rfl, ha, rfl, ?_⟩
    refine ⟨_, rfl, a, _, 0, .int s0, rfl, rfl, .inl (.inl upd_same), atI_nat (j := 0) rfl, _, _, rfl, rfl, (show (0 : Int) < 1000000033 by decide), ?_⟩
    refine ⟨_, rfl, _, rfl, _, _, rfl, rfl, (show (0 : Int) < 60013 by decide), _, _, rfl, rfl, _, _, rfl, rfl, .inl ⟨by have := hmod s0; omega, by have := hmod s0; omega⟩,
      _, rfl, a, _, 2, _, rfl, rfl, .inl (.inl upd_same), atI_nat (j := 2) rfl, _, _, rfl, rfl, .inl ⟨by decide, by decide⟩, _, _, rfl, rfl, _, rfl, a, _, 0, 0, rfl, rfl, upd_same, rfl, ?_⟩
    refine ⟨_, rfl, a, _, 1, .int b, rfl, rfl, .inl (.inl upd_same), atI_nat (j := 1) rfl, _, _, rfl, rfl, _, rfl, ite_b (fun e => ?_) (fun e => ?_)⟩
    · refine ⟨_, rfl, a, _, 1, .int b, rfl, rfl, .inl (.inl upd_same), atI_nat (j := 1) rfl, _, rfl, b, m, rfl, rfl, m0, ?_⟩
      refine ⟨_, rfl, a, _, 1, .int b, rfl, rfl, .inl (.inl upd_same), atI_nat (j := 1) rfl, _, rfl, b, m, rfl, rfl, ⟨m0, m1⟩, _, rfl, a, _, 1, 1, rfl, rfl, upd_same, rfl, ?_⟩
      refine ⟨_, rfl, q _ _ (Int.emod_nonneg _ (by omega)) (Int.emod_lt_of_pos _ m0) ⟨_, _, _, upd_same, ?_⟩ (((sameX_upd).trans sameX_upd).trans sameX_upd) fun p hp => ?_⟩
      · exact Int.ediv_nonneg hb (by omega)
      · exact none_upd upd_same p (none_upd upd_same p (none_upd ha p hp))
    · refine ⟨_, rfl, a, _, 0, _, rfl, rfl, .inl (.inl upd_same), atI_nat (j := 0) rfl, _, _, rfl, rfl, (show (0 : Int) < 1000000033 by decide), _, _, rfl, rfl, ⟨by decide, by decide⟩, _, rfl, _, m, rfl, rfl, m0, ?_⟩
      exact q _ _ (Int.emod_nonneg _ (by omega)) (Int.emod_lt_of_pos _ m0) ⟨_, _, _, upd_same, hb⟩ ((sameX_upd).trans sameX_upd) fun p hp => none_upd upd_same p (none_upd ha p hp)

/-! ### the menu, a word -/
def menuW : List Str := ["put", "doubt", "strike", "back", "change", "one", "map", "words", "parted", "line", "rings", "thin", "fate", "asks", "habit", "apart", "near", "paper", "ok", "no", "none", "self", "may", "not", "has", "any"]
theorem menu_wd : ∀ z ∈ menuW, IsWd z := by decide +kernel
theorem menu_len : menuW.length = 26 := by decide +kernel
def spMenu : Sp := fun vs H Q _ => vs = [] ∧ ∀ (p : Addr) (H' : Hp), H p = none → Same H H' → H' p = some (.lst (menuW.map V.str)) → Q (.ref p) H'
theorem scMenu : FnScope ["_law_some"] [] (defScope sMenu) := ⟨rfl, rfl, rfl, by decide +kernel, rfl, by decide +kernel, by decide +kernel⟩
theorem ok_menu (F : Fun K "_law_menu" "_law_menu" sMenu f fd) : FnOk P w K mg base CX0 1 f fd [] spMenu := by
  refine F.ok scMenu (fun vs H Q E h => ?_) (fun cdv A outer s H vs Q E hr h => ?_)
  · obtain ⟨rfl, _⟩ := h
    rfl
  · obtain ⟨rfl, q⟩ := h
    refine ⟨_, pss_cons (ps_set (i := 0) scMenu.nd rfl (.inl rfl) (pe_lst (pa_cons pe_str (pa_cons pe_str (pa_cons pe_str (pa_cons pe_str (pa_cons pe_str (pa_cons pe_str (pa_cons pe_str (pa_cons pe_str (pa_cons pe_str (pa_cons pe_str (pa_cons pe_str (pa_cons pe_str pa_nil))))))))))))))
      (pss_cons (ps_set (i := 0) scMenu.nd rfl (.inl rfl) (pe_op op_cat (pv 0) (pe_lst (pa_cons pe_str (pa_cons pe_str (pa_cons pe_str (pa_cons pe_str (pa_cons pe_str (pa_cons pe_str (pa_cons pe_str (pa_cons pe_str (pa_cons pe_str (pa_cons pe_str (pa_cons pe_str (pa_cons pe_str pa_nil)))))))))))))))
      (pss_one (ps_ret (pe_op op_cat (pv 0) (pe_lst (pa_cons pe_str (pa_cons pe_str pa_nil))))))), ?_⟩
    refine ⟨lz, fun p1 h1 => ?_⟩
    refine ⟨_, rfl, lz, fun p2 h2 => ⟨p1, p2, _, _, rfl, rfl, (same_new h2) _ _ upd_same, upd_same, lz, fun p3 h3 => ?_⟩⟩
    refine ⟨_, rfl, lz, fun p4 h4 => ⟨p3, p4, _, _, rfl, rfl, (same_new h4) _ _ upd_same, upd_same, lz, fun p5 h5 => ?_⟩⟩
    exact q p5 _ (Same.free (((same_new h1).trans (same_new h2)).trans ((same_new h3).trans (same_new h4))) h5) ((((same_new h1).trans (same_new h2)).trans ((same_new h3).trans (same_new h4))).trans (same_new h5)) upd_same

def spWord : Sp := fun vs H Q _ => ∃ (a : Addr), vs = [.ref a] ∧ PurseAt H a ∧ ∀ (z : Str) (H' : Hp), IsWd z → PurseAt H' a → SameX a H H' → Q (.str z) H'
abbrev nWord : List Str := ["_law_purse_here", "_law_way", "_law_wide", "_law_size", "_law_k"]
theorem scWord : FnScope nWord ["_law_purse_here"] (defScope sWord) :=
  ⟨rfl, rfl, rfl, by decide +kernel, rfl, by decide +kernel, by decide +kernel⟩
theorem ok_word (F : Fun K "_law_word" "_law_word" sWord f fd) (B : Bi mg) (hp : Has P w K mg base "_law_pick" 1 ["_law_purse_here", "_law_many"] spPick) (hm : Has P w K mg base "_law_menu" 1 [] spMenu) :
    FnOk P w K mg base CX0 2 f fd ["_law_purse_here"] spWord := by
  refine F.ok scWord (fun vs H Q E h => ?_) (fun cdv A outer s H vs Q E hr h => ?_)
  · obtain ⟨a, rfl, _⟩ := h
    rfl
  · obtain ⟨a, rfl, hA, q⟩ := h
    refine ⟨_, pss_cons (ps_asg (pe_tup (pa_cons (pe_h hp hr (pa_cons (pv 0) (pa_cons pe_int pa_nil))) (pa_cons (pe_ix ix_list (pe_lst (pa_cons pe_int (pa_cons pe_int (pa_cons pe_int pa_nil)))) (pe_h hp hr (pa_cons (pv 0) (pa_cons pe_int pa_nil))) (fun _ _ => rfl)) pa_nil)))
        (pg_tup rfl (pgs_cons (pg_name (i := 1) scWord.nd rfl (.inl rfl)) (pgs_cons (pg_name (i := 2) scWord.nd rfl (.inr rfl)) pgs_nil))))
      (pss_cons (ps_if (pt_cmpR op_eq (pv 1) pe_int (nomark _)) (pss_one (ps_ret (pe_ix ix_list (pe_h0 hm hr) (pe_h hp hr (pa_cons (pv 0) (pa_cons pe_int pa_nil))) (fun _ _ => rfl)))) pss_nil)
      (pss_cons (ps_set (i := 3) scWord.nd rfl (.inl rfl) (pe_ix ix_list (pe_lst (pa_cons pe_int (pa_cons pe_int (pa_cons pe_int (pa_cons pe_int (pa_cons (pe_op op_add pe_int (pe_h hp hr (pa_cons (pv 0) (pa_cons pe_int pa_nil)))) pa_nil)))))) (pe_h hp hr (pa_cons (pv 0) (pa_cons pe_int pa_nil))) (fun _ _ => rfl)))
      (pss_one (ps_ret (pe_join pe_str (pe_lc (own := [("_law_k", 4)]) (g := gName 4) (tt := tYes) rfl scWord.nd (pi_range1 (by rfl) B.range (pa_cons (pv 3) pa_nil)) (blkOk_by (N := nWord) (sc := defScope sWord) (by decide +kernel))
        (fun _ _ _ _ _ => pg_name (i := 4) scWord.nd rfl (.inl rfl)) (fun _ _ _ _ _ => pts_nil) (fun _ _ _ _ _ => pe_ix ix_str pe_str (pe_h hp hr (pa_cons (pv 0) (pa_cons (pv 2) pa_nil))) (fun _ _ => rfl)))))))), ?_⟩
    -- way, wide
    refine ⟨_, rfl, a, 4, rfl, hA, by decide, by decide, fun r1 H1 r10 r11 hA1 s1 n1 => ?_⟩
    refine ⟨lz, fun p hp => ⟨_, rfl, a, 3, rfl, hA1.same (same_new hp), by decide, by decide, fun r2 H2 r20 r21 hA2 s2 n2 => ?_⟩⟩
    have npa := hA1.ne hp
    obtain ⟨wd, hwm, hwd⟩ := atI_tab (ns := [3, 5, 26]) r20 r21
    have hw : 0 < wd ∧ wd ≤ 26 := by
      simp only [List.mem_cons, List.not_mem_nil, or_false] at hwm
      omega
    have s2' : SameX a H H2 := (s1.trans (sx (same_new hp))).trans s2
    refine ⟨p, _, r2, .int wd, rfl, rfl, .inl (.inl (s2 _ _ npa upd_same)), hwd, lz, fun t ht => ?_⟩
    refine ⟨t, _, rfl, .inl (.inl upd_same), rfl, _, _, rfl, _, _, rfl, rfl, ?_⟩
    have hA3 := hA2.same (same_new (o := .tup [.int r1, .int wd]) ht)
    have s3 : SameX a H _ := s2'.trans (sx (same_new (o := .tup [.int r1, .int wd]) ht))
    generalize upd H2 t (.tup [.int r1, .int wd]) = H3 at hA3 s3
    refine ⟨_, rfl, rfl, _, rfl, ite_b (fun e => ?_) (fun e => ?_)⟩
    · -- menu()[..]
      refine ⟨rfl, fun p4 H4 hp4 s4 h4 => ⟨_, rfl, a, 26, rfl, hA3.same s4, by decide, by decide, fun r5 H5 r50 r51 hA5 s5 n5 => ?_⟩⟩
      obtain ⟨z, hz, hzi⟩ := atI_strs (zs := menuW) r50 (by rw [menu_len]; exact r51)
      exact ⟨p4, _, r5, .str z, rfl, rfl, .inl (.inl (s5 _ _ (hA3.ne hp4) h4)), hzi, q z H5 (menu_wd z hz) hA5 ((s3.trans (sx s4)).trans s5)⟩
    · -- size
      refine ⟨_, rfl, a, 8, rfl, hA3, by decide, by decide, fun r4 H4 r40 r41 hA4 s4 n4 => ⟨_, _, rfl, rfl, lz, fun p5 hp5 => ⟨_, rfl, a, 5, rfl, hA4.same (same_new hp5), by decide, by decide, fun r6 H6 r60 r61 hA6 s6 n6 => ?_⟩⟩⟩
      have np5 := hA4.ne hp5
      obtain ⟨sz, hsm, hsz⟩ := atI_tab (ns := [1, 2, 3, 4, 1 + r4]) r60 r61
      have hs8 : 1 ≤ sz ∧ sz ≤ 8 := by
        simp only [List.mem_cons, List.not_mem_nil, or_false] at hsm
        omega
      refine ⟨p5, _, r6, .int sz, rfl, rfl, .inl (.inl (s6 _ _ np5 upd_same)), hsz, ?_⟩
      have s6' : SameX a H H6 := ((s3.trans s4).trans (sx (same_new hp5))).trans s6
      -- join of the signs
      refine ⟨⟨_, rfl⟩, _, rfl, sz, rfl, by omega, by omega, fun D hD => lc_range (lo := 0) (n := sz.toNat)
        (fun i H' => ∃ cs : List Nat, cs.length = i ∧ (∀ c ∈ cs, 97 ≤ c ∧ c ≤ 122) ∧ H' D = some (.lst ((cs.map sign).map V.str)) ∧ PurseAt H' a ∧ SameX a H6 H')
        ⟨[], rfl, fun c hc => by simp at hc, upd_same, hA6.same (same_new hD), sx (same_new hD)⟩ ?_ ?_⟩
      · rintro i H7 hi ⟨cs, hcl, hcs, hDl, hA7, s7⟩
        refine ⟨rfl, yes_it ⟨_, rfl, _, rfl, a, wd, rfl, hA7, hw.1, by omega, fun r8 H8 r80 r81 hA8 s8 n8 => ?_⟩⟩
        have nD := hA6.ne hD
        refine ⟨_, r8, _, rfl, rfl, lz, letter_at r80 (by omega), _, s8 _ _ nD hDl, ?_, ?_⟩
        · rw [List.length_map, List.length_map]
          exact small1000 (by omega)
        · refine ⟨cs ++ [97 + r8.toNat], by simp [hcl], fun c hc => ?_, ?_, ?_, sameX_mut (s7.trans s8) hD⟩
          · rcases List.mem_append.mp hc with hc | hc
            · exact hcs c hc
            · rw [List.mem_singleton.mp hc]
              omega
          · rw [upd_same, List.map_append, List.map_append]
            rfl
          · obtain ⟨x0, x1, x2, hx, hx1⟩ := hA8
            exact ⟨x0, x1, x2, by rw [upd_ne nD.symm]; exact hx, hx1⟩
      · rintro H7 ⟨cs, hcl, hcs, hDl, hA7, s7⟩
        refine ⟨_, D, cs.map sign, rfl, rfl, .inl (.inl (.inl hDl)), ?_, ?_⟩
        · have e0 : ("" : Str).length = 0 := by decide +kernel
          have e1 : (cs.map sign).map (·.length) = cs.map fun _ => 1 := by
            rw [List.map_map]
            rfl
          rw [e0, e1, Nat.mul_zero]
          have e2 : ∀ l : List Nat, (l.map fun _ => 1).sum = l.length := fun l => by
            induction l with
            | nil => rfl
            | cons x r ih => rw [List.map_cons, List.sum_cons, ih, List.length_cons]; omega
          rw [e2]
          omega
        · refine q _ H7 (isWd_of ?_ ?_ ?_) hA7 (s6'.trans s7)
          · rw [join_signs]; omega
          · rw [join_signs]; omega
          · rw [join_signs]; exact hcs
end
end Wl

namespace Wl
open PySem PySem.Spec PyProof.Rows L2

inductive Each {α β : Type} (R : α → β → Prop) : List α → List β → Prop
  | nil : Each R [] []
  | cons {a : α} {b : β} {as : List α} {bs : List β} : R a b → Each R as bs → Each R (a :: as) (b :: bs)
section
variable {α β : Type} {R S : α → β → Prop}
theorem Each.length : ∀ {as : List α} {bs : List β}, Each R as bs → as.length = bs.length
  | _, _, .nil => rfl
  | _, _, .cons _ t => congrArg (· + 1) t.length
theorem Each.mono (h : ∀ a b, R a b → S a b) : ∀ {as : List α} {bs : List β}, Each R as bs → Each S as bs
  | _, _, .nil => .nil
  | _, _, .cons r t => .cons (h _ _ r) (t.mono h)
theorem Each.append : ∀ {as : List α} {bs : List β} {cs : List α} {ds : List β}, Each R as bs → Each R cs ds → Each R (as ++ cs) (bs ++ ds)
  | _, _, _, _, .nil, s => s
  | _, _, _, _, .cons r t, s => .cons r (t.append s)
theorem Each.get : ∀ {as : List α} {bs : List β} {i : Nat} {a : α}, Each R as bs → as[i]? = some a → ∃ b, bs[i]? = some b ∧ R a b
  | _, _, _, _, .nil, e => by simp at e
  | _, _, 0, _, .cons r _, e => by simp at e; subst e; exact ⟨_, rfl, r⟩
  | _, _, i + 1, x, .cons _ t, e => by
    obtain ⟨u, h1, h2⟩ := t.get (i := i) (a := x) (by simpa using e)
    exact ⟨u, by simpa using h1, h2⟩
theorem Each.get2 : ∀ {as : List α} {bs : List β} {i : Nat} {b : β}, Each R as bs → bs[i]? = some b → ∃ a, as[i]? = some a ∧ R a b
  | _, _, _, _, .nil, e => by simp at e
  | _, _, 0, _, .cons r _, e => by simp at e; subst e; exact ⟨_, rfl, r⟩
  | _, _, i + 1, x, .cons _ t, e => by
    obtain ⟨u, h1, h2⟩ := t.get2 (i := i) (b := x) (by simpa using e)
    exact ⟨u, by simpa using h1, h2⟩
theorem Each.mem2 : ∀ {as : List α} {bs : List β} {b : β}, Each R as bs → b ∈ bs → ∃ a ∈ as, R a b
  | _, _, _, .nil, h => by simp at h
  | _, _, _, .cons r t, h => by
    rcases List.mem_cons.mp h with rfl | h
    · exact ⟨_, List.mem_cons_self, r⟩
    · obtain ⟨a, ha, hr⟩ := t.mem2 h
      exact ⟨a, List.mem_cons_of_mem _ ha, hr⟩
theorem each_fn {f : α → β} : ∀ {as : List α} {bs : List β}, Each (fun a b => b = f a) as bs → bs = as.map f
  | _, _, .nil => rfl
  | _, _, .cons r t => by rw [List.map_cons, ← each_fn t, r]
theorem each_map_l {γ : Type} {g : γ → α} : ∀ {cs : List γ} {bs : List β}, Each R (cs.map g) bs → Each (fun c b => R (g c) b) cs bs
  | [], [], _ => .nil
  | [], _ :: _, h => nomatch h
  | _ :: _, [], h => nomatch h
  | _ :: _, _ :: _, .cons r t => .cons r (each_map_l t)
theorem each_map_r {γ : Type} {g : γ → α} : ∀ {cs : List γ} {bs : List β}, Each (fun c b => R (g c) b) cs bs → Each R (cs.map g) bs
  | _, _, .nil => .nil
  | _, _, .cons r t => .cons r (each_map_r t)
end

theorem filter_take_snoc {α : Type} {p : α → Bool} {ys : List α} {i : Nat} {x : α} (h : ys[i]? = some x) : (ys.take (i + 1)).filter p = (ys.take i).filter p ++ (if p x then [x] else []) := by
  rw [List.take_add_one, h, List.filter_append]
  congr 1
  by_cases c : p x = true
  · simp [c]
  · simp [c]

section
variable {J : It} {ys : List V} {G : Hp → Prop} {slot : Nat} {tt : TT} {te : TE} {vs : List Nat} {σ : L2.St} {H1 : Hp} {D : Addr} {Qd : Hp → Prop}
/-- a comprehension [e for x in ys if t]: each e a value that R tells of, the heap only growing -/
theorem lc_rel (w : L2.Walk J ys.length G (YAt ys)) (hD : H1 D = none) (keep : V → Bool) (R : V → V → Hp → Prop)
    (hG : ∀ H, Same H1 H → G H)
    (hw : ∀ x, wipe ((wipe σ vs).set slot (some x)) vs = wipe σ vs)
    (ht : ∀ (x : V) (H : Hp), x ∈ ys → Same H1 H → ∀ Q : Bool → Hp → Prop, Q (keep x) H → tt ((wipe σ vs).set slot (some x)) H Q)
    (he : ∀ (x : V) (H : Hp), x ∈ ys → keep x = true → Same H1 H → ∀ Q : VK, (∀ y H', Same H H' → R x y H' → Q y H') → te ((wipe σ vs).set slot (some x)) H Q)
    (hR : ∀ x y H H' acc, H D = some (.lst acc) → SameX D H H' → R x y H → R x y H')
    (hn : ys.length < sizeLine)
    (hd : ∀ zs H, Same H1 H → H D = some (.lst zs) → Each (fun x z => R x z H) (ys.filter keep) zs → Qd H) :
    ∃ W : Nat → Nat → Hp → Prop, (∃ m, W 0 m (upd H1 D (.lst []))) ∧ ∀ i m H, W i m H →
      (J.stop i H ∧ Qd H) ∨ (J.go i H ∧ ∃ Nx : Hp → Prop, (∀ H', Nx H' → ∃ m', m' < m ∧ W (i + 1) m' H') ∧ ∀ x H', J.yld i H x H' → gName slot x (wipe σ vs) H' fun σ2 H2 => wipe σ2 vs = wipe σ vs ∧ tt σ2 H2 fun b H3 =>
        if b = true then te σ2 H3 fun y H4 => ∃ acc, H4 D = some (.lst acc) ∧ acc.length < sizeLine ∧ Nx (upd H4 D (.lst (acc ++ [y]))) else Nx H3) := by
  refine lc_it w (fun i H => ∃ zs, Same H1 H ∧ H D = some (.lst zs) ∧ Each (fun x z => R x z H) ((ys.take i).filter keep) zs) ⟨[], same_new hD, upd_same, by simpa using Each.nil⟩ (fun i H _ h => ?_) ?_ ?_
  · obtain ⟨zs, s, _⟩ := h
    exact hG H s
  · rintro i x H H' hi ⟨zs, s, hz, ez⟩ ⟨rfl, hx⟩
    have hm : x ∈ ys := List.mem_of_getElem? hx
    refine ⟨hw x, ht x _ hm s _ ?_⟩
    have hf := filter_take_snoc (p := keep) hx
    refine ite_b (fun e => ?_) (fun e => ?_)
    · refine he x _ hm e s _ fun y H4 s4 r4 => ⟨zs, s4 _ _ hz, ?_, zs ++ [y], same_mut (s.trans s4) hD, upd_same, ?_⟩
      · have h1 := ez.length
        have h2 : ((ys.take i).filter keep).length ≤ (ys.take i).length := List.length_filter_le _ _
        have h3 : (ys.take i).length ≤ ys.length := List.length_take_le' _ _
        omega
      · rw [hf, if_pos e]
        have hD4 : H4 D = some (.lst zs) := s4 _ _ hz
        refine Each.append (ez.mono fun a b r => ?_) (.cons ?_ .nil)
        · exact hR _ _ _ _ _ hz (fun b o n h => by rw [upd_ne n]; exact s4 _ _ h) r
        · exact hR _ _ _ _ _ hD4 sameX_upd r4
    · refine ⟨zs, s, hz, ?_⟩
      rw [hf, if_neg (by rw [e]; decide), List.append_nil]
      exact ez
  · rintro H ⟨zs, s, hz, ez⟩
    rw [List.take_length] at ez
    exact hd zs H s hz ez
/-- the same, each e a plain value, the heap as it was -/
theorem lc_map (w : L2.Walk J ys.length G (YAt ys)) (hD : H1 D = none) (keep : V → Bool) (f : V → V)
    (hG : ∀ H, Same H1 H → G H)
    (hw : ∀ x, wipe ((wipe σ vs).set slot (some x)) vs = wipe σ vs)
    (ht : ∀ (x : V) (H : Hp), x ∈ ys → Same H1 H → ∀ Q : Bool → Hp → Prop, Q (keep x) H → tt ((wipe σ vs).set slot (some x)) H Q)
    (he : ∀ (x : V) (H : Hp), x ∈ ys → keep x = true → Same H1 H → ∀ Q : VK, Q (f x) H → te ((wipe σ vs).set slot (some x)) H Q)
    (hn : ys.length < sizeLine)
    (hd : ∀ H, Same H1 H → H D = some (.lst ((ys.filter keep).map f)) → Qd H) :
    ∃ W : Nat → Nat → Hp → Prop, (∃ m, W 0 m (upd H1 D (.lst []))) ∧ ∀ i m H, W i m H →
      (J.stop i H ∧ Qd H) ∨ (J.go i H ∧ ∃ Nx : Hp → Prop, (∀ H', Nx H' → ∃ m', m' < m ∧ W (i + 1) m' H') ∧ ∀ x H', J.yld i H x H' → gName slot x (wipe σ vs) H' fun σ2 H2 => wipe σ2 vs = wipe σ vs ∧ tt σ2 H2 fun b H3 =>
        if b = true then te σ2 H3 fun y H4 => ∃ acc, H4 D = some (.lst acc) ∧ acc.length < sizeLine ∧ Nx (upd H4 D (.lst (acc ++ [y]))) else Nx H3) :=
  lc_rel w hD keep (fun x y _ => y = f x) hG hw ht (fun x H hx hk s Q q => he x H hx hk s Q (q _ H (Same.refl H) rfl)) (fun _ _ _ _ _ _ _ r => r) hn fun zs H s hz ez => hd H s (by rw [hz, each_fn ez])
end
/-- a text's signs as a list -/
def signsOf (z : Str) : List V := z.cps.toList.map fun c => .str (sign c)
theorem walk_signs {z : Str} : L2.Walk (Its z) (signsOf z).length (fun _ => True) (YAt (signsOf z)) := by
  have e : (signsOf z).length = z.cps.size := by simp [signsOf]
  rw [e]
  refine ⟨fun _ _ hi _ => hi, fun _ _ => Nat.le_refl _, ?_⟩
  rintro i H x H' _ _ ⟨rfl, c, hc, rfl⟩
  refine ⟨rfl, ?_⟩
  have : z.cps.toList[i]? = some c := by simpa using hc
  simp only [signsOf, List.getElem?_map, this]
  rfl
theorem yes_pure {σ : L2.St} {H : Hp} {Q : Bool → Hp → Prop} (h : Q true H) : tYes σ H Q := h
theorem inV_strs (z : Str) (ws : List Str) : inV (.str z) (ws.map V.str) = decide (z ∈ ws) := by
  unfold inV
  induction ws with
  | nil => rfl
  | cons x r ih =>
    rw [List.map_cons, List.any_cons, ih]
    by_cases h : x = z
    · subst h
      simp [eqV]
    · have h2 : ¬ z = x := fun e => h e.symm
      simp [eqV, h, h2]
theorem flat_strs (ws : List Str) : (ws.map V.str).all flatV = true := by
  rw [List.all_eq_true]
  intro v hv
  obtain ⟨x, _, rfl⟩ := List.mem_map.mp hv
  rfl
theorem dp_strs {K : PySem.W.Frag} {H : Hp} : ∀ ws : List Str, DpAll K H (ws.map V.str) (ws.map PyData.str)
  | [] => .nil
  | z :: r => .cons (.str z) (dp_strs r)
theorem wd_ok {z : Str} (h : IsWd z) : PyData.strOk z = true := by
  unfold PyData.strOk
  rw [← Array.all_toList, List.all_eq_true]
  intro c hc
  unfold IsWd wdB at h
  simp only [Bool.and_eq_true, decide_eq_true_eq, List.all_eq_true] at h
  have := h.2 c hc
  exact decide_eq_true (by omega)
theorem lay_strs : ∀ {ws : List Str}, (∀ z ∈ ws, IsWd z) → PyData.canLayAll0 (ws.map PyData.str) = true
  | [], _ => by simp [PyData.canLayAll0]
  | z :: r, h => by
    have h1 := wd_ok (h z List.mem_cons_self)
    have h2 := lay_strs (ws := r) fun y hy => h y (List.mem_cons_of_mem _ hy)
    simp [PyData.canLayAll0, PyData.canLay0, h1, h2]
theorem depth_strs : ∀ ws : List Str, PyData.depthAll (ws.map PyData.str) = 0
  | [] => by simp [PyData.depthAll]
  | z :: r => by simp [PyData.depthAll, PyData.depth, depth_strs r]
theorem shaped_list {ds : List PyData} (h : PyData.canLayAll0 ds = true) (d : PyData.depthAll ds ≤ 60) : SeqAt.shaped (.list ds) = true := by
  unfold SeqAt.shaped
  rw [Bool.and_eq_true]
  refine ⟨by simpa [PyData.canLay0] using h, decide_eq_true ?_⟩
  simp only [PyData.depth]
  omega
theorem shaped_tuple {ds : List PyData} (h : PyData.canLayAll0 ds = true) (d : PyData.depthAll ds ≤ 60) : SeqAt.shaped (.tuple ds) = true := by
  unfold SeqAt.shaped
  rw [Bool.and_eq_true]
  refine ⟨by simpa [PyData.canLay0] using h, decide_eq_true ?_⟩
  simp only [PyData.depth]
  omega
theorem cut_hi (z : Str) (k : Nat) : (cutS z none (some (k : Int))).cps.toList = z.cps.toList.take k := by
  show ((z.cps.toList.drop (HT.sIx z.length 0 none)).take (HT.sIx z.length z.length (some (k : Int)) - HT.sIx z.length 0 none)) = _
  rw [HT.sIx_none, HT.sIx_nat, Nat.sub_zero, List.drop_zero]
  have : z.length = z.cps.toList.length := by simp [Str.length]
  rw [this]
  by_cases h : k ≤ z.cps.toList.length
  · rw [Nat.min_eq_left h]
  · rw [Nat.min_eq_right (by omega), List.take_length, List.take_of_length_le (by omega)]
end Wl

namespace Wl
open PySem PySem.Spec PyProof.Rows L2
abbrev sFresh : Stmt := topS 23
abbrev sLand : Stmt := topS 24
abbrev sNames : Stmt := topS 25

/-! ### a word that is not in use -/
def spareS (A B : Str) : List Str := ((List.range' 97 26).map fun c => A ++ sign c) ++ (List.range' 97 13).map fun c => B ++ sign c ++ ("z" : Str)
theorem codes_add (x y : Str) : (x ++ y).cps.toList = x.cps.toList ++ y.cps.toList := TL.tl_append x y
theorem spare_free (A B : Str) (ws : List Str) (h : ws.length ≤ 35) : ∃ z ∈ spareS A B, z ∉ ws := by
  refine Classical.byContradiction fun no => ?_
  have all : ∀ z ∈ spareS A B, z ∈ ws := fun z hz => Classical.byContradiction fun k => no ⟨z, hz, k⟩
  have nd : (((List.range' 97 25).map fun c => A ++ sign c) ++ (List.range' 97 13).map fun c => B ++ sign c ++ ("z" : Str)).Nodup := by
    have zc : ("z" : Str).cps.toList = [122] := by decide +kernel
    have c1 : ∀ c, (A ++ sign c).cps.toList = A.cps.toList ++ [c] := fun c => codes_add A (sign c)
    have c2 : ∀ c, (B ++ sign c ++ ("z" : Str)).cps.toList = B.cps.toList ++ [c] ++ [122] := fun c => by
      rw [codes_add, codes_add, zc]
      rfl
    rw [List.nodup_append]
    refine ⟨?_, ?_, ?_⟩
    · refine List.pairwise_map.mpr ((List.nodup_range' (s := 97) (n := 25) (step := 1)).imp fun {a b} ne e => ne ?_)
      have := congrArg (fun z : Str => z.cps.toList) e
      simp only [c1] at this
      simpa using this
    · refine List.pairwise_map.mpr ((List.nodup_range' (s := 97) (n := 13) (step := 1)).imp fun {a b} ne e => ne ?_)
      have := congrArg (fun z : Str => z.cps.toList) e
      simp only [c2] at this
      simpa using this
    · intro x hx y hy e
      obtain ⟨c, hc, rfl⟩ := List.mem_map.mp hx
      obtain ⟨d, hd, rfl⟩ := List.mem_map.mp hy
      have := congrArg (fun z : Str => z.cps.toList.getLast?) e
      simp only [c1, c2, List.getLast?_append, List.getLast?_singleton, Option.some_or, Option.some.injEq] at this
      rw [List.mem_range'_1] at hc
      omega
  have sub : (((List.range' 97 25).map fun c => A ++ sign c) ++ (List.range' 97 13).map fun c => B ++ sign c ++ ("z" : Str)) ⊆ ws := by
    intro z hz
    refine all z ?_
    rcases List.mem_append.mp hz with hz | hz
    · obtain ⟨c, hc, rfl⟩ := List.mem_map.mp hz
      refine List.mem_append.mpr (.inl (List.mem_map.mpr ⟨c, ?_, rfl⟩))
      rw [List.mem_range'_1] at hc ⊢
      omega
    · exact List.mem_append.mpr (.inr hz)
  have := nd.length_le_of_subset sub
  simp at this
  omega
theorem spare_wd {z : Str} (h : IsWd z) : ∀ y ∈ spareS (cutS z none (some 7)) (cutS z none (some 6)), IsWd y := by
  have hl := h.len
  have hz : z.length = z.cps.toList.length := by simp [Str.length]
  have hc : ∀ c ∈ z.cps.toList, 97 ≤ c ∧ c ≤ 122 := by
    unfold IsWd wdB at h
    simp only [Bool.and_eq_true, decide_eq_true_eq, List.all_eq_true] at h
    exact h.2
  have zc : ("z" : Str).cps.toList = [122] := by decide +kernel
  intro y hy
  rcases List.mem_append.mp hy with hy | hy
  · obtain ⟨c, hcm, rfl⟩ := List.mem_map.mp hy
    rw [List.mem_range'_1] at hcm
    have e : (cutS z none (some 7) ++ sign c).cps.toList = z.cps.toList.take 7 ++ [c] := by
      rw [codes_add, show ((7 : Int)) = ((7 : Nat) : Int) from rfl, cut_hi]
      rfl
    refine isWd_of ?_ ?_ ?_
    · rw [e]; simp
    · rw [e]; simp; omega
    · rw [e]
      intro d hd
      rcases List.mem_append.mp hd with hd | hd
      · exact hc d (List.mem_of_mem_take hd)
      · rw [List.mem_singleton.mp hd]; omega
  · obtain ⟨c, hcm, rfl⟩ := List.mem_map.mp hy
    rw [List.mem_range'_1] at hcm
    have e : (cutS z none (some 6) ++ sign c ++ ("z" : Str)).cps.toList = z.cps.toList.take 6 ++ [c] ++ [122] := by
      rw [codes_add, codes_add, show ((6 : Int)) = ((6 : Nat) : Int) from rfl, cut_hi, zc]
      rfl
    refine isWd_of ?_ ?_ ?_
    · rw [e]; simp
    · rw [e]; simp; omega
    · rw [e]
      intro d hd
      rcases List.mem_append.mp hd with hd | hd
      · rcases List.mem_append.mp hd with hd | hd
        · exact hc d (List.mem_of_mem_take hd)
        · rw [List.mem_singleton.mp hd]; omega
      · rw [List.mem_singleton.mp hd]; omega

section
variable {P : Program} {w : World} {K : PySem.W.Frag} {mg : Str → Option Value} {base : Heap} {f : Addr} {fd : FuncData}
def spFresh : Sp := fun vs H Q _ => ∃ (a u : Addr) (ws : List Str), vs = [.ref a, .ref u] ∧ PurseAt H a ∧ H u = some (.lst (ws.map V.str)) ∧ u ≠ a ∧ ws.length ≤ 35 ∧
  ∀ (z : Str) (H' : Hp), IsWd z → z ∉ ws → PurseAt H' a → SameX a H H' → Q (.str z) H'
abbrev nFresh : List Str := ["_law_purse_here", "_law_used", "_law_sound", "_law_spare", "_law_sign", "_law_one"]
theorem scFresh : FnScope nFresh ["_law_purse_here", "_law_used"] (defScope sFresh) :=
  ⟨rfl, rfl, rfl, by decide +kernel, rfl, by decide +kernel, by decide +kernel⟩
def addS (A : Str) (B : Str) : V → V
  | .str s => .str (A ++ s ++ B)
  | v => v
theorem wd_line {z : Str} (h : IsWd z) : z.length ≤ sizeLine := lzl (by have := h.len; omega)
theorem ok_fresh (F : Fun K "_law_fresh" "_law_fresh" sFresh f fd) (B : Bi mg) (hW : Has P w K mg base "_law_word" 2 ["_law_purse_here"] spWord) :
    FnOk P w K mg base CX0 3 f fd ["_law_purse_here", "_law_used"] spFresh := by
  refine F.ok scFresh (fun vs H Q E h => ?_) (fun cdv A outer s H vs Q E hr h => ?_)
  · obtain ⟨a, u, ws, rfl, _⟩ := h
    rfl
  · obtain ⟨a, u, ws, rfl, hA, hu, nua, hl, q⟩ := h
    refine ⟨_, pss_cons (ps_set (i := 2) scFresh.nd rfl (.inr rfl) (pe_h hW hr (pa_cons (pv 0) pa_nil)))
      (pss_cons (ps_if (pt_cmpR op_notIn_seq (pv 2) (pv 1) (by rfl)) (pss_one (ps_ret (pv 2))) pss_nil)
      (pss_cons (ps_setLc (i := 3) (own := [("_law_sign", 4)]) (g := gName 4) (tt := tYes) rfl scFresh.nd rfl rfl (sw_true rfl rfl rfl (by decide +kernel)) (pi_str pe_str) (blkOk_by (N := nFresh) (sc := defScope sFresh) (by decide +kernel))
        (fun _ _ _ _ _ => pg_name (i := 4) scFresh.nd rfl (.inl rfl)) (fun _ _ _ _ _ => pts_nil) (fun _ _ _ _ _ => pe_op op_add_str (pe_slice sl_str (pv 2) po_none (po_some pe_int)) (pv 4)))
      (pss_cons (ps_set (i := 3) scFresh.nd rfl (.inl rfl) (pe_op op_cat (pv 3) (pe_lc (own := [("_law_sign", 4)]) (g := gName 4) (tt := tYes) rfl scFresh.nd (pi_str pe_str) (blkOk_by (N := nFresh) (sc := defScope sFresh) (by decide +kernel))
        (fun _ _ _ _ _ => pg_name (i := 4) scFresh.nd rfl (.inl rfl)) (fun _ _ _ _ _ => pts_nil) (fun _ _ _ _ _ => pe_op op_add_str (pe_op op_add_str (pe_slice sl_str (pv 2) po_none (po_some pe_int)) (pv 4)) pe_str))))
      (pss_one (ps_ret (pe_ix ix_list (pe_lc (own := [("_law_one", 5)]) (g := gName 5) (tt := tTest (tOp (rIn K true) (tVar 5) (tVar 1))) rfl scFresh.nd (pi_list (pv 3)) (blkOk_by (N := nFresh) (sc := defScope sFresh) (by decide +kernel))
        (fun _ _ _ _ _ => pg_name (i := 5) scFresh.nd rfl (.inl rfl)) (fun _ _ _ _ _ => pts_one (pt_cmpR op_notIn_seq (pv 5) (pv 1) (by rfl))) (fun _ _ _ _ _ => pv 5)) pe_int (fun _ _ => rfl))))))), ?_⟩
    refine ⟨_, rfl, a, rfl, hA, fun z H1 hz hA1 s1 => ?_⟩
    have hu1 : H1 u = some (.lst (ws.map V.str)) := s1 _ _ nua hu
    refine ⟨_, rfl, _, rfl, u, ws.map V.str, rfl, .inl (.inl (.inl hu1)), rfl, flat_strs ws, _, rfl, ite_b (fun e => ?_) (fun e => ?_)⟩
    · rw [if_pos rfl, inV_strs, Bool.not_eq_true', decide_eq_false_iff_not] at e
      exact ⟨_, rfl, q z H1 hz e hA1 s1⟩
    · refine ⟨_, rfl, fun D hD => lc_map walk_signs hD (fun _ => true) (addS (cutS z none (some 7)) ⟨#[]⟩) (fun _ _ => trivial) (fun _ => rfl) (fun x H' _ _ Q' q' => q') ?_ lz ?_⟩
      · intro x H' hx _ _ Q' q'
        obtain ⟨c, hc, rfl⟩ := List.mem_map.mp hx
        refine ⟨_, rfl, 7, rfl, z, rfl, wd_line hz, _, rfl, _, _, rfl, rfl, ?_, ?_⟩
        · have := cutS_length z none (some 7)
          have := hz.len
          exact lzl (by show (cutS z none (some 7)).length + 1 ≤ 1000; omega)
        · have e0 : addS (cutS z none (some 7)) ⟨#[]⟩ (.str (sign c)) = .str (cutS z none (some 7) ++ sign c) := by
            refine congrArg V.str (str_ext ?_)
            rw [codes_add]
            simp
          rw [e0] at q'
          exact q'
      · intro H2 s2 hD2
        have hu2 := s2 _ _ hu1
        have hA2 := hA1.same s2
        refine ⟨_, rfl, _, rfl, fun D3 hD3 => lc_map walk_signs hD3 (fun _ => true) (addS (cutS z none (some 6)) "z") (fun _ _ => trivial) (fun _ => rfl) (fun x H' _ _ Q' q' => q') ?_ lz ?_⟩
        · intro x H' hx _ _ Q' q'
          obtain ⟨c, hc, rfl⟩ := List.mem_map.mp hx
          have h6 := cutS_length z none (some 6)
          have hl8 := hz.len
          have hz1 : ("z" : Str).length = 1 := by decide +kernel
          have hadd : (cutS z none (some 6) ++ sign c).length = (cutS z none (some 6)).length + 1 := by
            rw [TL.len_tl, TL.tl_append, List.length_append, ← TL.len_tl]
            rfl
          refine ⟨_, rfl, 6, rfl, z, rfl, wd_line hz, _, rfl, _, _, rfl, rfl, ?_, _, _, rfl, rfl, ?_, q'⟩
          · exact lzl (by show (cutS z none (some 6)).length + 1 ≤ 1000; omega)
          · exact lzl (by rw [hz1]; show (cutS z none (some 6) ++ sign c).length + 1 ≤ 1000; omega)
        · intro H4 s4 hD4
          have e26 : (signsOf ("abcdefghijklmnopqrstuvwxyz" : Str)).filter (fun _ => true) = signsOf ("abcdefghijklmnopqrstuvwxyz" : Str) := List.filter_eq_self.mpr fun _ _ => rfl
          have e13 : (signsOf ("abcdefghijklm" : Str)).filter (fun _ => true) = signsOf ("abcdefghijklm" : Str) := List.filter_eq_self.mpr fun _ _ => rfl
          have c13 : ("abcdefghijklm" : Str).cps.toList = List.range' 97 13 := by decide +kernel
          have eall : ((signsOf ("abcdefghijklmnopqrstuvwxyz" : Str)).filter (fun _ => true)).map (addS (cutS z none (some 7)) ⟨#[]⟩) ++ ((signsOf ("abcdefghijklm" : Str)).filter (fun _ => true)).map (addS (cutS z none (some 6)) "z")
              = (spareS (cutS z none (some 7)) (cutS z none (some 6))).map V.str := by
            rw [e26, e13]
            unfold signsOf spareS
            rw [letters_eq, c13, List.map_append, List.map_map, List.map_map, List.map_map, List.map_map]
            congr 1
          refine ⟨D, D3, _, _, rfl, rfl, s4 _ _ hD2, hD4, lz, fun p5 hp5 => ?_⟩
          rw [eall]
          have s5 : Same H1 (upd H4 p5 (.lst ((spareS (cutS z none (some 7)) (cutS z none (some 6))).map V.str))) := (s2.trans s4).trans (same_new hp5)
          refine ⟨_, rfl, p5, rfl, ⟨_, .inl (.inl upd_same)⟩, fun D6 hD6 => lc_map (walk_list (K := K) (a := p5) (xs := (spareS (cutS z none (some 7)) (cutS z none (some 6))).map V.str)) hD6 (fun v => !inV v (ws.map V.str)) id (fun H' s' => .inl (.inl (s' _ _ upd_same))) (fun _ => rfl) ?_ ?_ lz ?_⟩
          · intro x H' hx s' Q' q'
            obtain ⟨y, hy, rfl⟩ := List.mem_map.mp hx
            exact ⟨_, rfl, _, rfl, u, _, rfl, .inl (.inl (.inl (s' _ _ (s5 _ _ hu1)))), rfl, flat_strs ws, _, rfl, q'⟩
          · intro x H' hx _ _ Q' q'
            exact ⟨_, rfl, q'⟩
          · intro H7 s7 hD7
            obtain ⟨y0, hy0, hn0⟩ := spare_free (cutS z none (some 7)) (cutS z none (some 6)) ws hl
            have hf : ((spareS (cutS z none (some 7)) (cutS z none (some 6))).map V.str).filter (fun v => !inV v (ws.map V.str)) = ((spareS (cutS z none (some 7)) (cutS z none (some 6))).filter fun y => decide (y ∉ ws)).map V.str := by
              rw [List.filter_map]
              congr 1
              refine List.filter_congr fun y _ => ?_
              simp only [Function.comp, inV_strs]
              by_cases c : y ∈ ws <;> simp [c]
            rw [List.map_id, hf] at hD7
            have hm0 : y0 ∈ (spareS (cutS z none (some 7)) (cutS z none (some 6))).filter fun y => decide (y ∉ ws) := List.mem_filter.mpr ⟨hy0, decide_eq_true hn0⟩
            cases hcl : (spareS (cutS z none (some 7)) (cutS z none (some 6))).filter fun y => decide (y ∉ ws) with
            | nil =>
              rw [hcl] at hm0
              cases hm0
            | cons y r =>
              have hym : y ∈ (spareS (cutS z none (some 7)) (cutS z none (some 6))).filter fun y => decide (y ∉ ws) := by
                rw [hcl]
                exact List.mem_cons_self
              obtain ⟨hy1, hy2⟩ := List.mem_filter.mp hym
              refine ⟨D6, _, 0, .str y, rfl, rfl, .inl (.inl hD7), atI_nat (j := 0) (by rw [hcl]; rfl), ?_⟩
              exact q y H7 (spare_wd hz y hy1) (of_decide_eq_true hy2) (hA1.same (s5.trans s7)) (s1.trans (sx (s5.trans s7)))
end
end Wl

namespace Wl
open PySem PySem.Spec PyProof.Rows L2
abbrev Row := List (Option Str)
abbrev Grid := List Row
def rnames (r : Row) : List Str := r.filterMap id
def names (g : Grid) : List Str := g.flatten.filterMap id
theorem names_nil : names [] = [] := rfl
theorem names_snoc (g : Grid) (r : Row) : names (g ++ [r]) = names g ++ rnames r := by
  unfold names rnames
  rw [List.flatten_append, List.filterMap_append]
  simp
theorem names_cons (r : Row) (g : Grid) : names (r :: g) = rnames r ++ names g := by
  unfold names rnames
  rw [List.flatten_cons, List.filterMap_append]
theorem rnames_snoc (r : Row) (o : Option Str) : rnames (r ++ [o]) = rnames r ++ o.toList := by
  unfold rnames
  rw [List.filterMap_append]
  cases o <;> rfl
structure Good (g : Grid) (wd : Nat) : Prop where
  h1 : 1 ≤ g.length
  h6 : g.length ≤ 6
  w1 : 1 ≤ wd
  w6 : wd ≤ 6
  rows : ∀ r ∈ g, r.length = wd
  nd : (names g).Nodup
  wd : ∀ z ∈ names g, IsWd z
  ne : names g ≠ []
/-- the heap keeps its tuples -/
def TupKeep (H H' : Hp) : Prop := ∀ p xs, H p = some (.tup xs) → H' p = some (.tup xs)
theorem TupKeep.refl (H : Hp) : TupKeep H H := fun _ _ h => h
theorem TupKeep.trans {H H1 H2 : Hp} (a : TupKeep H H1) (b : TupKeep H1 H2) : TupKeep H H2 := fun p xs h => b p xs (a p xs h)
theorem tk_same {H H' : Hp} (s : Same H H') : TupKeep H H' := fun p xs h => s p _ h
theorem tk_x {a : Addr} {H H' : Hp} {ys : List V} (s : SameX a H H') (ha : H a = some (.lst ys)) : TupKeep H H' := fun p xs h => s p _ (ne_of h ha (by intro z; cases z)) h
theorem tk_upd {a : Addr} {H : Hp} {ys : List V} {o : HO} (ha : H a = some (.lst ys)) : TupKeep H (upd H a o) := tk_x sameX_upd ha
theorem tk_new {p : Addr} {H : Hp} {o : HO} (hp : H p = none) : TupKeep H (upd H p o) := tk_same (same_new hp)
/-- rows of a grid as tuples -/
def RowsAt (H : Hp) (as : List Addr) (g : Grid) : Prop := Each (fun (p : Addr) (row : Row) => H p = some (.tup (row.map oV))) as g
theorem RowsAt.keep {H H' : Hp} {as : List Addr} {g : Grid} (h : RowsAt H as g) (k : TupKeep H H') : RowsAt H' as g := Each.mono (fun p row e => k p _ e) h
def GridAt (H : Hp) (L : Addr) (g : Grid) : Prop := ∃ as : List Addr, H L = some (.tup (as.map V.ref)) ∧ RowsAt H as g
theorem GridAt.keep {H H' : Hp} {L : Addr} {g : Grid} (h : GridAt H L g) (k : TupKeep H H') : GridAt H' L g := by
  obtain ⟨as, h1, h2⟩ := h
  exact ⟨as, k _ _ h1, h2.keep k⟩
/-- the part at a row and a column, none where there is none -/
def cellAt (g : Grid) (r c : Nat) : Option Str := match g[r]? with
  | some row => (row[c]?).getD none
  | none => none
theorem cellAt_some {g : Grid} {r c : Nat} {z : Str} (h : cellAt g r c = some z) : ∃ row, g[r]? = some row ∧ row[c]? = some (some z) := by
  unfold cellAt at h
  cases e : g[r]? with
  | none => rw [e] at h; cases h
  | some row =>
    rw [e] at h
    refine ⟨row, rfl, ?_⟩
    cases e2 : row[c]? with
    | none => simp only [e2] at h; cases h
    | some o => simp only [e2, Option.getD_some] at h; rw [h]
theorem cellAt_of {g : Grid} {r c : Nat} {row : Row} {o : Option Str} (h : g[r]? = some row) (k : row[c]? = some o) : cellAt g r c = o := by
  unfold cellAt
  rw [h]
  simp [k]
/-! ### the spots -/
def spR (i j : Nat) : Row → List (Str × Nat × Nat)
  | [] => []
  | none :: r => spR i (j + 1) r
  | some z :: r => (z, i, j) :: spR i (j + 1) r
def spG (i : Nat) : Grid → List (Str × Nat × Nat)
  | [] => []
  | row :: g => spR i 0 row ++ spG (i + 1) g
theorem spR_snoc (i : Nat) : ∀ (r : Row) (j : Nat) (o : Option Str), spR i j (r ++ [o]) = spR i j r ++ (o.toList.map fun z => (z, i, j + r.length))
  | [], j, none => rfl
  | [], j, some z => rfl
  | none :: r, j, o => by
    show spR i (j + 1) (r ++ [o]) = spR i (j + 1) r ++ _
    rw [spR_snoc i r (j + 1) o, List.length_cons]
    congr 2
    funext z
    rw [Nat.add_right_comm, Nat.add_assoc]
  | some y :: r, j, o => by
    show (y, i, j) :: spR i (j + 1) (r ++ [o]) = (y, i, j) :: spR i (j + 1) r ++ _
    rw [spR_snoc i r (j + 1) o, List.length_cons, List.cons_append]
    congr 3
    funext z
    rw [Nat.add_right_comm, Nat.add_assoc]
theorem spG_snoc : ∀ (g : Grid) (i : Nat) (r : Row), spG i (g ++ [r]) = spG i g ++ spR (i + g.length) 0 r
  | [], i, r => by simp [spG]
  | x :: g, i, r => by
    show spR i 0 x ++ spG (i + 1) (g ++ [r]) = spR i 0 x ++ spG (i + 1) g ++ _
    rw [spG_snoc g (i + 1) r, List.length_cons, List.append_assoc]
    congr 3
    omega
theorem spR_fst (i : Nat) : ∀ (r : Row) (j : Nat), (spR i j r).map (·.1) = rnames r
  | [], _ => rfl
  | none :: r, j => spR_fst i r (j + 1)
  | some z :: r, j => congrArg (z :: ·) (spR_fst i r (j + 1))
theorem spG_fst : ∀ (g : Grid) (i : Nat), (spG i g).map (·.1) = names g
  | [], _ => rfl
  | r :: g, i => by
    show (spR i 0 r ++ spG (i + 1) g).map (·.1) = _
    rw [List.map_append, spR_fst, spG_fst g (i + 1), names_cons]
theorem spR_mem (i : Nat) {z : Str} {a b : Nat} : ∀ (r : Row) (j : Nat), (z, a, b) ∈ spR i j r ↔ a = i ∧ ∃ k, b = j + k ∧ r[k]? = some (some z)
  | [], j => by simp [spR]
  | none :: r, j => by
    show (z, a, b) ∈ spR i (j + 1) r ↔ _
    rw [spR_mem i r (j + 1)]
    constructor
    · rintro ⟨h, k, e, q⟩
      exact ⟨h, k + 1, by omega, by simpa using q⟩
    · rintro ⟨h, k, e, q⟩
      cases k with
      | zero => simp at q
      | succ k => exact ⟨h, k, by omega, by simpa using q⟩
  | some y :: r, j => by
    show (z, a, b) ∈ (y, i, j) :: spR i (j + 1) r ↔ _
    rw [List.mem_cons, spR_mem i r (j + 1)]
    constructor
    · rintro (h | ⟨h, k, e, q⟩)
      · cases h
        exact ⟨rfl, 0, rfl, rfl⟩
      · exact ⟨h, k + 1, by omega, by simpa using q⟩
    · rintro ⟨h, k, e, q⟩
      cases k with
      | zero =>
        simp at q
        subst q h
        exact .inl (by rw [e, Nat.add_zero])
      | succ k => exact .inr ⟨h, k, by omega, by simpa using q⟩
theorem spG_mem {z : Str} {a b : Nat} : ∀ (g : Grid) (i : Nat), (z, a, b) ∈ spG i g ↔ ∃ k row, a = i + k ∧ g[k]? = some row ∧ row[b]? = some (some z)
  | [], i => by simp [spG]
  | r :: g, i => by
    show (z, a, b) ∈ spR i 0 r ++ spG (i + 1) g ↔ _
    rw [List.mem_append, spR_mem, spG_mem g (i + 1)]
    constructor
    · rintro (⟨h, k, e, q⟩ | ⟨k, row, e, q, t⟩)
      · exact ⟨0, r, by omega, rfl, by rw [e, Nat.zero_add]; exact q⟩
      · exact ⟨k + 1, row, by omega, by simpa using q, t⟩
    · rintro ⟨k, row, e, q, t⟩
      cases k with
      | zero =>
        simp at q
        subst q
        exact .inl ⟨by omega, b, by omega, t⟩
      | succ k => exact .inr ⟨k, row, by omega, by simpa using q, t⟩
theorem spG_cell {g : Grid} {z : Str} {r c : Nat} : (z, r, c) ∈ spG 0 g ↔ cellAt g r c = some z := by
  rw [spG_mem]
  constructor
  · rintro ⟨k, row, e, q, t⟩
    have : r = k := by omega
    subst this
    exact cellAt_of q t
  · intro h
    obtain ⟨row, q, t⟩ := cellAt_some h
    exact ⟨r, row, by omega, q, t⟩
theorem mem_names {g : Grid} {z : Str} : z ∈ names g ↔ ∃ r c, cellAt g r c = some z := by
  rw [← spG_fst g 0]
  constructor
  · intro h
    obtain ⟨⟨y, r, c⟩, hm, rfl⟩ := List.mem_map.mp h
    exact ⟨r, c, spG_cell.mp hm⟩
  · rintro ⟨r, c, h⟩
    exact List.mem_map.mpr ⟨_, spG_cell.mpr h, rfl⟩
theorem nodup_fst {α β : Type} : ∀ {l : List (α × β)}, (l.map (·.1)).Nodup → ∀ {a : α} {b b' : β}, (a, b) ∈ l → (a, b') ∈ l → b = b'
  | [], _, _, _, _, h, _ => by cases h
  | x :: l, nd, a, b, b', h, k => by
    obtain ⟨h1, h2⟩ := List.nodup_cons.mp nd
    rcases List.mem_cons.mp h with e | h <;> rcases List.mem_cons.mp k with e' | k
    · rw [← e] at e'
      exact (Prod.mk.inj e').2.symm
    · exact absurd (List.mem_map.mpr ⟨_, k, by rw [← e]⟩) h1
    · exact absurd (List.mem_map.mpr ⟨_, h, by rw [← e']⟩) h1
    · exact nodup_fst h2 h k
theorem cell_inj {g : Grid} (nd : (names g).Nodup) {z : Str} {r c r' c' : Nat} (h : cellAt g r c = some z) (k : cellAt g r' c' = some z) : r = r' ∧ c = c' := by
  have := nodup_fst (l := spG 0 g) (by rw [spG_fst]; exact nd) (spG_cell.mpr h) (spG_cell.mpr k)
  exact Prod.mk.inj this
theorem Good.cell {g : Grid} {wd : Nat} (G : Good g wd) {r c : Nat} {z : Str} (h : cellAt g r c = some z) : r < g.length ∧ c < wd := by
  obtain ⟨row, h1, h2⟩ := cellAt_some h
  obtain ⟨a, e⟩ := List.getElem?_eq_some_iff.mp h1
  obtain ⟨b, _⟩ := List.getElem?_eq_some_iff.mp h2
  have := G.rows row (List.mem_of_getElem? h1)
  exact ⟨a, by omega⟩
theorem Good.len {g : Grid} {wd : Nat} (G : Good g wd) : (names g).length ≤ 36 := by
  have h : ∀ l : Grid, (∀ r ∈ l, r.length = wd) → (names l).length ≤ l.length * wd := by
    intro l
    induction l with
    | nil => intro _; simp [names]
    | cons r l ih =>
      intro h
      rw [names_cons, List.length_append, List.length_cons]
      have h1 : (rnames r).length ≤ wd := by
        have := List.length_filterMap_le id r
        have := h r List.mem_cons_self
        unfold rnames
        omega
      have h2 := ih fun r hr => h r (List.mem_cons_of_mem _ hr)
      rw [Nat.succ_mul]
      omega
  have h1 := h g G.rows
  have h2 : g.length * wd ≤ 6 * 6 := Nat.mul_le_mul G.h6 G.w6
  omega
end Wl

namespace Wl
open PySem PySem.Spec PyProof.Rows L2
section
variable {P : Program} {w : World} {K : PySem.W.Frag} {mg : Str → Option Value} {base : Heap} {f : Addr} {fd : FuncData}
def spLand : Sp := fun vs H Q _ => ∃ (a : Addr) (m : Int), vs = [.ref a, .int m] ∧ PurseAt H a ∧ 1 ≤ m ∧ m ≤ 6 ∧
  ∀ (L : Addr) (g : Grid) (wd : Nat) (H' : Hp), Good g wd → GridAt H' L g → PurseAt H' a → SameX a H H' → Q (.ref L) H'
abbrev nLand : List Str := ["_law_purse_here", "_law_most", "_law_high", "_law_wide", "_law_towns", "_law_laid", "_law_row", "_law_parts", "_law_column", "_law_lake", "_law_town"]
theorem scLand : FnScope nLand ["_law_purse_here", "_law_most"] (defScope sLand) :=
  ⟨rfl, rfl, rfl, by decide +kernel, rfl, by decide +kernel, by decide +kernel⟩
/-- what holds of the heap while the land is laid: the rows laid so far, the parts of this one -/
structure Laying (H0 H : Hp) (a tA lA : Addr) (g : Grid) (wd : Nat) (ps : Row) : Prop where
  purse : PurseAt H a
  same : SameX a H0 H
  towns : H tA = some (.lst ((names g ++ rnames ps).map V.str))
  laid : ∃ as, H lA = some (.lst (as.map V.ref)) ∧ RowsAt H as g
  rows : ∀ r ∈ g, r.length = wd
  nd : (names g ++ rnames ps).Nodup
  wds : ∀ z ∈ names g ++ rnames ps, IsWd z
theorem len_names {g : Grid} {wd : Nat} (h : ∀ r ∈ g, r.length = wd) : (names g).length ≤ g.length * wd := by
  induction g with
  | nil => simp [names]
  | cons r l ih =>
    rw [names_cons, List.length_append, List.length_cons]
    have h1 : (rnames r).length ≤ wd := by
      have := List.length_filterMap_le id r
      have := h r List.mem_cons_self
      unfold rnames
      omega
    have h2 := ih fun r hr => h r (List.mem_cons_of_mem _ hr)
    rw [Nat.succ_mul]
    omega
theorem lake_reads {σ : L2.St} {H : Hp} {Q : VK} {a tA : Addr} {ws : List Str} {x y hi wd : Int} (e0 : σ[0]? = some (some (.ref a))) (e4 : σ[4]? = some (some (.ref tA))) (e6 : σ[6]? = some (some (.int x))) (e8 : σ[8]? = some (some (.int y)))
    (e2 : σ[2]? = some (some (.int hi))) (e3 : σ[3]? = some (some (.int wd))) (hA : PurseAt H a) (ht : H tA = some (.lst (ws.map V.str))) (nta : tA ≠ a) (hws : ∀ z ∈ ws, IsWd z)
    (q : ∀ (b : Bool) (H' : Hp), PurseAt H' a → SameX a H H' → (b = true → ws ≠ [] ∨ x + y + 2 < hi + wd) → Q (.bl b) H') :
    tAndV (tOp rEq (tCall spPick [] E0 (tCons (tVar 0) (tCons (tC (.int 6)) tNil))) (tC (.int 5)))
      (tOrV (tOp (rNeD K) (tVar 4) (tLst tNil)) (tOp (rI0 fun i j => .bl (decide (i < j))) (tOp (rI0 fun i j => .int (i + j)) (tOp (rI0 fun i j => .int (i + j)) (tVar 6) (tVar 8)) (tC (.int 2))) (tOp (rI0 fun i j => .int (i + j)) (tVar 2) (tVar 3)))) σ H Q := by
  refine ⟨_, e0, a, 6, rfl, hA, by decide, by decide, fun r H1 r0 r1 hA1 s1 n1 => ⟨rfl, _, rfl, ite_b (fun e => ?_) (fun e => ?_)⟩⟩
  · refine ⟨_, e4, lz, fun p hp => ⟨.list (ws.map .str), .list [], .lst (.inl (.inl ((same_new hp) _ _ (s1 _ _ nta ht)))) (dp_strs ws), .lst (.inl (.inl upd_same)) .nil, shaped_list (lay_strs hws) (by rw [depth_strs]; decide), rfl, _, rfl, ite_b (fun e => ?_) (fun e => ?_)⟩⟩
    · refine q true _ (hA1.same (same_new hp)) (s1.trans (sx (same_new hp))) fun _ => .inl fun z => ?_
      subst z
      cases e
    · refine ⟨_, e6, _, e8, _, _, rfl, rfl, _, _, rfl, rfl, _, e2, _, e3, _, _, rfl, rfl, _, _, rfl, rfl, ?_⟩
      exact q _ _ (hA1.same (same_new hp)) (s1.trans (sx (same_new hp))) fun z => .inr (of_decide_eq_true z)
  · exact q false _ hA1 s1 fun z => by cases z
theorem Laying.go {H0 H H' : Hp} {a tA lA : Addr} {g : Grid} {wd : Nat} {ps : Row} (h : Laying H0 H a tA lA g wd ps) (nt : tA ≠ a) (nl : lA ≠ a) (hp : PurseAt H' a) (s : SameX a H H') : Laying H0 H' a tA lA g wd ps := by
  obtain ⟨as, hl, hR⟩ := h.laid
  obtain ⟨ys, ha⟩ := h.purse.lst
  exact ⟨hp, h.same.trans s, s _ _ nt h.towns, ⟨as, s _ _ nl hl, hR.keep (tk_x s ha)⟩, h.rows, h.nd, h.wds⟩
theorem ok_land (F : Fun K "_law_land" "_law_land" sLand f fd) (B : Bi mg) (hp : Has P w K mg base "_law_pick" 1 ["_law_purse_here", "_law_many"] spPick) (hF : Has P w K mg base "_law_fresh" 3 ["_law_purse_here", "_law_used"] spFresh) :
    FnOk P w K mg base CX0 4 f fd ["_law_purse_here", "_law_most"] spLand := by
  refine F.ok scLand (fun vs H Q E h => ?_) (fun cdv A outer s H vs Q E hr h => ?_)
  · obtain ⟨a, m, rfl, _⟩ := h
    rfl
  · obtain ⟨a, m, rfl, hA, m1, m6, q⟩ := h
    refine ⟨_, pss_cons (ps_par3 (i := 2) (j := 3) (l := 4) (by rfl) scLand.nd rfl rfl rfl (by decide) (by decide) (by decide) rfl rfl rfl (pa_cons (pe_op op_add pe_int (pe_h hp hr (pa_cons (pv 0) (pa_cons (pv 1) pa_nil)))) (pa_cons (pe_op op_add pe_int (pe_h hp hr (pa_cons (pv 0) (pa_cons (pv 1) pa_nil)))) (pa_cons (pe_lst pa_nil) pa_nil))) (by rfl))
      (pss_cons (ps_set (i := 5) scLand.nd rfl (.inl rfl) (pe_lst pa_nil))
      (pss_cons (ps_for PassesOwn.never rfl (pi_range1 rfl B.range (pa_cons (pv 2) pa_nil)) (pg_name (i := 6) scLand.nd rfl (.inl rfl))
        (pss_cons (ps_set (i := 7) scLand.nd rfl (.inl rfl) (pe_lst pa_nil))
        (pss_cons (ps_for PassesOwn.never rfl (pi_range1 rfl B.range (pa_cons (pv 3) pa_nil)) (pg_name (i := 8) scLand.nd rfl (.inl rfl))
          (pss_cons (ps_set (i := 9) scLand.nd rfl (.inl rfl) (pe_and (pe_cmpR op_eq (pe_h hp hr (pa_cons (pv 0) (pa_cons pe_int pa_nil))) pe_int (nomark _)) (pe_one (pe_or (pe_cmpR (op_neD hr.units) (pv 4) (pe_lst pa_nil) (nomark _)) (pe_one (pe_cmpR op_lt (pe_op op_add (pe_op op_add (pv 6) (pv 8)) pe_int) (pe_op op_add (pv 2) (pv 3)) (nomark _)))))))
          (pss_cons (ps_set (i := 10) scLand.nd rfl (.inl rfl) (pe_h hF hr (pa_cons (pv 0) (pa_cons (pv 4) pa_nil))))
          (pss_cons (ps_if (pt_truth (pv 9) (by intro _; rfl)) (pss_one (ps_set (i := 10) scLand.nd rfl (.inl rfl) pe_non)) (pss_one (ps_expr (pe_bm PySem.F.plainAttrs_list PySem.F.slot_list_append PySem.F.type_list_append mt_append (pv 4) (pa_cons (pv 10) pa_nil)))))
          (pss_one (ps_expr (pe_bm PySem.F.plainAttrs_list PySem.F.slot_list_append PySem.F.type_list_append mt_append (pv 7) (pa_cons (pv 10) pa_nil))))))))
        (pss_one (ps_expr (pe_bm PySem.F.plainAttrs_list PySem.F.slot_list_append PySem.F.type_list_append mt_append (pv 5) (pa_cons (pe_callTy call_tuple_of (by rfl) B.tuple (by decide +kernel) (pa_cons (pv 7) pa_nil)) pa_nil)))))))
      (pss_one (ps_ret (pe_callTy call_tuple_of (by rfl) B.tuple (by decide +kernel) (pa_cons (pv 5) pa_nil)))))), ?_⟩
    refine ⟨_, rfl, _, rfl, a, m, rfl, hA, by omega, by omega, fun r1 H1 r10 r11 hA1 s1 n1 => ⟨_, _, rfl, rfl, ?_⟩⟩
    refine ⟨_, rfl, _, rfl, a, m, rfl, hA1, by omega, by omega, fun r2 H2 r20 r21 hA2 s2 n2 => ⟨_, _, rfl, rfl, ?_⟩⟩
    refine ⟨lz, fun tA htA => ⟨_, _, _, rfl, lz, fun lA hlA => ?_⟩⟩
    have nta : tA ≠ a := hA2.ne htA
    have nla : lA ≠ a := (hA2.same (same_new htA)).ne hlA
    have nlt : lA ≠ tA := (ne_of_none upd_same hlA).symm
    have htA0 : H tA = none := SameX.free (s1.trans s2) nta htA
    have hlA0 : H lA = none := SameX.free ((s1.trans s2).trans (sx (same_new htA))) nla hlA
    obtain ⟨hi, ehi⟩ : ∃ hi : Nat, 1 + r1 = (hi : Int) := ⟨(1 + r1).toNat, by omega⟩
    obtain ⟨wd, ewd⟩ : ∃ wd : Nat, 1 + r2 = (wd : Int) := ⟨(1 + r2).toNat, by omega⟩
    have n1 : (1 + r1).toNat = hi := by omega
    have n2 : (1 + r2).toNat = wd := by omega
    have hhi : 1 ≤ hi ∧ hi ≤ 6 := by omega
    have hwd : 1 ≤ wd ∧ wd ≤ 6 := by omega
    have L0 : Laying H (upd (upd H2 tA (.lst [])) lA (.lst [])) a tA lA [] wd [] := by
      refine ⟨(hA2.same (same_new htA)).same (same_new hlA), sameX_mut (sameX_mut (s1.trans s2) htA0) hlA0, ?_, ⟨[], upd_same, .nil⟩, (fun r hr => nomatch hr), List.nodup_nil, (fun z hz => nomatch hz)⟩
      rw [upd_ne nlt.symm, upd_same]
      rfl
    generalize upd (upd H2 tA (.lst [])) lA (.lst []) = H3 at L0
    refine ⟨_, rfl, 1 + r1, rfl, by omega, by omega, ?_⟩
    rw [n1]
    refine for_range (lo := 0) (n := hi) (fun i σ H' => ∃ (g : Grid) (y6 y7 y8 y9 y10 : Option V), σ = [some (.ref a), some (.int m), some (.int (1 + r1)), some (.int (1 + r2)), some (.ref tA), some (.ref lA), y6, y7, y8, y9, y10] ∧ g.length = i ∧ Laying H H' a tA lA g wd [] ∧ (i = hi → names g ≠ []))
      ⟨[], none, none, none, none, none, rfl, rfl, L0, fun e => by omega⟩ ?_ ?_
    · rintro i σ H4 hi4 ⟨g, y6, y7, y8, y9, y10, rfl, hgl, L4, _⟩
      refine ⟨lz, fun pA hpA => ?_⟩
      have npa : pA ≠ a := L4.purse.ne hpA
      have npt : pA ≠ tA := (ne_of_none L4.towns hpA).symm
      obtain ⟨as4, hl4, hR4⟩ := L4.laid
      have npl : pA ≠ lA := (ne_of_none hl4 hpA).symm
      have L5 := L4.go nta nla (L4.purse.same (same_new (o := .lst []) hpA)) (sx (same_new hpA))
      refine ⟨_, rfl, 1 + r2, rfl, by omega, by omega, ?_⟩
      rw [n2]
      refine for_range (lo := 0) (n := wd) (fun j σ H' => ∃ (ps : Row) (y8 y9 y10 : Option V), σ = [some (.ref a), some (.int m), some (.int (1 + r1)), some (.int (1 + r2)), some (.ref tA), some (.ref lA), some (.int (0 + i)), some (.ref pA), y8, y9, y10] ∧ ps.length = j ∧ Laying H H' a tA lA g wd ps ∧ H' pA = some (.lst (ps.map oV)) ∧ (i + 1 = hi → j = wd → names g ++ rnames ps ≠ []))
        ⟨[], _, _, _, rfl, rfl, L5, upd_same, fun _ e => by omega⟩ ?_ ?_
      · rintro j σ H6 hj ⟨ps, z8, z9, z10, rfl, hpl, L6, hp6, _⟩
        refine lake_reads (a := a) (tA := tA) (x := 0 + i) (y := 0 + j) (hi := 1 + r1) (wd := 1 + r2) rfl rfl rfl rfl rfl rfl L6.purse L6.towns nta L6.wds fun b H7 hA7 s7 hb => ?_
        have L7 := L6.go nta nla hA7 s7
        have hp7 := s7 _ _ npa hp6
        have hlen : (names g ++ rnames ps).length ≤ 35 := by
          have h1 := len_names L6.rows
          have h2 : (rnames ps).length ≤ ps.length := List.length_filterMap_le id ps
          rw [List.length_append]
          have h3 : g.length * wd ≤ 5 * wd := Nat.mul_le_mul_right _ (by omega)
          omega
        refine ⟨_, rfl, _, rfl, a, tA, names g ++ rnames ps, rfl, L7.purse, L7.towns, nta, hlen, fun z H8 hz hzn hA8 s8 => ?_⟩
        have L8 := L7.go nta nla hA8 s8
        have hp8 := s8 _ _ npa hp7
        have hlt : ((names g ++ rnames ps).map V.str).length < sizeLine := by
          rw [List.length_map]
          exact small1000 (by omega)
        have hpl2 : (ps.map oV).length < sizeLine := by
          rw [List.length_map]
          exact small1000 (by omega)
        refine ⟨_, rfl, b, rfl, ite_b (fun e => ?_) (fun e => ?_)⟩
        · -- a lake
          refine ⟨_, rfl, .inl ⟨rfl, _, .inl (.inl hp8)⟩, _, rfl, pA, _, _, rfl, rfl, hp8, hpl2, ?_⟩
          obtain ⟨as8, hl8, hR8⟩ := L8.laid
          refine ⟨ps ++ [none], _, _, _, rfl, by simp [hpl], ⟨?_, ?_, ?_, ⟨as8, ?_, hR8.keep (tk_upd hp8)⟩, L8.rows, ?_, ?_⟩, ?_, ?_⟩
          · obtain ⟨x0, x1, x2, hx, hx1⟩ := L8.purse
            exact ⟨x0, x1, x2, by rw [upd_ne npa.symm]; exact hx, hx1⟩
          · exact sameX_mut L8.same (SameX.free L4.same npa hpA)
          · rw [upd_ne npt.symm, rnames_snoc]
            simpa using L8.towns
          · rw [upd_ne npl.symm]
            exact hl8
          · rw [rnames_snoc]
            simpa using L8.nd
          · rw [rnames_snoc]
            simpa using L8.wds
          · rw [upd_same, List.map_append]
            rfl
          · intro e1 e2
            rw [rnames_snoc]
            rcases hb e with h | h
            · simpa using h
            · omega
        · -- a village
          refine ⟨_, rfl, .inl ⟨rfl, _, .inl (.inl L8.towns)⟩, _, rfl, tA, _, _, rfl, rfl, L8.towns, hlt, ?_⟩
          have hp9 : upd H8 tA (.lst ((names g ++ rnames ps).map V.str ++ [.str z])) pA = some (.lst (ps.map oV)) := by
            rw [upd_ne npt]
            exact hp8
          refine ⟨_, rfl, .inl ⟨rfl, _, .inl (.inl hp9)⟩, _, rfl, pA, _, _, rfl, rfl, hp9, hpl2, ?_⟩
          obtain ⟨as8, hl8, hR8⟩ := L8.laid
          have en : names g ++ rnames (ps ++ [some z]) = (names g ++ rnames ps) ++ [z] := by
            rw [rnames_snoc, List.append_assoc]
            rfl
          refine ⟨ps ++ [some z], _, _, _, rfl, by simp [hpl], ⟨?_, ?_, ?_, ⟨as8, ?_, (hR8.keep (tk_upd L8.towns)).keep (tk_upd hp9)⟩, L8.rows, ?_, ?_⟩, ?_, ?_⟩
          · obtain ⟨x0, x1, x2, hx, hx1⟩ := L8.purse
            exact ⟨x0, x1, x2, by rw [upd_ne npa.symm, upd_ne nta.symm]; exact hx, hx1⟩
          · exact sameX_mut (sameX_mut L8.same htA0) (SameX.free L4.same npa hpA)
          · rw [upd_ne npt.symm, upd_same, en]
            simp
          · rw [upd_ne npl.symm, upd_ne nlt]
            exact hl8
          · rw [en, List.nodup_append]
            refine ⟨L8.nd, by simp, fun x hx y hy e => ?_⟩
            rw [List.mem_singleton.mp hy] at e
            rw [e] at hx
            exact hzn hx
          · rw [en]
            intro y hy
            rcases List.mem_append.mp hy with hy | hy
            · exact L8.wds y hy
            · rw [List.mem_singleton.mp hy]
              exact hz
          · rw [upd_same, List.map_append]
            rfl
          · intro _ _
            rw [en]
            simp
      · rintro σ H6 ⟨ps, z8, z9, z10, rfl, hpl, L6, hp6, hne⟩
        obtain ⟨as6, hl6, hR6⟩ := L6.laid
        refine ⟨_, rfl, .inl ⟨rfl, _, .inl (.inl hl6)⟩, _, rfl, pA, _, rfl, .inl ⟨.inl (.inl hp6), fun t ht => ?_⟩⟩
        have nlt6 : lA ≠ t := ne_of_none hl6 ht
        refine ⟨lA, _, _, rfl, rfl, (same_new ht) _ _ hl6, ?_, ?_⟩
        · rw [List.length_map, hR6.length]
          exact small1000 (by omega)
        · refine ⟨g ++ [ps], _, _, _, _, _, rfl, by simp [hgl], ⟨?_, ?_, ?_, ⟨as6 ++ [t], ?_, ?_⟩, ?_, ?_, ?_⟩, ?_⟩
          · obtain ⟨x0, x1, x2, hx, hx1⟩ := L6.purse.same (same_new (o := .tup (ps.map oV)) ht)
            exact ⟨x0, x1, x2, by rw [upd_ne nla.symm]; exact hx, hx1⟩
          · exact sameX_mut (L6.same.trans (sx (same_new ht))) hlA0
          · rw [upd_ne nlt.symm, (same_new ht) _ _ L6.towns, names_snoc]
            simp [rnames]
          · rw [upd_same, List.map_append]
            rfl
          · refine Each.append ((hR6.keep (tk_new ht)).keep (tk_upd ((same_new ht) _ _ hl6))) (.cons ?_ .nil)
            rw [upd_ne nlt6.symm, upd_same]
          · intro r hr
            rcases List.mem_append.mp hr with hr | hr
            · exact L6.rows r hr
            · rw [List.mem_singleton.mp hr]
              exact hpl
          · rw [names_snoc]
            simpa [rnames] using L6.nd
          · rw [names_snoc]
            simpa [rnames] using L6.wds
          · intro e
            rw [names_snoc]
            exact hne e rfl
    · rintro σ H4 ⟨g, y6, y7, y8, y9, y10, rfl, hgl, L4, hne⟩
      obtain ⟨as4, hl4, hR4⟩ := L4.laid
      refine ⟨_, rfl, lA, _, rfl, .inl ⟨.inl (.inl hl4), fun t ht => ?_⟩⟩
      refine q t g wd _ ⟨by omega, by omega, hwd.1, hwd.2, L4.rows, ?_, ?_, hne rfl⟩ ⟨as4, upd_same, hR4.keep (tk_new ht)⟩ (L4.purse.same (same_new ht)) (L4.same.trans (sx (same_new ht)))
      · simpa [rnames] using L4.nd
      · simpa [rnames] using L4.wds
end
end Wl

namespace Wl
open PySem PySem.Spec PyProof.Rows L2
abbrev sIsWord : Stmt := topS 7
abbrev sAreRows : Stmt := topS 12
abbrev sWrong : Stmt := topS 13
abbrev sSpotsIn : Stmt := topS 14
abbrev sSpots : Stmt := topS 15
structure Gk (mg : Str → Option Value) : Prop where
  letters : ∃ t, mg "LETTERS" = some (.str "abcdefghijklmnopqrstuvwxyz" t)
  longest : ∃ t, mg "LONGEST_WORD" = some (.int 8 t)
  mrows : ∃ t, mg "MOST_ROWS" = some (.int 6 t)
  mcols : ∃ t, mg "MOST_COLUMNS" = some (.int 6 t)
section
variable {P : Program} {w : World} {K : PySem.W.Frag} {mg : Str → Option Value} {base : Heap} {f : Addr} {fd : FuncData}

/-! ### is_word of a text -/
def spIsWord : Sp := fun vs H Q _ => ∃ (z : Str), vs = [.str z] ∧ z.length ≤ 1000 ∧ ∀ (H' : Hp), Same H H' → Q (.bl (wdB z)) H'
abbrev nIsWord : List Str := ["thing", "letter"]
theorem scIsWord : FnScope nIsWord ["thing"] (defScope sIsWord) := ⟨rfl, rfl, rfl, by decide +kernel, rfl, by decide +kernel, by decide +kernel⟩
def letB (c : Nat) : Bool := decide (97 ≤ c) && decide (c ≤ 122)
def letV : V → V
  | .str s => .bl (s.cps.toList.all letB)
  | v => v
theorem letB_mem (c : Nat) : decide (c ∈ ("abcdefghijklmnopqrstuvwxyz" : Str).cps.toList) = letB c := by
  rw [letters_eq]
  unfold letB
  by_cases h : c ∈ List.range' 97 26
  · rw [decide_eq_true h]
    rw [List.mem_range'_1] at h
    simp
    omega
  · rw [decide_eq_false h]
    rw [List.mem_range'_1] at h
    symm
    rw [Bool.and_eq_false_iff, decide_eq_false_iff_not, decide_eq_false_iff_not]
    omega
theorem ok_isword (F : Fun K "is_word" "is_word" sIsWord f fd) (B : Bi mg) (G : Gk mg) : FnOk P w K mg base CX0 1 f fd ["thing"] spIsWord := by
  obtain ⟨t1, g1⟩ := G.letters
  obtain ⟨t2, g2⟩ := G.longest
  refine F.ok scIsWord (fun vs H Q E h => ?_) (fun cdv A outer s H vs Q E hr h => ?_)
  · obtain ⟨z, rfl, _⟩ := h
    rfl
  · obtain ⟨z, rfl, hz, q⟩ := h
    refine ⟨_, pss_cons (ps_if (PW.pt (pw_or (pt_not (pt_val (pe_callB call_isi (by rfl) B.isi (by decide +kernel) (pa_cons (pv 0) (pa_cons (pe_bltn (v := .ty "str") (by rfl) B.str (by decide +kernel) rfl) pa_nil)))))
        (pw_or1 (pt_not (pt_chain op_le op_le pe_int (pe_callB call_len_str (by rfl) B.len PySem.boot_len (pa_cons (pv 0) pa_nil)) (pe_glob (v := .int 8) rfl g2 ⟨_, rfl⟩)))))) (pss_one (ps_ret pe_bl)) pss_nil)
      (pss_one (ps_ret (pe_callB (cr_all rfl) (by rfl) B.all (by decide +kernel) (pa_cons (pe_lc (own := [("letter", 1)]) (g := gName 1) (tt := tYes) rfl scIsWord.nd (pi_str (pv 0)) (blkOk_by (N := nIsWord) (sc := defScope sIsWord) (by decide +kernel))
        (fun _ _ _ _ _ => pg_name (i := 1) scIsWord.nd rfl (.inl rfl)) (fun _ _ _ _ _ => pts_nil) (fun _ _ _ _ _ => pe_cmpR op_in_sign (pv 1) (pe_glob (v := .str "abcdefghijklmnopqrstuvwxyz") rfl g1 ⟨_, rfl⟩) rfl)) pa_nil)))), ?_⟩
    refine ⟨_, rfl, _, _, _, _, _, rfl, .ty "str", .base (.str z), kit_ty (r := true) (by decide +kernel), true, rfl, ?_⟩
    refine iteF ⟨_, rfl, _, rfl, lzl hz, _, _, rfl, rfl, _, rfl, ite_b (fun e1 => ?_) (fun e1 => ?_)⟩
    · refine ⟨_, _, rfl, rfl, _, rfl, not_b (fun e2 => ?_) (fun e2 => ?_)⟩
      · have e2' : ¬ ((z.length : Int) ≤ 8) := of_decide_eq_false e2
        have : wdB z = false := by
          unfold wdB
          rw [decide_eq_false (show ¬ z.length ≤ 8 by omega)]
          simp
        rw [← this]
        exact q H (Same.refl H)
      · have h1 : 1 ≤ z.length := by
          have := of_decide_eq_true e1
          omega
        have h8 : z.length ≤ 8 := by
          have := of_decide_eq_true e2
          omega
        refine ⟨_, rfl, _, rfl, fun D hD => lc_map walk_signs hD (fun _ => true) letV (fun _ _ => trivial) (fun _ => rfl) (fun x H' _ _ Q' q' => q') ?_ ?_ ?_⟩
        · intro x H' hx _ _ Q' q'
          obtain ⟨c, hc, rfl⟩ := List.mem_map.mp hx
          refine ⟨_, rfl, c, _, rfl, rfl, ?_⟩
          rw [letB_mem]
          have : letV (.str (sign c)) = .bl (letB c) := by
            show V.bl ([c].all letB) = _
            simp
          rw [this] at q'
          exact q'
        · unfold signsOf
          rw [List.length_map, Array.length_toList]
          exact small1000 (by have : z.length = z.cps.size := rfl; omega)
        · intro H' s' hD'
          have e0 : ((signsOf z).filter fun _ => true).map letV = (z.cps.toList.map letB).map V.bl := by
            rw [List.filter_eq_self.mpr fun _ _ => rfl]
            unfold signsOf
            rw [List.map_map, List.map_map]
            refine List.map_congr_left fun c _ => ?_
            show V.bl ([c].all letB) = _
            simp
          refine ⟨D, z.cps.toList.map letB, rfl, .inl (.inl (by rw [hD', e0])), ?_⟩
          have : (z.cps.toList.map letB).all id = wdB z := by
            unfold wdB
            rw [decide_eq_true h1, decide_eq_true h8, List.all_map]
            rfl
          rw [this]
          exact q H' s'
    · refine ⟨false, rfl, iteT ?_⟩
      have : wdB z = false := by
        have e1' : ¬ ((1 : Int) ≤ z.length) := of_decide_eq_false e1
        unfold wdB
        rw [decide_eq_false (show ¬ 1 ≤ z.length by omega)]
        simp
      rw [← this]
      exact q H (Same.refl H)
end
end Wl

namespace Wl
open PySem PySem.Spec PyProof.Rows L2
section
variable {P : Program} {w : World} {K : PySem.W.Frag} {mg : Str → Option Value} {base : Heap} {f : Addr} {fd : FuncData}

/-! ### are_rows of a good grid -/
def spAreRows : Sp := fun vs H Q _ => ∃ (L : Addr) (g : Grid) (wd : Nat), vs = [.ref L] ∧ GridAt H L g ∧ Good g wd ∧ Q (.bl true) H
abbrev nAreRows : List Str := ["thing", "row"]
theorem scAreRows : FnScope nAreRows ["thing"] (defScope sAreRows) := ⟨rfl, rfl, rfl, by decide +kernel, rfl, by decide +kernel, by decide +kernel⟩
theorem ok_arerows (F : Fun K "are_rows" "are_rows" sAreRows f fd) (B : Bi mg) (G : Gk mg) : FnOk P w K mg base CX0 1 f fd ["thing"] spAreRows := by
  obtain ⟨t1, g1⟩ := G.mrows
  obtain ⟨t2, g2⟩ := G.mcols
  refine F.ok scAreRows (fun vs H Q E h => ?_) (fun cdv A outer s H vs Q E hr h => ?_)
  · obtain ⟨L, g, wd, rfl, _⟩ := h
    rfl
  · obtain ⟨L, g, wd, rfl, ⟨as, hL, hR⟩, gd, q⟩ := h
    refine ⟨_, pss_cons (ps_if (PW.pt (pw_or (pt_not (pt_val (pe_callB call_isi (by rfl) B.isi (by decide +kernel) (pa_cons (pv 0) (pa_cons (pe_bltn (v := .ty "tuple") (by rfl) B.tuple (by decide +kernel) rfl) pa_nil)))))
        (pw_or1 (pt_not (pt_chain op_le op_le pe_int (pe_callB call_len_seq (by rfl) B.len PySem.boot_len (pa_cons (pv 0) pa_nil)) (pe_glob (v := .int 6) rfl g1 ⟨_, rfl⟩)))))) (pss_one (ps_ret pe_bl)) pss_nil)
      (pss_cons (ps_for PassesOwn.never rfl (pi_tup (pv 0)) (pg_name (i := 1) scAreRows.nd rfl (.inl rfl))
        (pss_one (ps_if (PW.pt (pw_or (pt_not (pt_val (pe_callB call_isi (by rfl) B.isi (by decide +kernel) (pa_cons (pv 1) (pa_cons (pe_bltn (v := .ty "tuple") (by rfl) B.tuple (by decide +kernel) rfl) pa_nil)))))
          (pw_or (pt_not (pt_chain op_le op_le pe_int (pe_callB call_len_seq (by rfl) B.len PySem.boot_len (pa_cons (pv 1) pa_nil)) (pe_glob (v := .int 6) rfl g2 ⟨_, rfl⟩)))
          (pw_or1 (pt_cmpR op_ne (pe_callB call_len_seq (by rfl) B.len PySem.boot_len (pa_cons (pv 1) pa_nil)) (pe_callB call_len_seq (by rfl) B.len PySem.boot_len (pa_cons (pe_ix ix_tup (pv 0) pe_int (fun _ _ => rfl)) pa_nil)) (nomark _)))))) (pss_one (ps_ret pe_bl)) pss_nil)))
      (pss_one (ps_ret pe_bl))), ?_⟩
    have hlen : (as.map V.ref).length = g.length := by rw [List.length_map, hR.length]
    have hST : SqT K H L (as.map V.ref) := .inl (.inl hL)
    have h16 : 1 ≤ g.length ∧ g.length ≤ 6 := ⟨gd.h1, gd.h6⟩
    have w16 : 1 ≤ wd ∧ wd ≤ 6 := ⟨gd.w1, gd.w6⟩
    refine ⟨_, rfl, _, _, _, _, _, rfl, .ty "tuple", .base (.tup hL), kit_ty (r := true) (by decide +kernel), true, rfl, ?_⟩
    refine iteF ⟨_, rfl, L, _, rfl, .inr hST, _, _, rfl, rfl, _, rfl, ite_b (fun e1 => ?_) (fun e1 => ?_)⟩
    · refine ⟨_, _, rfl, rfl, _, rfl, not_b (fun e2 => ?_) (fun e2 => ?_)⟩
      · have := of_decide_eq_false e2
        omega
      · refine ⟨_, rfl, L, rfl, ⟨_, hST⟩, for_tup (K := K) (a := L) (xs := as.map V.ref) (fun i σ H' => (∃ y, σ = [some (.ref L), y]) ∧ H' = H) ⟨⟨_, rfl⟩, rfl⟩ (fun i σ H' _ h => by rw [h.2]; exact hST) ?_ ?_⟩
        · rintro i x σ H' hx ⟨⟨y, rfl⟩, rfl⟩
          rw [List.getElem?_map] at hx
          obtain ⟨p, hp, rfl⟩ := Option.map_eq_some_iff.mp hx
          obtain ⟨row, hrow, hH⟩ := hR.get hp
          have hrl : (row.map oV).length = wd := by rw [List.length_map]; exact gd.rows row (List.mem_of_getElem? hrow)
          have hrT : SqT K H' p (row.map oV) := .inl (.inl hH)
          obtain ⟨p0, hp0⟩ : ∃ p0, as[0]? = some p0 := by
            cases as with
            | nil =>
              have := hR.length
              simp at this
              omega
            | cons a0 r => exact ⟨a0, rfl⟩
          obtain ⟨row0, hrow0, hH0⟩ := hR.get hp0
          have hr0l : (row0.map oV).length = wd := by rw [List.length_map]; exact gd.rows row0 (List.mem_of_getElem? hrow0)
          refine ⟨_, rfl, _, _, _, _, _, rfl, .ty "tuple", .base (.tup hH), kit_ty (r := true) (by decide +kernel), true, rfl, ?_⟩
          refine iteF ⟨_, rfl, p, _, rfl, .inr hrT, _, _, rfl, rfl, _, rfl, ite_b (fun e3 => ?_) (fun e3 => ?_)⟩
          · refine ⟨_, _, rfl, rfl, _, rfl, not_b (fun e4 => ?_) (fun e4 => ?_)⟩
            · have := of_decide_eq_false e4
              omega
            · refine ⟨_, rfl, p, _, rfl, .inr hrT, _, rfl, L, _, 0, .ref p0, rfl, rfl, hST, atI_nat (j := 0) (by rw [List.getElem?_map, hp0]; rfl), p0, _, rfl, .inr (.inl (.inl hH0)), rfl, _, rfl, ?_⟩
              refine iteNS (by rw [hrl, hr0l]) ?_
              exact ⟨⟨_, rfl⟩, rfl⟩
          · have := of_decide_eq_false e3
            omega
        · rintro σ H' ⟨⟨y, rfl⟩, rfl⟩
          exact q
    · have := of_decide_eq_false e1
      omega
end
end Wl

/-! A dict comprehension of two clauses: {k: v for a in .. if .. for b in .. if ..}. -/
namespace Wl
open PySem PySem.Spec PyProof.Rows L2
/-- the whole of it -/
abbrev two (kx vx ta ia tb ib : Expr) (fa fb : List Expr) (sc : Scope) (pos : Pos) : Expr := .DictComp kx vx [⟨ta, ia, fa, 0⟩, ⟨tb, ib, fb, 0⟩] sc pos
/-- a clause's tests -/
abbrev testsOf (fs : List Expr) (env : Env) : Sem Bool :=
  forIn fs true fun c r => if r = true then (do let y ← isTrue c env (eval c env); pure (ForInStep.yield y)) else pure (ForInStep.yield r)
/-- a turn of a clause: no item is left, or one comes, is stored and tested -/
def Turned (M : Model) (A : Around) (env : Env) (tg : Expr) (it : Value) (fs : List Expr) (stop : Shared → Prop) (k : Bool → Shared → Prop) (E : Value → Shared → Prop) (s : Shared) : Prop :=
  wpAny M A (pyNext it) (fun r s1 => match r with
    | none => stop s1
    | some u => wpAny M A (letOwnedTupleGo tg it u) (fun _ s2 => wpAny M A (assign tg env u) (fun _ s3 => wpAny M A (testsOf fs env) k E s3) E s2) E s1) E s
section
variable {kx vx ta ia tb ib : Expr} {fa fb : List Expr} {sc : Scope} {pos : Pos} {it : Value} {D : Addr} {env : Env}
theorem turnA : compTurn (two kx vx ta ia tb ib fa fb sc pos) 0 it (.ref D) env = (do
    standAt ia.pos
    match ← pyNext it with
    | none => pure (.done .next)
    | some u =>
      letOwnedTupleGo ta it u
      assign ta env u
      let yes ← testsOf fa env
      if yes = true then
        let x ← eval ib env
        standAt ib.pos
        let z ← foldedSetIterable ib env x
        let _ ← runOwn (.compStart (two kx vx ta ia tb ib fa fb sc pos) 1 (← holding [z] (pyIter z)) (.ref D) env) env
      again (.compLoop (two kx vx ta ia tb ib fa fb sc pos) 0 it (.ref D) env)) := rfl
theorem turnB : compTurn (two kx vx ta ia tb ib fa fb sc pos) 1 it (.ref D) env = (do
    standAt ib.pos
    match ← pyNext it with
    | none => pure (.done .next)
    | some u =>
      letOwnedTupleGo tb it u
      assign tb env u
      let yes ← testsOf fb env
      if yes = true then
        (do
          let a ← eval kx env
          let b ← holding [a] (eval vx env)
          standAt { kx.pos with endLine := vx.pos.endLine, endCol := vx.pos.endCol }
          holding [a, b] (dictSet D a b))
      again (.compLoop (two kx vx ta ia tb ib fa fb sc pos) 1 it (.ref D) env)) := rfl
variable {prog : Program} {w : World} {A : Around} {R : Result → Shared → Prop} {s : Shared}
/-- what an error leaves behind it -/
abbrev errs (prog : Program) (w : World) (A : Around) (env : Env) (R : Result → Shared → Prop) : Value → Shared → Prop := notedBy (model prog w) A env fun e s' => R (.error e) s'
theorem loopA (plain : ∀ x, foldedSetIterable ib env x = pure x) (I : Nat → Shared → Prop)
    (turn : ∀ n s, I n s → Turned (model prog w) A env ta it fa (R (.ok .next)) (fun yes s1 => if yes = true then
        wpAny (model prog w) A (eval ib env) (fun x s2 => wpAny (model prog w) A (pyIter x) (fun j s3 => codeAny (model prog w) A (.compStart (two kx vx ta ia tb ib fa fb sc pos) 1 j (.ref D) env) (fun r s4 => (∃ f, r = .ok f) ∧ ∃ m, m < n ∧ I m s4) s3) (errs prog w A env R) s2) (errs prog w A env R) s1
      else ∃ m, m < n ∧ I m s1) (errs prog w A env R) s)
    (n : Nat) (h : I n s) : codeAny (model prog w) A (.compLoop (two kx vx ta ia tb ib fa fb sc pos) 0 it (.ref D) env) R s := by
  refine codeAny_loop rfl I (fun n s hI => wpAny_noted ?_) n h
  have key := turn n s hI
  unfold Turned at key
  show wpAny _ A (compTurn (two kx vx ta ia tb ib fa fb sc pos) 0 it (.ref D) env) _ _ s
  rw [turnA]
  refine wpAny_bind (wpAny_standAt (wpAny_bind (wpAny_mono key ?_ fun _ _ z => z)))
  rintro (_ | u) s1 k1
  · exact wpAny_pure k1
  · refine wpAny_bind (wpAny_mono k1 (fun _ s2 k2 => wpAny_bind (wpAny_mono k2 (fun _ s3 k3 => wpAny_bind (wpAny_mono k3 ?_ fun _ _ z => z)) fun _ _ z => z)) fun _ _ z => z)
    rintro (_ | _) s4 k4
    · exact wpAny_pure ⟨rfl, k4⟩
    · refine wpAny_bind (wpAny_mono k4 (fun x s5 k5 => wpAny_bind (wpAny_standAt (wpAny_bind (wpAny_of_eq (plain x) (wpAny_bind (wpAny_holding (wpAny_mono k5 (fun j s6 k6 => ?_) fun _ _ z => z))))))) fun _ _ z => z)
      refine wpAny_bind (wpAny_runOwn ?_)
      rw [Around.mark_none]
      refine codeAny_mono k6 ?_
      rintro (e | f) s7 ⟨⟨g, eg⟩, k7⟩
      · cases eg
      · first
          | exact wpAny_pure ⟨rfl, k7⟩
          | exact wpAny_bind (wpAny_pure (wpAny_pure ⟨rfl, k7⟩))
theorem loopB (I : Nat → Shared → Prop)
    (turn : ∀ n s, I n s → Turned (model prog w) A env tb it fb (R (.ok .next)) (fun yes s1 => if yes = true then
        wpAny (model prog w) A (eval kx env) (fun a s2 => wpAny (model prog w) A (eval vx env) (fun b s3 => wpAny (model prog w) A (dictSet D a b) (fun _ s4 => ∃ m, m < n ∧ I m s4) (errs prog w A env R) s3) (errs prog w A env R) s2) (errs prog w A env R) s1
      else ∃ m, m < n ∧ I m s1) (errs prog w A env R) s)
    (n : Nat) (h : I n s) : codeAny (model prog w) A (.compLoop (two kx vx ta ia tb ib fa fb sc pos) 1 it (.ref D) env) R s := by
  refine codeAny_loop rfl I (fun n s hI => wpAny_noted ?_) n h
  have key := turn n s hI
  unfold Turned at key
  show wpAny _ A (compTurn (two kx vx ta ia tb ib fa fb sc pos) 1 it (.ref D) env) _ _ s
  rw [turnB]
  refine wpAny_bind (wpAny_standAt (wpAny_bind (wpAny_mono key ?_ fun _ _ z => z)))
  rintro (_ | u) s1 k1
  · exact wpAny_pure k1
  · refine wpAny_bind (wpAny_mono k1 (fun _ s2 k2 => wpAny_bind (wpAny_mono k2 (fun _ s3 k3 => wpAny_bind (wpAny_mono k3 ?_ fun _ _ z => z)) fun _ _ z => z)) fun _ _ z => z)
    rintro (_ | _) s4 k4
    · exact wpAny_pure ⟨rfl, k4⟩
    · refine wpAny_bind (wpAny_bind (wpAny_mono k4 (fun a s5 k5 => ?_) fun _ _ z => z))
      refine wpAny_bind (wpAny_holding (wpAny_mono k5 (fun b s6 k6 => ?_) fun _ _ z => z))
      exact wpAny_bind (wpAny_standAt (wpAny_holding (wpAny_mono k6 (fun _ s7 k7 => wpAny_pure ⟨rfl, k7⟩) fun _ _ z => z)))
theorem startB (h0 : codeAny (model prog w) A (.compLoop (two kx vx ta ia tb ib fa fb sc pos) 1 it (.ref D) env) R s)
    (h1 : wpAny (model prog w) A (pyIter it) (fun j s' => codeAny (model prog w) A (.compLoop (two kx vx ta ia tb ib fa fb sc pos) 1 j (.ref D) env) R s') (errs prog w A env R) s) :
    codeAny (model prog w) A (.compStart (two kx vx ta ia tb ib fa fb sc pos) 1 it (.ref D) env) R s := by
  refine codeAny_of_tree (wpAny_notedAt (?_ : wpAny _ _ (compStart (two kx vx ta ia tb ib fa fb sc pos) 1 it (.ref D) env) _ _ s))
  unfold compStart
  show wpAny _ _ (ask >>= _) _ _ s
  refine wpAny_bind (wpAny_askSetting (wpAny_ite ?_))
  split
  · first
      | exact wpAny_pure ⟨rfl, h0⟩
      | exact wpAny_bind (wpAny_pure (wpAny_pure ⟨rfl, h0⟩))
  · refine wpAny_bind (wpAny_rule ?_)
    show wpAny _ _ (standAt ib.pos >>= _) _ _ s
    exact wpAny_bind (wpAny_standAt (wpAny_bind (wpAny_mono h1 (fun j s' h' => wpAny_pure ⟨rfl, h'⟩) fun _ _ z => z)))
end
section
variable {Y : Cx} {pins : List (Addr × Obj)} {σ : L2.St} {H : Hp} {s : Shared} {tg : Expr} {J : It} {fp : List Addr} {it : Addr} {tn : Nat → Heap → Prop}
/-- an item comes: stored and tested, the walk's objects held meanwhile -/
theorem clause {g : TG} {tt : TT} {fs : List Expr} {i : Nat} {C : L2.St → Prop} {Z : L2.St → Bool → Hp → Prop} {stop : Shared → Prop} {k : Bool → Shared → Prop} {E : Value → Shared → Prop}
    (quiet : Y.xe = fun _ _ => False) (hc : Y.calm = true) (T : Turn Y.prog Y.w Y.K tg J fp it tn) (pg : PG Y tg g) (pt : PTs Y fs tt) (I : L2.Inv Y pins σ H s)
    (free : ∀ {H' : Hp}, (∀ b ∈ fp, H' b = none) → ∀ b ∈ fp, FpOk Y pins H' b) (none0 : ∀ b ∈ fp, H b = none) (st : tn i s.heap) (go : J.go i H)
    (step : ∀ x H', J.yld i H x H' → g x σ H' fun σ2 H2 => C σ2 ∧ tt σ2 H2 (Z σ2))
    (next : ∀ {s1 s2 : Shared} {σ2 : L2.St} {b : Bool} {H2 : Hp}, tn (i + 1) s1.heap → C σ2 → L2.Inv Y (pins ++ pinsAt fp s1.heap) σ2 H2 s2 → Z σ2 b H2 → k b s2) :
    Turned (model Y.prog Y.w) Y.A Y.env tg (.ref it) fs stop k E s := by
  unfold Turned
  refine thnF (T.item Y rfl rfl rfl hc i pins s σ H (fun _ _ => False) I (free none0) st go) ?_
  rintro _ s1 ⟨u, rfl, h1⟩
  refine thnF h1 ?_
  rintro _ s2 ⟨x, H2, I2, rx, yx, st2, n2⟩
  have held := I2.pinned (free n2) (T.obj _ _ st2)
  have run1 := pg.run _ s2 _ H2 x u _ held rx (step x H2 yx)
  rw [quiet] at run1
  refine thnF run1 ?_
  rintro _ s3 ⟨σ3, H3, I3, c3, q3⟩
  have run2 := pt.run _ s3 σ3 H3 _ I3 q3
  rw [quiet] at run2
  refine thnF run2 ?_
  rintro b s4 ⟨H4, I4, q4⟩
  exact next st2 c3 I4 q4
/-- behind the turn the walk's objects stand as they did -/
theorem walk_stays {i : Nat} {h : Heap} (T : Turn Y.prog Y.w Y.K tg J fp it tn) (st : tn i h) (I : L2.Inv Y (pins ++ pinsAt fp h) σ H s) : tn i s.heap ∧ ∀ b ∈ fp, H b = none := by
  have each : ∀ b ∈ fp, ∀ o, h.get? b = some o → s.heap.get? b = some o ∧ H b = none := fun b hb o e => by
    have z := I.pin (b, o) (List.mem_append_right _ (List.mem_append_right _ (mem_pinsAt hb e)))
    exact ⟨z.1, z.2.1⟩
  refine ⟨T.keep i h s.heap st fun b hb o e => (each b hb o e).1, fun b hb => ?_⟩
  obtain ⟨o, e, _⟩ := T.obj i h st b hb
  exact (each b hb o e).2
end
section
variable {X : Cx}
/-- the second clause: its walk, in each turn of it a pair put -/
def InnD (gb : TG) (ttb : TT) (tk tv : TE) (vs1 : List Nat) (D : Addr) (σ2 : L2.St) (Nx : Hp → Prop) (J1 : It) (H4 : Hp) : Prop :=
  ∃ W1 : Nat → Nat → Hp → Prop, (∃ m, W1 0 m H4) ∧ ∀ j k H, W1 j k H → (J1.stop j H ∧ Nx H) ∨ (J1.go j H ∧ ∃ Nx1 : Hp → Prop, (∀ H', Nx1 H' → ∃ k', k' < k ∧ W1 (j + 1) k' H') ∧
    ∀ x H', J1.yld j H x H' → gb x (wipe σ2 vs1) H' fun σ3 H5 => wipe σ3 vs1 = wipe σ2 vs1 ∧ ttb σ3 H5 fun yes H6 =>
      if yes = true then tk σ3 H6 fun y H7 => tv σ3 H7 fun z H8 => ∃ kvs k, y = kV k ∧ H8 D = some (.dK kvs) ∧ kvs.length < sizeLine ∧ Nx1 (upd H8 D (.dK (putK kvs k z))) else Nx1 H6)
/-- what the comprehension asks: the first clause's walk, in each turn the second's; vs: the names of both clauses, vs1: of the second -/
def tDc2 (wa : TI) (ga : TG) (tta : TT) (wb : TI) (gb : TG) (ttb : TT) (tk tv : TE) (vs vs1 : List Nat) : TE := fun σ H Q => wa σ H fun J H1 => ∀ D, H1 D = none →
  ∃ W : Nat → Nat → Hp → Prop, (∃ m, W 0 m (upd H1 D (.dK []))) ∧ ∀ i m H, W i m H → (J.stop i H ∧ Q (.ref D) H) ∨ (J.go i H ∧ ∃ Nx : Hp → Prop, (∀ H', Nx H' → ∃ m', m' < m ∧ W (i + 1) m' H') ∧
    ∀ x H', J.yld i H x H' → ga x (wipe σ vs) H' fun σ2 H2 => wipe σ2 vs = wipe σ vs ∧ tta σ2 H2 fun yes H3 => if yes = true then wb σ2 H3 (InnD gb ttb tk tv vs1 D σ2 Nx) else Nx H3)
/-- the first clause by a walk that is known -/
theorem dc2_it {J : It} {n : Nat} {G : Hp → Prop} {Y : Nat → Hp → V → Hp → Prop} (w : L2.Walk J n G Y) {ga gb : TG} {tta ttb : TT} {wb : TI} {tk tv : TE} {vs vs1 : List Nat} {σ : L2.St} {H1 : Hp} {D : Addr} {Qd : Hp → Prop} (Pv : Nat → Hp → Prop) (h0 : Pv 0 (upd H1 D (.dK []))) (hG : ∀ i H, i ≤ n → Pv i H → G H)
    (hs : ∀ i x H H', i < n → Pv i H → Y i H x H' → ga x (wipe σ vs) H' fun σ2 H2 => wipe σ2 vs = wipe σ vs ∧ tta σ2 H2 fun yes H3 => if yes = true then wb σ2 H3 (InnD gb ttb tk tv vs1 D σ2 (Pv (i + 1))) else Pv (i + 1) H3) (hd : ∀ H, Pv n H → Qd H) :
    ∃ W : Nat → Nat → Hp → Prop, (∃ m, W 0 m (upd H1 D (.dK []))) ∧ ∀ i m H, W i m H → (J.stop i H ∧ Qd H) ∨ (J.go i H ∧ ∃ Nx : Hp → Prop, (∀ H', Nx H' → ∃ m', m' < m ∧ W (i + 1) m' H') ∧
      ∀ x H', J.yld i H x H' → ga x (wipe σ vs) H' fun σ2 H2 => wipe σ2 vs = wipe σ vs ∧ tta σ2 H2 fun yes H3 => if yes = true then wb σ2 H3 (InnD gb ttb tk tv vs1 D σ2 Nx) else Nx H3) := by
  refine ⟨fun i m H => m + i = n ∧ Pv i H, ⟨n, by simp, h0⟩, fun i m H ⟨e, p⟩ => ?_⟩
  have q := hG i H (by omega) p
  by_cases lt : i < n
  · exact .inr ⟨w.goes i H lt q, Pv (i + 1), fun H' p' => ⟨m - 1, by omega, by omega, p'⟩, fun x H' y => hs i x H H' lt p (w.yields i H x H' lt q y)⟩
  · obtain rfl : i = n := by omega
    exact .inl ⟨w.stops H q, hd H p⟩
/-- the second clause by a walk that is known -/
theorem inn_it {J1 : It} {n : Nat} {G : Hp → Prop} {Y : Nat → Hp → V → Hp → Prop} (w : L2.Walk J1 n G Y) {gb : TG} {ttb : TT} {tk tv : TE} {vs1 : List Nat} {σ2 : L2.St} {H4 : Hp} {D : Addr} {Nx : Hp → Prop} (Pv : Nat → Hp → Prop) (h0 : Pv 0 H4) (hG : ∀ i H, i ≤ n → Pv i H → G H)
    (hs : ∀ j x H H', j < n → Pv j H → Y j H x H' → gb x (wipe σ2 vs1) H' fun σ3 H5 => wipe σ3 vs1 = wipe σ2 vs1 ∧ ttb σ3 H5 fun yes H6 =>
      if yes = true then tk σ3 H6 fun y H7 => tv σ3 H7 fun z H8 => ∃ kvs k, y = kV k ∧ H8 D = some (.dK kvs) ∧ kvs.length < sizeLine ∧ Pv (j + 1) (upd H8 D (.dK (putK kvs k z))) else Pv (j + 1) H6) (hd : ∀ H, Pv n H → Nx H) :
    InnD gb ttb tk tv vs1 D σ2 Nx J1 H4 := by
  refine ⟨fun j k H => k + j = n ∧ Pv j H, ⟨n, by simp, h0⟩, fun j k H ⟨e, p⟩ => ?_⟩
  have q := hG j H (by omega) p
  by_cases lt : j < n
  · exact .inr ⟨w.goes j H lt q, Pv (j + 1), fun H' p' => ⟨k - 1, by omega, by omega, p'⟩, fun x H' y => hs j x H H' lt p (w.yields j H x H' lt q y)⟩
  · obtain rfl : j = n := by omega
    exact .inl ⟨w.stops H q, hd H p⟩
/-- a block of this scope -/
abbrev inBlk (X : Cx) (sc : Scope) (s : Shared) (H : Hp) (C : Addr) (cl : List (Str × Addr)) (fp : List Addr) : Cx := X.blk s H sc (compEnvC sc cl C X.env) fp
theorem pe_dc2 {kx vx ta ia tb ib : Expr} {fa fb : List Expr} {sc : Scope} {own : List (Str × Nat)} {vs1 : List Nat} {pos : Pos} {wa wb : TI} {ga gb : TG} {tta ttb : TT} {tk tv : TE} (hc : X.calm = true) (hN : X.N.Nodup) (hi : PI X ta ia wa) (ok : BlkOk X.N X.env.scope sc own) (hv : ∀ i ∈ vs1, i ∈ own.map (·.2))
    (hga : ∀ s H C cl fp, PG (inBlk X sc s H C cl fp) ta ga) (hta : ∀ s H C cl fp, PTs (inBlk X sc s H C cl fp) fa tta) (hib : ∀ s H C cl fp, PI (inBlk X sc s H C cl fp) tb ib wb) (hgb : ∀ s H C cl fp, PG (inBlk X sc s H C cl fp) tb gb) (htb : ∀ s H C cl fp, PTs (inBlk X sc s H C cl fp) fb ttb)
    (hk : ∀ s H C cl fp, PE (inBlk X sc s H C cl fp) kx tk) (he : ∀ s H C cl fp, PE (inBlk X sc s H C cl fp) vx tv)
    (pa : ∀ x, foldedSetIterable ia X.env x = pure x := by intro _; rfl) (pb : ∀ env x, foldedSetIterable ib env x = pure x := by intro _ _; rfl) :
    PE X (.DictComp kx vx [⟨ta, ia, fa, 0⟩, ⟨tb, ib, fb, 0⟩] sc pos) (tDc2 wa ga tta wb gb ttb tk tv (own.map (·.2)) vs1) := by
  refine ⟨fun pins s σ H Q I h => ?_⟩
  rw [arm_eval_DictComp]
  have clo : ∀ y ∈ sc.names, y.2 = .free → ∃ c, X.env.cells.lookup y.1 = some c := fun y hy e => (ok.free y hy e).elim (fun k => I.ok.has _ (.inl k)) fun k => I.ok.has _ (.inr k)
  refine wpAny_comprehension_free rfl pa (closure_ok clo) ok.kind (fun y hy e => by rw [ok.uniq y hy, e]) (thn (hi.run pins s σ H _ I h) fun _ _ h1 => thn h1 ?_)
  rintro _ s2 ⟨it, fp, tn, J, H2, rfl, I2, T, st2, f2, q⟩
  refine wpAny_newObj_type (newEnv_comp ?_)
  generalize hD : s2.heap.objs.size = D
  have newD : H2 D = none := I2.hok.fresh (Nat.le_of_eq hD)
  obtain ⟨W, ⟨m0, w0⟩, turn⟩ := q D newD
  generalize hs3 : ({ s2 with heap := s2.heap.push { cls := .type "dict", data := .dict #[] } } : Shared) = s3
  have e3 : s3.heap = s2.heap.push { cls := .type "dict", data := .dict #[] } := by rw [← hs3]
  have I3 : L2.Inv X pins σ (upd H2 D (.dK [])) s3 := by
    rw [← hs3]
    exact I2.laid (t' := s2.toks) (fun b o e => Heap.get?_push_of_some _ e) (Nat.le_of_eq hD) (hD ▸ dk_empty s2.heap I2.big)
  have f3 : ∀ b ∈ fp, FpOk X pins (upd H2 D (.dK [])) b ∧ b < s3.heap.objs.size := fun b hb => by
    obtain ⟨o, e, _⟩ := T.obj _ _ st2 b hb
    have small := Heap.lt_size e
    refine ⟨⟨?_, (f2 b hb).2⟩, ?_⟩
    · rw [upd_ne (Nat.ne_of_lt (hD ▸ small))]
      exact (f2 b hb).1
    · rw [e3, Heap.size_push]
      exact Nat.lt_succ_of_lt small
  have st3 : tn 0 s3.heap := T.keep _ _ _ st2 fun b _ o e => by
    rw [e3]
    exact Heap.get?_push_of_some _ e
  have I4 := block_start I3 ok hN f3
  generalize hcl : cellsFrom (s3.heap.objs.size + 1) sc.names (cloFrom X.env.cells sc.names []) = cl at I4
  show codeAny _ _ (.compStart (two kx vx ta ia tb ib fa fb sc pos) 0 (.ref it) (.ref D) (compEnvC sc cl s3.heap.objs.size X.env)) (compPost (model X.prog X.w) X.A X.xe none (EP X pins σ Q) (.ref D) s3.heap.objs.size) { s3 with heap := pushCells (s3.heap.push { cls := .type "dict", data := .dict #[] }) sc.names }
  have none3 : ∀ b ∈ fp, (upd H2 D (.dK [])) b = none := fun b hb => (f3 b hb).1.1
  generalize hH3 : upd H2 D (.dK []) = H3 at I3 I4 w0 none3 f3
  have jga : PG (X.blk s3 H3 sc (compEnvC sc cl s3.heap.objs.size X.env) fp) ta ga := hga s3 H3 s3.heap.objs.size cl fp
  have jta : PTs (X.blk s3 H3 sc (compEnvC sc cl s3.heap.objs.size X.env) fp) fa tta := hta s3 H3 s3.heap.objs.size cl fp
  have jib : PI (X.blk s3 H3 sc (compEnvC sc cl s3.heap.objs.size X.env) fp) tb ib wb := hib s3 H3 s3.heap.objs.size cl fp
  have jgb : PG (X.blk s3 H3 sc (compEnvC sc cl s3.heap.objs.size X.env) fp) tb gb := hgb s3 H3 s3.heap.objs.size cl fp
  have jtb : PTs (X.blk s3 H3 sc (compEnvC sc cl s3.heap.objs.size X.env) fp) fb ttb := htb s3 H3 s3.heap.objs.size cl fp
  have jk : PE (X.blk s3 H3 sc (compEnvC sc cl s3.heap.objs.size X.env) fp) kx tk := hk s3 H3 s3.heap.objs.size cl fp
  have je : PE (X.blk s3 H3 sc (compEnvC sc cl s3.heap.objs.size X.env) fp) vx tv := he s3 H3 s3.heap.objs.size cl fp
  generalize hs4 : ({ s3 with heap := pushCells (s3.heap.push { cls := .type "dict", data := .dict #[] }) sc.names } : Shared) = s4 at I4 ⊢
  have st4 : tn 0 s4.heap := T.keep _ _ _ st3 fun b _ o e => by
    rw [← hs4]
    exact pushCells_keeps _ _ _ _ (Heap.get?_push_of_some _ e)
  generalize hce : compEnvC sc cl s3.heap.objs.size X.env = ce at I4 jga jta jib jgb jtb jk je ⊢
  have cL : ce.locals = s3.heap.objs.size := by
    subst hce
    rfl
  have free0 : ∀ {H' : Hp}, (∀ b ∈ fp, H' b = none) → ∀ b ∈ fp, FpOk (X.blk s3 H3 sc ce fp) [] H' b := fun n b hb =>
    ⟨n b hb, (I4.ok.exf b hb).1, I4.ok.exfs b hb, .inl hb, (I4.ok.exf b hb).2, fun p hp => nomatch (show p ∈ ([] : List (Addr × Obj)) from hp)⟩
  have loop : codeAny (model X.prog X.w) X.A (.compLoop (two kx vx ta ia tb ib fa fb sc pos) 0 (.ref it) (.ref D) ce) (compPost (model X.prog X.w) X.A X.xe none (EP X pins σ Q) (.ref D) s3.heap.objs.size) s4 := by
    refine loopA (pb ce) (fun n s' => ∃ i H', L2.Inv (X.blk s3 H3 sc ce fp) [] (wipe σ (own.map (·.2))) H' s' ∧ tn i s'.heap ∧ (∀ b ∈ fp, H' b = none) ∧ W i n H') ?_ m0 ⟨0, H3, I4, st4, none3, w0⟩
    rintro n s5 ⟨i, H5, I5, st5, n5, w5⟩
    rcases turn i n H5 w5 with ⟨stop, qq⟩ | ⟨go, Nx, hNx, step⟩
    · unfold Turned
      refine thnF (T.done (X.blk s3 H3 sc ce fp) rfl rfl rfl hc i [] s5 _ H5 (fun _ _ => False) I5 (free0 n5) st5 stop) ?_
      rintro _ s6 ⟨rfl, I6⟩
      have I7 : L2.Inv X pins σ H5 s6 := I3.call' (ch := fp) I6.os I6.base I6.hok I6.bare fun b hb => by
        obtain ⟨⟨_, a1, _, a3, a4, a5⟩, _⟩ := f3 b hb
        exact ⟨a3, a1, a4, a5⟩
      have nC : H5 s3.heap.objs.size = none := cL ▸ (show H5 ce.locals = none from I6.free)
      obtain ⟨m, hn, _⟩ := I6.loc
      have hn : s6.heap.Ns s3.heap.objs.size m := cL ▸ (show s6.heap.Ns ce.locals m from hn)
      obtain ⟨g0, g1, _, g3, g4, g5⟩ := I3.fpOk (H' := H5) (Nat.le_refl _) nC
      exact ⟨m, hn, fun h2 sb => ⟨.ref D, H5, I7.turned (t' := s6.toks) (fun b o hb e => (sb.2 b hb).trans e) g0 g1 g3 g4 g5, rfl, qq⟩⟩
    · refine clause (Y := X.blk s3 H3 sc ce fp) rfl hc T jga jta I5 free0 n5 st5 go step ?_
      intro s6 s7 σ7 b H7 st6 w7 I7 q7
      have hl7 : (wipe σ (own.map (·.2))).length = σ7.length := by rw [← w7, wipe_length]
      have fin : ∀ {σ8 : L2.St} {s8 : Shared} {H8 : Hp}, L2.Inv (X.blk s3 H3 sc ce fp) ([] ++ pinsAt fp s6.heap) σ8 H8 s8 → (wipe σ (own.map (·.2))).length = σ8.length → (∀ (j : Nat) v, (wipe σ (own.map (·.2)))[j]? = some (some v) → σ8[j]? = some (some v)) → Nx H8 →
          ∃ m, m < n ∧ ∃ i H', L2.Inv (X.blk s3 H3 sc ce fp) [] (wipe σ (own.map (·.2))) H' s8 ∧ tn i s8.heap ∧ (∀ b ∈ fp, H' b = none) ∧ W i m H' := by
        intro σ8 s8 H8 I8 hl hk nx
        obtain ⟨m', hm, w'⟩ := hNx H8 nx
        obtain ⟨t1, t2⟩ := walk_stays (Y := X.blk s3 H3 sc ce fp) T st6 I8
        exact ⟨m', hm, i + 1, H8, (I8.unpinned (pins := [])).weak hl hk, t1, t2, w'⟩
      cases b with
      | false =>
        rw [if_neg (by decide)] at q7 ⊢
        exact fin I7 hl7 (fun j v e => (wipe_some (w7.symm ▸ e)).1) q7
      | true =>
        rw [if_pos rfl] at q7 ⊢
        refine thnF (jib.run _ s7 σ7 H7 _ I7 q7) fun _ s8 h8 => thnF h8 ?_
        rintro _ s9 ⟨it1, fp1, tn1, J1, H9, rfl, I9, T1, st9, f9, W1, ⟨m1, w1⟩, turn1⟩
        have free1 : ∀ {H' : Hp}, (∀ b ∈ fp1, H' b = none) → ∀ b ∈ fp1, FpOk (X.blk s3 H3 sc ce fp) ([] ++ pinsAt fp s6.heap) H' b := fun n b hb => ⟨n b hb, (f9 b hb).2⟩
        have loop1 : codeAny (model X.prog X.w) X.A (.compLoop (two kx vx ta ia tb ib fa fb sc pos) 1 (.ref it1) (.ref D) ce) (fun r s' => (∃ f, r = .ok f) ∧ ∃ m, m < n ∧ ∃ i H', L2.Inv (X.blk s3 H3 sc ce fp) [] (wipe σ (own.map (·.2))) H' s' ∧ tn i s'.heap ∧ (∀ b ∈ fp, H' b = none) ∧ W i m H') s9 := by
          refine loopB (fun k s' => ∃ j H', L2.Inv (X.blk s3 H3 sc ce fp) ([] ++ pinsAt fp s6.heap) (wipe σ7 vs1) H' s' ∧ tn1 j s'.heap ∧ (∀ b ∈ fp1, H' b = none) ∧ W1 j k H') ?_ m1 ⟨0, H9, I9.weak (wipe_length _ _) (fun j v e => (wipe_some e).1), st9, fun b hb => (f9 b hb).1, w1⟩
          rintro k s10 ⟨j, H10, I10, st10, n10, w10⟩
          rcases turn1 j k H10 w10 with ⟨stop1, nx1⟩ | ⟨go1, Nx1, hNx1, step1⟩
          · unfold Turned
            refine thnF (T1.done (X.blk s3 H3 sc ce fp) rfl rfl rfl hc j _ s10 (wipe σ7 vs1) H10 (fun _ _ => False) I10 (free1 n10) st10 stop1) ?_
            rintro _ s11 ⟨rfl, I11⟩
            refine ⟨⟨_, rfl⟩, fin I11 (hl7.trans (wipe_length σ7 vs1).symm) (fun j v e => ?_) nx1⟩
            obtain ⟨e1, e2⟩ := wipe_some (w7.symm ▸ e)
            rw [wipe_out fun z => e2 (hv j z)]
            exact e1
          · refine clause (Y := X.blk s3 H3 sc ce fp) rfl hc T1 jgb jtb I10 free1 n10 st10 go1 step1 ?_
            intro s11 s12 σ12 b1 H12 st11 w12 I12 q12
            have fin1 : ∀ {s' : Shared} {H' : Hp}, L2.Inv (X.blk s3 H3 sc ce fp) (([] ++ pinsAt fp s6.heap) ++ pinsAt fp1 s11.heap) σ12 H' s' → Nx1 H' → ∃ m, m < k ∧ ∃ j H', L2.Inv (X.blk s3 H3 sc ce fp) ([] ++ pinsAt fp s6.heap) (wipe σ7 vs1) H' s' ∧ tn1 j s'.heap ∧ (∀ b ∈ fp1, H' b = none) ∧ W1 j m H' := by
              intro s' H' I' nx
              obtain ⟨m', hm, w'⟩ := hNx1 H' nx
              obtain ⟨t1, t2⟩ := walk_stays (Y := X.blk s3 H3 sc ce fp) T1 st11 I'
              exact ⟨m', hm, j + 1, H', I'.unpinned.weak (by rw [← w12, wipe_length]) (fun i v e => (wipe_some (w12.symm ▸ e)).1), t1, t2, w'⟩
            cases b1 with
            | false =>
              rw [if_neg (by decide)] at q12 ⊢
              exact fin1 I12 q12
            | true =>
              rw [if_pos rfl] at q12 ⊢
              refine thnF (jk.run _ s12 σ12 H12 _ I12 q12) ?_
              rintro a s13 ⟨ya, H13, I13, ra, q13⟩
              refine thnF (je.run _ s13 σ12 H13 _ I13 q13) ?_
              rintro b s14 ⟨yb, H14, I14, rb, kvs, key, rfl, hD14, small, nx⟩
              exact d_dictSet (X := X.blk s3 H3 sc ce fp) I14 hD14 small ra rb fun s15 I15 => fin1 I15 nx
        exact startB loop1 (T1.self X.A 0 _ _ _ st9 loop1)
  exact codeAny_compStart_dict loop (T.self X.A 0 _ _ _ st4 loop)
end
end Wl

namespace Wl
open PySem PySem.Spec PyProof.Rows L2
/-- the heap keeps all but its lists -/
def Keep (H H' : Hp) : Prop := ∀ p o, (∀ xs, o ≠ .lst xs) → H p = some o → H' p = some o
theorem Keep.refl (H : Hp) : Keep H H := fun _ _ _ h => h
theorem Keep.trans {H H1 H2 : Hp} (a : Keep H H1) (b : Keep H1 H2) : Keep H H2 := fun p o n h => b p o n (a p o n h)
theorem kp_same {H H' : Hp} (s : Same H H') : Keep H H' := fun p o _ h => s p _ h
theorem kp_x {a : Addr} {H H' : Hp} {ys : List V} (s : SameX a H H') (ha : H a = some (.lst ys)) : Keep H H' := fun p o n h => s p _ (fun e => by
  subst e
  rw [ha] at h
  exact n _ (Option.some.inj h).symm) h
theorem kp_upd {a : Addr} {H : Hp} {ys : List V} {o : HO} (ha : H a = some (.lst ys)) : Keep H (upd H a o) := kp_x sameX_upd ha
theorem kp_new {p : Addr} {H : Hp} {o : HO} (hp : H p = none) : Keep H (upd H p o) := kp_same (same_new hp)
theorem Keep.tk {H H' : Hp} (k : Keep H H') : TupKeep H H' := fun p xs h => k p _ (fun ys e => by cases e) h
theorem tk_updD {a : Addr} {H : Hp} {kvs : List (Key × V)} {o : HO} (ha : H a = some (.dK kvs)) : TupKeep H (upd H a o) := fun p xs h => by
  rw [upd_ne (ne_of h ha (by intro z; cases z))]
  exact h
/-- the dict's pairs tell these spots -/
def Ent (H : Hp) (kv : Key × V) (s : Str × Nat × Nat) : Prop := kv.1 = Sum.inr s.1 ∧ ∃ t, kv.2 = .ref t ∧ H t = some (.tup [.int s.2.1, .int s.2.2])
def SpotsAt (H : Hp) (d : Addr) (sp : List (Str × Nat × Nat)) : Prop := ∃ kvs, H d = some (.dK kvs) ∧ Each (Ent H) kvs sp
theorem ent_keep {H H' : Hp} (k : TupKeep H H') {kvs : List (Key × V)} {sp : List (Str × Nat × Nat)} (h : Each (Ent H) kvs sp) : Each (Ent H') kvs sp :=
  Each.mono (fun _ _ ⟨e, t, e2, ht⟩ => ⟨e, t, e2, k _ _ ht⟩) h
theorem SpotsAt.keep {H H' : Hp} {d : Addr} {sp : List (Str × Nat × Nat)} (h : SpotsAt H d sp) (k : Keep H H') : SpotsAt H' d sp := by
  obtain ⟨kvs, h1, h2⟩ := h
  exact ⟨kvs, k _ _ (fun ys e => by cases e) h1, ent_keep k.tk h2⟩
theorem ent_none {H : Hp} {z : Str} : ∀ {kvs : List (Key × V)} {sp : List (Str × Nat × Nat)}, Each (Ent H) kvs sp → z ∉ sp.map (·.1) → valV kvs (Sum.inr z : Key) = none
  | _, _, .nil, _ => rfl
  | _, _, .cons (a := kv) (b := s) r t, h => by
    rw [List.map_cons, List.mem_cons, not_or] at h
    rw [valV_neg (fun e => h.1 (Sum.inr.inj (e.symm.trans r.1)))]
    exact ent_none t h.2
theorem ent_some {H : Hp} {z : Str} {r c : Nat} : ∀ {kvs : List (Key × V)} {sp : List (Str × Nat × Nat)}, Each (Ent H) kvs sp → (sp.map (·.1)).Nodup → (z, r, c) ∈ sp → ∃ t, valV kvs (Sum.inr z : Key) = some (.ref t) ∧ H t = some (.tup [.int r, .int c])
  | _, _, .nil, _, h => by cases h
  | _, _, .cons (a := kv) (b := s) e t, nd, h => by
    obtain ⟨n1, n2⟩ := List.nodup_cons.mp nd
    rcases List.mem_cons.mp h with h | h
    · subst h
      obtain ⟨e1, u, e2, hu⟩ := e
      exact ⟨u, by rw [valV_pos e1, e2], hu⟩
    · have ne : ¬ s.1 = z := fun q => n1 (List.mem_map.mpr ⟨_, h, q.symm⟩)
      obtain ⟨u, e2, hu⟩ := ent_some t n2 h
      exact ⟨u, by rw [valV_neg (fun q => ne (Sum.inr.inj (e.1.symm.trans q)))]; exact e2, hu⟩
theorem ent_keys {H : Hp} : ∀ {kvs : List (Key × V)} {sp : List (Str × Nat × Nat)}, Each (Ent H) kvs sp → kvs.map (fun kv => kV kv.1) = (sp.map (·.1)).map V.str
  | _, _, .nil => rfl
  | _, _, .cons e t => by
    rw [List.map_cons, List.map_cons, List.map_cons, ent_keys t, e.1]
    rfl
section
variable {P : Program} {w : World} {K : PySem.W.Frag} {mg : Str → Option Value} {base : Heap} {f : Addr} {fd : FuncData}
/-! ### wrong_spot of a good grid -/
def spWrong : Sp := fun vs H Q _ => ∃ (L : Addr) (g : Grid) (wd : Nat), vs = [.ref L] ∧ GridAt H L g ∧ Good g wd ∧ ∀ (H' : Hp), Same H H' → Q .non H'
abbrev nWrong : List Str := ["rows", "names", "at", "row", "column", "part"]
theorem scWrong : FnScope nWrong ["rows"] (defScope sWrong) := ⟨rfl, rfl, rfl, by decide +kernel, rfl, by decide +kernel, by decide +kernel⟩
theorem take_snoc {α : Type} {l : List α} {i : Nat} {x : α} (h : l[i]? = some x) : l.take (i + 1) = l.take i ++ [x] := by
  rw [List.take_add_one, h]
  rfl
theorem len_take {α : Type} {l : List α} {i : Nat} {x : α} (h : l[i]? = some x) : (l.take i).length = i := by
  have := (List.getElem?_eq_some_iff.mp h).1
  rw [List.length_take]
  omega
/-- a name isn't among those ahead of it -/
theorem ahead_new {g : Grid} {wd : Nat} (gd : Good g wd) {i j : Nat} {row : Row} {z : Str} (hrow : g[i]? = some row) (ho : row[j]? = some (some z)) : z ∉ (spG 0 (g.take i) ++ spR i 0 (row.take j)).map (·.1) := by
  have hcz : cellAt g i j = some z := cellAt_of hrow ho
  intro hm
  obtain ⟨⟨y, r', c'⟩, hm2, rfl⟩ := List.mem_map.mp hm
  have hlt : (r', c') = (i, j) := by
    have hc2 : cellAt g r' c' = some y := by
      rcases List.mem_append.mp hm2 with h | h
      · obtain ⟨k, row2, e, h1, h2⟩ := (spG_mem _ 0).mp h
        have : r' = k := by omega
        subst this
        rw [List.getElem?_take] at h1
        split at h1
        · exact cellAt_of h1 h2
        · cases h1
      · obtain ⟨e, k, e2, h1⟩ := (spR_mem i _ 0).mp h
        have : c' = k := by omega
        subst this e
        rw [List.getElem?_take] at h1
        split at h1
        · exact cellAt_of hrow h1
        · cases h1
    obtain ⟨h1, h2⟩ := cell_inj gd.nd hc2 hcz
    rw [h1, h2]
  cases hlt
  rcases List.mem_append.mp hm2 with h | h
  · obtain ⟨k, row2, e, h1, h2⟩ := (spG_mem _ 0).mp h
    rw [List.getElem?_take] at h1
    split at h1
    · omega
    · cases h1
  · obtain ⟨e, k, e2, h1⟩ := (spR_mem i _ 0).mp h
    rw [List.getElem?_take] at h1
    split at h1
    · omega
    · cases h1
theorem ahead_len {g : Grid} {wd : Nat} (gd : Good g wd) {i j : Nat} {row : Row} (hrow : g[i]? = some row) : ((spG 0 (g.take i) ++ spR i 0 (row.take j)).map (·.1)).length ≤ 42 := by
  rw [List.map_append, spG_fst, spR_fst, List.length_append]
  have a1 := len_names (g := g.take i) (wd := wd) fun r hr => gd.rows r (List.mem_of_mem_take hr)
  have a2 : (g.take i).length ≤ 6 := by rw [List.length_take]; have := gd.h6; omega
  have a3 : (g.take i).length * wd ≤ 6 * 6 := Nat.mul_le_mul a2 gd.w6
  have a4 : (rnames (row.take j)).length ≤ (row.take j).length := List.length_filterMap_le id _
  have a5 : (row.take j).length ≤ row.length := List.length_take_le' _ _
  have a6 := gd.rows row (List.mem_of_getElem? hrow)
  have a7 := gd.w6
  omega
theorem ahead_snoc {g : Grid} {i j : Nat} {row : Row} {o : Option Str} (ho : row[j]? = some o) : spG 0 (g.take i) ++ spR i 0 (row.take (j + 1)) = spG 0 (g.take i) ++ spR i 0 (row.take j) ++ (o.toList.map fun z => (z, i, j)) := by
  rw [take_snoc ho, spR_snoc, len_take ho, Nat.zero_add, List.append_assoc]
theorem ok_wrong (F : Fun K "wrong_spot" "wrong_spot" sWrong f fd) (B : Bi mg) (hI : Has P w K mg base "is_word" 1 ["thing"] spIsWord) : FnOk P w K mg base CX0 2 f fd ["rows"] spWrong := by
  refine F.ok scWrong (fun vs H Q E h => ?_) (fun cdv A outer s H vs Q E hr h => ?_)
  · obtain ⟨L, g, wd, rfl, _⟩ := h
    rfl
  · obtain ⟨L, g, wd, rfl, hG, gd, q⟩ := h
    refine ⟨_, pss_cons (ps_set (i := 1) scWrong.nd rfl (.inl rfl) (pe_lst pa_nil))
      (pss_cons (ps_for PassesOwn.never rfl (pi_enumT (by rfl) B.enum (pa_cons (pv 0) pa_nil)) (pg_tup rfl (pgs_cons (pg_name (i := 2) scWrong.nd rfl (.inl rfl)) (pgs_cons (pg_name (i := 3) scWrong.nd rfl (.inl rfl)) pgs_nil)))
        (pss_one (ps_for PassesOwn.never rfl (pi_enumT (by rfl) B.enum (pa_cons (pv 3) pa_nil)) (pg_tup rfl (pgs_cons (pg_name (i := 4) scWrong.nd rfl (.inl rfl)) (pgs_cons (pg_name (i := 5) scWrong.nd rfl (.inl rfl)) pgs_nil)))
          (pss_cons (ps_if (pt_cmp (pc_isN (pv 5))) (pss_one ps_continue) pss_nil)
          (pss_cons (ps_if (PW.pt (pw_or (pt_not (pt_val (pe_h hI hr (pa_cons (pv 5) pa_nil)))) (pw_or1 (pt_cmpR op_in_seq (pv 5) (pv 1) (by rfl))))) (pss_one ps_never) pss_nil)
          (pss_one (ps_expr (pe_bm PySem.F.plainAttrs_list PySem.F.slot_list_append PySem.F.type_list_append mt_append (pv 1) (pa_cons (pv 5) pa_nil)))))))))
      (pss_one (ps_ret pe_non))), ?_⟩
    refine ⟨lz, fun d hd => ?_⟩
    obtain ⟨as, hL, hR⟩ := id hG
    have s0 : Same H (upd H d (.lst [])) := same_new hd
    refine ⟨_, rfl, L, _, rfl, .inl (.inl (s0 _ _ hL)), for_it (walk_enumT (K := K) (a := L) (xs := as.map V.ref)) (fun i σ H' => (∃ y2 y3 y4 y5, σ = [some (.ref L), some (.ref d), y2, y3, y4, y5]) ∧ Same H H' ∧ H' d = some (.lst (((spG 0 (g.take i)).map (·.1)).map V.str)))
      ⟨⟨_, _, _, _, rfl⟩, s0, upd_same⟩ (fun i σ H' _ h => .inl (.inl (h.2.1 _ _ hL))) ?_ ?_⟩
    · rintro i x σ H1 H2 hi ⟨⟨y2, y3, y4, y5, rfl⟩, s1, hd1⟩ ⟨T, x1, x2, rfl, hT, rfl, ex1, ex2⟩
      cases ex1
      have ex2 : (as.map V.ref)[i]? = some x2 := ex2
      rw [List.getElem?_map] at ex2
      obtain ⟨p, hp, rfl⟩ := Option.map_eq_some_iff.mp ex2
      obtain ⟨row, hrow, hH⟩ := hR.get hp
      have s2 : Same H1 (upd H1 T (.tup [.int i, .ref p])) := same_new hT
      have hp2 := s2 _ _ (s1 _ _ hH)
      refine ⟨T, _, rfl, .inl (.inl upd_same), rfl, _, _, rfl, _, _, rfl, rfl, ?_⟩
      refine ⟨_, rfl, p, _, rfl, .inl (.inl hp2), for_it (walk_enumT (K := K) (a := p) (xs := row.map oV)) (fun j σ H' => (∃ y4 y5, σ = [some (.ref L), some (.ref d), some (.int i), some (.ref p), y4, y5]) ∧ Same H H' ∧ H' d = some (.lst (((spG 0 (g.take i) ++ spR i 0 (row.take j)).map (·.1)).map V.str)))
        ⟨⟨_, _, rfl⟩, s1.trans s2, by simpa [spR] using s2 _ _ hd1⟩ (fun j σ H' _ h => .inl (.inl (h.2.1 _ _ hH))) ?_ ?_⟩
      · rintro j x σ H3 H4 hj ⟨⟨z4, z5, rfl⟩, s3, hd3⟩ ⟨T2, x1, x2, rfl, hT2, rfl, ex1, ex2⟩
        cases ex1
        have ex2 : (row.map oV)[j]? = some x2 := ex2
        rw [List.getElem?_map] at ex2
        obtain ⟨o, ho, rfl⟩ := Option.map_eq_some_iff.mp ex2
        have s4 : Same H3 (upd H3 T2 (.tup [.int j, oV o])) := same_new hT2
        refine ⟨T2, _, rfl, .inl (.inl upd_same), rfl, _, _, rfl, _, _, rfl, rfl, ?_⟩
        cases o with
        | none =>
          refine ⟨_, rfl, _, rfl, iteT ?_⟩
          refine ⟨⟨_, _, rfl⟩, s3.trans s4, ?_⟩
          rw [ahead_snoc ho]
          simpa using s4 _ _ hd3
        | some z =>
          have hzw : IsWd z := gd.wd z (mem_names.mpr ⟨i, j, cellAt_of hrow ho⟩)
          refine ⟨_, rfl, _, rfl, iteF ?_⟩
          refine ⟨_, rfl, z, rfl, by have := hzw.len; omega, fun H5 s5 => ⟨_, rfl, ?_⟩⟩
          rw [show wdB z = true from hzw]
          have hd5 := s5 _ _ (s4 _ _ hd3)
          have hin : inV (.str z) (((spG 0 (g.take i) ++ spR i 0 (row.take j)).map (·.1)).map V.str) = false := by
            rw [inV_strs]
            exact decide_eq_false (ahead_new gd hrow ho)
          refine iteF ⟨_, rfl, _, rfl, d, _, rfl, .inl (.inl (.inl hd5)), rfl, flat_strs _, false, ?_, ?_⟩
          · exact congrArg V.bl hin
          refine iteF ⟨_, rfl, .inl ⟨rfl, _, .inl (.inl hd5)⟩, _, rfl, d, _, _, rfl, rfl, hd5, ?_, ?_⟩
          · rw [List.length_map]
            exact small1000 (by have := ahead_len gd hrow (j := j); omega)
          · refine ⟨⟨_, _, rfl⟩, same_mut ((s3.trans s4).trans s5) hd, ?_⟩
            rw [upd_same, ahead_snoc ho]
            simp [oV]
      · rintro σ H3 ⟨⟨z4, z5, rfl⟩, s3, hd3⟩
        refine ⟨⟨_, _, _, _, rfl⟩, s3, ?_⟩
        rw [List.length_map, List.take_length] at hd3
        rw [take_snoc hrow, spG_snoc, len_take hrow, Nat.zero_add]
        exact hd3
    · rintro σ H3 ⟨⟨y2, y3, y4, y5, rfl⟩, s3, hd3⟩
      exact q H3 s3
/-! ### spots_in of a good grid -/
def spSpotsIn : Sp := fun vs H Q _ => ∃ (L : Addr) (g : Grid) (wd : Nat), vs = [.ref L] ∧ GridAt H L g ∧ Good g wd ∧
  ∀ (d : Addr) (H' : Hp), H d = none → Same H H' → SpotsAt H' d (spG 0 g) → Q (.ref d) H'
abbrev nSpotsIn : List Str := ["rows", "at", "row", "column", "part"]
theorem scSpotsIn : FnScope nSpotsIn ["rows"] (defScope sSpotsIn) := ⟨rfl, rfl, rfl, by decide +kernel, rfl, by decide +kernel, by decide +kernel⟩
theorem ok_spotsin (F : Fun K "spots_in" "spots_in" sSpotsIn f fd) (B : Bi mg) : FnOk P w K mg base CX0 1 f fd ["rows"] spSpotsIn := by
  refine F.ok scSpotsIn (fun vs H Q E h => ?_) (fun cdv A outer s H vs Q E hr h => ?_)
  · obtain ⟨L, g, wd, rfl, _⟩ := h
    rfl
  · obtain ⟨L, g, wd, rfl, hG, gd, q⟩ := h
    refine ⟨_, pss_one (ps_ret (pe_dc2 (own := [("at", 1), ("row", 2), ("column", 3), ("part", 4)]) (vs1 := [3, 4]) (ga := gTup K 2 (gCons (gName 1) (gCons (gName 2) gNil))) (tta := tYes) (wb := iEnumT K (tCons (tVar 2) tNil)) (gb := gTup K 2 (gCons (gName 3) (gCons (gName 4) gNil))) (ttb := tB (tNotN (tVar 4))) (tk := tVar 4) (tv := tTup (tCons (tVar 1) (tCons (tVar 3) tNil))) rfl scSpotsIn.nd (pi_enumT (by rfl) B.enum (pa_cons (pv 0) pa_nil)) (blkOk_by (N := nSpotsIn) (sc := defScope sSpotsIn) (by decide +kernel)) (by decide)
      (fun _ _ _ _ _ => pg_tup rfl (pgs_cons (pg_name (i := 1) scSpotsIn.nd rfl (.inl rfl)) (pgs_cons (pg_name (i := 2) scSpotsIn.nd rfl (.inl rfl)) pgs_nil))) (fun _ _ _ _ _ => pts_nil)
      (fun _ _ _ _ _ => pi_enumT (by rfl) B.enum (pa_cons (pv 2) pa_nil)) (fun _ _ _ _ _ => pg_tup rfl (pgs_cons (pg_name (i := 3) scSpotsIn.nd rfl (.inl rfl)) (pgs_cons (pg_name (i := 4) scSpotsIn.nd rfl (.inl rfl)) pgs_nil)))
      (fun _ _ _ _ _ => pts_one (pt_cmp (pc_notN (pv 4)))) (fun _ _ _ _ _ => pv 4) (fun _ _ _ _ _ => pe_tup (pa_cons (pv 1) (pa_cons (pv 3) pa_nil))))), ?_⟩
    obtain ⟨as, hL, hR⟩ := id hG
    refine ⟨_, rfl, L, _, rfl, .inl (.inl hL), fun d hd => dc2_it (walk_enumT (K := K) (a := L) (xs := as.map V.ref)) (fun i H' => Same H H' ∧ SpotsAt H' d (spG 0 (g.take i))) ⟨same_new hd, [], upd_same, .nil⟩ (fun i H' _ h => .inl (.inl (h.1 _ _ hL))) ?_ ?_⟩
    · rintro i x H1 H2 hi ⟨s1, kvs1, hd1, e1⟩ ⟨T, x1, x2, rfl, hT, rfl, ex1, ex2⟩
      cases ex1
      have ex2 : (as.map V.ref)[i]? = some x2 := ex2
      rw [List.getElem?_map] at ex2
      obtain ⟨p, hp, rfl⟩ := Option.map_eq_some_iff.mp ex2
      obtain ⟨row, hrow, hH⟩ := hR.get hp
      have s2 : Same H1 (upd H1 T (.tup [.int i, .ref p])) := same_new hT
      have hp2 := s2 _ _ (s1 _ _ hH)
      refine ⟨T, _, rfl, .inl (.inl upd_same), rfl, _, _, rfl, _, _, rfl, rfl, rfl, yes_it ?_⟩
      refine ⟨_, rfl, p, _, rfl, .inl (.inl hp2), inn_it (walk_enumT (K := K) (a := p) (xs := row.map oV)) (fun j H' => Same H H' ∧ SpotsAt H' d (spG 0 (g.take i) ++ spR i 0 (row.take j)))
        ⟨s1.trans s2, kvs1, s2 _ _ hd1, by simpa [spR] using ent_keep (tk_same s2) e1⟩ (fun j H' _ h => .inl (.inl (h.1 _ _ hH))) ?_ ?_⟩
      · rintro j x H3 H4 hj ⟨s3, kvs3, hd3, e3⟩ ⟨T2, x1, x2, rfl, hT2, rfl, ex1, ex2⟩
        cases ex1
        have ex2 : (row.map oV)[j]? = some x2 := ex2
        rw [List.getElem?_map] at ex2
        obtain ⟨o, ho, rfl⟩ := Option.map_eq_some_iff.mp ex2
        have s4 : Same H3 (upd H3 T2 (.tup [.int j, oV o])) := same_new hT2
        refine ⟨T2, _, rfl, .inl (.inl upd_same), rfl, _, _, rfl, _, _, rfl, rfl, rfl, ?_⟩
        cases o with
        | none =>
          refine ⟨_, rfl, _, rfl, iteF ?_⟩
          refine ⟨s3.trans s4, kvs3, s4 _ _ hd3, ?_⟩
          rw [ahead_snoc ho]
          simpa using ent_keep (tk_same s4) e3
        | some z =>
          refine ⟨_, rfl, _, rfl, iteT ?_⟩
          have hd5 := s4 _ _ hd3
          have e5 := ent_keep (tk_same s4) e3
          have hv : valV kvs3 (Sum.inr z : Key) = none := ent_none e5 (ahead_new gd hrow ho)
          refine ⟨_, rfl, _, rfl, _, rfl, lz, fun T6 hT6 => ?_⟩
          have hd6 := (same_new (o := .tup [.int i, .int j]) hT6) _ _ hd5
          refine ⟨kvs3, Sum.inr z, rfl, hd6, ?_, same_mut ((s3.trans s4).trans (same_new hT6)) hd, kvs3 ++ [(Sum.inr z, .ref T6)], ?_, ?_⟩
          · have h1 := e5.length
            have h2 := ahead_len gd hrow (j := j)
            rw [List.length_map] at h2
            exact small1000 (by omega)
          · rw [putK_new _ hv, upd_same]
          · rw [ahead_snoc ho]
            refine Each.append (ent_keep (tk_updD hd6) (ent_keep (tk_new hT6) e5)) (.cons ⟨rfl, T6, rfl, ?_⟩ .nil)
            exact (tk_updD hd6) _ _ upd_same
      · rintro H3 ⟨s3, kvs3, hd3, e3⟩
        refine ⟨s3, kvs3, hd3, ?_⟩
        rw [List.length_map, List.take_length] at e3
        rw [take_snoc hrow, spG_snoc, len_take hrow, Nat.zero_add]
        exact e3
    · rintro H3 ⟨s3, kvs3, hd3, e3⟩
      have hlen : (as.map V.ref).length = g.length := by rw [List.length_map, hR.length]
      rw [hlen, List.take_length] at e3
      exact q d H3 hd s3 ⟨kvs3, hd3, e3⟩
/-! ### checked_spots of a good grid -/
def spSpots : Sp := fun vs H Q _ => ∃ (L : Addr) (g : Grid) (wd : Nat), vs = [.ref L] ∧ GridAt H L g ∧ Good g wd ∧
  ∀ (d : Addr) (H' : Hp), H d = none → Same H H' → SpotsAt H' d (spG 0 g) → Q (.ref d) H'
abbrev nSpots : List Str := ["rows", "wrong", "spots"]
theorem scSpots : FnScope nSpots ["rows"] (defScope sSpots) := ⟨rfl, rfl, rfl, by decide +kernel, rfl, by decide +kernel, by decide +kernel⟩
theorem ok_spots (F : Fun K "checked_spots" "checked_spots" sSpots f fd) (hA : Has P w K mg base "are_rows" 1 ["thing"] spAreRows) (hW : Has P w K mg base "wrong_spot" 2 ["rows"] spWrong) (hS : Has P w K mg base "spots_in" 1 ["rows"] spSpotsIn) :
    FnOk P w K mg base CX0 3 f fd ["rows"] spSpots := by
  refine F.ok scSpots (fun vs H Q E h => ?_) (fun cdv A outer s H vs Q E hr h => ?_)
  · obtain ⟨L, g, wd, rfl, _⟩ := h
    rfl
  · obtain ⟨L, g, wd, rfl, hG, gd, q⟩ := h
    refine ⟨_, pss_cons (ps_if (pt_not (pt_val (pe_h hA hr (pa_cons (pv 0) pa_nil)))) (pss_one ps_never) pss_nil)
      (pss_cons (ps_set (i := 1) scSpots.nd rfl (.inl rfl) (pe_h hW hr (pa_cons (pv 0) pa_nil)))
      (pss_cons (ps_if (pt_cmp (pc_notN (pv 1))) (pss_one ps_never) pss_nil)
      (pss_cons (ps_set (i := 2) scSpots.nd rfl (.inl rfl) (pe_h hS hr (pa_cons (pv 0) pa_nil)))
      (pss_cons (ps_if (pt_not (pt_truth (pv 2) (by intro _; rfl))) (pss_one ps_never) pss_nil)
      (pss_one (ps_ret (pv 2))))))), ?_⟩
    refine ⟨_, rfl, L, g, wd, rfl, hG, gd, true, rfl, iteF ?_⟩
    refine ⟨_, rfl, L, g, wd, rfl, hG, gd, fun H1 s1 => ⟨_, rfl, _, rfl, iteF ?_⟩⟩
    have hG1 : GridAt H1 L g := hG.keep (tk_same s1)
    refine ⟨_, rfl, L, g, wd, rfl, hG1, gd, fun d H2 hd s2 ⟨kvs, hk, he⟩ => ?_⟩
    have hne : kvs.isEmpty = false := by
      cases kvs with
      | nil =>
        have h1 := he.length
        have h2 : ((spG 0 g).map (·.1)).length = (names g).length := by rw [spG_fst]
        rw [List.length_map] at h2
        have h3 : names g = [] := List.eq_nil_of_length_eq_zero (by rw [← h2, ← h1]; rfl)
        exact absurd h3 gd.ne
      | cons a r => rfl
    refine ⟨_, rfl, _, .inr (.inr ⟨kvs, hk, rfl⟩), ?_⟩
    rw [hne]
    refine iteF ⟨_, rfl, q d H2 (s1.free hd) (s1.trans s2) ⟨kvs, hk, he⟩⟩
end
end Wl

namespace Wl
open PySem PySem.Spec PyProof.Rows L2
section
variable {J : It} {ys : List V} {G : Hp → Prop} {slot slot1 : Nat} {wi1 : TI} {tt1 : TT} {te : TE} {vs vs1 : List Nat} {σ : L2.St} {H1 : Hp} {D : Addr} {Qd : Hp → Prop}
theorem flat_take_snoc {α β : Type} {f : α → List β} {ys : List α} {i : Nat} {x : α} (h : ys[i]? = some x) : (ys.take (i + 1)).flatMap f = (ys.take i).flatMap f ++ f x := by
  rw [List.take_add_one, h, List.flatMap_append]
  simp
/-- [e for x in ys for y in inn x if t]: the heap only growing -/
theorem lc2_rel (w : L2.Walk J ys.length G (YAt ys)) (hD : H1 D = none) (inn : V → List V) (keep : V → V → Bool) (R : V → V → V → Hp → Prop) (N : Nat)
    (hG : ∀ H, Same H1 H → G H)
    (hw : ∀ x, wipe ((wipe σ vs).set slot (some x)) vs = wipe σ vs)
    (hw1 : ∀ x y, wipe ((wipe ((wipe σ vs).set slot (some x)) vs1).set slot1 (some y)) vs1 = wipe ((wipe σ vs).set slot (some x)) vs1)
    (hi : ∀ (x : V) (H : Hp) (acc : List V), x ∈ ys → Same H1 H → H D = some (.lst acc) → ∀ Rr : It → Hp → Prop,
      (∀ J1 H4 G1, Same H H4 → L2.Walk J1 (inn x).length G1 (YAt (inn x)) → (∀ H', SameX D H4 H' → G1 H') → Rr J1 H4) → wi1 ((wipe σ vs).set slot (some x)) H Rr)
    (ht : ∀ (x y : V) (H : Hp), x ∈ ys → y ∈ inn x → Same H1 H → ∀ Q : Bool → Hp → Prop, Q (keep x y) H → tt1 ((wipe ((wipe σ vs).set slot (some x)) vs1).set slot1 (some y)) H Q)
    (he : ∀ (x y : V) (H : Hp), x ∈ ys → y ∈ inn x → keep x y = true → Same H1 H → ∀ Q : VK, (∀ z H', Same H H' → R x y z H' → Q z H') → te ((wipe ((wipe σ vs).set slot (some x)) vs1).set slot1 (some y)) H Q)
    (hR : ∀ x y z H H' acc, H D = some (.lst acc) → SameX D H H' → R x y z H → R x y z H')
    (hl : ∀ x ∈ ys, (inn x).length ≤ N) (hn : ys.length * N < sizeLine)
    (hd : ∀ zs H, Same H1 H → H D = some (.lst zs) → Each (fun (xy : V × V) z => R xy.1 xy.2 z H) (ys.flatMap fun x => ((inn x).filter (keep x)).map fun y => (x, y)) zs → Qd H) :
    ∃ W : Nat → Nat → Hp → Prop, (∃ m, W 0 m (upd H1 D (.lst []))) ∧ ∀ i m H, W i m H →
      (J.stop i H ∧ Qd H) ∨ (J.go i H ∧ ∃ Nx : Hp → Prop, (∀ H', Nx H' → ∃ m', m' < m ∧ W (i + 1) m' H') ∧ ∀ x H', J.yld i H x H' → gName slot x (wipe σ vs) H' fun σ2 H2 => wipe σ2 vs = wipe σ vs ∧ tYes σ2 H2 fun b H3 =>
        if b = true then wi1 σ2 H3 fun J1 H4 => ∃ W1 : Nat → Nat → Hp → Prop, (∃ m, W1 0 m H4) ∧ ∀ j k H, W1 j k H →
          (J1.stop j H ∧ Nx H) ∨ (J1.go j H ∧ ∃ Nx1 : Hp → Prop, (∀ H', Nx1 H' → ∃ k', k' < k ∧ W1 (j + 1) k' H') ∧ ∀ x H', J1.yld j H x H' → gName slot1 x (wipe σ2 vs1) H' fun σ3 H5 => wipe σ3 vs1 = wipe σ2 vs1 ∧ tt1 σ3 H5 fun b H6 =>
            if b = true then te σ3 H6 fun y H7 => ∃ acc, H7 D = some (.lst acc) ∧ acc.length < sizeLine ∧ Nx1 (upd H7 D (.lst (acc ++ [y]))) else Nx1 H6)
        else Nx H3) := by
  have cnt : ∀ (l : List V), (∀ x ∈ l, (inn x).length ≤ N) → (l.flatMap fun x => ((inn x).filter (keep x)).map fun y => (x, y)).length ≤ l.length * N := by
    intro l
    induction l with
    | nil => intro _; simp
    | cons x r ih =>
      intro h
      rw [List.flatMap_cons, List.length_append, List.length_map, List.length_cons, Nat.succ_mul]
      have h1 : ((inn x).filter (keep x)).length ≤ (inn x).length := List.length_filter_le _ _
      have h2 := h x List.mem_cons_self
      have h3 := ih fun y hy => h y (List.mem_cons_of_mem _ hy)
      omega
  refine ⟨fun i m H => m = ys.length - i ∧ i ≤ ys.length ∧ ∃ zs, Same H1 H ∧ H D = some (.lst zs) ∧ Each (fun (xy : V × V) z => R xy.1 xy.2 z H) ((ys.take i).flatMap fun x => ((inn x).filter (keep x)).map fun y => (x, y)) zs,
    ⟨ys.length, by simp, Nat.zero_le _, [], same_new hD, upd_same, by simpa using Each.nil⟩, ?_⟩
  rintro i m H ⟨rfl, hi0, zs, s, hz, ez⟩
  by_cases hlt : i < ys.length
  · refine .inr ⟨w.goes i H hlt (hG H s), fun H' => ∃ zs, Same H1 H' ∧ H' D = some (.lst zs) ∧ Each (fun (xy : V × V) z => R xy.1 xy.2 z H') ((ys.take (i + 1)).flatMap fun x => ((inn x).filter (keep x)).map fun y => (x, y)) zs,
      fun H' h => ⟨ys.length - (i + 1), by omega, rfl, hlt, h⟩, fun x H' y => ?_⟩
    obtain ⟨rfl, hx⟩ := w.yields i H x H' hlt (hG H s) y
    have hm : x ∈ ys := List.mem_of_getElem? hx
    have hf := flat_take_snoc (f := fun x => ((inn x).filter (keep x)).map fun y => (x, y)) hx
    refine ⟨hw x, yes_it ?_⟩
    refine hi x _ zs hm s hz _ fun J1 H4 G1 s4 w1 hG1 => ?_
    have hz4 := s4 _ _ hz
    refine ⟨fun j k H => k = (inn x).length - j ∧ j ≤ (inn x).length ∧ ∃ ws, Same H1 H ∧ SameX D H4 H ∧ H D = some (.lst ws) ∧ Each (fun (xy : V × V) z => R xy.1 xy.2 z H) (((ys.take i).flatMap fun x => ((inn x).filter (keep x)).map fun y => (x, y)) ++ (((inn x).take j).filter (keep x)).map fun y => (x, y)) ws,
      ⟨(inn x).length, by simp, Nat.zero_le _, zs, s.trans s4, SameX.refl _ _, hz4, ?_⟩, ?_⟩
    · simpa using ez.mono fun a b r => hR _ _ _ _ _ _ hz (sx s4) r
    · rintro j k H5 ⟨rfl, hj0, ws, s5, x5, hz5, ez5⟩
      by_cases hjt : j < (inn x).length
      · refine .inr ⟨w1.goes j H5 hjt (hG1 H5 x5), fun H' => ∃ ws, Same H1 H' ∧ SameX D H4 H' ∧ H' D = some (.lst ws) ∧ Each (fun (xy : V × V) z => R xy.1 xy.2 z H') (((ys.take i).flatMap fun x => ((inn x).filter (keep x)).map fun y => (x, y)) ++ (((inn x).take (j + 1)).filter (keep x)).map fun y => (x, y)) ws,
          fun H' h => ⟨(inn x).length - (j + 1), by omega, rfl, hjt, h⟩, fun y H' yy => ?_⟩
        obtain ⟨rfl, hy⟩ := w1.yields j H5 y H' hjt (hG1 H5 x5) yy
        have hym : y ∈ inn x := List.mem_of_getElem? hy
        have hf2 := filter_take_snoc (p := keep x) hy
        refine ⟨hw1 x y, ht x y _ hm hym s5 _ ?_⟩
        refine ite_b (fun e => ?_) (fun e => ?_)
        · refine he x y _ hm hym e s5 _ fun z H6 s6 r6 => ⟨ws, s6 _ _ hz5, ?_, ws ++ [z], same_mut (s5.trans s6) hD, ?_, upd_same, ?_⟩
          · have h1 := ez5.length
            have h2 := cnt (ys.take i) fun x hx => hl x (List.mem_of_mem_take hx)
            have h3 : (((inn x).take j).filter (keep x)).length ≤ N := by
              have a1 : (((inn x).take j).filter (keep x)).length ≤ ((inn x).take j).length := List.length_filter_le _ _
              have a2 : ((inn x).take j).length ≤ (inn x).length := List.length_take_le' _ _
              have a3 := hl x hm
              omega
            rw [List.length_append, List.length_map] at h1
            have h4 : (ys.take i).length * N + N ≤ ys.length * N := by
              rw [← Nat.succ_mul]
              refine Nat.mul_le_mul_right N ?_
              rw [List.length_take]
              omega
            omega
          · exact (x5.trans (sx s6)).trans sameX_upd
          · rw [hf2, if_pos e, List.map_append, ← List.append_assoc]
            refine Each.append (ez5.mono fun a b r => ?_) (.cons ?_ .nil)
            · exact hR _ _ _ _ _ _ hz5 (fun b o n h => by rw [upd_ne n]; exact s6 _ _ h) r
            · exact hR _ _ _ _ _ _ (s6 _ _ hz5) sameX_upd r6
        · refine ⟨ws, s5, x5, hz5, ?_⟩
          rw [hf2, if_neg (by rw [e]; decide), List.append_nil]
          exact ez5
      · have e : j = (inn x).length := by omega
        subst e
        refine .inl ⟨w1.stops H5 (hG1 H5 x5), ws, s5, hz5, ?_⟩
        rw [List.take_length] at ez5
        rw [hf]
        exact ez5
  · have e : i = ys.length := by omega
    subst e
    rw [List.take_length] at ez
    exact .inl ⟨w.stops H (hG H s), hd zs H s hz ez⟩
end
end Wl

namespace Wl
open PySem PySem.Spec PyProof.Rows L2
abbrev sCls : Stmt := topS 16
abbrev sInit : Stmt := inClass sCls 0
abbrev sCheck : Stmt := inClass sCls 1
abbrev sLNames : Stmt := inClass sCls 2
abbrev sSpot : Stmt := inClass sCls 3
abbrev sNeigh : Stmt := inClass sCls 4
abbrev sBord : Stmt := inClass sCls 5
structure Txt (K : PySem.W.Frag) (mg : Str → Option Value) (C : Addr) : Prop where
  cl : Cls K C
  nS : NoAttr K C "spots"
  nR : NoAttr K C "rows"
  mgC : mg "Land" = some (.ref C)
theorem srne : ¬ (("spots" : Str) = "rows") := by decide +kernel
def lf (d L : Addr) : List (Str × V) := putF "rows" (.ref L) (putF "spots" (.ref d) [])
theorem lf_spots (d L : Addr) : (lf d L).lookup ("spots" : Str) = some (.ref d) := by
  unfold lf
  rw [lookup_putF, if_neg srne, lookup_putF, if_pos rfl]
theorem lf_rows (d L : Addr) : (lf d L).lookup ("rows" : Str) = some (.ref L) := by
  unfold lf
  rw [lookup_putF, if_pos rfl]
theorem lf_no (d L : Addr) {m : Str} (h1 : ¬ m = "rows") (h2 : ¬ m = "spots") : (lf d L).lookup m = none := by
  unfold lf
  rw [lookup_putF, if_neg h1, lookup_putF, if_neg h2]
  rfl
def LandAt (C : Addr) (H : Hp) (p L : Addr) (g : Grid) : Prop := ∃ d dx, H p = some (.ins C dx (lf d L)) ∧ SpotsAt H d (spG 0 g) ∧ GridAt H L g
theorem LandAt.keep {C p L : Addr} {H H' : Hp} {g : Grid} (h : LandAt C H p L g) (k : Keep H H') : LandAt C H' p L g := by
  obtain ⟨d, dx, h1, h2, h3⟩ := h
  exact ⟨d, dx, k _ _ (fun xs e => by cases e) h1, h2.keep k, h3.keep k.tk⟩
theorem tk_updI {a : Addr} {H : Hp} {C dx : Addr} {fs : List (Str × V)} {o : HO} (ha : H a = some (.ins C dx fs)) : TupKeep H (upd H a o) := fun p xs h => by
  rw [upd_ne (ne_of h ha (by intro z; cases z))]
  exact h
theorem spots_updI {a d : Addr} {H : Hp} {C dx : Addr} {fs : List (Str × V)} {o : HO} {sp : List (Str × Nat × Nat)} (ha : H a = some (.ins C dx fs)) (h : SpotsAt H d sp) : SpotsAt (upd H a o) d sp := by
  obtain ⟨kvs, h1, h2⟩ := h
  exact ⟨kvs, by rw [upd_ne (ne_of h1 ha (by intro z; cases z))]; exact h1, ent_keep (tk_updI ha) h2⟩
section
variable {P : Program} {w : World} {K : PySem.W.Frag} {mg : Str → Option Value} {base : Heap} {f C : Addr} {fd : FuncData}
def spInit (C : Addr) : Sp := fun vs H Q _ => ∃ (p dx L : Addr) (g : Grid) (wd : Nat), vs = [.ref p, .ref L] ∧ H p = some (.ins C dx []) ∧ GridAt H L g ∧ Good g wd ∧
  ∀ (H' : Hp), (∀ b o, b ≠ p → H b = some o → H' b = some o) → LandAt C H' p L g → Q .non H'
theorem scInit : FnScope ["self", "rows"] ["self", "rows"] (defScope sInit) := ⟨rfl, rfl, rfl, by decide +kernel, rfl, by decide +kernel, by decide +kernel⟩
theorem ok_init (F : Fun K "__init__" "Land.__init__" sInit f fd) (T : Txt K mg C) (hS : Has P w K mg base "checked_spots" 3 ["rows"] spSpots) : FnOk P w K mg base CX0 4 f fd ["self", "rows"] (spInit C) := by
  refine F.ok scInit (fun vs H Q E h => ?_) (fun cdv A outer s H vs Q E hr h => ?_)
  · obtain ⟨p, dx, L, g, wd, rfl, _⟩ := h
    rfl
  · obtain ⟨p, dx, L, g, wd, rfl, hp, hG, gd, q⟩ := h
    refine ⟨_, pss_cons (ps_fld (pv 0) (pe_h hS hr (pa_cons (pv 1) pa_nil)) rfl) (pss_one (ps_fld (pv 0) (pv 1) rfl)), ?_⟩
    refine ⟨_, rfl, L, g, wd, rfl, hG, gd, fun d H1 hd s1 sp1 => ?_⟩
    have hp1 := s1 _ _ hp
    refine ⟨_, rfl, p, C, dx, [], rfl, hp1, T.cl, T.nS, (by show 0 < 1000; decide), ?_⟩
    refine ⟨_, rfl, _, rfl, p, C, dx, _, rfl, upd_same, T.cl, T.nR, (by show 1 < 1000; decide), ?_⟩
    refine q _ (fun b o n e => ?_) ⟨d, dx, upd_same, spots_updI upd_same (spots_updI hp1 sp1), ((hG.keep (tk_same s1)).keep (tk_updI hp1)).keep (tk_updI upd_same)⟩
    rw [upd_ne n, upd_ne n]
    exact s1 _ _ e

/-! ### names -/
def spLNames (C : Addr) : Sp := fun vs H Q _ => ∃ (p L : Addr) (g : Grid) (wd : Nat), vs = [.ref p] ∧ LandAt C H p L g ∧ Good g wd ∧
  ∀ (t : Addr) (H' : Hp), H t = none → Same H H' → H' t = some (.tup ((sortS (names g)).map V.str)) → Q (.ref t) H'
theorem scLNames : FnScope ["self"] ["self"] (defScope sLNames) := ⟨rfl, rfl, rfl, by decide +kernel, rfl, by decide +kernel, by decide +kernel⟩
def sd (z : Str) : V × PyData := (.str z, .str z)
theorem sort_strs (xs : List Str) : ((xs.map sd).mergeSort (PySem.W.dataLe false (·.2))).map (·.1) = (sortS xs).map V.str := by
  have h : (sortS xs).map sd = (xs.map sd).mergeSort (PySem.W.dataLe false (·.2)) := List.map_mergeSort fun a _ b _ => by
    rw [PySem.W.dataLe_eq]
    exact (le_data_str a b).symm
  rw [← h, List.map_map]
  rfl
theorem alike_strs (xs : List Str) : PySem.W.AllAlike ((xs.map sd).map (·.2)) := by
  intro d hd e he
  obtain ⟨b, hb, rfl⟩ := List.mem_map.mp hd
  obtain ⟨x, _, rfl⟩ := List.mem_map.mp hb
  obtain ⟨c, hc, rfl⟩ := List.mem_map.mp he
  obtain ⟨y, _, rfl⟩ := List.mem_map.mp hc
  rfl
theorem sortable_strs (xs : List Str) : PySem.W.Sortable ((xs.map sd).map (·.2)) := .inr fun d hd => by
  obtain ⟨b, hb, rfl⟩ := List.mem_map.mp hd
  obtain ⟨x, _, rfl⟩ := List.mem_map.mp hb
  exact ⟨(fun e => by cases e), (fun ys e => by cases e)⟩
/-- sorted of a list of texts, as a reading -/
theorem sort_reads {H : Hp} {Q : VK} {a : Addr} {xs : List Str} (h : SqL K H a (xs.map V.str)) (q : ∀ p, H p = none → Q (.ref p) (upd H p (.lst ((sortS xs).map V.str)))) : rSortD K [.ref a] H Q := by
  refine ⟨a, xs.map sd, rfl, ?_, ?_, alike_strs xs, sortable_strs xs, ?_, fun p hp => ?_⟩
  · rw [List.map_map]
    exact h
  · intro b hb
    obtain ⟨x, _, rfl⟩ := List.mem_map.mp hb
    exact .str x
  · intro b hb
    obtain ⟨x, _, rfl⟩ := List.mem_map.mp hb
    show PyData.depth (.str x) ≤ 8
    simp [PyData.depth]
  · rw [sort_strs]
    exact q p hp
theorem ok_lnames (F : Fun K "names" "Land.names" sLNames f fd) (B : Bi mg) (T : Txt K mg C) : FnOk P w K mg base CX0 1 f fd ["self"] (spLNames C) := by
  refine F.ok scLNames (fun vs H Q E h => ?_) (fun cdv A outer s H vs Q E hr h => ?_)
  · obtain ⟨p, L, g, wd, rfl, _⟩ := h
    rfl
  · obtain ⟨p, L, g, wd, rfl, ⟨d, dx, hp, ⟨kvs, hd, he⟩, hG⟩, gd, q⟩ := h
    refine ⟨_, pss_one (ps_ret (pe_callTy call_tuple_of (by rfl) B.tuple (by decide +kernel) (pa_cons (pe_callB (cr_sortD hr.units) (by rfl) B.sorted (by decide +kernel) (pa_cons (pe_callTy (call_list_dK rfl) (by rfl) B.list (by decide +kernel) (pa_cons (pe_fld (pv 0) rfl) pa_nil)) pa_nil)) pa_nil))), ?_⟩
    refine ⟨_, rfl, p, C, dx, _, _, rfl, hp, T.cl, T.nS, lf_spots _ _, d, kvs, rfl, hd, fun a1 h1 => ?_⟩
    rw [ent_keys he, spG_fst]
    dsimp only [tNil]
    refine sort_reads (K := K) (.inl (.inl upd_same)) fun a2 h2 => ?_
    refine ⟨a2, _, rfl, .inl ⟨.inl (.inl upd_same), fun a3 h3 => ?_⟩⟩
    exact q a3 _ (Same.free ((same_new h1).trans (same_new h2)) h3) (((same_new h1).trans (same_new h2)).trans (same_new h3)) upd_same

/-! ### check_name, spot -/
def spCheck (C : Addr) : Sp := fun vs H Q _ => ∃ (p L : Addr) (g : Grid) (wd : Nat) (z : Str), vs = [.ref p, .str z] ∧ LandAt C H p L g ∧ Good g wd ∧ z ∈ names g ∧ ∀ (H' : Hp), Same H H' → Q .non H'
theorem scCheck : FnScope ["self", "name"] ["self", "name"] (defScope sCheck) := ⟨rfl, rfl, rfl, by decide +kernel, rfl, by decide +kernel, by decide +kernel⟩
theorem ok_check (F : Fun K "check_name" "Land.check_name" sCheck f fd) (T : Txt K mg C) (hI : Has P w K mg base "is_word" 1 ["thing"] spIsWord) : FnOk P w K mg base CX0 2 f fd ["self", "name"] (spCheck C) := by
  refine F.ok scCheck (fun vs H Q E h => ?_) (fun cdv A outer s H vs Q E hr h => ?_)
  · obtain ⟨p, L, g, wd, z, rfl, _⟩ := h
    rfl
  · obtain ⟨p, L, g, wd, z, rfl, hLa, gd, hz, q⟩ := h
    have hu := hu_of hr
    have hzw := gd.wd z hz
    refine ⟨_, pss_one (ps_if (PW.pt (pw_or (pt_not (pt_val (pe_h hI hr (pa_cons (pv 1) pa_nil)))) (pw_or1 (pt_cmp (pc_dnotin hu (pv 1) (pe_fld (pv 0) rfl)))))) (pss_one ps_never) pss_nil), ?_⟩
    refine ⟨_, rfl, z, rfl, by have := hzw.len; omega, fun H1 s1 => ⟨_, rfl, ?_⟩⟩
    rw [show wdB z = true from hzw]
    refine iteF ?_
    obtain ⟨d, dx, hp, ⟨kvs, hd, he⟩, hG⟩ := hLa.keep (kp_same s1)
    obtain ⟨r, c, hc⟩ := mem_names.mp hz
    obtain ⟨t, hv, ht⟩ := ent_some he (by rw [spG_fst]; exact gd.nd) (spG_cell.mpr hc)
    refine ⟨_, rfl, _, rfl, p, C, dx, _, _, rfl, hp, T.cl, T.nS, lf_spots _ _, d, _, rfl, DGet.k (k := Sum.inr z) hd, _, rfl, ?_⟩
    rw [hv]
    exact iteF (q H1 s1)
def spSpot (C : Addr) : Sp := fun vs H Q _ => ∃ (p L : Addr) (g : Grid) (wd : Nat) (z : Str) (r c : Nat), vs = [.ref p, .str z] ∧ LandAt C H p L g ∧ Good g wd ∧ cellAt g r c = some z ∧
  ∀ (t : Addr) (H' : Hp), Same H H' → H' t = some (.tup [.int r, .int c]) → Q (.ref t) H'
theorem scSpot : FnScope ["self", "name"] ["self", "name"] (defScope sSpot) := ⟨rfl, rfl, rfl, by decide +kernel, rfl, by decide +kernel, by decide +kernel⟩
theorem ok_spot (F : Fun K "spot" "Land.spot" sSpot f fd) (T : Txt K mg C) (hC : HasM P w K mg base C "check_name" 2 ["self", "name"] (spCheck C)) : FnOk P w K mg base CX0 3 f fd ["self", "name"] (spSpot C) := by
  refine F.ok scSpot (fun vs H Q E h => ?_) (fun cdv A outer s H vs Q E hr h => ?_)
  · obtain ⟨p, L, g, wd, z, r, c, rfl, _⟩ := h
    rfl
  · obtain ⟨p, L, g, wd, z, r, c, rfl, hLa, gd, hc, q⟩ := h
    have hu := hu_of hr
    refine ⟨_, pss_cons (ps_expr (pe_hm hC T.cl hr (pv 0) (pa_cons (pv 1) pa_nil))) (pss_one (ps_ret (pe_dget hu (pe_fld (pv 0) rfl) (pv 1) (fun _ _ => rfl)))), ?_⟩
    obtain ⟨d0, dx0, hp0, _⟩ := id hLa
    refine ⟨_, rfl, p, dx0, _, rfl, hp0, lf_no _ _ (by decide +kernel) (by decide +kernel), _, rfl, p, L, g, wd, z, rfl, hLa, gd, mem_names.mpr ⟨r, c, hc⟩, fun H1 s1 => ?_⟩
    obtain ⟨d, dx, hp, ⟨kvs, hd, he⟩, hG⟩ := hLa.keep (kp_same s1)
    obtain ⟨t, hv, ht⟩ := ent_some he (by rw [spG_fst]; exact gd.nd) (spG_cell.mpr hc)
    refine ⟨_, rfl, p, C, dx, _, _, rfl, hp, T.cl, T.nS, lf_spots _ _, _, rfl, d, _, rfl, ?_, q t H1 s1 ht⟩
    rw [← hv]
    exact DGet.k (k := Sum.inr z) hd
end
end Wl

namespace Wl
open PySem PySem.Spec PyProof.Rows L2
def findS : List (Str × Nat × Nat) → Str → Nat × Nat
  | [], _ => (0, 0)
  | (z, p) :: r, y => if z = y then p else findS r y
theorem findS_mem {y : Str} {p : Nat × Nat} : ∀ {l : List (Str × Nat × Nat)}, (l.map (·.1)).Nodup → (y, p) ∈ l → findS l y = p
  | [], _, h => by cases h
  | (z, q) :: l, nd, h => by
    obtain ⟨n1, n2⟩ := List.nodup_cons.mp nd
    unfold findS
    rcases List.mem_cons.mp h with e | h
    · cases e
      rw [if_pos rfl]
    · have : ¬ z = y := fun e => n1 (List.mem_map.mpr ⟨_, h, e.symm⟩)
      rw [if_neg this]
      exact findS_mem n2 h
def spotOf (g : Grid) (y : Str) : Nat × Nat := findS (spG 0 g) y
theorem spotOf_cell {g : Grid} (nd : (names g).Nodup) {y : Str} {r c : Nat} (h : cellAt g r c = some y) : spotOf g y = (r, c) :=
  findS_mem (by rw [spG_fst]; exact nd) (spG_cell.mpr h)
def Adj (r c r' c' : Nat) : Prop := (r' = r ∧ (c' = c + 1 ∨ c = c' + 1)) ∨ (c' = c ∧ (r' = r + 1 ∨ r = r' + 1))
def pD (p : Int × Int) : PyData := .tuple [.int p.1, .int p.2]
def four (r c : Nat) : List (Int × Int) := [((r : Int) - 1, c), ((r : Int) + 1, c), (r, (c : Int) - 1), (r, (c : Int) + 1)]
def nbB (r c : Nat) (p : Nat × Nat) : Bool := ((four r c).map pD).any fun z => PyData.eqv z (pD (p.1, p.2))
theorem pD_eqv (p q : Int × Int) : PyData.eqv (pD p) (pD q) = decide (p = q) := by
  obtain ⟨a, b⟩ := p
  obtain ⟨c, d⟩ := q
  have e : PyData.eqv (pD (a, b)) (pD (c, d)) = ((a == c) && ((b == d) && true)) := by simp only [pD, PyData.eqv, PyData.eqvAll]
  rw [e]
  by_cases h1 : a = c <;> by_cases h2 : b = d <;> simp [h1, h2]
theorem nbB_iff {r c r' c' : Nat} : nbB r c (r', c') = true ↔ Adj r c r' c' := by
  unfold nbB four
  simp only [List.map_cons, List.map_nil, List.any_cons, List.any_nil, pD_eqv, Bool.or_false, Bool.or_eq_true, decide_eq_true_eq, Prod.mk.injEq]
  unfold Adj
  omega
def nbL (g : Grid) (r c : Nat) : List Str := (sortS (names g)).filter fun y => nbB r c (spotOf g y)
theorem mem_nbL {g : Grid} (nd : (names g).Nodup) {r c : Nat} {y : Str} : y ∈ nbL g r c ↔ ∃ r' c', Adj r c r' c' ∧ cellAt g r' c' = some y := by
  unfold nbL
  rw [List.mem_filter, mem_sortS, mem_names]
  constructor
  · rintro ⟨⟨r', c', h⟩, k⟩
    rw [spotOf_cell nd h] at k
    exact ⟨r', c', nbB_iff.mp k, h⟩
  · rintro ⟨r', c', k, h⟩
    refine ⟨⟨r', c', h⟩, ?_⟩
    rw [spotOf_cell nd h]
    exact nbB_iff.mpr k
theorem nbL_rising {g : Grid} (nd : (names g).Nodup) (r c : Nat) : (nbL g r c).Pairwise ltS := (sortS_rising nd).filter _
theorem nbL_len {g : Grid} {wd : Nat} (G : Good g wd) (r c : Nat) : (nbL g r c).length ≤ 36 := by
  have h1 : (nbL g r c).length ≤ (sortS (names g)).length := List.length_filter_le _ _
  rw [sortS_len] at h1
  have := G.len
  omega
def keepN (g : Grid) (r c : Nat) : V → Bool
  | .str y => nbB r c (spotOf g y)
  | _ => false
theorem filter_strs {p : V → Bool} {q : Str → Bool} (h : ∀ y, p (.str y) = q y) (xs : List Str) : (xs.map V.str).filter p = (xs.filter q).map V.str := by
  rw [List.filter_map]
  congr 1
  exact List.filter_congr fun y _ => h y
section
variable {P : Program} {w : World} {K : PySem.W.Frag} {mg : Str → Option Value} {base : Heap} {f C : Addr} {fd : FuncData}
def spNeigh (C : Addr) : Sp := fun vs H Q _ => ∃ (p L : Addr) (g : Grid) (wd : Nat) (z : Str) (r c : Nat), vs = [.ref p, .str z] ∧ LandAt C H p L g ∧ Good g wd ∧ cellAt g r c = some z ∧
  ∀ (t : Addr) (H' : Hp), Same H H' → H' t = some (.tup ((nbL g r c).map V.str)) → Q (.ref t) H'
abbrev nNeigh : List Str := ["self", "name", "row", "column", "beside", "other"]
theorem scNeigh : FnScope nNeigh ["self", "name"] (defScope sNeigh) := ⟨rfl, rfl, rfl, by decide +kernel, rfl, by decide +kernel, by decide +kernel⟩
theorem ok_neigh (F : Fun K "neighbours" "Land.neighbours" sNeigh f fd) (B : Bi mg) (T : Txt K mg C) (hS : HasM P w K mg base C "spot" 3 ["self", "name"] (spSpot C)) (hN : HasM P w K mg base C "names" 1 ["self"] (spLNames C)) :
    FnOk P w K mg base CX0 4 f fd ["self", "name"] (spNeigh C) := by
  refine F.ok scNeigh (fun vs H Q E h => ?_) (fun cdv A outer s H vs Q E hr h => ?_)
  · obtain ⟨p, L, g, wd, z, r, c, rfl, _⟩ := h
    rfl
  · obtain ⟨p, L, g, wd, z, r, c, rfl, hLa, gd, hc, q⟩ := h
    have hu := hu_of hr
    have hu65 : (A.deeper (envOfC "Land.neighbours" (defScope sNeigh) s.heap.objs.size f cdv)).units + 65 < cLine := by
      have := hr.un
      omega
    refine ⟨_, pss_cons (ps_asg (pe_hm hS T.cl hr (pv 0) (pa_cons (pv 1) pa_nil)) (pg_tup rfl (pgs_cons (pg_name (i := 2) scNeigh.nd rfl (.inl rfl)) (pgs_cons (pg_name (i := 3) scNeigh.nd rfl (.inl rfl)) pgs_nil))))
      (pss_cons (ps_set (i := 4) scNeigh.nd rfl (.inr rfl) (pe_tup (pa_cons (pe_tup (pa_cons (pe_op op_sub (pv 2) pe_int) (pa_cons (pv 3) pa_nil))) (pa_cons (pe_tup (pa_cons (pe_op op_add (pv 2) pe_int) (pa_cons (pv 3) pa_nil)))
        (pa_cons (pe_tup (pa_cons (pv 2) (pa_cons (pe_op op_sub (pv 3) pe_int) pa_nil))) (pa_cons (pe_tup (pa_cons (pv 2) (pa_cons (pe_op op_add (pv 3) pe_int) pa_nil))) pa_nil))))))
      (pss_one (ps_ret (pe_callTy call_tuple_of (by rfl) B.tuple (by decide +kernel) (pa_cons (pe_lc (own := [("other", 5)]) (g := gName 5) (tt := tTest (tOp (rInDT K) (tDGet (tFld K (tVar 0) "spots") (tVar 5)) (tVar 4))) rfl scNeigh.nd (pi_tup (pe_hm0 hN T.cl hr (pv 0)))
        (blkOk_by (N := nNeigh) (sc := defScope sNeigh) (by decide +kernel)) (fun _ _ _ _ _ => pg_name (i := 5) scNeigh.nd rfl (.inl rfl)) (fun _ _ _ _ _ => pts_one (pt_cmpR (op_inDT hu65) (pe_dget hu (pe_fld (pv 0) rfl) (pv 5) (fun _ _ => rfl)) (pv 4) (by rfl))) (fun _ _ _ _ _ => pv 5)) pa_nil))))), ?_⟩
    obtain ⟨d0, dx0, hp0, _⟩ := id hLa
    refine ⟨_, rfl, p, dx0, _, rfl, hp0, lf_no _ _ (by decide +kernel) (by decide +kernel), _, rfl, p, L, g, wd, z, r, c, rfl, hLa, gd, hc, fun t H1 s1 ht => ⟨t, _, rfl, .inl (.inl ht), rfl, _, _, rfl, _, _, rfl, rfl, ?_⟩⟩
    refine ⟨_, rfl, _, _, rfl, rfl, _, rfl, lz, fun t1 h1 => ⟨_, rfl, _, _, rfl, rfl, _, rfl, lz, fun t2 h2 => ⟨_, rfl, _, rfl, _, _, rfl, rfl, lz, fun t3 h3 => ⟨_, rfl, _, rfl, _, _, rfl, rfl, lz, fun t4 h4 => ⟨lz, fun b hb => ?_⟩⟩⟩⟩⟩
    have k1 := (same_new (o := .tup [.int ((r : Int) - 1), .int c]) h1)
    have k2 := (same_new (o := .tup [.int ((r : Int) + 1), .int c]) h2)
    have k3 := (same_new (o := .tup [.int r, .int ((c : Int) - 1)]) h3)
    have k4 := (same_new (o := .tup [.int r, .int ((c : Int) + 1)]) h4)
    have k5 := (same_new (o := .tup [.ref t1, .ref t2, .ref t3, .ref t4]) hb)
    have sAll : Same H1 _ := (k1.trans k2).trans ((k3.trans k4).trans k5)
    have a1 := k5 _ _ (k4 _ _ (k3 _ _ (k2 _ _ (upd_same (H := H1) (a := t1) (o := .tup [.int ((r : Int) - 1), .int c])))))
    have a2 := k5 _ _ (k4 _ _ (k3 _ _ (upd_same (a := t2) (o := .tup [.int ((r : Int) + 1), .int c]))))
    have a3 := k5 _ _ (k4 _ _ (upd_same (a := t3) (o := .tup [.int r, .int ((c : Int) - 1)])))
    have a4 := k5 _ _ (upd_same (a := t4) (o := .tup [.int r, .int ((c : Int) + 1)]))
    have a5 : upd (upd (upd (upd (upd H1 t1 (.tup [.int ((r : Int) - 1), .int c])) t2 (.tup [.int ((r : Int) + 1), .int c])) t3 (.tup [.int r, .int ((c : Int) - 1)])) t4 (.tup [.int r, .int ((c : Int) + 1)])) b (.tup [.ref t1, .ref t2, .ref t3, .ref t4]) b = _ := upd_same
    have sBig : Same H _ := s1.trans sAll
    generalize upd (upd (upd (upd (upd H1 t1 (.tup [.int ((r : Int) - 1), .int c])) t2 (.tup [.int ((r : Int) + 1), .int c])) t3 (.tup [.int r, .int ((c : Int) - 1)])) t4 (.tup [.int r, .int ((c : Int) + 1)])) b (.tup [.ref t1, .ref t2, .ref t3, .ref t4]) = H2 at a1 a2 a3 a4 a5 sBig sAll
    have hLa2 := hLa.keep (kp_same sBig)
    obtain ⟨d2, dx2, hp2, _⟩ := id hLa2
    refine ⟨_, rfl, p, dx2, _, rfl, hp2, lf_no _ _ (by decide +kernel) (by decide +kernel), p, L, g, wd, rfl, hLa2, gd, fun tn H3 htn s3 hn3 => ⟨tn, rfl, ⟨_, .inl (.inl hn3)⟩, fun D hD => ?_⟩⟩
    refine lc_map (walk_tup (K := K) (a := tn) (xs := (sortS (names g)).map V.str)) hD (keepN g r c) id (fun H' s' => .inl (.inl (s' _ _ hn3))) (fun _ => rfl) ?_ ?_ ?_ ?_
    · intro x H' hx s' Q' q'
      obtain ⟨y, hy, rfl⟩ := List.mem_map.mp hx
      obtain ⟨r', c', hc'⟩ := mem_names.mp (mem_sortS.mp hy)
      have s23 : Same H2 H' := s3.trans s'
      obtain ⟨d4, dx4, hp4, ⟨kvs4, hd4, he4⟩, _⟩ := hLa2.keep (kp_same s23)
      obtain ⟨t9, hv, ht9⟩ := ent_some he4 (by rw [spG_fst]; exact gd.nd) (spG_cell.mpr hc')
      refine ⟨_, rfl, p, C, dx4, _, _, rfl, hp4, T.cl, T.nS, lf_spots _ _, _, rfl, d4, .ref t9, rfl, ?_, _, rfl, pD (r', c'), (four r c).map pD, .tup (.inl (.inl ht9)) (.cons (.int _) (.cons (.int _) .nil)), .tup (.inl (.inl (s23 _ _ a5))) ?_, rfl, rfl, _, rfl, ?_⟩
      · rw [← hv]
        exact DGet.k (k := Sum.inr y) hd4
      · exact .cons (.tup (.inl (.inl (s23 _ _ a1))) (.cons (.int _) (.cons (.int _) .nil))) (.cons (.tup (.inl (.inl (s23 _ _ a2))) (.cons (.int _) (.cons (.int _) .nil))) (.cons (.tup (.inl (.inl (s23 _ _ a3))) (.cons (.int _) (.cons (.int _) .nil))) (.cons (.tup (.inl (.inl (s23 _ _ a4))) (.cons (.int _) (.cons (.int _) .nil))) .nil)))
      · have : keepN g r c (.str y) = nbB r c (r', c') := by
          show nbB r c (spotOf g y) = _
          rw [spotOf_cell gd.nd hc']
        rw [this] at q'
        exact q'
    · intro x H' hx _ _ Q' q'
      exact ⟨_, rfl, q'⟩
    · rw [List.length_map, sortS_len]
      exact small1000 (by have := gd.len; omega)
    · intro H4 s4 hD4
      rw [filter_strs (q := fun y => nbB r c (spotOf g y)) (fun _ => rfl), List.map_id] at hD4
      refine ⟨D, _, rfl, .inl ⟨.inl (.inl hD4), fun t5 ht5 => ?_⟩⟩
      exact q t5 _ ((sBig.trans (s3.trans s4)).trans (same_new ht5)) upd_same
end
end Wl

namespace Wl
open PySem PySem.Spec PyProof.Rows L2
def nbOf (g : Grid) (z : Str) : List Str := nbL g (spotOf g z).1 (spotOf g z).2
def bdL (g : Grid) : List Two := (sortS (names g)).flatMap fun z => ((nbOf g z).filter fun y => decide (ltS z y)).map fun y => (z, y)
def TwosAt (H : Hp) (xs : List V) (ps : List Two) : Prop := Each (fun (p : Two) v => ∃ t, v = V.ref t ∧ H t = some (.tup [.str p.1, .str p.2])) ps xs
theorem TwosAt.keep {H H' : Hp} {xs : List V} {ps : List Two} (h : TwosAt H xs ps) (k : TupKeep H H') : TwosAt H' xs ps := Each.mono (fun _ _ ⟨t, e, ht⟩ => ⟨t, e, k _ _ ht⟩) h
def innB (g : Grid) : V → List V
  | .str z => (nbOf g z).map V.str
  | _ => []
def keepB : V → V → Bool
  | .str a, .str b => decide (ltS a b)
  | _, _ => false
def twV (p : Two) : V × V := (.str p.1, .str p.2)
theorem bd_flat (g : Grid) : (((sortS (names g)).map V.str).flatMap fun x => ((innB g x).filter (keepB x)).map fun y => (x, y)) = (bdL g).map twV := by
  unfold bdL
  rw [List.flatMap_map, List.map_flatMap]
  congr 1
  funext z
  show ((((nbOf g z).map V.str).filter (keepB (.str z))).map fun y => (V.str z, y)) = _
  rw [filter_strs (q := fun y => decide (ltS z y)) (fun _ => rfl), List.map_map, List.map_map]
  rfl
section
variable {P : Program} {w : World} {K : PySem.W.Frag} {mg : Str → Option Value} {base : Heap} {f C : Addr} {fd : FuncData}
def spBord (C : Addr) : Sp := fun vs H Q _ => ∃ (p L : Addr) (g : Grid) (wd : Nat), vs = [.ref p] ∧ LandAt C H p L g ∧ Good g wd ∧
  ∀ (t : Addr) (xs : List V) (H' : Hp), Same H H' → H' t = some (.tup xs) → TwosAt H' xs (bdL g) → Q (.ref t) H'
abbrev nBord : List Str := ["self", "name", "other"]
theorem scBord : FnScope nBord ["self"] (defScope sBord) := ⟨rfl, rfl, rfl, by decide +kernel, rfl, by decide +kernel, by decide +kernel⟩
theorem ok_bord (F : Fun K "borders" "Land.borders" sBord f fd) (B : Bi mg) (T : Txt K mg C) (hNb : HasM P w K mg base C "neighbours" 4 ["self", "name"] (spNeigh C)) (hN : HasM P w K mg base C "names" 1 ["self"] (spLNames C)) :
    FnOk P w K mg base CX0 5 f fd ["self"] (spBord C) := by
  refine F.ok scBord (fun vs H Q E h => ?_) (fun cdv A outer s H vs Q E hr h => ?_)
  · obtain ⟨p, L, g, wd, rfl, _⟩ := h
    rfl
  · obtain ⟨p, L, g, wd, rfl, hLa, gd, q⟩ := h
    refine ⟨_, pss_one (ps_ret (pe_callTy call_tuple_of (by rfl) B.tuple (by decide +kernel) (pa_cons (pe_lc2 (own := [("name", 1), ("other", 2)]) (vs1 := [2]) (g := gName 1) (tt := tYes) (g1 := gName 2)
      (wi1 := iTup K (tMeth C "neighbours" (spNeigh C) [] E0 (tVar 0) (tCons (tVar 1) tNil)))
      (tt1 := tTest (tOp (fun x y H Q => ∃ i j, x = .str i ∧ y = .str j ∧ Q (.bl (decide (i.cps.toList < j.cps.toList))) H) (tVar 1) (tVar 2)))
      rfl scBord.nd (pi_tup (pe_hm0 hN T.cl hr (pv 0))) (blkOk_by (N := nBord) (sc := defScope sBord) (by decide +kernel)) (by decide)
      (fun _ _ _ _ _ => pg_name (i := 1) scBord.nd rfl (.inl rfl)) (fun _ _ _ _ _ => pts_nil)
      (fun _ _ _ _ _ => pi_tup (pe_hm hNb T.cl hr (pv 0) (pa_cons (pv 1) pa_nil))) (fun _ _ _ _ _ => pg_name (i := 2) scBord.nd rfl (.inl rfl)) (fun _ _ _ _ _ => pts_one (pt_cmpR op_lt_str (pv 1) (pv 2) (nomark _)))
      (fun _ _ _ _ _ => pe_tup (pa_cons (pv 1) (pa_cons (pv 2) pa_nil)))) pa_nil))), ?_⟩
    obtain ⟨d0, dx0, hp0, _⟩ := id hLa
    refine ⟨_, rfl, p, dx0, _, rfl, hp0, lf_no _ _ (by decide +kernel) (by decide +kernel), p, L, g, wd, rfl, hLa, gd, fun tn H3 htn s3 hn3 => ⟨tn, rfl, ⟨_, .inl (.inl hn3)⟩, fun D hD => ?_⟩⟩
    have hLa3 := hLa.keep (kp_same s3)
    refine lc2_rel (walk_tup (K := K) (a := tn) (xs := (sortS (names g)).map V.str)) hD (innB g) keepB (fun x y z H => ∃ t, z = V.ref t ∧ H t = some (.tup [x, y])) 36 (fun H' s' => .inl (.inl (s' _ _ hn3))) (fun _ => rfl) (fun _ _ => rfl) ?_ ?_ ?_ ?_ ?_ ?_ ?_
    · intro x H' acc hx s' hD' Rr rr
      obtain ⟨z, hz, rfl⟩ := List.mem_map.mp hx
      obtain ⟨r, c, hc⟩ := mem_names.mp (mem_sortS.mp hz)
      have hLa4 := hLa3.keep (kp_same s')
      obtain ⟨d4, dx4, hp4, _⟩ := id hLa4
      refine ⟨_, rfl, p, dx4, _, rfl, hp4, lf_no _ _ (by decide +kernel) (by decide +kernel), _, rfl, p, L, g, wd, z, r, c, rfl, hLa4, gd, hc, fun t H4 s4 ht4 => ⟨t, rfl, ⟨_, .inl (.inl ht4)⟩, ?_⟩⟩
      have e : nbL g r c = nbOf g z := by
        unfold nbOf
        rw [spotOf_cell gd.nd hc]
      rw [e] at ht4
      refine rr (Itt K t) H4 (fun H => SqT K H t ((nbOf g z).map V.str)) s4 (walk_tup (K := K) (a := t) (xs := (nbOf g z).map V.str)) fun H' x' => .inl (.inl (x' _ _ ?_ ht4))
      exact ne_of ht4 (s4 _ _ hD') (by intro z; cases z)
    · intro x y H' hx hy s' Q' q'
      obtain ⟨z, hz, rfl⟩ := List.mem_map.mp hx
      obtain ⟨y, _, rfl⟩ := List.mem_map.mp hy
      exact ⟨_, rfl, _, rfl, _, _, rfl, rfl, _, rfl, q'⟩
    · intro x y H' hx hy _ s' Q' q'
      exact ⟨_, rfl, _, rfl, lz, fun t ht => q' _ _ (same_new ht) ⟨t, rfl, upd_same⟩⟩
    · rintro x y z H' H'' acc hD' x' ⟨t, e, ht⟩
      exact ⟨t, e, x' _ _ (ne_of ht hD' (by intro z; cases z)) ht⟩
    · intro x hx
      obtain ⟨z, hz, rfl⟩ := List.mem_map.mp hx
      show ((nbOf g z).map V.str).length ≤ 36
      rw [List.length_map]
      exact nbL_len gd _ _
    · rw [List.length_map, sortS_len]
      have h1 := gd.len
      have h2 : (names g).length * 36 ≤ 36 * 36 := Nat.mul_le_mul_right _ h1
      exact Nat.lt_of_le_of_lt h2 (by decide)
    · intro zs H4 s4 hD4 ez
      rw [bd_flat] at ez
      refine ⟨D, _, rfl, .inl ⟨.inl (.inl hD4), fun t5 ht5 => ?_⟩⟩
      refine q t5 zs _ ((s3.trans s4).trans (same_new ht5)) upd_same ?_
      exact TwosAt.keep (H := H4) (Each.mono (fun _ _ h => h) (each_map_l ez)) (tk_new ht5)
end
/-! ### the borders, by order -/
theorem bdL_rising {g : Grid} (nd : (names g).Nodup) : (bdL g).Pairwise ltP := by
  unfold bdL
  refine List.pairwise_flatMap.mpr ⟨fun z _ => ?_, ?_⟩
  · refine List.pairwise_map.mpr (((nbL_rising nd _ _).filter _).imp fun h => .inr ⟨rfl, h⟩)
  · refine (sortS_rising nd).imp fun {a b} h x hx y hy => ?_
    obtain ⟨u, _, rfl⟩ := List.mem_map.mp hx
    obtain ⟨v, _, rfl⟩ := List.mem_map.mp hy
    exact .inl h
theorem mem_bdL {g : Grid} (nd : (names g).Nodup) {a b : Str} : (a, b) ∈ bdL g ↔ ltS a b ∧ ∃ r c r' c', cellAt g r c = some a ∧ cellAt g r' c' = some b ∧ Adj r c r' c' := by
  unfold bdL
  rw [List.mem_flatMap]
  constructor
  · rintro ⟨z, hz, h⟩
    obtain ⟨y, hy, e⟩ := List.mem_map.mp h
    cases e
    obtain ⟨h1, h2⟩ := List.mem_filter.mp hy
    obtain ⟨r, c, hc⟩ := mem_names.mp (mem_sortS.mp hz)
    unfold nbOf at h1
    rw [spotOf_cell nd hc] at h1
    obtain ⟨r', c', k, hc'⟩ := (mem_nbL nd).mp h1
    exact ⟨of_decide_eq_true h2, r, c, r', c', hc, hc', k⟩
  · rintro ⟨h, r, c, r', c', h1, h2, k⟩
    refine ⟨a, mem_sortS.mpr (mem_names.mpr ⟨r, c, h1⟩), List.mem_map.mpr ⟨b, List.mem_filter.mpr ⟨?_, decide_eq_true h⟩, rfl⟩⟩
    unfold nbOf
    rw [spotOf_cell nd h1]
    exact (mem_nbL nd).mpr ⟨r', c', k, h2⟩
end Wl

namespace Wl
open PySem PySem.Spec PyProof.Rows L2
abbrev sBeside : Stmt := topS 26
abbrev sAround : Stmt := topS 27
section
variable {P : Program} {w : World} {K : PySem.W.Frag} {mg : Str → Option Value} {base : Heap} {f C : Addr} {fd : FuncData}
/-! ### the law's own names -/
def spNames : Sp := fun vs H Q _ => ∃ (L : Addr) (g : Grid) (wd : Nat), vs = [.ref L] ∧ GridAt H L g ∧ Good g wd ∧
  ∀ (t : Addr) (H' : Hp), Same H H' → H' t = some (.lst ((sortS (names g)).map V.str)) → Q (.ref t) H'
abbrev nNames : List Str := ["_law_laid", "_law_found", "_law_row", "_law_town"]
theorem scNames : FnScope nNames ["_law_laid"] (defScope sNames) := ⟨rfl, rfl, rfl, by decide +kernel, rfl, by decide +kernel, by decide +kernel⟩
theorem row_filter (row : Row) : ((row.map oV).filter fun v => !decide (v = .non)).map id = (rnames row).map V.str := by
  rw [List.map_id]
  induction row with
  | nil => rfl
  | cons o r ih =>
    cases o with
    | none => exact ih
    | some z => exact congrArg (V.str z :: ·) ih
theorem names_take {g : Grid} {i : Nat} {row : Row} (h : g[i]? = some row) : names (g.take (i + 1)) = names (g.take i) ++ rnames row := by
  rw [take_snoc h, names_snoc]
theorem ok_names (F : Fun K "_law_names" "_law_names" sNames f fd) (B : Bi mg) : FnOk P w K mg base CX0 1 f fd ["_law_laid"] spNames := by
  refine F.ok scNames (fun vs H Q E h => ?_) (fun cdv A outer s H vs Q E hr h => ?_)
  · obtain ⟨L, g, wd, rfl, _⟩ := h
    rfl
  · obtain ⟨L, g, wd, rfl, ⟨as, hL, hR⟩, gd, q⟩ := h
    refine ⟨_, pss_cons (ps_set (i := 1) scNames.nd rfl (.inl rfl) (pe_lst pa_nil))
      (pss_cons (ps_for PassesOwn.never rfl (pi_tup (pv 0)) (pg_name (i := 2) scNames.nd rfl (.inl rfl))
        (pss_one (ps_expr (pe_bm PySem.F.plainAttrs_list PySem.F.slot_list_extend PySem.F.type_list_extend mt_extend (pv 1) (pa_cons
          (pe_lc (own := [("_law_town", 3)]) (g := gName 3) (tt := tB (tNotN (tVar 3))) rfl scNames.nd (pi_tup (pv 2)) (blkOk_by (N := nNames) (sc := defScope sNames) (by decide +kernel)) (fun _ _ _ _ _ => pg_name (i := 3) scNames.nd rfl (.inl rfl))
            (fun _ _ _ _ _ => pts_one (pt_cmp (pc_notN (pv 3)))) (fun _ _ _ _ _ => pv 3)) pa_nil)))))
      (pss_one (ps_ret (pe_callB (cr_sortD hr.units) (by rfl) B.sorted (by decide +kernel) (pa_cons (pv 1) pa_nil))))), ?_⟩
    refine ⟨lz, fun fA hf => ?_⟩
    have s0 : Same H (upd H fA (.lst [])) := same_new hf
    have hlen : (as.map V.ref).length = g.length := by rw [List.length_map, hR.length]
    refine ⟨_, rfl, L, rfl, ⟨_, .inl (.inl (s0 _ _ hL))⟩, for_tup (K := K) (a := L) (xs := as.map V.ref) (fun i σ H' => (∃ y2 y3, σ = [some (.ref L), some (.ref fA), y2, y3]) ∧ Same H H' ∧ H' fA = some (.lst ((names (g.take i)).map V.str)))
      ⟨⟨_, _, rfl⟩, s0, upd_same⟩ (fun i σ H' _ h => .inl (.inl (h.2.1 _ _ hL))) ?_ ?_⟩
    · rintro i x σ H1 hx ⟨⟨y2, y3, rfl⟩, s1, hf1⟩
      rw [List.getElem?_map] at hx
      obtain ⟨p, hp, rfl⟩ := Option.map_eq_some_iff.mp hx
      obtain ⟨row, hrow, hH⟩ := hR.get hp
      have hrl := gd.rows row (List.mem_of_getElem? hrow)
      refine ⟨_, rfl, .inl ⟨rfl, _, .inl (.inl hf1)⟩, _, rfl, p, rfl, ⟨_, .inl (.inl (s1 _ _ hH))⟩, fun D hD => ?_⟩
      refine lc_map (walk_tup (K := K) (a := p) (xs := row.map oV)) hD (fun v => !decide (v = .non)) id (fun H' s' => .inl (.inl (s' _ _ (s1 _ _ hH)))) (fun _ => rfl) ?_ ?_ ?_ ?_
      · intro x H' hx s' Q' q'
        exact ⟨_, rfl, _, rfl, q'⟩
      · intro x H' hx _ _ Q' q'
        exact ⟨_, rfl, q'⟩
      · rw [List.length_map]
        exact small1000 (by have := gd.w6; omega)
      · intro H2 s2 hD2
        rw [row_filter] at hD2
        have hf2 := s2 _ _ hf1
        refine ⟨fA, D, _, _, rfl, rfl, hf2, hD2, ?_, ⟨_, _, rfl⟩, same_mut (s1.trans s2) hf, ?_⟩
        · rw [List.length_map, List.length_map]
          have a1 := len_names (g := g.take i) (wd := wd) fun r hr => gd.rows r (List.mem_of_mem_take hr)
          have a2 : (g.take i).length ≤ 6 := by rw [List.length_take]; have := gd.h6; omega
          have a3 : (g.take i).length * wd ≤ 6 * 6 := Nat.mul_le_mul a2 gd.w6
          have a4 : (rnames row).length ≤ row.length := List.length_filterMap_le id _
          have a7 := gd.w6
          exact lzl (by omega)
        · rw [upd_same, names_take hrow, List.map_append]
    · rintro σ H1 ⟨⟨y2, y3, rfl⟩, s1, hf1⟩
      rw [hlen, List.take_length] at hf1
      refine ⟨_, rfl, ?_⟩
      dsimp only [tNil]
      refine sort_reads (K := K) (.inl (.inl hf1)) fun p hp => ?_
      exact q p _ (s1.trans (same_new hp)) upd_same

/-! ### around a place -/
def arL (g : Grid) (r c : Nat) : List Str := ([if 0 < r then cellAt g (r - 1) c else none, cellAt g (r + 1) c, if 0 < c then cellAt g r (c - 1) else none, cellAt g r (c + 1)] : List (Option Str)).filterMap id
theorem mem_arL {g : Grid} {r c : Nat} {y : Str} : y ∈ arL g r c ↔ ∃ r' c', Adj r c r' c' ∧ cellAt g r' c' = some y := by
  unfold arL
  simp only [List.mem_filterMap, id, List.mem_cons, List.not_mem_nil, or_false]
  constructor
  · rintro ⟨o, h, rfl⟩
    rcases h with h | h | h | h
    · split at h
      · exact ⟨r - 1, c, .inr ⟨rfl, .inr (by omega)⟩, h.symm⟩
      · cases h
    · exact ⟨r + 1, c, .inr ⟨rfl, .inl rfl⟩, h.symm⟩
    · split at h
      · exact ⟨r, c - 1, .inl ⟨rfl, .inr (by omega)⟩, h.symm⟩
      · cases h
    · exact ⟨r, c + 1, .inl ⟨rfl, .inl rfl⟩, h.symm⟩
  · rintro ⟨r', c', k, h⟩
    refine ⟨some y, ?_, rfl⟩
    rcases k with ⟨rfl, rfl | e⟩ | ⟨rfl, rfl | e⟩
    · exact .inr (.inr (.inr h.symm))
    · refine .inr (.inr (.inl ?_))
      rw [if_pos (by omega), show c - 1 = c' by omega, h]
    · exact .inr (.inl h.symm)
    · refine .inl ?_
      rw [if_pos (by omega), show r - 1 = r' by omega, h]
theorem nodup_fm4 {o1 o2 o3 o4 : Option Str} (h12 : ∀ z, o1 = some z → o2 ≠ some z) (h13 : ∀ z, o1 = some z → o3 ≠ some z) (h14 : ∀ z, o1 = some z → o4 ≠ some z) (h23 : ∀ z, o2 = some z → o3 ≠ some z) (h24 : ∀ z, o2 = some z → o4 ≠ some z) (h34 : ∀ z, o3 = some z → o4 ≠ some z) :
    (([o1, o2, o3, o4] : List (Option Str)).filterMap id).Nodup := by
  cases o1 <;> cases o2 <;> cases o3 <;> cases o4 <;> simp_all [List.filterMap_cons]
  all_goals (try (refine ⟨?_, ?_⟩)) <;> simp_all [eq_comm]
end
end Wl

namespace Wl
open PySem PySem.Spec PyProof.Rows L2
theorem arL_nodup {g : Grid} (nd : (names g).Nodup) (r c : Nat) : (arL g r c).Nodup := by
  have cd : ∀ {r1 c1 r2 c2 : Nat}, (r1, c1) ≠ (r2, c2) → ∀ z, cellAt g r1 c1 = some z → cellAt g r2 c2 ≠ some z := fun ne z h k => by
    obtain ⟨e1, e2⟩ := cell_inj nd h k
    exact ne (by rw [e1, e2])
  unfold arL
  by_cases hr : 0 < r <;> by_cases hc : 0 < c <;> simp only [hr, hc, if_true, if_false]
  · exact nodup_fm4 (cd (by intro e; have := (Prod.mk.inj e).1; omega)) (cd (by intro e; have := (Prod.mk.inj e).1; omega)) (cd (by intro e; have := (Prod.mk.inj e).2; omega)) (cd (by intro e; have := (Prod.mk.inj e).1; omega)) (cd (by intro e; have := (Prod.mk.inj e).2; omega)) (cd (by intro e; have := (Prod.mk.inj e).2; omega))
  · exact nodup_fm4 (cd (by intro e; have := (Prod.mk.inj e).1; omega)) (fun z _ h => by cases h) (cd (by intro e; have := (Prod.mk.inj e).2; omega)) (fun z _ h => by cases h) (cd (by intro e; have := (Prod.mk.inj e).2; omega)) (fun z h => by cases h)
  · exact nodup_fm4 (fun z h => by cases h) (fun z h => by cases h) (fun z h => by cases h) (cd (by intro e; have := (Prod.mk.inj e).1; omega)) (cd (by intro e; have := (Prod.mk.inj e).2; omega)) (cd (by intro e; have := (Prod.mk.inj e).2; omega))
  · exact nodup_fm4 (fun z h => by cases h) (fun z h => by cases h) (fun z h => by cases h) (fun z _ h => by cases h) (cd (by intro e; have := (Prod.mk.inj e).2; omega)) (fun z h => by cases h)
theorem ar_eq {g : Grid} (nd : (names g).Nodup) (r c : Nat) : nbL g r c = sortS (arL g r c) :=
  sortS_eq (arL_nodup nd r c) (nbL_rising nd r c) fun z => (mem_nbL nd).trans mem_arL.symm
section
variable {P : Program} {w : World} {K : PySem.W.Frag} {mg : Str → Option Value} {base : Heap} {f C : Addr} {fd : FuncData}
def spAround : Sp := fun vs H Q _ => ∃ (L : Addr) (g : Grid) (wd r c : Nat), vs = [.ref L, .int r, .int c] ∧ GridAt H L g ∧ Good g wd ∧ r < g.length ∧ c < wd ∧
  ∀ (t : Addr) (H' : Hp), Same H H' → H' t = some (.tup ((nbL g r c).map V.str)) → Q (.ref t) H'
abbrev nAround : List Str := ["_law_laid", "_law_row", "_law_column", "_law_found", "_law_down", "_law_along", "_law_one"]
theorem scAround : FnScope nAround ["_law_laid", "_law_row", "_law_column"] (defScope sAround) := ⟨rfl, rfl, rfl, by decide +kernel, rfl, by decide +kernel, by decide +kernel⟩
/-- the part at any two whole numbers -/
def cellZ (g : Grid) (wd : Nat) (x y : Int) : List (Option Str) := if (0 ≤ x ∧ x < g.length) ∧ 0 ≤ y ∧ y < wd then [cellAt g x.toNat y.toNat] else []
def dirs : List (Int × Int) := [(-1, 0), (1, 0), (0, -1), (0, 1)]
theorem fm_app {a b : List (Option Str)} : (a ++ b).filterMap id = a.filterMap id ++ b.filterMap id := List.filterMap_append
theorem dirs_ar {g : Grid} {wd : Nat} (gd : Good g wd) {r c : Nat} (hr : r < g.length) (hc : c < wd) : ((dirs.flatMap fun d => cellZ g wd (r + d.1) (c + d.2)).filterMap id) = arL g r c := by
  have out : ∀ {r' c' : Nat}, ¬ (r' < g.length ∧ c' < wd) → cellAt g r' c' = none := fun {r' c'} h => by
    cases e : cellAt g r' c' with
    | none => rfl
    | some z => exact absurd (gd.cell e) h
  have c1 : (cellZ g wd (r + -1) (c + 0)).filterMap id = ([if 0 < r then cellAt g (r - 1) c else none] : List (Option Str)).filterMap id := by
    unfold cellZ
    by_cases h : 0 < r
    · rw [if_pos (by omega), if_pos h, show ((r : Int) + -1).toNat = r - 1 by omega, show ((c : Int) + 0).toNat = c by omega]
    · rw [if_neg (by omega), if_neg h]
      rfl
  have c2 : (cellZ g wd (r + 1) (c + 0)).filterMap id = ([cellAt g (r + 1) c] : List (Option Str)).filterMap id := by
    unfold cellZ
    by_cases h : r + 1 < g.length
    · rw [if_pos (by omega), show ((r : Int) + 1).toNat = r + 1 by omega, show ((c : Int) + 0).toNat = c by omega]
    · rw [if_neg (by omega), out (by omega)]
      rfl
  have c3 : (cellZ g wd (r + 0) (c + -1)).filterMap id = ([if 0 < c then cellAt g r (c - 1) else none] : List (Option Str)).filterMap id := by
    unfold cellZ
    by_cases h : 0 < c
    · rw [if_pos (by omega), if_pos h, show ((r : Int) + 0).toNat = r by omega, show ((c : Int) + -1).toNat = c - 1 by omega]
    · rw [if_neg (by omega), if_neg h]
      rfl
  have c4 : (cellZ g wd (r + 0) (c + 1)).filterMap id = ([cellAt g r (c + 1)] : List (Option Str)).filterMap id := by
    unfold cellZ
    by_cases h : c + 1 < wd
    · rw [if_pos (by omega), show ((r : Int) + 0).toNat = r by omega, show ((c : Int) + 1).toNat = c + 1 by omega]
    · rw [if_neg (by omega), out (by omega)]
      rfl
  unfold dirs
  simp only [List.flatMap_cons, List.flatMap_nil, List.append_nil, fm_app]
  rw [c1, c2, c3, c4]
  unfold arL
  rw [← fm_app, ← fm_app, ← fm_app]
  rfl
theorem cellZ_len (g : Grid) (wd : Nat) (x y : Int) : (cellZ g wd x y).length ≤ 1 := by
  unfold cellZ
  split <;> simp
/-- reading laid[x][y] -/
theorem grid_get {H : Hp} {L : Addr} {g : Grid} {wd : Nat} (gd : Good g wd) {as : List Addr} (hL : H L = some (.tup (as.map V.ref))) (hR : RowsAt H as g) {x y : Int} (hx : 0 ≤ x ∧ x < g.length) (hy : 0 ≤ y ∧ y < wd) :
    ∃ (p : Addr) (row : Row), atI (as.map V.ref) x = some (.ref p) ∧ H p = some (.tup (row.map oV)) ∧ row.length = wd ∧ atI (row.map oV) y = some (oV (cellAt g x.toNat y.toNat)) := by
  have hx2 : x.toNat < g.length := by omega
  have hg : g[x.toNat]? = some g[x.toNat] := List.getElem?_eq_getElem hx2
  obtain ⟨p, hp, hH⟩ := hR.get2 hg
  have hw := gd.rows _ (List.mem_of_getElem? hg)
  have hy2 : y.toNat < g[x.toNat].length := by omega
  refine ⟨p, g[x.toNat], at_of (j := x.toNat) (by omega) (by rw [List.getElem?_map, hp]; rfl), hH, hw, at_of (j := y.toNat) (by omega) ?_⟩
  rw [List.getElem?_map, List.getElem?_eq_getElem hy2, cellAt_of hg (List.getElem?_eq_getElem hy2)]
  rfl
theorem opt_filter (os : List (Option Str)) : ((os.map oV).filter fun v => !decide (v = .non)).map id = (os.filterMap id).map V.str := row_filter os
theorem ok_around (F : Fun K "_law_around" "_law_around" sAround f fd) (B : Bi mg) : FnOk P w K mg base CX0 1 f fd ["_law_laid", "_law_row", "_law_column"] spAround := by
  refine F.ok scAround (fun vs H Q E h => ?_) (fun cdv A outer s H vs Q E hr h => ?_)
  · obtain ⟨L, g, wd, r, c, rfl, _⟩ := h
    rfl
  · obtain ⟨L, g, wd, r, c, rfl, ⟨as, hL, hR⟩, gd, hrl, hcl, q⟩ := h
    refine ⟨_, pss_cons (ps_set (i := 3) scAround.nd rfl (.inl rfl) (pe_lst pa_nil))
      (pss_cons (ps_for PassesOwn.never rfl (pi_list (pe_lst (pa_cons (pe_tup (pa_cons (pe_un un_neg pe_int) (pa_cons pe_int pa_nil))) (pa_cons (pe_tup (pa_cons pe_int (pa_cons pe_int pa_nil))) (pa_cons (pe_tup (pa_cons pe_int (pa_cons (pe_un un_neg pe_int) pa_nil))) (pa_cons (pe_tup (pa_cons pe_int (pa_cons pe_int pa_nil))) pa_nil))))))
          (pg_tup rfl (pgs_cons (pg_name (i := 4) scAround.nd rfl (.inl rfl)) (pgs_cons (pg_name (i := 5) scAround.nd rfl (.inl rfl)) pgs_nil)))
        (pss_one (ps_if (PW.pt (pw_and (pt_chain op_le op_lt pe_int (pe_op op_add (pv 1) (pv 4)) (pe_callB call_len_seq (by rfl) B.len PySem.boot_len (pa_cons (pv 0) pa_nil)))
            (pw_and1 (pt_chain op_le op_lt pe_int (pe_op op_add (pv 2) (pv 5)) (pe_callB call_len_seq (by rfl) B.len PySem.boot_len (pa_cons (pe_ix ix_tup (pv 0) pe_int (fun _ _ => rfl)) pa_nil))))))
          (pss_one (ps_expr (pe_bm PySem.F.plainAttrs_list PySem.F.slot_list_append PySem.F.type_list_append mt_append (pv 3) (pa_cons (pe_ix ix_tup (pe_ix ix_tup (pv 0) (pe_op op_add (pv 1) (pv 4)) (fun _ _ => rfl)) (pe_op op_add (pv 2) (pv 5)) (fun _ _ => rfl)) pa_nil)))) pss_nil)))
      (pss_one (ps_ret (pe_callTy call_tuple_of (by rfl) B.tuple (by decide +kernel) (pa_cons (pe_callB (cr_sortD hr.units) (by rfl) B.sorted (by decide +kernel) (pa_cons
        (pe_lc (own := [("_law_one", 6)]) (g := gName 6) (tt := tB (tNotN (tVar 6))) rfl scAround.nd (pi_list (pv 3)) (blkOk_by (N := nAround) (sc := defScope sAround) (by decide +kernel)) (fun _ _ _ _ _ => pg_name (i := 6) scAround.nd rfl (.inl rfl))
            (fun _ _ _ _ _ => pts_one (pt_cmp (pc_notN (pv 6)))) (fun _ _ _ _ _ => pv 6)) pa_nil)) pa_nil))))), ?_⟩
    refine ⟨lz, fun fA hf => ?_⟩
    have s0 : Same H (upd H fA (.lst [])) := same_new hf
    refine ⟨_, rfl, lz, fun t1 h1 => ⟨lz, fun t2 h2 => ⟨_, rfl, lz, fun t3 h3 => ⟨lz, fun t4 h4 => ⟨lz, fun b hb => ?_⟩⟩⟩⟩⟩
    have k1 := (same_new (o := .tup [.int (-1), .int 0]) h1)
    have k2 := (same_new (o := .tup [.int 1, .int 0]) h2)
    have k3 := (same_new (o := .tup [.int 0, .int (-1)]) h3)
    have k4 := (same_new (o := .tup [.int 0, .int 1]) h4)
    have k5 := (same_new (o := .lst [.ref t1, .ref t2, .ref t3, .ref t4]) hb)
    have nbf : fA ≠ b := ne_of_none (k4 _ _ (k3 _ _ (k2 _ _ (k1 _ _ upd_same)))) hb
    have sAll : Same H _ := s0.trans ((k1.trans k2).trans ((k3.trans k4).trans k5))
    have a0 := k5 _ _ (k4 _ _ (k3 _ _ (k2 _ _ (k1 _ _ (upd_same (H := H) (a := fA) (o := .lst []))))))
    have a1 := k5 _ _ (k4 _ _ (k3 _ _ (k2 _ _ (upd_same (a := t1) (o := .tup [.int (-1), .int 0])))))
    have a2 := k5 _ _ (k4 _ _ (k3 _ _ (upd_same (a := t2) (o := .tup [.int 1, .int 0]))))
    have a3 := k5 _ _ (k4 _ _ (upd_same (a := t3) (o := .tup [.int 0, .int (-1)])))
    have a4 := k5 _ _ (upd_same (a := t4) (o := .tup [.int 0, .int 1]))
    have hbH : H b = none := (s0.trans ((k1.trans k2).trans (k3.trans k4))).free hb
    have a5 : upd (upd (upd (upd (upd (upd H fA (.lst [])) t1 (.tup [.int (-1), .int 0])) t2 (.tup [.int 1, .int 0])) t3 (.tup [.int 0, .int (-1)])) t4 (.tup [.int 0, .int 1])) b (.lst [.ref t1, .ref t2, .ref t3, .ref t4]) b = _ := upd_same
    generalize upd (upd (upd (upd (upd (upd H fA (.lst [])) t1 (.tup [.int (-1), .int 0])) t2 (.tup [.int 1, .int 0])) t3 (.tup [.int 0, .int (-1)])) t4 (.tup [.int 0, .int 1])) b (.lst [.ref t1, .ref t2, .ref t3, .ref t4]) = H2 at a0 a1 a2 a3 a4 a5 sAll
    -- the four ways
    have ways : ∀ (i : Nat) (x : V), ([.ref t1, .ref t2, .ref t3, .ref t4] : List V)[i]? = some x → ∃ t d, x = .ref t ∧ dirs[i]? = some d ∧ H2 t = some (.tup [.int d.1, .int d.2]) := by
      intro i x hx
      match i, hx with
      | 0, h => cases h; exact ⟨t1, _, rfl, rfl, a1⟩
      | 1, h => cases h; exact ⟨t2, _, rfl, rfl, a2⟩
      | 2, h => cases h; exact ⟨t3, _, rfl, rfl, a3⟩
      | 3, h => cases h; exact ⟨t4, _, rfl, rfl, a4⟩
      | n + 4, h => simp at h
    refine ⟨b, rfl, ⟨_, .inl (.inl a5)⟩, for_list (K := K) (a := b) (xs := [.ref t1, .ref t2, .ref t3, .ref t4]) (fun i σ H' => (∃ y4 y5 y6, σ = [some (.ref L), some (.int r), some (.int c), some (.ref fA), y4, y5, y6]) ∧ Same H H' ∧ SameX fA H2 H' ∧ H' fA = some (.lst (((dirs.take i).flatMap fun d => cellZ g wd (r + d.1) (c + d.2)).map oV)))
      ⟨⟨_, _, _, rfl⟩, sAll, SameX.refl _ _, a0⟩ (fun i σ H' _ h => .inl (.inl (h.2.2.1 _ _ nbf.symm a5))) ?_ ?_⟩
    · rintro i x σ H3 hx ⟨⟨y4, y5, y6, rfl⟩, s3, x3, hf3⟩
      obtain ⟨t, d, rfl, hd, ht⟩ := ways i x hx
      have ht3 := x3 _ _ (ne_of ht a0 (by intro z; cases z)) ht
      have hL3 := s3 _ _ hL
      have hR3 := hR.keep (tk_same s3)
      have hf := flat_take_snoc (f := fun d : Int × Int => cellZ g wd (r + d.1) (c + d.2)) hd
      obtain ⟨p0, row0, hat0, hp0, hrl0, _⟩ := grid_get gd hL3 hR3 (x := 0) (y := 0) ⟨by omega, by have := gd.h1; omega⟩ ⟨by omega, by have := gd.w1; omega⟩
      have lenL : ((as.map V.ref).length : Int) = g.length := by rw [List.length_map, hR.length]
      have lenW : ((row0.map oV).length : Int) = wd := by rw [List.length_map, hrl0]
      refine ⟨t, _, rfl, .inl (.inl ht3), rfl, _, _, rfl, _, _, rfl, rfl, ?_⟩
      refine ⟨_, rfl, _, rfl, _, _, rfl, rfl, _, _, rfl, rfl, _, rfl, ite_b (fun e1 => ?_) (fun e1 => ?_)⟩
      · refine ⟨_, rfl, L, _, rfl, .inr (.inl (.inl hL3)), _, _, rfl, rfl, _, rfl, ite_b (fun e2 => ?_) (fun e2 => ?_)⟩
        · refine ⟨_, rfl, _, rfl, _, _, rfl, rfl, _, _, rfl, rfl, _, rfl, ite_b (fun e3 => ?_) (fun e3 => ?_)⟩
          · refine ⟨_, rfl, L, _, 0, _, rfl, rfl, .inl (.inl hL3), hat0, p0, _, rfl, .inr (.inl (.inl hp0)), _, _, rfl, rfl, _, rfl, ite_b (fun e4 => ?_) (fun e4 => ?_)⟩
            · have b1 := of_decide_eq_true e1
              have b2 := of_decide_eq_true e2
              have b3 := of_decide_eq_true e3
              have b4 := of_decide_eq_true e4
              rw [lenL] at b2
              rw [lenW] at b4
              obtain ⟨p, row, hat, hp, hrw, hat2⟩ := grid_get gd hL3 hR3 (x := r + d.1) (y := c + d.2) ⟨b1, b2⟩ ⟨b3, b4⟩
              refine ⟨_, rfl, .inl ⟨rfl, _, .inl (.inl hf3)⟩, _, rfl, _, rfl, _, rfl, _, _, rfl, rfl, L, _, _, _, rfl, rfl, .inl (.inl hL3), hat, _, rfl, _, rfl, _, _, rfl, rfl, p, _, _, _, rfl, rfl, .inl (.inl hp), hat2, fA, _, _, rfl, rfl, hf3, ?_, ?_⟩
              · rw [List.length_map]
                have hle : ∀ l : List (Int × Int), (l.flatMap fun d => cellZ g wd (r + d.1) (c + d.2)).length ≤ l.length := by
                  intro l
                  induction l with
                  | nil => simp
                  | cons x l ih =>
                    rw [List.flatMap_cons, List.length_append, List.length_cons]
                    have := cellZ_len g wd (r + x.1) (c + x.2)
                    omega
                have h2 := hle (dirs.take i)
                have h3 : (dirs.take i).length ≤ dirs.length := List.length_take_le' _ _
                have h4 : dirs.length = 4 := rfl
                exact small1000 (by omega)
              · refine ⟨⟨_, _, _, rfl⟩, same_mut s3 (by assumption), x3.trans sameX_upd, ?_⟩
                rw [upd_same, hf, List.map_append]
                congr 3
                unfold cellZ
                rw [if_pos ⟨⟨b1, b2⟩, b3, b4⟩]
                rfl
            · have b4 := of_decide_eq_false e4
              rw [lenW] at b4
              refine ⟨⟨_, _, _, rfl⟩, s3, x3, ?_⟩
              rw [hf, show cellZ g wd (r + d.1) (c + d.2) = [] by unfold cellZ; exact if_neg (by omega), List.append_nil]
              exact hf3
          · have b3 := of_decide_eq_false e3
            refine ⟨_, rfl, iteF ⟨⟨_, _, _, rfl⟩, s3, x3, ?_⟩⟩
            rw [hf, show cellZ g wd (r + d.1) (c + d.2) = [] by unfold cellZ; exact if_neg (by omega), List.append_nil]
            exact hf3
        · have b2 := of_decide_eq_false e2
          rw [lenL] at b2
          refine ⟨⟨_, _, _, rfl⟩, s3, x3, ?_⟩
          rw [hf, show cellZ g wd (r + d.1) (c + d.2) = [] by unfold cellZ; exact if_neg (by omega), List.append_nil]
          exact hf3
      · have b1 := of_decide_eq_false e1
        refine ⟨_, rfl, iteF ⟨⟨_, _, _, rfl⟩, s3, x3, ?_⟩⟩
        rw [hf, show cellZ g wd (r + d.1) (c + d.2) = [] by unfold cellZ; exact if_neg (by omega), List.append_nil]
        exact hf3
    · rintro σ H3 ⟨⟨y4, y5, y6, rfl⟩, s3, x3, hf3⟩
      have hf3 : H3 fA = some (.lst ((dirs.flatMap fun d => cellZ g wd (r + d.1) (c + d.2)).map oV)) := hf3
      refine ⟨_, rfl, fA, rfl, ⟨_, .inl (.inl hf3)⟩, fun D hD => ?_⟩
      refine lc_map (walk_list (K := K) (a := fA) (xs := (dirs.flatMap fun d => cellZ g wd (r + d.1) (c + d.2)).map oV)) hD (fun v => !decide (v = .non)) id (fun H' s' => .inl (.inl (s' _ _ hf3))) (fun _ => rfl) ?_ ?_ ?_ ?_
      · intro x H' hx s' Q' q'
        exact ⟨_, rfl, _, rfl, q'⟩
      · intro x H' hx _ _ Q' q'
        exact ⟨_, rfl, q'⟩
      · rw [List.length_map]
        have h1 := cellZ_len g wd (r + -1) (c + 0)
        have h2 := cellZ_len g wd (r + 1) (c + 0)
        have h3 := cellZ_len g wd (r + 0) (c + -1)
        have h4 := cellZ_len g wd (r + 0) (c + 1)
        refine small1000 ?_
        unfold dirs
        simp only [List.flatMap_cons, List.flatMap_nil, List.append_nil, List.length_append]
        omega
      · intro H4 s4 hD4
        rw [opt_filter, dirs_ar gd hrl hcl] at hD4
        dsimp only [tNil]
        refine sort_reads (K := K) (.inl (.inl hD4)) fun p hp => ?_
        rw [← ar_eq gd.nd]
        refine ⟨p, _, rfl, .inl ⟨.inl (.inl upd_same), fun t5 ht5 => ?_⟩⟩
        exact q t5 _ (((s3.trans s4).trans (same_new hp)).trans (same_new ht5)) upd_same
end
end Wl

namespace Wl
open PySem PySem.Spec PyProof.Rows L2
def pr2 : Option Str → Option Str → List Two
  | some x, some y => [(lessOf x y, moreOf x y)]
  | _, _ => []
/-- the pair of a place and the one a step on: k 0: below, k 1: to the right -/
def stepB (g : Grid) (r c : Nat) (k : Nat) : List Two := pr2 (cellAt g r c) (cellAt g (r + (1 - k)) (c + k))
def colB (g : Grid) (r c : Nat) : List Two := stepB g r c 0 ++ stepB g r c 1
def rowB (g : Grid) (wd r : Nat) : List Two := (List.range wd).flatMap fun c => colB g r c
def bsL (g : Grid) (wd : Nat) : List Two := (List.range g.length).flatMap fun r => rowB g wd r
theorem mem_stepB {g : Grid} {r c k : Nat} {p : Two} : p ∈ stepB g r c k ↔ ∃ x y, cellAt g r c = some x ∧ cellAt g (r + (1 - k)) (c + k) = some y ∧ p = (lessOf x y, moreOf x y) := by
  unfold stepB
  cases h1 : cellAt g r c with
  | none => simp [pr2]
  | some x =>
    cases h2 : cellAt g (r + (1 - k)) (c + k) with
    | none => simp [pr2]
    | some y =>
      simp only [pr2, List.mem_singleton]
      constructor
      · intro e
        exact ⟨x, y, rfl, rfl, e⟩
      · rintro ⟨x', y', e1, e2, e⟩
        cases e1
        cases e2
        exact e
theorem less_more {x y : Str} (h : x ≠ y) : ltS (lessOf x y) (moreOf x y) ∧ ((lessOf x y = x ∧ moreOf x y = y) ∨ (lessOf x y = y ∧ moreOf x y = x)) := by
  unfold lessOf moreOf
  by_cases a : ltS x y
  · have b : ¬ ltS y x := fun q => ltS_irr _ (ltS_tr _ _ _ a q)
    rw [if_neg b, if_pos a]
    exact ⟨a, .inl ⟨rfl, rfl⟩⟩
  · have b : ltS y x := Classical.byContradiction fun q => h (ltS_tot a q)
    rw [if_pos b, if_neg a]
    exact ⟨b, .inr ⟨rfl, rfl⟩⟩
theorem stepB_far {g : Grid} (nd : (names g).Nodup) {r c k r' c' k' : Nat} (hk : k < 2) (hk' : k' < 2) {p : Two} (h : p ∈ stepB g r c k) (h' : p ∈ stepB g r' c' k') : r = r' ∧ c = c' ∧ k = k' := by
  obtain ⟨x, y, a1, a2, rfl⟩ := mem_stepB.mp h
  obtain ⟨x', y', b1, b2, e⟩ := mem_stepB.mp h'
  have n1 : x ≠ y := fun q => by
    subst q
    obtain ⟨u, v⟩ := cell_inj nd a1 a2
    omega
  have n2 : x' ≠ y' := fun q => by
    subst q
    obtain ⟨u, v⟩ := cell_inj nd b1 b2
    omega
  obtain ⟨e1, e2⟩ := Prod.mk.inj e
  obtain ⟨_, q⟩ := less_more n1
  obtain ⟨_, q'⟩ := less_more n2
  have ee : (x = x' ∧ y = y') ∨ (x = y' ∧ y = x') := by
    rcases q with ⟨q1, q2⟩ | ⟨q1, q2⟩ <;> rcases q' with ⟨q3, q4⟩ | ⟨q3, q4⟩ <;> rw [q1, q3] at e1 <;> rw [q2, q4] at e2
    · exact .inl ⟨e1, e2⟩
    · exact .inr ⟨e1, e2⟩
    · exact .inr ⟨e2, e1⟩
    · exact .inl ⟨e2, e1⟩
  rcases ee with ⟨rfl, rfl⟩ | ⟨rfl, rfl⟩
  · obtain ⟨u1, u2⟩ := cell_inj nd a1 b1
    obtain ⟨v1, v2⟩ := cell_inj nd a2 b2
    omega
  · obtain ⟨u1, u2⟩ := cell_inj nd a1 b2
    obtain ⟨v1, v2⟩ := cell_inj nd a2 b1
    omega
theorem stepB_one (g : Grid) (r c k : Nat) : (stepB g r c k).Nodup := by
  unfold stepB
  cases cellAt g r c <;> cases cellAt g (r + (1 - k)) (c + k) <;> simp [pr2]
theorem mem_colB {g : Grid} {r c : Nat} {p : Two} : p ∈ colB g r c ↔ ∃ k, k < 2 ∧ p ∈ stepB g r c k := by
  unfold colB
  rw [List.mem_append]
  constructor
  · rintro (h | h)
    · exact ⟨0, by omega, h⟩
    · exact ⟨1, by omega, h⟩
  · rintro ⟨k, hk, h⟩
    match k, hk, h with
    | 0, _, h => exact .inl h
    | 1, _, h => exact .inr h
theorem bsL_nodup {g : Grid} (nd : (names g).Nodup) (wd : Nat) : (bsL g wd).Nodup := by
  unfold bsL rowB
  refine List.pairwise_flatMap.mpr ⟨fun r _ => List.pairwise_flatMap.mpr ⟨fun c _ => ?_, ?_⟩, ?_⟩
  · refine List.nodup_append.mpr ⟨stepB_one g r c 0, stepB_one g r c 1, fun x hx y hy e => ?_⟩
    subst e
    have := (stepB_far nd (by omega) (by omega) hx hy).2.2
    omega
  · refine (List.nodup_range (n := wd)).imp fun {c c'} ne x hx y hy e => ?_
    subst e
    obtain ⟨k, hk, h⟩ := mem_colB.mp hx
    obtain ⟨k', hk', h'⟩ := mem_colB.mp hy
    exact ne (stepB_far nd hk hk' h h').2.1
  · refine (List.nodup_range (n := g.length)).imp fun {r r'} ne x hx y hy e => ?_
    subst e
    obtain ⟨c, _, hx⟩ := List.mem_flatMap.mp hx
    obtain ⟨c', _, hy⟩ := List.mem_flatMap.mp hy
    obtain ⟨k, hk, h⟩ := mem_colB.mp hx
    obtain ⟨k', hk', h'⟩ := mem_colB.mp hy
    exact ne (stepB_far nd hk hk' h h').1
theorem mem_bsL {g : Grid} {wd : Nat} (gd : Good g wd) {a b : Str} : (a, b) ∈ bsL g wd ↔ ltS a b ∧ ∃ r c r' c', cellAt g r c = some a ∧ cellAt g r' c' = some b ∧ Adj r c r' c' := by
  have nd := gd.nd
  have step : (a, b) ∈ bsL g wd ↔ ∃ r c k, k < 2 ∧ (a, b) ∈ stepB g r c k := by
    unfold bsL rowB
    constructor
    · intro h
      obtain ⟨r, _, h⟩ := List.mem_flatMap.mp h
      obtain ⟨c, _, h⟩ := List.mem_flatMap.mp h
      obtain ⟨k, hk, h⟩ := mem_colB.mp h
      exact ⟨r, c, k, hk, h⟩
    · rintro ⟨r, c, k, hk, h⟩
      obtain ⟨x, y, h1, _⟩ := mem_stepB.mp h
      obtain ⟨hr, hc⟩ := gd.cell h1
      exact List.mem_flatMap.mpr ⟨r, List.mem_range.mpr hr, List.mem_flatMap.mpr ⟨c, List.mem_range.mpr hc, mem_colB.mpr ⟨k, hk, h⟩⟩⟩
  rw [step]
  constructor
  · rintro ⟨r, c, k, hk, h⟩
    obtain ⟨x, y, h1, h2, e⟩ := mem_stepB.mp h
    obtain ⟨ea, eb⟩ := Prod.mk.inj e
    have n1 : x ≠ y := fun q => by
      subst q
      obtain ⟨u, v⟩ := cell_inj nd h1 h2
      omega
    obtain ⟨lt, q⟩ := less_more n1
    rw [← ea, ← eb] at lt
    refine ⟨lt, ?_⟩
    have ad : Adj r c (r + (1 - k)) (c + k) := by
      unfold Adj
      omega
    rcases q with ⟨q1, q2⟩ | ⟨q1, q2⟩ <;> rw [q1] at ea <;> rw [q2] at eb <;> subst ea eb
    · exact ⟨r, c, _, _, h1, h2, ad⟩
    · refine ⟨_, _, r, c, h2, h1, ?_⟩
      unfold Adj
      omega
  · rintro ⟨lt, r, c, r', c', h1, h2, ad⟩
    have hl : lessOf a b = a ∧ moreOf a b = b := by
      unfold lessOf moreOf
      have n : ¬ ltS b a := fun q => ltS_irr _ (ltS_tr _ _ _ lt q)
      rw [if_neg n, if_pos lt]
      exact ⟨rfl, rfl⟩
    have hl2 : lessOf b a = a ∧ moreOf b a = b := by
      unfold lessOf moreOf
      have n : ¬ ltS b a := fun q => ltS_irr _ (ltS_tr _ _ _ lt q)
      rw [if_pos lt, if_neg n]
      exact ⟨rfl, rfl⟩
    rcases ad with ⟨rfl, rfl | e⟩ | ⟨rfl, rfl | e⟩
    · exact ⟨r', c, 1, by omega, mem_stepB.mpr ⟨a, b, h1, h2, by rw [hl.1, hl.2]⟩⟩
    · subst e
      exact ⟨r', c', 1, by omega, mem_stepB.mpr ⟨b, a, h2, h1, by rw [hl2.1, hl2.2]⟩⟩
    · exact ⟨r, c', 0, by omega, mem_stepB.mpr ⟨a, b, h1, h2, by rw [hl.1, hl.2]⟩⟩
    · subst e
      exact ⟨r', c', 0, by omega, mem_stepB.mpr ⟨b, a, h2, h1, by rw [hl2.1, hl2.2]⟩⟩
theorem bs_eq {g : Grid} {wd : Nat} (gd : Good g wd) : bdL g = sortP (bsL g wd) :=
  sortP_eq (bsL_nodup gd.nd wd) (bdL_rising gd.nd) fun z => (mem_bdL gd.nd).trans (mem_bsL gd).symm

/-! ### sorted of pairs -/
def twD (p : Two) : PyData := .tuple [.str p.1, .str p.2]
theorem each_zip {α β : Type} {R : α → β → Prop} : ∀ {as : List α} {bs : List β}, Each R as bs → ∃ zs : List (α × β), zs.map (·.1) = as ∧ zs.map (·.2) = bs ∧ ∀ z ∈ zs, R z.1 z.2
  | _, _, .nil => ⟨[], rfl, rfl, fun z h => by cases h⟩
  | _, _, .cons (a := a) (b := b) r t => by
    obtain ⟨zs, h1, h2, h3⟩ := each_zip t
    refine ⟨(a, b) :: zs, by rw [List.map_cons, h1], by rw [List.map_cons, h2], fun z hz => ?_⟩
    rcases List.mem_cons.mp hz with rfl | hz
    · exact r
    · exact h3 z hz
theorem zip_each {α β : Type} {R : α → β → Prop} : ∀ (zs : List (α × β)), (∀ z ∈ zs, R z.1 z.2) → Each R (zs.map (·.1)) (zs.map (·.2))
  | [], _ => .nil
  | z :: zs, h => .cons (h z List.mem_cons_self) (zip_each zs fun y hy => h y (List.mem_cons_of_mem _ hy))
theorem sort_twos {K : PySem.W.Frag} {H : Hp} {Q : VK} {a : Addr} {xs : List V} {ps : List Two} (h : SqL K H a xs) (ht : TwosAt H xs ps) (q : ∀ p ys, H p = none → TwosAt H ys (sortP ps) → Q (.ref p) (upd H p (.lst ys))) : rSortD K [.ref a] H Q := by
  obtain ⟨zs, e1, e2, hz⟩ := each_zip ht
  refine ⟨a, zs.map fun z => (z.2, twD z.1), rfl, ?_, ?_, ?_, ?_, ?_, fun p hp => ?_⟩
  · rw [List.map_map]
    exact e2 ▸ h
  · intro b hb
    obtain ⟨z, hzm, rfl⟩ := List.mem_map.mp hb
    obtain ⟨t, e, ht⟩ := hz z hzm
    show Dp K H z.2 (twD z.1)
    rw [e]
    exact .tup (.inl (.inl ht)) (.cons (.str _) (.cons (.str _) .nil))
  · intro d hd e he
    obtain ⟨b, hb, rfl⟩ := List.mem_map.mp hd
    obtain ⟨x, _, rfl⟩ := List.mem_map.mp hb
    obtain ⟨c, hc, rfl⟩ := List.mem_map.mp he
    obtain ⟨y, _, rfl⟩ := List.mem_map.mp hc
    rfl
  · refine .inl fun d hd => ?_
    obtain ⟨b, hb, rfl⟩ := List.mem_map.mp hd
    obtain ⟨x, _, rfl⟩ := List.mem_map.mp hb
    exact ⟨_, _, rfl⟩
  · intro b hb
    obtain ⟨x, _, rfl⟩ := List.mem_map.mp hb
    show PyData.depth (twD x.1) ≤ 8
    simp [twD, PyData.depth, PyData.depthAll]
  · have m1 : (zs.mergeSort fun x y => lePB x.1 y.1).map (fun z => (z.2, twD z.1)) = (zs.map fun z => (z.2, twD z.1)).mergeSort (PySem.W.dataLe false (·.2)) := List.map_mergeSort fun x _ y _ => by
      rw [PySem.W.dataLe_eq]
      exact (le_data_two x.1 y.1).symm
    have m2 : (zs.mergeSort fun x y => lePB x.1 y.1).map (·.1) = (zs.map (·.1)).mergeSort lePB := List.map_mergeSort fun x _ y _ => rfl
    rw [← m1, List.map_map]
    refine q p _ hp ?_
    have e3 := zip_each (R := fun (p : Two) (v : V) => ∃ t, v = V.ref t ∧ H t = some (.tup [.str p.1, .str p.2])) (zs.mergeSort fun x y => lePB x.1 y.1) fun z hzm => hz z (List.mem_mergeSort.mp hzm)
    rw [m2, e1] at e3
    exact e3
end Wl

namespace Wl
open PySem PySem.Spec PyProof.Rows L2
section
variable {P : Program} {w : World} {K : PySem.W.Frag} {mg : Str → Option Value} {base : Heap} {f C : Addr} {fd : FuncData}
def spBeside : Sp := fun vs H Q _ => ∃ (L : Addr) (g : Grid) (wd : Nat), vs = [.ref L] ∧ GridAt H L g ∧ Good g wd ∧
  ∀ (t : Addr) (xs : List V) (H' : Hp), Same H H' → H' t = some (.lst xs) → TwosAt H' xs (bdL g) → Q (.ref t) H'
abbrev nBeside : List Str := ["_law_laid", "_law_found", "_law_row", "_law_column", "_law_down", "_law_along", "_law_pair"]
theorem scBeside : FnScope nBeside ["_law_laid"] (defScope sBeside) := ⟨rfl, rfl, rfl, by decide +kernel, rfl, by decide +kernel, by decide +kernel⟩
theorem TwosAt.app {H : Hp} {xs ys : List V} {ps qs : List Two} (h : TwosAt H xs ps) (k : TwosAt H ys qs) : TwosAt H (xs ++ ys) (ps ++ qs) := Each.append h k
theorem range_flat {α : Type} (f : Nat → List α) (i : Nat) : (List.range (i + 1)).flatMap f = (List.range i).flatMap f ++ f i := by
  rw [List.range_succ, List.flatMap_append]
  simp
theorem stepB_le (g : Grid) (r c k : Nat) : (stepB g r c k).length ≤ 1 := by
  unfold stepB
  cases cellAt g r c <;> cases cellAt g (r + (1 - k)) (c + k) <;> simp [pr2]
theorem colB_le (g : Grid) (r c : Nat) : (colB g r c).length ≤ 2 := by
  unfold colB
  rw [List.length_append]
  have := stepB_le g r c 0
  have := stepB_le g r c 1
  omega
theorem flat_le {f : Nat → List Two} {m : Nat} (h : ∀ i, (f i).length ≤ m) : ∀ n, ((List.range n).flatMap f).length ≤ n * m
  | 0 => by simp
  | n + 1 => by
    rw [range_flat, List.length_append, Nat.succ_mul]
    have := flat_le h n
    have := h n
    omega
theorem bound_B {g : Grid} {wd i j k : Nat} (hi : i ≤ 6) (hj : j ≤ 6) (hw : wd ≤ 6) (hk : k ≤ 2) (ps : List Two) (e : ps = (List.range i).flatMap (rowB g wd) ++ ((List.range j).flatMap (colB g i) ++ (List.range k).flatMap (stepB g i j))) : ps.length ≤ 200 := by
  subst e
  rw [List.length_append, List.length_append]
  have h1 := flat_le (f := rowB g wd) (m := wd * 2) (fun r => flat_le (f := fun c => colB g r c) (m := 2) (fun c => colB_le g r c) wd) i
  have h2 := flat_le (f := colB g i) (m := 2) (fun c => colB_le g i c) j
  have h3 := flat_le (f := stepB g i j) (m := 1) (fun c => stepB_le g i j c) k
  have h4 : i * (wd * 2) ≤ 6 * (6 * 2) := Nat.mul_le_mul hi (Nat.mul_le_mul_right _ hw)
  omega
theorem colB_steps (g : Grid) (r c : Nat) : colB g r c = (List.range 2).flatMap (stepB g r c) := by
  unfold colB
  simp [List.range_succ]
theorem inV_non2 (a b : Option Str) : inV .non [oV a, oV b] = (a.isNone || b.isNone) := by
  cases a <;> cases b <;> rfl
theorem ok_beside (F : Fun K "_law_beside" "_law_beside" sBeside f fd) (B : Bi mg) : FnOk P w K mg base CX0 1 f fd ["_law_laid"] spBeside := by
  refine F.ok scBeside (fun vs H Q E h => ?_) (fun cdv A outer s H vs Q E hr h => ?_)
  · obtain ⟨L, g, wd, rfl, _⟩ := h
    rfl
  · obtain ⟨L, g, wd, rfl, ⟨as, hL, hR⟩, gd, q⟩ := h
    refine ⟨_, pss_cons (ps_set (i := 1) scBeside.nd rfl (.inl rfl) (pe_lst pa_nil))
      (pss_cons (ps_for PassesOwn.never rfl (pi_range1 rfl B.range (pa_cons (pe_callB call_len_seq (by rfl) B.len PySem.boot_len (pa_cons (pv 0) pa_nil)) pa_nil)) (pg_name (i := 2) scBeside.nd rfl (.inl rfl))
        (pss_one (ps_for PassesOwn.never rfl (pi_range1 rfl B.range (pa_cons (pe_callB call_len_seq (by rfl) B.len PySem.boot_len (pa_cons (pe_ix ix_tup (pv 0) (pv 2) (fun _ _ => rfl)) pa_nil)) pa_nil)) (pg_name (i := 3) scBeside.nd rfl (.inl rfl))
          (pss_one (ps_for PassesOwn.never rfl (pi_list (pe_lst (pa_cons (pe_tup (pa_cons pe_int (pa_cons pe_int pa_nil))) (pa_cons (pe_tup (pa_cons pe_int (pa_cons pe_int pa_nil))) pa_nil))))
              (pg_tup rfl (pgs_cons (pg_name (i := 4) scBeside.nd rfl (.inl rfl)) (pgs_cons (pg_name (i := 5) scBeside.nd rfl (.inl rfl)) pgs_nil)))
            (pss_one (ps_if (PW.pt (pw_and (pt_cmpR op_lt (pe_op op_add (pv 2) (pv 4)) (pe_callB call_len_seq (by rfl) B.len PySem.boot_len (pa_cons (pv 0) pa_nil)) (nomark _))
                (pw_and1 (pt_cmpR op_lt (pe_op op_add (pv 3) (pv 5)) (pe_callB call_len_seq (by rfl) B.len PySem.boot_len (pa_cons (pe_ix ix_tup (pv 0) (pv 2) (fun _ _ => rfl)) pa_nil)) (nomark _)))))
              (pss_cons (ps_set (i := 6) scBeside.nd rfl (.inl rfl) (pe_tup (pa_cons (pe_ix ix_tup (pe_ix ix_tup (pv 0) (pv 2) (fun _ _ => rfl)) (pv 3) (fun _ _ => rfl)) (pa_cons (pe_ix ix_tup (pe_ix ix_tup (pv 0) (pe_op op_add (pv 2) (pv 4)) (fun _ _ => rfl)) (pe_op op_add (pv 3) (pv 5)) (fun _ _ => rfl)) pa_nil))))
              (pss_one (ps_if (pt_cmpR op_notIn_seq pe_non (pv 6) (by rfl))
                (pss_one (ps_expr (pe_bm PySem.F.plainAttrs_list PySem.F.slot_list_append PySem.F.type_list_append mt_append (pv 1) (pa_cons (pe_tup (pa_cons (pe_callB (cr_minT rfl hr.units) (by rfl) B.min (by decide +kernel) (pa_cons (pv 6) pa_nil)) (pa_cons (pe_callB (cr_maxT rfl hr.units) (by rfl) B.max (by decide +kernel) (pa_cons (pv 6) pa_nil)) pa_nil))) pa_nil)))) pss_nil))) pss_nil)))))))
      (pss_one (ps_ret (pe_callB (cr_sortD hr.units) (by rfl) B.sorted (by decide +kernel) (pa_cons (pv 1) pa_nil))))), ?_⟩
    refine ⟨lz, fun fA hfA => ?_⟩
    have s0 : Same H (upd H fA (.lst [])) := same_new hfA
    have lenL : ((as.map V.ref).length : Int) = g.length := by rw [List.length_map, hR.length]
    have h6 := gd.h6
    have w6 := gd.w6
    refine ⟨_, rfl, L, _, rfl, .inr (.inl (.inl (s0 _ _ hL))), _, rfl, by rw [lenL]; omega, by rw [lenL]; omega, ?_⟩
    rw [show ((as.map V.ref).length : Int).toNat = g.length by rw [lenL]; rfl]
    refine for_range (lo := 0) (n := g.length) (fun i σ H' => (∃ y2 y3 y4 y5 y6, σ = [some (.ref L), some (.ref fA), y2, y3, y4, y5, y6]) ∧ Same H H' ∧ ∃ xs, H' fA = some (.lst xs) ∧ TwosAt H' xs ((List.range i).flatMap (rowB g wd)))
      ⟨⟨_, _, _, _, _, rfl⟩, s0, [], upd_same, .nil⟩ ?_ ?_
    · rintro i σ H1 hi ⟨⟨y2, y3, y4, y5, y6, rfl⟩, s1, xs1, hf1, tw1⟩
      obtain ⟨p1, row1, hat1, hp1, hrl1, _⟩ := grid_get gd hL hR (x := 0 + (i : Int)) (y := 0) ⟨by omega, by omega⟩ ⟨by omega, by have := gd.w1; omega⟩
      have lenW : ((row1.map oV).length : Int) = wd := by rw [List.length_map, hrl1]
      refine ⟨_, rfl, _, rfl, L, _, _, _, rfl, rfl, .inl (.inl (s1 _ _ hL)), hat1, p1, _, rfl, .inr (.inl (.inl (s1 _ _ hp1))), _, rfl, by rw [lenW]; omega, by rw [lenW]; omega, ?_⟩
      rw [show ((row1.map oV).length : Int).toNat = wd by rw [lenW]; rfl]
      refine for_range (lo := 0) (n := wd) (fun j σ H' => (∃ y3 y4 y5 y6, σ = [some (.ref L), some (.ref fA), some (.int (0 + i)), y3, y4, y5, y6]) ∧ Same H H' ∧ ∃ xs, H' fA = some (.lst xs) ∧ TwosAt H' xs ((List.range i).flatMap (rowB g wd) ++ (List.range j).flatMap (colB g i)))
        ⟨⟨_, _, _, _, rfl⟩, s1, xs1, hf1, by simpa using tw1⟩ ?_ ?_
      · rintro j σ H2 hj ⟨⟨z3, z4, z5, z6, rfl⟩, s2, xs2, hf2, tw2⟩
        refine ⟨lz, fun t1 ht1 => ⟨lz, fun t2 ht2 => ⟨lz, fun b hb => ?_⟩⟩⟩
        have k1 := (same_new (o := .tup [.int 1, .int 0]) ht1)
        have k2 := (same_new (o := .tup [.int 0, .int 1]) ht2)
        have k3 := (same_new (o := .lst [.ref t1, .ref t2]) hb)
        have a0 := k3 _ _ (k2 _ _ (k1 _ _ hf2))
        have a1 := k3 _ _ (k2 _ _ (upd_same (H := H2) (a := t1) (o := .tup [.int 1, .int 0])))
        have a2 := k3 _ _ (upd_same (a := t2) (o := .tup [.int 0, .int 1]))
        have sK := (k1.trans k2).trans k3
        have nfb : b ≠ fA := (ne_of_none (k2 _ _ (k1 _ _ hf2)) hb).symm
        have hbH : H b = none := (s2.trans (k1.trans k2)).free hb
        have a3 : upd (upd (upd H2 t1 (.tup [.int 1, .int 0])) t2 (.tup [.int 0, .int 1])) b (.lst [.ref t1, .ref t2]) b = _ := upd_same
        have tw3 := tw2.keep (tk_same sK)
        have s3 := s2.trans sK
        generalize upd (upd (upd H2 t1 (.tup [.int 1, .int 0])) t2 (.tup [.int 0, .int 1])) b (.lst [.ref t1, .ref t2]) = H3 at a0 a1 a2 a3 tw3 s3
        have ways : ∀ (k : Nat) (x : V), ([.ref t1, .ref t2] : List V)[k]? = some x → k < 2 ∧ ∃ t, x = .ref t ∧ H3 t = some (.tup [.int ((1 - k : Nat) : Int), .int ((k : Nat) : Int)]) := by
          intro k x hx
          match k, hx with
          | 0, h => cases h; exact ⟨by omega, t1, rfl, a1⟩
          | 1, h => cases h; exact ⟨by omega, t2, rfl, a2⟩
          | n + 2, h => simp at h
        refine ⟨b, rfl, ⟨_, .inl (.inl a3)⟩, for_list (K := K) (a := b) (xs := [.ref t1, .ref t2]) (fun k σ H' => (∃ y4 y5 y6, σ = [some (.ref L), some (.ref fA), some (.int (0 + i)), some (.int (0 + j)), y4, y5, y6]) ∧ Same H H' ∧ SameX fA H3 H' ∧ ∃ xs, H' fA = some (.lst xs) ∧ TwosAt H' xs ((List.range i).flatMap (rowB g wd) ++ ((List.range j).flatMap (colB g i) ++ (List.range k).flatMap (stepB g i j))))
          ⟨⟨_, _, _, rfl⟩, s3, SameX.refl _ _, xs2, a0, by simpa using tw3⟩ (fun k σ H' _ h => .inl (.inl (h.2.2.1 _ _ nfb a3))) ?_ ?_⟩
        · rintro k x σ H4 hx ⟨⟨u4, u5, u6, rfl⟩, s4, x4, xs4, hf4, tw4⟩
          obtain ⟨hk, t, rfl, ht⟩ := ways k x hx
          have ht4 := x4 _ _ (ne_of ht a0 (by intro z; cases z)) ht
          have hL4 := s4 _ _ hL
          have hR4 := hR.keep (tk_same s4)
          have hbd := bound_B (g := g) (wd := wd) (i := i) (j := j) (k := k) (by omega) (by omega) w6 (by omega) _ rfl
          have hxl : xs4.length ≤ 200 := by
            rw [← tw4.length]
            exact hbd
          have hgo : (List.range i).flatMap (rowB g wd) ++ ((List.range j).flatMap (colB g i) ++ (List.range (k + 1)).flatMap (stepB g i j)) = ((List.range i).flatMap (rowB g wd) ++ ((List.range j).flatMap (colB g i) ++ (List.range k).flatMap (stepB g i j))) ++ stepB g i j k := by
            rw [range_flat (stepB g i j) k, List.append_assoc, List.append_assoc]
          have out : ∀ {r' c' : Nat}, ¬ (r' < g.length ∧ c' < wd) → cellAt g r' c' = none := fun {r' c'} h => by
            cases e : cellAt g r' c' with
            | none => rfl
            | some z => exact absurd (gd.cell e) h
          have nil_of : cellAt g (i + (1 - k)) (j + k) = none → stepB g i j k = [] := fun h => by
            unfold stepB
            rw [h]
            cases cellAt g i j <;> rfl
          refine ⟨t, _, rfl, .inl (.inl ht4), rfl, _, _, rfl, _, _, rfl, rfl, ?_⟩
          refine ⟨_, rfl, _, rfl, _, _, rfl, rfl, _, rfl, L, _, rfl, .inr (.inl (.inl hL4)), _, _, rfl, rfl, _, rfl, ite_b (fun e1 => ?_) (fun e1 => ?_)⟩
          · have b1 := of_decide_eq_true e1
            rw [lenL] at b1
            refine ⟨_, rfl, _, rfl, _, _, rfl, rfl, _, rfl, _, rfl, L, _, _, _, rfl, rfl, .inl (.inl hL4), hat1, p1, _, rfl, .inr (.inl (.inl (s4 _ _ hp1))), _, _, rfl, rfl, _, rfl, ite_b (fun e2 => ?_) (fun e2 => ?_)⟩
            · have b2 := of_decide_eq_true e2
              rw [lenW] at b2
              obtain ⟨pa, ra, ha1, ha2, _, ha3⟩ := grid_get gd hL4 hR4 (x := 0 + (i : Int)) (y := 0 + (j : Int)) ⟨by omega, by omega⟩ ⟨by omega, by omega⟩
              obtain ⟨pb, rb, hb1, hb2, _, hb3⟩ := grid_get gd hL4 hR4 (x := 0 + (i : Int) + ((1 - k : Nat) : Int)) (y := 0 + (j : Int) + ((k : Nat) : Int)) ⟨by omega, by omega⟩ ⟨by omega, by omega⟩
              rw [show (0 + (i : Int)).toNat = i by omega, show (0 + (j : Int)).toNat = j by omega] at ha3
              rw [show (0 + (i : Int) + ((1 - k : Nat) : Int)).toNat = i + (1 - k) by omega, show (0 + (j : Int) + ((k : Nat) : Int)).toNat = j + k by omega] at hb3
              refine ⟨_, rfl, _, rfl, L, _, _, _, rfl, rfl, .inl (.inl hL4), ha1, _, rfl, pa, _, _, _, rfl, rfl, .inl (.inl ha2), ha3, ?_⟩
              refine ⟨_, rfl, _, rfl, _, rfl, _, _, rfl, rfl, L, _, _, _, rfl, rfl, .inl (.inl hL4), hb1, _, rfl, _, rfl, _, _, rfl, rfl, pb, _, _, _, rfl, rfl, .inl (.inl hb2), hb3, lz, fun pr hpr => ?_⟩
              have s5 : Same H4 (upd H4 pr (.tup [oV (cellAt g i j), oV (cellAt g (i + (1 - k)) (j + k))])) := same_new hpr
              refine ⟨_, rfl, pr, _, rfl, .inr (.inl (.inl upd_same)), rfl, by cases cellAt g i j <;> cases cellAt g (i + (1 - k)) (j + k) <;> rfl, _, rfl, ?_⟩
              rw [if_pos rfl, inV_non2]
              cases hc1 : cellAt g i j with
              | none =>
                rw [hc1] at s5
                refine iteF ⟨⟨_, _, _, rfl⟩, s4.trans s5, x4.trans (sx s5), xs4, s5 _ _ hf4, ?_⟩
                rw [hgo, show stepB g i j k = [] by unfold stepB; rw [hc1]; rfl, List.append_nil]
                exact tw4.keep (tk_same s5)
              | some x =>
                cases hc2 : cellAt g (i + (1 - k)) (j + k) with
                | none =>
                  rw [hc1, hc2] at s5
                  refine iteF ⟨⟨_, _, _, rfl⟩, s4.trans s5, x4.trans (sx s5), xs4, s5 _ _ hf4, ?_⟩
                  rw [hgo, nil_of hc2, List.append_nil]
                  exact tw4.keep (tk_same s5)
                | some y =>
                  rw [hc1, hc2] at s5
                  have hpr2 : upd H4 pr (.tup [oV (some x), oV (some y)]) pr = some (.tup [.str x, .str y]) := upd_same
                  refine iteT ⟨_, rfl, .inl ⟨rfl, _, .inl (.inl (s5 _ _ hf4))⟩, _, rfl, pr, x, y, rfl, .inl (.inl hpr2), _, rfl, pr, x, y, rfl, .inl (.inl hpr2), lz, fun tt htt => ?_⟩
                  have s6 := same_new (o := .tup [.str (lessOf x y), .str (moreOf x y)]) htt
                  have hf6 := s6 _ _ (s5 _ _ hf4)
                  refine ⟨fA, xs4, _, rfl, rfl, hf6, small1000 (by omega), ⟨_, _, _, rfl⟩, same_mut ((s4.trans s5).trans s6) hfA, (x4.trans (sx (s5.trans s6))).trans sameX_upd, xs4 ++ [.ref tt], upd_same, ?_⟩
                  rw [hgo]
                  refine TwosAt.app ((tw4.keep (tk_same (s5.trans s6))).keep (tk_upd hf6)) ?_
                  rw [show stepB g i j k = [(lessOf x y, moreOf x y)] by unfold stepB; rw [hc1, hc2]; rfl]
                  exact .cons ⟨tt, rfl, (tk_upd hf6) _ _ upd_same⟩ .nil
            · have b2 := of_decide_eq_false e2
              rw [lenW] at b2
              refine ⟨⟨_, _, _, rfl⟩, s4, x4, xs4, hf4, ?_⟩
              rw [hgo, nil_of (out (by omega)), List.append_nil]
              exact tw4
          · have b1 := of_decide_eq_false e1
            rw [lenL] at b1
            refine ⟨⟨_, _, _, rfl⟩, s4, x4, xs4, hf4, ?_⟩
            rw [hgo, nil_of (out (by omega)), List.append_nil]
            exact tw4
        · rintro σ H4 ⟨⟨u4, u5, u6, rfl⟩, s4, x4, xs4, hf4, tw4⟩
          refine ⟨⟨_, _, _, _, rfl⟩, s4, xs4, hf4, ?_⟩
          rw [range_flat (colB g i) j, colB_steps g i j]
          exact tw4
      · rintro σ H2 ⟨⟨z3, z4, z5, z6, rfl⟩, s2, xs2, hf2, tw2⟩
        refine ⟨⟨_, _, _, _, _, rfl⟩, s2, xs2, hf2, ?_⟩
        rw [range_flat (rowB g wd) i]
        exact tw2
    · rintro σ H1 ⟨⟨y2, y3, y4, y5, y6, rfl⟩, s1, xs1, hf1, tw1⟩
      refine ⟨_, rfl, ?_⟩
      dsimp only [tNil]
      refine sort_twos (K := K) (.inl (.inl hf1)) tw1 fun p ys hp ty => ?_
      refine q p ys _ (s1.trans (same_new hp)) upd_same ?_
      rw [bs_eq gd]
      exact ty.keep (tk_new hp)
end
end Wl

namespace Wl
open PySem PySem.Spec PyProof.Rows L2
abbrev sTown : Stmt := topS 28
abbrev sEach : Stmt := topS 29
abbrev sLaw : Stmt := topS 30
def HasMK (P : Program) (w : World) (K : PySem.W.Frag) (mg : Str → Option Value) (base : Heap) (C : Addr) (m : Str) (k : Nat) (ps ks : List Str) (sp : Sp) : Prop :=
  ∃ f fd, FnOk P w K mg base CX0 k f fd ps sp ∧ Meth K C m f ∧ Binds K fd ps [] ∧ KBinds K fd ps ks g2 g2
theorem HasMK.pos {P : Program} {w : World} {K : PySem.W.Frag} {mg : Str → Option Value} {base : Heap} {C : Addr} {m : Str} {k : Nat} {ps ks : List Str} {sp : Sp} (h : HasMK P w K mg base C m k ps ks sp) : HasM P w K mg base C m k ps sp := by
  obtain ⟨f, fd, a, b, c, _⟩ := h
  exact ⟨f, fd, a, b, c⟩
section
variable {X : Cx} {k j : Nat} {C : Addr} {ps ks : List Str} {sp : Sp} {m : Str} {pos apos : Pos} {o : Expr} {kws : List Keyword} {ta : TE} {tk : TA}
theorem pe_hmk {pl : Sem Bool} (h : HasMK X.prog X.w X.K X.mg X.base C m k ps ks sp) (c : Cls X.K C) (hr : Room j X.A) (ho : PE X o ta) (hkw : PK X kws tk) (hkj : k ≤ j := by decide)
    (hall : (backToKw pos (keywordEach kws X.env)).all (·.1.isSome) = true := by rfl) (hks : (backToKw pos (keywordEach kws X.env)).filterMap (·.1) = ks := by rfl)
    (hpl : ((backTo pos (starEach [] X.env)).any (·.1) || (backToKw pos (keywordEach kws X.env)).any (·.1.isNone)) = false := by rfl)
    (ht : eval (.Call (.Attribute o m apos) [] kws pos) X.env = (do
      let ov ← eval o X.env
      standAt apos.atName
      let (f, first) ← holding [ov] (getMethod ov m pl)
      callWith pos f first (backTo pos (starEach [] X.env)) (backToKw pos (keywordEach kws X.env))) := by rfl) :
    PE X (.Call (.Attribute o m apos) [] kws pos) (tMethK C m sp E0 ta tk) := by
  obtain ⟨f, fd, F, g, _, kb⟩ := h
  exact pe_methK ho c g F (hr.mono hkj) kb pass0 hkw hall hks hpl ht
end
section
variable {P : Program} {w : World} {K : PySem.W.Frag} {mg : Str → Option Value} {base : Heap} {f C : Addr} {fd : FuncData}
def tIsT (K : PySem.W.Frag) (slot : Nat) : TE := tCB (rIsi K) (tCons (tVar slot) (tCons (tC (.ty "tuple")) tNil))
theorem true_list (xs : List V) : ((xs.filter fun _ => true).map fun _ => V.bl true) = (xs.map fun _ => true).map V.bl := by
  rw [List.filter_eq_self.mpr fun _ _ => rfl, List.map_map]
  rfl
theorem true_all (xs : List V) : (xs.map fun _ => true).all id = true := by
  rw [List.all_map]
  exact List.all_eq_true.mpr fun _ _ => rfl
/-! ### one town -/
def spTown (C : Addr) : Sp := fun vs H Q _ => ∃ (p L : Addr) (g : Grid) (wd r c : Nat) (z : Str), vs = [.ref p, .ref L, .int r, .int c] ∧ LandAt C H p L g ∧ Good g wd ∧ cellAt g r c = some z ∧ ∀ (H' : Hp), Same H H' → Q (.bl true) H'
abbrev nTown : List Str := ["_law_country", "_law_laid", "_law_row", "_law_column", "_law_town", "_law_told", "_law_due", "_law_one"]
theorem scTown : FnScope nTown ["_law_country", "_law_laid", "_law_row", "_law_column"] (defScope sTown) := ⟨rfl, rfl, rfl, by decide +kernel, rfl, by decide +kernel, by decide +kernel⟩
theorem ok_town (F : Fun K "_law_town_right" "_law_town_right" sTown f fd) (B : Bi mg) (T : Txt K mg C) (hS : HasMK P w K mg base C "spot" 3 ["self", "name"] ["name"] (spSpot C)) (hN : HasMK P w K mg base C "neighbours" 4 ["self", "name"] ["name"] (spNeigh C))
    (hA : Has P w K mg base "_law_around" 1 ["_law_laid", "_law_row", "_law_column"] spAround) : FnOk P w K mg base CX0 5 f fd ["_law_country", "_law_laid", "_law_row", "_law_column"] (spTown C) := by
  refine F.ok scTown (fun vs H Q E h => ?_) (fun cdv A outer s H vs Q E hr h => ?_)
  · obtain ⟨p, L, g, wd, r, c, z, rfl, _⟩ := h
    rfl
  · obtain ⟨p, L, g, wd, r, c, z, rfl, hLa, gd, hc, q⟩ := h
    refine ⟨_, pss_cons (ps_set (i := 4) scTown.nd rfl (.inl rfl) (pe_ix ix_tup (pe_ix ix_tup (pv 1) (pv 2) (fun _ _ => rfl)) (pv 3) (fun _ _ => rfl)))
      (pss_cons (ps_set (i := 5) scTown.nd rfl (.inl rfl) (pe_lst (pa_cons (pe_hm hS.pos T.cl hr (pv 0) (pa_cons (pv 4) pa_nil)) (pa_cons (pe_hmk hS T.cl hr (pv 0) (pk_cons (pv 4) pk_nil)) pa_nil))))
      (pss_cons (ps_if (PW.pt (pw_or (pt_cmpR (op_neD hr.units) (pv 5) (pe_lst (pa_cons (pe_tup (pa_cons (pv 2) (pa_cons (pv 3) pa_nil))) (pa_cons (pe_tup (pa_cons (pv 2) (pa_cons (pv 3) pa_nil))) pa_nil))) (nomark _))
          (pw_or1 (pt_not (pt_val (pe_callB (cr_all rfl) (by rfl) B.all (by decide +kernel) (pa_cons (pe_lc (own := [("_law_one", 7)]) (g := gName 7) (tt := tYes) (te := tIsT K 7) rfl scTown.nd (pi_list (pv 5)) (blkOk_by (N := nTown) (sc := defScope sTown) (by decide +kernel)) (fun _ _ _ _ _ => pg_name (i := 7) scTown.nd rfl (.inl rfl)) (fun _ _ _ _ _ => pts_nil)
            (fun _ _ _ _ _ => pe_callB call_isi (by rfl) B.isi (by decide +kernel) (pa_cons (pv 7) (pa_cons (pe_bltn (v := .ty "tuple") (by rfl) B.tuple (by decide +kernel) rfl) pa_nil)))) pa_nil))))))) (pss_one (ps_ret pe_bl)) pss_nil)
      (pss_cons (ps_set (i := 6) scTown.nd rfl (.inl rfl) (pe_h hA hr (pa_cons (pv 1) (pa_cons (pv 2) (pa_cons (pv 3) pa_nil)))))
      (pss_cons (ps_set (i := 5) scTown.nd rfl (.inl rfl) (pe_lst (pa_cons (pe_hm hN.pos T.cl hr (pv 0) (pa_cons (pv 4) pa_nil)) (pa_cons (pe_hmk hN T.cl hr (pv 0) (pk_cons (pv 4) pk_nil)) pa_nil))))
      (pss_one (ps_ret (pe_and (pe_cmpR (op_eqD hr.units) (pv 5) (pe_lst (pa_cons (pv 6) (pa_cons (pv 6) pa_nil))) (nomark _)) (pe_one (pe_callB (cr_all rfl) (by rfl) B.all (by decide +kernel) (pa_cons (pe_lc (own := [("_law_one", 7)]) (g := gName 7) (tt := tYes) (te := tIsT K 7) rfl scTown.nd (pi_list (pv 5)) (blkOk_by (N := nTown) (sc := defScope sTown) (by decide +kernel)) (fun _ _ _ _ _ => pg_name (i := 7) scTown.nd rfl (.inl rfl)) (fun _ _ _ _ _ => pts_nil)
            (fun _ _ _ _ _ => pe_callB call_isi (by rfl) B.isi (by decide +kernel) (pa_cons (pv 7) (pa_cons (pe_bltn (v := .ty "tuple") (by rfl) B.tuple (by decide +kernel) rfl) pa_nil)))) pa_nil)))))))))), ?_⟩
    obtain ⟨hrl, hcl⟩ := gd.cell hc
    obtain ⟨d0, dx0, hp0, _, ⟨as, hL, hR⟩⟩ := id hLa
    obtain ⟨pr, row, hat, hpr, _, hat2⟩ := grid_get gd hL hR (x := (r : Int)) (y := (c : Int)) ⟨by omega, by omega⟩ ⟨by omega, by omega⟩
    rw [Int.toNat_natCast, Int.toNat_natCast, hc] at hat2
    have noS : ∀ d, (lf d L).lookup ("spot" : Str) = none := fun d => lf_no _ _ (by decide +kernel) (by decide +kernel)
    have noN : ∀ d, (lf d L).lookup ("neighbours" : Str) = none := fun d => lf_no _ _ (by decide +kernel) (by decide +kernel)
    refine ⟨_, rfl, _, rfl, L, _, _, _, rfl, rfl, .inl (.inl hL), hat, _, rfl, pr, _, _, _, rfl, rfl, .inl (.inl hpr), hat2, ?_⟩
    refine ⟨_, rfl, p, dx0, _, rfl, hp0, noS _, _, rfl, p, L, g, wd, z, r, c, rfl, hLa, gd, hc, fun t1 H1 s1 ht1 => ?_⟩
    have hLa1 := hLa.keep (kp_same s1)
    obtain ⟨d1, dx1, hp1, _⟩ := id hLa1
    refine ⟨_, rfl, p, dx1, _, rfl, hp1, noS _, _, rfl, p, L, g, wd, z, r, c, rfl, hLa1, gd, hc, fun t2 H2 s2 ht2 => ⟨lz, fun tl htl => ?_⟩⟩
    have s3 := same_new (o := .lst [.ref t1, .ref t2]) htl
    have ht1' := s3 _ _ (s2 _ _ ht1)
    have ht2' := s3 _ _ ht2
    have htl' : upd H2 tl (.lst [.ref t1, .ref t2]) tl = some (.lst [.ref t1, .ref t2]) := upd_same
    have sA := (s1.trans s2).trans s3
    generalize upd H2 tl (.lst [.ref t1, .ref t2]) = H3 at s3 ht1' ht2' htl' sA
    -- told != [(row, column), (row, column)]
    refine ⟨_, rfl, _, rfl, _, rfl, lz, fun u1 hu1 => ⟨_, rfl, _, rfl, lz, fun u2 hu2 => ⟨lz, fun ul hul => ?_⟩⟩⟩
    have k1 := same_new (o := .tup [.int r, .int c]) hu1
    have k2 := same_new (o := .tup [.int r, .int c]) hu2
    have k3 := same_new (o := .lst [.ref u1, .ref u2]) hul
    have kk := (k1.trans k2).trans k3
    have v1 := k3 _ _ (k2 _ _ (upd_same (H := H3) (a := u1) (o := .tup [.int r, .int c])))
    have v2 := k3 _ _ (upd_same (a := u2) (o := .tup [.int r, .int c]))
    have v3 : upd (upd (upd H3 u1 (.tup [.int r, .int c])) u2 (.tup [.int r, .int c])) ul (.lst [.ref u1, .ref u2]) ul = _ := upd_same
    have sB := sA.trans kk
    have w1 := kk _ _ ht1'
    have w2 := kk _ _ ht2'
    have wl := kk _ _ htl'
    generalize upd (upd (upd H3 u1 (.tup [.int r, .int c])) u2 (.tup [.int r, .int c])) ul (.lst [.ref u1, .ref u2]) = H4 at v1 v2 v3 sB w1 w2 wl
    have dpr : ∀ {t : Addr}, H4 t = some (.tup [.int r, .int c]) → Dp K H4 (.ref t) (pD (r, c)) := fun h => .tup (.inl (.inl h)) (.cons (.int _) (.cons (.int _) .nil))
    refine ⟨.list [pD (r, c), pD (r, c)], .list [pD (r, c), pD (r, c)], .lst (.inl (.inl wl)) (.cons (dpr w1) (.cons (dpr w2) .nil)), .lst (.inl (.inl v3)) (.cons (dpr v1) (.cons (dpr v2) .nil)), rfl, rfl, _, rfl, ?_⟩
    rw [SeqAt.eqv_refl (.list [pD (r, c), pD (r, c)]) rfl]
    refine iteF ⟨_, rfl, tl, rfl, ⟨_, .inl (.inl wl)⟩, fun D hD => ?_⟩
    refine lc_map (walk_list (K := K) (a := tl) (xs := [.ref t1, .ref t2])) hD (fun _ => true) (fun _ => .bl true) (fun H' s' => .inl (.inl (s' _ _ wl))) (fun _ => rfl) (fun x H' _ _ Q' q' => q') ?_ lz ?_
    · intro x H' hx _ s' Q' q'
      have hx2 : ∃ t, x = .ref t ∧ H4 t = some (.tup [.int r, .int c]) := by
        simp only [List.mem_cons, List.not_mem_nil, or_false] at hx
        rcases hx with rfl | rfl
        · exact ⟨t1, rfl, w1⟩
        · exact ⟨t2, rfl, w2⟩
      obtain ⟨t, rfl, ht⟩ := hx2
      exact ⟨_, rfl, _, _, _, _, _, rfl, .ty "tuple", .base (.tup (s' _ _ ht)), kit_ty (r := true) (by decide +kernel), q'⟩
    · intro H5 s5 hD5
      rw [true_list] at hD5
      refine ⟨D, _, rfl, .inl (.inl hD5), _, rfl, ?_⟩
      rw [true_all]
      refine iteF ?_
      have hLa5 := hLa.keep (kp_same (sB.trans s5))
      obtain ⟨d5, dx5, hp5, _, hG5⟩ := id hLa5
      refine ⟨_, rfl, _, rfl, _, rfl, L, g, wd, r, c, rfl, hG5, gd, hrl, hcl, fun du H6 s6 hdu => ?_⟩
      have hLa6 := hLa5.keep (kp_same s6)
      obtain ⟨d6, dx6, hp6, _⟩ := id hLa6
      refine ⟨_, rfl, p, dx6, _, rfl, hp6, noN _, _, rfl, p, L, g, wd, z, r, c, rfl, hLa6, gd, hc, fun t7 H7 s7 ht7 => ?_⟩
      have hLa7 := hLa6.keep (kp_same s7)
      obtain ⟨d7, dx7, hp7, _⟩ := id hLa7
      refine ⟨_, rfl, p, dx7, _, rfl, hp7, noN _, _, rfl, p, L, g, wd, z, r, c, rfl, hLa7, gd, hc, fun t8 H8 s8 ht8 => ⟨lz, fun ql hql => ?_⟩⟩
      have s9 := same_new (o := .lst [.ref t7, .ref t8]) hql
      have x7 := s9 _ _ (s8 _ _ ht7)
      have x8 := s9 _ _ ht8
      have xd := s9 _ _ (s8 _ _ (s7 _ _ hdu))
      have xl : upd H8 ql (.lst [.ref t7, .ref t8]) ql = some (.lst [.ref t7, .ref t8]) := upd_same
      have sC := (sB.trans s5).trans (((s6.trans s7).trans s8).trans s9)
      generalize upd H8 ql (.lst [.ref t7, .ref t8]) = H9 at x7 x8 xd xl sC
      refine ⟨_, rfl, _, rfl, _, rfl, lz, fun ul2 hul2 => ?_⟩
      have s10 := same_new (o := .lst [.ref du, .ref du]) hul2
      have hws : ∀ y ∈ nbL g r c, IsWd y := fun y hy => gd.wd y (mem_sortS.mp (List.mem_filter.mp hy).1)
      have dpn : ∀ {t : Addr}, H9 t = some (.tup ((nbL g r c).map V.str)) → Dp K (upd H9 ul2 (.lst [.ref du, .ref du])) (.ref t) (.tuple ((nbL g r c).map PyData.str)) := fun h => .tup (.inl (.inl (s10 _ _ h))) (dp_strs _)
      have lay2 : PyData.canLayAll0 [PyData.tuple ((nbL g r c).map PyData.str), PyData.tuple ((nbL g r c).map PyData.str)] = true := by
        simp [PyData.canLayAll0, PyData.canLay0, lay_strs hws]
      have sh : SeqAt.shaped (.list [PyData.tuple ((nbL g r c).map PyData.str), PyData.tuple ((nbL g r c).map PyData.str)]) = true := shaped_list lay2 (by simp [PyData.depthAll, PyData.depth, depth_strs])
      refine ⟨.list [.tuple ((nbL g r c).map .str), .tuple ((nbL g r c).map .str)], .list [.tuple ((nbL g r c).map .str), .tuple ((nbL g r c).map .str)], .lst (.inl (.inl (s10 _ _ xl))) (.cons (dpn x7) (.cons (dpn x8) .nil)), .lst (.inl (.inl upd_same)) (.cons (dpn xd) (.cons (dpn xd) .nil)), sh, sh, _, rfl, ?_⟩
      rw [SeqAt.eqv_refl (.list [.tuple ((nbL g r c).map .str), .tuple ((nbL g r c).map .str)]) (SeqAt.canLay_of_shaped sh)]
      refine iteT ⟨_, rfl, ql, rfl, ⟨_, .inl (.inl (s10 _ _ xl))⟩, fun D2 hD2 => ?_⟩
      refine lc_map (walk_list (K := K) (a := ql) (xs := [.ref t7, .ref t8])) hD2 (fun _ => true) (fun _ => .bl true) (fun H' s' => .inl (.inl (s' _ _ (s10 _ _ xl)))) (fun _ => rfl) (fun x H' _ _ Q' q' => q') ?_ lz ?_
      · intro x H' hx _ s' Q' q'
        have hx2 : ∃ t, x = .ref t ∧ H9 t = some (.tup ((nbL g r c).map V.str)) := by
          simp only [List.mem_cons, List.not_mem_nil, or_false] at hx
          rcases hx with rfl | rfl
          · exact ⟨t7, rfl, x7⟩
          · exact ⟨t8, rfl, x8⟩
        obtain ⟨t, rfl, ht⟩ := hx2
        exact ⟨_, rfl, _, _, _, _, _, rfl, .ty "tuple", .base (.tup (s' _ _ (s10 _ _ ht))), kit_ty (r := true) (by decide +kernel), q'⟩
      · intro H11 s11 hD11
        rw [true_list] at hD11
        refine ⟨D2, _, rfl, .inl (.inl hD11), ?_⟩
        rw [true_all]
        exact q H11 (sC.trans (s10.trans s11))
/-! ### each town -/
def spEach (C : Addr) : Sp := fun vs H Q _ => ∃ (p L : Addr) (g : Grid) (wd : Nat), vs = [.ref p, .ref L] ∧ LandAt C H p L g ∧ Good g wd ∧ ∀ (H' : Hp), Same H H' → Q (.bl true) H'
abbrev nEach : List Str := ["_law_country", "_law_laid", "_law_row", "_law_column"]
theorem scEach : FnScope nEach ["_law_country", "_law_laid"] (defScope sEach) := ⟨rfl, rfl, rfl, by decide +kernel, rfl, by decide +kernel, by decide +kernel⟩
theorem ok_each (F : Fun K "_law_each_right" "_law_each_right" sEach f fd) (B : Bi mg) (hT : Has P w K mg base "_law_town_right" 5 ["_law_country", "_law_laid", "_law_row", "_law_column"] (spTown C)) : FnOk P w K mg base CX0 6 f fd ["_law_country", "_law_laid"] (spEach C) := by
  refine F.ok scEach (fun vs H Q E h => ?_) (fun cdv A outer s H vs Q E hr h => ?_)
  · obtain ⟨p, L, g, wd, rfl, _⟩ := h
    rfl
  · obtain ⟨p, L, g, wd, rfl, hLa, gd, q⟩ := h
    refine ⟨_, pss_cons (ps_for PassesOwn.never rfl (pi_range1 rfl B.range (pa_cons (pe_callB call_len_seq (by rfl) B.len PySem.boot_len (pa_cons (pv 1) pa_nil)) pa_nil)) (pg_name (i := 2) scEach.nd rfl (.inl rfl))
        (pss_one (ps_for PassesOwn.never rfl (pi_range1 rfl B.range (pa_cons (pe_callB call_len_seq (by rfl) B.len PySem.boot_len (pa_cons (pe_ix ix_tup (pv 1) pe_int (fun _ _ => rfl)) pa_nil)) pa_nil)) (pg_name (i := 3) scEach.nd rfl (.inl rfl))
          (pss_one (ps_if (PW.pt (pw_and (pt_cmp (pc_notN (pe_ix ix_tup (pe_ix ix_tup (pv 1) (pv 2) (fun _ _ => rfl)) (pv 3) (fun _ _ => rfl)))) (pw_and1 (pt_not (pt_val (pe_h hT hr (pa_cons (pv 0) (pa_cons (pv 1) (pa_cons (pv 2) (pa_cons (pv 3) pa_nil)))))))))) (pss_one (ps_ret pe_bl)) pss_nil)))))
      (pss_one (ps_ret pe_bl)), ?_⟩
    obtain ⟨d0, dx0, hp0, _, ⟨as, hL, hR⟩⟩ := id hLa
    have lenL : ((as.map V.ref).length : Int) = g.length := by rw [List.length_map, hR.length]
    have h6 := gd.h6
    have w6 := gd.w6
    refine ⟨_, rfl, L, _, rfl, .inr (.inl (.inl hL)), _, rfl, by rw [lenL]; omega, by rw [lenL]; omega, ?_⟩
    rw [show ((as.map V.ref).length : Int).toNat = g.length by rw [lenL]; rfl]
    refine for_range (lo := 0) (n := g.length) (fun i σ H' => (∃ y2 y3, σ = [some (.ref p), some (.ref L), y2, y3]) ∧ Same H H') ⟨⟨_, _, rfl⟩, Same.refl H⟩ ?_ ?_
    · rintro i σ H1 hi ⟨⟨y2, y3, rfl⟩, s1⟩
      obtain ⟨p1, row1, hat1, hp1, hrl1, _⟩ := grid_get gd hL hR (x := 0) (y := 0) ⟨by omega, by omega⟩ ⟨by omega, by have := gd.w1; omega⟩
      have lenW : ((row1.map oV).length : Int) = wd := by rw [List.length_map, hrl1]
      refine ⟨_, rfl, L, _, _, _, rfl, rfl, .inl (.inl (s1 _ _ hL)), hat1, p1, _, rfl, .inr (.inl (.inl (s1 _ _ hp1))), _, rfl, by rw [lenW]; omega, by rw [lenW]; omega, ?_⟩
      rw [show ((row1.map oV).length : Int).toNat = wd by rw [lenW]; rfl]
      refine for_range (lo := 0) (n := wd) (fun j σ H' => (∃ y3, σ = [some (.ref p), some (.ref L), some (.int (0 + i)), y3]) ∧ Same H H') ⟨⟨_, rfl⟩, s1⟩ ?_ ?_
      · rintro j σ H2 hj ⟨⟨z3, rfl⟩, s2⟩
        obtain ⟨pa, ra, ha1, ha2, _, ha3⟩ := grid_get gd (s2 _ _ hL) (hR.keep (tk_same s2)) (x := 0 + (i : Int)) (y := 0 + (j : Int)) ⟨by omega, by omega⟩ ⟨by omega, by omega⟩
        rw [show (0 + (i : Int)).toNat = i by omega, show (0 + (j : Int)).toNat = j by omega] at ha3
        refine ⟨_, rfl, _, rfl, L, _, _, _, rfl, rfl, .inl (.inl (s2 _ _ hL)), ha1, _, rfl, pa, _, _, _, rfl, rfl, .inl (.inl ha2), ha3, _, rfl, ?_⟩
        cases hcz : cellAt g i j with
        | none => exact iteF ⟨⟨_, rfl⟩, s2⟩
        | some z =>
          refine iteT ⟨_, rfl, _, rfl, _, rfl, _, rfl, p, L, g, wd, i, j, z, ?_, hLa.keep (kp_same s2), gd, hcz, fun H3 s3 => ⟨true, rfl, iteF ⟨⟨_, rfl⟩, s2.trans s3⟩⟩⟩
          rw [Int.zero_add, Int.zero_add]
          rfl
      · rintro σ H2 ⟨⟨z3, rfl⟩, s2⟩
        exact ⟨⟨_, _, rfl⟩, s2⟩
    · rintro σ H1 ⟨⟨y2, y3, rfl⟩, s1⟩
      exact q H1 s1
end
end Wl

namespace Wl
open PySem PySem.Spec PyProof.Rows L2
def HasI (P : Program) (w : World) (K : PySem.W.Frag) (mg : Str → Option Value) (base : Heap) (C : Addr) : Prop :=
  ∃ f fd, Mk K C f ∧ FnOk P w K mg base CX0 4 f fd ["self", "rows"] (spInit C) ∧ Binds K fd ["self", "rows"] [] ∧ KBn K fd ["self", "rows"] 1 ["rows"] g2 g2
def oD : Option Str → PyData
  | none => .none
  | some z => .str z
def rD (row : Row) : PyData := .tuple (row.map oD)
def gD (g : Grid) : PyData := .tuple (g.map rD)
theorem dp_row {K : PySem.W.Frag} {H : Hp} : ∀ row : Row, DpAll K H (row.map oV) (row.map oD)
  | [] => .nil
  | none :: r => .cons .non (dp_row r)
  | some z :: r => .cons (.str z) (dp_row r)
theorem dp_rows {K : PySem.W.Frag} {H : Hp} : ∀ {as : List Addr} {g : Grid}, RowsAt H as g → DpAll K H (as.map V.ref) (g.map rD)
  | _, _, .nil => .nil
  | _, _, .cons e t => .cons (.tup (.inl (.inl e)) (dp_row _)) (dp_rows t)
theorem dp_grid {K : PySem.W.Frag} {H : Hp} {L : Addr} {g : Grid} (h : GridAt H L g) : Dp K H (.ref L) (gD g) := by
  obtain ⟨as, hL, hR⟩ := h
  exact .tup (.inl (.inl hL)) (dp_rows hR)
theorem lay_row : ∀ {row : Row}, (∀ z ∈ rnames row, IsWd z) → PyData.canLayAll0 (row.map oD) = true
  | [], _ => by simp [PyData.canLayAll0]
  | none :: r, h => by simp [PyData.canLayAll0, oD, PyData.canLay0, lay_row (row := r) h]
  | some z :: r, h => by
    have h1 := wd_ok (h z (by simp [rnames]))
    have h2 := lay_row (row := r) fun y hy => h y (by simp only [rnames, List.filterMap_cons] at hy ⊢; exact List.mem_cons_of_mem _ hy)
    simp [PyData.canLayAll0, oD, PyData.canLay0, h1, h2]
theorem depth_row : ∀ row : Row, PyData.depthAll (row.map oD) = 0
  | [] => by simp [PyData.depthAll]
  | none :: r => by simp [PyData.depthAll, PyData.depth, oD, depth_row r]
  | some z :: r => by simp [PyData.depthAll, PyData.depth, oD, depth_row r]
theorem lay_grid : ∀ {g : Grid}, (∀ z ∈ names g, IsWd z) → PyData.canLayAll0 (g.map rD) = true
  | [], _ => by simp [PyData.canLayAll0]
  | r :: g, h => by
    rw [names_cons] at h
    have h1 := lay_row (row := r) fun z hz => h z (List.mem_append_left _ hz)
    have h2 := lay_grid (g := g) fun z hz => h z (List.mem_append_right _ hz)
    simp [PyData.canLayAll0, rD, PyData.canLay0, h1, h2]
theorem depth_grid : ∀ g : Grid, PyData.depthAll (g.map rD) ≤ 1
  | [] => by simp [PyData.depthAll]
  | r :: g => by
    have := depth_grid g
    have := depth_row r
    simp only [List.map_cons, PyData.depthAll, rD, PyData.depth]
    omega
theorem shaped_grid {g : Grid} {wd : Nat} (gd : Good g wd) : SeqAt.shaped (gD g) = true := shaped_tuple (lay_grid gd.wd) (by have := depth_grid g; omega)
theorem dp_twos {K : PySem.W.Frag} {H : Hp} : ∀ {xs : List V} {ps : List Two}, TwosAt H xs ps → DpAll K H xs (ps.map twD)
  | _, _, .nil => .nil
  | _, _, .cons ⟨t, e, ht⟩ r => by
    subst e
    exact .cons (.tup (.inl (.inl ht)) (.cons (.str _) (.cons (.str _) .nil))) (dp_twos r)
theorem lay_twos : ∀ {ps : List Two}, (∀ p ∈ ps, IsWd p.1 ∧ IsWd p.2) → PyData.canLayAll0 (ps.map twD) = true
  | [], _ => by simp [PyData.canLayAll0]
  | p :: r, h => by
    have h1 := h p List.mem_cons_self
    have h2 := lay_twos (ps := r) fun y hy => h y (List.mem_cons_of_mem _ hy)
    simp [PyData.canLayAll0, twD, PyData.canLay0, wd_ok h1.1, wd_ok h1.2, h2]
theorem depth_twos : ∀ ps : List Two, PyData.depthAll (ps.map twD) ≤ 1
  | [] => by simp [PyData.depthAll]
  | p :: r => by
    have := depth_twos r
    simp only [List.map_cons, PyData.depthAll, twD, PyData.depth]
    omega
theorem bd_wd {g : Grid} {wd : Nat} (gd : Good g wd) : ∀ p ∈ bdL g, IsWd p.1 ∧ IsWd p.2 := fun p hp => by
  obtain ⟨_, r, c, r', c', h1, h2, _⟩ := (mem_bdL gd.nd (a := p.1) (b := p.2)).mp hp
  exact ⟨gd.wd _ (mem_names.mpr ⟨r, c, h1⟩), gd.wd _ (mem_names.mpr ⟨r', c', h2⟩)⟩
theorem bd_len {g : Grid} {wd : Nat} (gd : Good g wd) : (bdL g).length ≤ 2000 := by
  rw [bs_eq gd, sortP_len]
  have := bound_B (g := g) (wd := wd) (i := g.length) (j := 0) (k := 0) gd.h6 (by omega) gd.w6 (by omega) (bsL g wd) (by simp [bsL])
  omega
theorem same_x {H0 H1 H2 : Hp} {a : Addr} (s : Same H0 H1) (x : SameX a H1 H2) (h : H0 a = none) : Same H0 H2 := fun b o e => x b o (ne_of_none e h) (s b o e)
section
variable {P : Program} {w : World} {K : PySem.W.Frag} {mg : Str → Option Value} {base : Heap} {f C : Addr} {fd : FuncData}
theorem made_same {H1 H' : Hp} {x dx C : Addr} (nx : H1 x = none) (ndx : H1 dx = none) (h : ∀ b o, b ≠ x → (upd (upd H1 dx (.own x)) x (.ins C dx [])) b = some o → H' b = some o) : Same H1 H' := fun b o e => by
  have n1 : b ≠ x := ne_of_none e nx
  refine h b o n1 ?_
  rw [upd_ne n1, upd_ne (ne_of_none e ndx)]
  exact e
theorem make_reads {σ : L2.St} {H : Hp} {Q : VK} {L : Addr} {g : Grid} {wd : Nat} {wy : Int} (e4 : σ[4]? = some (some (.int wy))) (e5 : σ[5]? = some (some (.ref L))) (hG : GridAt H L g) (gd : Good g wd)
    (q : ∀ (x : Addr) (H' : Hp), Same H H' → LandAt C H' x L g → Q (.ref x) H') :
    tIf (tTest (tOp rEq (tVar 4) (tC (.int 0)))) (tMake C (spInit C) [] E0 (tCons (tVar 5) tNil)) (tMakeK C 0 1 (spInit C) g2 E0 tNil (tCons (tVar 5) tNil)) σ H Q := by
  have kp : ∀ {x dx : Addr}, H x = none → H dx = none → TupKeep H (upd (upd H dx (.own x)) x (.ins C dx [])) := fun {x dx} nx ndx p xs h => by
    rw [upd_ne (ne_of_none h nx), upd_ne (ne_of_none h ndx)]
    exact h
  refine ⟨_, e4, rfl, _, rfl, ite_b (fun _ => ?_) (fun _ => ?_)⟩
  · refine ⟨_, e5, fun x dx nx ndx ne => ⟨x, dx, L, g, wd, rfl, upd_same, hG.keep (kp nx ndx), gd, fun H' k hLa => ⟨rfl, ?_⟩⟩⟩
    exact q x H' (made_same nx ndx k) hLa
  · refine ⟨_, e5, rfl, rfl, fun x dx nx ndx ne => ⟨x, dx, L, g, wd, rfl, upd_same, hG.keep (kp nx ndx), gd, fun H' k hLa => ⟨rfl, ?_⟩⟩⟩
    exact q x H' (made_same nx ndx k) hLa
def spLaw (K : PySem.W.Frag) : Sp := fun vs H Q _ => ∃ (a : Addr) (ns : List Int), vs = [.ref a] ∧ SqL K H a (ns.map V.int) ∧ ns.length ≤ 63 ∧ ∀ H', Q (.bl true) H'
abbrev nLaw : List Str := ["_law_script", "_law_k", "_law_purse_here", "_law_great", "_law_way", "_law_laid", "_law_country", "_law_turn", "_law_pair"]
theorem scLaw : FnScope nLaw ["_law_script"] (defScope sLaw) := ⟨rfl, rfl, rfl, by decide +kernel, rfl, by decide +kernel, by decide +kernel⟩
theorem ok_law (F : Fun K "law" "law" sLaw f fd) (B : Bi mg) (T : Txt K mg C) (hI : HasI P w K mg base C)
    (hCell : Has P w K mg base "_law_cell" 1 ["_law_script", "_law_k"] (spCell K)) (hPurse : Has P w K mg base "_law_purse" 1 ["_law_cell_here"] spPurse) (hPick : Has P w K mg base "_law_pick" 1 ["_law_purse_here", "_law_many"] spPick)
    (hLand : Has P w K mg base "_law_land" 4 ["_law_purse_here", "_law_most"] spLand) (hEach : Has P w K mg base "_law_each_right" 6 ["_law_country", "_law_laid"] (spEach C)) (hNames : Has P w K mg base "_law_names" 1 ["_law_laid"] spNames) (hBeside : Has P w K mg base "_law_beside" 1 ["_law_laid"] spBeside)
    (hN : HasM P w K mg base C "names" 1 ["self"] (spLNames C)) (hB : HasM P w K mg base C "borders" 5 ["self"] (spBord C)) : FnOk P w K mg base CX0 7 f fd ["_law_script"] (spLaw K) := by
  obtain ⟨fI, fdI, MI, GI, bI, kI⟩ := hI
  refine F.ok scLaw (fun vs H Q E h => ?_) (fun cdv A outer s H vs Q E hr h => ?_)
  · obtain ⟨a, ns, rfl, _⟩ := h
    rfl
  · obtain ⟨a, ns, rfl, hS, hlen, q⟩ := h
    have hr4 : Room (4 + 1) (A.deeper (envOfC "law" (defScope sLaw) s.heap.objs.size f cdv)) := hr.mono (by decide)
    refine ⟨_, pss_cons (ps_for PassesOwn.never rfl (pi_range1 rfl B.range (pa_cons (pe_callB (call_max2 rfl) (by rfl) B.max (by decide +kernel) (pa_cons pe_int (pa_cons (pe_callB (call_min2 rfl) (by rfl) B.min (by decide +kernel) (pa_cons (pe_callB call_len_seq (by rfl) B.len PySem.boot_len (pa_cons (pv 0) pa_nil)) (pa_cons pe_int pa_nil))) pa_nil))) pa_nil)) (pg_name (i := 1) scLaw.nd rfl (.inl rfl))
        (pss_cons (ps_set (i := 2) scLaw.nd rfl (.inl rfl) (pe_h hPurse hr (pa_cons (pe_h hCell hr (pa_cons (pv 0) (pa_cons (pv 1) pa_nil))) pa_nil)))
        (pss_cons (ps_par (i := 3) (j := 4) (by rfl) scLaw.nd rfl rfl (by decide) rfl rfl (pa_cons (pe_cmpR op_eq (pe_h hPick hr (pa_cons (pv 2) (pa_cons pe_int pa_nil))) pe_int (nomark _)) (pa_cons (pe_h hPick hr (pa_cons (pv 2) (pa_cons pe_int pa_nil))) pa_nil)) (by rfl))
        (pss_cons (ps_set (i := 5) scLaw.nd rfl (.inl rfl) (pe_h hLand hr (pa_cons (pv 2) (pa_cons (pe_ix ix_list (pe_lst (pa_cons pe_int (pa_cons pe_int pa_nil))) (pe_callTy call_int1 (by rfl) B.int (by decide +kernel) (pa_cons (pv 3) pa_nil)) (fun _ _ => rfl)) pa_nil))))
        (pss_cons (ps_set (i := 6) scLaw.nd rfl (.inl rfl) (pe_ifExp (pt_cmpR op_eq (pv 4) pe_int (nomark _)) (pe_make MI GI hr4 rfl T.mgC bI .nil pass0 (pa_cons (pv 5) pa_nil)) (pe_makeK0 MI GI hr4 rfl T.mgC kI pass0 (pk_cons (pv 5) pk_nil))))
        (pss_cons (ps_for PassesOwn.never rfl (pi_range1 rfl B.range (pa_cons pe_int pa_nil)) (pg_name (i := 7) scLaw.nd rfl (.inl rfl))
          (pss_cons (ps_if (PW.pt (pw_or (pt_not (pt_val (pe_callB call_isi (by rfl) B.isi (by decide +kernel) (pa_cons (pe_fld (pv 6) rfl) (pa_cons (pe_bltn (v := .ty "tuple") (by rfl) B.tuple (by decide +kernel) rfl) pa_nil)))))
              (pw_or (pt_cmpR (op_neD hr.units) (pe_fld (pv 6) rfl) (pv 5) (nomark _)) (pw_or1 (pt_not (pt_val (pe_h hEach hr (pa_cons (pv 6) (pa_cons (pv 5) pa_nil))))))))) (pss_one (ps_ret pe_bl)) pss_nil)
          (pss_one (ps_if (PW.pt (pw_or (pt_cmpR (op_neD hr.units) (pe_hm0 hN T.cl hr (pv 6)) (pe_callTy call_tuple_of (by rfl) B.tuple (by decide +kernel) (pa_cons (pe_h hNames hr (pa_cons (pv 5) pa_nil)) pa_nil)) (nomark _))
              (pw_or1 (pt_cmpR (op_neD hr.units) (pe_hm0 hB T.cl hr (pv 6)) (pe_callTy call_tuple_of (by rfl) B.tuple (by decide +kernel) (pa_cons (pe_h hBeside hr (pa_cons (pv 5) pa_nil)) pa_nil)) (nomark _))))) (pss_one (ps_ret pe_bl)) pss_nil))))
        (pss_one (ps_if (pt_not (pt_val (pe_callB (cr_all rfl) (by rfl) B.all (by decide +kernel) (pa_cons (pe_lc (own := [("_law_pair", 8)]) (g := gName 8) (tt := tYes) (te := tIsT K 8) rfl scLaw.nd (pi_tup (pe_hm0 hB T.cl hr (pv 6))) (blkOk_by (N := nLaw) (sc := defScope sLaw) (by decide +kernel)) (fun _ _ _ _ _ => pg_name (i := 8) scLaw.nd rfl (.inl rfl)) (fun _ _ _ _ _ => pts_nil)
            (fun _ _ _ _ _ => pe_callB call_isi (by rfl) B.isi (by decide +kernel) (pa_cons (pv 8) (pa_cons (pe_bltn (v := .ty "tuple") (by rfl) B.tuple (by decide +kernel) rfl) pa_nil)))) pa_nil)))) (pss_one (ps_ret pe_bl)) pss_nil))))))))
      (pss_one (ps_ret pe_bl)), ?_⟩
    have hln : ((ns.map V.int).length : Int) = ns.length := by rw [List.length_map]
    refine ⟨_, rfl, a, _, rfl, .inl hS, _, _, rfl, _, _, rfl, _, rfl, ?_, ?_, ?_⟩
    · rw [hln]; split <;> split <;> omega
    · rw [hln]; split <;> split <;> omega
    rw [hln]
    refine for_range (lo := 0) (n := _) (fun i σ H' => (∃ y1 y2 y3 y4 y5 y6 y7 y8, σ = [some (.ref a), y1, y2, y3, y4, y5, y6, y7, y8]) ∧ Same H H') ⟨⟨_, _, _, _, _, _, _, _, rfl⟩, Same.refl H⟩ ?_ ?_
    · rintro i σ H1 hi ⟨⟨y1, y2, y3, y4, y5, y6, y7, y8, rfl⟩, s1⟩
      have hi5 : i < 5 := by
        have : ∀ n : Int, (if (if (5 : Int) < n then 5 else n) > 2 then (if (5 : Int) < n then 5 else n) else 2).toNat ≤ 5 := fun n => by
          split <;> split <;> omega
        exact Nat.lt_of_lt_of_le hi (this _)
      -- purse = _law_purse(_law_cell(script, k))
      refine ⟨_, rfl, _, rfl, a, ns, 0 + i, rfl, s1.seq hS, by omega, by omega, fun v H2 s2 => ⟨v, rfl, fun pu H3 hpu s3 hP3 => ?_⟩⟩
      have hpu0 : H pu = none := (s1.trans s2).free hpu
      have sP3 : Same H H3 := (s1.trans s2).trans s3
      refine ⟨_, rfl, pu, 8, rfl, hP3, by decide, by decide, fun r4 H4 r40 r41 hP4 s4 n4 => ⟨rfl, ?_⟩⟩
      refine ⟨_, rfl, pu, 2, rfl, hP4, by decide, by decide, fun r5 H5 r50 r51 hP5 s5 n5 => ⟨_, _, rfl, ?_⟩⟩
      have sP5 : Same H H5 := same_x sP3 (s4.trans s5) hpu0
      -- laid
      refine ⟨_, rfl, lz, fun ml hml => ⟨_, rfl, .inr ⟨_, rfl, ?_⟩⟩⟩
      have sP6 := sP5.trans (same_new (o := .lst [.int 4, .int 6]) hml)
      obtain ⟨m, hm, hmat⟩ : ∃ m : Int, (1 ≤ m ∧ m ≤ 6) ∧ atI [V.int 4, V.int 6] (if decide (V.int r4 = V.int 3) = true then 1 else 0) = some (.int m) := by
        by_cases c : decide (V.int r4 = V.int 3) = true
        · exact ⟨6, by omega, by rw [if_pos c]; exact atI_nat (j := 1) rfl⟩
        · exact ⟨4, by omega, by rw [if_neg c]; exact atI_nat (j := 0) rfl⟩
      refine ⟨ml, _, _, .int m, rfl, rfl, .inl (.inl upd_same), hmat, pu, m, rfl, hP5.same (same_new hml), hm.1, hm.2, fun L g wd H7 gd hG7 hP7 s7 => ?_⟩
      have sP7 : Same H H7 := same_x sP6 s7 hpu0
      -- country
      refine make_reads (wd := wd) (g := g) (L := L) (wy := r5) rfl rfl hG7 gd fun x H8 s8 hLa8 => ?_
      have sP8 := sP7.trans s8
      have noN : ∀ d, (lf d L).lookup ("names" : Str) = none := fun d => lf_no _ _ (by decide +kernel) (by decide +kernel)
      have noB : ∀ d, (lf d L).lookup ("borders" : Str) = none := fun d => lf_no _ _ (by decide +kernel) (by decide +kernel)
      have hws : ∀ z ∈ sortS (names g), IsWd z := fun z hz => gd.wd z (mem_sortS.mp hz)
      have shN : SeqAt.shaped (.tuple ((sortS (names g)).map PyData.str)) = true := shaped_tuple (lay_strs hws) (by rw [depth_strs]; omega)
      have shB : SeqAt.shaped (.tuple ((bdL g).map twD)) = true := shaped_tuple (lay_twos (bd_wd gd)) (by have := depth_twos (bdL g); omega)
      refine ⟨2, rfl, by decide, by decide, for_range (lo := 0) (n := 2) (fun j σ H' => (∃ y7 y8, σ = [some (.ref a), some (.int (0 + i)), some (.ref pu), some (.bl (decide (V.int r4 = V.int 3))), some (.int r5), some (.ref L), some (.ref x), y7, y8]) ∧ Same H8 H') ⟨⟨_, _, rfl⟩, Same.refl H8⟩ ?_ ?_⟩
      · rintro j σ H9 hj ⟨⟨z7, z8, rfl⟩, s9⟩
        have hLa9 := hLa8.keep (kp_same s9)
        obtain ⟨d9, dx9, hp9, _, hG9⟩ := id hLa9
        obtain ⟨as9, hL9, hR9⟩ := id hG9
        refine ⟨_, rfl, x, C, dx9, _, _, rfl, hp9, T.cl, T.nR, lf_rows _ _, _, _, _, _, _, rfl, .ty "tuple", .base (.tup hL9), kit_ty (r := true) (by decide +kernel), true, rfl, ?_⟩
        refine iteF ⟨_, rfl, x, C, dx9, _, _, rfl, hp9, T.cl, T.nR, lf_rows _ _, _, rfl, gD g, gD g, dp_grid hG9, dp_grid hG9, shaped_grid gd, shaped_grid gd, _, rfl, ?_⟩
        rw [SeqAt.eqv_refl (gD g) (SeqAt.canLay_of_shaped (shaped_grid gd))]
        refine iteF ⟨_, rfl, _, rfl, x, L, g, wd, rfl, hLa9, gd, fun H10 s10 => ⟨true, rfl, iteF ?_⟩⟩
        have hLa10 := hLa9.keep (kp_same s10)
        obtain ⟨d10, dx10, hp10, _⟩ := id hLa10
        -- names
        refine ⟨_, rfl, x, dx10, _, rfl, hp10, noN _, x, L, g, wd, rfl, hLa10, gd, fun t11 H11 _ s11 ht11 => ?_⟩
        have hLa11 := hLa10.keep (kp_same s11)
        obtain ⟨_, _, _, _, hG11⟩ := id hLa11
        refine ⟨_, rfl, L, g, wd, rfl, hG11, gd, fun t12 H12 s12 ht12 => ⟨t12, _, rfl, .inl ⟨.inl (.inl ht12), fun t13 ht13 => ?_⟩⟩⟩
        have s13 := same_new (o := .tup ((sortS (names g)).map V.str)) ht13
        refine ⟨.tuple ((sortS (names g)).map .str), .tuple ((sortS (names g)).map .str), .tup (.inl (.inl (s13 _ _ (s12 _ _ ht11)))) (dp_strs _), .tup (.inl (.inl upd_same)) (dp_strs _), shN, shN, _, rfl, ?_⟩
        rw [SeqAt.eqv_refl _ (SeqAt.canLay_of_shaped shN)]
        refine iteF ?_
        have sQ := (s12.trans s13)
        have hLa14 := hLa11.keep (kp_same sQ)
        obtain ⟨d14, dx14, hp14, _⟩ := id hLa14
        -- borders
        refine ⟨_, rfl, x, dx14, _, rfl, hp14, noB _, x, L, g, wd, rfl, hLa14, gd, fun t15 xs15 H15 s15 ht15 tw15 => ?_⟩
        have hLa15 := hLa14.keep (kp_same s15)
        obtain ⟨_, _, _, _, hG15⟩ := id hLa15
        refine ⟨_, rfl, L, g, wd, rfl, hG15, gd, fun t16 xs16 H16 s16 ht16 tw16 => ⟨t16, _, rfl, .inl ⟨.inl (.inl ht16), fun t17 ht17 => ?_⟩⟩⟩
        have s17 := same_new (o := .tup xs16) ht17
        refine ⟨.tuple ((bdL g).map twD), .tuple ((bdL g).map twD), .tup (.inl (.inl (s17 _ _ (s16 _ _ ht15)))) (dp_twos (tw15.keep (tk_same (s16.trans s17)))), .tup (.inl (.inl upd_same)) (dp_twos (tw16.keep (tk_same s17))), shB, shB, _, rfl, ?_⟩
        rw [SeqAt.eqv_refl _ (SeqAt.canLay_of_shaped shB)]
        exact iteF ⟨⟨_, _, rfl⟩, s9.trans ((s10.trans (s11.trans sQ)).trans (s15.trans (s16.trans s17)))⟩
      · rintro σ H9 ⟨⟨z7, z8, rfl⟩, s9⟩
        have hLa9 := hLa8.keep (kp_same s9)
        obtain ⟨d9, dx9, hp9, _⟩ := id hLa9
        refine ⟨_, rfl, x, dx9, _, rfl, hp9, noB _, x, L, g, wd, rfl, hLa9, gd, fun t10 xs10 H10 s10 ht10 tw10 => ⟨t10, rfl, ⟨_, .inl (.inl ht10)⟩, fun D hD => ?_⟩⟩
        refine lc_map (walk_tup (K := K) (a := t10) (xs := xs10)) hD (fun _ => true) (fun _ => .bl true) (fun H' s' => .inl (.inl (s' _ _ ht10))) (fun _ => rfl) (fun x H' _ _ Q' q' => q') ?_ ?_ ?_
        · intro y H' hy _ s' Q' q'
          obtain ⟨p, hp, t, rfl, ht⟩ := Each.mem2 tw10 hy
          exact ⟨_, rfl, _, _, _, _, _, rfl, .ty "tuple", .base (.tup (s' _ _ ht)), kit_ty (r := true) (by decide +kernel), q'⟩
        · rw [← tw10.length]
          exact Nat.lt_of_le_of_lt (bd_len gd) (by decide)
        · intro H11 s11 hD11
          rw [true_list] at hD11
          refine ⟨D, _, rfl, .inl (.inl hD11), _, rfl, ?_⟩
          rw [true_all]
          exact iteF ⟨⟨_, _, _, _, _, _, _, _, rfl⟩, sP8.trans (s9.trans (s10.trans s11))⟩
    · rintro σ H1 ⟨⟨y1, y2, y3, y4, y5, y6, y7, y8, rfl⟩, s1⟩
      exact q H1
end
end Wl

namespace Wl
open PySem PySem.Spec PyProof.Rows L2
theorem kb_of {K : PySem.W.Frag} {x qual : Str} {st : Stmt} {f : Addr} {fd : FuncData} {n : Str} (F : Fun K x qual st f fd)
    (h : ∀ (kV doc pm : Value) (an : Option Addr) (cdv ct a b : Value), bindArgs (PySem.W.fnOf x qual (defArgs st) (defBody st) (defScope st) .none kV doc pm an cdv ct) ⟨[a], [(n, b)]⟩ = pure [(("self" : Str), a), (n, b)]) : KBinds K fd ["self", n] [n] g2 g2 := by
  obtain ⟨oc, od, kV, doc, pm, an, cdv, ct, osl, rfl, l, c⟩ := F.ex
  refine ⟨fun s us ws _ hl => ?_, g2_rel⟩
  match us, ws, hl with
  | [a], [b], _ => exact .of_eq (h kV doc pm an cdv ct a b)
theorem kbn_of {K : PySem.W.Frag} {x qual : Str} {st : Stmt} {f : Addr} {fd : FuncData} {n : Str} (F : Fun K x qual st f fd)
    (h : ∀ (kV doc pm : Value) (an : Option Addr) (cdv ct a b : Value), bindArgs (PySem.W.fnOf x qual (defArgs st) (defBody st) (defScope st) .none kV doc pm an cdv ct) ⟨[a], [(n, b)]⟩ = pure [(("self" : Str), a), (n, b)]) : KBn K fd ["self", n] 1 [n] g2 g2 := by
  obtain ⟨oc, od, kV, doc, pm, an, cdv, ct, osl, rfl, l, c⟩ := F.ex
  refine ⟨fun s us ws _ h1 h2 => ?_, g2_rel⟩
  match us, ws, h1, h2 with
  | [a], [b], _, _ => exact .of_eq (h kV doc pm an cdv ct a b)
def dOf (x : Str) (st : Stmt) : He.DefD := ⟨(x, none), x, x, defArgs st, defBody st, defScope st, [], []⟩
def dMet (m q : Str) (st : Stmt) : He.DefD := ⟨("Land", some m), m, q, defArgs st, defBody st, defScope st, [], []⟩
def fn : List He.DefD := [dOf "is_word" sIsWord, dOf "are_rows" sAreRows, dOf "checked_spots" sSpots,
  dMet "__init__" "Land.__init__" sInit, dMet "check_name" "Land.check_name" sCheck, dMet "names" "Land.names" sLNames, dMet "spot" "Land.spot" sSpot, dMet "neighbours" "Land.neighbours" sNeigh, dMet "borders" "Land.borders" sBord,
  dOf "_law_cell" sCell, dOf "_law_purse" sPurse, dOf "_law_pick" sPick, dOf "_law_menu" sMenu, dOf "_law_word" sWord, dOf "_law_fresh" sFresh, dOf "_law_land" sLand, dOf "_law_names" sNames, dOf "_law_beside" sBeside, dOf "_law_around" sAround, dOf "_law_town_right" sTown, dOf "_law_each_right" sEach, dOf "law" sLaw, dOf "wrong_spot" sWrong, dOf "spots_in" sSpotsIn]
def fa : List He.Fa := [.glo "is_word", .glo "are_rows", .glo "checked_spots", .glo "Land",
  .glo "_law_cell", .glo "_law_purse", .glo "_law_pick", .glo "_law_menu", .glo "_law_word", .glo "_law_fresh", .glo "_law_land", .glo "_law_names", .glo "_law_beside", .glo "_law_around", .glo "_law_town_right", .glo "_law_each_right", .glo "law",
  .cls "Land", .noat "Land" "spots", .noat "Land" "rows", .mkr "Land", .meth "Land" "check_name", .meth "Land" "names", .meth "Land" "spot", .meth "Land" "neighbours", .meth "Land" "borders",
  .str "LETTERS" "abcdefghijklmnopqrstuvwxyz", .int "LONGEST_WORD" 8, .int "MOST_ROWS" 6, .int "MOST_COLUMNS" 6,
  .free "len", .free "range", .free "isinstance", .free "tuple", .free "list", .free "sorted", .free "all", .free "int", .free "max", .free "min", .free "enumerate", .free "str", .glo "wrong_spot", .glo "spots_in"]
abbrev R : PySem.W.OpenRow := PySem.W.OpenLaw.row PySem.Challenge.rw_wordlines_k05_lands_told
abbrev hk : PySem.W.Hook := He.hookD 4 fa fn
def ob (s : PySem.W.SharedT) : He.AlD := He.obsDG 4 fa fn (HandSHeadRun.getT s)
theorem ob_eq (s : PySem.W.SharedT) : ob s = hk.obs s.abs := He.obsDG_eq (HandSHeadRun.getT_eq s)
def others : List PySem.Str := ["LandError", "NoLand", "NoName", "LETTERS", "LONGEST_WORD", "is_word", "MOST_ROWS", "MOST_COLUMNS", "LAKE", "are_rows", "wrong_spot", "spots_in", "checked_spots", "Land", "_law_cell", "_law_purse", "_law_pick", "_law_menu", "_law_word", "_law_fresh", "_law_land", "_law_names", "_law_beside", "_law_around", "_law_town_right", "_law_each_right"]
theorem facts {P : Program} {w : World} {K : PySem.W.Frag} {h : Heap} {mg : Str → Option Value} {f : Addr} (X : K.In h) (G : h.Ns mainGlobals mg) (hfa : mg ("law" : Str) = some (.ref f)) (c : He.SaysD fa fn K) :
    ∃ fd : FuncData, (∀ (s : Shared) (v : Value), BindsTo s fd ⟨[v], []⟩ [("_law_script", v)]) ∧ ∀ base : Heap, K.In base → base.Ns mainGlobals mg → FnOk P w K mg base CX0 7 f fd ["_law_script"] (spLaw K) := by
  have B : Bi mg := ⟨He.free_ok X G (c.fact 30 (f := .free "len") rfl), He.free_ok X G (c.fact 31 (f := .free "range") rfl), He.free_ok X G (c.fact 32 (f := .free "isinstance") rfl), He.free_ok X G (c.fact 33 (f := .free "tuple") rfl), He.free_ok X G (c.fact 34 (f := .free "list") rfl),
    He.free_ok X G (c.fact 35 (f := .free "sorted") rfl), He.free_ok X G (c.fact 36 (f := .free "all") rfl), He.free_ok X G (c.fact 37 (f := .free "int") rfl), He.free_ok X G (c.fact 38 (f := .free "max") rfl), He.free_ok X G (c.fact 39 (f := .free "min") rfl), He.free_ok X G (c.fact 40 (f := .free "enumerate") rfl), He.free_ok X G (c.fact 41 (f := .free "str") rfl)⟩
  have Gk' : Gk mg := ⟨He.str_ok X G (c.fact 26 (f := .str "LETTERS" "abcdefghijklmnopqrstuvwxyz") rfl), He.int_ok X G (c.fact 27 (f := .int "LONGEST_WORD" 8) rfl), He.int_ok X G (c.fact 28 (f := .int "MOST_ROWS" 6) rfl), He.int_ok X G (c.fact 29 (f := .int "MOST_COLUMNS" 6) rfl)⟩
  have T : Txt K mg (He.ga K "Land") := ⟨He.cls_ok (c.fact 17 (f := .cls "Land") rfl), He.noat_ok (c.fact 18 (f := .noat "Land" "spots") rfl), He.noat_ok (c.fact 19 (f := .noat "Land" "rows") rfl), He.glo_ok X G (c.fact 3 (f := .glo "Land") rfl)⟩
  obtain ⟨fd0, F0⟩ := c.def_ 0 (d := dOf "is_word" sIsWord) rfl
  obtain ⟨fd1, F1⟩ := c.def_ 1 (d := dOf "are_rows" sAreRows) rfl
  obtain ⟨fd2, F2⟩ := c.def_ 2 (d := dOf "checked_spots" sSpots) rfl
  obtain ⟨fd3, F3⟩ := c.def_ 3 (d := dMet "__init__" "Land.__init__" sInit) rfl
  obtain ⟨fd4, F4⟩ := c.def_ 4 (d := dMet "check_name" "Land.check_name" sCheck) rfl
  obtain ⟨fd5, F5⟩ := c.def_ 5 (d := dMet "names" "Land.names" sLNames) rfl
  obtain ⟨fd6, F6⟩ := c.def_ 6 (d := dMet "spot" "Land.spot" sSpot) rfl
  obtain ⟨fd7, F7⟩ := c.def_ 7 (d := dMet "neighbours" "Land.neighbours" sNeigh) rfl
  obtain ⟨fd8, F8⟩ := c.def_ 8 (d := dMet "borders" "Land.borders" sBord) rfl
  obtain ⟨fd9, F9⟩ := c.def_ 9 (d := dOf "_law_cell" sCell) rfl
  obtain ⟨fd10, F10⟩ := c.def_ 10 (d := dOf "_law_purse" sPurse) rfl
  obtain ⟨fd11, F11⟩ := c.def_ 11 (d := dOf "_law_pick" sPick) rfl
  obtain ⟨fd12, F12⟩ := c.def_ 12 (d := dOf "_law_menu" sMenu) rfl
  obtain ⟨fd13, F13⟩ := c.def_ 13 (d := dOf "_law_word" sWord) rfl
  obtain ⟨fd14, F14⟩ := c.def_ 14 (d := dOf "_law_fresh" sFresh) rfl
  obtain ⟨fd15, F15⟩ := c.def_ 15 (d := dOf "_law_land" sLand) rfl
  obtain ⟨fd16, F16⟩ := c.def_ 16 (d := dOf "_law_names" sNames) rfl
  obtain ⟨fd17, F17⟩ := c.def_ 17 (d := dOf "_law_beside" sBeside) rfl
  obtain ⟨fd18, F18⟩ := c.def_ 18 (d := dOf "_law_around" sAround) rfl
  obtain ⟨fd19, F19⟩ := c.def_ 19 (d := dOf "_law_town_right" sTown) rfl
  obtain ⟨fd20, F20⟩ := c.def_ 20 (d := dOf "_law_each_right" sEach) rfl
  obtain ⟨fd21, F21⟩ := c.def_ 21 (d := dOf "law" sLaw) rfl
  obtain ⟨fd22, F22⟩ := c.def_ 22 (d := dOf "wrong_spot" sWrong) rfl
  obtain ⟨fd23, F23⟩ := c.def_ 23 (d := dOf "spots_in" sSpotsIn) rfl
  have f22 : Fun K "wrong_spot" "wrong_spot" sWrong _ fd22 := He5.fun_of F22
  have f23 : Fun K "spots_in" "spots_in" sSpotsIn _ fd23 := He5.fun_of F23
  have e := hfa.symm.trans (He.glo_ok X G (c.fact 16 (f := .glo "law") rfl))
  cases e
  have f0 : Fun K "is_word" "is_word" sIsWord _ fd0 := He5.fun_of F0
  have f1 : Fun K "are_rows" "are_rows" sAreRows _ fd1 := He5.fun_of F1
  have f2 : Fun K "checked_spots" "checked_spots" sSpots _ fd2 := He5.fun_of F2
  have f3 : Fun K "__init__" "Land.__init__" sInit _ fd3 := He5.fun_of F3
  have f4 : Fun K "check_name" "Land.check_name" sCheck _ fd4 := He5.fun_of F4
  have f5 : Fun K "names" "Land.names" sLNames _ fd5 := He5.fun_of F5
  have f6 : Fun K "spot" "Land.spot" sSpot _ fd6 := He5.fun_of F6
  have f7 : Fun K "neighbours" "Land.neighbours" sNeigh _ fd7 := He5.fun_of F7
  have f8 : Fun K "borders" "Land.borders" sBord _ fd8 := He5.fun_of F8
  have f9 : Fun K "_law_cell" "_law_cell" sCell _ fd9 := He5.fun_of F9
  have f10 : Fun K "_law_purse" "_law_purse" sPurse _ fd10 := He5.fun_of F10
  have f11 : Fun K "_law_pick" "_law_pick" sPick _ fd11 := He5.fun_of F11
  have f12 : Fun K "_law_menu" "_law_menu" sMenu _ fd12 := He5.fun_of F12
  have f13 : Fun K "_law_word" "_law_word" sWord _ fd13 := He5.fun_of F13
  have f14 : Fun K "_law_fresh" "_law_fresh" sFresh _ fd14 := He5.fun_of F14
  have f15 : Fun K "_law_land" "_law_land" sLand _ fd15 := He5.fun_of F15
  have f16 : Fun K "_law_names" "_law_names" sNames _ fd16 := He5.fun_of F16
  have f17 : Fun K "_law_beside" "_law_beside" sBeside _ fd17 := He5.fun_of F17
  have f18 : Fun K "_law_around" "_law_around" sAround _ fd18 := He5.fun_of F18
  have f19 : Fun K "_law_town_right" "_law_town_right" sTown _ fd19 := He5.fun_of F19
  have f20 : Fun K "_law_each_right" "_law_each_right" sEach _ fd20 := He5.fun_of F20
  have f21 : Fun K "law" "law" sLaw _ fd21 := He5.fun_of F21
  have bl : Binds K fd21 ["_law_script"] [] := f21.binds fun _ _ _ _ _ _ us hl => match us, hl with | [_], _ => rfl
  refine ⟨fd21, fun s v => ?_, fun base _ _ => ?_⟩
  · obtain ⟨oc, od, kV, doc, pm, an, cdv, ct, osl, e, l, c⟩ := f21.ex
    subst e
    exact .of_eq rfl
  have h0 : Has P w K mg base "is_word" 1 ["thing"] spIsWord := ⟨_, fd0, ok_isword f0 B Gk', He.glo_ok X G (c.fact 0 (f := .glo "is_word") rfl), f0.kp, f0.binds fun _ _ _ _ _ _ us hl => match us, hl with | [_], _ => rfl⟩
  have h1 : Has P w K mg base "are_rows" 1 ["thing"] spAreRows := ⟨_, fd1, ok_arerows f1 B Gk', He.glo_ok X G (c.fact 1 (f := .glo "are_rows") rfl), f1.kp, f1.binds fun _ _ _ _ _ _ us hl => match us, hl with | [_], _ => rfl⟩
  have h22 : Has P w K mg base "wrong_spot" 2 ["rows"] spWrong := ⟨_, fd22, ok_wrong f22 B h0, He.glo_ok X G (c.fact 42 (f := .glo "wrong_spot") rfl), f22.kp, f22.binds fun _ _ _ _ _ _ us hl => match us, hl with | [_], _ => rfl⟩
  have h23 : Has P w K mg base "spots_in" 1 ["rows"] spSpotsIn := ⟨_, fd23, ok_spotsin f23 B, He.glo_ok X G (c.fact 43 (f := .glo "spots_in") rfl), f23.kp, f23.binds fun _ _ _ _ _ _ us hl => match us, hl with | [_], _ => rfl⟩
  have h2 : Has P w K mg base "checked_spots" 3 ["rows"] spSpots := ⟨_, fd2, ok_spots f2 h1 h22 h23, He.glo_ok X G (c.fact 2 (f := .glo "checked_spots") rfl), f2.kp, f2.binds fun _ _ _ _ _ _ us hl => match us, hl with | [_], _ => rfl⟩
  have h3 : HasI P w K mg base (He.ga K "Land") := ⟨_, fd3, He.mkr_ok (c.fact 20 (f := .mkr "Land") rfl), ok_init f3 T h2, f3.binds fun _ _ _ _ _ _ us hl => match us, hl with | [_, _], _ => rfl, kbn_of f3 fun _ _ _ _ _ _ _ _ => rfl⟩
  have h4 : HasM P w K mg base (He.ga K "Land") "check_name" 2 ["self", "name"] (spCheck (He.ga K "Land")) := ⟨_, fd4, ok_check f4 T h0, He.meth_ok (c.fact 21 (f := .meth "Land" "check_name") rfl), f4.binds fun _ _ _ _ _ _ us hl => match us, hl with | [_, _], _ => rfl⟩
  have h5 : HasM P w K mg base (He.ga K "Land") "names" 1 ["self"] (spLNames (He.ga K "Land")) := ⟨_, fd5, ok_lnames f5 B T, He.meth_ok (c.fact 22 (f := .meth "Land" "names") rfl), f5.binds fun _ _ _ _ _ _ us hl => match us, hl with | [_], _ => rfl⟩
  have h6 : HasMK P w K mg base (He.ga K "Land") "spot" 3 ["self", "name"] ["name"] (spSpot (He.ga K "Land")) := ⟨_, fd6, ok_spot f6 T h4, He.meth_ok (c.fact 23 (f := .meth "Land" "spot") rfl), f6.binds fun _ _ _ _ _ _ us hl => match us, hl with | [_, _], _ => rfl, kb_of f6 fun _ _ _ _ _ _ _ _ => rfl⟩
  have h7 : HasMK P w K mg base (He.ga K "Land") "neighbours" 4 ["self", "name"] ["name"] (spNeigh (He.ga K "Land")) := ⟨_, fd7, ok_neigh f7 B T h6.pos h5, He.meth_ok (c.fact 24 (f := .meth "Land" "neighbours") rfl), f7.binds fun _ _ _ _ _ _ us hl => match us, hl with | [_, _], _ => rfl, kb_of f7 fun _ _ _ _ _ _ _ _ => rfl⟩
  have h8 : HasM P w K mg base (He.ga K "Land") "borders" 5 ["self"] (spBord (He.ga K "Land")) := ⟨_, fd8, ok_bord f8 B T h7.pos h5, He.meth_ok (c.fact 25 (f := .meth "Land" "borders") rfl), f8.binds fun _ _ _ _ _ _ us hl => match us, hl with | [_], _ => rfl⟩
  have h9 : Has P w K mg base "_law_cell" 1 ["_law_script", "_law_k"] (spCell K) := ⟨_, fd9, ok_cell f9 B, He.glo_ok X G (c.fact 4 (f := .glo "_law_cell") rfl), f9.kp, f9.binds fun _ _ _ _ _ _ us hl => match us, hl with | [_, _], _ => rfl⟩
  have h10 : Has P w K mg base "_law_purse" 1 ["_law_cell_here"] spPurse := ⟨_, fd10, ok_purse f10 B, He.glo_ok X G (c.fact 5 (f := .glo "_law_purse") rfl), f10.kp, f10.binds fun _ _ _ _ _ _ us hl => match us, hl with | [_], _ => rfl⟩
  have h11 : Has P w K mg base "_law_pick" 1 ["_law_purse_here", "_law_many"] spPick := ⟨_, fd11, ok_pick f11, He.glo_ok X G (c.fact 6 (f := .glo "_law_pick") rfl), f11.kp, f11.binds fun _ _ _ _ _ _ us hl => match us, hl with | [_, _], _ => rfl⟩
  have h12 : Has P w K mg base "_law_menu" 1 [] spMenu := ⟨_, fd12, ok_menu f12, He.glo_ok X G (c.fact 7 (f := .glo "_law_menu") rfl), f12.kp, f12.binds fun _ _ _ _ _ _ us hl => match us, hl with | [], _ => rfl⟩
  have h13 : Has P w K mg base "_law_word" 2 ["_law_purse_here"] spWord := ⟨_, fd13, ok_word f13 B h11 h12, He.glo_ok X G (c.fact 8 (f := .glo "_law_word") rfl), f13.kp, f13.binds fun _ _ _ _ _ _ us hl => match us, hl with | [_], _ => rfl⟩
  have h14 : Has P w K mg base "_law_fresh" 3 ["_law_purse_here", "_law_used"] spFresh := ⟨_, fd14, ok_fresh f14 B h13, He.glo_ok X G (c.fact 9 (f := .glo "_law_fresh") rfl), f14.kp, f14.binds fun _ _ _ _ _ _ us hl => match us, hl with | [_, _], _ => rfl⟩
  have h15 : Has P w K mg base "_law_land" 4 ["_law_purse_here", "_law_most"] spLand := ⟨_, fd15, ok_land f15 B h11 h14, He.glo_ok X G (c.fact 10 (f := .glo "_law_land") rfl), f15.kp, f15.binds fun _ _ _ _ _ _ us hl => match us, hl with | [_, _], _ => rfl⟩
  have h16 : Has P w K mg base "_law_names" 1 ["_law_laid"] spNames := ⟨_, fd16, ok_names f16 B, He.glo_ok X G (c.fact 11 (f := .glo "_law_names") rfl), f16.kp, f16.binds fun _ _ _ _ _ _ us hl => match us, hl with | [_], _ => rfl⟩
  have h17 : Has P w K mg base "_law_beside" 1 ["_law_laid"] spBeside := ⟨_, fd17, ok_beside f17 B, He.glo_ok X G (c.fact 12 (f := .glo "_law_beside") rfl), f17.kp, f17.binds fun _ _ _ _ _ _ us hl => match us, hl with | [_], _ => rfl⟩
  have h18 : Has P w K mg base "_law_around" 1 ["_law_laid", "_law_row", "_law_column"] spAround := ⟨_, fd18, ok_around f18 B, He.glo_ok X G (c.fact 13 (f := .glo "_law_around") rfl), f18.kp, f18.binds fun _ _ _ _ _ _ us hl => match us, hl with | [_, _, _], _ => rfl⟩
  have h19 : Has P w K mg base "_law_town_right" 5 ["_law_country", "_law_laid", "_law_row", "_law_column"] (spTown (He.ga K "Land")) := ⟨_, fd19, ok_town f19 B T h6 h7 h18, He.glo_ok X G (c.fact 14 (f := .glo "_law_town_right") rfl), f19.kp, f19.binds fun _ _ _ _ _ _ us hl => match us, hl with | [_, _, _, _], _ => rfl⟩
  have h20 : Has P w K mg base "_law_each_right" 6 ["_law_country", "_law_laid"] (spEach (He.ga K "Land")) := ⟨_, fd20, ok_each f20 B h19, He.glo_ok X G (c.fact 15 (f := .glo "_law_each_right") rfl), f20.kp, f20.binds fun _ _ _ _ _ _ us hl => match us, hl with | [_, _], _ => rfl⟩
  exact ok_law f21 B T h3 h9 h10 h11 h15 h20 h16 h17 h5 h8
end Wl

namespace Wl
open PySem PySem.Spec PyProof.Rows L2
theorem run (w : World) : HandSHeadRun.RunEq R (PySem.W.view R.prog [30]) hk ob 4000 others w := by
  intro os
  kernel_rfl
end Wl

open PySem PySem.W PySem.Calls PyProof.Rows
theorem PySem.Challenge.cw_wordlines_k05_lands_told_holds : PySem.Challenge.rw_wordlines_k05_lands_told.Holds := by
  w_on; o_law
  refine HandSHeadRun.head_any (r := OpenLaw.row PySem.Challenge.rw_wordlines_k05_lands_told) (q := view (OpenLaw.row PySem.Challenge.rw_wordlines_k05_lands_told).prog [30]) (H := Wl.hk) (ob := Wl.ob) (M := 4000) (loose := Wl.others) (d := HandSHeadRun.topDef (OpenLaw.row PySem.Challenge.rw_wordlines_k05_lands_told).prog 30) (kwd := []) Wl.ob_eq
    (by kernel_rfl) (fun s => by kernel_rfl) Wl.run (by kernel_rfl) (by kernel_rfl) (by kernel_rfl) (by rfl) (by first | assumption | decide +kernel) (by decide +kernel) ⟨rfl, rfl, rfl, rfl, rfl, by decide +kernel⟩ ?hw ?hc
  case hw => w_witness2
  case hc =>
    refine L2.walk_ofE (l := PySem.Challenge.rw_wordlines_k05_lands_told) (n := 63) (k := 7) (x := "_law_script") (CX := L2.CX0) rfl (by decide) (by kernel_rfl) ⟨rfl, by decide, by decide⟩ ?F (fun _ _ _ _ z => z)
    intro w mg fa h Y G hmg0
    obtain ⟨K, KX, c⟩ := Y
    have hmg : mg ("law" : PySem.Str) = some (.ref fa) := by
      have e : (HandSHeadRun.topDef (OpenLaw.row PySem.Challenge.rw_wordlines_k05_lands_told).prog 30).name = ("law" : PySem.Str) := by kernel_rfl
      rw [← e]
      exact hmg0
    obtain ⟨fd, hb, hF⟩ := Wl.facts (P := (PySem.Challenge.rw_wordlines_k05_lands_told).prog) (w := w) KX G hmg c
    exact ⟨K, fd, Wl.spLaw K, KX, hb, fun H a ns hl _ hS => ⟨a, ns, rfl, hS, hl, fun _ => rfl⟩, hF⟩

