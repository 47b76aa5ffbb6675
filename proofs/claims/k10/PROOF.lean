import PyProof.Rows.All
import Wide.All
import OpenK.AllK
import Wide.FinOn
import HandS.ForMost
import HandS.Defaults
import HandS.MakeKwOnly
import HandS.Conv
import HandS.IsInst
import HandS.Walk
import HandS.Flow
import KE.SortData
import KE.DataMinMax
import KE.GoesMore
import HandS.Style
import HandS.DictComp
import HandS.OwnEq
import KE.KCallOwn
import KE.KFmtOwn
import HandS.Codes
import HandS.FStr
import HandS.MakeKw
import HandS.More
import HandS.TupAny
import HandS.Deep
import HandS.DictEq
import HandS.Small
import PyProof.Rows.Range3
import PyProof.ListTruth
import HandS.NoneIn
import KE.KStateDown
import Lean
import HandS.Ends
import HandS.WordsExc
import HandS.Head0
import HandS.Head1
import HandS.Head2
import HandS.HeadEnd
import HandS.HeadHook1
import HandS.HeadHook2
import HandS.HeadNt
import PySem.Challenge.RW_wordlines_k10_gatherings_alike_and_shown
set_option Elab.async false
set_option linter.all false
set_option maxRecDepth 100000
set_option maxHeartbeats 0
/-! Rules of ours beside the layer: sorted of data, min and max of two texts, in of nested tuples, methods by keyword, enumerate of a tuple. -/
namespace Wl
open PySem PySem.Spec PyProof.Rows L2

/-! sorted(list of data) -/
def rSortD (K : PySem.W.Frag) : List V → Hp → VK → Prop := fun vs H Q =>
  ∃ (a : Addr) (bs : List (V × PyData)), vs = [V.ref a] ∧ SqL K H a (bs.map (·.1)) ∧ (∀ b ∈ bs, Dp K H b.1 b.2) ∧
    PySem.W.AllAlike (bs.map (·.2)) ∧ PySem.W.Sortable (bs.map (·.2)) ∧ (∀ b ∈ bs, b.2.depth ≤ 8) ∧
    ∀ p, H p = none → Q (.ref p) (upd H p (.lst ((bs.mergeSort (PySem.W.dataLe false (·.2))).map (·.1))))
theorem each_of_vals : ∀ {bs : List (V × PyData)} {its : List Value}, Vals (bs.map (·.1)) its → PySem.W.EachIs (fun u b => RelV b.1 u) its bs
  | [], [], _ => .nil
  | [], _ :: _, h => nomatch h
  | _ :: _, [], h => nomatch h
  | b :: bs, u :: us, h => by
    cases h with
    | cons r t => exact .cons r (each_of_vals t)
theorem vals_of_each : ∀ {bs : List (V × PyData)} {its : List Value}, PySem.W.EachIs (fun u b => RelV b.1 u) its bs → Vals (bs.map (·.1)) its
  | _, _, .nil => .nil
  | _, _, .cons r t => .cons r (vals_of_each t)
theorem each_reads {X : Cx} {pins : List (Addr × Obj)} {σ : L2.St} {H : Hp} {s : Shared} (I : Inv X pins σ H s) :
    ∀ {bs : List (V × PyData)} {its : List Value}, (∀ b ∈ bs, Dp X.K H b.1 b.2) → PySem.W.EachIs (fun u b => RelV b.1 u) its bs →
      PySem.W.EachIs (fun v b => ∃ as, Reads s.heap v b.2 as) its bs
  | _, _, _, .nil => .nil
  | _, _, hd, .cons r t => .cons (Dp.reads I _ _ _ (hd _ List.mem_cons_self) r) (each_reads I (fun b m => hd b (List.mem_cons_of_mem _ m)) t)
theorem cr_sortD {X : Cx} (hu : X.A.units + 64 < cLine) : CallR X (.builtin "sorted") (rSortD X.K) := by
  intro pins s σ H vs us Q I r h
  obtain ⟨a, bs, rfl, hs, hd, ha, hk, hz, q⟩ := h
  obtain ⟨its, rv, hl, hn⟩ := I.list hs
  obtain ⟨u, rfl, ru⟩ := vals1 r
  obtain rfl : u = Value.ref a := ru
  have e := each_of_vals rv
  have hbn : bs.length ≤ sizeLine := by
    rw [List.length_map] at hn
    exact hn
  refine PySem.W.sorted_data (R := fun u b => RelV b.1 u) (enc := (·.2)) hl.isList e (each_reads I hd e) ha hk hbn (fun b hb => ?_) fun out ho eo => ?_
  · have := hz b hb
    omega
  · have rv2 := vals_of_each eo
    obtain ⟨n, hn2⟩ := sortedAll_at s.heap its out.toArray
    have hlen : ((bs.mergeSort (PySem.W.dataLe false (·.2))).map (·.1)).length ≤ sizeLine := by
      rw [List.length_map, List.length_mergeSort]
      exact hbn
    exact ⟨.ref (s.heap.objs.size + 1), _, I.laid (t' := s.toks) (o := .lst ((bs.mergeSort (PySem.W.dataLe false (·.2))).map (·.1))) (fun b o e => sortedAll_old e) (Nat.le_succ _) ⟨hlen, out, n, rv2, hn2⟩, rfl, q _ (I.hok.fresh (Nat.le_succ _))⟩

/-! min, max of a tuple of two texts -/
def rTwo (K : PySem.W.Frag) (f : Str → Str → Str) : List V → Hp → VK → Prop := fun vs H Q =>
  ∃ (a : Addr) (x y : Str), vs = [V.ref a] ∧ SqT K H a [.str x, .str y] ∧ Q (.str (f x y)) H
def lessOf (x y : Str) : Str := if y.cps.toList < x.cps.toList then y else x
def moreOf (x y : Str) : Str := if x.cps.toList < y.cps.toList then y else x
theorem alike2 (x y : Str) : PySem.W.AlikeAll [PyData.str x, .str y] := by
  refine ⟨fun a ha b hb => ?_, fun a ha => ?_⟩
  · simp only [List.mem_cons, List.not_mem_nil, or_false] at ha hb
    rcases ha with rfl | rfl <;> rcases hb with rfl | rfl <;> rfl
  · simp only [List.mem_cons, List.not_mem_nil, or_false] at ha
    rcases ha with rfl | rfl <;> exact fun z => by cases z
theorem dp2 {K : PySem.W.Frag} {H : Hp} (x y : Str) : DpAll K H [.str x, .str y] [PyData.str x, .str y] := .cons (.str x) (.cons (.str y) .nil)
theorem cr_minT {X : Cx} (hc : X.calm = true) (hu : X.A.units + 64 < cLine) : CallR X (.builtin "min") (rTwo X.K lessOf) := by
  intro pins s σ H vs us Q I r h
  obtain ⟨a, x, y, rfl, hs, q⟩ := h
  obtain ⟨its, rv, hl, hn⟩ := I.tuple hs
  obtain ⟨u, rfl, ru⟩ := vals1 r
  obtain rfl : u = Value.ref a := ru
  obtain ⟨as, hr⟩ := Dp.readsAll I _ _ its (dp2 x y) rv
  refine PySem.W.min_tuple_data (I.ok.hd hc) (show s.heap.IsTuple a its.toArray from hl) (by simpa using hr) (alike2 x y) (by
    have : PyData.depthAll [PyData.str x, .str y] = 0 := rfl
    omega) fun i v h' tk bs hv hR hk => ?_
  have e : PySem.W.minD (.str x) [.str y] = .str (lessOf x y) := by
    unfold PySem.W.minD lessOf
    simp only [List.foldl_cons, List.foldl_nil, PySem.W.dataLt_str]
    by_cases c : y.cps.toList < x.cps.toList <;> simp [c]
  rw [e] at hR
  cases hR with
  | str z t => exact ⟨.str _, H, I.kept (t' := tk) hk, ⟨_, rfl⟩, q⟩
theorem cr_maxT {X : Cx} (hc : X.calm = true) (hu : X.A.units + 64 < cLine) : CallR X (.builtin "max") (rTwo X.K moreOf) := by
  intro pins s σ H vs us Q I r h
  obtain ⟨a, x, y, rfl, hs, q⟩ := h
  obtain ⟨its, rv, hl, hn⟩ := I.tuple hs
  obtain ⟨u, rfl, ru⟩ := vals1 r
  obtain rfl : u = Value.ref a := ru
  obtain ⟨as, hr⟩ := Dp.readsAll I _ _ its (dp2 x y) rv
  refine PySem.W.max_tuple_data (I.ok.hd hc) (show s.heap.IsTuple a its.toArray from hl) (by simpa using hr) (alike2 x y) (by
    have : PyData.depthAll [PyData.str x, .str y] = 0 := rfl
    omega) fun i v h' tk bs hv hR hk => ?_
  have e : PySem.W.maxD (.str x) [.str y] = .str (moreOf x y) := by
    unfold PySem.W.maxD moreOf
    simp only [List.foldl_cons, List.foldl_nil, PySem.W.dataLt_str]
    by_cases c : x.cps.toList < y.cps.toList <;> simp [c]
  rw [e] at hR
  cases hR with
  | str z t => exact ⟨.str _, H, I.kept (t' := tk) hk, ⟨_, rfl⟩, q⟩

/-! x in a tuple of data -/
def rInDT (K : PySem.W.Frag) : R2 := fun x y H Q => ∃ d ds, Dp K H x d ∧ Dp K H y (.tuple ds) ∧ SeqAt.shaped d = true ∧
  SeqAt.shaped (.tuple ds) = true ∧ Q (.bl (ds.any fun z => PyData.eqv z d)) H
theorem op_inDT {X : Cx} (hu : X.A.units + 65 < cLine) : OpR X (compareOp .In) (rInDT X.K) := by
  intro pins s σ H x y v u Q I rx ry h
  obtain ⟨d, ds, hd, he, sd, se, q⟩ := h
  obtain ⟨as, r1⟩ := Dp.reads I d x v hd rx
  obtain ⟨bs, r2⟩ := Dp.reads I (.tuple ds) y u he ry
  exact SeqAt.in_tuple_reads r2 r1 (SeqAt.canLay_of_shaped se) (SeqAt.canLay_of_shaped sd) (room_in_shaped sd hu) ⟨.bl _, H, I, rfl, q⟩

/-! o.m(k = e): one argument by its name -/
def g2 {α : Type} : List α → List α → List α
  | [a], [b] => [a, b]
  | _, _ => []
theorem g2_rel : ∀ {vs : List V} {us : List Value} {zs : List V} {ws : List Value}, Vals vs us → Vals zs ws → Vals (g2 vs zs) (g2 us ws)
  | _, _, _, _, .nil, _ => .nil
  | _, _, _, _, .cons a (.cons b c), _ => .nil
  | _, _, _, _, .cons a .nil, .nil => .nil
  | _, _, _, _, .cons a .nil, .cons b .nil => .cons a (.cons b .nil)
  | _, _, _, _, .cons a .nil, .cons b (.cons c d) => .nil
def tMethK (C : Addr) (m : Str) (sp : Sp) (E : XK) (ta : TE) (tk : TA) : TE := fun σ H Q => ta σ H fun x H1 =>
  ∃ a dx fs, x = .ref a ∧ H1 a = some (.ins C dx fs) ∧ fs.lookup m = none ∧ tk σ H1 fun zs H2 => sp (g2 [.ref a] zs) H2 Q E
theorem pe_methK {X : Cx} {CX : CXT} {k : Nat} {f C : Addr} {fd : FuncData} {ps ks : List Str} {sp : Sp} {E : XK} {m : Str} {pos apos : Pos} {o : Expr} {kws : List Keyword} {ta : TE} {tk : TA} {pl : Sem Bool}
    (he : PE X o ta) (c : Cls X.K C) (hm : Meth X.K C m f) (F : FnOk X.prog X.w X.K X.mg X.base CX k f fd ps sp) (hr : Room k X.A) (hb : KBinds X.K fd ps ks g2 g2) (hx : Passes CX X E) (hkw : PK X kws tk)
    (hall : (backToKw pos (keywordEach kws X.env)).all (·.1.isSome) = true := by rfl) (hks : (backToKw pos (keywordEach kws X.env)).filterMap (·.1) = ks := by rfl)
    (hpl : ((backTo pos (starEach [] X.env)).any (·.1) || (backToKw pos (keywordEach kws X.env)).any (·.1.isNone)) = false := by rfl)
    (ht : eval (.Call (.Attribute o m apos) [] kws pos) X.env = (do
      let ov ← eval o X.env
      standAt apos.atName
      let (f, first) ← holding [ov] (getMethod ov m pl)
      callWith pos f first (backTo pos (starEach [] X.env)) (backToKw pos (keywordEach kws X.env))) := by rfl) :
    PE X (.Call (.Attribute o m apos) [] kws pos) (tMethK C m sp E ta tk) := by
  refine ⟨fun pins s σ H Q I h => ?_⟩
  refine PySem.W.methodCall_KW (pl := pl) (thn (he.run pins s σ H _ I h) fun u s1 ⟨x, H1, I1, rx, a, dx, fs, ex, ea, l, q⟩ => ?_) ht
  subst ex
  obtain rfl : u = Value.ref a := rx
  refine getmeth_ok I1 ea c hm l ?_
  refine PySem.W.callWith_KW0 (first := [.ref a]) (h₀ := X.base) I.ok.mod.kin hm.kp hall (thn (hkw.run pos pins s1 σ H1 _ I1 q) fun ws s2 ⟨zs, H2, I2, rz, q2⟩ => ⟨I2.kIn, ?_⟩) hpl
  rw [hks]
  exact run_fnk (us := [.ref a]) (vs := [.ref a]) F hr hb hx I2 (.cons rfl .nil) rz q2

/-! enumerate(a tuple) -/
open AutoSeq1 (wpAny_loadPart') in
theorem new_enumT (l : Addr) (items : Array Value) (n : Nat) (dct : Option Addr) (sl : Array (Option Value)) :
    Meets (Builtin.«enumerate.__new__» ⟨[.type "enumerate", .ref l], []⟩) (fun _ R s =>
      s.heap.get? l = some { cls := .type "tuple", dict := dct, data := .seq items n, slots := sl } ∧
      R (.ok (.ret (.ref (s.heap.push { cls := .type "tuple_iterator", data := .fields #[.ref l, .int 0 0] }).objs.size)))
        { s with heap := (s.heap.push { cls := .type "tuple_iterator", data := .fields #[.ref l, .int 0 0] }).push { cls := .type "enumerate", data := .fields #[.none, .bool false, .ref s.heap.objs.size, rawInt 0, .none, .none] } }) :=
  .of_wp fun prog w A R s h => by
    obtain ⟨hp, g, d, tk, os⟩ := s
    obtain ⟨hl, h⟩ := h
    have hsub := sub_enumerate
    have hT : Heap.IsTuple (Shared.heap ⟨hp, g, d, tk, os⟩) l items := ⟨_, hl, rfl, n, rfl⟩
    wp_walk using wpAny_loadPart' hl
    refine wpAny_stack_any fun st => wpAny_pure ?_
    split
    · rename_i c _ _ _ _ _
      cases (c == Value.type "enumerate") <;> (wp_walk using wpAny_loadPart' hl, wpAny_pyIter_tuple hT; exact ⟨_, rfl, h⟩)
    · (wp_walk using wpAny_loadPart' hl, wpAny_pyIter_tuple hT); exact ⟨_, rfl, h⟩
section
variable {prog : Program} {w : World} {A : Around} {E : Value → Shared → Prop} {s : Shared}
theorem make_enumT {l : Addr} {items : Array Value} {Q : Value → Shared → Prop} (hL : s.heap.IsTuple l items)
    (h : ∀ h', IsEnum h' (s.heap.objs.size + 1) s.heap.objs.size 0 .none → h'.IsTupleIter s.heap.objs.size l 0 →
      (∀ b o, s.heap.get? b = some o → h'.get? b = some o) → Q (.ref (s.heap.objs.size + 1)) { s with heap := h' }) :
    wpAny (model prog w) A (call (.type "enumerate") [.ref l]) Q E s := by
  obtain ⟨⟨c, dct, dt, sl⟩, hl, hc, n, hd⟩ := hL
  obtain rfl : c = .type "tuple" := hc
  obtain rfl : dt = .seq items n := hd
  refine callType_new F.called_enumerate (by decide) (F.typeCall_enumerate_1 _) (F.newCall_enumerate_1 _) (fun obj => F.args_object_init_2 obj _) F.entry_enumerate_new (new_enumT l items n dct sl) ⟨hl, ?_⟩
  have hz : (s.heap.push { cls := .type "tuple_iterator", data := .fields #[.ref l, .int 0 0] }).objs.size = s.heap.objs.size + 1 := Heap.size_push ..
  rw [hz]
  have he : IsEnum ((s.heap.push { cls := .type "tuple_iterator", data := .fields #[.ref l, .int 0 0] }).push { cls := .type "enumerate", data := .fields #[.none, .bool false, .ref s.heap.objs.size, rawInt 0, .none, .none] })
      (s.heap.objs.size + 1) s.heap.objs.size 0 .none := hz ▸ Heap.get?_push_size (s.heap.push { cls := .type "tuple_iterator", data := .fields #[.ref l, .int 0 0] }) rfl
  exact ⟨⟨_, he, rfl⟩, h _ he ⟨_, Heap.get?_push_of_some _ (Heap.get?_push_size _ rfl), rfl, rfl⟩ fun b o x => Heap.get?_push_of_some _ (Heap.get?_push_of_some _ x)⟩
end
def IteT (K : PySem.W.Frag) (a : Addr) : It where
  go := fun i H => ∃ (xs : List V) (x : V), SqT K H a xs ∧ xs[i]? = some x
  yld := fun i H v H' => ∃ T x, v = .ref T ∧ H T = none ∧ H' = upd H T (.tup [.int (i : Nat), x]) ∧ ∀ xs, SqT K H a xs → xs[i]? = some x
  stop := fun i H => ∃ xs : List V, SqT K H a xs ∧ xs.length ≤ i
theorem apart_of {h : Heap} {a b : Addr} {o u : Obj} (ha : h.get? a = some o) (hb : h.get? b = some u) (hc : o.cls ≠ u.cls) : a ≠ b := fun e => by
  subst e
  rw [ha] at hb
  exact hc (congrArg Obj.cls (Option.some.inj hb))
theorem turn_enumT {P : Program} {w : World} {K : PySem.W.Frag} {elts : List Expr} {kk : Nat} {tpos : Pos} (a e it : Addr) :
    Turn P w K (.Tuple elts kk tpos) (IteT K a) [e, it] e (fun i h => (∃ old, IsEnum h e it ((i : Nat) : Int) old) ∧ h.IsTupleIter it a i ∧ e ≠ it) where
  mem := by simp
  obj := fun i h st b hb => by
    obtain ⟨⟨old, he⟩, ⟨o, ho, hc, hd⟩, _⟩ := st
    rcases (show b = e ∨ b = it by simpa using hb) with z | z
    · subst z; exact ⟨_, he, fun v q => nomatch q⟩
    · subst z; exact ⟨o, ho, fun v q => by rw [hd] at q; cases q⟩
  keep := fun i h h' st k => let ⟨⟨old, he⟩, hi, hne⟩ := st; ⟨⟨old, k e (by simp) _ he⟩, hi.at fun o q => k it (by simp) o q, hne⟩
  item := by
    intro X hP hw hK hc i pins s σ H E I hf st hg
    subst hP hw hK
    obtain ⟨⟨old, he⟩, hit, hne⟩ := st
    obtain ⟨xs, x, hq, hx⟩ := hg
    obtain ⟨its, rv, p, hz⟩ := I.tuple hq
    obtain ⟨u, hu, ru⟩ := rv.get hx
    have hT : s.heap.IsTuple a its.toArray := p
    obtain ⟨oi, hoi, hci, _⟩ := id hit
    obtain ⟨oa, hoa, hca, _⟩ := id hT
    have hel : e < s.heap.objs.size := Heap.lt_size he
    have hil : it < s.heap.objs.size := Heap.lt_size hoi
    have nai : a ≠ it := apart_of hoa hoi (by rw [hca, hci]; decide)
    have nea : e ≠ a := apart_of he hoa (by rw [hca]; show Value.type "enumerate" ≠ Value.type "tuple"; decide)
    have hi : i < its.toArray.size := by
      have := (List.getElem?_eq_some_iff.mp hu).1
      simpa using this
    refine wpAny_pyNext_enum_itemD (Draws.tuple (prog := X.prog) (w := X.w) (A := X.A.in1) (I.ok.hd hc) it a nai its.toArray) he ⟨hit, hT⟩ hi hne (by simp [hne, nea]) fun y h' tk hy ho hst hTp hsz hk => ?_
    obtain rfl : u = y := by
      have q : its.toArray[i]? = some u := by simpa using hu
      exact Option.some.inj (q.symm.trans hy)
    refine ⟨_, rfl, wpAny_letOwnedTupleGo_enum (s := { s with heap := h', toks := tk + 1 }) ho fun h'' he' sb => ?_⟩
    have hT2 : h''.get? s.heap.objs.size = some { cls := .type "tuple", data := .seq #[.int i tk, u] } := (sb.2 _ (Nat.ne_of_gt hel)).trans hTp
    have new : ObjOk X.prog X.w (upd H s.heap.objs.size (.tup [.int (i : Nat), x])) h'' s.heap.objs.size (.tup [.int (i : Nat), x]) :=
      ⟨by show 2 ≤ sizeLine; decide, [.int i tk, u], .cons ⟨_, rfl⟩ (.cons ru .nil), ⟨_, hT2, rfl, _, rfl⟩⟩
    have I1 : L2.Inv X pins σ (upd H s.heap.objs.size (.tup [.int (i : Nat), x])) { s with heap := h'', toks := tk + 1 } :=
      I.turnedNew (ch := [e, it]) (fun b ob hb q => by
        simp only [List.mem_cons, List.not_mem_nil, or_false, not_or] at hb
        exact (sb.2 b hb.1).trans (hk b ob hb.1 hb.2 q)) hf (Nat.le_refl _) new
    have e1 : ((i + 1 : Nat) : Int) = (i : Int) + 1 := by omega
    refine ⟨.ref s.heap.objs.size, _, I1, rfl, ⟨_, x, rfl, I.hok.fresh (Nat.le_refl _), rfl, fun ys hy => by rw [I.tuple_inj hy hq]; exact hx⟩,
      ⟨⟨u, by rw [e1]; exact he'⟩, hst.1.at fun o q => (sb.2 it (Ne.symm hne)).trans q, hne⟩, fun b hb => ?_⟩
    have hb' : b < s.heap.objs.size := by
      rcases (show b = e ∨ b = it by simpa using hb) with z | z <;> subst z <;> assumption
    rw [upd_ne (Nat.ne_of_lt hb')]
    exact (hf b hb).1
  done := by
    intro X hP hw hK hc i pins s σ H E I hf st hg
    subst hP hw hK
    obtain ⟨⟨old, he⟩, hit, hne⟩ := st
    obtain ⟨xs, hq, hx⟩ := hg
    obtain ⟨its, rv, p, hz⟩ := I.tuple hq
    obtain ⟨f0, f1, f2, f3, f4, f5⟩ := hf it (by simp)
    have hT : s.heap.IsTuple a its.toArray := p
    have hl : xs.length = its.length := rv.length
    have hT2 : ¬ (i < its.toArray.size) := by simp; omega
    show wpAny _ _ (pyNext (.ref e)) _ _ s
    have hTy : s.TypeIs (.ref e) "enumerate" := ⟨_, he, rfl⟩
    unfold pyNext
    refine wpAny_bind (wpAny_attempt (wpAny_callSpecial?_slot (name := Str.ofString "__next__") hTy F.slot_enumerate_next (wpAny_call_entry F.slot_enumerate_next hTy F.entry_enumerate_next ?_ (F.args_enumerate_next_1 _))))
    show wpAny _ _ (field (.ref e) 2 >>= _) _ _ _
    refine wpAny_bind (wpAny_field he rfl (x := .ref it) rfl (wpAny_bind (wpAny_nextOf_tuple_end (I.ok.hd hc) hit hT (Array.getElem?_eq_none (by omega)) fun h' x he' hx' => ?_)))
    obtain ⟨o, ho, hcc⟩ := hx'
    exact wpAny_bind (wpAny_isInstance (T := "StopIteration") (b := true) ⟨o, ho, hcc⟩ isSubtype_stop (wpAny_pure ⟨rfl, I.turned (t' := s.toks) (fun b o hb q => he' b o hb q) f0 f1 f3 f4 f5⟩))
  self := fun A i s Q E st h => let ⟨⟨_, he⟩, _⟩ := st; wpAny_pyIter_enum he h
def iEnumT (K : PySem.W.Frag) (ta : TA) : TI := fun σ H R => ta σ H fun vs H1 => ∃ a xs, vs = [.ref a] ∧ SqT K H1 a xs ∧ R (IteT K a) H1
theorem pi_enumT {X : Cx} {e : Expr} {ta : TA} {p pos tpos : Pos} {elts : List Expr} {kk : Nat} (hg : Gl X "enumerate") (hm : X.mg "enumerate" = none) (ha : PA X [e] ta) (hs : starEach [e] X.env = [(false, eval e X.env)] := by rfl) :
    PI X (.Tuple elts kk tpos) (.Call (.Name "enumerate" p) [e] [] pos) (iEnumT X.K ta) := by
  refine ⟨fun pins s σ H R I h => ?_⟩
  refine Call_ (ld_blt I hg hm boot_enumerate (PyProof.Rows.callWith_type1 (thn (ha.run pos pins s σ H _ I h) fun us s1 ⟨vs, H1, I1, r1, q1⟩ => ?_) hs rfl))
  obtain ⟨a, xs, rfl, hq, q⟩ := q1
  obtain ⟨u, rfl, ru⟩ := vals1 r1
  obtain rfl : u = Value.ref a := ru
  obtain ⟨its, rv, p', hz⟩ := I1.tuple hq
  refine make_enumT (show s1.heap.IsTuple a its.toArray from p') fun h' he hit hk => wpAny_pyIter_enum he ?_
  refine ⟨s1.heap.objs.size + 1, [s1.heap.objs.size + 1, s1.heap.objs.size], _, _, H1, rfl, I1.kept (t' := s1.toks) hk, turn_enumT a (s1.heap.objs.size + 1) s1.heap.objs.size, ⟨⟨.none, he⟩, hit, Nat.succ_ne_self _⟩, fun b hb => ?_, q⟩
  have hle : s1.heap.objs.size ≤ b := by
    rcases (show b = s1.heap.objs.size + 1 ∨ b = s1.heap.objs.size by simpa using hb) with z | z <;> rw [z]
    · exact Nat.le_add_right _ _
    · exact Nat.le_refl _
  exact I1.fpOk hle (I1.hok.fresh hle)
theorem walk_enumT {K : PySem.W.Frag} {a : Addr} {xs : List V} : Walk (IteT K a) xs.length (fun H => SqT K H a xs) (YPair (fun i => some (.int (i : Nat))) (fun i => xs[i]?)) := by
  refine ⟨fun i _ hi q => ⟨xs, xs[i], q, by simp [hi]⟩, fun _ q => ⟨xs, q, Nat.le_refl _⟩, ?_⟩
  rintro i H v H' _ q ⟨T, x, h1, h2, h3, h4⟩
  exact ⟨T, .int (i : Nat), x, h1, h2, h3, rfl, h4 xs q⟩
end Wl

namespace Wl
open PySem

/-! ### strictly rising lists -/
theorem rising_ext {α : Type} {lt : α → α → Prop} (ir : ∀ a, ¬ lt a a) (tr : ∀ a b c, lt a b → lt b c → lt a c) :
    ∀ {l m : List α}, l.Pairwise lt → m.Pairwise lt → (∀ x, x ∈ l ↔ x ∈ m) → l = m
  | [], [], _, _, _ => rfl
  | [], y :: m, _, _, h => absurd ((h y).mpr List.mem_cons_self) (by simp)
  | x :: l, [], _, _, h => absurd ((h x).mp List.mem_cons_self) (by simp)
  | x :: l, y :: m, hl, hm, h => by
    obtain ⟨hx, hl'⟩ := List.pairwise_cons.mp hl
    obtain ⟨hy, hm'⟩ := List.pairwise_cons.mp hm
    have e : x = y := by
      rcases List.mem_cons.mp ((h x).mp List.mem_cons_self) with e | h1
      · exact e
      · rcases List.mem_cons.mp ((h y).mpr List.mem_cons_self) with e | h2
        · exact e.symm
        · exact absurd (tr _ _ _ (hx y h2) (hy x h1)) (ir x)
    subst e
    have : l = m := rising_ext ir tr hl' hm' fun z => by
      constructor
      · intro hz
        rcases List.mem_cons.mp ((h z).mp (List.mem_cons_of_mem _ hz)) with e | q
        · exact absurd (hx z hz) (by rw [e]; exact ir x)
        · exact q
      · intro hz
        rcases List.mem_cons.mp ((h z).mpr (List.mem_cons_of_mem _ hz)) with e | q
        · exact absurd (hy z hz) (by rw [e]; exact ir x)
        · exact q
    rw [this]

/-! ### texts by their codes -/
theorem str_ext {a b : Str} (h : a.cps.toList = b.cps.toList) : a = b := by
  cases a; cases b
  exact congrArg Str.mk (Array.ext' h)
abbrev ltS (a b : Str) : Prop := a.cps.toList < b.cps.toList
theorem ltS_irr (a : Str) : ¬ ltS a a := List.lt_irrefl _
theorem ltS_tr (a b c : Str) (h : ltS a b) (k : ltS b c) : ltS a c := List.lt_trans h k
theorem ltS_tot {a b : Str} (h : ¬ ltS a b) (k : ¬ ltS b a) : a = b :=
  str_ext (List.le_antisymm (List.not_lt.mp k) (List.not_lt.mp h))
def leB (a b : Str) : Bool := !decide (ltS b a)
theorem leB_trans (a b c : Str) (h : leB a b = true) (k : leB b c = true) : leB a c = true := by
  simp only [leB, Bool.not_eq_true', decide_eq_false_iff_not] at h k ⊢
  exact fun q => by
    by_cases e : ltS a b
    · exact k (ltS_tr _ _ _ q e)
    · have := ltS_tot e h
      subst this
      exact k q
theorem leB_total (a b : Str) : (leB a b || leB b a) = true := by
  simp only [leB, Bool.or_eq_true, Bool.not_eq_true', decide_eq_false_iff_not]
  by_cases h : ltS b a
  · exact .inr fun q => ltS_irr _ (ltS_tr _ _ _ h q)
  · exact .inl h
def sortS (xs : List Str) : List Str := xs.mergeSort leB
theorem mem_sortS {xs : List Str} {z : Str} : z ∈ sortS xs ↔ z ∈ xs := List.mem_mergeSort
theorem sortS_len (xs : List Str) : (sortS xs).length = xs.length := List.length_mergeSort _
theorem sortS_rising {xs : List Str} (h : xs.Nodup) : (sortS xs).Pairwise ltS := by
  have h1 : (sortS xs).Pairwise (fun a b => leB a b = true) := List.pairwise_mergeSort leB_trans leB_total xs
  have h2 : (sortS xs).Pairwise (· ≠ ·) := (List.mergeSort_perm xs leB).nodup_iff.mpr h
  refine List.Pairwise.imp₂ ?_ h1 h2
  intro a b q n
  simp only [leB, Bool.not_eq_true', decide_eq_false_iff_not] at q
  exact Classical.byContradiction fun c => n (ltS_tot c q)
/-- what is strictly rising with the same members is the sorted list -/
theorem sortS_eq {xs l : List Str} (h : xs.Nodup) (hl : l.Pairwise ltS) (hm : ∀ z, z ∈ l ↔ z ∈ xs) : l = sortS xs :=
  rising_ext ltS_irr ltS_tr hl (sortS_rising h) fun z => (hm z).trans mem_sortS.symm

/-! ### pairs of texts -/
abbrev Two := Str × Str
def ltP (p q : Two) : Prop := ltS p.1 q.1 ∨ (p.1 = q.1 ∧ ltS p.2 q.2)
instance (p q : Two) : Decidable (ltP p q) := by unfold ltP; infer_instance
theorem ltP_irr (p : Two) : ¬ ltP p p := by
  rintro (h | ⟨_, h⟩) <;> exact ltS_irr _ h
theorem ltP_tr (p q r : Two) (h : ltP p q) (k : ltP q r) : ltP p r := by
  obtain ⟨p1, p2⟩ := p
  obtain ⟨q1, q2⟩ := q
  obtain ⟨r1, r2⟩ := r
  rcases h with h | ⟨e, h⟩ <;> rcases k with k | ⟨f, k⟩
  · exact .inl (ltS_tr _ _ _ h k)
  · simp only at f; subst f; exact .inl h
  · simp only at e; subst e; exact .inl k
  · simp only at e f; subst e f; exact .inr ⟨rfl, ltS_tr _ _ _ h k⟩
theorem ltP_tot {p q : Two} (h : ¬ ltP p q) (k : ¬ ltP q p) : p = q := by
  obtain ⟨p1, p2⟩ := p
  obtain ⟨q1, q2⟩ := q
  simp only [ltP, not_or, not_and] at h k
  have e : p1 = q1 := ltS_tot h.1 k.1
  subst e
  rw [ltS_tot (h.2 rfl) (k.2 rfl)]
def lePB (a b : Two) : Bool := !decide (ltP b a)
theorem lePB_trans (a b c : Two) (h : lePB a b = true) (k : lePB b c = true) : lePB a c = true := by
  simp only [lePB, Bool.not_eq_true', decide_eq_false_iff_not] at h k ⊢
  exact fun q => by
    by_cases e : ltP a b
    · exact k (ltP_tr _ _ _ q e)
    · have := ltP_tot e h
      subst this
      exact k q
theorem lePB_total (a b : Two) : (lePB a b || lePB b a) = true := by
  simp only [lePB, Bool.or_eq_true, Bool.not_eq_true', decide_eq_false_iff_not]
  by_cases h : ltP b a
  · exact .inr fun q => ltP_irr _ (ltP_tr _ _ _ h q)
  · exact .inl h
def sortP (xs : List Two) : List Two := xs.mergeSort lePB
theorem mem_sortP {xs : List Two} {z : Two} : z ∈ sortP xs ↔ z ∈ xs := List.mem_mergeSort
theorem sortP_len (xs : List Two) : (sortP xs).length = xs.length := List.length_mergeSort _
theorem sortP_rising {xs : List Two} (h : xs.Nodup) : (sortP xs).Pairwise ltP := by
  have h1 : (sortP xs).Pairwise (fun a b => lePB a b = true) := List.pairwise_mergeSort lePB_trans lePB_total xs
  have h2 : (sortP xs).Pairwise (· ≠ ·) := (List.mergeSort_perm xs lePB).nodup_iff.mpr h
  refine List.Pairwise.imp₂ ?_ h1 h2
  intro a b q n
  simp only [lePB, Bool.not_eq_true', decide_eq_false_iff_not] at q
  exact Classical.byContradiction fun c => n (ltP_tot c q)
theorem sortP_eq {xs l : List Two} (h : xs.Nodup) (hl : l.Pairwise ltP) (hm : ∀ z, z ∈ l ↔ z ∈ xs) : l = sortP xs :=
  rising_ext ltP_irr ltP_tr hl (sortP_rising h) fun z => (hm z).trans mem_sortP.symm

/-! ### the machine's order is ours -/
theorem le_data_str (a b : Str) : (!PySem.W.dataLt (.str b) (.str a)) = leB a b := by
  rw [PySem.W.dataLt_str]
  rfl
theorem le_data_two (a b : Two) : (!PySem.W.dataLt (.tuple [.str b.1, .str b.2]) (.tuple [.str a.1, .str a.2])) = lePB a b := by
  rw [PySem.W.dataLt_pair rfl rfl, PySem.W.dataLt_str, PySem.W.dataLt_str]
  unfold lePB
  congr 1
  have q : ∀ x y : Str, (PyData.eqv (.str x) (.str y) = true) = (x = y) := fun x y => by simp [PyData.eqv]
  simp only [q]
  by_cases h : b.1 = a.1
  · by_cases k : b.2 = a.2
    · have e : b = a := Prod.ext h k
      subst e
      simp [ltP_irr]
    · simp only [h, k, if_true, if_false, ltP]
      by_cases z : ltS b.2 a.2
      · simp [z]
      · simp [z, ltS_irr]
  · simp only [h, if_false, ltP]
    by_cases z : ltS b.1 a.1 <;> simp [z, h]
end Wl

namespace Wl
open PySem PySem.Spec PyProof.Rows L2

/-! ### defs that keep promises, by name -/
def Has (P : Program) (w : World) (K : PySem.W.Frag) (mg : Str → Option Value) (base : Heap) (x : Str) (k : Nat) (ps : List Str) (sp : Sp) : Prop :=
  ∃ f fd, FnOk P w K mg base CX0 k f fd ps sp ∧ mg x = some (.ref f) ∧ PySem.W.keepIn K (.ref f) = true ∧ Binds K fd ps []
def HasM (P : Program) (w : World) (K : PySem.W.Frag) (mg : Str → Option Value) (base : Heap) (C : Addr) (m : Str) (k : Nat) (ps : List Str) (sp : Sp) : Prop :=
  ∃ f fd, FnOk P w K mg base CX0 k f fd ps sp ∧ Meth K C m f ∧ Binds K fd ps []
section
variable {X : Cx} {k j : Nat} {C : Addr} {ps ks : List Str} {sp : Sp} {x m : Str} {p pos apos : Pos} {e o : Expr} {es : List Expr} {kws : List Keyword} {ta : TE} {t tk : TA}
theorem pe_h (h : Has X.prog X.w X.K X.mg X.base x k ps sp) (hr : Room j X.A) (ha : PA X (e :: es) t) (hkj : k ≤ j := by decide) (hg : Gl X x := by rfl) (hdb : (x == ("__debug__" : Str)) = false := by decide)
    (he : starEach (e :: es) X.env = (false, eval e X.env) :: starEach es X.env := by rfl) (hpl : (backTo pos (starEach es X.env)).any (·.1) = false := by rfl) :
    PE X (.Call (.Name x p) (e :: es) [] pos) (tCall sp [] E0 t) := by
  obtain ⟨f, fd, F, g, kp, b⟩ := h
  exact pe_call F (hr.mono hkj) hg g kp b .nil pass0 ha hdb he hpl
theorem pe_h0 (h : Has X.prog X.w X.K X.mg X.base x k ps sp) (hr : Room j X.A) (hkj : k ≤ j := by decide) (hg : Gl X x := by rfl) (hdb : (x == ("__debug__" : Str)) = false := by decide) :
    PE X (.Call (.Name x p) [] [] pos) (tCall sp [] E0 tNil) := by
  obtain ⟨f, fd, F, g, kp, b⟩ := h
  exact pe_call0 F (hr.mono hkj) hg g kp b .nil pass0 hdb
theorem pe_hm {pl : Sem Bool} (h : HasM X.prog X.w X.K X.mg X.base C m k ps sp) (c : Cls X.K C) (hr : Room j X.A) (ho : PE X o ta) (ha : PA X (e :: es) t) (hkj : k ≤ j := by decide)
    (hst : starEach (e :: es) X.env = (false, eval e X.env) :: starEach es X.env := by rfl) (hpl : (backTo pos (starEach es X.env)).any (·.1) = false := by rfl)
    (ht : eval (.Call (.Attribute o m apos) (e :: es) [] pos) X.env = (do
      let ov ← eval o X.env
      standAt apos.atName
      let (f, first) ← holding [ov] (getMethod ov m pl)
      callWith pos f first (backTo pos (starEach (e :: es) X.env)) (backToKw pos (keywordEach [] X.env))) := by rfl) :
    PE X (.Call (.Attribute o m apos) (e :: es) [] pos) (tMeth C m sp [] E0 ta t) := by
  obtain ⟨f, fd, F, g, b⟩ := h
  exact pe_meth ho c g F (hr.mono hkj) b .nil pass0 ha hst hpl ht
theorem pe_hm0 {pl : Sem Bool} (h : HasM X.prog X.w X.K X.mg X.base C m k ps sp) (c : Cls X.K C) (hr : Room j X.A) (ho : PE X o ta) (hkj : k ≤ j := by decide)
    (ht : eval (.Call (.Attribute o m apos) [] [] pos) X.env = (do
      let ov ← eval o X.env
      standAt apos.atName
      let (f, first) ← holding [ov] (getMethod ov m pl)
      callWith pos f first (backTo pos (starEach [] X.env)) (backToKw pos (keywordEach [] X.env))) := by rfl) :
    PE X (.Call (.Attribute o m apos) [] [] pos) (tMeth C m sp [] E0 ta tNil) := by
  obtain ⟨f, fd, F, g, b⟩ := h
  exact pe_meth0 ho c g F (hr.mono hkj) b .nil pass0 ht
end

/-! ### heaps -/
theorem same_new {H : Hp} {p : Addr} {o : HO} (h : H p = none) : Same H (upd H p o) := fun b x e => by
  rw [upd_ne (ne_of_none e h)]
  exact e
theorem same_mut {H H' : Hp} {p : Addr} {o : HO} (s : Same H H') (h : H p = none) : Same H (upd H' p o) := fun b x e => by
  rw [upd_ne (ne_of_none e h)]
  exact s b x e
theorem tup_same {K : PySem.W.Frag} {H H' : Hp} {a : Addr} {xs : List V} (e : Same H H') (h : SqT K H a xs) : SqT K H' a xs := by
  rcases h with (h | ⟨o, h⟩) | h
  · exact .inl (.inl (e _ _ h))
  · exact .inl (.inr ⟨o, e _ _ h⟩)
  · exact .inr h
/-- all but what stands at a is as it was -/
def SameX (a : Addr) (H H' : Hp) : Prop := ∀ b o, b ≠ a → H b = some o → H' b = some o
theorem SameX.refl (a : Addr) (H : Hp) : SameX a H H := fun _ _ _ h => h
theorem SameX.trans {a : Addr} {H H1 H2 : Hp} (s : SameX a H H1) (t : SameX a H1 H2) : SameX a H H2 := fun b o n h => t b o n (s b o n h)
theorem sx {a : Addr} {H H' : Hp} (s : Same H H') : SameX a H H' := fun b o _ h => s b o h
theorem sameX_upd {a : Addr} {H : Hp} {o : HO} : SameX a H (upd H a o) := fun b u n h => by rw [upd_ne n]; exact h
/-- an object that H does not know may change -/
theorem sameX_mut {a : Addr} {H H' : Hp} {p : Addr} {o : HO} (s : SameX a H H') (h : H p = none) : SameX a H (upd H' p o) := fun b u n e => by
  rw [upd_ne (ne_of_none e h)]
  exact s b u n e
theorem SameX.free {a l : Addr} {H H' : Hp} (e : SameX a H H') (n : l ≠ a) (h : H' l = none) : H l = none := by
  cases q : H l with
  | none => rfl
  | some o =>
    rw [e l o n q] at h
    cases h
theorem SameX.tup {K : PySem.W.Frag} {a p : Addr} {H H' : Hp} {xs ys : List V} (e : SameX a H H') (ha : H a = some (.lst ys)) (h : SqT K H p xs) : SqT K H' p xs := by
  rcases h with (h | ⟨o, h⟩) | h
  · exact .inl (.inl (e _ _ (ne_of h ha (by intro z; cases z)) h))
  · exact .inl (.inr ⟨o, e _ _ (ne_of h ha (by intro z; cases z)) h⟩)
  · exact .inr h

/-! ### tests whose answer is known -/
theorem ite_b {b : Bool} {A B : Prop} (h1 : b = true → A) (h2 : b = false → B) : if b = true then A else B := by
  cases b with
  | true => exact iteT (h1 rfl)
  | false => exact iteF (h2 rfl)
theorem not_b {b : Bool} {A B : Prop} (h1 : b = false → A) (h2 : b = true → B) : if (!b) = true then A else B := by
  cases b with
  | true => exact iteF (h2 rfl)
  | false => exact iteT (h1 rfl)

theorem yes_it {σ : L2.St} {H : Hp} {A B : Hp → Prop} (h : A H) : tYes σ H (fun b H' => if b = true then A H' else B H') := by
  show if true = true then A H else B H
  rw [if_pos rfl]
  exact h
theorem lz {n : Nat} (h : Nat.ble n 1000 = true := by rfl) : n ≤ sizeLine := Nat.le_trans (Nat.le_of_ble_eq_true h) (by decide)
theorem lzl {n : Nat} (h : n ≤ 1000) : n ≤ sizeLine := Nat.le_trans h (by decide)

/-! ### words -/
def wdB (z : Str) : Bool := decide (1 ≤ z.length) && decide (z.length ≤ 8) && z.cps.toList.all fun c => decide (97 ≤ c) && decide (c ≤ 122)
def IsWd (z : Str) : Prop := wdB z = true
instance (z : Str) : Decidable (IsWd z) := inferInstanceAs (Decidable (wdB z = true))
def oV : Option Str → V
  | none => .non
  | some z => .str z

/-! ### the built-ins that the text leaves as they are -/
structure Bi (mg : Str → Option Value) : Prop where
  len : mg "len" = none
  range : mg "range" = none
  isi : mg "isinstance" = none
  tuple : mg "tuple" = none
  list : mg "list" = none
  sorted : mg "sorted" = none
  all : mg "all" = none
  int : mg "int" = none
  max : mg "max" = none
  min : mg "min" = none
  enum : mg "enumerate" = none
  str : mg "str" = none
end Wl
namespace Wl
open PySem PySem.Spec PyProof.Rows L2
theorem atI_tab {ns : List Int} {r : Int} (h0 : 0 ≤ r) (h : r < ns.length) : ∃ n ∈ ns, atI (ns.map V.int) r = some (.int n) := by
  have hr : r.toNat < ns.length := by omega
  refine ⟨ns[r.toNat], List.getElem_mem hr, at_of (j := r.toNat) (by omega) ?_⟩
  rw [List.getElem?_map, List.getElem?_eq_getElem hr]
  rfl
theorem atI_strs {zs : List Str} {r : Int} (h0 : 0 ≤ r) (h : r < zs.length) : ∃ z ∈ zs, atI (zs.map V.str) r = some (.str z) := by
  have hr : r.toNat < zs.length := by omega
  refine ⟨zs[r.toNat], List.getElem_mem hr, at_of (j := r.toNat) (by omega) ?_⟩
  rw [List.getElem?_map, List.getElem?_eq_getElem hr]
  rfl
theorem letters_eq : ("abcdefghijklmnopqrstuvwxyz" : Str).cps.toList = List.range' 97 26 := by decide +kernel
theorem letter_at {r : Int} (h0 : 0 ≤ r) (h : r < 26) : atI ("abcdefghijklmnopqrstuvwxyz" : Str).cps.toList r = some (97 + r.toNat) := by
  rw [letters_eq]
  refine at_of' (j := r.toNat) (by omega) ?_
  rw [List.getElem?_range' (by omega)]
  congr 1
  omega
where
  at_of' {xs : List Nat} {z : Int} {j : Nat} {v : Nat} (e : z = (j : Int)) (h : xs[j]? = some v) : atI xs z = some v := by
    rw [e]
    exact atI_nat h
def sign (c : Nat) : Str := ⟨#[c]⟩
theorem joinL_flat : ∀ ps : List (List Nat), TL.joinL [] ps = ps.flatten
  | [] => rfl
  | [p] => by simp [TL.joinL]
  | p :: q :: r => by
    show p ++ ([] ++ TL.joinL [] (q :: r)) = _
    rw [joinL_flat (q :: r)]
    simp
theorem join_codes (ys : List Str) : (Txt.join ("" : Str) ys).cps.toList = (ys.map fun y => y.cps.toList).flatten := by
  have h := TL.tl_join ("" : Str) ys
  rw [show TL.tl ("" : Str) = [] by decide +kernel, joinL_flat] at h
  rw [TL.join_eq]
  exact h
theorem join_signs (cs : List Nat) : (Txt.join ("" : Str) (cs.map sign)).cps.toList = cs := by
  rw [join_codes, List.map_map]
  induction cs with
  | nil => rfl
  | cons c r ih => exact congrArg (c :: ·) ih
theorem isWd_of {z : Str} (h1 : 1 ≤ z.cps.toList.length) (h8 : z.cps.toList.length ≤ 8) (hc : ∀ c ∈ z.cps.toList, 97 ≤ c ∧ c ≤ 122) : IsWd z := by
  unfold IsWd wdB Str.length
  rw [Array.length_toList] at h1 h8
  simp only [Bool.and_eq_true, decide_eq_true_eq, List.all_eq_true]
  exact ⟨⟨h1, h8⟩, hc⟩
theorem IsWd.len {z : Str} (h : IsWd z) : 1 ≤ z.length ∧ z.length ≤ 8 := by
  unfold IsWd wdB at h
  simp only [Bool.and_eq_true, decide_eq_true_eq] at h
  exact h.1
end Wl

namespace Wl
open PySem PySem.Spec PyProof.Rows L2

/-! ### the text by places -/
def topS (i : Nat) : Stmt := PySem.Challenge.pw_wordlines_k10_gatherings_alike_and_shown.main.body.getD i (.Pass ⟨0, 0, 0, 0⟩)
abbrev sCell : Stmt := topS 41
abbrev sPurse : Stmt := topS 42
abbrev sPick : Stmt := topS 43
abbrev sMenu : Stmt := topS 44
abbrev sWord : Stmt := topS 45

section
variable {P : Program} {w : World} {K : PySem.W.Frag} {mg : Str → Option Value} {base : Heap} {f : Addr} {fd : FuncData}

/-! ### a cell of the script: some int -/
def spCell (K : PySem.W.Frag) : Sp := fun vs H Q _ => ∃ (a : Addr) (ns : List Int) (k : Int), vs = [.ref a, .int k] ∧ SqL K H a (ns.map V.int) ∧ 0 ≤ k ∧ k ≤ 63 ∧
  ∀ (v : Int) (H' : Hp), Same H H' → Q (.int v) H'
theorem scCell : FnScope ["_law_script", "_law_k", "_law_state", "_law_cell_here"] ["_law_script", "_law_k"] (defScope sCell) :=
  ⟨rfl, rfl, rfl, by decide +kernel, rfl, by decide +kernel, by decide +kernel⟩
theorem mem_cut {xs : List V} {lo hi : Option Int} {v : V} (h : v ∈ cutV xs lo hi) : v ∈ xs := List.mem_of_mem_drop (List.mem_of_mem_take h)
theorem ok_cell (F : Fun K "_law_cell" "_law_cell" sCell f fd) (B : Bi mg) : FnOk P w K mg base CX0 1 f fd ["_law_script", "_law_k"] (spCell K) := by
  refine F.ok scCell (fun vs H Q E h => ?_) (fun cdv A outer s H vs Q E hr h => ?_)
  · obtain ⟨a, ns, k, rfl, _⟩ := h
    rfl
  · obtain ⟨a, ns, k, rfl, hS, k0, k1, q⟩ := h
    refine ⟨_, pss_cons (ps_if (pt_cmpR op_lt (pv 1) (pe_callB call_len_seq (by rfl) B.len PySem.boot_len (pa_cons (pv 0) pa_nil)) (nomark _)) (pss_one (ps_ret (pe_ix ix_list (pv 0) (pv 1) (fun _ _ => rfl)))) pss_nil)
      (pss_cons (ps_set (i := 2) scCell.nd rfl (.inl rfl) (pe_op op_mod (pe_op op_mul pe_int (pe_op op_add (pe_op op_add (pe_op op_mul (pv 1) (pv 1)) (pe_op op_mul pe_int (pv 1))) pe_int)) pe_int))
      (pss_cons (ps_for PassesOwn.never rfl (pi_list (pe_slice sl_list (pv 0) po_none (po_some pe_int))) (pg_name (i := 3) scCell.nd rfl (.inl rfl))
        (pss_one (ps_set (i := 2) scCell.nd rfl (.inl rfl) (pe_op op_mod (pe_op op_add (pe_op op_mul (pv 2) pe_int) (pv 3)) pe_int))))
      (pss_one (ps_ret (pv 2))))), ?_⟩
    refine ⟨_, rfl, .ref a, rfl, a, _, rfl, .inl hS, _, _, rfl, rfl, _, rfl, ite_b (fun e => ?_) (fun e => ?_)⟩
    · have hk : k < ((ns.map V.int).length : Int) := of_decide_eq_true e
      rw [List.length_map] at hk
      have hk2 : k.toNat < ns.length := by omega
      refine ⟨_, rfl, _, rfl, a, _, k, .int ns[k.toNat], rfl, rfl, hS, at_of (j := k.toNat) (by omega) ?_, q _ H (Same.refl H)⟩
      rw [List.getElem?_map, List.getElem?_eq_getElem hk2]
      rfl
    · refine ⟨_, rfl, _, rfl, k, k, rfl, rfl, .inl ⟨by omega, by omega⟩, _, rfl, 5, k, rfl, rfl, .inl ⟨by decide, by decide⟩, _, _, rfl, rfl, _, _, rfl, rfl, _, _, rfl, rfl, .inl ⟨by decide, by decide⟩, _, _, rfl, rfl, (show (0 : Int) < 1000000033 by decide), ?_⟩
      refine ⟨_, rfl, 4, rfl, a, _, rfl, hS, fun p hp => ?_⟩
      have hc : SqL K (upd H p (.lst (cutV (ns.map V.int) none (some 4)))) p (cutV (ns.map V.int) none (some 4)) := .inl (.inl upd_same)
      refine ⟨p, rfl, ⟨_, hc⟩, for_list (K := K) (a := p) (xs := cutV (ns.map V.int) none (some 4)) (fun i σ H' => (∃ (z : Int) (y : Option V), σ = [some (.ref a), some (.int k), some (.int z), y]) ∧ H' = upd H p (.lst (cutV (ns.map V.int) none (some 4))))
        ⟨⟨_, _, rfl⟩, rfl⟩ (fun i σ H' _ h => by rw [h.2]; exact hc) ?_ ?_⟩
      · rintro i x σ H' hx ⟨⟨z, y, rfl⟩, rfl⟩
        obtain ⟨n, rfl⟩ : ∃ n, x = V.int n := by
          obtain ⟨n, _, e⟩ := List.mem_map.mp (mem_cut (List.mem_of_getElem? hx))
          exact ⟨n, e.symm⟩
        refine ⟨_, rfl, z, 30029, rfl, rfl, .inr ⟨by decide, by decide⟩, _, rfl, _, _, rfl, rfl, _, _, rfl, rfl, (show (0 : Int) < 1000000033 by decide), ⟨⟨_, _, rfl⟩, rfl⟩⟩
      · rintro σ H' ⟨⟨z, y, rfl⟩, rfl⟩
        exact ⟨_, rfl, q _ _ (same_new hp)⟩

/-! ### the purse -/
def PurseAt (H : Hp) (a : Addr) : Prop := ∃ s b c : Int, H a = some (.lst [.int s, .int b, .int c]) ∧ 0 ≤ b
theorem PurseAt.same {H H' : Hp} {a : Addr} (h : PurseAt H a) (s : Same H H') : PurseAt H' a := by
  obtain ⟨s0, b, c, ha, hb⟩ := h
  exact ⟨s0, b, c, s _ _ ha, hb⟩
theorem PurseAt.ne {H : Hp} {a p : Addr} (h : PurseAt H a) (hp : H p = none) : p ≠ a := by
  obtain ⟨s0, b, c, ha, hb⟩ := h
  exact (ne_of_none ha hp).symm
theorem PurseAt.lst {H : Hp} {a : Addr} (h : PurseAt H a) : ∃ ys, H a = some (.lst ys) := by
  obtain ⟨s0, b, c, ha, hb⟩ := h
  exact ⟨_, ha⟩
def spPurse : Sp := fun vs H Q _ => ∃ (n : Int), vs = [.int n] ∧ ∀ (a : Addr) (H' : Hp), H a = none → Same H H' → PurseAt H' a → Q (.ref a) H'
theorem scPurse : FnScope ["_law_cell_here"] ["_law_cell_here"] (defScope sPurse) :=
  ⟨rfl, rfl, rfl, by decide +kernel, rfl, by decide +kernel, by decide +kernel⟩
theorem ok_purse (F : Fun K "_law_purse" "_law_purse" sPurse f fd) (B : Bi mg) : FnOk P w K mg base CX0 1 f fd ["_law_cell_here"] spPurse := by
  refine F.ok scPurse (fun vs H Q E h => ?_) (fun cdv A outer s H vs Q E hr h => ?_)
  · obtain ⟨n, rfl, _⟩ := h
    rfl
  · obtain ⟨n, rfl, q⟩ := h
    refine ⟨_, pss_one (ps_ret (pe_lst (pa_cons (pe_op op_add (pe_op op_mul (pe_op op_mod (pv 0) pe_int) pe_int) pe_int)
      (pa_cons (pe_ix ix_list (pe_lst (pa_cons pe_int (pa_cons (pv 0) pa_nil))) (pe_callTy call_int1 (by rfl) B.int (by decide +kernel) (pa_cons (pe_cmpR op_ge (pv 0) (pe_op op_pow pe_int pe_int) (nomark _)) pa_nil)) (fun _ _ => rfl))
      (pa_cons pe_int pa_nil))))), ?_⟩
    refine ⟨_, rfl, _, _, rfl, rfl, (show (0 : Int) < 1000000033 by decide), _, _, rfl, rfl, .inr ⟨by decide, by decide⟩, _, _, rfl, rfl, _, rfl, lz, fun p hp => ?_⟩
    have e18 : (10 : Int) ^ (18 : Int).toNat = 1000000000000000000 := by decide
    refine ⟨_, rfl, 10, 18, rfl, rfl, ⟨by decide, by decide, by decide⟩, _, _, rfl, rfl, .inr ⟨_, rfl, ?_⟩⟩
    refine ⟨p, [.int 0, .int n], _, .int (if decide ((10 : Int) ^ (18 : Int).toNat ≤ n) = true then n else 0), rfl, rfl, .inl (.inl upd_same), ?_, lz, fun a ha => ?_⟩
    · by_cases c : (10 : Int) ^ (18 : Int).toNat ≤ n
      · simp only [decide_eq_true c, if_true]
        exact atI_nat (j := 1) rfl
      · simp only [decide_eq_false c]
        exact atI_nat (j := 0) rfl
    · have hp2 : Same H (upd H p (.lst [.int 0, .int n])) := same_new hp
      refine q a _ (hp2.free ha) (hp2.trans (same_new ha)) ⟨_, _, _, upd_same, ?_⟩
      by_cases c : (10 : Int) ^ (18 : Int).toNat ≤ n
      · simp only [decide_eq_true c, if_true]
        rw [e18] at c
        omega
      · simp only [decide_eq_false c]
        exact Int.le_refl 0
/-! ### a pick: some number below many -/
def spPick : Sp := fun vs H Q _ => ∃ (a : Addr) (m : Int), vs = [.ref a, .int m] ∧ PurseAt H a ∧ 0 < m ∧ m < 1073741824 ∧
  ∀ (r : Int) (H' : Hp), 0 ≤ r → r < m → PurseAt H' a → SameX a H H' → (∀ p, H p = none → H' p = none) → Q (.int r) H'
theorem scPick : FnScope ["_law_purse_here", "_law_count", "_law_state", "_law_taken"] ["_law_purse_here", "_law_count"] (defScope sPick) :=
  ⟨rfl, rfl, rfl, by decide +kernel, rfl, by decide +kernel, by decide +kernel⟩
theorem none_upd {H : Hp} {a : Addr} {o u : HO} (h : H a = some o) : ∀ p, H p = none → upd H a u p = none := fun p hp => by
  rw [upd_ne (ne_of_none h hp).symm]
  exact hp
theorem ok_pick (F : Fun K "_law_pick" "_law_pick" sPick f fd) : FnOk P w K mg base CX0 1 f fd ["_law_purse_here", "_law_count"] spPick := by
  refine F.ok scPick (fun vs H Q E h => ?_) (fun cdv A outer s H vs Q E hr h => ?_)
  · obtain ⟨a, m, rfl, _⟩ := h
    rfl
  · obtain ⟨a, m, rfl, ⟨s0, b, c, ha, hb⟩, m0, m1, q⟩ := h
    refine ⟨_, pss_cons (ps_asg (pe_op op_add (pe_ix ix_list (pv 0) pe_int (fun _ _ => rfl)) pe_int) (pg_sub (pv 0) pe_int set_list))
      (pss_cons (ps_set (i := 2) scPick.nd rfl (.inl rfl) (pe_op op_mod (pe_ix ix_list (pv 0) pe_int (fun _ _ => rfl)) pe_int))
      (pss_cons (ps_asg (pe_op op_add (pe_op op_mul (pv 2) (pe_op op_add (pe_op op_mod (pv 2) pe_int) pe_int)) (pe_op op_mul pe_int (pe_ix ix_list (pv 0) pe_int (fun _ _ => rfl)))) (pg_sub (pv 0) pe_int set_list))
      (pss_cons (ps_if (pt_cmpR op_gt (pe_ix ix_list (pv 0) pe_int (fun _ _ => rfl)) pe_int (nomark _))
        (pss_cons (ps_set (i := 3) scPick.nd rfl (.inl rfl) (pe_op op_mod (pe_ix ix_list (pv 0) pe_int (fun _ _ => rfl)) (pv 1)))
        (pss_cons (ps_asg (pe_op op_fdiv (pe_ix ix_list (pv 0) pe_int (fun _ _ => rfl)) (pv 1)) (pg_sub (pv 0) pe_int set_list))
        (pss_one (ps_ret (pv 3))))) pss_nil)
      (pss_one (ps_ret (pe_op op_mod (pe_op op_fdiv (pe_op op_mod (pe_ix ix_list (pv 0) pe_int (fun _ _ => rfl)) pe_int) pe_int) (pv 1))))))), ?_⟩
    have hmod : ∀ x : Int, 0 ≤ x % 1000000033 ∧ x % 1000000033 < 1000000033 := fun x => by omega
    refine ⟨_, rfl, a, _, 2, .int c, rfl, rfl, .inl (.inl ha), atI_nat (j := 2) rfl, _, _, rfl, rfl, _, rfl, a, _, 2, 2, rfl, rfl, ha, rfl, ?_⟩
    refine ⟨_, rfl, a, _, 0, .int s0, rfl, rfl, .inl (.inl upd_same), atI_nat (j := 0) rfl, _, _, rfl, rfl, (show (0 : Int) < 1000000033 by decide), ?_⟩
    refine ⟨_, rfl, _, rfl, _, _, rfl, rfl, (show (0 : Int) < 60013 by decide), _, _, rfl, rfl, _, _, rfl, rfl, .inl ⟨by have := hmod s0; omega, by have := hmod s0; omega⟩,
      _, rfl, a, _, 2, _, rfl, rfl, .inl (.inl upd_same), atI_nat (j := 2) rfl, _, _, rfl, rfl, .inl ⟨by decide, by decide⟩, _, _, rfl, rfl, _, rfl, a, _, 0, 0, rfl, rfl, upd_same, rfl, ?_⟩
    refine ⟨_, rfl, a, _, 1, .int b, rfl, rfl, .inl (.inl upd_same), atI_nat (j := 1) rfl, _, _, rfl, rfl, _, rfl, ite_b (fun e => ?_) (fun e => ?_)⟩
    · refine ⟨_, rfl, a, _, 1, .int b, rfl, rfl, .inl (.inl upd_same), atI_nat (j := 1) rfl, _, rfl, b, m, rfl, rfl, m0, ?_⟩
      refine ⟨_, rfl, a, _, 1, .int b, rfl, rfl, .inl (.inl upd_same), atI_nat (j := 1) rfl, _, rfl, b, m, rfl, rfl, ⟨m0, m1⟩, _, rfl, a, _, 1, 1, rfl, rfl, upd_same, rfl, ?_⟩
      refine ⟨_, rfl, q _ _ (Int.emod_nonneg _ (by omega)) (Int.emod_lt_of_pos _ m0) ⟨_, _, _, upd_same, ?_⟩ (((sameX_upd).trans sameX_upd).trans sameX_upd) fun p hp => ?_⟩
      · exact Int.ediv_nonneg hb (by omega)
      · exact none_upd upd_same p (none_upd upd_same p (none_upd ha p hp))
    · refine ⟨_, rfl, a, _, 0, _, rfl, rfl, .inl (.inl upd_same), atI_nat (j := 0) rfl, _, _, rfl, rfl, (show (0 : Int) < 1000000033 by decide), _, _, rfl, rfl, ⟨by decide, by decide⟩, _, rfl, _, m, rfl, rfl, m0, ?_⟩
      exact q _ _ (Int.emod_nonneg _ (by omega)) (Int.emod_lt_of_pos _ m0) ⟨_, _, _, upd_same, hb⟩ ((sameX_upd).trans sameX_upd) fun p hp => none_upd upd_same p (none_upd ha p hp)

/-! ### the menu, a word -/
def menuW : List Str := ["put", "doubt", "strike", "back", "change", "one", "map", "words", "parted", "line", "rings", "thin", "fate", "asks", "habit", "apart", "near", "paper", "ok", "no", "none", "self", "may", "not", "has", "any"]
theorem menu_wd : ∀ z ∈ menuW, IsWd z := by decide +kernel
theorem menu_len : menuW.length = 26 := by decide +kernel
def spMenu : Sp := fun vs H Q _ => vs = [] ∧ ∀ (p : Addr) (H' : Hp), H p = none → Same H H' → H' p = some (.lst (menuW.map V.str)) → Q (.ref p) H'
theorem scMenu : FnScope ["_law_some"] [] (defScope sMenu) := ⟨rfl, rfl, rfl, by decide +kernel, rfl, by decide +kernel, by decide +kernel⟩
theorem ok_menu (F : Fun K "_law_menu" "_law_menu" sMenu f fd) : FnOk P w K mg base CX0 1 f fd [] spMenu := by
  refine F.ok scMenu (fun vs H Q E h => ?_) (fun cdv A outer s H vs Q E hr h => ?_)
  · obtain ⟨rfl, _⟩ := h
    rfl
  · obtain ⟨rfl, q⟩ := h
    refine ⟨_, pss_cons (ps_set (i := 0) scMenu.nd rfl (.inl rfl) (pe_lst (pa_cons pe_str (pa_cons pe_str (pa_cons pe_str (pa_cons pe_str (pa_cons pe_str (pa_cons pe_str (pa_cons pe_str (pa_cons pe_str (pa_cons pe_str (pa_cons pe_str (pa_cons pe_str (pa_cons pe_str pa_nil))))))))))))))
      (pss_cons (ps_set (i := 0) scMenu.nd rfl (.inl rfl) (pe_op op_cat (pv 0) (pe_lst (pa_cons pe_str (pa_cons pe_str (pa_cons pe_str (pa_cons pe_str (pa_cons pe_str (pa_cons pe_str (pa_cons pe_str (pa_cons pe_str (pa_cons pe_str (pa_cons pe_str (pa_cons pe_str (pa_cons pe_str pa_nil)))))))))))))))
      (pss_one (ps_ret (pe_op op_cat (pv 0) (pe_lst (pa_cons pe_str (pa_cons pe_str pa_nil))))))), ?_⟩
    refine ⟨lz, fun p1 h1 => ?_⟩
    refine ⟨_, rfl, lz, fun p2 h2 => ⟨p1, p2, _, _, rfl, rfl, (same_new h2) _ _ upd_same, upd_same, lz, fun p3 h3 => ?_⟩⟩
    refine ⟨_, rfl, lz, fun p4 h4 => ⟨p3, p4, _, _, rfl, rfl, (same_new h4) _ _ upd_same, upd_same, lz, fun p5 h5 => ?_⟩⟩
    exact q p5 _ (Same.free (((same_new h1).trans (same_new h2)).trans ((same_new h3).trans (same_new h4))) h5) ((((same_new h1).trans (same_new h2)).trans ((same_new h3).trans (same_new h4))).trans (same_new h5)) upd_same

def spWord : Sp := fun vs H Q _ => ∃ (a : Addr), vs = [.ref a] ∧ PurseAt H a ∧ ∀ (z : Str) (H' : Hp), IsWd z → PurseAt H' a → SameX a H H' → Q (.str z) H'
abbrev nWord : List Str := ["_law_purse_here", "_law_way", "_law_wide", "_law_size", "_law_k"]
theorem scWord : FnScope nWord ["_law_purse_here"] (defScope sWord) :=
  ⟨rfl, rfl, rfl, by decide +kernel, rfl, by decide +kernel, by decide +kernel⟩
theorem ok_word (F : Fun K "_law_word" "_law_word" sWord f fd) (B : Bi mg) (hp : Has P w K mg base "_law_pick" 1 ["_law_purse_here", "_law_count"] spPick) (hm : Has P w K mg base "_law_menu" 1 [] spMenu) :
    FnOk P w K mg base CX0 2 f fd ["_law_purse_here"] spWord := by
  refine F.ok scWord (fun vs H Q E h => ?_) (fun cdv A outer s H vs Q E hr h => ?_)
  · obtain ⟨a, rfl, _⟩ := h
    rfl
  · obtain ⟨a, rfl, hA, q⟩ := h
    refine ⟨_, pss_cons (ps_asg (pe_tup (pa_cons (pe_h hp hr (pa_cons (pv 0) (pa_cons pe_int pa_nil))) (pa_cons (pe_ix ix_list (pe_lst (pa_cons pe_int (pa_cons pe_int (pa_cons pe_int pa_nil)))) (pe_h hp hr (pa_cons (pv 0) (pa_cons pe_int pa_nil))) (fun _ _ => rfl)) pa_nil)))
        (pg_tup rfl (pgs_cons (pg_name (i := 1) scWord.nd rfl (.inl rfl)) (pgs_cons (pg_name (i := 2) scWord.nd rfl (.inr rfl)) pgs_nil))))
      (pss_cons (ps_if (pt_cmpR op_eq (pv 1) pe_int (nomark _)) (pss_one (ps_ret (pe_ix ix_list (pe_h0 hm hr) (pe_h hp hr (pa_cons (pv 0) (pa_cons pe_int pa_nil))) (fun _ _ => rfl)))) pss_nil)
      (pss_cons (ps_set (i := 3) scWord.nd rfl (.inl rfl) (pe_ix ix_list (pe_lst (pa_cons pe_int (pa_cons pe_int (pa_cons pe_int (pa_cons pe_int (pa_cons (pe_op op_add pe_int (pe_h hp hr (pa_cons (pv 0) (pa_cons pe_int pa_nil)))) pa_nil)))))) (pe_h hp hr (pa_cons (pv 0) (pa_cons pe_int pa_nil))) (fun _ _ => rfl)))
      (pss_one (ps_ret (pe_join pe_str (pe_lc (own := [("_law_k", 4)]) (g := gName 4) (tt := tYes) rfl scWord.nd (pi_range1 (by rfl) B.range (pa_cons (pv 3) pa_nil)) (blkOk_by (N := nWord) (sc := defScope sWord) (by decide +kernel))
        (fun _ _ _ _ _ => pg_name (i := 4) scWord.nd rfl (.inl rfl)) (fun _ _ _ _ _ => pts_nil) (fun _ _ _ _ _ => pe_ix ix_str pe_str (pe_h hp hr (pa_cons (pv 0) (pa_cons (pv 2) pa_nil))) (fun _ _ => rfl)))))))), ?_⟩
    -- way, wide
    refine ⟨_, rfl, a, 4, rfl, hA, by decide, by decide, fun r1 H1 r10 r11 hA1 s1 n1 => ?_⟩
    refine ⟨lz, fun p hp => ⟨_, rfl, a, 3, rfl, hA1.same (same_new hp), by decide, by decide, fun r2 H2 r20 r21 hA2 s2 n2 => ?_⟩⟩
    have npa := hA1.ne hp
    obtain ⟨wd, hwm, hwd⟩ := atI_tab (ns := [3, 5, 26]) r20 r21
    have hw : 0 < wd ∧ wd ≤ 26 := by
      simp only [List.mem_cons, List.not_mem_nil, or_false] at hwm
      omega
    have s2' : SameX a H H2 := (s1.trans (sx (same_new hp))).trans s2
    refine ⟨p, _, r2, .int wd, rfl, rfl, .inl (.inl (s2 _ _ npa upd_same)), hwd, lz, fun t ht => ?_⟩
    refine ⟨t, _, rfl, .inl (.inl upd_same), rfl, _, _, rfl, _, _, rfl, rfl, ?_⟩
    have hA3 := hA2.same (same_new (o := .tup [.int r1, .int wd]) ht)
    have s3 : SameX a H _ := s2'.trans (sx (same_new (o := .tup [.int r1, .int wd]) ht))
    generalize upd H2 t (.tup [.int r1, .int wd]) = H3 at hA3 s3
    refine ⟨_, rfl, rfl, _, rfl, ite_b (fun e => ?_) (fun e => ?_)⟩
    · -- menu()[..]
      refine ⟨rfl, fun p4 H4 hp4 s4 h4 => ⟨_, rfl, a, 26, rfl, hA3.same s4, by decide, by decide, fun r5 H5 r50 r51 hA5 s5 n5 => ?_⟩⟩
      obtain ⟨z, hz, hzi⟩ := atI_strs (zs := menuW) r50 (by rw [menu_len]; exact r51)
      exact ⟨p4, _, r5, .str z, rfl, rfl, .inl (.inl (s5 _ _ (hA3.ne hp4) h4)), hzi, q z H5 (menu_wd z hz) hA5 ((s3.trans (sx s4)).trans s5)⟩
    · -- size
      refine ⟨_, rfl, a, 8, rfl, hA3, by decide, by decide, fun r4 H4 r40 r41 hA4 s4 n4 => ⟨_, _, rfl, rfl, lz, fun p5 hp5 => ⟨_, rfl, a, 5, rfl, hA4.same (same_new hp5), by decide, by decide, fun r6 H6 r60 r61 hA6 s6 n6 => ?_⟩⟩⟩
      have np5 := hA4.ne hp5
      obtain ⟨sz, hsm, hsz⟩ := atI_tab (ns := [1, 2, 3, 4, 1 + r4]) r60 r61
      have hs8 : 1 ≤ sz ∧ sz ≤ 8 := by
        simp only [List.mem_cons, List.not_mem_nil, or_false] at hsm
        omega
      refine ⟨p5, _, r6, .int sz, rfl, rfl, .inl (.inl (s6 _ _ np5 upd_same)), hsz, ?_⟩
      have s6' : SameX a H H6 := ((s3.trans s4).trans (sx (same_new hp5))).trans s6
      -- join of the signs
      refine ⟨⟨_, rfl⟩, _, rfl, sz, rfl, by omega, by omega, fun D hD => lc_range (lo := 0) (n := sz.toNat)
        (fun i H' => ∃ cs : List Nat, cs.length = i ∧ (∀ c ∈ cs, 97 ≤ c ∧ c ≤ 122) ∧ H' D = some (.lst ((cs.map sign).map V.str)) ∧ PurseAt H' a ∧ SameX a H6 H')
        ⟨[], rfl, fun c hc => by simp at hc, upd_same, hA6.same (same_new hD), sx (same_new hD)⟩ ?_ ?_⟩
      · rintro i H7 hi ⟨cs, hcl, hcs, hDl, hA7, s7⟩
        refine ⟨rfl, yes_it ⟨_, rfl, _, rfl, a, wd, rfl, hA7, hw.1, by omega, fun r8 H8 r80 r81 hA8 s8 n8 => ?_⟩⟩
        have nD := hA6.ne hD
        refine ⟨_, r8, _, rfl, rfl, lz, letter_at r80 (by omega), _, s8 _ _ nD hDl, ?_, ?_⟩
        · rw [List.length_map, List.length_map]
          exact small1000 (by omega)
        · refine ⟨cs ++ [97 + r8.toNat], by simp [hcl], fun c hc => ?_, ?_, ?_, sameX_mut (s7.trans s8) hD⟩
          · rcases List.mem_append.mp hc with hc | hc
            · exact hcs c hc
            · rw [List.mem_singleton.mp hc]
              omega
          · rw [upd_same, List.map_append, List.map_append]
            rfl
          · obtain ⟨x0, x1, x2, hx, hx1⟩ := hA8
            exact ⟨x0, x1, x2, by rw [upd_ne nD.symm]; exact hx, hx1⟩
      · rintro H7 ⟨cs, hcl, hcs, hDl, hA7, s7⟩
        refine ⟨_, D, cs.map sign, rfl, rfl, .inl (.inl (.inl hDl)), ?_, ?_⟩
        · have e0 : ("" : Str).length = 0 := by decide +kernel
          have e1 : (cs.map sign).map (·.length) = cs.map fun _ => 1 := by
            rw [List.map_map]
            rfl
          rw [e0, e1, Nat.mul_zero]
          have e2 : ∀ l : List Nat, (l.map fun _ => 1).sum = l.length := fun l => by
            induction l with
            | nil => rfl
            | cons x r ih => rw [List.map_cons, List.sum_cons, ih, List.length_cons]; omega
          rw [e2]
          omega
        · refine q _ H7 (isWd_of ?_ ?_ ?_) hA7 (s6'.trans s7)
          · rw [join_signs]; omega
          · rw [join_signs]; omega
          · rw [join_signs]; exact hcs
end
end Wl

namespace Wl
open PySem PySem.Spec PyProof.Rows L2

inductive Each {α β : Type} (R : α → β → Prop) : List α → List β → Prop
  | nil : Each R [] []
  | cons {a : α} {b : β} {as : List α} {bs : List β} : R a b → Each R as bs → Each R (a :: as) (b :: bs)
section
variable {α β : Type} {R S : α → β → Prop}
theorem Each.length : ∀ {as : List α} {bs : List β}, Each R as bs → as.length = bs.length
  | _, _, .nil => rfl
  | _, _, .cons _ t => congrArg (· + 1) t.length
theorem Each.mono (h : ∀ a b, R a b → S a b) : ∀ {as : List α} {bs : List β}, Each R as bs → Each S as bs
  | _, _, .nil => .nil
  | _, _, .cons r t => .cons (h _ _ r) (t.mono h)
theorem Each.append : ∀ {as : List α} {bs : List β} {cs : List α} {ds : List β}, Each R as bs → Each R cs ds → Each R (as ++ cs) (bs ++ ds)
  | _, _, _, _, .nil, s => s
  | _, _, _, _, .cons r t, s => .cons r (t.append s)
theorem Each.get : ∀ {as : List α} {bs : List β} {i : Nat} {a : α}, Each R as bs → as[i]? = some a → ∃ b, bs[i]? = some b ∧ R a b
  | _, _, _, _, .nil, e => by simp at e
  | _, _, 0, _, .cons r _, e => by simp at e; subst e; exact ⟨_, rfl, r⟩
  | _, _, i + 1, x, .cons _ t, e => by
    obtain ⟨u, h1, h2⟩ := t.get (i := i) (a := x) (by simpa using e)
    exact ⟨u, by simpa using h1, h2⟩
theorem Each.get2 : ∀ {as : List α} {bs : List β} {i : Nat} {b : β}, Each R as bs → bs[i]? = some b → ∃ a, as[i]? = some a ∧ R a b
  | _, _, _, _, .nil, e => by simp at e
  | _, _, 0, _, .cons r _, e => by simp at e; subst e; exact ⟨_, rfl, r⟩
  | _, _, i + 1, x, .cons _ t, e => by
    obtain ⟨u, h1, h2⟩ := t.get2 (i := i) (b := x) (by simpa using e)
    exact ⟨u, by simpa using h1, h2⟩
theorem Each.mem2 : ∀ {as : List α} {bs : List β} {b : β}, Each R as bs → b ∈ bs → ∃ a ∈ as, R a b
  | _, _, _, .nil, h => by simp at h
  | _, _, _, .cons r t, h => by
    rcases List.mem_cons.mp h with rfl | h
    · exact ⟨_, List.mem_cons_self, r⟩
    · obtain ⟨a, ha, hr⟩ := t.mem2 h
      exact ⟨a, List.mem_cons_of_mem _ ha, hr⟩
theorem each_fn {f : α → β} : ∀ {as : List α} {bs : List β}, Each (fun a b => b = f a) as bs → bs = as.map f
  | _, _, .nil => rfl
  | _, _, .cons r t => by rw [List.map_cons, ← each_fn t, r]
theorem each_map_l {γ : Type} {g : γ → α} : ∀ {cs : List γ} {bs : List β}, Each R (cs.map g) bs → Each (fun c b => R (g c) b) cs bs
  | [], [], _ => .nil
  | [], _ :: _, h => nomatch h
  | _ :: _, [], h => nomatch h
  | _ :: _, _ :: _, .cons r t => .cons r (each_map_l t)
theorem each_map_r {γ : Type} {g : γ → α} : ∀ {cs : List γ} {bs : List β}, Each (fun c b => R (g c) b) cs bs → Each R (cs.map g) bs
  | _, _, .nil => .nil
  | _, _, .cons r t => .cons r (each_map_r t)
end

theorem filter_take_snoc {α : Type} {p : α → Bool} {ys : List α} {i : Nat} {x : α} (h : ys[i]? = some x) : (ys.take (i + 1)).filter p = (ys.take i).filter p ++ (if p x then [x] else []) := by
  rw [List.take_add_one, h, List.filter_append]
  congr 1
  by_cases c : p x = true
  · simp [c]
  · simp [c]

section
variable {J : It} {ys : List V} {G : Hp → Prop} {slot : Nat} {tt : TT} {te : TE} {vs : List Nat} {σ : L2.St} {H1 : Hp} {D : Addr} {Qd : Hp → Prop}
/-- a comprehension [e for x in ys if t]: each e a value that R tells of, the heap only growing -/
theorem lc_rel (w : L2.Walk J ys.length G (YAt ys)) (hD : H1 D = none) (keep : V → Bool) (R : V → V → Hp → Prop)
    (hG : ∀ H, Same H1 H → G H)
    (hw : ∀ x, wipe ((wipe σ vs).set slot (some x)) vs = wipe σ vs)
    (ht : ∀ (x : V) (H : Hp), x ∈ ys → Same H1 H → ∀ Q : Bool → Hp → Prop, Q (keep x) H → tt ((wipe σ vs).set slot (some x)) H Q)
    (he : ∀ (x : V) (H : Hp), x ∈ ys → keep x = true → Same H1 H → ∀ Q : VK, (∀ y H', Same H H' → R x y H' → Q y H') → te ((wipe σ vs).set slot (some x)) H Q)
    (hR : ∀ x y H H' acc, H D = some (.lst acc) → SameX D H H' → R x y H → R x y H')
    (hn : ys.length < sizeLine)
    (hd : ∀ zs H, Same H1 H → H D = some (.lst zs) → Each (fun x z => R x z H) (ys.filter keep) zs → Qd H) :
    ∃ W : Nat → Nat → Hp → Prop, (∃ m, W 0 m (upd H1 D (.lst []))) ∧ ∀ i m H, W i m H →
      (J.stop i H ∧ Qd H) ∨ (J.go i H ∧ ∃ Nx : Hp → Prop, (∀ H', Nx H' → ∃ m', m' < m ∧ W (i + 1) m' H') ∧ ∀ x H', J.yld i H x H' → gName slot x (wipe σ vs) H' fun σ2 H2 => wipe σ2 vs = wipe σ vs ∧ tt σ2 H2 fun b H3 =>
        if b = true then te σ2 H3 fun y H4 => ∃ acc, H4 D = some (.lst acc) ∧ acc.length < sizeLine ∧ Nx (upd H4 D (.lst (acc ++ [y]))) else Nx H3) := by
  refine lc_it w (fun i H => ∃ zs, Same H1 H ∧ H D = some (.lst zs) ∧ Each (fun x z => R x z H) ((ys.take i).filter keep) zs) ⟨[], same_new hD, upd_same, by simpa using Each.nil⟩ (fun i H _ h => ?_) ?_ ?_
  · obtain ⟨zs, s, _⟩ := h
    exact hG H s
  · rintro i x H H' hi ⟨zs, s, hz, ez⟩ ⟨rfl, hx⟩
    have hm : x ∈ ys := List.mem_of_getElem? hx
    refine ⟨hw x, ht x _ hm s _ ?_⟩
    have hf := filter_take_snoc (p := keep) hx
    refine ite_b (fun e => ?_) (fun e => ?_)
    · refine he x _ hm e s _ fun y H4 s4 r4 => ⟨zs, s4 _ _ hz, ?_, zs ++ [y], same_mut (s.trans s4) hD, upd_same, ?_⟩
      · have h1 := ez.length
        have h2 : ((ys.take i).filter keep).length ≤ (ys.take i).length := List.length_filter_le _ _
        have h3 : (ys.take i).length ≤ ys.length := List.length_take_le' _ _
        omega
      · rw [hf, if_pos e]
        have hD4 : H4 D = some (.lst zs) := s4 _ _ hz
        refine Each.append (ez.mono fun a b r => ?_) (.cons ?_ .nil)
        · exact hR _ _ _ _ _ hz (fun b o n h => by rw [upd_ne n]; exact s4 _ _ h) r
        · exact hR _ _ _ _ _ hD4 sameX_upd r4
    · refine ⟨zs, s, hz, ?_⟩
      rw [hf, if_neg (by rw [e]; decide), List.append_nil]
      exact ez
  · rintro H ⟨zs, s, hz, ez⟩
    rw [List.take_length] at ez
    exact hd zs H s hz ez
/-- the same, each e a plain value, the heap as it was -/
theorem lc_map (w : L2.Walk J ys.length G (YAt ys)) (hD : H1 D = none) (keep : V → Bool) (f : V → V)
    (hG : ∀ H, Same H1 H → G H)
    (hw : ∀ x, wipe ((wipe σ vs).set slot (some x)) vs = wipe σ vs)
    (ht : ∀ (x : V) (H : Hp), x ∈ ys → Same H1 H → ∀ Q : Bool → Hp → Prop, Q (keep x) H → tt ((wipe σ vs).set slot (some x)) H Q)
    (he : ∀ (x : V) (H : Hp), x ∈ ys → keep x = true → Same H1 H → ∀ Q : VK, Q (f x) H → te ((wipe σ vs).set slot (some x)) H Q)
    (hn : ys.length < sizeLine)
    (hd : ∀ H, Same H1 H → H D = some (.lst ((ys.filter keep).map f)) → Qd H) :
    ∃ W : Nat → Nat → Hp → Prop, (∃ m, W 0 m (upd H1 D (.lst []))) ∧ ∀ i m H, W i m H →
      (J.stop i H ∧ Qd H) ∨ (J.go i H ∧ ∃ Nx : Hp → Prop, (∀ H', Nx H' → ∃ m', m' < m ∧ W (i + 1) m' H') ∧ ∀ x H', J.yld i H x H' → gName slot x (wipe σ vs) H' fun σ2 H2 => wipe σ2 vs = wipe σ vs ∧ tt σ2 H2 fun b H3 =>
        if b = true then te σ2 H3 fun y H4 => ∃ acc, H4 D = some (.lst acc) ∧ acc.length < sizeLine ∧ Nx (upd H4 D (.lst (acc ++ [y]))) else Nx H3) :=
  lc_rel w hD keep (fun x y _ => y = f x) hG hw ht (fun x H hx hk s Q q => he x H hx hk s Q (q _ H (Same.refl H) rfl)) (fun _ _ _ _ _ _ _ r => r) hn fun zs H s hz ez => hd H s (by rw [hz, each_fn ez])
end
/-- a text's signs as a list -/
def signsOf (z : Str) : List V := z.cps.toList.map fun c => .str (sign c)
theorem walk_signs {z : Str} : L2.Walk (Its z) (signsOf z).length (fun _ => True) (YAt (signsOf z)) := by
  have e : (signsOf z).length = z.cps.size := by simp [signsOf]
  rw [e]
  refine ⟨fun _ _ hi _ => hi, fun _ _ => Nat.le_refl _, ?_⟩
  rintro i H x H' _ _ ⟨rfl, c, hc, rfl⟩
  refine ⟨rfl, ?_⟩
  have : z.cps.toList[i]? = some c := by simpa using hc
  simp only [signsOf, List.getElem?_map, this]
  rfl
theorem yes_pure {σ : L2.St} {H : Hp} {Q : Bool → Hp → Prop} (h : Q true H) : tYes σ H Q := h
theorem inV_strs (z : Str) (ws : List Str) : inV (.str z) (ws.map V.str) = decide (z ∈ ws) := by
  unfold inV
  induction ws with
  | nil => rfl
  | cons x r ih =>
    rw [List.map_cons, List.any_cons, ih]
    by_cases h : x = z
    · subst h
      simp [eqV]
    · have h2 : ¬ z = x := fun e => h e.symm
      simp [eqV, h, h2]
theorem flat_strs (ws : List Str) : (ws.map V.str).all flatV = true := by
  rw [List.all_eq_true]
  intro v hv
  obtain ⟨x, _, rfl⟩ := List.mem_map.mp hv
  rfl
theorem dp_strs {K : PySem.W.Frag} {H : Hp} : ∀ ws : List Str, DpAll K H (ws.map V.str) (ws.map PyData.str)
  | [] => .nil
  | z :: r => .cons (.str z) (dp_strs r)
theorem wd_ok {z : Str} (h : IsWd z) : PyData.strOk z = true := by
  unfold PyData.strOk
  rw [← Array.all_toList, List.all_eq_true]
  intro c hc
  unfold IsWd wdB at h
  simp only [Bool.and_eq_true, decide_eq_true_eq, List.all_eq_true] at h
  have := h.2 c hc
  exact decide_eq_true (by omega)
theorem lay_strs : ∀ {ws : List Str}, (∀ z ∈ ws, IsWd z) → PyData.canLayAll0 (ws.map PyData.str) = true
  | [], _ => by simp [PyData.canLayAll0]
  | z :: r, h => by
    have h1 := wd_ok (h z List.mem_cons_self)
    have h2 := lay_strs (ws := r) fun y hy => h y (List.mem_cons_of_mem _ hy)
    simp [PyData.canLayAll0, PyData.canLay0, h1, h2]
theorem depth_strs : ∀ ws : List Str, PyData.depthAll (ws.map PyData.str) = 0
  | [] => by simp [PyData.depthAll]
  | z :: r => by simp [PyData.depthAll, PyData.depth, depth_strs r]
theorem shaped_list {ds : List PyData} (h : PyData.canLayAll0 ds = true) (d : PyData.depthAll ds ≤ 60) : SeqAt.shaped (.list ds) = true := by
  unfold SeqAt.shaped
  rw [Bool.and_eq_true]
  refine ⟨by simpa [PyData.canLay0] using h, decide_eq_true ?_⟩
  simp only [PyData.depth]
  omega
theorem shaped_tuple {ds : List PyData} (h : PyData.canLayAll0 ds = true) (d : PyData.depthAll ds ≤ 60) : SeqAt.shaped (.tuple ds) = true := by
  unfold SeqAt.shaped
  rw [Bool.and_eq_true]
  refine ⟨by simpa [PyData.canLay0] using h, decide_eq_true ?_⟩
  simp only [PyData.depth]
  omega
theorem cut_hi (z : Str) (k : Nat) : (cutS z none (some (k : Int))).cps.toList = z.cps.toList.take k := by
  show ((z.cps.toList.drop (HT.sIx z.length 0 none)).take (HT.sIx z.length z.length (some (k : Int)) - HT.sIx z.length 0 none)) = _
  rw [HT.sIx_none, HT.sIx_nat, Nat.sub_zero, List.drop_zero]
  have : z.length = z.cps.toList.length := by simp [Str.length]
  rw [this]
  by_cases h : k ≤ z.cps.toList.length
  · rw [Nat.min_eq_left h]
  · rw [Nat.min_eq_right (by omega), List.take_length, List.take_of_length_le (by omega)]
end Wl

namespace Wl
open PySem PySem.Spec PyProof.Rows L2
abbrev sFresh : Stmt := topS 46
abbrev sLand : Stmt := topS 47
abbrev sNames : Stmt := topS 48

/-! ### a word that is not in use -/
def spareS (A B : Str) : List Str := ((List.range' 97 26).map fun c => A ++ sign c) ++ (List.range' 97 13).map fun c => B ++ sign c ++ ("z" : Str)
theorem codes_add (x y : Str) : (x ++ y).cps.toList = x.cps.toList ++ y.cps.toList := TL.tl_append x y
theorem spare_free (A B : Str) (ws : List Str) (h : ws.length ≤ 35) : ∃ z ∈ spareS A B, z ∉ ws := by
  refine Classical.byContradiction fun no => ?_
  have all : ∀ z ∈ spareS A B, z ∈ ws := fun z hz => Classical.byContradiction fun k => no ⟨z, hz, k⟩
  have nd : (((List.range' 97 25).map fun c => A ++ sign c) ++ (List.range' 97 13).map fun c => B ++ sign c ++ ("z" : Str)).Nodup := by
    have zc : ("z" : Str).cps.toList = [122] := by decide +kernel
    have c1 : ∀ c, (A ++ sign c).cps.toList = A.cps.toList ++ [c] := fun c => codes_add A (sign c)
    have c2 : ∀ c, (B ++ sign c ++ ("z" : Str)).cps.toList = B.cps.toList ++ [c] ++ [122] := fun c => by
      rw [codes_add, codes_add, zc]
      rfl
    rw [List.nodup_append]
    refine ⟨?_, ?_, ?_⟩
    · refine List.pairwise_map.mpr ((List.nodup_range' (s := 97) (n := 25) (step := 1)).imp fun {a b} ne e => ne ?_)
      have := congrArg (fun z : Str => z.cps.toList) e
      simp only [c1] at this
      simpa using this
    · refine List.pairwise_map.mpr ((List.nodup_range' (s := 97) (n := 13) (step := 1)).imp fun {a b} ne e => ne ?_)
      have := congrArg (fun z : Str => z.cps.toList) e
      simp only [c2] at this
      simpa using this
    · intro x hx y hy e
      obtain ⟨c, hc, rfl⟩ := List.mem_map.mp hx
      obtain ⟨d, hd, rfl⟩ := List.mem_map.mp hy
      have := congrArg (fun z : Str => z.cps.toList.getLast?) e
      simp only [c1, c2, List.getLast?_append, List.getLast?_singleton, Option.some_or, Option.some.injEq] at this
      rw [List.mem_range'_1] at hc
      omega
  have sub : (((List.range' 97 25).map fun c => A ++ sign c) ++ (List.range' 97 13).map fun c => B ++ sign c ++ ("z" : Str)) ⊆ ws := by
    intro z hz
    refine all z ?_
    rcases List.mem_append.mp hz with hz | hz
    · obtain ⟨c, hc, rfl⟩ := List.mem_map.mp hz
      refine List.mem_append.mpr (.inl (List.mem_map.mpr ⟨c, ?_, rfl⟩))
      rw [List.mem_range'_1] at hc ⊢
      omega
    · exact List.mem_append.mpr (.inr hz)
  have := nd.length_le_of_subset sub
  simp at this
  omega
theorem spare_wd {z : Str} (h : IsWd z) : ∀ y ∈ spareS (cutS z none (some 7)) (cutS z none (some 6)), IsWd y := by
  have hl := h.len
  have hz : z.length = z.cps.toList.length := by simp [Str.length]
  have hc : ∀ c ∈ z.cps.toList, 97 ≤ c ∧ c ≤ 122 := by
    unfold IsWd wdB at h
    simp only [Bool.and_eq_true, decide_eq_true_eq, List.all_eq_true] at h
    exact h.2
  have zc : ("z" : Str).cps.toList = [122] := by decide +kernel
  intro y hy
  rcases List.mem_append.mp hy with hy | hy
  · obtain ⟨c, hcm, rfl⟩ := List.mem_map.mp hy
    rw [List.mem_range'_1] at hcm
    have e : (cutS z none (some 7) ++ sign c).cps.toList = z.cps.toList.take 7 ++ [c] := by
      rw [codes_add, show ((7 : Int)) = ((7 : Nat) : Int) from rfl, cut_hi]
      rfl
    refine isWd_of ?_ ?_ ?_
    · rw [e]; simp
    · rw [e]; simp; omega
    · rw [e]
      intro d hd
      rcases List.mem_append.mp hd with hd | hd
      · exact hc d (List.mem_of_mem_take hd)
      · rw [List.mem_singleton.mp hd]; omega
  · obtain ⟨c, hcm, rfl⟩ := List.mem_map.mp hy
    rw [List.mem_range'_1] at hcm
    have e : (cutS z none (some 6) ++ sign c ++ ("z" : Str)).cps.toList = z.cps.toList.take 6 ++ [c] ++ [122] := by
      rw [codes_add, codes_add, show ((6 : Int)) = ((6 : Nat) : Int) from rfl, cut_hi, zc]
      rfl
    refine isWd_of ?_ ?_ ?_
    · rw [e]; simp
    · rw [e]; simp; omega
    · rw [e]
      intro d hd
      rcases List.mem_append.mp hd with hd | hd
      · rcases List.mem_append.mp hd with hd | hd
        · exact hc d (List.mem_of_mem_take hd)
        · rw [List.mem_singleton.mp hd]; omega
      · rw [List.mem_singleton.mp hd]; omega

section
variable {P : Program} {w : World} {K : PySem.W.Frag} {mg : Str → Option Value} {base : Heap} {f : Addr} {fd : FuncData}
def spFresh : Sp := fun vs H Q _ => ∃ (a u : Addr) (ws : List Str), vs = [.ref a, .ref u] ∧ PurseAt H a ∧ H u = some (.lst (ws.map V.str)) ∧ u ≠ a ∧ ws.length ≤ 35 ∧
  ∀ (z : Str) (H' : Hp), IsWd z → z ∉ ws → PurseAt H' a → SameX a H H' → Q (.str z) H'
abbrev nFresh : List Str := ["_law_purse_here", "_law_used", "_law_sound", "_law_spare", "_law_sign", "_law_lone"]
theorem scFresh : FnScope nFresh ["_law_purse_here", "_law_used"] (defScope sFresh) :=
  ⟨rfl, rfl, rfl, by decide +kernel, rfl, by decide +kernel, by decide +kernel⟩
def addS (A : Str) (B : Str) : V → V
  | .str s => .str (A ++ s ++ B)
  | v => v
theorem wd_line {z : Str} (h : IsWd z) : z.length ≤ sizeLine := lzl (by have := h.len; omega)
theorem ok_fresh (F : Fun K "_law_fresh" "_law_fresh" sFresh f fd) (B : Bi mg) (hW : Has P w K mg base "_law_word" 2 ["_law_purse_here"] spWord) :
    FnOk P w K mg base CX0 3 f fd ["_law_purse_here", "_law_used"] spFresh := by
  refine F.ok scFresh (fun vs H Q E h => ?_) (fun cdv A outer s H vs Q E hr h => ?_)
  · obtain ⟨a, u, ws, rfl, _⟩ := h
    rfl
  · obtain ⟨a, u, ws, rfl, hA, hu, nua, hl, q⟩ := h
    refine ⟨_, pss_cons (ps_set (i := 2) scFresh.nd rfl (.inr rfl) (pe_h hW hr (pa_cons (pv 0) pa_nil)))
      (pss_cons (ps_if (pt_cmpR op_notIn_seq (pv 2) (pv 1) (by rfl)) (pss_one (ps_ret (pv 2))) pss_nil)
      (pss_cons (ps_setLc (i := 3) (own := [("_law_sign", 4)]) (g := gName 4) (tt := tYes) rfl scFresh.nd rfl rfl (sw_true rfl rfl rfl (by decide +kernel)) (pi_str pe_str) (blkOk_by (N := nFresh) (sc := defScope sFresh) (by decide +kernel))
        (fun _ _ _ _ _ => pg_name (i := 4) scFresh.nd rfl (.inl rfl)) (fun _ _ _ _ _ => pts_nil) (fun _ _ _ _ _ => pe_op op_add_str (pe_slice sl_str (pv 2) po_none (po_some pe_int)) (pv 4)))
      (pss_cons (ps_set (i := 3) scFresh.nd rfl (.inl rfl) (pe_op op_cat (pv 3) (pe_lc (own := [("_law_sign", 4)]) (g := gName 4) (tt := tYes) rfl scFresh.nd (pi_str pe_str) (blkOk_by (N := nFresh) (sc := defScope sFresh) (by decide +kernel))
        (fun _ _ _ _ _ => pg_name (i := 4) scFresh.nd rfl (.inl rfl)) (fun _ _ _ _ _ => pts_nil) (fun _ _ _ _ _ => pe_op op_add_str (pe_op op_add_str (pe_slice sl_str (pv 2) po_none (po_some pe_int)) (pv 4)) pe_str))))
      (pss_one (ps_ret (pe_ix ix_list (pe_lc (own := [("_law_lone", 5)]) (g := gName 5) (tt := tTest (tOp (rIn K true) (tVar 5) (tVar 1))) rfl scFresh.nd (pi_list (pv 3)) (blkOk_by (N := nFresh) (sc := defScope sFresh) (by decide +kernel))
        (fun _ _ _ _ _ => pg_name (i := 5) scFresh.nd rfl (.inl rfl)) (fun _ _ _ _ _ => pts_one (pt_cmpR op_notIn_seq (pv 5) (pv 1) (by rfl))) (fun _ _ _ _ _ => pv 5)) pe_int (fun _ _ => rfl))))))), ?_⟩
    refine ⟨_, rfl, a, rfl, hA, fun z H1 hz hA1 s1 => ?_⟩
    have hu1 : H1 u = some (.lst (ws.map V.str)) := s1 _ _ nua hu
    refine ⟨_, rfl, _, rfl, u, ws.map V.str, rfl, .inl (.inl (.inl hu1)), rfl, flat_strs ws, _, rfl, ite_b (fun e => ?_) (fun e => ?_)⟩
    · rw [if_pos rfl, inV_strs, Bool.not_eq_true', decide_eq_false_iff_not] at e
      exact ⟨_, rfl, q z H1 hz e hA1 s1⟩
    · refine ⟨_, rfl, fun D hD => lc_map walk_signs hD (fun _ => true) (addS (cutS z none (some 7)) ⟨#[]⟩) (fun _ _ => trivial) (fun _ => rfl) (fun x H' _ _ Q' q' => q') ?_ lz ?_⟩
      · intro x H' hx _ _ Q' q'
        obtain ⟨c, hc, rfl⟩ := List.mem_map.mp hx
        refine ⟨_, rfl, 7, rfl, z, rfl, wd_line hz, _, rfl, _, _, rfl, rfl, ?_, ?_⟩
        · have := cutS_length z none (some 7)
          have := hz.len
          exact lzl (by show (cutS z none (some 7)).length + 1 ≤ 1000; omega)
        · have e0 : addS (cutS z none (some 7)) ⟨#[]⟩ (.str (sign c)) = .str (cutS z none (some 7) ++ sign c) := by
            refine congrArg V.str (str_ext ?_)
            rw [codes_add]
            simp
          rw [e0] at q'
          exact q'
      · intro H2 s2 hD2
        have hu2 := s2 _ _ hu1
        have hA2 := hA1.same s2
        refine ⟨_, rfl, _, rfl, fun D3 hD3 => lc_map walk_signs hD3 (fun _ => true) (addS (cutS z none (some 6)) "z") (fun _ _ => trivial) (fun _ => rfl) (fun x H' _ _ Q' q' => q') ?_ lz ?_⟩
        · intro x H' hx _ _ Q' q'
          obtain ⟨c, hc, rfl⟩ := List.mem_map.mp hx
          have h6 := cutS_length z none (some 6)
          have hl8 := hz.len
          have hz1 : ("z" : Str).length = 1 := by decide +kernel
          have hadd : (cutS z none (some 6) ++ sign c).length = (cutS z none (some 6)).length + 1 := by
            rw [TL.len_tl, TL.tl_append, List.length_append, ← TL.len_tl]
            rfl
          refine ⟨_, rfl, 6, rfl, z, rfl, wd_line hz, _, rfl, _, _, rfl, rfl, ?_, _, _, rfl, rfl, ?_, q'⟩
          · exact lzl (by show (cutS z none (some 6)).length + 1 ≤ 1000; omega)
          · exact lzl (by rw [hz1]; show (cutS z none (some 6) ++ sign c).length + 1 ≤ 1000; omega)
        · intro H4 s4 hD4
          have e26 : (signsOf ("abcdefghijklmnopqrstuvwxyz" : Str)).filter (fun _ => true) = signsOf ("abcdefghijklmnopqrstuvwxyz" : Str) := List.filter_eq_self.mpr fun _ _ => rfl
          have e13 : (signsOf ("abcdefghijklm" : Str)).filter (fun _ => true) = signsOf ("abcdefghijklm" : Str) := List.filter_eq_self.mpr fun _ _ => rfl
          have c13 : ("abcdefghijklm" : Str).cps.toList = List.range' 97 13 := by decide +kernel
          have eall : ((signsOf ("abcdefghijklmnopqrstuvwxyz" : Str)).filter (fun _ => true)).map (addS (cutS z none (some 7)) ⟨#[]⟩) ++ ((signsOf ("abcdefghijklm" : Str)).filter (fun _ => true)).map (addS (cutS z none (some 6)) "z")
              = (spareS (cutS z none (some 7)) (cutS z none (some 6))).map V.str := by
            rw [e26, e13]
            unfold signsOf spareS
            rw [letters_eq, c13, List.map_append, List.map_map, List.map_map, List.map_map, List.map_map]
            congr 1
          refine ⟨D, D3, _, _, rfl, rfl, s4 _ _ hD2, hD4, lz, fun p5 hp5 => ?_⟩
          rw [eall]
          have s5 : Same H1 (upd H4 p5 (.lst ((spareS (cutS z none (some 7)) (cutS z none (some 6))).map V.str))) := (s2.trans s4).trans (same_new hp5)
          refine ⟨_, rfl, p5, rfl, ⟨_, .inl (.inl upd_same)⟩, fun D6 hD6 => lc_map (walk_list (K := K) (a := p5) (xs := (spareS (cutS z none (some 7)) (cutS z none (some 6))).map V.str)) hD6 (fun v => !inV v (ws.map V.str)) id (fun H' s' => .inl (.inl (s' _ _ upd_same))) (fun _ => rfl) ?_ ?_ lz ?_⟩
          · intro x H' hx s' Q' q'
            obtain ⟨y, hy, rfl⟩ := List.mem_map.mp hx
            exact ⟨_, rfl, _, rfl, u, _, rfl, .inl (.inl (.inl (s' _ _ (s5 _ _ hu1)))), rfl, flat_strs ws, _, rfl, q'⟩
          · intro x H' hx _ _ Q' q'
            exact ⟨_, rfl, q'⟩
          · intro H7 s7 hD7
            obtain ⟨y0, hy0, hn0⟩ := spare_free (cutS z none (some 7)) (cutS z none (some 6)) ws hl
            have hf : ((spareS (cutS z none (some 7)) (cutS z none (some 6))).map V.str).filter (fun v => !inV v (ws.map V.str)) = ((spareS (cutS z none (some 7)) (cutS z none (some 6))).filter fun y => decide (y ∉ ws)).map V.str := by
              rw [List.filter_map]
              congr 1
              refine List.filter_congr fun y _ => ?_
              simp only [Function.comp, inV_strs]
              by_cases c : y ∈ ws <;> simp [c]
            rw [List.map_id, hf] at hD7
            have hm0 : y0 ∈ (spareS (cutS z none (some 7)) (cutS z none (some 6))).filter fun y => decide (y ∉ ws) := List.mem_filter.mpr ⟨hy0, decide_eq_true hn0⟩
            cases hcl : (spareS (cutS z none (some 7)) (cutS z none (some 6))).filter fun y => decide (y ∉ ws) with
            | nil =>
              rw [hcl] at hm0
              cases hm0
            | cons y r =>
              have hym : y ∈ (spareS (cutS z none (some 7)) (cutS z none (some 6))).filter fun y => decide (y ∉ ws) := by
                rw [hcl]
                exact List.mem_cons_self
              obtain ⟨hy1, hy2⟩ := List.mem_filter.mp hym
              refine ⟨D6, _, 0, .str y, rfl, rfl, .inl (.inl hD7), atI_nat (j := 0) (by rw [hcl]; rfl), ?_⟩
              exact q y H7 (spare_wd hz y hy1) (of_decide_eq_true hy2) (hA1.same (s5.trans s7)) (s1.trans (sx (s5.trans s7)))
end
end Wl

namespace Wl
open PySem PySem.Spec PyProof.Rows L2
abbrev Row := List (Option Str)
abbrev Grid := List Row
def rnames (r : Row) : List Str := r.filterMap id
def names (g : Grid) : List Str := g.flatten.filterMap id
theorem names_nil : names [] = [] := rfl
theorem names_snoc (g : Grid) (r : Row) : names (g ++ [r]) = names g ++ rnames r := by
  unfold names rnames
  rw [List.flatten_append, List.filterMap_append]
  simp
theorem names_cons (r : Row) (g : Grid) : names (r :: g) = rnames r ++ names g := by
  unfold names rnames
  rw [List.flatten_cons, List.filterMap_append]
theorem rnames_snoc (r : Row) (o : Option Str) : rnames (r ++ [o]) = rnames r ++ o.toList := by
  unfold rnames
  rw [List.filterMap_append]
  cases o <;> rfl
structure Good (g : Grid) (wd : Nat) : Prop where
  h1 : 1 ≤ g.length
  h6 : g.length ≤ 6
  w1 : 1 ≤ wd
  w6 : wd ≤ 6
  rows : ∀ r ∈ g, r.length = wd
  nd : (names g).Nodup
  wd : ∀ z ∈ names g, IsWd z
  ne : names g ≠ []
/-- the heap keeps its tuples -/
def TupKeep (H H' : Hp) : Prop := ∀ p xs, H p = some (.tup xs) → H' p = some (.tup xs)
theorem TupKeep.refl (H : Hp) : TupKeep H H := fun _ _ h => h
theorem TupKeep.trans {H H1 H2 : Hp} (a : TupKeep H H1) (b : TupKeep H1 H2) : TupKeep H H2 := fun p xs h => b p xs (a p xs h)
theorem tk_same {H H' : Hp} (s : Same H H') : TupKeep H H' := fun p xs h => s p _ h
theorem tk_x {a : Addr} {H H' : Hp} {ys : List V} (s : SameX a H H') (ha : H a = some (.lst ys)) : TupKeep H H' := fun p xs h => s p _ (ne_of h ha (by intro z; cases z)) h
theorem tk_upd {a : Addr} {H : Hp} {ys : List V} {o : HO} (ha : H a = some (.lst ys)) : TupKeep H (upd H a o) := tk_x sameX_upd ha
theorem tk_new {p : Addr} {H : Hp} {o : HO} (hp : H p = none) : TupKeep H (upd H p o) := tk_same (same_new hp)
/-- rows of a grid as tuples -/
def RowsAt (H : Hp) (as : List Addr) (g : Grid) : Prop := Each (fun (p : Addr) (row : Row) => H p = some (.tup (row.map oV))) as g
theorem RowsAt.keep {H H' : Hp} {as : List Addr} {g : Grid} (h : RowsAt H as g) (k : TupKeep H H') : RowsAt H' as g := Each.mono (fun p row e => k p _ e) h
def GridAt (H : Hp) (L : Addr) (g : Grid) : Prop := ∃ as : List Addr, H L = some (.tup (as.map V.ref)) ∧ RowsAt H as g
theorem GridAt.keep {H H' : Hp} {L : Addr} {g : Grid} (h : GridAt H L g) (k : TupKeep H H') : GridAt H' L g := by
  obtain ⟨as, h1, h2⟩ := h
  exact ⟨as, k _ _ h1, h2.keep k⟩
/-- the part at a row and a column, none where there is none -/
def cellAt (g : Grid) (r c : Nat) : Option Str := match g[r]? with
  | some row => (row[c]?).getD none
  | none => none
theorem cellAt_some {g : Grid} {r c : Nat} {z : Str} (h : cellAt g r c = some z) : ∃ row, g[r]? = some row ∧ row[c]? = some (some z) := by
  unfold cellAt at h
  cases e : g[r]? with
  | none => rw [e] at h; cases h
  | some row =>
    rw [e] at h
    refine ⟨row, rfl, ?_⟩
    cases e2 : row[c]? with
    | none => simp only [e2] at h; cases h
    | some o => simp only [e2, Option.getD_some] at h; rw [h]
theorem cellAt_of {g : Grid} {r c : Nat} {row : Row} {o : Option Str} (h : g[r]? = some row) (k : row[c]? = some o) : cellAt g r c = o := by
  unfold cellAt
  rw [h]
  simp [k]
/-! ### the spots -/
def spR (i j : Nat) : Row → List (Str × Nat × Nat)
  | [] => []
  | none :: r => spR i (j + 1) r
  | some z :: r => (z, i, j) :: spR i (j + 1) r
def spG (i : Nat) : Grid → List (Str × Nat × Nat)
  | [] => []
  | row :: g => spR i 0 row ++ spG (i + 1) g
theorem spR_snoc (i : Nat) : ∀ (r : Row) (j : Nat) (o : Option Str), spR i j (r ++ [o]) = spR i j r ++ (o.toList.map fun z => (z, i, j + r.length))
  | [], j, none => rfl
  | [], j, some z => rfl
  | none :: r, j, o => by
    show spR i (j + 1) (r ++ [o]) = spR i (j + 1) r ++ _
    rw [spR_snoc i r (j + 1) o, List.length_cons]
    congr 2
    funext z
    rw [Nat.add_right_comm, Nat.add_assoc]
  | some y :: r, j, o => by
    show (y, i, j) :: spR i (j + 1) (r ++ [o]) = (y, i, j) :: spR i (j + 1) r ++ _
    rw [spR_snoc i r (j + 1) o, List.length_cons, List.cons_append]
    congr 3
    funext z
    rw [Nat.add_right_comm, Nat.add_assoc]
theorem spG_snoc : ∀ (g : Grid) (i : Nat) (r : Row), spG i (g ++ [r]) = spG i g ++ spR (i + g.length) 0 r
  | [], i, r => by simp [spG]
  | x :: g, i, r => by
    show spR i 0 x ++ spG (i + 1) (g ++ [r]) = spR i 0 x ++ spG (i + 1) g ++ _
    rw [spG_snoc g (i + 1) r, List.length_cons, List.append_assoc]
    congr 3
    omega
theorem spR_fst (i : Nat) : ∀ (r : Row) (j : Nat), (spR i j r).map (·.1) = rnames r
  | [], _ => rfl
  | none :: r, j => spR_fst i r (j + 1)
  | some z :: r, j => congrArg (z :: ·) (spR_fst i r (j + 1))
theorem spG_fst : ∀ (g : Grid) (i : Nat), (spG i g).map (·.1) = names g
  | [], _ => rfl
  | r :: g, i => by
    show (spR i 0 r ++ spG (i + 1) g).map (·.1) = _
    rw [List.map_append, spR_fst, spG_fst g (i + 1), names_cons]
theorem spR_mem (i : Nat) {z : Str} {a b : Nat} : ∀ (r : Row) (j : Nat), (z, a, b) ∈ spR i j r ↔ a = i ∧ ∃ k, b = j + k ∧ r[k]? = some (some z)
  | [], j => by simp [spR]
  | none :: r, j => by
    show (z, a, b) ∈ spR i (j + 1) r ↔ _
    rw [spR_mem i r (j + 1)]
    constructor
    · rintro ⟨h, k, e, q⟩
      exact ⟨h, k + 1, by omega, by simpa using q⟩
    · rintro ⟨h, k, e, q⟩
      cases k with
      | zero => simp at q
      | succ k => exact ⟨h, k, by omega, by simpa using q⟩
  | some y :: r, j => by
    show (z, a, b) ∈ (y, i, j) :: spR i (j + 1) r ↔ _
    rw [List.mem_cons, spR_mem i r (j + 1)]
    constructor
    · rintro (h | ⟨h, k, e, q⟩)
      · cases h
        exact ⟨rfl, 0, rfl, rfl⟩
      · exact ⟨h, k + 1, by omega, by simpa using q⟩
    · rintro ⟨h, k, e, q⟩
      cases k with
      | zero =>
        simp at q
        subst q h
        exact .inl (by rw [e, Nat.add_zero])
      | succ k => exact .inr ⟨h, k, by omega, by simpa using q⟩
theorem spG_mem {z : Str} {a b : Nat} : ∀ (g : Grid) (i : Nat), (z, a, b) ∈ spG i g ↔ ∃ k row, a = i + k ∧ g[k]? = some row ∧ row[b]? = some (some z)
  | [], i => by simp [spG]
  | r :: g, i => by
    show (z, a, b) ∈ spR i 0 r ++ spG (i + 1) g ↔ _
    rw [List.mem_append, spR_mem, spG_mem g (i + 1)]
    constructor
    · rintro (⟨h, k, e, q⟩ | ⟨k, row, e, q, t⟩)
      · exact ⟨0, r, by omega, rfl, by rw [e, Nat.zero_add]; exact q⟩
      · exact ⟨k + 1, row, by omega, by simpa using q, t⟩
    · rintro ⟨k, row, e, q, t⟩
      cases k with
      | zero =>
        simp at q
        subst q
        exact .inl ⟨by omega, b, by omega, t⟩
      | succ k => exact .inr ⟨k, row, by omega, by simpa using q, t⟩
theorem spG_cell {g : Grid} {z : Str} {r c : Nat} : (z, r, c) ∈ spG 0 g ↔ cellAt g r c = some z := by
  rw [spG_mem]
  constructor
  · rintro ⟨k, row, e, q, t⟩
    have : r = k := by omega
    subst this
    exact cellAt_of q t
  · intro h
    obtain ⟨row, q, t⟩ := cellAt_some h
    exact ⟨r, row, by omega, q, t⟩
theorem mem_names {g : Grid} {z : Str} : z ∈ names g ↔ ∃ r c, cellAt g r c = some z := by
  rw [← spG_fst g 0]
  constructor
  · intro h
    obtain ⟨⟨y, r, c⟩, hm, rfl⟩ := List.mem_map.mp h
    exact ⟨r, c, spG_cell.mp hm⟩
  · rintro ⟨r, c, h⟩
    exact List.mem_map.mpr ⟨_, spG_cell.mpr h, rfl⟩
theorem nodup_fst {α β : Type} : ∀ {l : List (α × β)}, (l.map (·.1)).Nodup → ∀ {a : α} {b b' : β}, (a, b) ∈ l → (a, b') ∈ l → b = b'
  | [], _, _, _, _, h, _ => by cases h
  | x :: l, nd, a, b, b', h, k => by
    obtain ⟨h1, h2⟩ := List.nodup_cons.mp nd
    rcases List.mem_cons.mp h with e | h <;> rcases List.mem_cons.mp k with e' | k
    · rw [← e] at e'
      exact (Prod.mk.inj e').2.symm
    · exact absurd (List.mem_map.mpr ⟨_, k, by rw [← e]⟩) h1
    · exact absurd (List.mem_map.mpr ⟨_, h, by rw [← e']⟩) h1
    · exact nodup_fst h2 h k
theorem cell_inj {g : Grid} (nd : (names g).Nodup) {z : Str} {r c r' c' : Nat} (h : cellAt g r c = some z) (k : cellAt g r' c' = some z) : r = r' ∧ c = c' := by
  have := nodup_fst (l := spG 0 g) (by rw [spG_fst]; exact nd) (spG_cell.mpr h) (spG_cell.mpr k)
  exact Prod.mk.inj this
theorem Good.cell {g : Grid} {wd : Nat} (G : Good g wd) {r c : Nat} {z : Str} (h : cellAt g r c = some z) : r < g.length ∧ c < wd := by
  obtain ⟨row, h1, h2⟩ := cellAt_some h
  obtain ⟨a, e⟩ := List.getElem?_eq_some_iff.mp h1
  obtain ⟨b, _⟩ := List.getElem?_eq_some_iff.mp h2
  have := G.rows row (List.mem_of_getElem? h1)
  exact ⟨a, by omega⟩
theorem Good.len {g : Grid} {wd : Nat} (G : Good g wd) : (names g).length ≤ 36 := by
  have h : ∀ l : Grid, (∀ r ∈ l, r.length = wd) → (names l).length ≤ l.length * wd := by
    intro l
    induction l with
    | nil => intro _; simp [names]
    | cons r l ih =>
      intro h
      rw [names_cons, List.length_append, List.length_cons]
      have h1 : (rnames r).length ≤ wd := by
        have := List.length_filterMap_le id r
        have := h r List.mem_cons_self
        unfold rnames
        omega
      have h2 := ih fun r hr => h r (List.mem_cons_of_mem _ hr)
      rw [Nat.succ_mul]
      omega
  have h1 := h g G.rows
  have h2 : g.length * wd ≤ 6 * 6 := Nat.mul_le_mul G.h6 G.w6
  omega
end Wl

namespace Wl
open PySem PySem.Spec PyProof.Rows L2
section
variable {P : Program} {w : World} {K : PySem.W.Frag} {mg : Str → Option Value} {base : Heap} {f : Addr} {fd : FuncData}
def spLand : Sp := fun vs H Q _ => ∃ (a : Addr) (m : Int), vs = [.ref a, .int m] ∧ PurseAt H a ∧ 1 ≤ m ∧ m ≤ 6 ∧
  ∀ (L : Addr) (g : Grid) (wd : Nat) (H' : Hp), Good g wd → GridAt H' L g → PurseAt H' a → SameX a H H' → Q (.ref L) H'
abbrev nLand : List Str := ["_law_purse_here", "_law_topmost", "_law_high", "_law_wide", "_law_names_here", "_law_lots", "_law_row_here", "_law_parts", "_law_column", "_law_lake", "_law_label"]
theorem scLand : FnScope nLand ["_law_purse_here", "_law_topmost"] (defScope sLand) :=
  ⟨rfl, rfl, rfl, by decide +kernel, rfl, by decide +kernel, by decide +kernel⟩
/-- what holds of the heap while the land is laid: the rows laid so far, the parts of this one -/
structure Laying (H0 H : Hp) (a tA lA : Addr) (g : Grid) (wd : Nat) (ps : Row) : Prop where
  purse : PurseAt H a
  same : SameX a H0 H
  towns : H tA = some (.lst ((names g ++ rnames ps).map V.str))
  laid : ∃ as, H lA = some (.lst (as.map V.ref)) ∧ RowsAt H as g
  rows : ∀ r ∈ g, r.length = wd
  nd : (names g ++ rnames ps).Nodup
  wds : ∀ z ∈ names g ++ rnames ps, IsWd z
theorem len_names {g : Grid} {wd : Nat} (h : ∀ r ∈ g, r.length = wd) : (names g).length ≤ g.length * wd := by
  induction g with
  | nil => simp [names]
  | cons r l ih =>
    rw [names_cons, List.length_append, List.length_cons]
    have h1 : (rnames r).length ≤ wd := by
      have := List.length_filterMap_le id r
      have := h r List.mem_cons_self
      unfold rnames
      omega
    have h2 := ih fun r hr => h r (List.mem_cons_of_mem _ hr)
    rw [Nat.succ_mul]
    omega
theorem lake_reads {σ : L2.St} {H : Hp} {Q : VK} {a tA : Addr} {ws : List Str} {x y hi wd : Int} (e0 : σ[0]? = some (some (.ref a))) (e4 : σ[4]? = some (some (.ref tA))) (e6 : σ[6]? = some (some (.int x))) (e8 : σ[8]? = some (some (.int y)))
    (e2 : σ[2]? = some (some (.int hi))) (e3 : σ[3]? = some (some (.int wd))) (hA : PurseAt H a) (ht : H tA = some (.lst (ws.map V.str))) (nta : tA ≠ a) (hws : ∀ z ∈ ws, IsWd z)
    (q : ∀ (b : Bool) (H' : Hp), PurseAt H' a → SameX a H H' → (b = true → ws ≠ [] ∨ x + y + 2 < hi + wd) → Q (.bl b) H') :
    tAndV (tOp rEq (tCall spPick [] E0 (tCons (tVar 0) (tCons (tC (.int 6)) tNil))) (tC (.int 5)))
      (tOrV (tOp (rNeD K) (tVar 4) (tLst tNil)) (tOp (rI0 fun i j => .bl (decide (i < j))) (tOp (rI0 fun i j => .int (i + j)) (tOp (rI0 fun i j => .int (i + j)) (tVar 6) (tVar 8)) (tC (.int 2))) (tOp (rI0 fun i j => .int (i + j)) (tVar 2) (tVar 3)))) σ H Q := by
  refine ⟨_, e0, a, 6, rfl, hA, by decide, by decide, fun r H1 r0 r1 hA1 s1 n1 => ⟨rfl, _, rfl, ite_b (fun e => ?_) (fun e => ?_)⟩⟩
  · refine ⟨_, e4, lz, fun p hp => ⟨.list (ws.map .str), .list [], .lst (.inl (.inl ((same_new hp) _ _ (s1 _ _ nta ht)))) (dp_strs ws), .lst (.inl (.inl upd_same)) .nil, shaped_list (lay_strs hws) (by rw [depth_strs]; decide), rfl, _, rfl, ite_b (fun e => ?_) (fun e => ?_)⟩⟩
    · refine q true _ (hA1.same (same_new hp)) (s1.trans (sx (same_new hp))) fun _ => .inl fun z => ?_
      subst z
      cases e
    · refine ⟨_, e6, _, e8, _, _, rfl, rfl, _, _, rfl, rfl, _, e2, _, e3, _, _, rfl, rfl, _, _, rfl, rfl, ?_⟩
      exact q _ _ (hA1.same (same_new hp)) (s1.trans (sx (same_new hp))) fun z => .inr (of_decide_eq_true z)
  · exact q false _ hA1 s1 fun z => by cases z
theorem Laying.go {H0 H H' : Hp} {a tA lA : Addr} {g : Grid} {wd : Nat} {ps : Row} (h : Laying H0 H a tA lA g wd ps) (nt : tA ≠ a) (nl : lA ≠ a) (hp : PurseAt H' a) (s : SameX a H H') : Laying H0 H' a tA lA g wd ps := by
  obtain ⟨as, hl, hR⟩ := h.laid
  obtain ⟨ys, ha⟩ := h.purse.lst
  exact ⟨hp, h.same.trans s, s _ _ nt h.towns, ⟨as, s _ _ nl hl, hR.keep (tk_x s ha)⟩, h.rows, h.nd, h.wds⟩
theorem ok_land (F : Fun K "_law_land" "_law_land" sLand f fd) (B : Bi mg) (hp : Has P w K mg base "_law_pick" 1 ["_law_purse_here", "_law_count"] spPick) (hF : Has P w K mg base "_law_fresh" 3 ["_law_purse_here", "_law_used"] spFresh) :
    FnOk P w K mg base CX0 4 f fd ["_law_purse_here", "_law_topmost"] spLand := by
  refine F.ok scLand (fun vs H Q E h => ?_) (fun cdv A outer s H vs Q E hr h => ?_)
  · obtain ⟨a, m, rfl, _⟩ := h
    rfl
  · obtain ⟨a, m, rfl, hA, m1, m6, q⟩ := h
    refine ⟨_, pss_cons (ps_par3 (i := 2) (j := 3) (l := 4) (by rfl) scLand.nd rfl rfl rfl (by decide) (by decide) (by decide) rfl rfl rfl (pa_cons (pe_op op_add pe_int (pe_h hp hr (pa_cons (pv 0) (pa_cons (pv 1) pa_nil)))) (pa_cons (pe_op op_add pe_int (pe_h hp hr (pa_cons (pv 0) (pa_cons (pv 1) pa_nil)))) (pa_cons (pe_lst pa_nil) pa_nil))) (by rfl))
      (pss_cons (ps_set (i := 5) scLand.nd rfl (.inl rfl) (pe_lst pa_nil))
      (pss_cons (ps_for PassesOwn.never rfl (pi_range1 rfl B.range (pa_cons (pv 2) pa_nil)) (pg_name (i := 6) scLand.nd rfl (.inl rfl))
        (pss_cons (ps_set (i := 7) scLand.nd rfl (.inl rfl) (pe_lst pa_nil))
        (pss_cons (ps_for PassesOwn.never rfl (pi_range1 rfl B.range (pa_cons (pv 3) pa_nil)) (pg_name (i := 8) scLand.nd rfl (.inl rfl))
          (pss_cons (ps_set (i := 9) scLand.nd rfl (.inl rfl) (pe_and (pe_cmpR op_eq (pe_h hp hr (pa_cons (pv 0) (pa_cons pe_int pa_nil))) pe_int (nomark _)) (pe_one (pe_or (pe_cmpR (op_neD hr.units) (pv 4) (pe_lst pa_nil) (nomark _)) (pe_one (pe_cmpR op_lt (pe_op op_add (pe_op op_add (pv 6) (pv 8)) pe_int) (pe_op op_add (pv 2) (pv 3)) (nomark _)))))))
          (pss_cons (ps_set (i := 10) scLand.nd rfl (.inl rfl) (pe_h hF hr (pa_cons (pv 0) (pa_cons (pv 4) pa_nil))))
          (pss_cons (ps_if (pt_truth (pv 9) (by intro _; rfl)) (pss_one (ps_set (i := 10) scLand.nd rfl (.inl rfl) pe_non)) (pss_one (ps_expr (pe_bm PySem.F.plainAttrs_list PySem.F.slot_list_append PySem.F.type_list_append mt_append (pv 4) (pa_cons (pv 10) pa_nil)))))
          (pss_one (ps_expr (pe_bm PySem.F.plainAttrs_list PySem.F.slot_list_append PySem.F.type_list_append mt_append (pv 7) (pa_cons (pv 10) pa_nil))))))))
        (pss_one (ps_expr (pe_bm PySem.F.plainAttrs_list PySem.F.slot_list_append PySem.F.type_list_append mt_append (pv 5) (pa_cons (pe_callTy call_tuple_of (by rfl) B.tuple (by decide +kernel) (pa_cons (pv 7) pa_nil)) pa_nil)))))))
      (pss_one (ps_ret (pe_callTy call_tuple_of (by rfl) B.tuple (by decide +kernel) (pa_cons (pv 5) pa_nil)))))), ?_⟩
    refine ⟨_, rfl, _, rfl, a, m, rfl, hA, by omega, by omega, fun r1 H1 r10 r11 hA1 s1 n1 => ⟨_, _, rfl, rfl, ?_⟩⟩
    refine ⟨_, rfl, _, rfl, a, m, rfl, hA1, by omega, by omega, fun r2 H2 r20 r21 hA2 s2 n2 => ⟨_, _, rfl, rfl, ?_⟩⟩
    refine ⟨lz, fun tA htA => ⟨_, _, _, rfl, lz, fun lA hlA => ?_⟩⟩
    have nta : tA ≠ a := hA2.ne htA
    have nla : lA ≠ a := (hA2.same (same_new htA)).ne hlA
    have nlt : lA ≠ tA := (ne_of_none upd_same hlA).symm
    have htA0 : H tA = none := SameX.free (s1.trans s2) nta htA
    have hlA0 : H lA = none := SameX.free ((s1.trans s2).trans (sx (same_new htA))) nla hlA
    obtain ⟨hi, ehi⟩ : ∃ hi : Nat, 1 + r1 = (hi : Int) := ⟨(1 + r1).toNat, by omega⟩
    obtain ⟨wd, ewd⟩ : ∃ wd : Nat, 1 + r2 = (wd : Int) := ⟨(1 + r2).toNat, by omega⟩
    have n1 : (1 + r1).toNat = hi := by omega
    have n2 : (1 + r2).toNat = wd := by omega
    have hhi : 1 ≤ hi ∧ hi ≤ 6 := by omega
    have hwd : 1 ≤ wd ∧ wd ≤ 6 := by omega
    have L0 : Laying H (upd (upd H2 tA (.lst [])) lA (.lst [])) a tA lA [] wd [] := by
      refine ⟨(hA2.same (same_new htA)).same (same_new hlA), sameX_mut (sameX_mut (s1.trans s2) htA0) hlA0, ?_, ⟨[], upd_same, .nil⟩, (fun r hr => nomatch hr), List.nodup_nil, (fun z hz => nomatch hz)⟩
      rw [upd_ne nlt.symm, upd_same]
      rfl
    generalize upd (upd H2 tA (.lst [])) lA (.lst []) = H3 at L0
    refine ⟨_, rfl, 1 + r1, rfl, by omega, by omega, ?_⟩
    rw [n1]
    refine for_range (lo := 0) (n := hi) (fun i σ H' => ∃ (g : Grid) (y6 y7 y8 y9 y10 : Option V), σ = [some (.ref a), some (.int m), some (.int (1 + r1)), some (.int (1 + r2)), some (.ref tA), some (.ref lA), y6, y7, y8, y9, y10] ∧ g.length = i ∧ Laying H H' a tA lA g wd [] ∧ (i = hi → names g ≠ []))
      ⟨[], none, none, none, none, none, rfl, rfl, L0, fun e => by omega⟩ ?_ ?_
    · rintro i σ H4 hi4 ⟨g, y6, y7, y8, y9, y10, rfl, hgl, L4, _⟩
      refine ⟨lz, fun pA hpA => ?_⟩
      have npa : pA ≠ a := L4.purse.ne hpA
      have npt : pA ≠ tA := (ne_of_none L4.towns hpA).symm
      obtain ⟨as4, hl4, hR4⟩ := L4.laid
      have npl : pA ≠ lA := (ne_of_none hl4 hpA).symm
      have L5 := L4.go nta nla (L4.purse.same (same_new (o := .lst []) hpA)) (sx (same_new hpA))
      refine ⟨_, rfl, 1 + r2, rfl, by omega, by omega, ?_⟩
      rw [n2]
      refine for_range (lo := 0) (n := wd) (fun j σ H' => ∃ (ps : Row) (y8 y9 y10 : Option V), σ = [some (.ref a), some (.int m), some (.int (1 + r1)), some (.int (1 + r2)), some (.ref tA), some (.ref lA), some (.int (0 + i)), some (.ref pA), y8, y9, y10] ∧ ps.length = j ∧ Laying H H' a tA lA g wd ps ∧ H' pA = some (.lst (ps.map oV)) ∧ (i + 1 = hi → j = wd → names g ++ rnames ps ≠ []))
        ⟨[], _, _, _, rfl, rfl, L5, upd_same, fun _ e => by omega⟩ ?_ ?_
      · rintro j σ H6 hj ⟨ps, z8, z9, z10, rfl, hpl, L6, hp6, _⟩
        refine lake_reads (a := a) (tA := tA) (x := 0 + i) (y := 0 + j) (hi := 1 + r1) (wd := 1 + r2) rfl rfl rfl rfl rfl rfl L6.purse L6.towns nta L6.wds fun b H7 hA7 s7 hb => ?_
        have L7 := L6.go nta nla hA7 s7
        have hp7 := s7 _ _ npa hp6
        have hlen : (names g ++ rnames ps).length ≤ 35 := by
          have h1 := len_names L6.rows
          have h2 : (rnames ps).length ≤ ps.length := List.length_filterMap_le id ps
          rw [List.length_append]
          have h3 : g.length * wd ≤ 5 * wd := Nat.mul_le_mul_right _ (by omega)
          omega
        refine ⟨_, rfl, _, rfl, a, tA, names g ++ rnames ps, rfl, L7.purse, L7.towns, nta, hlen, fun z H8 hz hzn hA8 s8 => ?_⟩
        have L8 := L7.go nta nla hA8 s8
        have hp8 := s8 _ _ npa hp7
        have hlt : ((names g ++ rnames ps).map V.str).length < sizeLine := by
          rw [List.length_map]
          exact small1000 (by omega)
        have hpl2 : (ps.map oV).length < sizeLine := by
          rw [List.length_map]
          exact small1000 (by omega)
        refine ⟨_, rfl, b, rfl, ite_b (fun e => ?_) (fun e => ?_)⟩
        · -- a lake
          refine ⟨_, rfl, .inl ⟨rfl, _, .inl (.inl hp8)⟩, _, rfl, pA, _, _, rfl, rfl, hp8, hpl2, ?_⟩
          obtain ⟨as8, hl8, hR8⟩ := L8.laid
          refine ⟨ps ++ [none], _, _, _, rfl, by simp [hpl], ⟨?_, ?_, ?_, ⟨as8, ?_, hR8.keep (tk_upd hp8)⟩, L8.rows, ?_, ?_⟩, ?_, ?_⟩
          · obtain ⟨x0, x1, x2, hx, hx1⟩ := L8.purse
            exact ⟨x0, x1, x2, by rw [upd_ne npa.symm]; exact hx, hx1⟩
          · exact sameX_mut L8.same (SameX.free L4.same npa hpA)
          · rw [upd_ne npt.symm, rnames_snoc]
            simpa using L8.towns
          · rw [upd_ne npl.symm]
            exact hl8
          · rw [rnames_snoc]
            simpa using L8.nd
          · rw [rnames_snoc]
            simpa using L8.wds
          · rw [upd_same, List.map_append]
            rfl
          · intro e1 e2
            rw [rnames_snoc]
            rcases hb e with h | h
            · simpa using h
            · omega
        · -- a village
          refine ⟨_, rfl, .inl ⟨rfl, _, .inl (.inl L8.towns)⟩, _, rfl, tA, _, _, rfl, rfl, L8.towns, hlt, ?_⟩
          have hp9 : upd H8 tA (.lst ((names g ++ rnames ps).map V.str ++ [.str z])) pA = some (.lst (ps.map oV)) := by
            rw [upd_ne npt]
            exact hp8
          refine ⟨_, rfl, .inl ⟨rfl, _, .inl (.inl hp9)⟩, _, rfl, pA, _, _, rfl, rfl, hp9, hpl2, ?_⟩
          obtain ⟨as8, hl8, hR8⟩ := L8.laid
          have en : names g ++ rnames (ps ++ [some z]) = (names g ++ rnames ps) ++ [z] := by
            rw [rnames_snoc, List.append_assoc]
            rfl
          refine ⟨ps ++ [some z], _, _, _, rfl, by simp [hpl], ⟨?_, ?_, ?_, ⟨as8, ?_, (hR8.keep (tk_upd L8.towns)).keep (tk_upd hp9)⟩, L8.rows, ?_, ?_⟩, ?_, ?_⟩
          · obtain ⟨x0, x1, x2, hx, hx1⟩ := L8.purse
            exact ⟨x0, x1, x2, by rw [upd_ne npa.symm, upd_ne nta.symm]; exact hx, hx1⟩
          · exact sameX_mut (sameX_mut L8.same htA0) (SameX.free L4.same npa hpA)
          · rw [upd_ne npt.symm, upd_same, en]
            simp
          · rw [upd_ne npl.symm, upd_ne nlt]
            exact hl8
          · rw [en, List.nodup_append]
            refine ⟨L8.nd, by simp, fun x hx y hy e => ?_⟩
            rw [List.mem_singleton.mp hy] at e
            rw [e] at hx
            exact hzn hx
          · rw [en]
            intro y hy
            rcases List.mem_append.mp hy with hy | hy
            · exact L8.wds y hy
            · rw [List.mem_singleton.mp hy]
              exact hz
          · rw [upd_same, List.map_append]
            rfl
          · intro _ _
            rw [en]
            simp
      · rintro σ H6 ⟨ps, z8, z9, z10, rfl, hpl, L6, hp6, hne⟩
        obtain ⟨as6, hl6, hR6⟩ := L6.laid
        refine ⟨_, rfl, .inl ⟨rfl, _, .inl (.inl hl6)⟩, _, rfl, pA, _, rfl, .inl ⟨.inl (.inl hp6), fun t ht => ?_⟩⟩
        have nlt6 : lA ≠ t := ne_of_none hl6 ht
        refine ⟨lA, _, _, rfl, rfl, (same_new ht) _ _ hl6, ?_, ?_⟩
        · rw [List.length_map, hR6.length]
          exact small1000 (by omega)
        · refine ⟨g ++ [ps], _, _, _, _, _, rfl, by simp [hgl], ⟨?_, ?_, ?_, ⟨as6 ++ [t], ?_, ?_⟩, ?_, ?_, ?_⟩, ?_⟩
          · obtain ⟨x0, x1, x2, hx, hx1⟩ := L6.purse.same (same_new (o := .tup (ps.map oV)) ht)
            exact ⟨x0, x1, x2, by rw [upd_ne nla.symm]; exact hx, hx1⟩
          · exact sameX_mut (L6.same.trans (sx (same_new ht))) hlA0
          · rw [upd_ne nlt.symm, (same_new ht) _ _ L6.towns, names_snoc]
            simp [rnames]
          · rw [upd_same, List.map_append]
            rfl
          · refine Each.append ((hR6.keep (tk_new ht)).keep (tk_upd ((same_new ht) _ _ hl6))) (.cons ?_ .nil)
            rw [upd_ne nlt6.symm, upd_same]
          · intro r hr
            rcases List.mem_append.mp hr with hr | hr
            · exact L6.rows r hr
            · rw [List.mem_singleton.mp hr]
              exact hpl
          · rw [names_snoc]
            simpa [rnames] using L6.nd
          · rw [names_snoc]
            simpa [rnames] using L6.wds
          · intro e
            rw [names_snoc]
            exact hne e rfl
    · rintro σ H4 ⟨g, y6, y7, y8, y9, y10, rfl, hgl, L4, hne⟩
      obtain ⟨as4, hl4, hR4⟩ := L4.laid
      refine ⟨_, rfl, lA, _, rfl, .inl ⟨.inl (.inl hl4), fun t ht => ?_⟩⟩
      refine q t g wd _ ⟨by omega, by omega, hwd.1, hwd.2, L4.rows, ?_, ?_, hne rfl⟩ ⟨as4, upd_same, hR4.keep (tk_new ht)⟩ (L4.purse.same (same_new ht)) (L4.same.trans (sx (same_new ht)))
      · simpa [rnames] using L4.nd
      · simpa [rnames] using L4.wds
end
end Wl

namespace Wl
open PySem PySem.Spec PyProof.Rows L2
abbrev sIsWord : Stmt := topS 19
abbrev sAreRows : Stmt := topS 25
abbrev sWrong : Stmt := topS 26
abbrev sSpotsIn : Stmt := topS 27
abbrev sSpots : Stmt := topS 28
structure Gk (mg : Str → Option Value) : Prop where
  letters : ∃ t, mg "LETTERS" = some (.str "abcdefghijklmnopqrstuvwxyz" t)
  longest : ∃ t, mg "LONGEST_WORD" = some (.int 8 t)
  mrows : ∃ t, mg "MOST_ROWS" = some (.int 6 t)
  mcols : ∃ t, mg "MOST_COLUMNS" = some (.int 6 t)
section
variable {P : Program} {w : World} {K : PySem.W.Frag} {mg : Str → Option Value} {base : Heap} {f : Addr} {fd : FuncData}

/-! ### is_word of a text -/
def spIsWord : Sp := fun vs H Q _ => ∃ (z : Str), vs = [.str z] ∧ z.length ≤ 1000 ∧ ∀ (H' : Hp), Same H H' → Q (.bl (wdB z)) H'
abbrev nIsWord : List Str := ["thing", "letter"]
theorem scIsWord : FnScope nIsWord ["thing"] (defScope sIsWord) := ⟨rfl, rfl, rfl, by decide +kernel, rfl, by decide +kernel, by decide +kernel⟩
def letB (c : Nat) : Bool := decide (97 ≤ c) && decide (c ≤ 122)
def letV : V → V
  | .str s => .bl (s.cps.toList.all letB)
  | v => v
theorem letB_mem (c : Nat) : decide (c ∈ ("abcdefghijklmnopqrstuvwxyz" : Str).cps.toList) = letB c := by
  rw [letters_eq]
  unfold letB
  by_cases h : c ∈ List.range' 97 26
  · rw [decide_eq_true h]
    rw [List.mem_range'_1] at h
    simp
    omega
  · rw [decide_eq_false h]
    rw [List.mem_range'_1] at h
    symm
    rw [Bool.and_eq_false_iff, decide_eq_false_iff_not, decide_eq_false_iff_not]
    omega
theorem ok_isword (F : Fun K "is_word" "is_word" sIsWord f fd) (B : Bi mg) (G : Gk mg) : FnOk P w K mg base CX0 1 f fd ["thing"] spIsWord := by
  obtain ⟨t1, g1⟩ := G.letters
  obtain ⟨t2, g2⟩ := G.longest
  refine F.ok scIsWord (fun vs H Q E h => ?_) (fun cdv A outer s H vs Q E hr h => ?_)
  · obtain ⟨z, rfl, _⟩ := h
    rfl
  · obtain ⟨z, rfl, hz, q⟩ := h
    refine ⟨_, pss_cons (ps_if (PW.pt (pw_or (pt_not (pt_val (pe_callB call_isi (by rfl) B.isi (by decide +kernel) (pa_cons (pv 0) (pa_cons (pe_bltn (v := .ty "str") (by rfl) B.str (by decide +kernel) rfl) pa_nil)))))
        (pw_or1 (pt_not (pt_chain op_le op_le pe_int (pe_callB call_len_str (by rfl) B.len PySem.boot_len (pa_cons (pv 0) pa_nil)) (pe_glob (v := .int 8) rfl g2 ⟨_, rfl⟩)))))) (pss_one (ps_ret pe_bl)) pss_nil)
      (pss_one (ps_ret (pe_callB (cr_all rfl) (by rfl) B.all (by decide +kernel) (pa_cons (pe_lc (own := [("letter", 1)]) (g := gName 1) (tt := tYes) rfl scIsWord.nd (pi_str (pv 0)) (blkOk_by (N := nIsWord) (sc := defScope sIsWord) (by decide +kernel))
        (fun _ _ _ _ _ => pg_name (i := 1) scIsWord.nd rfl (.inl rfl)) (fun _ _ _ _ _ => pts_nil) (fun _ _ _ _ _ => pe_cmpR op_in_sign (pv 1) (pe_glob (v := .str "abcdefghijklmnopqrstuvwxyz") rfl g1 ⟨_, rfl⟩) rfl)) pa_nil)))), ?_⟩
    refine ⟨_, rfl, _, _, _, _, _, rfl, .ty "str", .base (.str z), kit_ty (r := true) (by decide +kernel), true, rfl, ?_⟩
    refine iteF ⟨_, rfl, _, rfl, lzl hz, _, _, rfl, rfl, _, rfl, ite_b (fun e1 => ?_) (fun e1 => ?_)⟩
    · refine ⟨_, _, rfl, rfl, _, rfl, not_b (fun e2 => ?_) (fun e2 => ?_)⟩
      · have e2' : ¬ ((z.length : Int) ≤ 8) := of_decide_eq_false e2
        have : wdB z = false := by
          unfold wdB
          rw [decide_eq_false (show ¬ z.length ≤ 8 by omega)]
          simp
        rw [← this]
        exact q H (Same.refl H)
      · have h1 : 1 ≤ z.length := by
          have := of_decide_eq_true e1
          omega
        have h8 : z.length ≤ 8 := by
          have := of_decide_eq_true e2
          omega
        refine ⟨_, rfl, _, rfl, fun D hD => lc_map walk_signs hD (fun _ => true) letV (fun _ _ => trivial) (fun _ => rfl) (fun x H' _ _ Q' q' => q') ?_ ?_ ?_⟩
        · intro x H' hx _ _ Q' q'
          obtain ⟨c, hc, rfl⟩ := List.mem_map.mp hx
          refine ⟨_, rfl, c, _, rfl, rfl, ?_⟩
          rw [letB_mem]
          have : letV (.str (sign c)) = .bl (letB c) := by
            show V.bl ([c].all letB) = _
            simp
          rw [this] at q'
          exact q'
        · unfold signsOf
          rw [List.length_map, Array.length_toList]
          exact small1000 (by have : z.length = z.cps.size := rfl; omega)
        · intro H' s' hD'
          have e0 : ((signsOf z).filter fun _ => true).map letV = (z.cps.toList.map letB).map V.bl := by
            rw [List.filter_eq_self.mpr fun _ _ => rfl]
            unfold signsOf
            rw [List.map_map, List.map_map]
            refine List.map_congr_left fun c _ => ?_
            show V.bl ([c].all letB) = _
            simp
          refine ⟨D, z.cps.toList.map letB, rfl, .inl (.inl (by rw [hD', e0])), ?_⟩
          have : (z.cps.toList.map letB).all id = wdB z := by
            unfold wdB
            rw [decide_eq_true h1, decide_eq_true h8, List.all_map]
            rfl
          rw [this]
          exact q H' s'
    · refine ⟨false, rfl, iteT ?_⟩
      have : wdB z = false := by
        have e1' : ¬ ((1 : Int) ≤ z.length) := of_decide_eq_false e1
        unfold wdB
        rw [decide_eq_false (show ¬ 1 ≤ z.length by omega)]
        simp
      rw [← this]
      exact q H (Same.refl H)
end
end Wl

namespace Wl
open PySem PySem.Spec PyProof.Rows L2
section
variable {P : Program} {w : World} {K : PySem.W.Frag} {mg : Str → Option Value} {base : Heap} {f : Addr} {fd : FuncData}

/-! ### are_rows of a good grid -/
def spAreRows : Sp := fun vs H Q _ => ∃ (L : Addr) (g : Grid) (wd : Nat), vs = [.ref L] ∧ GridAt H L g ∧ Good g wd ∧ Q (.bl true) H
abbrev nAreRows : List Str := ["thing", "row"]
theorem scAreRows : FnScope nAreRows ["thing"] (defScope sAreRows) := ⟨rfl, rfl, rfl, by decide +kernel, rfl, by decide +kernel, by decide +kernel⟩
theorem ok_arerows (F : Fun K "are_rows" "are_rows" sAreRows f fd) (B : Bi mg) (G : Gk mg) : FnOk P w K mg base CX0 1 f fd ["thing"] spAreRows := by
  obtain ⟨t1, g1⟩ := G.mrows
  obtain ⟨t2, g2⟩ := G.mcols
  refine F.ok scAreRows (fun vs H Q E h => ?_) (fun cdv A outer s H vs Q E hr h => ?_)
  · obtain ⟨L, g, wd, rfl, _⟩ := h
    rfl
  · obtain ⟨L, g, wd, rfl, ⟨as, hL, hR⟩, gd, q⟩ := h
    refine ⟨_, pss_cons (ps_if (PW.pt (pw_or (pt_not (pt_val (pe_callB call_isi (by rfl) B.isi (by decide +kernel) (pa_cons (pv 0) (pa_cons (pe_bltn (v := .ty "tuple") (by rfl) B.tuple (by decide +kernel) rfl) pa_nil)))))
        (pw_or1 (pt_not (pt_chain op_le op_le pe_int (pe_callB call_len_seq (by rfl) B.len PySem.boot_len (pa_cons (pv 0) pa_nil)) (pe_glob (v := .int 6) rfl g1 ⟨_, rfl⟩)))))) (pss_one (ps_ret pe_bl)) pss_nil)
      (pss_cons (ps_for PassesOwn.never rfl (pi_tup (pv 0)) (pg_name (i := 1) scAreRows.nd rfl (.inl rfl))
        (pss_one (ps_if (PW.pt (pw_or (pt_not (pt_val (pe_callB call_isi (by rfl) B.isi (by decide +kernel) (pa_cons (pv 1) (pa_cons (pe_bltn (v := .ty "tuple") (by rfl) B.tuple (by decide +kernel) rfl) pa_nil)))))
          (pw_or (pt_not (pt_chain op_le op_le pe_int (pe_callB call_len_seq (by rfl) B.len PySem.boot_len (pa_cons (pv 1) pa_nil)) (pe_glob (v := .int 6) rfl g2 ⟨_, rfl⟩)))
          (pw_or1 (pt_cmpR op_ne (pe_callB call_len_seq (by rfl) B.len PySem.boot_len (pa_cons (pv 1) pa_nil)) (pe_callB call_len_seq (by rfl) B.len PySem.boot_len (pa_cons (pe_ix ix_tup (pv 0) pe_int (fun _ _ => rfl)) pa_nil)) (nomark _)))))) (pss_one (ps_ret pe_bl)) pss_nil)))
      (pss_one (ps_ret pe_bl))), ?_⟩
    have hlen : (as.map V.ref).length = g.length := by rw [List.length_map, hR.length]
    have hST : SqT K H L (as.map V.ref) := .inl (.inl hL)
    have h16 : 1 ≤ g.length ∧ g.length ≤ 6 := ⟨gd.h1, gd.h6⟩
    have w16 : 1 ≤ wd ∧ wd ≤ 6 := ⟨gd.w1, gd.w6⟩
    refine ⟨_, rfl, _, _, _, _, _, rfl, .ty "tuple", .base (.tup hL), kit_ty (r := true) (by decide +kernel), true, rfl, ?_⟩
    refine iteF ⟨_, rfl, L, _, rfl, .inr hST, _, _, rfl, rfl, _, rfl, ite_b (fun e1 => ?_) (fun e1 => ?_)⟩
    · refine ⟨_, _, rfl, rfl, _, rfl, not_b (fun e2 => ?_) (fun e2 => ?_)⟩
      · have := of_decide_eq_false e2
        omega
      · refine ⟨_, rfl, L, rfl, ⟨_, hST⟩, for_tup (K := K) (a := L) (xs := as.map V.ref) (fun i σ H' => (∃ y, σ = [some (.ref L), y]) ∧ H' = H) ⟨⟨_, rfl⟩, rfl⟩ (fun i σ H' _ h => by rw [h.2]; exact hST) ?_ ?_⟩
        · rintro i x σ H' hx ⟨⟨y, rfl⟩, rfl⟩
          rw [List.getElem?_map] at hx
          obtain ⟨p, hp, rfl⟩ := Option.map_eq_some_iff.mp hx
          obtain ⟨row, hrow, hH⟩ := hR.get hp
          have hrl : (row.map oV).length = wd := by rw [List.length_map]; exact gd.rows row (List.mem_of_getElem? hrow)
          have hrT : SqT K H' p (row.map oV) := .inl (.inl hH)
          obtain ⟨p0, hp0⟩ : ∃ p0, as[0]? = some p0 := by
            cases as with
            | nil =>
              have := hR.length
              simp at this
              omega
            | cons a0 r => exact ⟨a0, rfl⟩
          obtain ⟨row0, hrow0, hH0⟩ := hR.get hp0
          have hr0l : (row0.map oV).length = wd := by rw [List.length_map]; exact gd.rows row0 (List.mem_of_getElem? hrow0)
          refine ⟨_, rfl, _, _, _, _, _, rfl, .ty "tuple", .base (.tup hH), kit_ty (r := true) (by decide +kernel), true, rfl, ?_⟩
          refine iteF ⟨_, rfl, p, _, rfl, .inr hrT, _, _, rfl, rfl, _, rfl, ite_b (fun e3 => ?_) (fun e3 => ?_)⟩
          · refine ⟨_, _, rfl, rfl, _, rfl, not_b (fun e4 => ?_) (fun e4 => ?_)⟩
            · have := of_decide_eq_false e4
              omega
            · refine ⟨_, rfl, p, _, rfl, .inr hrT, _, rfl, L, _, 0, .ref p0, rfl, rfl, hST, atI_nat (j := 0) (by rw [List.getElem?_map, hp0]; rfl), p0, _, rfl, .inr (.inl (.inl hH0)), rfl, _, rfl, ?_⟩
              refine iteNS (by rw [hrl, hr0l]) ?_
              exact ⟨⟨_, rfl⟩, rfl⟩
          · have := of_decide_eq_false e3
            omega
        · rintro σ H' ⟨⟨y, rfl⟩, rfl⟩
          exact q
    · have := of_decide_eq_false e1
      omega
end
end Wl

/-! A dict comprehension of two clauses: {k: v for a in .. if .. for b in .. if ..}. -/
namespace Wl
open PySem PySem.Spec PyProof.Rows L2
/-- the whole of it -/
abbrev two (kx vx ta ia tb ib : Expr) (fa fb : List Expr) (sc : Scope) (pos : Pos) : Expr := .DictComp kx vx [⟨ta, ia, fa, 0⟩, ⟨tb, ib, fb, 0⟩] sc pos
/-- a clause's tests -/
abbrev testsOf (fs : List Expr) (env : Env) : Sem Bool :=
  forIn fs true fun c r => if r = true then (do let y ← isTrue c env (eval c env); pure (ForInStep.yield y)) else pure (ForInStep.yield r)
/-- a turn of a clause: no item is left, or one comes, is stored and tested -/
def Turned (M : Model) (A : Around) (env : Env) (tg : Expr) (it : Value) (fs : List Expr) (stop : Shared → Prop) (k : Bool → Shared → Prop) (E : Value → Shared → Prop) (s : Shared) : Prop :=
  wpAny M A (pyNext it) (fun r s1 => match r with
    | none => stop s1
    | some u => wpAny M A (letOwnedTupleGo tg it u) (fun _ s2 => wpAny M A (assign tg env u) (fun _ s3 => wpAny M A (testsOf fs env) k E s3) E s2) E s1) E s
section
variable {kx vx ta ia tb ib : Expr} {fa fb : List Expr} {sc : Scope} {pos : Pos} {it : Value} {D : Addr} {env : Env}
theorem turnA : compTurn (two kx vx ta ia tb ib fa fb sc pos) 0 it (.ref D) env = (do
    standAt ia.pos
    match ← pyNext it with
    | none => pure (.done .next)
    | some u =>
      letOwnedTupleGo ta it u
      assign ta env u
      let yes ← testsOf fa env
      if yes = true then
        let x ← eval ib env
        standAt ib.pos
        let z ← foldedSetIterable ib env x
        let _ ← runOwn (.compStart (two kx vx ta ia tb ib fa fb sc pos) 1 (← holding [z] (pyIter z)) (.ref D) env) env
      again (.compLoop (two kx vx ta ia tb ib fa fb sc pos) 0 it (.ref D) env)) := rfl
theorem turnB : compTurn (two kx vx ta ia tb ib fa fb sc pos) 1 it (.ref D) env = (do
    standAt ib.pos
    match ← pyNext it with
    | none => pure (.done .next)
    | some u =>
      letOwnedTupleGo tb it u
      assign tb env u
      let yes ← testsOf fb env
      if yes = true then
        (do
          let a ← eval kx env
          let b ← holding [a] (eval vx env)
          standAt { kx.pos with endLine := vx.pos.endLine, endCol := vx.pos.endCol }
          holding [a, b] (dictSet D a b))
      again (.compLoop (two kx vx ta ia tb ib fa fb sc pos) 1 it (.ref D) env)) := rfl
variable {prog : Program} {w : World} {A : Around} {R : Result → Shared → Prop} {s : Shared}
/-- what an error leaves behind it -/
abbrev errs (prog : Program) (w : World) (A : Around) (env : Env) (R : Result → Shared → Prop) : Value → Shared → Prop := notedBy (model prog w) A env fun e s' => R (.error e) s'
theorem loopA (plain : ∀ x, foldedSetIterable ib env x = pure x) (I : Nat → Shared → Prop)
    (turn : ∀ n s, I n s → Turned (model prog w) A env ta it fa (R (.ok .next)) (fun yes s1 => if yes = true then
        wpAny (model prog w) A (eval ib env) (fun x s2 => wpAny (model prog w) A (pyIter x) (fun j s3 => codeAny (model prog w) A (.compStart (two kx vx ta ia tb ib fa fb sc pos) 1 j (.ref D) env) (fun r s4 => (∃ f, r = .ok f) ∧ ∃ m, m < n ∧ I m s4) s3) (errs prog w A env R) s2) (errs prog w A env R) s1
      else ∃ m, m < n ∧ I m s1) (errs prog w A env R) s)
    (n : Nat) (h : I n s) : codeAny (model prog w) A (.compLoop (two kx vx ta ia tb ib fa fb sc pos) 0 it (.ref D) env) R s := by
  refine codeAny_loop rfl I (fun n s hI => wpAny_noted ?_) n h
  have key := turn n s hI
  unfold Turned at key
  show wpAny _ A (compTurn (two kx vx ta ia tb ib fa fb sc pos) 0 it (.ref D) env) _ _ s
  rw [turnA]
  refine wpAny_bind (wpAny_standAt (wpAny_bind (wpAny_mono key ?_ fun _ _ z => z)))
  rintro (_ | u) s1 k1
  · exact wpAny_pure k1
  · refine wpAny_bind (wpAny_mono k1 (fun _ s2 k2 => wpAny_bind (wpAny_mono k2 (fun _ s3 k3 => wpAny_bind (wpAny_mono k3 ?_ fun _ _ z => z)) fun _ _ z => z)) fun _ _ z => z)
    rintro (_ | _) s4 k4
    · exact wpAny_pure ⟨rfl, k4⟩
    · refine wpAny_bind (wpAny_mono k4 (fun x s5 k5 => wpAny_bind (wpAny_standAt (wpAny_bind (wpAny_of_eq (plain x) (wpAny_bind (wpAny_holding (wpAny_mono k5 (fun j s6 k6 => ?_) fun _ _ z => z))))))) fun _ _ z => z)
      refine wpAny_bind (wpAny_runOwn ?_)
      rw [Around.mark_none]
      refine codeAny_mono k6 ?_
      rintro (e | f) s7 ⟨⟨g, eg⟩, k7⟩
      · cases eg
      · first
          | exact wpAny_pure ⟨rfl, k7⟩
          | exact wpAny_bind (wpAny_pure (wpAny_pure ⟨rfl, k7⟩))
theorem loopB (I : Nat → Shared → Prop)
    (turn : ∀ n s, I n s → Turned (model prog w) A env tb it fb (R (.ok .next)) (fun yes s1 => if yes = true then
        wpAny (model prog w) A (eval kx env) (fun a s2 => wpAny (model prog w) A (eval vx env) (fun b s3 => wpAny (model prog w) A (dictSet D a b) (fun _ s4 => ∃ m, m < n ∧ I m s4) (errs prog w A env R) s3) (errs prog w A env R) s2) (errs prog w A env R) s1
      else ∃ m, m < n ∧ I m s1) (errs prog w A env R) s)
    (n : Nat) (h : I n s) : codeAny (model prog w) A (.compLoop (two kx vx ta ia tb ib fa fb sc pos) 1 it (.ref D) env) R s := by
  refine codeAny_loop rfl I (fun n s hI => wpAny_noted ?_) n h
  have key := turn n s hI
  unfold Turned at key
  show wpAny _ A (compTurn (two kx vx ta ia tb ib fa fb sc pos) 1 it (.ref D) env) _ _ s
  rw [turnB]
  refine wpAny_bind (wpAny_standAt (wpAny_bind (wpAny_mono key ?_ fun _ _ z => z)))
  rintro (_ | u) s1 k1
  · exact wpAny_pure k1
  · refine wpAny_bind (wpAny_mono k1 (fun _ s2 k2 => wpAny_bind (wpAny_mono k2 (fun _ s3 k3 => wpAny_bind (wpAny_mono k3 ?_ fun _ _ z => z)) fun _ _ z => z)) fun _ _ z => z)
    rintro (_ | _) s4 k4
    · exact wpAny_pure ⟨rfl, k4⟩
    · refine wpAny_bind (wpAny_bind (wpAny_mono k4 (fun a s5 k5 => ?_) fun _ _ z => z))
      refine wpAny_bind (wpAny_holding (wpAny_mono k5 (fun b s6 k6 => ?_) fun _ _ z => z))
      exact wpAny_bind (wpAny_standAt (wpAny_holding (wpAny_mono k6 (fun _ s7 k7 => wpAny_pure ⟨rfl, k7⟩) fun _ _ z => z)))
theorem startB (h0 : codeAny (model prog w) A (.compLoop (two kx vx ta ia tb ib fa fb sc pos) 1 it (.ref D) env) R s)
    (h1 : wpAny (model prog w) A (pyIter it) (fun j s' => codeAny (model prog w) A (.compLoop (two kx vx ta ia tb ib fa fb sc pos) 1 j (.ref D) env) R s') (errs prog w A env R) s) :
    codeAny (model prog w) A (.compStart (two kx vx ta ia tb ib fa fb sc pos) 1 it (.ref D) env) R s := by
  refine codeAny_of_tree (wpAny_notedAt (?_ : wpAny _ _ (compStart (two kx vx ta ia tb ib fa fb sc pos) 1 it (.ref D) env) _ _ s))
  unfold compStart
  show wpAny _ _ (ask >>= _) _ _ s
  refine wpAny_bind (wpAny_askSetting (wpAny_ite ?_))
  split
  · first
      | exact wpAny_pure ⟨rfl, h0⟩
      | exact wpAny_bind (wpAny_pure (wpAny_pure ⟨rfl, h0⟩))
  · refine wpAny_bind (wpAny_rule ?_)
    show wpAny _ _ (standAt ib.pos >>= _) _ _ s
    exact wpAny_bind (wpAny_standAt (wpAny_bind (wpAny_mono h1 (fun j s' h' => wpAny_pure ⟨rfl, h'⟩) fun _ _ z => z)))
end
section
variable {Y : Cx} {pins : List (Addr × Obj)} {σ : L2.St} {H : Hp} {s : Shared} {tg : Expr} {J : It} {fp : List Addr} {it : Addr} {tn : Nat → Heap → Prop}
/-- an item comes: stored and tested, the walk's objects held meanwhile -/
theorem clause {g : TG} {tt : TT} {fs : List Expr} {i : Nat} {C : L2.St → Prop} {Z : L2.St → Bool → Hp → Prop} {stop : Shared → Prop} {k : Bool → Shared → Prop} {E : Value → Shared → Prop}
    (quiet : Y.xe = fun _ _ => False) (hc : Y.calm = true) (T : Turn Y.prog Y.w Y.K tg J fp it tn) (pg : PG Y tg g) (pt : PTs Y fs tt) (I : L2.Inv Y pins σ H s)
    (free : ∀ {H' : Hp}, (∀ b ∈ fp, H' b = none) → ∀ b ∈ fp, FpOk Y pins H' b) (none0 : ∀ b ∈ fp, H b = none) (st : tn i s.heap) (go : J.go i H)
    (step : ∀ x H', J.yld i H x H' → g x σ H' fun σ2 H2 => C σ2 ∧ tt σ2 H2 (Z σ2))
    (next : ∀ {s1 s2 : Shared} {σ2 : L2.St} {b : Bool} {H2 : Hp}, tn (i + 1) s1.heap → C σ2 → L2.Inv Y (pins ++ pinsAt fp s1.heap) σ2 H2 s2 → Z σ2 b H2 → k b s2) :
    Turned (model Y.prog Y.w) Y.A Y.env tg (.ref it) fs stop k E s := by
  unfold Turned
  refine thnF (T.item Y rfl rfl rfl hc i pins s σ H (fun _ _ => False) I (free none0) st go) ?_
  rintro _ s1 ⟨u, rfl, h1⟩
  refine thnF h1 ?_
  rintro _ s2 ⟨x, H2, I2, rx, yx, st2, n2⟩
  have held := I2.pinned (free n2) (T.obj _ _ st2)
  have run1 := pg.run _ s2 _ H2 x u _ held rx (step x H2 yx)
  rw [quiet] at run1
  refine thnF run1 ?_
  rintro _ s3 ⟨σ3, H3, I3, c3, q3⟩
  have run2 := pt.run _ s3 σ3 H3 _ I3 q3
  rw [quiet] at run2
  refine thnF run2 ?_
  rintro b s4 ⟨H4, I4, q4⟩
  exact next st2 c3 I4 q4
/-- behind the turn the walk's objects stand as they did -/
theorem walk_stays {i : Nat} {h : Heap} (T : Turn Y.prog Y.w Y.K tg J fp it tn) (st : tn i h) (I : L2.Inv Y (pins ++ pinsAt fp h) σ H s) : tn i s.heap ∧ ∀ b ∈ fp, H b = none := by
  have each : ∀ b ∈ fp, ∀ o, h.get? b = some o → s.heap.get? b = some o ∧ H b = none := fun b hb o e => by
    have z := I.pin (b, o) (List.mem_append_right _ (List.mem_append_right _ (mem_pinsAt hb e)))
    exact ⟨z.1, z.2.1⟩
  refine ⟨T.keep i h s.heap st fun b hb o e => (each b hb o e).1, fun b hb => ?_⟩
  obtain ⟨o, e, _⟩ := T.obj i h st b hb
  exact (each b hb o e).2
end
section
variable {X : Cx}
/-- the second clause: its walk, in each turn of it a pair put -/
def InnD (gb : TG) (ttb : TT) (tk tv : TE) (vs1 : List Nat) (D : Addr) (σ2 : L2.St) (Nx : Hp → Prop) (J1 : It) (H4 : Hp) : Prop :=
  ∃ W1 : Nat → Nat → Hp → Prop, (∃ m, W1 0 m H4) ∧ ∀ j k H, W1 j k H → (J1.stop j H ∧ Nx H) ∨ (J1.go j H ∧ ∃ Nx1 : Hp → Prop, (∀ H', Nx1 H' → ∃ k', k' < k ∧ W1 (j + 1) k' H') ∧
    ∀ x H', J1.yld j H x H' → gb x (wipe σ2 vs1) H' fun σ3 H5 => wipe σ3 vs1 = wipe σ2 vs1 ∧ ttb σ3 H5 fun yes H6 =>
      if yes = true then tk σ3 H6 fun y H7 => tv σ3 H7 fun z H8 => ∃ kvs k, y = kV k ∧ H8 D = some (.dK kvs) ∧ kvs.length < sizeLine ∧ Nx1 (upd H8 D (.dK (putK kvs k z))) else Nx1 H6)
/-- what the comprehension asks: the first clause's walk, in each turn the second's; vs: the names of both clauses, vs1: of the second -/
def tDc2 (wa : TI) (ga : TG) (tta : TT) (wb : TI) (gb : TG) (ttb : TT) (tk tv : TE) (vs vs1 : List Nat) : TE := fun σ H Q => wa σ H fun J H1 => ∀ D, H1 D = none →
  ∃ W : Nat → Nat → Hp → Prop, (∃ m, W 0 m (upd H1 D (.dK []))) ∧ ∀ i m H, W i m H → (J.stop i H ∧ Q (.ref D) H) ∨ (J.go i H ∧ ∃ Nx : Hp → Prop, (∀ H', Nx H' → ∃ m', m' < m ∧ W (i + 1) m' H') ∧
    ∀ x H', J.yld i H x H' → ga x (wipe σ vs) H' fun σ2 H2 => wipe σ2 vs = wipe σ vs ∧ tta σ2 H2 fun yes H3 => if yes = true then wb σ2 H3 (InnD gb ttb tk tv vs1 D σ2 Nx) else Nx H3)
/-- the first clause by a walk that is known -/
theorem dc2_it {J : It} {n : Nat} {G : Hp → Prop} {Y : Nat → Hp → V → Hp → Prop} (w : L2.Walk J n G Y) {ga gb : TG} {tta ttb : TT} {wb : TI} {tk tv : TE} {vs vs1 : List Nat} {σ : L2.St} {H1 : Hp} {D : Addr} {Qd : Hp → Prop} (Pv : Nat → Hp → Prop) (h0 : Pv 0 (upd H1 D (.dK []))) (hG : ∀ i H, i ≤ n → Pv i H → G H)
    (hs : ∀ i x H H', i < n → Pv i H → Y i H x H' → ga x (wipe σ vs) H' fun σ2 H2 => wipe σ2 vs = wipe σ vs ∧ tta σ2 H2 fun yes H3 => if yes = true then wb σ2 H3 (InnD gb ttb tk tv vs1 D σ2 (Pv (i + 1))) else Pv (i + 1) H3) (hd : ∀ H, Pv n H → Qd H) :
    ∃ W : Nat → Nat → Hp → Prop, (∃ m, W 0 m (upd H1 D (.dK []))) ∧ ∀ i m H, W i m H → (J.stop i H ∧ Qd H) ∨ (J.go i H ∧ ∃ Nx : Hp → Prop, (∀ H', Nx H' → ∃ m', m' < m ∧ W (i + 1) m' H') ∧
      ∀ x H', J.yld i H x H' → ga x (wipe σ vs) H' fun σ2 H2 => wipe σ2 vs = wipe σ vs ∧ tta σ2 H2 fun yes H3 => if yes = true then wb σ2 H3 (InnD gb ttb tk tv vs1 D σ2 Nx) else Nx H3) := by
  refine ⟨fun i m H => m + i = n ∧ Pv i H, ⟨n, by simp, h0⟩, fun i m H ⟨e, p⟩ => ?_⟩
  have q := hG i H (by omega) p
  by_cases lt : i < n
  · exact .inr ⟨w.goes i H lt q, Pv (i + 1), fun H' p' => ⟨m - 1, by omega, by omega, p'⟩, fun x H' y => hs i x H H' lt p (w.yields i H x H' lt q y)⟩
  · obtain rfl : i = n := by omega
    exact .inl ⟨w.stops H q, hd H p⟩
/-- the second clause by a walk that is known -/
theorem inn_it {J1 : It} {n : Nat} {G : Hp → Prop} {Y : Nat → Hp → V → Hp → Prop} (w : L2.Walk J1 n G Y) {gb : TG} {ttb : TT} {tk tv : TE} {vs1 : List Nat} {σ2 : L2.St} {H4 : Hp} {D : Addr} {Nx : Hp → Prop} (Pv : Nat → Hp → Prop) (h0 : Pv 0 H4) (hG : ∀ i H, i ≤ n → Pv i H → G H)
    (hs : ∀ j x H H', j < n → Pv j H → Y j H x H' → gb x (wipe σ2 vs1) H' fun σ3 H5 => wipe σ3 vs1 = wipe σ2 vs1 ∧ ttb σ3 H5 fun yes H6 =>
      if yes = true then tk σ3 H6 fun y H7 => tv σ3 H7 fun z H8 => ∃ kvs k, y = kV k ∧ H8 D = some (.dK kvs) ∧ kvs.length < sizeLine ∧ Pv (j + 1) (upd H8 D (.dK (putK kvs k z))) else Pv (j + 1) H6) (hd : ∀ H, Pv n H → Nx H) :
    InnD gb ttb tk tv vs1 D σ2 Nx J1 H4 := by
  refine ⟨fun j k H => k + j = n ∧ Pv j H, ⟨n, by simp, h0⟩, fun j k H ⟨e, p⟩ => ?_⟩
  have q := hG j H (by omega) p
  by_cases lt : j < n
  · exact .inr ⟨w.goes j H lt q, Pv (j + 1), fun H' p' => ⟨k - 1, by omega, by omega, p'⟩, fun x H' y => hs j x H H' lt p (w.yields j H x H' lt q y)⟩
  · obtain rfl : j = n := by omega
    exact .inl ⟨w.stops H q, hd H p⟩
/-- a block of this scope -/
abbrev inBlk (X : Cx) (sc : Scope) (s : Shared) (H : Hp) (C : Addr) (cl : List (Str × Addr)) (fp : List Addr) : Cx := X.blk s H sc (compEnvC sc cl C X.env) fp
theorem pe_dc2 {kx vx ta ia tb ib : Expr} {fa fb : List Expr} {sc : Scope} {own : List (Str × Nat)} {vs1 : List Nat} {pos : Pos} {wa wb : TI} {ga gb : TG} {tta ttb : TT} {tk tv : TE} (hc : X.calm = true) (hN : X.N.Nodup) (hi : PI X ta ia wa) (ok : BlkOk X.N X.env.scope sc own) (hv : ∀ i ∈ vs1, i ∈ own.map (·.2))
    (hga : ∀ s H C cl fp, PG (inBlk X sc s H C cl fp) ta ga) (hta : ∀ s H C cl fp, PTs (inBlk X sc s H C cl fp) fa tta) (hib : ∀ s H C cl fp, PI (inBlk X sc s H C cl fp) tb ib wb) (hgb : ∀ s H C cl fp, PG (inBlk X sc s H C cl fp) tb gb) (htb : ∀ s H C cl fp, PTs (inBlk X sc s H C cl fp) fb ttb)
    (hk : ∀ s H C cl fp, PE (inBlk X sc s H C cl fp) kx tk) (he : ∀ s H C cl fp, PE (inBlk X sc s H C cl fp) vx tv)
    (pa : ∀ x, foldedSetIterable ia X.env x = pure x := by intro _; rfl) (pb : ∀ env x, foldedSetIterable ib env x = pure x := by intro _ _; rfl) :
    PE X (.DictComp kx vx [⟨ta, ia, fa, 0⟩, ⟨tb, ib, fb, 0⟩] sc pos) (tDc2 wa ga tta wb gb ttb tk tv (own.map (·.2)) vs1) := by
  refine ⟨fun pins s σ H Q I h => ?_⟩
  rw [arm_eval_DictComp]
  have clo : ∀ y ∈ sc.names, y.2 = .free → ∃ c, X.env.cells.lookup y.1 = some c := fun y hy e => (ok.free y hy e).elim (fun k => I.ok.has _ (.inl k)) fun k => I.ok.has _ (.inr k)
  refine wpAny_comprehension_free rfl pa (closure_ok clo) ok.kind (fun y hy e => by rw [ok.uniq y hy, e]) (thn (hi.run pins s σ H _ I h) fun _ _ h1 => thn h1 ?_)
  rintro _ s2 ⟨it, fp, tn, J, H2, rfl, I2, T, st2, f2, q⟩
  refine wpAny_newObj_type (newEnv_comp ?_)
  generalize hD : s2.heap.objs.size = D
  have newD : H2 D = none := I2.hok.fresh (Nat.le_of_eq hD)
  obtain ⟨W, ⟨m0, w0⟩, turn⟩ := q D newD
  generalize hs3 : ({ s2 with heap := s2.heap.push { cls := .type "dict", data := .dict #[] } } : Shared) = s3
  have e3 : s3.heap = s2.heap.push { cls := .type "dict", data := .dict #[] } := by rw [← hs3]
  have I3 : L2.Inv X pins σ (upd H2 D (.dK [])) s3 := by
    rw [← hs3]
    exact I2.laid (t' := s2.toks) (fun b o e => Heap.get?_push_of_some _ e) (Nat.le_of_eq hD) (hD ▸ dk_empty s2.heap I2.big)
  have f3 : ∀ b ∈ fp, FpOk X pins (upd H2 D (.dK [])) b ∧ b < s3.heap.objs.size := fun b hb => by
    obtain ⟨o, e, _⟩ := T.obj _ _ st2 b hb
    have small := Heap.lt_size e
    refine ⟨⟨?_, (f2 b hb).2⟩, ?_⟩
    · rw [upd_ne (Nat.ne_of_lt (hD ▸ small))]
      exact (f2 b hb).1
    · rw [e3, Heap.size_push]
      exact Nat.lt_succ_of_lt small
  have st3 : tn 0 s3.heap := T.keep _ _ _ st2 fun b _ o e => by
    rw [e3]
    exact Heap.get?_push_of_some _ e
  have I4 := block_start I3 ok hN f3
  generalize hcl : cellsFrom (s3.heap.objs.size + 1) sc.names (cloFrom X.env.cells sc.names []) = cl at I4
  show codeAny _ _ (.compStart (two kx vx ta ia tb ib fa fb sc pos) 0 (.ref it) (.ref D) (compEnvC sc cl s3.heap.objs.size X.env)) (compPost (model X.prog X.w) X.A X.xe none (EP X pins σ Q) (.ref D) s3.heap.objs.size) { s3 with heap := pushCells (s3.heap.push { cls := .type "dict", data := .dict #[] }) sc.names }
  have none3 : ∀ b ∈ fp, (upd H2 D (.dK [])) b = none := fun b hb => (f3 b hb).1.1
  generalize hH3 : upd H2 D (.dK []) = H3 at I3 I4 w0 none3 f3
  have jga : PG (X.blk s3 H3 sc (compEnvC sc cl s3.heap.objs.size X.env) fp) ta ga := hga s3 H3 s3.heap.objs.size cl fp
  have jta : PTs (X.blk s3 H3 sc (compEnvC sc cl s3.heap.objs.size X.env) fp) fa tta := hta s3 H3 s3.heap.objs.size cl fp
  have jib : PI (X.blk s3 H3 sc (compEnvC sc cl s3.heap.objs.size X.env) fp) tb ib wb := hib s3 H3 s3.heap.objs.size cl fp
  have jgb : PG (X.blk s3 H3 sc (compEnvC sc cl s3.heap.objs.size X.env) fp) tb gb := hgb s3 H3 s3.heap.objs.size cl fp
  have jtb : PTs (X.blk s3 H3 sc (compEnvC sc cl s3.heap.objs.size X.env) fp) fb ttb := htb s3 H3 s3.heap.objs.size cl fp
  have jk : PE (X.blk s3 H3 sc (compEnvC sc cl s3.heap.objs.size X.env) fp) kx tk := hk s3 H3 s3.heap.objs.size cl fp
  have je : PE (X.blk s3 H3 sc (compEnvC sc cl s3.heap.objs.size X.env) fp) vx tv := he s3 H3 s3.heap.objs.size cl fp
  generalize hs4 : ({ s3 with heap := pushCells (s3.heap.push { cls := .type "dict", data := .dict #[] }) sc.names } : Shared) = s4 at I4 ⊢
  have st4 : tn 0 s4.heap := T.keep _ _ _ st3 fun b _ o e => by
    rw [← hs4]
    exact pushCells_keeps _ _ _ _ (Heap.get?_push_of_some _ e)
  generalize hce : compEnvC sc cl s3.heap.objs.size X.env = ce at I4 jga jta jib jgb jtb jk je ⊢
  have cL : ce.locals = s3.heap.objs.size := by
    subst hce
    rfl
  have free0 : ∀ {H' : Hp}, (∀ b ∈ fp, H' b = none) → ∀ b ∈ fp, FpOk (X.blk s3 H3 sc ce fp) [] H' b := fun n b hb =>
    ⟨n b hb, (I4.ok.exf b hb).1, I4.ok.exfs b hb, .inl hb, (I4.ok.exf b hb).2, fun p hp => nomatch (show p ∈ ([] : List (Addr × Obj)) from hp)⟩
  have loop : codeAny (model X.prog X.w) X.A (.compLoop (two kx vx ta ia tb ib fa fb sc pos) 0 (.ref it) (.ref D) ce) (compPost (model X.prog X.w) X.A X.xe none (EP X pins σ Q) (.ref D) s3.heap.objs.size) s4 := by
    refine loopA (pb ce) (fun n s' => ∃ i H', L2.Inv (X.blk s3 H3 sc ce fp) [] (wipe σ (own.map (·.2))) H' s' ∧ tn i s'.heap ∧ (∀ b ∈ fp, H' b = none) ∧ W i n H') ?_ m0 ⟨0, H3, I4, st4, none3, w0⟩
    rintro n s5 ⟨i, H5, I5, st5, n5, w5⟩
    rcases turn i n H5 w5 with ⟨stop, qq⟩ | ⟨go, Nx, hNx, step⟩
    · unfold Turned
      refine thnF (T.done (X.blk s3 H3 sc ce fp) rfl rfl rfl hc i [] s5 _ H5 (fun _ _ => False) I5 (free0 n5) st5 stop) ?_
      rintro _ s6 ⟨rfl, I6⟩
      have I7 : L2.Inv X pins σ H5 s6 := I3.call' (ch := fp) I6.os I6.base I6.hok I6.bare fun b hb => by
        obtain ⟨⟨_, a1, _, a3, a4, a5⟩, _⟩ := f3 b hb
        exact ⟨a3, a1, a4, a5⟩
      have nC : H5 s3.heap.objs.size = none := cL ▸ (show H5 ce.locals = none from I6.free)
      obtain ⟨m, hn, _⟩ := I6.loc
      have hn : s6.heap.Ns s3.heap.objs.size m := cL ▸ (show s6.heap.Ns ce.locals m from hn)
      obtain ⟨g0, g1, _, g3, g4, g5⟩ := I3.fpOk (H' := H5) (Nat.le_refl _) nC
      exact ⟨m, hn, fun h2 sb => ⟨.ref D, H5, I7.turned (t' := s6.toks) (fun b o hb e => (sb.2 b hb).trans e) g0 g1 g3 g4 g5, rfl, qq⟩⟩
    · refine clause (Y := X.blk s3 H3 sc ce fp) rfl hc T jga jta I5 free0 n5 st5 go step ?_
      intro s6 s7 σ7 b H7 st6 w7 I7 q7
      have hl7 : (wipe σ (own.map (·.2))).length = σ7.length := by rw [← w7, wipe_length]
      have fin : ∀ {σ8 : L2.St} {s8 : Shared} {H8 : Hp}, L2.Inv (X.blk s3 H3 sc ce fp) ([] ++ pinsAt fp s6.heap) σ8 H8 s8 → (wipe σ (own.map (·.2))).length = σ8.length → (∀ (j : Nat) v, (wipe σ (own.map (·.2)))[j]? = some (some v) → σ8[j]? = some (some v)) → Nx H8 →
          ∃ m, m < n ∧ ∃ i H', L2.Inv (X.blk s3 H3 sc ce fp) [] (wipe σ (own.map (·.2))) H' s8 ∧ tn i s8.heap ∧ (∀ b ∈ fp, H' b = none) ∧ W i m H' := by
        intro σ8 s8 H8 I8 hl hk nx
        obtain ⟨m', hm, w'⟩ := hNx H8 nx
        obtain ⟨t1, t2⟩ := walk_stays (Y := X.blk s3 H3 sc ce fp) T st6 I8
        exact ⟨m', hm, i + 1, H8, (I8.unpinned (pins := [])).weak hl hk, t1, t2, w'⟩
      cases b with
      | false =>
        rw [if_neg (by decide)] at q7 ⊢
        exact fin I7 hl7 (fun j v e => (wipe_some (w7.symm ▸ e)).1) q7
      | true =>
        rw [if_pos rfl] at q7 ⊢
        refine thnF (jib.run _ s7 σ7 H7 _ I7 q7) fun _ s8 h8 => thnF h8 ?_
        rintro _ s9 ⟨it1, fp1, tn1, J1, H9, rfl, I9, T1, st9, f9, W1, ⟨m1, w1⟩, turn1⟩
        have free1 : ∀ {H' : Hp}, (∀ b ∈ fp1, H' b = none) → ∀ b ∈ fp1, FpOk (X.blk s3 H3 sc ce fp) ([] ++ pinsAt fp s6.heap) H' b := fun n b hb => ⟨n b hb, (f9 b hb).2⟩
        have loop1 : codeAny (model X.prog X.w) X.A (.compLoop (two kx vx ta ia tb ib fa fb sc pos) 1 (.ref it1) (.ref D) ce) (fun r s' => (∃ f, r = .ok f) ∧ ∃ m, m < n ∧ ∃ i H', L2.Inv (X.blk s3 H3 sc ce fp) [] (wipe σ (own.map (·.2))) H' s' ∧ tn i s'.heap ∧ (∀ b ∈ fp, H' b = none) ∧ W i m H') s9 := by
          refine loopB (fun k s' => ∃ j H', L2.Inv (X.blk s3 H3 sc ce fp) ([] ++ pinsAt fp s6.heap) (wipe σ7 vs1) H' s' ∧ tn1 j s'.heap ∧ (∀ b ∈ fp1, H' b = none) ∧ W1 j k H') ?_ m1 ⟨0, H9, I9.weak (wipe_length _ _) (fun j v e => (wipe_some e).1), st9, fun b hb => (f9 b hb).1, w1⟩
          rintro k s10 ⟨j, H10, I10, st10, n10, w10⟩
          rcases turn1 j k H10 w10 with ⟨stop1, nx1⟩ | ⟨go1, Nx1, hNx1, step1⟩
          · unfold Turned
            refine thnF (T1.done (X.blk s3 H3 sc ce fp) rfl rfl rfl hc j _ s10 (wipe σ7 vs1) H10 (fun _ _ => False) I10 (free1 n10) st10 stop1) ?_
            rintro _ s11 ⟨rfl, I11⟩
            refine ⟨⟨_, rfl⟩, fin I11 (hl7.trans (wipe_length σ7 vs1).symm) (fun j v e => ?_) nx1⟩
            obtain ⟨e1, e2⟩ := wipe_some (w7.symm ▸ e)
            rw [wipe_out fun z => e2 (hv j z)]
            exact e1
          · refine clause (Y := X.blk s3 H3 sc ce fp) rfl hc T1 jgb jtb I10 free1 n10 st10 go1 step1 ?_
            intro s11 s12 σ12 b1 H12 st11 w12 I12 q12
            have fin1 : ∀ {s' : Shared} {H' : Hp}, L2.Inv (X.blk s3 H3 sc ce fp) (([] ++ pinsAt fp s6.heap) ++ pinsAt fp1 s11.heap) σ12 H' s' → Nx1 H' → ∃ m, m < k ∧ ∃ j H', L2.Inv (X.blk s3 H3 sc ce fp) ([] ++ pinsAt fp s6.heap) (wipe σ7 vs1) H' s' ∧ tn1 j s'.heap ∧ (∀ b ∈ fp1, H' b = none) ∧ W1 j m H' := by
              intro s' H' I' nx
              obtain ⟨m', hm, w'⟩ := hNx1 H' nx
              obtain ⟨t1, t2⟩ := walk_stays (Y := X.blk s3 H3 sc ce fp) T1 st11 I'
              exact ⟨m', hm, j + 1, H', I'.unpinned.weak (by rw [← w12, wipe_length]) (fun i v e => (wipe_some (w12.symm ▸ e)).1), t1, t2, w'⟩
            cases b1 with
            | false =>
              rw [if_neg (by decide)] at q12 ⊢
              exact fin1 I12 q12
            | true =>
              rw [if_pos rfl] at q12 ⊢
              refine thnF (jk.run _ s12 σ12 H12 _ I12 q12) ?_
              rintro a s13 ⟨ya, H13, I13, ra, q13⟩
              refine thnF (je.run _ s13 σ12 H13 _ I13 q13) ?_
              rintro b s14 ⟨yb, H14, I14, rb, kvs, key, rfl, hD14, small, nx⟩
              exact d_dictSet (X := X.blk s3 H3 sc ce fp) I14 hD14 small ra rb fun s15 I15 => fin1 I15 nx
        exact startB loop1 (T1.self X.A 0 _ _ _ st9 loop1)
  exact codeAny_compStart_dict loop (T.self X.A 0 _ _ _ st4 loop)
end
end Wl

namespace Wl
open PySem PySem.Spec PyProof.Rows L2
/-- the heap keeps all but its lists -/
def Keep (H H' : Hp) : Prop := ∀ p o, (∀ xs, o ≠ .lst xs) → H p = some o → H' p = some o
theorem Keep.refl (H : Hp) : Keep H H := fun _ _ _ h => h
theorem Keep.trans {H H1 H2 : Hp} (a : Keep H H1) (b : Keep H1 H2) : Keep H H2 := fun p o n h => b p o n (a p o n h)
theorem kp_same {H H' : Hp} (s : Same H H') : Keep H H' := fun p o _ h => s p _ h
theorem kp_x {a : Addr} {H H' : Hp} {ys : List V} (s : SameX a H H') (ha : H a = some (.lst ys)) : Keep H H' := fun p o n h => s p _ (fun e => by
  subst e
  rw [ha] at h
  exact n _ (Option.some.inj h).symm) h
theorem kp_upd {a : Addr} {H : Hp} {ys : List V} {o : HO} (ha : H a = some (.lst ys)) : Keep H (upd H a o) := kp_x sameX_upd ha
theorem kp_new {p : Addr} {H : Hp} {o : HO} (hp : H p = none) : Keep H (upd H p o) := kp_same (same_new hp)
theorem Keep.tk {H H' : Hp} (k : Keep H H') : TupKeep H H' := fun p xs h => k p _ (fun ys e => by cases e) h
theorem tk_updD {a : Addr} {H : Hp} {kvs : List (Key × V)} {o : HO} (ha : H a = some (.dK kvs)) : TupKeep H (upd H a o) := fun p xs h => by
  rw [upd_ne (ne_of h ha (by intro z; cases z))]
  exact h
/-- the dict's pairs tell these spots -/
def Ent (H : Hp) (kv : Key × V) (s : Str × Nat × Nat) : Prop := kv.1 = Sum.inr s.1 ∧ ∃ t, kv.2 = .ref t ∧ H t = some (.tup [.int s.2.1, .int s.2.2])
def SpotsAt (H : Hp) (d : Addr) (sp : List (Str × Nat × Nat)) : Prop := ∃ kvs, H d = some (.dK kvs) ∧ Each (Ent H) kvs sp
theorem ent_keep {H H' : Hp} (k : TupKeep H H') {kvs : List (Key × V)} {sp : List (Str × Nat × Nat)} (h : Each (Ent H) kvs sp) : Each (Ent H') kvs sp :=
  Each.mono (fun _ _ ⟨e, t, e2, ht⟩ => ⟨e, t, e2, k _ _ ht⟩) h
theorem SpotsAt.keep {H H' : Hp} {d : Addr} {sp : List (Str × Nat × Nat)} (h : SpotsAt H d sp) (k : Keep H H') : SpotsAt H' d sp := by
  obtain ⟨kvs, h1, h2⟩ := h
  exact ⟨kvs, k _ _ (fun ys e => by cases e) h1, ent_keep k.tk h2⟩
theorem ent_none {H : Hp} {z : Str} : ∀ {kvs : List (Key × V)} {sp : List (Str × Nat × Nat)}, Each (Ent H) kvs sp → z ∉ sp.map (·.1) → valV kvs (Sum.inr z : Key) = none
  | _, _, .nil, _ => rfl
  | _, _, .cons (a := kv) (b := s) r t, h => by
    rw [List.map_cons, List.mem_cons, not_or] at h
    rw [valV_neg (fun e => h.1 (Sum.inr.inj (e.symm.trans r.1)))]
    exact ent_none t h.2
theorem ent_some {H : Hp} {z : Str} {r c : Nat} : ∀ {kvs : List (Key × V)} {sp : List (Str × Nat × Nat)}, Each (Ent H) kvs sp → (sp.map (·.1)).Nodup → (z, r, c) ∈ sp → ∃ t, valV kvs (Sum.inr z : Key) = some (.ref t) ∧ H t = some (.tup [.int r, .int c])
  | _, _, .nil, _, h => by cases h
  | _, _, .cons (a := kv) (b := s) e t, nd, h => by
    obtain ⟨n1, n2⟩ := List.nodup_cons.mp nd
    rcases List.mem_cons.mp h with h | h
    · subst h
      obtain ⟨e1, u, e2, hu⟩ := e
      exact ⟨u, by rw [valV_pos e1, e2], hu⟩
    · have ne : ¬ s.1 = z := fun q => n1 (List.mem_map.mpr ⟨_, h, q.symm⟩)
      obtain ⟨u, e2, hu⟩ := ent_some t n2 h
      exact ⟨u, by rw [valV_neg (fun q => ne (Sum.inr.inj (e.1.symm.trans q)))]; exact e2, hu⟩
theorem ent_keys {H : Hp} : ∀ {kvs : List (Key × V)} {sp : List (Str × Nat × Nat)}, Each (Ent H) kvs sp → kvs.map (fun kv => kV kv.1) = (sp.map (·.1)).map V.str
  | _, _, .nil => rfl
  | _, _, .cons e t => by
    rw [List.map_cons, List.map_cons, List.map_cons, ent_keys t, e.1]
    rfl
section
variable {P : Program} {w : World} {K : PySem.W.Frag} {mg : Str → Option Value} {base : Heap} {f : Addr} {fd : FuncData}
/-! ### wrong_spot of a good grid -/
def spWrong : Sp := fun vs H Q _ => ∃ (L : Addr) (g : Grid) (wd : Nat), vs = [.ref L] ∧ GridAt H L g ∧ Good g wd ∧ ∀ (H' : Hp), Same H H' → Q .non H'
abbrev nWrong : List Str := ["rows", "names", "at", "row", "column", "part"]
theorem scWrong : FnScope nWrong ["rows"] (defScope sWrong) := ⟨rfl, rfl, rfl, by decide +kernel, rfl, by decide +kernel, by decide +kernel⟩
theorem take_snoc {α : Type} {l : List α} {i : Nat} {x : α} (h : l[i]? = some x) : l.take (i + 1) = l.take i ++ [x] := by
  rw [List.take_add_one, h]
  rfl
theorem len_take {α : Type} {l : List α} {i : Nat} {x : α} (h : l[i]? = some x) : (l.take i).length = i := by
  have := (List.getElem?_eq_some_iff.mp h).1
  rw [List.length_take]
  omega
/-- a name isn't among those ahead of it -/
theorem ahead_new {g : Grid} {wd : Nat} (gd : Good g wd) {i j : Nat} {row : Row} {z : Str} (hrow : g[i]? = some row) (ho : row[j]? = some (some z)) : z ∉ (spG 0 (g.take i) ++ spR i 0 (row.take j)).map (·.1) := by
  have hcz : cellAt g i j = some z := cellAt_of hrow ho
  intro hm
  obtain ⟨⟨y, r', c'⟩, hm2, rfl⟩ := List.mem_map.mp hm
  have hlt : (r', c') = (i, j) := by
    have hc2 : cellAt g r' c' = some y := by
      rcases List.mem_append.mp hm2 with h | h
      · obtain ⟨k, row2, e, h1, h2⟩ := (spG_mem _ 0).mp h
        have : r' = k := by omega
        subst this
        rw [List.getElem?_take] at h1
        split at h1
        · exact cellAt_of h1 h2
        · cases h1
      · obtain ⟨e, k, e2, h1⟩ := (spR_mem i _ 0).mp h
        have : c' = k := by omega
        subst this e
        rw [List.getElem?_take] at h1
        split at h1
        · exact cellAt_of hrow h1
        · cases h1
    obtain ⟨h1, h2⟩ := cell_inj gd.nd hc2 hcz
    rw [h1, h2]
  cases hlt
  rcases List.mem_append.mp hm2 with h | h
  · obtain ⟨k, row2, e, h1, h2⟩ := (spG_mem _ 0).mp h
    rw [List.getElem?_take] at h1
    split at h1
    · omega
    · cases h1
  · obtain ⟨e, k, e2, h1⟩ := (spR_mem i _ 0).mp h
    rw [List.getElem?_take] at h1
    split at h1
    · omega
    · cases h1
theorem ahead_len {g : Grid} {wd : Nat} (gd : Good g wd) {i j : Nat} {row : Row} (hrow : g[i]? = some row) : ((spG 0 (g.take i) ++ spR i 0 (row.take j)).map (·.1)).length ≤ 42 := by
  rw [List.map_append, spG_fst, spR_fst, List.length_append]
  have a1 := len_names (g := g.take i) (wd := wd) fun r hr => gd.rows r (List.mem_of_mem_take hr)
  have a2 : (g.take i).length ≤ 6 := by rw [List.length_take]; have := gd.h6; omega
  have a3 : (g.take i).length * wd ≤ 6 * 6 := Nat.mul_le_mul a2 gd.w6
  have a4 : (rnames (row.take j)).length ≤ (row.take j).length := List.length_filterMap_le id _
  have a5 : (row.take j).length ≤ row.length := List.length_take_le' _ _
  have a6 := gd.rows row (List.mem_of_getElem? hrow)
  have a7 := gd.w6
  omega
theorem ahead_snoc {g : Grid} {i j : Nat} {row : Row} {o : Option Str} (ho : row[j]? = some o) : spG 0 (g.take i) ++ spR i 0 (row.take (j + 1)) = spG 0 (g.take i) ++ spR i 0 (row.take j) ++ (o.toList.map fun z => (z, i, j)) := by
  rw [take_snoc ho, spR_snoc, len_take ho, Nat.zero_add, List.append_assoc]
theorem ok_wrong (F : Fun K "wrong_spot" "wrong_spot" sWrong f fd) (B : Bi mg) (hI : Has P w K mg base "is_word" 1 ["thing"] spIsWord) : FnOk P w K mg base CX0 2 f fd ["rows"] spWrong := by
  refine F.ok scWrong (fun vs H Q E h => ?_) (fun cdv A outer s H vs Q E hr h => ?_)
  · obtain ⟨L, g, wd, rfl, _⟩ := h
    rfl
  · obtain ⟨L, g, wd, rfl, hG, gd, q⟩ := h
    refine ⟨_, pss_cons (ps_set (i := 1) scWrong.nd rfl (.inl rfl) (pe_lst pa_nil))
      (pss_cons (ps_for PassesOwn.never rfl (pi_enumT (by rfl) B.enum (pa_cons (pv 0) pa_nil)) (pg_tup rfl (pgs_cons (pg_name (i := 2) scWrong.nd rfl (.inl rfl)) (pgs_cons (pg_name (i := 3) scWrong.nd rfl (.inl rfl)) pgs_nil)))
        (pss_one (ps_for PassesOwn.never rfl (pi_enumT (by rfl) B.enum (pa_cons (pv 3) pa_nil)) (pg_tup rfl (pgs_cons (pg_name (i := 4) scWrong.nd rfl (.inl rfl)) (pgs_cons (pg_name (i := 5) scWrong.nd rfl (.inl rfl)) pgs_nil)))
          (pss_cons (ps_if (pt_cmp (pc_isN (pv 5))) (pss_one ps_continue) pss_nil)
          (pss_cons (ps_if (PW.pt (pw_or (pt_not (pt_val (pe_h hI hr (pa_cons (pv 5) pa_nil)))) (pw_or1 (pt_cmpR op_in_seq (pv 5) (pv 1) (by rfl))))) (pss_one ps_never) pss_nil)
          (pss_one (ps_expr (pe_bm PySem.F.plainAttrs_list PySem.F.slot_list_append PySem.F.type_list_append mt_append (pv 1) (pa_cons (pv 5) pa_nil)))))))))
      (pss_one (ps_ret pe_non))), ?_⟩
    refine ⟨lz, fun d hd => ?_⟩
    obtain ⟨as, hL, hR⟩ := id hG
    have s0 : Same H (upd H d (.lst [])) := same_new hd
    refine ⟨_, rfl, L, _, rfl, .inl (.inl (s0 _ _ hL)), for_it (walk_enumT (K := K) (a := L) (xs := as.map V.ref)) (fun i σ H' => (∃ y2 y3 y4 y5, σ = [some (.ref L), some (.ref d), y2, y3, y4, y5]) ∧ Same H H' ∧ H' d = some (.lst (((spG 0 (g.take i)).map (·.1)).map V.str)))
      ⟨⟨_, _, _, _, rfl⟩, s0, upd_same⟩ (fun i σ H' _ h => .inl (.inl (h.2.1 _ _ hL))) ?_ ?_⟩
    · rintro i x σ H1 H2 hi ⟨⟨y2, y3, y4, y5, rfl⟩, s1, hd1⟩ ⟨T, x1, x2, rfl, hT, rfl, ex1, ex2⟩
      cases ex1
      have ex2 : (as.map V.ref)[i]? = some x2 := ex2
      rw [List.getElem?_map] at ex2
      obtain ⟨p, hp, rfl⟩ := Option.map_eq_some_iff.mp ex2
      obtain ⟨row, hrow, hH⟩ := hR.get hp
      have s2 : Same H1 (upd H1 T (.tup [.int i, .ref p])) := same_new hT
      have hp2 := s2 _ _ (s1 _ _ hH)
      refine ⟨T, _, rfl, .inl (.inl upd_same), rfl, _, _, rfl, _, _, rfl, rfl, ?_⟩
      refine ⟨_, rfl, p, _, rfl, .inl (.inl hp2), for_it (walk_enumT (K := K) (a := p) (xs := row.map oV)) (fun j σ H' => (∃ y4 y5, σ = [some (.ref L), some (.ref d), some (.int i), some (.ref p), y4, y5]) ∧ Same H H' ∧ H' d = some (.lst (((spG 0 (g.take i) ++ spR i 0 (row.take j)).map (·.1)).map V.str)))
        ⟨⟨_, _, rfl⟩, s1.trans s2, by simpa [spR] using s2 _ _ hd1⟩ (fun j σ H' _ h => .inl (.inl (h.2.1 _ _ hH))) ?_ ?_⟩
      · rintro j x σ H3 H4 hj ⟨⟨z4, z5, rfl⟩, s3, hd3⟩ ⟨T2, x1, x2, rfl, hT2, rfl, ex1, ex2⟩
        cases ex1
        have ex2 : (row.map oV)[j]? = some x2 := ex2
        rw [List.getElem?_map] at ex2
        obtain ⟨o, ho, rfl⟩ := Option.map_eq_some_iff.mp ex2
        have s4 : Same H3 (upd H3 T2 (.tup [.int j, oV o])) := same_new hT2
        refine ⟨T2, _, rfl, .inl (.inl upd_same), rfl, _, _, rfl, _, _, rfl, rfl, ?_⟩
        cases o with
        | none =>
          refine ⟨_, rfl, _, rfl, iteT ?_⟩
          refine ⟨⟨_, _, rfl⟩, s3.trans s4, ?_⟩
          rw [ahead_snoc ho]
          simpa using s4 _ _ hd3
        | some z =>
          have hzw : IsWd z := gd.wd z (mem_names.mpr ⟨i, j, cellAt_of hrow ho⟩)
          refine ⟨_, rfl, _, rfl, iteF ?_⟩
          refine ⟨_, rfl, z, rfl, by have := hzw.len; omega, fun H5 s5 => ⟨_, rfl, ?_⟩⟩
          rw [show wdB z = true from hzw]
          have hd5 := s5 _ _ (s4 _ _ hd3)
          have hin : inV (.str z) (((spG 0 (g.take i) ++ spR i 0 (row.take j)).map (·.1)).map V.str) = false := by
            rw [inV_strs]
            exact decide_eq_false (ahead_new gd hrow ho)
          refine iteF ⟨_, rfl, _, rfl, d, _, rfl, .inl (.inl (.inl hd5)), rfl, flat_strs _, false, ?_, ?_⟩
          · exact congrArg V.bl hin
          refine iteF ⟨_, rfl, .inl ⟨rfl, _, .inl (.inl hd5)⟩, _, rfl, d, _, _, rfl, rfl, hd5, ?_, ?_⟩
          · rw [List.length_map]
            exact small1000 (by have := ahead_len gd hrow (j := j); omega)
          · refine ⟨⟨_, _, rfl⟩, same_mut ((s3.trans s4).trans s5) hd, ?_⟩
            rw [upd_same, ahead_snoc ho]
            simp [oV]
      · rintro σ H3 ⟨⟨z4, z5, rfl⟩, s3, hd3⟩
        refine ⟨⟨_, _, _, _, rfl⟩, s3, ?_⟩
        rw [List.length_map, List.take_length] at hd3
        rw [take_snoc hrow, spG_snoc, len_take hrow, Nat.zero_add]
        exact hd3
    · rintro σ H3 ⟨⟨y2, y3, y4, y5, rfl⟩, s3, hd3⟩
      exact q H3 s3
/-! ### spots_in of a good grid -/
def spSpotsIn : Sp := fun vs H Q _ => ∃ (L : Addr) (g : Grid) (wd : Nat), vs = [.ref L] ∧ GridAt H L g ∧ Good g wd ∧
  ∀ (d : Addr) (H' : Hp), H d = none → Same H H' → SpotsAt H' d (spG 0 g) → Q (.ref d) H'
abbrev nSpotsIn : List Str := ["rows", "at", "row", "column", "part"]
theorem scSpotsIn : FnScope nSpotsIn ["rows"] (defScope sSpotsIn) := ⟨rfl, rfl, rfl, by decide +kernel, rfl, by decide +kernel, by decide +kernel⟩
theorem ok_spotsin (F : Fun K "spots_in" "spots_in" sSpotsIn f fd) (B : Bi mg) : FnOk P w K mg base CX0 1 f fd ["rows"] spSpotsIn := by
  refine F.ok scSpotsIn (fun vs H Q E h => ?_) (fun cdv A outer s H vs Q E hr h => ?_)
  · obtain ⟨L, g, wd, rfl, _⟩ := h
    rfl
  · obtain ⟨L, g, wd, rfl, hG, gd, q⟩ := h
    refine ⟨_, pss_one (ps_ret (pe_dc2 (own := [("at", 1), ("row", 2), ("column", 3), ("part", 4)]) (vs1 := [3, 4]) (ga := gTup K 2 (gCons (gName 1) (gCons (gName 2) gNil))) (tta := tYes) (wb := iEnumT K (tCons (tVar 2) tNil)) (gb := gTup K 2 (gCons (gName 3) (gCons (gName 4) gNil))) (ttb := tB (tNotN (tVar 4))) (tk := tVar 4) (tv := tTup (tCons (tVar 1) (tCons (tVar 3) tNil))) rfl scSpotsIn.nd (pi_enumT (by rfl) B.enum (pa_cons (pv 0) pa_nil)) (blkOk_by (N := nSpotsIn) (sc := defScope sSpotsIn) (by decide +kernel)) (by decide)
      (fun _ _ _ _ _ => pg_tup rfl (pgs_cons (pg_name (i := 1) scSpotsIn.nd rfl (.inl rfl)) (pgs_cons (pg_name (i := 2) scSpotsIn.nd rfl (.inl rfl)) pgs_nil))) (fun _ _ _ _ _ => pts_nil)
      (fun _ _ _ _ _ => pi_enumT (by rfl) B.enum (pa_cons (pv 2) pa_nil)) (fun _ _ _ _ _ => pg_tup rfl (pgs_cons (pg_name (i := 3) scSpotsIn.nd rfl (.inl rfl)) (pgs_cons (pg_name (i := 4) scSpotsIn.nd rfl (.inl rfl)) pgs_nil)))
      (fun _ _ _ _ _ => pts_one (pt_cmp (pc_notN (pv 4)))) (fun _ _ _ _ _ => pv 4) (fun _ _ _ _ _ => pe_tup (pa_cons (pv 1) (pa_cons (pv 3) pa_nil))))), ?_⟩
    obtain ⟨as, hL, hR⟩ := id hG
    refine ⟨_, rfl, L, _, rfl, .inl (.inl hL), fun d hd => dc2_it (walk_enumT (K := K) (a := L) (xs := as.map V.ref)) (fun i H' => Same H H' ∧ SpotsAt H' d (spG 0 (g.take i))) ⟨same_new hd, [], upd_same, .nil⟩ (fun i H' _ h => .inl (.inl (h.1 _ _ hL))) ?_ ?_⟩
    · rintro i x H1 H2 hi ⟨s1, kvs1, hd1, e1⟩ ⟨T, x1, x2, rfl, hT, rfl, ex1, ex2⟩
      cases ex1
      have ex2 : (as.map V.ref)[i]? = some x2 := ex2
      rw [List.getElem?_map] at ex2
      obtain ⟨p, hp, rfl⟩ := Option.map_eq_some_iff.mp ex2
      obtain ⟨row, hrow, hH⟩ := hR.get hp
      have s2 : Same H1 (upd H1 T (.tup [.int i, .ref p])) := same_new hT
      have hp2 := s2 _ _ (s1 _ _ hH)
      refine ⟨T, _, rfl, .inl (.inl upd_same), rfl, _, _, rfl, _, _, rfl, rfl, rfl, yes_it ?_⟩
      refine ⟨_, rfl, p, _, rfl, .inl (.inl hp2), inn_it (walk_enumT (K := K) (a := p) (xs := row.map oV)) (fun j H' => Same H H' ∧ SpotsAt H' d (spG 0 (g.take i) ++ spR i 0 (row.take j)))
        ⟨s1.trans s2, kvs1, s2 _ _ hd1, by simpa [spR] using ent_keep (tk_same s2) e1⟩ (fun j H' _ h => .inl (.inl (h.1 _ _ hH))) ?_ ?_⟩
      · rintro j x H3 H4 hj ⟨s3, kvs3, hd3, e3⟩ ⟨T2, x1, x2, rfl, hT2, rfl, ex1, ex2⟩
        cases ex1
        have ex2 : (row.map oV)[j]? = some x2 := ex2
        rw [List.getElem?_map] at ex2
        obtain ⟨o, ho, rfl⟩ := Option.map_eq_some_iff.mp ex2
        have s4 : Same H3 (upd H3 T2 (.tup [.int j, oV o])) := same_new hT2
        refine ⟨T2, _, rfl, .inl (.inl upd_same), rfl, _, _, rfl, _, _, rfl, rfl, rfl, ?_⟩
        cases o with
        | none =>
          refine ⟨_, rfl, _, rfl, iteF ?_⟩
          refine ⟨s3.trans s4, kvs3, s4 _ _ hd3, ?_⟩
          rw [ahead_snoc ho]
          simpa using ent_keep (tk_same s4) e3
        | some z =>
          refine ⟨_, rfl, _, rfl, iteT ?_⟩
          have hd5 := s4 _ _ hd3
          have e5 := ent_keep (tk_same s4) e3
          have hv : valV kvs3 (Sum.inr z : Key) = none := ent_none e5 (ahead_new gd hrow ho)
          refine ⟨_, rfl, _, rfl, _, rfl, lz, fun T6 hT6 => ?_⟩
          have hd6 := (same_new (o := .tup [.int i, .int j]) hT6) _ _ hd5
          refine ⟨kvs3, Sum.inr z, rfl, hd6, ?_, same_mut ((s3.trans s4).trans (same_new hT6)) hd, kvs3 ++ [(Sum.inr z, .ref T6)], ?_, ?_⟩
          · have h1 := e5.length
            have h2 := ahead_len gd hrow (j := j)
            rw [List.length_map] at h2
            exact small1000 (by omega)
          · rw [putK_new _ hv, upd_same]
          · rw [ahead_snoc ho]
            refine Each.append (ent_keep (tk_updD hd6) (ent_keep (tk_new hT6) e5)) (.cons ⟨rfl, T6, rfl, ?_⟩ .nil)
            exact (tk_updD hd6) _ _ upd_same
      · rintro H3 ⟨s3, kvs3, hd3, e3⟩
        refine ⟨s3, kvs3, hd3, ?_⟩
        rw [List.length_map, List.take_length] at e3
        rw [take_snoc hrow, spG_snoc, len_take hrow, Nat.zero_add]
        exact e3
    · rintro H3 ⟨s3, kvs3, hd3, e3⟩
      have hlen : (as.map V.ref).length = g.length := by rw [List.length_map, hR.length]
      rw [hlen, List.take_length] at e3
      exact q d H3 hd s3 ⟨kvs3, hd3, e3⟩
/-! ### checked_spots of a good grid -/
def spSpots : Sp := fun vs H Q _ => ∃ (L : Addr) (g : Grid) (wd : Nat), vs = [.ref L] ∧ GridAt H L g ∧ Good g wd ∧
  ∀ (d : Addr) (H' : Hp), H d = none → Same H H' → SpotsAt H' d (spG 0 g) → Q (.ref d) H'
abbrev nSpots : List Str := ["rows", "wrong", "spots"]
theorem scSpots : FnScope nSpots ["rows"] (defScope sSpots) := ⟨rfl, rfl, rfl, by decide +kernel, rfl, by decide +kernel, by decide +kernel⟩
theorem ok_spots (F : Fun K "checked_spots" "checked_spots" sSpots f fd) (hA : Has P w K mg base "are_rows" 1 ["thing"] spAreRows) (hW : Has P w K mg base "wrong_spot" 2 ["rows"] spWrong) (hS : Has P w K mg base "spots_in" 1 ["rows"] spSpotsIn) :
    FnOk P w K mg base CX0 3 f fd ["rows"] spSpots := by
  refine F.ok scSpots (fun vs H Q E h => ?_) (fun cdv A outer s H vs Q E hr h => ?_)
  · obtain ⟨L, g, wd, rfl, _⟩ := h
    rfl
  · obtain ⟨L, g, wd, rfl, hG, gd, q⟩ := h
    refine ⟨_, pss_cons (ps_if (pt_not (pt_val (pe_h hA hr (pa_cons (pv 0) pa_nil)))) (pss_one ps_never) pss_nil)
      (pss_cons (ps_set (i := 1) scSpots.nd rfl (.inl rfl) (pe_h hW hr (pa_cons (pv 0) pa_nil)))
      (pss_cons (ps_if (pt_cmp (pc_notN (pv 1))) (pss_one ps_never) pss_nil)
      (pss_cons (ps_set (i := 2) scSpots.nd rfl (.inl rfl) (pe_h hS hr (pa_cons (pv 0) pa_nil)))
      (pss_cons (ps_if (pt_not (pt_truth (pv 2) (by intro _; rfl))) (pss_one ps_never) pss_nil)
      (pss_one (ps_ret (pv 2))))))), ?_⟩
    refine ⟨_, rfl, L, g, wd, rfl, hG, gd, true, rfl, iteF ?_⟩
    refine ⟨_, rfl, L, g, wd, rfl, hG, gd, fun H1 s1 => ⟨_, rfl, _, rfl, iteF ?_⟩⟩
    have hG1 : GridAt H1 L g := hG.keep (tk_same s1)
    refine ⟨_, rfl, L, g, wd, rfl, hG1, gd, fun d H2 hd s2 ⟨kvs, hk, he⟩ => ?_⟩
    have hne : kvs.isEmpty = false := by
      cases kvs with
      | nil =>
        have h1 := he.length
        have h2 : ((spG 0 g).map (·.1)).length = (names g).length := by rw [spG_fst]
        rw [List.length_map] at h2
        have h3 : names g = [] := List.eq_nil_of_length_eq_zero (by rw [← h2, ← h1]; rfl)
        exact absurd h3 gd.ne
      | cons a r => rfl
    refine ⟨_, rfl, _, .inr (.inr ⟨kvs, hk, rfl⟩), ?_⟩
    rw [hne]
    refine iteF ⟨_, rfl, q d H2 (s1.free hd) (s1.trans s2) ⟨kvs, hk, he⟩⟩
end
end Wl

namespace Wl
open PySem PySem.Spec PyProof.Rows L2
section
variable {J : It} {ys : List V} {G : Hp → Prop} {slot slot1 : Nat} {wi1 : TI} {tt1 : TT} {te : TE} {vs vs1 : List Nat} {σ : L2.St} {H1 : Hp} {D : Addr} {Qd : Hp → Prop}
theorem flat_take_snoc {α β : Type} {f : α → List β} {ys : List α} {i : Nat} {x : α} (h : ys[i]? = some x) : (ys.take (i + 1)).flatMap f = (ys.take i).flatMap f ++ f x := by
  rw [List.take_add_one, h, List.flatMap_append]
  simp
/-- [e for x in ys for y in inn x if t]: the heap only growing -/
theorem lc2_rel (w : L2.Walk J ys.length G (YAt ys)) (hD : H1 D = none) (inn : V → List V) (keep : V → V → Bool) (R : V → V → V → Hp → Prop) (N : Nat)
    (hG : ∀ H, Same H1 H → G H)
    (hw : ∀ x, wipe ((wipe σ vs).set slot (some x)) vs = wipe σ vs)
    (hw1 : ∀ x y, wipe ((wipe ((wipe σ vs).set slot (some x)) vs1).set slot1 (some y)) vs1 = wipe ((wipe σ vs).set slot (some x)) vs1)
    (hi : ∀ (x : V) (H : Hp) (acc : List V), x ∈ ys → Same H1 H → H D = some (.lst acc) → ∀ Rr : It → Hp → Prop,
      (∀ J1 H4 G1, Same H H4 → L2.Walk J1 (inn x).length G1 (YAt (inn x)) → (∀ H', SameX D H4 H' → G1 H') → Rr J1 H4) → wi1 ((wipe σ vs).set slot (some x)) H Rr)
    (ht : ∀ (x y : V) (H : Hp), x ∈ ys → y ∈ inn x → Same H1 H → ∀ Q : Bool → Hp → Prop, Q (keep x y) H → tt1 ((wipe ((wipe σ vs).set slot (some x)) vs1).set slot1 (some y)) H Q)
    (he : ∀ (x y : V) (H : Hp), x ∈ ys → y ∈ inn x → keep x y = true → Same H1 H → ∀ Q : VK, (∀ z H', Same H H' → R x y z H' → Q z H') → te ((wipe ((wipe σ vs).set slot (some x)) vs1).set slot1 (some y)) H Q)
    (hR : ∀ x y z H H' acc, H D = some (.lst acc) → SameX D H H' → R x y z H → R x y z H')
    (hl : ∀ x ∈ ys, (inn x).length ≤ N) (hn : ys.length * N < sizeLine)
    (hd : ∀ zs H, Same H1 H → H D = some (.lst zs) → Each (fun (xy : V × V) z => R xy.1 xy.2 z H) (ys.flatMap fun x => ((inn x).filter (keep x)).map fun y => (x, y)) zs → Qd H) :
    ∃ W : Nat → Nat → Hp → Prop, (∃ m, W 0 m (upd H1 D (.lst []))) ∧ ∀ i m H, W i m H →
      (J.stop i H ∧ Qd H) ∨ (J.go i H ∧ ∃ Nx : Hp → Prop, (∀ H', Nx H' → ∃ m', m' < m ∧ W (i + 1) m' H') ∧ ∀ x H', J.yld i H x H' → gName slot x (wipe σ vs) H' fun σ2 H2 => wipe σ2 vs = wipe σ vs ∧ tYes σ2 H2 fun b H3 =>
        if b = true then wi1 σ2 H3 fun J1 H4 => ∃ W1 : Nat → Nat → Hp → Prop, (∃ m, W1 0 m H4) ∧ ∀ j k H, W1 j k H →
          (J1.stop j H ∧ Nx H) ∨ (J1.go j H ∧ ∃ Nx1 : Hp → Prop, (∀ H', Nx1 H' → ∃ k', k' < k ∧ W1 (j + 1) k' H') ∧ ∀ x H', J1.yld j H x H' → gName slot1 x (wipe σ2 vs1) H' fun σ3 H5 => wipe σ3 vs1 = wipe σ2 vs1 ∧ tt1 σ3 H5 fun b H6 =>
            if b = true then te σ3 H6 fun y H7 => ∃ acc, H7 D = some (.lst acc) ∧ acc.length < sizeLine ∧ Nx1 (upd H7 D (.lst (acc ++ [y]))) else Nx1 H6)
        else Nx H3) := by
  have cnt : ∀ (l : List V), (∀ x ∈ l, (inn x).length ≤ N) → (l.flatMap fun x => ((inn x).filter (keep x)).map fun y => (x, y)).length ≤ l.length * N := by
    intro l
    induction l with
    | nil => intro _; simp
    | cons x r ih =>
      intro h
      rw [List.flatMap_cons, List.length_append, List.length_map, List.length_cons, Nat.succ_mul]
      have h1 : ((inn x).filter (keep x)).length ≤ (inn x).length := List.length_filter_le _ _
      have h2 := h x List.mem_cons_self
      have h3 := ih fun y hy => h y (List.mem_cons_of_mem _ hy)
      omega
  refine ⟨fun i m H => m = ys.length - i ∧ i ≤ ys.length ∧ ∃ zs, Same H1 H ∧ H D = some (.lst zs) ∧ Each (fun (xy : V × V) z => R xy.1 xy.2 z H) ((ys.take i).flatMap fun x => ((inn x).filter (keep x)).map fun y => (x, y)) zs,
    ⟨ys.length, by simp, Nat.zero_le _, [], same_new hD, upd_same, by simpa using Each.nil⟩, ?_⟩
  rintro i m H ⟨rfl, hi0, zs, s, hz, ez⟩
  by_cases hlt : i < ys.length
  · refine .inr ⟨w.goes i H hlt (hG H s), fun H' => ∃ zs, Same H1 H' ∧ H' D = some (.lst zs) ∧ Each (fun (xy : V × V) z => R xy.1 xy.2 z H') ((ys.take (i + 1)).flatMap fun x => ((inn x).filter (keep x)).map fun y => (x, y)) zs,
      fun H' h => ⟨ys.length - (i + 1), by omega, rfl, hlt, h⟩, fun x H' y => ?_⟩
    obtain ⟨rfl, hx⟩ := w.yields i H x H' hlt (hG H s) y
    have hm : x ∈ ys := List.mem_of_getElem? hx
    have hf := flat_take_snoc (f := fun x => ((inn x).filter (keep x)).map fun y => (x, y)) hx
    refine ⟨hw x, yes_it ?_⟩
    refine hi x _ zs hm s hz _ fun J1 H4 G1 s4 w1 hG1 => ?_
    have hz4 := s4 _ _ hz
    refine ⟨fun j k H => k = (inn x).length - j ∧ j ≤ (inn x).length ∧ ∃ ws, Same H1 H ∧ SameX D H4 H ∧ H D = some (.lst ws) ∧ Each (fun (xy : V × V) z => R xy.1 xy.2 z H) (((ys.take i).flatMap fun x => ((inn x).filter (keep x)).map fun y => (x, y)) ++ (((inn x).take j).filter (keep x)).map fun y => (x, y)) ws,
      ⟨(inn x).length, by simp, Nat.zero_le _, zs, s.trans s4, SameX.refl _ _, hz4, ?_⟩, ?_⟩
    · simpa using ez.mono fun a b r => hR _ _ _ _ _ _ hz (sx s4) r
    · rintro j k H5 ⟨rfl, hj0, ws, s5, x5, hz5, ez5⟩
      by_cases hjt : j < (inn x).length
      · refine .inr ⟨w1.goes j H5 hjt (hG1 H5 x5), fun H' => ∃ ws, Same H1 H' ∧ SameX D H4 H' ∧ H' D = some (.lst ws) ∧ Each (fun (xy : V × V) z => R xy.1 xy.2 z H') (((ys.take i).flatMap fun x => ((inn x).filter (keep x)).map fun y => (x, y)) ++ (((inn x).take (j + 1)).filter (keep x)).map fun y => (x, y)) ws,
          fun H' h => ⟨(inn x).length - (j + 1), by omega, rfl, hjt, h⟩, fun y H' yy => ?_⟩
        obtain ⟨rfl, hy⟩ := w1.yields j H5 y H' hjt (hG1 H5 x5) yy
        have hym : y ∈ inn x := List.mem_of_getElem? hy
        have hf2 := filter_take_snoc (p := keep x) hy
        refine ⟨hw1 x y, ht x y _ hm hym s5 _ ?_⟩
        refine ite_b (fun e => ?_) (fun e => ?_)
        · refine he x y _ hm hym e s5 _ fun z H6 s6 r6 => ⟨ws, s6 _ _ hz5, ?_, ws ++ [z], same_mut (s5.trans s6) hD, ?_, upd_same, ?_⟩
          · have h1 := ez5.length
            have h2 := cnt (ys.take i) fun x hx => hl x (List.mem_of_mem_take hx)
            have h3 : (((inn x).take j).filter (keep x)).length ≤ N := by
              have a1 : (((inn x).take j).filter (keep x)).length ≤ ((inn x).take j).length := List.length_filter_le _ _
              have a2 : ((inn x).take j).length ≤ (inn x).length := List.length_take_le' _ _
              have a3 := hl x hm
              omega
            rw [List.length_append, List.length_map] at h1
            have h4 : (ys.take i).length * N + N ≤ ys.length * N := by
              rw [← Nat.succ_mul]
              refine Nat.mul_le_mul_right N ?_
              rw [List.length_take]
              omega
            omega
          · exact (x5.trans (sx s6)).trans sameX_upd
          · rw [hf2, if_pos e, List.map_append, ← List.append_assoc]
            refine Each.append (ez5.mono fun a b r => ?_) (.cons ?_ .nil)
            · exact hR _ _ _ _ _ _ hz5 (fun b o n h => by rw [upd_ne n]; exact s6 _ _ h) r
            · exact hR _ _ _ _ _ _ (s6 _ _ hz5) sameX_upd r6
        · refine ⟨ws, s5, x5, hz5, ?_⟩
          rw [hf2, if_neg (by rw [e]; decide), List.append_nil]
          exact ez5
      · have e : j = (inn x).length := by omega
        subst e
        refine .inl ⟨w1.stops H5 (hG1 H5 x5), ws, s5, hz5, ?_⟩
        rw [List.take_length] at ez5
        rw [hf]
        exact ez5
  · have e : i = ys.length := by omega
    subst e
    rw [List.take_length] at ez
    exact .inl ⟨w.stops H (hG H s), hd zs H s hz ez⟩
end
end Wl

namespace Wl
open PySem PySem.Spec PyProof.Rows L2
abbrev sCls : Stmt := topS 29
abbrev sInit : Stmt := inClass sCls 0
abbrev sCheck : Stmt := inClass sCls 1
structure Txt (K : PySem.W.Frag) (mg : Str → Option Value) (C : Addr) : Prop where
  cl : Cls K C
  nS : NoAttr K C "spots"
  nR : NoAttr K C "rows"
  mgC : mg "Land" = some (.ref C)
theorem srne : ¬ (("spots" : Str) = "rows") := by decide +kernel
def lf (d L : Addr) : List (Str × V) := putF "rows" (.ref L) (putF "spots" (.ref d) [])
theorem lf_spots (d L : Addr) : (lf d L).lookup ("spots" : Str) = some (.ref d) := by
  unfold lf
  rw [lookup_putF, if_neg srne, lookup_putF, if_pos rfl]
theorem lf_rows (d L : Addr) : (lf d L).lookup ("rows" : Str) = some (.ref L) := by
  unfold lf
  rw [lookup_putF, if_pos rfl]
theorem lf_no (d L : Addr) {m : Str} (h1 : ¬ m = "rows") (h2 : ¬ m = "spots") : (lf d L).lookup m = none := by
  unfold lf
  rw [lookup_putF, if_neg h1, lookup_putF, if_neg h2]
  rfl
def LandAt (C : Addr) (H : Hp) (p L : Addr) (g : Grid) : Prop := ∃ d dx, H p = some (.ins C dx (lf d L)) ∧ SpotsAt H d (spG 0 g) ∧ GridAt H L g
theorem LandAt.keep {C p L : Addr} {H H' : Hp} {g : Grid} (h : LandAt C H p L g) (k : Keep H H') : LandAt C H' p L g := by
  obtain ⟨d, dx, h1, h2, h3⟩ := h
  exact ⟨d, dx, k _ _ (fun xs e => by cases e) h1, h2.keep k, h3.keep k.tk⟩
theorem tk_updI {a : Addr} {H : Hp} {C dx : Addr} {fs : List (Str × V)} {o : HO} (ha : H a = some (.ins C dx fs)) : TupKeep H (upd H a o) := fun p xs h => by
  rw [upd_ne (ne_of h ha (by intro z; cases z))]
  exact h
theorem spots_updI {a d : Addr} {H : Hp} {C dx : Addr} {fs : List (Str × V)} {o : HO} {sp : List (Str × Nat × Nat)} (ha : H a = some (.ins C dx fs)) (h : SpotsAt H d sp) : SpotsAt (upd H a o) d sp := by
  obtain ⟨kvs, h1, h2⟩ := h
  exact ⟨kvs, by rw [upd_ne (ne_of h1 ha (by intro z; cases z))]; exact h1, ent_keep (tk_updI ha) h2⟩
section
variable {P : Program} {w : World} {K : PySem.W.Frag} {mg : Str → Option Value} {base : Heap} {f C : Addr} {fd : FuncData}
def spInit (C : Addr) : Sp := fun vs H Q _ => ∃ (p dx L : Addr) (g : Grid) (wd : Nat), vs = [.ref p, .ref L] ∧ H p = some (.ins C dx []) ∧ GridAt H L g ∧ Good g wd ∧
  ∀ (H' : Hp), (∀ b o, b ≠ p → H b = some o → H' b = some o) → LandAt C H' p L g → Q .non H'
theorem scInit : FnScope ["self", "rows"] ["self", "rows"] (defScope sInit) := ⟨rfl, rfl, rfl, by decide +kernel, rfl, by decide +kernel, by decide +kernel⟩
theorem ok_init (F : Fun K "__init__" "Land.__init__" sInit f fd) (T : Txt K mg C) (hS : Has P w K mg base "checked_spots" 3 ["rows"] spSpots) : FnOk P w K mg base CX0 4 f fd ["self", "rows"] (spInit C) := by
  refine F.ok scInit (fun vs H Q E h => ?_) (fun cdv A outer s H vs Q E hr h => ?_)
  · obtain ⟨p, dx, L, g, wd, rfl, _⟩ := h
    rfl
  · obtain ⟨p, dx, L, g, wd, rfl, hp, hG, gd, q⟩ := h
    refine ⟨_, pss_cons (ps_fld (pv 0) (pe_h hS hr (pa_cons (pv 1) pa_nil)) rfl) (pss_one (ps_fld (pv 0) (pv 1) rfl)), ?_⟩
    refine ⟨_, rfl, L, g, wd, rfl, hG, gd, fun d H1 hd s1 sp1 => ?_⟩
    have hp1 := s1 _ _ hp
    refine ⟨_, rfl, p, C, dx, [], rfl, hp1, T.cl, T.nS, (by show 0 < 1000; decide), ?_⟩
    refine ⟨_, rfl, _, rfl, p, C, dx, _, rfl, upd_same, T.cl, T.nR, (by show 1 < 1000; decide), ?_⟩
    refine q _ (fun b o n e => ?_) ⟨d, dx, upd_same, spots_updI upd_same (spots_updI hp1 sp1), ((hG.keep (tk_same s1)).keep (tk_updI hp1)).keep (tk_updI upd_same)⟩
    rw [upd_ne n, upd_ne n]
    exact s1 _ _ e

/-! ### names -/
def sd (z : Str) : V × PyData := (.str z, .str z)
theorem sort_strs (xs : List Str) : ((xs.map sd).mergeSort (PySem.W.dataLe false (·.2))).map (·.1) = (sortS xs).map V.str := by
  have h : (sortS xs).map sd = (xs.map sd).mergeSort (PySem.W.dataLe false (·.2)) := List.map_mergeSort fun a _ b _ => by
    rw [PySem.W.dataLe_eq]
    exact (le_data_str a b).symm
  rw [← h, List.map_map]
  rfl
theorem alike_strs (xs : List Str) : PySem.W.AllAlike ((xs.map sd).map (·.2)) := by
  intro d hd e he
  obtain ⟨b, hb, rfl⟩ := List.mem_map.mp hd
  obtain ⟨x, _, rfl⟩ := List.mem_map.mp hb
  obtain ⟨c, hc, rfl⟩ := List.mem_map.mp he
  obtain ⟨y, _, rfl⟩ := List.mem_map.mp hc
  rfl
theorem sortable_strs (xs : List Str) : PySem.W.Sortable ((xs.map sd).map (·.2)) := .inr fun d hd => by
  obtain ⟨b, hb, rfl⟩ := List.mem_map.mp hd
  obtain ⟨x, _, rfl⟩ := List.mem_map.mp hb
  exact ⟨(fun e => by cases e), (fun ys e => by cases e)⟩
/-- sorted of a list of texts, as a reading -/
theorem sort_reads {H : Hp} {Q : VK} {a : Addr} {xs : List Str} (h : SqL K H a (xs.map V.str)) (q : ∀ p, H p = none → Q (.ref p) (upd H p (.lst ((sortS xs).map V.str)))) : rSortD K [.ref a] H Q := by
  refine ⟨a, xs.map sd, rfl, ?_, ?_, alike_strs xs, sortable_strs xs, ?_, fun p hp => ?_⟩
  · rw [List.map_map]
    exact h
  · intro b hb
    obtain ⟨x, _, rfl⟩ := List.mem_map.mp hb
    exact .str x
  · intro b hb
    obtain ⟨x, _, rfl⟩ := List.mem_map.mp hb
    show PyData.depth (.str x) ≤ 8
    simp [PyData.depth]
  · rw [sort_strs]
    exact q p hp
def spCheck (C : Addr) : Sp := fun vs H Q _ => ∃ (p L : Addr) (g : Grid) (wd : Nat) (z : Str), vs = [.ref p, .str z] ∧ LandAt C H p L g ∧ Good g wd ∧ z ∈ names g ∧ ∀ (H' : Hp), Same H H' → Q .non H'
theorem scCheck : FnScope ["self", "name"] ["self", "name"] (defScope sCheck) := ⟨rfl, rfl, rfl, by decide +kernel, rfl, by decide +kernel, by decide +kernel⟩
theorem ok_check (F : Fun K "check_name" "Land.check_name" sCheck f fd) (T : Txt K mg C) (hI : Has P w K mg base "is_word" 1 ["thing"] spIsWord) : FnOk P w K mg base CX0 2 f fd ["self", "name"] (spCheck C) := by
  refine F.ok scCheck (fun vs H Q E h => ?_) (fun cdv A outer s H vs Q E hr h => ?_)
  · obtain ⟨p, L, g, wd, z, rfl, _⟩ := h
    rfl
  · obtain ⟨p, L, g, wd, z, rfl, hLa, gd, hz, q⟩ := h
    have hu := hu_of hr
    have hzw := gd.wd z hz
    refine ⟨_, pss_one (ps_if (PW.pt (pw_or (pt_not (pt_val (pe_h hI hr (pa_cons (pv 1) pa_nil)))) (pw_or1 (pt_cmp (pc_dnotin hu (pv 1) (pe_fld (pv 0) rfl)))))) (pss_one ps_never) pss_nil), ?_⟩
    refine ⟨_, rfl, z, rfl, by have := hzw.len; omega, fun H1 s1 => ⟨_, rfl, ?_⟩⟩
    rw [show wdB z = true from hzw]
    refine iteF ?_
    obtain ⟨d, dx, hp, ⟨kvs, hd, he⟩, hG⟩ := hLa.keep (kp_same s1)
    obtain ⟨r, c, hc⟩ := mem_names.mp hz
    obtain ⟨t, hv, ht⟩ := ent_some he (by rw [spG_fst]; exact gd.nd) (spG_cell.mpr hc)
    refine ⟨_, rfl, _, rfl, p, C, dx, _, _, rfl, hp, T.cl, T.nS, lf_spots _ _, d, _, rfl, DGet.k (k := Sum.inr z) hd, _, rfl, ?_⟩
    rw [hv]
    exact iteF (q H1 s1)
end
end Wl

namespace Wl
open PySem PySem.Spec PyProof.Rows L2
/-- at most six rows of at most six -/
structure Sized (g : Grid) (wd : Nat) : Prop where
  h6 : g.length ≤ 6
  w6 : wd ≤ 6
  rows : ∀ r ∈ g, r.length = wd
theorem Good.sized {g : Grid} {wd : Nat} (G : Good g wd) : Sized g wd := ⟨G.h6, G.w6, G.rows⟩
section
variable {P : Program} {w : World} {K : PySem.W.Frag} {mg : Str → Option Value} {base : Heap} {f C : Addr} {fd : FuncData}
/-! ### the law's own names -/
def spNames : Sp := fun vs H Q _ => ∃ (L : Addr) (g : Grid) (wd : Nat), vs = [.ref L] ∧ GridAt H L g ∧ Sized g wd ∧
  ∀ (t : Addr) (H' : Hp), H t = none → Same H H' → H' t = some (.lst ((sortS (names g)).map V.str)) → Q (.ref t) H'
abbrev nNames : List Str := ["_law_lots", "_law_found", "_law_row_here", "_law_label"]
theorem scNames : FnScope nNames ["_law_lots"] (defScope sNames) := ⟨rfl, rfl, rfl, by decide +kernel, rfl, by decide +kernel, by decide +kernel⟩
theorem row_filter (row : Row) : ((row.map oV).filter fun v => !decide (v = .non)).map id = (rnames row).map V.str := by
  rw [List.map_id]
  induction row with
  | nil => rfl
  | cons o r ih =>
    cases o with
    | none => exact ih
    | some z => exact congrArg (V.str z :: ·) ih
theorem names_take {g : Grid} {i : Nat} {row : Row} (h : g[i]? = some row) : names (g.take (i + 1)) = names (g.take i) ++ rnames row := by
  rw [take_snoc h, names_snoc]
theorem ok_names (F : Fun K "_law_names" "_law_names" sNames f fd) (B : Bi mg) : FnOk P w K mg base CX0 1 f fd ["_law_lots"] spNames := by
  refine F.ok scNames (fun vs H Q E h => ?_) (fun cdv A outer s H vs Q E hr h => ?_)
  · obtain ⟨L, g, wd, rfl, _⟩ := h
    rfl
  · obtain ⟨L, g, wd, rfl, ⟨as, hL, hR⟩, gd, q⟩ := h
    refine ⟨_, pss_cons (ps_set (i := 1) scNames.nd rfl (.inl rfl) (pe_lst pa_nil))
      (pss_cons (ps_for PassesOwn.never rfl (pi_tup (pv 0)) (pg_name (i := 2) scNames.nd rfl (.inl rfl))
        (pss_one (ps_expr (pe_bm PySem.F.plainAttrs_list PySem.F.slot_list_extend PySem.F.type_list_extend mt_extend (pv 1) (pa_cons
          (pe_lc (own := [("_law_label", 3)]) (g := gName 3) (tt := tB (tNotN (tVar 3))) rfl scNames.nd (pi_tup (pv 2)) (blkOk_by (N := nNames) (sc := defScope sNames) (by decide +kernel)) (fun _ _ _ _ _ => pg_name (i := 3) scNames.nd rfl (.inl rfl))
            (fun _ _ _ _ _ => pts_one (pt_cmp (pc_notN (pv 3)))) (fun _ _ _ _ _ => pv 3)) pa_nil)))))
      (pss_one (ps_ret (pe_callB (cr_sortD hr.units) (by rfl) B.sorted (by decide +kernel) (pa_cons (pv 1) pa_nil))))), ?_⟩
    refine ⟨lz, fun fA hf => ?_⟩
    have s0 : Same H (upd H fA (.lst [])) := same_new hf
    have hlen : (as.map V.ref).length = g.length := by rw [List.length_map, hR.length]
    refine ⟨_, rfl, L, rfl, ⟨_, .inl (.inl (s0 _ _ hL))⟩, for_tup (K := K) (a := L) (xs := as.map V.ref) (fun i σ H' => (∃ y2 y3, σ = [some (.ref L), some (.ref fA), y2, y3]) ∧ Same H H' ∧ H' fA = some (.lst ((names (g.take i)).map V.str)))
      ⟨⟨_, _, rfl⟩, s0, upd_same⟩ (fun i σ H' _ h => .inl (.inl (h.2.1 _ _ hL))) ?_ ?_⟩
    · rintro i x σ H1 hx ⟨⟨y2, y3, rfl⟩, s1, hf1⟩
      rw [List.getElem?_map] at hx
      obtain ⟨p, hp, rfl⟩ := Option.map_eq_some_iff.mp hx
      obtain ⟨row, hrow, hH⟩ := hR.get hp
      have hrl := gd.rows row (List.mem_of_getElem? hrow)
      refine ⟨_, rfl, .inl ⟨rfl, _, .inl (.inl hf1)⟩, _, rfl, p, rfl, ⟨_, .inl (.inl (s1 _ _ hH))⟩, fun D hD => ?_⟩
      refine lc_map (walk_tup (K := K) (a := p) (xs := row.map oV)) hD (fun v => !decide (v = .non)) id (fun H' s' => .inl (.inl (s' _ _ (s1 _ _ hH)))) (fun _ => rfl) ?_ ?_ ?_ ?_
      · intro x H' hx s' Q' q'
        exact ⟨_, rfl, _, rfl, q'⟩
      · intro x H' hx _ _ Q' q'
        exact ⟨_, rfl, q'⟩
      · rw [List.length_map]
        exact small1000 (by have := gd.w6; omega)
      · intro H2 s2 hD2
        rw [row_filter] at hD2
        have hf2 := s2 _ _ hf1
        refine ⟨fA, D, _, _, rfl, rfl, hf2, hD2, ?_, ⟨_, _, rfl⟩, same_mut (s1.trans s2) hf, ?_⟩
        · rw [List.length_map, List.length_map]
          have a1 := len_names (g := g.take i) (wd := wd) fun r hr => gd.rows r (List.mem_of_mem_take hr)
          have a2 : (g.take i).length ≤ 6 := by rw [List.length_take]; have := gd.h6; omega
          have a3 : (g.take i).length * wd ≤ 6 * 6 := Nat.mul_le_mul a2 gd.w6
          have a4 : (rnames row).length ≤ row.length := List.length_filterMap_le id _
          have a7 := gd.w6
          exact lzl (by omega)
        · rw [upd_same, names_take hrow, List.map_append]
    · rintro σ H1 ⟨⟨y2, y3, rfl⟩, s1, hf1⟩
      rw [hlen, List.take_length] at hf1
      refine ⟨_, rfl, ?_⟩
      dsimp only [tNil]
      refine sort_reads (K := K) (.inl (.inl hf1)) fun p hp => ?_
      exact q p _ (s1.free hp) (s1.trans (same_new hp)) upd_same

theorem grid_get {H : Hp} {L : Addr} {g : Grid} {wd : Nat} (gd : Good g wd) {as : List Addr} (hL : H L = some (.tup (as.map V.ref))) (hR : RowsAt H as g) {x y : Int} (hx : 0 ≤ x ∧ x < g.length) (hy : 0 ≤ y ∧ y < wd) :
    ∃ (p : Addr) (row : Row), atI (as.map V.ref) x = some (.ref p) ∧ H p = some (.tup (row.map oV)) ∧ row.length = wd ∧ atI (row.map oV) y = some (oV (cellAt g x.toNat y.toNat)) := by
  have hx2 : x.toNat < g.length := by omega
  have hg : g[x.toNat]? = some g[x.toNat] := List.getElem?_eq_getElem hx2
  obtain ⟨p, hp, hH⟩ := hR.get2 hg
  have hw := gd.rows _ (List.mem_of_getElem? hg)
  have hy2 : y.toNat < g[x.toNat].length := by omega
  refine ⟨p, g[x.toNat], at_of (j := x.toNat) (by omega) (by rw [List.getElem?_map, hp]; rfl), hH, hw, at_of (j := y.toNat) (by omega) ?_⟩
  rw [List.getElem?_map, List.getElem?_eq_getElem hy2, cellAt_of hg (List.getElem?_eq_getElem hy2)]
  rfl
end
end Wl

/-! A land's text. -/
namespace Wl
open PySem PySem.Spec PyProof.Rows L2
def partS : Option Str → Str
  | none => "-"
  | some z => z
def lineS (row : Row) : Str := Txt.join (" " : Str) (row.map partS)
def landS (g : Grid) : Str := Txt.join ("\n" : Str) (g.map lineS)
theorem tl_dash : TL.tl ("-" : Str) = [45] := by decide +kernel
theorem tl_blank : TL.tl (" " : Str) = [32] := by decide +kernel
theorem tl_end : TL.tl ("\n" : Str) = [10] := by decide +kernel
theorem wd_tl {z : Str} (h : IsWd z) : (1 ≤ (TL.tl z).length ∧ (TL.tl z).length ≤ 8) ∧ ∀ c ∈ TL.tl z, 97 ≤ c ∧ c ≤ 122 := by
  refine ⟨by rw [← TL.len_tl]; exact h.len, ?_⟩
  unfold IsWd wdB at h
  simp only [Bool.and_eq_true, decide_eq_true_eq, List.all_eq_true] at h
  exact h.2
theorem wd_dash {z : Str} (h : IsWd z) : z ≠ "-" := fun e => by
  have := (wd_tl h).2 45 (by rw [e, tl_dash]; simp)
  omega
/-- a part of a row -/
def OkP (o : Option Str) : Prop := ∀ z, o = some z → IsWd z
theorem part_tl {o : Option Str} (h : OkP o) : (TL.tl (partS o)).length ≤ 8 ∧ ∀ c ∈ TL.tl (partS o), 45 ≤ c ∧ c ≤ 122 := by
  cases o with
  | none =>
    show (TL.tl ("-" : Str)).length ≤ 8 ∧ ∀ c ∈ TL.tl ("-" : Str), 45 ≤ c ∧ c ≤ 122
    rw [tl_dash]
    exact ⟨by decide, fun c hc => by rw [List.mem_singleton.mp hc]; decide⟩
  | some z =>
    have := wd_tl (h z rfl)
    exact ⟨this.1.2, fun c hc => ⟨by have := this.2 c hc; omega, (this.2 c hc).2⟩⟩
theorem join_mem {S : List Nat} {c : Nat} : ∀ {ps : List (List Nat)}, c ∈ TL.joinL S ps → c ∈ S ∨ ∃ p ∈ ps, c ∈ p
  | [], h => by cases h
  | [p], h => .inr ⟨p, List.mem_singleton.mpr rfl, h⟩
  | p :: q :: r, h => by
    have h : c ∈ p ++ (S ++ TL.joinL S (q :: r)) := h
    rcases List.mem_append.mp h with h | h
    · exact .inr ⟨p, List.mem_cons_self, h⟩
    · rcases List.mem_append.mp h with h | h
      · exact .inl h
      · rcases join_mem h with h | ⟨u, hu, h⟩
        · exact .inl h
        · exact .inr ⟨u, List.mem_cons_of_mem _ hu, h⟩
theorem join_size {S : List Nat} {m : Nat} : ∀ {ps : List (List Nat)}, (∀ p ∈ ps, p.length ≤ m) → (TL.joinL S ps).length ≤ ps.length * (m + S.length)
  | [], _ => by simp [TL.joinL]
  | [p], h => by
    have := h p (List.mem_singleton.mpr rfl)
    show p.length ≤ _
    simp
    omega
  | p :: q :: r, h => by
    have h1 := h p List.mem_cons_self
    have h2 := join_size (S := S) (m := m) (ps := q :: r) fun u hu => h u (List.mem_cons_of_mem _ hu)
    show (p ++ (S ++ TL.joinL S (q :: r))).length ≤ _
    rw [List.length_append, List.length_append, List.length_cons, Nat.succ_mul]
    omega
theorem line_tl (row : Row) : TL.tl (lineS row) = TL.joinL [32] (row.map fun o => TL.tl (partS o)) := by
  unfold lineS
  rw [TL.join_eq, TL.tl_join, tl_blank, List.map_map]
  rfl
theorem line_codes {row : Row} (h : ∀ o ∈ row, OkP o) {c : Nat} (hc : c ∈ TL.tl (lineS row)) : c = 32 ∨ (45 ≤ c ∧ c ≤ 122) := by
  rw [line_tl] at hc
  rcases join_mem hc with hc | ⟨p, hp, hc⟩
  · exact .inl (List.mem_singleton.mp hc)
  · obtain ⟨o, ho, rfl⟩ := List.mem_map.mp hp
    exact .inr ((part_tl (h o ho)).2 c hc)
theorem line_len {row : Row} (h : ∀ o ∈ row, OkP o) (h6 : row.length ≤ 6) : (lineS row).length ≤ 54 := by
  rw [TL.len_tl, line_tl]
  have := join_size (S := [32]) (m := 8) (ps := row.map fun o => TL.tl (partS o)) fun p hp => by
    obtain ⟨o, ho, rfl⟩ := List.mem_map.mp hp
    exact (part_tl (h o ho)).1
  rw [List.length_map] at this
  simp at this
  omega
theorem line_split {row : Row} (h : ∀ o ∈ row, OkP o) (ne : row ≠ []) : Txt.split (lineS row) (" " : Str) = row.map partS := by
  unfold lineS
  refine TL.split_join tl_blank (by decide +kernel) (fun e => ne (List.map_eq_nil_iff.mp e)) fun p hp hc => ?_
  obtain ⟨o, ho, rfl⟩ := List.mem_map.mp hp
  have := (part_tl (h o ho)).2 32 hc
  omega
theorem land_split {g : Grid} (h : ∀ r ∈ g, ∀ o ∈ r, OkP o) (ne : g ≠ []) : Txt.split (landS g) ("\n" : Str) = g.map lineS := by
  unfold landS
  refine TL.split_join tl_end (by decide +kernel) (fun e => ne (List.map_eq_nil_iff.mp e)) fun p hp hc => ?_
  obtain ⟨r, hr, rfl⟩ := List.mem_map.mp hp
  have := line_codes (h r hr) hc
  omega
theorem land_len {g : Grid} (h : ∀ r ∈ g, ∀ o ∈ r, OkP o) (hg : g.length ≤ 6) (hr : ∀ r ∈ g, r.length ≤ 6) : (landS g).length ≤ 330 := by
  unfold landS
  rw [TL.len_tl, TL.join_eq, TL.tl_join, tl_end]
  have := join_size (S := [10]) (m := 54) (ps := (g.map lineS).map TL.tl) fun p hp => by
    obtain ⟨z, hz, rfl⟩ := List.mem_map.mp hp
    obtain ⟨r, hr', rfl⟩ := List.mem_map.mp hz
    rw [← TL.len_tl]
    exact line_len (h r hr') (hr r hr')
  rw [List.length_map, List.length_map] at this
  have e : (54 + [10].length) = 55 := rfl
  rw [e] at this
  omega
theorem names_part {g : Grid} (h : ∀ z ∈ names g, IsWd z) : ∀ r ∈ g, ∀ o ∈ r, OkP o := fun r hr o ho z e => h z (by
  unfold names
  rw [List.mem_filterMap]
  exact ⟨o, List.mem_flatten.mpr ⟨r, hr, ho⟩, e⟩)
theorem Good.parts {g : Grid} {wd : Nat} (G : Good g wd) : ∀ r ∈ g, ∀ o ∈ r, OkP o := names_part G.wd
theorem Good.nn {g : Grid} {wd : Nat} (G : Good g wd) : g ≠ [] := fun e => by
  have := G.h1
  rw [e] at this
  simp at this
theorem Good.six {g : Grid} {wd : Nat} (G : Good g wd) : ∀ r ∈ g, r.length ≤ 6 := fun r hr => by
  rw [G.rows r hr]
  exact G.w6
theorem part_inj {o u : Option Str} (h : OkP o) (k : OkP u) (e : partS o = partS u) : o = u := by
  cases o with
  | none =>
    cases u with
    | none => rfl
    | some z => exact absurd e.symm (wd_dash (k z rfl))
  | some y =>
    cases u with
    | none => exact absurd e (wd_dash (h y rfl))
    | some z => exact congrArg some e
theorem map_part_inj : ∀ {r q : Row}, (∀ o ∈ r, OkP o) → (∀ o ∈ q, OkP o) → r.map partS = q.map partS → r = q
  | [], [], _, _, _ => rfl
  | [], _ :: _, _, _, e => by simp at e
  | _ :: _, [], _, _, e => by simp at e
  | o :: r, u :: q, h, k, e => by
    simp only [List.map_cons, List.cons.injEq] at e
    rw [part_inj (h o List.mem_cons_self) (k u List.mem_cons_self) e.1, map_part_inj (fun x hx => h x (List.mem_cons_of_mem _ hx)) (fun x hx => k x (List.mem_cons_of_mem _ hx)) e.2]
theorem line_inj {r q : Row} (h : ∀ o ∈ r, OkP o) (k : ∀ o ∈ q, OkP o) (nr : r ≠ []) (nq : q ≠ []) (e : lineS r = lineS q) : r = q := by
  have := congrArg (fun z => Txt.split z (" " : Str)) e
  simp only [line_split h nr, line_split k nq] at this
  exact map_part_inj h k this
/-- unlike lands have unlike texts -/
theorem land_inj {g g' : Grid} {wd wd' : Nat} (G : Good g wd) (G' : Good g' wd') (e : landS g = landS g') : g = g' := by
  have h := congrArg (fun z => Txt.split z ("\n" : Str)) e
  simp only [land_split G.parts G.nn, land_split G'.parts G'.nn] at h
  have ne : ∀ {l : Grid} {v : Nat}, Good l v → ∀ r ∈ l, r ≠ [] := fun {l v} L r hr q => by
    have h1 := L.rows r hr
    have h2 := L.w1
    rw [q] at h1
    simp at h1
    omega
  have key : ∀ {l m : Grid}, (∀ r ∈ l, r ≠ [] ∧ ∀ o ∈ r, OkP o) → (∀ r ∈ m, r ≠ [] ∧ ∀ o ∈ r, OkP o) → l.map lineS = m.map lineS → l = m := by
    intro l
    induction l with
    | nil =>
      intro m _ _ e
      cases m with
      | nil => rfl
      | cons _ _ => simp at e
    | cons r l ih =>
      intro m hl hm e
      cases m with
      | nil => simp at e
      | cons q m =>
        simp only [List.map_cons, List.cons.injEq] at e
        have a := hl r List.mem_cons_self
        have b := hm q List.mem_cons_self
        rw [line_inj a.2 b.2 a.1 b.1 e.1, ih (fun x hx => hl x (List.mem_cons_of_mem _ hx)) (fun x hx => hm x (List.mem_cons_of_mem _ hx)) e.2]
  exact key (fun r hr => ⟨ne G r hr, G.parts r hr⟩) (fun r hr => ⟨ne G' r hr, G'.parts r hr⟩) h
end Wl

/-! Rules of ours for objects of own classes: len, str, repr, ==, !=, in a list of one, each by the class's own method. -/
namespace Wl
open PySem PySem.Spec PyProof.Rows L2
section
variable {X : Cx} {n : Nat} {f : Addr} {fd : FuncData} {ps : List Str} {sp : Sp} {C : Addr}
theorem v1 (a : Addr) : Vals [V.ref a] [Value.ref a] := .cons rfl .nil
theorem v2 (a b : Addr) : Vals [V.ref a, V.ref b] [Value.ref a, Value.ref b] := .cons rfl (.cons rfl .nil)
/-- an own def called somewhere below the running body -/
theorem run_own {A : Around} {pins : List (Addr × Obj)} {s : Shared} {σ : L2.St} {H : Hp} {vs : List V} {us : List Value} {Q : VK} (F : FnOk X.prog X.w X.K X.mg X.base CX0 n f fd ps sp) (hb : Binds X.K fd ps []) (sb : Sub X n A) (I : L2.Inv X pins σ H s) (r : Vals vs us) (hsp : sp vs H Q E0) :
    wpAny (model X.prog X.w) A (call (.ref f) us) (EP X pins σ Q) X.xe s := by
  have e0 : Env0 X.prog X.w X.K X.mg X.base A X.stack s H := by
    have e := I.env0
    exact ⟨by rw [sb.fr]; exact e.frames, e.mod, e.bs, e.bsz, e.funs, e.frf, e.hok, e.bare⟩
  have hl := F.len _ _ _ _ hsp
  have hb' : BindsTo s fd ⟨us, []⟩ (ps.zip us) := by
    have := hb s us I.kIn (by rw [List.append_nil, ← r.length]; exact hl)
    rw [List.append_nil] at this
    exact this
  refine wpAny_call (codeAny_mono (F.run A X.stack s H ⟨us, []⟩ us vs _ E0 sb.room e0 hb' r hsp) fun r s' hq => ?_)
  cases r with
  | error e => exact pass0 pins σ H s e s' I hq
  | ok fl =>
    cases fl with
    | ret w => exact I.after hq
    | next => exact False.elim hq
    | brk => exact False.elim hq
    | cont => exact False.elim hq
/-- len(o) -/
def rLenO (C : Addr) (sp : Sp) : List V → Hp → VK → Prop := fun xs H Q => ∃ a dx fs, xs = [V.ref a] ∧ H a = some (.ins C dx fs) ∧ sp [.ref a] H (fun v H' => ∃ k : Nat, v = .int (k : Int) ∧ k < 2 ^ 62 ∧ Q (.int (k : Int)) H') E0
theorem cr_lenO (F : FnOk X.prog X.w X.K X.mg X.base CX0 n f fd ps sp) (hb : Binds X.K fd ps []) (m : Meth X.K C "__len__" f) (hr : Room (n + 1) X.A) : CallR X (.builtin "len") (rLenO C sp) := by
  intro pins s σ H xs us Q I r h
  obtain ⟨a, dx, fs, rfl, ha, hsp⟩ := h
  obtain ⟨u, rfl, ru⟩ := vals1 r
  obtain rfl : u = Value.ref a := ru
  obtain ⟨mA, J, _⟩ := ins_get I.hok ha
  obtain ⟨od, J, _⟩ := J.look
  obtain ⟨m', hF⟩ := I.fr
  refine PySem.W.len_K hF I.ok.mod.kin J m.at_ m.fn (wpAny_mono (run_own F hb (Sub.in1 ⟨hr, rfl⟩) I (v1 a) hsp) (fun v s' hq => ?_) fun _ _ z => z)
  obtain ⟨z, H', I', rz, k, rfl, hk, q⟩ := hq
  obtain ⟨t, rfl⟩ := rz
  exact ⟨⟨by omega, by omega⟩, .int (k : Int), H', I'.tok _, ⟨_, rfl⟩, q⟩
/-- str(o) -/
def rStrO (C : Addr) (sp : Sp) : List V → Hp → VK → Prop := fun xs H Q => ∃ a dx fs, xs = [V.ref a] ∧ H a = some (.ins C dx fs) ∧ sp [.ref a] H (fun v H' => ∃ z, v = .str z ∧ Q (.str z) H') E0
theorem room_u2 {k : Nat} {A : Around} (r : Room k A) : A.units + 2 < cLine := by have := r.un; omega
theorem cr_strO (F : FnOk X.prog X.w X.K X.mg X.base CX0 n f fd ps sp) (hb : Binds X.K fd ps []) (m : Meth X.K C "__str__" f) (hr : Room (n + 2) X.A) : CallR X (.type "str") (rStrO C sp) := by
  intro pins s σ H xs us Q I r h
  obtain ⟨a, dx, fs, rfl, ha, hsp⟩ := h
  obtain ⟨u, rfl, ru⟩ := vals1 r
  obtain rfl : u = Value.ref a := ru
  obtain ⟨mA, J, _⟩ := ins_get I.hok ha
  obtain ⟨od, J, _⟩ := J.look
  refine PySem.W.kso_call (show X.A.units + 1 + 1 < cLine from room_u2 hr) I.kIn J m.at_ m.fn (wpAny_mono (run_own F hb (Sub.in1 (Sub.in1 ⟨hr, rfl⟩)) I (v1 a) hsp) (fun v s' hq => ?_) fun _ _ z => z)
  obtain ⟨z, H', I', rz, y, rfl, q⟩ := hq
  obtain ⟨t, rfl⟩ := rz
  exact ⟨.str y, H', I', ⟨_, rfl⟩, q⟩
/-- repr(o) -/
theorem cr_reprO (F : FnOk X.prog X.w X.K X.mg X.base CX0 n f fd ps sp) (hb : Binds X.K fd ps []) (m : Meth X.K C "__repr__" f) (hr : Room (n + 1) X.A) : CallR X (.builtin "repr") (rStrO C sp) := by
  intro pins s σ H xs us Q I r h
  obtain ⟨a, dx, fs, rfl, ha, hsp⟩ := h
  obtain ⟨u, rfl, ru⟩ := vals1 r
  obtain rfl : u = Value.ref a := ru
  obtain ⟨mA, J, _⟩ := ins_get I.hok ha
  obtain ⟨od, J, _⟩ := J.look
  obtain ⟨m', hF⟩ := I.fr
  refine PySem.W.repr_K (show X.A.units + 1 < cLine from by have := room_u2 hr; omega) hF I.ok.mod.kin J m.at_ m.fn (wpAny_mono (run_own F hb (Sub.in1 ⟨hr, rfl⟩) I (v1 a) hsp) (fun v s' hq => ?_) fun _ _ z => z)
  obtain ⟨z, H', I', rz, y, rfl, q⟩ := hq
  obtain ⟨t, rfl⟩ := rz
  exact ⟨.str y, H', I', ⟨_, rfl⟩, q⟩
/-- x == y of two of one class -/
def rEqO (C : Addr) (sp : Sp) (g : Bool → Bool) : R2 := fun x y H Q => ∃ a dx fs b dy gs, x = V.ref a ∧ y = V.ref b ∧ H a = some (.ins C dx fs) ∧ H b = some (.ins C dy gs) ∧ sp [.ref a, .ref b] H (fun v H' => ∃ c, v = .bl c ∧ Q (.bl (g c)) H') E0
theorem rc_eqO {A : Around} {pins : List (Addr × Obj)} {s : Shared} {σ : L2.St} {H : Hp} {a b dx dy : Addr} {fs gs : List (Str × V)} {Q : Bool → Hp → Prop} (F : FnOk X.prog X.w X.K X.mg X.base CX0 n f fd ps sp) (hb : Binds X.K fd ps []) (m : Meth X.K C "__eq__" f) (sb : Sub X n A) (I : L2.Inv X pins σ H s)
    (ha : H a = some (.ins C dx fs)) (hb' : H b = some (.ins C dy gs)) (hsp : sp [.ref a, .ref b] H (fun v H' => ∃ c, v = .bl c ∧ Q c H') E0) :
    wpAny (model X.prog X.w) A (richCompare .Eq (.ref a) (.ref b)) (fun v s' => ∃ c, v = .bool c ∧ ∃ H', L2.Inv X pins σ H' s' ∧ Q c H') X.xe s := by
  obtain ⟨mA, J, _⟩ := ins_get I.hok ha
  obtain ⟨mB, J', _⟩ := ins_get I.hok hb'
  obtain ⟨od, J, _⟩ := J.look
  obtain ⟨od', J', _⟩ := J'.look
  obtain ⟨m', hF⟩ := I.fr
  refine PySem.W.cmp_K (op := .Eq) (tb := .ref C) sb.room.units0 hF I.ok.mod.kin J J'.type (by simp [PySem.W.notFirst]) m.at_ m.fn (wpAny_mono (run_own F hb sb I (v2 a b) hsp) (fun v s' hq => ?_) fun _ _ z => z)
  obtain ⟨z, H', I', rz, c, rfl, q⟩ := hq
  cases rz
  exact ⟨c, rfl, H', I', q⟩
theorem op_eqO (F : FnOk X.prog X.w X.K X.mg X.base CX0 n f fd ps sp) (hb : Binds X.K fd ps []) (m : Meth X.K C "__eq__" f) (hr : Room n X.A) : OpR X (compareOp .Eq) (rEqO C sp id) := by
  intro pins s σ H x y v u Q I rx ry h
  obtain ⟨a, dx, fs, b, dy, gs, rfl, rfl, ha, hb', hsp⟩ := h
  cases rx
  cases ry
  show wpAny (model X.prog X.w) X.A (richCompare .Eq (.ref a) (.ref b)) (EP X pins σ Q) X.xe s
  refine wpAny_mono (rc_eqO F hb m ⟨hr, rfl⟩ I ha hb' hsp) (fun v s' hq => ?_) fun _ _ z => z
  obtain ⟨c, rfl, H', I', q⟩ := hq
  exact ⟨.bl c, H', I', rfl, q⟩
/-- what the class says of != -/
structure NeC (K : PySem.W.Frag) (C : Addr) : Prop where
  ne : PySem.W.findIn K (.ref C) "__ne__" = some (some (.builtin "object.__ne__"))
  ob : PySem.W.mroIn K C (.type "object") = some true
theorem ifBound_B {M : Model} {A : Around} {E : Value → Shared → Prop} {s : Shared} {K : PySem.W.Frag} {x C : Addr} {ox : Obj} {od : Option Obj} {name : Str} {id : String} {args : List Value} {Q : Option Value → Shared → Prop} (X : K.In s.heap) (I : PySem.W.InstAt s.heap x ox C od) (hs : PySem.W.findIn K (.ref C) name = some (some (.builtin id)))
    (hb : ∀ self, bindSpecial (.builtin id) self = pure (.builtin id, [self])) (h : wpAny M A (call (.builtin id) (.ref x :: args)) (fun v => Q (some v)) E s) : wpAny M A (callSpecialIfBound? (.ref x) name args) Q E s := by
  simp only [callSpecialIfBound?, bindSpecialIfBound?]
  refine wpAny_holding (wpAny_bind (wpAny_bind (wpAny_bind (I.type.here ((PySem.W.looks_findIn X hs).here ?_)))))
  refine wpAny_bind (wpAny_askSetting (wpAny_ite ?_))
  have fin : wpAny M A (call (.builtin id) ([.ref x] ++ args) >>= fun v => pure (some v)) Q E s := wpAny_bind (wpAny_mono h (fun v s' h' => wpAny_pure h') fun _ _ h' => h')
  split
  · exact wpAny_bind ((PySem.W.Looks.of_pure (hb _)).here (wpAny_pure (by exact fin)))
  · exact wpAny_tryCatch (wpAny_bind ((PySem.W.Looks.of_pure (hb _)).here (wpAny_pure (by exact fin))))
theorem obj_neK {A : Around} {E : Value → Shared → Prop} {s : Shared} {prog : Program} {w : World} {K : PySem.W.Frag} {x C f : Addr} {y : Value} {ox : Obj} {od : Option Obj} {Q : Value → Shared → Prop} (hu : A.units + 1 < cLine) (X : K.In s.heap) (I : PySem.W.InstAt s.heap x ox C od) (N : NeC K C) (he : PySem.W.findIn K (.ref C) "__eq__" = some (some (.ref f))) (hf : PySem.W.isFn K (.ref f) = true)
    (h : wpAny (model prog w) A.in1 (call (.ref f) [.ref x, y]) (fun v s' => ∃ c, v = .bool c ∧ Q (.bool (!c)) s') E s) : wpAny (model prog w) A (call (.builtin "object.__ne__") [.ref x, y]) Q E s := by
  refine wpAny_call (codeAny_call_builtin PySem.F.slot_object_ne.plain PySem.F.cmpEntry_ne (PySem.W.check_slot (i := "object.__ne__") (owner := "object") (n := "__ne__") (by decide +kernel) (by decide +kernel) (I.type.andThen (PySem.W.looks_mroIn X N.ob)) (PySem.F.cmpArgs_ne _ _) ?_))
  unfold Builtin.«object.__ne__»
  refine wpAny_bind (m := slotArgs "__ne__" 1 _) (wpAny_pure ?_)
  refine wpAny_bind (m := cRoomFor _ _) (wpAny_cRoomFor (show A.in1.units < cLine from hu) ?_)
  refine wpAny_bind (m := callSpecialIfBound? (.ref x) (Str.ofString "__eq__") _) (PySem.W.ifBound_K X I he hf (wpAny_mono h (fun r s' hq => ?_) fun _ _ z => z))
  obtain ⟨c, rfl, q⟩ := hq
  exact wpAny_bind (wpAny_truthy_bool (wpAny_pure q))
end
end Wl
namespace Wl
open PySem PySem.Spec PyProof.Rows L2
theorem ne_K {A : Around} {E : Value → Shared → Prop} {s : Shared} {prog : Program} {w : World} {K : PySem.W.Frag} {x C f : Addr} {y : Addr} {ox oy : Obj} {od od' : Option Obj} {Q : Value → Shared → Prop} (hu : A.units + 2 < cLine) (X : K.In s.heap) (I : PySem.W.InstAt s.heap x ox C od) (I' : PySem.W.InstAt s.heap y oy C od') (N : NeC K C) (he : PySem.W.findIn K (.ref C) "__eq__" = some (some (.ref f))) (hf : PySem.W.isFn K (.ref f) = true)
    (h : wpAny (model prog w) A.in1 (call (.ref f) [.ref x, .ref y]) (fun v s' => ∃ c, v = .bool c ∧ Q (.bool (!c)) s') E s) : wpAny (model prog w) A (richCompare .NotEq (.ref x) (.ref y)) Q E s := by
  have one : wpAny (model prog w) A (tryCompare (.ref x) "__ne__" (.ref y)) (fun r s' => ∃ v, r = some v ∧ Q v s') E s := by
    unfold tryCompare
    refine wpAny_bind (ifBound_B X I N.ne PySem.F.slot_object_ne.bind (wpAny_mono (obj_neK (Q := fun v s' => ∃ c, v = .bool c ∧ Q v s') (by omega) X I N he hf (wpAny_mono h (fun v s' hv => ?_) fun _ _ z => z)) (fun v s' hv => ?_) fun _ _ z => z))
    · obtain ⟨c, rfl, q⟩ := hv
      exact ⟨c, rfl, _, rfl, q⟩
    · obtain ⟨c, rfl, q⟩ := hv
      exact wpAny_pure ⟨_, rfl, q⟩
  unfold richCompare
  simp only [oneThing_ref]
  refine wpAny_holding (wpAny_bind (wpAny_cRoomFor (by omega) ?_))
  refine wpAny_bind (I.type.here (wpAny_bind (I'.type.here ?_)))
  rw [show (Value.ref C != Value.ref C) = false from by simp]
  simp only [Bool.false_eq_true, if_false]
  refine wpAny_bind (wpAny_pure ?_)
  simp only [Bool.false_eq_true, if_false]
  refine wpAny_bind (wpAny_mono one (fun r s' z => ?_) fun _ _ e => e)
  obtain ⟨v, rfl, hq⟩ := z
  exact wpAny_pure hq
section
variable {X : Cx} {n : Nat} {f : Addr} {fd : FuncData} {ps : List Str} {sp : Sp} {C : Addr}
theorem op_neO (F : FnOk X.prog X.w X.K X.mg X.base CX0 n f fd ps sp) (hb : Binds X.K fd ps []) (m : Meth X.K C "__eq__" f) (N : NeC X.K C) (hr : Room (n + 1) X.A) : OpR X (compareOp .NotEq) (rEqO C sp not) := by
  intro pins s σ H x y v u Q I rx ry h
  obtain ⟨a, dx, fs, b, dy, gs, rfl, rfl, ha, hb', hsp⟩ := h
  cases rx
  cases ry
  obtain ⟨mA, J, _⟩ := ins_get I.hok ha
  obtain ⟨mB, J', _⟩ := ins_get I.hok hb'
  obtain ⟨od, J, _⟩ := J.look
  obtain ⟨od', J', _⟩ := J'.look
  show wpAny (model X.prog X.w) X.A (richCompare .NotEq (.ref a) (.ref b)) (EP X pins σ Q) X.xe s
  refine ne_K (room_u2 hr) I.kIn J J' N m.at_ m.fn (wpAny_mono (run_own F hb (Sub.in1 ⟨hr, rfl⟩) I (v2 a b) hsp) (fun v s' hq => ?_) fun _ _ z => z)
  obtain ⟨z, H', I', rz, c, rfl, q⟩ := hq
  cases rz
  exact ⟨c, rfl, .bl (!c), H', I', rfl, q⟩
/-! x in xs, x not in xs, of objects -/
open GQ MeetsSeq MeetsSeq2 MeetsSeq3 SeqRoads2 in
open AutoSeq1 (wpAny_loadPart') in
theorem contains_loopO {prog : Program} {w : World} {A : Around} {R : Result → Shared → Prop} {l : Addr} {items : Array Value} {x : Value} (P : Nat → Shared → Prop)
    (hl : ∀ i s, P i s → ∃ k, s.heap.get? l = some { cls := .type "list", data := .seq items k })
    (turn : ∀ (i : Nat) (h : i < items.size) (s : Shared), P i s → wpAny (model prog w) A.in1 (eqBool items[i] x) (fun b s' => if b = true then R (.ok (.ret (.bool true))) s' else P (i + 1) s') (fun e s' => R (.error e) s') s)
    (fin : ∀ s, P items.size s → R (.ok (.ret (.bool false))) s) (k : Nat) :
    ∀ i : Nat, items.size - i = k → i ≤ items.size → ∀ s, P i s → wpAny (model prog w) A.in1 (Builtin.«list.__contains__.loop» ⟨[.ref l, x, rawInt i], []⟩) (FinOf prog w A R) (fun e s' => R (.error e) s') s := by
  induction k with
  | zero =>
    intro i hk hi s h
    obtain ⟨k, hl1⟩ := hl i s h
    have e : i = items.size := by omega
    have q := fin s (e ▸ h)
    obtain ⟨hp, g, d, tk, os⟩ := s
    wp_walk using wpAny_loadPart' hl1
    have hi1 : items[((i : Nat) : Int).toNat]? = none := by simp; omega
    rw [hi1]
    wp_walk
    exact q
  | succ k ih =>
    intro i hk hi s h
    obtain ⟨k1, hl1⟩ := hl i s h
    have hlt : i < items.size := by omega
    have ht := turn i hlt s h
    obtain ⟨hp, g, d, tk, os⟩ := s
    wp_walk using wpAny_loadPart' hl1
    have hi1 : items[((i : Nat) : Int).toNat]? = some items[i] := by simp [hlt]
    rw [hi1]
    refine wpAny_bind (wpAny_mono ht (fun b s2 h2 => ?_) fun _ _ z => z)
    cases b with
    | true =>
      rw [if_pos rfl] at h2
      wp_walk
      exact h2
    | false =>
      rw [if_neg (by decide)] at h2
      have hrec := ih (i + 1) (by omega) (by omega) s2 h2
      obtain ⟨hp2, g2, d2, tk2, os2⟩ := s2
      have hc : ((i : Int) + 1) = ((i + 1 : Nat) : Int) := by omega
      wp_walk
      rw [hc]
      exact ⟨plainId_quiet plain_contains_loop _, codeAny_builtin entry_contains_loop (by
        rw [Around.under_plainId plain_contains_loop _]
        exact hrec)⟩
open GQ MeetsSeq MeetsSeq2 MeetsSeq3 SeqRoads2 in
open AutoSeq1 (wpAny_loadPart') in
theorem containsO {prog : Program} {w : World} {A : Around} {R : Result → Shared → Prop} {s : Shared} {l : Addr} {items : Array Value} {x : Value} (P : Nat → Shared → Prop)
    (hl : ∀ i s, P i s → ∃ k, s.heap.get? l = some { cls := .type "list", data := .seq items k })
    (turn : ∀ (i : Nat) (h : i < items.size) (s : Shared), P i s → wpAny (model prog w) A.in1 (eqBool items[i] x) (fun b s' => if b = true then R (.ok (.ret (.bool true))) s' else P (i + 1) s') (fun e s' => R (.error e) s') s)
    (fin : ∀ s, P items.size s → R (.ok (.ret (.bool false))) s) (h : P 0 s) :
    wpAny (model prog w) A.in1 (Builtin.«list.__contains__» ⟨[.ref l, x], []⟩) (FinOf prog w A R) (fun e s' => R (.error e) s') s := by
  have hrec := contains_loopO (A := A) (R := R) P hl turn fin _ 0 rfl (Nat.zero_le _) s h
  obtain ⟨k, hl1⟩ := hl 0 s h
  obtain ⟨hp, g, d, tk, os⟩ := s
  wp_walk using wpAny_loadPart' hl1
  exact ⟨plainId_quiet plain_contains_loop _, codeAny_builtin entry_contains_loop (by
    rw [Around.under_plainId plain_contains_loop _]
    exact hrec)⟩
/-- x in [y]: both of one class -/
def rInO (C : Addr) (sp : Sp) (g : Bool → Bool) : R2 := fun x y H Q => ∃ a dx fs l b dy gs, x = V.ref a ∧ y = V.ref l ∧ H l = some (.lst [.ref b]) ∧ H a = some (.ins C dx fs) ∧ H b = some (.ins C dy gs) ∧ (a = b → Q (.bl (g true)) H) ∧
  (a ≠ b → sp [.ref b, .ref a] H (fun v H' => ∃ c, v = .bl c ∧ H' l = some (.lst [.ref b]) ∧ Q (.bl (g c)) H') E0)
theorem op_inO' (F : FnOk X.prog X.w X.K X.mg X.base CX0 n f fd ps sp) (hb : Binds X.K fd ps []) (m : Meth X.K C "__eq__" f) (hr : Room (n + 1) X.A) {g : Bool → Bool} {pins : List (Addr × Obj)} {s : Shared} {σ : L2.St} {H : Hp} {x y : V} {v u : Value} {Q : VK} (I : L2.Inv X pins σ H s) (rx : RelV x v) (ry : RelV y u) (h : rInO C sp g x y H Q) :
    wpAny (model X.prog X.w) X.A (contains u v) (fun b s' => EP X pins σ Q (.bool (g b)) s') X.xe s := by
  obtain ⟨a, dx, fs, l, b, dy, gs, rfl, rfl, hl, ha, hb', q1, q2⟩ := h
  cases rx
  cases ry
  obtain ⟨z, its, k, r, ho⟩ := I.hok l _ hl
  obtain ⟨u, rfl, ru⟩ := vals1 r
  obtain rfl : u = Value.ref b := ru
  refine wpAny_contains_slot ⟨_, ho, rfl⟩ PySem.F.slot_list_contains (wpAny_mono (GQ.call_here PySem.F.slot_list_contains ⟨_, ho, rfl⟩ PySem.F.entry_list_contains (PySem.F.args_list_contains_2 _ _)
    (containsO (R := wants (fun v s' => ∃ c, v = .bool c ∧ EP X pins σ Q (.bool (g c)) s') X.xe) (items := #[.ref b]) (fun i s' => (i = 0 ∧ s' = s) ∨ (i = 1 ∧ ∃ H', L2.Inv X pins σ H' s' ∧ H' l = some (.lst [.ref b]) ∧ Q (.bl (g false)) H')) (fun i s' h => ?_) (fun i hi s' h => ?_) (fun s' h => ?_) (.inl ⟨rfl, rfl⟩))) (fun v s' hv => ?_) fun _ _ e => e)
  · rcases h with ⟨rfl, rfl⟩ | ⟨rfl, H', I', hl', _⟩
    · exact ⟨k, ho⟩
    · obtain ⟨z', its', k', r', ho'⟩ := I'.hok l _ hl'
      obtain ⟨u, rfl, ru⟩ := vals1 r'
      obtain rfl : u = Value.ref b := ru
      exact ⟨k', ho'⟩
  · have e0 : i = 0 := by simp at hi; omega
    subst e0
    rcases h with ⟨_, rfl⟩ | ⟨e, _⟩
    · show wpAny (model X.prog X.w) X.A.in1 (eqBool (.ref b) (.ref a)) _ _ _
      by_cases e : b = a
      · subst e
        refine SeqAt.EqAt.same (A := X.A.in1) (s := s') (.ref b) X.prog X.w _ _ ?_
        rw [if_pos rfl]
        exact ⟨_, rfl, .bl (g true), H, I, rfl, q1 rfl⟩
      · refine GQ.eqBool_refG e (wpAny_mono (rc_eqO F hb m (Sub.in1 ⟨hr, rfl⟩) I hb' ha (Q := fun c H' => H' l = some (.lst [.ref b]) ∧ Q (.bl (g c)) H') (q2 (Ne.symm e))) (fun v s2 hq => ?_) fun _ _ z => z)
        obtain ⟨c, rfl, H', I', hl', q⟩ := hq
        refine ⟨c, rfl, ?_⟩
        cases c with
        | true =>
          rw [if_pos rfl]
          exact ⟨_, rfl, .bl (g true), H', I', rfl, q⟩
        | false =>
          rw [if_neg (by decide)]
          exact .inr ⟨rfl, H', I', hl', q⟩
    · omega
  · rcases h with ⟨e, _⟩ | ⟨_, H', I', hl', q⟩
    · simp at e
    · exact ⟨_, rfl, .bl (g false), H', I', rfl, q⟩
  · obtain ⟨c, rfl, q⟩ := hv
    exact wpAny_truthy_bool q
theorem op_inO (F : FnOk X.prog X.w X.K X.mg X.base CX0 n f fd ps sp) (hb : Binds X.K fd ps []) (m : Meth X.K C "__eq__" f) (hr : Room (n + 1) X.A) : OpR X (compareOp .In) (rInO C sp id) := by
  intro pins s σ H x y v u Q I rx ry h
  show wpAny _ X.A (do return Value.bool (← contains u v)) _ _ s
  exact wpAny_bind (wpAny_mono (op_inO' F hb m hr I rx ry h) (fun b s' q => wpAny_pure q) fun _ _ z => z)
theorem op_notInO (F : FnOk X.prog X.w X.K X.mg X.base CX0 n f fd ps sp) (hb : Binds X.K fd ps []) (m : Meth X.K C "__eq__" f) (hr : Room (n + 1) X.A) : OpR X (compareOp .NotIn) (rInO C sp not) := by
  intro pins s σ H x y v u Q I rx ry h
  show wpAny _ X.A (do return Value.bool (!(← contains u v))) _ _ s
  exact wpAny_bind (wpAny_mono (op_inO' F hb m hr I rx ry h) (fun b s' q => wpAny_pure q) fun _ _ z => z)
end
end Wl

namespace Wl
open PySem PySem.Spec PyProof.Rows L2
def oD : Option Str → PyData
  | none => .none
  | some z => .str z
def rD (row : Row) : PyData := .tuple (row.map oD)
def gD (g : Grid) : PyData := .tuple (g.map rD)
theorem dp_row {K : PySem.W.Frag} {H : Hp} : ∀ row : Row, DpAll K H (row.map oV) (row.map oD)
  | [] => .nil
  | none :: r => .cons .non (dp_row r)
  | some z :: r => .cons (.str z) (dp_row r)
theorem dp_rows {K : PySem.W.Frag} {H : Hp} : ∀ {as : List Addr} {g : Grid}, RowsAt H as g → DpAll K H (as.map V.ref) (g.map rD)
  | _, _, .nil => .nil
  | _, _, .cons e t => .cons (.tup (.inl (.inl e)) (dp_row _)) (dp_rows t)
theorem dp_grid {K : PySem.W.Frag} {H : Hp} {L : Addr} {g : Grid} (h : GridAt H L g) : Dp K H (.ref L) (gD g) := by
  obtain ⟨as, hL, hR⟩ := h
  exact .tup (.inl (.inl hL)) (dp_rows hR)
theorem lay_row : ∀ {row : Row}, (∀ z ∈ rnames row, IsWd z) → PyData.canLayAll0 (row.map oD) = true
  | [], _ => by simp [PyData.canLayAll0]
  | none :: r, h => by simp [PyData.canLayAll0, oD, PyData.canLay0, lay_row (row := r) h]
  | some z :: r, h => by
    have h1 := wd_ok (h z (by simp [rnames]))
    have h2 := lay_row (row := r) fun y hy => h y (by simp only [rnames, List.filterMap_cons] at hy ⊢; exact List.mem_cons_of_mem _ hy)
    simp [PyData.canLayAll0, oD, PyData.canLay0, h1, h2]
theorem depth_row : ∀ row : Row, PyData.depthAll (row.map oD) = 0
  | [] => by simp [PyData.depthAll]
  | none :: r => by simp [PyData.depthAll, PyData.depth, oD, depth_row r]
  | some z :: r => by simp [PyData.depthAll, PyData.depth, oD, depth_row r]
theorem lay_grid : ∀ {g : Grid}, (∀ z ∈ names g, IsWd z) → PyData.canLayAll0 (g.map rD) = true
  | [], _ => by simp [PyData.canLayAll0]
  | r :: g, h => by
    rw [names_cons] at h
    have h1 := lay_row (row := r) fun z hz => h z (List.mem_append_left _ hz)
    have h2 := lay_grid (g := g) fun z hz => h z (List.mem_append_right _ hz)
    simp [PyData.canLayAll0, rD, PyData.canLay0, h1, h2]
theorem depth_grid : ∀ g : Grid, PyData.depthAll (g.map rD) ≤ 1
  | [] => by simp [PyData.depthAll]
  | r :: g => by
    have := depth_grid g
    have := depth_row r
    simp only [List.map_cons, PyData.depthAll, rD, PyData.depth]
    omega
theorem shaped_grid {g : Grid} {wd : Nat} (gd : Good g wd) : SeqAt.shaped (gD g) = true := shaped_tuple (lay_grid gd.wd) (by have := depth_grid g; omega)
theorem same_x {H0 H1 H2 : Hp} {a : Addr} (s : Same H0 H1) (x : SameX a H1 H2) (h : H0 a = none) : Same H0 H2 := fun b o e => x b o (ne_of_none e h) (s b o e)
theorem made_same {H1 H' : Hp} {x dx C : Addr} (nx : H1 x = none) (ndx : H1 dx = none) (h : ∀ b o, b ≠ x → (upd (upd H1 dx (.own x)) x (.ins C dx [])) b = some o → H' b = some o) : Same H1 H' := fun b o e => by
  have n1 : b ≠ x := ne_of_none e nx
  refine h b o n1 ?_
  rw [upd_ne n1, upd_ne (ne_of_none e ndx)]
  exact e

theorem o_eqv (a b : Option Str) : PyData.eqv (oD a) (oD b) = decide (a = b) := by
  cases a with
  | none => cases b <;> simp [oD, PyData.eqv]
  | some x =>
    cases b with
    | none => simp [oD, PyData.eqv]
    | some y =>
      simp only [oD, PyData.eqv, Option.some.injEq]
      by_cases h : x = y
      · subst h
        simp
      · rw [decide_eq_false h]
        exact beq_eq_false_iff_ne.mpr h
theorem row_eqv : ∀ r q : Row, PyData.eqvAll (r.map oD) (q.map oD) = decide (r = q)
  | [], [] => by simp [PyData.eqvAll]
  | [], _ :: _ => by simp [PyData.eqvAll]
  | _ :: _, [] => by simp [PyData.eqvAll]
  | o :: r, u :: q => by
    simp only [List.map_cons, PyData.eqvAll, o_eqv, row_eqv r q, List.cons.injEq]
    by_cases h1 : o = u <;> by_cases h2 : r = q <;> simp [h1, h2]
theorem rows_eqv : ∀ g g' : Grid, PyData.eqvAll (g.map rD) (g'.map rD) = decide (g = g')
  | [], [] => by simp [PyData.eqvAll]
  | [], _ :: _ => by simp [PyData.eqvAll]
  | _ :: _, [] => by simp [PyData.eqvAll]
  | r :: g, q :: g' => by
    simp only [List.map_cons, PyData.eqvAll, rD, PyData.eqv, row_eqv, rows_eqv g g', List.cons.injEq]
    by_cases h1 : r = q <;> by_cases h2 : g = g' <;> simp [h1, h2]
theorem grid_eqv (g g' : Grid) : PyData.eqv (gD g) (gD g') = decide (g = g') := by
  unfold gD
  simp only [PyData.eqv, rows_eqv]
/-- what the class says of itself, for isinstance and != -/
structure Txt2 (K : PySem.W.Frag) (mg : Str → Option Value) (C : Addr) : Prop where
  t : Txt K mg C
  ins : C8.InsC K C
  ne : NeC K C
theorem fs_no {m : Str} {d L : Addr} (h1 : ¬ m = "rows" := by decide +kernel) (h2 : ¬ m = "spots" := by decide +kernel) : (lf d L).lookup m = none := lf_no d L h1 h2
abbrev sEq : Stmt := inClass sCls 6
abbrev sLen : Stmt := inClass sCls 7
abbrev sStr : Stmt := inClass sCls 8
abbrev sRepr : Stmt := inClass sCls 9
section
variable {P : Program} {w : World} {K : PySem.W.Frag} {mg : Str → Option Value} {base : Heap} {f C : Addr} {fd : FuncData}
theorem LandAt.ins {H : Hp} {p L : Addr} {g : Grid} (h : LandAt C H p L g) : ∃ dx d, H p = some (.ins C dx (lf d L)) := by
  obtain ⟨d, dx, h1, _⟩ := h
  exact ⟨dx, d, h1⟩
theorem LandAt.grid {H : Hp} {p L : Addr} {g : Grid} (h : LandAt C H p L g) : GridAt H L g := by
  obtain ⟨d, dx, _, _, h3⟩ := h
  exact h3
theorem LandAt.same {H H' : Hp} {p L : Addr} {g : Grid} (h : LandAt C H p L g) (s : Same H H') : LandAt C H' p L g := h.keep (kp_same s)
/-! ### == -/
def spLEq (C : Addr) : Sp := fun vs H Q _ => ∃ (p L q M : Addr) (g g' : Grid) (wd wd' : Nat), vs = [.ref p, .ref q] ∧ LandAt C H p L g ∧ Good g wd ∧ LandAt C H q M g' ∧ Good g' wd' ∧ Q (.bl (decide (g = g'))) H
theorem scEq : FnScope ["self", "other"] ["self", "other"] (defScope sEq) := ⟨rfl, rfl, rfl, by decide +kernel, rfl, by decide +kernel, by decide +kernel⟩
theorem ok_leq (F : Fun K "__eq__" "Land.__eq__" sEq f fd) (B : Bi mg) (T : Txt2 K mg C) : FnOk P w K mg base CX0 1 f fd ["self", "other"] (spLEq C) := by
  refine F.ok scEq (fun vs H Q E h => ?_) (fun cdv A outer s H vs Q E hr h => ?_)
  · obtain ⟨p, L, q, M, g, g', wd, wd', rfl, _⟩ := h
    rfl
  · obtain ⟨p, L, q, M, g, g', wd, wd', rfl, h1, gd, h2, gd', qq⟩ := h
    refine ⟨_, pss_one (ps_ret (pe_and (pe_callB (C8.call_isC (C := C) T.ins) (by rfl) B.isi (by decide +kernel) (pa_cons (pv 1) (pa_cons (pe_glob (v := .ref C) rfl T.t.mgC rfl) pa_nil))) (pe_one (pe_cmpR (op_eqD hr.units) (pe_fld (pv 0) rfl) (pe_fld (pv 1) rfl) (nomark _))))), ?_⟩
    obtain ⟨dx, d, i1⟩ := h1.ins
    obtain ⟨dy, e, i2⟩ := h2.ins
    refine ⟨_, rfl, q, dy, _, rfl, i2, true, rfl, iteT ⟨_, rfl, p, C, dx, _, _, rfl, i1, T.t.cl, T.t.nR, lf_rows _ _, _, rfl, q, C, dy, _, _, rfl, i2, T.t.cl, T.t.nR, lf_rows _ _, _, _, dp_grid h1.grid, dp_grid h2.grid, shaped_grid gd, shaped_grid gd', ?_⟩⟩
    rw [grid_eqv]
    exact qq
/-! ### len -/
def spLLen (C : Addr) : Sp := fun vs H Q _ => ∃ (p L : Addr) (g : Grid), vs = [.ref p] ∧ LandAt C H p L g ∧ Q (.int (names g).length) H
theorem scLen : FnScope ["self"] ["self"] (defScope sLen) := ⟨rfl, rfl, rfl, by decide +kernel, rfl, by decide +kernel, by decide +kernel⟩
theorem ok_llen (F : Fun K "__len__" "Land.__len__" sLen f fd) (B : Bi mg) (T : Txt K mg C) : FnOk P w K mg base CX0 1 f fd ["self"] (spLLen C) := by
  refine F.ok scLen (fun vs H Q E h => ?_) (fun cdv A outer s H vs Q E hr h => ?_)
  · obtain ⟨p, L, g, rfl, _⟩ := h
    rfl
  · obtain ⟨p, L, g, rfl, ⟨d, dx, i1, ⟨kvs, hk, he⟩, _⟩, q⟩ := h
    refine ⟨_, pss_one (ps_ret (pe_callB call_lenD (by rfl) B.len PySem.boot_len (pa_cons (pe_fld (pv 0) rfl) pa_nil))), ?_⟩
    refine ⟨_, rfl, p, C, dx, _, _, rfl, i1, T.cl, T.nS, lf_spots _ _, d, kvs, rfl, hk, ?_⟩
    have : kvs.length = (names g).length := by
      rw [he.length, ← spG_fst g 0, List.length_map]
    rw [this]
    exact q
/-! ### repr -/
def reprS (n : Nat) : Str := ("Land(" : Str) ++ (toString (n : Int) : String) ++ (")" : Str)
def spLRepr (C : Addr) : Sp := fun vs H Q _ => ∃ (p L : Addr) (g : Grid), vs = [.ref p] ∧ LandAt C H p L g ∧ (names g).length ≤ 36 ∧ Q (.str (reprS (names g).length)) H
theorem scRepr : FnScope ["self"] ["self"] (defScope sRepr) := ⟨rfl, rfl, rfl, by decide +kernel, rfl, by decide +kernel, by decide +kernel⟩
theorem add_len (x y : Str) : (x ++ y).length = x.length + y.length := by
  rw [TL.len_tl, TL.tl_append, List.length_append, ← TL.len_tl, ← TL.len_tl]
theorem dig_len {n : Nat} (h : n ≤ 36) : ((toString (n : Int) : String) : Str).length ≤ 2 := by
  have : ∀ k : Fin 37, ((toString ((k.val : Nat) : Int) : String) : Str).length ≤ 2 := by decide +kernel
  exact this ⟨n, by omega⟩
theorem str_n (n : Nat) (h : n ≤ 36) : (((n : Nat) : Int).natAbs).log2 < 1920 := by
  have : ((n : Nat) : Int).natAbs = n := Int.natAbs_natCast n
  rw [this]
  have h2 : n.log2 ≤ n := Nat.log2_le_self n
  omega
theorem ok_lrepr (F : Fun K "__repr__" "Land.__repr__" sRepr f fd) (B : Bi mg) (T : Txt K mg C) : FnOk P w K mg base CX0 1 f fd ["self"] (spLRepr C) := by
  refine F.ok scRepr (fun vs H Q E h => ?_) (fun cdv A outer s H vs Q E hr h => ?_)
  · obtain ⟨p, L, g, rfl, _⟩ := h
    rfl
  · obtain ⟨p, L, g, rfl, ⟨d, dx, i1, ⟨kvs, hk, he⟩, _⟩, h36, q⟩ := h
    refine ⟨_, pss_one (ps_ret (pe_joined (.cons pe_str (.cons (pe_fmt (pe_callB call_lenD (by rfl) B.len PySem.boot_len (pa_cons (pe_fld (pv 0) rfl) pa_nil))) (.cons pe_str .nil))))), ?_⟩
    have ek : kvs.length = (names g).length := by
      rw [he.length, ← spG_fst g 0, List.length_map]
    refine ⟨_, rfl, by decide +kernel, _, rfl, p, C, dx, _, _, rfl, i1, T.cl, T.nS, lf_spots _ _, d, kvs, rfl, hk, .inr ⟨_, rfl, ?_, _, rfl, ?_, _, rfl, ?_, ?_⟩⟩
    · rw [ek]
      exact str_n _ h36
    · rw [ek]
      exact lzl (by rw [add_len, add_len]; have := dig_len h36; have : (Str.empty).length = 0 := rfl; have : ("Land(" : Str).length = 5 := (by decide +kernel); omega)
    · rw [ek]
      exact lzl (by rw [add_len, add_len, add_len]; have := dig_len h36; have : (Str.empty).length = 0 := rfl; have : ("Land(" : Str).length = 5 := (by decide +kernel); have : (")" : Str).length = 1 := (by decide +kernel); omega)
    · have e0 : (Str.empty ++ ("Land(" : Str)) = ("Land(" : Str) := by decide +kernel
      rw [ek]
      show Q (.str (Str.empty ++ ("Land(" : Str) ++ _ ++ (")" : Str))) H
      rw [e0]
      exact q
/-! ### str -/
def showV : V → V
  | .non => .str "-"
  | v => v
theorem sum_len {m : Nat} : ∀ {l : List Str}, (∀ z ∈ l, z.length ≤ m) → (l.map (·.length)).sum ≤ l.length * m
  | [], _ => by simp
  | z :: r, h => by
    have h1 := h z List.mem_cons_self
    have h2 := sum_len (m := m) (l := r) fun y hy => h y (List.mem_cons_of_mem _ hy)
    rw [List.map_cons, List.sum_cons, List.length_cons, Nat.succ_mul]
    omega
theorem oV_inj {o u : Option Str} (h : oV o = oV u) : o = u := by
  cases o with
  | none =>
    cases u with
    | none => rfl
    | some z => cases h
  | some y =>
    cases u with
    | none => cases h
    | some z =>
      cases h
      rfl
theorem map_oV_inj : ∀ {r q : Row}, r.map oV = q.map oV → r = q
  | [], [], _ => rfl
  | [], _ :: _, e => by simp at e
  | _ :: _, [], e => by simp at e
  | o :: r, u :: q, e => by
    simp only [List.map_cons, List.cons.injEq] at e
    rw [oV_inj e.1, map_oV_inj e.2]
theorem lines_of {H : Hp} : ∀ {as : List Addr} {g : Grid} {zs : List V}, RowsAt H as g → Each (fun (x z : V) => ∀ (pr : Addr) (row : Row), x = .ref pr → H pr = some (.tup (row.map oV)) → z = .str (lineS row)) (as.map V.ref) zs → zs = (g.map lineS).map V.str
  | [], [], [], _, _ => rfl
  | [], [], _ :: _, _, h => nomatch h
  | [], _ :: _, _, h, _ => nomatch h
  | _ :: _, [], _, h, _ => nomatch h
  | _ :: _, _ :: _, [], _, h => nomatch h
  | a :: as, r :: g, z :: zs, .cons e t, .cons e' t' => by
    rw [e' a r rfl e, lines_of t t']
    rfl
def spLStr (C : Addr) : Sp := fun vs H Q _ => ∃ (p L : Addr) (g : Grid) (wd : Nat), vs = [.ref p] ∧ LandAt C H p L g ∧ Good g wd ∧ ∀ (H' : Hp), Same H H' → Q (.str (landS g)) H'
abbrev nStr : List Str := ["self", "row", "part"]
theorem scStr : FnScope nStr ["self"] (defScope sStr) := ⟨rfl, rfl, rfl, by decide +kernel, rfl, by decide +kernel, by decide +kernel⟩
theorem ok_lstr (F : Fun K "__str__" "Land.__str__" sStr f fd) (T : Txt K mg C) (hlk : ∃ t, mg "LAKE" = some (.str "-" t)) : FnOk P w K mg base CX0 1 f fd ["self"] (spLStr C) := by
  obtain ⟨tl, gl⟩ := hlk
  refine F.ok scStr (fun vs H Q E h => ?_) (fun cdv A outer s H vs Q E hr h => ?_)
  · obtain ⟨p, L, g, wd, rfl, _⟩ := h
    rfl
  · obtain ⟨p, L, g, wd, rfl, ⟨d, dx, i1, _, as, hL, hR⟩, gd, q⟩ := h
    refine ⟨_, pss_one (ps_ret (pe_join pe_str (pe_lc (own := [("row", 1)]) (g := gName 1) (tt := tYes) (te := tM1 (fun x xs H Q => ∃ a p, ∃ ys : List Str, x = .str a ∧ xs = [.ref p] ∧ (SqL K H p (ys.map V.str) ∨ SqT K H p (ys.map V.str)) ∧ (ys.map (·.length)).sum + ys.length * a.length ≤ 16777216 ∧ Q (.str (Txt.join a ys)) H) (tC (.str " ")) (tLc (iTup K (tVar 1)) (gName 2) tYes (tIf (tB (tIsN (tVar 2))) (tC (.str "-")) (tVar 2)) [2])) rfl scStr.nd (pi_tup (pe_fld (pv 0) rfl)) (blkOk_by (N := nStr) (sc := defScope sStr) (by decide +kernel)) (fun _ _ _ _ _ => pg_name (i := 1) scStr.nd rfl (.inl rfl)) (fun _ _ _ _ _ => pts_nil)
      (fun _ _ _ _ _ => pe_join pe_str (pe_lc (own := [("part", 2)]) (g := gName 2) (tt := tYes) rfl scStr.nd (pi_tup (pv 1)) (blkOk_by (N := nStr) (sc := { kind := .function, names := [(".0", .local), ("row", .local)], isGenerator := false, isCoroutine := false }) (by decide +kernel)) (fun _ _ _ _ _ => pg_name (i := 2) scStr.nd rfl (.inl rfl)) (fun _ _ _ _ _ => pts_nil) (fun _ _ _ _ _ => pe_ifExp (pt_cmp (pc_isN (pv 2))) (pe_glob (v := .str "-") (by rfl) gl ⟨_, rfl⟩) (pv 2))))))), ?_⟩
    refine ⟨⟨_, rfl⟩, _, rfl, p, C, dx, _, _, rfl, i1, T.cl, T.nR, lf_rows _ _, L, rfl, ⟨_, .inl (.inl hL)⟩, fun D hD => ?_⟩
    have h6 : as.length ≤ 6 := by rw [hR.length]; exact gd.h6
    refine lc_rel (walk_tup (K := K) (a := L) (xs := as.map V.ref)) hD (fun _ => true) (fun x y _ => ∀ (pr : Addr) (row : Row), x = .ref pr → H pr = some (.tup (row.map oV)) → y = .str (lineS row)) (fun H' s' => .inl (.inl (s' _ _ hL))) (fun _ => rfl) (fun x H' _ _ Q' q' => q') ?_ (fun _ _ _ _ _ _ _ r => r) ?_ ?_
    · intro x H' hx _ s' Q' q'
      obtain ⟨pr, hpr, rfl⟩ := List.mem_map.mp hx
      obtain ⟨i, hi, ei⟩ := List.mem_iff_getElem.mp hpr
      obtain ⟨row, hrow, hH⟩ := hR.get (i := i) (a := pr) (by rw [List.getElem?_eq_getElem hi, ei])
      have hrm := List.mem_of_getElem? hrow
      have hr6 : row.length ≤ 6 := gd.six row hrm
      refine ⟨⟨_, rfl⟩, _, rfl, pr, rfl, ⟨_, .inl (.inl (s' _ _ hH))⟩, fun D2 hD2 => ?_⟩
      refine lc_map (walk_tup (K := K) (a := pr) (xs := row.map oV)) hD2 (fun _ => true) showV (fun H2 s2 => .inl (.inl (s2 _ _ (s' _ _ hH)))) (fun _ => rfl) (fun x H' _ _ Q' q' => q') ?_ ?_ ?_
      · intro x H2 hx2 _ _ Q2 q2
        obtain ⟨o, _, rfl⟩ := List.mem_map.mp hx2
        refine ⟨_, rfl, _, rfl, ?_⟩
        cases o with
        | none => exact iteT q2
        | some z => exact iteF ⟨_, rfl, q2⟩
      · rw [List.length_map]
        exact small1000 (by omega)
      · intro H2 s2 hD3
        have e1 : ((row.map oV).filter fun _ => true).map showV = (row.map partS).map V.str := by
          rw [List.filter_eq_self.mpr fun _ _ => rfl, List.map_map, List.map_map]
          refine List.map_congr_left fun o _ => ?_
          cases o <;> rfl
        rw [e1] at hD3
        refine ⟨_, D2, row.map partS, rfl, rfl, .inl (.inl (.inl hD3)), ?_, q' _ H2 s2 fun pr2 row2 e2 h2 => ?_⟩
        · have := sum_len (l := row.map partS) (m := 8) fun z hz => by
            obtain ⟨o, ho, rfl⟩ := List.mem_map.mp hz
            rw [TL.len_tl]
            exact (part_tl (gd.parts row hrm o ho)).1
          rw [List.length_map] at this ⊢
          have e : (" " : Str).length = 1 := by decide +kernel
          rw [e]
          omega
        · obtain rfl : pr = pr2 := V.ref.inj e2
          rw [hH] at h2
          have : row = row2 := map_oV_inj (HO.tup.inj (Option.some.inj h2))
          rw [← this]
          rfl
    · rw [List.length_map]
      exact small1000 (by omega)
    · intro zs H1 s1 hD1 he
      rw [List.filter_eq_self.mpr fun _ _ => rfl] at he
      have e1 : zs = (g.map lineS).map V.str := lines_of hR he
      rw [e1] at hD1
      refine ⟨_, D, g.map lineS, rfl, rfl, .inl (.inl (.inl hD1)), ?_, q H1 s1⟩
      have := sum_len (l := g.map lineS) (m := 54) fun z hz => by
        obtain ⟨r, hr', rfl⟩ := List.mem_map.mp hz
        exact line_len (gd.parts r hr') (gd.six r hr')
      rw [List.length_map] at this ⊢
      have e : ("\n" : Str).length = 1 := by decide +kernel
      have := gd.h6
      rw [e]
      omega
end
end Wl

namespace Wl
open PySem PySem.Spec PyProof.Rows L2
abbrev sIsWhole : Stmt := topS 17
abbrev sIsNum : Stmt := topS 18
abbrev sCheckW : Stmt := topS 20
abbrev sCheckA : Stmt := topS 35
abbrev sCheckS : Stmt := topS 36
abbrev sKeyOf : Stmt := topS 37
abbrev sGat : Stmt := topS 39
abbrev sGInit : Stmt := inClass sGat 0
abbrev sGPlace : Stmt := inClass sGat 1
abbrev sGPut : Stmt := inClass sGat 2
/-- what was told -/
structure Tel where
  v : Str
  th : Str
  wo : Str
  tl : Str
  age : Nat
  g : Str
  sure : Bool
deriving DecidableEq
def telV (t : Tel) : List V := [.str t.v, .str t.th, .str t.wo, .str t.tl, .int (t.age : Int), .str t.g, .bl t.sure]
def keyV (t : Tel) : List V := [.str t.v, .str t.tl, .str t.th, .str t.g]
structure OkT (t : Tel) : Prop where
  v : IsWd t.v
  th : IsWd t.th
  wo : IsWd t.wo
  tl : IsWd t.tl
  age : t.age ≤ 120
  g : IsWd t.g
def TelsAt (H : Hp) (as : List Addr) (ts : List Tel) : Prop := Each (fun (p : Addr) (t : Tel) => H p = some (.tup (telV t))) as ts
theorem TelsAt.keep {H H' : Hp} {as : List Addr} {ts : List Tel} (h : TelsAt H as ts) (k : TupKeep H H') : TelsAt H' as ts := Each.mono (fun p t e => k p _ e) h
section
variable {P : Program} {w : World} {K : PySem.W.Frag} {mg : Str → Option Value} {base : Heap} {f C : Addr} {fd : FuncData}
structure Bg (mg : Str → Option Value) : Prop where
  bool : mg "bool" = none
  oldest : ∃ t, mg "OLDEST" = some (.int 120 t)
  most : ∃ t, mg "MOST_TELLINGS" = some (.int 200 t)
  dot : ∃ t, mg "DOT" = some (.str "." t)
  doubt : ∃ t, mg "DOUBT" = some (.str "?" t)
/-! ### is_whole, is_number_from -/
def spIsWhole : Sp := fun vs H Q _ => ∃ (n : Int), vs = [.int n] ∧ Q (.bl true) H
theorem scIsWhole : FnScope ["thing"] ["thing"] (defScope sIsWhole) := ⟨rfl, rfl, rfl, by decide +kernel, rfl, by decide +kernel, by decide +kernel⟩
theorem ok_iswhole (F : Fun K "is_whole" "is_whole" sIsWhole f fd) (B : Bi mg) (B2 : Bg mg) : FnOk P w K mg base CX0 1 f fd ["thing"] spIsWhole := by
  refine F.ok scIsWhole (fun vs H Q E h => ?_) (fun cdv A outer s H vs Q E hr h => ?_)
  · obtain ⟨n, rfl, _⟩ := h
    rfl
  · obtain ⟨n, rfl, q⟩ := h
    refine ⟨_, pss_one (ps_ret (pe_and (pe_callB call_isi (by rfl) B.isi (by decide +kernel) (pa_cons (pv 0) (pa_cons (pe_bltn (v := .ty "int") (by rfl) B.int (by decide +kernel) rfl) pa_nil)))
      (pe_one (pe_not (pe_callB call_isi (by rfl) B.isi (by decide +kernel) (pa_cons (pv 0) (pa_cons (pe_bltn (v := .ty "bool") (by rfl) B2.bool (by decide +kernel) rfl) pa_nil))))))), ?_⟩
    refine ⟨_, rfl, _, _, _, _, _, rfl, .ty "int", .base (.int n), kit_ty (r := true) (by decide +kernel), true, rfl, iteT ?_⟩
    exact ⟨_, rfl, _, _, _, _, _, rfl, .ty "bool", .base (.int n), kit_ty (r := false) (by decide +kernel), false, rfl, q⟩
def spIsNum : Sp := fun vs H Q _ => ∃ (n lo hi : Int), vs = [.int n, .int lo, .int hi] ∧ lo ≤ n ∧ n ≤ hi ∧ Q (.bl true) H
theorem scIsNum : FnScope ["thing", "least", "most"] ["thing", "least", "most"] (defScope sIsNum) := ⟨rfl, rfl, rfl, by decide +kernel, rfl, by decide +kernel, by decide +kernel⟩
theorem ok_isnum (F : Fun K "is_number_from" "is_number_from" sIsNum f fd) (hI : Has P w K mg base "is_whole" 1 ["thing"] spIsWhole) : FnOk P w K mg base CX0 2 f fd ["thing", "least", "most"] spIsNum := by
  refine F.ok scIsNum (fun vs H Q E h => ?_) (fun cdv A outer s H vs Q E hr h => ?_)
  · obtain ⟨n, lo, hi, rfl, _⟩ := h
    rfl
  · obtain ⟨n, lo, hi, rfl, h1, h2, q⟩ := h
    refine ⟨_, pss_one (ps_ret (pe_and (pe_h hI hr (pa_cons (pv 0) pa_nil)) (pe_one (pe_chain op_le op_le (pv 1) (pv 0) (pv 2))))), ?_⟩
    refine ⟨_, rfl, n, rfl, true, rfl, iteT ?_⟩
    refine ⟨_, rfl, _, rfl, _, _, rfl, rfl, _, rfl, ?_⟩
    rw [decide_eq_true h1]
    refine iteT ⟨_, rfl, _, _, rfl, rfl, ?_⟩
    show Q (.bl (decide (n ≤ hi))) H
    rw [decide_eq_true h2]
    exact q
/-! ### check_word -/
def spCheckW : Sp := fun vs H Q _ => ∃ (z : Str), vs = [.str z] ∧ IsWd z ∧ ∀ (H' : Hp), Same H H' → Q .non H'
theorem scCheckW : FnScope ["word"] ["word"] (defScope sCheckW) := ⟨rfl, rfl, rfl, by decide +kernel, rfl, by decide +kernel, by decide +kernel⟩
theorem ok_checkw (F : Fun K "check_word" "check_word" sCheckW f fd) (hI : Has P w K mg base "is_word" 1 ["thing"] spIsWord) : FnOk P w K mg base CX0 2 f fd ["word"] spCheckW := by
  refine F.ok scCheckW (fun vs H Q E h => ?_) (fun cdv A outer s H vs Q E hr h => ?_)
  · obtain ⟨z, rfl, _⟩ := h
    rfl
  · obtain ⟨z, rfl, hz, q⟩ := h
    refine ⟨_, pss_one (ps_if (pt_not (pt_val (pe_h hI hr (pa_cons (pv 0) pa_nil)))) (pss_one ps_never) pss_nil), ?_⟩
    refine ⟨_, rfl, z, rfl, by have := hz.len; omega, fun H1 s1 => ⟨_, rfl, ?_⟩⟩
    rw [show wdB z = true from hz]
    exact iteF (q H1 s1)
/-! ### check_age -/
def spCheckA : Sp := fun vs H Q _ => ∃ (n : Nat), vs = [.int (n : Int)] ∧ n ≤ 120 ∧ Q .non H
theorem scCheckA : FnScope ["age"] ["age"] (defScope sCheckA) := ⟨rfl, rfl, rfl, by decide +kernel, rfl, by decide +kernel, by decide +kernel⟩
theorem ok_checka (F : Fun K "check_age" "check_age" sCheckA f fd) (B2 : Bg mg) (hI : Has P w K mg base "is_number_from" 2 ["thing", "least", "most"] spIsNum) : FnOk P w K mg base CX0 3 f fd ["age"] spCheckA := by
  obtain ⟨t, gt⟩ := B2.oldest
  refine F.ok scCheckA (fun vs H Q E h => ?_) (fun cdv A outer s H vs Q E hr h => ?_)
  · obtain ⟨z, rfl, _⟩ := h
    rfl
  · obtain ⟨n, rfl, hn, q⟩ := h
    refine ⟨_, pss_one (ps_if (pt_not (pt_val (pe_h hI hr (pa_cons (pv 0) (pa_cons pe_int (pa_cons (pe_glob (v := .int 120) rfl gt ⟨_, rfl⟩) pa_nil)))))) (pss_one ps_never) pss_nil), ?_⟩
    exact ⟨_, rfl, n, 0, 120, rfl, by omega, by omega, true, rfl, iteF q⟩
/-! ### check_sure -/
def spCheckS : Sp := fun vs H Q _ => ∃ (b : Bool), vs = [.bl b] ∧ Q .non H
theorem scCheckS : FnScope ["sure"] ["sure"] (defScope sCheckS) := ⟨rfl, rfl, rfl, by decide +kernel, rfl, by decide +kernel, by decide +kernel⟩
theorem ok_checks (F : Fun K "check_sure" "check_sure" sCheckS f fd) (B : Bi mg) (B2 : Bg mg) : FnOk P w K mg base CX0 1 f fd ["sure"] spCheckS := by
  refine F.ok scCheckS (fun vs H Q E h => ?_) (fun cdv A outer s H vs Q E hr h => ?_)
  · obtain ⟨z, rfl, _⟩ := h
    rfl
  · obtain ⟨b, rfl, q⟩ := h
    refine ⟨_, pss_one (ps_if (pt_not (pt_val (pe_callB call_isi (by rfl) B.isi (by decide +kernel) (pa_cons (pv 0) (pa_cons (pe_bltn (v := .ty "bool") (by rfl) B2.bool (by decide +kernel) rfl) pa_nil))))) (pss_one ps_never) pss_nil), ?_⟩
    exact ⟨_, rfl, _, _, _, _, _, rfl, .ty "bool", .base (.bl b), kit_ty (r := true) (by decide +kernel), true, rfl, iteF q⟩
/-! ### key_of -/
def spKeyOf : Sp := fun vs H Q _ => ∃ (p : Addr) (t : Tel), vs = [.ref p] ∧ H p = some (.tup (telV t)) ∧ ∀ u, H u = none → Q (.ref u) (upd H u (.tup (keyV t)))
theorem scKeyOf : FnScope ["telling"] ["telling"] (defScope sKeyOf) := ⟨rfl, rfl, rfl, by decide +kernel, rfl, by decide +kernel, by decide +kernel⟩
theorem ok_keyof (F : Fun K "key_of" "key_of" sKeyOf f fd) : FnOk P w K mg base CX0 1 f fd ["telling"] spKeyOf := by
  refine F.ok scKeyOf (fun vs H Q E h => ?_) (fun cdv A outer s H vs Q E hr h => ?_)
  · obtain ⟨p, t, rfl, _⟩ := h
    rfl
  · obtain ⟨p, t, rfl, hp, q⟩ := h
    refine ⟨_, pss_one (ps_ret (pe_tup (pa_cons (pe_ix ix_tup (pv 0) pe_int (fun _ _ => rfl)) (pa_cons (pe_ix ix_tup (pv 0) pe_int (fun _ _ => rfl)) (pa_cons (pe_ix ix_tup (pv 0) pe_int (fun _ _ => rfl)) (pa_cons (pe_ix ix_tup (pv 0) pe_int (fun _ _ => rfl)) pa_nil)))))), ?_⟩
    refine ⟨_, rfl, p, _, _, _, rfl, rfl, .inl (.inl hp), atI_nat (j := 0) rfl, _, rfl, p, _, _, _, rfl, rfl, .inl (.inl hp), atI_nat (j := 3) rfl, _, rfl, p, _, _, _, rfl, rfl, .inl (.inl hp), atI_nat (j := 1) rfl, _, rfl, p, _, _, _, rfl, rfl, .inl (.inl hp), atI_nat (j := 5) rfl, lz, fun u hu => q u hu⟩
end
end Wl

namespace Wl
open PySem PySem.Spec PyProof.Rows L2
/-! A Gathering on the heap. -/
def gf (l t d : Addr) : List (Str × V) := putF "deeds" (.ref d) (putF "told" (.ref t) (putF "land" (.ref l) []))
theorem gf_land (l t d : Addr) : (gf l t d).lookup ("land" : Str) = some (.ref l) := by
  unfold gf
  rw [lookup_putF, if_neg (by decide +kernel), lookup_putF, if_neg (by decide +kernel), lookup_putF, if_pos rfl]
theorem gf_told (l t d : Addr) : (gf l t d).lookup ("told" : Str) = some (.ref t) := by
  unfold gf
  rw [lookup_putF, if_neg (by decide +kernel), lookup_putF, if_pos rfl]
theorem gf_deeds (l t d : Addr) : (gf l t d).lookup ("deeds" : Str) = some (.ref d) := by
  unfold gf
  rw [lookup_putF, if_pos rfl]
theorem gf_no (l t d : Addr) {m : Str} (h1 : ¬ m = "deeds" := by decide +kernel) (h2 : ¬ m = "told" := by decide +kernel) (h3 : ¬ m = "land" := by decide +kernel) : (gf l t d).lookup m = none := by
  unfold gf
  rw [lookup_putF, if_neg h1, lookup_putF, if_neg h2, lookup_putF, if_neg h3]
  rfl
structure GR where
  pl : Addr
  L : Addr
  td : Addr
  dd : Addr
  g : Grid
  as : List Addr
  ts : List Tel
  ds : List V
structure GatAt (C D : Addr) (H : Hp) (p : Addr) (r : GR) : Prop where
  at_ : ∃ dx, H p = some (.ins D dx (gf r.pl r.td r.dd))
  land : LandAt C H r.pl r.L r.g
  told : H r.td = some (.lst (r.as.map V.ref))
  tels : TelsAt H r.as r.ts
  deeds : H r.dd = some (.lst r.ds)
  ne : r.td ≠ r.dd
theorem GatAt.same {C D : Addr} {H H' : Hp} {p : Addr} {r : GR} (h : GatAt C D H p r) (s : Same H H') : GatAt C D H' p r :=
  ⟨let ⟨dx, e⟩ := h.at_; ⟨dx, s _ _ e⟩, h.land.keep (kp_same s), s _ _ h.told, h.tels.keep (tk_same s), s _ _ h.deeds, h.ne⟩
/-- all but what stands at a and b is as it was -/
def Same2 (a b : Addr) (H H' : Hp) : Prop := ∀ c o, c ≠ a → c ≠ b → H c = some o → H' c = some o
theorem Same2.of {a b : Addr} {H H' : Hp} (s : Same H H') : Same2 a b H H' := fun c o _ _ h => s c o h
theorem Same2.trans {a b : Addr} {H H1 H2 : Hp} (s : Same2 a b H H1) (t : Same2 a b H1 H2) : Same2 a b H H2 := fun c o n m h => t c o n m (s c o n m h)
structure TxtG (K : PySem.W.Frag) (mg : Str → Option Value) (D : Addr) : Prop where
  cl : Cls K D
  nL : NoAttr K D "land"
  nT : NoAttr K D "told"
  nD : NoAttr K D "deeds"
  mgD : mg "Gathering" = some (.ref D)
def keyS (t : Tel) : List Str := [t.v, t.tl, t.th, t.g]
theorem keyV_eq (t : Tel) : keyV t = (keyS t).map V.str := rfl
theorem strs_eqv : ∀ a b : List Str, PyData.eqvAll (a.map PyData.str) (b.map PyData.str) = decide (a = b)
  | [], [] => by simp [PyData.eqvAll]
  | [], _ :: _ => by simp [PyData.eqvAll]
  | _ :: _, [] => by simp [PyData.eqvAll]
  | x :: a, y :: b => by
    have e : PyData.eqv (.str x) (.str y) = decide (x = y) := o_eqv (some x) (some y) |>.trans (by simp)
    simp only [List.map_cons, PyData.eqvAll, e, strs_eqv a b, List.cons.injEq]
    by_cases h1 : x = y <;> by_cases h2 : a = b <;> simp [h1, h2]
theorem tup_eqv (a b : List Str) : PyData.eqv (.tuple (a.map PyData.str)) (.tuple (b.map PyData.str)) = decide (a = b) := by
  simp only [PyData.eqv, strs_eqv]
theorem shaped_strs {a : List Str} (h : ∀ z ∈ a, IsWd z) : SeqAt.shaped (.tuple (a.map PyData.str)) = true := shaped_tuple (lay_strs h) (by rw [depth_strs]; omega)
theorem OkT.key {t : Tel} (h : OkT t) : ∀ z ∈ keyS t, IsWd z := fun z hz => by
  simp only [keyS, List.mem_cons, List.not_mem_nil, or_false] at hz
  rcases hz with rfl | rfl | rfl | rfl
  · exact h.v
  · exact h.tl
  · exact h.th
  · exact h.g
section
variable {P : Program} {w : World} {K : PySem.W.Frag} {mg : Str → Option Value} {base : Heap} {f C D : Addr} {fd : FuncData}
theorem land_but {H H' : Hp} {p pl L dx : Addr} {g : Grid} {fs : List (Str × V)} (h : LandAt C H pl L g) (hp : H p = some (.ins D dx fs)) (n : p ≠ pl) (k : ∀ b o, b ≠ p → H b = some o → H' b = some o) : LandAt C H' pl L g := by
  obtain ⟨d, dl, k1, ⟨kvs, k2, k3⟩, k4⟩ := h
  have tk : TupKeep H H' := fun b xs e => k b _ (ne_of e hp (by intro z; cases z)) e
  exact ⟨d, dl, k _ _ n.symm k1, ⟨kvs, k _ _ (ne_of k2 hp (by intro z; cases z)) k2, ent_keep tk k3⟩, k4.keep tk⟩
/-! ### a new one -/
def spGInit (C D : Addr) : Sp := fun vs H Q _ => ∃ (p dx pl L : Addr) (g : Grid), vs = [.ref p, .ref pl] ∧ H p = some (.ins D dx []) ∧ LandAt C H pl L g ∧ p ≠ pl ∧
  ∀ (td dd : Addr) (H' : Hp), H td = none → H dd = none → (∀ b o, b ≠ p → H b = some o → H' b = some o) → GatAt C D H' p ⟨pl, L, td, dd, g, [], [], []⟩ → Q .non H'
theorem scGInit : FnScope ["self", "land"] ["self", "land"] (defScope sGInit) := ⟨rfl, rfl, rfl, by decide +kernel, rfl, by decide +kernel, by decide +kernel⟩
theorem ok_ginit (F : Fun K "__init__" "Gathering.__init__" sGInit f fd) (B : Bi mg) (T : Txt2 K mg C) (TG : TxtG K mg D) : FnOk P w K mg base CX0 1 f fd ["self", "land"] (spGInit C D) := by
  refine F.ok scGInit (fun vs H Q E h => ?_) (fun cdv A outer s H vs Q E hr h => ?_)
  · obtain ⟨p, dx, pl, L, g, rfl, _⟩ := h
    rfl
  · obtain ⟨p, dx, pl, L, g, rfl, hp, hLa, npl, q⟩ := h
    refine ⟨_, pss_cons (ps_if (pt_not (pt_val (pe_callB (C8.call_isC (C := C) T.ins) (by rfl) B.isi (by decide +kernel) (pa_cons (pv 1) (pa_cons (pe_glob (v := .ref C) rfl T.t.mgC rfl) pa_nil))))) (pss_one ps_never) pss_nil)
      (pss_cons (ps_fld (pv 0) (pv 1) rfl) (pss_cons (ps_fld (pv 0) (pe_lst pa_nil) rfl) (pss_one (ps_fld (pv 0) (pe_lst pa_nil) rfl)))), ?_⟩
    obtain ⟨dl, d, i1⟩ := hLa.ins
    refine ⟨_, rfl, pl, dl, _, rfl, i1, true, rfl, iteF ?_⟩
    refine ⟨_, rfl, _, rfl, p, D, dx, [], rfl, hp, TG.cl, TG.nL, (by show 0 < 1000; decide), ?_⟩
    refine ⟨lz, fun td htd => ⟨_, rfl, p, D, dx, putF "land" (.ref pl) [], rfl, (same_new htd) _ _ upd_same, TG.cl, TG.nT, (by show 1 < 1000; decide), ?_⟩⟩
    refine ⟨lz, fun dd hdd => ⟨_, rfl, p, D, dx, putF "told" (.ref td) (putF "land" (.ref pl) []), rfl, (same_new hdd) _ _ upd_same, TG.cl, TG.nD, (by show 2 < 1000; decide), ?_⟩⟩
    have ntp : td ≠ p := fun e => by
      rw [e, upd_same] at htd
      cases htd
    have htd0 : H td = none := by
      rw [upd_ne ntp] at htd
      exact htd
    have ndp : dd ≠ p := fun e => by
      rw [e, upd_same] at hdd
      cases hdd
    have ndt : dd ≠ td := fun e => by
      rw [e, upd_ne ntp, upd_same] at hdd
      cases hdd
    have hdd0 : H dd = none := by
      rw [upd_ne ndp, upd_ne ndt, upd_ne ndp] at hdd
      exact hdd
    have all : ∀ b o, b ≠ p → H b = some o → upd (upd (upd (upd (upd H p (.ins D dx (putF "land" (.ref pl) []))) td (.lst [])) p (.ins D dx (putF "told" (.ref td) (putF "land" (.ref pl) [])))) dd (.lst [])) p (.ins D dx (gf pl td dd)) b = some o := fun b o n e => by
      rw [upd_ne n, upd_ne (ne_of_none e hdd0), upd_ne n, upd_ne (ne_of_none e htd0), upd_ne n]
      exact e
    refine q td dd _ htd0 hdd0 all ⟨⟨dx, upd_same⟩, ?_, ?_, .nil, ?_, ndt.symm⟩
    · exact land_but hLa hp npl all
    · rw [upd_ne ntp, upd_ne ndt.symm, upd_ne ntp, upd_same]
      rfl
    · rw [upd_ne ndp, upd_same]
/-! ### where a key stands -/
def plV (o : Option Nat) : V := match o with
  | some i => .int (i : Int)
  | none => .non
def spGPlace (C D : Addr) : Sp := fun vs H Q _ => ∃ (p kp : Addr) (r : GR) (ks : List Str), vs = [.ref p, .ref kp] ∧ GatAt C D H p r ∧ (∀ t ∈ r.ts, OkT t) ∧ r.ts.length ≤ 200 ∧ H kp = some (.tup (ks.map V.str)) ∧ (∀ z ∈ ks, IsWd z) ∧
  ∀ (H' : Hp), Same H H' → Q (plV (r.ts.findIdx? fun t => decide (keyS t = ks))) H'
abbrev nGPlace : List Str := ["self", "key", "place", "telling"]
theorem scGPlace : FnScope nGPlace ["self", "key"] (defScope sGPlace) := ⟨rfl, rfl, rfl, by decide +kernel, rfl, by decide +kernel, by decide +kernel⟩
theorem find_at {α : Type} {q : α → Bool} {l : List α} {i : Nat} {x : α} (h : l[i]? = some x) (hq : q x = true) (hn : ∀ j y, j < i → l[j]? = some y → q y = false) : l.findIdx? q = some i := by
  rw [List.findIdx?_eq_some_iff_getElem]
  obtain ⟨hi, e⟩ := List.getElem?_eq_some_iff.mp h
  refine ⟨hi, by rw [e]; exact hq, fun j hj => ?_⟩
  rw [hn j _ hj (List.getElem?_eq_getElem (by omega))]
  decide
theorem ok_gplace (F : Fun K "place_of" "Gathering.place_of" sGPlace f fd) (B : Bi mg) (TG : TxtG K mg D) (hK : Has P w K mg base "key_of" 1 ["telling"] spKeyOf) : FnOk P w K mg base CX0 2 f fd ["self", "key"] (spGPlace C D) := by
  refine F.ok scGPlace (fun vs H Q E h => ?_) (fun cdv A outer s H vs Q E hr h => ?_)
  · obtain ⟨p, kp, r, ks, rfl, _⟩ := h
    rfl
  · obtain ⟨p, kp, r, ks, rfl, hG, hok, h200, hk, hkw, q⟩ := h
    refine ⟨_, pss_cons (ps_for PassesOwn.never rfl (pi_enum (by rfl) B.enum (pa_cons (pe_fld (pv 0) rfl) pa_nil)) (pg_tup rfl (pgs_cons (pg_name (i := 2) scGPlace.nd rfl (.inl rfl)) (pgs_cons (pg_name (i := 3) scGPlace.nd rfl (.inl rfl)) pgs_nil)))
        (pss_one (ps_if (pt_cmpR (op_eqD hr.units) (pe_h hK hr (pa_cons (pv 3) pa_nil)) (pv 1) (nomark _)) (pss_one (ps_ret (pv 2))) pss_nil)))
      (pss_one (ps_ret pe_non)), ?_⟩
    obtain ⟨dx, hp⟩ := hG.at_
    refine ⟨_, rfl, p, D, dx, _, _, rfl, hp, TG.cl, TG.nT, gf_told _ _ _, r.td, _, rfl, .inl (.inl hG.told), for_it (walk_enum (K := K) (a := r.td) (xs := r.as.map V.ref)) (fun i σ H' => (∃ y2 y3, σ = [some (.ref p), some (.ref kp), y2, y3]) ∧ Same H H' ∧ ∀ j t, j < i → r.ts[j]? = some t → keyS t ≠ ks)
      ⟨⟨_, _, rfl⟩, Same.refl H, fun j t hj => absurd hj (Nat.not_lt_zero _)⟩ (fun i σ H' _ h => .inl (.inl (h.2.1 _ _ hG.told))) ?_ ?_⟩
    · rintro i x σ H1 H2 hi ⟨⟨y2, y3, rfl⟩, s1, hno⟩ ⟨T, x1, x2, rfl, hT, rfl, ex1, ex2⟩
      have ex1 : (some (V.int (i : Nat)) : Option V) = some x1 := ex1
      cases ex1
      have ex2 : (r.as.map V.ref)[i]? = some x2 := ex2
      rw [List.getElem?_map] at ex2
      obtain ⟨pt, hpt, rfl⟩ := Option.map_eq_some_iff.mp ex2
      obtain ⟨t, ht, hpt1⟩ := Each.get hG.tels hpt
      have okt := hok t (List.mem_of_getElem? ht)
      have sT : Same H1 (upd H1 T (.tup [V.int (i : Nat), .ref pt])) := same_new hT
      refine ⟨T, _, rfl, .inl (.inl upd_same), rfl, _, _, rfl, _, _, rfl, rfl, ?_⟩
      have s2 := s1.trans sT
      generalize upd H1 T (.tup [V.int (i : Nat), .ref pt]) = H2 at s2
      refine ⟨_, rfl, pt, t, rfl, s2 _ _ hpt1, fun u hu => ?_⟩
      have s3 := same_new (o := .tup (keyV t)) hu
      refine ⟨_, rfl, .tuple ((keyS t).map .str), .tuple (ks.map .str), .tup (.inl (.inl upd_same)) (dp_strs (keyS t)), .tup (.inl (.inl (s3 _ _ (s2 _ _ hk)))) (dp_strs ks), shaped_strs okt.key, shaped_strs hkw, _, rfl, ?_⟩
      rw [tup_eqv]
      refine ite_b (fun e => ?_) (fun e => ?_)
      · refine ⟨_, rfl, ?_⟩
        have := q _ (s2.trans s3)
        rw [find_at ht e fun j y hj hy => decide_eq_false (hno j y hj hy)] at this
        exact this
      · refine ⟨⟨_, _, rfl⟩, s2.trans s3, fun j y hj hy => ?_⟩
        by_cases c : j = i
        · subst c
          rw [ht] at hy
          cases hy
          exact of_decide_eq_false e
        · exact hno j y (by omega) hy
    · rintro σ H1 ⟨⟨y2, y3, rfl⟩, s1, hno⟩
      have e : (r.ts.findIdx? fun t => decide (keyS t = ks)) = none := by
        rw [List.findIdx?_eq_none_iff]
        intro t ht
        obtain ⟨j, hj, ej⟩ := List.mem_iff_getElem.mp ht
        refine decide_eq_false (hno j t ?_ (by rw [List.getElem?_eq_getElem hj, ej]))
        rw [List.length_map]
        have := hG.tels.length
        omega
      have := q H1 s1
      rw [e] at this
      exact this
end
end Wl

namespace Wl
open PySem PySem.Spec PyProof.Rows L2
abbrev psPut : List Str := ["self", "village", "thing", "word", "teller", "age", "gatherer", "sure"]
abbrev nPut : List Str := ["self", "village", "thing", "word", "teller", "age", "gatherer", "sure", "key"]
theorem scPut : FnScope nPut psPut (defScope sGPut) := ⟨rfl, rfl, rfl, by decide +kernel, rfl, by decide +kernel, by decide +kernel⟩
def GR.add (r : GR) (q : Addr) (t : Tel) : GR := { r with as := r.as ++ [q], ts := r.ts ++ [t], ds := r.ds ++ [.non] }
section
variable {P : Program} {w : World} {K : PySem.W.Frag} {mg : Str → Option Value} {base : Heap} {f C D : Addr} {fd : FuncData}
/-- put: the last two may be left out -/
abbrev FunP (K : PySem.W.Frag) (f : Addr) (fd : FuncData) : Prop := FunD K "put" "Gathering.put" (defArgs sGPut) (defBody sGPut) (defScope sGPut) [.str "self", .bl true] [] f fd
theorem okD {x qual : Str} {params : Arguments} {body : List Stmt} {scope : Scope} {dvs : List V} {N ps : List Str} {k : Nat} {sp : Sp} (F : FunD K x qual params body scope dvs [] f fd) (S : FnScope N ps scope) (len : ∀ vs H Q E, sp vs H Q E → vs.length = ps.length)
    (hbody : ∀ (cdv : Value) (A : Around) (outer : List Env) (s : Shared) (H : Hp) (vs : List V) (Q : VK) (E : XK), Room k (A.deeper (envOfC qual scope s.heap.objs.size f cdv)) → sp vs H Q E →
      ∃ t, PSs (cxOf CX0 P w K mg base N qual scope f cdv A outer s H E).nox body t ∧ t { nx := fun _ H' => Q .non H', rt := Q } (start N vs) H) : FnOk P w K mg base CX0 (k + 1) f fd ps sp :=
  F.ok S len fun cdv A outer s H vs Q E hr hsp => let ⟨t, h, q⟩ := hbody cdv A outer s H vs Q E hr hsp; ⟨t, h.nox, q⟩
def spPut (C D : Addr) : Sp := fun vs H Q _ => ∃ (p : Addr) (r : GR) (wd : Nat) (t : Tel), vs = .ref p :: telV t ∧ GatAt C D H p r ∧ Good r.g wd ∧ (∀ u ∈ r.ts, OkT u) ∧ OkT t ∧ t.v ∈ names r.g ∧ keyS t ∉ r.ts.map keyS ∧ r.ts.length < 200 ∧ r.ds.length < 1000 ∧
  ∀ (q : Addr) (H' : Hp), H q = none → Same2 r.td r.dd H H' → GatAt C D H' p (r.add q t) → Q .non H'
theorem find_no {l : List Tel} {t : Tel} (h : keyS t ∉ l.map keyS) : (l.findIdx? fun u => decide (keyS u = keyS t)) = none := by
  rw [List.findIdx?_eq_none_iff]
  intro u hu
  exact decide_eq_false fun e => h (List.mem_map.mpr ⟨u, hu, e⟩)
theorem ok_put (F : FunP K f fd) (B : Bi mg) (B2 : Bg mg) (T : Txt K mg C) (TG : TxtG K mg D) (hCk : HasM P w K mg base C "check_name" 2 ["self", "name"] (spCheck C)) (hW : Has P w K mg base "check_word" 2 ["word"] spCheckW)
    (hA : Has P w K mg base "check_age" 3 ["age"] spCheckA) (hS : Has P w K mg base "check_sure" 1 ["sure"] spCheckS) (hP : HasM P w K mg base D "place_of" 2 ["self", "key"] (spGPlace C D)) : FnOk P w K mg base CX0 4 f fd psPut (spPut C D) := by
  obtain ⟨t200, g200⟩ := B2.most
  refine okD F scPut (fun vs H Q E h => ?_) (fun cdv A outer s H vs Q E hr h => ?_)
  · obtain ⟨p, r, wd, t, rfl, _⟩ := h
    rfl
  · obtain ⟨p, r, wd, t, rfl, hG, gd, hok, okt, hv, hnew, h200, hds, q⟩ := h
    refine ⟨_, pss_cons (ps_expr (pe_hm hCk T.cl hr (pe_fld (pv 0) rfl) (pa_cons (pv 1) pa_nil)))
      (pss_cons (ps_expr (pe_h hW hr (pa_cons (pv 2) pa_nil)))
      (pss_cons (ps_expr (pe_h hW hr (pa_cons (pv 3) pa_nil)))
      (pss_cons (ps_expr (pe_h hW hr (pa_cons (pv 4) pa_nil)))
      (pss_cons (ps_expr (pe_h hA hr (pa_cons (pv 5) pa_nil)))
      (pss_cons (ps_expr (pe_h hW hr (pa_cons (pv 6) pa_nil)))
      (pss_cons (ps_expr (pe_h hS hr (pa_cons (pv 7) pa_nil)))
      (pss_cons (ps_set (i := 8) scPut.nd rfl (.inl rfl) (pe_tup (pa_cons (pv 1) (pa_cons (pv 4) (pa_cons (pv 2) (pa_cons (pv 6) pa_nil))))))
      (pss_cons (ps_if (pt_cmp (pc_notN (pe_hm hP TG.cl hr (pv 0) (pa_cons (pv 8) pa_nil)))) (pss_one ps_never) pss_nil)
      (pss_cons (ps_if (pt_cmpR op_ge (pe_callB call_len_seq (by rfl) B.len PySem.boot_len (pa_cons (pe_fld (pv 0) rfl) pa_nil)) (pe_glob (v := .int 200) rfl g200 ⟨_, rfl⟩) (nomark _)) (pss_one ps_never) pss_nil)
      (pss_cons (ps_expr (pe_bm PySem.F.plainAttrs_list PySem.F.slot_list_append PySem.F.type_list_append mt_append (pe_fld (pv 0) rfl) (pa_cons (pe_tup (pa_cons (pv 1) (pa_cons (pv 2) (pa_cons (pv 3) (pa_cons (pv 4) (pa_cons (pv 5) (pa_cons (pv 6) (pa_cons (pv 7) pa_nil)))))))) pa_nil)))
      (pss_one (ps_expr (pe_bm PySem.F.plainAttrs_list PySem.F.slot_list_append PySem.F.type_list_append mt_append (pe_fld (pv 0) rfl) (pa_cons pe_non pa_nil)))))))))))))), ?_⟩
    obtain ⟨dx, hp⟩ := hG.at_
    obtain ⟨dl, d, hl⟩ := hG.land.ins
    refine ⟨_, rfl, p, D, dx, _, _, rfl, hp, TG.cl, TG.nL, gf_land _ _ _, r.pl, dl, _, rfl, hl, fs_no, _, rfl, r.pl, r.L, r.g, wd, t.v, rfl, hG.land, gd, hv, fun H1 s1 => ?_⟩
    refine ⟨_, rfl, t.th, rfl, okt.th, fun H2 s2 => ?_⟩
    refine ⟨_, rfl, t.wo, rfl, okt.wo, fun H3 s3 => ?_⟩
    refine ⟨_, rfl, t.tl, rfl, okt.tl, fun H4 s4 => ?_⟩
    refine ⟨_, rfl, t.age, rfl, okt.age, ?_⟩
    refine ⟨_, rfl, t.g, rfl, okt.g, fun H5 s5 => ?_⟩
    refine ⟨_, rfl, t.sure, rfl, ?_⟩
    have s15 := ((s1.trans s2).trans (s3.trans s4)).trans s5
    refine ⟨_, rfl, _, rfl, _, rfl, _, rfl, lz, fun kp hkp => ?_⟩
    have s6 := same_new (o := .tup [V.str t.v, V.str t.tl, V.str t.th, V.str t.g]) hkp
    have hkp6 : upd H5 kp (.tup [V.str t.v, V.str t.tl, V.str t.th, V.str t.g]) kp = some (.tup ((keyS t).map V.str)) := upd_same
    have s16 := s15.trans s6
    have hG6 := hG.same s16
    generalize upd H5 kp (.tup [V.str t.v, V.str t.tl, V.str t.th, V.str t.g]) = H6 at hkp6 s16 hG6
    obtain ⟨dx6, hp6⟩ := hG6.at_
    refine ⟨_, rfl, p, dx6, _, rfl, hp6, gf_no _ _ _, _, rfl, p, kp, r, keyS t, rfl, hG6, hok, by omega, hkp6, okt.key, fun H7 s7 => ?_⟩
    rw [find_no hnew]
    refine ⟨_, rfl, iteF ?_⟩
    have hG7 := hG6.same s7
    obtain ⟨dx7, hp7⟩ := hG7.at_
    have hlen : r.as.length = r.ts.length := hG.tels.length
    refine ⟨_, rfl, p, D, dx7, _, _, rfl, hp7, TG.cl, TG.nT, gf_told _ _ _, r.td, _, rfl, .inl (.inl (.inl hG7.told)), _, _, rfl, rfl, _, rfl, ?_⟩
    have hno : decide ((200 : Int) ≤ ((r.as.map V.ref).length : Int)) = false := decide_eq_false (by rw [List.length_map]; omega)
    rw [hno]
    refine iteF ⟨_, rfl, p, D, dx7, _, _, rfl, hp7, TG.cl, TG.nT, gf_told _ _ _, .inl ⟨rfl, _, .inl (.inl hG7.told)⟩, _, rfl, _, rfl, _, rfl, _, rfl, _, rfl, _, rfl, _, rfl, lz, fun qa hqa => ?_⟩
    have s8 := same_new (o := .tup [V.str t.v, V.str t.th, V.str t.wo, V.str t.tl, V.int (t.age : Int), V.str t.g, V.bl t.sure]) hqa
    have hG8 := hG7.same s8
    have hqa8 : upd H7 qa (.tup [V.str t.v, V.str t.th, V.str t.wo, V.str t.tl, V.int (t.age : Int), V.str t.g, V.bl t.sure]) qa = some (.tup (telV t)) := upd_same
    have s18 := s16.trans (s7.trans s8)
    have hqa0 : H qa = none := (s16.trans s7).free hqa
    refine ⟨r.td, _, _, rfl, rfl, hG8.told, by rw [List.length_map]; exact small1000 (by omega), ?_⟩
    obtain ⟨dx8, hp8⟩ := hG8.at_
    have hd8 := hG8.deeds
    have ht8 := hG8.told
    generalize upd H7 qa (.tup [V.str t.v, V.str t.th, V.str t.wo, V.str t.tl, V.int (t.age : Int), V.str t.g, V.bl t.sure]) = H8 at hG8 hqa8 s18 hp8 hd8 ht8
    have k9 : Keep H8 (upd H8 r.td (.lst (r.as.map V.ref ++ [.ref qa]))) := kp_upd ht8
    have hp9 := k9 _ _ (fun xs e => by cases e) hp8
    have hd9 : upd H8 r.td (.lst (r.as.map V.ref ++ [.ref qa])) r.dd = some (.lst r.ds) := by
      rw [upd_ne hG.ne.symm]
      exact hd8
    have ht9 : upd H8 r.td (.lst (r.as.map V.ref ++ [.ref qa])) r.td = some (.lst (r.as.map V.ref ++ [.ref qa])) := upd_same
    have m9 : Same2 r.td r.dd H8 (upd H8 r.td (.lst (r.as.map V.ref ++ [.ref qa]))) := fun c o n _ e => by
      rw [upd_ne n]
      exact e
    generalize upd H8 r.td (.lst (r.as.map V.ref ++ [.ref qa])) = H9 at k9 hp9 hd9 ht9 m9
    refine ⟨_, rfl, p, D, dx8, _, _, rfl, hp9, TG.cl, TG.nD, gf_deeds _ _ _, .inl ⟨rfl, _, .inl (.inl hd9)⟩, r.dd, _, _, rfl, rfl, hd9, small1000 (by omega), ?_⟩
    have k10 : Keep H9 (upd H9 r.dd (.lst (r.ds ++ [.non]))) := kp_upd hd9
    have kk := k9.trans k10
    refine q qa _ hqa0 ?_ ⟨⟨dx8, k10 _ _ (fun xs e => by cases e) hp9⟩, hG8.land.keep kk, ?_, ?_, upd_same, hG.ne⟩
    · refine (Same2.of s18).trans (m9.trans fun c o _ n e => ?_)
      rw [upd_ne n]
      exact e
    · show upd H9 r.dd (.lst (r.ds ++ [.non])) r.td = some (.lst ((r.as ++ [qa]).map V.ref))
      rw [upd_ne hG.ne, ht9, List.map_append]
      rfl
    · exact Each.append (hG8.tels.keep kk.tk) (.cons (kk.tk _ _ hqa8) .nil)
end
end Wl

namespace Wl
open PySem PySem.Spec PyProof.Rows L2
/-! o.m(e, .., k = v, ..) of a method that may leave some out. -/
def tMethN (C : Addr) (m : Str) (n j : Nat) (sp : Sp) (gV : List V → List V → List V) (E : XK) (ta : TE) (t tk : TA) : TE := fun σ H Q => ta σ H fun x H1 =>
  ∃ a dx fs, x = .ref a ∧ H1 a = some (.ins C dx fs) ∧ fs.lookup m = none ∧ t σ H1 fun vs H2 => tk σ H2 fun zs H3 => vs.length = n ∧ zs.length = j ∧ sp (gV (.ref a :: vs) zs) H3 Q E
section
variable {X : Cx} {CX : CXT} {k n : Nat} {f C : Addr} {fd : FuncData} {ps ks : List Str} {sp : Sp} {E : XK} {m : Str} {pos apos : Pos} {o e : Expr} {es : List Expr} {kws : List Keyword} {ta : TE} {t tk : TA} {pl : Sem Bool} {g : List Value → List Value → List Value} {gV : List V → List V → List V}
theorem pe_methN0 (he : PE X o ta) (c : Cls X.K C) (hm : Meth X.K C m f) (F : FnOk X.prog X.w X.K X.mg X.base CX k f fd ps sp) (hr : Room k X.A) (hb : KBn X.K fd ps 1 ks g gV) (hx : Passes CX X E) (hkw : PK X kws tk)
    (hall : (backToKw pos (keywordEach kws X.env)).all (·.1.isSome) = true := by rfl) (hks : (backToKw pos (keywordEach kws X.env)).filterMap (·.1) = ks := by rfl)
    (hpl : ((backTo pos (starEach [] X.env)).any (·.1) || (backToKw pos (keywordEach kws X.env)).any (·.1.isNone)) = false := by rfl)
    (ht : eval (.Call (.Attribute o m apos) [] kws pos) X.env = (do
      let ov ← eval o X.env
      standAt apos.atName
      let (f, first) ← holding [ov] (getMethod ov m pl)
      callWith pos f first (backTo pos (starEach [] X.env)) (backToKw pos (keywordEach kws X.env))) := by rfl) :
    PE X (.Call (.Attribute o m apos) [] kws pos) (tMethN C m 0 ks.length sp gV E ta tNil tk) := by
  refine ⟨fun pins s σ H Q I h => ?_⟩
  refine PySem.W.methodCall_KW (pl := pl) (thn (he.run pins s σ H _ I h) fun u s1 ⟨x, H1, I1, rx, a, dx, fs, ex, ea, l, q⟩ => ?_) ht
  subst ex
  obtain rfl : u = Value.ref a := rx
  refine getmeth_ok I1 ea c hm l ?_
  refine PySem.W.callWith_KW0 (first := [.ref a]) (h₀ := X.base) I.ok.mod.kin hm.kp hall (thn (hkw.run pos pins s1 σ H1 _ I1 q) fun ws s2 ⟨zs, H2, I2, rz, _, l2, q2⟩ => ⟨I2.kIn, ?_⟩) hpl
  rw [hks]
  exact run_fnN (us := [.ref a]) (vs := [.ref a]) F hr hb hx I2 (.cons rfl .nil) rz rfl l2 q2
theorem pe_methN (he : PE X o ta) (c : Cls X.K C) (hm : Meth X.K C m f) (F : FnOk X.prog X.w X.K X.mg X.base CX k f fd ps sp) (hr : Room k X.A) (hb : KBn X.K fd ps (n + 1) ks g gV) (hx : Passes CX X E) (ha : PA X (e :: es) t) (hkw : PK X kws tk)
    (hall : (backToKw pos (keywordEach kws X.env)).all (·.1.isSome) = true := by rfl) (hks : (backToKw pos (keywordEach kws X.env)).filterMap (·.1) = ks := by rfl)
    (hst : starEach (e :: es) X.env = (false, eval e X.env) :: starEach es X.env := by rfl)
    (hpl : ((backTo pos (starEach (e :: es) X.env)).any (·.1) || (backToKw pos (keywordEach kws X.env)).any (·.1.isNone)) = false := by rfl)
    (ht : eval (.Call (.Attribute o m apos) (e :: es) kws pos) X.env = (do
      let ov ← eval o X.env
      standAt apos.atName
      let (f, first) ← holding [ov] (getMethod ov m pl)
      callWith pos f first (backTo pos (starEach (e :: es) X.env)) (backToKw pos (keywordEach kws X.env))) := by rfl) :
    PE X (.Call (.Attribute o m apos) (e :: es) kws pos) (tMethN C m n ks.length sp gV E ta t tk) := by
  refine ⟨fun pins s σ H Q I h => ?_⟩
  refine PySem.W.methodCall_KW (pl := pl) (thn (he.run pins s σ H _ I h) fun u s1 ⟨x, H1, I1, rx, a, dx, fs, ex, ea, l, q⟩ => ?_) ht
  subst ex
  obtain rfl : u = Value.ref a := rx
  refine getmeth_ok I1 ea c hm l ?_
  refine PySem.W.callWith_KW (first := [.ref a]) (h₀ := X.base) I.ok.mod.kin hm.kp hall (thn (ha.run pos pins s1 σ H1 _ I1 q) fun us s2 ⟨vs, H2, I2, r, q2⟩ => ?_) hpl hst
  refine thn (hkw.run pos pins s2 σ H2 _ I2 q2) fun ws s3 ⟨zs, H3, I3, rz, l1, l2, q3⟩ => ⟨I3.kIn, ?_⟩
  rw [hks]
  exact run_fnN (us := .ref a :: us) (vs := .ref a :: vs) F hr hb hx I3 (.cons rfl r) rz (by rw [List.length_cons, l1]) l2 q3
end
/-! the ways to call put -/
/-- age, village, gatherer, word, teller, thing; sure left out -/
def gP1 {α : Type} : List α → List α → List α → List α
  | [s], [_, b], [ag, v, g, w, tl, th] => [s, v, th, w, tl, ag, g, b]
  | _, _, _ => []
/-- five by place, sure by name -/
def gP2 {α : Type} : List α → List α → List α → List α
  | [s, v, th, w, tl, ag], [g, _], [b] => [s, v, th, w, tl, ag, g, b]
  | _, _, _ => []
/-- all by name: sure, gatherer, age, teller, word, thing, village -/
def gP3 {α : Type} : List α → List α → List α → List α
  | [s], [_, _], [b, g, ag, tl, w, th, v] => [s, v, th, w, tl, ag, g, b]
  | _, _, _ => []
theorem gP1_rel {vs ds zs : List V} {us its ws : List Value} (r1 : Vals vs us) (r2 : Vals ds its) (r3 : Vals zs ws) : Vals (gP1 vs ds zs) (gP1 us its ws) := by
  rcases r1 with _ | ⟨a1, _ | ⟨_, _⟩⟩
  · exact .nil
  · rcases r2 with _ | ⟨b1, _ | ⟨b2, _ | ⟨_, _⟩⟩⟩
    · exact .nil
    · exact .nil
    · rcases r3 with _ | ⟨c1, _ | ⟨c2, _ | ⟨c3, _ | ⟨c4, _ | ⟨c5, _ | ⟨c6, _ | ⟨_, _⟩⟩⟩⟩⟩⟩⟩
      all_goals first | exact .nil | exact .cons a1 (.cons c2 (.cons c6 (.cons c4 (.cons c5 (.cons c1 (.cons c3 (.cons b2 .nil)))))))
    · exact .nil
  · exact .nil
theorem gP2_rel {vs ds zs : List V} {us its ws : List Value} (r1 : Vals vs us) (r2 : Vals ds its) (r3 : Vals zs ws) : Vals (gP2 vs ds zs) (gP2 us its ws) := by
  rcases r1 with _ | ⟨a1, _ | ⟨a2, _ | ⟨a3, _ | ⟨a4, _ | ⟨a5, _ | ⟨a6, _ | ⟨_, _⟩⟩⟩⟩⟩⟩⟩
  all_goals first | exact .nil | skip
  rcases r2 with _ | ⟨b1, _ | ⟨b2, _ | ⟨_, _⟩⟩⟩
  all_goals first | exact .nil | skip
  rcases r3 with _ | ⟨c1, _ | ⟨_, _⟩⟩
  all_goals first | exact .nil | exact .cons a1 (.cons a2 (.cons a3 (.cons a4 (.cons a5 (.cons a6 (.cons b1 (.cons c1 .nil)))))))
theorem gP3_rel {vs ds zs : List V} {us its ws : List Value} (r1 : Vals vs us) (r2 : Vals ds its) (r3 : Vals zs ws) : Vals (gP3 vs ds zs) (gP3 us its ws) := by
  rcases r1 with _ | ⟨a1, _ | ⟨_, _⟩⟩
  all_goals first | exact .nil | skip
  rcases r2 with _ | ⟨b1, _ | ⟨b2, _ | ⟨_, _⟩⟩⟩
  all_goals first | exact .nil | skip
  rcases r3 with _ | ⟨c1, _ | ⟨c2, _ | ⟨c3, _ | ⟨c4, _ | ⟨c5, _ | ⟨c6, _ | ⟨c7, _ | ⟨_, _⟩⟩⟩⟩⟩⟩⟩⟩
  all_goals first | exact .nil | exact .cons a1 (.cons c7 (.cons c6 (.cons c5 (.cons c4 (.cons c3 (.cons c2 (.cons c1 .nil)))))))
section
variable {K : PySem.W.Frag} {f : Addr} {fd : FuncData}
theorem put_b8 (F : FunP K f fd) : Binds K fd psPut [] := by
  obtain ⟨ds, h1, h2⟩ := F.binds1 (ps := psPut) 8 2 (by simp) rfl (fun T kV doc pm an cdv ct us its l1 l2 => by
      match us, its, l1, l2 with
      | [_, _, _, _, _, _, _, _], [_, _], _, _ => exact ⟨_, rfl, rfl⟩)
  cases h1
  exact h2
theorem put_b6 (F : FunP K f fd) : ∃ ds, Vals [V.str "self", V.bl true] ds ∧ Binds K fd psPut ds :=
  F.binds1 (ps := psPut) 6 0 (by simp) rfl (fun T kV doc pm an cdv ct us its l1 l2 => by
      match us, its, l1, l2 with
      | [_, _, _, _, _, _], [_, _], _, _ => exact ⟨_, rfl, rfl⟩)
theorem put_k1 (F : FunP K f fd) : ∃ its : List Value, KBn K fd psPut 1 ["age", "village", "gatherer", "word", "teller", "thing"] (fun us ws => gP1 us its ws) (fun vs zs => gP1 vs [.str "self", .bl true] zs) :=
  F.kbindsD 1 _ gP1 (by simp) gP1_rel (fun T kV doc pm an cdv ct us its ws l1 l2 l3 => by
      match us, its, ws, l1, l2, l3 with
      | [_], [_, _], [_, _, _, _, _, _], _, _, _ => exact ⟨_, rfl, rfl⟩)
theorem put_k2 (F : FunP K f fd) : ∃ its : List Value, KBn K fd psPut 6 ["sure"] (fun us ws => gP2 us its ws) (fun vs zs => gP2 vs [.str "self", .bl true] zs) :=
  F.kbindsD 6 _ gP2 (by simp) gP2_rel (fun T kV doc pm an cdv ct us its ws l1 l2 l3 => by
      match us, its, ws, l1, l2, l3 with
      | [_, _, _, _, _, _], [_, _], [_], _, _, _ => exact ⟨_, rfl, rfl⟩)
theorem put_k3 (F : FunP K f fd) : ∃ its : List Value, KBn K fd psPut 1 ["sure", "gatherer", "age", "teller", "word", "thing", "village"] (fun us ws => gP3 us its ws) (fun vs zs => gP3 vs [.str "self", .bl true] zs) :=
  F.kbindsD 1 _ gP3 (by simp) gP3_rel (fun T kV doc pm an cdv ct us its ws l1 l2 l3 => by
      match us, its, ws, l1, l2, l3 with
      | [_], [_, _], [_, _, _, _, _, _, _], _, _, _ => exact ⟨_, rfl, rfl⟩)
end
end Wl

namespace Wl
open PySem PySem.Spec PyProof.Rows L2
abbrev sTelRow : Stmt := topS 38
abbrev sGLen : Stmt := inClass sGat 11
abbrev sGStr : Stmt := inClass sGat 12
abbrev sGRepr : Stmt := inClass sGat 13
def ageS (n : Nat) : Str := (toString (n : Int) : String)
def partsS (t : Tel) : List Str := [t.v, t.th, t.wo, t.tl, ageS t.age, t.g]
def rowS (t : Tel) : Str := Txt.join (" " : Str) (if t.sure = true then partsS t else partsS t ++ [("?" : Str)])
theorem age_len {n : Nat} (h : n ≤ 120) : (ageS n).length ≤ 3 := by
  have : ∀ k : Fin 121, (ageS k.val).length ≤ 3 := by decide +kernel
  exact this ⟨n, by omega⟩
theorem age_log {n : Nat} (h : n ≤ 120) : (((n : Nat) : Int).natAbs).log2 < 1920 := by
  have : ((n : Nat) : Int).natAbs = n := Int.natAbs_natCast n
  rw [this]
  have h2 : n.log2 ≤ n := Nat.log2_le_self n
  omega
theorem parts_len {t : Tel} (h : OkT t) : ∀ z ∈ partsS t ++ [("?" : Str)], z.length ≤ 8 := fun z hz => by
  simp only [partsS, List.cons_append, List.nil_append, List.mem_cons, List.not_mem_nil, or_false] at hz
  rcases hz with rfl | rfl | rfl | rfl | rfl | rfl | rfl
  · exact h.v.len.2
  · exact h.th.len.2
  · exact h.wo.len.2
  · exact h.tl.len.2
  · have := age_len h.age
    omega
  · exact h.g.len.2
  · decide +kernel
section
variable {P : Program} {w : World} {K : PySem.W.Frag} {mg : Str → Option Value} {base : Heap} {f C D : Addr} {fd : FuncData}
/-! ### len -/
def spGLen (C D : Addr) : Sp := fun vs H Q _ => ∃ (p : Addr) (r : GR), vs = [.ref p] ∧ GatAt C D H p r ∧ Q (.int r.ts.length) H
theorem scGLen : FnScope ["self"] ["self"] (defScope sGLen) := ⟨rfl, rfl, rfl, by decide +kernel, rfl, by decide +kernel, by decide +kernel⟩
theorem ok_glen (F : Fun K "__len__" "Gathering.__len__" sGLen f fd) (B : Bi mg) (TG : TxtG K mg D) : FnOk P w K mg base CX0 1 f fd ["self"] (spGLen C D) := by
  refine F.ok scGLen (fun vs H Q E h => ?_) (fun cdv A outer s H vs Q E hr h => ?_)
  · obtain ⟨p, r, rfl, _⟩ := h
    rfl
  · obtain ⟨p, r, rfl, hG, q⟩ := h
    refine ⟨_, pss_one (ps_ret (pe_callB call_len_seq (by rfl) B.len PySem.boot_len (pa_cons (pe_fld (pv 0) rfl) pa_nil))), ?_⟩
    obtain ⟨dx, hp⟩ := hG.at_
    refine ⟨_, rfl, p, D, dx, _, _, rfl, hp, TG.cl, TG.nT, gf_told _ _ _, r.td, _, rfl, .inl (.inl (.inl hG.told)), ?_⟩
    rw [List.length_map, hG.tels.length]
    exact q
/-! ### a telling's row -/
def spTelRow : Sp := fun vs H Q _ => ∃ (p : Addr) (t : Tel), vs = [.ref p] ∧ H p = some (.tup (telV t)) ∧ OkT t ∧ ∀ (H' : Hp), Same H H' → Q (.str (rowS t)) H'
abbrev nTelRow : List Str := ["telling", "village", "thing", "word", "teller", "age", "gatherer", "sure", "parts"]
theorem scTelRow : FnScope nTelRow ["telling"] (defScope sTelRow) := ⟨rfl, rfl, rfl, by decide +kernel, rfl, by decide +kernel, by decide +kernel⟩
theorem ok_telrow (F : Fun K "telling_row" "telling_row" sTelRow f fd) (B : Bi mg) (B2 : Bg mg) : FnOk P w K mg base CX0 1 f fd ["telling"] spTelRow := by
  obtain ⟨tq, gq⟩ := B2.doubt
  refine F.ok scTelRow (fun vs H Q E h => ?_) (fun cdv A outer s H vs Q E hr h => ?_)
  · obtain ⟨p, t, rfl, _⟩ := h
    rfl
  · obtain ⟨p, t, rfl, hp, ok, q⟩ := h
    refine ⟨_, pss_cons (ps_asg (pv 0) (pg_tup rfl (pgs_cons (pg_name (i := 1) scTelRow.nd rfl (.inl rfl)) (pgs_cons (pg_name (i := 2) scTelRow.nd rfl (.inl rfl)) (pgs_cons (pg_name (i := 3) scTelRow.nd rfl (.inl rfl)) (pgs_cons (pg_name (i := 4) scTelRow.nd rfl (.inl rfl)) (pgs_cons (pg_name (i := 5) scTelRow.nd rfl (.inl rfl)) (pgs_cons (pg_name (i := 6) scTelRow.nd rfl (.inl rfl)) (pgs_cons (pg_name (i := 7) scTelRow.nd rfl (.inl rfl)) pgs_nil)))))))))
      (pss_cons (ps_set (i := 8) scTelRow.nd rfl (.inl rfl) (pe_lst (pa_cons (pv 1) (pa_cons (pv 2) (pa_cons (pv 3) (pa_cons (pv 4) (pa_cons (pe_callTy call_str_int (by rfl) B.str (by decide +kernel) (pa_cons (pv 5) pa_nil)) (pa_cons (pv 6) pa_nil))))))))
      (pss_one (ps_ret (pe_join pe_str (pe_ifExp (pt_val (pv 7)) (pv 8) (pe_op op_cat (pv 8) (pe_lst (pa_cons (pe_glob (v := .str "?") rfl gq ⟨_, rfl⟩) pa_nil)))))))), ?_⟩
    refine ⟨_, rfl, p, _, rfl, .inl (.inl hp), rfl, _, _, rfl, _, _, rfl, _, _, rfl, _, _, rfl, _, _, rfl, _, _, rfl, _, _, rfl, rfl, ?_⟩
    refine ⟨_, rfl, _, rfl, _, rfl, _, rfl, _, rfl, _, rfl, age_log ok.age, _, rfl, lz, fun u hu => ?_⟩
    have s1 := same_new (o := .lst ((partsS t).map V.str)) hu
    have hu1 : upd H u (.lst ((partsS t).map V.str)) u = some (.lst ((partsS t).map V.str)) := upd_same
    have pl := parts_len ok
    have e1 : (" " : Str).length = 1 := by decide +kernel
    have fin : ∀ (l : List Str), (∀ z ∈ l, z.length ≤ 8) → l.length ≤ 7 → (l.map (·.length)).sum + l.length * (" " : Str).length ≤ 16777216 := fun l h hl => by
      have := sum_len (l := l) (m := 8) h
      rw [e1]
      omega
    refine ⟨⟨_, rfl⟩, _, rfl, _, rfl, ite_b (fun e => ?_) (fun e => ?_)⟩
    · refine ⟨_, rfl, _, u, partsS t, rfl, rfl, .inl (.inl (.inl hu1)), fin _ (fun z hz => pl z (List.mem_append_left _ hz)) (by show 6 ≤ 7; decide), ?_⟩
      have := q _ s1
      unfold rowS at this
      rw [if_pos e] at this
      exact this
    · refine ⟨_, rfl, lz, fun v hv => ?_⟩
      have s2 := same_new (o := .lst [V.str ("?" : Str)]) hv
      refine ⟨u, v, (partsS t).map V.str, _, rfl, rfl, s2 _ _ hu1, upd_same, lz, fun x hx => ?_⟩
      refine ⟨_, x, partsS t ++ [("?" : Str)], rfl, rfl, .inl (.inl (.inl upd_same)), fin _ pl (by show 7 ≤ 7; decide), ?_⟩
      have := q _ ((s1.trans s2).trans (same_new (o := .lst ((partsS t).map V.str ++ [V.str ("?" : Str)])) hx))
      unfold rowS at this
      rw [if_neg (by rw [e]; decide)] at this
      exact this
/-! ### repr -/
def grS (n : Nat) : Str := ("Gathering(" : Str) ++ (toString (n : Int) : String) ++ (")" : Str)
def spGRepr (C D : Addr) : Sp := fun vs H Q _ => ∃ (p : Addr) (r : GR), vs = [.ref p] ∧ GatAt C D H p r ∧ r.ts.length ≤ 200 ∧ Q (.str (grS r.ts.length)) H
theorem scGRepr : FnScope ["self"] ["self"] (defScope sGRepr) := ⟨rfl, rfl, rfl, by decide +kernel, rfl, by decide +kernel, by decide +kernel⟩
theorem dig3_len {n : Nat} (h : n ≤ 200) : ((toString (n : Int) : String) : Str).length ≤ 3 := by
  have : ∀ k : Fin 201, ((toString ((k.val : Nat) : Int) : String) : Str).length ≤ 3 := by decide +kernel
  exact this ⟨n, by omega⟩
theorem log200 {n : Nat} (h : n ≤ 200) : (((n : Nat) : Int).natAbs).log2 < 1920 := by
  have : ((n : Nat) : Int).natAbs = n := Int.natAbs_natCast n
  rw [this]
  have h2 : n.log2 ≤ n := Nat.log2_le_self n
  omega
theorem ok_grepr (F : Fun K "__repr__" "Gathering.__repr__" sGRepr f fd) (B : Bi mg) (TG : TxtG K mg D) : FnOk P w K mg base CX0 1 f fd ["self"] (spGRepr C D) := by
  refine F.ok scGRepr (fun vs H Q E h => ?_) (fun cdv A outer s H vs Q E hr h => ?_)
  · obtain ⟨p, r, rfl, _⟩ := h
    rfl
  · obtain ⟨p, r, rfl, hG, h200, q⟩ := h
    refine ⟨_, pss_one (ps_ret (pe_joined (.cons pe_str (.cons (pe_fmt (pe_callB call_len_seq (by rfl) B.len PySem.boot_len (pa_cons (pe_fld (pv 0) rfl) pa_nil))) (.cons pe_str .nil))))), ?_⟩
    obtain ⟨dx, hp⟩ := hG.at_
    have ek : (r.as.map V.ref).length = r.ts.length := by rw [List.length_map, hG.tels.length]
    refine ⟨_, rfl, by decide +kernel, _, rfl, p, D, dx, _, _, rfl, hp, TG.cl, TG.nT, gf_told _ _ _, r.td, _, rfl, .inl (.inl (.inl hG.told)), .inr ⟨_, rfl, ?_, _, rfl, ?_, _, rfl, ?_, ?_⟩⟩
    · rw [ek]
      exact log200 h200
    · rw [ek]
      exact lzl (by rw [add_len, add_len]; have := dig3_len h200; have : (Str.empty).length = 0 := rfl; have : ("Gathering(" : Str).length = 10 := (by decide +kernel); omega)
    · rw [ek]
      exact lzl (by rw [add_len, add_len, add_len]; have := dig3_len h200; have : (Str.empty).length = 0 := rfl; have : ("Gathering(" : Str).length = 10 := (by decide +kernel); have : (")" : Str).length = 1 := (by decide +kernel); omega)
    · have e0 : (Str.empty ++ ("Gathering(" : Str)) = ("Gathering(" : Str) := by decide +kernel
      rw [ek]
      show Q (.str (Str.empty ++ ("Gathering(" : Str) ++ _ ++ (")" : Str))) H
      rw [e0]
      exact q
/-! ### str -/
def gatS (g : Grid) (ts : List Tel) : Str := Txt.join ("\n" : Str) ([landS g, ("." : Str)] ++ ts.map rowS)
theorem telV_inj {t u : Tel} (h : telV t = telV u) : t = u := by
  cases t
  cases u
  simp only [telV, List.cons.injEq, V.str.injEq, V.int.injEq, V.bl.injEq, and_true] at h
  obtain ⟨h1, h2, h3, h4, h5, h6, h7⟩ := h
  have h5 := Int.ofNat.inj h5
  subst h1 h2 h3 h4 h5 h6 h7
  rfl
theorem told_rows {H : Hp} : ∀ {as : List Addr} {ts : List Tel} {zs : List V}, TelsAt H as ts → Each (fun (x z : V) => ∀ (pt : Addr) (t : Tel), x = .ref pt → H pt = some (.tup (telV t)) → z = .str (rowS t)) (as.map V.ref) zs → zs = (ts.map rowS).map V.str
  | [], [], [], _, _ => rfl
  | [], [], _ :: _, _, h => nomatch h
  | [], _ :: _, _, h, _ => nomatch h
  | _ :: _, [], _, h, _ => nomatch h
  | _ :: _, _ :: _, [], _, h => nomatch h
  | a :: as, r :: g, z :: zs, .cons e t, .cons e' t' => by
    rw [e' a r rfl e, told_rows t t']
    rfl
def spGStr (C D : Addr) : Sp := fun vs H Q _ => ∃ (p : Addr) (r : GR) (wd : Nat), vs = [.ref p] ∧ GatAt C D H p r ∧ Good r.g wd ∧ r.ts.length ≤ 200 ∧ (∀ t ∈ r.ts, OkT t) ∧ ∀ (H' : Hp), Same H H' → Q (.str (gatS r.g r.ts)) H'
abbrev nGStr : List Str := ["self", "telling"]
theorem scGStr : FnScope nGStr ["self"] (defScope sGStr) := ⟨rfl, rfl, rfl, by decide +kernel, rfl, by decide +kernel, by decide +kernel⟩
theorem row_len {t : Tel} (h : OkT t) : (rowS t).length ≤ 63 := by
  have key : ∀ l : List Str, (∀ z ∈ l, z.length ≤ 8) → l.length ≤ 7 → (Txt.join (" " : Str) l).length ≤ 63 := fun l hl h7 => by
    rw [TL.len_tl, TL.join_eq, TL.tl_join, tl_blank]
    have := join_size (S := [32]) (m := 8) (ps := l.map TL.tl) fun p hp => by
      obtain ⟨z, hz, rfl⟩ := List.mem_map.mp hp
      rw [← TL.len_tl]
      exact hl z hz
    rw [List.length_map] at this
    simp at this
    omega
  unfold rowS
  split
  · exact key _ (fun z hz => parts_len h z (List.mem_append_left _ hz)) (by show 6 ≤ 7; decide)
  · exact key _ (parts_len h) (by show 7 ≤ 7; decide)
theorem ok_gstr (F : Fun K "__str__" "Gathering.__str__" sGStr f fd) (B : Bi mg) (B2 : Bg mg) (TG : TxtG K mg D) (hS : HasM P w K mg base C "__str__" 1 ["self"] (spLStr C)) (hT : Has P w K mg base "telling_row" 1 ["telling"] spTelRow) : FnOk P w K mg base CX0 4 f fd ["self"] (spGStr C D) := by
  obtain ⟨td, gd⟩ := B2.dot
  obtain ⟨fS, fdS, FS, mS, bS⟩ := hS
  refine F.ok scGStr (fun vs H Q E h => ?_) (fun cdv A outer s H vs Q E hr h => ?_)
  · obtain ⟨p, r, wd, rfl, _⟩ := h
    rfl
  · obtain ⟨p, r, wd, rfl, hG, gg, h200, hok, q⟩ := h
    refine ⟨_, pss_one (ps_ret (pe_join pe_str (pe_op op_cat (pe_lst (pa_cons (pe_callTy (cr_strO FS bS mS (hr.mono (by decide))) (by rfl) B.str (by decide +kernel) (pa_cons (pe_fld (pv 0) rfl) pa_nil)) (pa_cons (pe_glob (v := .str ".") rfl gd ⟨_, rfl⟩) pa_nil)))
      (pe_lc (own := [("telling", 1)]) (g := gName 1) (tt := tYes) (te := tCall spTelRow [] E0 (tCons (tVar 1) tNil)) rfl scGStr.nd (pi_list (pe_fld (pv 0) rfl)) (blkOk_by (N := nGStr) (sc := defScope sGStr) (by decide +kernel)) (fun _ _ _ _ _ => pg_name (i := 1) scGStr.nd rfl (.inl rfl)) (fun _ _ _ _ _ => pts_nil) (fun _ _ _ _ _ => pe_h hT hr (pa_cons (pv 1) pa_nil)))))), ?_⟩
    obtain ⟨dx, hp⟩ := hG.at_
    obtain ⟨dl, d, hl⟩ := hG.land.ins
    refine ⟨⟨_, rfl⟩, _, rfl, p, D, dx, _, _, rfl, hp, TG.cl, TG.nL, gf_land _ _ _, r.pl, dl, _, rfl, hl, r.pl, r.L, r.g, wd, rfl, hG.land, gg, fun H1 s1 => ⟨_, rfl, lz, fun u hu => ?_⟩⟩
    have s2 := same_new (o := .lst [V.str (landS r.g), V.str ("." : Str)]) hu
    have hu2 : upd H1 u (.lst [V.str (landS r.g), V.str ("." : Str)]) u = some (.lst [V.str (landS r.g), V.str ("." : Str)]) := upd_same
    have s02 := s1.trans s2
    have hG2 := hG.same s02
    generalize upd H1 u (.lst [V.str (landS r.g), V.str ("." : Str)]) = H2 at hu2 s02 hG2
    obtain ⟨dx2, hp2⟩ := hG2.at_
    refine ⟨_, rfl, p, D, dx2, _, _, rfl, hp2, TG.cl, TG.nT, gf_told _ _ _, r.td, rfl, ⟨_, .inl (.inl hG2.told)⟩, fun Dd hD => ?_⟩
    have hlen : r.as.length = r.ts.length := hG.tels.length
    refine lc_rel (walk_list (K := K) (a := r.td) (xs := r.as.map V.ref)) hD (fun _ => true) (fun x y _ => ∀ (pt : Addr) (t : Tel), x = .ref pt → H2 pt = some (.tup (telV t)) → y = .str (rowS t)) (fun H' s' => .inl (.inl (s' _ _ hG2.told))) (fun _ => rfl) (fun x H' _ _ Q' q' => q') ?_ (fun _ _ _ _ _ _ _ r => r) ?_ ?_
    · intro x H' hx _ s' Q' q'
      obtain ⟨pt, hpt, rfl⟩ := List.mem_map.mp hx
      obtain ⟨i, hi, ei⟩ := List.mem_iff_getElem.mp hpt
      obtain ⟨t, ht, hH⟩ := Each.get hG2.tels (i := i) (a := pt) (by rw [List.getElem?_eq_getElem hi, ei])
      refine ⟨_, rfl, pt, t, rfl, s' _ _ hH, hok t (List.mem_of_getElem? ht), fun H3 s3 => q' _ H3 s3 fun pt2 t2 e2 h2 => ?_⟩
      obtain rfl : pt = pt2 := V.ref.inj e2
      rw [hH] at h2
      rw [telV_inj (HO.tup.inj (Option.some.inj h2))]
    · rw [List.length_map]
      exact small1000 (by omega)
    · intro zs H3 s3 hD3 he
      rw [List.filter_eq_self.mpr fun _ _ => rfl] at he
      have e1 : zs = (r.ts.map rowS).map V.str := told_rows hG2.tels he
      rw [e1] at hD3
      refine ⟨u, Dd, _, _, rfl, rfl, s3 _ _ hu2, hD3, ?_, fun x hx => ?_⟩
      · rw [List.length_map, List.length_map]
        exact lzl (by simp only [List.length_cons, List.length_nil]; omega)
      refine ⟨_, x, [landS r.g, ("." : Str)] ++ r.ts.map rowS, rfl, rfl, .inl (.inl (.inl (by rw [upd_same, List.map_append]; rfl))), ?_, q _ ((s02.trans s3).trans (same_new hx))⟩
      have hll := land_len gg.parts gg.h6 gg.six
      have hdot : ("." : Str).length = 1 := by decide +kernel
      have := sum_len (l := [landS r.g, ("." : Str)] ++ r.ts.map rowS) (m := 330) fun z hz => by
        rcases List.mem_append.mp hz with hz | hz
        · simp only [List.mem_cons, List.not_mem_nil, or_false] at hz
          rcases hz with rfl | rfl
          · exact hll
          · omega
        · obtain ⟨t, ht, rfl⟩ := List.mem_map.mp hz
          have := row_len (hok t ht)
          omega
      have e : ("\n" : Str).length = 1 := by decide +kernel
      have hl2 : ([landS r.g, ("." : Str)] ++ r.ts.map rowS).length ≤ 202 := by
        rw [List.length_append, List.length_map]
        simp only [List.length_cons, List.length_nil]
        omega
      rw [e]
      omega
end
end Wl

namespace Wl
open PySem PySem.Spec PyProof.Rows L2
abbrev sGStrike : Stmt := inClass sGat 3
abbrev psStrike : List Str := ["self", "village", "teller", "thing", "gatherer"]
abbrev nStrike : List Str := ["self", "village", "teller", "thing", "gatherer", "key", "place", "part"]
theorem scStrike : FnScope nStrike psStrike (defScope sGStrike) := ⟨rfl, rfl, rfl, by decide +kernel, rfl, by decide +kernel, by decide +kernel⟩
def GR.cut (r : GR) (i : Nat) (q : Addr) : GR := { r with as := r.as.eraseIdx i, ts := r.ts.eraseIdx i, ds := r.ds ++ [.ref q] }
theorem each_erase {α β : Type} {R : α → β → Prop} : ∀ {as : List α} {bs : List β} (n : Nat), Each R as bs → Each R (as.eraseIdx n) (bs.eraseIdx n)
  | _, _, n, .nil => by simpa using Each.nil
  | _, _, 0, .cons r t => by simpa using t
  | _, _, n + 1, .cons r t => .cons r (each_erase n t)
theorem map_erase {α β : Type} (f : α → β) : ∀ (l : List α) (n : Nat), (l.map f).eraseIdx n = (l.eraseIdx n).map f
  | [], n => by simp
  | a :: l, 0 => by simp
  | a :: l, n + 1 => by simp [map_erase f l n]
theorem seq_idx {i n : Nat} (h : i < n) : seqIndex? (i : Int) n = some i := by
  unfold seqIndex?
  have e1 : ¬ ((i : Int) < 0) := by omega
  simp only [e1, if_false]
  have e2 : (decide (0 ≤ (i : Int)) && decide ((i : Int) < (n : Int))) = true := by simp; omega
  rw [if_pos e2, Int.toNat_natCast]
section
variable {P : Program} {w : World} {K : PySem.W.Frag} {mg : Str → Option Value} {base : Heap} {f C D : Addr} {fd : FuncData}
abbrev FunS (K : PySem.W.Frag) (f : Addr) (fd : FuncData) : Prop := FunD K "strike" "Gathering.strike" (defArgs sGStrike) (defBody sGStrike) (defScope sGStrike) [.str "self"] [] f fd
def spStrike (C D : Addr) : Sp := fun vs H Q _ => ∃ (p : Addr) (r : GR) (t : Tel) (i : Nat), vs = .ref p :: keyV t ∧ GatAt C D H p r ∧ (∀ u ∈ r.ts, OkT u) ∧ r.ts.length ≤ 200 ∧ r.ds.length < 1000 ∧ (r.ts.findIdx? fun u => decide (keyS u = keyS t)) = some i ∧ OkT t ∧
  ∀ (q pa : Addr) (H' : Hp), H q = none → r.as[i]? = some pa → Same2 r.td r.dd H H' → GatAt C D H' p (r.cut i q) → H' q = some (.tup [.int (i : Int), .ref pa]) → Q .non H'
theorem ok_strike (F : FunS K f fd) (B : Bi mg) (TG : TxtG K mg D) (hW : Has P w K mg base "is_word" 1 ["thing"] spIsWord) (hP : HasM P w K mg base D "place_of" 2 ["self", "key"] (spGPlace C D)) : FnOk P w K mg base CX0 3 f fd psStrike (spStrike C D) := by
  refine okD F scStrike (fun vs H Q E h => ?_) (fun cdv A outer s H vs Q E hr h => ?_)
  · obtain ⟨p, r, t, i, rfl, _⟩ := h
    rfl
  · obtain ⟨p, r, t, i, rfl, hG, hok, h200, hds, hi, okt, q⟩ := h
    refine ⟨_, pss_cons (ps_set (i := 5) scStrike.nd rfl (.inl rfl) (pe_tup (pa_cons (pv 1) (pa_cons (pv 2) (pa_cons (pv 3) (pa_cons (pv 4) pa_nil))))))
      (pss_cons (ps_set (i := 6) scStrike.nd rfl (.inl rfl) (pe_ifExp (pt_val (pe_callB (cr_all rfl) (by rfl) B.all (by decide +kernel) (pa_cons (pe_lc (own := [("part", 7)]) (g := gName 7) (tt := tYes) (te := tCall spIsWord [] E0 (tCons (tVar 7) tNil)) rfl scStrike.nd (pi_tup (pv 5)) (blkOk_by (N := nStrike) (sc := defScope sGStrike) (by decide +kernel)) (fun _ _ _ _ _ => pg_name (i := 7) scStrike.nd rfl (.inl rfl)) (fun _ _ _ _ _ => pts_nil) (fun _ _ _ _ _ => pe_h hW hr (pa_cons (pv 7) pa_nil))) pa_nil))) (pe_hm hP TG.cl hr (pv 0) (pa_cons (pv 5) pa_nil)) pe_non))
      (pss_cons (ps_if (pt_cmp (pc_isN (pv 6))) (pss_one ps_never) pss_nil)
      (pss_one (ps_expr (pe_bm PySem.F.plainAttrs_list PySem.F.slot_list_append PySem.F.type_list_append mt_append (pe_fld (pv 0) rfl) (pa_cons (pe_tup (pa_cons (pv 6) (pa_cons (pe_bm PySem.F.plainAttrs_list PySem.F.slot_list_pop PySem.F.type_list_pop mt_popAt (pe_fld (pv 0) rfl) (pa_cons (pv 6) pa_nil)) pa_nil))) pa_nil)))))), ?_⟩
    refine ⟨_, rfl, _, rfl, _, rfl, _, rfl, lz, fun kp hkp => ?_⟩
    have s1 := same_new (o := .tup [V.str t.v, V.str t.tl, V.str t.th, V.str t.g]) hkp
    have hk1 : upd H kp (.tup [V.str t.v, V.str t.tl, V.str t.th, V.str t.g]) kp = some (.tup [V.str t.v, V.str t.tl, V.str t.th, V.str t.g]) := upd_same
    generalize upd H kp (.tup [V.str t.v, V.str t.tl, V.str t.th, V.str t.g]) = H1 at s1 hk1
    refine ⟨_, rfl, kp, rfl, ⟨_, .inl (.inl hk1)⟩, fun Dd hD => ?_⟩
    refine lc_rel (walk_tup (K := K) (a := kp) (xs := [V.str t.v, V.str t.tl, V.str t.th, V.str t.g])) hD (fun _ => true) (fun x y _ => y = .bl true) (fun H' s' => .inl (.inl (s' _ _ hk1))) (fun _ => rfl) (fun x H' _ _ Q' q' => q') ?_ (fun _ _ _ _ _ _ _ r => r) lz ?_
    · intro x H' hx _ s' Q' q'
      obtain ⟨z, hz, rfl⟩ : ∃ z, z ∈ keyS t ∧ x = .str z := by
        simp only [List.mem_cons, List.not_mem_nil, or_false] at hx
        rcases hx with rfl | rfl | rfl | rfl
        · exact ⟨_, by simp [keyS], rfl⟩
        · exact ⟨_, by simp [keyS], rfl⟩
        · exact ⟨_, by simp [keyS], rfl⟩
        · exact ⟨_, by simp [keyS], rfl⟩
      have hzw := okt.key z hz
      refine ⟨_, rfl, z, rfl, by have := hzw.len; omega, fun H2 s2 => q' _ H2 s2 ?_⟩
      rw [show wdB z = true from hzw]
    · intro zs H2 s2 hD2 he
      have ez := each_fn (f := fun _ : V => V.bl true) he
      have ez2 : zs = [true, true, true, true].map V.bl := ez
      rw [ez2] at hD2
      refine ⟨Dd, [true, true, true, true], rfl, .inl (.inl hD2), true, rfl, iteT ?_⟩
      have s02 := s1.trans s2
      have hG2 := hG.same s02
      obtain ⟨dx2, hp2⟩ := hG2.at_
      refine ⟨_, rfl, p, dx2, _, rfl, hp2, gf_no _ _ _, _, rfl, p, kp, r, keyS t, rfl, hG2, hok, h200, s2 _ _ hk1, okt.key, fun H3 s3 => ?_⟩
      rw [hi]
      obtain ⟨hil, _⟩ := List.findIdx?_eq_some_iff_getElem.mp hi
      have hla : r.as.length = r.ts.length := hG.tels.length
      have hia : i < r.as.length := by omega
      have hpa : r.as[i]? = some r.as[i] := List.getElem?_eq_getElem hia
      generalize r.as[i] = pa at hpa
      have hG3 := hG2.same s3
      obtain ⟨dx3, hp3⟩ := hG3.at_
      have s03 := s02.trans s3
      refine ⟨_, rfl, _, rfl, iteF ?_⟩
      refine ⟨_, rfl, p, D, dx3, _, _, rfl, hp3, TG.cl, TG.nD, gf_deeds _ _ _, .inl ⟨rfl, _, .inl (.inl hG3.deeds)⟩, _, rfl, _, rfl, p, D, dx3, _, _, rfl, hp3, TG.cl, TG.nT, gf_told _ _ _, .inl ⟨rfl, _, .inl (.inl hG3.told)⟩, _, rfl, r.td, _, (i : Int), i, .ref pa, rfl, rfl, hG3.told, by omega, by omega, ?_, ?_, lz, fun q1 hq1 => ?_⟩
      · rw [List.length_map]
        exact seq_idx hia
      · rw [List.getElem?_map, hpa]
        rfl
      have k4 : Keep H3 (upd H3 r.td (.lst ((r.as.map V.ref).eraseIdx i))) := kp_upd hG3.told
      have hp4 := k4 _ _ (fun xs e => by cases e) hp3
      have hd4 : upd H3 r.td (.lst ((r.as.map V.ref).eraseIdx i)) r.dd = some (.lst r.ds) := by
        rw [upd_ne hG.ne.symm]
        exact hG3.deeds
      have ht4 : upd H3 r.td (.lst ((r.as.map V.ref).eraseIdx i)) r.td = some (.lst ((r.as.eraseIdx i).map V.ref)) := by
        rw [upd_same, map_erase]
      have m4 : Same2 r.td r.dd H3 (upd H3 r.td (.lst ((r.as.map V.ref).eraseIdx i))) := fun c o n _ e => by
        rw [upd_ne n]
        exact e
      have hq3 : H3 q1 = none := by
        by_cases c : q1 = r.td
        · rw [c, ht4] at hq1
          cases hq1
        · rw [upd_ne c] at hq1
          exact hq1
      generalize upd H3 r.td (.lst ((r.as.map V.ref).eraseIdx i)) = H4 at k4 hp4 hd4 ht4 m4 hq1
      have s5 := same_new (o := .tup [V.int (i : Int), V.ref pa]) hq1
      have hq5 : upd H4 q1 (.tup [V.int (i : Int), V.ref pa]) q1 = some (.tup [V.int (i : Int), V.ref pa]) := upd_same
      have hd5 := s5 _ _ hd4
      have ht5 := s5 _ _ ht4
      have hp5 := s5 _ _ hp4
      refine ⟨r.dd, _, _, rfl, rfl, hd5, small1000 (by omega), ?_⟩
      have k6 := kp_upd (o := .lst (r.ds ++ [V.ref q1])) hd5
      have kk := (k4.trans (kp_same s5)).trans k6
      refine q q1 pa _ (s03.free hq3) hpa ?_ ⟨⟨dx3, k6 _ _ (fun xs e => by cases e) hp5⟩, hG3.land.keep kk, ?_, ?_, upd_same, hG.ne⟩ (k6 _ _ (fun xs e => by cases e) hq5)
      · refine (Same2.of s03).trans (m4.trans ((Same2.of s5).trans fun c o _ n e => ?_))
        rw [upd_ne n]
        exact e
      · show upd _ r.dd _ r.td = some (.lst ((r.as.eraseIdx i).map V.ref))
        rw [upd_ne hG.ne]
        exact ht5
      · exact each_erase i (hG3.tels.keep kk.tk)
end
end Wl

namespace Wl
open PySem PySem.Spec PyProof.Rows L2
abbrev sGBack : Stmt := inClass sGat 4
abbrev nBack : List Str := ["self", "struck", "place", "telling"]
theorem scBack : FnScope nBack ["self"] (defScope sGBack) := ⟨rfl, rfl, rfl, by decide +kernel, rfl, by decide +kernel, by decide +kernel⟩
theorem last_snoc {α : Type} (l : List α) (x : α) : (l ++ [x])[(l ++ [x]).length - 1]? = some x := by
  rw [List.length_append]
  simp
theorem each_take {α β : Type} {R : α → β → Prop} : ∀ {as : List α} {bs : List β} (n : Nat), Each R as bs → Each R (as.take n) (bs.take n)
  | _, _, 0, _ => by simpa using Each.nil
  | _, _, n + 1, .nil => by simpa using Each.nil
  | _, _, n + 1, .cons r t => .cons r (each_take n t)
theorem each_drop {α β : Type} {R : α → β → Prop} : ∀ {as : List α} {bs : List β} (n : Nat), Each R as bs → Each R (as.drop n) (bs.drop n)
  | _, _, 0, h => by simpa using h
  | _, _, n + 1, .nil => by simpa using Each.nil
  | _, _, n + 1, .cons r t => each_drop n t
section
variable {P : Program} {w : World} {K : PySem.W.Frag} {mg : Str → Option Value} {base : Heap} {f C D : Addr} {fd : FuncData}
def spBack (C D : Addr) : Sp := fun vs H Q _ => ∃ (p : Addr) (r : GR), vs = [.ref p] ∧ GatAt C D H p r ∧ r.ts.length ≤ 200 ∧
  ((∃ (as : List Addr) (pa : Addr) (ts : List Tel) (t : Tel) (ds : List V), r.as = as ++ [pa] ∧ r.ts = ts ++ [t] ∧ r.ds = ds ++ [.non] ∧
      ∀ (H' : Hp), Same2 r.td r.dd H H' → GatAt C D H' p { r with as := as, ts := ts, ds := ds } → Q .non H') ∨
   (∃ (i : Nat) (q pa : Addr) (t : Tel) (ds : List V), r.ds = ds ++ [.ref q] ∧ H q = some (.tup [.int (i : Int), .ref pa]) ∧ H pa = some (.tup (telV t)) ∧ i ≤ 200 ∧
      ∀ (H' : Hp), Same2 r.td r.dd H H' → GatAt C D H' p { r with as := r.as.take i ++ [pa] ++ r.as.drop i, ts := r.ts.take i ++ [t] ++ r.ts.drop i, ds := ds } → Q .non H'))
theorem ok_back (F : Fun K "back" "Gathering.back" sGBack f fd) (TG : TxtG K mg D) : FnOk P w K mg base CX0 1 f fd ["self"] (spBack C D) := by
  refine F.ok scBack (fun vs H Q E h => ?_) (fun cdv A outer s H vs Q E hr h => ?_)
  · obtain ⟨p, r, rfl, _⟩ := h
    rfl
  · obtain ⟨p, r, rfl, hG, h200, hh⟩ := h
    refine ⟨_, pss_cons (ps_if (pt_not (pt_truth (pe_fld (pv 0) rfl) (fun _ => rfl))) (pss_one ps_never) pss_nil)
      (pss_cons (ps_set (i := 1) scBack.nd rfl (.inl rfl) (pe_bm0 PySem.F.plainAttrs_list PySem.F.slot_list_pop PySem.F.type_list_pop mt_pop (pe_fld (pv 0) rfl)))
      (pss_one (ps_if (pt_cmp (pc_isN (pv 1))) (pss_one (ps_expr (pe_bm0 PySem.F.plainAttrs_list PySem.F.slot_list_pop PySem.F.type_list_pop mt_pop (pe_fld (pv 0) rfl))))
        (pss_cons (ps_asg (pv 1) (pg_tup rfl (pgs_cons (pg_name (i := 2) scBack.nd rfl (.inl rfl)) (pgs_cons (pg_name (i := 3) scBack.nd rfl (.inl rfl)) pgs_nil))))
        (pss_one (ps_expr (pe_bm PySem.F.plainAttrs_list PySem.F.slot_list_insert PySem.F.type_list_insert mt_insert (pe_fld (pv 0) rfl) (pa_cons (pv 2) (pa_cons (pv 3) pa_nil))))))))), ?_⟩
    obtain ⟨dx, hp⟩ := hG.at_
    have hds : r.ds ≠ [] := by
      rcases hh with ⟨_, _, _, _, _, _, _, e, _⟩ | ⟨_, _, _, _, _, e, _⟩
      · rw [e]
        simp
      · rw [e]
        simp
    refine ⟨_, rfl, p, D, dx, _, _, rfl, hp, TG.cl, TG.nD, gf_deeds _ _ _, !r.ds.isEmpty, .inl ⟨_, .inl (.inl hG.deeds), rfl⟩, ?_⟩
    have e0 : r.ds.isEmpty = false := by
      cases hq : r.ds with
      | nil => exact absurd hq hds
      | cons _ _ => rfl
    rw [e0]
    refine iteF ?_
    have kd : ∀ o, Keep H (upd H r.dd o) := fun o => kp_upd hG.deeds
    rcases hh with ⟨as, pa, ts, t, ds, ea, et, ed, q⟩ | ⟨i, q0, pa, t, ds, ed, hq0, hpa, hi, q⟩
    · have hdd := hG.deeds
      rw [ed] at hdd
      refine ⟨_, rfl, p, D, dx, _, _, rfl, hp, TG.cl, TG.nD, gf_deeds _ _ _, .inl ⟨rfl, _, .inl (.inl hdd)⟩, r.dd, _, .non, rfl, rfl, hdd, last_snoc _ _, ?_⟩
      rw [List.dropLast_concat]
      have k1 := kd (.lst ds)
      have ht1 : upd H r.dd (.lst ds) r.td = some (.lst ((as ++ [pa]).map V.ref)) := by
        rw [upd_ne hG.ne, ← ea]
        exact hG.told
      have hp1 := k1 _ _ (fun xs e => by cases e) hp
      have hd1 : upd H r.dd (.lst ds) r.dd = some (.lst ds) := upd_same
      have m1 : Same2 r.td r.dd H (upd H r.dd (.lst ds)) := fun c o _ n e => by
        rw [upd_ne n]
        exact e
      generalize upd H r.dd (.lst ds) = H1 at k1 ht1 hp1 hd1 m1
      rw [List.map_append] at ht1
      refine ⟨_, rfl, _, rfl, iteT ⟨_, rfl, p, D, dx, _, _, rfl, hp1, TG.cl, TG.nT, gf_told _ _ _, .inl ⟨rfl, _, .inl (.inl ht1)⟩, r.td, _, .ref pa, rfl, rfl, ht1, last_snoc _ _, ?_⟩⟩
      rw [show (as.map V.ref ++ [pa].map V.ref).dropLast = as.map V.ref from List.dropLast_concat]
      have k2 := kp_upd (o := .lst (as.map V.ref)) ht1
      have kk := k1.trans k2
      refine q _ ?_ ⟨⟨dx, k2 _ _ (fun xs e => by cases e) hp1⟩, hG.land.keep kk, upd_same, ?_, ?_, hG.ne⟩
      · exact m1.trans fun c o n _ e => by
          rw [upd_ne n]
          exact e
      · have h1 := hG.tels.keep kk.tk
        rw [ea, et] at h1
        have la : as.length = ts.length := by
          have := h1.length
          simpa using this
        have h2 := each_take as.length h1
        rw [List.take_left, la, List.take_left] at h2
        exact h2
      · show upd H1 r.td _ r.dd = some (.lst ds)
        rw [upd_ne hG.ne.symm]
        exact hd1
    · have hdd := hG.deeds
      rw [ed] at hdd
      refine ⟨_, rfl, p, D, dx, _, _, rfl, hp, TG.cl, TG.nD, gf_deeds _ _ _, .inl ⟨rfl, _, .inl (.inl hdd)⟩, r.dd, _, .ref q0, rfl, rfl, hdd, last_snoc _ _, ?_⟩
      rw [List.dropLast_concat]
      have k1 := kd (.lst ds)
      have ht1 : upd H r.dd (.lst ds) r.td = some (.lst (r.as.map V.ref)) := by
        rw [upd_ne hG.ne]
        exact hG.told
      have hp1 := k1 _ _ (fun xs e => by cases e) hp
      have hq1 := k1 _ _ (fun xs e => by cases e) hq0
      have hd1 : upd H r.dd (.lst ds) r.dd = some (.lst ds) := upd_same
      have m1 : Same2 r.td r.dd H (upd H r.dd (.lst ds)) := fun c o _ n e => by
        rw [upd_ne n]
        exact e
      generalize upd H r.dd (.lst ds) = H1 at k1 ht1 hp1 hd1 m1 hq1
      have hla : r.as.length = r.ts.length := hG.tels.length
      refine ⟨_, rfl, _, rfl, iteF ⟨_, rfl, q0, _, rfl, .inl (.inl hq1), rfl, _, _, rfl, _, _, rfl, rfl, ?_⟩⟩
      refine ⟨_, rfl, p, D, dx, _, _, rfl, hp1, TG.cl, TG.nT, gf_told _ _ _, .inl ⟨rfl, _, .inl (.inl ht1)⟩, _, rfl, _, rfl, r.td, _, (i : Int), .ref pa, rfl, rfl, ht1, by rw [List.length_map]; exact small1000 (by omega), by omega, by omega, ?_⟩
      rw [Int.toNat_natCast]
      have k2 := kp_upd (o := .lst ((r.as.map V.ref).take i ++ [.ref pa] ++ (r.as.map V.ref).drop i)) ht1
      have kk := k1.trans k2
      refine q _ ?_ ⟨⟨dx, k2 _ _ (fun xs e => by cases e) hp1⟩, hG.land.keep kk, ?_, ?_, ?_, hG.ne⟩
      · exact m1.trans fun c o n _ e => by
          rw [upd_ne n]
          exact e
      · show upd H1 r.td _ r.td = some (.lst ((r.as.take i ++ [pa] ++ r.as.drop i).map V.ref))
        rw [upd_same, List.map_append, List.map_append, List.map_take, List.map_drop]
        rfl
      · have h1 := hG.tels.keep kk.tk
        exact Each.append (Each.append (each_take i h1) (.cons (kk.tk _ _ hpa) .nil)) (each_drop i h1)
      · show upd H1 r.td _ r.dd = some (.lst ds)
        rw [upd_ne hG.ne.symm]
        exact hd1
end
end Wl

namespace Wl
open PySem PySem.Spec PyProof.Rows L2
abbrev sKey : Stmt := topS 51
abbrev sPut : Stmt := topS 52
section
variable {K : PySem.W.Frag} {H : Hp} {Q : VK}
theorem cat_reads {a b : Addr} {xs ys : List V} (ha : H a = some (.tup xs)) (hb : H b = some (.tup ys)) (hz : xs.length + ys.length ≤ 1000) (q : ∀ u H', Same H H' → H' u = some (.tup (xs ++ ys)) → Q (.ref u) H') : rCatA K (.ref a) (.ref b) H Q := by
  refine ⟨a, b, xs, ys, rfl, rfl, .inl (.inl ha), .inl (.inl hb), lzl hz, fun e => ?_, fun _ e => ?_, fun _ _ p hp => ?_⟩
  · subst e
    exact q b H (Same.refl H) hb
  · subst e
    refine q a H (Same.refl H) ?_
    rw [List.append_nil]
    exact ha
  · exact q p _ (same_new hp) upd_same
theorem sl_reads {a : Addr} {xs : List V} {lo hi : Option Int} (ha : H a = some (.tup xs)) (q : ∀ u H', Same H H' → H' u = some (.tup (cutV xs lo hi)) → Q (.ref u) H') : rSlA K (.ref a) lo hi H Q := by
  refine ⟨a, xs, rfl, .inl (.inl ha), fun ⟨e1, e2⟩ => ?_, fun _ p hp => q p _ (same_new hp) upd_same⟩
  refine q a H (Same.refl H) ?_
  unfold cutV
  rw [e1, e2, List.drop_zero, Nat.sub_zero, List.take_length]
  exact ha
end
theorem cut_to (xs : List V) (c : Nat) : cutV xs none (some (c : Int)) = xs.take c := by
  unfold cutV
  rw [HT.sIx_none, HT.sIx_nat, List.drop_zero, Nat.sub_zero]
  by_cases h : c ≤ xs.length
  · rw [Nat.min_eq_left h]
  · rw [Nat.min_eq_right (by omega), List.take_length, List.take_of_length_le (by omega)]
theorem cut_from (xs : List V) (c : Nat) : cutV xs (some (c : Int)) none = xs.drop c := by
  unfold cutV
  rw [HT.sIx_none, HT.sIx_nat]
  by_cases h : c ≤ xs.length
  · rw [Nat.min_eq_left h, ← List.length_drop, List.take_length]
  · rw [Nat.min_eq_right (by omega), List.drop_length, List.drop_eq_nil_of_le (by omega), List.take_nil]
section
variable {P : Program} {w : World} {K : PySem.W.Frag} {mg : Str → Option Value} {base : Heap} {f C D : Addr} {fd : FuncData}
theorem scKey : FnScope ["_law_row_here"] ["_law_row_here"] (defScope sKey) := ⟨rfl, rfl, rfl, by decide +kernel, rfl, by decide +kernel, by decide +kernel⟩
theorem ok_key (F : Fun K "_law_key" "_law_key" sKey f fd) : FnOk P w K mg base CX0 1 f fd ["_law_row_here"] spKeyOf := by
  refine F.ok scKey (fun vs H Q E h => ?_) (fun cdv A outer s H vs Q E hr h => ?_)
  · obtain ⟨p, t, rfl, _⟩ := h
    rfl
  · obtain ⟨p, t, rfl, hp, q⟩ := h
    refine ⟨_, pss_one (ps_ret (pe_tup (pa_cons (pe_ix ix_tup (pv 0) pe_int (fun _ _ => rfl)) (pa_cons (pe_ix ix_tup (pv 0) pe_int (fun _ _ => rfl)) (pa_cons (pe_ix ix_tup (pv 0) pe_int (fun _ _ => rfl)) (pa_cons (pe_ix ix_tup (pv 0) pe_int (fun _ _ => rfl)) pa_nil)))))), ?_⟩
    refine ⟨_, rfl, p, _, _, _, rfl, rfl, .inl (.inl hp), atI_nat (j := 0) rfl, _, rfl, p, _, _, _, rfl, rfl, .inl (.inl hp), atI_nat (j := 3) rfl, _, rfl, p, _, _, _, rfl, rfl, .inl (.inl hp), atI_nat (j := 1) rfl, _, rfl, p, _, _, _, rfl, rfl, .inl (.inl hp), atI_nat (j := 5) rfl, lz, fun u hu => q u hu⟩
/-! ### a telling put, one way or another -/
def HasP (P : Program) (w : World) (K : PySem.W.Frag) (mg : Str → Option Value) (base : Heap) (C D : Addr) : Prop := ∃ f fd, FnOk P w K mg base CX0 4 f fd psPut (spPut C D) ∧ Meth K D "put" f ∧ FunP K f fd
def spLPut (C D : Addr) : Sp := fun vs H Q _ => ∃ (p rp : Addr) (way : Int) (r : GR) (wd : Nat) (t : Tel), vs = [.ref p, .ref rp, .int way] ∧ H rp = some (.tup (telV t)) ∧ GatAt C D H p r ∧ Good r.g wd ∧ (∀ u ∈ r.ts, OkT u) ∧ OkT t ∧ t.v ∈ names r.g ∧ keyS t ∉ r.ts.map keyS ∧ r.ts.length < 200 ∧ r.ds.length < 1000 ∧
  ∀ (q : Addr) (H' : Hp), H q = none → Same2 r.td r.dd H H' → GatAt C D H' p (r.add q t) → Q .non H'
abbrev nLPut : List Str := ["_law_basket_here", "_law_row_here", "_law_way", "_law_town", "_law_matter", "_law_said", "_law_mouth", "_law_years", "_law_hand", "_law_firm"]
theorem scLPut : FnScope nLPut ["_law_basket_here", "_law_row_here", "_law_way"] (defScope sPut) := ⟨rfl, rfl, rfl, by decide +kernel, rfl, by decide +kernel, by decide +kernel⟩
theorem ok_lput (F : Fun K "_law_put" "_law_put" sPut f fd) (TG : TxtG K mg D) (hP : HasP P w K mg base C D) : FnOk P w K mg base CX0 5 f fd ["_law_basket_here", "_law_row_here", "_law_way"] (spLPut C D) := by
  obtain ⟨fp, fdp, FP, mP, fnP⟩ := hP
  have b8 := put_b8 fnP
  obtain ⟨ds6, v6, b6⟩ := put_b6 fnP
  obtain ⟨i1, k1⟩ := put_k1 fnP
  obtain ⟨i2, k2⟩ := put_k2 fnP
  obtain ⟨i3, k3⟩ := put_k3 fnP
  refine F.ok scLPut (fun vs H Q E h => ?_) (fun cdv A outer s H vs Q E hr h => ?_)
  · obtain ⟨p, rp, way, r, wd, t, rfl, _⟩ := h
    rfl
  · obtain ⟨p, rp, way, r, wd, t, rfl, hrp, hG, gd, hok, okt, hv, hnew, h200, hds, q⟩ := h
    refine ⟨_, pss_cons (ps_if (PW.pt (pw_and (pt_cmpR op_eq (pv 2) pe_int (nomark _)) (pw_and1 (pt_cmpR (op_eqD hr.units) (pe_slice sl_tupA (pv 1) (po_some pe_int) po_none) (pe_tup (pa_cons pe_str (pa_cons pe_bl pa_nil))) (nomark _)))))
        (pss_one (ps_ret (pe_meth (pv 0) TG.cl mP FP hr b6 v6 pass0 (pa_cons (pe_ix ix_tup (pv 1) pe_int (fun _ _ => rfl)) (pa_cons (pe_ix ix_tup (pv 1) pe_int (fun _ _ => rfl)) (pa_cons (pe_ix ix_tup (pv 1) pe_int (fun _ _ => rfl)) (pa_cons (pe_ix ix_tup (pv 1) pe_int (fun _ _ => rfl)) (pa_cons (pe_ix ix_tup (pv 1) pe_int (fun _ _ => rfl)) pa_nil)))))))) pss_nil)
      (pss_cons (ps_if (PW.pt (pw_and (pt_cmpR op_eq (pv 2) pe_int (nomark _)) (pw_and1 (pt_val (pe_ix ix_tup (pv 1) pe_int (fun _ _ => rfl))))))
        (pss_one (ps_ret (pe_methN0 (pv 0) TG.cl mP FP hr k1 pass0 (pk_cons (pe_ix ix_tup (pv 1) pe_int (fun _ _ => rfl)) (pk_cons (pe_ix ix_tup (pv 1) pe_int (fun _ _ => rfl)) (pk_cons (pe_ix ix_tup (pv 1) pe_int (fun _ _ => rfl)) (pk_cons (pe_ix ix_tup (pv 1) pe_int (fun _ _ => rfl)) (pk_cons (pe_ix ix_tup (pv 1) pe_int (fun _ _ => rfl)) (pk_cons (pe_ix ix_tup (pv 1) pe_int (fun _ _ => rfl)) pk_nil))))))))) pss_nil)
      (pss_cons (ps_if (PW.pt (pw_and (pt_cmpR op_eq (pv 2) pe_int (nomark _)) (pw_and1 (pt_cmpR op_eq (pe_ix ix_tup (pv 1) pe_int (fun _ _ => rfl)) pe_str (nomark _)))))
        (pss_one (ps_ret (pe_methN (n := 5) (pv 0) TG.cl mP FP hr k2 pass0 (pa_cons (pe_ix ix_tup (pv 1) pe_int (fun _ _ => rfl)) (pa_cons (pe_ix ix_tup (pv 1) pe_int (fun _ _ => rfl)) (pa_cons (pe_ix ix_tup (pv 1) pe_int (fun _ _ => rfl)) (pa_cons (pe_ix ix_tup (pv 1) pe_int (fun _ _ => rfl)) (pa_cons (pe_ix ix_tup (pv 1) pe_int (fun _ _ => rfl)) pa_nil))))) (pk_cons (pe_ix ix_tup (pv 1) pe_int (fun _ _ => rfl)) pk_nil)))) pss_nil)
      (pss_cons (ps_if (pt_cmpR op_eq (pv 2) pe_int (nomark _))
        (pss_cons (ps_asg (pv 1) (pg_tup rfl (pgs_cons (pg_name (i := 3) scLPut.nd rfl (.inl rfl)) (pgs_cons (pg_name (i := 4) scLPut.nd rfl (.inl rfl)) (pgs_cons (pg_name (i := 5) scLPut.nd rfl (.inl rfl)) (pgs_cons (pg_name (i := 6) scLPut.nd rfl (.inl rfl)) (pgs_cons (pg_name (i := 7) scLPut.nd rfl (.inl rfl)) (pgs_cons (pg_name (i := 8) scLPut.nd rfl (.inl rfl)) (pgs_cons (pg_name (i := 9) scLPut.nd rfl (.inl rfl)) pgs_nil)))))))))
        (pss_one (ps_ret (pe_methN0 (pv 0) TG.cl mP FP hr k3 pass0 (pk_cons (pv 9) (pk_cons (pv 8) (pk_cons (pv 7) (pk_cons (pv 6) (pk_cons (pv 5) (pk_cons (pv 4) (pk_cons (pv 3) pk_nil)))))))))) ) pss_nil)
      (pss_one (ps_ret (pe_meth (pv 0) TG.cl mP FP hr b8 .nil pass0 (pa_cons (pe_ix ix_tup (pv 1) pe_int (fun _ _ => rfl)) (pa_cons (pe_ix ix_tup (pv 1) pe_int (fun _ _ => rfl)) (pa_cons (pe_ix ix_tup (pv 1) pe_int (fun _ _ => rfl)) (pa_cons (pe_ix ix_tup (pv 1) pe_int (fun _ _ => rfl)) (pa_cons (pe_ix ix_tup (pv 1) pe_int (fun _ _ => rfl)) (pa_cons (pe_ix ix_tup (pv 1) pe_int (fun _ _ => rfl)) (pa_cons (pe_ix ix_tup (pv 1) pe_int (fun _ _ => rfl)) pa_nil))))))))))))), ?_⟩
    obtain ⟨dx, hp⟩ := hG.at_
    have go : ∀ (H1 : Hp), Same H H1 → ∀ vs, vs = V.ref p :: telV t → spPut C D vs H1 Q E0 := fun H1 s1 vs e => ⟨p, r, wd, t, e, hG.same s1, gd, hok, okt, hv, hnew, h200, hds, fun q' H' n m g => q q' H' (s1.free n) ((Same2.of s1).trans m) g⟩
    have go2 : ∀ {t' : Tel}, t' = t → ∀ (H1 : Hp), Same H H1 → ∀ vs, vs = V.ref p :: telV t' → spPut C D vs H1 Q E0 := fun {t'} e H1 s1 vs e2 => go H1 s1 vs (by rw [e2, e])
    refine ⟨_, rfl, rfl, _, rfl, ite_b (fun e0 => ?_) (fun e0 => ?_)⟩
    · have w0 : way = 0 := V.int.inj (of_decide_eq_true e0)
      refine ⟨_, rfl, (5 : Int), rfl, ?_⟩
      dsimp only [tNoPart]
      refine sl_reads hrp fun u1 H1 s1 hu1 => ⟨lz, fun u2 hu2 => ?_⟩
      have s2 := same_new (o := .tup [V.str "self", V.bl true]) hu2
      have ecut : cutV (telV t) (some (5 : Int)) none = [V.str t.g, V.bl t.sure] := by
        rw [show (5 : Int) = ((5 : Nat) : Int) from rfl, cut_from]
        rfl
      rw [ecut] at hu1
      have s12 := s1.trans s2
      have hrp2 := s12 _ _ hrp
      have hp2 := s12 _ _ hp
      refine ⟨.tuple [.str t.g, .bool t.sure], .tuple [.str "self", .bool true], .tup (.inl (.inl (s2 _ _ hu1))) (.cons (.str _) (.cons (.bl _) .nil)), .tup (.inl (.inl upd_same)) (.cons (.str _) (.cons (.bl _) .nil)), ?_, by decide +kernel, _, rfl, ite_b (fun e1 => ?_) (fun e1 => ?_)⟩
      · exact shaped_tuple (by simp [PyData.canLayAll0, PyData.canLay0, wd_ok okt.g]) (by simp [PyData.depthAll, PyData.depth])
      · have eg : t.g = "self" ∧ t.sure = true := by
          simp only [PyData.eqv, PyData.eqvAll, Bool.and_eq_true, Bool.and_true, beq_iff_eq] at e1
          exact e1
        have et : ({ t with g := "self", sure := true } : Tel) = t := by
          cases t
          simp only at eg
          simp [eg.1, eg.2]
        exact ⟨_, rfl, p, _, _, rfl, hp2, gf_no _ _ _, _, rfl, rp, _, _, _, rfl, rfl, .inl (.inl hrp2), atI_nat (j := 0) rfl, _, rfl, rp, _, _, _, rfl, rfl, .inl (.inl hrp2), atI_nat (j := 1) rfl, _, rfl, rp, _, _, _, rfl, rfl, .inl (.inl hrp2), atI_nat (j := 2) rfl, _, rfl, rp, _, _, _, rfl, rfl, .inl (.inl hrp2), atI_nat (j := 3) rfl, _, rfl, rp, _, _, _, rfl, rfl, .inl (.inl hrp2), atI_nat (j := 4) rfl, go2 et _ s12 _ rfl⟩
      · refine ⟨_, rfl, rfl, _, rfl, ?_⟩
        rw [show decide (V.int way = V.int 1) = false from decide_eq_false (fun e => absurd (V.int.inj e) (by omega))]
        refine iteF ⟨_, rfl, rfl, _, rfl, ?_⟩
        rw [show decide (V.int way = V.int 2) = false from decide_eq_false (fun e => absurd (V.int.inj e) (by omega))]
        refine iteF ⟨_, rfl, rfl, _, rfl, ?_⟩
        rw [show decide (V.int way = V.int 3) = false from decide_eq_false (fun e => absurd (V.int.inj e) (by omega))]
        exact iteF ⟨_, rfl, p, _, _, rfl, hp2, gf_no _ _ _, _, rfl, rp, _, _, _, rfl, rfl, .inl (.inl hrp2), atI_nat (j := 0) rfl, _, rfl, rp, _, _, _, rfl, rfl, .inl (.inl hrp2), atI_nat (j := 1) rfl, _, rfl, rp, _, _, _, rfl, rfl, .inl (.inl hrp2), atI_nat (j := 2) rfl, _, rfl, rp, _, _, _, rfl, rfl, .inl (.inl hrp2), atI_nat (j := 3) rfl, _, rfl, rp, _, _, _, rfl, rfl, .inl (.inl hrp2), atI_nat (j := 4) rfl, _, rfl, rp, _, _, _, rfl, rfl, .inl (.inl hrp2), atI_nat (j := 5) rfl, _, rfl, rp, _, _, _, rfl, rfl, .inl (.inl hrp2), atI_nat (j := 6) rfl, go _ s12 _ rfl⟩
    have w0 : way ≠ 0 := fun e => of_decide_eq_false e0 (congrArg V.int e)
    have sr := Same.refl H
    refine ⟨_, rfl, rfl, _, rfl, ite_b (fun e1 => ?_) (fun e1 => ?_)⟩
    · have w1 : way = 1 := V.int.inj (of_decide_eq_true e1)
      refine ⟨_, rfl, rp, _, _, _, rfl, rfl, .inl (.inl hrp), atI_nat (j := 6) rfl, _, rfl, ite_b (fun e2 => ?_) (fun e2 => ?_)⟩
      · have et : ({ t with sure := true } : Tel) = t := by
          cases t
          simp only at e2
          simp [e2]
        exact ⟨_, rfl, p, _, _, rfl, hp, gf_no _ _ _, _, rfl, rp, _, _, _, rfl, rfl, .inl (.inl hrp), atI_nat (j := 4) rfl, _, rfl, rp, _, _, _, rfl, rfl, .inl (.inl hrp), atI_nat (j := 0) rfl, _, rfl, rp, _, _, _, rfl, rfl, .inl (.inl hrp), atI_nat (j := 5) rfl, _, rfl, rp, _, _, _, rfl, rfl, .inl (.inl hrp), atI_nat (j := 2) rfl, _, rfl, rp, _, _, _, rfl, rfl, .inl (.inl hrp), atI_nat (j := 3) rfl, _, rfl, rp, _, _, _, rfl, rfl, .inl (.inl hrp), atI_nat (j := 1) rfl, rfl, rfl, go2 et _ sr _ rfl⟩
      · refine ⟨_, rfl, rfl, _, rfl, ?_⟩
        rw [show decide (V.int way = V.int 2) = false from decide_eq_false (fun e => absurd (V.int.inj e) (by omega))]
        refine iteF ⟨_, rfl, rfl, _, rfl, ?_⟩
        rw [show decide (V.int way = V.int 3) = false from decide_eq_false (fun e => absurd (V.int.inj e) (by omega))]
        exact iteF ⟨_, rfl, p, _, _, rfl, hp, gf_no _ _ _, _, rfl, rp, _, _, _, rfl, rfl, .inl (.inl hrp), atI_nat (j := 0) rfl, _, rfl, rp, _, _, _, rfl, rfl, .inl (.inl hrp), atI_nat (j := 1) rfl, _, rfl, rp, _, _, _, rfl, rfl, .inl (.inl hrp), atI_nat (j := 2) rfl, _, rfl, rp, _, _, _, rfl, rfl, .inl (.inl hrp), atI_nat (j := 3) rfl, _, rfl, rp, _, _, _, rfl, rfl, .inl (.inl hrp), atI_nat (j := 4) rfl, _, rfl, rp, _, _, _, rfl, rfl, .inl (.inl hrp), atI_nat (j := 5) rfl, _, rfl, rp, _, _, _, rfl, rfl, .inl (.inl hrp), atI_nat (j := 6) rfl, go _ sr _ rfl⟩
    have w1 : way ≠ 1 := fun e => of_decide_eq_false e1 (congrArg V.int e)
    refine ⟨_, rfl, rfl, _, rfl, ite_b (fun e2 => ?_) (fun e2 => ?_)⟩
    · have w2 : way = 2 := V.int.inj (of_decide_eq_true e2)
      refine ⟨_, rfl, rp, _, _, _, rfl, rfl, .inl (.inl hrp), atI_nat (j := 5) rfl, rfl, _, rfl, ite_b (fun e3 => ?_) (fun e3 => ?_)⟩
      · have eg : t.g = "self" := V.str.inj (of_decide_eq_true e3)
        have et : ({ t with g := "self" } : Tel) = t := by
          cases t
          simp only at eg
          simp [eg]
        exact ⟨_, rfl, p, _, _, rfl, hp, gf_no _ _ _, _, rfl, rp, _, _, _, rfl, rfl, .inl (.inl hrp), atI_nat (j := 0) rfl, _, rfl, rp, _, _, _, rfl, rfl, .inl (.inl hrp), atI_nat (j := 1) rfl, _, rfl, rp, _, _, _, rfl, rfl, .inl (.inl hrp), atI_nat (j := 2) rfl, _, rfl, rp, _, _, _, rfl, rfl, .inl (.inl hrp), atI_nat (j := 3) rfl, _, rfl, rp, _, _, _, rfl, rfl, .inl (.inl hrp), atI_nat (j := 4) rfl, _, rfl, rp, _, _, _, rfl, rfl, .inl (.inl hrp), atI_nat (j := 6) rfl, rfl, rfl, go2 et _ sr _ rfl⟩
      · refine ⟨_, rfl, rfl, _, rfl, ?_⟩
        rw [show decide (V.int way = V.int 3) = false from decide_eq_false (fun e => absurd (V.int.inj e) (by omega))]
        exact iteF ⟨_, rfl, p, _, _, rfl, hp, gf_no _ _ _, _, rfl, rp, _, _, _, rfl, rfl, .inl (.inl hrp), atI_nat (j := 0) rfl, _, rfl, rp, _, _, _, rfl, rfl, .inl (.inl hrp), atI_nat (j := 1) rfl, _, rfl, rp, _, _, _, rfl, rfl, .inl (.inl hrp), atI_nat (j := 2) rfl, _, rfl, rp, _, _, _, rfl, rfl, .inl (.inl hrp), atI_nat (j := 3) rfl, _, rfl, rp, _, _, _, rfl, rfl, .inl (.inl hrp), atI_nat (j := 4) rfl, _, rfl, rp, _, _, _, rfl, rfl, .inl (.inl hrp), atI_nat (j := 5) rfl, _, rfl, rp, _, _, _, rfl, rfl, .inl (.inl hrp), atI_nat (j := 6) rfl, go _ sr _ rfl⟩
    refine ⟨_, rfl, rfl, _, rfl, ite_b (fun e3 => ?_) (fun e3 => ?_)⟩
    · refine ⟨_, rfl, rp, _, rfl, .inl (.inl hrp), rfl, _, _, rfl, _, _, rfl, _, _, rfl, _, _, rfl, _, _, rfl, _, _, rfl, _, _, rfl, rfl, ?_⟩
      exact ⟨_, rfl, p, _, _, rfl, hp, gf_no _ _ _, _, rfl, _, rfl, _, rfl, _, rfl, _, rfl, _, rfl, _, rfl, rfl, rfl, go _ sr _ rfl⟩
    · exact ⟨_, rfl, p, _, _, rfl, hp, gf_no _ _ _, _, rfl, rp, _, _, _, rfl, rfl, .inl (.inl hrp), atI_nat (j := 0) rfl, _, rfl, rp, _, _, _, rfl, rfl, .inl (.inl hrp), atI_nat (j := 1) rfl, _, rfl, rp, _, _, _, rfl, rfl, .inl (.inl hrp), atI_nat (j := 2) rfl, _, rfl, rp, _, _, _, rfl, rfl, .inl (.inl hrp), atI_nat (j := 3) rfl, _, rfl, rp, _, _, _, rfl, rfl, .inl (.inl hrp), atI_nat (j := 4) rfl, _, rfl, rp, _, _, _, rfl, rfl, .inl (.inl hrp), atI_nat (j := 5) rfl, _, rfl, rp, _, _, _, rfl, rfl, .inl (.inl hrp), atI_nat (j := 6) rfl, go _ sr _ rfl⟩
end
end Wl

namespace Wl
open PySem PySem.Spec PyProof.Rows L2
abbrev sPools : Stmt := topS 49
abbrev sRow : Stmt := topS 50
/-- words to draw from -/
structure OkW (ws : List Str) : Prop where
  ne : ws ≠ []
  le : ws.length ≤ 36
  wd : ∀ z ∈ ws, IsWd z
def PoolsAt (H : Hp) (F : Addr) (as : List Addr) (ps : List (List Str)) : Prop := H F = some (.lst (as.map V.ref)) ∧ Each (fun (p : Addr) (ws : List Str) => H p = some (.lst (ws.map V.str))) as ps
/-- the lists stand apart from the purse -/
theorem PoolsAt.x {a F : Addr} {H H' : Hp} {as : List Addr} {ps : List (List Str)} (h : PoolsAt H F as ps) (s : SameX a H H') (nF : F ≠ a) (na : ∀ p ∈ as, p ≠ a) : PoolsAt H' F as ps := by
  refine ⟨s _ _ nF h.1, ?_⟩
  have key : ∀ {as : List Addr} {ps : List (List Str)}, (∀ p ∈ as, p ≠ a) → Each (fun (p : Addr) (ws : List Str) => H p = some (.lst (ws.map V.str))) as ps → Each (fun (p : Addr) (ws : List Str) => H' p = some (.lst (ws.map V.str))) as ps := by
    intro as ps na e
    induction e with
    | nil => exact .nil
    | cons r _ ih => exact .cons (s _ _ (na _ List.mem_cons_self) r) (ih fun p hp => na p (List.mem_cons_of_mem _ hp))
  exact key na h.2
section
variable {P : Program} {w : World} {K : PySem.W.Frag} {mg : Str → Option Value} {base : Heap} {f C D : Addr} {fd : FuncData}
/-! ### a row drawn -/
def spRow : Sp := fun vs H Q _ => ∃ (a F : Addr) (as : List Addr) (p0 p1 p2 p3 p4 : List Str), vs = [.ref a, .ref F] ∧ PurseAt H a ∧ PoolsAt H F as [p0, p1, p2, p3, p4] ∧ F ≠ a ∧ (∀ p ∈ as, p ≠ a) ∧ (∀ ws ∈ [p0, p1, p2, p3, p4], OkW ws) ∧
  ∀ (rp : Addr) (t : Tel) (H' : Hp), H rp = none → OkT t → t.v ∈ p0 → t.th ∈ p1 → t.wo ∈ p2 → t.tl ∈ p3 → t.g ∈ p4 → H' rp = some (.tup (telV t)) → PurseAt H' a → SameX a H H' → Q (.ref rp) H'
abbrev nRow : List Str := ["_law_purse_here", "_law_pools_here", "_law_some", "_law_years", "_law_pool"]
theorem scRow : FnScope nRow ["_law_purse_here", "_law_pools_here"] (defScope sRow) := ⟨rfl, rfl, rfl, by decide +kernel, rfl, by decide +kernel, by decide +kernel⟩
theorem ok_row (F : Fun K "_law_row" "_law_row" sRow f fd) (B : Bi mg) (hp : Has P w K mg base "_law_pick" 1 ["_law_purse_here", "_law_count"] spPick) : FnOk P w K mg base CX0 2 f fd ["_law_purse_here", "_law_pools_here"] spRow := by
  refine F.ok scRow (fun vs H Q E h => ?_) (fun cdv A outer s H vs Q E hr h => ?_)
  · obtain ⟨a, F, as, p0, p1, p2, p3, p4, rfl, _⟩ := h
    rfl
  · obtain ⟨a, Fp, as, p0, p1, p2, p3, p4, rfl, hA, hPo, nF, na, hok, q⟩ := h
    refine ⟨_, pss_cons (ps_setLc (i := 2) (own := [("_law_pool", 4)]) (g := gName 4) (tt := tYes) (te := tOp (rIxL K) (tVar 4) (tCall spPick [] E0 (tCons (tVar 0) (tCons (tCB (fun xs H Q => ∃ p ys, xs = [.ref p] ∧ ((SqL K H p ys) ∨ SqT K H p ys) ∧ Q (.int ys.length) H) (tCons (tVar 4) tNil)) tNil)))) rfl scRow.nd rfl rfl (sw_true rfl rfl rfl (by decide +kernel)) (pi_list (pv 1)) (blkOk_by (N := nRow) (sc := defScope sRow) (by decide +kernel))
        (fun _ _ _ _ _ => pg_name (i := 4) scRow.nd rfl (.inl rfl)) (fun _ _ _ _ _ => pts_nil) (fun _ _ _ _ _ => pe_ix ix_list (pv 4) (pe_h hp hr (pa_cons (pv 0) (pa_cons (pe_callB call_len_seq (by rfl) B.len PySem.boot_len (pa_cons (pv 4) pa_nil)) pa_nil))) (fun _ _ => rfl)))
      (pss_cons (ps_set (i := 3) scRow.nd rfl (.inl rfl) (pe_ix ix_list (pe_lst (pa_cons pe_int (pa_cons pe_int (pa_cons pe_int (pa_cons (pe_h hp hr (pa_cons (pv 0) (pa_cons pe_int pa_nil))) pa_nil))))) (pe_h hp hr (pa_cons (pv 0) (pa_cons pe_int pa_nil))) (fun _ _ => rfl)))
      (pss_one (ps_ret (pe_tup (pa_cons (pe_ix ix_list (pv 2) pe_int (fun _ _ => rfl)) (pa_cons (pe_ix ix_list (pv 2) pe_int (fun _ _ => rfl)) (pa_cons (pe_ix ix_list (pv 2) pe_int (fun _ _ => rfl)) (pa_cons (pe_ix ix_list (pv 2) pe_int (fun _ _ => rfl)) (pa_cons (pv 3) (pa_cons (pe_ix ix_list (pv 2) pe_int (fun _ _ => rfl)) (pa_cons (pe_cmpR op_gt (pe_h hp hr (pa_cons (pv 0) (pa_cons pe_int pa_nil))) pe_int (nomark _)) pa_nil))))))))))), ?_⟩
    have hps : as.length = 5 := hPo.2.length
    refine ⟨_, rfl, Fp, rfl, ⟨_, .inl (.inl hPo.1)⟩, fun Dd hD => lc_it (walk_list (K := K) (a := Fp) (xs := as.map V.ref)) (fun i H' => ∃ zs : List Str, H' Dd = some (.lst (zs.map V.str)) ∧ zs.length = i ∧ Each (fun (ws : List Str) (z : Str) => z ∈ ws) ([p0, p1, p2, p3, p4].take i) zs ∧ PurseAt H' a ∧ SameX a H H')
      ⟨[], upd_same, rfl, .nil, hA.same (same_new hD), sx (same_new hD)⟩ (fun i H' _ h => .inl (.inl (h.choose_spec.2.2.2.2 _ _ nF hPo.1))) ?_ ?_⟩
    · rintro i x H1 H2 hi ⟨zs, hz, hzl, he, hA1, x1⟩ ⟨rfl, hx⟩
      rw [List.getElem?_map] at hx
      obtain ⟨pp, hpp, rfl⟩ := Option.map_eq_some_iff.mp hx
      obtain ⟨ws, hws, hpw⟩ := Each.get hPo.2 hpp
      have okw := hok ws (List.mem_of_getElem? hws)
      have npp := na pp (List.mem_of_getElem? hpp)
      have hp1 := x1 _ _ npp hpw
      have hi5 : i < 5 := by rw [List.length_map] at hi; omega
      have wpos : 0 < ws.length := List.length_pos_iff.mpr okw.ne
      have wle := okw.le
      refine ⟨rfl, yes_it ⟨_, rfl, _, rfl, _, rfl, pp, _, rfl, .inl (.inl (.inl hp1)), a, _, rfl, hA1, by rw [List.length_map]; omega, by rw [List.length_map]; omega, fun rr H3 r0 r1 hA3 x3 n3 => ?_⟩⟩
      rw [List.length_map] at r1
      obtain ⟨z, hzm, hzi⟩ := atI_strs (zs := ws) r0 r1
      have nD : Dd ≠ a := hA.ne hD
      have hD3 := x3 _ _ nD hz
      refine ⟨pp, _, rr, .str z, rfl, rfl, .inl (.inl (x3 _ _ npp hp1)), hzi, _, hD3, ?_, zs ++ [z], ?_, ?_, ?_, ?_, ?_⟩
      · rw [List.length_map]
        exact small1000 (by omega)
      · rw [upd_same, List.map_append]
        rfl
      · rw [List.length_append, hzl]
        rfl
      · rw [List.take_add_one, hws]
        exact Each.append he (.cons hzm .nil)
      · obtain ⟨y0, y1, y2, hy, hy1⟩ := hA3
        exact ⟨y0, y1, y2, by rw [upd_ne nD.symm]; exact hy, hy1⟩
      · exact sameX_mut (x1.trans x3) hD
    · rintro H1 ⟨zs, hz, hzl, he, hA1, x1⟩
      rw [List.length_map, hps] at hzl he
      obtain ⟨z0, z1, z2, z3, z4, rfl, m0, m1, m2, m3, m4⟩ : ∃ z0 z1 z2 z3 z4, zs = [z0, z1, z2, z3, z4] ∧ z0 ∈ p0 ∧ z1 ∈ p1 ∧ z2 ∈ p2 ∧ z3 ∈ p3 ∧ z4 ∈ p4 := by
        cases he with
        | cons m0 he =>
          cases he with
          | cons m1 he =>
            cases he with
            | cons m2 he =>
              cases he with
              | cons m3 he =>
                cases he with
                | cons m4 he =>
                  cases he
                  exact ⟨_, _, _, _, _, rfl, m0, m1, m2, m3, m4⟩
      have nD : Dd ≠ a := hA.ne hD
      -- years
      refine ⟨_, rfl, a, 121, rfl, hA1, by decide, by decide, fun ry H2 y0 y1 hA2 x2 _ => ⟨lz, fun ml hml => ⟨_, rfl, a, 4, rfl, hA2.same (same_new hml), by decide, by decide, fun r4 H4 r40 r41 hA4 x4 n4 => ?_⟩⟩⟩
      have nml := hA2.ne hml
      obtain ⟨yr, hym, hyat⟩ := atI_tab (ns := [0, 120, 40, ry]) r40 r41
      have hyr : 0 ≤ yr ∧ yr ≤ 120 := by
        simp only [List.mem_cons, List.not_mem_nil, or_false] at hym
        omega
      obtain ⟨y, rfl⟩ : ∃ y : Nat, yr = (y : Int) := ⟨yr.toNat, by omega⟩
      refine ⟨ml, _, _, .int (y : Int), rfl, rfl, .inl (.inl (x4 _ _ nml upd_same)), hyat, ?_⟩
      have x14 : SameX a H1 H4 := (x2.trans (sx (same_new hml))).trans x4
      have x04 : SameX a H H4 := x1.trans x14
      have hz4 := x14 _ _ nD hz
      refine ⟨_, rfl, Dd, _, _, _, rfl, rfl, .inl (.inl hz4), atI_nat (j := 0) rfl, _, rfl, Dd, _, _, _, rfl, rfl, .inl (.inl hz4), atI_nat (j := 1) rfl, _, rfl, Dd, _, _, _, rfl, rfl, .inl (.inl hz4), atI_nat (j := 2) rfl, _, rfl, Dd, _, _, _, rfl, rfl, .inl (.inl hz4), atI_nat (j := 3) rfl, _, rfl, _, rfl, Dd, _, _, _, rfl, rfl, .inl (.inl hz4), atI_nat (j := 4) rfl, ?_⟩
      refine ⟨_, rfl, a, 4, rfl, hA4, by decide, by decide, fun rs H5 s0 s1 hA5 x5 n5 => ⟨_, _, rfl, rfl, lz, fun rp hrp => ?_⟩⟩
      have okp : ∀ {ws : List Str} {z : Str}, ws ∈ [p0, p1, p2, p3, p4] → z ∈ ws → IsWd z := fun hw hz => (hok _ hw).wd _ hz
      have npa := hA5.ne hrp
      refine q rp ⟨z0, z1, z2, z3, y, z4, decide (0 < rs)⟩ _ ?_ ⟨okp (by simp) m0, okp (by simp) m1, okp (by simp) m2, okp (by simp) m3, by show y ≤ 120; omega, okp (by simp) m4⟩ m0 m1 m2 m3 m4 upd_same (hA5.same (same_new hrp)) ((x04.trans x5).trans (sx (same_new hrp)))
      exact SameX.free (x04.trans x5) npa hrp
end
end Wl

namespace Wl
open PySem PySem.Spec PyProof.Rows L2
section
variable {P : Program} {w : World} {K : PySem.W.Frag} {mg : Str → Option Value} {base : Heap} {f C D : Addr} {fd : FuncData}
/-! ### the pools -/
structure PoolI (g : Grid) (H H' : Hp) (a Fa cl : Addr) (xs : List V) (as : List Addr) (rest : List (List Str)) (i : Nat) : Prop where
  pu : PurseAt H' a
  sx : SameX a H H'
  fo : H' Fa = some (.lst (as.map V.ref))
  cl : H' cl = some (.lst xs)
  ea : Each (fun (p : Addr) (ws : List Str) => H' p = some (.lst (ws.map V.str))) as (sortS (names g) :: rest)
  ne : ∀ p ∈ as, p ≠ Fa ∧ H p = none
  len : as.length = i + 1
  wd : ∀ ws ∈ rest, ∀ z ∈ ws, IsWd z
  co : Each (fun (x : V) (ws : List Str) => x = .int (ws.length : Int)) (xs.take i) rest
theorem each_lists {H H' : Hp} : ∀ {as : List Addr} {ps : List (List Str)}, (∀ p ∈ as, ∀ o, H p = some o → H' p = some o) → Each (fun (p : Addr) (ws : List Str) => H p = some (.lst (ws.map V.str))) as ps → Each (fun (p : Addr) (ws : List Str) => H' p = some (.lst (ws.map V.str))) as ps
  | _, _, _, .nil => .nil
  | _, _, k, .cons r t => .cons (k _ List.mem_cons_self _ r) (each_lists (fun p hp => k p (List.mem_cons_of_mem _ hp)) t)
def spPools : Sp := fun vs H Q _ => ∃ (a L : Addr) (g : Grid) (wd : Nat), vs = [.ref a, .ref L] ∧ PurseAt H a ∧ GridAt H L g ∧ Good g wd ∧
  ∀ (F : Addr) (as : List Addr) (p1 p2 p3 p4 : List Str) (H' : Hp), H F = none → (∀ p ∈ as, H p = none) → PoolsAt H' F as [sortS (names g), p1, p2, p3, p4] → (∀ ws ∈ [sortS (names g), p1, p2, p3, p4], OkW ws) → p4.length ≤ 3 → PurseAt H' a → SameX a H H' → Q (.ref F) H'
abbrev nPools : List Str := ["_law_purse_here", "_law_lots", "_law_found", "_law_count", "_law_words", "_law_k", "_law_said"]
theorem scPools : FnScope nPools ["_law_purse_here", "_law_lots"] (defScope sPools) := ⟨rfl, rfl, rfl, by decide +kernel, rfl, by decide +kernel, by decide +kernel⟩
theorem ok_pools (F : Fun K "_law_pools" "_law_pools" sPools f fd) (B : Bi mg) (hp : Has P w K mg base "_law_pick" 1 ["_law_purse_here", "_law_count"] spPick) (hF : Has P w K mg base "_law_fresh" 3 ["_law_purse_here", "_law_used"] spFresh) (hN : Has P w K mg base "_law_names" 1 ["_law_lots"] spNames) : FnOk P w K mg base CX0 4 f fd ["_law_purse_here", "_law_lots"] spPools := by
  refine F.ok scPools (fun vs H Q E h => ?_) (fun cdv A outer s H vs Q E hr h => ?_)
  · obtain ⟨a, L, g, wd, rfl, _⟩ := h
    rfl
  · obtain ⟨a, L, g, wd, rfl, hA, hG, gd, q⟩ := h
    refine ⟨_, pss_cons (ps_set (i := 2) scPools.nd rfl (.inl rfl) (pe_lst (pa_cons (pe_h hN hr (pa_cons (pv 1) pa_nil)) pa_nil)))
      (pss_cons (ps_for PassesOwn.never rfl (pi_list (pe_lst (pa_cons (pe_op op_add pe_int (pe_h hp hr (pa_cons (pv 0) (pa_cons pe_int pa_nil)))) (pa_cons (pe_op op_add pe_int (pe_h hp hr (pa_cons (pv 0) (pa_cons pe_int pa_nil)))) (pa_cons (pe_op op_add pe_int (pe_h hp hr (pa_cons (pv 0) (pa_cons pe_int pa_nil)))) (pa_cons (pe_h hp hr (pa_cons (pv 0) (pa_cons pe_int pa_nil))) pa_nil)))))) (pg_name (i := 3) scPools.nd rfl (.inl rfl))
        (pss_cons (ps_set (i := 4) scPools.nd rfl (.inl rfl) (pe_lst pa_nil))
        (pss_cons (ps_for PassesOwn.never rfl (pi_range1 rfl B.range (pa_cons (pv 3) pa_nil)) (pg_name (i := 5) scPools.nd rfl (.inl rfl))
          (pss_one (ps_expr (pe_bm PySem.F.plainAttrs_list PySem.F.slot_list_append PySem.F.type_list_append mt_append (pv 4) (pa_cons (pe_h hF hr (pa_cons (pv 0) (pa_cons (pv 4) pa_nil))) pa_nil)))))
        (pss_one (ps_expr (pe_bm PySem.F.plainAttrs_list PySem.F.slot_list_append PySem.F.type_list_append mt_append (pv 2) (pa_cons (pv 4) pa_nil)))))))
      (pss_cons (ps_asg (pe_op op_cat (pe_lst (pa_cons pe_str pa_nil)) (pe_lc (own := [("_law_said", 6)]) (g := gName 6) (tt := tTest (tOp rNe (tVar 6) (tC (.str "self")))) rfl scPools.nd (pi_list (pe_ix ix_list (pv 2) pe_int (fun _ _ => rfl))) (blkOk_by (N := nPools) (sc := defScope sPools) (by decide +kernel)) (fun _ _ _ _ _ => pg_name (i := 6) scPools.nd rfl (.inl rfl)) (fun _ _ _ _ _ => pts_one (pt_cmpR op_ne (pv 6) pe_str (nomark _))) (fun _ _ _ _ _ => pv 6))) (pg_sub (pv 2) pe_int set_list))
      (pss_one (ps_ret (pv 2))))), ?_⟩
    refine ⟨_, rfl, L, g, wd, rfl, hG, gd.sized, fun tn H1 ntn s1 htn => ⟨lz, fun Fa hFa => ?_⟩⟩
    have s2 := same_new (o := .lst [V.ref tn]) hFa
    have hFa2 : upd H1 Fa (.lst [V.ref tn]) Fa = some (.lst [V.ref tn]) := upd_same
    have htn2 := s2 _ _ htn
    have s02 := s1.trans s2
    have hFa0 : H Fa = none := s1.free hFa
    have nFt : tn ≠ Fa := fun e => by
      rw [e, hFa] at htn
      cases htn
    generalize upd H1 Fa (.lst [V.ref tn]) = H2 at hFa2 htn2 s02
    have nFa : Fa ≠ a := hA.ne hFa0
    have nta : tn ≠ a := hA.ne ntn
    refine ⟨_, rfl, a, 3, rfl, hA.same s02, by decide, by decide, fun c1 H3 c10 c11 hA3 x3 _ => ⟨_, _, rfl, rfl, _, rfl, a, 5, rfl, hA3, by decide, by decide, fun c2 H4 c20 c21 hA4 x4 _ => ⟨_, _, rfl, rfl, _, rfl, a, 3, rfl, hA4, by decide, by decide, fun c3 H5 c30 c31 hA5 x5 _ => ⟨_, _, rfl, rfl, _, rfl, a, 3, rfl, hA5, by decide, by decide, fun c4 H6 c40 c41 hA6 x6 _ => ⟨lz, fun cl hcl => ?_⟩⟩⟩⟩⟩
    have x26 : SameX a H2 H6 := ((x3.trans x4).trans x5).trans x6
    have s7 := same_new (o := .lst [V.int (1 + c1), V.int (1 + c2), V.int (1 + c3), V.int c4]) hcl
    have hcl7 : upd H6 cl (.lst [V.int (1 + c1), V.int (1 + c2), V.int (1 + c3), V.int c4]) cl = _ := upd_same
    have hA7 := hA6.same s7
    have x27 := x26.trans (sx s7)
    have ncl : cl ≠ a := hA6.ne hcl
    have nclF : cl ≠ Fa := fun e => by
      have := x26 _ _ nFa hFa2
      rw [e] at hcl
      rw [hcl] at this
      cases this
    generalize upd H6 cl (.lst [V.int (1 + c1), V.int (1 + c2), V.int (1 + c3), V.int c4]) = H7 at hcl7 hA7 x27
    have hcl0 : ∀ p, H p ≠ none → p ≠ cl := fun p h e => h (by
      have : H6 cl = none := hcl
      cases hq : H p with
      | none => rfl
      | some o =>
        by_cases c : p = a
        · exact absurd (e.symm.trans c) ncl
        · have := x26 _ _ c (s02 _ _ hq)
          rw [e, hcl] at this
          cases this)
    have I0 : PoolI g H H7 a Fa cl [V.int (1 + c1), V.int (1 + c2), V.int (1 + c3), V.int c4] [tn] [] 0 :=
      ⟨hA7, (sx s02).trans x27, x27 _ _ nFa hFa2, hcl7, .cons (x27 _ _ nta htn2) .nil, fun p hp => by rw [List.mem_singleton.mp hp]; exact ⟨nFt, ntn⟩, rfl, fun ws hw => by simp at hw, .nil⟩
    have cnt : ∀ (i : Nat) (x : V), ([V.int (1 + c1), V.int (1 + c2), V.int (1 + c3), V.int c4] : List V)[i]? = some x → ∃ n : Nat, x = .int (n : Int) ∧ n ≤ 5 := by
      intro i x hx
      match i, hx with
      | 0, h => cases h; exact ⟨(1 + c1).toNat, by congr 1; omega, by omega⟩
      | 1, h => cases h; exact ⟨(1 + c2).toNat, by congr 1; omega, by omega⟩
      | 2, h => cases h; exact ⟨(1 + c3).toNat, by congr 1; omega, by omega⟩
      | 3, h => cases h; exact ⟨c4.toNat, by congr 1; omega, by omega⟩
      | n + 4, h => simp at h
    refine ⟨cl, rfl, ⟨_, .inl (.inl hcl7)⟩, for_list (K := K) (a := cl) (xs := [V.int (1 + c1), V.int (1 + c2), V.int (1 + c3), V.int c4]) (fun i σ H' => (∃ y3 y4 y5 y6, σ = [some (.ref a), some (.ref L), some (.ref Fa), y3, y4, y5, y6]) ∧ ∃ as rest, PoolI g H H' a Fa cl [V.int (1 + c1), V.int (1 + c2), V.int (1 + c3), V.int c4] as rest i)
      ⟨⟨_, _, _, _, rfl⟩, _, _, I0⟩ (fun i σ H' _ h => .inl (.inl (h.2.choose_spec.choose_spec.cl))) ?_ ?_⟩
    · rintro i x σ H8 hx ⟨⟨y3, y4, y5, y6, rfl⟩, as, rest, I⟩
      obtain ⟨n, rfl, hn⟩ := cnt i x hx
      refine ⟨lz, fun W hW => ?_⟩
      have nWa : W ≠ a := I.pu.ne hW
      have hW0 : H W = none := SameX.free I.sx nWa hW
      have nWF : Fa ≠ W := ne_of_none I.fo hW
      have nWc : cl ≠ W := ne_of_none I.cl hW
      have nWp : ∀ p ∈ as, p ≠ W := fun p hp => by
        obtain ⟨k, hk, ek⟩ := List.mem_iff_getElem.mp hp
        obtain ⟨ws, _, e⟩ := Each.get I.ea (i := k) (a := p) (by rw [List.getElem?_eq_getElem hk, ek])
        exact ne_of_none e hW
      have npa : ∀ p ∈ as, p ≠ a := fun p hp => hA.ne (I.ne p hp).2
      have s9 := same_new (o := .lst []) hW
      have hW9 : upd H8 W (.lst []) W = some (.lst []) := upd_same
      have hA9 := I.pu.same s9
      generalize upd H8 W (.lst []) = H9 at s9 hW9 hA9
      refine ⟨_, rfl, (n : Int), rfl, by omega, by omega, for_range (lo := 0) (n := n) (fun j σ H' => (∃ z5, σ = [some (.ref a), some (.ref L), some (.ref Fa), some (.int (n : Int)), some (.ref W), z5, y6]) ∧ ∃ ws : List Str, H' W = some (.lst (ws.map V.str)) ∧ ws.length = j ∧ (∀ z ∈ ws, IsWd z) ∧ PurseAt H' a ∧ Same2 a W H9 H')
        ⟨⟨_, rfl⟩, [], hW9, rfl, fun z hz => by simp at hz, hA9, Same2.of (Same.refl _)⟩ ?_ ?_⟩
      · rintro j σ H10 hj ⟨⟨z5, rfl⟩, ws, hw, hl, hwd, hA10, m10⟩
        refine ⟨_, rfl, .inl ⟨rfl, _, .inl (.inl hw)⟩, _, rfl, _, rfl, a, W, ws, rfl, hA10, hw, nWa, by omega, fun z H11 hz hzn hA11 x11 => ?_⟩
        have hw11 := x11 _ _ nWa hw
        refine ⟨W, _, _, rfl, rfl, hw11, ?_, ⟨_, rfl⟩, ws ++ [z], ?_, ?_, ?_, ?_, ?_⟩
        · rw [List.length_map]
          exact small1000 (by omega)
        · rw [upd_same, List.map_append]
          rfl
        · rw [List.length_append, hl]
          rfl
        · intro u hu
          rcases List.mem_append.mp hu with hu | hu
          · exact hwd u hu
          · rw [List.mem_singleton.mp hu]
            exact hz
        · obtain ⟨y0, y1, y2, hy, hy1⟩ := hA11
          exact ⟨y0, y1, y2, by rw [upd_ne nWa.symm]; exact hy, hy1⟩
        · intro c o n1 n2 e
          rw [upd_ne n2]
          exact x11 _ _ n1 (m10 c o n1 n2 e)
      · rintro σ H10 ⟨⟨z5, rfl⟩, ws, hw, hl, hwd, hA10, m10⟩
        have t10 : ∀ c o, c ≠ a → c ≠ W → H8 c = some o → H10 c = some o := fun c o n1 n2 e => m10 c o n1 n2 (s9 _ _ e)
        have hf10 := t10 _ _ nFa nWF I.fo
        refine ⟨_, rfl, .inl ⟨rfl, _, .inl (.inl hf10)⟩, _, rfl, Fa, _, _, rfl, rfl, hf10, ?_, ⟨_, _, _, _, rfl⟩, as ++ [W], rest ++ [ws], ?_⟩
        · rw [List.length_map, I.len]
          have : i < 4 := by
            rcases Nat.lt_or_ge i 4 with h | h
            · exact h
            · rw [List.getElem?_eq_none (by simpa using h)] at hx
              cases hx
          exact small1000 (by omega)
        refine ⟨?_, ?_, ?_, ?_, ?_, ?_, ?_, ?_, ?_⟩
        · obtain ⟨y0, y1, y2, hy, hy1⟩ := hA10
          exact ⟨y0, y1, y2, by rw [upd_ne nFa.symm]; exact hy, hy1⟩
        · intro c o n1 e
          have n2 : c ≠ W := ne_of_none e hW0
          have n3 : c ≠ Fa := ne_of_none e hFa0
          rw [upd_ne n3]
          exact t10 c o n1 n2 (I.sx c o n1 e)
        · rw [upd_same, List.map_append]
          rfl
        · rw [upd_ne nclF]
          exact t10 _ _ ncl nWc I.cl
        · have e1 := each_lists (H' := upd H10 Fa (.lst (as.map V.ref ++ [V.ref W]))) (fun p hp o e => by
            rw [upd_ne (I.ne p hp).1]
            exact t10 p o (npa p hp) (nWp p hp) e) I.ea
          have e2 : Each (fun (p : Addr) (ws : List Str) => upd H10 Fa (.lst (as.map V.ref ++ [V.ref W])) p = some (.lst (ws.map V.str))) [W] [ws] := .cons (by rw [upd_ne nWF.symm]; exact hw) .nil
          exact Each.append e1 e2
        · intro p hp
          rcases List.mem_append.mp hp with hp | hp
          · exact I.ne p hp
          · rw [List.mem_singleton.mp hp]
            exact ⟨nWF.symm, hW0⟩
        · rw [List.length_append, I.len]
          rfl
        · intro us hu
          rcases List.mem_append.mp hu with hu | hu
          · exact I.wd us hu
          · rw [List.mem_singleton.mp hu]
            exact hwd
        · rw [List.take_add_one, hx]
          exact Each.append I.co (.cons (by rw [hl]) .nil)
    · rintro σ H8 ⟨⟨y3, y4, y5, y6, rfl⟩, as, rest, I⟩
      have co := I.co
      obtain ⟨p1, p2, p3, p4, rfl, l1, l2, l3, l4⟩ : ∃ p1 p2 p3 p4 : List Str, rest = [p1, p2, p3, p4] ∧ V.int (1 + c1) = .int (p1.length : Int) ∧ V.int (1 + c2) = .int (p2.length : Int) ∧ V.int (1 + c3) = .int (p3.length : Int) ∧ V.int c4 = .int (p4.length : Int) := by
        cases co with
        | cons m1 co =>
          cases co with
          | cons m2 co =>
            cases co with
            | cons m3 co =>
              cases co with
              | cons m4 co =>
                cases co
                exact ⟨_, _, _, _, rfl, m1, m2, m3, m4⟩
      have l1 := V.int.inj l1
      have l2 := V.int.inj l2
      have l3 := V.int.inj l3
      have l4 := V.int.inj l4
      have ea := I.ea
      obtain ⟨b0, b1, b2, b3, b4, rfl, e0, e1, e2, e3, e4⟩ : ∃ b0 b1 b2 b3 b4 : Addr, as = [b0, b1, b2, b3, b4] ∧ H8 b0 = some (.lst ((sortS (names g)).map V.str)) ∧ H8 b1 = some (.lst (p1.map V.str)) ∧ H8 b2 = some (.lst (p2.map V.str)) ∧ H8 b3 = some (.lst (p3.map V.str)) ∧ H8 b4 = some (.lst (p4.map V.str)) := by
        cases ea with
        | cons m0 ea =>
          cases ea with
          | cons m1 ea =>
            cases ea with
            | cons m2 ea =>
              cases ea with
              | cons m3 ea =>
                cases ea with
                | cons m4 ea =>
                  cases ea
                  exact ⟨_, _, _, _, _, rfl, m0, m1, m2, m3, m4⟩
      refine ⟨lz, fun sl hsl => ?_⟩
      have s9 := same_new (o := .lst [V.str "self"]) hsl
      have hs9 : upd H8 sl (.lst [V.str "self"]) sl = some (.lst [V.str "self"]) := upd_same
      generalize upd H8 sl (.lst [V.str "self"]) = H9 at s9 hs9
      have hf9 := s9 _ _ I.fo
      have e49 := s9 _ _ e4
      refine ⟨_, rfl, Fa, _, _, .ref b4, rfl, rfl, .inl (.inl hf9), atI_nat (j := 4) rfl, b4, rfl, ⟨_, .inl (.inl e49)⟩, fun Dd hD => ?_⟩
      refine lc_map (walk_list (K := K) (a := b4) (xs := p4.map V.str)) hD (fun v => !decide (v = .str "self")) id (fun H' s' => .inl (.inl (s' _ _ e49))) (fun _ => rfl) ?_ ?_ ?_ ?_
      · intro x H' hx _ Q' q'
        obtain ⟨z, hz, rfl⟩ := List.mem_map.mp hx
        exact ⟨_, rfl, rfl, _, rfl, q'⟩
      · intro x H' hx _ _ Q' q'
        exact ⟨_, rfl, q'⟩
      · rw [List.length_map]
        exact small1000 (by omega)
      · intro H10 s10 hD10
        have ef : ((p4.map V.str).filter fun v => !decide (v = .str "self")).map id = (p4.filter fun (z : Str) => !decide (z = "self")).map V.str := by
          rw [List.map_id, List.filter_map]
          congr 1
          refine List.filter_congr fun z _ => ?_
          simp only [Function.comp]
          by_cases c : z = ("self" : Str)
          · rw [c]
            simp
          · rw [decide_eq_false c, decide_eq_false fun e => c (V.str.inj e)]
        rw [ef] at hD10
        have hfl : (p4.filter fun (z : Str) => !decide (z = "self")).length ≤ p4.length := List.length_filter_le _ _
        refine ⟨sl, Dd, _, _, rfl, rfl, s10 _ _ hs9, hD10, ?_, fun nl hnl => ?_⟩
        · rw [List.length_map]
          exact lzl (by simp only [List.length_cons, List.length_nil]; omega)
        have s11 := same_new (o := .lst ([V.str "self"] ++ (p4.filter fun (z : Str) => !decide (z = "self")).map V.str)) hnl
        have s811 := s9.trans (s10.trans s11)
        have hnl11 : upd H10 nl (.lst ([V.str "self"] ++ (p4.filter fun (z : Str) => !decide (z = "self")).map V.str)) nl = some (.lst ((("self" : Str) :: p4.filter fun (z : Str) => !decide (z = "self")).map V.str)) := upd_same
        have nn8 : H8 nl = none := (s9.trans s10).free hnl
        generalize upd H10 nl (.lst ([V.str "self"] ++ (p4.filter fun (z : Str) => !decide (z = "self")).map V.str)) = H11 at s811 hnl11
        have hf11 := s811 _ _ I.fo
        refine ⟨_, rfl, Fa, _, 4, 4, rfl, rfl, hf11, rfl, ?_⟩
        have nnF : nl ≠ Fa := (ne_of_none I.fo nn8).symm
        have nna : nl ≠ a := I.pu.ne nn8
        have hn0 : H nl = none := SameX.free I.sx nna nn8
        have up : ∀ {p : Addr} {o : HO}, p ≠ Fa → H8 p = some o → upd H11 Fa (.lst [V.ref b0, .ref b1, .ref b2, .ref b3, .ref nl]) p = some o := fun {p o} n e => by
          rw [upd_ne n]
          exact s811 _ _ e
        have ne := I.ne
        refine ⟨_, rfl, q Fa [b0, b1, b2, b3, nl] p1 p2 p3 ("self" :: p4.filter fun (z : Str) => !decide (z = "self")) _ hFa0 ?_ ⟨?_, .cons (up (ne b0 (by simp)).1 e0) (.cons (up (ne b1 (by simp)).1 e1) (.cons (up (ne b2 (by simp)).1 e2) (.cons (up (ne b3 (by simp)).1 e3) (.cons ?_ .nil))))⟩ ?_ ?_ ?_ ?_⟩
        · intro p hp
          simp only [List.mem_cons, List.not_mem_nil, or_false] at hp
          rcases hp with rfl | rfl | rfl | rfl | rfl
          · exact (ne _ (by simp)).2
          · exact (ne _ (by simp)).2
          · exact (ne _ (by simp)).2
          · exact (ne _ (by simp)).2
          · exact hn0
        · exact upd_same
        · show upd H11 Fa _ nl = _
          rw [upd_ne nnF]
          exact hnl11
        · have iw := I.wd
          have nen : sortS (names g) ≠ [] := fun e => gd.ne (List.eq_nil_of_length_eq_zero (by rw [← sortS_len, e]; rfl))
          have lng : (sortS (names g)).length ≤ 36 := by
            rw [sortS_len]
            have a1 := len_names (g := g) (wd := wd) gd.rows
            have a3 : g.length * wd ≤ 6 * 6 := Nat.mul_le_mul gd.h6 gd.w6
            omega
          intro us hu
          simp only [List.mem_cons, List.not_mem_nil, or_false] at hu
          rcases hu with rfl | rfl | rfl | rfl | rfl
          · exact ⟨nen, lng, fun z hz => gd.wd z (mem_sortS.mp hz)⟩
          · exact ⟨fun e => by rw [e] at l1; simp at l1; omega, by omega, iw us (by simp)⟩
          · exact ⟨fun e => by rw [e] at l2; simp at l2; omega, by omega, iw us (by simp)⟩
          · exact ⟨fun e => by rw [e] at l3; simp at l3; omega, by omega, iw us (by simp)⟩
          · refine ⟨by simp, by rw [List.length_cons]; omega, fun z hz => ?_⟩
            rcases List.mem_cons.mp hz with rfl | hz
            · decide +kernel
            · exact iw p4 (by simp) z (List.mem_filter.mp hz).1
        · rw [List.length_cons]
          omega
        · obtain ⟨y0, y1, y2, hy, hy1⟩ := I.pu.same s811
          exact ⟨y0, y1, y2, by rw [upd_ne nFa.symm]; exact hy, hy1⟩
        · intro c o n1 e
          rw [upd_ne (ne_of_none e hFa0)]
          exact s811 _ _ (I.sx c o n1 e)
end
end Wl

namespace Wl
open PySem PySem.Spec PyProof.Rows L2
abbrev sBasket : Stmt := topS 54
/-- what the law keeps beside the Gathering -/
structure KeptAt (H : Hp) (kp : Addr) (bs : List Addr) (ts : List Tel) : Prop where
  at_ : H kp = some (.lst (bs.map V.ref))
  tels : TelsAt H bs ts
theorem GatAt.keep {C D : Addr} {H H' : Hp} {p : Addr} {r : GR} (h : GatAt C D H p r) (k : Keep H H') (ht : H' r.td = some (.lst (r.as.map V.ref))) (hd : H' r.dd = some (.lst r.ds)) : GatAt C D H' p r :=
  ⟨let ⟨dx, e⟩ := h.at_; ⟨dx, k _ _ (fun xs e => by cases e) e⟩, h.land.keep k, ht, h.tels.keep k.tk, hd, h.ne⟩
theorem GatAt.x {C D : Addr} {H H' : Hp} {p a : Addr} {r : GR} (h : GatAt C D H p r) (hA : PurseAt H a) (s : SameX a H H') (n1 : r.td ≠ a) (n2 : r.dd ≠ a) : GatAt C D H' p r := by
  obtain ⟨ys, ha⟩ := hA.lst
  exact h.keep (kp_x s ha) (s _ _ n1 h.told) (s _ _ n2 h.deeds)
theorem kp_2 {a b : Addr} {H H' : Hp} {xs ys : List V} (s : Same2 a b H H') (ha : H a = some (.lst xs)) (hb : H b = some (.lst ys)) : Keep H H' := fun p o n h => s p o (fun e => by
  subst e
  rw [ha] at h
  exact n _ (Option.some.inj h).symm) (fun e => by
  subst e
  rw [hb] at h
  exact n _ (Option.some.inj h).symm) h
def kD (t : Tel) : PyData := .tuple ((keyS t).map PyData.str)
theorem lay_keys : ∀ {ts : List Tel}, (∀ t ∈ ts, OkT t) → PyData.canLayAll0 (ts.map kD) = true
  | [], _ => by simp [PyData.canLayAll0]
  | t :: ts, h => by
    have h1 := lay_strs (h t List.mem_cons_self).key
    have h2 := lay_keys (ts := ts) fun u hu => h u (List.mem_cons_of_mem _ hu)
    simp [PyData.canLayAll0, kD, PyData.canLay0, h1, h2]
theorem depth_keys : ∀ ts : List Tel, PyData.depthAll (ts.map kD) ≤ 1
  | [] => by simp [PyData.depthAll]
  | t :: ts => by
    have h1 := depth_keys ts
    have h2 := depth_strs (keyS t)
    simp only [List.map_cons, PyData.depthAll, kD, PyData.depth]
    omega
theorem any_keys (t : Tel) : ∀ ts : List Tel, ((ts.map kD).any fun z => PyData.eqv z (.tuple ((keyS t).map PyData.str))) = decide (keyS t ∈ ts.map keyS)
  | [] => by simp
  | u :: ts => by
    rw [List.map_cons, List.any_cons, any_keys t ts, show PyData.eqv (kD u) (.tuple ((keyS t).map PyData.str)) = decide (keyS u = keyS t) from tup_eqv _ _, List.map_cons]
    by_cases c : keyS u = keyS t
    · rw [decide_eq_true c, decide_eq_true (show keyS t ∈ keyS u :: ts.map keyS by rw [c]; exact List.mem_cons_self), Bool.true_or]
    · rw [decide_eq_false c, Bool.false_or]
      by_cases d : keyS t ∈ ts.map keyS
      · rw [decide_eq_true d, decide_eq_true (List.mem_cons_of_mem _ d)]
      · rw [decide_eq_false d, decide_eq_false fun h => by
          rcases List.mem_cons.mp h with h | h
          · exact c h.symm
          · exact d h]
theorem keys_dp {K : PySem.W.Frag} {H H' : Hp} : ∀ {bs : List Addr} {ts : List Tel} {zs : List V}, TelsAt H bs ts → Each (fun (x z : V) => ∀ (pt : Addr) (t : Tel), x = .ref pt → H pt = some (.tup (telV t)) → ∃ k, z = .ref k ∧ H' k = some (.tup (keyV t))) (bs.map V.ref) zs → DpAll K H' zs (ts.map kD)
  | [], [], [], _, _ => .nil
  | [], [], _ :: _, _, h => nomatch h
  | [], _ :: _, _, h, _ => nomatch h
  | _ :: _, [], _, h, _ => nomatch h
  | _ :: _, _ :: _, [], _, h => nomatch h
  | b :: bs, t :: ts, z :: zs, .cons e r, .cons e' r' => by
    obtain ⟨k, rfl, hk⟩ := e' b t rfl e
    exact .cons (.tup (.inl (.inl hk)) (dp_strs (keyS t))) (keys_dp r r')
section
variable {P : Program} {w : World} {K : PySem.W.Frag} {mg : Str → Option Value} {base : Heap} {f C D : Addr} {fd : FuncData}
def HasI (P : Program) (w : World) (K : PySem.W.Frag) (mg : Str → Option Value) (base : Heap) (C : Addr) : Prop :=
  ∃ f fd, Mk K C f ∧ FnOk P w K mg base CX0 4 f fd ["self", "rows"] (spInit C) ∧ Binds K fd ["self", "rows"] []
def HasG (P : Program) (w : World) (K : PySem.W.Frag) (mg : Str → Option Value) (base : Heap) (C D : Addr) : Prop :=
  ∃ f fd, Mk K D f ∧ FnOk P w K mg base CX0 1 f fd ["self", "land"] (spGInit C D) ∧ Binds K fd ["self", "land"] []
/-- a basket and what was kept: tellings of the pools, no key twice -/
structure BasI (g : Grid) (p4 : List Str) (C D : Addr) (H0 H : Hp) (a p kp : Addr) (r : GR) (bs : List Addr) : Prop where
  pu : PurseAt H a
  sx : SameX a H0 H
  gat : GatAt C D H p r
  rg : r.g = g
  kept : KeptAt H kp bs r.ts
  ok : ∀ t ∈ r.ts, OkT t
  vs : ∀ t ∈ r.ts, t.v ∈ names g
  gs : ∀ t ∈ r.ts, t.g ∈ p4
  nd : (r.ts.map keyS).Nodup
  f1 : H0 r.td = none
  f2 : H0 r.dd = none
  f3 : H0 kp = none
  n1 : kp ≠ r.td
  n2 : kp ≠ r.dd
  dl : r.ds.length = r.ts.length
def spBasket (C D : Addr) : Sp := fun vs H Q _ => ∃ (a L F : Addr) (g : Grid) (wd n : Nat) (as : List Addr) (p1 p2 p3 p4 : List Str), vs = [.ref a, .ref L, .ref F, .int (n : Int)] ∧ n ≤ 20 ∧ PurseAt H a ∧ GridAt H L g ∧ Good g wd ∧ PoolsAt H F as [sortS (names g), p1, p2, p3, p4] ∧ F ≠ a ∧ (∀ p ∈ as, p ≠ a) ∧ (∀ ws ∈ [sortS (names g), p1, p2, p3, p4], OkW ws) ∧
  ∀ (R p kp : Addr) (r : GR) (bs : List Addr) (H' : Hp), BasI g p4 C D H H' a p kp r bs → r.ts.length ≤ n → H R = none → H' R = some (.lst [.ref p, .ref kp]) → Q (.ref R) H'
abbrev nBasket : List Str := ["_law_purse_here", "_law_lots", "_law_pools_here", "_law_count", "_law_basket_here", "_law_kept", "_law_k", "_law_row_here", "_law_old"]
theorem scBasket : FnScope nBasket ["_law_purse_here", "_law_lots", "_law_pools_here", "_law_count"] (defScope sBasket) := ⟨rfl, rfl, rfl, by decide +kernel, rfl, by decide +kernel, by decide +kernel⟩
theorem ok_basket (F : Fun K "_law_basket" "_law_basket" sBasket f fd) (B : Bi mg) (T : Txt K mg C) (TG : TxtG K mg D) (hI : HasI P w K mg base C) (hGi : HasG P w K mg base C D) (hRow : Has P w K mg base "_law_row" 2 ["_law_purse_here", "_law_pools_here"] spRow)
    (hKey : Has P w K mg base "_law_key" 1 ["_law_row_here"] spKeyOf) (hPut : Has P w K mg base "_law_put" 5 ["_law_basket_here", "_law_row_here", "_law_way"] (spLPut C D)) : FnOk P w K mg base CX0 6 f fd ["_law_purse_here", "_law_lots", "_law_pools_here", "_law_count"] (spBasket C D) := by
  obtain ⟨fI, fdI, MI, GI, bI⟩ := hI
  obtain ⟨fG, fdG, MG, GG, bG⟩ := hGi
  refine F.ok scBasket (fun vs H Q E h => ?_) (fun cdv A outer s H vs Q E hr h => ?_)
  · obtain ⟨a, L, F, g, wd, n, as, p1, p2, p3, p4, rfl, _⟩ := h
    rfl
  · obtain ⟨a, L, Fp, g, wd, n, as, p1, p2, p3, p4, rfl, hn, hA, hGr, gd, hPo, nF, na, hok, q⟩ := h
    have hu65 : (A.deeper (envOfC "_law_basket" (defScope sBasket) s.heap.objs.size f cdv)).units + 65 < cLine := by have := hr.un; omega
    refine ⟨_, pss_cons (ps_par (i := 4) (j := 5) (by rfl) scBasket.nd rfl rfl (by decide) rfl rfl (pa_cons (pe_make MG GG (hr.mono (by decide)) rfl TG.mgD bG .nil pass0 (pa_cons (pe_make MI GI (hr.mono (by decide)) rfl T.mgC bI .nil pass0 (pa_cons (pv 1) pa_nil)) pa_nil)) (pa_cons (pe_lst pa_nil) pa_nil)) (by rfl))
      (pss_cons (ps_for PassesOwn.never rfl (pi_range1 rfl B.range (pa_cons (pv 3) pa_nil)) (pg_name (i := 6) scBasket.nd rfl (.inl rfl))
        (pss_cons (ps_set (i := 7) scBasket.nd rfl (.inl rfl) (pe_h hRow hr (pa_cons (pv 0) (pa_cons (pv 2) pa_nil))))
        (pss_one (ps_if (pt_cmpR (op_notInD hu65) (pe_h hKey hr (pa_cons (pv 7) pa_nil)) (pe_lc (own := [("_law_old", 8)]) (g := gName 8) (tt := tYes) (te := tCall spKeyOf [] E0 (tCons (tVar 8) tNil)) rfl scBasket.nd (pi_list (pv 5)) (blkOk_by (N := nBasket) (sc := defScope sBasket) (by decide +kernel)) (fun _ _ _ _ _ => pg_name (i := 8) scBasket.nd rfl (.inl rfl)) (fun _ _ _ _ _ => pts_nil) (fun _ _ _ _ _ => pe_h hKey hr (pa_cons (pv 8) pa_nil))) (by rfl))
          (pss_cons (ps_expr (pe_h hPut hr (pa_cons (pv 4) (pa_cons (pv 7) (pa_cons (pe_op op_mod (pv 6) pe_int) pa_nil)))))
          (pss_one (ps_expr (pe_bm PySem.F.plainAttrs_list PySem.F.slot_list_append PySem.F.type_list_append mt_append (pv 5) (pa_cons (pv 7) pa_nil))))) pss_nil))))
      (pss_one (ps_ret (pe_lst (pa_cons (pv 4) (pa_cons (pv 5) pa_nil)))))), ?_⟩
    -- Gathering(Land(lots)), []
    refine ⟨_, rfl, fun pl dl npl ndl nel => ?_⟩
    have kp1 : TupKeep H (upd (upd H dl (.own pl)) pl (.ins C dl [])) := fun b xs h => by
      rw [upd_ne (ne_of_none h npl), upd_ne (ne_of_none h ndl)]
      exact h
    refine ⟨pl, dl, L, g, wd, rfl, upd_same, hGr.keep kp1, gd, fun H1 k1 hLa1 => ⟨rfl, ?_⟩⟩
    have s1 := made_same npl ndl k1
    intro p dp np ndp nep
    have s2 : Same H1 (upd (upd H1 dp (.own p)) p (.ins D dp [])) := fun b o e => by
      rw [upd_ne (ne_of_none e np), upd_ne (ne_of_none e ndp)]
      exact e
    have npp : p ≠ pl := fun e => by
      obtain ⟨_, _, h1⟩ := hLa1.ins
      rw [← e, np] at h1
      cases h1
    refine ⟨p, dp, pl, L, g, rfl, upd_same, hLa1.same s2, npp, fun td dd H2 htd hdd k2 hG2 => ⟨rfl, ?_⟩⟩
    have s12 : Same H1 H2 := fun b o e => k2 b o (ne_of_none e np) (s2 b o e)
    have s02 := s1.trans s12
    have htd0 : H td = none := s1.free (s2.free htd)
    have hdd0 : H dd = none := s1.free (s2.free hdd)
    refine ⟨lz, fun kp hkp => ⟨_, _, rfl, ?_⟩⟩
    have s3 := same_new (o := .lst []) hkp
    have hk3 : upd H2 kp (.lst []) kp = some (.lst []) := upd_same
    have hG3 := hG2.same s3
    have s03 := s02.trans s3
    have hkp0 : H kp = none := s02.free hkp
    have nk1 : kp ≠ td := fun e => by
      have := hG2.told
      rw [← e] at this
      rw [hkp] at this
      cases this
    have nk2 : kp ≠ dd := fun e => by
      have := hG2.deeds
      rw [← e] at this
      rw [hkp] at this
      cases this
    generalize upd H2 kp (.lst []) = H3 at hk3 hG3 s03
    have I0 : BasI g p4 C D H H3 a p kp ⟨pl, L, td, dd, g, [], [], []⟩ [] := ⟨hA.same s03, sx s03, hG3, rfl, ⟨hk3, .nil⟩, fun t ht => by simp at ht, fun t ht => by simp at ht, fun t ht => by simp at ht, List.nodup_nil, htd0, hdd0, hkp0, nk1, nk2, rfl⟩
    refine ⟨_, rfl, (n : Int), rfl, by omega, by omega, for_range (lo := 0) (n := n) (fun i σ H' => (∃ y6 y7 y8, σ = [some (.ref a), some (.ref L), some (.ref Fp), some (.int (n : Int)), some (.ref p), some (.ref kp), y6, y7, y8]) ∧ ∃ r bs, BasI g p4 C D H H' a p kp r bs ∧ r.ts.length ≤ i)
      ⟨⟨_, _, _, rfl⟩, _, _, I0, Nat.le_refl 0⟩ ?_ ?_⟩
    · rintro i σ H4 hi ⟨⟨y6, y7, y8, rfl⟩, r, bs, I, hl⟩
      have ntd : r.td ≠ a := hA.ne I.f1
      have ndd : r.dd ≠ a := hA.ne I.f2
      have nkp : kp ≠ a := hA.ne I.f3
      refine ⟨_, rfl, _, rfl, a, Fp, as, _, p1, p2, p3, p4, rfl, I.pu, hPo.x I.sx nF na, nF, na, hok, fun rp t H5 nrp okt v0 m1 m2 m3 m4 hrp hA5 x5 => ?_⟩
      have hG5 := I.gat.x I.pu x5 ntd ndd
      obtain ⟨pys, hpu⟩ := I.pu.lst
      have hk5 : KeptAt H5 kp bs r.ts := ⟨x5 _ _ nkp I.kept.at_, I.kept.tels.keep (tk_x x5 hpu)⟩
      have x05 := I.sx.trans x5
      refine ⟨_, rfl, rp, t, rfl, hrp, fun u hu => ?_⟩
      have s6 := same_new (o := .tup (keyV t)) hu
      have hu6 : upd H5 u (.tup (keyV t)) u = some (.tup (keyV t)) := upd_same
      generalize upd H5 u (.tup (keyV t)) = H6 at s6 hu6
      have hk6 : H6 kp = some (.lst (bs.map V.ref)) := s6 _ _ hk5.at_
      have ht6 := hk5.tels.keep (tk_same s6)
      have lb : bs.length = r.ts.length := hk5.tels.length
      refine ⟨_, rfl, kp, rfl, ⟨_, .inl (.inl hk6)⟩, fun Dd hD => ?_⟩
      refine lc_rel (walk_list (K := K) (a := kp) (xs := bs.map V.ref)) hD (fun _ => true) (fun x z H' => ∀ (pt : Addr) (t' : Tel), x = .ref pt → H6 pt = some (.tup (telV t')) → ∃ k, z = .ref k ∧ H' k = some (.tup (keyV t'))) (fun H' s' => .inl (.inl (s' _ _ hk6))) (fun _ => rfl) (fun x H' _ _ Q' q' => q') ?_ ?_ ?_ ?_
      · intro x H' hx _ s' Q' q'
        obtain ⟨pt, hpt, rfl⟩ := List.mem_map.mp hx
        obtain ⟨j, hj, ej⟩ := List.mem_iff_getElem.mp hpt
        obtain ⟨t', ht', hH⟩ := Each.get ht6 (i := j) (a := pt) (by rw [List.getElem?_eq_getElem hj, ej])
        refine ⟨_, rfl, pt, t', rfl, s' _ _ hH, fun k hk => q' _ _ (same_new hk) fun pt2 t2 e2 h2 => ⟨k, rfl, ?_⟩⟩
        obtain rfl : pt = pt2 := V.ref.inj e2
        rw [hH] at h2
        rw [upd_same, telV_inj (HO.tup.inj (Option.some.inj h2))]
      · intro x y H' H'' acc hacc xs' rr pt t' e h
        obtain ⟨k, rfl, hk⟩ := rr pt t' e h
        exact ⟨k, rfl, xs' _ _ (ne_of hk hacc (by intro z; cases z)) hk⟩
      · rw [List.length_map]
        exact small1000 (by omega)
      · intro zs H7 s7 hD7 he
        rw [List.filter_eq_self.mpr fun _ _ => rfl] at he
        have dpk := keys_dp (K := K) ht6 he
        refine ⟨.tuple ((keyS t).map .str), r.ts.map kD, .tup (.inl (.inl (s7 _ _ hu6))) (dp_strs (keyS t)), .lst (.inl (.inl hD7)) dpk, shaped_strs okt.key, shaped_list (lay_keys I.ok) (by have := depth_keys r.ts; omega), _, rfl, ?_⟩
        rw [any_keys]
        have s57 := s6.trans s7
        have hG7 := hG5.same s57
        have hA7 := hA5.same s57
        have hk7 : KeptAt H7 kp bs r.ts := ⟨s57 _ _ hk5.at_, hk5.tels.keep (tk_same s57)⟩
        have x07 := x05.trans (sx s57)
        refine not_b (fun e => ?_) (fun e => ?_)
        · have hnew := of_decide_eq_false e
          refine ⟨_, rfl, _, rfl, _, rfl, _, _, rfl, rfl, (show (0 : Int) < 5 by decide), p, rp, _, r, wd, t, rfl, s57 _ _ hrp, hG7, by rw [I.rg]; exact gd, I.ok, okt, by rw [I.rg]; exact mem_sortS.mp v0, hnew, by omega, by rw [I.dl]; omega, fun q1 H8 nq m8 hG8 => ?_⟩
          have hk8 := m8 _ _ I.n1 I.n2 hk7.at_
          have k8 : Keep H7 H8 := kp_2 m8 hG7.told hG7.deeds
          have hrp8 := k8.tk _ _ (s57 _ _ hrp)
          refine ⟨_, rfl, .inl ⟨rfl, _, .inl (.inl hk8)⟩, _, rfl, kp, _, _, rfl, rfl, hk8, ?_, ⟨_, _, _, rfl⟩, r.add q1 t, bs ++ [rp], ?_, ?_⟩
          · rw [List.length_map]
            exact small1000 (by omega)
          · have k9 := kp_upd (o := .lst (bs.map V.ref ++ [V.ref rp])) hk8
            refine ⟨?_, ?_, hG8.keep k9 ((upd_ne (H := H8) (o := .lst (bs.map V.ref ++ [V.ref rp])) I.n1.symm).trans hG8.told) ((upd_ne (H := H8) (o := .lst (bs.map V.ref ++ [V.ref rp])) I.n2.symm).trans hG8.deeds), I.rg, ⟨?_, ?_⟩, ?_, ?_, ?_, ?_, I.f1, I.f2, I.f3, I.n1, I.n2, ?_⟩
            · obtain ⟨y0, y1, y2, hy, hy1⟩ := hA7
              exact ⟨y0, y1, y2, by rw [upd_ne nkp.symm]; exact m8 _ _ ntd.symm ndd.symm hy, hy1⟩
            · intro c o n1 e
              rw [upd_ne (ne_of_none e I.f3)]
              exact m8 _ _ (ne_of_none e I.f1) (ne_of_none e I.f2) (x07 c o n1 e)
            · rw [upd_same, List.map_append]
              rfl
            · exact Each.append (hk7.tels.keep (k8.trans k9).tk) (.cons (k9.tk _ _ hrp8) .nil)
            · intro z hz
              rcases List.mem_append.mp hz with hz | hz
              · exact I.ok z hz
              · rw [List.mem_singleton.mp hz]
                exact okt
            · intro z hz
              rcases List.mem_append.mp hz with hz | hz
              · exact I.vs z hz
              · rw [List.mem_singleton.mp hz]
                exact mem_sortS.mp v0
            · intro z hz
              rcases List.mem_append.mp hz with hz | hz
              · exact I.gs z hz
              · rw [List.mem_singleton.mp hz]
                exact m4
            · show ((r.ts ++ [t]).map keyS).Nodup
              rw [List.map_append, List.nodup_append]
              refine ⟨I.nd, by simp, fun x hx y hy e => ?_⟩
              rw [List.map_singleton, List.mem_singleton] at hy
              rw [e, hy] at hx
              exact hnew hx
            · show (r.ds ++ [V.non]).length = (r.ts ++ [t]).length
              rw [List.length_append, List.length_append, I.dl]
              rfl
          · show (r.ts ++ [t]).length ≤ i + 1
            rw [List.length_append]
            simp only [List.length_cons, List.length_nil]
            omega
        · exact ⟨⟨_, _, _, rfl⟩, r, bs, ⟨hA7, x07, hG7, I.rg, hk7, I.ok, I.vs, I.gs, I.nd, I.f1, I.f2, I.f3, I.n1, I.n2, I.dl⟩, by omega⟩
    · rintro σ H4 ⟨⟨y6, y7, y8, rfl⟩, r, bs, I, hl⟩
      refine ⟨_, rfl, _, rfl, lz, fun R hR => ?_⟩
      have s5 := same_new (o := .lst [V.ref p, V.ref kp]) hR
      have nRa : R ≠ a := I.pu.ne hR
      refine q R p kp r bs _ ⟨I.pu.same s5, I.sx.trans (sx s5), I.gat.same s5, I.rg, ⟨s5 _ _ I.kept.at_, I.kept.tels.keep (tk_same s5)⟩, I.ok, I.vs, I.gs, I.nd, I.f1, I.f2, I.f3, I.n1, I.n2, I.dl⟩ hl (SameX.free I.sx nRa hR) upd_same
end
end Wl

/-! Rules of ours: an object of an own class beside things of other kinds, by == and != -/
namespace Wl
open PySem PySem.Spec PyProof.Rows L2
section
variable {M : Model} {prog : Program} {w : World} {A : Around} {E : Value → Shared → Prop} {s : Shared} {K : PySem.W.Frag} {x C dx : Addr} {od : Option Obj}
theorem dec_none {Q : Fin → Shared → Prop} (hq : Q (.done (.ret .notImplemented)) s) : wpAny M A (Builtin.«NoneType.__eq__» ⟨[.none, .ref x], []⟩) Q E s := by
  unfold Builtin.«NoneType.__eq__»
  refine wpAny_bind (m := slotArgs "__eq__" 1 _) (wpAny_pure ?_)
  exact wpAny_pure hq
theorem dec_int {v : Value} {Q : Fin → Shared → Prop} (hv : (∃ n t, v = .int n t) ∨ ∃ b, v = .bool b) (ho : s.heap.get? x = some (PySem.W.instObj C dx)) (hq : Q (.done (.ret .notImplemented)) s) : wpAny M A (Builtin.«int.__eq__» ⟨[v, .ref x], []⟩) Q E s := by
  show wpAny M A (slotArgs "__eq__" 1 _ >>= _) Q E s
  refine wpAny_bind (wpAny_pure ?_)
  rcases hv with ⟨n, t, rfl⟩ | ⟨b, rfl⟩
  all_goals
    refine wpAny_bind (wpAny_pure ?_)
    refine wpAny_bind (m := asInt? (.ref x)) ?_
    unfold asInt?
    refine wpAny_bind (wpAny_load ho ?_)
    exact wpAny_pure (wpAny_bind (wpAny_rule (wpAny_pure hq)))
theorem dec_str {z : Str} {t : Tok} {Q : Fin → Shared → Prop} (ho : s.heap.get? x = some (PySem.W.instObj C dx)) (hq : Q (.done (.ret .notImplemented)) s) : wpAny M A (Builtin.«str.__eq__» ⟨[.str z t, .ref x], []⟩) Q E s := by
  unfold Builtin.«str.__eq__» Builtin.Str.strCompare
  refine wpAny_bind (wpAny_pure ?_)
  refine wpAny_bind (m := asStr? (.ref x)) ?_
  unfold asStr?
  refine wpAny_bind (wpAny_load ho ?_)
  exact wpAny_pure (wpAny_bind (wpAny_rule (wpAny_pure hq)))
theorem isin_own {T : String} (X : K.In s.heap) (I : PySem.W.InstAt s.heap x (PySem.W.instObj C dx) C od) (hm : PySem.W.mroIn K C (.type T) = some false) : PySem.W.Looks M s.heap (isInstance (.ref x) (.type T)) false := by
  unfold isInstance
  exact I.type.andThen (PySem.W.looks_mroIn X hm)
theorem dec_list {v : Value} {Q : Fin → Shared → Prop} (X : K.In s.heap) (I : PySem.W.InstAt s.heap x (PySem.W.instObj C dx) C od) (hm : PySem.W.mroIn K C (.type "list") = some false) (hq : Q (.done (.ret .notImplemented)) s) : wpAny M A (Builtin.«list.__eq__» ⟨[v, .ref x], []⟩) Q E s := by
  show wpAny M A (slotArgs "__eq__" 1 _ >>= _) Q E s
  refine wpAny_bind (wpAny_pure ?_)
  refine wpAny_bind (m := isInstance (.ref x) (.type "list")) ((isin_own X I hm).here ?_)
  exact wpAny_pure hq
theorem dec_tup {v : Value} {Q : Fin → Shared → Prop} (X : K.In s.heap) (I : PySem.W.InstAt s.heap x (PySem.W.instObj C dx) C od) (hm : PySem.W.mroIn K C (.type "tuple") = some false) (hq : Q (.done (.ret .notImplemented)) s) : wpAny M A (Builtin.«tuple.__eq__» ⟨[v, .ref x], []⟩) Q E s := by
  show wpAny M A (slotArgs "__eq__" 1 _ >>= _) Q E s
  refine wpAny_bind (wpAny_pure ?_)
  refine wpAny_bind (m := isInstance (.ref x) (.type "tuple")) ((isin_own X I hm).here ?_)
  exact wpAny_pure hq
theorem dec_dict {a : Addr} {Q : Fin → Shared → Prop} (hT : s.TypeIs (.ref a) "dict") (X : K.In s.heap) (I : PySem.W.InstAt s.heap x (PySem.W.instObj C dx) C od) (hm : PySem.W.mroIn K C (.type "dict") = some false) (hq : Q (.done (.ret .notImplemented)) s) : wpAny (model prog w) A (Builtin.«dict.__eq__» ⟨[.ref a, .ref x], []⟩) Q E s := by
  show wpAny (model prog w) A (Builtin.Dict.dictSlotArgs "__eq__" ⟨[.ref a, .ref x], []⟩ >>= _) Q E s
  refine wpAny_bind ?_
  unfold Builtin.Dict.dictSlotArgs
  refine wpAny_bind (wpAny_notOrdered_dict hT ?_)
  refine wpAny_pure ?_
  refine wpAny_bind (m := isInstance (.ref x) (.type "dict")) ((isin_own X I hm).here ?_)
  exact wpAny_bind (wpAny_rule (wpAny_pure hq))
theorem rc_back {v : Value} {T id : String} {f : Addr} {Q : Value → Shared → Prop} (hu : A.units < cLine) (X : K.In s.heap) (I : PySem.W.InstAt s.heap x (PySem.W.instObj C dx) C od) (hT : s.TypeIs v T) (hm : PySem.W.mroIn K C (.type T) = some false) (hs : Slot T (cmpInfo .Eq).2.1 id)
    (hd : ∀ Q' : Value → Shared → Prop, Q' .notImplemented s → wpAny (model prog w) A (call (.builtin id) [v, .ref x]) Q' E s)
    (he : PySem.W.findIn K (.ref C) "__eq__" = some (some (.ref f))) (hf : PySem.W.isFn K (.ref f) = true)
    (h : wpAny (model prog w) A (call (.ref f) [.ref x, v]) (fun r s' => ∃ c, r = .bool c ∧ Q r s') E s) : wpAny (model prog w) A (richCompare .Eq v (.ref x)) Q E s := by
  have one : wpAny (model prog w) A (tryCompare v "__eq__" (.ref x)) (fun r s' => r = none ∧ s' = s) E s := wpAny_tryCompare_declines hT hs (hd _ ⟨rfl, rfl, rfl⟩)
  have two : wpAny (model prog w) A (tryCompare (.ref x) "__eq__" v) (fun r s' => ∃ v, r = some v ∧ Q v s') E s := by
    unfold tryCompare
    refine wpAny_bind (PySem.W.ifBound_K X I he hf (wpAny_mono h (fun r s' hv => ?_) fun _ _ e => e))
    obtain ⟨c, rfl, q⟩ := hv
    exact wpAny_pure ⟨_, rfl, q⟩
  simp only [richCompare, cmpInfo_Eq, hT.oneThing_none]
  refine wpAny_holding (wpAny_bind (wpAny_cRoomFor hu ?_))
  refine wpAny_bind (wpAny_typeOf hT (wpAny_bind (I.type.here ?_)))
  split
  · refine wpAny_bind ((PySem.W.looks_mroIn X hm).here ?_)
    simp only [Bool.false_eq_true, if_false, Bool.not_false, if_true]
    refine wpAny_bind (m := tryCompare v _ (.ref x)) (wpAny_mono one (fun r s1 z => ?_) fun _ _ e => e)
    obtain ⟨z1, z2⟩ := z
    subst z1
    subst z2
    refine wpAny_bind (m := tryCompare (.ref x) _ v) (wpAny_mono two (fun r s2 z => ?_) fun _ _ e => e)
    obtain ⟨r2, rfl, q⟩ := z
    exact wpAny_pure q
  · rename_i q
    exact absurd (by simp) q
end
/-- x != y, x of an own class whose == is a def of its own -/
theorem ne_T {A : Around} {E : Value → Shared → Prop} {s : Shared} {prog : Program} {w : World} {K : PySem.W.Frag} {x C f : Addr} {y tb : Value} {ox : Obj} {od : Option Obj} {Q : Value → Shared → Prop} (hu : A.units + 2 < cLine) (X : K.In s.heap) (I : PySem.W.InstAt s.heap x ox C od) (hb : PySem.W.Looks (model prog w) s.heap (typeOf y) tb) (hn : PySem.W.notFirst K C tb = true) (N : NeC K C) (he : PySem.W.findIn K (.ref C) "__eq__" = some (some (.ref f))) (hf : PySem.W.isFn K (.ref f) = true)
    (h : wpAny (model prog w) A.in1 (call (.ref f) [.ref x, y]) (fun v s' => ∃ c, v = .bool c ∧ Q (.bool (!c)) s') E s) : wpAny (model prog w) A (richCompare .NotEq (.ref x) y) Q E s := by
  have one : wpAny (model prog w) A (tryCompare (.ref x) "__ne__" y) (fun r s' => ∃ v, r = some v ∧ Q v s') E s := by
    unfold tryCompare
    refine wpAny_bind (ifBound_B X I N.ne PySem.F.slot_object_ne.bind (wpAny_mono (obj_neK (Q := fun v s' => ∃ c, v = .bool c ∧ Q v s') (by omega) X I N he hf (wpAny_mono h (fun v s' hv => ?_) fun _ _ z => z)) (fun v s' hv => ?_) fun _ _ z => z))
    · obtain ⟨c, rfl, q⟩ := hv
      exact ⟨c, rfl, _, rfl, q⟩
    · obtain ⟨c, rfl, q⟩ := hv
      exact wpAny_pure ⟨_, rfl, q⟩
  unfold richCompare
  simp only [oneThing_ref]
  refine wpAny_holding (wpAny_bind (wpAny_cRoomFor (by omega) ?_))
  refine wpAny_bind (I.type.here (wpAny_bind (hb.here ?_)))
  split
  · rename_i q
    have e : PySem.W.subIn K tb (.ref C) = some false := by
      rcases Bool.or_eq_true_iff.mp hn with e | e
      · rw [beq_iff_eq.mp e] at q; simp at q
      · exact beq_iff_eq.mp e
    refine wpAny_bind ((PySem.W.looks_subIn X e).here ?_)
    simp only [Bool.false_eq_true, if_false]
    refine wpAny_bind (wpAny_mono one (fun r s' z => ?_) fun _ _ e => e)
    obtain ⟨v, rfl, hq⟩ := z
    exact wpAny_pure hq
  · refine wpAny_bind (wpAny_pure ?_)
    simp only [Bool.false_eq_true, if_false]
    refine wpAny_bind (wpAny_mono one (fun r s' z => ?_) fun _ _ e => e)
    obtain ⟨v, rfl, hq⟩ := z
    exact wpAny_pure hq
section
variable {X : Cx} {n : Nat} {f : Addr} {fd : FuncData} {ps : List Str} {sp : Sp} {C : Addr}
theorem look_ty {pins : List (Addr × Obj)} {s : Shared} {σ : L2.St} {H : Hp} {y : V} {u t : Value} (I : L2.Inv X pins σ H s) (ry : RelV y u) (ty : TyX X.K H y t) : PySem.W.Looks (model X.prog X.w) s.heap (typeOf u) t := by
  obtain ⟨Pr, k, hP, _⟩ := kit_of I ry ty
  exact k.ty _ _ I.kIn hP
/-- x == y, x of an own class -/
def rEqT (K : PySem.W.Frag) (C : Addr) (sp : Sp) (g : Bool → Bool) : R2 := fun x y H Q => ∃ a dx fs t, x = V.ref a ∧ H a = some (.ins C dx fs) ∧ TyX K H y t ∧ PySem.W.notFirst K C t = true ∧ sp [.ref a, y] H (fun v H' => ∃ c, v = .bl c ∧ Q (.bl (g c)) H') E0
theorem rc_eqT {A : Around} {pins : List (Addr × Obj)} {s : Shared} {σ : L2.St} {H : Hp} {a dx : Addr} {fs : List (Str × V)} {y : V} {u t : Value} {Q : Bool → Hp → Prop} (F : FnOk X.prog X.w X.K X.mg X.base CX0 n f fd ps sp) (hb : Binds X.K fd ps []) (m : Meth X.K C "__eq__" f) (sb : Sub X n A) (I : L2.Inv X pins σ H s)
    (ha : H a = some (.ins C dx fs)) (ry : RelV y u) (ty : TyX X.K H y t) (hn : PySem.W.notFirst X.K C t = true) (hsp : sp [.ref a, y] H (fun v H' => ∃ c, v = .bl c ∧ Q c H') E0) :
    wpAny (model X.prog X.w) A (richCompare .Eq (.ref a) u) (fun v s' => ∃ c, v = .bool c ∧ ∃ H', L2.Inv X pins σ H' s' ∧ Q c H') X.xe s := by
  obtain ⟨mA, J, _⟩ := ins_get I.hok ha
  obtain ⟨od, J, _⟩ := J.look
  obtain ⟨m', hF⟩ := I.fr
  have r2 : Vals [V.ref a, y] [Value.ref a, u] := .cons rfl (.cons ry .nil)
  refine PySem.W.cmp_K (op := .Eq) (tb := t) sb.room.units0 hF I.ok.mod.kin J (look_ty I ry ty) hn m.at_ m.fn (wpAny_mono (run_own F hb sb I r2 hsp) (fun v s' hq => ?_) fun _ _ z => z)
  obtain ⟨z, H', I', rz, c, rfl, q⟩ := hq
  cases rz
  exact ⟨c, rfl, H', I', q⟩
theorem op_eqT (F : FnOk X.prog X.w X.K X.mg X.base CX0 n f fd ps sp) (hb : Binds X.K fd ps []) (m : Meth X.K C "__eq__" f) (hr : Room n X.A) : OpR X (compareOp .Eq) (rEqT X.K C sp id) := by
  intro pins s σ H x y v u Q I rx ry h
  obtain ⟨a, dx, fs, t, rfl, ha, ty, hn, hsp⟩ := h
  cases rx
  show wpAny (model X.prog X.w) X.A (richCompare .Eq (.ref a) u) (EP X pins σ Q) X.xe s
  refine wpAny_mono (rc_eqT F hb m ⟨hr, rfl⟩ I ha ry ty hn hsp) (fun v s' hq => ?_) fun _ _ z => z
  obtain ⟨c, rfl, H', I', q⟩ := hq
  exact ⟨.bl c, H', I', rfl, q⟩
theorem op_neT (F : FnOk X.prog X.w X.K X.mg X.base CX0 n f fd ps sp) (hb : Binds X.K fd ps []) (m : Meth X.K C "__eq__" f) (N : NeC X.K C) (hr : Room (n + 1) X.A) : OpR X (compareOp .NotEq) (rEqT X.K C sp not) := by
  intro pins s σ H x y v u Q I rx ry h
  obtain ⟨a, dx, fs, t, rfl, ha, ty, hn, hsp⟩ := h
  cases rx
  obtain ⟨mA, J, _⟩ := ins_get I.hok ha
  obtain ⟨od, J, _⟩ := J.look
  have r2 : Vals [V.ref a, y] [Value.ref a, u] := .cons rfl (.cons ry .nil)
  show wpAny (model X.prog X.w) X.A (richCompare .NotEq (.ref a) u) (EP X pins σ Q) X.xe s
  refine ne_T (room_u2 hr) I.kIn J (look_ty I ry ty) hn N m.at_ m.fn (wpAny_mono (run_own F hb (Sub.in1 ⟨hr, rfl⟩) I r2 hsp) (fun v s' hq => ?_) fun _ _ z => z)
  obtain ⟨z, H', I', rz, c, rfl, q⟩ := hq
  cases rz
  exact ⟨c, rfl, .bl (!c), H', I', rfl, q⟩
/-- things that are of no own class -/
inductive OthV (H : Hp) : V → String → Prop where
  | non : OthV H .non "NoneType"
  | bl (b : Bool) : OthV H (.bl b) "bool"
  | int (i : Int) : OthV H (.int i) "int"
  | str (z : Str) : OthV H (.str z) "str"
  | lst {a : Addr} {xs : List V} (e : H a = some (.lst xs)) : OthV H (.ref a) "list"
  | tup {a : Addr} {xs : List V} (e : H a = some (.tup xs)) : OthV H (.ref a) "tuple"
  | dK {a : Addr} {kvs : List (Key × V)} (e : H a = some (.dK kvs)) : OthV H (.ref a) "dict"
theorem OthV.ty {K : PySem.W.Frag} {H : Hp} {y : V} {T : String} (h : OthV H y T) : TyX K H y (.type T) := by
  cases h with
  | non => exact .base .non
  | bl b => exact .base (.bl b)
  | int i => exact .base (.int i)
  | str z => exact .base (.str z)
  | lst e => exact .base (.lst e)
  | tup e => exact .base (.tup e)
  | dK e => exact .base (.dK e)
theorem mro7 : fastBuiltinMro "NoneType" = some [.type "NoneType", .type "object"] ∧ fastBuiltinMro "bool" = some [.type "bool", .type "int", .type "object"] ∧ fastBuiltinMro "int" = some [.type "int", .type "object"] ∧ fastBuiltinMro "str" = some [.type "str", .type "object"] ∧ fastBuiltinMro "list" = some [.type "list", .type "object"] ∧ fastBuiltinMro "tuple" = some [.type "tuple", .type "object"] ∧ fastBuiltinMro "dict" = some [.type "dict", .type "object"] := by
  refine ⟨?_, ?_, ?_, ?_, ?_, ?_, ?_⟩ <;> decide +kernel
theorem OthV.notFirst {K : PySem.W.Frag} {C : Addr} {H : Hp} {y : V} {T : String} (h : OthV H y T) : PySem.W.notFirst K C (.type T) = true := by
  have m := mro7
  have go : ∀ (T : String) (l : List Value), fastBuiltinMro T = some l → (l.contains (.ref C)) = false → PySem.W.notFirst K C (.type T) = true := fun T l e1 e2 => by
    show (Value.type T == .ref C || ((fastBuiltinMro T).map (·.contains (.ref C))) == some false) = true
    rw [e1]
    show (Value.type T == .ref C || some (l.contains (.ref C)) == some false) = true
    rw [e2]
    simp
  cases h with
  | non => exact go _ _ m.1 (by simp)
  | bl b => exact go _ _ m.2.1 (by simp)
  | int i => exact go _ _ m.2.2.1 (by simp)
  | str z => exact go _ _ m.2.2.2.1 (by simp)
  | lst e => exact go _ _ m.2.2.2.2.1 (by simp)
  | tup e => exact go _ _ m.2.2.2.2.2.1 (by simp)
  | dK e => exact go _ _ m.2.2.2.2.2.2 (by simp)
end
end Wl

/-! y == x, x of an own class, y of no own class; x in ys -/
namespace Wl
open PySem PySem.Spec PyProof.Rows L2
/-- the built-in kinds a class is no kind of -/
structure NoKind (K : PySem.W.Frag) (C : Addr) : Prop where
  non : PySem.W.mroIn K C (.type "NoneType") = some false
  bl : PySem.W.mroIn K C (.type "bool") = some false
  int : PySem.W.mroIn K C (.type "int") = some false
  str : PySem.W.mroIn K C (.type "str") = some false
  lst : PySem.W.mroIn K C (.type "list") = some false
  tup : PySem.W.mroIn K C (.type "tuple") = some false
  dK : PySem.W.mroIn K C (.type "dict") = some false
section
variable {X : Cx} {n : Nat} {f : Addr} {fd : FuncData} {ps : List Str} {sp : Sp} {C : Addr}
theorem rc_eqR {A : Around} {pins : List (Addr × Obj)} {s : Shared} {σ : L2.St} {H : Hp} {a dx : Addr} {fs : List (Str × V)} {y : V} {u : Value} {T : String} {Q : Bool → Hp → Prop} (F : FnOk X.prog X.w X.K X.mg X.base CX0 n f fd ps sp) (hb : Binds X.K fd ps []) (m : Meth X.K C "__eq__" f) (N : NoKind X.K C) (sb : Sub X n A) (I : L2.Inv X pins σ H s)
    (ha : H a = some (.ins C dx fs)) (ry : RelV y u) (o : OthV H y T) (hsp : sp [.ref a, y] H (fun v H' => ∃ c, v = .bl c ∧ Q c H') E0) :
    wpAny (model X.prog X.w) A (richCompare .Eq u (.ref a)) (fun v s' => ∃ c, v = .bool c ∧ ∃ H', L2.Inv X pins σ H' s' ∧ Q c H') X.xe s := by
  obtain ⟨mA, J, _⟩ := ins_get I.hok ha
  have hob := J.obj
  obtain ⟨od, J, _⟩ := J.look
  have r2 : Vals [V.ref a, y] [Value.ref a, u] := .cons rfl (.cons ry .nil)
  have hu := sb.room.units0
  have run : wpAny (model X.prog X.w) A (call (.ref f) [.ref a, u]) (fun r s' => ∃ c, r = .bool c ∧ ∃ c', r = .bool c' ∧ ∃ H', L2.Inv X pins σ H' s' ∧ Q c' H') X.xe s := wpAny_mono (run_own F hb sb I r2 hsp) (fun v s' hq => by
    obtain ⟨z, H', I', rz, c, rfl, q⟩ := hq
    cases rz
    exact ⟨c, rfl, c, rfl, H', I', q⟩) fun _ _ z => z
  cases o with
  | non =>
    obtain rfl : u = Value.none := ry
    exact rc_back hu I.kIn J (T := "NoneType") rfl N.non PySem.F.slot_NoneType_eq (fun Q' q => wpAny_call_entry PySem.F.slot_NoneType_eq rfl PySem.F.entry_NoneType_eq (dec_none ⟨_, rfl, q⟩) (PySem.F.args_NoneType_eq_2 _ _)) m.at_ m.fn run
  | bl b =>
    obtain rfl : u = Value.bool b := ry
    exact rc_back hu I.kIn J (T := "bool") rfl N.bl PySem.F.slot_bool_eq (fun Q' q => wpAny_call_entry PySem.F.slot_bool_eq rfl PySem.F.entry_int_eq (dec_int (.inr ⟨b, rfl⟩) hob ⟨_, rfl, q⟩) (PySem.F.args_int_eq_2 _ _)) m.at_ m.fn run
  | int i =>
    obtain ⟨t, rfl⟩ := ry
    exact rc_back hu I.kIn J (T := "int") rfl N.int PySem.F.slot_int_eq (fun Q' q => wpAny_call_entry PySem.F.slot_int_eq rfl PySem.F.entry_int_eq (dec_int (.inl ⟨i, t, rfl⟩) hob ⟨_, rfl, q⟩) (PySem.F.args_int_eq_2 _ _)) m.at_ m.fn run
  | str z =>
    obtain ⟨t, rfl⟩ := ry
    exact rc_back hu I.kIn J (T := "str") rfl N.str PySem.F.slot_str_eq (fun Q' q => wpAny_call_entry PySem.F.slot_str_eq rfl PySem.F.entry_str_eq (dec_str hob ⟨_, rfl, q⟩) (PySem.F.args_str_eq_2 _ _)) m.at_ m.fn run
  | lst e =>
    rename_i l xs
    obtain rfl : u = Value.ref l := ry
    obtain ⟨its, r, ⟨ob, k, e1, e2, _⟩, _⟩ := I.list (.inl (.inl e))
    have hT : s.TypeIs (.ref l) "list" := ⟨ob, e1, e2⟩
    exact rc_back hu I.kIn J (T := "list") hT N.lst PySem.F.slot_list_eq (fun Q' q => wpAny_call_entry PySem.F.slot_list_eq hT PySem.F.entry_list_eq (dec_list I.kIn J N.lst ⟨_, rfl, q⟩) (PySem.F.args_list_eq_2 _ _)) m.at_ m.fn run
  | tup e =>
    rename_i l xs
    obtain rfl : u = Value.ref l := ry
    obtain ⟨its, r, ⟨ob, e1, e2, _⟩, _⟩ := I.tuple (.inl (.inl e))
    have hT : s.TypeIs (.ref l) "tuple" := ⟨ob, e1, e2⟩
    exact rc_back hu I.kIn J (T := "tuple") hT N.tup PySem.F.slot_tuple_eq (fun Q' q => wpAny_call_entry PySem.F.slot_tuple_eq hT PySem.F.entry_tuple_eq (dec_tup I.kIn J N.tup ⟨_, rfl, q⟩) (PySem.F.args_tuple_eq_2 _ _)) m.at_ m.fn run
  | dK e =>
    rename_i l kvs
    obtain rfl : u = Value.ref l := ry
    obtain ⟨_, _, vs, _, d⟩ := I.hok l _ e
    have hT : s.TypeIs (.ref l) "dict" := d.typeIs
    exact rc_back hu I.kIn J (T := "dict") hT N.dK PySem.F.slot_dict_eq (fun Q' q => wpAny_call_entry PySem.F.slot_dict_eq hT PySem.F.entry_dict_eq (dec_dict hT I.kIn J N.dK ⟨_, rfl, q⟩) (PySem.F.args_dict_eq_2 _ _)) m.at_ m.fn run
/-- y == x, y of no own class, x of an own one -/
def rEqR (C : Addr) (sp : Sp) : R2 := fun y x H Q => ∃ a dx fs T, x = V.ref a ∧ H a = some (.ins C dx fs) ∧ OthV H y T ∧ sp [.ref a, y] H (fun v H' => ∃ c, v = .bl c ∧ Q (.bl c) H') E0
theorem op_eqR (F : FnOk X.prog X.w X.K X.mg X.base CX0 n f fd ps sp) (hb : Binds X.K fd ps []) (m : Meth X.K C "__eq__" f) (N : NoKind X.K C) (hr : Room n X.A) : OpR X (compareOp .Eq) (rEqR C sp) := by
  intro pins s σ H y x u v Q I ry rx h
  obtain ⟨a, dx, fs, T, rfl, ha, o, hsp⟩ := h
  cases rx
  show wpAny (model X.prog X.w) X.A (richCompare .Eq u (.ref a)) (EP X pins σ Q) X.xe s
  refine wpAny_mono (rc_eqR F hb m N ⟨hr, rfl⟩ I ha ry o hsp) (fun v s' hq => ?_) fun _ _ z => z
  obtain ⟨c, rfl, H', I', q⟩ := hq
  exact ⟨.bl c, H', I', rfl, q⟩
/-- one rule or another -/
theorem op_or {op : Value → Value → Sem Value} {r1 r2 : R2} (h1 : OpR X op r1) (h2 : OpR X op r2) : OpR X op (fun x y H Q => r1 x y H Q ∨ r2 x y H Q) := by
  intro pins s σ H x y v u Q I rx ry h
  rcases h with h | h
  · exact h1 pins s σ H x y v u Q I rx ry h
  · exact h2 pins s σ H x y v u Q I rx ry h
end
end Wl

/-! x in ys, ys a list or a tuple of things, x of an own class -/
namespace Wl
open PySem PySem.Spec PyProof.Rows L2
open GQ MeetsSeq MeetsSeq2 MeetsSeq3 SeqRoads2 in
open AutoSeq1 (wpAny_loadPart') in
theorem containsT {prog : Program} {w : World} {A : Around} {R : Result → Shared → Prop} {s : Shared} {l : Addr} {items : Array Value} {n : Nat} {dd : Option Addr} {sl : Array (Option Value)} {x : Value} (P : Nat → Shared → Prop)
    (turn : ∀ (i : Nat) (h : i < items.size) (s : Shared), P i s → wpAny (model prog w) A.in1 (eqBool items[i] x) (fun b s' => if b = true then R (.ok (.ret (.bool true))) s' else P (i + 1) s') (fun e s' => R (.error e) s') s)
    (fin : ∀ s, P items.size s → R (.ok (.ret (.bool false))) s) (hl : s.heap.get? l = some { cls := .type "tuple", dict := dd, data := .seq items n, slots := sl }) (h : P 0 s) :
    wpAny (model prog w) A.in1 (Builtin.«tuple.__contains__» ⟨[.ref l, x], []⟩) (FinOf prog w A R) (fun e s' => R (.error e) s') s := by
  have h0 := h
  obtain ⟨hp, g, d, tk, os⟩ := s
  wp_walk using wpAny_loadPart' hl, wpAny_forIn_array _ (fun rest b s' => b.1 = none ∧ ∃ i, rest = items.toList.drop i ∧ i ≤ items.size ∧ P i s') _
  case turn =>
    rintro y rest b s' ⟨hb', i, hz, hi, hI⟩
    have hlt : i < items.toList.length := by
      rcases Nat.lt_or_ge i items.toList.length with h' | h'
      · exact h'
      · rw [List.drop_of_length_le h'] at hz; cases hz
    have h1 : i < items.size := by simpa using hlt
    rw [List.drop_eq_getElem_cons hlt] at hz
    injection hz with hy hrest
    have hy : y = items[i] := by simpa using hy
    subst hy
    refine wpAny_bind (wpAny_mono (turn i h1 s' hI) (fun r s2 q2 => ?_) fun _ _ x => x)
    cases r with
    | true =>
      rw [if_pos rfl] at q2
      wp_walk
      first
        | exact q2
        | exact ⟨_, rfl, q2⟩
    | false =>
      rw [if_neg (by decide)] at q2
      wp_walk
      exact ⟨rfl, i + 1, hrest, h1, q2⟩
  case fin =>
    rintro ⟨b1, b2⟩ s' ⟨hb', i, hz, hi, hI⟩
    simp only at hb'
    subst hb'
    have hge : items.size ≤ i := by
      rcases Nat.lt_or_ge i items.toList.length with h' | h'
      · rw [List.drop_eq_getElem_cons h'] at hz; cases hz
      · simpa using h'
    have hi' : i = items.size := by omega
    have hR : R (.ok (.ret (.bool false))) s' := fin s' (hi' ▸ hI)
    wp_walk
    exact hR
  case h =>
    exact ⟨rfl, 0, rfl, Nat.zero_le _, h0⟩
open GQ MeetsSeq MeetsSeq2 MeetsSeq3 SeqRoads2 in
open AutoSeq1 (wpAny_loadPart') in
theorem contains_loopV {prog : Program} {w : World} {A : Around} {R : Result → Shared → Prop} {l : Addr} {N : Nat} {x : Value} (P : Nat → Shared → Prop)
    (hl : ∀ i s, P i s → ∃ (items : Array Value) (k : Nat), s.heap.get? l = some { cls := .type "list", data := .seq items k } ∧ items.size = N ∧ ∀ h : i < items.size, wpAny (model prog w) A.in1 (eqBool items[i] x) (fun b s' => if b = true then R (.ok (.ret (.bool true))) s' else P (i + 1) s') (fun e s' => R (.error e) s') s)
    (fin : ∀ s, P N s → R (.ok (.ret (.bool false))) s) (k : Nat) :
    ∀ i : Nat, N - i = k → i ≤ N → ∀ s, P i s → wpAny (model prog w) A.in1 (Builtin.«list.__contains__.loop» ⟨[.ref l, x, rawInt i], []⟩) (FinOf prog w A R) (fun e s' => R (.error e) s') s := by
  induction k with
  | zero =>
    intro i hk hi s h
    obtain ⟨items, k, hl1, hN, _⟩ := hl i s h
    have e : i = N := by omega
    have q := fin s (e ▸ h)
    obtain ⟨hp, g, d, tk, os⟩ := s
    wp_walk using wpAny_loadPart' hl1
    have hi1 : items[((i : Nat) : Int).toNat]? = none := by simp; omega
    rw [hi1]
    wp_walk
    exact q
  | succ k ih =>
    intro i hk hi s h
    obtain ⟨items, k1, hl1, hN, turn⟩ := hl i s h
    have hlt : i < items.size := by omega
    have ht := turn hlt
    obtain ⟨hp, g, d, tk, os⟩ := s
    wp_walk using wpAny_loadPart' hl1
    have hi1 : items[((i : Nat) : Int).toNat]? = some items[i] := by simp [hlt]
    rw [hi1]
    refine wpAny_bind (wpAny_mono ht (fun b s2 h2 => ?_) fun _ _ z => z)
    cases b with
    | true =>
      rw [if_pos rfl] at h2
      wp_walk
      exact h2
    | false =>
      rw [if_neg (by decide)] at h2
      have hrec := ih (i + 1) (by omega) (by omega) s2 h2
      obtain ⟨hp2, g2, d2, tk2, os2⟩ := s2
      have hc : ((i : Int) + 1) = ((i + 1 : Nat) : Int) := by omega
      wp_walk
      rw [hc]
      exact ⟨plainId_quiet plain_contains_loop _, codeAny_builtin entry_contains_loop (by
        rw [Around.under_plainId plain_contains_loop _]
        exact hrec)⟩
open GQ MeetsSeq MeetsSeq2 MeetsSeq3 SeqRoads2 in
open AutoSeq1 (wpAny_loadPart') in
theorem containsV {prog : Program} {w : World} {A : Around} {R : Result → Shared → Prop} {s : Shared} {l : Addr} {N : Nat} {x : Value} (P : Nat → Shared → Prop)
    (hl : ∀ i s, P i s → ∃ (items : Array Value) (k : Nat), s.heap.get? l = some { cls := .type "list", data := .seq items k } ∧ items.size = N ∧ ∀ h : i < items.size, wpAny (model prog w) A.in1 (eqBool items[i] x) (fun b s' => if b = true then R (.ok (.ret (.bool true))) s' else P (i + 1) s') (fun e s' => R (.error e) s') s)
    (fin : ∀ s, P N s → R (.ok (.ret (.bool false))) s) (h : P 0 s) :
    wpAny (model prog w) A.in1 (Builtin.«list.__contains__» ⟨[.ref l, x], []⟩) (FinOf prog w A R) (fun e s' => R (.error e) s') s := by
  have hrec := contains_loopV (A := A) (R := R) P hl fin _ 0 rfl (Nat.zero_le _) s h
  obtain ⟨items, k, hl1, _⟩ := hl 0 s h
  obtain ⟨hp, g, d, tk, os⟩ := s
  wp_walk using wpAny_loadPart' hl1
  exact ⟨plainId_quiet plain_contains_loop _, codeAny_builtin entry_contains_loop (by
    rw [Around.under_plainId plain_contains_loop _]
    exact hrec)⟩
theorem OthV.same {H H' : Hp} {y : V} {T : String} (h : OthV H y T) (s : Same H H') : OthV H' y T := by
  cases h with
  | non => exact .non
  | bl b => exact .bl b
  | int i => exact .int i
  | str z => exact .str z
  | lst e => exact .lst (s _ _ e)
  | tup e => exact .tup (s _ _ e)
  | dK e => exact .dK (s _ _ e)
/-- how an item is found beside x at a -/
def ItemOk (C a : Addr) (sp : Sp) (H : Hp) (z : V) (c : Bool) : Prop :=
  (∃ T, OthV H z T ∧ ∀ H', Same H H' → sp [.ref a, z] H' (fun v H'' => ∃ r, v = .bl r ∧ r = c ∧ Same H' H'') E0) ∨
  (z = .ref a ∧ c = true) ∨
  (∃ b dy gs, z = .ref b ∧ b ≠ a ∧ H b = some (.ins C dy gs) ∧ ∀ H', Same H H' → sp [.ref b, .ref a] H' (fun v H'' => ∃ r, v = .bl r ∧ r = c ∧ Same H' H'') E0)
section
variable {X : Cx} {n : Nat} {f : Addr} {fd : FuncData} {ps : List Str} {sp : Sp} {C : Addr}
theorem eqBool_flatG {prog : Program} {w : World} {A : Around} {E : Value → Shared → Prop} {s : Shared} {v : Value} {a : Addr} {Q : Bool → Shared → Prop} (hne : v ≠ .ref a) (h : wpAny (model prog w) A (richCompare .Eq v (.ref a)) (fun v s' => ∃ r, v = .bool r ∧ Q r s') E s) : wpAny (model prog w) A (eqBool v (.ref a)) Q E s := by
  unfold eqBool
  refine wpAny_holding ?_
  refine wpAny_ite_split (fun hab => absurd (eq_of_beq hab) hne) (fun _ => ?_)
  cases v <;>
  · refine wpAny_bind (wpAny_mono h (fun v s' hv => ?_) fun _ _ x => x)
    obtain ⟨r, rfl, q⟩ := hv
    exact wpAny_truthy_bool q
theorem eq_item {A : Around} {pins : List (Addr × Obj)} {s : Shared} {σ : L2.St} {H H' : Hp} {a dx : Addr} {fs : List (Str × V)} {z : V} {u : Value} {c : Bool} (F : FnOk X.prog X.w X.K X.mg X.base CX0 n f fd ps sp) (hb : Binds X.K fd ps []) (m : Meth X.K C "__eq__" f) (N : NoKind X.K C) (sb : Sub X n A) (I : L2.Inv X pins σ H' s)
    (s0 : Same H H') (ha : H a = some (.ins C dx fs)) (rz : RelV z u) (it : ItemOk C a sp H z c) :
    wpAny (model X.prog X.w) A (eqBool u (.ref a)) (fun b s' => b = c ∧ ∃ H'', L2.Inv X pins σ H'' s' ∧ Same H H'') X.xe s := by
  have ha' := s0 _ _ ha
  rcases it with ⟨T, o, hsp⟩ | ⟨rfl, rfl⟩ | ⟨b, dy, gs, rfl, hne, hb', hsp⟩
  · have hne : u ≠ .ref a := fun e => by
      subst e
      cases o with
      | non => cases rz
      | bl b => cases rz
      | int i => obtain ⟨t, e⟩ := rz; cases e
      | str y => obtain ⟨t, e⟩ := rz; cases e
      | lst e => cases rz; rw [ha] at e; cases e
      | tup e => cases rz; rw [ha] at e; cases e
      | dK e => cases rz; rw [ha] at e; cases e
    refine eqBool_flatG hne (wpAny_mono (rc_eqR F hb m N sb I ha' rz (o.same s0) (Q := fun r H'' => r = c ∧ Same H' H'') (hsp H' s0)) (fun v s' hq => ?_) fun _ _ x => x)
    obtain ⟨r, rfl, H'', I', rfl, s2⟩ := hq
    exact ⟨_, rfl, rfl, H'', I', s0.trans s2⟩
  · cases rz
    exact SeqAt.EqAt.same (A := A) (s := s) (.ref a) X.prog X.w X.xe _ ⟨rfl, H', I, s0⟩
  · cases rz
    refine GQ.eqBool_refG hne (wpAny_mono (rc_eqO F hb m sb I (s0 _ _ hb') ha' (Q := fun r H'' => r = c ∧ Same H' H'') (hsp H' s0)) (fun v s' hq => ?_) fun _ _ x => x)
    obtain ⟨r, rfl, H'', I', rfl, s2⟩ := hq
    exact ⟨_, rfl, rfl, H'', I', s0.trans s2⟩
/-- x in ys -/
def rInG (C : Addr) (sp : Sp) (g : Bool → Bool) : R2 := fun x y H Q => ∃ a dx fs l xs cs, x = V.ref a ∧ y = V.ref l ∧ (H l = some (.lst xs) ∨ H l = some (.tup xs)) ∧ H a = some (.ins C dx fs) ∧ Each (ItemOk C a sp H) xs cs ∧ ∀ H', Same H H' → Q (.bl (g (cs.any id))) H'
theorem Each.at {α β : Type} {R : α → β → Prop} : ∀ {xs : List α} {ys : List β} {i : Nat} (h : Each R xs ys) (hi : i < xs.length), ∃ y, ys[i]? = some y ∧ R xs[i] y
  | _, _, i, .nil, hi => by simp at hi
  | _, _, 0, .cons e r, hi => ⟨_, rfl, e⟩
  | _, _, i + 1, .cons e r, hi => by
    obtain ⟨y, h1, h2⟩ := Each.at (i := i) r (by simpa using hi)
    exact ⟨y, by simpa using h1, by simpa using h2⟩
theorem Vals.at {xs : List V} {us : List Value} {i : Nat} (r : Vals xs us) (hi : i < us.length) : ∃ x, xs[i]? = some x ∧ RelV x us[i] := by
  induction r generalizing i with
  | nil => simp at hi
  | cons e r ih =>
    cases i with
    | zero => exact ⟨_, rfl, e⟩
    | succ i =>
      obtain ⟨x, h1, h2⟩ := ih (i := i) (by simpa using hi)
      exact ⟨x, by simpa using h1, by simpa using h2⟩
theorem op_inG' (F : FnOk X.prog X.w X.K X.mg X.base CX0 n f fd ps sp) (hb : Binds X.K fd ps []) (m : Meth X.K C "__eq__" f) (N : NoKind X.K C) (hr : Room (n + 1) X.A) {g : Bool → Bool} {pins : List (Addr × Obj)} {s : Shared} {σ : L2.St} {H : Hp} {x y : V} {v u : Value} {Q : VK} (I : L2.Inv X pins σ H s) (rx : RelV x v) (ry : RelV y u) (h : rInG C sp g x y H Q) :
    wpAny (model X.prog X.w) X.A (contains u v) (fun b s' => EP X pins σ Q (.bool (g b)) s') X.xe s := by
  obtain ⟨a, dx, fs, l, xs, cs, rfl, rfl, hl, ha, hE, q⟩ := h
  cases rx
  cases ry
  have lc : xs.length = cs.length := hE.length
  -- one item
  have turn : ∀ (its : List Value) (r : Vals xs its) (i : Nat) (hi : i < its.length) (s' : Shared), (∃ H', L2.Inv X pins σ H' s' ∧ Same H H' ∧ (cs.take i).any id = false) → wpAny (model X.prog X.w) X.A.in1 (eqBool its[i] (.ref a)) (fun b s2 => if b = true then (∃ H', L2.Inv X pins σ H' s2 ∧ Same H H' ∧ cs.any id = true) else ∃ H', L2.Inv X pins σ H' s2 ∧ Same H H' ∧ (cs.take (i + 1)).any id = false) X.xe s' := fun its r i hi s' ⟨H', I', s0, ht⟩ => by
    obtain ⟨z, hz, rz⟩ := Vals.at r hi
    obtain ⟨hzl, ez⟩ := List.getElem?_eq_some_iff.mp hz
    obtain ⟨c, hc, it⟩ := Each.at hE hzl
    rw [ez] at it
    refine wpAny_mono (eq_item F hb m N (Sub.in1 ⟨hr, rfl⟩) I' s0 ha rz it) (fun b s2 hq => ?_) fun _ _ e => e
    obtain ⟨rfl, H'', I'', s2'⟩ := hq
    refine ite_b (fun e => ?_) (fun e => ?_)
    · refine ⟨H'', I'', s2', ?_⟩
      rw [List.any_eq_true]
      exact ⟨_, List.mem_of_getElem? hc, e⟩
    · refine ⟨H'', I'', s2', ?_⟩
      rw [List.take_add_one, hc, List.any_append, ht, Bool.false_or]
      simpa using e
  have fin : ∀ (s' : Shared), (∃ H', L2.Inv X pins σ H' s' ∧ Same H H' ∧ (cs.take xs.length).any id = false) → EP X pins σ Q (.bool (g false)) s' := fun s' ⟨H', I', s0, ht⟩ => by
    rw [lc, List.take_length] at ht
    have := q H' s0
    rw [ht] at this
    exact ⟨.bl (g false), H', I', rfl, this⟩
  have good : ∀ (s' : Shared), (∃ H', L2.Inv X pins σ H' s' ∧ Same H H' ∧ cs.any id = true) → EP X pins σ Q (.bool (g true)) s' := fun s' ⟨H', I', s0, ht⟩ => by
    have := q H' s0
    rw [ht] at this
    exact ⟨.bl (g true), H', I', rfl, this⟩
  rcases hl with hl | hl
  · obtain ⟨z, its, k, r, ho⟩ := I.hok l _ hl
    have ri : its.length = xs.length := r.length.symm
    refine wpAny_contains_slot ⟨_, ho, rfl⟩ PySem.F.slot_list_contains (wpAny_mono (GQ.call_here PySem.F.slot_list_contains ⟨_, ho, rfl⟩ PySem.F.entry_list_contains (PySem.F.args_list_contains_2 _ _)
      (containsV (R := wants (fun v s' => ∃ c, v = .bool c ∧ EP X pins σ Q (.bool (g c)) s') X.xe) (N := xs.length) (fun i s' => ∃ H', L2.Inv X pins σ H' s' ∧ Same H H' ∧ (cs.take i).any id = false) (fun i s' h => ?_) (fun s' h => ?_) ⟨H, I, Same.refl H, rfl⟩)) (fun v s' hv => ?_) fun _ _ e => e)
    · obtain ⟨H', I', s0, h3⟩ := id h
      obtain ⟨z', its', k', r', ho'⟩ := I'.hok l _ (s0 _ _ hl)
      refine ⟨its'.toArray, k', ho', by simpa using r'.length.symm, fun hi => ?_⟩
      have hi' : i < its'.length := by simpa using hi
      have t := turn its' r' i hi' s' h
      have e : its'.toArray[i] = its'[i] := by simp
      rw [e]
      refine wpAny_mono t (fun b s2 hq => ?_) fun _ _ e => e
      cases b with
      | true =>
        rw [if_pos rfl] at hq ⊢
        exact ⟨_, rfl, good _ hq⟩
      | false =>
        rw [if_neg (by decide)] at hq ⊢
        exact hq
    · exact ⟨_, rfl, fin _ h⟩
    · obtain ⟨c, rfl, q⟩ := hv
      exact wpAny_truthy_bool q
  · obtain ⟨its, r, ⟨⟨cls, dd, data, sl⟩, ho, hc, n', hd⟩, _⟩ := I.tuple (.inl (.inl hl))
    simp only at hc hd
    subst hc hd
    have ri : its.length = xs.length := r.length.symm
    refine wpAny_contains_slot ⟨_, ho, rfl⟩ PySem.F.slot_tuple_contains (wpAny_mono (GQ.call_here PySem.F.slot_tuple_contains ⟨_, ho, rfl⟩ PySem.F.entry_tuple_contains (PySem.F.args_tuple_contains_2 _ _)
      (containsT (R := wants (fun v s' => ∃ c, v = .bool c ∧ EP X pins σ Q (.bool (g c)) s') X.xe) (items := its.toArray) (fun i s' => ∃ H', L2.Inv X pins σ H' s' ∧ Same H H' ∧ (cs.take i).any id = false) (fun i hi s' h => ?_) (fun s' h => ?_) ho ⟨H, I, Same.refl H, rfl⟩)) (fun v s' hv => ?_) fun _ _ e => e)
    · have hi' : i < its.length := by simpa using hi
      have t := turn its r i hi' s' h
      have e : its.toArray[i] = its[i] := by simp
      rw [e]
      refine wpAny_mono t (fun b s2 hq => ?_) fun _ _ e => e
      cases b with
      | true =>
        rw [if_pos rfl] at hq ⊢
        exact ⟨_, rfl, good _ hq⟩
      | false =>
        rw [if_neg (by decide)] at hq ⊢
        exact hq
    · have e : its.toArray.size = xs.length := by simpa using ri
      rw [e] at h
      exact ⟨_, rfl, fin _ h⟩
    · obtain ⟨c, rfl, q⟩ := hv
      exact wpAny_truthy_bool q
theorem op_inG (F : FnOk X.prog X.w X.K X.mg X.base CX0 n f fd ps sp) (hb : Binds X.K fd ps []) (m : Meth X.K C "__eq__" f) (N : NoKind X.K C) (hr : Room (n + 1) X.A) : OpR X (compareOp .In) (rInG C sp id) := by
  intro pins s σ H x y v u Q I rx ry h
  show wpAny _ X.A (do return Value.bool (← contains u v)) _ _ s
  exact wpAny_bind (wpAny_mono (op_inG' F hb m N hr I rx ry h) (fun b s' q => wpAny_pure q) fun _ _ z => z)
end
end Wl

/-! x in ys, where ys holds things of several own classes and others; [x] == [y] -/
namespace Wl
open PySem PySem.Spec PyProof.Rows L2
section
variable {X : Cx} {n : Nat} {f : Addr} {fd : FuncData} {ps : List Str} {sp : Sp} {C : Addr}
/-- how a thing that stands in a list or tuple is held beside x at a -/
def EqIt (X : Cx) (It : Addr → Hp → V → Bool → Prop) : Prop := ∀ (pins : List (Addr × Obj)) (s : Shared) (σ : L2.St) (H H' : Hp) (a : Addr) (z : V) (u : Value) (c : Bool), L2.Inv X pins σ H' s → Same H H' → RelV z u → It a H z c →
  wpAny (model X.prog X.w) X.A.in1 (eqBool u (.ref a)) (fun b s' => b = c ∧ ∃ H'', L2.Inv X pins σ H'' s' ∧ Same H H'') X.xe s
theorem EqIt.or {I1 I2 : Addr → Hp → V → Bool → Prop} (h1 : EqIt X I1) (h2 : EqIt X I2) : EqIt X (fun a H z c => I1 a H z c ∨ I2 a H z c) := fun pins s σ H H' a z u c I s0 rz it =>
  it.elim (h1 pins s σ H H' a z u c I s0 rz) (h2 pins s σ H H' a z u c I s0 rz)
def ItG (C : Addr) (sp : Sp) : Addr → Hp → V → Bool → Prop := fun a H z c => (∃ dx fs, H a = some (.ins C dx fs)) ∧ ItemOk C a sp H z c
theorem eqIt_G (F : FnOk X.prog X.w X.K X.mg X.base CX0 n f fd ps sp) (hb : Binds X.K fd ps []) (m : Meth X.K C "__eq__" f) (N : NoKind X.K C) (hr : Room (n + 1) X.A) : EqIt X (ItG C sp) := fun pins s σ H H' a z u c I s0 rz ⟨⟨dx, fs, ha⟩, it⟩ =>
  eq_item F hb m N (Sub.in1 ⟨hr, rfl⟩) I s0 ha rz it
/-- a thing of another own class, asked by its == -/
def ItO (K : PySem.W.Frag) (C : Addr) (sp : Sp) : Addr → Hp → V → Bool → Prop := fun a H z c => ∃ b dy gs t, z = .ref b ∧ b ≠ a ∧ H b = some (.ins C dy gs) ∧ (∀ H', Same H H' → TyX K H' (.ref a) t) ∧ PySem.W.notFirst K C t = true ∧
  ∀ H', Same H H' → sp [.ref b, .ref a] H' (fun v H'' => ∃ r, v = .bl r ∧ r = c ∧ Same H' H'') E0
theorem eqIt_O (F : FnOk X.prog X.w X.K X.mg X.base CX0 n f fd ps sp) (hb : Binds X.K fd ps []) (m : Meth X.K C "__eq__" f) (hr : Room (n + 1) X.A) : EqIt X (ItO X.K C sp) := by
  intro pins s σ H H' a z u c I s0 rz it
  obtain ⟨b, dy, gs, t, rfl, hne, hb', ty, nf, hsp⟩ := it
  cases rz
  refine GQ.eqBool_refG hne (wpAny_mono (rc_eqT F hb m (Sub.in1 ⟨hr, rfl⟩) I (s0 _ _ hb') (y := .ref a) rfl (ty H' s0) nf (Q := fun r H'' => r = c ∧ Same H' H'') (hsp H' s0)) (fun v s' hq => ?_) fun _ _ x => x)
  obtain ⟨r, rfl, H'', I', rfl, s2⟩ := hq
  exact ⟨_, rfl, rfl, H'', I', s0.trans s2⟩
/-- x in ys, item by item -/
def rInZ (It : Addr → Hp → V → Bool → Prop) (g : Bool → Bool) : R2 := fun x y H Q => ∃ a l xs cs, x = V.ref a ∧ y = V.ref l ∧ (H l = some (.lst xs) ∨ H l = some (.tup xs)) ∧ Each (It a H) xs cs ∧ ∀ H', Same H H' → Q (.bl (g (cs.any id))) H'
theorem op_inZ' {It : Addr → Hp → V → Bool → Prop} (hI : EqIt X It) {g : Bool → Bool} {pins : List (Addr × Obj)} {s : Shared} {σ : L2.St} {H : Hp} {x y : V} {v u : Value} {Q : VK} (I : L2.Inv X pins σ H s) (rx : RelV x v) (ry : RelV y u) (h : rInZ It g x y H Q) :
    wpAny (model X.prog X.w) X.A (contains u v) (fun b s' => EP X pins σ Q (.bool (g b)) s') X.xe s := by
  obtain ⟨a, l, xs, cs, rfl, rfl, hl, hE, q⟩ := h
  cases rx
  cases ry
  have lc : xs.length = cs.length := hE.length
  -- one item
  have turn : ∀ (its : List Value) (r : Vals xs its) (i : Nat) (hi : i < its.length) (s' : Shared), (∃ H', L2.Inv X pins σ H' s' ∧ Same H H' ∧ (cs.take i).any id = false) → wpAny (model X.prog X.w) X.A.in1 (eqBool its[i] (.ref a)) (fun b s2 => if b = true then (∃ H', L2.Inv X pins σ H' s2 ∧ Same H H' ∧ cs.any id = true) else ∃ H', L2.Inv X pins σ H' s2 ∧ Same H H' ∧ (cs.take (i + 1)).any id = false) X.xe s' := fun its r i hi s' ⟨H', I', s0, ht⟩ => by
    obtain ⟨z, hz, rz⟩ := Vals.at r hi
    obtain ⟨hzl, ez⟩ := List.getElem?_eq_some_iff.mp hz
    obtain ⟨c, hc, it⟩ := Each.at hE hzl
    rw [ez] at it
    refine wpAny_mono (hI pins s' σ H H' a z _ c I' s0 rz it) (fun b s2 hq => ?_) fun _ _ e => e
    obtain ⟨rfl, H'', I'', s2'⟩ := hq
    refine ite_b (fun e => ?_) (fun e => ?_)
    · refine ⟨H'', I'', s2', ?_⟩
      rw [List.any_eq_true]
      exact ⟨_, List.mem_of_getElem? hc, e⟩
    · refine ⟨H'', I'', s2', ?_⟩
      rw [List.take_add_one, hc, List.any_append, ht, Bool.false_or]
      simpa using e
  have fin : ∀ (s' : Shared), (∃ H', L2.Inv X pins σ H' s' ∧ Same H H' ∧ (cs.take xs.length).any id = false) → EP X pins σ Q (.bool (g false)) s' := fun s' ⟨H', I', s0, ht⟩ => by
    rw [lc, List.take_length] at ht
    have := q H' s0
    rw [ht] at this
    exact ⟨.bl (g false), H', I', rfl, this⟩
  have good : ∀ (s' : Shared), (∃ H', L2.Inv X pins σ H' s' ∧ Same H H' ∧ cs.any id = true) → EP X pins σ Q (.bool (g true)) s' := fun s' ⟨H', I', s0, ht⟩ => by
    have := q H' s0
    rw [ht] at this
    exact ⟨.bl (g true), H', I', rfl, this⟩
  rcases hl with hl | hl
  · obtain ⟨z, its, k, r, ho⟩ := I.hok l _ hl
    have ri : its.length = xs.length := r.length.symm
    refine wpAny_contains_slot ⟨_, ho, rfl⟩ PySem.F.slot_list_contains (wpAny_mono (GQ.call_here PySem.F.slot_list_contains ⟨_, ho, rfl⟩ PySem.F.entry_list_contains (PySem.F.args_list_contains_2 _ _)
      (containsV (R := wants (fun v s' => ∃ c, v = .bool c ∧ EP X pins σ Q (.bool (g c)) s') X.xe) (N := xs.length) (fun i s' => ∃ H', L2.Inv X pins σ H' s' ∧ Same H H' ∧ (cs.take i).any id = false) (fun i s' h => ?_) (fun s' h => ?_) ⟨H, I, Same.refl H, rfl⟩)) (fun v s' hv => ?_) fun _ _ e => e)
    · obtain ⟨H', I', s0, h3⟩ := id h
      obtain ⟨z', its', k', r', ho'⟩ := I'.hok l _ (s0 _ _ hl)
      refine ⟨its'.toArray, k', ho', by simpa using r'.length.symm, fun hi => ?_⟩
      have hi' : i < its'.length := by simpa using hi
      have t := turn its' r' i hi' s' h
      have e : its'.toArray[i] = its'[i] := by simp
      rw [e]
      refine wpAny_mono t (fun b s2 hq => ?_) fun _ _ e => e
      cases b with
      | true =>
        rw [if_pos rfl] at hq ⊢
        exact ⟨_, rfl, good _ hq⟩
      | false =>
        rw [if_neg (by decide)] at hq ⊢
        exact hq
    · exact ⟨_, rfl, fin _ h⟩
    · obtain ⟨c, rfl, q⟩ := hv
      exact wpAny_truthy_bool q
  · obtain ⟨its, r, ⟨⟨cls, dd, data, sl⟩, ho, hc, n', hd⟩, _⟩ := I.tuple (.inl (.inl hl))
    simp only at hc hd
    subst hc hd
    have ri : its.length = xs.length := r.length.symm
    refine wpAny_contains_slot ⟨_, ho, rfl⟩ PySem.F.slot_tuple_contains (wpAny_mono (GQ.call_here PySem.F.slot_tuple_contains ⟨_, ho, rfl⟩ PySem.F.entry_tuple_contains (PySem.F.args_tuple_contains_2 _ _)
      (containsT (R := wants (fun v s' => ∃ c, v = .bool c ∧ EP X pins σ Q (.bool (g c)) s') X.xe) (items := its.toArray) (fun i s' => ∃ H', L2.Inv X pins σ H' s' ∧ Same H H' ∧ (cs.take i).any id = false) (fun i hi s' h => ?_) (fun s' h => ?_) ho ⟨H, I, Same.refl H, rfl⟩)) (fun v s' hv => ?_) fun _ _ e => e)
    · have hi' : i < its.length := by simpa using hi
      have t := turn its r i hi' s' h
      have e : its.toArray[i] = its[i] := by simp
      rw [e]
      refine wpAny_mono t (fun b s2 hq => ?_) fun _ _ e => e
      cases b with
      | true =>
        rw [if_pos rfl] at hq ⊢
        exact ⟨_, rfl, good _ hq⟩
      | false =>
        rw [if_neg (by decide)] at hq ⊢
        exact hq
    · have e : its.toArray.size = xs.length := by simpa using ri
      rw [e] at h
      exact ⟨_, rfl, fin _ h⟩
    · obtain ⟨c, rfl, q⟩ := hv
      exact wpAny_truthy_bool q
theorem op_inZ {It : Addr → Hp → V → Bool → Prop} (hI : EqIt X It) : OpR X (compareOp .In) (rInZ It id) := by
  intro pins s σ H x y v u Q I rx ry h
  show wpAny _ X.A (do return Value.bool (← contains u v)) _ _ s
  exact wpAny_bind (wpAny_mono (op_inZ' hI I rx ry h) (fun b s' q => wpAny_pure q) fun _ _ z => z)
theorem op_notInZ {It : Addr → Hp → V → Bool → Prop} (hI : EqIt X It) : OpR X (compareOp .NotIn) (rInZ It not) := by
  intro pins s σ H x y v u Q I rx ry h
  show wpAny _ X.A (do return Value.bool (!(← contains u v))) _ _ s
  exact wpAny_bind (wpAny_mono (op_inZ' hI I rx ry h) (fun b s' q => wpAny_pure q) fun _ _ z => z)
open GQ MeetsSeq MeetsSeq2 MeetsSeq3 SeqRoads2 in
open AutoSeq1 (wpAny_loadPart') in
theorem rc_eqL1 {prog : Program} {w : World} {A : Around} {E : Value → Shared → Prop} {s : Shared} {l m : Addr} {x y : Value} {k k2 : Nat} {Q : Value → Shared → Prop} (hu : A.units < cLine)
    (hl : s.heap.get? l = some { cls := .type "list", data := .seq #[x] k }) (hm : s.heap.get? m = some { cls := .type "list", data := .seq #[y] k2 })
    (h : wpAny (model prog w) A.in1 (eqBool x y) (fun c s' => (∃ k, s'.heap.get? l = some { cls := .type "list", data := .seq #[x] k }) ∧ (∃ k, s'.heap.get? m = some { cls := .type "list", data := .seq #[y] k }) ∧ Q (.bool c) s') E s) :
    wpAny (model prog w) A (richCompare .Eq (.ref l) (.ref m)) Q E s := by
  refine wpAny_richCompare_same_room (op := .Eq) ⟨_, hl, rfl⟩ ⟨_, hm, rfl⟩ PySem.F.slot_list_eq (GQ.call_here PySem.F.slot_list_eq ⟨_, hl, rfl⟩ PySem.F.entry_list_eq (PySem.F.args_list_eq_2 _ _) ?_) hu
  have two : ∀ (s2 : Shared) (k k2 : Nat), s2.heap.get? l = some { cls := .type "list", data := .seq #[x] k } → s2.heap.get? m = some { cls := .type "list", data := .seq #[y] k2 } → Q (.bool true) s2 →
      wpAny (model prog w) A.in1 (Builtin.«list.__eq__.loop» ⟨[.ref l, .ref m, rawInt 1, rawInt 2], []⟩) (FinOf prog w A (wants (fun v s' => v ≠ .notImplemented ∧ Q v s') E)) (fun e s' => wants (fun v s' => v ≠ .notImplemented ∧ Q v s') E (.error e) s') s2 := by
    intro s2 k k2 h1 h2 q
    obtain ⟨hp, g, d, tk, os⟩ := s2
    wp_walk using wpAny_loadPart' h1, wpAny_loadPart' h2
    exact ⟨(fun z => nomatch z), q⟩
  have one : wpAny (model prog w) A.in1 (Builtin.«list.__eq__.loop» ⟨[.ref l, .ref m, rawInt 0, rawInt 2], []⟩) (FinOf prog w A (wants (fun v s' => v ≠ .notImplemented ∧ Q v s') E)) (fun e s' => wants (fun v s' => v ≠ .notImplemented ∧ Q v s') E (.error e) s') s := by
    obtain ⟨hp, g, d, tk, os⟩ := s
    obtain ⟨items, eI⟩ : ∃ items : Array Value, items = #[x] := ⟨_, rfl⟩
    obtain ⟨items2, eJ⟩ : ∃ items : Array Value, items = #[y] := ⟨_, rfl⟩
    have hl' := hl
    have hm' := hm
    rw [← eI] at hl'
    rw [← eJ] at hm'
    have i1 : items[(0 : Int).toNat]? = some x := by rw [eI]; rfl
    have i2 : items2[(0 : Int).toNat]? = some y := by rw [eJ]; rfl
    wp_walk using wpAny_loadPart' hl', wpAny_loadPart' hm'
    rw [i1, i2]
    refine wpAny_bind (wpAny_mono h (fun c s2 hq => ?_) fun _ _ z => z)
    obtain ⟨⟨k3, h3⟩, ⟨k4, h4⟩, q⟩ := hq
    cases c with
    | true =>
      have hrec := two s2 k3 k4 h3 h4 q
      obtain ⟨hp2, g2, d2, tk2, os2⟩ := s2
      wp_walk
      exact ⟨plainId_quiet plain_eq_loop _, codeAny_builtin entry_eq_loop (by
        rw [Around.under_plainId plain_eq_loop _]
        exact hrec)⟩
    | false =>
      obtain ⟨hp2, g2, d2, tk2, os2⟩ := s2
      wp_walk using wpAny_loadPart' h3, wpAny_loadPart' h4
      exact ⟨(fun z => nomatch z), q⟩
  obtain ⟨hp, g, d, tk, os⟩ := s
  have f3 := AutoSeq1.sub_list_list
  wp_walk using wpAny_loadPart' hl, wpAny_loadPart' hm
  exact ⟨plainId_quiet plain_eq_loop _, codeAny_builtin entry_eq_loop (by
    rw [Around.under_plainId plain_eq_loop _]
    exact one)⟩
/-- [x] == [y], both of one own class -/
def rEqL1 (C : Addr) (sp : Sp) : R2 := fun x y H Q => ∃ l m a b dx fs dy gs, x = V.ref l ∧ y = V.ref m ∧ H l = some (.lst [.ref a]) ∧ H m = some (.lst [.ref b]) ∧ H a = some (.ins C dx fs) ∧ H b = some (.ins C dy gs) ∧ (a = b → Q (.bl true) H) ∧
  (a ≠ b → sp [.ref a, .ref b] H (fun v H' => ∃ c, v = .bl c ∧ Same H H' ∧ Q (.bl c) H') E0)
theorem op_eqL1 (F : FnOk X.prog X.w X.K X.mg X.base CX0 n f fd ps sp) (hb : Binds X.K fd ps []) (m : Meth X.K C "__eq__" f) (hr : Room (n + 1) X.A) : OpR X (compareOp .Eq) (rEqL1 C sp) := by
  intro pins s σ H x y v u Q I rx ry h
  obtain ⟨l, m', a, b, dx, fs, dy, gs, rfl, rfl, hl, hm, ha, hb', q1, q2⟩ := h
  cases rx
  cases ry
  have back : ∀ (s' : Shared) (H' : Hp), L2.Inv X pins σ H' s' → Same H H' → (∃ k, s'.heap.get? l = some { cls := .type "list", data := .seq #[.ref a] k }) ∧ (∃ k, s'.heap.get? m' = some { cls := .type "list", data := .seq #[.ref b] k }) := fun s' H' I' s0 => by
    obtain ⟨_, its, k, r, ho⟩ := I'.hok l _ (s0 _ _ hl)
    obtain ⟨u, rfl, ru⟩ := vals1 r
    obtain rfl : u = Value.ref a := ru
    obtain ⟨_, its, k2, r, ho2⟩ := I'.hok m' _ (s0 _ _ hm)
    obtain ⟨u, rfl, ru⟩ := vals1 r
    obtain rfl : u = Value.ref b := ru
    exact ⟨⟨k, ho⟩, ⟨k2, ho2⟩⟩
  obtain ⟨⟨k, ho⟩, ⟨k2, ho2⟩⟩ := back s H I (Same.refl H)
  show wpAny (model X.prog X.w) X.A (richCompare .Eq (.ref l) (.ref m')) (EP X pins σ Q) X.xe s
  refine rc_eqL1 hr.units0 ho ho2 ?_
  by_cases e : a = b
  · subst e
    exact SeqAt.EqAt.same (A := X.A.in1) (s := s) (.ref a) X.prog X.w X.xe _ ⟨⟨k, ho⟩, ⟨k2, ho2⟩, .bl true, H, I, rfl, q1 rfl⟩
  · refine GQ.eqBool_refG e (wpAny_mono (rc_eqO F hb m (Sub.in1 ⟨hr, rfl⟩) I ha hb' (Q := fun c H' => Same H H' ∧ Q (.bl c) H') (q2 e)) (fun v s' hq => ?_) fun _ _ z => z)
    obtain ⟨c, rfl, H', I', s1, q⟩ := hq
    obtain ⟨b1, b2⟩ := back s' H' I' s1
    exact ⟨c, rfl, b1, b2, .bl c, H', I', rfl, q⟩
end
end Wl

/-! bool(x), x of an own class with a __len__ of its own -/
namespace Wl
open PySem PySem.Spec PyProof.Rows L2
section
variable {prog : Program} {w : World} {A : Around} {E : Value → Shared → Prop} {s : Shared} {K : PySem.W.Frag} {x C f : Addr} {ox : Obj} {od : Option Obj}
theorem truthy_len {Q : Bool → Shared → Prop} (X : K.In s.heap) (I : PySem.W.InstAt s.heap x ox C od) (hb : PySem.W.findIn K (.ref C) "__bool__" = some none) (hs : PySem.W.findIn K (.ref C) "__len__" = some (some (.ref f))) (hf : PySem.W.isFn K (.ref f) = true)
    (h : wpAny (model prog w) A.in1 (call (.ref f) [.ref x]) (fun r s' => ∃ (n : Nat) (t : Tok), r = .int (n : Int) t ∧ n < 2 ^ 62 ∧ ∀ k, Q (n != 0) { s' with toks := k }) E s) : wpAny (model prog w) A (truthy (.ref x)) Q E s := by
  unfold truthy
  refine wpAny_bind (m := callSpecial? (.ref x) (Str.ofString "__bool__")) (wpAny_bind (wpAny_bind (I.type.here ((PySem.W.looks_findIn X hb).here (wpAny_pure ?_)))))
  refine wpAny_bind (wpAny_bind (I.type.here ((PySem.W.looks_findIn X hs).here ?_)))
  show wpAny _ _ (if (some (Value.ref f)).isNone = true then _ else _) _ _ _
  rw [if_neg (by simp)]
  refine wpAny_bind (m := runValue (.builtin "len" ⟨[.ref x], []⟩)) (wpAny_runValue (codeAny_builtin entry_len ?_))
  rw [Around.under_plainId plain_len _]
  unfold Builtin.«len»
  refine wpAny_bind (m := oneArg "len" _) (wpAny_pure ?_)
  refine wpAny_bind (m := callSpecial? (.ref x) (Str.ofString "__len__")) (PySem.W.special_fn X I hs (beq_iff_eq.mp hf) (wpAny_mono h (fun r s' hr => ?_) fun _ _ y => y))
  obtain ⟨n, t, rfl, hn, q⟩ := hr
  refine wpAny_bind (wpAny_holding (wpAny_pure ?_))
  refine wpAny_bind (wpAny_letGo ?_)
  show wpAny _ _ (if (n : Int) < 0 then _ else _) _ _ _
  rw [if_neg (by omega)]
  show wpAny _ _ (if (n : Int) ≥ 2 ^ 63 then _ else _) _ _ _
  rw [if_neg (by omega)]
  refine wpAny_bind (wpAny_mkInt (wpAny_pure ?_))
  refine wpAny_pure ?_
  have e : (((n : Int)) != 0) = (n != 0) := by
    cases n with
    | zero => rfl
    | succ k => simp; omega
  rw [e]
  exact q _
open PySem.Sem (wp) in
theorem bool_new : MeetsIn prog w (Builtin.«bool.__new__» ⟨[.type "bool", .ref x], []⟩) (fun A R s => wpAny (model prog w) A.in1 (truthy (.ref x)) (fun b s' => R (.ok (.ret (.bool b))) s') (fun e s' => R (.error e) s') s) := fun A R s h => by
  have f1 := F.conv_sub_bool
  unfold Builtin.«bool.__new__»
  refine wpAny_bind (wpAny_pure ?_)
  refine wpAny_bind (m := isSubtype (.type "bool") (.type "bool")) ?_
  rw [f1]
  refine wpAny_pure ?_
  refine wpAny_bind (m := someArgs "bool" 0 1 _) (wpAny_pure ?_)
  exact wpAny_bind (wpAny_mono h (fun b s' q => wpAny_pure q) fun _ _ e => e)
end
section
variable {X : Cx} {n : Nat} {f : Addr} {fd : FuncData} {ps : List Str} {sp : Sp} {C : Addr}
/-- bool(o) -/
def rBoolO (C : Addr) (sp : Sp) : List V → Hp → VK → Prop := fun xs H Q => ∃ a dx fs, xs = [V.ref a] ∧ H a = some (.ins C dx fs) ∧ sp [.ref a] H (fun v H' => ∃ k : Nat, v = .int (k : Int) ∧ k < 2 ^ 62 ∧ Q (.bl (k != 0)) H') E0
theorem cr_boolO (F : FnOk X.prog X.w X.K X.mg X.base CX0 n f fd ps sp) (hb : Binds X.K fd ps []) (m : Meth X.K C "__len__" f) (nb : PySem.W.findIn X.K (.ref C) "__bool__" = some none) (hr : Room (n + 3) X.A) : CallR X (.type "bool") (rBoolO C sp) := by
  intro pins s σ H xs us Q I r h
  obtain ⟨a, dx, fs, rfl, ha, hsp⟩ := h
  obtain ⟨u, rfl, ru⟩ := vals1 r
  obtain rfl : u = Value.ref a := ru
  obtain ⟨mA, J, _⟩ := ins_get I.hok ha
  obtain ⟨od, J, _⟩ := J.look
  refine callType_newIn PySem.F.called_bool PySem.F.newNe_bool (PySem.F.typeCall_bool_1 _) (PySem.F.newCall_bool_1 _) (fun obj => PySem.F.args_object_init_2 obj _) PySem.F.entry_bool_new bool_new ?_
  refine truthy_len I.kIn J nb m.at_ m.fn (wpAny_mono (run_own F hb (Sub.in1 (Sub.in1 (Sub.in1 ⟨hr, rfl⟩))) I (v1 a) hsp) (fun v s' hq => ?_) fun _ _ z => z)
  obtain ⟨z, H', I', rz, k, rfl, hk, q⟩ := hq
  obtain ⟨t, rfl⟩ := rz
  exact ⟨k, t, rfl, hk, fun tk => ⟨rfl, .bl (k != 0), H', I'.tok _, rfl, q⟩⟩
end
end Wl

/-! sorted(a list of things told by data), and when two such lists are sorted alike -/
namespace Wl
open PySem PySem.Spec PyProof.Rows L2
theorem each_pairs {α β : Type} {R : α → β → Prop} : ∀ {as : List α} {bs : List β}, Each R as bs → ∃ zs : List (α × β), zs.map (·.1) = as ∧ zs.map (·.2) = bs ∧ ∀ z ∈ zs, R z.1 z.2
  | _, _, .nil => ⟨[], rfl, rfl, fun z h => by cases h⟩
  | _, _, .cons (a := a) (b := b) r t => by
    obtain ⟨zs, h1, h2, h3⟩ := each_pairs t
    refine ⟨(a, b) :: zs, by rw [List.map_cons, h1], by rw [List.map_cons, h2], fun z hz => ?_⟩
    rcases List.mem_cons.mp hz with rfl | hz
    · exact r
    · exact h3 z hz
theorem pairs_each {α β : Type} {R : α → β → Prop} : ∀ (zs : List (α × β)), (∀ z ∈ zs, R z.1 z.2) → Each R (zs.map (·.1)) (zs.map (·.2))
  | [], _ => .nil
  | z :: zs, h => .cons (h z List.mem_cons_self) (pairs_each zs fun y hy => h y (List.mem_cons_of_mem _ hy))
def sortE {β : Type} (enc : β → PyData) (bs : List β) : List β := bs.mergeSort (PySem.W.dataLe false enc)
section
variable {β : Type} {enc : β → PyData}
theorem sortE_ind {enc : β → PyData} (bs : List β) : (sortE enc bs).Perm bs := List.mergeSort_perm _ _
theorem le_enc (a b : β) : PySem.W.dataLe false enc a b = !PyProof.Rows.lexLt PyProof.Rows.itemOrd (PySem.W.keyToks (enc b)) (PySem.W.keyToks (enc a)) := by
  rw [PySem.W.dataLe_eq]
  rfl
theorem le_tr (a b c : β) (h1 : PySem.W.dataLe false enc a b = true) (h2 : PySem.W.dataLe false enc b c = true) : PySem.W.dataLe false enc a c = true := by
  rw [le_enc, Bool.not_eq_true'] at h1 h2 ⊢
  cases e : PyProof.Rows.lexLt PyProof.Rows.itemOrd (PySem.W.keyToks (enc c)) (PySem.W.keyToks (enc a)) with
  | false => rfl
  | true =>
    rcases PyProof.Rows.lex_negTrans _ (PySem.W.keyToks (enc b)) _ e with z | z
    · rw [h2] at z
      cases z
    · rw [h1] at z
      cases z
theorem le_tot (a b : β) : (PySem.W.dataLe false enc a b || PySem.W.dataLe false enc b a) = true := by
  rw [le_enc, le_enc]
  cases e : PyProof.Rows.lexLt PyProof.Rows.itemOrd (PySem.W.keyToks (enc b)) (PySem.W.keyToks (enc a)) with
  | false => rfl
  | true =>
    cases e2 : PyProof.Rows.lexLt PyProof.Rows.itemOrd (PySem.W.keyToks (enc a)) (PySem.W.keyToks (enc b)) with
    | false => rfl
    | true =>
      have := PyProof.Rows.lex_trans _ _ _ e e2
      rw [PyProof.Rows.lex_irrefl] at this
      cases this
theorem le_anti (inj : ∀ a b : β, PySem.W.keyToks (enc a) = PySem.W.keyToks (enc b) → a = b) (a b : β) (h1 : PySem.W.dataLe false enc a b = true) (h2 : PySem.W.dataLe false enc b a = true) : a = b := by
  rw [le_enc, Bool.not_eq_true'] at h1 h2
  exact inj a b (PyProof.Rows.lex_total _ _ h2 h1)
theorem sorted_same {le : β → β → Bool} (anti : ∀ a b : β, le a b = true → le b a = true → a = b) : ∀ {l m : List β}, l.Pairwise (fun a b => le a b = true) → m.Pairwise (fun a b => le a b = true) → l.Perm m → l = m
  | [], m, _, _, p => p.nil_eq
  | a :: l, [], _, _, p => absurd p.symm.nil_eq (by simp)
  | a :: l, b :: m, h1, h2, p => by
    have e : a = b := by
      have ha : a ∈ b :: m := p.mem_iff.mp List.mem_cons_self
      have hb : b ∈ a :: l := p.mem_iff.mpr List.mem_cons_self
      rcases List.mem_cons.mp ha with e | ha
      · exact e
      · rcases List.mem_cons.mp hb with e | hb
        · exact e.symm
        · exact anti a b ((List.pairwise_cons.mp h1).1 b hb) ((List.pairwise_cons.mp h2).1 a ha)
    subst e
    rw [sorted_same anti (List.pairwise_cons.mp h1).2 (List.pairwise_cons.mp h2).2 (List.Perm.cons_inv p)]
theorem sortE_perm (inj : ∀ a b : β, PySem.W.keyToks (enc a) = PySem.W.keyToks (enc b) → a = b) {l m : List β} : sortE enc l = sortE enc m ↔ l.Perm m := by
  refine ⟨fun e => ?_, fun p => ?_⟩
  · have h1 := sortE_ind (enc := enc) l
    have h2 := sortE_ind (enc := enc) m
    rw [e] at h1
    exact h1.symm.trans h2
  · refine sorted_same (le := PySem.W.dataLe false enc) (le_anti inj) (List.pairwise_mergeSort le_tr le_tot l) (List.pairwise_mergeSort le_tr le_tot m) ?_
    exact (sortE_ind l).trans (p.trans (sortE_ind m).symm)
/-- sorted(xs) -/
theorem sort_enc {K : PySem.W.Frag} {H : Hp} {Q : VK} {a : Addr} {xs : List V} {bs : List β} (h : SqL K H a xs) (hd : Each (fun x b => Dp K H x (enc b)) xs bs) (al : ∀ b b' : β, PySem.W.alike (enc b) (enc b') = true) (sb : ∀ b, ∃ x r, enc b = .tuple (x :: r)) (dep : ∀ b, (enc b).depth ≤ 8)
    (q : ∀ p ys, H p = none → (∀ R : V → β → Prop, Each R xs bs → Each R ys (sortE enc bs)) → Q (.ref p) (upd H p (.lst ys))) : rSortD K [.ref a] H Q := by
  obtain ⟨zs, e1, e2, hz⟩ := each_pairs hd
  refine ⟨a, zs.map fun z => (z.1, enc z.2), rfl, ?_, ?_, ?_, ?_, ?_, fun p hp => ?_⟩
  · rw [List.map_map]
    exact e1 ▸ h
  · intro b hb
    obtain ⟨z, hzm, rfl⟩ := List.mem_map.mp hb
    exact hz z hzm
  · intro d hd e he
    obtain ⟨b, hb, rfl⟩ := List.mem_map.mp hd
    obtain ⟨x, _, rfl⟩ := List.mem_map.mp hb
    obtain ⟨c, hc, rfl⟩ := List.mem_map.mp he
    obtain ⟨y, _, rfl⟩ := List.mem_map.mp hc
    exact al _ _
  · refine .inl fun d hd => ?_
    obtain ⟨b, hb, rfl⟩ := List.mem_map.mp hd
    obtain ⟨x, _, rfl⟩ := List.mem_map.mp hb
    exact sb _
  · intro b hb
    obtain ⟨x, _, rfl⟩ := List.mem_map.mp hb
    exact dep _
  · have m1 : (zs.mergeSort fun x y => PySem.W.dataLe false enc x.2 y.2).map (fun z => (z.1, enc z.2)) = (zs.map fun z => (z.1, enc z.2)).mergeSort (PySem.W.dataLe false (·.2)) := List.map_mergeSort fun x _ y _ => by
      rw [PySem.W.dataLe_eq, PySem.W.dataLe_eq]
    have m2 : (zs.mergeSort fun x y => PySem.W.dataLe false enc x.2 y.2).map (·.2) = (zs.map (·.2)).mergeSort (PySem.W.dataLe false enc) := List.map_mergeSort fun x _ y _ => rfl
    rw [← m1, List.map_map]
    refine q p _ hp fun R hR => ?_
    have hall : ∀ z ∈ zs, R z.1 z.2 := by
      have : ∀ (zs : List (V × β)), Each R (zs.map (·.1)) (zs.map (·.2)) → ∀ z ∈ zs, R z.1 z.2 := by
        intro zs
        induction zs with
        | nil => intro _ z hz; cases hz
        | cons y ys ih =>
          intro h z hz
          cases h with
          | cons r t =>
            rcases List.mem_cons.mp hz with rfl | hz
            · exact r
            · exact ih t z hz
      rw [← e1, ← e2] at hR
      exact this zs hR
    have e3 := pairs_each (R := R) (zs.mergeSort fun x y => PySem.W.dataLe false enc x.2 y.2) fun z hzm => hall z (List.mem_mergeSort.mp hzm)
    rw [m2, e2] at e3
    exact e3
end
end Wl

namespace Wl
open PySem PySem.Spec PyProof.Rows L2
/-- one promise or another -/
def spOr (a b : Sp) : Sp := fun vs H Q E => a vs H Q E ∨ b vs H Q E
theorem FnOk.or2 {P : Program} {w : World} {K : PySem.W.Frag} {mg : Str → Option Value} {base : Heap} {CX : CXT} {k : Nat} {f : Addr} {fd : FuncData} {ps : List Str} {sp sp' : Sp} (F : FnOk P w K mg base CX k f fd ps sp) (F' : FnOk P w K mg base CX k f fd ps sp') : FnOk P w K mg base CX k f fd ps (spOr sp sp') :=
  ⟨fun vs H Q E h => h.elim (F.len vs H Q E) (F'.len vs H Q E), fun A outer s H args us vs Q E hr he hb hv hs => hs.elim (F.run A outer s H args us vs Q E hr he hb hv) (F'.run A outer s H args us vs Q E hr he hb hv)⟩
abbrev sGEq : Stmt := inClass (topS 39) 10
/-- things of built-in kinds are no objects of the class -/
structure KitNo (K : PySem.W.Frag) (C : Addr) : Prop where
  non : PySem.W.kitOne K (.type "NoneType") (.ref C) = some false
  bl : PySem.W.kitOne K (.type "bool") (.ref C) = some false
  int : PySem.W.kitOne K (.type "int") (.ref C) = some false
  str : PySem.W.kitOne K (.type "str") (.ref C) = some false
  lst : PySem.W.kitOne K (.type "list") (.ref C) = some false
  tup : PySem.W.kitOne K (.type "tuple") (.ref C) = some false
  dK : PySem.W.kitOne K (.type "dict") (.ref C) = some false
theorem KitNo.at {K : PySem.W.Frag} {C : Addr} {H : Hp} {y : V} {T : String} (k : KitNo K C) (o : OthV H y T) : PySem.W.kitOne K (.type T) (.ref C) = some false := by
  cases o with
  | non => exact k.non
  | bl b => exact k.bl
  | int i => exact k.int
  | str z => exact k.str
  | lst e => exact k.lst
  | tup e => exact k.tup
  | dK e => exact k.dK
section
variable {P : Program} {w : World} {K : PySem.W.Frag} {mg : Str → Option Value} {base : Heap} {f C D W : Addr} {fd : FuncData}
/-- == of a thing that is none of the class -/
def spEqX (K : PySem.W.Frag) (C : Addr) : Sp := fun vs H Q _ => ∃ (p : Addr) (y : V) (t : Value), vs = [.ref p, y] ∧ TyX K H y t ∧ PySem.W.kitOne K t (.ref C) = some false ∧ Q (.bl false) H
theorem ok_leqx (F : Fun K "__eq__" "Land.__eq__" sEq f fd) (B : Bi mg) (T : Txt2 K mg C) : FnOk P w K mg base CX0 1 f fd ["self", "other"] (spEqX K C) := by
  refine F.ok scEq (fun vs H Q E h => ?_) (fun cdv A outer s H vs Q E hr h => ?_)
  · obtain ⟨p, y, t, rfl, _⟩ := h
    rfl
  · obtain ⟨p, y, t, rfl, ty, k, q⟩ := h
    refine ⟨_, pss_one (ps_ret (pe_and (pe_callB call_isi (by rfl) B.isi (by decide +kernel) (pa_cons (pv 1) (pa_cons (pe_glob (v := .ref C) rfl T.t.mgC rfl) pa_nil))) (pe_one (pe_cmpR (op_eqD hr.units) (pe_fld (pv 0) rfl) (pe_fld (pv 1) rfl) (nomark _))))), ?_⟩
    exact ⟨_, rfl, _, _, _, _, _, rfl, .own C, ty, k, false, rfl, iteF q⟩
theorem scGEq : FnScope ["self", "other"] ["self", "other"] (defScope sGEq) := ⟨rfl, rfl, rfl, by decide +kernel, rfl, by decide +kernel, by decide +kernel⟩
theorem ok_geqx (F : Fun K "__eq__" "Gathering.__eq__" sGEq f fd) (B : Bi mg) (T : TxtG K mg D) : FnOk P w K mg base CX0 1 f fd ["self", "other"] (spEqX K D) := by
  refine F.ok scGEq (fun vs H Q E h => ?_) (fun cdv A outer s H vs Q E hr h => ?_)
  · obtain ⟨p, y, t, rfl, _⟩ := h
    rfl
  · obtain ⟨p, y, t, rfl, ty, k, q⟩ := h
    refine ⟨_, pss_one (ps_ret (pe_and (pe_callB call_isi (by rfl) B.isi (by decide +kernel) (pa_cons (pv 1) (pa_cons (pe_glob (v := .ref D) rfl T.mgD rfl) pa_nil))) (pe_and (pe_cmpR (op_eqD hr.units) (pe_fld (pv 0) rfl) (pe_fld (pv 1) rfl) (nomark _)) (pe_one (pe_cmpR (op_eqD hr.units) (pe_callB (cr_sortD hr.units) (by rfl) B.sorted (by decide +kernel) (pa_cons (pe_fld (pv 0) rfl) pa_nil)) (pe_callB (cr_sortD hr.units) (by rfl) B.sorted (by decide +kernel) (pa_cons (pe_fld (pv 1) rfl) pa_nil)) (nomark _)))))), ?_⟩
    exact ⟨_, rfl, _, _, _, _, _, rfl, .own D, ty, k, false, rfl, iteF q⟩
end
end Wl


namespace Wl
open PySem PySem.Spec PyProof.Rows L2
section
variable {P : Program} {w : World} {K : PySem.W.Frag} {mg : Str → Option Value} {base : Heap} {f C D W : Addr} {fd : FuncData}
/-- two classes, neither a kind of the other -/
structure Apart2 (K : PySem.W.Frag) (C D : Addr) : Prop where
  s1 : PySem.W.notFirst K C (.ref D) = true
  s2 : PySem.W.notFirst K D (.ref C) = true
  k1 : PySem.W.kitOne K (.ref D) (.ref C) = some false
  k2 : PySem.W.kitOne K (.ref C) (.ref D) = some false
theorem ins_ty {H : Hp} {a dx : Addr} {fs : List (Str × V)} (c : C8.InsC K C) (h : H a = some (.ins C dx fs)) : TyX K H (.ref a) (.ref C) := .base (.ins h c.cl c.ha c.hn c.htk c.hm)
theorem any_false {α : Type} (xs : List α) : (xs.map fun _ => false).any id = false := by
  rw [List.any_map]
  simp
end
end Wl


namespace Wl
open PySem PySem.Spec PyProof.Rows L2
theorem rows_true : ∀ {xs zs : List V}, Each (fun (x z : V) => z = V.bl true) xs zs → zs = (xs.map fun _ => true).map V.bl
  | [], [], _ => rfl
  | [], _ :: _, h => nomatch h
  | _ :: _, [], h => nomatch h
  | x :: xs, z :: zs, .cons e t => by
    rw [e, rows_true t]
    rfl
theorem all_true {α : Type} (xs : List α) : ((xs.map fun _ => true).all id) = true := by
  rw [List.all_map]
  simp
section
variable {P : Program} {w : World} {K : PySem.W.Frag} {mg : Str → Option Value} {base : Heap} {f C D W : Addr} {fd : FuncData}
/-! ### is it due -/
/-! ### two Lands -/
abbrev spLE (K : PySem.W.Frag) (C : Addr) : Sp := spOr (spLEq C) (spEqX K C)
theorem le_land {C : Addr} {H : Hp} {p L q M : Addr} {g g' : Grid} {wd wd' : Nat} {Q : VK} {E : XK} (h1 : LandAt C H p L g) (gd : Good g wd) (h2 : LandAt C H q M g') (gd' : Good g' wd') (h : Q (.bl (decide (g = g'))) H) : spLE K C [.ref p, .ref q] H Q E := .inl ⟨p, L, q, M, g, g', wd, wd', rfl, h1, gd, h2, gd', h⟩
end
end Wl


namespace Wl
open PySem PySem.Spec PyProof.Rows L2
abbrev sGTell : Stmt := inClass sGat 6
section
variable {P : Program} {w : World} {K : PySem.W.Frag} {mg : Str → Option Value} {base : Heap} {f C D : Addr} {fd : FuncData}
/-! ### tellings, as put in -/
abbrev FunT (K : PySem.W.Frag) (f : Addr) (fd : FuncData) : Prop := FunD K "tellings" "Gathering.tellings" (defArgs sGTell) (defBody sGTell) (defScope sGTell) [.non] [] f fd
def spTell (C D : Addr) : Sp := fun vs H Q _ => ∃ (p : Addr) (r : GR), vs = [.ref p, .non] ∧ GatAt C D H p r ∧ ∀ (l : Addr), H l = none → Q (.ref l) (upd H l (.lst (r.as.map V.ref)))
theorem scTell : FnScope ["self", "keying"] ["self", "keying"] (defScope sGTell) := ⟨rfl, rfl, rfl, by decide +kernel, rfl, by decide +kernel, by decide +kernel⟩
theorem tell_b1 (F : FunT K f fd) : ∃ ds, Vals [V.non] ds ∧ Binds K fd ["self", "keying"] ds :=
  F.binds1 (ps := ["self", "keying"]) 1 0 (by simp) rfl (fun T kV doc pm an cdv ct us its l1 l2 => by
      match us, its, l1, l2 with
      | [_], [_], _, _ => exact ⟨_, rfl, rfl⟩)
theorem ok_tell (F : FunT K f fd) (B : Bi mg) (TG : TxtG K mg D) : FnOk P w K mg base CX0 1 f fd ["self", "keying"] (spTell C D) := by
  refine okD F scTell (fun vs H Q E h => ?_) (fun cdv A outer s H vs Q E hr h => ?_)
  · obtain ⟨p, r, rfl, _⟩ := h
    rfl
  · obtain ⟨p, r, rfl, hG, q⟩ := h
    refine ⟨_, pss_cons (ps_if (pt_cmp (pc_isN (pv 1))) (pss_one (ps_ret (pe_callTy call_list_of (by rfl) B.list (by decide +kernel) (pa_cons (pe_fld (pv 0) rfl) pa_nil)))) pss_nil) (pss_one ps_never), ?_⟩
    obtain ⟨dx, hp⟩ := hG.at_
    exact ⟨_, rfl, _, rfl, iteT ⟨_, rfl, p, D, dx, _, _, rfl, hp, TG.cl, TG.nT, gf_told _ _ _, r.td, _, rfl, .inl (.inl (.inl hG.told)), q⟩⟩
/-! ### check_gathering -/
/-! ### summed_up -/
end
end Wl



namespace Wl
open PySem PySem.Spec PyProof.Rows L2
def telD (t : Tel) : PyData := .tuple [.str t.v, .str t.th, .str t.wo, .str t.tl, .int (t.age : Int), .str t.g, .bool t.sure]
theorem tel_inj (t u : Tel) (h : PySem.W.keyToks (telD t) = PySem.W.keyToks (telD u)) : t = u := by
  cases t with
  | mk v th wo tl age g sure =>
    cases u with
    | mk v' th' wo' tl' age' g' sure' =>
      simp only [telD, PySem.W.keyToks, PySem.W.keyToksAll, List.cons_append, List.nil_append, List.cons.injEq, Sum.inl.injEq, Sum.inr.injEq, true_and, and_true] at h
      obtain ⟨h1, h2, h3, h4, h5, h6, h7⟩ := h
      have s1 := str_ext h1
      have s2 := str_ext h2
      have s3 := str_ext h3
      have s4 := str_ext h4
      have s5 : age = age' := by omega
      have s6 := str_ext h6
      have s7 : sure = sure' := by
        revert h7
        cases sure <;> cases sure' <;> simp
      subst s1 s2 s3 s4 s5 s6 s7
      rfl
theorem tel_eqv (t u : Tel) : PyData.eqv (telD t) (telD u) = decide (t = u) := by
  cases t with
  | mk v th wo tl age g sure =>
    cases u with
    | mk v' th' wo' tl' age' g' sure' =>
      rw [Bool.eq_iff_iff]
      simp only [telD, PyData.eqv, PyData.eqvAll, Bool.and_eq_true, beq_iff_eq, decide_eq_true_eq, Tel.mk.injEq, and_true]
      constructor
      · rintro ⟨h1, h2, h3, h4, h5, h6, h7⟩
        exact ⟨h1, h2, h3, h4, by omega, h6, h7⟩
      · rintro ⟨h1, h2, h3, h4, h5, h6, h7⟩
        exact ⟨h1, h2, h3, h4, by omega, h6, h7⟩
theorem tels_eqv : ∀ ts us : List Tel, PyData.eqvAll (ts.map telD) (us.map telD) = decide (ts = us)
  | [], [] => by simp [PyData.eqvAll]
  | [], _ :: _ => by simp [PyData.eqvAll]
  | _ :: _, [] => by simp [PyData.eqvAll]
  | t :: ts, u :: us => by
    simp only [List.map_cons, PyData.eqvAll, tel_eqv, tels_eqv ts us, List.cons.injEq]
    by_cases h1 : t = u <;> by_cases h2 : ts = us <;> simp [h1, h2]
theorem tel_alike (t u : Tel) : PySem.W.alike (telD t) (telD u) = true := rfl
theorem tel_depth (t : Tel) : (telD t).depth ≤ 8 := by simp [telD, PyData.depth, PyData.depthAll]
theorem lay_tels : ∀ {ts : List Tel}, (∀ t ∈ ts, OkT t) → PyData.canLayAll0 (ts.map telD) = true
  | [], _ => by simp [PyData.canLayAll0]
  | t :: ts, h => by
    have o := h t List.mem_cons_self
    have h2 := lay_tels (ts := ts) fun u hu => h u (List.mem_cons_of_mem _ hu)
    simp [PyData.canLayAll0, telD, PyData.canLay0, wd_ok o.v, wd_ok o.th, wd_ok o.wo, wd_ok o.tl, wd_ok o.g, h2]
theorem depth_tels : ∀ ts : List Tel, PyData.depthAll (ts.map telD) ≤ 1
  | [] => by simp [PyData.depthAll]
  | t :: ts => by
    have := depth_tels ts
    simp only [List.map_cons, PyData.depthAll, telD, PyData.depth]
    omega
theorem shaped_tels {ts : List Tel} (h : ∀ t ∈ ts, OkT t) : SeqAt.shaped (.list (ts.map telD)) = true := shaped_list (lay_tels h) (by have := depth_tels ts; omega)
theorem dp_tel {K : PySem.W.Frag} {H : Hp} {p : Addr} {t : Tel} (h : H p = some (.tup (telV t))) : Dp K H (.ref p) (telD t) :=
  .tup (.inl (.inl h)) (.cons (.str _) (.cons (.str _) (.cons (.str _) (.cons (.str _) (.cons (.int _) (.cons (.str _) (.cons (.bl _) .nil)))))))
theorem dp_tels {K : PySem.W.Frag} {H : Hp} : ∀ {xs : List V} {ts : List Tel}, Each (fun (x : V) (t : Tel) => Dp K H x (telD t)) xs ts → DpAll K H xs (ts.map telD)
  | _, _, .nil => .nil
  | _, _, .cons r t => .cons r (dp_tels t)
theorem each_refs {H : Hp} : ∀ {as : List Addr} {ts : List Tel}, TelsAt H as ts → Each (fun (x : V) (t : Tel) => ∃ p, x = .ref p ∧ H p = some (.tup (telV t))) (as.map V.ref) ts
  | _, _, .nil => .nil
  | _, _, .cons r t => .cons ⟨_, rfl, r⟩ (each_refs t)
/-- told lists, sorted -/
theorem sort_tels {K : PySem.W.Frag} {H : Hp} {Q : VK} {a : Addr} {as : List Addr} {ts : List Tel} (h : H a = some (.lst (as.map V.ref))) (ht : TelsAt H as ts) (q : ∀ p ys, H p = none → Each (fun (x : V) (t : Tel) => ∃ p, x = .ref p ∧ H p = some (.tup (telV t))) ys (sortE telD ts) → Q (.ref p) (upd H p (.lst ys))) : rSortD K [.ref a] H Q := by
  have e := each_refs ht
  refine sort_enc (enc := telD) (.inl (.inl h)) (e.mono fun x t ⟨p, hx, hp⟩ => by rw [hx]; exact dp_tel hp) tel_alike (fun t => ⟨_, _, rfl⟩) tel_depth fun p ys hp hy => q p ys hp (hy _ e)
section
variable {P : Program} {w : World} {K : PySem.W.Frag} {mg : Str → Option Value} {base : Heap} {f C D : Addr} {fd : FuncData}
/-- == of two Gatherings -/
def spGEq (C D : Addr) : Sp := fun vs H Q _ => ∃ (p q : Addr) (r r' : GR) (wd wd' : Nat), vs = [.ref p, .ref q] ∧ GatAt C D H p r ∧ GatAt C D H q r' ∧ Good r.g wd ∧ Good r'.g wd' ∧ (∀ t ∈ r.ts, OkT t) ∧ (∀ t ∈ r'.ts, OkT t) ∧
  ∀ (b : Bool) (H' : Hp), (b = true ↔ r.g = r'.g ∧ r.ts.Perm r'.ts) → Same H H' → Q (.bl b) H'
theorem ok_geq (F : Fun K "__eq__" "Gathering.__eq__" sGEq f fd) (B : Bi mg) (TG : TxtG K mg D) (ins : C8.InsC K D) (hE : HasM P w K mg base C "__eq__" 1 ["self", "other"] (spLE K C)) : FnOk P w K mg base CX0 3 f fd ["self", "other"] (spGEq C D) := by
  obtain ⟨fE, fdE, FE, mE, bE⟩ := hE
  refine F.ok scGEq (fun vs H Q E h => ?_) (fun cdv A outer s H vs Q E hr h => ?_)
  · obtain ⟨p, q, r, r', wd, wd', rfl, _⟩ := h
    rfl
  · obtain ⟨p, q, r, r', wd, wd', rfl, h1, h2, gd, gd', o1, o2, qq⟩ := h
    refine ⟨_, pss_one (ps_ret (pe_and (pe_callB (C8.call_isC (C := D) ins) (by rfl) B.isi (by decide +kernel) (pa_cons (pv 1) (pa_cons (pe_glob (v := .ref D) rfl TG.mgD rfl) pa_nil))) (pe_and (pe_cmpR (op_eqO FE bE mE (hr.mono (by decide))) (pe_fld (pv 0) rfl) (pe_fld (pv 1) rfl) (nomark _)) (pe_one (pe_cmpR (op_eqD hr.units) (pe_callB (cr_sortD hr.units) (by rfl) B.sorted (by decide +kernel) (pa_cons (pe_fld (pv 0) rfl) pa_nil)) (pe_callB (cr_sortD hr.units) (by rfl) B.sorted (by decide +kernel) (pa_cons (pe_fld (pv 1) rfl) pa_nil)) (nomark _)))))), ?_⟩
    obtain ⟨dx, i1⟩ := h1.at_
    obtain ⟨dy, i2⟩ := h2.at_
    obtain ⟨dl, d1, l1⟩ := h1.land.ins
    obtain ⟨dl2, d2, l2⟩ := h2.land.ins
    refine ⟨_, rfl, q, dy, _, rfl, i2, true, rfl, iteT ⟨_, rfl, p, D, dx, _, _, rfl, i1, TG.cl, TG.nL, gf_land _ _ _, _, rfl, q, D, dy, _, _, rfl, i2, TG.cl, TG.nL, gf_land _ _ _, r.pl, dl, _, r'.pl, dl2, _, rfl, rfl, l1, l2, le_land h1.land gd h2.land gd' ⟨_, rfl, _, rfl, ?_⟩⟩⟩
    refine ite_b (fun e => ?_) (fun e => ?_)
    · refine ⟨_, rfl, p, D, dx, _, _, rfl, i1, TG.cl, TG.nT, gf_told _ _ _, ?_⟩
      unfold tNil
      refine sort_tels (K := K) h1.told h1.tels fun u ys hu ey => ?_
      have s1 := same_new (o := .lst ys) hu
      have hu' : upd H u (.lst ys) u = some (.lst ys) := upd_same
      generalize upd H u (.lst ys) = H1 at s1 hu' ⊢
      refine ⟨_, rfl, q, D, dy, _, _, rfl, s1 _ _ i2, TG.cl, TG.nT, gf_told _ _ _, ?_⟩
      refine sort_tels (K := K) (s1 _ _ h2.told) (h2.tels.keep (tk_same s1)) fun u2 ys2 hu2 ey2 => ?_
      have s2 := same_new (o := .lst ys2) hu2
      have hu2' : upd H1 u2 (.lst ys2) u2 = some (.lst ys2) := upd_same
      generalize upd H1 u2 (.lst ys2) = H2 at s2 hu2' ⊢
      have m1 : ∀ t ∈ sortE telD r.ts, OkT t := fun t ht => o1 t ((sortE_ind r.ts).mem_iff.mp ht)
      have m2 : ∀ t ∈ sortE telD r'.ts, OkT t := fun t ht => o2 t ((sortE_ind r'.ts).mem_iff.mp ht)
      refine ⟨.list ((sortE telD r.ts).map telD), .list ((sortE telD r'.ts).map telD), .lst (.inl (.inl (s2 _ _ hu'))) (dp_tels (ey.mono fun x t ⟨pt, hx, hp⟩ => by rw [hx]; exact dp_tel ((s1.trans s2) _ _ hp))), .lst (.inl (.inl hu2')) (dp_tels (ey2.mono fun x t ⟨pt, hx, hp⟩ => by rw [hx]; exact dp_tel (s2 _ _ hp))), shaped_tels m1, shaped_tels m2, qq _ H2 ?_ (s1.trans s2)⟩
      have eg : r.g = r'.g := of_decide_eq_true e
      show PyData.eqvAll ((sortE telD r.ts).map telD) ((sortE telD r'.ts).map telD) = true ↔ _
      rw [tels_eqv, decide_eq_true_eq, sortE_perm tel_inj]
      exact ⟨fun h => ⟨eg, h⟩, fun h => h.2⟩
    · refine qq _ H ?_ (Same.refl H)
      have eg : ¬ r.g = r'.g := of_decide_eq_false e
      constructor
      · intro h
        cases h
      · intro h
        exact absurd h.1 eg
abbrev spGE (K : PySem.W.Frag) (C D : Addr) : Sp := spOr (spGEq C D) (spEqX K D)
end
end Wl

namespace Wl
open PySem PySem.Spec PyProof.Rows L2
abbrev sLStrike : Stmt := topS 53
abbrev sLShown : Stmt := topS 55
abbrev sLTurned : Stmt := topS 56
abbrev sLFilled : Stmt := topS 57
abbrev sLUnlike : Stmt := topS 58
abbrev sLAlike : Stmt := topS 59
abbrev sLIsShown : Stmt := topS 60
abbrev sLaw : Stmt := topS 61
section
variable {P : Program} {w : World} {K : PySem.W.Frag} {mg : Str → Option Value} {base : Heap} {f C D : Addr} {fd : FuncData}
theorem strike_b5 (F : FunS K f fd) : Binds K fd psStrike [] := by
  obtain ⟨ds, h1, h2⟩ := F.binds1 (ps := psStrike) 5 1 (by simp) rfl (fun T kV doc pm an cdv ct us its l1 l2 => by
      match us, its, l1, l2 with
      | [_, _, _, _, _], [_], _, _ => exact ⟨_, rfl, rfl⟩)
  cases h1
  exact h2
def HasS (P : Program) (w : World) (K : PySem.W.Frag) (mg : Str → Option Value) (base : Heap) (C D : Addr) : Prop := ∃ f fd, FnOk P w K mg base CX0 3 f fd psStrike (spStrike C D) ∧ Meth K D "strike" f ∧ FunS K f fd
def HasT (P : Program) (w : World) (K : PySem.W.Frag) (mg : Str → Option Value) (base : Heap) (C D : Addr) : Prop := ∃ f fd, FnOk P w K mg base CX0 1 f fd ["self", "keying"] (spTell C D) ∧ Meth K D "tellings" f ∧ FunT K f fd
/-! ### struck by place -/
def spLStrike (C D : Addr) : Sp := fun vs H Q _ => ∃ (p kp : Addr) (r : GR) (t : Tel) (i : Nat), vs = [.ref p, .ref kp, .int 2] ∧ H kp = some (.tup (keyV t)) ∧ GatAt C D H p r ∧ (∀ u ∈ r.ts, OkT u) ∧ r.ts.length ≤ 200 ∧ r.ds.length < 1000 ∧ (r.ts.findIdx? fun u => decide (keyS u = keyS t)) = some i ∧ OkT t ∧
  ∀ (q pa : Addr) (H' : Hp), H q = none → r.as[i]? = some pa → Same2 r.td r.dd H H' → GatAt C D H' p (r.cut i q) → H' q = some (.tup [.int (i : Int), .ref pa]) → Q .non H'
abbrev psLStrike : List Str := ["_law_basket_here", "_law_key_here", "_law_way"]
theorem scLStrike : FnScope psLStrike psLStrike (defScope sLStrike) := ⟨rfl, rfl, rfl, by decide +kernel, rfl, by decide +kernel, by decide +kernel⟩
theorem ok_lstrike (F : Fun K "_law_strike" "_law_strike" sLStrike f fd) (TG : TxtG K mg D) (hS : HasS P w K mg base C D) : FnOk P w K mg base CX0 4 f fd psLStrike (spLStrike C D) := by
  obtain ⟨fS, fdS, FS, mS, fnS⟩ := hS
  have b5 := strike_b5 fnS
  refine F.ok scLStrike (fun vs H Q E h => ?_) (fun cdv A outer s H vs Q E hr h => ?_)
  · obtain ⟨p, kp, r, t, i, rfl, _⟩ := h
    rfl
  · obtain ⟨p, kp, r, t, i, rfl, hk, hG, hok, h200, hds, hf, okt, q⟩ := h
    refine ⟨_, pss_cons (ps_if (PW.pt (pw_and (pt_cmpR op_eq (pv 2) pe_int (nomark _)) (pw_and1 (pt_cmpR op_eq (pe_ix ix_tup (pv 1) pe_int (fun _ _ => rfl)) pe_str (nomark _))))) (pss_one ps_never) pss_nil)
      (pss_cons (ps_if (pt_cmpR op_eq (pv 2) pe_int (nomark _)) (pss_one ps_never) pss_nil)
      (pss_one (ps_ret (pe_meth (pv 0) TG.cl mS FS hr b5 .nil pass0 (pa_cons (pe_ix ix_tup (pv 1) pe_int (fun _ _ => rfl)) (pa_cons (pe_ix ix_tup (pv 1) pe_int (fun _ _ => rfl)) (pa_cons (pe_ix ix_tup (pv 1) pe_int (fun _ _ => rfl)) (pa_cons (pe_ix ix_tup (pv 1) pe_int (fun _ _ => rfl)) pa_nil)))))))), ?_⟩
    obtain ⟨dx, hp⟩ := hG.at_
    refine ⟨_, rfl, rfl, _, rfl, iteF (iteF ⟨_, rfl, rfl, _, rfl, iteF ?_⟩)⟩
    refine ⟨_, rfl, p, dx, _, rfl, hp, gf_no _ _ _, _, rfl, kp, _, _, _, rfl, rfl, .inl (.inl hk), atI_nat (j := 0) rfl, _, rfl, kp, _, _, _, rfl, rfl, .inl (.inl hk), atI_nat (j := 1) rfl, _, rfl, kp, _, _, _, rfl, rfl, .inl (.inl hk), atI_nat (j := 2) rfl, _, rfl, kp, _, _, _, rfl, rfl, .inl (.inl hk), atI_nat (j := 3) rfl, p, r, t, i, rfl, hG, hok, h200, hds, hf, okt, q⟩
/-! ### a Gathering of these -/
def spFilled (C D : Addr) : Sp := fun vs H Q _ => ∃ (L kp : Addr) (g : Grid) (wd : Nat) (bs : List Addr) (ts : List Tel), vs = [.ref L, .ref kp] ∧ GridAt H L g ∧ Good g wd ∧ KeptAt H kp bs ts ∧ (∀ t ∈ ts, OkT t) ∧ (∀ t ∈ ts, t.v ∈ names g) ∧ (ts.map keyS).Nodup ∧ ts.length ≤ 100 ∧
  ∀ (p : Addr) (r : GR) (H' : Hp), Same H H' → GatAt C D H' p r → r.g = g → r.ts = ts → H r.td = none → H r.dd = none → Q (.ref p) H'
abbrev nLFilled : List Str := ["_law_lots", "_law_kept", "_law_basket_here", "_law_row_here"]
abbrev psLFilled : List Str := ["_law_lots", "_law_kept"]
theorem scLFilled : FnScope nLFilled psLFilled (defScope sLFilled) := ⟨rfl, rfl, rfl, by decide +kernel, rfl, by decide +kernel, by decide +kernel⟩
theorem ok_lfilled (F : Fun K "_law_filled" "_law_filled" sLFilled f fd) (T : Txt K mg C) (TG : TxtG K mg D) (hI : HasI P w K mg base C) (hGi : HasG P w K mg base C D) (hPut : Has P w K mg base "_law_put" 5 ["_law_basket_here", "_law_row_here", "_law_way"] (spLPut C D)) : FnOk P w K mg base CX0 6 f fd psLFilled (spFilled C D) := by
  obtain ⟨fI, fdI, MI, GI, bI⟩ := hI
  obtain ⟨fG, fdG, MG, GG, bG⟩ := hGi
  refine F.ok scLFilled (fun vs H Q E h => ?_) (fun cdv A outer s H vs Q E hr h => ?_)
  · obtain ⟨L, kp, g, wd, bs, ts, rfl, _⟩ := h
    rfl
  · obtain ⟨L, kp, g, wd, bs, ts, rfl, hGr, gd, hk, hok, hvs, hnd, h100, q⟩ := h
    refine ⟨_, pss_cons (ps_set (i := 2) scLFilled.nd rfl (.inl rfl) (pe_make MG GG (hr.mono (by decide)) rfl TG.mgD bG .nil pass0 (pa_cons (pe_make MI GI (hr.mono (by decide)) rfl T.mgC bI .nil pass0 (pa_cons (pv 0) pa_nil)) pa_nil)))
      (pss_cons (ps_for PassesOwn.never rfl (pi_list (pv 1)) (pg_name (i := 3) scLFilled.nd rfl (.inl rfl))
        (pss_one (ps_expr (pe_h hPut hr (pa_cons (pv 2) (pa_cons (pv 3) (pa_cons pe_int pa_nil)))))))
      (pss_one (ps_ret (pv 2)))), ?_⟩
    refine ⟨_, rfl, fun pl dl npl ndl nel => ?_⟩
    have kp1 : TupKeep H (upd (upd H dl (.own pl)) pl (.ins C dl [])) := fun b xs h => by
      rw [upd_ne (ne_of_none h npl), upd_ne (ne_of_none h ndl)]
      exact h
    refine ⟨pl, dl, L, g, wd, rfl, upd_same, hGr.keep kp1, gd, fun H1 k1 hLa1 => ⟨rfl, ?_⟩⟩
    have s1 := made_same npl ndl k1
    intro p dp np ndp nep
    have s2 : Same H1 (upd (upd H1 dp (.own p)) p (.ins D dp [])) := fun b o e => by
      rw [upd_ne (ne_of_none e np), upd_ne (ne_of_none e ndp)]
      exact e
    have npp : p ≠ pl := fun e => by
      obtain ⟨_, _, h1⟩ := hLa1.ins
      rw [← e, np] at h1
      cases h1
    refine ⟨p, dp, pl, L, g, rfl, upd_same, hLa1.same s2, npp, fun td dd H2 htd hdd k2 hG2 => ⟨rfl, ?_⟩⟩
    have s12 : Same H1 H2 := fun b o e => k2 b o (ne_of_none e np) (s2 b o e)
    have s02 := s1.trans s12
    have htd0 : H td = none := s1.free (s2.free htd)
    have hdd0 : H dd = none := s1.free (s2.free hdd)
    have lb : bs.length = ts.length := hk.tels.length
    refine ⟨_, rfl, kp, rfl, ⟨_, .inl (.inl (s02 _ _ hk.at_))⟩, for_list (K := K) (a := kp) (xs := bs.map V.ref) (fun i σ H' => (∃ y3, σ = [some (.ref L), some (.ref kp), some (.ref p), y3]) ∧ Same H H' ∧ ∃ r, GatAt C D H' p r ∧ r.g = g ∧ r.ts = ts.take i ∧ r.ds.length = i ∧ r.td = td ∧ r.dd = dd)
      ⟨⟨_, rfl⟩, s02, _, hG2, rfl, rfl, rfl, rfl, rfl⟩ (fun i σ H' _ h => .inl (.inl (h.2.1 _ _ hk.at_))) ?_ ?_⟩
    · rintro i x σ H3 hx ⟨⟨y3, rfl⟩, s3, r, hG3, rg, rt, rd, e1, e2⟩
      rw [List.getElem?_map] at hx
      obtain ⟨rp, hrp, rfl⟩ := Option.map_eq_some_iff.mp hx
      obtain ⟨t, ht, hH⟩ := Each.get hk.tels hrp
      have htm := List.mem_of_getElem? ht
      have hi : i < ts.length := (List.getElem?_eq_some_iff.mp ht).1
      refine ⟨_, rfl, _, rfl, p, rp, 4, r, wd, t, rfl, s3 _ _ hH, hG3, rg ▸ gd, fun u hu => hok u (List.mem_of_mem_take (rt ▸ hu)), hok t htm, by rw [rg]; exact hvs t htm, ?_, ?_, by omega, fun q' H4 nq s4 hG4 => ⟨⟨_, rfl⟩, ?_, _, hG4, rg, ?_, ?_, e1, e2⟩⟩
      · rw [rt]
        intro h
        obtain ⟨u, hu, eu⟩ := List.mem_map.mp h
        obtain ⟨j, hj, ej⟩ := List.mem_iff_getElem.mp hu
        have hj' : j < i := by
          rw [List.length_take] at hj
          omega
        rw [List.getElem_take] at ej
        have h1 : (ts.map keyS)[j]? = (ts.map keyS)[i]? := by
          rw [List.getElem?_map, List.getElem?_map, ht, List.getElem?_eq_getElem (by omega : j < ts.length), ej]
          exact congrArg some eu
        have := (List.getElem?_inj (by rw [List.length_map]; omega) hnd).mp h1
        omega
      · rw [rt, List.length_take]
        omega
      · intro b o e
        refine s4 b o (fun z => ?_) (fun z => ?_) (s3 b o e)
        · rw [z, e1] at e
          rw [htd0] at e
          cases e
        · rw [z, e2] at e
          rw [hdd0] at e
          cases e
      · show r.ts ++ [t] = ts.take (i + 1)
        rw [rt, List.take_add_one, ht]
        rfl
      · show (r.ds ++ [V.non]).length = i + 1
        rw [List.length_append, rd]
        rfl
    · rintro σ H3 ⟨⟨y3, rfl⟩, s3, r, hG3, rg, rt, _, e1, e2⟩
      refine ⟨_, rfl, q p r H3 s3 hG3 rg ?_ (by rw [e1]; exact htd0) (by rw [e2]; exact hdd0)⟩
      rw [rt, List.length_map, lb, List.take_length]
end
end Wl

namespace Wl
open PySem PySem.Spec PyProof.Rows L2
theorem joinL_app (s : List Nat) : ∀ (ps qs : List (List Nat)), ps ≠ [] → TL.joinL s (ps ++ qs) = TL.joinL s (TL.joinL s ps :: qs)
  | [], _, h => absurd rfl h
  | [p], [], _ => by simp [TL.joinL]
  | [p], q :: r, _ => by simp [TL.joinL]
  | p :: q :: r, qs, _ => by
    have ih := joinL_app s (q :: r) qs (by simp)
    show p ++ (s ++ TL.joinL s (q :: r ++ qs)) = _
    rw [ih]
    cases qs with
    | nil => simp [TL.joinL]
    | cons x xs =>
      show p ++ (s ++ (TL.joinL s (q :: r) ++ (s ++ TL.joinL s (x :: xs)))) = (p ++ (s ++ TL.joinL s (q :: r))) ++ (s ++ TL.joinL s (x :: xs))
      simp
theorem join_app (s : Str) (ps qs : List Str) (h : ps ≠ []) : Txt.join s (ps ++ qs) = Txt.join s (Txt.join s ps :: qs) := by
  refine str_ext ?_
  have e1 := TL.tl_join s (ps ++ qs)
  have e2 := TL.tl_join s (Txt.join s ps :: qs)
  have e3 := TL.tl_join s ps
  rw [TL.join_eq s (ps ++ qs), TL.join_eq s ps, TL.join_eq]
  rw [List.map_append, joinL_app _ _ _ (by simpa using h)] at e1
  rw [List.map_cons, TL.join_eq, e3] at e2
  exact e1.trans e2.symm
theorem gat_lines (g : Grid) (ts : List Tel) (h : g ≠ []) : Txt.join ("\n" : Str) (g.map lineS ++ [("." : Str)] ++ ts.map rowS) = gatS g ts := by
  unfold gatS landS
  rw [List.append_assoc, join_app _ _ _ (by simpa using h)]
  rfl
section
variable {P : Program} {w : World} {K : PySem.W.Frag} {mg : Str → Option Value} {base : Heap} {f C D : Addr} {fd : FuncData}
def spLShown : Sp := fun vs H Q _ => ∃ (L kp : Addr) (g : Grid) (wd : Nat) (bs : List Addr) (ts : List Tel), vs = [.ref L, .ref kp] ∧ GridAt H L g ∧ Good g wd ∧ KeptAt H kp bs ts ∧ (∀ t ∈ ts, OkT t) ∧ ts.length ≤ 100 ∧ ∀ (H' : Hp), Same H H' → Q (.str (gatS g ts)) H'
abbrev nLShown : List Str := ["_law_lots", "_law_kept", "_law_lines", "_law_row_here", "_law_words", "_law_label"]
abbrev psLShown : List Str := ["_law_lots", "_law_kept"]
theorem scLShown : FnScope nLShown psLShown (defScope sLShown) := ⟨rfl, rfl, rfl, by decide +kernel, rfl, by decide +kernel, by decide +kernel⟩
theorem ok_lshown (F : Fun K "_law_shown" "_law_shown" sLShown f fd) (B : Bi mg) : FnOk P w K mg base CX0 1 f fd psLShown spLShown := by
  refine F.ok scLShown (fun vs H Q E h => ?_) (fun cdv A outer s H vs Q E hr h => ?_)
  · obtain ⟨L, kp, g, wd, bs, ts, rfl, _⟩ := h
    rfl
  · obtain ⟨L, kp, g, wd, bs, ts, rfl, ⟨as, hL, hR⟩, gd, hk, hok, h100, q⟩ := h
    refine ⟨_, pss_cons (ps_set (i := 2) scLShown.nd rfl (.inl rfl) (pe_lst pa_nil))
      (pss_cons (ps_for PassesOwn.never rfl (pi_tup (pv 0)) (pg_name (i := 3) scLShown.nd rfl (.inl rfl))
        (pss_one (ps_expr (pe_bm PySem.F.plainAttrs_list PySem.F.slot_list_append PySem.F.type_list_append mt_append (pv 2) (pa_cons (pe_join pe_str (pe_lc (own := [("_law_label", 5)]) (g := gName 5) (tt := tYes) (te := tOp (rIxL K) (tLst (tCons (tVar 5) (tCons (tC (.str "-")) tNil))) (tCB (fun xs H Q => (∃ i, xs = [.int i] ∧ Q (.int i) H) ∨ ∃ k, xs = [.bl k] ∧ Q (.int (if k then 1 else 0)) H) (tCons (tIsN (tVar 5)) tNil))) rfl scLShown.nd (pi_tup (pv 3)) (blkOk_by (N := nLShown) (sc := defScope sLShown) (by decide +kernel)) (fun _ _ _ _ _ => pg_name (i := 5) scLShown.nd rfl (.inl rfl)) (fun _ _ _ _ _ => pts_nil) (fun _ _ _ _ _ => pe_ix ix_list (pe_lst (pa_cons (pv 5) (pa_cons pe_str pa_nil))) (pe_callTy call_int1 (by rfl) B.int (by decide +kernel) (pa_cons (pe_cmp (pc_isN (pv 5)) rfl) pa_nil)) (fun _ _ => rfl)))) pa_nil)))))
      (pss_cons (ps_expr (pe_bm PySem.F.plainAttrs_list PySem.F.slot_list_append PySem.F.type_list_append mt_append (pv 2) (pa_cons pe_str pa_nil)))
      (pss_cons (ps_for PassesOwn.never rfl (pi_list (pv 1)) (pg_name (i := 3) scLShown.nd rfl (.inl rfl))
        (pss_cons (ps_set (i := 4) scLShown.nd rfl (.inl rfl) (pe_lst (pa_cons (pe_ix ix_tup (pv 3) pe_int (fun _ _ => rfl)) (pa_cons (pe_ix ix_tup (pv 3) pe_int (fun _ _ => rfl)) (pa_cons (pe_ix ix_tup (pv 3) pe_int (fun _ _ => rfl)) (pa_cons (pe_ix ix_tup (pv 3) pe_int (fun _ _ => rfl)) (pa_cons (pe_callTy call_str_int (by rfl) B.str (by decide +kernel) (pa_cons (pe_ix ix_tup (pv 3) pe_int (fun _ _ => rfl)) pa_nil)) (pa_cons (pe_ix ix_tup (pv 3) pe_int (fun _ _ => rfl)) pa_nil))))))))
        (pss_one (ps_expr (pe_bm PySem.F.plainAttrs_list PySem.F.slot_list_append PySem.F.type_list_append mt_append (pv 2) (pa_cons (pe_join pe_str (pe_op op_cat (pv 4) (pe_op op_rep (pe_lst (pa_cons pe_str pa_nil)) (pe_callTy call_int1 (by rfl) B.int (by decide +kernel) (pa_cons (pe_not (pe_ix ix_tup (pv 3) pe_int (fun _ _ => rfl))) pa_nil))))) pa_nil))))))
      (pss_one (ps_ret (pe_join pe_str (pv 2))))))), ?_⟩
    have h6 := gd.h6
    have lenA : as.length = g.length := hR.length
    have lenB : bs.length = ts.length := hk.tels.length
    refine ⟨lz, fun lA hlA => ?_⟩
    have nl : lA ≠ L := (ne_of_none hL hlA).symm
    refine ⟨_, rfl, L, rfl, ⟨_, .inl (.inl (show upd H lA (.lst []) L = _ from by rw [upd_ne nl.symm]; exact hL))⟩, for_tup (K := K) (a := L) (xs := as.map V.ref) (fun i σ H' => (∃ y3, σ = [some (.ref L), some (.ref kp), some (.ref lA), y3, none, none]) ∧ Same H H' ∧ H' lA = some (.lst (((g.take i).map lineS).map V.str))) ⟨⟨_, rfl⟩, same_new hlA, upd_same⟩ (fun i σ H' _ h => .inl (.inl (h.2.1 _ _ hL))) ?_ ?_⟩
    · rintro i x σ H1 hx ⟨⟨y3, rfl⟩, s1, hl1⟩
      rw [List.getElem?_map] at hx
      obtain ⟨pr, hpr, rfl⟩ := Option.map_eq_some_iff.mp hx
      obtain ⟨row, hrow, hH⟩ := hR.get hpr
      have hrm := List.mem_of_getElem? hrow
      have hr6 : row.length ≤ 6 := gd.six row hrm
      refine ⟨_, rfl, .inl ⟨rfl, _, .inl (.inl hl1)⟩, ⟨_, rfl⟩, _, rfl, pr, rfl, ⟨_, .inl (.inl (s1 _ _ hH))⟩, fun D2 hD2 => ?_⟩
      refine lc_rel (walk_tup (K := K) (a := pr) (xs := row.map oV)) hD2 (fun _ => true) (fun x y _ => y = showV x) (fun H2 s2 => .inl (.inl (s2 _ _ (s1 _ _ hH)))) (fun _ => rfl) (fun x H' _ _ Q' q' => q') ?_ (fun _ _ _ _ _ _ _ r => r) ?_ ?_
      · intro x H2 hx2 _ _ Q2 q2
        obtain ⟨o, _, rfl⟩ := List.mem_map.mp hx2
        refine ⟨_, rfl, lz, fun l2 hl2 => ⟨_, rfl, .inr ⟨_, rfl, ?_⟩⟩⟩
        refine ⟨l2, [oV o, .str "-"], _, showV (oV o), rfl, rfl, .inl (.inl upd_same), ?_, q2 _ _ (same_new hl2) rfl⟩
        cases o with
        | none => exact atI_nat (j := 1) rfl
        | some z => exact atI_nat (j := 0) rfl
      · rw [List.length_map]
        exact small1000 (by omega)
      · intro zs H2 s2 hD3 he
        rw [List.filter_eq_self.mpr fun _ _ => rfl] at he
        have e1 : zs = (row.map partS).map V.str := by
          rw [each_fn he, List.map_map, List.map_map]
          refine List.map_congr_left fun o _ => ?_
          cases o <;> rfl
        rw [e1] at hD3
        refine ⟨_, D2, row.map partS, rfl, rfl, .inl (.inl (.inl hD3)), ?_, ?_⟩
        · have := sum_len (l := row.map partS) (m := 8) fun z hz => by
            obtain ⟨o, ho, rfl⟩ := List.mem_map.mp hz
            rw [TL.len_tl]
            exact (part_tl (gd.parts row hrm o ho)).1
          rw [List.length_map] at this ⊢
          have e : (" " : Str).length = 1 := by decide +kernel
          rw [e]
          omega
        · refine ⟨lA, _, _, rfl, rfl, s2 _ _ hl1, ?_, ⟨_, rfl⟩, same_mut (s1.trans s2) hlA, ?_⟩
          · rw [List.length_map, List.length_map, List.length_take]
            exact small1000 (by omega)
          · rw [upd_same, List.take_add_one, hrow, List.map_append, List.map_append]
            rfl
    rintro σ H1 ⟨⟨y3, rfl⟩, s1, hl1⟩
    rw [List.length_map, lenA, List.take_length] at hl1
    refine ⟨_, rfl, .inl ⟨rfl, _, .inl (.inl hl1)⟩, lA, _, _, rfl, rfl, hl1, ?_, ?_⟩
    · rw [List.length_map, List.length_map]
      exact small1000 (by omega)
    have s2 : Same H (upd H1 lA (.lst ((g.map lineS).map V.str ++ [V.str "."]))) := same_mut s1 hlA
    have hl2 : upd H1 lA (.lst ((g.map lineS).map V.str ++ [V.str "."])) lA = some (.lst ((g.map lineS).map V.str ++ [V.str "."])) := upd_same
    generalize upd H1 lA (.lst ((g.map lineS).map V.str ++ [V.str "."])) = H2 at s2 hl2 ⊢
    refine ⟨_, rfl, kp, rfl, ⟨_, .inl (.inl (s2 _ _ hk.at_))⟩, for_list (K := K) (a := kp) (xs := bs.map V.ref) (fun i σ H' => (∃ y3 y4, σ = [some (.ref L), some (.ref kp), some (.ref lA), y3, y4, none]) ∧ Same H H' ∧ H' lA = some (.lst ((g.map lineS ++ [("." : Str)] ++ (ts.take i).map rowS).map V.str))) ⟨⟨_, _, rfl⟩, s2, ?_⟩ (fun i σ H' _ h => .inl (.inl (h.2.1 _ _ hk.at_))) ?_ ?_⟩
    · rw [hl2, List.map_append, List.map_append, List.take_zero, List.map_nil, List.map_nil, List.append_nil]
      rfl
    · rintro i x σ H3 hx ⟨⟨y3, y4, rfl⟩, s3, hl3⟩
      rw [List.getElem?_map] at hx
      obtain ⟨rp, hrp, rfl⟩ := Option.map_eq_some_iff.mp hx
      obtain ⟨t, ht, hH0⟩ := Each.get hk.tels hrp
      have htm := List.mem_of_getElem? ht
      have hi : i < ts.length := (List.getElem?_eq_some_iff.mp ht).1
      have okt := hok t htm
      have hH := s3 _ _ hH0
      refine ⟨_, rfl, rp, _, _, _, rfl, rfl, .inl (.inl hH), atI_nat (j := 0) rfl, _, rfl, rp, _, _, _, rfl, rfl, .inl (.inl hH), atI_nat (j := 1) rfl, _, rfl, rp, _, _, _, rfl, rfl, .inl (.inl hH), atI_nat (j := 2) rfl, _, rfl, rp, _, _, _, rfl, rfl, .inl (.inl hH), atI_nat (j := 3) rfl, _, rfl, rp, _, _, .int (t.age : Nat), rfl, rfl, .inl (.inl hH), atI_nat (j := 4) rfl, _, rfl, age_log okt.age, _, rfl, rp, _, _, _, rfl, rfl, .inl (.inl hH), atI_nat (j := 5) rfl, lz, fun wl hwl => ?_⟩
      have s4 := same_new (o := .lst ((partsS t).map V.str)) hwl
      have hw4 : upd H3 wl (.lst ((partsS t).map V.str)) wl = some (.lst ((partsS t).map V.str)) := upd_same
      clear s4 hw4
      have sw : ∀ (o : HO) (H4 : Hp), H4 = upd H3 wl o → Same H3 H4 ∧ H4 wl = some o := fun o H4 e => by
        rw [e]
        exact ⟨same_new hwl, upd_same⟩
      generalize e4 : upd H3 wl (HO.lst _) = H4
      obtain ⟨s4, hw4⟩ := sw _ H4 e4.symm
      replace hw4 : H4 wl = some (.lst ((partsS t).map V.str)) := hw4
      clear e4 sw
      have hl4 := s4 _ _ hl3
      refine ⟨_, rfl, .inl ⟨rfl, _, .inl (.inl hl4)⟩, ⟨_, rfl⟩, _, rfl, lz, fun q1 hq1 => ?_⟩
      have s5 := same_new (o := .lst [V.str "?"]) hq1
      have hq5 : upd H4 q1 (.lst [V.str "?"]) q1 = some (.lst [V.str "?"]) := upd_same
      generalize upd H4 q1 (.lst [V.str "?"]) = H5 at s5 hq5 ⊢
      refine ⟨_, rfl, rp, _, _, .bl t.sure, rfl, rfl, .inl (.inl ((s4.trans s5) _ _ hH)), atI_nat (j := 6) rfl, t.sure, rfl, .inr ⟨_, rfl, ?_⟩⟩
      have hcase : ∃ k : Nat, (if (!t.sure) = true then (1 : Int) else 0) = (k : Int) ∧ k ≤ 1 ∧ (List.replicate k [V.str "?"]).flatten = ((if t.sure = true then [] else [("?" : Str)]).map V.str) := by
        cases t.sure with
        | true => exact ⟨0, rfl, by omega, rfl⟩
        | false => exact ⟨1, rfl, by omega, rfl⟩
      obtain ⟨k, ek, hk1, ekf⟩ := hcase
      refine ⟨q1, _, _, rfl, rfl, hq5, ?_, ?_, ?_, fun q2 hq2 => ?_⟩
      · rw [ek]; omega
      · rw [ek]; omega
      · rw [ek, Int.toNat_natCast]
        exact lzl (by rw [show ([V.str ("?" : Str)] : List V).length = 1 from rfl]; omega)
      rw [ek, Int.toNat_natCast, ekf]
      have s6 := same_new (o := .lst ((if t.sure = true then [] else [("?" : Str)]).map V.str)) hq2
      have hq6 : upd H5 q2 (.lst ((if t.sure = true then [] else [("?" : Str)]).map V.str)) q2 = some (.lst ((if t.sure = true then [] else [("?" : Str)]).map V.str)) := upd_same
      generalize upd H5 q2 (.lst ((if t.sure = true then [] else [("?" : Str)]).map V.str)) = H6 at s6 hq6 ⊢
      have epq : partsS t ++ (if t.sure = true then [] else [("?" : Str)]) = (if t.sure = true then partsS t else partsS t ++ [("?" : Str)]) := by
        cases t.sure with
        | true => simp
        | false => simp
      refine ⟨wl, q2, _, _, rfl, rfl, (s5.trans s6) _ _ hw4, hq6, ?_, fun q3 hq3 => ?_⟩
      · have : (if t.sure = true then [] else [("?" : Str)]).length ≤ 1 := by split <;> simp
        rw [List.length_map, List.length_map]
        exact lzl (by simp only [partsS, List.length_cons, List.length_nil]; omega)
      rw [← List.map_append, epq]
      have s7 := same_new (o := .lst ((if t.sure = true then partsS t else partsS t ++ [("?" : Str)]).map V.str)) hq3
      have hq7 : upd H6 q3 (.lst ((if t.sure = true then partsS t else partsS t ++ [("?" : Str)]).map V.str)) q3 = some (.lst ((if t.sure = true then partsS t else partsS t ++ [("?" : Str)]).map V.str)) := upd_same
      generalize upd H6 q3 (.lst ((if t.sure = true then partsS t else partsS t ++ [("?" : Str)]).map V.str)) = H7 at s7 hq7 ⊢
      have s37 := s4.trans (s5.trans (s6.trans s7))
      refine ⟨_, q3, _, rfl, rfl, .inl (.inl (.inl hq7)), ?_, lA, _, _, rfl, rfl, s37 _ _ hl3, ?_, ⟨_, _, rfl⟩, same_mut (s3.trans s37) hlA, ?_⟩
      · have := sum_len (l := if t.sure = true then partsS t else partsS t ++ [("?" : Str)]) (m := 8) fun z hz => by
          refine parts_len okt z ?_
          revert hz
          cases t.sure with
          | true => exact fun h => List.mem_append_left _ h
          | false => exact fun h => h
        have l7 : (if t.sure = true then partsS t else partsS t ++ [("?" : Str)]).length ≤ 7 := by
          cases t.sure with
          | true => exact Nat.le_succ 6
          | false => exact Nat.le_refl 7
        have e : (" " : Str).length = 1 := by decide +kernel
        rw [e]
        omega
      · rw [List.length_map]
        simp only [List.length_append, List.length_map, List.length_cons, List.length_nil, List.length_take]
        exact small1000 (by omega)
      · rw [upd_same, List.take_add_one, ht]
        simp only [List.map_append, List.append_assoc]
        rfl
    · rintro σ H3 ⟨⟨y3, y4, rfl⟩, s3, hl3⟩
      rw [List.length_map, lenB, List.take_length] at hl3
      refine ⟨⟨_, rfl⟩, _, rfl, _, lA, _, rfl, rfl, .inl (.inl (.inl hl3)), ?_, ?_⟩
      · have := sum_len (l := g.map lineS ++ [("." : Str)] ++ ts.map rowS) (m := 63) fun z hz => by
          rcases List.mem_append.mp hz with hz | hz
          · rcases List.mem_append.mp hz with hz | hz
            · obtain ⟨r, hr', rfl⟩ := List.mem_map.mp hz
              have := line_len (gd.parts r hr') (gd.six r hr')
              omega
            · rw [List.mem_singleton.mp hz]
              decide +kernel
          · obtain ⟨t, ht, rfl⟩ := List.mem_map.mp hz
            exact row_len (hok t ht)
        have e : ("\n" : Str).length = 1 := by decide +kernel
        have l1 : (g.map lineS ++ [("." : Str)] ++ ts.map rowS).length = g.length + 1 + ts.length := by simp; omega
        rw [l1] at this ⊢
        rw [e]
        omega
      · rw [gat_lines g ts (fun e => by have := gd.h1; rw [e] at this; exact absurd this (by decide))]
        exact q H3 s3
end
end Wl

namespace Wl
open PySem PySem.Spec PyProof.Rows L2
section
variable {P : Program} {w : World} {K : PySem.W.Frag} {mg : Str → Option Value} {base : Heap} {f C D : Addr} {fd : FuncData}
/-- two Gatherings, and whether they are alike -/
structure TwoG (C D : Addr) (H : Hp) (p q : Addr) (r r' : GR) (due : Bool) : Prop where
  g1 : GatAt C D H p r
  g2 : GatAt C D H q r'
  d1 : ∃ wd, Good r.g wd
  d2 : ∃ wd, Good r'.g wd
  o1 : ∀ t ∈ r.ts, OkT t
  o2 : ∀ t ∈ r'.ts, OkT t
  due : due = true ↔ r.g = r'.g ∧ r.ts.Perm r'.ts
theorem TwoG.same {C D : Addr} {H H' : Hp} {p q : Addr} {r r' : GR} {due : Bool} (h : TwoG C D H p q r r' due) (s : Same H H') : TwoG C D H' p q r r' due := ⟨h.g1.same s, h.g2.same s, h.d1, h.d2, h.o1, h.o2, h.due⟩
theorem TwoG.symm {C D : Addr} {H : Hp} {p q : Addr} {r r' : GR} {due : Bool} (h : TwoG C D H p q r r' due) : TwoG C D H q p r' r due :=
  ⟨h.g2, h.g1, h.d2, h.d1, h.o2, h.o1, h.due.trans ⟨fun ⟨a, b⟩ => ⟨a.symm, b.symm⟩, fun ⟨a, b⟩ => ⟨a.symm, b.symm⟩⟩⟩
theorem ge_reads {H : Hp} {p q : Addr} {r r' : GR} {due : Bool} {Q : VK} {E : XK} (h : TwoG C D H p q r r' due) (k : ∀ H', Same H H' → Q (.bl due) H') : spGE K C D [.ref p, .ref q] H Q E := by
  obtain ⟨wd, gd⟩ := h.d1
  obtain ⟨wd', gd'⟩ := h.d2
  refine .inl ⟨p, q, r, r', wd, wd', rfl, h.g1, h.g2, gd, gd', h.o1, h.o2, fun b H' hb s' => ?_⟩
  have e : b = due := by
    rw [Bool.eq_iff_iff]
    exact hb.trans h.due.symm
  rw [e]
  exact k H' s'
theorem TwoG.self {C D : Addr} {H : Hp} {p : Addr} {r r' : GR} {due : Bool} (h : TwoG C D H p p r r' due) : due = true := by
  have e1 := h.g1.at_
  have e2 := h.g2.at_
  obtain ⟨dx, e1⟩ := e1
  obtain ⟨dy, e2⟩ := e2
  rw [e1] at e2
  have e3 := HO.ins.inj (Option.some.inj e2)
  have f1 := congrArg (fun l => l.lookup ("land" : Str)) e3.2.2
  have f2 := congrArg (fun l => l.lookup ("told" : Str)) e3.2.2
  simp only [gf_land, gf_told, Option.some.injEq, V.ref.injEq] at f1 f2
  refine h.due.mpr ⟨?_, ?_⟩
  · obtain ⟨d1, x1, a1, b1, c1⟩ := h.g1.land
    obtain ⟨d2, x2, a2, b2, c2⟩ := h.g2.land
    rw [f1, a2] at a1
    have l3 := HO.ins.inj (Option.some.inj a1)
    have f3 := congrArg (fun l => l.lookup ("rows" : Str)) l3.2.2
    simp only [lf_rows, Option.some.injEq, V.ref.injEq] at f3
    obtain ⟨as, h1, r1⟩ := c1
    obtain ⟨as2, h2, r2⟩ := c2
    rw [← f3, h2] at h1
    have : as2 = as := map_ref_inj (HO.tup.inj (Option.some.inj h1))
    subst this
    exact rows_uniq r1 r2
  · have t1 := h.g1.told
    have t2 := h.g2.told
    rw [f2, t2] at t1
    have : r'.as = r.as := map_ref_inj (HO.lst.inj (Option.some.inj t1))
    have e4 := h.g1.tels
    have e5 := h.g2.tels
    rw [← this] at e4
    rw [tels_uniq e4 e5]
where
  map_ref_inj : ∀ {as bs : List Addr}, as.map V.ref = bs.map V.ref → as = bs
    | [], [], _ => rfl
    | [], _ :: _, e => by simp at e
    | _ :: _, [], e => by simp at e
    | a :: as, b :: bs, e => by
      simp only [List.map_cons, List.cons.injEq, V.ref.injEq] at e
      rw [e.1, map_ref_inj e.2]
  rows_uniq {H : Hp} : ∀ {as : List Addr} {g g' : Grid}, RowsAt H as g → RowsAt H as g' → g = g'
    | _, _, _, .nil, .nil => rfl
    | _, _, _, .cons r t, .cons r' t' => by
      rw [r] at r'
      rw [map_oV_inj (HO.tup.inj (Option.some.inj r')), rows_uniq t t']
  tels_uniq {H : Hp} : ∀ {as : List Addr} {g g' : List Tel}, TelsAt H as g → TelsAt H as g' → g = g'
    | _, _, _, .nil, .nil => rfl
    | _, _, _, .cons r t, .cons r' t' => by
      rw [r] at r'
      rw [telV_inj (HO.tup.inj (Option.some.inj r')), tels_uniq t t']
theorem eqL1_reads {H : Hp} {l m p q : Addr} {r r' : GR} {due : Bool} {Q : VK} (h : TwoG C D H p q r r' due) (hl : H l = some (.lst [.ref p])) (hm : H m = some (.lst [.ref q])) (k : ∀ H', Same H H' → Q (.bl due) H') : rEqL1 D (spGE K C D) (.ref l) (.ref m) H Q := by
  obtain ⟨dx, i1⟩ := h.g1.at_
  obtain ⟨dy, i2⟩ := h.g2.at_
  refine ⟨l, m, p, q, dx, _, dy, _, rfl, rfl, hl, hm, i1, i2, fun e => ?_, fun _ => ge_reads h fun H' s' => ⟨_, rfl, s', k H' s'⟩⟩
  subst e
  have := k H (Same.refl H)
  rw [h.self] at this
  exact this
def spAlike (C D : Addr) : Sp := fun vs H Q _ => ∃ (p q : Addr) (r r' : GR) (due : Bool), vs = [.ref p, .ref q, .bl due] ∧ TwoG C D H p q r r' due ∧ ∀ (H' : Hp), Same H H' → Q (.bl true) H'
abbrev nAlike : List Str := ["_law_lone", "_law_mate", "_law_due", "_law_told", "_law_said"]
abbrev psAlike : List Str := ["_law_lone", "_law_mate", "_law_due"]
theorem scAlike : FnScope nAlike psAlike (defScope sLAlike) := ⟨rfl, rfl, rfl, by decide +kernel, rfl, by decide +kernel, by decide +kernel⟩
theorem ok_alike (F : Fun K "_law_alike" "_law_alike" sLAlike f fd) (B : Bi mg) (B2 : Bg mg) (ne : NeC K D) (N : NoKind K D) (kn : KitNo K D) (hE : HasM P w K mg base D "__eq__" 3 ["self", "other"] (spGE K C D)) : FnOk P w K mg base CX0 6 f fd psAlike (spAlike C D) := by
  obtain ⟨fE, fdE, FE, mE, bE⟩ := hE
  refine F.ok scAlike (fun vs H Q E h => ?_) (fun cdv A outer s H vs Q E hr h => ?_)
  · obtain ⟨p, q, r, r', due, rfl, _⟩ := h
    rfl
  · obtain ⟨p, q, r, r', due, rfl, h0, qq⟩ := h
    refine ⟨_, pss_cons (ps_set (i := 3) scAlike.nd rfl (.inl rfl) (pe_lst (pa_cons (pe_cmpR (op_eqO FE bE mE (hr.mono (by decide))) (pv 0) (pv 1) (nomark _)) (pa_cons (pe_cmpR (op_eqO FE bE mE (hr.mono (by decide))) (pv 1) (pv 0) (nomark _)) (pa_cons (pe_cmpR (op_inZ (eqIt_G FE bE mE N (hr.mono (by decide)))) (pv 0) (pe_lst (pa_cons pe_non (pa_cons (pv 1) pa_nil))) (by rfl)) (pa_cons (pe_not (pe_cmpR (op_neO FE bE mE ne (hr.mono (by decide))) (pv 0) (pv 1) (nomark _))) (pa_cons (pe_not (pe_cmpR (op_neO FE bE mE ne (hr.mono (by decide))) (pv 1) (pv 0) (nomark _))) (pa_cons (pe_cmpR (op_eqL1 FE bE mE (hr.mono (by decide))) (pe_lst (pa_cons (pv 0) pa_nil)) (pe_lst (pa_cons (pv 1) pa_nil)) (nomark _)) pa_nil))))))))
      (pss_one (ps_ret (pe_callB (cr_all rfl) (by rfl) B.all (by decide +kernel) (pa_cons (pe_lc (own := [("_law_said", 4)]) (g := gName 4) (tt := tYes) (te := tAndV (tCB (rIsi K) (tCons (tVar 4) (tCons (tC (.ty "bool")) tNil))) (tOp rEq (tVar 4) (tVar 2))) rfl scAlike.nd (pi_list (pv 3)) (blkOk_by (N := nAlike) (sc := defScope sLAlike) (by decide +kernel))
        (fun _ _ _ _ _ => pg_name (i := 4) scAlike.nd rfl (.inl rfl)) (fun _ _ _ _ _ => pts_nil) (fun _ _ _ _ _ => pe_and (pe_callB call_isi (by rfl) B.isi (by decide +kernel) (pa_cons (pv 4) (pa_cons (pe_bltn (v := .ty "bool") (by rfl) B2.bool (by decide +kernel) rfl) pa_nil))) (pe_one (pe_cmpR op_eq (pv 4) (pv 2) (nomark _))))) pa_nil)))), ?_⟩
    obtain ⟨dx, i1⟩ := h0.g1.at_
    obtain ⟨dy, i2⟩ := h0.g2.at_
    refine ⟨_, rfl, _, rfl, p, dx, _, q, dy, _, rfl, rfl, i1, i2, ge_reads h0 fun H1 s1 => ⟨_, rfl, ?_⟩⟩
    refine ⟨_, rfl, _, rfl, q, dy, _, p, dx, _, rfl, rfl, s1 _ _ i2, s1 _ _ i1, ge_reads (h0.symm.same s1) fun H2 s2 => ⟨_, rfl, ?_⟩⟩
    have s02 := s1.trans s2
    refine ⟨_, rfl, _, rfl, lz, fun l1 hl1 => ?_⟩
    have s3 := same_new (o := .lst [V.non, V.ref q]) hl1
    have hl1' : upd H2 l1 (.lst [V.non, V.ref q]) l1 = some (.lst [V.non, V.ref q]) := upd_same
    generalize upd H2 l1 (.lst [V.non, V.ref q]) = H3 at s3 hl1' ⊢
    have s03 := s02.trans s3
    have it : ItG D (spGE K C D) p H3 (.ref q) due := by
      refine ⟨⟨dx, _, s03 _ _ i1⟩, ?_⟩
      by_cases e : q = p
      · subst e
        exact .inr (.inl ⟨rfl, h0.self⟩)
      · exact .inr (.inr ⟨q, dy, _, rfl, e, s03 _ _ i2, fun H' s' => ge_reads (h0.symm.same (s03.trans s')) fun H'' s'' => ⟨_, rfl, rfl, s''⟩⟩)
    refine ⟨p, l1, _, [false, due], rfl, rfl, .inl hl1', .cons ⟨⟨dx, _, s03 _ _ i1⟩, .inl ⟨_, .non, fun H' s' => .inr ⟨p, .non, _, rfl, OthV.non.ty, kn.non, _, rfl, rfl, Same.refl H'⟩⟩⟩ (.cons it .nil), fun H4 s4 => ?_⟩
    have s04 := s03.trans s4
    refine ⟨_, rfl, _, rfl, p, dx, _, q, dy, _, rfl, rfl, s04 _ _ i1, s04 _ _ i2, ge_reads (h0.same s04) fun H5 s5 => ⟨_, rfl, _, rfl, ?_⟩⟩
    have s05 := s04.trans s5
    refine ⟨_, rfl, _, rfl, q, dy, _, p, dx, _, rfl, rfl, s05 _ _ i2, s05 _ _ i1, ge_reads (h0.symm.same s05) fun H6 s6 => ⟨_, rfl, _, rfl, ?_⟩⟩
    have s06 := s05.trans s6
    refine ⟨_, rfl, lz, fun l2 hl2 => ?_⟩
    have s7 := same_new (o := .lst [V.ref p]) hl2
    have hl2' : upd H6 l2 (.lst [V.ref p]) l2 = some (.lst [V.ref p]) := upd_same
    generalize upd H6 l2 (.lst [V.ref p]) = H7 at s7 hl2' ⊢
    refine ⟨_, rfl, lz, fun l3 hl3 => ?_⟩
    have s8 := same_new (o := .lst [V.ref q]) hl3
    have hl3' : upd H7 l3 (.lst [V.ref q]) l3 = some (.lst [V.ref q]) := upd_same
    generalize upd H7 l3 (.lst [V.ref q]) = H8 at s8 hl3' ⊢
    have s08 := s06.trans (s7.trans s8)
    refine eqL1_reads (h0.same s08) (s8 _ _ hl2') hl3' fun H9 s9 => ⟨lz, fun Tl hTl => ?_⟩
    have s09 := s08.trans s9
    have s10 := same_new (o := .lst [V.bl (id due), V.bl (id due), V.bl (id ([false, due].any id)), V.bl (!(not due)), V.bl (!(not due)), V.bl due]) hTl
    have hTl' : upd H9 Tl (.lst [V.bl (id due), V.bl (id due), V.bl (id ([false, due].any id)), V.bl (!(not due)), V.bl (!(not due)), V.bl due]) Tl = some (.lst [V.bl (id due), V.bl (id due), V.bl (id ([false, due].any id)), V.bl (!(not due)), V.bl (!(not due)), V.bl due]) := upd_same
    refine ⟨_, rfl, Tl, rfl, ⟨_, .inl (.inl hTl')⟩, fun Dd hD => ?_⟩
    refine lc_rel (walk_list (K := K) (a := Tl) (xs := [V.bl (id due), V.bl (id due), V.bl (id ([false, due].any id)), V.bl (!(not due)), V.bl (!(not due)), V.bl due])) hD (fun _ => true) (fun x y _ => y = .bl true) (fun H' s' => .inl (.inl (s' _ _ hTl'))) (fun _ => rfl) (fun x H' _ _ Q' q' => q') ?_ (fun _ _ _ _ _ _ _ r => r) lz ?_
    · intro x H' hx _ s' Q' q'
      obtain ⟨b, rfl, hb⟩ : ∃ b : Bool, x = .bl b ∧ b = due := by
        simp only [List.mem_cons, List.not_mem_nil, or_false] at hx
        rcases hx with rfl | rfl | rfl | rfl | rfl | rfl
        · exact ⟨_, rfl, rfl⟩
        · exact ⟨_, rfl, rfl⟩
        · exact ⟨_, rfl, by simp⟩
        · exact ⟨_, rfl, by simp⟩
        · exact ⟨_, rfl, by simp⟩
        · exact ⟨_, rfl, rfl⟩
      refine ⟨_, rfl, _, _, _, _, _, rfl, .ty "bool", .base (.bl b), kit_ty (r := true) (by decide +kernel), true, rfl, iteT ⟨_, rfl, _, rfl, rfl, q' _ H' (Same.refl H') ?_⟩⟩
      rw [hb]
      simp
    · intro zs H11 s11 hD11 he
      rw [List.filter_eq_self.mpr fun _ _ => rfl] at he
      have ez := rows_true he
      subst ez
      refine ⟨Dd, _, rfl, .inl (.inl hD11), ?_⟩
      rw [all_true]
      exact qq H11 ((s09.trans s10).trans s11)
/-! ### is it shown so -/
def spIsShown (C D : Addr) : Sp := fun vs H Q _ => ∃ (p L kp : Addr) (r : GR) (g : Grid) (wd : Nat) (bs : List Addr), vs = [.ref p, .ref L, .ref kp] ∧ GatAt C D H p r ∧ r.g = g ∧ GridAt H L g ∧ Good g wd ∧ KeptAt H kp bs r.ts ∧ (∀ t ∈ r.ts, OkT t) ∧ r.ts.length ≤ 100 ∧ ∀ (H' : Hp), Same H H' → Q (.bl true) H'
abbrev nIsShown : List Str := ["_law_basket_here", "_law_lots", "_law_kept", "_law_text"]
abbrev psIsShown : List Str := ["_law_basket_here", "_law_lots", "_law_kept"]
theorem scIsShown : FnScope nIsShown psIsShown (defScope sLIsShown) := ⟨rfl, rfl, rfl, by decide +kernel, rfl, by decide +kernel, by decide +kernel⟩
theorem ok_isshown (F : Fun K "_law_is_shown" "_law_is_shown" sLIsShown f fd) (B : Bi mg) (B2 : Bg mg) (hrep : mg "repr" = none) (nb : PySem.W.findIn K (.ref D) "__bool__" = some none) (hSh : Has P w K mg base "_law_shown" 1 psLShown spLShown)
    (hS : HasM P w K mg base D "__str__" 4 ["self"] (spGStr C D)) (hR : HasM P w K mg base D "__repr__" 1 ["self"] (spGRepr C D)) (hL : HasM P w K mg base D "__len__" 1 ["self"] (spGLen C D)) : FnOk P w K mg base CX0 7 f fd psIsShown (spIsShown C D) := by
  obtain ⟨fS, fdS, FS, mS, bS⟩ := hS
  obtain ⟨fR, fdR, FR, mR, bR⟩ := hR
  obtain ⟨fL, fdL, FL, mL, bL⟩ := hL
  refine F.ok scIsShown (fun vs H Q E h => ?_) (fun cdv A outer s H vs Q E hr h => ?_)
  · obtain ⟨p, L, kp, r, g, wd, bs, rfl, _⟩ := h
    rfl
  · obtain ⟨p, L, kp, r, g, wd, bs, rfl, hG, rg, hGr, gd, hk, hok, h100, q⟩ := h
    subst rg
    refine ⟨_, pss_cons (ps_set (i := 3) scIsShown.nd rfl (.inl rfl) (pe_h hSh hr (pa_cons (pv 1) (pa_cons (pv 2) pa_nil))))
      (pss_cons (ps_if (PW.pt (pw_or (pt_cmpR op_ne (pe_callB (cr_lenO FL bL mL (hr.mono (by decide))) (by rfl) B.len PySem.boot_len (pa_cons (pv 0) pa_nil)) (pe_callB call_len_seq (by rfl) B.len PySem.boot_len (pa_cons (pv 2) pa_nil)) (nomark _)) (pw_or (pt_cmpR op_ne (pe_callTy (cr_boolO FL bL mL nb (hr.mono (by decide))) (by rfl) B2.bool (by decide +kernel) (pa_cons (pv 0) pa_nil)) (pe_cmpR (op_neD hr.units) (pv 2) (pe_lst pa_nil) (nomark _)) (nomark _)) (pw_or1 (pt_cmpR op_ne (pe_callTy (cr_strO FS bS mS (hr.mono (by decide))) (by rfl) B.str (by decide +kernel) (pa_cons (pv 0) pa_nil)) (pv 3) (nomark _)))))) (pss_one (ps_ret pe_bl)) pss_nil)
      (pss_one (ps_ret (pe_cmpR op_eq (pe_callB (cr_reprO FR bR mR (hr.mono (by decide))) (by rfl) hrep (by decide +kernel) (pa_cons (pv 0) pa_nil)) (pe_op op_add_str (pe_op op_add_str pe_str (pe_callTy call_str_int (by rfl) B.str (by decide +kernel) (pa_cons (pe_callB call_len_seq (by rfl) B.len PySem.boot_len (pa_cons (pv 2) pa_nil)) pa_nil))) pe_str) (nomark _))))), ?_⟩
    have lb : bs.length = r.ts.length := hk.tels.length
    refine ⟨_, rfl, _, rfl, L, kp, r.g, wd, bs, r.ts, rfl, hGr, gd, hk, hok, h100, fun H1 s1 => ?_⟩
    obtain ⟨dx, i0⟩ := hG.at_
    have i1 := s1 _ _ i0
    have hG1 := hG.same s1
    have hk1 := s1 _ _ hk.at_
    refine ⟨_, rfl, p, dx, _, rfl, i1, p, r, rfl, hG1, _, rfl, by omega, _, rfl, kp, _, rfl, .inl (.inl (.inl hk1)), rfl, _, rfl, ?_⟩
    rw [List.length_map, lb]
    refine iteNS rfl ⟨_, rfl, p, dx, _, rfl, i1, p, r, rfl, hG1, _, rfl, by omega, _, rfl, lz, fun e he => ?_⟩
    have s2 := same_new (o := .lst []) he
    have he2 : upd H1 e (.lst []) e = some (.lst []) := upd_same
    generalize upd H1 e (.lst []) = H2 at s2 he2 ⊢
    have ht2 := (hk.tels.keep (tk_same s1)).keep (tk_same s2)
    refine ⟨.list (r.ts.map telD), .list [], .lst (.inl (.inl (s2 _ _ hk1))) (dp_tels ((each_refs ht2).mono fun x t ⟨pt, hx, hp⟩ => by rw [hx]; exact dp_tel hp)), .lst (.inl (.inl he2)) .nil, shaped_tels hok, rfl, rfl, _, rfl, ?_⟩
    have eb : decide (V.bl (r.ts.length != 0) = V.bl (!PyData.eqv (.list (r.ts.map telD)) (.list []))) = true := by
      rw [decide_eq_true_eq]
      cases r.ts with
      | nil => rfl
      | cons t l => simp [PyData.eqv, PyData.eqvAll]
    rw [eb]
    refine iteF ⟨_, rfl, p, dx, _, rfl, s2 _ _ i1, p, r, wd, rfl, hG1.same s2, gd, by omega, hok, fun H3 s3 => ⟨_, rfl, _, rfl, rfl, _, rfl, iteNS rfl ?_⟩⟩
    have s23 := s2.trans s3
    refine ⟨_, rfl, p, dx, _, rfl, s23 _ _ i1, p, r, rfl, hG1.same s23, by omega, _, rfl, _, rfl, kp, _, rfl, .inl (.inl (.inl (s23 _ _ hk1))), ?_⟩
    rw [List.length_map, lb]
    have d3 := dig3_len (n := r.ts.length) (by omega)
    refine ⟨_, rfl, log200 (by omega), _, _, rfl, rfl, ?_, _, _, rfl, rfl, ?_, rfl, ?_⟩
    · have : ("Gathering(" : Str).length = 10 := by decide +kernel
      exact lzl (by omega)
    · have : ("Gathering(" : Str).length = 10 := by decide +kernel
      have : (")" : Str).length = 1 := by decide +kernel
      exact lzl (by rw [add_len]; omega)
    · have : decide (V.str (grS r.ts.length) = V.str (("Gathering(" : Str) ++ (toString (r.ts.length : Int) : String) ++ (")" : Str))) = true := decide_eq_true rfl
      rw [this]
      exact q H3 (s1.trans s23)
end
end Wl

namespace Wl
open PySem PySem.Spec PyProof.Rows L2
/-- all but what stands at three places is as it was -/
def But3 (a b c : Addr) (H H' : Hp) : Prop := ∀ x o, x ≠ a → x ≠ b → x ≠ c → H x = some o → H' x = some o
theorem But3.refl (a b c : Addr) (H : Hp) : But3 a b c H H := fun _ _ _ _ _ h => h
theorem But3.same {a b c : Addr} {H H1 H2 : Hp} (h : But3 a b c H H1) (s : Same H1 H2) : But3 a b c H H2 := fun x o n1 n2 n3 e => s x o (h x o n1 n2 n3 e)
theorem But3.x {a b c : Addr} {H H1 H2 : Hp} (h : But3 a b c H H1) (s : SameX a H1 H2) : But3 a b c H H2 := fun x o n1 n2 n3 e => s x o n1 (h x o n1 n2 n3 e)
theorem But3.two {a b c : Addr} {H H1 H2 : Hp} (h : But3 a b c H H1) (s : Same2 b c H1 H2) : But3 a b c H H2 := fun x o n1 n2 n3 e => s x o n2 n3 (h x o n1 n2 n3 e)
theorem But3.tels {a b c : Addr} {H H' : Hp} {xs ys zs : List V} (h : But3 a b c H H') (ha : H a = some (.lst xs)) (hb : H b = some (.lst ys)) (hc : H c = some (.lst zs)) : TupKeep H H' := fun p vs e =>
  h p _ (ne_of e ha (by intro z; cases z)) (ne_of e hb (by intro z; cases z)) (ne_of e hc (by intro z; cases z)) e
structure TurnI (g : Grid) (C D : Addr) (Hs H : Hp) (a p td dd : Addr) (r : GR) (ts : List Tel) (n : Nat) : Prop where
  pu : PurseAt H a
  but : But3 a td dd Hs H
  gat : GatAt C D H p r
  rg : r.g = g
  e1 : r.td = td
  e2 : r.dd = dd
  rt : r.ts = ts
  dl : r.ds.length ≤ n
def pr2D (z : Int × Nat) : PyData := .tuple [.int z.1, .int (z.2 : Int)]
def HasGK (P : Program) (w : World) (K : PySem.W.Frag) (mg : Str → Option Value) (base : Heap) (C D : Addr) : Prop :=
  ∃ f fd, Mk K D f ∧ FnOk P w K mg base CX0 1 f fd ["self", "land"] (spGInit C D) ∧ Binds K fd ["self", "land"] [] ∧ KBn K fd ["self", "land"] 1 ["land"] g2 g2
theorem and_b {b : Bool} {A B C : Prop} (h1 : b = true → A) (h2 : C) : if b = true then A else (if false = true then B else C) := by
  cases b with
  | true => exact iteT (h1 rfl)
  | false => exact iteF (iteF h2)
theorem range_pick {α : Type} : ∀ (l : List α), (List.range l.length).filterMap (fun k => l[k]?) = l
  | [] => rfl
  | a :: l => by
    rw [List.length_cons, List.range_succ_eq_map, List.filterMap_cons]
    simp only [List.getElem?_cons_zero, List.filterMap_map]
    have : ((fun k => (a :: l)[k]?) ∘ Nat.succ) = fun k => l[k]? := by
      funext k
      simp
    rw [this, range_pick l]
theorem find_last {l : List Tel} {t : Tel} (h : keyS t ∉ l.map keyS) : ((l ++ [t]).findIdx? fun u => decide (keyS u = keyS t)) = some l.length := by
  refine find_at (i := l.length) (x := t) (by simp) (by simp) fun j y hj hy => ?_
  rw [List.getElem?_append_left hj] at hy
  refine decide_eq_false fun e => h ?_
  rw [← e]
  exact List.mem_map_of_mem (List.mem_of_getElem? hy)
theorem erase_last {α : Type} (l : List α) (x : α) : (l ++ [x]).eraseIdx l.length = l := by
  rw [List.eraseIdx_append_of_length_le (Nat.le_refl _), Nat.sub_self]
  simp
theorem each_pick {α β γ : Type} {R : α → β → Prop} {as : List α} {bs : List β} (h : Each R as bs) (k : γ → Nat) : ∀ zs : List γ, Each R (zs.filterMap fun z => as[k z]?) (zs.filterMap fun z => bs[k z]?)
  | [] => .nil
  | z :: zs => by
    rw [List.filterMap_cons, List.filterMap_cons]
    have ih := each_pick h k zs
    cases e : as[k z]? with
    | none =>
      have : bs[k z]? = none := by
        rw [List.getElem?_eq_none_iff] at e ⊢
        rw [← h.length]
        exact e
      rw [this]
      exact ih
    | some a =>
      obtain ⟨b, hb, r⟩ := h.get e
      rw [hb]
      exact .cons r ih
section
variable {P : Program} {w : World} {K : PySem.W.Frag} {mg : Str → Option Value} {base : Heap} {f C D : Addr} {fd : FuncData}
theorem HasGK.pos (h : HasGK P w K mg base C D) : HasG P w K mg base C D := let ⟨f, fd, a, b, c, _⟩ := h; ⟨f, fd, a, b, c⟩
theorem PoolsAt.but {a b c F : Addr} {H H' : Hp} {as : List Addr} {ps : List (List Str)} (h : PoolsAt H F as ps) (s : But3 a b c H H') (nF : F ≠ a ∧ F ≠ b ∧ F ≠ c) (na : ∀ p ∈ as, p ≠ a ∧ p ≠ b ∧ p ≠ c) : PoolsAt H' F as ps := by
  refine ⟨s _ _ nF.1 nF.2.1 nF.2.2 h.1, ?_⟩
  have key : ∀ {as : List Addr} {ps : List (List Str)}, (∀ p ∈ as, p ≠ a ∧ p ≠ b ∧ p ≠ c) → Each (fun (p : Addr) (ws : List Str) => H p = some (.lst (ws.map V.str))) as ps → Each (fun (p : Addr) (ws : List Str) => H' p = some (.lst (ws.map V.str))) as ps := by
    intro as ps na e
    induction e with
    | nil => exact .nil
    | cons r _ ih =>
      have n := na _ List.mem_cons_self
      exact .cons (s _ _ n.1 n.2.1 n.2.2 r) (ih fun p hp => na p (List.mem_cons_of_mem _ hp))
  exact key na h.2
/-- the same tellings in another turn -/
def spTurned (C D : Addr) : Sp := fun vs H Q _ => ∃ (a L F kp : Addr) (g : Grid) (wd : Nat) (as : List Addr) (p1 p2 p3 p4 : List Str) (bs : List Addr) (ts : List Tel), vs = [.ref a, .ref L, .ref F, .ref kp] ∧ PurseAt H a ∧ GridAt H L g ∧ Good g wd ∧ PoolsAt H F as [sortS (names g), p1, p2, p3, p4] ∧ F ≠ a ∧ (∀ p ∈ as, p ≠ a) ∧ (∀ ws ∈ [sortS (names g), p1, p2, p3, p4], OkW ws) ∧
  KeptAt H kp bs ts ∧ kp ≠ a ∧ (∀ t ∈ ts, OkT t) ∧ (∀ t ∈ ts, t.v ∈ names g) ∧ (ts.map keyS).Nodup ∧ ts.length ≤ 20 ∧
  ∀ (R p kp2 : Addr) (r : GR) (bs2 : List Addr) (H' : Hp), GatAt C D H' p r → r.g = g → KeptAt H' kp2 bs2 r.ts → r.ts.Perm ts → PurseAt H' a → SameX a H H' → H r.td = none → H r.dd = none → H kp2 = none → H' R = some (.lst [.ref p, .ref kp2]) → Q (.ref R) H'
abbrev nTurned : List Str := ["_law_purse_here", "_law_lots", "_law_pools_here", "_law_kept", "_law_basket_here", "_law_order", "_law_number", "_law_k", "_law_row_here", "_law_way", "_law_old"]
abbrev psTurned : List Str := ["_law_purse_here", "_law_lots", "_law_pools_here", "_law_kept"]
theorem scTurned : FnScope nTurned psTurned (defScope sLTurned) := ⟨rfl, rfl, rfl, by decide +kernel, rfl, by decide +kernel, by decide +kernel⟩
theorem ok_turned (F : Fun K "_law_turned" "_law_turned" sLTurned f fd) (B : Bi mg) (T : Txt K mg C) (TG : TxtG K mg D) (hI : HasI P w K mg base C) (hGi : HasGK P w K mg base C D) (hPick : Has P w K mg base "_law_pick" 1 ["_law_purse_here", "_law_count"] spPick) (hRow : Has P w K mg base "_law_row" 2 ["_law_purse_here", "_law_pools_here"] spRow)
    (hKey : Has P w K mg base "_law_key" 1 ["_law_row_here"] spKeyOf) (hPut : Has P w K mg base "_law_put" 5 ["_law_basket_here", "_law_row_here", "_law_way"] (spLPut C D)) (hStr : Has P w K mg base "_law_strike" 4 psLStrike (spLStrike C D)) (hTell : HasT P w K mg base C D) (hBack : HasM P w K mg base D "back" 1 ["self"] (spBack C D)) : FnOk P w K mg base CX0 6 f fd psTurned (spTurned C D) := by
  obtain ⟨fI, fdI, MI, GI, bI⟩ := hI
  obtain ⟨fG, fdG, MG, GG, bG, kG⟩ := hGi
  obtain ⟨fT, fdT, FT, mT, fnT⟩ := hTell
  obtain ⟨dT, vT, bT⟩ := tell_b1 fnT
  refine F.ok scTurned (fun vs H Q E h => ?_) (fun cdv A outer s H vs Q E hr h => ?_)
  · obtain ⟨a, L, F, kp, g, wd, as, p1, p2, p3, p4, bs, ts, rfl, _⟩ := h
    rfl
  · obtain ⟨a, L, Fp, kp, g, wd, as, p1, p2, p3, p4, bs, ts, rfl, hA, hGr, gd, hPo, nF, na, hokW, hk, nka, hok, hvs, hnd, h20, q⟩ := h
    have hu65 : (A.deeper (envOfC "_law_turned" (defScope sLTurned) s.heap.objs.size f cdv)).units + 65 < cLine := by have := hr.un; omega
    refine ⟨_, pss_cons (ps_set (i := 4) scTurned.nd rfl (.inl rfl) (pe_makeK0 MG GG (hr.mono (by decide)) rfl TG.mgD kG pass0 (pk_cons (pe_make MI GI (hr.mono (by decide)) rfl T.mgC bI .nil pass0 (pa_cons (pv 1) pa_nil)) pk_nil)))
      (pss_cons (ps_set (i := 5) scTurned.nd rfl (.inl rfl) (pe_callB (cr_sortD hr.units) (by rfl) B.sorted (by decide +kernel) (pa_cons (pe_lc (own := [("_law_k", 7)]) (g := gName 7) (tt := tYes) (te := tTup (tCons (tCall spPick [] E0 (tCons (tVar 0) (tCons (tC (.int 97)) tNil))) (tCons (tVar 7) tNil))) rfl scTurned.nd (pi_range1 (by rfl) B.range (pa_cons (pe_callB call_len_seq (by rfl) B.len PySem.boot_len (pa_cons (pv 3) pa_nil)) pa_nil)) (blkOk_by (N := nTurned) (sc := defScope sLTurned) (by decide +kernel)) (fun _ _ _ _ _ => pg_name (i := 7) scTurned.nd rfl (.inl rfl)) (fun _ _ _ _ _ => pts_nil) (fun _ _ _ _ _ => pe_tup (pa_cons (pe_h hPick hr (pa_cons (pv 0) (pa_cons pe_int pa_nil))) (pa_cons (pv 7) pa_nil)))) pa_nil)))
      (pss_cons (ps_for PassesOwn.never rfl (pi_list (pv 5)) (pg_tup rfl (pgs_cons (pg_name (i := 6) scTurned.nd rfl (.inl rfl)) (pgs_cons (pg_name (i := 7) scTurned.nd rfl (.inl rfl)) pgs_nil)))
        (pss_cons (ps_par (i := 8) (j := 9) (by rfl) scTurned.nd rfl rfl (by decide) rfl rfl (pa_cons (pe_h hRow hr (pa_cons (pv 0) (pa_cons (pv 2) pa_nil))) (pa_cons (pe_h hPick hr (pa_cons (pv 0) (pa_cons pe_int pa_nil))) pa_nil)) (by rfl))
        (C8.pss_cut (ps_if (PW.pt (pw_and (pt_cmpR op_gt (pv 9) pe_int (nomark _)) (pw_and1 (pt_cmpR (op_notInD hu65) (pe_h hKey hr (pa_cons (pv 8) pa_nil)) (pe_lc (own := [("_law_old", 10)]) (g := gName 10) (tt := tYes) (te := tCall spKeyOf [] E0 (tCons (tVar 10) tNil)) rfl scTurned.nd (pi_list (pe_meth0 (pv 4) TG.cl mT FT (hr.mono (by decide)) bT vT pass0)) (blkOk_by (N := nTurned) (sc := defScope sLTurned) (by decide +kernel)) (fun _ _ _ _ _ => pg_name (i := 10) scTurned.nd rfl (.inl rfl)) (fun _ _ _ _ _ => pts_nil) (fun _ _ _ _ _ => pe_h hKey hr (pa_cons (pv 10) pa_nil))) (by rfl)))))
            (pss_cons (ps_expr (pe_h hPut hr (pa_cons (pv 4) (pa_cons (pv 8) (pa_cons pe_int pa_nil)))))
            (pss_one (ps_if (pt_cmpR op_eq (pv 9) pe_int (nomark _)) (pss_one (ps_expr (pe_hm0 hBack TG.cl hr (pv 4)))) (pss_one (ps_expr (pe_h hStr hr (pa_cons (pv 4) (pa_cons (pe_h hKey hr (pa_cons (pv 8) pa_nil)) (pa_cons pe_int pa_nil))))))))) pss_nil)
        (pss_one (ps_expr (pe_h hPut hr (pa_cons (pv 4) (pa_cons (pe_ix ix_list (pv 3) (pv 7) (fun _ _ => rfl)) (pa_cons (pe_op op_mod (pv 6) pe_int) pa_nil))))))))
      ) (pss_one (ps_ret (pe_lst (pa_cons (pv 4) (pa_cons (pe_lc (own := [("_law_number", 6), ("_law_k", 7)]) (g := gTup K 2 (gCons (gName 6) (gCons (gName 7) gNil))) (tt := tYes) (te := tOp (rIxL K) (tVar 3) (tVar 7)) rfl scTurned.nd (pi_list (pv 5)) (blkOk_by (N := nTurned) (sc := defScope sLTurned) (by decide +kernel)) (fun _ _ _ _ _ => pg_tup rfl (pgs_cons (pg_name (i := 6) scTurned.nd rfl (.inl rfl)) (pgs_cons (pg_name (i := 7) scTurned.nd rfl (.inl rfl)) pgs_nil))) (fun _ _ _ _ _ => pts_nil) (fun _ _ _ _ _ => pe_ix ix_list (pv 3) (pv 7) (fun _ _ => rfl))) pa_nil))))))), ?_⟩
    -- the Gathering
    refine ⟨_, rfl, fun pl dl npl ndl nel => ?_⟩
    have kp1 : TupKeep H (upd (upd H dl (.own pl)) pl (.ins C dl [])) := fun b xs h => by
      rw [upd_ne (ne_of_none h npl), upd_ne (ne_of_none h ndl)]
      exact h
    refine ⟨pl, dl, L, g, wd, rfl, upd_same, hGr.keep kp1, gd, fun H1 k1 hLa1 => ⟨rfl, ?_⟩⟩
    have s1 := made_same npl ndl k1
    refine ⟨rfl, rfl, fun p dp np ndp nep => ?_⟩
    have s2 : Same H1 (upd (upd H1 dp (.own p)) p (.ins D dp [])) := fun b o e => by
      rw [upd_ne (ne_of_none e np), upd_ne (ne_of_none e ndp)]
      exact e
    have npp : p ≠ pl := fun e => by
      obtain ⟨_, _, h1⟩ := hLa1.ins
      rw [← e, np] at h1
      cases h1
    refine ⟨p, dp, pl, L, g, rfl, upd_same, hLa1.same s2, npp, fun td dd H2 htd hdd k2 hG2 => ⟨rfl, ?_⟩⟩
    have s12 : Same H1 H2 := fun b o e => k2 b o (ne_of_none e np) (s2 b o e)
    have s02 := s1.trans s12
    have htd0 : H td = none := s1.free (s2.free htd)
    have hdd0 : H dd = none := s1.free (s2.free hdd)
    have nat : td ≠ a := hA.ne htd0
    have nad : dd ≠ a := hA.ne hdd0
    have lb : bs.length = ts.length := hk.tels.length
    have hk2 := s02 _ _ hk.at_
    -- the order
    refine ⟨_, rfl, kp, _, rfl, .inl (.inl (.inl hk2)), _, rfl, by rw [List.length_map]; omega, by rw [List.length_map]; omega, fun Dd hD => ?_⟩
    rw [List.length_map, lb]
    have nDa : Dd ≠ a := (hA.same s02).ne hD
    refine lc_range (lo := 0) (n := ts.length) (fun i H' => ∃ (xs : List V) (zs : List (Int × Nat)), H' Dd = some (.lst xs) ∧ Each (fun x z => ∃ t, x = V.ref t ∧ H' t = some (.tup [.int z.1, .int (z.2 : Int)])) xs zs ∧ zs.map (·.2) = List.range i ∧ (∀ z ∈ zs, 0 ≤ z.1) ∧ PurseAt H' a ∧ SameX a H2 H') ⟨[], [], upd_same, .nil, rfl, (fun z hz => nomatch hz), (hA.same s02).same (same_new hD), sx (same_new hD)⟩ ?_ ?_
    · rintro i H3 hi ⟨xs, zs, hz, ez, er, e0, hA3, x3⟩
      refine ⟨rfl, yes_it ⟨_, rfl, a, 97, rfl, hA3, by decide, by decide, fun rr H4 r0 r1 hA4 x4 n4 => ⟨_, rfl, lz, fun t ht => ?_⟩⟩⟩
      have hz4 := x4 _ _ nDa hz
      have hz5 : upd H4 t (.tup [V.int rr, V.int (0 + (i : Int))]) Dd = some (.lst xs) := same_new ht _ _ hz4
      have ll : xs.length = i := by
        rw [ez.length, ← List.length_map (f := fun (z : Int × Nat) => z.2), er, List.length_range]
      have hd0 : H2 t = none := SameX.free (x3.trans x4) (hA4.ne ht) ht
      have ntD : t ≠ Dd := fun e => by
        rw [e, upd_same] at hz5
        cases hz5
      obtain ⟨pys, hpu⟩ := hA3.lst
      refine ⟨xs, hz5, small1000 (by omega), xs ++ [.ref t], zs ++ [(rr, i)], upd_same, ?_, ?_, ?_, ?_, ?_⟩
      · refine Each.append (ez.mono fun x z h => ?_) (.cons ⟨t, rfl, ?_⟩ .nil)
        · obtain ⟨t', e, h'⟩ := h
          have h4 := tk_x x4 hpu _ _ h'
          refine ⟨t', e, ?_⟩
          rw [upd_ne (ne_of h4 hz4 (by intro z; cases z)), upd_ne (ne_of_none h4 ht)]
          exact h4
        · rw [upd_ne ntD, upd_same, Int.zero_add]
      · rw [List.map_append, er, List.range_succ]
        rfl
      · intro z hz
        rcases List.mem_append.mp hz with hz | hz
        · exact e0 z hz
        · rw [List.mem_singleton.mp hz]
          exact r0
      · obtain ⟨y0, y1, y2, hy, hy1⟩ := hA4
        refine ⟨y0, y1, y2, ?_, hy1⟩
        rw [upd_ne nDa.symm, upd_ne (ne_of_none hy ht)]
        exact hy
      · exact sameX_mut ((x3.trans x4).trans (sx (same_new ht))) hD
    rintro H3 ⟨xs, zs, hz, ez, er, e0, hA3, x3⟩
    unfold tNil
    refine sort_enc (K := K) (enc := pr2D) (.inl (.inl hz)) (ez.mono fun x z ⟨t, e, h⟩ => by
      rw [e]
      exact .tup (.inl (.inl h)) (.cons (.int _) (.cons (.int _) .nil))) (fun _ _ => rfl) (fun z => ⟨_, _, rfl⟩) (fun z => by simp [pr2D, PyData.depth, PyData.depthAll]) fun oL ys hoL hys => ?_
    obtain ⟨os, eos⟩ : ∃ os, os = sortE pr2D zs := ⟨_, rfl⟩
    have pos_ : os.Perm zs := by
      rw [eos]
      exact sortE_ind zs
    have eo3 := hys _ ez
    rw [← eos] at eo3
    have s4 := same_new (o := .lst ys) hoL
    have hoL4 : upd H3 oL (.lst ys) oL = some (.lst ys) := upd_same
    have noa : oL ≠ a := hA3.ne hoL
    have hG3 := hG2.x (hA.same s02) x3 nat nad
    have not_ : oL ≠ td := (ne_of_none hG3.told hoL).symm
    have nod : oL ≠ dd := (ne_of_none hG3.deeds hoL).symm
    have nkt : kp ≠ td := ne_of_none hk.at_ htd0
    have nkd : kp ≠ dd := ne_of_none hk.at_ hdd0
    have nF3 : Fp ≠ a ∧ Fp ≠ td ∧ Fp ≠ dd := ⟨nF, ne_of_none hPo.1 htd0, ne_of_none hPo.1 hdd0⟩
    have na3 : ∀ p ∈ as, p ≠ a ∧ p ≠ td ∧ p ≠ dd := fun p hp => by
      obtain ⟨i, hi, ei⟩ := List.mem_iff_getElem.mp hp
      obtain ⟨ws, _, hw⟩ := Each.get hPo.2 (i := i) (a := p) (by rw [List.getElem?_eq_getElem hi, ei])
      exact ⟨na p hp, ne_of_none hw htd0, ne_of_none hw hdd0⟩
    have x04 : SameX a H (upd H3 oL (.lst ys)) := ((sx s02).trans x3).trans (sx s4)
    have hA4 := hA3.same s4
    have hG4 := hG3.same s4
    have eo4 : Each (fun x z => ∃ t, x = V.ref t ∧ upd H3 oL (.lst ys) t = some (.tup [.int z.1, .int (z.2 : Int)])) ys os := eo3.mono fun x z ⟨t, e, h⟩ => ⟨t, e, s4 _ _ h⟩
    generalize upd H3 oL (.lst ys) = Hs at hoL4 x04 hA4 hG4 eo4 ⊢
    clear eo3 s4 hoL hys
    have hPos := hPo.x x04 nF na
    have hks : Hs kp = some (.lst (bs.map V.ref)) := x04 _ _ nka hk.at_
    obtain ⟨pys, hpu⟩ := hA.lst
    have hts : TelsAt Hs bs ts := hk.tels.keep (tk_x x04 hpu)
    have lo : os.length = ts.length := by
      rw [pos_.length_eq, ← List.length_map (f := fun (z : Int × Nat) => z.2), er, List.length_range]
    have hin : ∀ z ∈ os, z.2 < ts.length := fun z hz => by
      have : z.2 ∈ zs.map (·.2) := List.mem_map_of_mem (pos_.mem_iff.mp hz)
      rw [er] at this
      exact List.mem_range.mp this
    have hpos : ∀ z ∈ os, 0 ≤ z.1 := fun z hz => e0 z (pos_.mem_iff.mp hz)
    have pu : (os.filterMap fun z => ts[z.2]?).Perm ts := by
      have h1 := pos_.filterMap fun (z : Int × Nat) => ts[z.2]?
      have h2 : (zs.filterMap fun z => ts[z.2]?) = ts := by
        have : (zs.filterMap fun z => ts[z.2]?) = (zs.map (·.2)).filterMap fun k => ts[k]? := by
          rw [List.filterMap_map]
          rfl
        rw [this, er, range_pick]
      rw [h2] at h1
      exact h1
    have ndu : ((os.filterMap fun z => ts[z.2]?).map keyS).Nodup := (pu.map keyS).nodup_iff.mpr hnd
    have ly : ys.length = os.length := eo4.length
    refine ⟨_, rfl, oL, rfl, ⟨_, .inl (.inl hoL4)⟩, for_list (K := K) (a := oL) (xs := ys) (fun i σ H' => (∃ y6 y7 y8 y9, σ = [some (.ref a), some (.ref L), some (.ref Fp), some (.ref kp), some (.ref p), some (.ref oL), y6, y7, y8, y9, none]) ∧ ∃ r, TurnI g C D Hs H' a p td dd r ((os.take i).filterMap fun z => ts[z.2]?) (3 * i))
      ⟨⟨_, _, _, _, rfl⟩, _, hA4, But3.refl _ _ _ _, hG4, rfl, rfl, rfl, rfl, Nat.le_refl _⟩ (fun i σ H' _ h => .inl (.inl (let ⟨_, r, I⟩ := h; I.but _ _ noa not_ nod hoL4))) ?_ ?_⟩
    · rintro i x σ H5 hx ⟨⟨y6, y7, y8, y9, rfl⟩, r, I⟩
      obtain ⟨z, hzi, t0, rfl, ht0⟩ := eo4.get hx
      have hzm := List.mem_of_getElem? hzi
      have hii : i < os.length := (List.getElem?_eq_some_iff.mp hzi).1
      obtain ⟨pys4, hpu4⟩ := hA4.lst
      have tk5 := I.but.tels hpu4 hG4.told hG4.deeds
      refine ⟨t0, _, rfl, .inl (.inl (tk5 _ _ ht0)), rfl, _, _, rfl, _, _, rfl, rfl, ?_⟩
      refine ⟨_, rfl, _, rfl, a, Fp, as, _, p1, p2, p3, p4, rfl, I.pu, hPos.but I.but nF3 na3, nF, na, hokW, fun rp t H6 nrp okt v0 m1 m2 m3 m4 hrp hA6 x6 => ?_⟩
      refine ⟨_, rfl, a, 3, rfl, hA6, by decide, by decide, fun way H7 w0 w1 hA7 x7 _ => ⟨_, _, rfl, ?_⟩⟩
      have nrt : r.td ≠ a := by rw [I.e1]; exact nat
      have nrd : r.dd ≠ a := by rw [I.e2]; exact nad
      have x57 := x6.trans x7
      have hG7 := I.gat.x I.pu x57 nrt nrd
      have b7 := I.but.x x57
      have hrp7 : H7 rp = some (.tup (telV t)) := by
        obtain ⟨pys6, hpu6⟩ := hA6.lst
        exact tk_x x7 hpu6 _ _ hrp
      have l20 : r.ts.length ≤ i := by
        rw [I.rt]
        refine Nat.le_trans (List.length_filterMap_le _ _) ?_
        rw [List.length_take]
        omega
      have okr : ∀ u ∈ r.ts, OkT u := fun u hu => by
        rw [I.rt] at hu
        obtain ⟨z', _, hz'⟩ := List.mem_filterMap.mp hu
        exact hok u (List.mem_of_getElem? hz')
      have I7 : TurnI g C D Hs H7 a p td dd r ((os.take i).filterMap fun z => ts[z.2]?) (3 * i + 2) := ⟨hA7, b7, hG7, I.rg, I.e1, I.e2, I.rt, by have := I.dl; omega⟩
      have dl := I.dl
      refine ⟨fun σ H' => σ = [some (.ref a), some (.ref L), some (.ref Fp), some (.ref kp), some (.ref p), some (.ref oL), some (.int z.1), some (.int (z.2 : Int)), some (.ref rp), some (.int way), none] ∧ ∃ r, TurnI g C D Hs H' a p td dd r ((os.take i).filterMap fun z => ts[z.2]?) (3 * i + 2), ?_, ?_⟩
      · refine ⟨_, rfl, _, _, rfl, rfl, _, rfl, and_b (fun ew => ?_) ⟨rfl, r, I7⟩⟩
        refine ⟨_, rfl, rp, t, rfl, hrp7, fun u hu => ?_⟩
        have s8 := same_new (o := .tup (keyV t)) hu
        have hu8 : upd H7 u (.tup (keyV t)) u = some (.tup (keyV t)) := upd_same
        generalize upd H7 u (.tup (keyV t)) = H8 at s8 hu8 ⊢
        have hG8 := hG7.same s8
        obtain ⟨dx, hp8⟩ := hG8.at_
        refine ⟨_, rfl, p, dx, _, rfl, hp8, gf_no _ _ _, p, r, rfl, hG8, fun l hl => ?_⟩
        have s9 := same_new (o := .lst (r.as.map V.ref)) hl
        have hl9 : upd H8 l (.lst (r.as.map V.ref)) l = some (.lst (r.as.map V.ref)) := upd_same
        generalize upd H8 l (.lst (r.as.map V.ref)) = H9 at s9 hl9 ⊢
        have s79 := s8.trans s9
        have ht9 : TelsAt H9 r.as r.ts := hG7.tels.keep (tk_same s79)
        have la : r.as.length = r.ts.length := ht9.length
        refine ⟨l, rfl, ⟨_, .inl (.inl hl9)⟩, fun De hDe => ?_⟩
        refine lc_rel (walk_list (K := K) (a := l) (xs := r.as.map V.ref)) hDe (fun _ => true) (fun x z H' => ∀ (pt : Addr) (t' : Tel), x = .ref pt → H9 pt = some (.tup (telV t')) → ∃ k, z = .ref k ∧ H' k = some (.tup (keyV t'))) (fun H' s' => .inl (.inl (s' _ _ hl9))) (fun _ => rfl) (fun x H' _ _ Q' q' => q') ?_ ?_ ?_ ?_
        · intro x H' hx _ s' Q' q'
          obtain ⟨pt, hpt, rfl⟩ := List.mem_map.mp hx
          obtain ⟨j, hj, ej⟩ := List.mem_iff_getElem.mp hpt
          obtain ⟨t', ht', hH⟩ := Each.get ht9 (i := j) (a := pt) (by rw [List.getElem?_eq_getElem hj, ej])
          refine ⟨_, rfl, pt, t', rfl, s' _ _ hH, fun k hk => q' _ _ (same_new hk) fun pt2 t2 e2 h2 => ⟨k, rfl, ?_⟩⟩
          obtain rfl : pt = pt2 := V.ref.inj e2
          rw [hH] at h2
          rw [upd_same, telV_inj (HO.tup.inj (Option.some.inj h2))]
        · intro x y H' H'' acc hacc xs' rr pt t' e h
          obtain ⟨k, rfl, hk⟩ := rr pt t' e h
          exact ⟨k, rfl, xs' _ _ (ne_of hk hacc (by intro z; cases z)) hk⟩
        · rw [List.length_map]
          exact small1000 (by omega)
        · intro zs' H10 s10 hD10 he
          rw [List.filter_eq_self.mpr fun _ _ => rfl] at he
          have dpk := keys_dp (K := K) ht9 he
          refine ⟨.tuple ((keyS t).map .str), r.ts.map kD, .tup (.inl (.inl ((s9.trans s10) _ _ hu8))) (dp_strs (keyS t)), .lst (.inl (.inl hD10)) dpk, shaped_strs okt.key, shaped_list (lay_keys okr) (by have := depth_keys r.ts; omega), _, rfl, ?_⟩
          rw [any_keys]
          have s710 := s79.trans s10
          have hG10 := hG7.same s710
          refine not_b (fun e => ?_) (fun e => ⟨rfl, r, hA7.same s710, b7.same s710, hG10, I.rg, I.e1, I.e2, I.rt, by omega⟩)
          have hnew := of_decide_eq_false e
          refine ⟨_, rfl, _, rfl, p, rp, 4, r, wd, t, rfl, s710 _ _ hrp7, hG10, by rw [I.rg]; exact gd, okr, okt, by rw [I.rg]; exact mem_sortS.mp v0, hnew, by omega, by omega, fun q1 H11 nq m11 hG11 => ?_⟩
          have k11 : Keep H10 H11 := kp_2 m11 hG10.told hG10.deeds
          have b11 : But3 a td dd Hs H11 := (b7.same s710).two (by rw [← I.e1, ← I.e2]; exact m11)
          have hA11 : PurseAt H11 a := by
            obtain ⟨y0, y1, y2, hy, hy1⟩ := hA7.same s710
            exact ⟨y0, y1, y2, m11 _ _ nrt.symm nrd.symm hy, hy1⟩
          have hrp11 := k11.tk _ _ (s710 _ _ hrp7)
          have l1 : (r.ts ++ [t]).length = r.ts.length + 1 := by simp
          refine ⟨_, rfl, rfl, _, rfl, ite_b (fun e1 => ?_) (fun e1 => ?_)⟩
          · obtain ⟨dx11, hp11⟩ := hG11.at_
            refine ⟨_, rfl, p, dx11, _, rfl, hp11, gf_no _ _ _, p, r.add q1 t, rfl, hG11, by show (r.ts ++ [t]).length ≤ 200; omega, .inl ⟨r.as, q1, r.ts, t, r.ds, rfl, rfl, rfl, fun H12 m12 hG12 => ?_⟩⟩
            refine ⟨rfl, _, ?_, b11.two (by rw [← I.e1, ← I.e2]; exact m12), hG12, I.rg, I.e1, I.e2, I.rt, by show r.ds.length ≤ _; omega⟩
            obtain ⟨y0, y1, y2, hy, hy1⟩ := hA11
            exact ⟨y0, y1, y2, m12 _ _ nrt.symm nrd.symm hy, hy1⟩
          · refine ⟨_, rfl, _, rfl, rp, t, rfl, hrp11, fun u2 hu2 => ?_⟩
            have s12 := same_new (o := .tup (keyV t)) hu2
            have hu12 : upd H11 u2 (.tup (keyV t)) u2 = some (.tup (keyV t)) := upd_same
            generalize upd H11 u2 (.tup (keyV t)) = H12 at s12 hu12 ⊢
            have hG12 := hG11.same s12
            have okr' : ∀ u ∈ (r.add q1 t).ts, OkT u := fun u hu => by
              rcases List.mem_append.mp hu with hu | hu
              · exact okr u hu
              · rw [List.mem_singleton.mp hu]
                exact okt
            refine ⟨p, u2, r.add q1 t, t, r.ts.length, rfl, hu12, hG12, okr', by show (r.ts ++ [t]).length ≤ 200; omega, by show (r.ds ++ [V.non]).length < 1000; rw [List.length_append]; simp only [List.length_cons, List.length_nil]; omega, find_last hnew, okt, fun q2 pa H13 nq2 hpa m13 hG13 _ => ?_⟩
            refine ⟨rfl, _, ?_, (b11.same s12).two (by rw [← I.e1, ← I.e2]; exact m13), hG13, I.rg, I.e1, I.e2, ?_, ?_⟩
            · obtain ⟨y0, y1, y2, hy, hy1⟩ := hA11.same s12
              exact ⟨y0, y1, y2, m13 _ _ nrt.symm nrd.symm hy, hy1⟩
            · show (r.ts ++ [t]).eraseIdx r.ts.length = _
              rw [erase_last, I.rt]
            · show (r.ds ++ [V.non] ++ [V.ref q2]).length ≤ _
              simp only [List.length_append, List.length_cons, List.length_nil]
              omega
      rintro σ H8 ⟨rfl, r2, I8⟩
      have tk8 := I8.but.tels hpu4 hG4.told hG4.deeds
      have hz2 := hin z hzm
      obtain ⟨tt, htt⟩ : ∃ tt, ts[z.2]? = some tt := ⟨ts[z.2], List.getElem?_eq_getElem hz2⟩
      obtain ⟨bp, hbp, hbt⟩ := Each.get2 hts htt
      have httm := List.mem_of_getElem? htt
      have hk8 := I8.but _ _ nka nkt nkd hks
      have etk : (os.take (i + 1)).filterMap (fun z => ts[z.2]?) = ((os.take i).filterMap fun z => ts[z.2]?) ++ [tt] := by
        rw [List.take_add_one, hzi, List.filterMap_append]
        show _ ++ [z].filterMap _ = _
        rw [List.filterMap_cons, htt]
        rfl
      have hnew : keyS tt ∉ r2.ts.map keyS := by
        have h1 : ((((os.take (i + 1)).filterMap fun z => ts[z.2]?) ++ ((os.drop (i + 1)).filterMap fun z => ts[z.2]?)).map keyS).Nodup := by
          rw [← List.filterMap_append, List.take_append_drop]
          exact ndu
        rw [etk, List.map_append, List.map_append, List.nodup_append] at h1
        have h2 := h1.1
        rw [List.nodup_append] at h2
        intro h
        rw [I8.rt] at h
        exact h2.2.2 _ h _ (by simp) rfl
      have l82 : r2.ts.length ≤ i := by
        rw [I8.rt]
        refine Nat.le_trans (List.length_filterMap_le _ _) ?_
        rw [List.length_take]
        omega
      have okr2 : ∀ u ∈ r2.ts, OkT u := fun u hu => by
        rw [I8.rt] at hu
        obtain ⟨z', _, hz'⟩ := List.mem_filterMap.mp hu
        exact hok u (List.mem_of_getElem? hz')
      have dl8 := I8.dl
      refine ⟨_, rfl, _, rfl, _, rfl, kp, _, _, .ref bp, rfl, rfl, .inl (.inl hk8), at_of (j := z.2) rfl (by rw [List.getElem?_map, hbp]; rfl), _, rfl, _, _, rfl, rfl, (show (0 : Int) < 5 by decide), p, bp, _, r2, wd, tt, rfl, tk8 _ _ hbt, I8.gat, by rw [I8.rg]; exact gd, okr2, hok tt httm, by rw [I8.rg]; exact hvs tt httm, hnew, by omega, by omega, fun q3 H9 nq3 m9 hG9 => ?_⟩
      refine ⟨⟨_, _, _, _, rfl⟩, _, ?_, I8.but.two (by rw [← I8.e1, ← I8.e2]; exact m9), hG9, I8.rg, I8.e1, I8.e2, ?_, ?_⟩
      · obtain ⟨y0, y1, y2, hy, hy1⟩ := I8.pu
        exact ⟨y0, y1, y2, m9 _ _ (by rw [I8.e1]; exact nat.symm) (by rw [I8.e2]; exact nad.symm) hy, hy1⟩
      · show r2.ts ++ [tt] = _
        rw [I8.rt, etk]
      · show (r2.ds ++ [V.non]).length ≤ _
        simp only [List.length_append, List.length_cons, List.length_nil]
        omega
    · rintro σ H5 ⟨⟨y6, y7, y8, y9, rfl⟩, r, I⟩
      obtain ⟨pys4, hpu4⟩ := hA4.lst
      rw [ly, List.take_length] at I
      have tk5 := I.but.tels hpu4 hG4.told hG4.deeds
      have hk5 := I.but _ _ nka nkt nkd hks
      have ho5 := I.but _ _ noa not_ nod hoL4
      refine ⟨_, rfl, _, rfl, oL, rfl, ⟨_, .inl (.inl ho5)⟩, fun De hDe => ?_⟩
      have nDa5 : De ≠ a := I.pu.ne hDe
      refine lc_list (K := K) (a := oL) (xs := ys) (fun i H' => Same H5 H' ∧ H' De = some (.lst (((os.take i).filterMap fun z => bs[z.2]?).map V.ref))) ⟨same_new hDe, upd_same⟩ (fun i H' _ h => .inl (.inl (h.1 _ _ ho5))) ?_ ?_
      · rintro i x H6 hx ⟨s6, hD6⟩
        obtain ⟨z, hzi, t0, rfl, ht0⟩ := eo4.get hx
        have hz2 := hin z (List.mem_of_getElem? hzi)
        have hii : i < os.length := (List.getElem?_eq_some_iff.mp hzi).1
        obtain ⟨bp, hbp⟩ : ∃ bp, bs[z.2]? = some bp := ⟨bs[z.2]'(by omega), List.getElem?_eq_getElem (by omega)⟩
        refine ⟨t0, _, rfl, .inl (.inl (s6 _ _ (tk5 _ _ ht0))), rfl, _, _, rfl, _, _, rfl, rfl, rfl, yes_it ⟨_, rfl, _, rfl, kp, _, _, .ref bp, rfl, rfl, .inl (.inl (s6 _ _ hk5)), at_of (j := z.2) rfl (by rw [List.getElem?_map, hbp]; rfl), _, hD6, ?_, same_mut s6 hDe, ?_⟩⟩
        · rw [List.length_map]
          refine small1000 (Nat.le_trans (List.length_filterMap_le _ _) ?_)
          rw [List.length_take]
          omega
        · rw [upd_same, List.take_add_one, hzi, List.filterMap_append, List.map_append]
          show _ = some (HO.lst (_ ++ List.map V.ref ([z].filterMap _)))
          rw [List.filterMap_cons, hbp]
          rfl
      · rintro H6 ⟨s6, hD6⟩
        rw [ly, List.take_length] at hD6
        refine ⟨lz, fun R hR => ?_⟩
        have s7 := same_new (o := .lst [V.ref p, V.ref De]) hR
        have s57 := s6.trans s7
        have x5 : SameX a H H5 := fun c o n1 e => I.but _ _ n1 (ne_of_none e htd0) (ne_of_none e hdd0) (x04 c o n1 e)
        refine q R p De r (os.filterMap fun z => bs[z.2]?) _ (I.gat.same s57) I.rg ⟨s7 _ _ hD6, ?_⟩ (by rw [I.rt]; exact pu) (I.pu.same s57) (x5.trans (sx s57)) (by rw [I.e1]; exact htd0) (by rw [I.e2]; exact hdd0) (SameX.free x5 nDa5 hDe) upd_same
        rw [I.rt]
        exact (each_pick hts (fun (z : Int × Nat) => z.2) os).mono fun b t h => s57 _ _ (tk5 _ _ h)
end
end Wl

/-! t[::-1], t a tuple. -/
namespace Wl
open PySem PySem.Spec PyProof.Rows L2
theorem places_back (n : Nat) : Builtin.Slice.slicePlaces ((n : Int) - 1) (-1) (-1) = n := by
  unfold Builtin.Slice.slicePlaces
  rw [if_neg (by decide : ¬ ((-1 : Int) > 0)), show (- -1 : Int) = 1 from rfl, Int.ediv_one]
  split <;> omega
theorem pick_back (xs : Array Value) : ((List.range xs.size).filterMap fun (k : Nat) => xs[((xs.size : Int) - 1 + (k : Int) * -1).toNat]?).toArray = xs.toList.reverse.toArray := by
  have := PySem.W.krv_pick xs
  unfold slicePick at this
  have e : sliceBounds none none (some (-1)) xs.size = ((xs.size : Int) - 1, -1, -1) := by simp [sliceBounds]
  rw [e, PySem.W.krv_sliceRange, List.filterMap_map] at this
  rw [← this]
  congr 1
  have key : ∀ (l : List Nat), (∀ k ∈ l, k < xs.size) → (l.filterMap fun (k : Nat) => xs[((xs.size : Int) - 1 + (k : Int) * -1).toNat]?) = l.filterMap ((fun x => xs[x]?) ∘ fun k => xs.size - 1 - k) := by
    intro l
    induction l with
    | nil => intro _; rfl
    | cons k r ih =>
      intro hk
      have h1 := hk k List.mem_cons_self
      have e : ((xs.size : Int) - 1 + (k : Int) * -1).toNat = xs.size - 1 - k := by omega
      rw [List.filterMap_cons, List.filterMap_cons, ih fun j hj => hk j (List.mem_cons_of_mem _ hj), e]
      rfl
  exact key _ fun k hk => List.mem_range.mp hk
section
variable {prog : Program} {w : World} {A : Around} {E : Value → Shared → Prop} {s : Shared}
theorem item_back {t sl : Addr} {items : Array Value} {vl vu vs : Value} {Q : Value → Shared → Prop} (ht : s.heap.IsTuple t items) (hs : s.heap.IsSliceOf sl vl vu vs) (pl : IsPart vl none) (pu : IsPart vu none) (ps : IsPart vs (some (-1)))
    (h : Q (.ref s.heap.objs.size) { s with heap := s.heap.push { cls := .type "tuple", data := .seq items.toList.reverse.toArray } }) (hz : items.size ≤ sizeLine) : wpAny (model prog w) A (getItem (.ref t) (.ref sl)) Q E s := by
  obtain ⟨os, hos, hcs, hds⟩ := id hs
  have hTs : s.TypeIs (.ref sl) "slice" := ⟨os, hos, hcs⟩
  have hso : sizeOk (.seq items.toList.reverse.toArray) := by
    show items.toList.reverse.toArray.size ≤ sizeLine
    rw [List.size_toArray, List.length_reverse, Array.length_toList]
    exact hz
  unfold getItem
  refine wpAny_holding (wpAny_bind (wpAny_sequenceKey ht.typeIs (by decide) (wpAny_bind (wpAny_callSpecial?_slot (name := Str.ofString "__getitem__") ht.typeIs PyProof.Rows.slot_tuple_getitem (wpAny_call_entry PyProof.Rows.slot_tuple_getitem ht.typeIs entry_tuple_getitem ?_ (args_tuple_getitem _ _))))))
  refine (show wpAny _ _ (Builtin.Tuple.tupleItemsOf (.ref t) >>= _) _ _ s from wpAny_bind (PyProof.Rows.tupleItemsOf_ ht (wpAny_bind (wpAny_typeOf hTs ?_))))
  rw [if_pos (by decide)]
  refine wpAny_bind ?_
  unfold Builtin.Slice.sliceApplied Builtin.Slice.sliceFields
  refine wpAny_bind (wpAny_bind (wpAny_field hos hds (x := vl) rfl (wpAny_bind (wpAny_field hos hds (x := vu) rfl (wpAny_bind (wpAny_field hos hds (x := vs) rfl (wpAny_pure (wpAny_bind (HT.slicePart_ ps ?_)))))))))
  show wpAny _ _ (if ((-1 : Int) == 0) = true then _ else _) _ _ s
  rw [if_neg (by decide)]
  refine wpAny_bind (HT.slicePart_ pl (wpAny_bind (HT.slicePart_ pu (wpAny_bind (wpAny_pure ?_)))))
  show wpAny _ _ (pure ((items.size : Int) - 1, (-1 : Int), Builtin.Slice.slicePlaces ((items.size : Int) - 1) (-1) (-1))) _ _ s
  rw [places_back]
  refine wpAny_pure ?_
  show wpAny _ _ (if (((items.size : Int) - 1 == 0) && ((-1 : Int) == 1) && (items.size == items.size)) = true then _ else _) _ _ s
  rw [if_neg (by simp), pick_back]
  first
    | exact wpAny_bind (m := Builtin.Tuple.tupleExact _) (wpAny_newObj_type (wpAny_pure ⟨_, rfl, wpAny_pure h⟩) hso)
    | exact wpAny_bind (m := Builtin.Tuple.tupleExact _) (wpAny_newObj_type (wpAny_bind (wpAny_pure (wpAny_pure ⟨_, rfl, wpAny_pure h⟩))) hso)
    | exact wpAny_bind (wpAny_bind (m := Builtin.Tuple.tupleExact _) (wpAny_newObj_type (wpAny_pure (wpAny_pure ⟨_, rfl, wpAny_pure h⟩)) hso))
    | exact wpAny_bind (wpAny_bind (m := Builtin.Tuple.tupleExact _) (wpAny_newObj_type (wpAny_pure ⟨_, rfl, wpAny_pure h⟩) hso))
end
def tRevT (K : PySem.W.Frag) (te : TE) : TE := fun σ H Q => te σ H fun x H1 => ∃ a xs, x = .ref a ∧ SqT K H1 a xs ∧ ∀ p, H1 p = none → Q (.ref p) (upd H1 p (.tup xs.reverse))
theorem pe_revT {X : Cx} {e : Expr} {te : TE} {k : Nat} {p1 p2 p3 pos : Pos} (he : PE X e te) : PE X (.Subscript e (.Slice none none (some (.UnaryOp .USub (.Constant (.int 1) k p1) p2)) p3) pos) (tRevT X.K te) := by
  refine ⟨fun pins s σ H Q I h => Subscript_ (thn (he.run pins s σ H _ I h) fun v s1 ⟨x, H1, I1, r1, a, xs, ex, hx, q⟩ => ?_)⟩
  subst ex
  cases r1
  have hst : PO X (some (.UnaryOp .USub (.Constant (.int 1) k p1) p2)) (tPart (tUn (rU fun i => .int (-i)) (tC (.int 1)))) := po_some (pe_un un_neg pe_int)
  refine wpAny_Slice (thn (po_none.run pins s1 σ H1 (fun o H2 => o = none ∧ H2 = H1) I1 ⟨rfl, rfl⟩) fun vl s2 ⟨l, H2, I2, pl, el, e2⟩ => ?_)
  subst el e2
  refine thn (po_none.run pins s2 σ H2 (fun o H3 => o = none ∧ H3 = H2) I2 ⟨rfl, rfl⟩) fun vu s3 ⟨u, H3, I3, pu, eu, e3⟩ => ?_
  subst eu e3
  refine thn (hst.run pins s3 σ H3 (fun o H4 => o = some (-1) ∧ H4 = H3) I3 ⟨1, rfl, -1, rfl, rfl, rfl⟩) fun vs s4 ⟨o, H4, I4, ps, eo, e4⟩ => ?_
  subst eo e4
  have J : L2.Inv X pins σ H4 { s4 with heap := s4.heap.push { cls := .type "slice", data := .fields #[vl, vu, vs] } } := I4.kept (t' := s4.toks) fun b ob q => Heap.get?_push_of_some _ q
  obtain ⟨its, r, ht, hz⟩ := J.tuple hx
  have hlen := r.length
  show wpAny (model X.prog X.w) X.A (subscriptTail e (.Slice none none (some (.UnaryOp .USub (.Constant (.int 1) k p1) p2)) p3) (.ref a) (.ref s4.heap.objs.size)) _ _ _
  refine tail_any (ops := [.ref a, .ref s4.heap.objs.size]) ht.typeIs (PyProof.Rows.slot_tuple_getitem.lookup) ?_ (by with_unfolding_all rfl)
  refine item_back ht (Heap.IsSliceOf.new _ vl vu vs) pl pu ps ?_ (by rw [List.size_toArray]; omega)
  refine ⟨.ref _, _, J.laid (t' := s4.toks) (o := .tup xs.reverse) (fun b ob q => Heap.get?_push_of_some _ q) (Nat.le_refl _) ?_, rfl, q _ (J.hok.fresh (Nat.le_refl _))⟩
  exact ⟨by rw [List.length_reverse]; exact hz, _, r.reverse, ⟨_, Heap.get?_push_size _ rfl, rfl, 0, rfl⟩⟩
end Wl

namespace Wl
open PySem PySem.Spec PyProof.Rows L2
theorem names_rev (g : Grid) : (names g.reverse).Perm (names g) := by
  unfold names
  exact (List.Perm.flatten (List.reverse_perm g)).filterMap id
theorem Good.rev {g : Grid} {wd : Nat} (G : Good g wd) : Good g.reverse wd :=
  have p := names_rev g
  ⟨by rw [List.length_reverse]; exact G.h1, by rw [List.length_reverse]; exact G.h6, G.w1, G.w6, fun r hr => G.rows r (List.mem_reverse.mp hr), p.nodup_iff.mpr G.nd, fun z hz => G.wd z (p.mem_iff.mp hz), fun e => G.ne (by rw [e] at p; exact p.symm.eq_nil)⟩
theorem each_rev {α β : Type} {R : α → β → Prop} : ∀ {as : List α} {bs : List β}, Each R as bs → Each R as.reverse bs.reverse
  | _, _, .nil => .nil
  | _, _, .cons r t => by
    rw [List.reverse_cons, List.reverse_cons]
    exact Each.append (each_rev t) (.cons r .nil)
/-- what stands in the place of one -/
structure MateOk (rest : List Tel) (old t : Tel) : Prop where
  ok : OkT t
  v : t.v = old.v
  key : keyS t ∉ rest.map keyS
theorem cut_perm {ts : List Tel} {i : Nat} {old : Tel} (h : ts[i]? = some old) : ts.Perm (old :: (ts.take i ++ ts.drop (i + 1))) := by
  obtain ⟨hi, e⟩ := List.getElem?_eq_some_iff.mp h
  have h1 : ts = ts.take i ++ old :: ts.drop (i + 1) := by
    rw [← e, ← List.drop_eq_getElem_cons hi, List.take_append_drop]
  have h2 : (ts.take i ++ old :: ts.drop (i + 1)).Perm (old :: (ts.take i ++ ts.drop (i + 1))) := List.perm_middle
  exact (List.Perm.of_eq h1).trans h2
theorem mate_unlike {ts rest : List Tel} {old t : Tel} (h : ts.Perm (old :: rest)) (hne : t ≠ old) : ¬ (rest ++ [t]).Perm ts := fun p => by
  have h1 : (t :: rest).Perm (old :: rest) := ((List.perm_append_comm (l₁ := [t]) (l₂ := rest)).trans p).trans h
  have h2 : (rest ++ [t]).Perm (rest ++ [old]) := ((List.perm_append_comm (l₁ := rest) (l₂ := [t])).trans h1).trans (List.perm_append_comm (l₁ := [old]) (l₂ := rest))
  have h3 := (List.perm_append_left_iff rest).mp h2
  have h4 : t ∈ [old] := h3.mem_iff.mp List.mem_cons_self
  exact hne (List.mem_singleton.mp h4)
theorem fewer_unlike {ts rest : List Tel} {old : Tel} (h : ts.Perm (old :: rest)) : ¬ rest.Perm ts := fun p => by
  have := p.length_eq
  have := h.length_eq
  simp only [List.length_cons] at this
  omega
theorem more_unlike {ts : List Tel} {t : Tel} : ¬ (ts ++ [t]).Perm ts := fun p => by
  have := p.length_eq
  simp at this
/-- what is found so far -/
structure UnI (g : Grid) (ts : List Tel) (C D : Addr) (H0 H : Hp) (a fo : Addr) (ps : List Addr) : Prop where
  pu : PurseAt H a
  sx : SameX a H0 H
  at_ : H fo = some (.lst (ps.map V.ref))
  all : ∀ p ∈ ps, ∃ r, GatAt C D H p r ∧ (∃ wd, Good r.g wd) ∧ (∀ t ∈ r.ts, OkT t) ∧ ¬ (r.g = g ∧ r.ts.Perm ts) ∧ H0 r.td = none ∧ H0 r.dd = none ∧ r.td ≠ fo ∧ r.dd ≠ fo
theorem UnI.same {g : Grid} {ts : List Tel} {C D : Addr} {H0 H H' : Hp} {a fo : Addr} {ps : List Addr} (I : UnI g ts C D H0 H a fo ps) (s : Same H H') : UnI g ts C D H0 H' a fo ps :=
  ⟨I.pu.same s, I.sx.trans (Wl.sx s), s _ _ I.at_, fun p hp => let ⟨r, h, k⟩ := I.all p hp; ⟨r, h.same s, k⟩⟩
theorem UnI.x {g : Grid} {ts : List Tel} {C D : Addr} {H0 H H' : Hp} {a fo : Addr} {ps : List Addr} (I : UnI g ts C D H0 H a fo ps) (hA0 : PurseAt H0 a) (nf : fo ≠ a) (hA : PurseAt H' a) (s : SameX a H H') : UnI g ts C D H0 H' a fo ps :=
  ⟨hA, I.sx.trans s, s _ _ nf I.at_, fun p hp => by
    obtain ⟨r, h, k1, k2, k3, k4, k5, k6⟩ := I.all p hp
    exact ⟨r, h.x I.pu s (hA0.ne k4) (hA0.ne k5), k1, k2, k3, k4, k5, k6⟩⟩
/-- one more found -/
theorem UnI.more {g : Grid} {ts : List Tel} {C D : Addr} {H0 H H' : Hp} {a fo p : Addr} {ps : List Addr} {r : GR} {wd : Nat} (I : UnI g ts C D H0 H a fo ps) (hA0 : PurseAt H0 a) (nf : fo ≠ a) (f0 : H0 fo = none) (s : Same H H') (hG : GatAt C D H' p r) (gd : Good r.g wd) (hok : ∀ t ∈ r.ts, OkT t) (un : ¬ (r.g = g ∧ r.ts.Perm ts)) (e1 : H r.td = none) (e2 : H r.dd = none) :
    UnI g ts C D H0 (upd H' fo (.lst (ps.map V.ref ++ [.ref p]))) a fo (ps ++ [p]) := by
  have I' := I.same s
  have n1 : r.td ≠ fo := fun e => by rw [e, I.at_] at e1; cases e1
  have n2 : r.dd ≠ fo := fun e => by rw [e, I.at_] at e2; cases e2
  have up : ∀ {q : Addr} {r' : GR}, GatAt C D H' q r' → r'.td ≠ fo → r'.dd ≠ fo → GatAt C D (upd H' fo (.lst (ps.map V.ref ++ [.ref p]))) q r' := fun {q r'} h m1 m2 =>
    h.keep (kp_upd I'.at_) (by rw [upd_ne m1]; exact h.told) (by rw [upd_ne m2]; exact h.deeds)
  refine ⟨?_, sameX_mut I'.sx f0, by rw [upd_same, List.map_append]; rfl, fun q hq => ?_⟩
  · obtain ⟨y0, y1, y2, hy, hy1⟩ := I'.pu
    exact ⟨y0, y1, y2, by rw [upd_ne nf.symm]; exact hy, hy1⟩
  · rcases List.mem_append.mp hq with hq | hq
    · obtain ⟨r', h, k1, k2, k3, k4, k5, m1, m2⟩ := I'.all q hq
      exact ⟨r', up h m1 m2, k1, k2, k3, k4, k5, m1, m2⟩
    · rw [List.mem_singleton.mp hq]
      have na : ∀ {x : Addr}, H x = none → H0 x = none := fun {x} hx => by
        by_cases e : x = a
        · subst e
          obtain ⟨ys, h⟩ := I.pu.lst
          rw [h] at hx
          cases hx
        · exact SameX.free I.sx e hx
      exact ⟨r, up hG n1 n2, ⟨wd, gd⟩, hok, un, na e1, na e2, n1, n2⟩
/-- eight signs -/
def stS : List Str := (List.range' 97 8).map sign
theorem stS_signs : signsOf ("abcdefgh" : Str) = stS.map V.str := by
  unfold signsOf stS
  rw [show ("abcdefgh" : Str).cps.toList = List.range' 97 8 from by decide +kernel, List.map_map]
  rfl
theorem stS_wd : ∀ z ∈ stS, IsWd z := by decide +kernel
theorem stS_nd : stS.Nodup := by decide +kernel
theorem stranger {p4 : List Str} (h : p4.length ≤ 3) : ∃ z rest, ((signsOf ("abcdefgh" : Str)).filter fun v => !inV v (p4.map V.str)) = V.str z :: rest ∧ IsWd z ∧ z ∉ p4 := by
  have e : ((signsOf ("abcdefgh" : Str)).filter fun v => !inV v (p4.map V.str)) = (stS.filter fun y => decide (y ∉ p4)).map V.str := by
    rw [stS_signs, List.filter_map]
    congr 1
    refine List.filter_congr fun y _ => ?_
    simp only [Function.comp, inV_strs]
    by_cases c : y ∈ p4 <;> simp [c]
  obtain ⟨y0, hy0, hn0⟩ : ∃ z ∈ stS, z ∉ p4 := by
    refine Classical.byContradiction fun no => ?_
    have all : ∀ z ∈ stS, z ∈ p4 := fun z hz => Classical.byContradiction fun k => no ⟨z, hz, k⟩
    have hle := stS_nd.length_le_of_subset (fun z hz => all z hz)
    have e : stS.length = 8 := by decide +kernel
    omega
  rw [e]
  cases ef : stS.filter fun y => decide (y ∉ p4) with
  | nil =>
    have : y0 ∈ stS.filter fun y => decide (y ∉ p4) := List.mem_filter.mpr ⟨hy0, decide_eq_true hn0⟩
    rw [ef] at this
    cases this
  | cons z r =>
    have : z ∈ stS.filter fun y => decide (y ∉ p4) := by
      rw [ef]
      exact List.mem_cons_self
    obtain ⟨h1, h2⟩ := List.mem_filter.mp this
    exact ⟨z, r.map V.str, rfl, stS_wd z h1, of_decide_eq_true h2⟩
theorem tel_t2 (t : Tel) : cutV (telV t) none (some 2) = [.str t.v, .str t.th] := cut_to (telV t) 2
theorem tel_t4 (t : Tel) : cutV (telV t) none (some 4) = [.str t.v, .str t.th, .str t.wo, .str t.tl] := cut_to (telV t) 4
theorem tel_t5 (t : Tel) : cutV (telV t) none (some 5) = [.str t.v, .str t.th, .str t.wo, .str t.tl, .int (t.age : Int)] := cut_to (telV t) 5
theorem tel_t6 (t : Tel) : cutV (telV t) none (some 6) = [.str t.v, .str t.th, .str t.wo, .str t.tl, .int (t.age : Int), .str t.g] := cut_to (telV t) 6
theorem tel_d3 (t : Tel) : cutV (telV t) (some 3) none = [.str t.tl, .int (t.age : Int), .str t.g, .bl t.sure] := cut_from (telV t) 3
theorem tel_d5 (t : Tel) : cutV (telV t) (some 5) none = [.str t.g, .bl t.sure] := cut_from (telV t) 5
theorem tel_d6 (t : Tel) : cutV (telV t) (some 6) none = [.bl t.sure] := cut_from (telV t) 6
theorem wd_z {z : Str} (h : IsWd z) : IsWd (cutS z none (some 7) ++ ("z" : Str)) := by
  have e : (cutS z none (some 7) ++ ("z" : Str)).cps.toList = z.cps.toList.take 7 ++ [122] := by
    rw [codes_add, show (some (7 : Int)) = some ((7 : Nat) : Int) from rfl, cut_hi]
    congr 1
  refine isWd_of ?_ ?_ ?_
  · rw [e]
    simp
  · rw [e, List.length_append, List.length_take]
    simp only [List.length_cons, List.length_nil]
    omega
  · rw [e]
    intro c hc
    rcases List.mem_append.mp hc with hc | hc
    · unfold IsWd wdB at h
      simp only [Bool.and_eq_true, decide_eq_true_eq, List.all_eq_true] at h
      exact h.2 c (List.mem_of_mem_take hc)
    · rw [List.mem_singleton.mp hc]
      omega
theorem shaped_tel {t : Tel} (o : OkT t) : SeqAt.shaped (telD t) = true :=
  shaped_tuple (by simp [PyData.canLayAll0, PyData.canLay0, wd_ok o.v, wd_ok o.th, wd_ok o.wo, wd_ok o.tl, wd_ok o.g]) (by simp [PyData.depthAll, PyData.depth])
section
variable {P : Program} {w : World} {K : PySem.W.Frag} {mg : Str → Option Value} {base : Heap} {f C D : Addr} {fd : FuncData}
def spUnlike (C D : Addr) : Sp := fun vs H Q _ => ∃ (a L F kp : Addr) (g : Grid) (wd : Nat) (as : List Addr) (p1 p2 p3 p4 : List Str) (bs : List Addr) (ts : List Tel), vs = [.ref a, .ref L, .ref F, .ref kp] ∧ PurseAt H a ∧ GridAt H L g ∧ Good g wd ∧ PoolsAt H F as [sortS (names g), p1, p2, p3, p4] ∧ F ≠ a ∧ (∀ p ∈ as, p ≠ a) ∧ (∀ ws ∈ [sortS (names g), p1, p2, p3, p4], OkW ws) ∧ p4.length ≤ 3 ∧
  KeptAt H kp bs ts ∧ kp ≠ a ∧ (∀ t ∈ ts, OkT t) ∧ (∀ t ∈ ts, t.v ∈ names g) ∧ (∀ t ∈ ts, t.g ∈ p4) ∧ (ts.map keyS).Nodup ∧ ts.length ≤ 20 ∧
  ∀ (fo : Addr) (ps : List Addr) (H' : Hp), UnI g ts C D H H' a fo ps → ps.length ≤ 7 → H fo = none → Q (.ref fo) H'
abbrev nUnlike : List Str := ["_law_purse_here", "_law_lots", "_law_pools_here", "_law_kept", "_law_found", "_law_row_here", "_law_stranger", "_law_at", "_law_old", "_law_rest", "_law_others", "_law_mate", "_law_sign"]
abbrev psUnlike : List Str := ["_law_purse_here", "_law_lots", "_law_pools_here", "_law_kept"]
theorem scUnlike : FnScope nUnlike psUnlike (defScope sLUnlike) := ⟨rfl, rfl, rfl, by decide +kernel, rfl, by decide +kernel, by decide +kernel⟩
theorem ok_unlike (F : Fun K "_law_unlike" "_law_unlike" sLUnlike f fd) (B : Bi mg) (hPick : Has P w K mg base "_law_pick" 1 ["_law_purse_here", "_law_count"] spPick) (hRow : Has P w K mg base "_law_row" 2 ["_law_purse_here", "_law_pools_here"] spRow)
    (hKey : Has P w K mg base "_law_key" 1 ["_law_row_here"] spKeyOf) (hFil : Has P w K mg base "_law_filled" 6 psLFilled (spFilled C D)) : FnOk P w K mg base CX0 7 f fd psUnlike (spUnlike C D) := by
  refine F.ok scUnlike (fun vs H Q E h => ?_) (fun cdv A outer s H vs Q E hr h => ?_)
  · obtain ⟨a, L, F, kp, g, wd, as, p1, p2, p3, p4, bs, ts, rfl, _⟩ := h
    rfl
  · obtain ⟨a, L, Fp, kp, g, wd, as, p1, p2, p3, p4, bs, ts, rfl, hA, hGr, gd, hPo, nF, na, hokW, h3, hk, nka, hok, hvs, hgs, hnd, h20, q⟩ := h
    have hu65 : (A.deeper (envOfC "_law_unlike" (defScope sLUnlike) s.heap.objs.size f cdv)).units + 65 < cLine := by have := hr.un; omega
    refine ⟨_, pss_cons (ps_par (i := 4) (j := 5) (by rfl) scUnlike.nd rfl rfl (by decide) rfl rfl (pa_cons (pe_lst pa_nil) (pa_cons (pe_h hRow hr (pa_cons (pv 0) (pa_cons (pv 2) pa_nil))) pa_nil)) (by rfl))
      (pss_cons (ps_set (i := 6) scUnlike.nd rfl (.inl rfl) (pe_ix ix_list (pe_lc (own := [("_law_sign", 12)]) (g := gName 12) (tt := tTest (tOp (rIn K true) (tVar 12) (tOp (rIxL K) (tVar 2) (tC (.int 4))))) rfl scUnlike.nd (pi_str pe_str) (blkOk_by (N := nUnlike) (sc := defScope sLUnlike) (by decide +kernel)) (fun _ _ _ _ _ => pg_name (i := 12) scUnlike.nd rfl (.inl rfl)) (fun _ _ _ _ _ => pts_one (pt_cmpR op_notIn_seq (pv 12) (pe_ix ix_list (pv 2) pe_int (fun _ _ => rfl)) (by rfl))) (fun _ _ _ _ _ => pv 12)) pe_int (fun _ _ => rfl)))
      (C8.pss_cut (ps_if (pt_cmpR (op_notInD hu65) (pe_h hKey hr (pa_cons (pv 5) pa_nil)) (pe_lc (own := [("_law_old", 8)]) (g := gName 8) (tt := tYes) (te := tCall spKeyOf [] E0 (tCons (tVar 8) tNil)) rfl scUnlike.nd (pi_list (pv 3)) (blkOk_by (N := nUnlike) (sc := defScope sLUnlike) (by decide +kernel)) (fun _ _ _ _ _ => pg_name (i := 8) scUnlike.nd rfl (.inl rfl)) (fun _ _ _ _ _ => pts_nil) (fun _ _ _ _ _ => pe_h hKey hr (pa_cons (pv 8) pa_nil))) (by rfl))
          (pss_one (ps_expr (pe_bm PySem.F.plainAttrs_list PySem.F.slot_list_append PySem.F.type_list_append mt_append (pv 4) (pa_cons (pe_h hFil hr (pa_cons (pv 1) (pa_cons (pe_op op_cat (pv 3) (pe_lst (pa_cons (pv 5) pa_nil))) pa_nil))) pa_nil)))) pss_nil)
      (C8.pss_cut (ps_if (pt_cmpR (op_neD hr.units) (pv 3) (pe_lst pa_nil) (nomark _))
          (pss_cons (ps_set (i := 7) scUnlike.nd rfl (.inl rfl) (pe_h hPick hr (pa_cons (pv 0) (pa_cons (pe_callB call_len_seq (by rfl) B.len PySem.boot_len (pa_cons (pv 3) pa_nil)) pa_nil))))
          (pss_cons (ps_par (i := 8) (j := 9) (by rfl) scUnlike.nd rfl rfl (by decide) rfl rfl (pa_cons (pe_ix ix_list (pv 3) (pv 7) (fun _ _ => rfl)) (pa_cons (pe_op op_cat (pe_slice sl_list (pv 3) po_none (po_some (pv 7))) (pe_slice sl_list (pv 3) (po_some (pe_op op_add (pv 7) pe_int)) po_none)) pa_nil)) (by rfl))
          (pss_cons (ps_expr (pe_bm PySem.F.plainAttrs_list PySem.F.slot_list_append PySem.F.type_list_append mt_append (pv 4) (pa_cons (pe_h hFil hr (pa_cons (pv 1) (pa_cons (pv 9) pa_nil))) pa_nil)))
          (pss_cons (ps_set (i := 10) scUnlike.nd rfl (.inl rfl) (pe_lst (pa_cons (pe_op op_catA (pe_op op_catA (pe_slice sl_tupA (pv 8) po_none (po_some pe_int)) (pe_tup (pa_cons (pe_op op_add_str (pe_slice sl_str (pe_ix ix_tup (pv 8) pe_int (fun _ _ => rfl)) po_none (po_some pe_int)) pe_str) pa_nil))) (pe_slice sl_tupA (pv 8) (po_some pe_int) po_none)) (pa_cons (pe_op op_catA (pe_op op_catA (pe_slice sl_tupA (pv 8) po_none (po_some pe_int)) (pe_tup (pa_cons (pe_op op_mod (pe_op op_add (pe_ix ix_tup (pv 8) pe_int (fun _ _ => rfl)) pe_int) pe_int) pa_nil))) (pe_slice sl_tupA (pv 8) (po_some pe_int) po_none)) pa_nil))))
          (pss_cons (ps_set (i := 10) scUnlike.nd rfl (.inl rfl) (pe_op op_cat (pv 10) (pe_lst (pa_cons (pe_op op_catA (pe_slice sl_tupA (pv 8) po_none (po_some pe_int)) (pe_tup (pa_cons (pe_not (pe_ix ix_tup (pv 8) pe_int (fun _ _ => rfl))) pa_nil))) (pa_cons (pe_op op_catA (pe_op op_catA (pe_slice sl_tupA (pv 8) po_none (po_some pe_int)) (pe_tup (pa_cons (pv 6) pa_nil))) (pe_slice sl_tupA (pv 8) (po_some pe_int) po_none)) pa_nil)))))
          (pss_one (ps_for PassesOwn.never rfl (pi_list (pv 10)) (pg_name (i := 11) scUnlike.nd rfl (.inl rfl))
            (pss_one (ps_if (pt_cmpR (op_neD hr.units) (pv 11) (pv 8) (nomark _)) (pss_one (ps_expr (pe_bm PySem.F.plainAttrs_list PySem.F.slot_list_append PySem.F.type_list_append mt_append (pv 4) (pa_cons (pe_h hFil hr (pa_cons (pv 1) (pa_cons (pe_op op_cat (pv 9) (pe_lst (pa_cons (pv 11) pa_nil))) pa_nil))) pa_nil)))) pss_nil))))))))) pss_nil)
      (C8.pss_cut (ps_if (pt_cmpR (op_neD hr.units) (pe_revT (pv 1)) (pv 1) (nomark _)) (pss_one (ps_expr (pe_bm PySem.F.plainAttrs_list PySem.F.slot_list_append PySem.F.type_list_append mt_append (pv 4) (pa_cons (pe_h hFil hr (pa_cons (pe_revT (pv 1)) (pa_cons (pv 3) pa_nil))) pa_nil)))) pss_nil)
      (pss_one (ps_ret (pv 4))))))), ?_⟩
    obtain ⟨pys, hpu⟩ := hA.lst
    have lb : bs.length = ts.length := hk.tels.length
    refine ⟨lz, fun fo hfo => ?_⟩
    have s1 := same_new (o := .lst []) hfo
    have hfo1 : upd H fo (.lst []) fo = some (.lst []) := upd_same
    generalize upd H fo (.lst []) = H1 at s1 hfo1 ⊢
    have nfa : fo ≠ a := hA.ne hfo
    refine ⟨_, rfl, _, rfl, a, Fp, as, _, p1, p2, p3, p4, rfl, hA.same s1, hPo.x (sx s1) nF na, nF, na, hokW, fun rp t H2 nrp okt v0 m1 m2 m3 m4 hrp hA2 x2 => ⟨_, _, rfl, ?_⟩⟩
    have x02 : SameX a H H2 := (sx s1).trans x2
    have I2 : UnI g ts C D H H2 a fo [] := ⟨hA2, x02, x2 _ _ nfa hfo1, fun p hp => nomatch hp⟩
    -- a stranger
    obtain ⟨pp4, hpp4, hp4⟩ := Each.get2 hPo.2 (i := 4) rfl
    have np4 := na pp4 (List.mem_of_getElem? hpp4)
    have hF2 := x02 _ _ nF hPo.1
    have hp42 := x02 _ _ np4 hp4
    refine ⟨_, rfl, fun De hDe => lc_map walk_signs hDe (fun v => !inV v (p4.map V.str)) id (fun _ _ => trivial) (fun _ => rfl) ?_ ?_ lz ?_⟩
    · intro x H' hx s' Q' q'
      obtain ⟨c, _, rfl⟩ := List.mem_map.mp hx
      exact ⟨_, rfl, _, rfl, Fp, _, 4, .ref pp4, rfl, rfl, .inl (.inl (s' _ _ hF2)), atI_nat (j := 4) (by rw [List.getElem?_map, hpp4]; rfl), pp4, _, rfl, .inl (.inl (.inl (s' _ _ hp42))), rfl, flat_strs _, _, rfl, q'⟩
    · intro x H' hx _ _ Q' q'
      exact ⟨_, rfl, q'⟩
    intro H3 s3 hD3
    obtain ⟨st, srest, est, wst, nst⟩ := stranger h3
    rw [List.map_id, est] at hD3
    refine ⟨De, _, 0, .str st, rfl, rfl, .inl (.inl hD3), atI_nat (j := 0) rfl, ?_⟩
    have I3 := I2.same s3
    have hrp3 := s3 _ _ hrp
    clear hD3 hp42 hF2 hDe est srest
    -- one more
    refine ⟨fun σ H' => σ = [some (.ref a), some (.ref L), some (.ref Fp), some (.ref kp), some (.ref fo), some (.ref rp), some (.str st), none, none, none, none, none, none] ∧ ∃ ps, UnI g ts C D H H' a fo ps ∧ ps.length ≤ 1, ?_, ?_⟩
    · refine ⟨_, rfl, rp, t, rfl, hrp3, fun u hu => ?_⟩
      have s4 := same_new (o := .tup (keyV t)) hu
      have hu4 : upd H3 u (.tup (keyV t)) u = some (.tup (keyV t)) := upd_same
      generalize upd H3 u (.tup (keyV t)) = H4 at s4 hu4 ⊢
      have I4 := I3.same s4
      have hk4 : KeptAt H4 kp bs ts := ⟨I4.sx _ _ nka hk.at_, hk.tels.keep (tk_x I4.sx hpu)⟩
      refine ⟨_, rfl, kp, rfl, ⟨_, .inl (.inl hk4.at_)⟩, fun De hDe => ?_⟩
      refine lc_rel (walk_list (K := K) (a := kp) (xs := bs.map V.ref)) hDe (fun _ => true) (fun x z H' => ∀ (pt : Addr) (t' : Tel), x = .ref pt → H4 pt = some (.tup (telV t')) → ∃ k, z = .ref k ∧ H' k = some (.tup (keyV t'))) (fun H' s' => .inl (.inl (s' _ _ hk4.at_))) (fun _ => rfl) (fun x H' _ _ Q' q' => q') ?_ ?_ ?_ ?_
      · intro x H' hx _ s' Q' q'
        obtain ⟨pt, hpt, rfl⟩ := List.mem_map.mp hx
        obtain ⟨j, hj, ej⟩ := List.mem_iff_getElem.mp hpt
        obtain ⟨t', ht', hH⟩ := Each.get hk4.tels (i := j) (a := pt) (by rw [List.getElem?_eq_getElem hj, ej])
        refine ⟨_, rfl, pt, t', rfl, s' _ _ hH, fun k hk => q' _ _ (same_new hk) fun pt2 t2 e2 h2 => ⟨k, rfl, ?_⟩⟩
        obtain rfl : pt = pt2 := V.ref.inj e2
        rw [hH] at h2
        rw [upd_same, telV_inj (HO.tup.inj (Option.some.inj h2))]
      · intro x y H' H'' acc hacc xs' rr pt t' e h
        obtain ⟨k, rfl, hk⟩ := rr pt t' e h
        exact ⟨k, rfl, xs' _ _ (ne_of hk hacc (by intro z; cases z)) hk⟩
      · rw [List.length_map]
        exact small1000 (by omega)
      · intro zs' H5 s5 hD5 he
        rw [List.filter_eq_self.mpr fun _ _ => rfl] at he
        have dpk := keys_dp (K := K) hk4.tels he
        refine ⟨.tuple ((keyS t).map .str), ts.map kD, .tup (.inl (.inl (s5 _ _ hu4))) (dp_strs (keyS t)), .lst (.inl (.inl hD5)) dpk, shaped_strs okt.key, shaped_list (lay_keys hok) (by have := depth_keys ts; omega), _, rfl, ?_⟩
        rw [any_keys]
        have I5 := I4.same s5
        refine not_b (fun e => ?_) (fun e => ⟨rfl, [], I5, Nat.zero_le _⟩)
        have hnew := of_decide_eq_false e
        refine ⟨_, rfl, .inl ⟨rfl, _, .inl (.inl I5.at_)⟩, _, rfl, _, rfl, _, rfl, lz, fun l2 hl2 => ?_⟩
        have s6 := same_new (o := .lst [V.ref rp]) hl2
        have hl6 : upd H5 l2 (.lst [V.ref rp]) l2 = some (.lst [V.ref rp]) := upd_same
        generalize upd H5 l2 (.lst [V.ref rp]) = H6 at s6 hl6 ⊢
        have s46 := s5.trans s6
        refine ⟨kp, l2, _, _, rfl, rfl, s46 _ _ hk4.at_, hl6, lzl (by rw [List.length_map]; simp only [List.length_cons, List.length_nil]; omega), fun l3 hl3 => ?_⟩
        rw [show bs.map V.ref ++ [V.ref rp] = (bs ++ [rp]).map V.ref from by rw [List.map_append]; rfl]
        have s7 := same_new (o := .lst ((bs ++ [rp]).map V.ref)) hl3
        have hl7 : upd H6 l3 (.lst ((bs ++ [rp]).map V.ref)) l3 = some (.lst ((bs ++ [rp]).map V.ref)) := upd_same
        generalize upd H6 l3 (.lst ((bs ++ [rp]).map V.ref)) = H7 at s7 hl7 ⊢
        have s47 := s46.trans s7
        have I7 := I4.same s47
        refine ⟨L, l3, g, wd, bs ++ [rp], ts ++ [t], rfl, hGr.keep (tk_x I7.sx hpu), gd, ⟨hl7, Each.append (hk4.tels.keep (tk_same s47)) (.cons ((s4.trans s47) _ _ hrp3) .nil)⟩, ?_, ?_, ?_, ?_, fun p r H8 s8 hG8 rg rt e1 e2 => ?_⟩
        · intro z hz
          rcases List.mem_append.mp hz with hz | hz
          · exact hok z hz
          · rw [List.mem_singleton.mp hz]
            exact okt
        · intro z hz
          rcases List.mem_append.mp hz with hz | hz
          · exact hvs z hz
          · rw [List.mem_singleton.mp hz]
            exact mem_sortS.mp v0
        · rw [List.map_append, List.nodup_append]
          refine ⟨hnd, by simp, fun x hx y hy e => ?_⟩
          rw [List.map_singleton, List.mem_singleton] at hy
          rw [e, hy] at hx
          exact hnew hx
        · rw [List.length_append]
          simp only [List.length_cons, List.length_nil]
          omega
        · refine ⟨fo, _, _, rfl, rfl, s8 _ _ I7.at_, lz, rfl, [] ++ [p], I7.more hA nfa hfo s8 hG8 (by rw [rg]; exact gd) ?_ ?_ e1 e2, Nat.le_refl _⟩
          · intro z hz
            rw [rt] at hz
            rcases List.mem_append.mp hz with hz | hz
            · exact hok z hz
            · rw [List.mem_singleton.mp hz]
              exact okt
          · rw [rt]
            exact fun h => more_unlike h.2
    rintro σ H4 ⟨rfl, ps1, I4, l4⟩
    -- otherwise
    refine ⟨fun σ H' => (∃ y7 y8 y9 y10 y11, σ = [some (.ref a), some (.ref L), some (.ref Fp), some (.ref kp), some (.ref fo), some (.ref rp), some (.str st), y7, y8, y9, y10, y11, none]) ∧ ∃ ps, UnI g ts C D H H' a fo ps ∧ ps.length ≤ 6, ?_, ?_⟩
    · refine ⟨_, rfl, lz, fun e0 he0 => ?_⟩
      have s5 := same_new (o := .lst []) he0
      have he5 : upd H4 e0 (.lst []) e0 = some (.lst []) := upd_same
      generalize upd H4 e0 (.lst []) = H5 at s5 he5 ⊢
      have I5 := I4.same s5
      have hk5 : KeptAt H5 kp bs ts := ⟨I5.sx _ _ nka hk.at_, hk.tels.keep (tk_x I5.sx hpu)⟩
      refine ⟨.list (ts.map telD), .list [], .lst (.inl (.inl hk5.at_)) (dp_tels ((each_refs hk5.tels).mono fun x t ⟨pt, hx, hp⟩ => by rw [hx]; exact dp_tel hp)), .lst (.inl (.inl he5)) .nil, shaped_tels hok, rfl, _, rfl, ite_b (fun e => ?_) (fun e => ⟨⟨_, _, _, _, _, rfl⟩, ps1, I5, by omega⟩)⟩
      have hne : 0 < ts.length := by
        cases h : ts with
        | nil =>
          rw [h] at e
          exact absurd e (by decide)
        | cons a b => simp
      refine ⟨_, rfl, _, rfl, kp, _, rfl, .inl (.inl (.inl hk5.at_)), a, _, rfl, I5.pu, by rw [List.length_map]; omega, by rw [List.length_map]; omega, fun ai H6 a0 a1 hA6 x6 _ => ?_⟩
      rw [List.length_map, lb] at a1
      obtain ⟨i, rfl⟩ : ∃ i : Nat, ai = (i : Int) := ⟨ai.toNat, by omega⟩
      have hi : i < ts.length := by omega
      have I6 := I5.x hA nfa hA6 x6
      have hk6 : KeptAt H6 kp bs ts := ⟨I6.sx _ _ nka hk.at_, hk.tels.keep (tk_x I6.sx hpu)⟩
      obtain ⟨old, hold⟩ : ∃ old, ts[i]? = some old := ⟨ts[i], List.getElem?_eq_getElem hi⟩
      obtain ⟨bp, hbp, hbt⟩ := Each.get2 hk6.tels hold
      have oko := hok old (List.mem_of_getElem? hold)
      have hcut := cut_perm hold
      obtain ⟨rest, erest⟩ : ∃ rest, rest = ts.take i ++ ts.drop (i + 1) := ⟨_, rfl⟩
      rw [← erest] at hcut
      have okrest : ∀ t ∈ rest, OkT t := fun t ht => hok t (hcut.mem_iff.mpr (List.mem_cons_of_mem _ ht))
      have vsrest : ∀ t ∈ rest, t.v ∈ names g := fun t ht => hvs t (hcut.mem_iff.mpr (List.mem_cons_of_mem _ ht))
      have gsrest : ∀ t ∈ rest, t.g ∈ p4 := fun t ht => hgs t (hcut.mem_iff.mpr (List.mem_cons_of_mem _ ht))
      have nd2 : ((old :: rest).map keyS).Nodup := (hcut.map keyS).nodup_iff.mp hnd
      rw [List.map_cons, List.nodup_cons] at nd2
      have lrest : rest.length + 1 = ts.length := by
        have := hcut.length_eq
        simp only [List.length_cons] at this
        omega
      -- the old one, the rest
      refine ⟨_, rfl, _, rfl, kp, _, _, .ref bp, rfl, rfl, .inl (.inl hk6.at_), at_of (j := i) rfl (by rw [List.getElem?_map, hbp]; rfl), ?_⟩
      refine ⟨_, rfl, _, rfl, (i : Int), rfl, kp, _, rfl, .inl (.inl hk6.at_), fun l1 hl1 => ?_⟩
      have s7 := same_new (o := .lst (cutV (bs.map V.ref) none (some (i : Int)))) hl1
      have hl7 : upd H6 l1 (.lst (cutV (bs.map V.ref) none (some (i : Int)))) l1 = some (.lst (cutV (bs.map V.ref) none (some (i : Int)))) := upd_same
      generalize upd H6 l1 (.lst (cutV (bs.map V.ref) none (some (i : Int)))) = H7 at s7 hl7 ⊢
      refine ⟨_, rfl, _, rfl, _, _, rfl, rfl, ((i : Int) + 1), rfl, ?_⟩
      dsimp only [tNoPart]
      refine ⟨kp, _, rfl, .inl (.inl (s7 _ _ hk6.at_)), fun l2 hl2 => ?_⟩
      have s8 := same_new (o := .lst (cutV (bs.map V.ref) (some ((i : Int) + 1)) none)) hl2
      have hl8 : upd H7 l2 (.lst (cutV (bs.map V.ref) (some ((i : Int) + 1)) none)) l2 = some (.lst (cutV (bs.map V.ref) (some ((i : Int) + 1)) none)) := upd_same
      generalize upd H7 l2 (.lst (cutV (bs.map V.ref) (some ((i : Int) + 1)) none)) = H8 at s8 hl8 ⊢
      rw [cut_to, ← List.map_take] at hl7
      rw [show ((i : Int) + 1) = ((i + 1 : Nat) : Int) by omega, cut_from, ← List.map_drop] at hl8
      refine ⟨l1, l2, _, _, rfl, rfl, s8 _ _ hl7, hl8, lzl (by simp only [List.length_append, List.length_map, List.length_take, List.length_drop]; omega), fun l3 hl3 => ⟨_, _, rfl, ?_⟩⟩
      rw [← List.map_append]
      have s9 := same_new (o := .lst ((bs.take i ++ bs.drop (i + 1)).map V.ref)) hl3
      have hl9 : upd H8 l3 (.lst ((bs.take i ++ bs.drop (i + 1)).map V.ref)) l3 = some (.lst ((bs.take i ++ bs.drop (i + 1)).map V.ref)) := upd_same
      generalize upd H8 l3 (.lst ((bs.take i ++ bs.drop (i + 1)).map V.ref)) = H9 at s9 hl9 ⊢
      have s69 := s7.trans (s8.trans s9)
      have I9 := I6.same s69
      have hrest : TelsAt H9 (bs.take i ++ bs.drop (i + 1)) rest := by
        rw [erest]
        exact (Each.append (each_take i hk6.tels) (each_drop (i + 1) hk6.tels)).mono fun p t h => s69 _ _ h
      generalize bs.take i ++ bs.drop (i + 1) = rs at hl9 hrest ⊢
      have lrs : rs.length = rest.length := hrest.length
      have hold9 := s69 _ _ hbt
      -- fewer
      refine ⟨_, rfl, .inl ⟨rfl, _, .inl (.inl I9.at_)⟩, _, rfl, _, rfl, L, l3, g, wd, rs, rest, rfl, hGr.keep (tk_x I9.sx hpu), gd, ⟨hl9, hrest⟩, okrest, vsrest, nd2.2, by omega, fun p r H10 s10 hG10 rg rt e1 e2 => ?_⟩
      refine ⟨fo, _, _, rfl, rfl, s10 _ _ I9.at_, by rw [List.length_map]; exact small1000 (by omega), ?_⟩
      have I10 := I9.more hA nfa hfo s10 hG10 (by rw [rg]; exact gd) (by rw [rt]; exact okrest) (by rw [rt]; exact fun h => fewer_unlike hcut h.2) e1 e2
      have n3 : l3 ≠ fo := fun e => by
        rw [e, I9.at_] at hl9
        have := (HO.lst.inj (Option.some.inj hl9))
        have h8 : H8 fo = none := by rw [← e]; exact hl3
        have := (I6.same (s7.trans s8)).at_
        rw [h8] at this
        cases this
      have k10 : Keep H9 (upd H10 fo (.lst (ps1.map V.ref ++ [V.ref p]))) := (kp_same s10).trans (kp_upd (s10 _ _ I9.at_))
      have hl10 : upd H10 fo (.lst (ps1.map V.ref ++ [V.ref p])) l3 = some (.lst (rs.map V.ref)) := by
        rw [upd_ne n3]
        exact s10 _ _ hl9
      have hrest10 := hrest.keep k10.tk
      have hold10 := k10.tk _ _ hold9
      generalize upd H10 fo (.lst (ps1.map V.ref ++ [V.ref p])) = H11 at I10 hl10 hrest10 hold10 ⊢
      clear hrest hold9 k10 hl9
      -- one part otherwise
      refine ⟨_, rfl, 2, rfl, sl_reads hold10 fun u1 H12 s12 hu1 => ?_⟩
      rw [tel_t2] at hu1
      refine ⟨_, rfl, bp, _, _, .str old.wo, rfl, rfl, .inl (.inl (s12 _ _ hold10)), atI_nat (j := 2) rfl, 7, rfl, old.wo, rfl, wd_line oko.wo, _, _, rfl, rfl, ?_, lz, fun u2 hu2 => ?_⟩
      · have := (wd_z oko.wo).len
        have e1 : (cutS old.wo none (some 7) ++ ("z" : Str)).length = (cutS old.wo none (some 7)).length + ("z" : Str).length := add_len _ _
        exact lzl (by omega)
      have s13 := same_new (o := .tup [V.str (cutS old.wo none (some 7) ++ ("z" : Str))]) hu2
      refine cat_reads (s13 _ _ hu1) upd_same (by simp) fun u3 H14 s14 hu3 => ?_
      have s1114 := s12.trans (s13.trans s14)
      refine ⟨_, rfl, 3, rfl, ?_⟩
      dsimp only [tNoPart]
      refine sl_reads (s1114 _ _ hold10) fun u4 H15 s15 hu4 => ?_
      rw [tel_d3] at hu4
      refine cat_reads (s15 _ _ hu3) hu4 (by simp) fun m1 H16 s16 hm1 => ?_
      have s1116 := s1114.trans (s15.trans s16)
      obtain ⟨t1, et1⟩ : ∃ t1 : Tel, t1 = { old with wo := cutS old.wo none (some 7) ++ ("z" : Str) } := ⟨_, rfl⟩
      replace hm1 : H16 m1 = some (.tup (telV t1)) := by rw [et1]; exact hm1
      clear hu1 hu2 hu3 hu4 s14 s15 s16 s13 s12 s1114
      have hold16 := s1116 _ _ hold10
      refine ⟨_, rfl, 4, rfl, sl_reads hold16 fun u1 H17 s17 hu1 => ?_⟩
      rw [tel_t4] at hu1
      refine ⟨_, rfl, bp, _, _, .int (old.age : Int), rfl, rfl, .inl (.inl (s17 _ _ hold16)), atI_nat (j := 4) rfl, _, _, rfl, rfl, _, _, rfl, rfl, (show (0 : Int) < 121 by decide), lz, fun u2 hu2 => ?_⟩
      have s18 := same_new (o := .tup [V.int (((old.age : Int) + 1) % 121)]) hu2
      refine cat_reads (s18 _ _ hu1) upd_same (by simp) fun u3 H19 s19 hu3 => ?_
      have s1619 := s17.trans (s18.trans s19)
      refine ⟨_, rfl, 5, rfl, ?_⟩
      dsimp only [tNoPart]
      refine sl_reads (s1619 _ _ hold16) fun u4 H20 s20 hu4 => ?_
      rw [tel_d5] at hu4
      refine cat_reads (s20 _ _ hu3) hu4 (by simp) fun m2 H21 s21 hm2 => ?_
      have s1621 := s1619.trans (s20.trans s21)
      obtain ⟨t2, et2⟩ : ∃ t2 : Tel, t2 = { old with age := (old.age + 1) % 121 } := ⟨_, rfl⟩
      replace hm2 : H21 m2 = some (.tup (telV t2)) := by
        rw [et2, hm2]
        show some (HO.tup [V.str old.v, V.str old.th, V.str old.wo, V.str old.tl, V.int (((old.age : Int) + 1) % 121), V.str old.g, V.bl old.sure]) = some (HO.tup [V.str old.v, V.str old.th, V.str old.wo, V.str old.tl, V.int (((old.age + 1) % 121 : Nat) : Int), V.str old.g, V.bl old.sure])
        rw [show (((old.age + 1) % 121 : Nat) : Int) = ((old.age : Int) + 1) % 121 from by omega]
      clear hu1 hu2 hu3 hu4 s17 s18 s19 s20 s21 s1619
      have hm1' := s1621 _ _ hm1
      have hold21 := s1621 _ _ hold16
      refine ⟨lz, fun o1 ho1 => ?_⟩
      have s22 := same_new (o := .lst [V.ref m1, V.ref m2]) ho1
      have ho22 : upd H21 o1 (.lst [V.ref m1, V.ref m2]) o1 = some (.lst [V.ref m1, V.ref m2]) := upd_same
      generalize upd H21 o1 (.lst [V.ref m1, V.ref m2]) = H22 at s22 ho22 ⊢
      have hold22 := s22 _ _ hold21
      refine ⟨_, rfl, _, rfl, 6, rfl, sl_reads hold22 fun u1 H23 s23 hu1 => ?_⟩
      rw [tel_t6] at hu1
      refine ⟨_, rfl, bp, _, _, .bl old.sure, rfl, rfl, .inl (.inl (s23 _ _ hold22)), atI_nat (j := 6) rfl, old.sure, rfl, lz, fun u2 hu2 => ?_⟩
      have s24 := same_new (o := .tup [V.bl (!old.sure)]) hu2
      refine cat_reads (s24 _ _ hu1) upd_same (by simp) fun m3 H25 s25 hm3 => ?_
      have s2225 := s23.trans (s24.trans s25)
      obtain ⟨t3, et3⟩ : ∃ t3 : Tel, t3 = { old with sure := !old.sure } := ⟨_, rfl⟩
      replace hm3 : H25 m3 = some (.tup (telV t3)) := by rw [et3]; exact hm3
      clear hu1 hu2 s23 s24 s25
      have hold25 := s2225 _ _ hold22
      refine ⟨_, rfl, 5, rfl, sl_reads hold25 fun u1 H26 s26 hu1 => ?_⟩
      rw [tel_t5] at hu1
      refine ⟨_, rfl, lz, fun u2 hu2 => ?_⟩
      have s27 := same_new (o := .tup [V.str st]) hu2
      refine cat_reads (s27 _ _ hu1) upd_same (by simp) fun u3 H28 s28 hu3 => ?_
      have s2528 := s26.trans (s27.trans s28)
      refine ⟨_, rfl, 6, rfl, ?_⟩
      dsimp only [tNoPart]
      refine sl_reads (s2528 _ _ hold25) fun u4 H29 s29 hu4 => ?_
      rw [tel_d6] at hu4
      refine cat_reads (s29 _ _ hu3) hu4 (by simp) fun m4' H30 s30 hm4 => ?_
      have s2530 := s2528.trans (s29.trans s30)
      obtain ⟨t4, et4⟩ : ∃ t4 : Tel, t4 = { old with g := st } := ⟨_, rfl⟩
      replace hm4 : H30 m4' = some (.tup (telV t4)) := by rw [et4]; exact hm4
      clear hu1 hu2 hu3 hu4 s26 s27 s28 s29 s30 s2528
      refine ⟨lz, fun o2 ho2 => ?_⟩
      have s31 := same_new (o := .lst [V.ref m3, V.ref m4']) ho2
      have ho31 : upd H30 o2 (.lst [V.ref m3, V.ref m4']) o2 = some (.lst [V.ref m3, V.ref m4']) := upd_same
      generalize upd H30 o2 (.lst [V.ref m3, V.ref m4']) = H31 at s31 ho31 ⊢
      have s2231 := s2225.trans (s2530.trans s31)
      refine ⟨o1, o2, _, _, rfl, rfl, s2231 _ _ ho22, ho31, lz, fun o3 ho3 => ?_⟩
      have s32 := same_new (o := .lst ([m1, m2, m3, m4'].map V.ref)) ho3
      have ho32 : upd H31 o3 (.lst ([m1, m2, m3, m4'].map V.ref)) o3 = some (.lst ([m1, m2, m3, m4'].map V.ref)) := upd_same
      change tFor _ _ _ _ _ (upd H31 o3 (.lst ([m1, m2, m3, m4'].map V.ref)))
      have s1132 := s1116.trans (s1621.trans (s22.trans (s2231.trans s32)))
      have I32 := I10.same s1132
      have hl32 := s1132 _ _ hl10
      have hrest32 := hrest10.keep (tk_same s1132)
      have hold32 := s1132 _ _ hold10
      have hms : TelsAt (upd H31 o3 (.lst ([m1, m2, m3, m4'].map V.ref))) [m1, m2, m3, m4'] [t1, t2, t3, t4] :=
        .cons (((s22.trans s2231).trans s32) _ _ hm1') (.cons (((s22.trans s2231).trans s32) _ _ hm2) (.cons ((s2530.trans (s31.trans s32)) _ _ hm3) (.cons ((s31.trans s32) _ _ hm4) .nil)))
      have nof : o3 ≠ fo := (ne_of_none (((I10.same (s1116.trans (s1621.trans (s22.trans s2231))))).at_) ho3).symm
      generalize upd H31 o3 (.lst ([m1, m2, m3, m4'].map V.ref)) = H32 at ho32 I32 hl32 hrest32 hold32 hms ⊢
      have mok : ∀ t ∈ [t1, t2, t3, t4], MateOk rest old t := by
        intro t ht
        simp only [List.mem_cons, List.not_mem_nil, or_false] at ht
        rcases ht with rfl | rfl | rfl | rfl
        · rw [et1]
          exact ⟨⟨oko.v, oko.th, wd_z oko.wo, oko.tl, oko.age, oko.g⟩, rfl, nd2.1⟩
        · rw [et2]
          exact ⟨⟨oko.v, oko.th, oko.wo, oko.tl, (show (old.age + 1) % 121 ≤ 120 by omega), oko.g⟩, rfl, nd2.1⟩
        · rw [et3]
          exact ⟨⟨oko.v, oko.th, oko.wo, oko.tl, oko.age, oko.g⟩, rfl, nd2.1⟩
        · rw [et4]
          refine ⟨⟨oko.v, oko.th, oko.wo, oko.tl, oko.age, wst⟩, rfl, fun h => ?_⟩
          obtain ⟨t', ht', e'⟩ := List.mem_map.mp h
          have hg : t'.g = st := by
            have := congrArg (fun l : List Str => l[3]?) e'
            simpa [keyS] using this
          exact nst (hg ▸ gsrest t' ht')
      generalize emts : [t1, t2, t3, t4] = mts at hms mok
      generalize ems : [m1, m2, m3, m4'] = ms at hms ho32
      have lms : ms.length = 4 := by rw [← ems]; rfl
      have vold := hvs old (List.mem_of_getElem? hold)
      refine ⟨_, rfl, o3, rfl, ⟨_, .inl (.inl ho32)⟩, for_list (K := K) (a := o3) (xs := ms.map V.ref) (fun k σ H' => (∃ y11, σ = [some (.ref a), some (.ref L), some (.ref Fp), some (.ref kp), some (.ref fo), some (.ref rp), some (.str st), some (.int (i : Int)), some (.ref bp), some (.ref l3), some (.ref o3), y11, none]) ∧ ∃ ps, UnI g ts C D H H' a fo ps ∧ ps.length ≤ 2 + k ∧ H' o3 = some (.lst (ms.map V.ref)) ∧ H' l3 = some (.lst (rs.map V.ref)) ∧ TelsAt H' rs rest ∧ TelsAt H' ms mts ∧ H' bp = some (.tup (telV old)))
        ⟨⟨_, rfl⟩, _, I32, by rw [List.length_append]; simp only [List.length_cons, List.length_nil]; omega, ho32, hl32, hrest32, hms, hold32⟩ (fun k σ H' _ h => .inl (.inl (let ⟨_, _, _, _, h3, _⟩ := h; h3))) ?_ ?_⟩
      · rintro k x σ H33 hx ⟨⟨y11, rfl⟩, ps, I33, lps, ho33, hl33, hr33, hm33, hb33⟩
        rw [List.getElem?_map] at hx
        obtain ⟨m, hm, rfl⟩ := Option.map_eq_some_iff.mp hx
        obtain ⟨t', ht', hH⟩ := Each.get hm33 hm
        have hk4 : k < 4 := by
          have := (List.getElem?_eq_some_iff.mp hm).1
          omega
        have mk := mok t' (List.mem_of_getElem? ht')
        refine ⟨_, rfl, _, rfl, telD t', telD old, dp_tel hH, dp_tel hb33, shaped_tel mk.ok, shaped_tel oko, _, rfl, ?_⟩
        rw [tel_eqv]
        refine not_b (fun e => ?_) (fun e => ⟨⟨_, rfl⟩, ps, I33, by omega, ho33, hl33, hr33, hm33, hb33⟩)
        have hne' : t' ≠ old := of_decide_eq_false e
        refine ⟨_, rfl, .inl ⟨rfl, _, .inl (.inl I33.at_)⟩, _, rfl, _, rfl, _, rfl, lz, fun l4 hl4 => ?_⟩
        have s34 := same_new (o := .lst [V.ref m]) hl4
        have hl34 : upd H33 l4 (.lst [V.ref m]) l4 = some (.lst [V.ref m]) := upd_same
        generalize upd H33 l4 (.lst [V.ref m]) = H34 at s34 hl34 ⊢
        refine ⟨l3, l4, _, _, rfl, rfl, s34 _ _ hl33, hl34, lzl (by rw [List.length_map]; simp only [List.length_cons, List.length_nil]; omega), fun l5 hl5 => ?_⟩
        rw [show rs.map V.ref ++ [V.ref m] = (rs ++ [m]).map V.ref from by rw [List.map_append]; rfl]
        have s35 := same_new (o := .lst ((rs ++ [m]).map V.ref)) hl5
        have hl35 : upd H34 l5 (.lst ((rs ++ [m]).map V.ref)) l5 = some (.lst ((rs ++ [m]).map V.ref)) := upd_same
        generalize upd H34 l5 (.lst ((rs ++ [m]).map V.ref)) = H35 at s35 hl35 ⊢
        have s3335 := s34.trans s35
        have I35 := I33.same s3335
        have okm : ∀ t ∈ rest ++ [t'], OkT t := fun z hz => by
          rcases List.mem_append.mp hz with hz | hz
          · exact okrest z hz
          · rw [List.mem_singleton.mp hz]
            exact mk.ok
        refine ⟨L, l5, g, wd, rs ++ [m], rest ++ [t'], rfl, hGr.keep (tk_x I35.sx hpu), gd, ⟨hl35, Each.append (hr33.keep (tk_same s3335)) (.cons (s3335 _ _ hH) .nil)⟩, okm, ?_, ?_, ?_, fun p' r' H36 s36 hG36 rg' rt' e1' e2' => ?_⟩
        · intro z hz
          rcases List.mem_append.mp hz with hz | hz
          · exact vsrest z hz
          · rw [List.mem_singleton.mp hz, mk.v]
            exact vold
        · rw [List.map_append, List.nodup_append]
          refine ⟨nd2.2, by simp, fun x hx y hy e => ?_⟩
          rw [List.map_singleton, List.mem_singleton] at hy
          rw [e, hy] at hx
          exact mk.key hx
        · rw [List.length_append]
          simp only [List.length_cons, List.length_nil]
          omega
        · have s3336 := s3335.trans s36
          have kk : Keep H33 (upd H36 fo (.lst (ps.map V.ref ++ [V.ref p']))) := (kp_same s3336).trans (kp_upd (s36 _ _ I35.at_))
          refine ⟨fo, _, _, rfl, rfl, s36 _ _ I35.at_, by rw [List.length_map]; exact small1000 (by omega), ⟨_, rfl⟩, ps ++ [p'], I35.more hA nfa hfo s36 hG36 (by rw [rg']; exact gd) (by rw [rt']; exact okm) (by rw [rt']; exact fun h => mate_unlike hcut hne' h.2) e1' e2', ?_, ?_, ?_, hr33.keep kk.tk, hm33.keep kk.tk, kk.tk _ _ hb33⟩
          · rw [List.length_append]
            simp only [List.length_cons, List.length_nil]
            omega
          · rw [upd_ne nof]
            exact s3336 _ _ ho33
          · rw [upd_ne n3]
            exact s3336 _ _ hl33
      · rintro σ H33 ⟨⟨y11, rfl⟩, ps, I33, lps, _⟩
        rw [List.length_map, lms] at lps
        exact ⟨⟨_, _, _, _, _, rfl⟩, ps, I33, by omega⟩
    rintro σ H5 ⟨⟨y7, y8, y9, y10, y11, rfl⟩, ps2, I5, l5⟩
    -- turned about
    refine ⟨fun σ H' => (∃ y7 y8 y9 y10 y11, σ = [some (.ref a), some (.ref L), some (.ref Fp), some (.ref kp), some (.ref fo), some (.ref rp), some (.str st), y7, y8, y9, y10, y11, none]) ∧ ∃ ps, UnI g ts C D H H' a fo ps ∧ ps.length ≤ 7, ?_, ?_⟩
    · obtain ⟨gas, hL0, hR0⟩ := hGr.keep (tk_x I5.sx hpu)
      have rev : ∀ {H' : Hp} {M : Addr}, Same H5 H' → H' M = some (.tup (gas.map V.ref).reverse) → GridAt H' M g.reverse := fun {H' M} s' h => ⟨gas.reverse, by rw [h, List.map_reverse], RowsAt.keep (each_rev hR0) (tk_same s')⟩
      refine ⟨_, rfl, L, _, rfl, .inl (.inl hL0), fun M hM => ?_⟩
      have s6 := same_new (o := .tup (gas.map V.ref).reverse) hM
      have hM6 : upd H5 M (.tup (gas.map V.ref).reverse) M = some (.tup (gas.map V.ref).reverse) := upd_same
      generalize upd H5 M (.tup (gas.map V.ref).reverse) = H6 at s6 hM6 ⊢
      have hg6 : GridAt H6 L g := ⟨gas, s6 _ _ hL0, hR0.keep (tk_same s6)⟩
      refine ⟨_, rfl, _, _, dp_grid (rev s6 hM6), dp_grid hg6, shaped_grid gd.rev, shaped_grid gd, _, rfl, ?_⟩
      rw [grid_eqv]
      have I6 := I5.same s6
      refine not_b (fun e => ?_) (fun e => ⟨⟨_, _, _, _, _, rfl⟩, ps2, I6, by omega⟩)
      have hgne : ¬ g.reverse = g := of_decide_eq_false e
      refine ⟨_, rfl, .inl ⟨rfl, _, .inl (.inl I6.at_)⟩, _, rfl, L, _, rfl, .inl (.inl (s6 _ _ hL0)), fun M2 hM2 => ?_⟩
      have s7 := same_new (o := .tup (gas.map V.ref).reverse) hM2
      have hM7 : upd H6 M2 (.tup (gas.map V.ref).reverse) M2 = some (.tup (gas.map V.ref).reverse) := upd_same
      generalize upd H6 M2 (.tup (gas.map V.ref).reverse) = H7 at s7 hM7 ⊢
      have I7 := I6.same s7
      refine ⟨_, rfl, M2, kp, g.reverse, wd, bs, ts, rfl, rev (s6.trans s7) hM7, gd.rev, ⟨I7.sx _ _ nka hk.at_, hk.tels.keep (tk_x I7.sx hpu)⟩, hok, fun t ht => (names_rev g).mem_iff.mpr (hvs t ht), hnd, by omega, fun p r H8 s8 hG8 rg rt e1 e2 => ?_⟩
      refine ⟨fo, _, _, rfl, rfl, s8 _ _ I7.at_, by rw [List.length_map]; exact small1000 (by omega), ⟨_, _, _, _, _, rfl⟩, ps2 ++ [p], I7.more hA nfa hfo s8 hG8 (by rw [rg]; exact gd.rev) (by rw [rt]; exact hok) (by rw [rg]; exact fun h => hgne h.1) e1 e2, ?_⟩
      rw [List.length_append]
      simp only [List.length_cons, List.length_nil]
      omega
    rintro σ H6 ⟨⟨y7, y8, y9, y10, y11, rfl⟩, ps3, I6, l6⟩
    exact ⟨_, rfl, q fo ps3 H6 I6 l6 hfo⟩
end
end Wl

namespace Wl
open PySem PySem.Spec PyProof.Rows L2
theorem rows_false : ∀ {xs zs : List V}, Each (fun (x z : V) => z = V.bl false) xs zs → zs = (xs.map fun _ => false).map V.bl
  | [], [], _ => rfl
  | [], _ :: _, h => nomatch h
  | _ :: _, [], h => nomatch h
  | x :: xs, z :: zs, .cons e t => by
    rw [e, rows_false t]
    rfl
section
variable {P : Program} {w : World} {K : PySem.W.Frag} {mg : Str → Option Value} {base : Heap} {f C D : Addr} {fd : FuncData}
/-- what stands beside a Gathering here -/
def Kg (C : Addr) (H : Hp) (x : V) : Prop := (∃ T, OthV H x T) ∨ ∃ pl L g wd, x = .ref pl ∧ LandAt C H pl L g ∧ Good g wd
theorem Kg.same {H H' : Hp} {x : V} (h : Kg C H x) (s : Same H H') : Kg C H' x := by
  rcases h with ⟨T, o⟩ | ⟨pl, L, g, wd, e, h, gd⟩
  · exact .inl ⟨T, o.same s⟩
  · exact .inr ⟨pl, L, g, wd, e, h.same s, gd⟩
theorem kg_to {H : Hp} {p dx : Addr} {fs : List (Str × V)} {x : V} {Q : VK} (kn : KitNo K D) (ap : Apart2 K C D) (insC : C8.InsC K C) (hp : H p = some (.ins D dx fs)) (h : Kg C H x) (q : Q (.bl false) H) : rEqT K D (spGE K C D) id (.ref p) x H Q := by
  rcases h with ⟨T, o⟩ | ⟨pl, L, g, wd, rfl, h, gd⟩
  · exact ⟨p, dx, fs, _, rfl, hp, o.ty, o.notFirst, .inr ⟨p, x, _, rfl, o.ty, kn.at o, false, rfl, q⟩⟩
  · obtain ⟨dl, d, hl⟩ := h.ins
    have ty := ins_ty (K := K) insC hl
    exact ⟨p, dx, fs, _, rfl, hp, ty, ap.s2, .inr ⟨p, .ref pl, _, rfl, ty, ap.k2, false, rfl, q⟩⟩
theorem kg_back {H : Hp} {p dx : Addr} {fs : List (Str × V)} {x : V} {Q : VK} (kn : KitNo K D) (ap : Apart2 K C D) (insD : C8.InsC K D) (hp : H p = some (.ins D dx fs)) (h : Kg C H x) (q : Q (.bl false) H) : rEqR D (spGE K C D) x (.ref p) H Q ∨ rEqT K C (spLE K C) id x (.ref p) H Q := by
  rcases h with ⟨T, o⟩ | ⟨pl, L, g, wd, rfl, h, gd⟩
  · exact .inl ⟨p, dx, fs, T, rfl, hp, o, .inr ⟨p, x, _, rfl, o.ty, kn.at o, false, rfl, q⟩⟩
  · obtain ⟨dl, d, hl⟩ := h.ins
    have ty := ins_ty (K := K) insD hp
    exact .inr ⟨pl, dl, _, _, rfl, hl, ty, ap.s1, .inr ⟨pl, .ref p, _, rfl, ty, ap.k1, false, rfl, q⟩⟩
theorem kg_item {H : Hp} {p dx : Addr} {fs : List (Str × V)} {x : V} (kn : KitNo K D) (ap : Apart2 K C D) (insD : C8.InsC K D) (hp : H p = some (.ins D dx fs)) (h : Kg C H x) (hne : x ≠ .ref p) : ItG D (spGE K C D) p H x false ∨ ItO K C (spLE K C) p H x false := by
  rcases h with ⟨T, o⟩ | ⟨pl, L, g, wd, rfl, h, gd⟩
  · exact .inl ⟨⟨dx, fs, hp⟩, .inl ⟨T, o, fun H' s' => .inr ⟨p, x, _, rfl, (o.same s').ty, kn.at o, _, rfl, rfl, Same.refl H'⟩⟩⟩
  · obtain ⟨dl, d, hl⟩ := h.ins
    exact .inr ⟨pl, dl, _, _, rfl, fun e => hne (by rw [e]), hl, fun H' s' => ins_ty insD (s' _ _ hp), ap.s1, fun H' s' => .inr ⟨pl, .ref p, _, rfl, ins_ty insD (s' _ _ hp), ap.k1, _, rfl, rfl, Same.refl H'⟩⟩
theorem ap_ne (ap : Apart2 K C D) (e : D = C) (kk : PySem.W.kitOne K (.ref C) (.ref C) = some true) : False := by
  have := ap.k1
  rw [e, kk] at this
  cases this
def spLaw (K : PySem.W.Frag) : Sp := fun vs H Q _ => ∃ (a : Addr) (ns : List Int), vs = [.ref a] ∧ SqL K H a (ns.map V.int) ∧ ns.length ≤ 63 ∧ ∀ (H' : Hp), Q (.bl true) H'
abbrev nLaw : List Str := ["_law_script", "_law_k", "_law_purse_here", "_law_count", "_law_lots", "_law_pools_here", "_law_basket_here", "_law_kept", "_law_twin", "_law_turned_here", "_law_some", "_law_mate", "_law_matter"]
theorem scLaw : FnScope nLaw ["_law_script"] (defScope sLaw) := ⟨rfl, rfl, rfl, by decide +kernel, rfl, by decide +kernel, by decide +kernel⟩
theorem ok_law (F : Fun K "law" "law" sLaw f fd) (B : Bi mg) (hany : mg "any" = none) (T : Txt2 K mg C) (TG : TxtG K mg D) (insD : C8.InsC K D) (N : NoKind K D) (kn : KitNo K D) (ap : Apart2 K C D)
    (hCell : Has P w K mg base "_law_cell" 1 ["_law_script", "_law_k"] (spCell K)) (hPurse : Has P w K mg base "_law_purse" 1 ["_law_cell_here"] spPurse) (hPick : Has P w K mg base "_law_pick" 1 ["_law_purse_here", "_law_count"] spPick)
    (hLand : Has P w K mg base "_law_land" 4 ["_law_purse_here", "_law_topmost"] spLand) (hPools : Has P w K mg base "_law_pools" 4 ["_law_purse_here", "_law_lots"] spPools) (hBas : Has P w K mg base "_law_basket" 6 ["_law_purse_here", "_law_lots", "_law_pools_here", "_law_count"] (spBasket C D))
    (hTur : Has P w K mg base "_law_turned" 6 psTurned (spTurned C D)) (hAl : Has P w K mg base "_law_alike" 6 psAlike (spAlike C D)) (hUn : Has P w K mg base "_law_unlike" 7 psUnlike (spUnlike C D)) (hIs : Has P w K mg base "_law_is_shown" 7 psIsShown (spIsShown C D))
    (hE : HasM P w K mg base D "__eq__" 3 ["self", "other"] (spGE K C D)) (hLE : HasM P w K mg base C "__eq__" 1 ["self", "other"] (spLE K C)) (hS : HasM P w K mg base D "__str__" 4 ["self"] (spGStr C D)) (hTell : HasT P w K mg base C D) : FnOk P w K mg base CX0 9 f fd ["_law_script"] (spLaw K) := by
  obtain ⟨fE, fdE, FE, mE, bE⟩ := hE
  obtain ⟨fL, fdL, FL, mL, bL⟩ := hLE
  obtain ⟨fS, fdS, FS, mS, bS⟩ := hS
  obtain ⟨fT, fdT, FT, mT, fnT⟩ := hTell
  obtain ⟨dT, vT, bT⟩ := tell_b1 fnT
  refine F.ok scLaw (fun vs H Q E h => ?_) (fun cdv A outer s H vs Q E hr h => ?_)
  · obtain ⟨a, ns, rfl, _⟩ := h
    rfl
  · obtain ⟨a, ns, rfl, hSc, hlen, q⟩ := h
    refine ⟨_, pss_cons (ps_for PassesOwn.never rfl (pi_range1 rfl B.range (pa_cons (pe_callB (call_max2 rfl) (by rfl) B.max (by decide +kernel) (pa_cons pe_int (pa_cons (pe_callB (call_min2 rfl) (by rfl) B.min (by decide +kernel) (pa_cons (pe_callB call_len_seq (by rfl) B.len PySem.boot_len (pa_cons (pv 0) pa_nil)) (pa_cons pe_int pa_nil))) pa_nil))) pa_nil)) (pg_name (i := 1) scLaw.nd rfl (.inl rfl))
        (pss_cons (ps_set (i := 2) scLaw.nd rfl (.inl rfl) (pe_h hPurse hr (pa_cons (pe_h hCell hr (pa_cons (pv 0) (pa_cons (pv 1) pa_nil))) pa_nil)))
        (pss_cons (ps_par (i := 3) (j := 4) (by rfl) scLaw.nd rfl rfl (by decide) rfl rfl (pa_cons (pe_h hPick hr (pa_cons (pv 2) (pa_cons pe_int pa_nil))) (pa_cons (pe_h hLand hr (pa_cons (pv 2) (pa_cons pe_int pa_nil))) pa_nil)) (by rfl))
        (pss_cons (ps_set (i := 5) scLaw.nd rfl (.inl rfl) (pe_h hPools hr (pa_cons (pv 2) (pa_cons (pv 4) pa_nil))))
        (pss_cons (ps_asg (pe_h hBas hr (pa_cons (pv 2) (pa_cons (pv 4) (pa_cons (pv 5) (pa_cons (pv 3) pa_nil))))) (pg_unl rfl (pgs_cons (pg_name (i := 6) scLaw.nd rfl (.inr rfl)) (pgs_cons (pg_name (i := 7) scLaw.nd rfl (.inl rfl)) pgs_nil))))
        (pss_cons (ps_asg (pe_h hTur hr (pa_cons (pv 2) (pa_cons (pv 4) (pa_cons (pv 5) (pa_cons (pv 7) pa_nil))))) (pg_unl rfl (pgs_cons (pg_name (i := 8) scLaw.nd rfl (.inl rfl)) (pgs_cons (pg_name (i := 9) scLaw.nd rfl (.inl rfl)) pgs_nil))))
        (pss_cons (ps_if (PW.pt (pw_or (pt_not (pt_val (pe_h hAl hr (pa_cons (pv 6) (pa_cons (pv 8) (pa_cons pe_bl pa_nil)))))) (pw_or1 (pt_not (pt_val (pe_h hAl hr (pa_cons (pv 6) (pa_cons (pv 6) (pa_cons pe_bl pa_nil))))))))) (pss_one (ps_ret pe_bl)) pss_nil)
        (pss_cons (ps_if (pt_not (pt_val (pe_callB (cr_all rfl) (by rfl) B.all (by decide +kernel) (pa_cons (pe_lc (own := [("_law_mate", 11)]) (g := gName 11) (tt := tYes) (te := tCall (spAlike C D) [] E0 (tCons (tVar 6) (tCons (tVar 11) (tCons (tC (.bl false)) tNil)))) rfl scLaw.nd (pi_list (pe_h hUn hr (pa_cons (pv 2) (pa_cons (pv 4) (pa_cons (pv 5) (pa_cons (pv 7) pa_nil)))))) (blkOk_by (N := nLaw) (sc := defScope sLaw) (by decide +kernel)) (fun _ _ _ _ _ => pg_name (i := 11) scLaw.nd rfl (.inl rfl)) (fun _ _ _ _ _ => pts_nil) (fun _ _ _ _ _ => pe_h hAl hr (pa_cons (pv 6) (pa_cons (pv 11) (pa_cons pe_bl pa_nil))))) pa_nil)))) (pss_one (ps_ret pe_bl)) pss_nil)
        (pss_cons (ps_set (i := 10) scLaw.nd rfl (.inl rfl) (pe_lst (pa_cons pe_non (pa_cons pe_bl (pa_cons pe_int (pa_cons pe_str (pa_cons (pe_callTy (cr_strO FS bS mS (hr.mono (by decide))) (by rfl) B.str (by decide +kernel) (pa_cons (pv 6) pa_nil)) (pa_cons (pe_tup pa_nil) (pa_cons (pe_lst pa_nil) (pa_cons pe_dnewK (pa_cons (pe_fld (pv 6) rfl) (pa_cons (pe_meth0 (pv 6) TG.cl mT FT (hr.mono (by decide)) bT vT pass0) (pa_cons (pe_callTy call_tuple_of (by rfl) B.tuple (by decide +kernel) (pa_cons (pv 7) pa_nil)) (pa_cons (pe_tup (pa_cons (pv 4) (pa_cons (pv 7) pa_nil))) pa_nil))))))))))))))
        (pss_cons (ps_if (PW.pt (pw_or (pt_val (pe_callB (cr_any rfl) (by rfl) hany (by decide +kernel) (pa_cons (pe_lc (own := [("_law_matter", 12)]) (g := gName 12) (tt := tYes) (te := tOrV (tOp (rEqT K D (spGE K C D) id) (tVar 6) (tVar 12)) (tOp (fun x y H Q => rEqR D (spGE K C D) x y H Q ∨ rEqT K C (spLE K C) id x y H Q) (tVar 12) (tVar 6))) rfl scLaw.nd (pi_list (pv 10)) (blkOk_by (N := nLaw) (sc := defScope sLaw) (by decide +kernel)) (fun _ _ _ _ _ => pg_name (i := 12) scLaw.nd rfl (.inl rfl)) (fun _ _ _ _ _ => pts_nil)
            (fun _ _ _ _ _ => pe_or (pe_cmpR (op_eqT FE bE mE (hr.mono (by decide))) (pv 6) (pv 12) (nomark _)) (pe_one (pe_cmpR (op_or (op_eqR FE bE mE N (hr.mono (by decide))) (op_eqT FL bL mL (hr.mono (by decide)))) (pv 12) (pv 6) (nomark _))))) pa_nil))) (pw_or1 (pt_cmpR (op_inZ (EqIt.or (eqIt_G FE bE mE N (hr.mono (by decide))) (eqIt_O FL bL mL (hr.mono (by decide))))) (pv 6) (pv 10) (by rfl))))) (pss_one (ps_ret pe_bl)) pss_nil)
        (pss_one (ps_if (PW.pt (pw_or (pt_not (pt_val (pe_h hIs hr (pa_cons (pv 6) (pa_cons (pv 4) (pa_cons (pv 7) pa_nil)))))) (pw_or1 (pt_not (pt_val (pe_h hIs hr (pa_cons (pv 8) (pa_cons (pv 4) (pa_cons (pv 9) pa_nil))))))))) (pss_one (ps_ret pe_bl)) pss_nil))))))))))))
      (pss_one (ps_ret pe_bl)), ?_⟩
    have hln : ((ns.map V.int).length : Int) = ns.length := by rw [List.length_map]
    refine ⟨_, rfl, a, _, rfl, .inl hSc, _, _, rfl, _, _, rfl, _, rfl, ?_, ?_, ?_⟩
    · rw [hln]; split <;> split <;> omega
    · rw [hln]; split <;> split <;> omega
    rw [hln]
    refine for_range (lo := 0) (n := _) (fun i σ H' => (∃ y1 y2 y3 y4 y5 y6 y7 y8 y9 y10, σ = [some (.ref a), y1, y2, y3, y4, y5, y6, y7, y8, y9, y10, none, none]) ∧ Same H H') ⟨⟨_, _, _, _, _, _, _, _, _, _, rfl⟩, Same.refl H⟩ ?_ ?_
    · rintro i σ H1 hi ⟨⟨y1, y2, y3, y4, y5, y6, y7, y8, y9, y10, rfl⟩, s1⟩
      have hi8 : i < 64 := by
        have : ∀ n : Int, (if (if (3 : Int) < n then (3 : Int) else n) > 2 then (if (3 : Int) < n then (3 : Int) else n) else 2).toNat ≤ 63 := fun n => by
          split <;> split <;> omega
        exact Nat.lt_of_lt_of_le hi (Nat.le_trans (this _) (by decide))
      refine ⟨_, rfl, _, rfl, a, ns, 0 + i, rfl, s1.seq hSc, by omega, by omega, fun v H2 s2 => ⟨v, rfl, fun pu H3 hpu s3 hP3 => ?_⟩⟩
      have hpu0 : H pu = none := (s1.trans s2).free hpu
      have sP3 : Same H H3 := (s1.trans s2).trans s3
      refine ⟨_, rfl, pu, 10, rfl, hP3, by decide, by decide, fun cn H4 c0 c1 hP4 x4 _ => ?_⟩
      refine ⟨_, rfl, pu, 3, rfl, hP4, by decide, by decide, fun L g wd H5 gd hG5 hP5 x5 => ⟨_, _, rfl, ?_⟩⟩
      have x35 := x4.trans x5
      obtain ⟨n, rfl⟩ : ∃ n : Nat, cn = (n : Int) := ⟨cn.toNat, by omega⟩
      refine ⟨_, rfl, _, rfl, pu, L, g, wd, rfl, hP5, hG5, gd, fun Fp as p1 p2 p3 p4 H6 nFp nas hPo6 hokW hp4 hP6 x6 => ?_⟩
      obtain ⟨pys5, hpu5⟩ := hP5.lst
      have hG6 := hG5.keep (tk_x x6 hpu5)
      have nF : Fp ≠ pu := hP5.ne nFp
      have na : ∀ p ∈ as, p ≠ pu := fun p hp => hP5.ne (nas p hp)
      refine ⟨_, rfl, _, rfl, _, rfl, _, rfl, pu, L, Fp, g, wd, n, as, p1, p2, p3, p4, rfl, by omega, hP6, hG6, gd, hPo6, nF, na, hokW, fun R p kp r bs H7 I7 l7 nR hR => ?_⟩
      refine ⟨R, _, rfl, .inl (.inl hR), rfl, _, _, rfl, _, _, rfl, rfl, ?_⟩
      obtain ⟨pys6, hpu6⟩ := hP6.lst
      have hG7 := hG6.keep (tk_x I7.sx hpu6)
      have hPo7 := hPo6.x I7.sx nF na
      have nkp : kp ≠ pu := hP6.ne I7.f3
      have ntd : r.td ≠ pu := hP6.ne I7.f1
      have ndd : r.dd ≠ pu := hP6.ne I7.f2
      refine ⟨_, rfl, _, rfl, _, rfl, _, rfl, pu, L, Fp, kp, g, wd, as, p1, p2, p3, p4, bs, r.ts, rfl, I7.pu, hG7, gd, hPo7, nF, na, hokW, I7.kept, nkp, I7.ok, I7.vs, I7.nd, by omega, fun R2 p2' kp2 r2 bs2 H8 hT8 rg2 hk8 pm hP8 x8 t1 t2 t3 hR2 => ?_⟩
      refine ⟨R2, _, rfl, .inl (.inl hR2), rfl, _, _, rfl, _, _, rfl, rfl, ?_⟩
      obtain ⟨pys7, hpu7⟩ := I7.pu.lst
      have hB8 := I7.gat.x I7.pu x8 ntd ndd
      have hG8 := hG7.keep (tk_x x8 hpu7)
      have hPo8 := hPo7.x x8 nF na
      have hK8 : KeptAt H8 kp bs r.ts := ⟨x8 _ _ nkp I7.kept.at_, I7.kept.tels.keep (tk_x x8 hpu7)⟩
      have ok2 : ∀ t ∈ r2.ts, OkT t := fun t ht => I7.ok t (pm.mem_iff.mp ht)
      have gd1 : ∃ wd, Good r.g wd := ⟨wd, by rw [I7.rg]; exact gd⟩
      have gd2 : ∃ wd, Good r2.g wd := ⟨wd, by rw [rg2]; exact gd⟩
      have two : TwoG C D H8 p p2' r r2 true := ⟨hB8, hT8, gd1, gd2, I7.ok, ok2, ⟨fun _ => ⟨by rw [I7.rg, rg2], pm.symm⟩, fun _ => rfl⟩⟩
      refine ⟨_, rfl, _, rfl, p, p2', r, r2, true, rfl, two, fun H9 s9 => ⟨true, rfl, iteF ?_⟩⟩
      have self9 : TwoG C D H9 p p r r true := ⟨hB8.same s9, hB8.same s9, gd1, gd1, I7.ok, I7.ok, ⟨fun _ => ⟨rfl, List.Perm.refl _⟩, fun _ => rfl⟩⟩
      refine ⟨_, rfl, _, rfl, p, p, r, r, true, rfl, self9, fun H10 s10 => ⟨true, rfl, iteF ?_⟩⟩
      have s810 := s9.trans s10
      have hB10 := hB8.same s810
      have hT10 := hT8.same s810
      have hG10 := hG8.keep (tk_same s810)
      have hK10 : KeptAt H10 kp bs r.ts := ⟨s810 _ _ hK8.at_, hK8.tels.keep (tk_same s810)⟩
      have hk10 : KeptAt H10 kp2 bs2 r2.ts := ⟨s810 _ _ hk8.at_, hk8.tels.keep (tk_same s810)⟩
      have hP10 := hP8.same s810
      obtain ⟨pys10, hpu10⟩ := hP10.lst
      -- the unlike ones
      refine ⟨_, rfl, _, rfl, _, rfl, _, rfl, pu, L, Fp, kp, g, wd, as, p1, p2, p3, p4, bs, r.ts, rfl, hP10, hG10, gd, hPo8.x (sx s810) nF na, nF, na, hokW, hp4, hK10, nkp, I7.ok, I7.vs, I7.gs, I7.nd, by omega, fun fo ps H11 U lps nfo => ?_⟩
      have nt2 : r2.td ≠ pu := hP6.ne (SameX.free I7.sx (fun e => by rw [e, hpu7] at t1; cases t1) t1)
      have nd2 : r2.dd ≠ pu := hP6.ne (SameX.free I7.sx (fun e => by rw [e, hpu7] at t2; cases t2) t2)
      have nk2 : kp2 ≠ pu := I7.pu.ne t3
      have hB11 := hB10.x hP10 U.sx ntd ndd
      have hT11 := hT10.x hP10 U.sx nt2 nd2
      have hG11 := hG10.keep (tk_x U.sx hpu10)
      have hK11 : KeptAt H11 kp bs r.ts := ⟨U.sx _ _ nkp hK10.at_, hK10.tels.keep (tk_x U.sx hpu10)⟩
      have hk11 : KeptAt H11 kp2 bs2 r2.ts := ⟨U.sx _ _ nk2 hk10.at_, hk10.tels.keep (tk_x U.sx hpu10)⟩
      have x711 : SameX pu H7 H11 := (x8.trans (sx s810)).trans U.sx
      have s11 : Same H H11 := same_x sP3 ((x35.trans x6).trans (I7.sx.trans x711)) hpu0
      refine ⟨fo, rfl, ⟨_, .inl (.inl U.at_)⟩, fun De hDe => ?_⟩
      refine lc_rel (walk_list (K := K) (a := fo) (xs := ps.map V.ref)) hDe (fun _ => true) (fun x y _ => y = .bl true) (fun H' s' => .inl (.inl (s' _ _ U.at_))) (fun _ => rfl) (fun x H' _ _ Q' q' => q') ?_ (fun _ _ _ _ _ _ _ r => r) (by rw [List.length_map]; exact small1000 (by omega)) ?_
      · intro x H' hx _ s' Q' q'
        obtain ⟨pm', hpm, rfl⟩ := List.mem_map.mp hx
        obtain ⟨rm, hGm, gdm, okm, un, _⟩ := U.all pm' hpm
        refine ⟨_, rfl, _, rfl, p, pm', r, rm, false, rfl, ⟨hB11.same s', hGm.same s', gd1, gdm, I7.ok, okm, ⟨fun e => (by cases e), fun h => absurd ⟨h.1.symm.trans I7.rg, h.2.symm⟩ un⟩⟩, fun H'' s'' => q' _ _ s'' rfl⟩
      intro zs H12 s12 hD12 he
      rw [List.filter_eq_self.mpr fun _ _ => rfl] at he
      have ez := rows_true he
      subst ez
      refine ⟨De, _, rfl, .inl (.inl hD12), ?_⟩
      rw [all_true]
      refine ⟨true, rfl, iteF ?_⟩
      have hB12 := hB11.same s12
      have hG12 := hG11.keep (tk_same s12)
      have hK12 : KeptAt H12 kp bs r.ts := ⟨s12 _ _ hK11.at_, hK11.tels.keep (tk_same s12)⟩
      have hT12 := hT11.same s12
      have hk12 : KeptAt H12 kp2 bs2 r2.ts := ⟨s12 _ _ hk11.at_, hk11.tels.keep (tk_same s12)⟩
      have sH12 := s11.trans s12
      clear he hD12 hDe hK11 hk11 hG11 hT11
      obtain ⟨dx, i12⟩ := hB12.at_
      obtain ⟨wd1, gdr⟩ := gd1
      -- things of other kinds
      refine ⟨_, rfl, p, dx, _, rfl, i12, p, r, wd1, rfl, hB12, gdr, by omega, I7.ok, fun H13 s13 => ⟨_, rfl, ?_⟩⟩
      refine ⟨lz, fun tp htp => ?_⟩
      have s14 := same_new (o := .tup []) htp
      have c1 : upd H13 tp (.tup []) tp = some (.tup []) := upd_same
      generalize upd H13 tp (.tup []) = H14 at s14 c1 ⊢
      refine ⟨lz, fun lp hlp => ?_⟩
      have s15 := same_new (o := .lst []) hlp
      have c2 : upd H14 lp (.lst []) lp = some (.lst []) := upd_same
      generalize upd H14 lp (.lst []) = H15 at s15 c2 ⊢
      intro d1 hd1
      have s16 := same_new (o := .dK []) hd1
      have c3 : upd H15 d1 (.dK []) d1 = some (.dK []) := upd_same
      generalize upd H15 d1 (.dK []) = H16 at s16 c3 ⊢
      have s1216 := s13.trans (s14.trans (s15.trans s16))
      have i16 := s1216 _ _ i12
      refine ⟨_, rfl, p, D, dx, _, _, rfl, i16, TG.cl, TG.nL, gf_land _ _ _, ?_⟩
      refine ⟨_, rfl, p, dx, _, rfl, i16, gf_no _ _ _, p, r, rfl, hB12.same s1216, fun tl htl => ?_⟩
      have s17 := same_new (o := .lst (r.as.map V.ref)) htl
      have c4 : upd H16 tl (.lst (r.as.map V.ref)) tl = some (.lst (r.as.map V.ref)) := upd_same
      generalize upd H16 tl (.lst (r.as.map V.ref)) = H17 at s17 c4 ⊢
      have s1217 := s1216.trans s17
      refine ⟨_, rfl, kp, _, rfl, .inl ⟨.inl (.inl (s1217 _ _ hK12.at_)), fun tk htk => ?_⟩⟩
      have s18 := same_new (o := .tup (bs.map V.ref)) htk
      have c5 : upd H17 tk (.tup (bs.map V.ref)) tk = some (.tup (bs.map V.ref)) := upd_same
      generalize upd H17 tk (.tup (bs.map V.ref)) = H18 at s18 c5 ⊢
      refine ⟨_, rfl, _, rfl, lz, fun t2' ht2' => ?_⟩
      have s19 := same_new (o := .tup [V.ref L, V.ref kp]) ht2'
      have c6 : upd H18 t2' (.tup [V.ref L, V.ref kp]) t2' = some (.tup [V.ref L, V.ref kp]) := upd_same
      generalize upd H18 t2' (.tup [V.ref L, V.ref kp]) = H19 at s19 c6 ⊢
      refine ⟨lz, fun So hSo => ?_⟩
      have s1219 := s1217.trans (s18.trans s19)
      have oth : ∀ x ∈ [V.non, V.bl true, V.int 0, V.str "", V.str (gatS r.g r.ts), V.ref tp, V.ref lp, V.ref d1, V.ref r.pl, V.ref tl, V.ref tk, V.ref t2'], Kg C H19 x ∧ x ≠ .ref p := fun x hx => by
        have i19 := s1219 _ _ i12
        have nr : ∀ {b : Addr} {o : HO}, H19 b = some o → (∀ dx fs, o ≠ .ins D dx fs) → V.ref b ≠ .ref p := fun {b o} e k z => by
          cases z
          rw [i19] at e
          exact k _ _ (Option.some.inj e).symm
        simp only [List.mem_cons, List.not_mem_nil, or_false] at hx
        rcases hx with rfl | rfl | rfl | rfl | rfl | rfl | rfl | rfl | rfl | rfl | rfl | rfl
        · exact ⟨.inl ⟨_, .non⟩, by simp⟩
        · exact ⟨.inl ⟨_, .bl _⟩, by simp⟩
        · exact ⟨.inl ⟨_, .int _⟩, by simp⟩
        · exact ⟨.inl ⟨_, .str _⟩, by simp⟩
        · exact ⟨.inl ⟨_, .str _⟩, by simp⟩
        · exact ⟨.inl ⟨_, .tup ((s15.trans (s16.trans (s17.trans (s18.trans s19)))) _ _ c1)⟩, nr ((s15.trans (s16.trans (s17.trans (s18.trans s19)))) _ _ c1) (by simp)⟩
        · exact ⟨.inl ⟨_, .lst ((s16.trans (s17.trans (s18.trans s19))) _ _ c2)⟩, nr ((s16.trans (s17.trans (s18.trans s19))) _ _ c2) (by simp)⟩
        · exact ⟨.inl ⟨_, .dK ((s17.trans (s18.trans s19)) _ _ c3)⟩, nr ((s17.trans (s18.trans s19)) _ _ c3) (by simp)⟩
        · have hl := hB12.land.same s1219
          obtain ⟨dl, dd', hli⟩ := hl.ins
          refine ⟨.inr ⟨r.pl, _, _, _, rfl, hl, gdr⟩, fun z => ?_⟩
          cases z
          rw [i19] at hli
          have := (HO.ins.inj (Option.some.inj hli)).1
          exact ap_ne ap this T.ins.me
        · exact ⟨.inl ⟨_, .lst ((s18.trans s19) _ _ c4)⟩, nr ((s18.trans s19) _ _ c4) (by simp)⟩
        · exact ⟨.inl ⟨_, .tup (s19 _ _ c5)⟩, nr (s19 _ _ c5) (by simp)⟩
        · exact ⟨.inl ⟨_, .tup c6⟩, nr c6 (by simp)⟩
      obtain ⟨xs, exs⟩ : ∃ xs, xs = [V.non, V.bl true, V.int 0, V.str "", V.str (gatS r.g r.ts), V.ref tp, V.ref lp, V.ref d1, V.ref r.pl, V.ref tl, V.ref tk, V.ref t2'] := ⟨_, rfl⟩
      have lxs : xs.length = 12 := by rw [exs]; rfl
      rw [← exs] at oth ⊢
      clear exs
      have s20 := same_new (o := .lst xs) hSo
      have hSo20 : upd H19 So (.lst xs) So = some (.lst xs) := upd_same
      generalize upd H19 So (.lst xs) = H20 at s20 hSo20 ⊢
      have s1220 := s1219.trans s20
      have oth20 : ∀ x ∈ xs, Kg C H20 x ∧ x ≠ .ref p := fun x hx => ⟨(oth x hx).1.same s20, (oth x hx).2⟩
      refine ⟨_, rfl, So, rfl, ⟨_, .inl (.inl hSo20)⟩, fun De hDe => ?_⟩
      refine lc_rel (walk_list (K := K) (a := So) (xs := xs)) hDe (fun _ => true) (fun x y _ => y = .bl false) (fun H' s' => .inl (.inl (s' _ _ hSo20))) (fun _ => rfl) (fun x H' _ _ Q' q' => q') ?_ (fun _ _ _ _ _ _ _ r => r) (by rw [lxs]; exact small1000 (by omega)) ?_
      · intro x H' hx _ s' Q' q'
        have kx := (oth20 x hx).1.same s'
        have ip := (s1220.trans s') _ _ i12
        refine ⟨_, rfl, _, rfl, kg_to kn ap T.ins ip kx ⟨false, rfl, iteF ?_⟩⟩
        exact ⟨_, rfl, _, rfl, kg_back kn ap insD ip kx (q' _ H' (Same.refl H') rfl)⟩
      intro zs H21 s21 hD21 he
      rw [List.filter_eq_self.mpr fun _ _ => rfl] at he
      have ez := rows_false he
      subst ez
      refine ⟨De, _, rfl, .inl (.inl hD21), ?_⟩
      rw [any_false]
      refine ⟨false, rfl, iteF ?_⟩
      have s1221 := s1220.trans s21
      have its : Each (fun x c => ItG D (spGE K C D) p H21 x c ∨ ItO K C (spLE K C) p H21 x c) xs (xs.map fun _ => false) := by
        have ip := s1221 _ _ i12
        have key : ∀ ys : List V, (∀ x ∈ ys, Kg C H20 x ∧ x ≠ .ref p) → Each (fun x c => ItG D (spGE K C D) p H21 x c ∨ ItO K C (spLE K C) p H21 x c) ys (ys.map fun _ => false) := by
          intro ys
          induction ys with
          | nil => intro _; exact .nil
          | cons y ys ih => exact fun h => .cons (kg_item kn ap insD ip ((h y List.mem_cons_self).1.same s21) (h y List.mem_cons_self).2) (ih fun z hz => h z (List.mem_cons_of_mem _ hz))
        exact key xs oth20
      refine ⟨_, rfl, _, rfl, p, So, xs, _, rfl, rfl, .inl (s21 _ _ hSo20), its, fun H22 s22 => ?_⟩
      rw [any_false]
      refine ⟨_, rfl, iteF ?_⟩
      have s1222 := s1221.trans s22
      refine ⟨_, rfl, _, rfl, _, rfl, p, L, kp, r, g, wd, bs, rfl, hB12.same s1222, I7.rg, hG12.keep (tk_same s1222), gd, ⟨s1222 _ _ hK12.at_, hK12.tels.keep (tk_same s1222)⟩, I7.ok, by omega, fun H23 s23 => ⟨true, rfl, iteF ?_⟩⟩
      have s1223 := s1222.trans s23
      refine ⟨_, rfl, _, rfl, _, rfl, p2', L, kp2, r2, g, wd, bs2, rfl, hT12.same s1223, rg2, hG12.keep (tk_same s1223), gd, ⟨s1223 _ _ hk12.at_, hk12.tels.keep (tk_same s1223)⟩, ok2, by rw [pm.length_eq]; omega, fun H24 s24 => ⟨true, rfl, iteF ?_⟩⟩
      exact ⟨⟨_, _, _, _, _, _, _, _, _, _, rfl⟩, sH12.trans (s1223.trans s24)⟩
    · rintro σ H1 ⟨⟨y1, y2, y3, y4, y5, y6, y7, y8, y9, y10, rfl⟩, s1⟩
      exact q H1
end
end Wl

namespace Wl
open PySem PySem.Spec PyProof.Rows L2
/-- an exception's class -/
def isExc (o : Obj) : Bool := match o.data with
  | .cls cd => cd.mro.any fun v => match v with | .type n => n == "Exception" | _ => false
  | _ => false
/-- what these objects name, exceptions left out -/
def refsL (g : Addr → Option Obj) (as : List Addr) : List Addr := as.flatMap fun a => match g a with
  | some o => if isExc o then [] else He.refsD o
  | none => []
def layK (g : Addr → Option Obj) : Nat → List Addr → List Addr
  | 0, l => l
  | n + 1, l => l ++ layK g n (refsL g l)
def frK (g : Addr → Option Obj) : PySem.W.Frag := He.frG g (layK g 4 [mainGlobals])
/-- the hook of facts over such a frame, with one more test of the frame -/
def hookK (fa : List He.Fa) (fn : List He.DefD) (ex : PySem.W.Frag → Bool) : PySem.W.Hook where
  α := He.AlD × Bool
  obs := fun s => (He.obsD fa fn (frK s.heap.get?), ex (frK s.heap.get?))
  val := fun _ => (He.valD fn, true)
  says := fun _ h => ∃ K : PySem.W.Frag, K.In h ∧ He.SaysD fa fn K ∧ ex K = true
  of := fun _ _ e => ⟨_, He.frG_in, congrArg (fun z : He.AlD × Bool => z.1) e, congrArg (fun z : He.AlD × Bool => z.2) e⟩
  keeps := fun _ _ _ ⟨K, hK, c⟩ k => ⟨K, PySem.W.Frag.In.keeps hK k, c⟩
theorem map3 {α β γ δ : Type} {o : Option α} {f : α → β} {g : α → γ} {h : α → δ} {a : β} {b : γ} {c : δ} (h1 : o.map (fun s => (f s, g s)) = some (a, b)) (h2 : o.map h = some c) : o.map (fun s => (f s, g s, h s)) = some (a, b, c) := by
  cases o with
  | none => cases h1
  | some x =>
    have e1 := Option.some.inj h1
    have e2 := Option.some.inj h2
    show some (f x, g x, h x) = _
    rw [(Prod.mk.inj e1).1, (Prod.mk.inj e1).2, e2]
theorem kbn_of {K : PySem.W.Frag} {x qual : Str} {st : Stmt} {f : Addr} {fd : FuncData} {n : Str} (F : Fun K x qual st f fd)
    (h : ∀ (kV doc pm : Value) (an : Option Addr) (cdv ct a b : Value), bindArgs (PySem.W.fnOf x qual (defArgs st) (defBody st) (defScope st) .none kV doc pm an cdv ct) ⟨[a], [(n, b)]⟩ = pure [(("self" : Str), a), (n, b)]) : KBn K fd ["self", n] 1 [n] g2 g2 := by
  obtain ⟨oc, od, kV, doc, pm, an, cdv, ct, osl, rfl, l, c⟩ := F.ex
  refine ⟨fun s us ws _ h1 h2 => ?_, g2_rel⟩
  match us, ws, h1, h2 with
  | [a], [b], _, _ => exact .of_eq (h kV doc pm an cdv ct a b)
def dOf (x : Str) (st : Stmt) (ds : List He.Dv) : He.DefD := ⟨(x, none), x, x, defArgs st, defBody st, defScope st, ds, []⟩
def dMet (cl m q : Str) (st : Stmt) (ds : List He.Dv) : He.DefD := ⟨(cl, some m), m, q, defArgs st, defBody st, defScope st, ds, []⟩
/-- what else a class says: isinstance -/
def exC (K : PySem.W.Frag) (x : Str) : Bool :=
  He.eqO (PySem.W.findIn K (.ref (He.ga K x)) "__class__") (some (some (.builtin "object.__class__"))) && (decide (PySem.W.mroIn K (He.ga K x) (.type "object") = some true) && decide (PySem.W.kitOne K (.ref (He.ga K x)) (.ref (He.ga K x)) = some true))
/-- and of all classes: isinstance, !=; the tuple of places -/
def exT0 (K : PySem.W.Frag) : Bool :=
  He.eqO (PySem.W.specialIn K (.builtin "object.__class__") "__get__") (some (some (.builtin "getset_descriptor.__get__"))) && (decide (PySem.W.takesIn K (.builtin "object.__class__") = some true) && (exC K "Land" && (exC K "Gathering" &&
  (He.eqO (PySem.W.findIn K (.ref (He.ga K "Land")) "__ne__") (some (some (.builtin "object.__ne__")))))))
/-- what else: beside things of other kinds; no truth of its own -/
def exX (K : PySem.W.Frag) : Bool :=
  decide (PySem.W.mroIn K (He.ga K "Gathering") (.type "NoneType") = some false) && (decide (PySem.W.mroIn K (He.ga K "Gathering") (.type "bool") = some false) && (decide (PySem.W.mroIn K (He.ga K "Gathering") (.type "int") = some false) && (decide (PySem.W.mroIn K (He.ga K "Gathering") (.type "str") = some false) && (decide (PySem.W.mroIn K (He.ga K "Gathering") (.type "list") = some false) && (decide (PySem.W.mroIn K (He.ga K "Gathering") (.type "tuple") = some false) && (decide (PySem.W.mroIn K (He.ga K "Gathering") (.type "dict") = some false) && (decide (PySem.W.kitOne K (.type "NoneType") (.ref (He.ga K "Gathering")) = some false) && (decide (PySem.W.kitOne K (.type "bool") (.ref (He.ga K "Gathering")) = some false) && (decide (PySem.W.kitOne K (.type "int") (.ref (He.ga K "Gathering")) = some false) && (decide (PySem.W.kitOne K (.type "str") (.ref (He.ga K "Gathering")) = some false) && (decide (PySem.W.kitOne K (.type "list") (.ref (He.ga K "Gathering")) = some false) && (decide (PySem.W.kitOne K (.type "tuple") (.ref (He.ga K "Gathering")) = some false) && (decide (PySem.W.kitOne K (.type "dict") (.ref (He.ga K "Gathering")) = some false) && (PySem.W.notFirst K (He.ga K "Land") (.ref (He.ga K "Gathering")) && (PySem.W.notFirst K (He.ga K "Gathering") (.ref (He.ga K "Land")) && (decide (PySem.W.kitOne K (.ref (He.ga K "Gathering")) (.ref (He.ga K "Land")) = some false) && (decide (PySem.W.kitOne K (.ref (He.ga K "Land")) (.ref (He.ga K "Gathering")) = some false) && (He.eqO (PySem.W.findIn K (.ref (He.ga K "Gathering")) "__bool__") (some none) && (He.eqO (PySem.W.findIn K (.ref (He.ga K "Gathering")) "__ne__") (some (some (.builtin "object.__ne__"))))))))))))))))))))))
def exT (K : PySem.W.Frag) : Bool := exT0 K && exX K
def fn : List He.DefD := dOf "is_whole" sIsWhole [] :: dOf "is_number_from" sIsNum [] :: dOf "is_word" sIsWord [] :: dOf "check_word" sCheckW [] :: dOf "are_rows" sAreRows [] :: dOf "wrong_spot" sWrong [] :: dOf "spots_in" sSpotsIn [] :: dOf "checked_spots" sSpots [] :: dMet "Land" "__init__" "Land.__init__" sInit [] :: dMet "Land" "check_name" "Land.check_name" sCheck [] :: dMet "Land" "__eq__" "Land.__eq__" sEq [] :: dMet "Land" "__str__" "Land.__str__" sStr [] :: dOf "check_age" sCheckA [] :: dOf "check_sure" sCheckS [] :: dOf "key_of" sKeyOf [] :: dOf "telling_row" sTelRow [] :: dMet "Gathering" "__init__" "Gathering.__init__" sGInit [] :: dMet "Gathering" "place_of" "Gathering.place_of" sGPlace [] :: dMet "Gathering" "put" "Gathering.put" sGPut [.str "self", .bl true] :: dMet "Gathering" "strike" "Gathering.strike" sGStrike [.str "self"] :: dMet "Gathering" "back" "Gathering.back" sGBack [] :: dMet "Gathering" "tellings" "Gathering.tellings" sGTell [.non] :: dMet "Gathering" "__eq__" "Gathering.__eq__" sGEq [] :: dMet "Gathering" "__len__" "Gathering.__len__" sGLen [] :: dMet "Gathering" "__str__" "Gathering.__str__" sGStr [] :: dMet "Gathering" "__repr__" "Gathering.__repr__" sGRepr [] :: dOf "_law_cell" sCell [] :: dOf "_law_purse" sPurse [] :: dOf "_law_pick" sPick [] :: dOf "_law_menu" sMenu [] :: dOf "_law_word" sWord [] :: dOf "_law_fresh" sFresh [] :: dOf "_law_land" sLand [] :: dOf "_law_names" sNames [] :: dOf "_law_pools" sPools [] :: dOf "_law_row" sRow [] :: dOf "_law_key" sKey [] :: dOf "_law_put" sPut [] :: dOf "_law_strike" sLStrike [] :: dOf "_law_basket" sBasket [] :: dOf "_law_shown" sLShown [] :: dOf "_law_turned" sLTurned [] :: dOf "_law_filled" sLFilled [] :: dOf "_law_unlike" sLUnlike [] :: dOf "_law_alike" sLAlike [] :: dOf "_law_is_shown" sLIsShown [] :: dOf "law" sLaw [] :: []
def fa : List He.Fa := .glo "is_whole" :: .glo "is_number_from" :: .glo "is_word" :: .glo "check_word" :: .glo "are_rows" :: .glo "wrong_spot" :: .glo "spots_in" :: .glo "checked_spots" :: .glo "check_age" :: .glo "check_sure" :: .glo "key_of" :: .glo "telling_row" :: .glo "_law_cell" :: .glo "_law_purse" :: .glo "_law_pick" :: .glo "_law_menu" :: .glo "_law_word" :: .glo "_law_fresh" :: .glo "_law_land" :: .glo "_law_names" :: .glo "_law_pools" :: .glo "_law_row" :: .glo "_law_key" :: .glo "_law_put" :: .glo "_law_strike" :: .glo "_law_basket" :: .glo "_law_shown" :: .glo "_law_turned" :: .glo "_law_filled" :: .glo "_law_unlike" :: .glo "_law_alike" :: .glo "_law_is_shown" :: .glo "law" :: .glo "Land" :: .cls "Land" :: .mkr "Land" :: .noat "Land" "spots" :: .noat "Land" "rows" :: .glo "Gathering" :: .cls "Gathering" :: .mkr "Gathering" :: .noat "Gathering" "land" :: .noat "Gathering" "told" :: .noat "Gathering" "deeds" :: .meth "Land" "check_name" :: .meth "Land" "__eq__" :: .meth "Land" "__str__" :: .meth "Gathering" "place_of" :: .meth "Gathering" "put" :: .meth "Gathering" "strike" :: .meth "Gathering" "back" :: .meth "Gathering" "tellings" :: .meth "Gathering" "__eq__" :: .meth "Gathering" "__len__" :: .meth "Gathering" "__str__" :: .meth "Gathering" "__repr__" :: .str "LETTERS" "abcdefghijklmnopqrstuvwxyz" :: .int "LONGEST_WORD" 8 :: .int "MOST_ROWS" 6 :: .int "MOST_COLUMNS" 6 :: .int "OLDEST" 120 :: .int "MOST_TELLINGS" 200 :: .str "DOT" "." :: .str "DOUBT" "?" :: .str "LAKE" "-" :: .free "len" :: .free "range" :: .free "isinstance" :: .free "tuple" :: .free "list" :: .free "sorted" :: .free "all" :: .free "int" :: .free "max" :: .free "min" :: .free "enumerate" :: .free "str" :: .free "bool" :: .free "repr" :: .free "any" :: []
abbrev R : PySem.W.OpenRow := PySem.W.OpenLaw.row PySem.Challenge.rw_wordlines_k10_gatherings_alike_and_shown
abbrev hk : PySem.W.Hook := hookK fa fn exT
def ob (s : PySem.W.SharedT) : He.AlD × Bool := (He.obsD fa fn (frK (HandSHeadRun.getT s)), exT (frK (HandSHeadRun.getT s)))
theorem ob_eq (s : PySem.W.SharedT) : ob s = hk.obs s.abs := by
  have e : HandSHeadRun.getT s = s.abs.heap.get? := funext (HandSHeadRun.getT_eq s)
  unfold ob
  rw [e]
  rfl
def others : List PySem.Str := "_wall" :: "WordError" :: "LandError" :: "JoinError" :: "NoWord" :: "NoAge" :: "NoSure" :: "NoLand" :: "NoName" :: "NoTelling" :: "NoBack" :: "Told" :: "Full" :: "LETTERS" :: "LONGEST_WORD" :: "is_whole" :: "is_number_from" :: "is_word" :: "check_word" :: "MOST_ROWS" :: "MOST_COLUMNS" :: "LAKE" :: "are_rows" :: "wrong_spot" :: "spots_in" :: "checked_spots" :: "Land" :: "MOST_TELLINGS" :: "OLDEST" :: "DOT" :: "DOUBT" :: "check_age" :: "check_sure" :: "key_of" :: "telling_row" :: "Gathering" :: "_law_cell" :: "_law_purse" :: "_law_pick" :: "_law_menu" :: "_law_word" :: "_law_fresh" :: "_law_land" :: "_law_names" :: "_law_pools" :: "_law_row" :: "_law_key" :: "_law_put" :: "_law_strike" :: "_law_basket" :: "_law_shown" :: "_law_turned" :: "_law_filled" :: "_law_unlike" :: "_law_alike" :: "_law_is_shown" :: []
theorem facts {P : Program} {w : World} {K : PySem.W.Frag} {h : Heap} {mg : Str → Option Value} {f : Addr} (X : K.In h) (G : h.Ns mainGlobals mg) (hfa : mg ("law" : Str) = some (.ref f)) (c : He.SaysD fa fn K) (cx : exT K = true) :
    ∃ fd : FuncData, (∀ (s : Shared) (v : Value), BindsTo s fd ⟨[v], []⟩ [("_law_script", v)]) ∧ ∀ base : Heap, K.In base → base.Ns mainGlobals mg → FnOk P w K mg base CX0 9 f fd ["_law_script"] (spLaw K) := by
  have B : Bi mg := ⟨He.free_ok X G (c.fact 65 (f := .free "len") rfl), He.free_ok X G (c.fact 66 (f := .free "range") rfl), He.free_ok X G (c.fact 67 (f := .free "isinstance") rfl), He.free_ok X G (c.fact 68 (f := .free "tuple") rfl), He.free_ok X G (c.fact 69 (f := .free "list") rfl), He.free_ok X G (c.fact 70 (f := .free "sorted") rfl), He.free_ok X G (c.fact 71 (f := .free "all") rfl), He.free_ok X G (c.fact 72 (f := .free "int") rfl), He.free_ok X G (c.fact 73 (f := .free "max") rfl), He.free_ok X G (c.fact 74 (f := .free "min") rfl), He.free_ok X G (c.fact 75 (f := .free "enumerate") rfl), He.free_ok X G (c.fact 76 (f := .free "str") rfl)⟩
  have hrepr : mg "repr" = none := He.free_ok X G (c.fact 78 (f := .free "repr") rfl)
  have hany : mg "any" = none := He.free_ok X G (c.fact 79 (f := .free "any") rfl)
  have hlk : ∃ t, mg "LAKE" = some (.str "-" t) := He.str_ok X G (c.fact 64 (f := .str "LAKE" "-") rfl)
  have B2 : Bg mg := ⟨He.free_ok X G (c.fact 77 (f := .free "bool") rfl), He.int_ok X G (c.fact 60 (f := .int "OLDEST" 120) rfl), He.int_ok X G (c.fact 61 (f := .int "MOST_TELLINGS" 200) rfl), He.str_ok X G (c.fact 62 (f := .str "DOT" ".") rfl), He.str_ok X G (c.fact 63 (f := .str "DOUBT" "?") rfl)⟩
  have Gk' : Gk mg := ⟨He.str_ok X G (c.fact 56 (f := .str "LETTERS" "abcdefghijklmnopqrstuvwxyz") rfl), He.int_ok X G (c.fact 57 (f := .int "LONGEST_WORD" 8) rfl), He.int_ok X G (c.fact 58 (f := .int "MOST_ROWS" 6) rfl), He.int_ok X G (c.fact 59 (f := .int "MOST_COLUMNS" 6) rfl)⟩
  have T : Txt K mg (He.ga K "Land") := ⟨He.cls_ok (c.fact 34 (f := .cls "Land") rfl), He.noat_ok (c.fact 36 (f := .noat "Land" "spots") rfl), He.noat_ok (c.fact 37 (f := .noat "Land" "rows") rfl), He.glo_ok X G (c.fact 33 (f := .glo "Land") rfl)⟩
  have TG : TxtG K mg (He.ga K "Gathering") := ⟨He.cls_ok (c.fact 39 (f := .cls "Gathering") rfl), He.noat_ok (c.fact 41 (f := .noat "Gathering" "land") rfl), He.noat_ok (c.fact 42 (f := .noat "Gathering" "told") rfl), He.noat_ok (c.fact 43 (f := .noat "Gathering" "deeds") rfl), He.glo_ok X G (c.fact 38 (f := .glo "Gathering") rfl)⟩
  unfold exT at cx
  rw [Bool.and_eq_true] at cx
  obtain ⟨cx, cz⟩ := cx
  unfold exT0 exC at cx
  simp only [Bool.and_eq_true] at cx
  obtain ⟨e2, e3, ⟨a1, a2, a3⟩, ⟨b1, b2, b3⟩, e6⟩ := cx
  have T2 : Txt2 K mg (He.ga K "Land") := ⟨T, ⟨T.cl, He.eqO_ok a1, He.eqO_ok e2, of_decide_eq_true e3, of_decide_eq_true a2, of_decide_eq_true a3⟩, ⟨He.eqO_ok e6, of_decide_eq_true a2⟩⟩
  have insD : C8.InsC K (He.ga K "Gathering") := ⟨TG.cl, He.eqO_ok b1, He.eqO_ok e2, of_decide_eq_true e3, of_decide_eq_true b2, of_decide_eq_true b3⟩
  unfold exX at cz
  simp only [Bool.and_eq_true] at cz
  obtain ⟨z0, z1, z2, z3, z4, z5, z6, z7, z8, z9, z10, z11, z12, z13, z14, z15, z16, z17, z18, z19⟩ := cz
  have NK : NoKind K (He.ga K "Gathering") := ⟨of_decide_eq_true z0, of_decide_eq_true z1, of_decide_eq_true z2, of_decide_eq_true z3, of_decide_eq_true z4, of_decide_eq_true z5, of_decide_eq_true z6⟩
  have KN : KitNo K (He.ga K "Gathering") := ⟨of_decide_eq_true z7, of_decide_eq_true z8, of_decide_eq_true z9, of_decide_eq_true z10, of_decide_eq_true z11, of_decide_eq_true z12, of_decide_eq_true z13⟩
  have AD : Apart2 K (He.ga K "Land") (He.ga K "Gathering") := ⟨z14, z15, of_decide_eq_true z16, of_decide_eq_true z17⟩
  have nb : PySem.W.findIn K (.ref (He.ga K "Gathering")) "__bool__" = some none := He.eqO_ok z18
  have NeD : NeC K (He.ga K "Gathering") := ⟨He.eqO_ok z19, of_decide_eq_true b2⟩
  obtain ⟨fd0, F0⟩ := c.def_ 0 (d := dOf "is_whole" sIsWhole []) rfl
  obtain ⟨fd1, F1⟩ := c.def_ 1 (d := dOf "is_number_from" sIsNum []) rfl
  obtain ⟨fd2, F2⟩ := c.def_ 2 (d := dOf "is_word" sIsWord []) rfl
  obtain ⟨fd3, F3⟩ := c.def_ 3 (d := dOf "check_word" sCheckW []) rfl
  obtain ⟨fd4, F4⟩ := c.def_ 4 (d := dOf "are_rows" sAreRows []) rfl
  obtain ⟨fd5, F5⟩ := c.def_ 5 (d := dOf "wrong_spot" sWrong []) rfl
  obtain ⟨fd6, F6⟩ := c.def_ 6 (d := dOf "spots_in" sSpotsIn []) rfl
  obtain ⟨fd7, F7⟩ := c.def_ 7 (d := dOf "checked_spots" sSpots []) rfl
  obtain ⟨fd8, F8⟩ := c.def_ 8 (d := dMet "Land" "__init__" "Land.__init__" sInit []) rfl
  obtain ⟨fd9, F9⟩ := c.def_ 9 (d := dMet "Land" "check_name" "Land.check_name" sCheck []) rfl
  obtain ⟨fd10, F10⟩ := c.def_ 10 (d := dMet "Land" "__eq__" "Land.__eq__" sEq []) rfl
  obtain ⟨fd11, F11⟩ := c.def_ 11 (d := dMet "Land" "__str__" "Land.__str__" sStr []) rfl
  obtain ⟨fd12, F12⟩ := c.def_ 12 (d := dOf "check_age" sCheckA []) rfl
  obtain ⟨fd13, F13⟩ := c.def_ 13 (d := dOf "check_sure" sCheckS []) rfl
  obtain ⟨fd14, F14⟩ := c.def_ 14 (d := dOf "key_of" sKeyOf []) rfl
  obtain ⟨fd15, F15⟩ := c.def_ 15 (d := dOf "telling_row" sTelRow []) rfl
  obtain ⟨fd16, F16⟩ := c.def_ 16 (d := dMet "Gathering" "__init__" "Gathering.__init__" sGInit []) rfl
  obtain ⟨fd17, F17⟩ := c.def_ 17 (d := dMet "Gathering" "place_of" "Gathering.place_of" sGPlace []) rfl
  obtain ⟨fd18, F18⟩ := c.def_ 18 (d := dMet "Gathering" "put" "Gathering.put" sGPut [.str "self", .bl true]) rfl
  obtain ⟨fd19, F19⟩ := c.def_ 19 (d := dMet "Gathering" "strike" "Gathering.strike" sGStrike [.str "self"]) rfl
  obtain ⟨fd20, F20⟩ := c.def_ 20 (d := dMet "Gathering" "back" "Gathering.back" sGBack []) rfl
  obtain ⟨fd21, F21⟩ := c.def_ 21 (d := dMet "Gathering" "tellings" "Gathering.tellings" sGTell [.non]) rfl
  obtain ⟨fd22, F22⟩ := c.def_ 22 (d := dMet "Gathering" "__eq__" "Gathering.__eq__" sGEq []) rfl
  obtain ⟨fd23, F23⟩ := c.def_ 23 (d := dMet "Gathering" "__len__" "Gathering.__len__" sGLen []) rfl
  obtain ⟨fd24, F24⟩ := c.def_ 24 (d := dMet "Gathering" "__str__" "Gathering.__str__" sGStr []) rfl
  obtain ⟨fd25, F25⟩ := c.def_ 25 (d := dMet "Gathering" "__repr__" "Gathering.__repr__" sGRepr []) rfl
  obtain ⟨fd26, F26⟩ := c.def_ 26 (d := dOf "_law_cell" sCell []) rfl
  obtain ⟨fd27, F27⟩ := c.def_ 27 (d := dOf "_law_purse" sPurse []) rfl
  obtain ⟨fd28, F28⟩ := c.def_ 28 (d := dOf "_law_pick" sPick []) rfl
  obtain ⟨fd29, F29⟩ := c.def_ 29 (d := dOf "_law_menu" sMenu []) rfl
  obtain ⟨fd30, F30⟩ := c.def_ 30 (d := dOf "_law_word" sWord []) rfl
  obtain ⟨fd31, F31⟩ := c.def_ 31 (d := dOf "_law_fresh" sFresh []) rfl
  obtain ⟨fd32, F32⟩ := c.def_ 32 (d := dOf "_law_land" sLand []) rfl
  obtain ⟨fd33, F33⟩ := c.def_ 33 (d := dOf "_law_names" sNames []) rfl
  obtain ⟨fd34, F34⟩ := c.def_ 34 (d := dOf "_law_pools" sPools []) rfl
  obtain ⟨fd35, F35⟩ := c.def_ 35 (d := dOf "_law_row" sRow []) rfl
  obtain ⟨fd36, F36⟩ := c.def_ 36 (d := dOf "_law_key" sKey []) rfl
  obtain ⟨fd37, F37⟩ := c.def_ 37 (d := dOf "_law_put" sPut []) rfl
  obtain ⟨fd38, F38⟩ := c.def_ 38 (d := dOf "_law_strike" sLStrike []) rfl
  obtain ⟨fd39, F39⟩ := c.def_ 39 (d := dOf "_law_basket" sBasket []) rfl
  obtain ⟨fd40, F40⟩ := c.def_ 40 (d := dOf "_law_shown" sLShown []) rfl
  obtain ⟨fd41, F41⟩ := c.def_ 41 (d := dOf "_law_turned" sLTurned []) rfl
  obtain ⟨fd42, F42⟩ := c.def_ 42 (d := dOf "_law_filled" sLFilled []) rfl
  obtain ⟨fd43, F43⟩ := c.def_ 43 (d := dOf "_law_unlike" sLUnlike []) rfl
  obtain ⟨fd44, F44⟩ := c.def_ 44 (d := dOf "_law_alike" sLAlike []) rfl
  obtain ⟨fd45, F45⟩ := c.def_ 45 (d := dOf "_law_is_shown" sLIsShown []) rfl
  obtain ⟨fd46, F46⟩ := c.def_ 46 (d := dOf "law" sLaw []) rfl
  have e := hfa.symm.trans (He.glo_ok X G (c.fact 32 (f := .glo "law") rfl))
  cases e
  have f0 : Fun K "is_whole" "is_whole" sIsWhole _ fd0 := He5.fun_of F0
  have f1 : Fun K "is_number_from" "is_number_from" sIsNum _ fd1 := He5.fun_of F1
  have f2 : Fun K "is_word" "is_word" sIsWord _ fd2 := He5.fun_of F2
  have f3 : Fun K "check_word" "check_word" sCheckW _ fd3 := He5.fun_of F3
  have f4 : Fun K "are_rows" "are_rows" sAreRows _ fd4 := He5.fun_of F4
  have f5 : Fun K "wrong_spot" "wrong_spot" sWrong _ fd5 := He5.fun_of F5
  have f6 : Fun K "spots_in" "spots_in" sSpotsIn _ fd6 := He5.fun_of F6
  have f7 : Fun K "checked_spots" "checked_spots" sSpots _ fd7 := He5.fun_of F7
  have f8 : Fun K "__init__" "Land.__init__" sInit _ fd8 := He5.fun_of F8
  have f9 : Fun K "check_name" "Land.check_name" sCheck _ fd9 := He5.fun_of F9
  have f10 : Fun K "__eq__" "Land.__eq__" sEq _ fd10 := He5.fun_of F10
  have f11 : Fun K "__str__" "Land.__str__" sStr _ fd11 := He5.fun_of F11
  have f12 : Fun K "check_age" "check_age" sCheckA _ fd12 := He5.fun_of F12
  have f13 : Fun K "check_sure" "check_sure" sCheckS _ fd13 := He5.fun_of F13
  have f14 : Fun K "key_of" "key_of" sKeyOf _ fd14 := He5.fun_of F14
  have f15 : Fun K "telling_row" "telling_row" sTelRow _ fd15 := He5.fun_of F15
  have f16 : Fun K "__init__" "Gathering.__init__" sGInit _ fd16 := He5.fun_of F16
  have f17 : Fun K "place_of" "Gathering.place_of" sGPlace _ fd17 := He5.fun_of F17
  have f18 : FunP K _ fd18 := F18
  have f19 : FunS K _ fd19 := F19
  have f20 : Fun K "back" "Gathering.back" sGBack _ fd20 := He5.fun_of F20
  have f21 : FunT K _ fd21 := F21
  have f22 : Fun K "__eq__" "Gathering.__eq__" sGEq _ fd22 := He5.fun_of F22
  have f23 : Fun K "__len__" "Gathering.__len__" sGLen _ fd23 := He5.fun_of F23
  have f24 : Fun K "__str__" "Gathering.__str__" sGStr _ fd24 := He5.fun_of F24
  have f25 : Fun K "__repr__" "Gathering.__repr__" sGRepr _ fd25 := He5.fun_of F25
  have f26 : Fun K "_law_cell" "_law_cell" sCell _ fd26 := He5.fun_of F26
  have f27 : Fun K "_law_purse" "_law_purse" sPurse _ fd27 := He5.fun_of F27
  have f28 : Fun K "_law_pick" "_law_pick" sPick _ fd28 := He5.fun_of F28
  have f29 : Fun K "_law_menu" "_law_menu" sMenu _ fd29 := He5.fun_of F29
  have f30 : Fun K "_law_word" "_law_word" sWord _ fd30 := He5.fun_of F30
  have f31 : Fun K "_law_fresh" "_law_fresh" sFresh _ fd31 := He5.fun_of F31
  have f32 : Fun K "_law_land" "_law_land" sLand _ fd32 := He5.fun_of F32
  have f33 : Fun K "_law_names" "_law_names" sNames _ fd33 := He5.fun_of F33
  have f34 : Fun K "_law_pools" "_law_pools" sPools _ fd34 := He5.fun_of F34
  have f35 : Fun K "_law_row" "_law_row" sRow _ fd35 := He5.fun_of F35
  have f36 : Fun K "_law_key" "_law_key" sKey _ fd36 := He5.fun_of F36
  have f37 : Fun K "_law_put" "_law_put" sPut _ fd37 := He5.fun_of F37
  have f38 : Fun K "_law_strike" "_law_strike" sLStrike _ fd38 := He5.fun_of F38
  have f39 : Fun K "_law_basket" "_law_basket" sBasket _ fd39 := He5.fun_of F39
  have f40 : Fun K "_law_shown" "_law_shown" sLShown _ fd40 := He5.fun_of F40
  have f41 : Fun K "_law_turned" "_law_turned" sLTurned _ fd41 := He5.fun_of F41
  have f42 : Fun K "_law_filled" "_law_filled" sLFilled _ fd42 := He5.fun_of F42
  have f43 : Fun K "_law_unlike" "_law_unlike" sLUnlike _ fd43 := He5.fun_of F43
  have f44 : Fun K "_law_alike" "_law_alike" sLAlike _ fd44 := He5.fun_of F44
  have f45 : Fun K "_law_is_shown" "_law_is_shown" sLIsShown _ fd45 := He5.fun_of F45
  have f46 : Fun K "law" "law" sLaw _ fd46 := He5.fun_of F46
  refine ⟨fd46, fun s v => ?_, fun base _ _ => ?_⟩
  · obtain ⟨oc, od, kV, doc, pm, an, cdv, ct, osl, e, l, c⟩ := f46.ex
    subst e
    exact .of_eq rfl
  have h_is_whole : Has P w K mg base "is_whole" 1 ["thing"] spIsWhole := ⟨_, fd0, ok_iswhole f0 B B2, He.glo_ok X G (c.fact 0 (f := .glo "is_whole") rfl), f0.kp, f0.binds fun _ _ _ _ _ _ us hl => match us, hl with | [_], _ => rfl⟩
  have h_is_number_from : Has P w K mg base "is_number_from" 2 ["thing", "least", "most"] spIsNum := ⟨_, fd1, ok_isnum f1 h_is_whole, He.glo_ok X G (c.fact 1 (f := .glo "is_number_from") rfl), f1.kp, f1.binds fun _ _ _ _ _ _ us hl => match us, hl with | [_, _, _], _ => rfl⟩
  have h_is_word : Has P w K mg base "is_word" 1 ["thing"] spIsWord := ⟨_, fd2, ok_isword f2 B Gk', He.glo_ok X G (c.fact 2 (f := .glo "is_word") rfl), f2.kp, f2.binds fun _ _ _ _ _ _ us hl => match us, hl with | [_], _ => rfl⟩
  have h_check_word : Has P w K mg base "check_word" 2 ["word"] spCheckW := ⟨_, fd3, ok_checkw f3 h_is_word, He.glo_ok X G (c.fact 3 (f := .glo "check_word") rfl), f3.kp, f3.binds fun _ _ _ _ _ _ us hl => match us, hl with | [_], _ => rfl⟩
  have h_are_rows : Has P w K mg base "are_rows" 1 ["thing"] spAreRows := ⟨_, fd4, ok_arerows f4 B Gk', He.glo_ok X G (c.fact 4 (f := .glo "are_rows") rfl), f4.kp, f4.binds fun _ _ _ _ _ _ us hl => match us, hl with | [_], _ => rfl⟩
  have h_wrong_spot : Has P w K mg base "wrong_spot" 2 ["rows"] spWrong := ⟨_, fd5, ok_wrong f5 B h_is_word, He.glo_ok X G (c.fact 5 (f := .glo "wrong_spot") rfl), f5.kp, f5.binds fun _ _ _ _ _ _ us hl => match us, hl with | [_], _ => rfl⟩
  have h_spots_in : Has P w K mg base "spots_in" 1 ["rows"] spSpotsIn := ⟨_, fd6, ok_spotsin f6 B, He.glo_ok X G (c.fact 6 (f := .glo "spots_in") rfl), f6.kp, f6.binds fun _ _ _ _ _ _ us hl => match us, hl with | [_], _ => rfl⟩
  have h_checked_spots : Has P w K mg base "checked_spots" 3 ["rows"] spSpots := ⟨_, fd7, ok_spots f7 h_are_rows h_wrong_spot h_spots_in, He.glo_ok X G (c.fact 7 (f := .glo "checked_spots") rfl), f7.kp, f7.binds fun _ _ _ _ _ _ us hl => match us, hl with | [_], _ => rfl⟩
  have h_Land__init__ : HasI P w K mg base (He.ga K "Land") := ⟨_, fd8, He.mkr_ok (c.fact 35 (f := .mkr "Land") rfl), ok_init f8 T h_checked_spots, f8.binds fun _ _ _ _ _ _ us hl => match us, hl with | [_, _], _ => rfl⟩
  have h_check_name : HasM P w K mg base (He.ga K "Land") "check_name" 2 ["self", "name"] (spCheck (He.ga K "Land")) := ⟨_, fd9, ok_check f9 T h_is_word, He.meth_ok (c.fact 44 (f := .meth "Land" "check_name") rfl), f9.binds fun _ _ _ _ _ _ us hl => match us, hl with | [_, _], _ => rfl⟩
  have h_Land__eq__ : HasM P w K mg base (He.ga K "Land") "__eq__" 1 ["self", "other"] (spLE K (He.ga K "Land")) := ⟨_, fd10, FnOk.or2 (ok_leq f10 B T2) (ok_leqx f10 B T2), He.meth_ok (c.fact 45 (f := .meth "Land" "__eq__") rfl), f10.binds fun _ _ _ _ _ _ us hl => match us, hl with | [_, _], _ => rfl⟩
  have h_Land__str__ : HasM P w K mg base (He.ga K "Land") "__str__" 1 ["self"] (spLStr (He.ga K "Land")) := ⟨_, fd11, ok_lstr f11 T hlk, He.meth_ok (c.fact 46 (f := .meth "Land" "__str__") rfl), f11.binds fun _ _ _ _ _ _ us hl => match us, hl with | [_], _ => rfl⟩
  have h_check_age : Has P w K mg base "check_age" 3 ["age"] spCheckA := ⟨_, fd12, ok_checka f12 B2 h_is_number_from, He.glo_ok X G (c.fact 8 (f := .glo "check_age") rfl), f12.kp, f12.binds fun _ _ _ _ _ _ us hl => match us, hl with | [_], _ => rfl⟩
  have h_check_sure : Has P w K mg base "check_sure" 1 ["sure"] spCheckS := ⟨_, fd13, ok_checks f13 B B2, He.glo_ok X G (c.fact 9 (f := .glo "check_sure") rfl), f13.kp, f13.binds fun _ _ _ _ _ _ us hl => match us, hl with | [_], _ => rfl⟩
  have h_key_of : Has P w K mg base "key_of" 1 ["telling"] spKeyOf := ⟨_, fd14, ok_keyof f14, He.glo_ok X G (c.fact 10 (f := .glo "key_of") rfl), f14.kp, f14.binds fun _ _ _ _ _ _ us hl => match us, hl with | [_], _ => rfl⟩
  have h_telling_row : Has P w K mg base "telling_row" 1 ["telling"] spTelRow := ⟨_, fd15, ok_telrow f15 B B2, He.glo_ok X G (c.fact 11 (f := .glo "telling_row") rfl), f15.kp, f15.binds fun _ _ _ _ _ _ us hl => match us, hl with | [_], _ => rfl⟩
  have h_Gathering__init__ : HasGK P w K mg base (He.ga K "Land") (He.ga K "Gathering") := ⟨_, fd16, He.mkr_ok (c.fact 40 (f := .mkr "Gathering") rfl), ok_ginit f16 B T2 TG, f16.binds fun _ _ _ _ _ _ us hl => match us, hl with | [_, _], _ => rfl, kbn_of f16 fun _ _ _ _ _ _ _ _ => rfl⟩
  have h_place_of : HasM P w K mg base (He.ga K "Gathering") "place_of" 2 ["self", "key"] (spGPlace (He.ga K "Land") (He.ga K "Gathering")) := ⟨_, fd17, ok_gplace f17 B TG h_key_of, He.meth_ok (c.fact 47 (f := .meth "Gathering" "place_of") rfl), f17.binds fun _ _ _ _ _ _ us hl => match us, hl with | [_, _], _ => rfl⟩
  have h_put : HasP P w K mg base (He.ga K "Land") (He.ga K "Gathering") := ⟨_, fd18, ok_put f18 B B2 T TG h_check_name h_check_word h_check_age h_check_sure h_place_of, He.meth_ok (c.fact 48 (f := .meth "Gathering" "put") rfl), f18⟩
  have h_strike : HasS P w K mg base (He.ga K "Land") (He.ga K "Gathering") := ⟨_, fd19, ok_strike f19 B TG h_is_word h_place_of, He.meth_ok (c.fact 49 (f := .meth "Gathering" "strike") rfl), f19⟩
  have h_back : HasM P w K mg base (He.ga K "Gathering") "back" 1 ["self"] (spBack (He.ga K "Land") (He.ga K "Gathering")) := ⟨_, fd20, ok_back f20 TG, He.meth_ok (c.fact 50 (f := .meth "Gathering" "back") rfl), f20.binds fun _ _ _ _ _ _ us hl => match us, hl with | [_], _ => rfl⟩
  have h_tellings : HasT P w K mg base (He.ga K "Land") (He.ga K "Gathering") := ⟨_, fd21, ok_tell f21 B TG, He.meth_ok (c.fact 51 (f := .meth "Gathering" "tellings") rfl), f21⟩
  have h_Gathering__eq__ : HasM P w K mg base (He.ga K "Gathering") "__eq__" 3 ["self", "other"] (spGE K (He.ga K "Land") (He.ga K "Gathering")) := ⟨_, fd22, FnOk.or2 (ok_geq f22 B TG insD h_Land__eq__) ((ok_geqx f22 B TG).mono (by decide)), He.meth_ok (c.fact 52 (f := .meth "Gathering" "__eq__") rfl), f22.binds fun _ _ _ _ _ _ us hl => match us, hl with | [_, _], _ => rfl⟩
  have h_Gathering__len__ : HasM P w K mg base (He.ga K "Gathering") "__len__" 1 ["self"] (spGLen (He.ga K "Land") (He.ga K "Gathering")) := ⟨_, fd23, ok_glen f23 B TG, He.meth_ok (c.fact 53 (f := .meth "Gathering" "__len__") rfl), f23.binds fun _ _ _ _ _ _ us hl => match us, hl with | [_], _ => rfl⟩
  have h_Gathering__str__ : HasM P w K mg base (He.ga K "Gathering") "__str__" 4 ["self"] (spGStr (He.ga K "Land") (He.ga K "Gathering")) := ⟨_, fd24, ok_gstr f24 B B2 TG h_Land__str__ h_telling_row, He.meth_ok (c.fact 54 (f := .meth "Gathering" "__str__") rfl), f24.binds fun _ _ _ _ _ _ us hl => match us, hl with | [_], _ => rfl⟩
  have h_Gathering__repr__ : HasM P w K mg base (He.ga K "Gathering") "__repr__" 1 ["self"] (spGRepr (He.ga K "Land") (He.ga K "Gathering")) := ⟨_, fd25, ok_grepr f25 B TG, He.meth_ok (c.fact 55 (f := .meth "Gathering" "__repr__") rfl), f25.binds fun _ _ _ _ _ _ us hl => match us, hl with | [_], _ => rfl⟩
  have h__law_cell : Has P w K mg base "_law_cell" 1 ["_law_script", "_law_k"] (spCell K) := ⟨_, fd26, ok_cell f26 B, He.glo_ok X G (c.fact 12 (f := .glo "_law_cell") rfl), f26.kp, f26.binds fun _ _ _ _ _ _ us hl => match us, hl with | [_, _], _ => rfl⟩
  have h__law_purse : Has P w K mg base "_law_purse" 1 ["_law_cell_here"] spPurse := ⟨_, fd27, ok_purse f27 B, He.glo_ok X G (c.fact 13 (f := .glo "_law_purse") rfl), f27.kp, f27.binds fun _ _ _ _ _ _ us hl => match us, hl with | [_], _ => rfl⟩
  have h__law_pick : Has P w K mg base "_law_pick" 1 ["_law_purse_here", "_law_count"] spPick := ⟨_, fd28, ok_pick f28, He.glo_ok X G (c.fact 14 (f := .glo "_law_pick") rfl), f28.kp, f28.binds fun _ _ _ _ _ _ us hl => match us, hl with | [_, _], _ => rfl⟩
  have h__law_menu : Has P w K mg base "_law_menu" 1 [] spMenu := ⟨_, fd29, ok_menu f29, He.glo_ok X G (c.fact 15 (f := .glo "_law_menu") rfl), f29.kp, f29.binds fun _ _ _ _ _ _ us hl => match us, hl with | [], _ => rfl⟩
  have h__law_word : Has P w K mg base "_law_word" 2 ["_law_purse_here"] spWord := ⟨_, fd30, ok_word f30 B h__law_pick h__law_menu, He.glo_ok X G (c.fact 16 (f := .glo "_law_word") rfl), f30.kp, f30.binds fun _ _ _ _ _ _ us hl => match us, hl with | [_], _ => rfl⟩
  have h__law_fresh : Has P w K mg base "_law_fresh" 3 ["_law_purse_here", "_law_used"] spFresh := ⟨_, fd31, ok_fresh f31 B h__law_word, He.glo_ok X G (c.fact 17 (f := .glo "_law_fresh") rfl), f31.kp, f31.binds fun _ _ _ _ _ _ us hl => match us, hl with | [_, _], _ => rfl⟩
  have h__law_land : Has P w K mg base "_law_land" 4 ["_law_purse_here", "_law_topmost"] spLand := ⟨_, fd32, ok_land f32 B h__law_pick h__law_fresh, He.glo_ok X G (c.fact 18 (f := .glo "_law_land") rfl), f32.kp, f32.binds fun _ _ _ _ _ _ us hl => match us, hl with | [_, _], _ => rfl⟩
  have h__law_names : Has P w K mg base "_law_names" 1 ["_law_lots"] spNames := ⟨_, fd33, ok_names f33 B, He.glo_ok X G (c.fact 19 (f := .glo "_law_names") rfl), f33.kp, f33.binds fun _ _ _ _ _ _ us hl => match us, hl with | [_], _ => rfl⟩
  have h__law_pools : Has P w K mg base "_law_pools" 4 ["_law_purse_here", "_law_lots"] spPools := ⟨_, fd34, ok_pools f34 B h__law_pick h__law_fresh h__law_names, He.glo_ok X G (c.fact 20 (f := .glo "_law_pools") rfl), f34.kp, f34.binds fun _ _ _ _ _ _ us hl => match us, hl with | [_, _], _ => rfl⟩
  have h__law_row : Has P w K mg base "_law_row" 2 ["_law_purse_here", "_law_pools_here"] spRow := ⟨_, fd35, ok_row f35 B h__law_pick, He.glo_ok X G (c.fact 21 (f := .glo "_law_row") rfl), f35.kp, f35.binds fun _ _ _ _ _ _ us hl => match us, hl with | [_, _], _ => rfl⟩
  have h__law_key : Has P w K mg base "_law_key" 1 ["_law_row_here"] spKeyOf := ⟨_, fd36, ok_key f36, He.glo_ok X G (c.fact 22 (f := .glo "_law_key") rfl), f36.kp, f36.binds fun _ _ _ _ _ _ us hl => match us, hl with | [_], _ => rfl⟩
  have h__law_put : Has P w K mg base "_law_put" 5 ["_law_basket_here", "_law_row_here", "_law_way"] (spLPut (He.ga K "Land") (He.ga K "Gathering")) := ⟨_, fd37, ok_lput f37 TG h_put, He.glo_ok X G (c.fact 23 (f := .glo "_law_put") rfl), f37.kp, f37.binds fun _ _ _ _ _ _ us hl => match us, hl with | [_, _, _], _ => rfl⟩
  have h__law_strike : Has P w K mg base "_law_strike" 4 ["_law_basket_here", "_law_key_here", "_law_way"] (spLStrike (He.ga K "Land") (He.ga K "Gathering")) := ⟨_, fd38, ok_lstrike f38 TG h_strike, He.glo_ok X G (c.fact 24 (f := .glo "_law_strike") rfl), f38.kp, f38.binds fun _ _ _ _ _ _ us hl => match us, hl with | [_, _, _], _ => rfl⟩
  have h__law_basket : Has P w K mg base "_law_basket" 6 ["_law_purse_here", "_law_lots", "_law_pools_here", "_law_count"] (spBasket (He.ga K "Land") (He.ga K "Gathering")) := ⟨_, fd39, ok_basket f39 B T TG h_Land__init__ h_Gathering__init__.pos h__law_row h__law_key h__law_put, He.glo_ok X G (c.fact 25 (f := .glo "_law_basket") rfl), f39.kp, f39.binds fun _ _ _ _ _ _ us hl => match us, hl with | [_, _, _, _], _ => rfl⟩
  have h__law_shown : Has P w K mg base "_law_shown" 1 ["_law_lots", "_law_kept"] spLShown := ⟨_, fd40, ok_lshown f40 B, He.glo_ok X G (c.fact 26 (f := .glo "_law_shown") rfl), f40.kp, f40.binds fun _ _ _ _ _ _ us hl => match us, hl with | [_, _], _ => rfl⟩
  have h__law_turned : Has P w K mg base "_law_turned" 6 ["_law_purse_here", "_law_lots", "_law_pools_here", "_law_kept"] (spTurned (He.ga K "Land") (He.ga K "Gathering")) := ⟨_, fd41, ok_turned f41 B T TG h_Land__init__ h_Gathering__init__ h__law_pick h__law_row h__law_key h__law_put h__law_strike h_tellings h_back, He.glo_ok X G (c.fact 27 (f := .glo "_law_turned") rfl), f41.kp, f41.binds fun _ _ _ _ _ _ us hl => match us, hl with | [_, _, _, _], _ => rfl⟩
  have h__law_filled : Has P w K mg base "_law_filled" 6 ["_law_lots", "_law_kept"] (spFilled (He.ga K "Land") (He.ga K "Gathering")) := ⟨_, fd42, ok_lfilled f42 T TG h_Land__init__ h_Gathering__init__.pos h__law_put, He.glo_ok X G (c.fact 28 (f := .glo "_law_filled") rfl), f42.kp, f42.binds fun _ _ _ _ _ _ us hl => match us, hl with | [_, _], _ => rfl⟩
  have h__law_unlike : Has P w K mg base "_law_unlike" 7 ["_law_purse_here", "_law_lots", "_law_pools_here", "_law_kept"] (spUnlike (He.ga K "Land") (He.ga K "Gathering")) := ⟨_, fd43, ok_unlike f43 B h__law_pick h__law_row h__law_key h__law_filled, He.glo_ok X G (c.fact 29 (f := .glo "_law_unlike") rfl), f43.kp, f43.binds fun _ _ _ _ _ _ us hl => match us, hl with | [_, _, _, _], _ => rfl⟩
  have h__law_alike : Has P w K mg base "_law_alike" 6 ["_law_lone", "_law_mate", "_law_due"] (spAlike (He.ga K "Land") (He.ga K "Gathering")) := ⟨_, fd44, ok_alike f44 B B2 NeD NK KN h_Gathering__eq__, He.glo_ok X G (c.fact 30 (f := .glo "_law_alike") rfl), f44.kp, f44.binds fun _ _ _ _ _ _ us hl => match us, hl with | [_, _, _], _ => rfl⟩
  have h__law_is_shown : Has P w K mg base "_law_is_shown" 7 ["_law_basket_here", "_law_lots", "_law_kept"] (spIsShown (He.ga K "Land") (He.ga K "Gathering")) := ⟨_, fd45, ok_isshown f45 B B2 hrepr nb h__law_shown h_Gathering__str__ h_Gathering__repr__ h_Gathering__len__, He.glo_ok X G (c.fact 31 (f := .glo "_law_is_shown") rfl), f45.kp, f45.binds fun _ _ _ _ _ _ us hl => match us, hl with | [_, _, _], _ => rfl⟩
  exact ok_law f46 B hany T2 TG insD NK KN AD h__law_cell h__law_purse h__law_pick h__law_land h__law_pools h__law_basket h__law_turned h__law_alike h__law_unlike h__law_is_shown h_Gathering__eq__ h_Land__eq__ h_Gathering__str__ h_tellings
end Wl

namespace Wl
open PySem PySem.Spec PyProof.Rows L2
noncomputable abbrev atEnd (w : World) (os : OsState) : Option PySem.W.SharedT := HandSHeadRun.endF (HandSHeadRun.stepQ (HandSHeadRun.denQ HandSHeadRun.tabQ) R.prog w) 12000 R.prog w os
theorem runA (w : World) (os : OsState) : (atEnd w os).map (fun s => (HandSHeadRun.looksF R.prog (PySem.W.boot_heap w.params) s.abs, HandSHeadRun.seenQ (PySem.W.view R.prog [61]) others (importedModules R.prog.main.body) (fun s => PySem.W.xlAt (PySem.W.view R.prog [61]) [] s && PySem.W.recOk R.toRowW.records s) s.abs)) = some (true, PySem.W.openGood (PySem.W.view R.prog [61]) others) := by
  kernel_rfl
theorem runB (w : World) (os : OsState) : (atEnd w os).map ob = some (He.valD fn, true) := by
  kernel_rfl
theorem run (w : World) : HandSHeadRun.RunEq R (PySem.W.view R.prog [61]) hk ob 12000 others w := fun os => map3 (runA w os) (runB w os)
end Wl

open PySem PySem.W PySem.Calls PyProof.Rows
theorem PySem.Challenge.cw_wordlines_k10_gatherings_alike_and_shown_holds : PySem.Challenge.rw_wordlines_k10_gatherings_alike_and_shown.Holds := by
  w_on; o_law
  refine HandSHeadRun.head_any (r := OpenLaw.row PySem.Challenge.rw_wordlines_k10_gatherings_alike_and_shown) (q := view (OpenLaw.row PySem.Challenge.rw_wordlines_k10_gatherings_alike_and_shown).prog [61]) (H := Wl.hk) (ob := Wl.ob) (M := 12000) (loose := Wl.others) (d := HandSHeadRun.topDef (OpenLaw.row PySem.Challenge.rw_wordlines_k10_gatherings_alike_and_shown).prog 61) (kwd := []) Wl.ob_eq
    (by kernel_rfl) (fun s => by kernel_rfl) Wl.run (by kernel_rfl) (by kernel_rfl) (by kernel_rfl) (by rfl) (by first | assumption | decide +kernel) (by decide +kernel) ⟨rfl, rfl, rfl, rfl, rfl, by decide +kernel⟩ ?hw ?hc
  case hw => w_witness2
  case hc =>
    refine L2.walk_ofE (l := PySem.Challenge.rw_wordlines_k10_gatherings_alike_and_shown) (n := 63) (k := 9) (x := "_law_script") (CX := L2.CX0) rfl (by decide) (by kernel_rfl) ⟨rfl, by decide, by decide⟩ ?F (fun _ _ _ _ z => z)
    intro w mg fa h Y G hmg0
    obtain ⟨K, KX, c, cx⟩ := Y
    have hmg : mg ("law" : PySem.Str) = some (.ref fa) := by
      have e : (HandSHeadRun.topDef (OpenLaw.row PySem.Challenge.rw_wordlines_k10_gatherings_alike_and_shown).prog 61).name = ("law" : PySem.Str) := by kernel_rfl
      rw [← e]
      exact hmg0
    obtain ⟨fd, hb, hF⟩ := Wl.facts (P := (PySem.Challenge.rw_wordlines_k10_gatherings_alike_and_shown).prog) (w := w) KX G hmg c cx
    exact ⟨K, fd, Wl.spLaw K, KX, hb, fun H a ns hl _ hS => ⟨a, ns, rfl, hS, hl, fun _ => rfl⟩, hF⟩

