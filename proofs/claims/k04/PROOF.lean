import PyProof.Rows.All
import Wide.All
import OpenK.AllK
import Wide.FinOn
import HandS.ForMost
import HandS.Defaults
import HandS.MakeKwOnly
import HandS.Conv
import HandS.IsInst
import HandS.Walk
import HandS.Flow
import KE.SortData
import KE.DataMinMax
import KE.GoesMore
import HandS.Replace
import HandS.DictComp
import HandS.MakeKw
import HandS.Style
import KE.KExcIs
import HandS.HotCalls
import HandS.ExcField
import KE.KExcInit
import HandS.Ends
import HandS.Words
import HandS.Comp
import HandS.WordsExc
import PyProof.EqAt
import HandS.List
import HandS.More
import HandS.Head0
import HandS.HeadHook1
import HandS.HeadHook2
import HandS.HeadNt
import KE.KEqNest
import HandS.TupMul
import HandS.TupAny
import HandS.TryOnly
import KE.KStateDown
import Lean
import HandS.Head1
import HandS.Head2
import HandS.HeadEnd
import PySem.Challenge.RW_wordlines_k04_words_refused
set_option Elab.async false
set_option linter.all false
set_option maxRecDepth 100000
set_option maxHeartbeats 0
/-! Rules of ours beside the layer: sorted of data, min and max of two texts, in of nested tuples, methods by keyword, enumerate of a tuple. -/
namespace Wl
open PySem PySem.Spec PyProof.Rows L2

/-! sorted(list of data) -/
def rSortD (K : PySem.W.Frag) : List V → Hp → VK → Prop := fun vs H Q =>
  ∃ (a : Addr) (bs : List (V × PyData)), vs = [V.ref a] ∧ SqL K H a (bs.map (·.1)) ∧ (∀ b ∈ bs, Dp K H b.1 b.2) ∧
    PySem.W.AllAlike (bs.map (·.2)) ∧ PySem.W.Sortable (bs.map (·.2)) ∧ (∀ b ∈ bs, b.2.depth ≤ 8) ∧
    ∀ p, H p = none → Q (.ref p) (upd H p (.lst ((bs.mergeSort (PySem.W.dataLe false (·.2))).map (·.1))))
theorem each_of_vals : ∀ {bs : List (V × PyData)} {its : List Value}, Vals (bs.map (·.1)) its → PySem.W.EachIs (fun u b => RelV b.1 u) its bs
  | [], [], _ => .nil
  | [], _ :: _, h => nomatch h
  | _ :: _, [], h => nomatch h
  | b :: bs, u :: us, h => by
    cases h with
    | cons r t => exact .cons r (each_of_vals t)
theorem vals_of_each : ∀ {bs : List (V × PyData)} {its : List Value}, PySem.W.EachIs (fun u b => RelV b.1 u) its bs → Vals (bs.map (·.1)) its
  | _, _, .nil => .nil
  | _, _, .cons r t => .cons r (vals_of_each t)
theorem each_reads {X : Cx} {pins : List (Addr × Obj)} {σ : L2.St} {H : Hp} {s : Shared} (I : Inv X pins σ H s) :
    ∀ {bs : List (V × PyData)} {its : List Value}, (∀ b ∈ bs, Dp X.K H b.1 b.2) → PySem.W.EachIs (fun u b => RelV b.1 u) its bs →
      PySem.W.EachIs (fun v b => ∃ as, Reads s.heap v b.2 as) its bs
  | _, _, _, .nil => .nil
  | _, _, hd, .cons r t => .cons (Dp.reads I _ _ _ (hd _ List.mem_cons_self) r) (each_reads I (fun b m => hd b (List.mem_cons_of_mem _ m)) t)
theorem cr_sortD {X : Cx} (hu : X.A.units + 64 < cLine) : CallR X (.builtin "sorted") (rSortD X.K) := by
  intro pins s σ H vs us Q I r h
  obtain ⟨a, bs, rfl, hs, hd, ha, hk, hz, q⟩ := h
  obtain ⟨its, rv, hl, hn⟩ := I.list hs
  obtain ⟨u, rfl, ru⟩ := vals1 r
  obtain rfl : u = Value.ref a := ru
  have e := each_of_vals rv
  have hbn : bs.length ≤ sizeLine := by
    rw [List.length_map] at hn
    exact hn
  refine PySem.W.sorted_data (R := fun u b => RelV b.1 u) (enc := (·.2)) hl.isList e (each_reads I hd e) ha hk hbn (fun b hb => ?_) fun out ho eo => ?_
  · have := hz b hb
    omega
  · have rv2 := vals_of_each eo
    obtain ⟨n, hn2⟩ := sortedAll_at s.heap its out.toArray
    have hlen : ((bs.mergeSort (PySem.W.dataLe false (·.2))).map (·.1)).length ≤ sizeLine := by
      rw [List.length_map, List.length_mergeSort]
      exact hbn
    exact ⟨.ref (s.heap.objs.size + 1), _, I.laid (t' := s.toks) (o := .lst ((bs.mergeSort (PySem.W.dataLe false (·.2))).map (·.1))) (fun b o e => sortedAll_old e) (Nat.le_succ _) ⟨hlen, out, n, rv2, hn2⟩, rfl, q _ (I.hok.fresh (Nat.le_succ _))⟩

/-! min, max of a tuple of two texts -/
def rTwo (K : PySem.W.Frag) (f : Str → Str → Str) : List V → Hp → VK → Prop := fun vs H Q =>
  ∃ (a : Addr) (x y : Str), vs = [V.ref a] ∧ SqT K H a [.str x, .str y] ∧ Q (.str (f x y)) H
def lessOf (x y : Str) : Str := if y.cps.toList < x.cps.toList then y else x
def moreOf (x y : Str) : Str := if x.cps.toList < y.cps.toList then y else x
theorem alike2 (x y : Str) : PySem.W.AlikeAll [PyData.str x, .str y] := by
  refine ⟨fun a ha b hb => ?_, fun a ha => ?_⟩
  · simp only [List.mem_cons, List.not_mem_nil, or_false] at ha hb
    rcases ha with rfl | rfl <;> rcases hb with rfl | rfl <;> rfl
  · simp only [List.mem_cons, List.not_mem_nil, or_false] at ha
    rcases ha with rfl | rfl <;> exact fun z => by cases z
theorem dp2 {K : PySem.W.Frag} {H : Hp} (x y : Str) : DpAll K H [.str x, .str y] [PyData.str x, .str y] := .cons (.str x) (.cons (.str y) .nil)
theorem cr_minT {X : Cx} (hc : X.calm = true) (hu : X.A.units + 64 < cLine) : CallR X (.builtin "min") (rTwo X.K lessOf) := by
  intro pins s σ H vs us Q I r h
  obtain ⟨a, x, y, rfl, hs, q⟩ := h
  obtain ⟨its, rv, hl, hn⟩ := I.tuple hs
  obtain ⟨u, rfl, ru⟩ := vals1 r
  obtain rfl : u = Value.ref a := ru
  obtain ⟨as, hr⟩ := Dp.readsAll I _ _ its (dp2 x y) rv
  refine PySem.W.min_tuple_data (I.ok.hd hc) (show s.heap.IsTuple a its.toArray from hl) (by simpa using hr) (alike2 x y) (by
    have : PyData.depthAll [PyData.str x, .str y] = 0 := rfl
    omega) fun i v h' tk bs hv hR hk => ?_
  have e : PySem.W.minD (.str x) [.str y] = .str (lessOf x y) := by
    unfold PySem.W.minD lessOf
    simp only [List.foldl_cons, List.foldl_nil, PySem.W.dataLt_str]
    by_cases c : y.cps.toList < x.cps.toList <;> simp [c]
  rw [e] at hR
  cases hR with
  | str z t => exact ⟨.str _, H, I.kept (t' := tk) hk, ⟨_, rfl⟩, q⟩
theorem cr_maxT {X : Cx} (hc : X.calm = true) (hu : X.A.units + 64 < cLine) : CallR X (.builtin "max") (rTwo X.K moreOf) := by
  intro pins s σ H vs us Q I r h
  obtain ⟨a, x, y, rfl, hs, q⟩ := h
  obtain ⟨its, rv, hl, hn⟩ := I.tuple hs
  obtain ⟨u, rfl, ru⟩ := vals1 r
  obtain rfl : u = Value.ref a := ru
  obtain ⟨as, hr⟩ := Dp.readsAll I _ _ its (dp2 x y) rv
  refine PySem.W.max_tuple_data (I.ok.hd hc) (show s.heap.IsTuple a its.toArray from hl) (by simpa using hr) (alike2 x y) (by
    have : PyData.depthAll [PyData.str x, .str y] = 0 := rfl
    omega) fun i v h' tk bs hv hR hk => ?_
  have e : PySem.W.maxD (.str x) [.str y] = .str (moreOf x y) := by
    unfold PySem.W.maxD moreOf
    simp only [List.foldl_cons, List.foldl_nil, PySem.W.dataLt_str]
    by_cases c : x.cps.toList < y.cps.toList <;> simp [c]
  rw [e] at hR
  cases hR with
  | str z t => exact ⟨.str _, H, I.kept (t' := tk) hk, ⟨_, rfl⟩, q⟩

/-! x in a tuple of data -/
def rInDT (K : PySem.W.Frag) : R2 := fun x y H Q => ∃ d ds, Dp K H x d ∧ Dp K H y (.tuple ds) ∧ SeqAt.shaped d = true ∧
  SeqAt.shaped (.tuple ds) = true ∧ Q (.bl (ds.any fun z => PyData.eqv z d)) H
theorem op_inDT {X : Cx} (hu : X.A.units + 65 < cLine) : OpR X (compareOp .In) (rInDT X.K) := by
  intro pins s σ H x y v u Q I rx ry h
  obtain ⟨d, ds, hd, he, sd, se, q⟩ := h
  obtain ⟨as, r1⟩ := Dp.reads I d x v hd rx
  obtain ⟨bs, r2⟩ := Dp.reads I (.tuple ds) y u he ry
  exact SeqAt.in_tuple_reads r2 r1 (SeqAt.canLay_of_shaped se) (SeqAt.canLay_of_shaped sd) (room_in_shaped sd hu) ⟨.bl _, H, I, rfl, q⟩

/-! o.m(k = e): one argument by its name -/
def g2 {α : Type} : List α → List α → List α
  | [a], [b] => [a, b]
  | _, _ => []
theorem g2_rel : ∀ {vs : List V} {us : List Value} {zs : List V} {ws : List Value}, Vals vs us → Vals zs ws → Vals (g2 vs zs) (g2 us ws)
  | _, _, _, _, .nil, _ => .nil
  | _, _, _, _, .cons a (.cons b c), _ => .nil
  | _, _, _, _, .cons a .nil, .nil => .nil
  | _, _, _, _, .cons a .nil, .cons b .nil => .cons a (.cons b .nil)
  | _, _, _, _, .cons a .nil, .cons b (.cons c d) => .nil
def tMethK (C : Addr) (m : Str) (sp : Sp) (E : XK) (ta : TE) (tk : TA) : TE := fun σ H Q => ta σ H fun x H1 =>
  ∃ a dx fs, x = .ref a ∧ H1 a = some (.ins C dx fs) ∧ fs.lookup m = none ∧ tk σ H1 fun zs H2 => sp (g2 [.ref a] zs) H2 Q E
theorem pe_methK {X : Cx} {CX : CXT} {k : Nat} {f C : Addr} {fd : FuncData} {ps ks : List Str} {sp : Sp} {E : XK} {m : Str} {pos apos : Pos} {o : Expr} {kws : List Keyword} {ta : TE} {tk : TA} {pl : Sem Bool}
    (he : PE X o ta) (c : Cls X.K C) (hm : Meth X.K C m f) (F : FnOk X.prog X.w X.K X.mg X.base CX k f fd ps sp) (hr : Room k X.A) (hb : KBinds X.K fd ps ks g2 g2) (hx : Passes CX X E) (hkw : PK X kws tk)
    (hall : (backToKw pos (keywordEach kws X.env)).all (·.1.isSome) = true := by rfl) (hks : (backToKw pos (keywordEach kws X.env)).filterMap (·.1) = ks := by rfl)
    (hpl : ((backTo pos (starEach [] X.env)).any (·.1) || (backToKw pos (keywordEach kws X.env)).any (·.1.isNone)) = false := by rfl)
    (ht : eval (.Call (.Attribute o m apos) [] kws pos) X.env = (do
      let ov ← eval o X.env
      standAt apos.atName
      let (f, first) ← holding [ov] (getMethod ov m pl)
      callWith pos f first (backTo pos (starEach [] X.env)) (backToKw pos (keywordEach kws X.env))) := by rfl) :
    PE X (.Call (.Attribute o m apos) [] kws pos) (tMethK C m sp E ta tk) := by
  refine ⟨fun pins s σ H Q I h => ?_⟩
  refine PySem.W.methodCall_KW (pl := pl) (thn (he.run pins s σ H _ I h) fun u s1 ⟨x, H1, I1, rx, a, dx, fs, ex, ea, l, q⟩ => ?_) ht
  subst ex
  obtain rfl : u = Value.ref a := rx
  refine getmeth_ok I1 ea c hm l ?_
  refine PySem.W.callWith_KW0 (first := [.ref a]) (h₀ := X.base) I.ok.mod.kin hm.kp hall (thn (hkw.run pos pins s1 σ H1 _ I1 q) fun ws s2 ⟨zs, H2, I2, rz, q2⟩ => ⟨I2.kIn, ?_⟩) hpl
  rw [hks]
  exact run_fnk (us := [.ref a]) (vs := [.ref a]) F hr hb hx I2 (.cons rfl .nil) rz q2

/-! enumerate(a tuple) -/
open AutoSeq1 (wpAny_loadPart') in
theorem new_enumT (l : Addr) (items : Array Value) (n : Nat) (dct : Option Addr) (sl : Array (Option Value)) :
    Meets (Builtin.«enumerate.__new__» ⟨[.type "enumerate", .ref l], []⟩) (fun _ R s =>
      s.heap.get? l = some { cls := .type "tuple", dict := dct, data := .seq items n, slots := sl } ∧
      R (.ok (.ret (.ref (s.heap.push { cls := .type "tuple_iterator", data := .fields #[.ref l, .int 0 0] }).objs.size)))
        { s with heap := (s.heap.push { cls := .type "tuple_iterator", data := .fields #[.ref l, .int 0 0] }).push { cls := .type "enumerate", data := .fields #[.none, .bool false, .ref s.heap.objs.size, rawInt 0, .none, .none] } }) :=
  .of_wp fun prog w A R s h => by
    obtain ⟨hp, g, d, tk, os⟩ := s
    obtain ⟨hl, h⟩ := h
    have hsub := sub_enumerate
    have hT : Heap.IsTuple (Shared.heap ⟨hp, g, d, tk, os⟩) l items := ⟨_, hl, rfl, n, rfl⟩
    wp_walk using wpAny_loadPart' hl
    refine wpAny_stack_any fun st => wpAny_pure ?_
    split
    · rename_i c _ _ _ _ _
      cases (c == Value.type "enumerate") <;> (wp_walk using wpAny_loadPart' hl, wpAny_pyIter_tuple hT; exact ⟨_, rfl, h⟩)
    · (wp_walk using wpAny_loadPart' hl, wpAny_pyIter_tuple hT); exact ⟨_, rfl, h⟩
section
variable {prog : Program} {w : World} {A : Around} {E : Value → Shared → Prop} {s : Shared}
theorem make_enumT {l : Addr} {items : Array Value} {Q : Value → Shared → Prop} (hL : s.heap.IsTuple l items)
    (h : ∀ h', IsEnum h' (s.heap.objs.size + 1) s.heap.objs.size 0 .none → h'.IsTupleIter s.heap.objs.size l 0 →
      (∀ b o, s.heap.get? b = some o → h'.get? b = some o) → Q (.ref (s.heap.objs.size + 1)) { s with heap := h' }) :
    wpAny (model prog w) A (call (.type "enumerate") [.ref l]) Q E s := by
  obtain ⟨⟨c, dct, dt, sl⟩, hl, hc, n, hd⟩ := hL
  obtain rfl : c = .type "tuple" := hc
  obtain rfl : dt = .seq items n := hd
  refine callType_new F.called_enumerate (by decide) (F.typeCall_enumerate_1 _) (F.newCall_enumerate_1 _) (fun obj => F.args_object_init_2 obj _) F.entry_enumerate_new (new_enumT l items n dct sl) ⟨hl, ?_⟩
  have hz : (s.heap.push { cls := .type "tuple_iterator", data := .fields #[.ref l, .int 0 0] }).objs.size = s.heap.objs.size + 1 := Heap.size_push ..
  rw [hz]
  have he : IsEnum ((s.heap.push { cls := .type "tuple_iterator", data := .fields #[.ref l, .int 0 0] }).push { cls := .type "enumerate", data := .fields #[.none, .bool false, .ref s.heap.objs.size, rawInt 0, .none, .none] })
      (s.heap.objs.size + 1) s.heap.objs.size 0 .none := hz ▸ Heap.get?_push_size (s.heap.push { cls := .type "tuple_iterator", data := .fields #[.ref l, .int 0 0] }) rfl
  exact ⟨⟨_, he, rfl⟩, h _ he ⟨_, Heap.get?_push_of_some _ (Heap.get?_push_size _ rfl), rfl, rfl⟩ fun b o x => Heap.get?_push_of_some _ (Heap.get?_push_of_some _ x)⟩
end
def IteT (K : PySem.W.Frag) (a : Addr) : It where
  go := fun i H => ∃ (xs : List V) (x : V), SqT K H a xs ∧ xs[i]? = some x
  yld := fun i H v H' => ∃ T x, v = .ref T ∧ H T = none ∧ H' = upd H T (.tup [.int (i : Nat), x]) ∧ ∀ xs, SqT K H a xs → xs[i]? = some x
  stop := fun i H => ∃ xs : List V, SqT K H a xs ∧ xs.length ≤ i
theorem apart_of {h : Heap} {a b : Addr} {o u : Obj} (ha : h.get? a = some o) (hb : h.get? b = some u) (hc : o.cls ≠ u.cls) : a ≠ b := fun e => by
  subst e
  rw [ha] at hb
  exact hc (congrArg Obj.cls (Option.some.inj hb))
theorem turn_enumT {P : Program} {w : World} {K : PySem.W.Frag} {elts : List Expr} {kk : Nat} {tpos : Pos} (a e it : Addr) :
    Turn P w K (.Tuple elts kk tpos) (IteT K a) [e, it] e (fun i h => (∃ old, IsEnum h e it ((i : Nat) : Int) old) ∧ h.IsTupleIter it a i ∧ e ≠ it) where
  mem := by simp
  obj := fun i h st b hb => by
    obtain ⟨⟨old, he⟩, ⟨o, ho, hc, hd⟩, _⟩ := st
    rcases (show b = e ∨ b = it by simpa using hb) with z | z
    · subst z; exact ⟨_, he, fun v q => nomatch q⟩
    · subst z; exact ⟨o, ho, fun v q => by rw [hd] at q; cases q⟩
  keep := fun i h h' st k => let ⟨⟨old, he⟩, hi, hne⟩ := st; ⟨⟨old, k e (by simp) _ he⟩, hi.at fun o q => k it (by simp) o q, hne⟩
  item := by
    intro X hP hw hK hc i pins s σ H E I hf st hg
    subst hP hw hK
    obtain ⟨⟨old, he⟩, hit, hne⟩ := st
    obtain ⟨xs, x, hq, hx⟩ := hg
    obtain ⟨its, rv, p, hz⟩ := I.tuple hq
    obtain ⟨u, hu, ru⟩ := rv.get hx
    have hT : s.heap.IsTuple a its.toArray := p
    obtain ⟨oi, hoi, hci, _⟩ := id hit
    obtain ⟨oa, hoa, hca, _⟩ := id hT
    have hel : e < s.heap.objs.size := Heap.lt_size he
    have hil : it < s.heap.objs.size := Heap.lt_size hoi
    have nai : a ≠ it := apart_of hoa hoi (by rw [hca, hci]; decide)
    have nea : e ≠ a := apart_of he hoa (by rw [hca]; show Value.type "enumerate" ≠ Value.type "tuple"; decide)
    have hi : i < its.toArray.size := by
      have := (List.getElem?_eq_some_iff.mp hu).1
      simpa using this
    refine wpAny_pyNext_enum_itemD (Draws.tuple (prog := X.prog) (w := X.w) (A := X.A.in1) (I.ok.hd hc) it a nai its.toArray) he ⟨hit, hT⟩ hi hne (by simp [hne, nea]) fun y h' tk hy ho hst hTp hsz hk => ?_
    obtain rfl : u = y := by
      have q : its.toArray[i]? = some u := by simpa using hu
      exact Option.some.inj (q.symm.trans hy)
    refine ⟨_, rfl, wpAny_letOwnedTupleGo_enum (s := { s with heap := h', toks := tk + 1 }) ho fun h'' he' sb => ?_⟩
    have hT2 : h''.get? s.heap.objs.size = some { cls := .type "tuple", data := .seq #[.int i tk, u] } := (sb.2 _ (Nat.ne_of_gt hel)).trans hTp
    have new : ObjOk X.prog X.w (upd H s.heap.objs.size (.tup [.int (i : Nat), x])) h'' s.heap.objs.size (.tup [.int (i : Nat), x]) :=
      ⟨by show 2 ≤ sizeLine; decide, [.int i tk, u], .cons ⟨_, rfl⟩ (.cons ru .nil), ⟨_, hT2, rfl, _, rfl⟩⟩
    have I1 : L2.Inv X pins σ (upd H s.heap.objs.size (.tup [.int (i : Nat), x])) { s with heap := h'', toks := tk + 1 } :=
      I.turnedNew (ch := [e, it]) (fun b ob hb q => by
        simp only [List.mem_cons, List.not_mem_nil, or_false, not_or] at hb
        exact (sb.2 b hb.1).trans (hk b ob hb.1 hb.2 q)) hf (Nat.le_refl _) new
    have e1 : ((i + 1 : Nat) : Int) = (i : Int) + 1 := by omega
    refine ⟨.ref s.heap.objs.size, _, I1, rfl, ⟨_, x, rfl, I.hok.fresh (Nat.le_refl _), rfl, fun ys hy => by rw [I.tuple_inj hy hq]; exact hx⟩,
      ⟨⟨u, by rw [e1]; exact he'⟩, hst.1.at fun o q => (sb.2 it (Ne.symm hne)).trans q, hne⟩, fun b hb => ?_⟩
    have hb' : b < s.heap.objs.size := by
      rcases (show b = e ∨ b = it by simpa using hb) with z | z <;> subst z <;> assumption
    rw [upd_ne (Nat.ne_of_lt hb')]
    exact (hf b hb).1
  done := by
    intro X hP hw hK hc i pins s σ H E I hf st hg
    subst hP hw hK
    obtain ⟨⟨old, he⟩, hit, hne⟩ := st
    obtain ⟨xs, hq, hx⟩ := hg
    obtain ⟨its, rv, p, hz⟩ := I.tuple hq
    obtain ⟨f0, f1, f2, f3, f4, f5⟩ := hf it (by simp)
    have hT : s.heap.IsTuple a its.toArray := p
    have hl : xs.length = its.length := rv.length
    have hT2 : ¬ (i < its.toArray.size) := by simp; omega
    show wpAny _ _ (pyNext (.ref e)) _ _ s
    have hTy : s.TypeIs (.ref e) "enumerate" := ⟨_, he, rfl⟩
    unfold pyNext
    refine wpAny_bind (wpAny_attempt (wpAny_callSpecial?_slot (name := Str.ofString "__next__") hTy F.slot_enumerate_next (wpAny_call_entry F.slot_enumerate_next hTy F.entry_enumerate_next ?_ (F.args_enumerate_next_1 _))))
    show wpAny _ _ (field (.ref e) 2 >>= _) _ _ _
    refine wpAny_bind (wpAny_field he rfl (x := .ref it) rfl (wpAny_bind (wpAny_nextOf_tuple_end (I.ok.hd hc) hit hT (Array.getElem?_eq_none (by omega)) fun h' x he' hx' => ?_)))
    obtain ⟨o, ho, hcc⟩ := hx'
    exact wpAny_bind (wpAny_isInstance (T := "StopIteration") (b := true) ⟨o, ho, hcc⟩ isSubtype_stop (wpAny_pure ⟨rfl, I.turned (t' := s.toks) (fun b o hb q => he' b o hb q) f0 f1 f3 f4 f5⟩))
  self := fun A i s Q E st h => let ⟨⟨_, he⟩, _⟩ := st; wpAny_pyIter_enum he h
def iEnumT (K : PySem.W.Frag) (ta : TA) : TI := fun σ H R => ta σ H fun vs H1 => ∃ a xs, vs = [.ref a] ∧ SqT K H1 a xs ∧ R (IteT K a) H1
theorem pi_enumT {X : Cx} {e : Expr} {ta : TA} {p pos tpos : Pos} {elts : List Expr} {kk : Nat} (hg : Gl X "enumerate") (hm : X.mg "enumerate" = none) (ha : PA X [e] ta) (hs : starEach [e] X.env = [(false, eval e X.env)] := by rfl) :
    PI X (.Tuple elts kk tpos) (.Call (.Name "enumerate" p) [e] [] pos) (iEnumT X.K ta) := by
  refine ⟨fun pins s σ H R I h => ?_⟩
  refine Call_ (ld_blt I hg hm boot_enumerate (PyProof.Rows.callWith_type1 (thn (ha.run pos pins s σ H _ I h) fun us s1 ⟨vs, H1, I1, r1, q1⟩ => ?_) hs rfl))
  obtain ⟨a, xs, rfl, hq, q⟩ := q1
  obtain ⟨u, rfl, ru⟩ := vals1 r1
  obtain rfl : u = Value.ref a := ru
  obtain ⟨its, rv, p', hz⟩ := I1.tuple hq
  refine make_enumT (show s1.heap.IsTuple a its.toArray from p') fun h' he hit hk => wpAny_pyIter_enum he ?_
  refine ⟨s1.heap.objs.size + 1, [s1.heap.objs.size + 1, s1.heap.objs.size], _, _, H1, rfl, I1.kept (t' := s1.toks) hk, turn_enumT a (s1.heap.objs.size + 1) s1.heap.objs.size, ⟨⟨.none, he⟩, hit, Nat.succ_ne_self _⟩, fun b hb => ?_, q⟩
  have hle : s1.heap.objs.size ≤ b := by
    rcases (show b = s1.heap.objs.size + 1 ∨ b = s1.heap.objs.size by simpa using hb) with z | z <;> rw [z]
    · exact Nat.le_add_right _ _
    · exact Nat.le_refl _
  exact I1.fpOk hle (I1.hok.fresh hle)
theorem walk_enumT {K : PySem.W.Frag} {a : Addr} {xs : List V} : Walk (IteT K a) xs.length (fun H => SqT K H a xs) (YPair (fun i => some (.int (i : Nat))) (fun i => xs[i]?)) := by
  refine ⟨fun i _ hi q => ⟨xs, xs[i], q, by simp [hi]⟩, fun _ q => ⟨xs, q, Nat.le_refl _⟩, ?_⟩
  rintro i H v H' _ q ⟨T, x, h1, h2, h3, h4⟩
  exact ⟨T, .int (i : Nat), x, h1, h2, h3, rfl, h4 xs q⟩
end Wl

namespace Wl
open PySem

/-! ### strictly rising lists -/
theorem rising_ext {α : Type} {lt : α → α → Prop} (ir : ∀ a, ¬ lt a a) (tr : ∀ a b c, lt a b → lt b c → lt a c) :
    ∀ {l m : List α}, l.Pairwise lt → m.Pairwise lt → (∀ x, x ∈ l ↔ x ∈ m) → l = m
  | [], [], _, _, _ => rfl
  | [], y :: m, _, _, h => absurd ((h y).mpr List.mem_cons_self) (by simp)
  | x :: l, [], _, _, h => absurd ((h x).mp List.mem_cons_self) (by simp)
  | x :: l, y :: m, hl, hm, h => by
    obtain ⟨hx, hl'⟩ := List.pairwise_cons.mp hl
    obtain ⟨hy, hm'⟩ := List.pairwise_cons.mp hm
    have e : x = y := by
      rcases List.mem_cons.mp ((h x).mp List.mem_cons_self) with e | h1
      · exact e
      · rcases List.mem_cons.mp ((h y).mpr List.mem_cons_self) with e | h2
        · exact e.symm
        · exact absurd (tr _ _ _ (hx y h2) (hy x h1)) (ir x)
    subst e
    have : l = m := rising_ext ir tr hl' hm' fun z => by
      constructor
      · intro hz
        rcases List.mem_cons.mp ((h z).mp (List.mem_cons_of_mem _ hz)) with e | q
        · exact absurd (hx z hz) (by rw [e]; exact ir x)
        · exact q
      · intro hz
        rcases List.mem_cons.mp ((h z).mpr (List.mem_cons_of_mem _ hz)) with e | q
        · exact absurd (hy z hz) (by rw [e]; exact ir x)
        · exact q
    rw [this]

/-! ### texts by their codes -/
theorem str_ext {a b : Str} (h : a.cps.toList = b.cps.toList) : a = b := by
  cases a; cases b
  exact congrArg Str.mk (Array.ext' h)
abbrev ltS (a b : Str) : Prop := a.cps.toList < b.cps.toList
theorem ltS_irr (a : Str) : ¬ ltS a a := List.lt_irrefl _
theorem ltS_tr (a b c : Str) (h : ltS a b) (k : ltS b c) : ltS a c := List.lt_trans h k
theorem ltS_tot {a b : Str} (h : ¬ ltS a b) (k : ¬ ltS b a) : a = b :=
  str_ext (List.le_antisymm (List.not_lt.mp k) (List.not_lt.mp h))
def leB (a b : Str) : Bool := !decide (ltS b a)
theorem leB_trans (a b c : Str) (h : leB a b = true) (k : leB b c = true) : leB a c = true := by
  simp only [leB, Bool.not_eq_true', decide_eq_false_iff_not] at h k ⊢
  exact fun q => by
    by_cases e : ltS a b
    · exact k (ltS_tr _ _ _ q e)
    · have := ltS_tot e h
      subst this
      exact k q
theorem leB_total (a b : Str) : (leB a b || leB b a) = true := by
  simp only [leB, Bool.or_eq_true, Bool.not_eq_true', decide_eq_false_iff_not]
  by_cases h : ltS b a
  · exact .inr fun q => ltS_irr _ (ltS_tr _ _ _ h q)
  · exact .inl h
def sortS (xs : List Str) : List Str := xs.mergeSort leB
theorem mem_sortS {xs : List Str} {z : Str} : z ∈ sortS xs ↔ z ∈ xs := List.mem_mergeSort
theorem sortS_len (xs : List Str) : (sortS xs).length = xs.length := List.length_mergeSort _
theorem sortS_rising {xs : List Str} (h : xs.Nodup) : (sortS xs).Pairwise ltS := by
  have h1 : (sortS xs).Pairwise (fun a b => leB a b = true) := List.pairwise_mergeSort leB_trans leB_total xs
  have h2 : (sortS xs).Pairwise (· ≠ ·) := (List.mergeSort_perm xs leB).nodup_iff.mpr h
  refine List.Pairwise.imp₂ ?_ h1 h2
  intro a b q n
  simp only [leB, Bool.not_eq_true', decide_eq_false_iff_not] at q
  exact Classical.byContradiction fun c => n (ltS_tot c q)
/-- what is strictly rising with the same members is the sorted list -/
theorem sortS_eq {xs l : List Str} (h : xs.Nodup) (hl : l.Pairwise ltS) (hm : ∀ z, z ∈ l ↔ z ∈ xs) : l = sortS xs :=
  rising_ext ltS_irr ltS_tr hl (sortS_rising h) fun z => (hm z).trans mem_sortS.symm

/-! ### pairs of texts -/
abbrev Two := Str × Str
def ltP (p q : Two) : Prop := ltS p.1 q.1 ∨ (p.1 = q.1 ∧ ltS p.2 q.2)
instance (p q : Two) : Decidable (ltP p q) := by unfold ltP; infer_instance
theorem ltP_irr (p : Two) : ¬ ltP p p := by
  rintro (h | ⟨_, h⟩) <;> exact ltS_irr _ h
theorem ltP_tr (p q r : Two) (h : ltP p q) (k : ltP q r) : ltP p r := by
  obtain ⟨p1, p2⟩ := p
  obtain ⟨q1, q2⟩ := q
  obtain ⟨r1, r2⟩ := r
  rcases h with h | ⟨e, h⟩ <;> rcases k with k | ⟨f, k⟩
  · exact .inl (ltS_tr _ _ _ h k)
  · simp only at f; subst f; exact .inl h
  · simp only at e; subst e; exact .inl k
  · simp only at e f; subst e f; exact .inr ⟨rfl, ltS_tr _ _ _ h k⟩
theorem ltP_tot {p q : Two} (h : ¬ ltP p q) (k : ¬ ltP q p) : p = q := by
  obtain ⟨p1, p2⟩ := p
  obtain ⟨q1, q2⟩ := q
  simp only [ltP, not_or, not_and] at h k
  have e : p1 = q1 := ltS_tot h.1 k.1
  subst e
  rw [ltS_tot (h.2 rfl) (k.2 rfl)]
def lePB (a b : Two) : Bool := !decide (ltP b a)
theorem lePB_trans (a b c : Two) (h : lePB a b = true) (k : lePB b c = true) : lePB a c = true := by
  simp only [lePB, Bool.not_eq_true', decide_eq_false_iff_not] at h k ⊢
  exact fun q => by
    by_cases e : ltP a b
    · exact k (ltP_tr _ _ _ q e)
    · have := ltP_tot e h
      subst this
      exact k q
theorem lePB_total (a b : Two) : (lePB a b || lePB b a) = true := by
  simp only [lePB, Bool.or_eq_true, Bool.not_eq_true', decide_eq_false_iff_not]
  by_cases h : ltP b a
  · exact .inr fun q => ltP_irr _ (ltP_tr _ _ _ h q)
  · exact .inl h
def sortP (xs : List Two) : List Two := xs.mergeSort lePB
theorem mem_sortP {xs : List Two} {z : Two} : z ∈ sortP xs ↔ z ∈ xs := List.mem_mergeSort
theorem sortP_len (xs : List Two) : (sortP xs).length = xs.length := List.length_mergeSort _
theorem sortP_rising {xs : List Two} (h : xs.Nodup) : (sortP xs).Pairwise ltP := by
  have h1 : (sortP xs).Pairwise (fun a b => lePB a b = true) := List.pairwise_mergeSort lePB_trans lePB_total xs
  have h2 : (sortP xs).Pairwise (· ≠ ·) := (List.mergeSort_perm xs lePB).nodup_iff.mpr h
  refine List.Pairwise.imp₂ ?_ h1 h2
  intro a b q n
  simp only [lePB, Bool.not_eq_true', decide_eq_false_iff_not] at q
  exact Classical.byContradiction fun c => n (ltP_tot c q)
theorem sortP_eq {xs l : List Two} (h : xs.Nodup) (hl : l.Pairwise ltP) (hm : ∀ z, z ∈ l ↔ z ∈ xs) : l = sortP xs :=
  rising_ext ltP_irr ltP_tr hl (sortP_rising h) fun z => (hm z).trans mem_sortP.symm

/-! ### the machine's order is ours -/
theorem le_data_str (a b : Str) : (!PySem.W.dataLt (.str b) (.str a)) = leB a b := by
  rw [PySem.W.dataLt_str]
  rfl
theorem le_data_two (a b : Two) : (!PySem.W.dataLt (.tuple [.str b.1, .str b.2]) (.tuple [.str a.1, .str a.2])) = lePB a b := by
  rw [PySem.W.dataLt_pair rfl rfl, PySem.W.dataLt_str, PySem.W.dataLt_str]
  unfold lePB
  congr 1
  have q : ∀ x y : Str, (PyData.eqv (.str x) (.str y) = true) = (x = y) := fun x y => by simp [PyData.eqv]
  simp only [q]
  by_cases h : b.1 = a.1
  · by_cases k : b.2 = a.2
    · have e : b = a := Prod.ext h k
      subst e
      simp [ltP_irr]
    · simp only [h, k, if_true, if_false, ltP]
      by_cases z : ltS b.2 a.2
      · simp [z]
      · simp [z, ltS_irr]
  · simp only [h, if_false, ltP]
    by_cases z : ltS b.1 a.1 <;> simp [z, h]
end Wl

namespace Wl
open PySem PySem.Spec PyProof.Rows L2

/-! ### defs that keep promises, by name -/
def Has (P : Program) (w : World) (K : PySem.W.Frag) (mg : Str → Option Value) (base : Heap) (x : Str) (k : Nat) (ps : List Str) (sp : Sp) : Prop :=
  ∃ f fd, FnOk P w K mg base CX0 k f fd ps sp ∧ mg x = some (.ref f) ∧ PySem.W.keepIn K (.ref f) = true ∧ Binds K fd ps []
def HasM (P : Program) (w : World) (K : PySem.W.Frag) (mg : Str → Option Value) (base : Heap) (C : Addr) (m : Str) (k : Nat) (ps : List Str) (sp : Sp) : Prop :=
  ∃ f fd, FnOk P w K mg base CX0 k f fd ps sp ∧ Meth K C m f ∧ Binds K fd ps []
section
variable {X : Cx} {k j : Nat} {C : Addr} {ps ks : List Str} {sp : Sp} {x m : Str} {p pos apos : Pos} {e o : Expr} {es : List Expr} {kws : List Keyword} {ta : TE} {t tk : TA}
theorem pe_h (h : Has X.prog X.w X.K X.mg X.base x k ps sp) (hr : Room j X.A) (ha : PA X (e :: es) t) (hkj : k ≤ j := by decide) (hg : Gl X x := by rfl) (hdb : (x == ("__debug__" : Str)) = false := by decide)
    (he : starEach (e :: es) X.env = (false, eval e X.env) :: starEach es X.env := by rfl) (hpl : (backTo pos (starEach es X.env)).any (·.1) = false := by rfl) :
    PE X (.Call (.Name x p) (e :: es) [] pos) (tCall sp [] E0 t) := by
  obtain ⟨f, fd, F, g, kp, b⟩ := h
  exact pe_call F (hr.mono hkj) hg g kp b .nil pass0 ha hdb he hpl
theorem pe_h0 (h : Has X.prog X.w X.K X.mg X.base x k ps sp) (hr : Room j X.A) (hkj : k ≤ j := by decide) (hg : Gl X x := by rfl) (hdb : (x == ("__debug__" : Str)) = false := by decide) :
    PE X (.Call (.Name x p) [] [] pos) (tCall sp [] E0 tNil) := by
  obtain ⟨f, fd, F, g, kp, b⟩ := h
  exact pe_call0 F (hr.mono hkj) hg g kp b .nil pass0 hdb
theorem pe_hm {pl : Sem Bool} (h : HasM X.prog X.w X.K X.mg X.base C m k ps sp) (c : Cls X.K C) (hr : Room j X.A) (ho : PE X o ta) (ha : PA X (e :: es) t) (hkj : k ≤ j := by decide)
    (hst : starEach (e :: es) X.env = (false, eval e X.env) :: starEach es X.env := by rfl) (hpl : (backTo pos (starEach es X.env)).any (·.1) = false := by rfl)
    (ht : eval (.Call (.Attribute o m apos) (e :: es) [] pos) X.env = (do
      let ov ← eval o X.env
      standAt apos.atName
      let (f, first) ← holding [ov] (getMethod ov m pl)
      callWith pos f first (backTo pos (starEach (e :: es) X.env)) (backToKw pos (keywordEach [] X.env))) := by rfl) :
    PE X (.Call (.Attribute o m apos) (e :: es) [] pos) (tMeth C m sp [] E0 ta t) := by
  obtain ⟨f, fd, F, g, b⟩ := h
  exact pe_meth ho c g F (hr.mono hkj) b .nil pass0 ha hst hpl ht
theorem pe_hm0 {pl : Sem Bool} (h : HasM X.prog X.w X.K X.mg X.base C m k ps sp) (c : Cls X.K C) (hr : Room j X.A) (ho : PE X o ta) (hkj : k ≤ j := by decide)
    (ht : eval (.Call (.Attribute o m apos) [] [] pos) X.env = (do
      let ov ← eval o X.env
      standAt apos.atName
      let (f, first) ← holding [ov] (getMethod ov m pl)
      callWith pos f first (backTo pos (starEach [] X.env)) (backToKw pos (keywordEach [] X.env))) := by rfl) :
    PE X (.Call (.Attribute o m apos) [] [] pos) (tMeth C m sp [] E0 ta tNil) := by
  obtain ⟨f, fd, F, g, b⟩ := h
  exact pe_meth0 ho c g F (hr.mono hkj) b .nil pass0 ht
end

/-! ### heaps -/
theorem same_new {H : Hp} {p : Addr} {o : HO} (h : H p = none) : Same H (upd H p o) := fun b x e => by
  rw [upd_ne (ne_of_none e h)]
  exact e
theorem same_mut {H H' : Hp} {p : Addr} {o : HO} (s : Same H H') (h : H p = none) : Same H (upd H' p o) := fun b x e => by
  rw [upd_ne (ne_of_none e h)]
  exact s b x e
theorem tup_same {K : PySem.W.Frag} {H H' : Hp} {a : Addr} {xs : List V} (e : Same H H') (h : SqT K H a xs) : SqT K H' a xs := by
  rcases h with (h | ⟨o, h⟩) | h
  · exact .inl (.inl (e _ _ h))
  · exact .inl (.inr ⟨o, e _ _ h⟩)
  · exact .inr h
/-- all but what stands at a is as it was -/
def SameX (a : Addr) (H H' : Hp) : Prop := ∀ b o, b ≠ a → H b = some o → H' b = some o
theorem SameX.refl (a : Addr) (H : Hp) : SameX a H H := fun _ _ _ h => h
theorem SameX.trans {a : Addr} {H H1 H2 : Hp} (s : SameX a H H1) (t : SameX a H1 H2) : SameX a H H2 := fun b o n h => t b o n (s b o n h)
theorem sx {a : Addr} {H H' : Hp} (s : Same H H') : SameX a H H' := fun b o _ h => s b o h
theorem sameX_upd {a : Addr} {H : Hp} {o : HO} : SameX a H (upd H a o) := fun b u n h => by rw [upd_ne n]; exact h
/-- an object that H does not know may change -/
theorem sameX_mut {a : Addr} {H H' : Hp} {p : Addr} {o : HO} (s : SameX a H H') (h : H p = none) : SameX a H (upd H' p o) := fun b u n e => by
  rw [upd_ne (ne_of_none e h)]
  exact s b u n e
theorem SameX.free {a l : Addr} {H H' : Hp} (e : SameX a H H') (n : l ≠ a) (h : H' l = none) : H l = none := by
  cases q : H l with
  | none => rfl
  | some o =>
    rw [e l o n q] at h
    cases h
theorem SameX.tup {K : PySem.W.Frag} {a p : Addr} {H H' : Hp} {xs ys : List V} (e : SameX a H H') (ha : H a = some (.lst ys)) (h : SqT K H p xs) : SqT K H' p xs := by
  rcases h with (h | ⟨o, h⟩) | h
  · exact .inl (.inl (e _ _ (ne_of h ha (by intro z; cases z)) h))
  · exact .inl (.inr ⟨o, e _ _ (ne_of h ha (by intro z; cases z)) h⟩)
  · exact .inr h

/-! ### tests whose answer is known -/
theorem ite_b {b : Bool} {A B : Prop} (h1 : b = true → A) (h2 : b = false → B) : if b = true then A else B := by
  cases b with
  | true => exact iteT (h1 rfl)
  | false => exact iteF (h2 rfl)
theorem not_b {b : Bool} {A B : Prop} (h1 : b = false → A) (h2 : b = true → B) : if (!b) = true then A else B := by
  cases b with
  | true => exact iteF (h2 rfl)
  | false => exact iteT (h1 rfl)

theorem yes_it {σ : L2.St} {H : Hp} {A B : Hp → Prop} (h : A H) : tYes σ H (fun b H' => if b = true then A H' else B H') := by
  show if true = true then A H else B H
  rw [if_pos rfl]
  exact h
theorem lz {n : Nat} (h : Nat.ble n 1000 = true := by rfl) : n ≤ sizeLine := Nat.le_trans (Nat.le_of_ble_eq_true h) (by decide)
theorem lzl {n : Nat} (h : n ≤ 1000) : n ≤ sizeLine := Nat.le_trans h (by decide)

/-! ### words -/
def wdB (z : Str) : Bool := decide (1 ≤ z.length) && decide (z.length ≤ 8) && z.cps.toList.all fun c => decide (97 ≤ c) && decide (c ≤ 122)
def IsWd (z : Str) : Prop := wdB z = true
instance (z : Str) : Decidable (IsWd z) := inferInstanceAs (Decidable (wdB z = true))
def oV : Option Str → V
  | none => .non
  | some z => .str z

/-! ### the built-ins that the text leaves as they are -/
structure Bi (mg : Str → Option Value) : Prop where
  len : mg "len" = none
  range : mg "range" = none
  isi : mg "isinstance" = none
  tuple : mg "tuple" = none
  list : mg "list" = none
  sorted : mg "sorted" = none
  all : mg "all" = none
  int : mg "int" = none
  max : mg "max" = none
  min : mg "min" = none
  enum : mg "enumerate" = none
  str : mg "str" = none
end Wl
namespace Wl
open PySem PySem.Spec PyProof.Rows L2
theorem atI_tab {ns : List Int} {r : Int} (h0 : 0 ≤ r) (h : r < ns.length) : ∃ n ∈ ns, atI (ns.map V.int) r = some (.int n) := by
  have hr : r.toNat < ns.length := by omega
  refine ⟨ns[r.toNat], List.getElem_mem hr, at_of (j := r.toNat) (by omega) ?_⟩
  rw [List.getElem?_map, List.getElem?_eq_getElem hr]
  rfl
theorem atI_strs {zs : List Str} {r : Int} (h0 : 0 ≤ r) (h : r < zs.length) : ∃ z ∈ zs, atI (zs.map V.str) r = some (.str z) := by
  have hr : r.toNat < zs.length := by omega
  refine ⟨zs[r.toNat], List.getElem_mem hr, at_of (j := r.toNat) (by omega) ?_⟩
  rw [List.getElem?_map, List.getElem?_eq_getElem hr]
  rfl
theorem letters_eq : ("abcdefghijklmnopqrstuvwxyz" : Str).cps.toList = List.range' 97 26 := by decide +kernel
theorem letter_at {r : Int} (h0 : 0 ≤ r) (h : r < 26) : atI ("abcdefghijklmnopqrstuvwxyz" : Str).cps.toList r = some (97 + r.toNat) := by
  rw [letters_eq]
  refine at_of' (j := r.toNat) (by omega) ?_
  rw [List.getElem?_range' (by omega)]
  congr 1
  omega
where
  at_of' {xs : List Nat} {z : Int} {j : Nat} {v : Nat} (e : z = (j : Int)) (h : xs[j]? = some v) : atI xs z = some v := by
    rw [e]
    exact atI_nat h
def sign (c : Nat) : Str := ⟨#[c]⟩
theorem joinL_flat : ∀ ps : List (List Nat), TL.joinL [] ps = ps.flatten
  | [] => rfl
  | [p] => by simp [TL.joinL]
  | p :: q :: r => by
    show p ++ ([] ++ TL.joinL [] (q :: r)) = _
    rw [joinL_flat (q :: r)]
    simp
theorem join_codes (ys : List Str) : (Txt.join ("" : Str) ys).cps.toList = (ys.map fun y => y.cps.toList).flatten := by
  have h := TL.tl_join ("" : Str) ys
  rw [show TL.tl ("" : Str) = [] by decide +kernel, joinL_flat] at h
  rw [TL.join_eq]
  exact h
theorem join_signs (cs : List Nat) : (Txt.join ("" : Str) (cs.map sign)).cps.toList = cs := by
  rw [join_codes, List.map_map]
  induction cs with
  | nil => rfl
  | cons c r ih => exact congrArg (c :: ·) ih
theorem isWd_of {z : Str} (h1 : 1 ≤ z.cps.toList.length) (h8 : z.cps.toList.length ≤ 8) (hc : ∀ c ∈ z.cps.toList, 97 ≤ c ∧ c ≤ 122) : IsWd z := by
  unfold IsWd wdB Str.length
  rw [Array.length_toList] at h1 h8
  simp only [Bool.and_eq_true, decide_eq_true_eq, List.all_eq_true]
  exact ⟨⟨h1, h8⟩, hc⟩
theorem IsWd.len {z : Str} (h : IsWd z) : 1 ≤ z.length ∧ z.length ≤ 8 := by
  unfold IsWd wdB at h
  simp only [Bool.and_eq_true, decide_eq_true_eq] at h
  exact h.1
end Wl

namespace Wl
open PySem PySem.Spec PyProof.Rows L2

inductive Each {α β : Type} (R : α → β → Prop) : List α → List β → Prop
  | nil : Each R [] []
  | cons {a : α} {b : β} {as : List α} {bs : List β} : R a b → Each R as bs → Each R (a :: as) (b :: bs)
section
variable {α β : Type} {R S : α → β → Prop}
theorem Each.length : ∀ {as : List α} {bs : List β}, Each R as bs → as.length = bs.length
  | _, _, .nil => rfl
  | _, _, .cons _ t => congrArg (· + 1) t.length
theorem Each.mono (h : ∀ a b, R a b → S a b) : ∀ {as : List α} {bs : List β}, Each R as bs → Each S as bs
  | _, _, .nil => .nil
  | _, _, .cons r t => .cons (h _ _ r) (t.mono h)
theorem Each.append : ∀ {as : List α} {bs : List β} {cs : List α} {ds : List β}, Each R as bs → Each R cs ds → Each R (as ++ cs) (bs ++ ds)
  | _, _, _, _, .nil, s => s
  | _, _, _, _, .cons r t, s => .cons r (t.append s)
theorem Each.get : ∀ {as : List α} {bs : List β} {i : Nat} {a : α}, Each R as bs → as[i]? = some a → ∃ b, bs[i]? = some b ∧ R a b
  | _, _, _, _, .nil, e => by simp at e
  | _, _, 0, _, .cons r _, e => by simp at e; subst e; exact ⟨_, rfl, r⟩
  | _, _, i + 1, x, .cons _ t, e => by
    obtain ⟨u, h1, h2⟩ := t.get (i := i) (a := x) (by simpa using e)
    exact ⟨u, by simpa using h1, h2⟩
theorem Each.get2 : ∀ {as : List α} {bs : List β} {i : Nat} {b : β}, Each R as bs → bs[i]? = some b → ∃ a, as[i]? = some a ∧ R a b
  | _, _, _, _, .nil, e => by simp at e
  | _, _, 0, _, .cons r _, e => by simp at e; subst e; exact ⟨_, rfl, r⟩
  | _, _, i + 1, x, .cons _ t, e => by
    obtain ⟨u, h1, h2⟩ := t.get2 (i := i) (b := x) (by simpa using e)
    exact ⟨u, by simpa using h1, h2⟩
theorem Each.mem2 : ∀ {as : List α} {bs : List β} {b : β}, Each R as bs → b ∈ bs → ∃ a ∈ as, R a b
  | _, _, _, .nil, h => by simp at h
  | _, _, _, .cons r t, h => by
    rcases List.mem_cons.mp h with rfl | h
    · exact ⟨_, List.mem_cons_self, r⟩
    · obtain ⟨a, ha, hr⟩ := t.mem2 h
      exact ⟨a, List.mem_cons_of_mem _ ha, hr⟩
theorem each_fn {f : α → β} : ∀ {as : List α} {bs : List β}, Each (fun a b => b = f a) as bs → bs = as.map f
  | _, _, .nil => rfl
  | _, _, .cons r t => by rw [List.map_cons, ← each_fn t, r]
theorem each_map_l {γ : Type} {g : γ → α} : ∀ {cs : List γ} {bs : List β}, Each R (cs.map g) bs → Each (fun c b => R (g c) b) cs bs
  | [], [], _ => .nil
  | [], _ :: _, h => nomatch h
  | _ :: _, [], h => nomatch h
  | _ :: _, _ :: _, .cons r t => .cons r (each_map_l t)
theorem each_map_r {γ : Type} {g : γ → α} : ∀ {cs : List γ} {bs : List β}, Each (fun c b => R (g c) b) cs bs → Each R (cs.map g) bs
  | _, _, .nil => .nil
  | _, _, .cons r t => .cons r (each_map_r t)
end

theorem filter_take_snoc {α : Type} {p : α → Bool} {ys : List α} {i : Nat} {x : α} (h : ys[i]? = some x) : (ys.take (i + 1)).filter p = (ys.take i).filter p ++ (if p x then [x] else []) := by
  rw [List.take_add_one, h, List.filter_append]
  congr 1
  by_cases c : p x = true
  · simp [c]
  · simp [c]

section
variable {J : It} {ys : List V} {G : Hp → Prop} {slot : Nat} {tt : TT} {te : TE} {vs : List Nat} {σ : L2.St} {H1 : Hp} {D : Addr} {Qd : Hp → Prop}
/-- a comprehension [e for x in ys if t]: each e a value that R tells of, the heap only growing -/
theorem lc_rel (w : L2.Walk J ys.length G (YAt ys)) (hD : H1 D = none) (keep : V → Bool) (R : V → V → Hp → Prop)
    (hG : ∀ H, Same H1 H → G H)
    (hw : ∀ x, wipe ((wipe σ vs).set slot (some x)) vs = wipe σ vs)
    (ht : ∀ (x : V) (H : Hp), x ∈ ys → Same H1 H → ∀ Q : Bool → Hp → Prop, Q (keep x) H → tt ((wipe σ vs).set slot (some x)) H Q)
    (he : ∀ (x : V) (H : Hp), x ∈ ys → keep x = true → Same H1 H → ∀ Q : VK, (∀ y H', Same H H' → R x y H' → Q y H') → te ((wipe σ vs).set slot (some x)) H Q)
    (hR : ∀ x y H H' acc, H D = some (.lst acc) → SameX D H H' → R x y H → R x y H')
    (hn : ys.length < sizeLine)
    (hd : ∀ zs H, Same H1 H → H D = some (.lst zs) → Each (fun x z => R x z H) (ys.filter keep) zs → Qd H) :
    ∃ W : Nat → Nat → Hp → Prop, (∃ m, W 0 m (upd H1 D (.lst []))) ∧ ∀ i m H, W i m H →
      (J.stop i H ∧ Qd H) ∨ (J.go i H ∧ ∃ Nx : Hp → Prop, (∀ H', Nx H' → ∃ m', m' < m ∧ W (i + 1) m' H') ∧ ∀ x H', J.yld i H x H' → gName slot x (wipe σ vs) H' fun σ2 H2 => wipe σ2 vs = wipe σ vs ∧ tt σ2 H2 fun b H3 =>
        if b = true then te σ2 H3 fun y H4 => ∃ acc, H4 D = some (.lst acc) ∧ acc.length < sizeLine ∧ Nx (upd H4 D (.lst (acc ++ [y]))) else Nx H3) := by
  refine lc_it w (fun i H => ∃ zs, Same H1 H ∧ H D = some (.lst zs) ∧ Each (fun x z => R x z H) ((ys.take i).filter keep) zs) ⟨[], same_new hD, upd_same, by simpa using Each.nil⟩ (fun i H _ h => ?_) ?_ ?_
  · obtain ⟨zs, s, _⟩ := h
    exact hG H s
  · rintro i x H H' hi ⟨zs, s, hz, ez⟩ ⟨rfl, hx⟩
    have hm : x ∈ ys := List.mem_of_getElem? hx
    refine ⟨hw x, ht x _ hm s _ ?_⟩
    have hf := filter_take_snoc (p := keep) hx
    refine ite_b (fun e => ?_) (fun e => ?_)
    · refine he x _ hm e s _ fun y H4 s4 r4 => ⟨zs, s4 _ _ hz, ?_, zs ++ [y], same_mut (s.trans s4) hD, upd_same, ?_⟩
      · have h1 := ez.length
        have h2 : ((ys.take i).filter keep).length ≤ (ys.take i).length := List.length_filter_le _ _
        have h3 : (ys.take i).length ≤ ys.length := List.length_take_le' _ _
        omega
      · rw [hf, if_pos e]
        have hD4 : H4 D = some (.lst zs) := s4 _ _ hz
        refine Each.append (ez.mono fun a b r => ?_) (.cons ?_ .nil)
        · exact hR _ _ _ _ _ hz (fun b o n h => by rw [upd_ne n]; exact s4 _ _ h) r
        · exact hR _ _ _ _ _ hD4 sameX_upd r4
    · refine ⟨zs, s, hz, ?_⟩
      rw [hf, if_neg (by rw [e]; decide), List.append_nil]
      exact ez
  · rintro H ⟨zs, s, hz, ez⟩
    rw [List.take_length] at ez
    exact hd zs H s hz ez
/-- the same, each e a plain value, the heap as it was -/
theorem lc_map (w : L2.Walk J ys.length G (YAt ys)) (hD : H1 D = none) (keep : V → Bool) (f : V → V)
    (hG : ∀ H, Same H1 H → G H)
    (hw : ∀ x, wipe ((wipe σ vs).set slot (some x)) vs = wipe σ vs)
    (ht : ∀ (x : V) (H : Hp), x ∈ ys → Same H1 H → ∀ Q : Bool → Hp → Prop, Q (keep x) H → tt ((wipe σ vs).set slot (some x)) H Q)
    (he : ∀ (x : V) (H : Hp), x ∈ ys → keep x = true → Same H1 H → ∀ Q : VK, Q (f x) H → te ((wipe σ vs).set slot (some x)) H Q)
    (hn : ys.length < sizeLine)
    (hd : ∀ H, Same H1 H → H D = some (.lst ((ys.filter keep).map f)) → Qd H) :
    ∃ W : Nat → Nat → Hp → Prop, (∃ m, W 0 m (upd H1 D (.lst []))) ∧ ∀ i m H, W i m H →
      (J.stop i H ∧ Qd H) ∨ (J.go i H ∧ ∃ Nx : Hp → Prop, (∀ H', Nx H' → ∃ m', m' < m ∧ W (i + 1) m' H') ∧ ∀ x H', J.yld i H x H' → gName slot x (wipe σ vs) H' fun σ2 H2 => wipe σ2 vs = wipe σ vs ∧ tt σ2 H2 fun b H3 =>
        if b = true then te σ2 H3 fun y H4 => ∃ acc, H4 D = some (.lst acc) ∧ acc.length < sizeLine ∧ Nx (upd H4 D (.lst (acc ++ [y]))) else Nx H3) :=
  lc_rel w hD keep (fun x y _ => y = f x) hG hw ht (fun x H hx hk s Q q => he x H hx hk s Q (q _ H (Same.refl H) rfl)) (fun _ _ _ _ _ _ _ r => r) hn fun zs H s hz ez => hd H s (by rw [hz, each_fn ez])
end
/-- a text's signs as a list -/
def signsOf (z : Str) : List V := z.cps.toList.map fun c => .str (sign c)
theorem walk_signs {z : Str} : L2.Walk (Its z) (signsOf z).length (fun _ => True) (YAt (signsOf z)) := by
  have e : (signsOf z).length = z.cps.size := by simp [signsOf]
  rw [e]
  refine ⟨fun _ _ hi _ => hi, fun _ _ => Nat.le_refl _, ?_⟩
  rintro i H x H' _ _ ⟨rfl, c, hc, rfl⟩
  refine ⟨rfl, ?_⟩
  have : z.cps.toList[i]? = some c := by simpa using hc
  simp only [signsOf, List.getElem?_map, this]
  rfl
theorem yes_pure {σ : L2.St} {H : Hp} {Q : Bool → Hp → Prop} (h : Q true H) : tYes σ H Q := h
theorem inV_strs (z : Str) (ws : List Str) : inV (.str z) (ws.map V.str) = decide (z ∈ ws) := by
  unfold inV
  induction ws with
  | nil => rfl
  | cons x r ih =>
    rw [List.map_cons, List.any_cons, ih]
    by_cases h : x = z
    · subst h
      simp [eqV]
    · have h2 : ¬ z = x := fun e => h e.symm
      simp [eqV, h, h2]
theorem flat_strs (ws : List Str) : (ws.map V.str).all flatV = true := by
  rw [List.all_eq_true]
  intro v hv
  obtain ⟨x, _, rfl⟩ := List.mem_map.mp hv
  rfl
theorem dp_strs {K : PySem.W.Frag} {H : Hp} : ∀ ws : List Str, DpAll K H (ws.map V.str) (ws.map PyData.str)
  | [] => .nil
  | z :: r => .cons (.str z) (dp_strs r)
theorem wd_ok {z : Str} (h : IsWd z) : PyData.strOk z = true := by
  unfold PyData.strOk
  rw [← Array.all_toList, List.all_eq_true]
  intro c hc
  unfold IsWd wdB at h
  simp only [Bool.and_eq_true, decide_eq_true_eq, List.all_eq_true] at h
  have := h.2 c hc
  exact decide_eq_true (by omega)
theorem lay_strs : ∀ {ws : List Str}, (∀ z ∈ ws, IsWd z) → PyData.canLayAll0 (ws.map PyData.str) = true
  | [], _ => by simp [PyData.canLayAll0]
  | z :: r, h => by
    have h1 := wd_ok (h z List.mem_cons_self)
    have h2 := lay_strs (ws := r) fun y hy => h y (List.mem_cons_of_mem _ hy)
    simp [PyData.canLayAll0, PyData.canLay0, h1, h2]
theorem depth_strs : ∀ ws : List Str, PyData.depthAll (ws.map PyData.str) = 0
  | [] => by simp [PyData.depthAll]
  | z :: r => by simp [PyData.depthAll, PyData.depth, depth_strs r]
theorem shaped_list {ds : List PyData} (h : PyData.canLayAll0 ds = true) (d : PyData.depthAll ds ≤ 60) : SeqAt.shaped (.list ds) = true := by
  unfold SeqAt.shaped
  rw [Bool.and_eq_true]
  refine ⟨by simpa [PyData.canLay0] using h, decide_eq_true ?_⟩
  simp only [PyData.depth]
  omega
theorem shaped_tuple {ds : List PyData} (h : PyData.canLayAll0 ds = true) (d : PyData.depthAll ds ≤ 60) : SeqAt.shaped (.tuple ds) = true := by
  unfold SeqAt.shaped
  rw [Bool.and_eq_true]
  refine ⟨by simpa [PyData.canLay0] using h, decide_eq_true ?_⟩
  simp only [PyData.depth]
  omega
theorem cut_hi (z : Str) (k : Nat) : (cutS z none (some (k : Int))).cps.toList = z.cps.toList.take k := by
  show ((z.cps.toList.drop (HT.sIx z.length 0 none)).take (HT.sIx z.length z.length (some (k : Int)) - HT.sIx z.length 0 none)) = _
  rw [HT.sIx_none, HT.sIx_nat, Nat.sub_zero, List.drop_zero]
  have : z.length = z.cps.toList.length := by simp [Str.length]
  rw [this]
  by_cases h : k ≤ z.cps.toList.length
  · rw [Nat.min_eq_left h]
  · rw [Nat.min_eq_right (by omega), List.take_length, List.take_of_length_le (by omega)]
end Wl

namespace Wl
open PySem PySem.Spec PyProof.Rows L2
inductive Wh where
  | first | last | any
  deriving DecidableEq
def whS : Wh → Str
  | .first => "first"
  | .last => "last"
  | .any => "any"
abbrev Chg := Nat × Nat × Wh
def isLet (c : Nat) : Prop := 97 ≤ c ∧ c ≤ 122
instance (c : Nat) : Decidable (isLet c) := by unfold isLet; infer_instance
def OkC (ch : Chg) : Prop := isLet ch.1 ∧ isLet ch.2.1 ∧ ch.1 ≠ ch.2.1
def acts (wh : Wh) (i n : Nat) : Bool := match wh with
  | .first => decide (i = 0)
  | .last => decide (i + 1 = n)
  | .any => true
abbrev Edges := List (Nat × Nat)
def es (chs : List Chg) (i n : Nat) : Edges := (chs.filter fun ch => acts ch.2.2 i n).map fun ch => (ch.1, ch.2.1)
def nbE (c : Nat) (e : Nat × Nat) : List Nat := (if e.1 = c then [e.2] else []) ++ (if e.2 = c then [e.1] else [])
def nbrs (E : Edges) (c : Nat) : List Nat := E.flatMap (nbE c)
theorem mem_nbrs {E : Edges} {c d : Nat} : d ∈ nbrs E c ↔ (c, d) ∈ E ∨ (d, c) ∈ E := by
  unfold nbrs nbE
  rw [List.mem_flatMap]
  constructor
  · rintro ⟨⟨x, y⟩, he, h⟩
    rcases List.mem_append.mp h with k | k
    · by_cases q : x = c
      · rw [if_pos q, List.mem_singleton] at k
        rw [k, ← q]
        exact .inl he
      · rw [if_neg q] at k
        cases k
    · by_cases q : y = c
      · rw [if_pos q, List.mem_singleton] at k
        rw [k, ← q]
        exact .inr he
      · rw [if_neg q] at k
        cases k
  · rintro (h | h)
    · exact ⟨(c, d), h, List.mem_append_left _ (by simp)⟩
    · exact ⟨(d, c), h, List.mem_append_right _ (by simp)⟩
theorem nbrs_symm {E : Edges} {c d : Nat} (h : d ∈ nbrs E c) : c ∈ nbrs E d := mem_nbrs.mpr ((mem_nbrs.mp h).symm)
theorem nbrs_snoc (E : Edges) (x y c : Nat) : nbrs (E ++ [(x, y)]) c = nbrs E c ++ ((if x = c then [y] else []) ++ (if y = c then [x] else [])) := by
  unfold nbrs
  rw [List.flatMap_append]
  simp [nbE]
inductive Conn (E : Edges) : Nat → Nat → Prop
  | refl (a : Nat) : Conn E a a
  | step {a b c : Nat} : Conn E a b → c ∈ nbrs E b → Conn E a c
theorem Conn.trans {E : Edges} {a b c : Nat} (h : Conn E a b) (k : Conn E b c) : Conn E a c := by
  induction k with
  | refl => exact h
  | step _ m ih => exact .step ih m
theorem Conn.symm {E : Edges} {a b : Nat} (h : Conn E a b) : Conn E b a := by
  induction h with
  | refl => exact .refl _
  | step _ m ih => exact (Conn.step (.refl _) (nbrs_symm m)).trans ih
def OkE (E : Edges) : Prop := ∀ e ∈ E, isLet e.1 ∧ isLet e.2
theorem conn_let {E : Edges} (ok : OkE E) {a b : Nat} (h : Conn E a b) (ha : isLet a) : isLet b := by
  induction h with
  | refl => exact ha
  | step _ m _ =>
    rcases mem_nbrs.mp m with m | m
    · exact (ok _ m).2
    · exact (ok _ m).1
theorem es_ok {chs : List Chg} (h : ∀ ch ∈ chs, OkC ch) (i n : Nat) : OkE (es chs i n) := fun e he => by
  obtain ⟨ch, hc, rfl⟩ := List.mem_map.mp he
  have := h ch (List.mem_filter.mp hc).1
  exact ⟨this.1, this.2.1⟩
theorem least_of (p : Nat → Prop) : ∀ n, p n → ∃ m, p m ∧ ∀ d, p d → m ≤ d := by
  intro n
  induction n using Nat.strongRecOn with
  | _ n ih =>
    intro hn
    by_cases h : ∃ k, k < n ∧ p k
    · obtain ⟨k, hk, pk⟩ := h
      exact ih k hk pk
    · exact ⟨n, hn, fun d hd => Nat.le_of_not_lt fun q => h ⟨d, q, hd⟩⟩
noncomputable def lo (E : Edges) (c : Nat) : Nat := Classical.choose (least_of (Conn E c) c (.refl c))
theorem lo_conn (E : Edges) (c : Nat) : Conn E c (lo E c) := (Classical.choose_spec (least_of (Conn E c) c (.refl c))).1
theorem lo_le {E : Edges} {c d : Nat} (h : Conn E c d) : lo E c ≤ d := (Classical.choose_spec (least_of (Conn E c) c (.refl c))).2 d h
theorem lo_self (E : Edges) (c : Nat) : lo E c ≤ c := lo_le (.refl c)
theorem lo_eq {E : Edges} {c d : Nat} : lo E c = lo E d ↔ Conn E c d := by
  constructor
  · intro e
    have h1 := lo_conn E c
    have h2 := lo_conn E d
    rw [← e] at h2
    exact h1.trans h2.symm
  · intro h
    exact Nat.le_antisymm (lo_le (h.trans (lo_conn E d))) (lo_le (h.symm.trans (lo_conn E c)))
theorem lo_of {E : Edges} {c m : Nat} (h : Conn E c m) (k : ∀ d, Conn E c d → m ≤ d) : lo E c = m := Nat.le_antisymm (lo_le h) (k _ (lo_conn E c))
/-! ### words -/
abbrev codes (z : Str) : List Nat := z.cps.toList
def ofC (l : List Nat) : Str := ⟨l.toArray⟩
theorem codes_ofC (l : List Nat) : codes (ofC l) = l := rfl
noncomputable def mean (chs : List Chg) (z : Str) : Str := ofC ((codes z).mapIdx fun i c => lo (es chs i (codes z).length) c)
theorem mean_len (chs : List Chg) (z : Str) : (codes (mean chs z)).length = (codes z).length := by
  unfold mean
  rw [codes_ofC, List.length_mapIdx]
theorem mean_at (chs : List Chg) (z : Str) {i c : Nat} (h : (codes z)[i]? = some c) : (codes (mean chs z))[i]? = some (lo (es chs i (codes z).length) c) := by
  unfold mean
  rw [codes_ofC, List.getElem?_mapIdx, h]
  rfl
/-- they are one: as long, and at each place the letters hang together -/
def OneP (chs : List Chg) (z y : Str) : Prop := (codes z).length = (codes y).length ∧ ∀ i a b, (codes z)[i]? = some a → (codes y)[i]? = some b → Conn (es chs i (codes z).length) b a
theorem one_iff {chs : List Chg} {z y : Str} : OneP chs z y ↔ (codes z).length = (codes y).length ∧ mean chs z = mean chs y := by
  constructor
  · rintro ⟨hl, h⟩
    refine ⟨hl, str_ext ?_⟩
    refine List.ext_getElem? fun i => ?_
    by_cases hi : i < (codes z).length
    · have h1 : (codes z)[i]? = some (codes z)[i] := List.getElem?_eq_getElem hi
      have h2 : (codes y)[i]? = some ((codes y)[i]'(by omega)) := List.getElem?_eq_getElem (by omega)
      have e1 := mean_at chs z h1
      have e2 := mean_at chs y h2
      rw [e1, e2, hl]
      rw [hl] at h
      exact congrArg some (lo_eq.mpr (h i _ _ h1 h2).symm)
    · have q1 : (codes (mean chs z))[i]? = none := List.getElem?_eq_none (by rw [mean_len]; omega)
      have q2 : (codes (mean chs y))[i]? = none := List.getElem?_eq_none (by rw [mean_len]; omega)
      exact q1.trans q2.symm
  · rintro ⟨hl, e⟩
    refine ⟨hl, fun i a b ha hb => ?_⟩
    have e1 := mean_at chs z ha
    have e2 := mean_at chs y hb
    rw [e, e2, ← hl] at e1
    exact lo_eq.mp (Option.some.inj e1)
theorem mean_mean {chs : List Chg} (z : Str) : mean chs (mean chs z) = mean chs z := by
  refine str_ext (List.ext_getElem? fun i => ?_)
  have l1 := mean_len chs z
  have l2 := mean_len chs (mean chs z)
  by_cases hi : i < (codes z).length
  · have h1 : (codes z)[i]? = some (codes z)[i] := List.getElem?_eq_getElem hi
    have e1 := mean_at chs z h1
    have e2 := mean_at chs (mean chs z) e1
    rw [e2, e1, l1]
    exact congrArg some (lo_eq.mpr (lo_conn _ _).symm)
  · have q1 : (codes (mean chs (mean chs z)))[i]? = none := List.getElem?_eq_none (by rw [mean_len, mean_len]; omega)
    have q2 : (codes (mean chs z))[i]? = none := List.getElem?_eq_none (by rw [mean_len]; omega)
    exact q1.trans q2.symm
theorem one_mean (chs : List Chg) (z : Str) : OneP chs (mean chs z) z := one_iff.mpr ⟨mean_len chs z, mean_mean z⟩
theorem one_symm {chs : List Chg} {z y : Str} : OneP chs z y ↔ OneP chs y z := by
  rw [one_iff, one_iff]
  constructor <;> rintro ⟨a, b⟩ <;> exact ⟨a.symm, b.symm⟩
theorem lt_no : ∀ {l m : List Nat}, l.length = m.length → (∀ (i a b : Nat), l[i]? = some a → m[i]? = some b → a ≤ b) → ¬ m < l
  | [], [], _, _ => List.lt_irrefl _
  | a :: l, b :: m, hl, h => by
    have h0 : a ≤ b := h 0 a b rfl rfl
    have ih := lt_no (l := l) (m := m) (by simpa using hl) fun i x y hx hy => h (i + 1) x y (by simpa using hx) (by simpa using hy)
    intro q
    rcases List.cons_lt_cons_iff.mp q with q | ⟨e, q⟩
    · omega
    · exact ih q
  | [], b :: m, hl, _ => by simp at hl
  | a :: l, [], hl, _ => by simp at hl
theorem mean_le (chs : List Chg) (z : Str) : ¬ ltS z (mean chs z) := by
  refine lt_no (mean_len chs z) fun i a b ha hb => ?_
  rw [mean_at chs z hb] at ha
  cases ha
  exact lo_self _ _
theorem es_nil (i n : Nat) : es [] i n = [] := rfl
theorem conn_nil {a b : Nat} (h : Conn [] a b) : a = b := by
  induction h with
  | refl => rfl
  | step _ m _ => cases m
theorem one_plain {z y : Str} : OneP [] z y ↔ z = y := by
  constructor
  · rintro ⟨hl, h⟩
    refine str_ext (List.ext_getElem? fun i => ?_)
    by_cases hi : i < (codes z).length
    · have h1 : (codes z)[i]? = some (codes z)[i] := List.getElem?_eq_getElem hi
      have h2 : (codes y)[i]? = some ((codes y)[i]'(by omega)) := List.getElem?_eq_getElem (by omega)
      exact h1.trans ((congrArg some (conn_nil (h i _ _ h1 h2)).symm).trans h2.symm)
    · have q1 : (codes z)[i]? = none := List.getElem?_eq_none (by omega)
      have q2 : (codes y)[i]? = none := List.getElem?_eq_none (by omega)
      exact q1.trans q2.symm
  · rintro rfl
    refine ⟨rfl, fun i a b h1 h2 => ?_⟩
    rw [h1] at h2
    cases h2
    exact .refl _
theorem mean_plain (z : Str) : mean [] z = z := by
  refine str_ext (List.ext_getElem? fun i => ?_)
  have l1 := mean_len [] z
  by_cases hi : i < (codes z).length
  · have h1 : (codes z)[i]? = some (codes z)[i] := List.getElem?_eq_getElem hi
    exact (mean_at [] z h1).trans ((congrArg some (conn_nil (lo_conn _ _)).symm).trans h1.symm)
  · have q1 : (codes (mean [] z))[i]? = none := List.getElem?_eq_none (by rw [mean_len]; omega)
    have q2 : (codes z)[i]? = none := List.getElem?_eq_none (by omega)
    exact q1.trans q2.symm
theorem wd_codes {z : Str} : IsWd z ↔ (1 ≤ (codes z).length ∧ (codes z).length ≤ 8) ∧ ∀ c ∈ codes z, isLet c := by
  unfold IsWd wdB isLet Str.length codes
  rw [Array.length_toList]
  simp only [Bool.and_eq_true, decide_eq_true_eq, List.all_eq_true]
theorem mean_wd {chs : List Chg} (h : ∀ ch ∈ chs, OkC ch) {z : Str} (hz : IsWd z) : IsWd (mean chs z) := by
  obtain ⟨h1, h2⟩ := wd_codes.mp hz
  refine wd_codes.mpr ⟨by rw [mean_len]; exact h1, fun c hc => ?_⟩
  obtain ⟨i, hi, rfl⟩ := List.mem_iff_getElem.mp hc
  have hi2 : i < (codes z).length := by rw [mean_len] at hi; exact hi
  have e := mean_at chs z (List.getElem?_eq_getElem hi2)
  rw [List.getElem?_eq_getElem hi] at e
  rw [Option.some.inj e]
  exact conn_let (es_ok h _ _) (lo_conn _ _) (h2 _ (List.getElem_mem hi2))
/-! ### the walk over letters, by breadth -/
structure Bfs (E : Edges) (goal : Nat) (tw : List (Nat × Option Nat)) (at' : Nat) : Prop where
  nd : (tw.map (·.1)).Nodup
  lets : ∀ x ∈ tw.map (·.1), isLet x
  conn : ∀ x ∈ tw.map (·.1), Conn E goal x
  head : tw[0]? = some (goal, none)
  par : ∀ (i c d : Nat), tw[i]? = some (c, some d) → ∃ j o, j < i ∧ tw[j]? = some (d, o)
  non : ∀ (i c : Nat), tw[i]? = some (c, none) → i = 0
  closed : ∀ (j x : Nat) (o : Option Nat), j < at' → tw[j]? = some (x, o) → ∀ y ∈ nbrs E x, y ∈ tw.map (·.1)
theorem Bfs.start {E : Edges} {goal : Nat} (h : isLet goal) : Bfs E goal [(goal, none)] 0 := by
  refine ⟨by simp, ?_, ?_, rfl, ?_, ?_, fun j x o hj => by omega⟩
  · intro x hx
    simp at hx
    subst hx
    exact h
  · intro x hx
    simp at hx
    subst hx
    exact .refl _
  · intro i c d hi
    match i, hi with
    | 0, e => cases e
    | n + 1, e => simp at e
  · intro i c hi
    match i, hi with
    | 0, _ => rfl
    | n + 1, e => simp at e
theorem Bfs.len {E : Edges} {goal : Nat} {tw : List (Nat × Option Nat)} {a : Nat} (b : Bfs E goal tw a) : tw.length ≤ 26 := by
  have h := b.nd.length_le_of_subset (l₂ := List.range' 97 26) fun x hx => by
    have := b.lets x hx
    rw [List.mem_range'_1]
    unfold isLet at this
    omega
  simpa using h
theorem Bfs.push {E : Edges} {goal x y : Nat} {tw : List (Nat × Option Nat)} {a : Nat} {o : Option Nat} (b : Bfs E goal tw a) (hx : tw[a]? = some (x, o)) (hy : y ∈ nbrs E x) (hl : isLet y) (hn : y ∉ tw.map (·.1)) : Bfs E goal (tw ++ [(y, some x)]) a := by
  have ha : a < tw.length := (List.getElem?_eq_some_iff.mp hx).1
  have old : ∀ {i : Nat} {p : Nat × Option Nat}, tw[i]? = some p → (tw ++ [(y, some x)])[i]? = some p := fun {i p} h => by
    rw [List.getElem?_append_left (List.getElem?_eq_some_iff.mp h).1]
    exact h
  have back : ∀ {i : Nat} {p : Nat × Option Nat}, (tw ++ [(y, some x)])[i]? = some p → tw[i]? = some p ∨ (i = tw.length ∧ p = (y, some x)) := fun {i p} h => by
    by_cases q : i < tw.length
    · rw [List.getElem?_append_left q] at h
      exact .inl h
    · rw [List.getElem?_append_right (by omega)] at h
      have : i - tw.length = 0 := by
        have := (List.getElem?_eq_some_iff.mp h).1
        simp at this
        omega
      rw [this] at h
      simp at h
      exact .inr ⟨by omega, h.symm⟩
  refine ⟨?_, ?_, ?_, old b.head, ?_, ?_, ?_⟩
  · rw [List.map_append, List.nodup_append]
    refine ⟨b.nd, by simp, fun u hu v hv e => ?_⟩
    simp at hv
    subst hv e
    exact hn hu
  · intro u hu
    rw [List.map_append] at hu
    rcases List.mem_append.mp hu with hu | hu
    · exact b.lets u hu
    · simp at hu
      subst hu
      exact hl
  · intro u hu
    rw [List.map_append] at hu
    rcases List.mem_append.mp hu with hu | hu
    · exact b.conn u hu
    · simp at hu
      subst hu
      exact .step (b.conn x (List.mem_map.mpr ⟨_, List.mem_of_getElem? hx, rfl⟩)) hy
  · intro i c d hi
    rcases back hi with h | ⟨e, h⟩
    · obtain ⟨j, o', hj, h'⟩ := b.par i c d h
      exact ⟨j, o', hj, old h'⟩
    · cases h
      exact ⟨a, o, by omega, old hx⟩
  · intro i c hi
    rcases back hi with h | ⟨e, h⟩
    · exact b.non i c h
    · cases h
  · intro j u o' hj h v hv
    rcases back h with h | ⟨e, h⟩
    · rw [List.map_append]
      exact List.mem_append_left _ (b.closed j u o' hj h v hv)
    · omega
theorem Bfs.next {E : Edges} {goal x : Nat} {tw : List (Nat × Option Nat)} {a : Nat} {o : Option Nat} (b : Bfs E goal tw a) (hx : tw[a]? = some (x, o)) (h : ∀ y ∈ nbrs E x, y ∈ tw.map (·.1)) : Bfs E goal tw (a + 1) := by
  refine ⟨b.nd, b.lets, b.conn, b.head, b.par, b.non, fun j u o' hj hu => ?_⟩
  by_cases q : j < a
  · exact b.closed j u o' q hu
  · have : j = a := by omega
    subst this
    rw [hx] at hu
    cases hu
    exact h
theorem Bfs.done {E : Edges} {goal : Nat} {tw : List (Nat × Option Nat)} {a : Nat} (b : Bfs E goal tw a) (ha : tw.length ≤ a) {c : Nat} : c ∈ tw.map (·.1) ↔ Conn E goal c := by
  refine ⟨b.conn c, fun h => ?_⟩
  induction h with
  | refl => exact List.mem_map.mpr ⟨_, List.mem_of_getElem? b.head, rfl⟩
  | step _ m ih =>
    obtain ⟨⟨u, o⟩, hu, rfl⟩ := List.mem_map.mp ih
    obtain ⟨j, hj, e⟩ := List.mem_iff_getElem.mp hu
    exact b.closed j u o (by omega) (by rw [List.getElem?_eq_getElem hj, e]) _ m
end Wl

namespace Wl
open PySem PySem.Spec PyProof.Rows L2
/-! enumerate(a text) -/
def IteS (z : Str) : It where
  go := fun i _ => i < z.cps.size
  yld := fun i H v H' => ∃ T c, v = .ref T ∧ H T = none ∧ z.cps[i]? = some c ∧ H' = upd H T (.tup [.int (i : Nat), .str (sign c)])
  stop := fun i _ => z.cps.size ≤ i
theorem turn_enumS {P : Program} {w : World} {K : PySem.W.Frag} {elts : List Expr} {kk : Nat} {tpos : Pos} (z : Str) (t : Tok) (e it : Addr) :
    Turn P w K (.Tuple elts kk tpos) (IteS z) [e, it] e (fun i h => (∃ old, IsEnum h e it ((i : Nat) : Int) old) ∧ h.IsStrIter it (strIterType z) z t i ∧ e ≠ it) where
  mem := by simp
  obj := fun i h st b hb => by
    obtain ⟨⟨old, he⟩, ⟨o, ho, hc, hd⟩, _⟩ := st
    rcases (show b = e ∨ b = it by simpa using hb) with q | q
    · subst q; exact ⟨_, he, fun v q => nomatch q⟩
    · subst q; exact ⟨o, ho, fun v q => by rw [hd] at q; cases q⟩
  keep := fun i h h' st k => let ⟨⟨old, he⟩, ⟨o, ho, r⟩, hne⟩ := st; ⟨⟨old, k e (by simp) _ he⟩, ⟨o, k it (by simp) o ho, r⟩, hne⟩
  item := by
    intro X hP hw hK hc i pins s σ H E I hf st hg
    subst hP hw hK
    obtain ⟨⟨old, he⟩, hit, hne⟩ := st
    have hi : i < z.cps.size := hg
    obtain ⟨oi, hoi, _⟩ := id hit
    have hel : e < s.heap.objs.size := Heap.lt_size he
    have hil : it < s.heap.objs.size := Heap.lt_size hoi
    refine wpAny_pyNext_enum_itemD (Draws.text (prog := X.prog) (w := X.w) (A := X.A.in1) (I.ok.hd hc) it z t) he hit hi hne (by simp [hne]) fun y h' tk hy ho hst hTp hsz hk => ?_
    obtain ⟨c, tu, hcz, rfl⟩ := hy
    refine ⟨_, rfl, wpAny_letOwnedTupleGo_enum (s := { s with heap := h', toks := tk + 1 }) ho fun h'' he' sb => ?_⟩
    have hT2 : h''.get? s.heap.objs.size = some { cls := .type "tuple", data := .seq #[.int i tk, .str ⟨#[c]⟩ tu] } := (sb.2 _ (Nat.ne_of_gt hel)).trans hTp
    have new : ObjOk X.prog X.w (upd H s.heap.objs.size (.tup [.int (i : Nat), .str (sign c)])) h'' s.heap.objs.size (.tup [.int (i : Nat), .str (sign c)]) :=
      ⟨by show 2 ≤ sizeLine; decide, [.int i tk, .str ⟨#[c]⟩ tu], .cons ⟨_, rfl⟩ (.cons ⟨_, rfl⟩ .nil), ⟨_, hT2, rfl, _, rfl⟩⟩
    have I1 : L2.Inv X pins σ (upd H s.heap.objs.size (.tup [.int (i : Nat), .str (sign c)])) { s with heap := h'', toks := tk + 1 } :=
      I.turnedNew (ch := [e, it]) (fun b ob hb q => by
        simp only [List.mem_cons, List.not_mem_nil, or_false, not_or] at hb
        exact (sb.2 b hb.1).trans (hk b ob hb.1 hb.2 q)) hf (Nat.le_refl _) new
    have e1 : ((i + 1 : Nat) : Int) = (i : Int) + 1 := by omega
    obtain ⟨o2, ho2, r2⟩ := hst
    refine ⟨.ref s.heap.objs.size, _, I1, rfl, ⟨_, c, rfl, I.hok.fresh (Nat.le_refl _), hcz, rfl⟩, ⟨⟨.str ⟨#[c]⟩ tu, by rw [e1]; exact he'⟩, ⟨o2, (sb.2 it (Ne.symm hne)).trans ho2, r2⟩, hne⟩, fun b hb => ?_⟩
    have hb' : b < s.heap.objs.size := by
      rcases (show b = e ∨ b = it by simpa using hb) with q | q <;> subst q <;> assumption
    rw [upd_ne (Nat.ne_of_lt hb')]
    exact (hf b hb).1
  done := by
    intro X hP hw hK hc i pins s σ H E I hf st hg
    subst hP hw hK
    obtain ⟨⟨old, he⟩, hit, hne⟩ := st
    have hi : z.cps.size ≤ i := hg
    obtain ⟨f0, f1, f2, f3, f4, f5⟩ := hf it (by simp)
    have hTy : s.TypeIs (.ref e) "enumerate" := ⟨_, he, rfl⟩
    show wpAny _ _ (pyNext (.ref e)) _ _ s
    unfold pyNext
    refine wpAny_bind (wpAny_attempt (wpAny_callSpecial?_slot (name := Str.ofString "__next__") hTy F.slot_enumerate_next (wpAny_call_entry F.slot_enumerate_next hTy F.entry_enumerate_next ?_ (F.args_enumerate_next_1 _))))
    show wpAny _ _ (field (.ref e) 2 >>= _) _ _ _
    refine wpAny_bind (wpAny_field he rfl (x := .ref it) rfl (wpAny_bind ?_))
    have hx : z.cps[i]? = none := Array.getElem?_eq_none hi
    cases ha : z.cps.all (· < 128)
    · simp only [strIterType, ha, Bool.false_eq_true, if_false] at hit
      refine wpAny_nextOf_wide_end (I.ok.hd hc) hit hx fun h' x he' hx' => ?_
      obtain ⟨o, ho, hcc⟩ := hx'
      exact wpAny_bind (wpAny_isInstance (T := "StopIteration") (b := true) ⟨o, ho, hcc⟩ isSubtype_stop (wpAny_pure ⟨rfl, I.turned (t' := s.toks) (fun b o hb q => he' b o hb q) f0 f1 f3 f4 f5⟩))
    · simp only [strIterType, ha, if_true] at hit
      refine wpAny_nextOf_ascii_end (I.ok.hd hc) hit hx fun h' x he' hx' => ?_
      obtain ⟨o, ho, hcc⟩ := hx'
      exact wpAny_bind (wpAny_isInstance (T := "StopIteration") (b := true) ⟨o, ho, hcc⟩ isSubtype_stop (wpAny_pure ⟨rfl, I.turned (t' := s.toks) (fun b o hb q => he' b o hb q) f0 f1 f3 f4 f5⟩))
  self := fun A i s Q E st h => let ⟨⟨_, he⟩, _⟩ := st; wpAny_pyIter_enum he h
def iEnumS (ta : TA) : TI := fun σ H R => ta σ H fun vs H1 => ∃ z, vs = [.str z] ∧ R (IteS z) H1
theorem pi_enumS {X : Cx} {e : Expr} {ta : TA} {p pos tpos : Pos} {elts : List Expr} {kk : Nat} (hg : Gl X "enumerate") (hm : X.mg "enumerate" = none) (ha : PA X [e] ta) (hs : starEach [e] X.env = [(false, eval e X.env)] := by rfl) :
    PI X (.Tuple elts kk tpos) (.Call (.Name "enumerate" p) [e] [] pos) (iEnumS ta) := by
  refine ⟨fun pins s σ H R I h => ?_⟩
  refine Call_ (ld_blt I hg hm boot_enumerate (PyProof.Rows.callWith_type1 (thn (ha.run pos pins s σ H _ I h) fun us s1 ⟨vs, H1, I1, r1, q1⟩ => ?_) hs rfl))
  obtain ⟨z, rfl, q⟩ := q1
  obtain ⟨u, rfl, ru⟩ := vals1 r1
  obtain ⟨t, rfl⟩ := ru
  refine call_enumerate_str fun h' he hit hsz hk => wpAny_pyIter_enum he ?_
  refine ⟨s1.heap.objs.size + 1, [s1.heap.objs.size + 1, s1.heap.objs.size], _, _, H1, rfl, I1.kept (t' := s1.toks) hk, turn_enumS z t (s1.heap.objs.size + 1) s1.heap.objs.size, ⟨⟨.none, he⟩, hit, Nat.succ_ne_self _⟩, fun b hb => ?_, q⟩
  have hle : s1.heap.objs.size ≤ b := by
    rcases (show b = s1.heap.objs.size + 1 ∨ b = s1.heap.objs.size by simpa using hb) with q | q <;> rw [q]
    · exact Nat.le_add_right _ _
    · exact Nat.le_refl _
  exact I1.fpOk hle (I1.hok.fresh hle)
theorem walk_enumS {z : Str} : L2.Walk (IteS z) (codes z).length (fun _ => True) (fun i H v H' => ∃ T c, v = .ref T ∧ H T = none ∧ (codes z)[i]? = some c ∧ H' = upd H T (.tup [.int (i : Nat), .str (sign c)])) := by
  have e : (codes z).length = z.cps.size := by simp [codes]
  rw [e]
  refine ⟨fun _ _ hi _ => hi, fun _ _ => Nat.le_refl _, ?_⟩
  rintro i H v H' _ _ ⟨T, c, h1, h2, h3, h4⟩
  exact ⟨T, c, h1, h2, by simpa [codes] using h3, h4⟩
/-! f(k = v, ..) with no place -/
theorem pe_callN0 {X : Cx} {CX : CXT} {k : Nat} {f : Addr} {fd : FuncData} {ps ks : List Str} {sp : Sp} {E : XK} {x : Str} {p pos : Pos} {kws : List Keyword} {tk : TA} {g : List Value → List Value → List Value} {gV : List V → List V → List V}
    (F : FnOk X.prog X.w X.K X.mg X.base CX k f fd ps sp) (hr : Room k X.A) (hg : Gl X x) (hm : X.mg x = some (.ref f)) (hk : PySem.W.keepIn X.K (.ref f) = true) (hb : KBn X.K fd ps 0 ks g gV) (hx : Passes CX X E) (hkw : PK X kws tk)
    (hall : (backToKw pos (keywordEach kws X.env)).all (·.1.isSome) = true := by rfl) (hks : (backToKw pos (keywordEach kws X.env)).filterMap (·.1) = ks := by rfl) (hdb : (x == ("__debug__" : Str)) = false := by decide)
    (hpl : ((backTo pos (starEach [] X.env)).any (·.1) || (backToKw pos (keywordEach kws X.env)).any (·.1.isNone)) = false := by rfl) :
    PE X (.Call (.Name x p) [] kws pos) (L2.tCallN 0 ks.length sp gV E tNil tk) := by
  refine ⟨fun pins s σ H Q I h => ?_⟩
  refine wpAny_Call_Name_kw (ld_glob I hg hm ?_ hdb)
  refine PySem.W.callWith_KW0 (h₀ := X.base) I.ok.mod.kin hk hall ?_ hpl
  refine thn (hkw.run pos pins s σ H _ I h) fun ws s2 ⟨zs, H2, I2, rz, l1, l2, q2⟩ => ⟨I2.kIn, ?_⟩
  rw [hks]
  exact run_fnN (us := []) (vs := []) F hr hb hx I2 .nil rz rfl l2 q2
/-! min of a list of signs -/
def sgV (c : Nat) : V := .str (sign c)
def rMinL (K : PySem.W.Frag) : List V → Hp → VK → Prop := fun vs H Q => ∃ (a : Addr) (cs : List Nat), vs = [V.ref a] ∧ SqL K H a (cs.map sgV) ∧ cs ≠ [] ∧ cs.length ≤ 1000 ∧ ∀ m ∈ cs, (∀ c ∈ cs, m ≤ c) → Q (sgV m) H
theorem dp_signs {K : PySem.W.Frag} {H : Hp} : ∀ cs : List Nat, DpAll K H (cs.map sgV) (cs.map fun c => PyData.str (sign c))
  | [] => .nil
  | c :: r => .cons (.str _) (dp_signs r)
theorem sign_lt (a b : Nat) : ((sign a).cps.toList < (sign b).cps.toList) ↔ a < b := by
  show ([a] < [b]) ↔ _
  constructor
  · intro h
    rcases List.cons_lt_cons_iff.mp h with h | ⟨_, h⟩
    · exact h
    · exact absurd h (List.lt_irrefl _)
  · intro h
    exact List.cons_lt_cons_iff.mpr (.inl h)
theorem minD_signs : ∀ (c : Nat) (cs : List Nat), ∃ m, m ∈ c :: cs ∧ (∀ d ∈ c :: cs, m ≤ d) ∧ PySem.W.minD (.str (sign c)) (cs.map fun c => PyData.str (sign c)) = .str (sign m)
  | c, [] => ⟨c, List.mem_cons_self, fun d hd => by simp at hd; omega, rfl⟩
  | c, d :: r => by
    by_cases h : d < c
    · obtain ⟨m, h1, h2, h3⟩ := minD_signs d r
      refine ⟨m, List.mem_cons_of_mem _ h1, fun x hx => ?_, ?_⟩
      · rcases List.mem_cons.mp hx with rfl | hx
        · have := h2 d List.mem_cons_self
          omega
        · exact h2 x hx
      · rw [← h3]
        unfold PySem.W.minD
        rw [List.map_cons, List.foldl_cons, PySem.W.dataLt_str, decide_eq_true ((sign_lt d c).mpr h)]
        rfl
    · obtain ⟨m, h1, h2, h3⟩ := minD_signs c r
      refine ⟨m, ?_, fun x hx => ?_, ?_⟩
      · rcases List.mem_cons.mp h1 with rfl | h1
        · exact List.mem_cons_self
        · exact List.mem_cons_of_mem _ (List.mem_cons_of_mem _ h1)
      · rcases List.mem_cons.mp hx with rfl | hx
        · exact h2 x List.mem_cons_self
        · rcases List.mem_cons.mp hx with rfl | hx
          · have := h2 c List.mem_cons_self
            omega
          · exact h2 x (List.mem_cons_of_mem _ hx)
      · rw [← h3]
        unfold PySem.W.minD
        rw [List.map_cons, List.foldl_cons, PySem.W.dataLt_str, decide_eq_false (fun q => h ((sign_lt d c).mp q))]
        rfl
theorem cr_minL {X : Cx} (hc : X.calm = true) (hu : X.A.units + 64 < cLine) : CallR X (.builtin "min") (rMinL X.K) := by
  intro pins s σ H vs us Q I r h
  obtain ⟨a, cs, rfl, hs, hne, hlen, q⟩ := h
  obtain ⟨its, rv, hl, hn⟩ := I.list hs
  obtain ⟨u, rfl, ru⟩ := vals1 r
  obtain rfl : u = Value.ref a := ru
  obtain ⟨as, hr⟩ := Dp.readsAll I _ _ its (dp_signs cs) rv
  cases cs with
  | nil => exact absurd rfl hne
  | cons c cs =>
    have al : PySem.W.AlikeAll (((c :: cs)).map fun c => PyData.str (sign c)) := by
      refine ⟨fun x hx y hy => ?_, fun x hx => ?_⟩
      · obtain ⟨i, _, rfl⟩ := List.mem_map.mp hx
        obtain ⟨j, _, rfl⟩ := List.mem_map.mp hy
        rfl
      · obtain ⟨i, _, rfl⟩ := List.mem_map.mp hx
        exact fun q => by cases q
    have dp : ∀ l : List Nat, PyData.depthAll (l.map fun c => PyData.str (sign c)) = 0 := fun l => by
      induction l with
      | nil => rfl
      | cons x r ih => simp [PyData.depthAll, PyData.depth, ih]
    refine PySem.W.min_list_data (x := .str (sign c)) (xs := cs.map fun c => PyData.str (sign c)) (I.ok.hd hc) hl.isList (by simpa using hr) al (by
      have := dp (c :: cs)
      rw [List.map_cons] at this
      omega) fun i v h' tk bs hv hR hk => ?_
    obtain ⟨m, h1, h2, h3⟩ := minD_signs c cs
    rw [h3] at hR
    cases hR with
    | str z t => exact ⟨.str _, H, I.kept (t' := tk) hk, ⟨_, rfl⟩, q m h1 h2⟩
/-! 'a' * 8 -/
def rMulA : R2 := fun x y H Q => x = .str "a" ∧ y = .int 8 ∧ Q (.str "aaaaaaaa") H
theorem op_mulA {X : Cx} : OpR X (binaryOp .Mult) rMulA := by
  intro pins s σ H x y v u Q I rx ry h
  obtain ⟨rfl, rfl, q⟩ := h
  obtain ⟨t, rfl⟩ := rx
  obtain ⟨t', rfl⟩ := ry
  refine P.mul_str (by decide) (fun _ _ => by decide +kernel) (fun _ _ => by decide +kernel) ?_
  have e1 : ((8 : Int) == 1 || ("a" : Str).length == 0) = false := by decide +kernel
  rw [if_neg (by decide), e1]
  have e2 : (⟨(List.replicate (8 : Int).toNat ("a" : Str).cps).foldl (· ++ ·) #[]⟩ : Str) = "aaaaaaaa" := by decide +kernel
  show Made.post (Made.str (⟨(List.replicate (8 : Int).toNat ("a" : Str).cps).foldl (· ++ ·) #[]⟩ : Str)) _ _
  rw [e2]
  exact ⟨by decide +kernel, .str _, H, I.tok _, ⟨_, rfl⟩, q⟩
end Wl

namespace Wl
open PySem PySem.Spec PyProof.Rows L2
def topS (i : Nat) : Stmt := PySem.Challenge.pw_wordlines_k04_words_refused.main.body.getD i (.Pass ⟨0, 0, 0, 0⟩)
end Wl
namespace Wl
open PySem PySem.Spec PyProof.Rows L2
abbrev wIsWord : Stmt := topS 28
abbrev wCheck : Stmt := topS 29
abbrev wIsLetter : Stmt := topS 30
abbrev wIsChange : Stmt := topS 31
abbrev wTupTo : Stmt := topS 32
abbrev wChecked : Stmt := topS 33
abbrev wReaches : Stmt := topS 34
abbrev wTurned : Stmt := topS 35
/-! y = {k: v for x in ..} -/
theorem ps_setDc {X : Cx} {i : Nat} {y : Str} {py : Pos} {kx vx tg iter : Expr} {ifs : List Expr} {scope : Scope} {own : List (Str × Nat)} {pos spos : Pos} {wi : TI} {g : TG} {tt : TT} {tk tv : TE} (hc : X.calm = true) (hN : X.N.Nodup) (hy : X.N[i]? = some y) (hyl : X.env.scope.names.lookup y = some .local)
    (hsw : swapsWith (.DictComp kx vx [⟨tg, iter, ifs, 0⟩] scope pos) (some (.Name y py)) spos.line X.env = pure true) (hi : PI X tg iter wi) (ok : BlkOk X.N X.env.scope scope own)
    (hg : ∀ (s : Shared) (H : Hp) (C : Addr) (cl : List (Str × Addr)) (fp : List Addr), PG (X.blk s H scope (compEnvC scope cl C X.env) fp) tg g) (ht : ∀ (s : Shared) (H : Hp) (C : Addr) (cl : List (Str × Addr)) (fp : List Addr), PTs (X.blk s H scope (compEnvC scope cl C X.env) fp) ifs tt)
    (hk : ∀ (s : Shared) (H : Hp) (C : Addr) (cl : List (Str × Addr)) (fp : List Addr), PE (X.blk s H scope (compEnvC scope cl C X.env) fp) kx tk) (he : ∀ (s : Shared) (H : Hp) (C : Addr) (cl : List (Str × Addr)) (fp : List Addr), PE (X.blk s H scope (compEnvC scope cl C X.env) fp) vx tv)
    (hs : ∀ x, foldedSetIterable iter X.env x = pure x := by intro _; rfl) :
    PS X (.Assign [.Name y py] (.DictComp kx vx [⟨tg, iter, ifs, 0⟩] scope pos) spos) (tAsg (tDc wi g tt tk tv (own.map (·.2))) (gName i)) := by
  constructor
  intro pins s σ H D I h
  rw [exec_Assign_Name_used _ _ _ _ hsw]
  refine wpAny_bind (wpAny_standAt (wpAny_bind ?_))
  show wpAny _ X.A (do let _ ← comprehension (.DictComp kx vx [⟨tg, iter, ifs, 0⟩] scope pos) scope X.env (firstIterPos [⟨tg, iter, ifs, 0⟩] pos) newDict false (eval iter X.env) (some (assign (.Name y py) X.env))) _ _ s
  have h2 : tDc wi g tt tk tv (own.map (·.2)) σ H (fun x H1 => gName i x σ H1 D.nx) := h
  refine wpAny_bind (thn (dc_core (Qf := fun _ s' => SP X pins D .next s') hc hN I hi ok hg ht hk he hs h2 fun L C s' m H' I' q hn f => ?_) fun _ s' hq => wpAny_pure (wpAny_pure hq))
  show wpAny _ _ (assign (.Name y py) X.env (.ref L)) _ _ _
  obtain ⟨f0, f1, f2, f3, f4, f5⟩ := f
  refine wpAny_assign_Name (store_ok2 (v := V.ref L) I' hN hy (.inl hyl) rfl (fun s2 I2 ⟨a, sb, ha⟩ => ?_) (.inr hyl))
  have haC : C ≠ a := ha.elim (fun z => z ▸ f1) (fun z e => f4 y a z e.symm)
  exact ⟨m, hn.sameBut sb haC, fun h3 sb3 => ⟨_, H', I2.turned (t' := s2.toks) (fun b o hb e => (sb3.2 b hb).trans e) f0 f1 f3 f4 f5, q⟩⟩
theorem sw_dict {kx vx : Expr} {gs : List Comprehension} {scope : Scope} {pos py : Pos} {y : Str} {l : Nat} {env : Env} (hk : env.scope.kind = .function) (hy : env.scope.names.lookup y = some .local) (hl : (py.line == pos.line) = true)
    (ha : (scope.names.any fun (n, k) => n == y && (k == .local || k == .cell)) = false) : swapsWith (.DictComp kx vx gs scope pos) (some (.Name y py)) l env = pure true := by
  have ky : env.kindOf y = some .local := hy
  have hb : env.blockKind = .function := by
    show env.blockKind = _
    unfold Env.blockKind
    rw [hk]
    rfl
  show (do return env.blockKind == .function && env.kindOf y == some .local && py.line == pos.line && !(scope.names.any fun (n, k) => n == y && (k == .local || k == .cell)) : Sem Bool) = _
  rw [hb, ky, ha, hl]
  rfl

structure Bw (mg : Str → Option Value) : Prop where
  bool : mg "bool" = none
structure Gw (K : PySem.W.Frag) (mg : Str → Option Value) : Prop where
  letters : ∃ t, mg "LETTERS" = some (.str "abcdefghijklmnopqrstuvwxyz" t)
  longest : ∃ t, mg "LONGEST_WORD" = some (.int 8 t)
  mostch : ∃ t, mg "MOST_CHANGES" = some (.int 12 t)
  wheres : ∃ a, mg "WHERES" = some (.ref a) ∧ ∀ H, SqT K H a [.str "first", .str "last", .str "any"]
def letB (c : Nat) : Bool := decide (97 ≤ c) && decide (c ≤ 122)
def letV : V → V
  | .str s => .bl (s.cps.toList.all letB)
  | v => v
theorem letB_mem (c : Nat) : decide (c ∈ ("abcdefghijklmnopqrstuvwxyz" : Str).cps.toList) = letB c := by
  rw [letters_eq]
  unfold letB
  by_cases h : c ∈ List.range' 97 26
  · rw [decide_eq_true h]
    rw [List.mem_range'_1] at h
    simp
    omega
  · rw [decide_eq_false h]
    rw [List.mem_range'_1] at h
    symm
    rw [Bool.and_eq_false_iff, decide_eq_false_iff_not, decide_eq_false_iff_not]
    omega
/-- whether a thing of any kind is a word -/
def Wv (K : PySem.W.Frag) (H : Hp) (v : V) (b : Bool) : Prop := (∃ z, v = .str z ∧ z.length ≤ 1000 ∧ b = wdB z) ∨ (∃ t, TyX K H v t ∧ PySem.W.kitOne K t (.type "str") = some false ∧ b = false)
section
variable {P : Program} {w : World} {K : PySem.W.Frag} {mg : Str → Option Value} {base : Heap} {f : Addr} {fd : FuncData}
def spIsW (K : PySem.W.Frag) : Sp := fun vs H Q _ => ∃ (v : V) (b : Bool), vs = [v] ∧ Wv K H v b ∧ ∀ (H' : Hp), Same H H' → Q (.bl b) H'
abbrev nIsWord : List Str := ["thing", "letter"]
theorem scIsW : FnScope nIsWord ["thing"] (defScope wIsWord) := ⟨rfl, rfl, rfl, by decide +kernel, rfl, by decide +kernel, by decide +kernel⟩
theorem ok_isw (F : Fun K "is_word" "is_word" wIsWord f fd) (B : Bi mg) (G : Gw K mg) : FnOk P w K mg base CX0 1 f fd ["thing"] (spIsW K) := by
  obtain ⟨t1, g1⟩ := G.letters
  obtain ⟨t2, g2⟩ := G.longest
  refine F.ok scIsW (fun vs H Q E h => ?_) (fun cdv A outer s H vs Q E hr h => ?_)
  · obtain ⟨v, b, rfl, _⟩ := h
    rfl
  · obtain ⟨v, b, rfl, hw, q⟩ := h
    refine ⟨_, pss_cons (ps_if (PW.pt (pw_or (pt_not (pt_val (pe_callB call_isi (by rfl) B.isi (by decide +kernel) (pa_cons (pv 0) (pa_cons (pe_bltn (v := .ty "str") (by rfl) B.str (by decide +kernel) rfl) pa_nil)))))
        (pw_or1 (pt_not (pt_chain op_le op_le pe_int (pe_callB call_len_str (by rfl) B.len PySem.boot_len (pa_cons (pv 0) pa_nil)) (pe_glob (v := .int 8) rfl g2 ⟨_, rfl⟩)))))) (pss_one (ps_ret pe_bl)) pss_nil)
      (pss_one (ps_ret (pe_callB (cr_all rfl) (by rfl) B.all (by decide +kernel) (pa_cons (pe_lc (own := [("letter", 1)]) (g := gName 1) (tt := tYes) rfl scIsW.nd (pi_str (pv 0)) (blkOk_by (N := nIsWord) (sc := defScope wIsWord) (by decide +kernel))
        (fun _ _ _ _ _ => pg_name (i := 1) scIsW.nd rfl (.inl rfl)) (fun _ _ _ _ _ => pts_nil) (fun _ _ _ _ _ => pe_cmpR op_in_sign (pv 1) (pe_glob (v := .str "abcdefghijklmnopqrstuvwxyz") rfl g1 ⟨_, rfl⟩) rfl)) pa_nil)))), ?_⟩
    rcases hw with ⟨z, rfl, hz, rfl⟩ | ⟨t, ty, hk, rfl⟩
    · refine ⟨_, rfl, _, _, _, _, _, rfl, .ty "str", .base (.str z), kit_ty (r := true) (by decide +kernel), true, rfl, ?_⟩
      refine iteF ⟨_, rfl, _, rfl, lzl hz, _, _, rfl, rfl, _, rfl, ite_b (fun e1 => ?_) (fun e1 => ?_)⟩
      · refine ⟨_, _, rfl, rfl, _, rfl, not_b (fun e2 => ?_) (fun e2 => ?_)⟩
        · have e2' : ¬ ((z.length : Int) ≤ 8) := of_decide_eq_false e2
          have : wdB z = false := by
            unfold wdB
            rw [decide_eq_false (show ¬ z.length ≤ 8 by omega)]
            simp
          rw [← this]
          exact q H (Same.refl H)
        · have h1 : 1 ≤ z.length := by
            have := of_decide_eq_true e1
            omega
          have h8 : z.length ≤ 8 := by
            have := of_decide_eq_true e2
            omega
          refine ⟨_, rfl, _, rfl, fun D hD => lc_map walk_signs hD (fun _ => true) letV (fun _ _ => trivial) (fun _ => rfl) (fun x H' _ _ Q' q' => q') ?_ ?_ ?_⟩
          · intro x H' hx _ _ Q' q'
            obtain ⟨c, hc, rfl⟩ := List.mem_map.mp hx
            refine ⟨_, rfl, c, _, rfl, rfl, ?_⟩
            rw [letB_mem]
            have : letV (.str (sign c)) = .bl (letB c) := by
              show V.bl ([c].all letB) = _
              simp
            rw [this] at q'
            exact q'
          · unfold signsOf
            rw [List.length_map, Array.length_toList]
            exact small1000 (by have : z.length = z.cps.size := rfl; omega)
          · intro H' s' hD'
            have e0 : ((signsOf z).filter fun _ => true).map letV = (z.cps.toList.map letB).map V.bl := by
              rw [List.filter_eq_self.mpr fun _ _ => rfl]
              unfold signsOf
              rw [List.map_map, List.map_map]
              refine List.map_congr_left fun c _ => ?_
              show V.bl ([c].all letB) = _
              simp
            refine ⟨D, z.cps.toList.map letB, rfl, .inl (.inl (by rw [hD', e0])), ?_⟩
            have : (z.cps.toList.map letB).all id = wdB z := by
              unfold wdB
              rw [decide_eq_true h1, decide_eq_true h8, List.all_map]
              rfl
            rw [this]
            exact q H' s'
      · refine ⟨false, rfl, iteT ?_⟩
        have : wdB z = false := by
          have e1' : ¬ ((1 : Int) ≤ z.length) := of_decide_eq_false e1
          unfold wdB
          rw [decide_eq_false (show ¬ 1 ≤ z.length by omega)]
          simp
        rw [← this]
        exact q H (Same.refl H)
    · exact ⟨_, rfl, _, _, _, _, _, rfl, .ty "str", ty, hk, false, rfl, iteT (q H (Same.refl H))⟩
theorem wv_wd {K : PySem.W.Frag} {H : Hp} {z : Str} (h : IsWd z) : Wv K H (.str z) true := .inl ⟨z, rfl, by have := h.len; omega, (show wdB z = true from h).symm⟩
theorem sign_wd {c : Nat} (h : isLet c) : IsWd (sign c) := wd_codes.mpr ⟨⟨Nat.le_refl 1, Nat.le_of_ble_eq_true rfl⟩, fun d hd => by
  have : d = c := by simpa [codes, sign] using hd
  rw [this]
  exact h⟩
/-! ### check_word, is_letter -/
def spCheckW : Sp := fun vs H Q _ => ∃ (z : Str), vs = [.str z] ∧ IsWd z ∧ ∀ (H' : Hp), Same H H' → Q .non H'
theorem scCheckW : FnScope ["word"] ["word"] (defScope wCheck) := ⟨rfl, rfl, rfl, by decide +kernel, rfl, by decide +kernel, by decide +kernel⟩
theorem ok_checkw (F : Fun K "check_word" "check_word" wCheck f fd) (hI : Has P w K mg base "is_word" 1 ["thing"] (spIsW K)) : FnOk P w K mg base CX0 2 f fd ["word"] spCheckW := by
  refine F.ok scCheckW (fun vs H Q E h => ?_) (fun cdv A outer s H vs Q E hr h => ?_)
  · obtain ⟨z, rfl, _⟩ := h
    rfl
  · obtain ⟨z, rfl, hz, q⟩ := h
    exact ⟨_, pss_one (ps_if (pt_not (pt_val (pe_h hI hr (pa_cons (pv 0) pa_nil)))) (pss_one ps_never) pss_nil), _, rfl, _, true, rfl, wv_wd hz, fun H1 s1 => ⟨_, rfl, iteF (q H1 s1)⟩⟩
def spIsLet : Sp := fun vs H Q _ => ∃ (c : Nat), vs = [sgV c] ∧ isLet c ∧ ∀ (H' : Hp), Same H H' → Q (.bl true) H'
theorem scIsLet : FnScope ["thing"] ["thing"] (defScope wIsLetter) := ⟨rfl, rfl, rfl, by decide +kernel, rfl, by decide +kernel, by decide +kernel⟩
theorem ok_islet (F : Fun K "is_letter" "is_letter" wIsLetter f fd) (B : Bi mg) (hI : Has P w K mg base "is_word" 1 ["thing"] (spIsW K)) : FnOk P w K mg base CX0 2 f fd ["thing"] spIsLet := by
  refine F.ok scIsLet (fun vs H Q E h => ?_) (fun cdv A outer s H vs Q E hr h => ?_)
  · obtain ⟨z, rfl, _⟩ := h
    rfl
  · obtain ⟨c, rfl, hc, q⟩ := h
    refine ⟨_, pss_one (ps_ret (pe_and (pe_h hI hr (pa_cons (pv 0) pa_nil)) (pe_one (pe_cmpR op_eq (pe_callB call_len_str (by rfl) B.len PySem.boot_len (pa_cons (pv 0) pa_nil)) pe_int (nomark _))))), ?_⟩
    refine ⟨_, rfl, _, true, rfl, wv_wd (sign_wd hc), fun H1 s1 => ⟨true, rfl, iteT ⟨_, rfl, _, rfl, lz, rfl, ?_⟩⟩⟩
    rw [show decide (V.int ((sign c).length : Int) = V.int 1) = true from decide_eq_true rfl]
    exact q H1 s1
/-! ### changes -/
def chV (ch : Chg) : List V := [sgV ch.1, sgV ch.2.1, .str (whS ch.2.2)]
theorem wh_dec (a b : Wh) : decide (V.str (whS a) = V.str (whS b)) = decide (a = b) := by
  cases a <;> cases b <;> decide +kernel
theorem sg_dec (a b : Nat) : decide (sgV a = sgV b) = decide (a = b) := by
  by_cases h : a = b
  · subst h
    simp
  · have : sgV a ≠ sgV b := fun e => h (by
      have e2 := congrArg (fun z : Str => z.cps.toList) (V.str.inj e)
      simpa [sign] using e2)
    rw [decide_eq_false h, decide_eq_false this]
def spIsCh : Sp := fun vs H Q _ => ∃ (p : Addr) (ch : Chg), vs = [.ref p] ∧ H p = some (.tup (chV ch)) ∧ OkC ch ∧ ∀ (H' : Hp), Same H H' → Q (.bl true) H'
abbrev nIsCh : List Str := ["thing", "one", "other", "where"]
theorem scIsCh : FnScope nIsCh ["thing"] (defScope wIsChange) := ⟨rfl, rfl, rfl, by decide +kernel, rfl, by decide +kernel, by decide +kernel⟩
theorem ok_isch (F : Fun K "is_change" "is_change" wIsChange f fd) (B : Bi mg) (G : Gw K mg) (hL : Has P w K mg base "is_letter" 2 ["thing"] spIsLet) : FnOk P w K mg base CX0 3 f fd ["thing"] spIsCh := by
  obtain ⟨wa, gw, hw⟩ := G.wheres
  refine F.ok scIsCh (fun vs H Q E h => ?_) (fun cdv A outer s H vs Q E hr h => ?_)
  · obtain ⟨p, ch, rfl, _⟩ := h
    rfl
  · obtain ⟨p, ch, rfl, hp, ok, q⟩ := h
    refine ⟨_, pss_cons (ps_if (PW.pt (pw_or (pt_not (pt_val (pe_callB call_isi (by rfl) B.isi (by decide +kernel) (pa_cons (pv 0) (pa_cons (pe_bltn (v := .ty "tuple") (by rfl) B.tuple (by decide +kernel) rfl) pa_nil)))))
        (pw_or1 (pt_cmpR op_ne (pe_callB call_len_seq (by rfl) B.len PySem.boot_len (pa_cons (pv 0) pa_nil)) pe_int (nomark _))))) (pss_one (ps_ret pe_bl)) pss_nil)
      (pss_cons (ps_asg (pv 0) (pg_tup rfl (pgs_cons (pg_name (i := 1) scIsCh.nd rfl (.inl rfl)) (pgs_cons (pg_name (i := 2) scIsCh.nd rfl (.inl rfl)) (pgs_cons (pg_name (i := 3) scIsCh.nd rfl (.inl rfl)) pgs_nil)))))
      (pss_cons (ps_if (PW.pt (pw_or (pt_not (pt_val (pe_h hL hr (pa_cons (pv 1) pa_nil)))) (pw_or (pt_not (pt_val (pe_h hL hr (pa_cons (pv 2) pa_nil)))) (pw_or1 (pt_cmpR op_eq (pv 1) (pv 2) (nomark _)))))) (pss_one (ps_ret pe_bl)) pss_nil)
      (pss_one (ps_ret (pe_and (pe_callB call_isi (by rfl) B.isi (by decide +kernel) (pa_cons (pv 3) (pa_cons (pe_bltn (v := .ty "str") (by rfl) B.str (by decide +kernel) rfl) pa_nil))) (pe_one (pe_cmpR op_in_seq (pv 3) (pe_glob (v := .ref wa) rfl gw rfl) (by rfl)))))))), ?_⟩
    refine ⟨_, rfl, _, _, _, _, _, rfl, .ty "tuple", .base (.tup hp), kit_ty (r := true) (by decide +kernel), true, rfl, ?_⟩
    refine iteF ⟨_, rfl, p, _, rfl, .inr (.inl (.inl hp)), rfl, _, rfl, ?_⟩
    refine iteNS rfl ?_
    refine ⟨_, rfl, p, _, rfl, .inl (.inl hp), rfl, _, _, rfl, _, _, rfl, _, _, rfl, rfl, ?_⟩
    refine ⟨_, rfl, ch.1, rfl, ok.1, fun H1 s1 => ⟨true, rfl, iteF ⟨_, rfl, ch.2.1, rfl, ok.2.1, fun H2 s2 => ⟨true, rfl, iteF ⟨_, rfl, _, rfl, rfl, _, rfl, ?_⟩⟩⟩⟩⟩
    rw [sg_dec, decide_eq_false ok.2.2]
    refine iteF ⟨_, rfl, _, _, _, _, _, rfl, .ty "str", .base (.str _), kit_ty (r := true) (by decide +kernel), true, rfl, iteT ⟨_, rfl, wa, _, rfl, .inr (hw H2), rfl, rfl, ?_⟩⟩
    have e : inV (.str (whS ch.2.2)) [.str "first", .str "last", .str "any"] = true := by
      generalize ch.2.2 = wh
      cases wh <;> decide +kernel
    rw [if_neg (by decide), e]
    exact q H2 (s1.trans s2)
/-- a tuple of changes -/
def ChAt (H : Hp) (S : Addr) (chs : List Chg) : Prop := ∃ as : List Addr, H S = some (.tup (as.map V.ref)) ∧ Each (fun (p : Addr) (ch : Chg) => H p = some (.tup (chV ch))) as chs
theorem ChAt.keep {H H' : Hp} {S : Addr} {chs : List Chg} (h : ChAt H S chs) (k : ∀ p xs, H p = some (.tup xs) → H' p = some (.tup xs)) : ChAt H' S chs := by
  obtain ⟨as, h1, h2⟩ := h
  exact ⟨as, k _ _ h1, h2.mono fun p ch e => k _ _ e⟩
theorem ChAt.same {H H' : Hp} {S : Addr} {chs : List Chg} (h : ChAt H S chs) (s : Same H H') : ChAt H' S chs := h.keep fun p xs e => s _ _ e
def OkCs (chs : List Chg) : Prop := chs.length ≤ 12 ∧ ∀ ch ∈ chs, OkC ch
/-- what is handed in for changes: None, or a tuple of them -/
def ChV (H : Hp) (v : V) (chs : List Chg) : Prop := (v = .non ∧ chs = []) ∨ ∃ S, v = .ref S ∧ ChAt H S chs
theorem ChV.same {H H' : Hp} {v : V} {chs : List Chg} (h : ChV H v chs) (s : Same H H') : ChV H' v chs := by
  rcases h with h | ⟨S, e, h⟩
  · exact .inl h
  · exact .inr ⟨S, e, h.same s⟩
def spChecked : Sp := fun vs H Q _ => ∃ (v : V) (chs : List Chg), vs = [v] ∧ ChV H v chs ∧ OkCs chs ∧ ∀ (S : Addr) (H' : Hp), Same H H' → ChAt H' S chs → Q (.ref S) H'
abbrev nChecked : List Str := ["changes", "place", "change"]
theorem scChecked : FnScope nChecked ["changes"] (defScope wChecked) := ⟨rfl, rfl, rfl, by decide +kernel, rfl, by decide +kernel, by decide +kernel⟩
/-! ### is_tuple_up_to -/
def spTupTo : Sp := fun vs H Q _ => ∃ (S : Addr) (xs : List V) (n : Int), vs = [.ref S, .int n] ∧ H S = some (.tup xs) ∧ Q (.bl (decide ((xs.length : Int) ≤ n))) H
theorem scTupTo : FnScope ["thing", "most"] ["thing", "most"] (defScope wTupTo) := ⟨rfl, rfl, rfl, by decide +kernel, rfl, by decide +kernel, by decide +kernel⟩
theorem ok_tupto (F : Fun K "is_tuple_up_to" "is_tuple_up_to" wTupTo f fd) (B : Bi mg) : FnOk P w K mg base CX0 1 f fd ["thing", "most"] spTupTo := by
  refine F.ok scTupTo (fun vs H Q E h => ?_) (fun cdv A outer s H vs Q E hr h => ?_)
  · obtain ⟨S, xs, n, rfl, _⟩ := h
    rfl
  · obtain ⟨S, xs, n, rfl, hS, q⟩ := h
    refine ⟨_, pss_one (ps_ret (pe_and (pe_callB call_isi (by rfl) B.isi (by decide +kernel) (pa_cons (pv 0) (pa_cons (pe_bltn (v := .ty "tuple") (by rfl) B.tuple (by decide +kernel) rfl) pa_nil))) (pe_one (pe_cmpR op_le (pe_callB call_len_seq (by rfl) B.len PySem.boot_len (pa_cons (pv 0) pa_nil)) (pv 1) (nomark _))))), ?_⟩
    exact ⟨_, rfl, _, _, _, _, _, rfl, .ty "tuple", .base (.tup hS), kit_ty (r := true) (by decide +kernel), true, rfl, iteT ⟨_, rfl, S, _, rfl, .inr (.inl (.inl hS)), _, rfl, _, _, rfl, rfl, q⟩⟩
theorem ok_checked (F : Fun K "checked_changes" "checked_changes" wChecked f fd) (B : Bi mg) (G : Gw K mg) (hTu : Has P w K mg base "is_tuple_up_to" 1 ["thing", "most"] spTupTo) (hC : Has P w K mg base "is_change" 3 ["thing"] spIsCh) : FnOk P w K mg base CX0 4 f fd ["changes"] spChecked := by
  obtain ⟨t1, g1⟩ := G.mostch
  refine F.ok scChecked (fun vs H Q E h => ?_) (fun cdv A outer s H vs Q E hr h => ?_)
  · obtain ⟨v, chs, rfl, _⟩ := h
    rfl
  · obtain ⟨v, chs, rfl, hv, ok, q⟩ := h
    refine ⟨_, pss_cons (ps_if (pt_cmp (pc_isN (pv 0))) (pss_one (ps_ret (pe_tup pa_nil))) pss_nil)
      (pss_cons (ps_if (pt_not (pt_val (pe_h hTu hr (pa_cons (pv 0) (pa_cons (pe_glob (v := .int 12) rfl g1 ⟨_, rfl⟩) pa_nil))))) (pss_one ps_never) pss_nil)
      (pss_cons (ps_for PassesOwn.never rfl (pi_enumT (by rfl) B.enum (pa_cons (pv 0) pa_nil)) (pg_tup rfl (pgs_cons (pg_name (i := 1) scChecked.nd rfl (.inl rfl)) (pgs_cons (pg_name (i := 2) scChecked.nd rfl (.inl rfl)) pgs_nil)))
        (pss_one (ps_if (pt_not (pt_val (pe_h hC hr (pa_cons (pv 2) pa_nil)))) (pss_one ps_never) pss_nil)))
      (pss_one (ps_ret (pv 0))))), ?_⟩
    rcases hv with ⟨rfl, rfl⟩ | ⟨S, rfl, as, hS, hE⟩
    · exact ⟨_, rfl, _, rfl, iteT ⟨lz, fun p hp => q p _ (same_new hp) ⟨[], upd_same, .nil⟩⟩⟩
    · refine ⟨_, rfl, _, rfl, iteF ?_⟩
      have hl : (as.map V.ref).length = chs.length := by rw [List.length_map, hE.length]
      refine ⟨_, rfl, S, _, 12, rfl, hS, _, rfl, ?_⟩
      rw [hl, decide_eq_true (by have := ok.1; omega)]
      refine iteF ⟨_, rfl, S, _, rfl, .inl (.inl hS), for_it (walk_enumT (K := K) (a := S) (xs := as.map V.ref)) (fun i σ H' => (∃ y1 y2, σ = [some (.ref S), y1, y2]) ∧ Same H H') ⟨⟨_, _, rfl⟩, Same.refl H⟩ (fun i σ H' _ h => .inl (.inl (h.2 _ _ hS))) ?_ ?_⟩
      · rintro i x σ H1 H2 hi ⟨⟨y1, y2, rfl⟩, s1⟩ ⟨T, x1, x2, rfl, hT, rfl, ex1, ex2⟩
        cases ex1
        have ex2 : (as.map V.ref)[i]? = some x2 := ex2
        rw [List.getElem?_map] at ex2
        obtain ⟨p, hp, rfl⟩ := Option.map_eq_some_iff.mp ex2
        obtain ⟨ch, hch, hH⟩ := hE.get hp
        have s2 : Same H1 (upd H1 T (.tup [.int i, .ref p])) := same_new hT
        refine ⟨T, _, rfl, .inl (.inl upd_same), rfl, _, _, rfl, _, _, rfl, rfl, ?_⟩
        exact ⟨_, rfl, p, ch, rfl, s2 _ _ (s1 _ _ hH), ok.2 ch (List.mem_of_getElem? hch), fun H3 s3 => ⟨true, rfl, iteF ⟨⟨_, _, rfl⟩, (s1.trans s2).trans s3⟩⟩⟩
      · rintro σ H1 ⟨⟨y1, y2, rfl⟩, s1⟩
        exact ⟨_, rfl, q S H1 s1 ⟨as, s1 _ _ hS, hE.mono fun p ch e => s1 _ _ e⟩⟩
/-! ### reaches -/
def spReaches : Sp := fun vs H Q _ => ∃ (wh : Wh) (i n : Nat), vs = [.str (whS wh), .int i, .int n] ∧ Q (.bl (acts wh i n)) H
theorem scReaches : FnScope ["where", "place", "length"] ["where", "place", "length"] (defScope wReaches) := ⟨rfl, rfl, rfl, by decide +kernel, rfl, by decide +kernel, by decide +kernel⟩
theorem int_dec (a b : Int) : decide (V.int a = V.int b) = decide (a = b) := by
  by_cases h : a = b
  · subst h
    simp
  · rw [decide_eq_false h, decide_eq_false fun e => h (V.int.inj e)]
theorem ok_reaches (F : Fun K "reaches" "reaches" wReaches f fd) : FnOk P w K mg base CX0 1 f fd ["where", "place", "length"] spReaches := by
  refine F.ok scReaches (fun vs H Q E h => ?_) (fun cdv A outer s H vs Q E hr h => ?_)
  · obtain ⟨wh, i, n, rfl, _⟩ := h
    rfl
  · obtain ⟨wh, i, n, rfl, q⟩ := h
    refine ⟨_, pss_cons (ps_if (pt_cmpR op_eq (pv 0) pe_str (nomark _)) (pss_one (ps_ret (pe_cmpR op_eq (pv 1) pe_int (nomark _)))) pss_nil)
      (pss_cons (ps_if (pt_cmpR op_eq (pv 0) pe_str (nomark _)) (pss_one (ps_ret (pe_cmpR op_eq (pv 1) (pe_op op_sub (pv 2) pe_int) (nomark _)))) pss_nil)
      (pss_one (ps_ret pe_bl))), ?_⟩
    have e1 : decide (V.str (whS wh) = V.str "first") = decide (wh = .first) := wh_dec wh .first
    have e2 : decide (V.str (whS wh) = V.str "last") = decide (wh = .last) := wh_dec wh .last
    refine ⟨_, rfl, rfl, _, rfl, ?_⟩
    rw [e1]
    cases wh with
    | first =>
      refine iteT ⟨_, rfl, rfl, ?_⟩
      rw [int_dec]
      have : decide ((i : Int) = 0) = acts .first i n := by
        unfold acts
        by_cases h : i = 0
        · simp [h]
        · simp [h]
      rw [this]
      exact q
    | last =>
      refine iteF ⟨_, rfl, rfl, _, rfl, ?_⟩
      rw [e2]
      refine iteT ⟨_, rfl, _, rfl, _, _, rfl, rfl, rfl, ?_⟩
      rw [int_dec]
      have : decide ((i : Int) = (n : Int) - 1) = acts .last i n := by
        unfold acts
        by_cases h : i + 1 = n
        · rw [decide_eq_true h, decide_eq_true (by omega)]
        · rw [decide_eq_false h, decide_eq_false (by omega)]
      rw [this]
      exact q
    | any =>
      refine iteF ⟨_, rfl, rfl, _, rfl, ?_⟩
      rw [e2]
      exact iteF q
end
end Wl


namespace Wl
open PySem PySem.Spec PyProof.Rows L2
abbrev wSteps : Stmt := topS 36
/-! a dict comprehension over a walk -/
theorem dc_it {J : It} {n : Nat} {G : Hp → Prop} {Y : Nat → Hp → V → Hp → Prop} (w : L2.Walk J n G Y) {g : TG} {tt : TT} {tk tv : TE} {vs : List Nat} {σ : L2.St} {H1 : Hp} {D : Addr} {Qd : Hp → Prop} (Pv : Nat → Hp → Prop) (h0 : Pv 0 (upd H1 D (.dK []))) (hG : ∀ i H, i ≤ n → Pv i H → G H)
    (hs : ∀ i x H H', i < n → Pv i H → Y i H x H' → g x (wipe σ vs) H' fun σ2 H2 => wipe σ2 vs = wipe σ vs ∧ tt σ2 H2 fun b H3 =>
      if b = true then tk σ2 H3 fun y H4 => tv σ2 H4 fun z H5 => ∃ kvs k, y = kV k ∧ H5 D = some (.dK kvs) ∧ kvs.length < sizeLine ∧ Pv (i + 1) (upd H5 D (.dK (putK kvs k z))) else Pv (i + 1) H3) (hd : ∀ H, Pv n H → Qd H) :
    ∃ W : Nat → Nat → Hp → Prop, (∃ m, W 0 m (upd H1 D (.dK []))) ∧ ∀ i m H, W i m H →
      (J.stop i H ∧ Qd H) ∨ (J.go i H ∧ ∃ Nx : Hp → Prop, (∀ H', Nx H' → ∃ m', m' < m ∧ W (i + 1) m' H') ∧ ∀ x H', J.yld i H x H' → g x (wipe σ vs) H' fun σ2 H2 => wipe σ2 vs = wipe σ vs ∧ tt σ2 H2 fun b H3 =>
        if b = true then tk σ2 H3 fun y H4 => tv σ2 H4 fun z H5 => ∃ kvs k, y = kV k ∧ H5 D = some (.dK kvs) ∧ kvs.length < sizeLine ∧ Nx (upd H5 D (.dK (putK kvs k z))) else Nx H3) := by
  refine ⟨fun i m H => m = n - i ∧ i ≤ n ∧ Pv i H, ⟨n, by simp, Nat.zero_le _, h0⟩, ?_⟩
  rintro i m H ⟨rfl, hi, p⟩
  have q := hG i H hi p
  by_cases hlt : i < n
  · exact .inr ⟨w.goes i H hlt q, Pv (i + 1), fun H' p' => ⟨n - (i + 1), by omega, rfl, hlt, p'⟩, fun x H' y => hs i x H H' hlt p (w.yields i H x H' hlt q y)⟩
  · have e : i = n := by omega
    subst e
    exact .inl ⟨w.stops H q, hd H p⟩
abbrev kS (c : Nat) : Key := Sum.inr (sign c)
theorem kS_inj {a b : Nat} (h : kS a = kS b) : a = b := by
  have e := congrArg (fun z : Str => z.cps.toList) (Sum.inr.inj h)
  simpa [sign] using e
def kvL (ad : Nat → V) (l : List Nat) : List (Key × V) := l.map fun c => (kS c, ad c)
theorem valV_kvL (ad : Nat → V) (c : Nat) : ∀ l : List Nat, valV (kvL ad l) (kS c) = if c ∈ l then some (ad c) else none
  | [] => rfl
  | d :: r => by
    by_cases h : d = c
    · subst h
      rw [if_pos List.mem_cons_self]
      exact valV_pos rfl
    · have h1 : valV (kvL ad (d :: r)) (kS c) = valV (kvL ad r) (kS c) := valV_neg fun e => h (kS_inj e)
      rw [h1, valV_kvL ad c r]
      have h2 : (c ∈ d :: r) = (c ∈ r) := by
        simp only [List.mem_cons, eq_iff_iff]
        constructor
        · rintro (e | e)
          · exact absurd e.symm h
          · exact e
        · exact .inr
      simp only [h2]
theorem kvL_congr {a b : Nat → V} {l : List Nat} (h : ∀ c ∈ l, a c = b c) : kvL a l = kvL b l := List.map_congr_left fun c hc => by rw [h c hc]
structure TurnI (H : Hp) (D : Addr) (ad : Nat → Addr) (E : Edges) : Prop where
  dict : H D = some (.dK (kvL (fun c => .ref (ad c)) (List.range' 97 26)))
  lst : ∀ c, isLet c → H (ad c) = some (.lst ((nbrs E c).map sgV))
  inj : ∀ c d, isLet c → isLet d → ad c = ad d → c = d
theorem let_mem {c : Nat} : isLet c ↔ c ∈ List.range' 97 26 := by
  rw [List.mem_range'_1]
  unfold isLet
  omega
def TurnAt (H : Hp) (D : Addr) (E : Edges) : Prop := ∃ ad, TurnI H D ad E
theorem TurnI.val {H : Hp} {D : Addr} {ad : Nat → Addr} {E : Edges} (t : TurnI H D ad E) {c : Nat} (h : isLet c) : DGet H D (sgV c) (some (.ref (ad c))) := by
  have := DGet.k (k := kS c) t.dict
  rw [valV_kvL, if_pos (let_mem.mp h)] at this
  exact this
theorem TurnI.same {H H' : Hp} {D : Addr} {ad : Nat → Addr} {E : Edges} (t : TurnI H D ad E) (s : Same H H') : TurnI H' D ad E := ⟨s _ _ t.dict, fun c h => s _ _ (t.lst c h), t.inj⟩
theorem room1 {k : Nat} {A : Around} (r : Room k A) : A.units + 1 < cLine := by have := r.un; omega
theorem nbrs_len (E : Edges) (c : Nat) : (nbrs E c).length ≤ 2 * E.length := by
  induction E with
  | nil => simp [nbrs]
  | cons e r ih =>
    have h1 : nbrs (e :: r) c = nbE c e ++ nbrs r c := rfl
    have h2 : (nbE c e).length ≤ 2 := by
      unfold nbE
      split <;> split <;> simp
    rw [h1, List.length_append, List.length_cons]
    omega
theorem es_len (chs : List Chg) (i n : Nat) : (es chs i n).length ≤ chs.length := by
  unfold es
  rw [List.length_map]
  exact List.length_filter_le _ _
theorem es_snoc (l : List Chg) (ch : Chg) (i n : Nat) : es (l ++ [ch]) i n = es l i n ++ (if acts ch.2.2 i n = true then [(ch.1, ch.2.1)] else []) := by
  unfold es
  rw [List.filter_append, List.map_append]
  by_cases h : acts ch.2.2 i n = true
  · simp [h]
  · simp [h]
theorem signs_abc : signsOf "abcdefghijklmnopqrstuvwxyz" = (List.range' 97 26).map sgV := by
  unfold signsOf
  rw [letters_eq]
  rfl
theorem TurnI.push {H : Hp} {D : Addr} {ad : Nat → Addr} {E : Edges} (t : TurnI H D ad E) {a b : Nat} (ha : isLet a) (hb : isLet b) (hn : a ≠ b) :
    TurnI (upd (upd H (ad a) (.lst ((nbrs E a).map sgV ++ [sgV b]))) (ad b) (.lst ((nbrs E b).map sgV ++ [sgV a]))) D ad (E ++ [(a, b)]) := by
  have nab : ad a ≠ ad b := fun e => hn (t.inj a b ha hb e)
  have nd : ∀ c, isLet c → D ≠ ad c := fun c hc => ne_of t.dict (t.lst c hc) (by intro z; cases z)
  refine ⟨?_, fun c hc => ?_, t.inj⟩
  · rw [upd_ne (nd b hb), upd_ne (nd a ha)]
    exact t.dict
  · rw [nbrs_snoc]
    by_cases h1 : b = c
    · subst h1
      rw [upd_same, if_neg hn, if_pos rfl, List.map_append]
      rfl
    · have n1 : ad c ≠ ad b := fun e => h1 (t.inj c b hc hb e).symm
      rw [upd_ne n1, if_neg h1]
      by_cases h2 : a = c
      · subst h2
        rw [upd_same, if_pos rfl, List.map_append]
        rfl
      · have n2 : ad c ≠ ad a := fun e => h2 (t.inj c a hc ha e).symm
        rw [upd_ne n2, if_neg h2, t.lst c hc]
        simp
section
variable {P : Program} {w : World} {K : PySem.W.Frag} {mg : Str → Option Value} {base : Heap} {f : Addr} {fd : FuncData}
def spTurned : Sp := fun vs H Q _ => ∃ (S : Addr) (chs : List Chg) (i n : Nat), vs = [.ref S, .int i, .int n] ∧ ChAt H S chs ∧ OkCs chs ∧ ∀ (D : Addr) (H' : Hp), Same H H' → TurnAt H' D (es chs i n) → Q (.ref D) H'
abbrev nTurned : List Str := ["changes", "place", "length", "turned", "letter", "one", "other", "where"]
theorem scTurned : FnScope nTurned ["changes", "place", "length"] (defScope wTurned) := ⟨rfl, rfl, rfl, by decide +kernel, rfl, by decide +kernel, by decide +kernel⟩
theorem ok_turned (F : Fun K "turned_letters" "turned_letters" wTurned f fd) (G : Gw K mg) (hR : Has P w K mg base "reaches" 1 ["where", "place", "length"] spReaches) : FnOk P w K mg base CX0 2 f fd ["changes", "place", "length"] spTurned := by
  obtain ⟨t1, g1⟩ := G.letters
  refine F.ok scTurned (fun vs H Q E h => ?_) (fun cdv A outer s H vs Q E hr h => ?_)
  · obtain ⟨S, chs, i, n, rfl, _⟩ := h
    rfl
  · obtain ⟨S, chs, pl, n, rfl, ⟨as, hS, hE⟩, ok, q⟩ := h
    refine ⟨_, pss_cons (ps_setDc (i := 3) (own := [("letter", 4)]) (g := gName 4) (tt := tYes) rfl scTurned.nd rfl rfl (sw_dict rfl rfl rfl rfl) (pi_str (pe_glob (v := .str "abcdefghijklmnopqrstuvwxyz") rfl g1 ⟨_, rfl⟩)) (blkOk_by (N := nTurned) (sc := defScope wTurned) (by decide +kernel))
        (fun _ _ _ _ _ => pg_name (i := 4) scTurned.nd rfl (.inl rfl)) (fun _ _ _ _ _ => pts_nil) (fun _ _ _ _ _ => pv 4) (fun _ _ _ _ _ => pe_lst pa_nil))
      (pss_cons (ps_for PassesOwn.never rfl (pi_tup (pv 0)) (pg_tup rfl (pgs_cons (pg_name (i := 5) scTurned.nd rfl (.inl rfl)) (pgs_cons (pg_name (i := 6) scTurned.nd rfl (.inl rfl)) (pgs_cons (pg_name (i := 7) scTurned.nd rfl (.inl rfl)) pgs_nil))))
        (pss_one (ps_if (pt_val (pe_h hR hr (pa_cons (pv 7) (pa_cons (pv 1) (pa_cons (pv 2) pa_nil)))))
          (pss_cons (ps_expr (pe_bm PySem.F.plainAttrs_list PySem.F.slot_list_append PySem.F.type_list_append mt_append (pe_dget (room1 hr) (pv 3) (pv 5) (fun _ _ => rfl)) (pa_cons (pv 6) pa_nil)))
          (pss_one (ps_expr (pe_bm PySem.F.plainAttrs_list PySem.F.slot_list_append PySem.F.type_list_append mt_append (pe_dget (room1 hr) (pv 3) (pv 6) (fun _ _ => rfl)) (pa_cons (pv 5) pa_nil))))) pss_nil)))
      (pss_one (ps_ret (pv 3)))), ?_⟩
    refine ⟨_, rfl, fun D hD => dc_it walk_signs (fun i H' => ∃ ad : Nat → Addr, Same H H' ∧ H' D = some (.dK (kvL (fun c => .ref (ad c)) (List.range' 97 i))) ∧ (∀ c ∈ List.range' 97 i, H' (ad c) = some (.lst []) ∧ H (ad c) = none) ∧ ∀ c d, c ∈ List.range' 97 i → d ∈ List.range' 97 i → ad c = ad d → c = d) ⟨fun _ => 0, same_new hD, upd_same, fun c hc => by simp at hc, fun c d hc => by simp at hc⟩ (fun _ _ _ _ => trivial) ?_ ?_⟩
    · rintro i x H1 H2 hi ⟨ad, s1, hd, hl, hj⟩ ⟨rfl, hx⟩
      have hi26 : i < 26 := by
        rw [signs_abc, List.length_map, List.length_range'] at hi
        exact hi
      rw [signs_abc, List.getElem?_map, List.getElem?_range' hi26] at hx
      obtain rfl := Option.some.inj hx
      have e97 : 97 + 1 * i = 97 + i := by omega
      rw [e97]
      refine ⟨rfl, yes_it ⟨_, rfl, lz, fun p hp => ⟨_, kS (97 + i), rfl, (same_new hp) _ _ hd, ?_, fun c => if c = 97 + i then p else ad c, ?_, ?_, ?_, ?_⟩⟩⟩
      · unfold kvL
        rw [List.length_map, List.length_range']
        exact small1000 (by omega)
      · exact same_mut (s1.trans (same_new hp)) hD
      · rw [upd_same, putK_new]
        · have e : List.range' 97 (i + 1) = List.range' 97 i ++ [97 + i] := by
            have := List.range'_concat (s := 97) (n := i) (step := 1)
            simpa using this
          rw [e]
          unfold kvL
          rw [List.map_append]
          have e2 : (List.range' 97 i).map (fun c => (kS c, V.ref (if c = 97 + i then p else ad c))) = (List.range' 97 i).map fun c => (kS c, V.ref (ad c)) := List.map_congr_left fun c hc => by
            rw [List.mem_range'_1] at hc
            rw [if_neg (by omega)]
          rw [e2]
          simp
        · rw [valV_kvL, if_neg]
          rw [List.mem_range'_1]
          omega
      · intro c hc
        rw [List.mem_range'_1] at hc
        have nD : p ≠ D := (ne_of_none hd hp).symm
        dsimp only
        by_cases h : c = 97 + i
        · rw [if_pos h]
          exact ⟨by rw [upd_ne nD, upd_same], s1.free hp⟩
        · rw [if_neg h]
          obtain ⟨h1, h2⟩ := hl c (by rw [List.mem_range'_1]; omega)
          have n1 : ad c ≠ D := ne_of h1 hd (by intro z; cases z)
          exact ⟨by rw [upd_ne n1]; exact (same_new hp) _ _ h1, h2⟩
      · intro c d hc hd' e
        rw [List.mem_range'_1] at hc hd'
        dsimp only at e
        have np : ∀ c, c < 97 + i → 97 ≤ c → ad c ≠ p := fun c h1 h2 => ne_of_none (hl c (by rw [List.mem_range'_1]; omega)).1 hp
        by_cases h1 : c = 97 + i <;> by_cases h2 : d = 97 + i
        · omega
        · rw [if_pos h1, if_neg h2] at e
          exact absurd e.symm (np d (by omega) (by omega))
        · rw [if_neg h1, if_pos h2] at e
          exact absurd e (np c (by omega) (by omega))
        · rw [if_neg h1, if_neg h2] at e
          exact hj c d (by rw [List.mem_range'_1]; omega) (by rw [List.mem_range'_1]; omega) e
    · rintro H1 ⟨ad, s1, hd, hl, hj⟩
      have e26 : (signsOf "abcdefghijklmnopqrstuvwxyz").length = 26 := by rw [signs_abc, List.length_map, List.length_range']
      rw [e26] at hd hl hj
      have T1 : TurnI H1 D ad (es (chs.take 0) pl n) := ⟨hd, fun c hc => (hl c (let_mem.mp hc)).1, fun c d hc hd' e => hj c d (let_mem.mp hc) (let_mem.mp hd') e⟩
      refine ⟨_, rfl, S, rfl, ⟨_, .inl (.inl (s1 _ _ hS))⟩, for_it (walk_tup (K := K) (a := S) (xs := as.map V.ref)) (fun i σ H' => (∃ y4 y5 y6 y7, σ = [some (.ref S), some (.int pl), some (.int n), some (.ref D), y4, y5, y6, y7]) ∧ Same H H' ∧ TurnI H' D ad (es (chs.take i) pl n)) ⟨⟨_, _, _, _, rfl⟩, s1, T1⟩ (fun i σ H' _ h => .inl (.inl (h.2.1 _ _ hS))) ?_ ?_⟩
      · rintro i x σ H2 H3 hi ⟨⟨y4, y5, y6, y7, rfl⟩, s2, t2⟩ ⟨rfl, hx⟩
        rw [List.getElem?_map] at hx
        obtain ⟨p, hp, rfl⟩ := Option.map_eq_some_iff.mp hx
        obtain ⟨ch, hch, hH⟩ := hE.get hp
        obtain ⟨o1, o2, o3⟩ := ok.2 ch (List.mem_of_getElem? hch)
        have etk : chs.take (i + 1) = chs.take i ++ [ch] := by rw [List.take_add_one, hch]; rfl
        have lenE : ∀ c, ((nbrs (es (chs.take i) pl n) c).map sgV).length < sizeLine := fun c => by
          rw [List.length_map]
          have h1 := nbrs_len (es (chs.take i) pl n) c
          have h2 := es_len (chs.take i) pl n
          have h3 : (chs.take i).length ≤ chs.length := List.length_take_le' _ _
          have h4 := ok.1
          exact small1000 (by omega)
        refine ⟨p, _, rfl, .inl (.inl (s2 _ _ hH)), rfl, _, _, rfl, _, _, rfl, _, _, rfl, rfl, ?_⟩
        refine ⟨_, rfl, _, rfl, _, rfl, ch.2.2, pl, n, rfl, _, rfl, ite_b (fun e => ?_) (fun e => ?_)⟩
        · refine ⟨_, rfl, _, rfl, D, _, rfl, t2.val o1, .inl ⟨rfl, _, .inl (.inl (t2.lst _ o1))⟩, _, rfl, ad ch.1, _, _, rfl, rfl, t2.lst _ o1, lenE _, ?_⟩
          have nab : ad ch.2.1 ≠ ad ch.1 := fun e => o3 (t2.inj _ _ o2 o1 e).symm
          have hb : upd H3 (ad ch.1) (.lst ((nbrs (es (chs.take i) pl n) ch.1).map sgV ++ [sgV ch.2.1])) (ad ch.2.1) = some (.lst ((nbrs (es (chs.take i) pl n) ch.2.1).map sgV)) := by
            rw [upd_ne nab]
            exact t2.lst _ o2
          have hDg : DGet (upd H3 (ad ch.1) (.lst ((nbrs (es (chs.take i) pl n) ch.1).map sgV ++ [sgV ch.2.1]))) D (sgV ch.2.1) (some (.ref (ad ch.2.1))) := by
            have nD : D ≠ ad ch.1 := ne_of t2.dict (t2.lst _ o1) (by intro z; cases z)
            have := DGet.k (k := kS ch.2.1) (show upd H3 (ad ch.1) (.lst ((nbrs (es (chs.take i) pl n) ch.1).map sgV ++ [sgV ch.2.1])) D = _ by rw [upd_ne nD]; exact t2.dict)
            rw [valV_kvL, if_pos (let_mem.mp o2)] at this
            exact this
          refine ⟨_, rfl, _, rfl, D, _, rfl, hDg, .inl ⟨rfl, _, .inl (.inl hb)⟩, _, rfl, ad ch.2.1, _, _, rfl, rfl, hb, lenE _, ⟨_, _, _, _, rfl⟩, ?_, ?_⟩
          · exact same_mut (same_mut s2 (hl _ (let_mem.mp o1)).2) (hl _ (let_mem.mp o2)).2
          · rw [etk, es_snoc, if_pos e]
            exact t2.push o1 o2 o3
        · refine ⟨⟨_, _, _, _, rfl⟩, s2, ?_⟩
          rw [etk, es_snoc, if_neg (by rw [e]; decide), List.append_nil]
          exact t2
      · rintro σ H2 ⟨⟨y4, y5, y6, y7, rfl⟩, s2, t2⟩
        have : chs.take (as.map V.ref).length = chs := by rw [List.length_map, hE.length, List.take_length]
        rw [this] at t2
        exact ⟨_, rfl, q D H2 s2 ⟨ad, t2⟩⟩
end
end Wl


namespace Wl
open PySem PySem.Spec PyProof.Rows L2
abbrev wBetween : Stmt := topS 37
abbrev Tw := List (Nat × Option Nat)
def oS : Option Nat → V
  | none => .non
  | some d => sgV d
def twK (tw : Tw) : List (Key × V) := tw.map fun p => (kS p.1, oS p.2)
theorem twK_snoc (tw : Tw) (c : Nat) (o : Option Nat) : twK (tw ++ [(c, o)]) = twK tw ++ [(kS c, oS o)] := by
  unfold twK
  rw [List.map_append]
  rfl
theorem twK_in (tw : Tw) (c : Nat) : (valV (twK tw) (kS c)).isSome = decide (c ∈ tw.map (·.1)) := by
  rw [← valV_any]
  induction tw with
  | nil => rfl
  | cons p r ih =>
    have e : twK (p :: r) = (kS p.1, oS p.2) :: twK r := rfl
    rw [e, List.any_cons, ih, List.map_cons]
    by_cases h : p.1 = c
    · subst h
      simp
    · have h1 : ¬ kS p.1 = kS c := fun q => h (kS_inj q)
      have h2 : ¬ c = p.1 := fun q => h q.symm
      rw [decide_eq_false h1]
      simp [h2]
theorem twK_none {tw : Tw} {c : Nat} (h : c ∉ tw.map (·.1)) : valV (twK tw) (kS c) = none := by
  have := twK_in tw c
  rw [decide_eq_false h] at this
  cases q : valV (twK tw) (kS c) with
  | none => rfl
  | some v => rw [q] at this; cases this
theorem twK_val : ∀ {tw : Tw} {i c : Nat} {o : Option Nat}, (tw.map (·.1)).Nodup → tw[i]? = some (c, o) → valV (twK tw) (kS c) = some (oS o)
  | [], i, c, o, _, h => by simp at h
  | p :: r, 0, c, o, _, h => by
    simp at h
    subst h
    exact valV_pos rfl
  | p :: r, i + 1, c, o, nd, h => by
    rw [List.map_cons, List.nodup_cons] at nd
    have h' : r[i]? = some (c, o) := by simpa using h
    have hm : c ∈ r.map (·.1) := List.mem_map.mpr ⟨_, List.mem_of_getElem? h', rfl⟩
    have e : valV (twK (p :: r)) (kS c) = valV (twK r) (kS c) := valV_neg fun q => by
      have := kS_inj q
      rw [this] at nd
      exact nd.1 hm
    rw [e]
    exact twK_val nd.2 h'
section
variable {P : Program} {w : World} {K : PySem.W.Frag} {mg : Str → Option Value} {base : Heap} {f : Addr} {fd : FuncData}
def spSteps : Sp := fun vs H Q _ => ∃ (g : Nat) (D : Addr) (E : Edges), vs = [sgV g, .ref D] ∧ isLet g ∧ TurnAt H D E ∧ OkE E ∧ E.length ≤ 12 ∧ ∀ (W : Addr) (tw : Tw) (H' : Hp), Same H H' → H' W = some (.dK (twK tw)) → Bfs E g tw tw.length → Q (.ref W) H'
abbrev nSteps : List Str := ["goal", "turned", "toward", "waiting", "at", "letter", "ahead"]
theorem scSteps : FnScope nSteps ["goal", "turned"] (defScope wSteps) := ⟨rfl, rfl, rfl, by decide +kernel, rfl, by decide +kernel, by decide +kernel⟩
theorem ok_steps (F : Fun K "steps_toward" "steps_toward" wSteps f fd) (B : Bi mg) : FnOk P w K mg base CX0 1 f fd ["goal", "turned"] spSteps := by
  refine F.ok scSteps (fun vs H Q E h => ?_) (fun cdv A outer s H vs Q E hr h => ?_)
  · obtain ⟨g, D, E, rfl, _⟩ := h
    rfl
  · obtain ⟨g, D, Ed, rfl, hg, ⟨ad, t⟩, okE, lE, q⟩ := h
    refine ⟨_, pss_cons (ps_set (i := 2) scSteps.nd rfl (.inl rfl) (pe_disp (pps_cons (pv 0) pe_non pps_nil) rfl rfl (by simp) (by decide)))
      (pss_cons (ps_set (i := 3) scSteps.nd rfl (.inl rfl) (pe_lst (pa_cons (pv 0) pa_nil)))
      (pss_cons (ps_set (i := 4) scSteps.nd rfl (.inl rfl) pe_int)
      (pss_cons (ps_while PassesOwn.never (pt_cmpR op_lt (pv 4) (pe_callB call_len_seq (by rfl) B.len PySem.boot_len (pa_cons (pv 3) pa_nil)) (nomark _))
        (pss_cons (ps_set (i := 5) scSteps.nd rfl (.inl rfl) (pe_ix ix_list (pv 3) (pv 4) (fun _ _ => rfl)))
        (pss_cons (ps_for PassesOwn.never rfl (pi_list (pe_dget (room1 hr) (pv 1) (pv 5) (fun _ _ => rfl))) (pg_name (i := 6) scSteps.nd rfl (.inl rfl))
          (pss_one (ps_if (pt_cmp (pc_dnotin (room1 hr) (pv 6) (pv 2)))
            (pss_cons (ps_dput (room1 hr) (pv 2) (pv 6) (pv 5) rfl)
            (pss_one (ps_expr (pe_bm PySem.F.plainAttrs_list PySem.F.slot_list_append PySem.F.type_list_append mt_append (pv 3) (pa_cons (pv 6) pa_nil))))) pss_nil)))
        (pss_one (ps_aug (i := 4) scSteps.nd rfl (.inl rfl) pe_int ip_add)))))
      (pss_one (ps_ret (pv 2)))))), ?_⟩
    intro W hW
    refine ⟨_, rfl, upd_same, [(kS g, .non)], rfl, by simp, ?_⟩
    have sW : Same H (upd (upd H W (.dK [])) W (.dK (mergeK [] [(kS g, .non)]))) := same_mut (same_new hW) hW
    have eW : (upd (upd H W (.dK [])) W (.dK (mergeK [] [(kS g, .non)]))) W = some (.dK (twK [(g, none)])) := upd_same
    generalize upd (upd H W (.dK [])) W (.dK (mergeK [] [(kS g, .non)])) = H1 at sW eW
    refine ⟨_, rfl, lz, fun L hL => ?_⟩
    have nLW : L ≠ W := (ne_of_none eW hL).symm
    have hL0 : H L = none := sW.free hL
    refine ⟨fun m σ H' => ∃ (tw : Tw) (a : Nat) (y5 y6 : Option V), m = 26 - a ∧ σ = [some (sgV g), some (.ref D), some (.ref W), some (.ref L), some (.int a), y5, y6] ∧ Same H H' ∧ H' W = some (.dK (twK tw)) ∧ H' L = some (.lst (tw.map fun p => sgV p.1)) ∧ Bfs Ed g tw a ∧ a ≤ tw.length,
      ⟨26, [(g, none)], 0, _, _, rfl, rfl, sW.trans (same_new hL), (same_new hL) _ _ eW, upd_same, Bfs.start hg, by simp⟩, ?_⟩
    rintro m σ H2 ⟨tw, a, y5, y6, rfl, rfl, s2, hW2, hL2, b2, ha⟩
    have h26 := b2.len
    refine ⟨_, rfl, _, rfl, L, _, rfl, .inl (.inl (.inl hL2)), _, _, rfl, rfl, _, rfl, ite_b (fun e => ?_) (fun e => ?_)⟩
    · have hlt : a < tw.length := by
        have := of_decide_eq_true e
        rw [List.length_map] at this
        omega
      obtain ⟨⟨x, o⟩, hx⟩ : ∃ p, tw[a]? = some p := ⟨tw[a], List.getElem?_eq_getElem hlt⟩
      have hxl : isLet x := b2.lets x (List.mem_map.mpr ⟨_, List.mem_of_getElem? hx, rfl⟩)
      refine ⟨_, fun σ' H' h => h, ?_⟩
      refine ⟨_, rfl, _, rfl, L, _, _, sgV x, rfl, rfl, .inl (.inl hL2), atI_nat (j := a) (by rw [List.getElem?_map, hx]; rfl), ?_⟩
      have lenN : (nbrs Ed x).length ≤ 24 := by
        have := nbrs_len Ed x
        omega
      refine ⟨_, rfl, _, rfl, D, _, rfl, (t.same s2).val hxl, ad x, rfl, ⟨_, .inl (.inl ((t.same s2).lst x hxl))⟩, for_it (walk_list (K := K) (a := ad x) (xs := (nbrs Ed x).map sgV)) (fun j σ H' => ∃ (tw' : Tw) (y6 : Option V), σ = [some (sgV g), some (.ref D), some (.ref W), some (.ref L), some (.int a), some (sgV x), y6] ∧ Same H H' ∧ H' W = some (.dK (twK tw')) ∧ H' L = some (.lst (tw'.map fun p => sgV p.1)) ∧ Bfs Ed g tw' a ∧ tw'[a]? = some (x, o) ∧ ∀ y ∈ (nbrs Ed x).take j, y ∈ tw'.map (·.1))
        ⟨tw, _, rfl, s2, hW2, hL2, b2, hx, fun y hy => by simp at hy⟩ (fun j σ H' _ h => ?_) ?_ ?_⟩
      · obtain ⟨_, _, _, s3, _⟩ := h
        exact .inl (.inl ((t.same s3).lst x hxl))
      · rintro j v σ H3 H4 hj ⟨tw', y6', rfl, s3, hW3, hL3, b3, hx3, hin⟩ ⟨rfl, hv⟩
        rw [List.getElem?_map] at hv
        obtain ⟨c, hc, rfl⟩ := Option.map_eq_some_iff.mp hv
        have hcn : c ∈ nbrs Ed x := List.mem_of_getElem? hc
        have hcl : isLet c := conn_let okE (Conn.step (.refl x) hcn) hxl
        have l3 := b3.len
        have etk : (nbrs Ed x).take (j + 1) = (nbrs Ed x).take j ++ [c] := by rw [List.take_add_one, hc]; rfl
        refine ⟨_, rfl, _, rfl, W, _, rfl, DGet.k (k := kS c) hW3, _, rfl, ?_⟩
        rw [twK_in]
        refine not_b (fun e => ?_) (fun e => ?_)
        · have hnot := of_decide_eq_false e
          have lK : (twK tw').length < sizeLine := by
            unfold twK
            rw [List.length_map]
            exact small1000 (by omega)
          refine ⟨_, rfl, _, rfl, _, rfl, W, _, rfl, DPut.k (k := kS c) hW3 lK, ?_⟩
          rw [putK_new _ (twK_none hnot)]
          have hL4 : upd H4 W (.dK (twK tw' ++ [(kS c, sgV x)])) L = some (.lst (tw'.map fun p => sgV p.1)) := by
            rw [upd_ne nLW]
            exact hL3
          refine ⟨_, rfl, .inl ⟨rfl, _, .inl (.inl hL4)⟩, _, rfl, L, _, _, rfl, rfl, hL4, ?_, tw' ++ [(c, some x)], _, rfl, ?_, ?_, ?_, b3.push hx3 hcn hcl hnot, ?_, ?_⟩
          · rw [List.length_map]
            exact small1000 (by omega)
          · exact same_mut (same_mut s3 hW) hL0
          · rw [upd_ne nLW.symm, upd_same, twK_snoc]
            rfl
          · rw [upd_same, List.map_append]
            rfl
          · rw [List.getElem?_append_left (List.getElem?_eq_some_iff.mp hx3).1]
            exact hx3
          · intro y hy
            rw [etk] at hy
            rw [List.map_append]
            rcases List.mem_append.mp hy with hy | hy
            · exact List.mem_append_left _ (hin y hy)
            · rw [List.mem_singleton] at hy
              subst hy
              exact List.mem_append_right _ (by simp)
        · have hyes := of_decide_eq_true e
          refine ⟨tw', _, rfl, s3, hW3, hL3, b3, hx3, fun y hy => ?_⟩
          rw [etk] at hy
          rcases List.mem_append.mp hy with hy | hy
          · exact hin y hy
          · rw [List.mem_singleton] at hy
            subst hy
            exact hyes
      · rintro σ H3 ⟨tw', y6', rfl, s3, hW3, hL3, b3, hx3, hin⟩
        have hall : ∀ y ∈ nbrs Ed x, y ∈ tw'.map (·.1) := fun y hy => hin y (by rw [List.length_map, List.take_length]; exact hy)
        have hl3 : a < tw'.length := (List.getElem?_eq_some_iff.mp hx3).1
        exact ⟨_, rfl, _, _, rfl, rfl, 26 - (a + 1), by omega, tw', a + 1, _, _, rfl, rfl, s3, hW3, hL3, b3.next hx3 hall, hl3⟩
    · have hge : tw.length ≤ a := by
        have := of_decide_eq_false e
        rw [List.length_map] at this
        omega
      have : a = tw.length := by omega
      subst this
      exact ⟨_, rfl, q W tw H2 s2 hW2 b2⟩
end
end Wl


namespace Wl
open PySem PySem.Spec PyProof.Rows L2
section
variable {P : Program} {w : World} {K : PySem.W.Frag} {mg : Str → Option Value} {base : Heap} {f : Addr} {fd : FuncData}
def spBetween : Sp := fun vs H Q _ => ∃ (a b : Nat) (D : Addr) (E : Edges), vs = [sgV a, sgV b, .ref D] ∧ isLet b ∧ TurnAt H D E ∧ OkE E ∧ E.length ≤ 12 ∧
  (Conn E b a → ∀ (L : Addr) (cs : List Nat) (H' : Hp), H L = none → Same H H' → H' L = some (.lst (cs.map sgV)) → cs.length ≤ 26 → Q (.ref L) H') ∧ (¬ Conn E b a → ∀ H', Same H H' → Q .non H')
abbrev nBetween : List Str := ["one", "other", "turned", "toward", "row", "letter"]
theorem scBetween : FnScope nBetween ["one", "other", "turned"] (defScope wBetween) := ⟨rfl, rfl, rfl, by decide +kernel, rfl, by decide +kernel, by decide +kernel⟩
theorem ok_between (F : Fun K "letters_between" "letters_between" wBetween f fd) (hS : Has P w K mg base "steps_toward" 1 ["goal", "turned"] spSteps) : FnOk P w K mg base CX0 2 f fd ["one", "other", "turned"] spBetween := by
  refine F.ok scBetween (fun vs H Q E h => ?_) (fun cdv A outer s H vs Q E hr h => ?_)
  · obtain ⟨a, b, D, E, rfl, _⟩ := h
    rfl
  · obtain ⟨a, b, D, Ed, rfl, hb, t, okE, lE, q1, q2⟩ := h
    refine ⟨_, pss_cons (ps_set (i := 3) scBetween.nd rfl (.inl rfl) (pe_h hS hr (pa_cons (pv 1) (pa_cons (pv 2) pa_nil))))
      (pss_cons (ps_if (pt_cmp (pc_dnotin (room1 hr) (pv 0) (pv 3))) (pss_one (ps_ret pe_non)) pss_nil)
      (pss_cons (ps_set (i := 4) scBetween.nd rfl (.inl rfl) (pe_lst pa_nil))
      (pss_cons (ps_set (i := 5) scBetween.nd rfl (.inl rfl) (pe_dget (room1 hr) (pv 3) (pv 0) (fun _ _ => rfl)))
      (pss_cons (ps_while PassesOwn.never (pt_cmp (pc_notN (pv 5)))
        (pss_cons (ps_expr (pe_bm PySem.F.plainAttrs_list PySem.F.slot_list_append PySem.F.type_list_append mt_append (pv 4) (pa_cons (pv 5) pa_nil)))
        (pss_one (ps_set (i := 5) scBetween.nd rfl (.inl rfl) (pe_dget (room1 hr) (pv 3) (pv 5) (fun _ _ => rfl))))))
      (pss_one (ps_ret (pv 4))))))), ?_⟩
    refine ⟨_, rfl, _, rfl, b, D, Ed, rfl, hb, t, okE, lE, fun W tw H1 s1 hW bf => ?_⟩
    refine ⟨_, rfl, _, rfl, W, _, rfl, DGet.k (k := kS a) hW, _, rfl, ?_⟩
    rw [twK_in]
    refine not_b (fun e => ?_) (fun e => ?_)
    · exact q2 (fun c => of_decide_eq_false e ((bf.done (Nat.le_refl _)).mpr c)) H1 s1
    · have hin := of_decide_eq_true e
      have hc : Conn Ed b a := (bf.done (Nat.le_refl _)).mp hin
      obtain ⟨⟨a', o⟩, hm, e1⟩ := List.mem_map.mp hin
      have e1 : a' = a := e1
      subst e1
      obtain ⟨i, hi, e2⟩ := List.mem_iff_getElem.mp hm
      have hti : tw[i]? = some (a', o) := by rw [List.getElem?_eq_getElem hi, e2]
      refine ⟨lz, fun R hR => ?_⟩
      have sR : Same H1 (upd H1 R (.lst [])) := same_new hR
      have hv : DGet (upd H1 R (.lst [])) W (sgV a') (some (oS o)) := by
        have := DGet.k (k := kS a') (sR _ _ hW)
        rw [twK_val bf.nd hti] at this
        exact this
      refine ⟨_, rfl, _, rfl, W, _, rfl, hv, ?_⟩
      refine ⟨fun m σ H' => ∃ (c : Nat) (o : Option Nat) (cs : List Nat), σ = [some (sgV a'), some (sgV b), some (.ref D), some (.ref W), some (.ref R), some (oS o)] ∧ Same H1 H' ∧ H' R = some (.lst (cs.map sgV)) ∧ tw[m]? = some (c, o) ∧ cs.length + m ≤ 26,
        ⟨i, a', o, [], rfl, sR, upd_same, hti, by have := bf.len; simp; omega⟩, ?_⟩
      rintro m σ H2 ⟨c, o, cs, rfl, s2, hR2, ht, hl⟩
      cases o with
      | none =>
        refine ⟨_, rfl, _, rfl, iteF ⟨_, rfl, q1 hc R cs H2 (s1.free hR) (s1.trans s2) hR2 (by omega)⟩⟩
      | some d =>
        obtain ⟨j, o', hj, htj⟩ := bf.par m c d ht
        refine ⟨_, rfl, _, rfl, iteT ⟨_, fun σ' H' h => h, ?_⟩⟩
        have nW : W ≠ R := ne_of_none hW hR
        have hv2 : DGet (upd H2 R (.lst (cs.map sgV ++ [sgV d]))) W (sgV d) (some (oS o')) := by
          have := DGet.k (k := kS d) (show upd H2 R (.lst (cs.map sgV ++ [sgV d])) W = _ by rw [upd_ne nW]; exact s2 _ _ hW)
          rw [twK_val bf.nd htj] at this
          exact this
        refine ⟨_, rfl, .inl ⟨rfl, _, .inl (.inl hR2)⟩, _, rfl, R, _, _, rfl, rfl, hR2, ?_, ?_⟩
        · rw [List.length_map]
          exact small1000 (by omega)
        · refine ⟨_, rfl, _, rfl, W, _, rfl, hv2, j, hj, d, o', cs ++ [d], rfl, same_mut s2 hR, ?_, htj, ?_⟩
          · rw [upd_same, List.map_append]
            rfl
          · rw [List.length_append, List.length_singleton]
            omega
end
end Wl


namespace Wl
open PySem PySem.Spec PyProof.Rows L2
abbrev wRow : Stmt := topS 38
abbrev wAre : Stmt := topS 39
abbrev wLetAt : Stmt := topS 40
abbrev wMean : Stmt := topS 41
section
variable {P : Program} {w : World} {K : PySem.W.Frag} {mg : Str → Option Value} {base : Heap} {f : Addr} {fd : FuncData}
/-- a def whose last parameter may be left out: None -/
abbrev FunN (K : PySem.W.Frag) (x : Str) (st : Stmt) (f : Addr) (fd : FuncData) : Prop := FunD K x x (defArgs st) (defBody st) (defScope st) [.non] [] f fd
def HasN (P : Program) (w : World) (K : PySem.W.Frag) (mg : Str → Option Value) (base : Heap) (x : Str) (st : Stmt) (k : Nat) (ps : List Str) (sp : Sp) : Prop :=
  ∃ f fd, FnOk P w K mg base CX0 k f fd ps sp ∧ mg x = some (.ref f) ∧ FunN K x st f fd
abbrev ps3 : List Str := ["word", "other", "changes"]
theorem bind3 {x : Str} {st : Stmt} (F : FunN K x st f fd) (hs : st = wRow ∨ st = wAre) : Binds K fd ps3 [] := by
  rcases hs with rfl | rfl
  · obtain ⟨ds, h1, h2⟩ := F.binds1 (ps := ps3) 3 1 (by simp) rfl (fun T kV doc pm an cdv ct us its l1 l2 => by
      match us, its, l1, l2 with
      | [a, b, c], [d], _, _ => exact ⟨_, rfl, rfl⟩)
    cases h1
    exact h2
  · obtain ⟨ds, h1, h2⟩ := F.binds1 (ps := ps3) 3 1 (by simp) rfl (fun T kV doc pm an cdv ct us its l1 l2 => by
      match us, its, l1, l2 with
      | [a, b, c], [d], _, _ => exact ⟨_, rfl, rfl⟩)
    cases h1
    exact h2
theorem bindA2 {x : Str} (F : FunN K x wAre f fd) : ∃ ds, Vals [V.non] ds ∧ Binds K fd ps3 ds :=
  F.binds1 (ps := ps3) 2 0 (by simp) rfl (fun T kV doc pm an cdv ct us its l1 l2 => by
      match us, its, l1, l2 with
      | [a, b], [d], _, _ => exact ⟨_, rfl, rfl⟩)
abbrev ps2 : List Str := ["word", "changes"]
theorem bindM2 {x : Str} (F : FunN K x wMean f fd) : Binds K fd ps2 [] := by
  obtain ⟨ds, h1, h2⟩ := F.binds1 (ps := ps2) 2 1 (by simp) rfl (fun T kV doc pm an cdv ct us its l1 l2 => by
      match us, its, l1, l2 with
      | [a, b], [d], _, _ => exact ⟨_, rfl, rfl⟩)
  cases h1
  exact h2
theorem bindM1 {x : Str} (F : FunN K x wMean f fd) : ∃ ds, Vals [V.non] ds ∧ Binds K fd ps2 ds :=
  F.binds1 (ps := ps2) 1 0 (by simp) rfl (fun T kV doc pm an cdv ct us its l1 l2 => by
      match us, its, l1, l2 with
      | [a], [d], _, _ => exact ⟨_, rfl, rfl⟩)
/-! keywords -/
def gA3 {α : Type} : List α → List α → List α → List α
  | [], _, [c, b, a] => [a, b, c]
  | us, _, _ => us
def gA2 {α : Type} : List α → List α → List α → List α
  | [], ds, zs => zs ++ ds
  | us, _, _ => us
def gA1 {α : Type} : List α → List α → List α → List α
  | us, _, zs => us ++ zs
def gM2 {α : Type} : List α → List α → List α → List α
  | [], _, [c, a] => [a, c]
  | us, _, _ => us
theorem vals_app {vs zs : List V} {us ws : List Value} (r : Vals vs us) (s : Vals zs ws) : Vals (vs ++ zs) (us ++ ws) := r.append s
theorem gA3_rel {vs ds zs : List V} {us its ws : List Value} (r1 : Vals vs us) (r2 : Vals ds its) (r3 : Vals zs ws) : Vals (gA3 vs ds zs) (gA3 us its ws) := by
  cases r1 with
  | nil =>
    cases r3 with
    | nil => exact .nil
    | cons a r3 => cases r3 with
      | nil => exact .nil
      | cons b r3 => cases r3 with
        | nil => exact .nil
        | cons c r3 => cases r3 with
          | nil => exact .cons c (.cons b (.cons a .nil))
          | cons d r3 => exact .nil
  | cons a r => exact .cons a r
theorem gM2_rel {vs ds zs : List V} {us its ws : List Value} (r1 : Vals vs us) (r2 : Vals ds its) (r3 : Vals zs ws) : Vals (gM2 vs ds zs) (gM2 us its ws) := by
  cases r1 with
  | nil =>
    cases r3 with
    | nil => exact .nil
    | cons a r3 => cases r3 with
      | nil => exact .nil
      | cons b r3 => cases r3 with
        | nil => exact .cons b (.cons a .nil)
        | cons d r3 => exact .nil
  | cons a r => exact .cons a r
theorem gA2_rel {vs ds zs : List V} {us its ws : List Value} (r1 : Vals vs us) (r2 : Vals ds its) (r3 : Vals zs ws) : Vals (gA2 vs ds zs) (gA2 us its ws) := by
  cases r1 with
  | nil => exact vals_app r3 r2
  | cons a r => exact .cons a r
theorem kwA3 {x : Str} (F : FunN K x wAre f fd) : ∃ its : List Value, KBn K fd ps3 0 ["changes", "other", "word"] (fun us ws => gA3 us its ws) (fun vs zs => gA3 vs [.non] zs) :=
  F.kbindsD (ps := ps3) 0 ["changes", "other", "word"] gA3 (by simp) gA3_rel (fun T kV doc pm an cdv ct us its ws l1 l2 l3 => by
      match us, its, ws, l1, l2, l3 with
      | [], [d], [a, b, c], _, _, _ => exact ⟨_, rfl, rfl⟩)
theorem kwA2 {x : Str} (F : FunN K x wAre f fd) : ∃ its : List Value, KBn K fd ps3 0 ["word", "other"] (fun us ws => gA2 us its ws) (fun vs zs => gA2 vs [.non] zs) :=
  F.kbindsD (ps := ps3) 0 ["word", "other"] gA2 (by simp) gA2_rel (fun T kV doc pm an cdv ct us its ws l1 l2 l3 => by
      match us, its, ws, l1, l2, l3 with
      | [], [d], [a, b], _, _, _ => exact ⟨_, rfl, rfl⟩)
theorem kwA1 {x : Str} (F : FunN K x wAre f fd) : ∃ its : List Value, KBn K fd ps3 2 ["changes"] (fun us ws => gA1 us its ws) (fun vs zs => gA1 vs [.non] zs) :=
  F.kbindsD (ps := ps3) 2 ["changes"] gA1 (by simp) (fun r1 r2 r3 => vals_app r1 r3) (fun T kV doc pm an cdv ct us its ws l1 l2 l3 => by
      match us, its, ws, l1, l2, l3 with
      | [a, b], [d], [c], _, _, _ => exact ⟨_, rfl, rfl⟩)
theorem kwM2 {x : Str} (F : FunN K x wMean f fd) : ∃ its : List Value, KBn K fd ps2 0 ["changes", "word"] (fun us ws => gM2 us its ws) (fun vs zs => gM2 vs [.non] zs) :=
  F.kbindsD (ps := ps2) 0 ["changes", "word"] gM2 (by simp) gM2_rel (fun T kV doc pm an cdv ct us its ws l1 l2 l3 => by
      match us, its, ws, l1, l2, l3 with
      | [], [d], [a, b], _, _, _ => exact ⟨_, rfl, rfl⟩)
theorem kwM1 {x : Str} (F : FunN K x wMean f fd) : ∃ its : List Value, KBn K fd ps2 0 ["word"] (fun us ws => gA2 us its ws) (fun vs zs => gA2 vs [.non] zs) :=
  F.kbindsD (ps := ps2) 0 ["word"] gA2 (by simp) gA2_rel (fun T kV doc pm an cdv ct us its ws l1 l2 l3 => by
      match us, its, ws, l1, l2, l3 with
      | [], [d], [a], _, _, _ => exact ⟨_, rfl, rfl⟩)
end
end Wl


/-! sorted of a list of texts, as a reading; the least of sorted letters stands first. -/
namespace Wl
open PySem PySem.Spec PyProof.Rows L2
def dz (z : Str) : V × PyData := (.str z, .str z)
theorem srt_strs (xs : List Str) : ((xs.map dz).mergeSort (PySem.W.dataLe false (·.2))).map (·.1) = (sortS xs).map V.str := by
  have h : (sortS xs).map dz = (xs.map dz).mergeSort (PySem.W.dataLe false (·.2)) := List.map_mergeSort fun a _ b _ => by
    rw [PySem.W.dataLe_eq]
    exact (le_data_str a b).symm
  rw [← h, List.map_map]
  rfl
theorem srt_reads {K : PySem.W.Frag} {H : Hp} {Q : VK} {a : Addr} {xs : List Str} (h : SqL K H a (xs.map V.str)) (q : ∀ p, H p = none → Q (.ref p) (upd H p (.lst ((sortS xs).map V.str)))) : rSortD K [.ref a] H Q := by
  refine ⟨a, xs.map dz, rfl, ?_, ?_, ?_, ?_, ?_, fun p hp => ?_⟩
  · rw [List.map_map]
    exact h
  · intro b hb
    obtain ⟨x, _, rfl⟩ := List.mem_map.mp hb
    exact .str x
  · intro d hd e he
    obtain ⟨b, hb, rfl⟩ := List.mem_map.mp hd
    obtain ⟨x, _, rfl⟩ := List.mem_map.mp hb
    obtain ⟨c, hc, rfl⟩ := List.mem_map.mp he
    obtain ⟨y, _, rfl⟩ := List.mem_map.mp hc
    rfl
  · refine .inr fun d hd => ?_
    obtain ⟨b, hb, rfl⟩ := List.mem_map.mp hd
    obtain ⟨x, _, rfl⟩ := List.mem_map.mp hb
    exact ⟨(fun e => by cases e), (fun ys e => by cases e)⟩
  · intro b hb
    obtain ⟨x, _, rfl⟩ := List.mem_map.mp hb
    show PyData.depth (.str x) ≤ 8
    simp [PyData.depth]
  · rw [srt_strs]
    exact q p hp
theorem ltS_sign {c d : Nat} : ltS (sign c) (sign d) ↔ c < d := by
  show [c] < [d] ↔ c < d
  constructor
  · intro h
    cases h with
    | rel h => exact h
    | cons h => cases h
  · exact fun h => .rel h
theorem sg_inj1 {c d : Nat} (h : sign c = sign d) : c = d := by
  have e := congrArg (fun z : Str => z.cps.toList) h
  simpa [sign] using e
theorem head_sortS {cs : List Nat} {m : Nat} (hm : m ∈ cs) (hmin : ∀ d ∈ cs, m ≤ d) : (sortS (cs.map sign))[0]? = some (sign m) := by
  have h1 : (sortS (cs.map sign)).Pairwise (fun a b => leB a b = true) := List.pairwise_mergeSort leB_trans leB_total _
  have h2 : sign m ∈ sortS (cs.map sign) := mem_sortS.mpr (List.mem_map.mpr ⟨m, hm, rfl⟩)
  have h3 : ∀ x ∈ sortS (cs.map sign), ∃ c ∈ cs, sign c = x := fun x hx => List.mem_map.mp (mem_sortS.mp hx)
  cases e : sortS (cs.map sign) with
  | nil =>
    rw [e] at h2
    cases h2
  | cons x r =>
    rw [e] at h1 h2 h3
    obtain ⟨c, hc, rfl⟩ := h3 x List.mem_cons_self
    have e2 : c = m := by
      rcases List.mem_cons.mp h2 with h | h
      · exact (sg_inj1 h).symm
      · have q := (List.pairwise_cons.mp h1).1 _ h
        unfold leB at q
        rw [Bool.not_eq_true', decide_eq_false_iff_not, ltS_sign] at q
        have := hmin c hc
        omega
    rw [e2]
    rfl
end Wl

namespace Wl
open PySem PySem.Spec PyProof.Rows L2
theorem cut_len (z : Str) (lo hi : Option Int) : (cutS z lo hi).length ≤ z.length := by
  have e : ∀ x : Str, x.length = x.cps.toList.length := fun x => by simp [Str.length]
  rw [e, e]
  show (List.take _ (List.drop _ z.cps.toList)).length ≤ _
  rw [List.length_take, List.length_drop]
  omega
theorem add_len (x y : Str) : (x ++ y).length = x.length + y.length := by
  rw [TL.len_tl, TL.tl_append, List.length_append, ← TL.len_tl, ← TL.len_tl]
theorem codes_len (z : Str) : (codes z).length = z.length := by simp [codes, Str.length]
theorem ones_sum (l : List Nat) : (l.map fun _ => 1).sum = l.length := by
  induction l with
  | nil => rfl
  | cons x r ih => rw [List.map_cons, List.sum_cons, ih, List.length_cons]; omega
section
variable {P : Program} {w : World} {K : PySem.W.Frag} {mg : Str → Option Value} {base : Heap} {f : Addr} {fd : FuncData}
theorem okN {x : Str} {st : Stmt} {N ps : List Str} {k : Nat} {sp : Sp} (F : FunN K x st f fd) (S : FnScope N ps (defScope st)) (len : ∀ vs H Q E, sp vs H Q E → vs.length = ps.length)
    (hbody : ∀ (cdv : Value) (A : Around) (outer : List Env) (s : Shared) (H : Hp) (vs : List V) (Q : VK) (E : XK), Room k (A.deeper (envOfC x (defScope st) s.heap.objs.size f cdv)) → sp vs H Q E →
      ∃ t, PSs (cxOf CX0 P w K mg base N x (defScope st) f cdv A outer s H E).nox (defBody st) t ∧ t { nx := fun _ H' => Q .non H', rt := Q } (start N vs) H) : FnOk P w K mg base CX0 (k + 1) f fd ps sp :=
  F.ok S len fun cdv A outer s H vs Q E hr hsp => let ⟨t, h, q⟩ := hbody cdv A outer s H vs Q E hr hsp; ⟨t, h.nox, q⟩
def spRow : Sp := fun vs H Q _ => ∃ (z y : Str) (v : V) (chs : List Chg), vs = [.str z, .str y, v] ∧ IsWd z ∧ IsWd y ∧ ChV H v chs ∧ OkCs chs ∧
  (OneP chs z y → ∀ (T : Addr) (xs : List V) (H' : Hp), Same H H' → H' T = some (.tup xs) → Q (.ref T) H') ∧ (¬ OneP chs z y → ∀ H', Same H H' → Q .non H')
abbrev nRow : List Str := ["word", "other", "changes", "known", "row", "place", "goal", "letters", "letter"]
theorem scRow : FnScope nRow ps3 (defScope wRow) := ⟨rfl, rfl, rfl, by decide +kernel, rfl, by decide +kernel, by decide +kernel⟩
theorem ok_row (F : FunN K "row_between" wRow f fd) (B : Bi mg) (hCk : Has P w K mg base "check_word" 2 ["word"] spCheckW) (hCh : Has P w K mg base "checked_changes" 4 ["changes"] spChecked)
    (hB : Has P w K mg base "letters_between" 2 ["one", "other", "turned"] spBetween) (hT : Has P w K mg base "turned_letters" 2 ["changes", "place", "length"] spTurned) : FnOk P w K mg base CX0 5 f fd ps3 spRow := by
  refine okN F scRow (fun vs H Q E h => ?_) (fun cdv A outer s H vs Q E hr h => ?_)
  · obtain ⟨z, y, v, chs, rfl, _⟩ := h
    rfl
  · obtain ⟨z, y, v, chs, rfl, hz, hy, hv, ok, q1, q2⟩ := h
    refine ⟨_, pss_cons (ps_expr (pe_h hCk hr (pa_cons (pv 0) pa_nil))) (pss_cons (ps_expr (pe_h hCk hr (pa_cons (pv 1) pa_nil)))
      (pss_cons (ps_set (i := 3) scRow.nd rfl (.inl rfl) (pe_h hCh hr (pa_cons (pv 2) pa_nil)))
      (pss_cons (ps_if (pt_cmpR op_ne (pe_callB call_len_str (by rfl) B.len PySem.boot_len (pa_cons (pv 0) pa_nil)) (pe_callB call_len_str (by rfl) B.len PySem.boot_len (pa_cons (pv 1) pa_nil)) (nomark _)) (pss_one (ps_ret pe_non)) pss_nil)
      (pss_cons (ps_set (i := 4) scRow.nd rfl (.inl rfl) (pe_lst (pa_cons (pv 0) pa_nil)))
      (pss_cons (ps_for PassesOwn.never rfl (pi_enumS (by rfl) B.enum (pa_cons (pv 1) pa_nil)) (pg_tup rfl (pgs_cons (pg_name (i := 5) scRow.nd rfl (.inl rfl)) (pgs_cons (pg_name (i := 6) scRow.nd rfl (.inl rfl)) pgs_nil)))
        (pss_cons (ps_set (i := 7) scRow.nd rfl (.inl rfl) (pe_h hB hr (pa_cons (pe_ix ix_str (pv 0) (pv 5) (fun _ _ => rfl)) (pa_cons (pv 6) (pa_cons (pe_h hT hr (pa_cons (pv 3) (pa_cons (pv 5) (pa_cons (pe_callB call_len_str (by rfl) B.len PySem.boot_len (pa_cons (pv 0) pa_nil)) pa_nil)))) pa_nil)))))
        (pss_cons (ps_if (pt_cmp (pc_isN (pv 7))) (pss_one (ps_ret pe_non)) pss_nil)
        (pss_one (ps_for PassesOwn.never rfl (pi_list (pv 7)) (pg_name (i := 8) scRow.nd rfl (.inl rfl)) (pss_one (ps_expr (pe_bm PySem.F.plainAttrs_list PySem.F.slot_list_append PySem.F.type_list_append mt_append (pv 4) (pa_cons
          (pe_op op_add_str (pe_op op_add_str (pe_slice sl_str (pv 1) po_none (po_some (pv 5))) (pv 8)) (pe_slice sl_str (pv 0) (po_some (pe_op op_add (pv 5) pe_int)) po_none)) pa_nil)))))))))
      (pss_one (ps_ret (pe_callTy call_tuple_of (by rfl) B.tuple (by decide +kernel) (pa_cons (pv 4) pa_nil))))))))), ?_⟩
    have z8 := hz.len
    have y8 := hy.len
    refine ⟨_, rfl, z, rfl, hz, fun Ha sa => ⟨_, rfl, y, rfl, hy, fun Hb sb => ?_⟩⟩
    refine ⟨_, rfl, v, chs, rfl, hv.same (sa.trans sb), ok, fun S H1 s1 hS => ?_⟩
    have s01 : Same H H1 := (sa.trans sb).trans s1
    refine ⟨_, rfl, _, rfl, lzl (by omega), _, rfl, _, rfl, lzl (by omega), rfl, _, rfl, ?_⟩
    rw [int_dec]
    refine ite_b (fun e => ?_) (fun e => ?_)
    · refine q2 (fun o => ?_) H1 s01
      have := o.1
      rw [codes_len, codes_len] at this
      rw [decide_eq_true (by omega)] at e
      cases e
    · have hl : z.length = y.length := by
        by_cases q : z.length = y.length
        · exact q
        · rw [decide_eq_false (by omega)] at e
          cases e
      refine ⟨_, rfl, lz, fun R hR => ?_⟩
      refine ⟨_, rfl, y, rfl, for_it walk_enumS (fun i σ H' => (∃ y5 y6 y7 y8, σ = [some (.str z), some (.str y), some v, some (.ref S), some (.ref R), y5, y6, y7, y8]) ∧ Same H1 H' ∧ (∃ xs, H' R = some (.lst xs) ∧ xs.length ≤ 1 + 26 * i) ∧ ∀ j a b, j < i → (codes z)[j]? = some a → (codes y)[j]? = some b → Conn (es chs j (codes z).length) b a)
        ⟨⟨_, _, _, _, rfl⟩, same_new hR, ⟨_, upd_same, by simp⟩, fun j a b hj => by omega⟩ (fun _ _ _ _ _ => trivial) ?_ ?_⟩
      · rintro i x σ H2 H3 hi ⟨⟨y5, y6, y7, y8', rfl⟩, s2, ⟨xs, hx, lx⟩, hc⟩ ⟨T, b, rfl, hT, hb, rfl⟩
        have sT : Same H2 (upd H2 T (.tup [.int i, .str (sign b)])) := same_new hT
        refine ⟨T, _, rfl, .inl (.inl upd_same), rfl, _, _, rfl, _, _, rfl, rfl, ?_⟩
        have hiz : i < (codes z).length := by rw [codes_len] at hi ⊢; omega
        obtain ⟨a, ha⟩ : ∃ a, (codes z)[i]? = some a := ⟨_, List.getElem?_eq_getElem hiz⟩
        have hbl : isLet b := (wd_codes.mp hy).2 b (List.mem_of_getElem? hb)
        have hxT : upd H2 T (.tup [.int i, .str (sign b)]) R = some (.lst xs) := sT _ _ hx
        have s2T : Same H1 (upd H2 T (.tup [.int i, .str (sign b)])) := s2.trans sT
        generalize upd H2 T (.tup [.int i, .str (sign b)]) = H3 at hxT s2T
        refine ⟨_, rfl, _, rfl, z, _, a, rfl, rfl, lzl (by omega), atI_nat ha, _, rfl, _, rfl, _, rfl, _, rfl, _, rfl, lzl (by omega), S, chs, i, z.length, rfl, hS.same s2T, ok, fun D H4 s4 t4 => ?_⟩
        rw [← codes_len z] at t4
        refine ⟨a, b, D, es chs i (codes z).length, rfl, hbl, t4, es_ok ok.2 _ _, Nat.le_trans (es_len _ _ _) ok.1, fun cc L cs H5 hLn s5 hL hcs => ?_, fun nc H5 s5 => ?_⟩
        · refine ⟨_, rfl, _, rfl, iteF ⟨_, rfl, L, rfl, ⟨_, .inl (.inl hL)⟩, ?_⟩⟩
          have nLR : R ≠ L := ne_of_none (s4 _ _ hxT) hLn
          refine for_it (walk_list (K := K) (a := L) (xs := cs.map sgV)) (fun j σ H' => (∃ y8, σ = [some (.str z), some (.str y), some v, some (.ref S), some (.ref R), some (.int i), some (sgV b), some (.ref L), y8]) ∧ Same H1 H' ∧ H' L = some (.lst (cs.map sgV)) ∧ ∃ xs, H' R = some (.lst xs) ∧ xs.length ≤ 1 + 26 * i + j)
            ⟨⟨_, rfl⟩, s2T.trans (s4.trans s5), hL, ⟨xs, s5 _ _ (s4 _ _ hxT), by omega⟩⟩ (fun j σ H' _ h => .inl (.inl h.2.2.1)) ?_ ?_
          · rintro j x σ H6 H7 hj ⟨⟨y9, rfl⟩, s6, hL6, xs', hx6, lx6⟩ ⟨rfl, hxj⟩
            rw [List.getElem?_map] at hxj
            obtain ⟨c, hcj, rfl⟩ := Option.map_eq_some_iff.mp hxj
            have l1 : (cutS y none (some (i : Int))).length ≤ 8 := Nat.le_trans (cut_len _ _ _) y8.2
            have l2 : (cutS z (some ((i : Int) + 1)) none).length ≤ 8 := Nat.le_trans (cut_len _ _ _) z8.2
            have l3 : (sign c).length = 1 := rfl
            refine ⟨_, rfl, .inl ⟨rfl, _, .inl (.inl hx6)⟩, ?_⟩
            refine ⟨_, rfl, ⟨_, rfl, _, rfl, y, rfl, lzl (by omega), _, rfl, _, _, rfl, rfl, lzl (by omega), _, rfl, _, rfl, _, _, rfl, rfl, _, rfl, z, rfl, lzl (by omega), _, _, rfl, rfl, lzl (by rw [add_len]; omega), ?_⟩⟩
            refine ⟨R, xs', _, rfl, rfl, hx6, small1000 (by rw [codes_len] at hi; rw [List.length_map] at hj; omega), ⟨_, rfl⟩, same_mut s6 hR, ?_, _, upd_same, ?_⟩
            · rw [upd_ne nLR.symm]
              exact hL6
            · rw [List.length_append, List.length_singleton]
              omega
          · rintro σ H6 ⟨⟨y9, rfl⟩, s6, hL6, xs', hx6, lx6⟩
            refine ⟨⟨_, _, _, _, rfl⟩, s6, ⟨xs', hx6, ?_⟩, fun j a' b' hj h1 h2 => ?_⟩
            · rw [List.length_map] at lx6
              omega
            · by_cases hji : j < i
              · exact hc j a' b' hji h1 h2
              · have : j = i := by omega
                subst this
                rw [ha] at h1
                rw [hb] at h2
                cases h1
                cases h2
                exact cc
        · refine ⟨_, rfl, _, rfl, iteT ?_⟩
          exact q2 (fun o => nc (o.2 i a b ha hb)) H5 (s01.trans (s2T.trans (s4.trans s5)))
      · rintro σ H2 ⟨⟨y5, y6, y7, y8', rfl⟩, s2, ⟨xs, hx, lx⟩, hc⟩
        refine ⟨_, rfl, R, xs, rfl, .inl ⟨.inl (.inl hx), fun l hl2 => ?_⟩⟩
        refine q1 ⟨by rw [codes_len, codes_len]; exact hl, fun j a b h1 h2 => hc j a b ?_ h1 h2⟩ l xs _ (s01.trans (s2.trans (same_new hl2))) upd_same
        exact (List.getElem?_eq_some_iff.mp h2).1
def spAre : Sp := fun vs H Q _ => ∃ (z y : Str) (v : V) (chs : List Chg), vs = [.str z, .str y, v] ∧ IsWd z ∧ IsWd y ∧ ChV H v chs ∧ OkCs chs ∧
  ∀ (b : Bool) (H' : Hp), Same H H' → (b = true ↔ OneP chs z y) → Q (.bl b) H'
theorem scAre : FnScope ps3 ps3 (defScope wAre) := ⟨rfl, rfl, rfl, by decide +kernel, rfl, by decide +kernel, by decide +kernel⟩
theorem ok_are (F : FunN K "are_one" wAre f fd) (hR : HasN P w K mg base "row_between" wRow 5 ps3 spRow) : FnOk P w K mg base CX0 6 f fd ps3 spAre := by
  refine okN F scAre (fun vs H Q E h => ?_) (fun cdv A outer s H vs Q E hr h => ?_)
  · obtain ⟨z, y, v, chs, rfl, _⟩ := h
    rfl
  · obtain ⟨z, y, v, chs, rfl, hz, hy, hv, ok, q⟩ := h
    obtain ⟨f1, fd1, F1, m1, N1⟩ := hR
    have b1 := bind3 N1 (.inl rfl)
    refine ⟨_, pss_one (ps_ret (pe_cmp (pc_notN (pe_call F1 hr rfl m1 N1.kp b1 .nil pass0 (pa_cons (pv 0) (pa_cons (pv 1) (pa_cons (pv 2) pa_nil))))))), ?_⟩
    refine ⟨_, rfl, _, rfl, _, rfl, z, y, v, chs, rfl, hz, hy, hv, ok, fun o T xs H1 s1 hT => ?_, fun no H1 s1 => ?_⟩
    · exact q true H1 s1 ⟨fun _ => o, fun _ => rfl⟩
    · exact q false H1 s1 ⟨(fun e => by cases e), fun o => absurd o no⟩
def spLetAt : Sp := fun vs H Q _ => ∃ (z : Str) (i b : Nat) (S : Addr) (chs : List Chg), vs = [.str z, .int (i : Int), .ref S] ∧ IsWd z ∧ (codes z)[i]? = some b ∧ ChAt H S chs ∧ OkCs chs ∧
  ∀ (L : Addr) (cs : List Nat) (H' : Hp), Same H H' → H' L = some (.lst ((sortS (cs.map sign)).map V.str)) → (∀ d, d ∈ cs ↔ Conn (es chs i (codes z).length) b d) → Q (.ref L) H'
theorem scLetAt : FnScope ["word", "place", "changes"] ["word", "place", "changes"] (defScope wLetAt) := ⟨rfl, rfl, rfl, by decide +kernel, rfl, by decide +kernel, by decide +kernel⟩
theorem ok_letat (F : Fun K "letters_at" "letters_at" wLetAt f fd) (B : Bi mg) (hS : Has P w K mg base "steps_toward" 1 ["goal", "turned"] spSteps) (hT : Has P w K mg base "turned_letters" 2 ["changes", "place", "length"] spTurned) : FnOk P w K mg base CX0 3 f fd ["word", "place", "changes"] spLetAt := by
  refine F.ok scLetAt (fun vs H Q E h => ?_) (fun cdv A outer s H vs Q E hr h => ?_)
  · obtain ⟨z, i, b, S, chs, rfl, _⟩ := h
    rfl
  · obtain ⟨z, i, b, S, chs, rfl, hz, hb, hS', ok, q⟩ := h
    refine ⟨_, pss_one (ps_ret (pe_callB (cr_sortD hr.units) (by rfl) B.sorted (by decide +kernel) (pa_cons (pe_callTy (call_list_dK rfl) (by rfl) B.list (by decide +kernel) (pa_cons (pe_h hS hr (pa_cons (pe_ix ix_str (pv 0) (pv 1) (fun _ _ => rfl)) (pa_cons (pe_h hT hr (pa_cons (pv 2) (pa_cons (pv 1) (pa_cons (pe_callB call_len_str (by rfl) B.len PySem.boot_len (pa_cons (pv 0) pa_nil)) pa_nil)))) pa_nil))) pa_nil)) pa_nil))), ?_⟩
    have z8 := hz.len
    have hbl : isLet b := (wd_codes.mp hz).2 b (List.mem_of_getElem? hb)
    refine ⟨_, rfl, _, rfl, z, _, b, rfl, rfl, lzl (by omega), atI_nat hb, _, rfl, _, rfl, _, rfl, _, rfl, lzl (by omega), S, chs, i, z.length, rfl, hS', ok, fun D H4 s4 t4 => ?_⟩
    rw [← codes_len z] at t4
    refine ⟨b, D, es chs i (codes z).length, rfl, hbl, t4, es_ok ok.2 _ _, Nat.le_trans (es_len _ _ _) ok.1, fun W tw H5 s5 hW bf => ?_⟩
    refine ⟨W, _, rfl, hW, fun L hL => ?_⟩
    have eL : (twK tw).map (fun kv => kV kv.1) = ((tw.map (·.1)).map sign).map V.str := by
      unfold twK
      rw [List.map_map, List.map_map, List.map_map]
      rfl
    dsimp only [tNil]
    refine srt_reads (K := K) (xs := (tw.map (·.1)).map sign) (.inl (.inl (by rw [upd_same, eL]))) fun p hp => ?_
    exact q p (tw.map (·.1)) _ (s4.trans (s5.trans ((same_new hL).trans (same_new hp)))) upd_same fun d => bf.done (Nat.le_refl _)
def spMean : Sp := fun vs H Q _ => ∃ (z : Str) (v : V) (chs : List Chg), vs = [.str z, v] ∧ IsWd z ∧ ChV H v chs ∧ OkCs chs ∧ ∀ (H' : Hp), Same H H' → Q (.str (mean chs z)) H'
abbrev nMean : List Str := ["word", "changes", "known", "place"]
theorem scMean : FnScope nMean ps2 (defScope wMean) := ⟨rfl, rfl, rfl, by decide +kernel, rfl, by decide +kernel, by decide +kernel⟩
theorem room64 {k : Nat} {A : Around} (r : Room k A) : A.units + 64 < cLine := by have := r.un; omega
theorem ok_mean (F : FunN K "meaning" wMean f fd) (B : Bi mg) (hCk : Has P w K mg base "check_word" 2 ["word"] spCheckW) (hCh : Has P w K mg base "checked_changes" 4 ["changes"] spChecked)
    (hL : Has P w K mg base "letters_at" 3 ["word", "place", "changes"] spLetAt) : FnOk P w K mg base CX0 5 f fd ps2 spMean := by
  refine okN F scMean (fun vs H Q E h => ?_) (fun cdv A outer s H vs Q E hr h => ?_)
  · obtain ⟨z, v, chs, rfl, _⟩ := h
    rfl
  · obtain ⟨z, v, chs, rfl, hz, hv, ok, q⟩ := h
    refine ⟨_, pss_cons (ps_expr (pe_h hCk hr (pa_cons (pv 0) pa_nil)))
      (pss_cons (ps_set (i := 2) scMean.nd rfl (.inr rfl) (pe_h hCh hr (pa_cons (pv 1) pa_nil)))
      (pss_one (ps_ret (pe_join pe_str (pe_lc (own := [("place", 3)]) (g := gName 3) (tt := tYes) (te := tOp (rIxL K) (tCall spLetAt [] E0 (tCons (tVar 0) (tCons (tVar 3) (tCons (tVar 2) tNil)))) (tC (.int 0))) rfl scMean.nd (pi_range1 rfl B.range (pa_cons (pe_callB call_len_str (by rfl) B.len PySem.boot_len (pa_cons (pv 0) pa_nil)) pa_nil)) (blkOk_by (N := nMean) (sc := defScope wMean) (by decide +kernel))
        (fun _ _ _ _ _ => pg_name (i := 3) scMean.nd rfl (.inl rfl)) (fun _ _ _ _ _ => pts_nil) (fun _ _ _ _ _ => pe_ix ix_list (pe_h hL hr (pa_cons (pv 0) (pa_cons (pv 3) (pa_cons (pv 2) pa_nil)))) pe_int (fun _ _ => rfl))))))), ?_⟩
    have z8 := hz.len
    refine ⟨_, rfl, z, rfl, hz, fun Ha sa => ⟨_, rfl, v, chs, rfl, hv.same sa, ok, fun S H1 s1 hS => ?_⟩⟩
    have s01 : Same H H1 := sa.trans s1
    refine ⟨⟨_, rfl⟩, _, rfl, _, rfl, lzl (by omega), (z.length : Int), rfl, by omega, by omega, fun D hD => lc_range (lo := 0) (n := z.length) (fun i H' => Same H1 H' ∧ H' D = some (.lst ((((codes (mean chs z)).take i).map sign).map V.str))) ⟨same_new hD, upd_same⟩ ?_ ?_⟩
    · rintro i H2 hi ⟨s2, hD2⟩
      obtain ⟨b, hb⟩ : ∃ b, (codes z)[i]? = some b := ⟨_, List.getElem?_eq_getElem (by rw [codes_len]; exact hi)⟩
      have ei : (0 : Int) + (i : Int) = (i : Int) := by omega
      rw [ei]
      refine ⟨rfl, yes_it ⟨_, rfl, _, rfl, _, rfl, z, i, b, S, chs, rfl, hz, hb, hS.same s2, ok, fun L cs H3 s3 hL3 hcs => ?_⟩⟩
      have hlo : ∀ d ∈ cs, lo (es chs i (codes z).length) b ≤ d := fun d hd => lo_le ((hcs d).mp hd)
      have hhd := head_sortS ((hcs _).mpr (lo_conn (es chs i (codes z).length) b)) hlo
      refine ⟨L, _, 0, .str (sign (lo (es chs i (codes z).length) b)), rfl, rfl, .inl (.inl hL3), atI_nat (j := 0) (by rw [List.getElem?_map, hhd]; rfl), _, s3 _ _ hD2, ?_, same_mut (s2.trans s3) hD, ?_⟩
      · rw [List.length_map, List.length_map]
        have h1 : ((codes (mean chs z)).take i).length ≤ (codes (mean chs z)).length := List.length_take_le' _ _
        rw [mean_len, codes_len] at h1
        exact small1000 (by omega)
      · rw [upd_same, List.take_add_one, mean_at chs z hb, List.map_append, List.map_append]
        rfl
    · rintro H2 ⟨s2, hx⟩
      have e1 : (codes (mean chs z)).take z.length = codes (mean chs z) := by rw [← codes_len z, ← mean_len chs z, List.take_length]
      rw [e1] at hx
      refine ⟨_, D, (codes (mean chs z)).map sign, rfl, rfl, .inl (.inl (.inl hx)), ?_, ?_⟩
      · have e0 : ("" : Str).length = 0 := by decide +kernel
        have e1 : ((codes (mean chs z)).map sign).map (·.length) = (codes (mean chs z)).map fun _ => 1 := by
          rw [List.map_map]
          rfl
        rw [e0, e1, Nat.mul_zero, ones_sum, mean_len, codes_len]
        omega
      · have e2 : Txt.join ("" : Str) ((codes (mean chs z)).map sign) = mean chs z := str_ext (join_signs _)
        rw [e2]
        exact q H2 (s01.trans s2)
end
end Wl


namespace Wl
open PySem PySem.Spec PyProof.Rows L2

/-! ### the text by places -/
abbrev sCell : Stmt := topS 43
abbrev sPurse : Stmt := topS 44
abbrev sPick : Stmt := topS 45
abbrev sMenu : Stmt := topS 46
abbrev sWord : Stmt := topS 47

section
variable {P : Program} {w : World} {K : PySem.W.Frag} {mg : Str → Option Value} {base : Heap} {f : Addr} {fd : FuncData}

/-! ### a cell of the script: some int -/
def spCell (K : PySem.W.Frag) : Sp := fun vs H Q _ => ∃ (a : Addr) (ns : List Int) (k : Int), vs = [.ref a, .int k] ∧ SqL K H a (ns.map V.int) ∧ 0 ≤ k ∧ k ≤ 63 ∧
  ∀ (v : Int) (H' : Hp), Same H H' → Q (.int v) H'
theorem scCell : FnScope ["_law_script", "_law_k", "_law_state", "_law_cell_here"] ["_law_script", "_law_k"] (defScope sCell) :=
  ⟨rfl, rfl, rfl, by decide +kernel, rfl, by decide +kernel, by decide +kernel⟩
theorem mem_cut {xs : List V} {lo hi : Option Int} {v : V} (h : v ∈ cutV xs lo hi) : v ∈ xs := List.mem_of_mem_drop (List.mem_of_mem_take h)
theorem ok_cell (F : Fun K "_law_cell" "_law_cell" sCell f fd) (B : Bi mg) : FnOk P w K mg base CX0 1 f fd ["_law_script", "_law_k"] (spCell K) := by
  refine F.ok scCell (fun vs H Q E h => ?_) (fun cdv A outer s H vs Q E hr h => ?_)
  · obtain ⟨a, ns, k, rfl, _⟩ := h
    rfl
  · obtain ⟨a, ns, k, rfl, hS, k0, k1, q⟩ := h
    refine ⟨_, pss_cons (ps_if (pt_cmpR op_lt (pv 1) (pe_callB call_len_seq (by rfl) B.len PySem.boot_len (pa_cons (pv 0) pa_nil)) (nomark _)) (pss_one (ps_ret (pe_ix ix_list (pv 0) (pv 1) (fun _ _ => rfl)))) pss_nil)
      (pss_cons (ps_set (i := 2) scCell.nd rfl (.inl rfl) (pe_op op_mod (pe_op op_mul pe_int (pe_op op_add (pe_op op_add (pe_op op_mul (pv 1) (pv 1)) (pe_op op_mul pe_int (pv 1))) pe_int)) pe_int))
      (pss_cons (ps_for PassesOwn.never rfl (pi_list (pe_slice sl_list (pv 0) po_none (po_some pe_int))) (pg_name (i := 3) scCell.nd rfl (.inl rfl))
        (pss_one (ps_set (i := 2) scCell.nd rfl (.inl rfl) (pe_op op_mod (pe_op op_add (pe_op op_mul (pv 2) pe_int) (pv 3)) pe_int))))
      (pss_one (ps_ret (pv 2))))), ?_⟩
    refine ⟨_, rfl, .ref a, rfl, a, _, rfl, .inl hS, _, _, rfl, rfl, _, rfl, ite_b (fun e => ?_) (fun e => ?_)⟩
    · have hk : k < ((ns.map V.int).length : Int) := of_decide_eq_true e
      rw [List.length_map] at hk
      have hk2 : k.toNat < ns.length := by omega
      refine ⟨_, rfl, _, rfl, a, _, k, .int ns[k.toNat], rfl, rfl, hS, at_of (j := k.toNat) (by omega) ?_, q _ H (Same.refl H)⟩
      rw [List.getElem?_map, List.getElem?_eq_getElem hk2]
      rfl
    · refine ⟨_, rfl, _, rfl, k, k, rfl, rfl, .inl ⟨by omega, by omega⟩, _, rfl, 5, k, rfl, rfl, .inl ⟨by decide, by decide⟩, _, _, rfl, rfl, _, _, rfl, rfl, _, _, rfl, rfl, .inl ⟨by decide, by decide⟩, _, _, rfl, rfl, (show (0 : Int) < 1000000033 by decide), ?_⟩
      refine ⟨_, rfl, 4, rfl, a, _, rfl, hS, fun p hp => ?_⟩
      have hc : SqL K (upd H p (.lst (cutV (ns.map V.int) none (some 4)))) p (cutV (ns.map V.int) none (some 4)) := .inl (.inl upd_same)
      refine ⟨p, rfl, ⟨_, hc⟩, for_list (K := K) (a := p) (xs := cutV (ns.map V.int) none (some 4)) (fun i σ H' => (∃ (z : Int) (y : Option V), σ = [some (.ref a), some (.int k), some (.int z), y]) ∧ H' = upd H p (.lst (cutV (ns.map V.int) none (some 4))))
        ⟨⟨_, _, rfl⟩, rfl⟩ (fun i σ H' _ h => by rw [h.2]; exact hc) ?_ ?_⟩
      · rintro i x σ H' hx ⟨⟨z, y, rfl⟩, rfl⟩
        obtain ⟨n, rfl⟩ : ∃ n, x = V.int n := by
          obtain ⟨n, _, e⟩ := List.mem_map.mp (mem_cut (List.mem_of_getElem? hx))
          exact ⟨n, e.symm⟩
        refine ⟨_, rfl, z, 30029, rfl, rfl, .inr ⟨by decide, by decide⟩, _, rfl, _, _, rfl, rfl, _, _, rfl, rfl, (show (0 : Int) < 1000000033 by decide), ⟨⟨_, _, rfl⟩, rfl⟩⟩
      · rintro σ H' ⟨⟨z, y, rfl⟩, rfl⟩
        exact ⟨_, rfl, q _ _ (same_new hp)⟩

/-! ### the purse -/
def PurseAt (H : Hp) (a : Addr) : Prop := ∃ s b c : Int, H a = some (.lst [.int s, .int b, .int c]) ∧ 0 ≤ b
theorem PurseAt.same {H H' : Hp} {a : Addr} (h : PurseAt H a) (s : Same H H') : PurseAt H' a := by
  obtain ⟨s0, b, c, ha, hb⟩ := h
  exact ⟨s0, b, c, s _ _ ha, hb⟩
theorem PurseAt.ne {H : Hp} {a p : Addr} (h : PurseAt H a) (hp : H p = none) : p ≠ a := by
  obtain ⟨s0, b, c, ha, hb⟩ := h
  exact (ne_of_none ha hp).symm
theorem PurseAt.lst {H : Hp} {a : Addr} (h : PurseAt H a) : ∃ ys, H a = some (.lst ys) := by
  obtain ⟨s0, b, c, ha, hb⟩ := h
  exact ⟨_, ha⟩
def spPurse : Sp := fun vs H Q _ => ∃ (n : Int), vs = [.int n] ∧ ∀ (a : Addr) (H' : Hp), H a = none → Same H H' → PurseAt H' a → Q (.ref a) H'
theorem scPurse : FnScope ["_law_cell_here"] ["_law_cell_here"] (defScope sPurse) :=
  ⟨rfl, rfl, rfl, by decide +kernel, rfl, by decide +kernel, by decide +kernel⟩
theorem ok_purse (F : Fun K "_law_purse" "_law_purse" sPurse f fd) (B : Bi mg) : FnOk P w K mg base CX0 1 f fd ["_law_cell_here"] spPurse := by
  refine F.ok scPurse (fun vs H Q E h => ?_) (fun cdv A outer s H vs Q E hr h => ?_)
  · obtain ⟨n, rfl, _⟩ := h
    rfl
  · obtain ⟨n, rfl, q⟩ := h
    refine ⟨_, pss_one (ps_ret (pe_lst (pa_cons (pe_op op_add (pe_op op_mul (pe_op op_mod (pv 0) pe_int) pe_int) pe_int)
      (pa_cons (pe_ix ix_list (pe_lst (pa_cons pe_int (pa_cons (pv 0) pa_nil))) (pe_callTy call_int1 (by rfl) B.int (by decide +kernel) (pa_cons (pe_cmpR op_ge (pv 0) (pe_op op_pow pe_int pe_int) (nomark _)) pa_nil)) (fun _ _ => rfl))
      (pa_cons pe_int pa_nil))))), ?_⟩
    refine ⟨_, rfl, _, _, rfl, rfl, (show (0 : Int) < 1000000033 by decide), _, _, rfl, rfl, .inr ⟨by decide, by decide⟩, _, _, rfl, rfl, _, rfl, lz, fun p hp => ?_⟩
    have e18 : (10 : Int) ^ (18 : Int).toNat = 1000000000000000000 := by decide
    refine ⟨_, rfl, 10, 18, rfl, rfl, ⟨by decide, by decide, by decide⟩, _, _, rfl, rfl, .inr ⟨_, rfl, ?_⟩⟩
    refine ⟨p, [.int 0, .int n], _, .int (if decide ((10 : Int) ^ (18 : Int).toNat ≤ n) = true then n else 0), rfl, rfl, .inl (.inl upd_same), ?_, lz, fun a ha => ?_⟩
    · by_cases c : (10 : Int) ^ (18 : Int).toNat ≤ n
      · simp only [decide_eq_true c, if_true]
        exact atI_nat (j := 1) rfl
      · simp only [decide_eq_false c]
        exact atI_nat (j := 0) rfl
    · have hp2 : Same H (upd H p (.lst [.int 0, .int n])) := same_new hp
      refine q a _ (hp2.free ha) (hp2.trans (same_new ha)) ⟨_, _, _, upd_same, ?_⟩
      by_cases c : (10 : Int) ^ (18 : Int).toNat ≤ n
      · simp only [decide_eq_true c, if_true]
        rw [e18] at c
        omega
      · simp only [decide_eq_false c]
        exact Int.le_refl 0
/-! ### a pick: some number below many -/
def spPick : Sp := fun vs H Q _ => ∃ (a : Addr) (m : Int), vs = [.ref a, .int m] ∧ PurseAt H a ∧ 0 < m ∧ m < 1073741824 ∧
  ∀ (r : Int) (H' : Hp), 0 ≤ r → r < m → PurseAt H' a → SameX a H H' → (∀ p, H p = none → H' p = none) → Q (.int r) H'
theorem scPick : FnScope ["_law_purse_here", "_law_many", "_law_state", "_law_taken"] ["_law_purse_here", "_law_many"] (defScope sPick) :=
  ⟨rfl, rfl, rfl, by decide +kernel, rfl, by decide +kernel, by decide +kernel⟩
theorem none_upd {H : Hp} {a : Addr} {o u : HO} (h : H a = some o) : ∀ p, H p = none → upd H a u p = none := fun p hp => by
  rw [upd_ne (ne_of_none h hp).symm]
  exact hp
theorem ok_pick (F : Fun K "_law_pick" "_law_pick" sPick f fd) : FnOk P w K mg base CX0 1 f fd ["_law_purse_here", "_law_many"] spPick := by
  refine F.ok scPick (fun vs H Q E h => ?_) (fun cdv A outer s H vs Q E hr h => ?_)
  · obtain ⟨a, m, rfl, _⟩ := h
    rfl
  · obtain ⟨a, m, rfl, ⟨s0, b, c, ha, hb⟩, m0, m1, q⟩ := h
    refine ⟨_, pss_cons (ps_asg (pe_op op_add (pe_ix ix_list (pv 0) pe_int (fun _ _ => rfl)) pe_int) (pg_sub (pv 0) pe_int set_list))
      (pss_cons (ps_set (i := 2) scPick.nd rfl (.inl rfl) (pe_op op_mod (pe_ix ix_list (pv 0) pe_int (fun _ _ => rfl)) pe_int))
      (pss_cons (ps_asg (pe_op op_add (pe_op op_mul (pv 2) (pe_op op_add (pe_op op_mod (pv 2) pe_int) pe_int)) (pe_op op_mul pe_int (pe_ix ix_list (pv 0) pe_int (fun _ _ => rfl)))) (pg_sub (pv 0) pe_int set_list))
      (pss_cons (ps_if (pt_cmpR op_gt (pe_ix ix_list (pv 0) pe_int (fun _ _ => rfl)) pe_int (nomark _))
        (pss_cons (ps_set (i := 3) scPick.nd rfl (.inl rfl) (pe_op op_mod (pe_ix ix_list (pv 0) pe_int (fun _ _ => rfl)) (pv 1)))
        (pss_cons (ps_asg (pe_op op_fdiv (pe_ix ix_list (pv 0) pe_int (fun _ _ => rfl)) (pv 1)) (pg_sub (pv 0) pe_int set_list))
        (pss_one (ps_ret (pv 3))))) pss_nil)
      (pss_one (ps_ret (pe_op op_mod (pe_op op_fdiv (pe_op op_mod (pe_ix ix_list (pv 0) pe_int (fun _ _ => rfl)) pe_int) pe_int) (pv 1))))))), ?_⟩
    have hmod : ∀ x : Int, 0 ≤ x % 1000000033 ∧ x % 1000000033 < 1000000033 := fun x => by omega
    refine ⟨_, rfl, a, _, 2, .int c, rfl, rfl, .inl (.inl ha), atI_nat (j := 2) rfl, _, _, rfl, rfl, _, rfl, a, _, 2, 2, rfl, rfl, ha, rfl, ?_⟩
    refine ⟨_, rfl, a, _, 0, .int s0, rfl, rfl, .inl (.inl upd_same), atI_nat (j := 0) rfl, _, _, rfl, rfl, (show (0 : Int) < 1000000033 by decide), ?_⟩
    refine ⟨_, rfl, _, rfl, _, _, rfl, rfl, (show (0 : Int) < 60013 by decide), _, _, rfl, rfl, _, _, rfl, rfl, .inl ⟨by have := hmod s0; omega, by have := hmod s0; omega⟩,
      _, rfl, a, _, 2, _, rfl, rfl, .inl (.inl upd_same), atI_nat (j := 2) rfl, _, _, rfl, rfl, .inl ⟨by decide, by decide⟩, _, _, rfl, rfl, _, rfl, a, _, 0, 0, rfl, rfl, upd_same, rfl, ?_⟩
    refine ⟨_, rfl, a, _, 1, .int b, rfl, rfl, .inl (.inl upd_same), atI_nat (j := 1) rfl, _, _, rfl, rfl, _, rfl, ite_b (fun e => ?_) (fun e => ?_)⟩
    · refine ⟨_, rfl, a, _, 1, .int b, rfl, rfl, .inl (.inl upd_same), atI_nat (j := 1) rfl, _, rfl, b, m, rfl, rfl, m0, ?_⟩
      refine ⟨_, rfl, a, _, 1, .int b, rfl, rfl, .inl (.inl upd_same), atI_nat (j := 1) rfl, _, rfl, b, m, rfl, rfl, ⟨m0, m1⟩, _, rfl, a, _, 1, 1, rfl, rfl, upd_same, rfl, ?_⟩
      refine ⟨_, rfl, q _ _ (Int.emod_nonneg _ (by omega)) (Int.emod_lt_of_pos _ m0) ⟨_, _, _, upd_same, ?_⟩ (((sameX_upd).trans sameX_upd).trans sameX_upd) fun p hp => ?_⟩
      · exact Int.ediv_nonneg hb (by omega)
      · exact none_upd upd_same p (none_upd upd_same p (none_upd ha p hp))
    · refine ⟨_, rfl, a, _, 0, _, rfl, rfl, .inl (.inl upd_same), atI_nat (j := 0) rfl, _, _, rfl, rfl, (show (0 : Int) < 1000000033 by decide), _, _, rfl, rfl, ⟨by decide, by decide⟩, _, rfl, _, m, rfl, rfl, m0, ?_⟩
      exact q _ _ (Int.emod_nonneg _ (by omega)) (Int.emod_lt_of_pos _ m0) ⟨_, _, _, upd_same, hb⟩ ((sameX_upd).trans sameX_upd) fun p hp => none_upd upd_same p (none_upd ha p hp)

/-! ### the menu, a word -/
def menuW : List Str := ["put", "doubt", "strike", "back", "change", "one", "map", "words", "parted", "line", "rings", "thin", "fate", "asks", "habit", "apart", "near", "paper", "ok", "no", "none", "self", "may", "not", "has", "any"]
theorem menu_wd : ∀ z ∈ menuW, IsWd z := by decide +kernel
theorem menu_len : menuW.length = 26 := by decide +kernel
def spMenu : Sp := fun vs H Q _ => vs = [] ∧ ∀ (p : Addr) (H' : Hp), H p = none → Same H H' → H' p = some (.lst (menuW.map V.str)) → Q (.ref p) H'
theorem scMenu : FnScope ["_law_some"] [] (defScope sMenu) := ⟨rfl, rfl, rfl, by decide +kernel, rfl, by decide +kernel, by decide +kernel⟩
theorem ok_menu (F : Fun K "_law_menu" "_law_menu" sMenu f fd) : FnOk P w K mg base CX0 1 f fd [] spMenu := by
  refine F.ok scMenu (fun vs H Q E h => ?_) (fun cdv A outer s H vs Q E hr h => ?_)
  · obtain ⟨rfl, _⟩ := h
    rfl
  · obtain ⟨rfl, q⟩ := h
    refine ⟨_, pss_cons (ps_set (i := 0) scMenu.nd rfl (.inl rfl) (pe_lst (pa_cons pe_str (pa_cons pe_str (pa_cons pe_str (pa_cons pe_str (pa_cons pe_str (pa_cons pe_str (pa_cons pe_str (pa_cons pe_str (pa_cons pe_str (pa_cons pe_str pa_nil))))))))))))
      (pss_cons (ps_set (i := 0) scMenu.nd rfl (.inl rfl) (pe_op op_cat (pv 0) (pe_lst (pa_cons pe_str (pa_cons pe_str (pa_cons pe_str pa_nil))))))
      (pss_one (ps_ret (pe_op op_cat (pv 0) (pe_lst (pa_cons pe_str (pa_cons pe_str (pa_cons pe_str (pa_cons pe_str (pa_cons pe_str (pa_cons pe_str (pa_cons pe_str (pa_cons pe_str (pa_cons pe_str (pa_cons pe_str (pa_cons pe_str (pa_cons pe_str (pa_cons pe_str pa_nil)))))))))))))))))), ?_⟩
    refine ⟨lz, fun p1 h1 => ?_⟩
    refine ⟨_, rfl, lz, fun p2 h2 => ⟨p1, p2, _, _, rfl, rfl, (same_new h2) _ _ upd_same, upd_same, lz, fun p3 h3 => ?_⟩⟩
    refine ⟨_, rfl, lz, fun p4 h4 => ⟨p3, p4, _, _, rfl, rfl, (same_new h4) _ _ upd_same, upd_same, lz, fun p5 h5 => ?_⟩⟩
    exact q p5 _ (Same.free (((same_new h1).trans (same_new h2)).trans ((same_new h3).trans (same_new h4))) h5) ((((same_new h1).trans (same_new h2)).trans ((same_new h3).trans (same_new h4))).trans (same_new h5)) upd_same

def spWord : Sp := fun vs H Q _ => ∃ (a : Addr), vs = [.ref a] ∧ PurseAt H a ∧ ∀ (z : Str) (H' : Hp), IsWd z → PurseAt H' a → SameX a H H' → Q (.str z) H'
abbrev nWord : List Str := ["_law_purse_here", "_law_way", "_law_wide", "_law_many", "_law_k"]
theorem scWord : FnScope nWord ["_law_purse_here"] (defScope sWord) :=
  ⟨rfl, rfl, rfl, by decide +kernel, rfl, by decide +kernel, by decide +kernel⟩
theorem ok_word (F : Fun K "_law_word" "_law_word" sWord f fd) (B : Bi mg) (hp : Has P w K mg base "_law_pick" 1 ["_law_purse_here", "_law_many"] spPick) (hm : Has P w K mg base "_law_menu" 1 [] spMenu) :
    FnOk P w K mg base CX0 2 f fd ["_law_purse_here"] spWord := by
  refine F.ok scWord (fun vs H Q E h => ?_) (fun cdv A outer s H vs Q E hr h => ?_)
  · obtain ⟨a, rfl, _⟩ := h
    rfl
  · obtain ⟨a, rfl, hA, q⟩ := h
    refine ⟨_, pss_cons (ps_asg (pe_tup (pa_cons (pe_h hp hr (pa_cons (pv 0) (pa_cons pe_int pa_nil))) (pa_cons (pe_ix ix_list (pe_lst (pa_cons pe_int (pa_cons pe_int (pa_cons pe_int pa_nil)))) (pe_h hp hr (pa_cons (pv 0) (pa_cons pe_int pa_nil))) (fun _ _ => rfl)) pa_nil)))
        (pg_tup rfl (pgs_cons (pg_name (i := 1) scWord.nd rfl (.inl rfl)) (pgs_cons (pg_name (i := 2) scWord.nd rfl (.inr rfl)) pgs_nil))))
      (pss_cons (ps_if (pt_cmpR op_eq (pv 1) pe_int (nomark _)) (pss_one (ps_ret (pe_ix ix_list (pe_h0 hm hr) (pe_h hp hr (pa_cons (pv 0) (pa_cons pe_int pa_nil))) (fun _ _ => rfl)))) pss_nil)
      (pss_cons (ps_set (i := 3) scWord.nd rfl (.inl rfl) (pe_ix ix_list (pe_lst (pa_cons pe_int (pa_cons pe_int (pa_cons pe_int (pa_cons pe_int (pa_cons (pe_op op_add pe_int (pe_h hp hr (pa_cons (pv 0) (pa_cons pe_int pa_nil)))) pa_nil)))))) (pe_h hp hr (pa_cons (pv 0) (pa_cons pe_int pa_nil))) (fun _ _ => rfl)))
      (pss_one (ps_ret (pe_join pe_str (pe_lc (own := [("_law_k", 4)]) (g := gName 4) (tt := tYes) rfl scWord.nd (pi_range1 (by rfl) B.range (pa_cons (pv 3) pa_nil)) (blkOk_by (N := nWord) (sc := defScope sWord) (by decide +kernel))
        (fun _ _ _ _ _ => pg_name (i := 4) scWord.nd rfl (.inl rfl)) (fun _ _ _ _ _ => pts_nil) (fun _ _ _ _ _ => pe_ix ix_str pe_str (pe_h hp hr (pa_cons (pv 0) (pa_cons (pv 2) pa_nil))) (fun _ _ => rfl)))))))), ?_⟩
    -- way, wide
    refine ⟨_, rfl, a, 4, rfl, hA, by decide, by decide, fun r1 H1 r10 r11 hA1 s1 n1 => ?_⟩
    refine ⟨lz, fun p hp => ⟨_, rfl, a, 3, rfl, hA1.same (same_new hp), by decide, by decide, fun r2 H2 r20 r21 hA2 s2 n2 => ?_⟩⟩
    have npa := hA1.ne hp
    obtain ⟨wd, hwm, hwd⟩ := atI_tab (ns := [3, 5, 26]) r20 r21
    have hw : 0 < wd ∧ wd ≤ 26 := by
      simp only [List.mem_cons, List.not_mem_nil, or_false] at hwm
      omega
    have s2' : SameX a H H2 := (s1.trans (sx (same_new hp))).trans s2
    refine ⟨p, _, r2, .int wd, rfl, rfl, .inl (.inl (s2 _ _ npa upd_same)), hwd, lz, fun t ht => ?_⟩
    refine ⟨t, _, rfl, .inl (.inl upd_same), rfl, _, _, rfl, _, _, rfl, rfl, ?_⟩
    have hA3 := hA2.same (same_new (o := .tup [.int r1, .int wd]) ht)
    have s3 : SameX a H _ := s2'.trans (sx (same_new (o := .tup [.int r1, .int wd]) ht))
    generalize upd H2 t (.tup [.int r1, .int wd]) = H3 at hA3 s3
    refine ⟨_, rfl, rfl, _, rfl, ite_b (fun e => ?_) (fun e => ?_)⟩
    · -- menu()[..]
      refine ⟨rfl, fun p4 H4 hp4 s4 h4 => ⟨_, rfl, a, 26, rfl, hA3.same s4, by decide, by decide, fun r5 H5 r50 r51 hA5 s5 n5 => ?_⟩⟩
      obtain ⟨z, hz, hzi⟩ := atI_strs (zs := menuW) r50 (by rw [menu_len]; exact r51)
      exact ⟨p4, _, r5, .str z, rfl, rfl, .inl (.inl (s5 _ _ (hA3.ne hp4) h4)), hzi, q z H5 (menu_wd z hz) hA5 ((s3.trans (sx s4)).trans s5)⟩
    · -- size
      refine ⟨_, rfl, a, 8, rfl, hA3, by decide, by decide, fun r4 H4 r40 r41 hA4 s4 n4 => ⟨_, _, rfl, rfl, lz, fun p5 hp5 => ⟨_, rfl, a, 5, rfl, hA4.same (same_new hp5), by decide, by decide, fun r6 H6 r60 r61 hA6 s6 n6 => ?_⟩⟩⟩
      have np5 := hA4.ne hp5
      obtain ⟨sz, hsm, hsz⟩ := atI_tab (ns := [1, 2, 3, 4, 1 + r4]) r60 r61
      have hs8 : 1 ≤ sz ∧ sz ≤ 8 := by
        simp only [List.mem_cons, List.not_mem_nil, or_false] at hsm
        omega
      refine ⟨p5, _, r6, .int sz, rfl, rfl, .inl (.inl (s6 _ _ np5 upd_same)), hsz, ?_⟩
      have s6' : SameX a H H6 := ((s3.trans s4).trans (sx (same_new hp5))).trans s6
      -- join of the signs
      refine ⟨⟨_, rfl⟩, _, rfl, sz, rfl, by omega, by omega, fun D hD => lc_range (lo := 0) (n := sz.toNat)
        (fun i H' => ∃ cs : List Nat, cs.length = i ∧ (∀ c ∈ cs, 97 ≤ c ∧ c ≤ 122) ∧ H' D = some (.lst ((cs.map sign).map V.str)) ∧ PurseAt H' a ∧ SameX a H6 H')
        ⟨[], rfl, fun c hc => by simp at hc, upd_same, hA6.same (same_new hD), sx (same_new hD)⟩ ?_ ?_⟩
      · rintro i H7 hi ⟨cs, hcl, hcs, hDl, hA7, s7⟩
        refine ⟨rfl, yes_it ⟨_, rfl, _, rfl, a, wd, rfl, hA7, hw.1, by omega, fun r8 H8 r80 r81 hA8 s8 n8 => ?_⟩⟩
        have nD := hA6.ne hD
        refine ⟨_, r8, _, rfl, rfl, lz, letter_at r80 (by omega), _, s8 _ _ nD hDl, ?_, ?_⟩
        · rw [List.length_map, List.length_map]
          exact small1000 (by omega)
        · refine ⟨cs ++ [97 + r8.toNat], by simp [hcl], fun c hc => ?_, ?_, ?_, sameX_mut (s7.trans s8) hD⟩
          · rcases List.mem_append.mp hc with hc | hc
            · exact hcs c hc
            · rw [List.mem_singleton.mp hc]
              omega
          · rw [upd_same, List.map_append, List.map_append]
            rfl
          · obtain ⟨x0, x1, x2, hx, hx1⟩ := hA8
            exact ⟨x0, x1, x2, by rw [upd_ne nD.symm]; exact hx, hx1⟩
      · rintro H7 ⟨cs, hcl, hcs, hDl, hA7, s7⟩
        refine ⟨_, D, cs.map sign, rfl, rfl, .inl (.inl (.inl hDl)), ?_, ?_⟩
        · have e0 : ("" : Str).length = 0 := by decide +kernel
          have e1 : (cs.map sign).map (·.length) = cs.map fun _ => 1 := by
            rw [List.map_map]
            rfl
          rw [e0, e1, Nat.mul_zero]
          have e2 : ∀ l : List Nat, (l.map fun _ => 1).sum = l.length := fun l => by
            induction l with
            | nil => rfl
            | cons x r ih => rw [List.map_cons, List.sum_cons, ih, List.length_cons]; omega
          rw [e2]
          omega
        · refine q _ H7 (isWd_of ?_ ?_ ?_) hA7 (s6'.trans s7)
          · rw [join_signs]; omega
          · rw [join_signs]; omega
          · rw [join_signs]; exact hcs
end
end Wl


/-! An exception that was caught, as a tracked object: isinstance of it, its fields. -/
namespace Wl
open PySem PySem.Spec PyProof.Rows L2
/-- at a: a caught exception, its class, its own dict; its context is None -/
def exH (a : Addr) (cls : Value) (d : Option Addr) : HO := .ext fun h => ∃ (vs : Array Value) (sl : Array (Option Value)), h.get? a = some ⟨cls, d, .fields vs, sl⟩ ∧ vs[2]? = some .none
section
variable {P : Program} {w : World} {H : Hp} {h : Heap} {a : Addr} {cls : Value} {d : Option Addr}
theorem exH_ok {oe : Obj} {vs : Array Value} (he : h.get? a = some oe) (hz : L2N.Zn cls d oe) (hd : oe.data = .fields vs) : ObjOk P w H h a (exH a cls d) := by
  obtain ⟨c0, d0, dt, sl⟩ := oe
  obtain ⟨e1, e2, e3⟩ := hz
  obtain rfl : c0 = cls := e1
  obtain rfl : d0 = d := e2
  obtain rfl : dt = .fields vs := hd
  refine ⟨⟨vs, sl, he, e3 vs rfl⟩, ⟨_, he⟩, fun h1 h2 z k => ?_⟩
  obtain ⟨vs', sl', q, c⟩ := z
  exact ⟨vs', sl', k _ q, c⟩
theorem exH_at (hok : HOk P w H h) (e : H a = some (exH a cls d)) : ∃ (vs : Array Value) (sl : Array (Option Value)), h.get? a = some ⟨cls, d, .fields vs, sl⟩ ∧ vs[2]? = some .none := by
  have x : ObjOk P w H h a (exH a cls d) := hok a _ e
  exact x.1
theorem exH_hot {A : Around} (hok : HOk P w H h) (e : H a = some (exH a cls d)) (hh : A.handled = some (.ref a)) : HotX.HotAt A a h := by
  obtain ⟨vs, sl, q, c⟩ := exH_at hok e
  exact ⟨hh, _, vs, q, rfl, c⟩
theorem exH_tup {xs : List V} : exH a cls d ≠ .tup xs := fun z => by
  have z' : HO.ext _ = HO.tup xs := z
  cases z'
theorem exH_ne {o : HO} (hn : ∀ φ, o ≠ .ext φ) : exH a cls d ≠ o := fun z => hn _ z.symm
end
/-- what isinstance asks of an exception's class, and of its own dict -/
structure ExK (K : PySem.W.Frag) (C : Addr) : Prop where
  cl : (PySem.W.clsIn K C).isSome = true
  ga : PySem.W.findIn K (.ref C) "__getattribute__" = some (some (.builtin "BaseException.__getattribute__"))
  gg : PySem.W.findIn K (.ref C) "__getattr__" = some none
  sub : PySem.W.subIn K (.ref C) (.type "BaseException") = some true
  ca : PySem.W.findIn K (.ref C) "__class__" = some (some (.builtin "object.__class__"))
  gn : PySem.W.specialIn K (.builtin "object.__class__") "__get__" = some (some (.builtin "getset_descriptor.__get__"))
  tk : PySem.W.takesIn K (.builtin "object.__class__") = some true
  mo : PySem.W.mroIn K C (.type "object") = some true
/-- its own dict, if it has one, is tracked -/
def DxOk (H : Hp) (d : Option Addr) : Prop := ∀ dd, d = some dd → ∃ fs, H dd = some (.xd fs)
section
variable {X : Cx}
theorem inst_of {pins : List (Addr × Obj)} {σ : L2.St} {H : Hp} {s : Shared} {a C : Addr} {d : Option Addr} (I : Inv X pins σ H s) (e : H a = some (exH a (.ref C) d)) (hd : DxOk H d) : ∃ ox od, PySem.W.InstAt s.heap a ox C od := by
  obtain ⟨vs, sl, q, _⟩ := exH_at I.hok e
  cases d with
  | none => exact ⟨_, none, q, rfl, rfl, trivial⟩
  | some dd =>
    obtain ⟨fs, hf⟩ := hd dd rfl
    have hx : ObjOk X.prog X.w H s.heap dd (.xd fs) := I.hok dd _ hf
    obtain ⟨mA, hns, _⟩ := hx
    obtain ⟨od, ho, _⟩ := lookIn_ns hns
    exact ⟨_, some od, q, rfl, rfl, ho⟩
theorem kit_exc {C a : Addr} {ox : Obj} {od : Option Obj} {K : PySem.W.Frag} (E : ExK K C) : PySem.W.KitX K (.ref a) (.ref C) (fun h => PySem.W.InstAt h a ox C od) :=
  PySem.W.kitx_exc E.cl E.ga E.gg E.sub E.ca E.gn E.tk E.mo
/-- isinstance(e, c) -/
def rIsX (K : PySem.W.Frag) : List V → Hp → VK → Prop := fun xs H Q => ∃ (a C : Addr) (d : Option Addr) (c : V) (cv : Value) (b : Bool), xs = [.ref a, c] ∧ H a = some (exH a (.ref C) d) ∧ DxOk H d ∧ ExK K C ∧ ClsV c cv ∧ PySem.W.kitOne K (.ref C) cv = some b ∧ Q (.bl b) H
theorem call_isX : CallR X (.builtin "isinstance") (rIsX X.K) := by
  intro pins s σ H xs us Q I r h
  obtain ⟨a, C, d, c, cv, b, rfl, ea, hd, E, hc, hk, q⟩ := h
  cases r with
  | cons rx rr =>
    cases rr with
    | cons rt rr =>
      cases rr
      cases rx
      obtain rfl := hc.eq rt
      obtain ⟨ox, od, J⟩ := inst_of I ea hd
      exact PySem.W.kia_one (kit_exc E) I.kIn J hk (fun z => nomatch z) fun tk => ⟨.bl b, H, I.kept (t' := tk) fun _ _ z => z, rfl, q⟩
/-- isinstance(e, (c, ..)) -/
def rIsXT (K : PySem.W.Frag) : List V → Hp → VK → Prop := fun xs H Q => ∃ (a C : Addr) (d : Option Addr) (tp : Addr) (cs : List V) (us : List Value) (b : Bool), xs = [.ref a, .ref tp] ∧ H a = some (exH a (.ref C) d) ∧ DxOk H d ∧ ExK K C ∧
  H tp = some (.tup cs) ∧ Paired ClsV cs us ∧ PySem.W.kitAny K (.ref C) us = some b ∧ Q (.bl b) H
theorem call_isXT : CallR X (.builtin "isinstance") (rIsXT X.K) := by
  intro pins s σ H xs us Q I r h
  obtain ⟨a, C, d, tp, cs, uc, b, rfl, ea, hd, E, ht, hp, hk, q⟩ := h
  cases r with
  | cons rx rr =>
    cases rr with
    | cons rt rr =>
      cases rr
      cases rx
      cases rt
      obtain ⟨ox, od, J⟩ := inst_of I ea hd
      obtain ⟨z, its, rv, ⟨o, ho, hc, n, hdat⟩⟩ := I.hok tp _ ht
      obtain rfl := ClsV.all hp rv
      obtain ⟨c0, d0, dt, sl⟩ := o
      obtain rfl : c0 = .type "tuple" := hc
      obtain rfl : dt = .seq its.toArray n := hdat
      exact PySem.W.kia_tup (kit_exc E) I.kIn J ho hk (fun z => nomatch z) fun tk => ⟨.bl b, H, I.kept (t' := tk) fun _ _ z => z, rfl, q⟩
/-- e.f -/
def tXf (K : PySem.W.Frag) (f : Str) (te : TE) : TE := fun σ H Q => te σ H fun x H1 => ∃ (a C dd : Addr) (fs : List (Str × V)) (v : V), x = .ref a ∧ H1 a = some (exH a (.ref C) (some dd)) ∧ H1 dd = some (.xd fs) ∧ XfC K C ∧
  PySem.W.findIn K (.ref C) f = some none ∧ fs.lookup f = some v ∧ Q v H1
theorem pe_xf {e : Expr} {te : TE} {pos : Pos} {n : Str} (he : PE X e te) (hb : attributeBase e n X.env (eval e X.env) = eval e X.env := by rfl) : PE X (.Attribute e n pos) (tXf X.K n te) := by
  refine ⟨fun pins s σ H Q I h => ?_⟩
  refine attr_of hb (thn (he.run pins s σ H _ I h) fun u s1 hh => ?_)
  obtain ⟨x, H1, I1, rx, a, C, dd, fs, v, rfl, ea, ed, T, hno, hl, q⟩ := hh
  obtain rfl : u = Value.ref a := rx
  obtain ⟨vs, sl, hobj, _⟩ := exH_at I1.hok ea
  have hx : ObjOk X.prog X.w H1 s1.heap dd (.xd fs) := I1.hok dd _ ed
  obtain ⟨mA, hns, hr⟩ := hx
  obtain ⟨od, ho, hlk⟩ := lookIn_ns hns
  obtain ⟨u, hu, ru⟩ := RelO.some_of (v := v) (o := mA n) (by rw [← hl]; exact hr n)
  have J : PySem.W.InstAt s1.heap a _ C (some od) := ⟨hobj, rfl, rfl, ho⟩
  exact HandSPX.exc_get I1.kIn J T.ga T.gg T.exC (PySem.W.findObj_own T.hdC hno rfl (by rw [hlk, hu])) (handed_of ru) ⟨v, H1, I1.tok _, ru, q⟩
end
/-! a new object of the state is tracked -/
theorem Inv_track {X : Cx} {pins : List (Addr × Obj)} {σ : L2.St} {H : Hp} {s : Shared} {a : Addr} {o : HO} (I : Inv X pins σ H s) (na : H a = none) (h0 : X.s_0.heap.get? a = none) (hL : a ≠ X.env.locals) (hc : ∀ x c, X.env.cells.lookup x = some c → c ≠ a)
    (hp : ∀ p ∈ X.pn ++ pins, p.1 ≠ a) (ok : ObjOk X.prog X.w (upd H a o) s.heap a o) : Inv X pins σ (upd H a o) s := by
  have ne : ∀ {b u}, H b = some u → b ≠ a := fun {b u} e z => by
    rw [z, na] at e
    cases e
  refine ⟨I.ok, I.os, I.bare, ⟨I.base.keep, I.base.slot, fun b u e n hx => ?_, I.base.there, fun b xs e => ?_, fun b u v e => ?_, fun b ps e => ?_⟩, I.loc, I.cell, ?_, fun x c e => ?_, fun p h => ?_, fun b u e => ?_, I.len⟩
  · rw [upd_ne fun z => by rw [z, h0] at e; cases e]
    exact I.base.free b u e n hx
  · have q := I.base.tups b xs e
    rw [upd_ne (ne q)]
    exact q
  · have q := I.base.frzs b u v e
    rw [upd_ne (ne q)]
    exact q
  · obtain ⟨more, q⟩ := I.base.tbls b ps e
    exact ⟨more, by rw [upd_ne (ne q)]; exact q⟩
  · rw [upd_ne (Ne.symm hL)]
    exact I.free
  · rw [upd_ne (hc x c e)]
    exact I.freeC x c e
  · obtain ⟨q1, q2, q3, q4, q5⟩ := I.pin p h
    exact ⟨q1, by rw [upd_ne (hp p h)]; exact q2, q3, q4, q5⟩
  · by_cases hb : b = a
    · subst hb
      rw [upd_same] at e
      cases e
      exact ok
    · rw [upd_ne hb] at e
      exact (I.hok b u e).stay (fun c v _ q => q) (fun c hc => by rw [upd_ne (ne hc)]; exact hc) (fun c xs hc => by rw [upd_ne (ne hc)]; exact hc)
end Wl

/-! try .. except (A, B, C) as e, several clauses; the exception that was caught is tracked. -/
namespace Wl
open PySem PySem.Spec PyProof.Rows L2
theorem flying_keeps {B h h' : Heap} {l : List Env} {a : Addr} {Z : Obj → Prop} (fl : HandSPX.FlyingZ B l a Z h) (k : ∀ b o, h.get? b = some o → h'.get? b = some o) : HandSPX.FlyingZ B l a Z h' := by
  obtain ⟨f1, f2, f3, oe, vs, T, oT, ts, he, hz, hd, h1, hnT, hTe, hT, hdT, h3⟩ := fl
  exact ⟨fun b o e => k b o (f1 b o e), f2, f3.of_keeps fun b o e _ => ⟨o, k b o e, rfl⟩, oe, vs, T, oT, ts, k _ _ he, hz, hd, h1, hnT, hTe, k _ _ hT, hdT, h3⟩
theorem up_keeps {h h' : Heap} (k : ∀ b o, h.get? b = some o → h'.get? b = some o) : h.UpToSlots h' := Heap.UpToSlots.of_keeps k
/-- a clause's test: m tells of a class whether it is asked for -/
structure TestOk (X : Cx) (t : Expr) (m : Value → Option Bool) : Prop where
  run : ∀ (a : Addr) (pn pins : List (Addr × Obj)) (σ : L2.St) (H : Hp) (s : Shared) (cls : Value) (b : Bool) (Q : Bool → Shared → Prop) (E : Value → Shared → Prop), Inv (X.suite a pn) pins σ H s → m cls = some b →
    PySem.W.Looks (model X.prog X.w) s.heap (typeOf (.ref a)) cls → (∀ h' t', (∀ c o, s.heap.get? c = some o → h'.get? c = some o) → Q b { s with heap := h', toks := t' }) →
    wpAny (model X.prog X.w) (X.A.mark (some (.ref a))) (eval t X.env) (fun c s1 => wpAny (model X.prog X.w) (X.A.mark (some (.ref a))) (excMatches (.ref a) c) Q E s1) E s
theorem test_one {X : Cx} {x : Str} {c : Value} {np : Pos} (hc : Names X x c) : TestOk X (.Name x np) (fun cls => PySem.W.exmOne X.K cls c) := by
  refine ⟨fun a pn pins σ H s cls b Q E I hm LT q => ?_⟩
  have LM := PySem.W.exm_one (M := model X.prog X.w) I.kIn LT hm
  have go : wpAny (model X.prog X.w) (X.A.mark (some (.ref a))) (excMatches (.ref a) c) Q E s := LM.here (q s.heap s.toks fun _ _ z => z)
  obtain ⟨hg, hdbg, hg1 | ⟨hg1, hv, hnn⟩⟩ := hc
  · exact ld_glob (X := X.suite a pn) I hg hg1 go hdbg
  · exact ld_blt (X := X.suite a pn) I hg hg1 hv go hnn hdbg
theorem test_tup3 {X : Cx} {x1 x2 x3 : Str} {c1 c2 c3 : Value} {p1 p2 p3 tp : Pos} {k : Nat} (g1 : Gl X x1) (m1 : X.mg x1 = some c1) (g2 : Gl X x2) (m2 : X.mg x2 = some c2) (g3 : Gl X x3) (m3 : X.mg x3 = some c3)
    (d1 : (x1 == ("__debug__" : Str)) = false := by decide) (d2 : (x2 == ("__debug__" : Str)) = false := by decide) (d3 : (x3 == ("__debug__" : Str)) = false := by decide) :
    TestOk X (.Tuple [.Name x1 p1, .Name x2 p2, .Name x3 p3] k tp) (fun cls => PySem.W.exmAny X.K cls [c1, c2, c3]) := by
  refine ⟨fun a pn pins σ H s cls b Q E I hm LT q => ?_⟩
  refine wpAny_Tuple_spliced ?_
  show wpAny _ _ (spliced [(false, eval (.Name x1 p1) X.env), (false, eval (.Name x2 p2) X.env), (false, eval (.Name x3 p3) X.env)]) _ _ s
  refine Calls.spliced_cons (ld_glob (X := X.suite a pn) I g1 m1 ?_ d1)
  refine Calls.spliced_cons (ld_glob (X := X.suite a pn) I g2 m2 ?_ d2)
  refine Calls.spliced_cons (ld_glob (X := X.suite a pn) I g3 m3 ?_ d3)
  refine Calls.spliced_nil ⟨by show 3 ≤ sizeLine; decide, ?_⟩
  have kp : ∀ c o, s.heap.get? c = some o → (s.heap.push { cls := .type "tuple", data := .seq [c1, c2, c3].toArray }).get? c = some o := fun c o e => Heap.get?_push_of_some _ e
  have LM := PySem.W.exm_tup3 (M := model X.prog X.w) (I.kIn.keeps kp) (LT.keeps kp) (Heap.get?_push_size s.heap (o := { cls := .type "tuple", data := .seq [c1, c2, c3].toArray }) rfl) hm
  exact LM.here (q _ s.toks kp)
/-- what a suite does, the caught exception's address first -/
abbrev ClT := Addr → TS
/-- the clauses, one after the other; Wout: none of them asks for it -/
def wCls (Wout : WX) (D : Ends) : List ((Value → Option Bool) × ClT) → WX
  | [] => Wout
  | (m, ts) :: r => fun cls d σ H => ∃ b, m cls = some b ∧ (b = true → ∀ a, H a = none → ts a D σ (upd H a (exH a cls d))) ∧ (b = false → wCls Wout D r cls d σ H)
/-- .. as n, n in slot i: the name goes behind the suite -/
def tAs (i : Nat) (ts : ClT) : ClT := fun a D σ H => ts a { nx := fun σ' H' => D.nx (σ'.set i none) H', rt := D.rt, bk := fun σ' H' => D.bk (σ'.set i none) H', ct := fun σ' H' => D.ct (σ'.set i none) H' } (σ.set i (some (.ref a))) H
inductive HdsE (X : Cx) : List ExceptHandler → List ((Value → Option Bool) × ClT) → Prop
  | nil : HdsE X [] []
  | one {t : Expr} {m : Value → Option Bool} {ts : ClT} {b₀ : Stmt} {suite : List Stmt} {pos' : Pos} {hds : List ExceptHandler} {l : List ((Value → Option Bool) × ClT)} (ht : TestOk X t m)
      (hsu : ∀ (a : Addr) (pn : List (Addr × Obj)), PSs (X.suite a pn) (b₀ :: suite) (ts a)) (r : HdsE X hds l) : HdsE X (.ExceptHandler (some t) none (b₀ :: suite) pos' :: hds) ((m, ts) :: l)
  | as {t : Expr} {m : Value → Option Bool} {ts : ClT} {i : Nat} {n : Str} {b₀ : Stmt} {suite : List Stmt} {pos' : Pos} {hds : List ExceptHandler} {l : List ((Value → Option Bool) × ClT)} (hi : X.N[i]? = some n) (hln : X.env.kindOf n = some .local) (ht : TestOk X t m)
      (hsu : ∀ (a : Addr) (pn : List (Addr × Obj)), PSs (X.suite a pn) (b₀ :: suite) (ts a)) (r : HdsE X hds l) : HdsE X (.ExceptHandler (some t) (some n) (b₀ :: suite) pos' :: hds) ((m, tAs i ts) :: l)
section
variable {X : Cx} {pins : List (Addr × Obj)} {σ : L2.St} {H : Hp} {s : Shared}
theorem inv_suite {a : Addr} (I : Inv X pins σ H s) : Inv (X.suite a (X.pn ++ pins)) [] σ H s :=
  ⟨I.ok.suite _ _, I.os, I.bare, I.base, I.loc, I.cell, I.free, I.freeC, fun p hp => I.pin p (by rw [List.append_nil] at hp; exact hp), I.hok, I.len⟩
theorem inv_unsuite {a : Addr} {q : List (Addr × Obj)} (I : Inv (X.suite a (X.pn ++ pins)) q σ H s) (ok : X.Ok) : Inv X pins σ H s :=
  ⟨ok, I.os, I.bare, I.base, I.loc, I.cell, I.free, I.freeC, fun p hp => I.pin p (List.mem_append_left _ hp), I.hok, I.len⟩
end
section
variable {X : Cx} {body : List Stmt} {h₀ : ExceptHandler} {hds : List ExceptHandler} {l : List ((Value → Option Bool) × ClT)} {pos : Pos} {tb : WX → TS} {Wout : WX}
theorem ps_tryE (hs : X.stack = X.env :: X.outer) (hf : X.env.frame = some X.env.locals) (hex : X.ex = []) (hN : X.N.Nodup) (tk : L2N.Takes X Wout)
    (hb : ∀ (W : WX) (pn : List (Addr × Obj)) (xe : Value → Shared → Prop), L2N.Takes (X.tr pn xe) W → PassesOwn (model X.prog X.w) X.A X.env xe → PSs (X.tr pn xe) body (tb W))
    (hh : HdsE X (h₀ :: hds) l) : PS X (.Try body (h₀ :: hds) [] [] pos) (fun D σ H => tb (wCls Wout D l) D σ H) := by
  constructor
  intro pins s σ H D I h
  have ok := I.ok
  have hfr : X.A.frames = some (X.env :: X.outer) := by rw [ok.frames, hs]
  refine wpAny_Try_except ?_
  refine wpAny_mono ((hb (wCls Wout D l) (X.pn ++ pins) (fun e sa => wpAny (model X.prog X.w) X.A (noteFrame e X.env) (fun _ sb => wpAny (model X.prog X.w) X.A (setFlight e none) (fun _ sc =>
    wpAny (model X.prog X.w) X.A (handleBy e X.env (h₀ :: hds)) (SP X pins D) X.xe sc) X.xe sb) X.xe sa) (fun u s' xx => ?_) PassesOwn.looking).run [] s σ H D (I.toTry _) h) (fun f s1 hsp => ?_) (fun e s1 he => he)
  · obtain ⟨a, B, sI, pq, σ1, H1, cls, d, rfl, J', nb, up, sky, na, os, ag, wq⟩ := xx
    have J : Inv X pins σ1 H1 sI := J'.ofTry ok
    have sky' : Sky B (X.env :: X.outer) a (L2N.Zn cls d) X.env.locals s'.heap := by rw [← hs]; exact sky
    show wpAny (model X.prog X.w) X.A (noteFrame (.ref a) X.env) _ _ _
    refine L2N.Sky.land L2N.Zn.steady hfr hf sky' fun h3 fl3 up3 => ?_
    -- what holds of any state behind the landing
    have nfr : ∀ {hx : Heap}, HandSPX.FlyingZ B (X.env :: X.outer) a (L2N.Zn cls d) hx → a ∉ frs (X.env :: X.outer) := fun {hx} fl hm => by
      obtain ⟨oe, vs, he, _, hd⟩ := fl.there
      obtain ⟨_, o', e', hnf⟩ := fl.2.2.1.mem hm
      rw [he] at e'
      cases e'
      exact hnf _ hd
    have naI : sI.heap.get? a = none := by
      cases q : sI.heap.get? a with
      | none => rfl
      | some o =>
        have z := nb a o q (by rw [hs]; exact nfr fl3)
        rw [fl3.2.1] at z
        cases z
    have na0 : X.s_0.heap.get? a = none := by
      cases q : X.s_0.heap.get? a with
      | none => rfl
      | some o =>
        obtain ⟨o', z⟩ := J.base.there a o q (by rw [hex]; simp)
        rw [naI] at z
        cases z
    have nL : a ≠ X.env.locals := fun z => nfr fl3 (List.mem_filterMap.mpr ⟨X.env, List.mem_cons_self, by rw [hf, z]⟩)
    -- the clauses, one by one, over a heap that holds the landed one
    have go : ∀ {hds' : List ExceptHandler} {l' : List ((Value → Option Bool) × ClT)}, HdsE X hds' l' → wCls Wout D l' cls d σ1 H1 → ∀ (h5 : Heap) (t5 : Nat), (∀ b o, h3.get? b = some o → h5.get? b = some o) →
        wpAny (model X.prog X.w) X.A (handleBy (.ref a) X.env hds') (SP X pins D) X.xe { s' with heap := h5, toks := t5 } := by
      intro hds' l' hk
      induction hk with
      | nil =>
        intro wq h5 t5 k5
        have fl5 := flying_keeps fl3 k5
        refine wpAny_handleBy_nil ?_
        obtain ⟨k1, k2, k3, oe, vs, T, oT, ts', he, hz, hd, h1, hr⟩ := id fl5
        unfold PySem.passOn
        refine wpAny_bind (wpAny_field he hd h1 ?_)
        rw [if_neg (show ¬ ((Value.ref T == Value.none) = true) from by simp)]
        have fin : wpAny (model X.prog X.w) X.A (setFlight (.ref a) X.env.frame) (fun _ s4 => wpAny (model X.prog X.w) X.A (throw (.ref a) : Sem Flow) (SP X pins D) X.xe s4) X.xe { s' with heap := h5, toks := t5 } := by
          rw [hf]
          refine HandSPX.setFlight_upZ fl5 fun h4 hh4 up4 => wpAny_throw (tk _ _ ?_)
          exact ⟨a, B, sI, pins, σ1, H1, cls, d, rfl, J, nb, ((up.trans up3).trans (up_keeps k5)).trans up4, .inr (.inr (by rw [hs]; exact hh4)), na, os, ag, wq⟩
        first
          | exact wpAny_bind (wpAny_pure (wpAny_bind fin))
          | exact wpAny_bind fin
      | @one t m ts b₀ suite pos' hds2 l2 ht hsu r ih =>
        intro wq h5 t5 k5
        obtain ⟨b, hb1, hyes, hno⟩ := wq
        have fl5 := flying_keeps fl3 k5
        have J5 : Inv X pins σ1 H1 { s' with heap := h5, toks := t5 } := (J.landed (s' := { s' with heap := h5, toks := t5 }) nb fl5.1 ((up.trans up3).trans (up_keeps k5)) os ag)
        obtain ⟨oe5, vs5, he5, hz5, hd5⟩ := fl5.there
        have LT : PySem.W.Looks (model X.prog X.w) h5 (typeOf (.ref a)) cls := fun A Q E s k q => wpAny_typeOf_ref (k _ _ he5) (by rw [hz5.1]; exact q)
        refine wpAny_handleBy_cons (codeAny_handlers_test (ht.run a (X.pn ++ pins) [] σ1 H1 { s' with heap := h5, toks := t5 } cls b _ _ (inv_suite J5) hb1 LT fun h6 t6 k6 => ?_)) (by intro q; cases q)
        cases b with
        | false =>
          show wpAny _ X.A (handleBy (.ref a) X.env hds2) _ _ _
          exact ih (hno rfl) h6 t6 fun c o e => k6 c o (k5 c o e)
        | true =>
          have fl6 := flying_keeps fl5 k6
          refine codeAny_handlers_suite ?_
          refine HandSPX.lands_againZ fl6 fun h7 fl7 up7 => ?_
          have J7 : Inv X pins σ1 H1 { s' with heap := h7, toks := t6 } := J.landed (s' := { s' with heap := h7, toks := t6 }) nb fl7.1 ((((up.trans up3).trans (up_keeps k5)).trans (up_keeps k6)).trans up7) os ag
          obtain ⟨oe7, vs7, he7, hz7, hd7⟩ := fl7.there
          have T7 : Inv X pins σ1 (upd H1 a (exH a cls d)) { s' with heap := h7, toks := t6 } := Inv_track J7 na na0 nL (fun x c e z => by
              obtain ⟨v, o, ho, hdat⟩ := J7.cell x c e
              have ho : h7.get? c = some o := ho
              rw [z, he7] at ho
              cases ho
              rw [hd7] at hdat
              cases hdat) (fun p hp z => by
              have q := (J.pin p hp).1
              rw [z, naI] at q
              cases q) (exH_ok he7 hz7 hd7)
          refine wpAny_mono ((hsu a (X.pn ++ pins)).run [] _ _ _ D (inv_suite T7) (hyes rfl a na)) (fun f s8 hsp => ?_) (fun _ _ z => False.elim z)
          cases f with
          | next =>
            obtain ⟨σ8, H8, S8, q8⟩ := hsp
            exact ⟨_, _, inv_unsuite S8 ok, q8⟩
          | brk =>
            obtain ⟨σ8, H8, S8, q8⟩ := hsp
            exact ⟨_, _, inv_unsuite S8 ok, q8⟩
          | cont =>
            obtain ⟨σ8, H8, S8, q8⟩ := hsp
            exact ⟨_, _, inv_unsuite S8 ok, q8⟩
          | ret u =>
            obtain ⟨v8, σ8, H8, S8, r8, q8⟩ := hsp
            exact ⟨_, _, _, inv_unsuite S8 ok, r8, q8⟩
      | @as t m ts i n b₀ suite pos' hds2 l2 hi hln ht hsu r ih =>
        intro wq h5 t5 k5
        obtain ⟨b, hb1, hyes, hno⟩ := wq
        have fl5 := flying_keeps fl3 k5
        have J5 : Inv X pins σ1 H1 { s' with heap := h5, toks := t5 } := (J.landed (s' := { s' with heap := h5, toks := t5 }) nb fl5.1 ((up.trans up3).trans (up_keeps k5)) os ag)
        obtain ⟨oe5, vs5, he5, hz5, hd5⟩ := fl5.there
        have LT : PySem.W.Looks (model X.prog X.w) h5 (typeOf (.ref a)) cls := fun A Q E s k q => wpAny_typeOf_ref (k _ _ he5) (by rw [hz5.1]; exact q)
        refine wpAny_handleBy_cons (codeAny_handlers_test (ht.run a (X.pn ++ pins) [] σ1 H1 { s' with heap := h5, toks := t5 } cls b _ _ (inv_suite J5) hb1 LT fun h6 t6 k6 => ?_)) (by intro q; cases q)
        cases b with
        | false =>
          show wpAny _ X.A (handleBy (.ref a) X.env hds2) _ _ _
          exact ih (hno rfl) h6 t6 fun c o e => k6 c o (k5 c o e)
        | true =>
          have fl6 := flying_keeps fl5 k6
          refine codeAny_handlers_suite_as ?_
          refine HandSPX.lands_againZ fl6 fun h7 fl7 up7 => ?_
          have J7 : Inv X pins σ1 H1 { s' with heap := h7, toks := t6 } := J.landed (s' := { s' with heap := h7, toks := t6 }) nb fl7.1 ((((up.trans up3).trans (up_keeps k5)).trans (up_keeps k6)).trans up7) os ag
          obtain ⟨oe7, vs7, he7, hz7, hd7⟩ := fl7.there
          have T7 : Inv X pins σ1 (upd H1 a (exH a cls d)) { s' with heap := h7, toks := t6 } := Inv_track J7 na na0 nL (fun x c e z => by
              obtain ⟨v, o, ho, hdat⟩ := J7.cell x c e
              have ho : h7.get? c = some o := ho
              rw [z, he7] at ho
              cases ho
              rw [hd7] at hdat
              cases hdat) (fun p hp z => by
              have q := (J.pin p hp).1
              rw [z, naI] at q
              cases q) (exH_ok he7 hz7 hd7)
          refine store_ok (X := X.suite a (X.pn ++ pins)) (v := .ref a) (inv_suite T7) hN hi (.inl hln) rfl (fun s5 S5 => ?_) (.inr hln)
          refine wpAny_mono ((hsu a (X.pn ++ pins)).run [] s5 _ _ _ S5 (hyes rfl a na)) (fun f s8 hsp => ?_) (fun _ _ z => False.elim z)
          have end_ : ∀ {σ6 : L2.St} {H6 : Hp} {Q : Shared → Prop}, Inv (X.suite a (X.pn ++ pins)) [] σ6 H6 s8 → (∀ s7, Inv X pins (σ6.set i none) H6 s7 → Q s7) →
              wpAny (model X.prog X.w) X.A (do bindName X.env n .none; unbindBehindTheSuite X.env n pos') (fun _ s7 => Q s7) X.xe s8 := fun {σ6 H6 Q} S6 hq => gone_ok (inv_unsuite S6 ok) hN hi hln hq
          cases f with
          | next =>
            obtain ⟨σ8, H8, S8, q8⟩ := hsp
            exact end_ S8 fun s9 J9 => ⟨_, _, J9, q8⟩
          | brk =>
            obtain ⟨σ8, H8, S8, q8⟩ := hsp
            exact end_ S8 fun s9 J9 => ⟨_, _, J9, q8⟩
          | cont =>
            obtain ⟨σ8, H8, S8, q8⟩ := hsp
            exact end_ S8 fun s9 J9 => ⟨_, _, J9, q8⟩
          | ret u =>
            obtain ⟨v8, σ8, H8, S8, r8, q8⟩ := hsp
            exact end_ S8 fun s9 J9 => ⟨_, _, _, J9, r8, q8⟩
    exact go hh wq h3 s'.toks fun _ _ z => z
  · cases f with
    | next =>
      obtain ⟨σ', H', J', q⟩ := hsp
      exact wpAny_execs_nil ⟨σ', H', J'.ofTry ok, q⟩
    | brk =>
      obtain ⟨σ', H', J', q⟩ := hsp
      exact ⟨σ', H', J'.ofTry ok, q⟩
    | cont =>
      obtain ⟨σ', H', J', q⟩ := hsp
      exact ⟨σ', H', J'.ofTry ok, q⟩
    | ret u =>
      obtain ⟨v, σ', H', J', r, q⟩ := hsp
      exact ⟨v, σ', H', J'.ofTry ok, r, q⟩
theorem takes_noN {X : Cx} : L2N.Takes X (fun _ _ _ _ => False) := fun _ _ ⟨_, _, _, _, _, _, _, _, _, _, _, _, _, _, _, _, z⟩ => z.elim
end
end Wl

/-! Own exceptions over ValueError, LookupError or ArithmeticError, whose __init__ stores its one argument under its own name; raised. -/
namespace Wl
open PySem PySem.Spec PyProof.Rows L2
/-- a built-in base of an own exception -/
structure BaseX (B newId initId : String) (bm : List Value) : Prop where
  base : ExcBaseFacts B newId initId bm
  store : StoreFacts B bm "object.__setattr__" "object"
theorem baseVE : BaseX "ValueError" "ValueError.__new__" "ValueError.__init__" [.type "ValueError", .type "Exception", .type "BaseException", .type "object"] := ⟨F.excBase_ValueError, F.store_ValueError⟩
theorem baseLE : BaseX "LookupError" "LookupError.__new__" "LookupError.__init__" [.type "LookupError", .type "Exception", .type "BaseException", .type "object"] := ⟨F.excBase_LookupError, F.store_LookupError⟩
theorem baseAE : BaseX "ArithmeticError" "ArithmeticError.__new__" "ArithmeticError.__init__" [.type "ArithmeticError", .type "Exception", .type "BaseException", .type "object"] := ⟨F.excBase_ArithmeticError, F.store_ArithmeticError⟩
/-- the first store into an exception -/
theorem osa_first {prog : Program} {w : World} {A : Around} {R : Result → Shared → Prop} {hp : Heap} {g : Array GenState} {d : Drawn} {t : Nat} {os : OsState} {K : PySem.W.Frag} {name : Str} {tk : Tok} {v : Value} {x C : Addr} {fv : Array Value} {B newId initId : String} {bm : List Value}
    (BX : BaseX B newId initId bm) (X : K.In hp) (hx : hp.get? x = some { cls := .ref C, data := .fields fv }) (ho : PySem.W.excOver K C bm = true) (hh : PySem.W.hasDictIn K C = true) (ht : PySem.W.takerIn K C name = some none)
    (hq : ∀ h' tk' dx, (∀ b o, b ≠ x → hp.get? b = some o → h'.get? b = some o) → hp.objs.size ≤ dx → dx ≠ x → h'.get? x = some { cls := .ref C, dict := some dx, data := .fields fv } →
      h'.Ns1 dx (fun y => if y = name then some v else none) → R (.ok (.ret .none)) ⟨h', g, d, tk', os⟩) :
    codeAny (model prog w) A (.call (.builtin "object.__setattr__") ⟨[.ref x, .str name tk, v], []⟩) R ⟨hp, g, d, t, os⟩ := by
  have hxs : x ≠ hp.objs.size := Nat.ne_of_lt (Heap.lt_size hx)
  obtain ⟨cd, hc, hd⟩ := PySem.W.any_some hh
  have hcls : PySem.W.Looks (model prog w) hp (classData C) cd := PySem.W.looks_clsIn X hc
  refine PySem.W.osa_openX (s := ⟨hp, g, d, t, os⟩) (od := none) BX.store X ⟨hx, rfl, rfl, trivial⟩ ho ht fun b => ?_
  show wpAny _ _ (Builtin.ObjectAttr.storeInOwnDict (.ref x) (.ref C) (.str name tk) name v b) _ _ _
  obtain ⟨nm, bs, mro, ns, qn, hdd, sn, sb, ab, col, del⟩ := cd
  dsimp only at hd
  subst hd
  unfold Builtin.ObjectAttr.storeInOwnDict Builtin.ObjectAttr.ownDictForStores
  repeat (first | with_reducible refine PySem.HandSPX.store_in_new ?_ ?_ | with_reducible refine wpAny_loadPart_at hx ?_ | with_reducible refine hcls.at ?_ | wp_step)
  · exact ⟨_, #[], _, (Heap.get?_update_ne _ _ _ _ hxs.symm).trans (Heap.get?_push_at rfl rfl), rfl, fun e he => absurd he (by simp), fun _ => rfl⟩
  · intro h' tk' hn' hs
    have h1 : (hp.push { cls := .type "dict", data := .dict #[] }).get? x = some { cls := .ref C, data := .fields fv } := Heap.get?_push_of_some _ hx
    refine hq h' tk' hp.objs.size (fun b o hb ho => ?_) (Nat.le_refl _) hxs.symm ?_ hn'
    · exact (hs.2 b (Nat.ne_of_lt (Heap.lt_size ho))).trans ((Heap.get?_update_ne _ _ _ _ hb).trans (Heap.get?_push_of_some _ ho))
    · exact (hs.2 x hxs).trans (Heap.get?_update_self _ h1 rfl)
/-- what the written part says of the own exception class x, at C, whose __init__ (self, f) stores f -/
structure OwnX (K : PySem.W.Frag) (mg : Str → Option Value) (x f : Str) (C : Addr) : Prop where
  gC : mg x = some (.ref C)
  kC : PySem.W.keepIn K (.ref C) = true
  bas : ∃ B newId initId bm, BaseX B newId initId bm ∧ PySem.W.excInitIn K C bm newId = true ∧ PySem.W.excOver K C bm = true
  sa : PySem.W.findIn K (.ref C) "__setattr__" = some (some (.builtin "object.__setattr__"))
  tk : PySem.W.takerIn K C f = some none
  no : PySem.W.findIn K (.ref C) f = some none
  exC : PySem.W.subIn K (.ref C) (.type "BaseException") = some true
  tyC : PySem.W.typeIn K (.ref C) = some (.type "type")
  hdC : PySem.W.hasDictIn K C = true
  ini : ∃ (fI : Addr) (fd : FuncData) (q : Str) (st : Stmt) (q1 q2 q3 q4 : Pos), PySem.W.findIn K (.ref C) "__init__" = some (some (.ref fI)) ∧ PySem.W.typeIn K (.ref fI) = some (.type "function") ∧ Fun K "__init__" q st fI fd ∧
    Binds K fd ["self", f] [] ∧ FnScope ["self", f] ["self", f] (defScope st) ∧ (∀ y ∈ (["self", f] : List Str), (defScope st).names.lookup y = some .local) ∧ defBody st = [.Assign [.Attribute (.Name "self" q1) f q2] (.Name f q3) q4]
/-- what __init__ leaves of a fresh exception at x -/
structure InitDone (h h' : Heap) (x C dx t1 : Addr) (f : Str) (v : Value) : Prop where
  keep : ∀ b o, b ≠ x → h.get? b = some o → h'.get? b = some o
  obj : h'.get? x = some { cls := .ref C, dict := some dx, data := .fields #[.ref t1, .none, .none, .none, .bool false, .none] }
  dbig : h.objs.size ≤ dx
  dne : dx ≠ x
  ns : h'.Ns1 dx (fun y => if y = f then some v else none)
/-- a made one -/
structure MadeX (h h' : Heap) (e C d : Addr) (f : Str) (v : Value) : Prop where
  keep : ∀ b o, h.get? b = some o → h'.get? b = some o
  new : h.objs.size ≤ e
  obj : ∃ vs, h'.get? e = some { cls := .ref C, dict := some d, data := .fields vs } ∧ vs[1]? = some .none ∧ vs[2]? = some .none
  dbig : h.objs.size ≤ d
  dne : d ≠ e
  ns : h'.Ns1 d (fun y => if y = f then some v else none)
theorem one_line (v : Value) : [v].length ≤ sizeLine := by
  show 1 ≤ sizeLine
  decide
section
variable {prog : Program} {w : World} {A : Around} {R : Result → Shared → Prop} {s : Shared} {K : PySem.W.Frag} {mg : Str → Option Value} {x f : Str} {C : Addr}
theorem own_init (T : OwnX K mg x f C) (nf : f ≠ "self") (ndb : (f == ("__debug__" : Str)) = false) {e t0 fI : Addr} {v : Value} (hfI : PySem.W.findIn K (.ref C) "__init__" = some (some (.ref fI))) (X : K.In s.heap) (hlim : s.heap.NoLimit) (hx : s.heap.get? e = some (HandSPX.excO C t0)) (hnx : K.lookup e = none) (hroom : A.depth < recursionLimit)
    (hq : ∀ h' tk dx, InitDone s.heap h' e C dx t0 f v → R (.ok (.ret .none)) { s with heap := h', toks := tk }) : codeAny (model prog w) A (.call (.ref fI) ⟨[.ref e, v], []⟩) R s := by
  obtain ⟨f2, fd, q, st, q1, q2, q3, q4, hf2, tI, hF, hB, hS, hL, hbody⟩ := T.ini
  obtain rfl : f2 = fI := by
    rw [hfI] at hf2
    cases hf2
    rfl
  obtain ⟨oc, od, kV, doc, pm, an, cdv, ct, osl, rfl, lk, hcd⟩ := hF.ex
  obtain ⟨B, newId, initId, bm, BX, _, hov⟩ := T.bas
  have hb := hB s [.ref e, v] X rfl
  have hb : BindsTo s (PySem.W.fnOf "__init__" q (defArgs st) (defBody st) (defScope st) .none kV doc pm an cdv ct) ⟨[.ref e, v], []⟩ [("self", .ref e), (f, v)] := hb
  refine Att.call_fn (binds := [("self", .ref e), (f, v)]) X hlim lk hcd hroom hb ?_ (fun s₁ IC => ?_) hS.co hS.gen hS.kind
  · simp only [List.all_cons, List.all_nil, Bool.and_true]
    rw [hL "self" (by simp), hL f (by simp)]
    rfl
  obtain ⟨h₁, tk₁, rfl⟩ := IC.toInCall.same
  have k : ∀ b o, s.heap.get? b = some o → h₁.get? b = some o := IC.toInCall.keep
  have hn := IC.toInCall.ns
  have X₁ : K.In h₁ := X.keeps k
  have hx₁ := k _ _ hx
  have kself : (envOfC q (defScope st) s.heap.objs.size f2 cdv).kindOf "self" = some .local := hL "self" (by simp)
  have kf : (envOfC q (defScope st) s.heap.objs.size f2 cdv).kindOf f = some .local := hL f (by simp)
  have m1 : bindL (envOfC q (defScope st) s.heap.objs.size f2 cdv).kindOf [("self", .ref e), (f, v)] (fun _ => none) "self" = some (.ref e) := bindL_get (P := ["self", f]) (vs := [.ref e, v]) (i := 0) hS.nd rfl rfl kself
  have m2 : bindL (envOfC q (defScope st) s.heap.objs.size f2 cdv).kindOf [("self", .ref e), (f, v)] (fun _ => none) f = some v := bindL_get (P := ["self", f]) (vs := [.ref e, v]) (i := 1) hS.nd rfl rfl kf
  rw [hbody]
  show wpAny _ _ (execs _ _) _ _ _
  refine wpAny_execs_cons (plainObj_wpAny_Assign_Attribute ?_)
  refine wpAny_Name (wpAny_loadName_local hS.kind kf hn m2 ?_) ndb
  refine wpAny_Name (wpAny_loadName_local hS.kind kself hn m1 ?_) (by decide)
  refine PySem.W.set_plain X₁ (ox := HandSPX.excO C t0) (od := none) ⟨hx₁, rfl, rfl, trivial⟩ T.sa ?_
  refine osa_first BX X₁ hx₁ hov T.hdC T.tk (fun h₃ tk₃ dx k₃ dn dne hx₃ hn₃ => ?_)
  show wpAny _ _ (execs _ _) _ _ _
  have z : s.heap.objs.size < h₁.objs.size := hn.lt
  exact wpAny_execs_nil (hq h₃ tk₃ dx ⟨fun b o hb e => k₃ b o hb (k b o e), hx₃, Nat.le_of_lt (Nat.lt_of_lt_of_le z dn), dne, hn₃⟩)
theorem own_made (T : OwnX K mg x f C) (nf : f ≠ "self") (ndb : (f == ("__debug__" : Str)) = false) {v : Value} (X : K.In s.heap) (hlim : s.heap.NoLimit) (hroom : A.depth + 1 < recursionLimit)
    (hq : ∀ h' tk e d, MadeX s.heap h' e C d f v → R (.ok (.ret (.ref e))) { s with heap := h', toks := tk }) : codeAny (model prog w) A (.call (.ref C) ⟨[v], []⟩) R s := by
  obtain ⟨B, newId, initId, bm, BX, hini, hov⟩ := T.bas
  obtain ⟨nm, N', qn, bs, bmC, hdct, sn, sub, ab, col, dd, k0, k1, k2, k3, k5, hC, hT⟩ := PySem.W.excInit_of X hini
  obtain ⟨fI, _, _, _, _, _, _, _, hfI, tI, _⟩ := T.ini
  obtain ⟨hp, g, dr, tk, os⟩ := s
  have k : ∀ b o, hp.get? b = some o → ((hp.push (PySem.W.kdv_tup [v])).push (HandSPX.excO C hp.objs.size)).get? b = some o := fun b o e => Heap.get?_push_of_some _ (Heap.get?_push_of_some _ e)
  have hget : ((hp.push (PySem.W.kdv_tup [v])).push (HandSPX.excO C hp.objs.size)).get? (hp.objs.size + 1) = some (HandSPX.excO C hp.objs.size) := by heap_get
  have hnx : K.lookup (hp.objs.size + 1) = none := by
    cases e : K.lookup (hp.objs.size + 1) with
    | none => rfl
    | some o =>
      have z : hp.get? (hp.objs.size + 1) = some o := X _ _ e
      exact absurd (Nat.lt_of_succ_lt (Heap.lt_size z)) (Nat.lt_irrefl _)
  refine HandSPX.call_own BX.base hT hC (PySem.W.looks_findIn X hfI) (fun self => PySem.W.bind_fn X self tI) (one_line v) ?_
  refine own_init (s := ⟨(hp.push (PySem.W.kdv_tup [v])).push (HandSPX.excO C hp.objs.size), g, dr, tk, os⟩) T nf ndb hfI (X.keeps k) (hlim.keeps k) hget hnx ?_ fun h' tk' dx hD => ?_
  · show A.depth + 1 < recursionLimit
    exact hroom
  · obtain ⟨k', hx, dn, dne, hns⟩ := hD
    have old : ∀ b o, hp.get? b = some o → h'.get? b = some o := fun b o e => k' b o (Nat.ne_of_lt (Nat.lt_succ_of_lt (Heap.lt_size e))) (k b o e)
    have z : hp.objs.size + 1 + 1 ≤ dx := by
      have q := dn
      rw [Heap.size_push, Heap.size_push] at q
      exact q
    exact ⟨rfl, hq h' tk' (hp.objs.size + 1) dx ⟨old, Nat.le_succ _, ⟨_, hx, rfl, rfl⟩, Nat.le_trans (Nat.le_trans (Nat.le_succ _) (Nat.le_succ _)) z, dne, hns⟩⟩
end
theorem relO_one {v : V} {u : Value} (r : RelV v u) (f g : Str) : RelO (List.lookup g [(f, v)]) (if g = f then some u else none) := by
  by_cases h : g = f
  · subst h
    rw [if_pos rfl]
    have q : List.lookup g [(g, v)] = some v := by simp [List.lookup]
    rw [q]
    exact r
  · rw [if_neg h]
    have qw : (g == f) = false := by simpa using h
    have q : List.lookup g [(f, v)] = none := by simp [List.lookup, qw]
    rw [q]
    trivial
section
variable {X : Cx} {C : Addr}
/-- x(e) -/
def tMkX (C : Addr) (f : Str) (ta : TA) : L2.St → Hp → XK → Prop := fun σ H Q => ta σ H fun vs H1 => ∃ v, vs = [v] ∧ ∀ d, H1 d = none → Q (.ref C) (some d) (upd H1 d (.xd [(f, v)]))
theorem pmk_x {x f : Str} {a : Expr} {ta : TA} {p pos : Pos} {k : Nat} (T : OwnX X.K X.mg x f C) (hr : Room k X.A) (ha : PA X [a] ta) (nf : f ≠ "self" := by decide) (ndb : (f == ("__debug__" : Str)) = false := by decide) (hg : Gl X x := by rfl) (hdb : (x == ("__debug__" : Str)) = false := by decide)
    (he : starEach (a :: []) X.env = (false, eval a X.env) :: starEach [] X.env := by rfl) (hpl : (backTo pos (starEach [] X.env)).any (·.1) = false := by rfl) :
    L2N.PMk X (.Call (.Name x p) [a] [] pos) (tMkX C f ta) := by
  intro pins s σ H Q I h
  refine wpAny_Call_Name_kw (ld_glob I hg T.gC ?_ hdb)
  refine PySem.W.callWith_K (h₀ := X.base) I.ok.mod.kin T.kC (thn (ha.run pos pins s σ H _ I h) fun us s1 hh => ?_) he hpl
  obtain ⟨vs, H1, I1, r1, v, ev, q1⟩ := hh
  subst ev
  refine ⟨I1.kIn, ?_⟩
  cases r1 with
  | cons rv rn =>
    rename_i v' us'
    cases rn
    show wpAny _ _ (call (.ref C) [v']) _ _ _
    have hlim := I1.nolimit
    obtain ⟨hp, g, dr, tk, os⟩ := s1
    refine wpAny_call (own_made T nf ndb I1.kIn hlim (by have := hr.dp; omega) fun h' tk' e d M => ?_)
    show L2N.MkP X pins σ Q (.ref e) ⟨h', g, dr, tk', os⟩
    obtain ⟨fv, hoe, h1, h2⟩ := M.obj
    have hns := M.ns
    obtain ⟨G', g1, g2⟩ := restrict h' fun b => decide (b ≠ e)
    have gk : ∀ b, b ≠ e → G'.get? b = h'.get? b := fun b hb => g1 b (decide_eq_true hb)
    have ge : G'.get? e = none := g2 e (by simp)
    have old : ∀ b o, hp.get? b = some o → G'.get? b = some o := fun b o q => (gk b (Nat.ne_of_lt (Nat.lt_of_lt_of_le (Heap.lt_size q) M.new))).trans (M.keep b o q)
    have ob : ObjOk X.prog X.w (upd H1 d (.xd [(f, v)])) G' d (.xd [(f, v)]) := ⟨_, hns.at (fun o q => (gk d M.dne).trans q), fun y => relO_one rv f y⟩
    have J : Inv X pins σ (upd H1 d (.xd [(f, v)])) ⟨G', g, dr, tk', os⟩ := I1.laid (t' := tk') old M.dbig ob
    refine ⟨e, _, fv, ⟨G', g, dr, tk', os⟩, _, .ref C, some d, rfl, J, fun b o q => ?_, ge, hoe, ⟨rfl, rfl, fun vs q => ?_⟩, rfl, h1, ?_, rfl, I1.bare, raises_own T.exC T.tyC, q1 d (I1.hok.fresh M.dbig)⟩
    · by_cases hb : b = e
      · have q' : G'.get? b = some o := q
        rw [hb, ge] at q'
        cases q'
      · exact (gk b hb).symm.trans q
    · obtain rfl : fv = vs := Data.fields.inj q
      exact h2
    · rw [upd_ne (Ne.symm M.dne)]
      exact I1.hok.fresh M.new
theorem ps_raiseX {x f : Str} {a : Expr} {ta : TA} {W : WX} {p pos pos2 : Pos} {k : Nat} (hc : X.calm = true) (T : OwnX X.K X.mg x f C) (hr : Room k X.A) (tk : L2N.Takes X W) (ha : PA X [a] ta) (nf : f ≠ "self" := by decide) (ndb : (f == ("__debug__" : Str)) = false := by decide) (hg : Gl X x := by rfl)
    (hdb : (x == ("__debug__" : Str)) = false := by decide) (he : starEach (a :: []) X.env = (false, eval a X.env) :: starEach [] X.env := by rfl) (hpl : (backTo pos (starEach [] X.env)).any (·.1) = false := by rfl) :
    PS X (.Raise (some (.Call (.Name x p) [a] [] pos)) none pos2) (fun _ σ H => tMkX C f ta σ H fun cls d H' => W cls d σ H') := L2N.ps_raise hc tk (pmk_x T hr ha nf ndb hg hdb he hpl)
end
end Wl

/-! Where an exception is being handled: defs called, comprehensions over range. -/
namespace Wl
open PySem PySem.Spec PyProof.Rows L2
/-- what is handled stands at a, tracked -/
def HotH (a : Addr) (H : Hp) : Prop := ∃ cls d, H a = some (exH a cls d)
theorem HotH.same {a : Addr} {H H' : Hp} (h : HotH a H) (s : Same H H') : HotH a H' := by
  obtain ⟨cls, d, e⟩ := h
  exact ⟨cls, d, s _ _ e⟩
/-- a def called there, its promise -/
structure FnT (P : Program) (w : World) (K : PySem.W.Frag) (mg : Str → Option Value) (base : Heap) (CX : CXT) (k : Nat) (f : Addr) (fd : FuncData) (ps : List Str) (sp : Addr → Sp) : Prop where
  len : ∀ a vs H Q E, sp a vs H Q E → vs.length = ps.length
  run : ∀ (A : Around) (outer : List Env) (s : Shared) (H : Hp) (args : Args) (us : List Value) (vs : List V) (Q : VK) (E : XK) (a : Addr), L2H.RoomH k A → A.handled = some (.ref a) → HotH a H → Env0 P w K mg base A outer s H → BindsTo s fd args (ps.zip us) → Vals vs us → sp a vs H Q E →
    codeAny (model P w) A (.call (.ref f) args) (CR CX outer P w H s Q E) s
/-- the body's context -/
def cxT (CX : CXT) (P : Program) (w : World) (K : PySem.W.Frag) (mg : Str → Option Value) (base : Heap) (N : List Str) (qual : Str) (scope : Scope) (f : Addr) (cd : Value) (A : Around) (outer : List Env) (s : Shared) (H : Hp) (E : XK) : Cx :=
  { cxOf CX P w K mg base N qual scope f cd A outer s H E with calm := false }
section
variable {P : Program} {w : World} {K : PySem.W.Frag} {mg : Str → Option Value} {base : Heap} {CX : CXT}
theorem inv_startT {N ps : List Str} {qual : Str} {scope : Scope} {f : Addr} {cd : Value} {A : Around} {outer : List Env} {s s1 : Shared} {H : Hp} {E : XK} {us : List Value} {vs : List V} (S : FnScope N ps scope) (e0 : Env0 P w K mg base A outer s H) (hl : vs.length = ps.length) (r : Vals vs us)
    (x : InCallC s s.heap.objs.size (bindL (envOfC qual scope s.heap.objs.size f cd).kindOf (ps.zip us) fun _ => none) (cellsFrom (s.heap.objs.size + 1) scope.names []) (bindC (envOfC qual scope s.heap.objs.size f cd).kindOf (ps.zip us) fun _ => none) s1) :
    Inv (cxT CX P w K mg base N qual scope f cd A outer s H E) [] (L2.start N vs) H s1 := by
  obtain ⟨oG, es, ep, hG, hd, _⟩ := e0.mod.glob
  have b0 := e0.bs _ _ hG
  have pin : L2H.PinOk outer H s (mainGlobals, oG) := ⟨b0.1, b0.2, fun hm => (by
    have z := (e0.funs.mem hm).1
    rw [hG] at z
    cases z), fun v z => (by
    have z : oG.data = .cell v := z
    rw [hd] at z
    cases z)⟩
  have I := L2H.inv_startH (CX := CX) (E := E) S pin e0 hl r x
  refine ⟨(Cx.Ok.toTry I.ok [] (cxT CX P w K mg base N qual scope f cd A outer s H E).xe), I.os, I.bare, I.base, I.loc, I.cell, I.free, I.freeC, fun p hp => ?_, I.hok, I.len⟩
  exact absurd (show p ∈ ([] : List (Addr × Obj)) ++ [] from hp) (by simp)
theorem fn_ofT {k : Nat} {f : Addr} {name qual : Str} {params : Arguments} {body : List Stmt} {scope : Scope} {dV kV doc pm cdv ct oc : Value} {an od : Option Addr} {osl : Array (Option Value)} {N ps : List Str} {sp : Addr → Sp}
    (lk : K.lookup f = some ⟨oc, od, .func (PySem.W.fnOf name qual params body scope dV kV doc pm an cdv ct), osl⟩) (hcd : PySem.W.codeIn K cdv qual = true) (S : FnScope N ps scope) (len : ∀ a vs H Q E, sp a vs H Q E → vs.length = ps.length)
    (hbody : ∀ (A : Around) (outer : List Env) (s : Shared) (H : Hp) (vs : List V) (Q : VK) (E : XK) (a : Addr), A.handled = some (.ref a) → HotH a H → L2H.RoomH k (A.deeper (envOfC qual scope s.heap.objs.size f cdv)) → sp a vs H Q E →
      ∃ t, PSs (cxT CX P w K mg base N qual scope f cdv A outer s H E) body t ∧ t { nx := fun _ H' => Q .non H', rt := Q } (L2.start N vs) H) :
    FnT P w K mg base CX (k + 1) f (PySem.W.fnOf name qual params body scope dV kV doc pm an cdv ct) ps sp := by
  refine ⟨len, ?_⟩
  intro A outer s H args us vs Q E a hr hot hh e0 hb r hsp
  have hl := len _ _ _ _ _ hsp
  have KX : K.In s.heap := e0.mod.kin.keeps fun b o e => (e0.bs b o e).1
  have lim : s.heap.NoLimit := e0.mod.nolimit.keeps fun b o e => (e0.bs b o e).1
  refine codeAny_call_function hr.depth (KX _ _ lk) rfl S.co S.gen rfl (PySem.W.codeRec_of KX hcd) (hb _ _ _ _ ?_)
  refine wpAny_newFunctionEnv_cells S.kind (fun ⟨n, v⟩ hy => ?_) fun env he s1 x => ?_
  · rcases S.par n (List.of_mem_zip hy).1 with q | q
    · exact .inl q
    · exact .inr ⟨q, PySem.W.cellsFrom_some _ _ _ (.inl q)⟩
  subst he
  refine ⟨lim.keeps x.toInCall.keep, codeAny_func ?_⟩
  obtain ⟨t, ht, hq⟩ := hbody A outer s H vs Q E a hot hh (hr.deeper _) hsp
  refine wpAny_mono (ht.run [] s1 (L2.start N vs) H _ (inv_startT S e0 hl r x) hq) (fun fl s' hs => ?_) fun e s' hs => hs
  have fin : ∀ {σ' : L2.St} {H' : Hp} {v : V} {u : Value}, Inv (cxT CX P w K mg base N qual scope f cdv A outer s H E) [] σ' H' s' → RelV v u → Q v H' → CE outer P w H s Q u s' := by
    intro σ' H' v u J rv q
    exact ⟨v, H', J.os, J.bare, J.base, J.hok, rv, q⟩
  cases fl with
  | ret u =>
    obtain ⟨v, σ', H', J, rv, q⟩ := hs
    exact fin J rv q
  | next =>
    obtain ⟨σ', H', J, q⟩ := hs
    exact fin (v := V.non) (u := Value.none) J rfl q
  | brk =>
    obtain ⟨_, _, _, q⟩ := hs
    exact False.elim q
  | cont =>
    obtain ⟨_, _, _, q⟩ := hs
    exact False.elim q
theorem FunT_ok {x qual : Str} {st : Stmt} {f : Addr} {fd : FuncData} {N ps : List Str} {k : Nat} {sp : Addr → Sp} (F : Fun K x qual st f fd) (S : FnScope N ps (defScope st)) (len : ∀ a vs H Q E, sp a vs H Q E → vs.length = ps.length)
    (hbody : ∀ (cdv : Value) (A : Around) (outer : List Env) (s : Shared) (H : Hp) (vs : List V) (Q : VK) (E : XK) (a : Addr), A.handled = some (.ref a) → HotH a H → L2H.RoomH k (A.deeper (envOfC qual (defScope st) s.heap.objs.size f cdv)) → sp a vs H Q E →
      ∃ t, PSs (cxT CX P w K mg base N qual (defScope st) f cdv A outer s H E) (defBody st) t ∧ t { nx := fun _ H' => Q .non H', rt := Q } (L2.start N vs) H) : FnT P w K mg base CX (k + 1) f fd ps sp := by
  obtain ⟨oc, od, kV, doc, pm, an, cdv, ct, osl, rfl, lk, hcd⟩ := F.ex
  exact fn_ofT lk hcd S len fun A outer s H vs Q E a hot hh hr hsp => hbody cdv A outer s H vs Q E a hot hh hr hsp
/-- defs that keep promises there, by name -/
def HasT (P : Program) (w : World) (K : PySem.W.Frag) (mg : Str → Option Value) (base : Heap) (x : Str) (k : Nat) (ps : List Str) (sp : Addr → Sp) : Prop :=
  ∃ f fd, FnT P w K mg base CX0 k f fd ps sp ∧ mg x = some (.ref f) ∧ PySem.W.keepIn K (.ref f) = true ∧ Binds K fd ps []
end
section
variable {X : Cx} {k j : Nat} {ps : List Str} {sp : Addr → Sp} {x : Str} {p pos : Pos} {e : Expr} {es : List Expr} {t : TA} {hd : Addr}
/-- f(..), where what stands at hd is being handled -/
def tCallT (hd : Addr) (sp : Addr → Sp) (t : TA) : TE := fun σ H Q => t σ H fun vs H1 => HotH hd H1 ∧ sp hd vs H1 Q E0
theorem pe_ht (h : HasT X.prog X.w X.K X.mg X.base x k ps sp) (hr : L2H.RoomH j X.A) (hot : X.A.handled = some (.ref hd)) (ha : PA X (e :: es) t) (hkj : k ≤ j := by decide) (hg : Gl X x := by rfl) (hdb : (x == ("__debug__" : Str)) = false := by decide)
    (he : starEach (e :: es) X.env = (false, eval e X.env) :: starEach es X.env := by rfl) (hpl : (backTo pos (starEach es X.env)).any (·.1) = false := by rfl) :
    PE X (.Call (.Name x p) (e :: es) [] pos) (tCallT hd sp t) := by
  obtain ⟨f, fd, F, g, kp, b⟩ := h
  refine ⟨fun pins s σ H Q I h => ?_⟩
  refine wpAny_Call_Name_kw (ld_glob I hg g ?_ hdb)
  refine PySem.W.callWith_K (h₀ := X.base) I.ok.mod.kin kp (thn (ha.run pos pins s σ H _ I h) fun us s1 ⟨vs, H1, I1, r, hh, q⟩ => ⟨I1.kIn, ?_⟩) he hpl
  have hl : us.length = ps.length := by
    rw [← r.length]
    exact F.len _ _ _ _ _ q
  have bb := b s1 us I1.kIn (by rw [List.append_nil]; exact hl)
  rw [List.append_nil] at bb
  refine wpAny_call (codeAny_mono (F.run X.A X.stack s1 H1 ⟨us, []⟩ us vs Q E0 hd (hr.mono hkj) hot hh I1.env0 bb r q) fun r s' hq => ?_)
  cases r with
  | error e => exact False.elim hq
  | ok fl =>
    cases fl with
    | ret u => exact I1.after hq
    | next => exact False.elim hq
    | brk => exact False.elim hq
    | cont => exact False.elim hq
end
/-! ### comprehensions -/
/-- an iterator's turns, there: its end asks for what is handled -/
def ItHot (hd : Addr) (J : It) : It := { go := J.go, yld := J.yld, stop := fun i H => J.stop i H ∧ HotH hd H }
structure TurnT (P : Program) (w : World) (K : PySem.W.Frag) (hd : Addr) (tg : Expr) (J : It) (fp : List Addr) (it : Addr) (tn : Nat → Heap → Prop) : Prop where
  mem : it ∈ fp
  obj : ∀ i h, tn i h → ∀ b ∈ fp, ∃ o, h.get? b = some o ∧ ∀ v, o.data ≠ .cell v
  keep : ∀ i h h', tn i h → (∀ b ∈ fp, ∀ o, h.get? b = some o → h'.get? b = some o) → tn i h'
  item : ∀ (X : Cx), X.prog = P → X.w = w → X.K = K → X.A.handled = some (.ref hd) → ∀ (i : Nat) (pins : List (Addr × Obj)) (s : Shared) (σ : L2.St) (H : Hp) (E : Value → Shared → Prop), Inv X pins σ H s → (∀ b ∈ fp, FpOk X pins H b) → tn i s.heap → J.go i H →
    wpAny (model P w) X.A (pyNext (.ref it)) (fun r s1 => ∃ u, r = some u ∧
      wpAny (model P w) X.A (letOwnedTupleGo tg (.ref it) u) (fun _ s2 => ∃ x H', Inv X pins σ H' s2 ∧ RelV x u ∧ J.yld i H x H' ∧ tn (i + 1) s2.heap ∧ ∀ b ∈ fp, H' b = none) E s1) E s
  done : ∀ (X : Cx), X.prog = P → X.w = w → X.K = K → X.A.handled = some (.ref hd) → ∀ (i : Nat) (pins : List (Addr × Obj)) (s : Shared) (σ : L2.St) (H : Hp) (E : Value → Shared → Prop), Inv X pins σ H s → (∀ b ∈ fp, FpOk X pins H b) → tn i s.heap → J.stop i H → HotH hd H →
    wpAny (model P w) X.A (pyNext (.ref it)) (fun r s1 => r = none ∧ Inv X pins σ H s1) E s
  self : ∀ (A : Around) (i : Nat) (s : Shared) (Q : Value → Shared → Prop) (E : Value → Shared → Prop), tn i s.heap → Q (.ref it) s → wpAny (model P w) A (pyIter (.ref it)) Q E s
theorem turn_rangeT {P : Program} {w : World} {K : PySem.W.Frag} {hd : Addr} {tg : Expr} (it : Addr) (lo : Int) (n : Nat) : TurnT P w K hd tg (Itr lo n) [it] it (fun i h => IsRangeIter h it (lo + (i : Nat) * 1) ((n : Int) - (i : Nat)) 1) where
  mem := by simp
  obj := by
    intro i h st b hb
    obtain rfl : b = it := by simpa using hb
    refine ⟨_, st, fun v z => ?_⟩
    have z' : Data.fields _ = Data.cell v := z
    cases z'
  keep := fun i h h' st k => k it (by simp) _ st
  item := by
    intro X hP hw hK hc i pins s σ H E I hf st hg
    subst hP hw hK
    obtain ⟨f0, f1, f2, f3, f4, f5⟩ := hf it (by simp)
    have hlt : i < n := hg
    refine wpAny_pyNext_range_item st (by omega) fun h' st' sb => ?_
    have e1 : lo + ((i : Nat) : Int) * 1 + 1 = lo + ((i + 1 : Nat) : Int) * 1 := by omega
    have e2 : (n : Int) - ((i : Nat) : Int) - 1 = (n : Int) - ((i + 1 : Nat) : Int) := by omega
    rw [e1, e2] at st'
    have J1 : Inv X pins σ H { s with heap := h', toks := s.toks + 1 } := I.turned (fun b o hb e => (sb.2 b hb).trans e) f0 f1 f3 f4 f5
    refine ⟨_, rfl, go_of (s := { s with heap := h', toks := s.toks + 1 }) (n := "range_iterator") st' rfl rfl (by decide) ⟨.int (lo + i), H, J1, ⟨s.toks, ?_⟩, ⟨rfl, rfl⟩, st', fun b hb => (hf b hb).1⟩⟩
    rw [Int.mul_one]
  done := by
    intro X hP hw hK hc i pins s σ H E I hf st hg hh
    subst hP hw hK
    obtain ⟨f0, f1, f2, f3, f4, f5⟩ := hf it (by simp)
    obtain ⟨cls, d, ea⟩ := hh
    exact HotX.pyNext_range_end_hot (exH_hot I.hok ea hc) st (by have : n ≤ i := hg; omega) fun h' eb => ⟨rfl, I.turned (t' := s.toks) (fun b o _ e => eb b o e) f0 f1 f3 f4 f5⟩
  self := fun _ _ _ _ _ st h => wpAny_pyIter_rangeiter st h
def PIET (X : Cx) (hd : Addr) (pins : List (Addr × Obj)) (σ : L2.St) (tg : Expr) (R : It → Hp → Prop) (itv : Value) (s2 : Shared) : Prop :=
  ∃ (it : Addr) (fp : List Addr) (tn : Nat → Heap → Prop) (J : It) (H' : Hp), itv = .ref it ∧ Inv X pins σ H' s2 ∧ TurnT X.prog X.w X.K hd tg J fp it tn ∧ tn 0 s2.heap ∧ (∀ b ∈ fp, FpOk X pins H' b) ∧ R (ItHot hd J) H'
structure PIT (X : Cx) (hd : Addr) (tg iter : Expr) (wi : TI) : Prop where
  run : ∀ (pins : List (Addr × Obj)) (s : Shared) (σ : L2.St) (H : Hp) (R : It → Hp → Prop), Inv X pins σ H s → wi σ H R →
    wpAny (model X.prog X.w) X.A (eval iter X.env) (fun v s1 => wpAny (model X.prog X.w) X.A (pyIter v) (PIET X hd pins σ tg R) X.xe s1) X.xe s
/-- range(n) there -/
def iRngT (hd : Addr) (ta : TA) : TI := fun σ H R => ta σ H fun vs H1 => ∃ n : Nat, vs = [.int n] ∧ n ≤ 1000 ∧ R (ItHot hd (Itr 0 n)) H1
theorem pi_rangeT {X : Cx} {hd : Addr} {tg : Expr} {a : Expr} {ta : TA} {p pos : Pos} (hg : Gl X "range") (hm : X.mg "range" = none) (ha : PA X [a] ta) (hs : starEach [a] X.env = [(false, eval a X.env)] := by rfl) : PIT X hd tg (.Call (.Name "range" p) [a] [] pos) (iRngT hd ta) := by
  refine ⟨fun pins s σ H R I h => ?_⟩
  refine Call_ (ld_blt I hg hm boot_range (PyProof.Rows.callWith_type1 (thn (ha.run pos pins s σ H _ I h) fun us s1 hh => ?_) hs rfl))
  obtain ⟨vs, H1, J1, r1, n, e, hn, q⟩ := hh
  subst e
  obtain ⟨u, rfl, t, rfl⟩ := vals1 r1
  refine call_range_1 ?_
  refine wpAny_pyIter_range (IsRange.new ..) (small_one (by omega) (by omega) (by omega) (by omega)) ?_
  have J2 : Inv X pins σ H1 { s1 with heap := s1.heap.push { cls := .type "range", data := .fields #[.int 0 s1.toks, .int n t, .int 1 (s1.toks + 1)] }, toks := s1.toks + 2 } := J1.kept fun b o e => Heap.get?_push_of_some _ e
  refine ⟨_, [_], _, _, H1, rfl, J2.kept (t' := s1.toks + 2) fun b o e => Heap.get?_push_of_some _ e, turn_rangeT _ 0 n, ?_, fun b hb => ?_, q⟩
  · have e2 : ((n : Int)) - ((0 : Nat) : Int) = Builtin.Range.rangeSize 0 n 1 := by rw [rangeSize_one]; split <;> omega
    show IsRangeIter _ _ ((0 : Int) + ((0 : Nat) : Int) * 1) ((n : Int) - ((0 : Nat) : Int)) 1
    rw [e2]
    exact Heap.get?_push_size _ rfl
  · obtain rfl := List.mem_singleton.mp hb
    exact J2.fpOk (Nat.le_refl _) (J2.hok.fresh (Nat.le_refl _))
end Wl

/-! [e for x in it if ..] where an exception is being handled. -/
namespace Wl
open PySem PySem.Spec PyProof.Rows L2
section
variable {X : Cx} {hd : Addr}
theorem lcT_core {pins : List (Addr × Obj)} {s : Shared} {σ : L2.St} {H : Hp} {Q : VK} {elt tg iter : Expr} {ifs : List Expr} {scope : Scope} {own : List (Str × Nat)} {pos pos' : Pos} {wi : TI} {g : TG} {tt : TT} {te : TE} {use : Option (Value → Sem Unit)} {Qf : Value → Shared → Prop}
    (hot : X.A.handled = some (.ref hd)) (hN : X.N.Nodup) (I : Inv X pins σ H s) (hi : PIT X hd tg iter wi) (ok : BlkOk X.N X.env.scope scope own)
    (hg : ∀ (s : Shared) (H : Hp) (C : Addr) (cl : List (Str × Addr)) (fp : List Addr), PG (X.blk s H scope (compEnvC scope cl C X.env) fp) tg g)
    (ht : ∀ (s : Shared) (H : Hp) (C : Addr) (cl : List (Str × Addr)) (fp : List Addr), PTs (X.blk s H scope (compEnvC scope cl C X.env) fp) ifs tt)
    (he : ∀ (s : Shared) (H : Hp) (C : Addr) (cl : List (Str × Addr)) (fp : List Addr), PE (X.blk s H scope (compEnvC scope cl C X.env) fp) elt te) (hs : ∀ x, foldedSetIterable iter X.env x = pure x) (h : tLc wi g tt te (own.map (·.2)) σ H Q)
    (hEnd : ∀ L C s' m H', Inv X pins σ H' s' → Q (.ref L) H' → s'.heap.Ns C m → FpOk X pins H' C → compPost (model X.prog X.w) X.A X.xe use Qf (.ref L) C (.ok .next) s') :
    wpAny (model X.prog X.w) X.A (comprehension (.ListComp elt [⟨tg, iter, ifs, 0⟩] scope pos) scope X.env pos' (newList []) false (eval iter X.env) use) Qf X.xe s := by
  refine wpAny_comprehension_free (use := use) rfl hs (closure_ok fun y hy e => ?_) ok.kind (fun y hy e => by rw [ok.uniq y hy, e]) (thn (hi.run pins s σ H _ I h) fun xv sA hx => thn hx fun itv sB hB => ?_)
  · exact (ok.free y hy e).elim (fun k => I.ok.has _ (.inl k)) (fun k => I.ok.has _ (.inr k))
  obtain ⟨it, fp, tn, J, HB, ei, IB, T, stB, fB, q⟩ := hB
  subst ei
  refine wpAny_newObj_type (newEnv_comp ?_) (by show 0 ≤ sizeLine; decide)
  generalize hL : sB.heap.objs.size = L
  have hLn : HB L = none := IB.hok.fresh (Nat.le_of_eq hL)
  obtain ⟨W, ⟨m0, w0⟩, turn⟩ := q L hLn
  generalize hsC : ({ sB with heap := sB.heap.push { cls := .type "list", data := .seq ([] : List Value).toArray } } : Shared) = sC
  have IC : Inv X pins σ (upd HB L (.lst [])) sC := by
    subst hsC
    refine IB.laid (t' := sB.toks) (fun b o e => Heap.get?_push_of_some _ e) (Nat.le_of_eq hL) ⟨Nat.zero_le _, [], 0, .nil, ?_⟩
    subst hL
    exact Heap.get?_push_size _ rfl
  have eC : sC.heap = sB.heap.push { cls := .type "list", data := .seq ([] : List Value).toArray } := by rw [← hsC]
  have fC : ∀ b ∈ fp, FpOk X pins (upd HB L (.lst [])) b ∧ b < sC.heap.objs.size := by
    intro b hb
    obtain ⟨o, e, _⟩ := T.obj _ _ stB b hb
    have hlt : b < sB.heap.objs.size := Heap.lt_size e
    refine ⟨⟨?_, (fB b hb).2⟩, by rw [eC, Heap.size_push]; exact Nat.lt_succ_of_lt hlt⟩
    rw [upd_ne (by rw [← hL]; exact Nat.ne_of_lt hlt)]
    exact (fB b hb).1
  have stC : tn 0 sC.heap := T.keep _ _ _ stB fun b _ o e => by rw [eC]; exact Heap.get?_push_of_some _ e
  have ID := block_start IC ok hN fC
  have pg := hg sC (upd HB L (.lst [])) sC.heap.objs.size (cellsFrom (sC.heap.objs.size + 1) scope.names (cloFrom X.env.cells scope.names [])) fp
  have pt := ht sC (upd HB L (.lst [])) sC.heap.objs.size (cellsFrom (sC.heap.objs.size + 1) scope.names (cloFrom X.env.cells scope.names [])) fp
  have pe := he sC (upd HB L (.lst [])) sC.heap.objs.size (cellsFrom (sC.heap.objs.size + 1) scope.names (cloFrom X.env.cells scope.names [])) fp
  show codeAny _ _ (.compStart (.ListComp elt [⟨tg, iter, ifs, 0⟩] scope pos) 0 (.ref it) (.ref L) (compEnvC scope (cellsFrom (sC.heap.objs.size + 1) scope.names (cloFrom X.env.cells scope.names [])) sC.heap.objs.size X.env)) (compPost (model X.prog X.w) X.A X.xe use Qf (.ref L) sC.heap.objs.size) { sC with heap := pushCells (sC.heap.push { cls := .type "dict", data := .dict #[] }) scope.names }
  have nfp : ∀ b ∈ fp, (upd HB L (.lst [])) b = none := fun b hb => (fC b hb).1.1
  generalize hce : compEnvC scope (cellsFrom (sC.heap.objs.size + 1) scope.names (cloFrom X.env.cells scope.names [])) sC.heap.objs.size X.env = ce at ID pg pt pe ⊢
  have cL : ce.locals = sC.heap.objs.size := by subst hce; rfl
  generalize hHC : upd HB L (.lst []) = HC at IC ID pg pt pe w0 nfp fC
  generalize hsD : ({ sC with heap := pushCells (sC.heap.push { cls := .type "dict", data := .dict #[] }) scope.names } : Shared) = sD at ID ⊢
  have stD : tn 0 sD.heap := T.keep _ _ _ stC fun b _ o e => by rw [← hsD]; exact pushCells_keeps _ _ _ _ (Heap.get?_push_of_some _ e)
  have stat : ∀ {σ' : L2.St} {H' : Hp} {s' : Shared}, Inv (X.blk sC HC scope ce fp) [] σ' H' s' → (∀ b ∈ fp, H' b = none) → ∀ b ∈ fp, FpOk (X.blk sC HC scope ce fp) [] H' b := by
    intro σ' H' s' I' hn b hb
    exact ⟨hn b hb, (I'.ok.exf b hb).1, I'.ok.exfs b hb, .inl hb, fun x c e => (I'.ok.exf b hb).2 x c e, fun p hp => absurd (show p ∈ ([] : List (Addr × Obj)) ++ [] from hp) (by simp)⟩
  have loop : codeAny (model X.prog X.w) X.A (.compLoop (.ListComp elt [⟨tg, iter, ifs, 0⟩] scope pos) 0 (.ref it) (.ref L) ce) (compPost (model X.prog X.w) X.A X.xe use Qf (.ref L) sC.heap.objs.size) sD := by
    refine compLoop_any (fun n s' => ∃ i H', Inv (X.blk sC HC scope ce fp) [] (wipe σ (own.map (·.2))) H' s' ∧ tn i s'.heap ∧ (∀ b ∈ fp, H' b = none) ∧ W i n H') ?_ m0 ⟨0, HC, ID, stD, nfp, w0⟩
    rintro n sE ⟨i, HE, IE, stE, nE, wE⟩
    rcases turn i n HE wE with ⟨stop, qq⟩ | ⟨go, Nx, hNx, step⟩
    · have td := T.done (X.blk sC HC scope ce fp) rfl rfl rfl hot i [] sE _ HE (fun _ _ => False) IE (stat IE nE) stE stop.1 stop.2
      refine thnF td fun r sF ⟨hr, IF⟩ => ?_
      subst hr
      have IG : Inv X pins σ HE sF := IC.call' (ch := fp) IF.os IF.base IF.hok IF.bare fun b hb => ⟨(fC b hb).1.2.2.2.1, (fC b hb).1.2.1, (fC b hb).1.2.2.2.2.1, (fC b hb).1.2.2.2.2.2⟩
      have nC : HE sC.heap.objs.size = none := by
        have z : HE ce.locals = none := IF.free
        rw [cL] at z
        exact z
      obtain ⟨m, hn, _⟩ := IF.loc
      have hn : sF.heap.Ns ce.locals m := hn
      rw [cL] at hn
      exact hEnd L sC.heap.objs.size sF m HE IG qq hn (IC.fpOk (Nat.le_refl _) nC)
    · have ti := T.item (X.blk sC HC scope ce fp) rfl rfl rfl hot i [] sE _ HE (fun _ _ => False) IE (stat IE nE) stE go
      refine thnF ti fun r sF ⟨u, hr, hF⟩ => ?_
      subst hr
      refine thnF hF fun _ sG ⟨x, HG, IG, rG, yG, stG, nG⟩ => ?_
      have IG' := IG.pinned (stat IG nG) (T.obj _ _ stG)
      refine thnF (pg.run _ sG _ HG x u _ IG' rG (step x HG yG)) fun _ sK ⟨σK, HK, IK, hwK, qK⟩ => ?_
      refine thnF (pt.run _ sK σK HK _ IK qK) fun b sM ⟨HM, IM, qM⟩ => ?_
      have fin : ∀ {s' : Shared} {H' : Hp}, Inv (X.blk sC HC scope ce fp) ([] ++ pinsAt fp sG.heap) σK H' s' → Nx H' → ∃ m, m < n ∧ ∃ i H', Inv (X.blk sC HC scope ce fp) [] (wipe σ (own.map (·.2))) H' s' ∧ tn i s'.heap ∧ (∀ b ∈ fp, H' b = none) ∧ W i m H' := by
        intro s' H' I' nx
        obtain ⟨m', hm, w'⟩ := hNx H' nx
        have pin' : ∀ b ∈ fp, ∀ o, sG.heap.get? b = some o → s'.heap.get? b = some o ∧ H' b = none := fun b hb o e =>
          have z := I'.pin (b, o) (List.mem_append_right _ (List.mem_append_right _ (mem_pinsAt hb e)))
          ⟨z.1, z.2.1⟩
        have hl : (wipe σ (own.map (·.2))).length = σK.length := by rw [← hwK, wipe_length]
        refine ⟨m', hm, i + 1, H', (I'.unpinned (pins := [])).weak hl (fun j v e => ?_), T.keep _ _ _ stG fun b hb o e => (pin' b hb o e).1, fun b hb => ?_, w'⟩
        · rw [← hwK] at e
          exact (wipe_some e).1
        · obtain ⟨o, e, _⟩ := T.obj _ _ stG b hb
          exact (pin' b hb o e).2
      cases b with
      | false =>
        simp only [Bool.false_eq_true, if_false] at qM ⊢
        exact fin IM qM
      | true =>
        simp only [if_true] at qM ⊢
        refine thnF (pe.run _ sM σK HM _ IM qM) fun z sO ⟨yv, HO1, IO, rO, acc, hDO, hzO, nx⟩ => ?_
        exact app_ok (X := X.blk sC HC scope ce fp) IO hDO hzO rO fun sP IP => fin IP nx
  exact codeAny_compStart_list loop (T.self X.A 0 _ _ _ stD loop)
theorem pe_lcT {elt tg iter : Expr} {ifs : List Expr} {scope : Scope} {own : List (Str × Nat)} {pos : Pos} {wi : TI} {g : TG} {tt : TT} {te : TE} (hot : X.A.handled = some (.ref hd)) (hN : X.N.Nodup) (hi : PIT X hd tg iter wi) (ok : BlkOk X.N X.env.scope scope own)
    (hg : ∀ (s : Shared) (H : Hp) (C : Addr) (cl : List (Str × Addr)) (fp : List Addr), PG (X.blk s H scope (compEnvC scope cl C X.env) fp) tg g)
    (ht : ∀ (s : Shared) (H : Hp) (C : Addr) (cl : List (Str × Addr)) (fp : List Addr), PTs (X.blk s H scope (compEnvC scope cl C X.env) fp) ifs tt)
    (he : ∀ (s : Shared) (H : Hp) (C : Addr) (cl : List (Str × Addr)) (fp : List Addr), PE (X.blk s H scope (compEnvC scope cl C X.env) fp) elt te) (hs : ∀ x, foldedSetIterable iter X.env x = pure x := by intro _; rfl) :
    PE X (.ListComp elt [⟨tg, iter, ifs, 0⟩] scope pos) (tLc wi g tt te (own.map (·.2))) := by
  refine ⟨fun pins s σ H Q I h => ?_⟩
  rw [eval_ListComp]
  refine lcT_core hot hN I hi ok hg ht he hs h fun L C s' m H' I' q hn f => ⟨m, hn, fun h'' sb => ?_⟩
  obtain ⟨u0, u1, u2, u3, u4, u5⟩ := f
  exact ⟨.ref L, H', I'.turned (t' := s'.toks) (fun b o hb e => (sb.2 b hb).trans e) u0 u1 u3 u4 u5, rfl, q⟩
end
theorem walk_rangeT {a : Addr} {n : Nat} : L2.Walk (ItHot a (Itr 0 n)) n (HotH a) (YFn fun i => .int ((0 : Int) + i)) :=
  ⟨fun _ _ hi _ => hi, fun _ h => ⟨Nat.le_refl _, h⟩, fun _ _ _ _ _ _ y => y⟩
section
variable {a : Addr} {n slot : Nat} {te : TE} {vs : List Nat} {σ : L2.St} {H1 : Hp} {D : Addr} {Qd : Hp → Prop}
theorem lc_rangeT (hD : H1 D = none) (hot : HotH a H1) (f : Nat → V) (hw : ∀ x, wipe ((wipe σ vs).set slot (some x)) vs = wipe σ vs)
    (he : ∀ (k : Nat) (H : Hp), k < n → Same H1 H → ∀ Q : VK, Q (f k) H → te ((wipe σ vs).set slot (some (.int ((0 : Int) + k)))) H Q) (hn : n ≤ 1000)
    (hd : ∀ H, Same H1 H → H D = some (.lst ((List.range n).map f)) → Qd H) :
    ∃ W : Nat → Nat → Hp → Prop, (∃ m, W 0 m (upd H1 D (.lst []))) ∧ ∀ i m H, W i m H →
      ((ItHot a (Itr 0 n)).stop i H ∧ Qd H) ∨ ((ItHot a (Itr 0 n)).go i H ∧ ∃ Nx : Hp → Prop, (∀ H', Nx H' → ∃ m', m' < m ∧ W (i + 1) m' H') ∧ ∀ x H', (ItHot a (Itr 0 n)).yld i H x H' → gName slot x (wipe σ vs) H' fun σ2 H2 => wipe σ2 vs = wipe σ vs ∧ tYes σ2 H2 fun b H3 =>
        if b = true then te σ2 H3 fun y H4 => ∃ acc, H4 D = some (.lst acc) ∧ acc.length < sizeLine ∧ Nx (upd H4 D (.lst (acc ++ [y]))) else Nx H3) := by
  refine lc_it walk_rangeT (fun i H => Same H1 H ∧ H D = some (.lst ((List.range i).map f))) ⟨same_new hD, upd_same⟩ (fun i H _ h => hot.same h.1) ?_ (fun H h => hd H h.1 h.2)
  rintro i x H H' hi ⟨s, hz⟩ ⟨rfl, rfl⟩
  refine ⟨hw _, yes_it (he i _ hi s _ ⟨_, hz, ?_, same_mut s hD, ?_⟩)⟩
  · rw [List.length_map, List.length_range]
    exact small1000 (by omega)
  · rw [upd_same, List.range_succ, List.map_append]
    rfl
end
end Wl

/-! Defs that may raise: promises put together, called by name, the wishes. -/
namespace Wl
open PySem PySem.Spec PyProof.Rows L2
section
variable {P : Program} {w : World} {K : PySem.W.Frag} {mg : Str → Option Value} {base : Heap} {f : Addr} {fd : FuncData} {ps : List Str} {k j : Nat} {sp sp' : Sp} {CX : CXT}
/-- a def that lets nothing out, where exceptions are told -/
theorem FnOk_x (F : FnOk P w K mg base CX0 k f fd ps sp) : FnOk P w K mg base (L2N.CX P w) k f fd ps sp :=
  ⟨F.len, fun A outer s H args us vs Q E hr e0 hb r h => codeAny_mono (F.run A outer s H args us vs Q E hr e0 hb r h) fun r s' z => by
    cases r with
    | error e => exact False.elim z
    | ok fl => cases fl <;> exact z⟩
/-- two promises of one def -/
theorem FnOk_or (F : FnOk P w K mg base CX k f fd ps sp) (G : FnOk P w K mg base CX j f fd ps sp') : FnOk P w K mg base CX (max k j) f fd ps (fun vs H Q E => sp vs H Q E ∨ sp' vs H Q E) := by
  refine ⟨fun vs H Q E h => h.elim (F.len vs H Q E) (G.len vs H Q E), fun A outer s H args us vs Q E hr e0 hb r h => ?_⟩
  rcases h with h | h
  · exact F.run A outer s H args us vs Q E (hr.mono (Nat.le_max_left _ _)) e0 hb r h
  · exact G.run A outer s H args us vs Q E (hr.mono (Nat.le_max_right _ _)) e0 hb r h
theorem FnOk_xor (F : FnOk P w K mg base CX0 k f fd ps sp) (G : FnOk P w K mg base (L2N.CX P w) k f fd ps sp') : FnOk P w K mg base (L2N.CX P w) k f fd ps (fun vs H Q E => sp vs H Q E ∨ sp' vs H Q E) := by
  have z := FnOk_or (FnOk_x F) G
  rwa [Nat.max_self] at z
/-- as Fun.ok, for a def that may raise; what it raises has no context -/
theorem Fun_okN {x qual : Str} {st : Stmt} {N : List Str} (F : Fun K x qual st f fd) (S : FnScope N ps (defScope st)) (len : ∀ vs H Q E, sp vs H Q E → vs.length = ps.length)
    (hbody : ∀ (cdv : Value) (A : Around) (outer : List Env) (s : Shared) (H : Hp) (vs : List V) (Q : VK) (E : XK), Room k (A.deeper (envOfC qual (defScope st) s.heap.objs.size f cdv)) → sp vs H Q E →
      ∃ t, PSs (cxOf (L2N.CX P w) P w K mg base N qual (defScope st) f cdv A outer s H E) (defBody st) t ∧ t { nx := fun _ H' => Q .non H', rt := Q } (L2.start N vs) H) : FnOk P w K mg base (L2N.CX P w) (k + 1) f fd ps sp := by
  obtain ⟨oc, od, kV, doc, pm, an, cdv, ct, osl, rfl, lk, hcd⟩ := F.ex
  exact fn_of lk hcd S len fun A outer s H vs Q E hr hsp => hbody cdv A outer s H vs Q E hr hsp
def HasX (P : Program) (w : World) (K : PySem.W.Frag) (mg : Str → Option Value) (base : Heap) (x : Str) (k : Nat) (ps : List Str) (sp : Sp) : Prop :=
  ∃ f fd, FnOk P w K mg base (L2N.CX P w) k f fd ps sp ∧ mg x = some (.ref f) ∧ PySem.W.keepIn K (.ref f) = true ∧ Binds K fd ps []
def HasMX (P : Program) (w : World) (K : PySem.W.Frag) (mg : Str → Option Value) (base : Heap) (C : Addr) (m : Str) (k : Nat) (ps : List Str) (sp : Sp) : Prop :=
  ∃ f fd, FnOk P w K mg base (L2N.CX P w) k f fd ps sp ∧ Meth K C m f ∧ Binds K fd ps []
end
section
variable {X : Cx} {k j : Nat} {C : Addr} {ps : List Str} {sp : Sp} {x m : Str} {p pos apos : Pos} {e o : Expr} {es : List Expr} {ta : TE} {t : TA} {W : WX} {E : XK}
/-- what is wished, whatever the slots hold -/
def EW (n : Nat) (W : WX) : XK := fun cls d H => ∀ σ : L2.St, σ.length = n → W cls d σ H
theorem passU {n : Nat} (tk : L2N.Takes X W) (hn : X.N.length = n) : Passes (L2N.CX X.prog X.w) X (EW n W) := fun _ σ _ _ e s' I c => tk e s' (L2N.XE.of_call I (fun _ _ _ h => h σ (I.len.trans hn)) c)
theorem passE (tk : L2N.Takes X (fun cls d _ H => E cls d H)) : Passes (L2N.CX X.prog X.w) X E := fun _ _ _ _ e s' I c => tk e s' (L2N.XE.of_call (W := fun cls d _ H => E cls d H) I (fun _ _ _ h => h) c)
theorem pe_hx (h : HasX X.prog X.w X.K X.mg X.base x k ps sp) (hr : Room j X.A) (hx : Passes (L2N.CX X.prog X.w) X E) (ha : PA X (e :: es) t) (hkj : k ≤ j := by decide) (hg : Gl X x := by rfl) (hdb : (x == ("__debug__" : Str)) = false := by decide)
    (he : starEach (e :: es) X.env = (false, eval e X.env) :: starEach es X.env := by rfl) (hpl : (backTo pos (starEach es X.env)).any (·.1) = false := by rfl) :
    PE X (.Call (.Name x p) (e :: es) [] pos) (tCall sp [] E t) := by
  obtain ⟨f, fd, F, g, kp, b⟩ := h
  exact pe_call F (hr.mono hkj) hg g kp b .nil hx ha hdb he hpl
theorem pe_hmx {pl : Sem Bool} (h : HasMX X.prog X.w X.K X.mg X.base C m k ps sp) (c : Cls X.K C) (hr : Room j X.A) (hx : Passes (L2N.CX X.prog X.w) X E) (ho : PE X o ta) (ha : PA X (e :: es) t) (hkj : k ≤ j := by decide)
    (hst : starEach (e :: es) X.env = (false, eval e X.env) :: starEach es X.env := by rfl) (hpl : (backTo pos (starEach es X.env)).any (·.1) = false := by rfl)
    (ht : eval (.Call (.Attribute o m apos) (e :: es) [] pos) X.env = (do
      let ov ← eval o X.env
      standAt apos.atName
      let (f, first) ← holding [ov] (getMethod ov m pl)
      callWith pos f first (backTo pos (starEach (e :: es) X.env)) (backToKw pos (keywordEach [] X.env))) := by rfl) :
    PE X (.Call (.Attribute o m apos) (e :: es) [] pos) (tMeth C m sp [] E ta t) := by
  obtain ⟨f, fd, F, g, b⟩ := h
  exact pe_meth ho c g F (hr.mono hkj) b .nil hx ha hst hpl ht
theorem pe_hmx0 {pl : Sem Bool} (h : HasMX X.prog X.w X.K X.mg X.base C m k ps sp) (c : Cls X.K C) (hr : Room j X.A) (hx : Passes (L2N.CX X.prog X.w) X E) (ho : PE X o ta) (hkj : k ≤ j := by decide)
    (ht : eval (.Call (.Attribute o m apos) [] [] pos) X.env = (do
      let ov ← eval o X.env
      standAt apos.atName
      let (f, first) ← holding [ov] (getMethod ov m pl)
      callWith pos f first (backTo pos (starEach [] X.env)) (backToKw pos (keywordEach [] X.env))) := by rfl) :
    PE X (.Call (.Attribute o m apos) [] [] pos) (tMeth C m sp [] E ta tNil) := by
  obtain ⟨f, fd, F, g, b⟩ := h
  exact pe_meth0 ho c g F (hr.mono hkj) b .nil hx ht
end
end Wl

/-! What the words' functions refuse. -/
namespace Wl
open PySem PySem.Spec PyProof.Rows L2
/-- an error of the class at C whose field f holds v -/
def Refuses (C : Addr) (f : Str) (v : V) (H : Hp) (E : XK) : Prop := ∀ (d : Addr) (H' : Hp), Same H H' → H' d = some (.xd [(f, v)]) → E (.ref C) (some d) H'
theorem Refuses.same {C : Addr} {f : Str} {v : V} {H H' : Hp} {E : XK} (h : Refuses C f v H E) (s : Same H H') : Refuses C f v H' E := fun d H2 s2 e => h d H2 (s.trans s2) e
theorem Refuses.new {C : Addr} {f : Str} {v : V} {H H' : Hp} {E : XK} (h : Refuses C f v H E) (s : Same H H') : ∀ d, H' d = none → E (.ref C) (some d) (upd H' d (.xd [(f, v)])) := fun d hd => h d _ (s.trans (same_new hd)) upd_same
/-- a thing of some kind -/
def OddV (H : Hp) (v : V) : Prop := (∃ z, v = .str z ∧ z.length ≤ 1000) ∨ v = .non ∨ (∃ b, v = .bl b) ∨ (∃ i, v = .int i) ∨ ∃ p, v = .ref p ∧ ((∃ xs, H p = some (.tup xs)) ∨ (∃ xs, H p = some (.lst xs)) ∨ ∃ kvs, H p = some (.dK kvs))
theorem OddV.same {H H' : Hp} {v : V} (h : OddV H v) (s : Same H H') : OddV H' v := by
  rcases h with h | h | h | h | ⟨p, e, ⟨xs, h⟩ | ⟨xs, h⟩ | ⟨xs, h⟩⟩
  · exact .inl h
  · exact .inr (.inl h)
  · exact .inr (.inr (.inl h))
  · exact .inr (.inr (.inr (.inl h)))
  · exact .inr (.inr (.inr (.inr ⟨p, e, .inl ⟨xs, s _ _ h⟩⟩)))
  · exact .inr (.inr (.inr (.inr ⟨p, e, .inr (.inl ⟨xs, s _ _ h⟩)⟩)))
  · exact .inr (.inr (.inr (.inr ⟨p, e, .inr (.inr ⟨xs, s _ _ h⟩)⟩)))
def wvB : V → Bool
  | .str z => wdB z
  | _ => false
theorem OddV.wv {K : PySem.W.Frag} {H : Hp} {v : V} (h : OddV H v) : Wv K H v (wvB v) := by
  rcases h with ⟨z, e, h⟩ | h | ⟨b, h⟩ | ⟨i, h⟩ | ⟨p, e, ⟨xs, h⟩ | ⟨xs, h⟩ | ⟨xs, h⟩⟩
  · subst e
    exact .inl ⟨z, rfl, h, rfl⟩
  · subst h
    exact .inr ⟨_, .base .non, kit_ty (r := false) (by decide +kernel), rfl⟩
  · subst h
    exact .inr ⟨_, .base (.bl b), kit_ty (r := false) (by decide +kernel), rfl⟩
  · subst h
    exact .inr ⟨_, .base (.int i), kit_ty (r := false) (by decide +kernel), rfl⟩
  · subst e
    exact .inr ⟨_, .base (.tup h), kit_ty (r := false) (by decide +kernel), rfl⟩
  · subst e
    exact .inr ⟨_, .base (.lst h), kit_ty (r := false) (by decide +kernel), rfl⟩
  · subst e
    exact .inr ⟨_, .base (.dK h), kit_ty (r := false) (by decide +kernel), rfl⟩
/-- is it a tuple, and of what; is it a text -/
theorem OddV.tupQ {K : PySem.W.Frag} {H : Hp} {v : V} (h : OddV H v) : (∃ p xs, v = .ref p ∧ H p = some (.tup xs)) ∨ ∃ t, TyX K H v t ∧ PySem.W.kitOne K t (.type "tuple") = some false := by
  rcases h with ⟨z, e, h⟩ | h | ⟨b, h⟩ | ⟨i, h⟩ | ⟨p, e, ⟨xs, h⟩ | ⟨xs, h⟩ | ⟨xs, h⟩⟩
  · subst e
    exact .inr ⟨_, .base (.str z), kit_ty (r := false) (by decide +kernel)⟩
  · subst h
    exact .inr ⟨_, .base .non, kit_ty (r := false) (by decide +kernel)⟩
  · subst h
    exact .inr ⟨_, .base (.bl b), kit_ty (r := false) (by decide +kernel)⟩
  · subst h
    exact .inr ⟨_, .base (.int i), kit_ty (r := false) (by decide +kernel)⟩
  · subst e
    exact .inl ⟨p, xs, rfl, h⟩
  · subst e
    exact .inr ⟨_, .base (.lst h), kit_ty (r := false) (by decide +kernel)⟩
  · subst e
    exact .inr ⟨_, .base (.dK h), kit_ty (r := false) (by decide +kernel)⟩
theorem OddV.strQ {K : PySem.W.Frag} {H : Hp} {v : V} (h : OddV H v) : (∃ z, v = .str z ∧ z.length ≤ 1000) ∨ ∃ t, TyX K H v t ∧ PySem.W.kitOne K t (.type "str") = some false ∧ wvB v = false := by
  rcases h.wv (K := K) with ⟨z, e, l, _⟩ | ⟨t, ty, k, e⟩
  · exact .inl ⟨z, e, l⟩
  · exact .inr ⟨t, ty, k, e⟩
section
variable {P : Program} {w : World} {K : PySem.W.Frag} {mg : Str → Option Value} {base : Heap} {f : Addr} {fd : FuncData} {cW cC : Addr}
/-! ### check_word -/
def spCheckWR (cW : Addr) : Sp := fun vs H Q E => ∃ v, vs = [v] ∧ OddV H v ∧ wvB v = false ∧ Refuses cW "word" v H E
theorem ok_checkwR (F : Fun K "check_word" "check_word" wCheck f fd) (T : OwnX K mg "NoWord" "word" cW) (hI : Has P w K mg base "is_word" 1 ["thing"] (spIsW K)) : FnOk P w K mg base (L2N.CX P w) 2 f fd ["word"] (spCheckWR cW) := by
  refine Fun_okN F scCheckW (fun vs H Q E h => ?_) (fun cdv A outer s H vs Q E hr h => ?_)
  · obtain ⟨v, rfl, _⟩ := h
    rfl
  · obtain ⟨v, rfl, ho, hb, q⟩ := h
    refine ⟨_, pss_one (ps_if (pt_not (pt_val (pe_h hI hr (pa_cons (pv 0) pa_nil)))) (pss_one (ps_raiseX rfl T hr (L2N.takes_of rfl rfl rfl rfl) (pa_cons (pv 0) pa_nil))) pss_nil), ?_⟩
    refine ⟨_, rfl, v, false, rfl, hb ▸ ho.wv, fun H1 s1 => ⟨false, rfl, iteT ⟨_, rfl, v, rfl, fun d hd => ?_⟩⟩⟩
    exact q.new s1 d hd
def spCheckWX (cW : Addr) : Sp := fun vs H Q E => spCheckW vs H Q E ∨ spCheckWR cW vs H Q E
theorem ok_checkwX (F : Fun K "check_word" "check_word" wCheck f fd) (T : OwnX K mg "NoWord" "word" cW) (hI : Has P w K mg base "is_word" 1 ["thing"] (spIsW K)) : FnOk P w K mg base (L2N.CX P w) 2 f fd ["word"] (spCheckWX cW) := FnOk_xor (ok_checkw F hI) (ok_checkwR F T hI)
/-! ### is_letter, is_change of things of any kind -/
def lettB : V → Bool
  | .str z => wdB z && decide (z.length = 1)
  | _ => false
def spIsLetO : Sp := fun vs H Q _ => ∃ v, vs = [v] ∧ OddV H v ∧ ∀ H', Same H H' → Q (.bl (lettB v)) H'
theorem ok_isletO (F : Fun K "is_letter" "is_letter" wIsLetter f fd) (B : Bi mg) (hI : Has P w K mg base "is_word" 1 ["thing"] (spIsW K)) : FnOk P w K mg base CX0 2 f fd ["thing"] spIsLetO := by
  refine F.ok scIsLet (fun vs H Q E h => ?_) (fun cdv A outer s H vs Q E hr h => ?_)
  · obtain ⟨v, rfl, _⟩ := h
    rfl
  · obtain ⟨v, rfl, ho, q⟩ := h
    refine ⟨_, pss_one (ps_ret (pe_and (pe_h hI hr (pa_cons (pv 0) pa_nil)) (pe_one (pe_cmpR op_eq (pe_callB call_len_str (by rfl) B.len PySem.boot_len (pa_cons (pv 0) pa_nil)) pe_int (nomark _))))), ?_⟩
    rcases ho.strQ (K := K) with ⟨z, rfl, lz0⟩ | ⟨t, ty, hk, hb⟩
    · refine ⟨_, rfl, _, wdB z, rfl, ho.wv, fun H1 s1 => ⟨_, rfl, ite_b (fun e => ⟨_, rfl, _, rfl, lzl lz0, rfl, ?_⟩) (fun e => ?_)⟩⟩
      · rw [int_dec]
        have e2 : lettB (.str z) = decide ((z.length : Int) = 1) := by
          show (wdB z && decide (z.length = 1)) = _
          rw [e, Bool.true_and]
          by_cases h1 : z.length = 1
          · rw [decide_eq_true h1, decide_eq_true (by omega)]
          · rw [decide_eq_false h1, decide_eq_false (by omega)]
        rw [← e2]
        exact q H1 s1
      · have e2 : lettB (.str z) = false := by
          show (wdB z && decide (z.length = 1)) = _
          rw [e, Bool.false_and]
        rw [← e2]
        exact q H1 s1
    · have e2 : lettB v = false := by
        cases v with
        | str z => rw [show lettB (.str z) = (wdB z && decide (z.length = 1)) from rfl, show wdB z = false from hb, Bool.false_and]
        | _ => rfl
      refine ⟨_, rfl, v, false, rfl, hb ▸ ho.wv, fun H1 s1 => ⟨_, rfl, iteF ?_⟩⟩
      rw [← e2]
      exact q H1 s1
def whB : V → Bool
  | .str z => inV (.str z) [.str "first", .str "last", .str "any"]
  | _ => false
def chB (x y z : V) : Bool := lettB x && (lettB y && (!decide (x = y) && whB z))
theorem lettB_str {v : V} (h : lettB v = true) : ∃ z, v = .str z := by
  cases v with
  | str z => exact ⟨z, rfl⟩
  | _ => cases h
/-- a thing that is no change -/
def NoChg (H : Hp) (v : V) : Prop := OddV H v ∧ ∀ p xs, v = .ref p → H p = some (.tup xs) → xs.length ≤ 1000 ∧ (xs.length = 3 → ∃ x y z, xs = [x, y, z] ∧ OddV H x ∧ OddV H y ∧ OddV H z ∧ chB x y z = false)
theorem NoChg.same {H H' : Hp} {v : V} (h : NoChg H v) (s : Same H H') : NoChg H' v := by
  refine ⟨h.1.same s, fun p xs e hp => ?_⟩
  subst e
  have e2 : H p = some (.tup xs) := by
    rcases h.1 with ⟨z, e, _⟩ | e | ⟨b, e⟩ | ⟨i, e⟩ | ⟨p', e, ⟨ys, hq⟩ | ⟨ys, hq⟩ | ⟨ys, hq⟩⟩
    · cases e
    · cases e
    · cases e
    · cases e
    · cases e
      have := s _ _ hq
      rw [hp] at this
      rw [hq, ← this]
    · cases e
      have := s _ _ hq
      rw [hp] at this
      cases this
    · cases e
      have := s _ _ hq
      rw [hp] at this
      cases this
  obtain ⟨l, k⟩ := h.2 p xs rfl e2
  refine ⟨l, fun l3 => ?_⟩
  obtain ⟨x, y, z, e, o1, o2, o3, c⟩ := k l3
  exact ⟨x, y, z, e, o1.same s, o2.same s, o3.same s, c⟩
def spIsChO : Sp := fun vs H Q _ => ∃ v, vs = [v] ∧ NoChg H v ∧ ∀ H', Same H H' → Q (.bl false) H'
theorem ok_ischO (F : Fun K "is_change" "is_change" wIsChange f fd) (B : Bi mg) (G : Gw K mg) (hL : Has P w K mg base "is_letter" 2 ["thing"] spIsLetO) : FnOk P w K mg base CX0 3 f fd ["thing"] spIsChO := by
  obtain ⟨wa, gw, hw⟩ := G.wheres
  refine F.ok scIsCh (fun vs H Q E h => ?_) (fun cdv A outer s H vs Q E hr h => ?_)
  · obtain ⟨v, rfl, _⟩ := h
    rfl
  · obtain ⟨v, rfl, hn, q⟩ := h
    refine ⟨_, pss_cons (ps_if (PW.pt (pw_or (pt_not (pt_val (pe_callB call_isi (by rfl) B.isi (by decide +kernel) (pa_cons (pv 0) (pa_cons (pe_bltn (v := .ty "tuple") (by rfl) B.tuple (by decide +kernel) rfl) pa_nil)))))
        (pw_or1 (pt_cmpR op_ne (pe_callB call_len_seq (by rfl) B.len PySem.boot_len (pa_cons (pv 0) pa_nil)) pe_int (nomark _))))) (pss_one (ps_ret pe_bl)) pss_nil)
      (pss_cons (ps_asg (pv 0) (pg_tup rfl (pgs_cons (pg_name (i := 1) scIsCh.nd rfl (.inl rfl)) (pgs_cons (pg_name (i := 2) scIsCh.nd rfl (.inl rfl)) (pgs_cons (pg_name (i := 3) scIsCh.nd rfl (.inl rfl)) pgs_nil)))))
      (pss_cons (ps_if (PW.pt (pw_or (pt_not (pt_val (pe_h hL hr (pa_cons (pv 1) pa_nil)))) (pw_or (pt_not (pt_val (pe_h hL hr (pa_cons (pv 2) pa_nil)))) (pw_or1 (pt_cmpR op_eq (pv 1) (pv 2) (nomark _)))))) (pss_one (ps_ret pe_bl)) pss_nil)
      (pss_one (ps_ret (pe_and (pe_callB call_isi (by rfl) B.isi (by decide +kernel) (pa_cons (pv 3) (pa_cons (pe_bltn (v := .ty "str") (by rfl) B.str (by decide +kernel) rfl) pa_nil))) (pe_one (pe_cmpR op_in_seq (pv 3) (pe_glob (v := .ref wa) rfl gw rfl) (by rfl)))))))), ?_⟩
    rcases hn.1.tupQ (K := K) with ⟨p, xs, rfl, hp⟩ | ⟨t, ty, hk⟩
    · refine ⟨_, rfl, _, _, _, _, _, rfl, .ty "tuple", .base (.tup hp), kit_ty (r := true) (by decide +kernel), true, rfl, ?_⟩
      obtain ⟨l1000, h3⟩ := hn.2 p xs rfl hp
      refine iteF ⟨_, rfl, p, _, rfl, .inr (.inl (.inl hp)), rfl, _, rfl, ?_⟩
      rw [int_dec]
      by_cases l3 : xs.length = 3
      · obtain ⟨x, y, z, rfl, o1, o2, o3, hc⟩ := h3 l3
        rw [decide_eq_true (by simp : (([x, y, z] : List V).length : Int) = 3)]
        refine iteF ⟨_, rfl, p, _, rfl, .inl (.inl hp), rfl, _, _, rfl, _, _, rfl, _, _, rfl, rfl, ?_⟩
        refine ⟨_, rfl, x, rfl, o1, fun H1 s1 => ⟨_, rfl, not_b (fun e1 => ?_) (fun e1 => ?_)⟩⟩
        · exact q H1 s1
        · refine ⟨_, rfl, y, rfl, o2.same s1, fun H2 s2 => ⟨_, rfl, not_b (fun e2 => ?_) (fun e2 => ?_)⟩⟩
          · exact q H2 (s1.trans s2)
          · obtain ⟨z1, rfl⟩ := lettB_str e1
            obtain ⟨z2, rfl⟩ := lettB_str e2
            refine ⟨_, rfl, _, rfl, rfl, _, rfl, ?_⟩
            refine ite_b (fun e3 => q H2 (s1.trans s2)) (fun e3 => ?_)
            have e4 : whB z = false := by
              have hc := hc
              unfold chB at hc
              rw [e1, e2, e3] at hc
              simpa using hc
            rcases (o3.same (s1.trans s2)).strQ (K := K) with ⟨z3, rfl, l3⟩ | ⟨t, ty, hk, _⟩
            · refine ⟨_, rfl, _, _, _, _, _, rfl, .ty "str", .base (.str _), kit_ty (r := true) (by decide +kernel), true, rfl, iteT ⟨_, rfl, wa, _, rfl, .inr (hw H2), rfl, rfl, ?_⟩⟩
              rw [if_neg (by decide)]
              have : inV (.str z3) [.str "first", .str "last", .str "any"] = false := e4
              rw [this]
              exact q H2 (s1.trans s2)
            · exact ⟨_, rfl, _, _, _, _, _, rfl, .ty "str", ty, hk, false, rfl, iteF (q H2 (s1.trans s2))⟩
      · rw [decide_eq_false (by omega : ¬ (xs.length : Int) = 3)]
        exact iteT (q H (Same.refl H))
    · exact ⟨_, rfl, _, _, _, _, _, rfl, .ty "tuple", ty, hk, false, rfl, iteT (q H (Same.refl H))⟩
end
end Wl

namespace Wl
open PySem PySem.Spec PyProof.Rows L2
/-- what is no tuple of changes: its place, of the first that is none -/
def NoChs (H : Hp) (v : V) : Option Nat → Prop
  | none => OddV H v ∧ v ≠ .non ∧ ∀ p xs, v = .ref p → H p = some (.tup xs) → 12 < xs.length
  | some i => ∃ (p : Addr) (xs : List V), v = .ref p ∧ H p = some (.tup xs) ∧ xs.length ≤ 12 ∧ i < xs.length ∧ (∀ j, j < i → ∃ q ch, xs[j]? = some (.ref q) ∧ H q = some (.tup (chV ch)) ∧ OkC ch) ∧ ∃ u, xs[i]? = some u ∧ NoChg H u
def plV : Option Nat → V
  | none => .non
  | some i => .int i
theorem OddV.tup_same {H H' : Hp} {p : Addr} {xs : List V} (h : OddV H (.ref p)) (s : Same H H') (hp : H' p = some (.tup xs)) : H p = some (.tup xs) := by
  rcases h with ⟨z, e, _⟩ | e | ⟨b, e⟩ | ⟨i, e⟩ | ⟨p', e, ⟨ys, hq⟩ | ⟨ys, hq⟩ | ⟨ys, hq⟩⟩
  · cases e
  · cases e
  · cases e
  · cases e
  · cases e
    have := s _ _ hq
    rw [hp] at this
    rw [hq, ← this]
  · cases e
    have := s _ _ hq
    rw [hp] at this
    cases this
  · cases e
    have := s _ _ hq
    rw [hp] at this
    cases this
theorem NoChs.same {H H' : Hp} {v : V} {o : Option Nat} (h : NoChs H v o) (s : Same H H') : NoChs H' v o := by
  cases o with
  | none =>
    refine ⟨h.1.same s, h.2.1, fun p xs e hp => h.2.2 p xs e ?_⟩
    subst e
    exact h.1.tup_same s hp
  | some i =>
    obtain ⟨p, xs, e, hp, l, hi, ha, u, hu, hn⟩ := h
    refine ⟨p, xs, e, s _ _ hp, l, hi, fun j hj => ?_, u, hu, hn.same s⟩
    obtain ⟨q, ch, e1, e2, e3⟩ := ha j hj
    exact ⟨q, ch, e1, s _ _ e2, e3⟩
section
variable {P : Program} {w : World} {K : PySem.W.Frag} {mg : Str → Option Value} {base : Heap} {f : Addr} {fd : FuncData} {cW cC : Addr}
/-! ### is_tuple_up_to of what is no tuple -/
def spTupToO : Sp := fun vs H Q _ => ∃ (v : V) (n : Int), vs = [v, .int n] ∧ OddV H v ∧ (∀ p xs, v = .ref p → H p = some (.tup xs) → n < xs.length) ∧ Q (.bl false) H
theorem ok_tuptoO (F : Fun K "is_tuple_up_to" "is_tuple_up_to" wTupTo f fd) (B : Bi mg) : FnOk P w K mg base CX0 1 f fd ["thing", "most"] spTupToO := by
  refine F.ok scTupTo (fun vs H Q E h => ?_) (fun cdv A outer s H vs Q E hr h => ?_)
  · obtain ⟨v, n, rfl, _⟩ := h
    rfl
  · obtain ⟨v, n, rfl, ho, hn, q⟩ := h
    refine ⟨_, pss_one (ps_ret (pe_and (pe_callB call_isi (by rfl) B.isi (by decide +kernel) (pa_cons (pv 0) (pa_cons (pe_bltn (v := .ty "tuple") (by rfl) B.tuple (by decide +kernel) rfl) pa_nil))) (pe_one (pe_cmpR op_le (pe_callB call_len_seq (by rfl) B.len PySem.boot_len (pa_cons (pv 0) pa_nil)) (pv 1) (nomark _))))), ?_⟩
    rcases ho.tupQ (K := K) with ⟨p, xs, rfl, hp⟩ | ⟨t, ty, hk⟩
    · refine ⟨_, rfl, _, _, _, _, _, rfl, .ty "tuple", .base (.tup hp), kit_ty (r := true) (by decide +kernel), true, rfl, iteT ⟨_, rfl, p, _, rfl, .inr (.inl (.inl hp)), _, rfl, _, _, rfl, rfl, ?_⟩⟩
      show Q (.bl (decide ((xs.length : Int) ≤ n))) H
      rw [decide_eq_false (by have := hn p xs rfl hp; omega)]
      exact q
    · exact ⟨_, rfl, _, _, _, _, _, rfl, .ty "tuple", ty, hk, false, rfl, iteF q⟩
/-! ### checked_changes -/
def spTupToX : Sp := fun vs H Q E => spTupTo vs H Q E ∨ spTupToO vs H Q E
def spIsChX : Sp := fun vs H Q E => spIsCh vs H Q E ∨ spIsChO vs H Q E
def spCheckedR (cC : Addr) : Sp := fun vs H Q E => ∃ (v : V) (o : Option Nat), vs = [v] ∧ NoChs H v o ∧ Refuses cC "place" (plV o) H E
theorem ok_checkedR (F : Fun K "checked_changes" "checked_changes" wChecked f fd) (T : OwnX K mg "NoChanges" "place" cC) (B : Bi mg) (G : Gw K mg) (hTu : Has P w K mg base "is_tuple_up_to" 1 ["thing", "most"] spTupToX) (hC : Has P w K mg base "is_change" 3 ["thing"] spIsChX) :
    FnOk P w K mg base (L2N.CX P w) 4 f fd ["changes"] (spCheckedR cC) := by
  obtain ⟨t1, g1⟩ := G.mostch
  refine Fun_okN F scChecked (fun vs H Q E h => ?_) (fun cdv A outer s H vs Q E hr h => ?_)
  · obtain ⟨v, o, rfl, _⟩ := h
    rfl
  · obtain ⟨v, o, rfl, hn, q⟩ := h
    refine ⟨_, pss_cons (ps_if (pt_cmp (pc_isN (pv 0))) (pss_one ps_never) pss_nil)
      (pss_cons (ps_if (pt_not (pt_val (pe_h hTu hr (pa_cons (pv 0) (pa_cons (pe_glob (v := .int 12) rfl g1 ⟨_, rfl⟩) pa_nil))))) (pss_one (ps_raiseX rfl T hr (L2N.takes_of rfl rfl rfl rfl) (pa_cons pe_non pa_nil))) pss_nil)
      (pss_cons (ps_for (passes_of rfl) rfl (pi_enumT (by rfl) B.enum (pa_cons (pv 0) pa_nil)) (pg_tup rfl (pgs_cons (pg_name (i := 1) scChecked.nd rfl (.inl rfl)) (pgs_cons (pg_name (i := 2) scChecked.nd rfl (.inl rfl)) pgs_nil)))
        (pss_one (ps_if (pt_not (pt_val (pe_h hC hr (pa_cons (pv 2) pa_nil)))) (pss_one (ps_raiseX rfl T hr (L2N.takes_of rfl rfl rfl rfl) (pa_cons (pv 1) pa_nil))) pss_nil)))
      (pss_one ps_never))), ?_⟩
    cases o with
    | none =>
      obtain ⟨ho, hnn, hl⟩ := hn
      refine ⟨_, rfl, _, rfl, ?_⟩
      rw [decide_eq_false hnn]
      refine iteF ⟨_, rfl, .inr ⟨v, 12, rfl, ho, fun p xs e hp => ?_, ?_⟩⟩
      · have := hl p xs e hp
        omega
      · exact ⟨_, rfl, iteT ⟨.non, rfl, fun d hd => q.new (Same.refl H) d hd⟩⟩
    | some i =>
      obtain ⟨p, xs, rfl, hp, l12, hi, ha, u, hu, hn⟩ := hn
      refine ⟨_, rfl, _, rfl, iteF ⟨_, rfl, .inl ⟨p, xs, 12, rfl, hp, ?_⟩⟩⟩
      rw [decide_eq_true (by omega)]
      refine ⟨_, rfl, iteF ⟨_, rfl, p, _, rfl, .inl (.inl hp), for_it (walk_enumT (K := K) (a := p) (xs := xs)) (fun j σ H' => (∃ y1 y2, σ = [some (.ref p), y1, y2]) ∧ Same H H' ∧ j ≤ i) ⟨⟨_, _, rfl⟩, Same.refl H, Nat.zero_le _⟩ (fun j σ H' _ h => .inl (.inl (h.2.1 _ _ hp))) ?_ ?_⟩⟩
      · rintro j x σ H1 H2 hj ⟨⟨y1, y2, rfl⟩, s1, hji⟩ ⟨T1, x1, x2, rfl, hT, rfl, ex1, ex2⟩
        cases ex1
        have ex2 : xs[j]? = some x2 := ex2
        have s2 : Same H1 (upd H1 T1 (.tup [.int j, x2])) := same_new hT
        refine ⟨T1, _, rfl, .inl (.inl upd_same), rfl, _, _, rfl, _, _, rfl, rfl, ?_⟩
        rcases Nat.lt_or_eq_of_le hji with hlt | rfl
        · obtain ⟨q1, ch, e1, e2, e3⟩ := ha j hlt
          rw [e1] at ex2
          cases ex2
          exact ⟨_, rfl, .inl ⟨q1, ch, rfl, s2 _ _ (s1 _ _ e2), e3, fun H3 s3 => ⟨true, rfl, iteF ⟨⟨_, _, rfl⟩, (s1.trans s2).trans s3, hlt⟩⟩⟩⟩
        · rw [hu] at ex2
          cases ex2
          exact ⟨_, rfl, .inr ⟨u, rfl, hn.same (s1.trans s2), fun H3 s3 => ⟨false, rfl, iteT ⟨_, rfl, _, rfl, fun d hd => q.new ((s1.trans s2).trans s3) d hd⟩⟩⟩⟩
      · rintro σ H1 ⟨_, _, hle⟩
        omega
def spCheckedX (cC : Addr) : Sp := fun vs H Q E => spChecked vs H Q E ∨ spCheckedR cC vs H Q E
/-! ### row_between, are_one, meaning -/
/-- the first that is refused, of words, then of changes -/
def RefW2 (cW cC : Addr) (H : Hp) (a b v : V) (E : XK) : Prop :=
  (OddV H a ∧ wvB a = false ∧ Refuses cW "word" a H E) ∨ (∃ z, a = .str z ∧ IsWd z ∧ ((OddV H b ∧ wvB b = false ∧ Refuses cW "word" b H E) ∨ ∃ y, b = .str y ∧ IsWd y ∧ ∃ o, NoChs H v o ∧ Refuses cC "place" (plV o) H E))
def spRowR (cW cC : Addr) : Sp := fun vs H Q E => ∃ a b v, vs = [a, b, v] ∧ RefW2 cW cC H a b v E
theorem ok_rowR (F : FunN K "row_between" wRow f fd) (hCk : HasX P w K mg base "check_word" 2 ["word"] (spCheckWX cW)) (hCh : HasX P w K mg base "checked_changes" 4 ["changes"] (spCheckedX cC)) : FnOk P w K mg base (L2N.CX P w) 5 f fd ps3 (spRowR cW cC) := by
  refine F.ok scRow (fun vs H Q E h => ?_) (fun cdv A outer s H vs Q E hr h => ?_)
  · obtain ⟨a, b, v, rfl, _⟩ := h
    rfl
  · obtain ⟨a, b, v, rfl, h⟩ := h
    have px : Passes (L2N.CX P w) (cxOf (L2N.CX P w) P w K mg base nRow "row_between" (defScope wRow) f cdv A outer s H E) E := passE (L2N.takes_of rfl rfl rfl rfl)
    refine ⟨_, pss_cons (ps_expr (pe_hx hCk hr px (pa_cons (pv 0) pa_nil))) (pss_cons (ps_expr (pe_hx hCk hr px (pa_cons (pv 1) pa_nil)))
      (pss_cons (ps_set (i := 3) scRow.nd rfl (.inl rfl) (pe_hx hCh hr px (pa_cons (pv 2) pa_nil))) pss_never)), ?_⟩
    rcases h with ⟨o, e, q⟩ | ⟨z, rfl, hz, ⟨o, e, q⟩ | ⟨y, rfl, hy, o, hn, q⟩⟩
    · exact ⟨_, rfl, .inr ⟨a, rfl, o, e, q⟩⟩
    · exact ⟨_, rfl, .inl ⟨z, rfl, hz, fun H1 s1 => ⟨_, rfl, .inr ⟨b, rfl, o.same s1, e, q.same s1⟩⟩⟩⟩
    · exact ⟨_, rfl, .inl ⟨z, rfl, hz, fun H1 s1 => ⟨_, rfl, .inl ⟨y, rfl, hy, fun H2 s2 => ⟨_, rfl, .inr ⟨v, o, rfl, hn.same (s1.trans s2), q.same (s1.trans s2)⟩⟩⟩⟩⟩⟩
def HasNX (P : Program) (w : World) (K : PySem.W.Frag) (mg : Str → Option Value) (base : Heap) (x : Str) (st : Stmt) (k : Nat) (ps : List Str) (sp : Sp) : Prop :=
  ∃ f fd, FnOk P w K mg base (L2N.CX P w) k f fd ps sp ∧ mg x = some (.ref f) ∧ FunN K x st f fd
def spRowX (cW cC : Addr) : Sp := fun vs H Q E => spRow vs H Q E ∨ spRowR cW cC vs H Q E
theorem ok_areR (F : FunN K "are_one" wAre f fd) (hR : HasNX P w K mg base "row_between" wRow 5 ps3 (spRowX cW cC)) : FnOk P w K mg base (L2N.CX P w) 6 f fd ps3 (spRowR cW cC) := by
  obtain ⟨f1, fd1, F1, m1, N1⟩ := hR
  have b1 := bind3 N1 (.inl rfl)
  refine F.ok scAre (fun vs H Q E h => ?_) (fun cdv A outer s H vs Q E hr h => ?_)
  · obtain ⟨a, b, v, rfl, _⟩ := h
    rfl
  · obtain ⟨a, b, v, rfl, h⟩ := h
    refine ⟨_, pss_one (ps_ret (pe_cmp (pc_notN (pe_call F1 hr rfl m1 N1.kp b1 .nil (passE (L2N.takes_of rfl rfl rfl rfl)) (pa_cons (pv 0) (pa_cons (pv 1) (pa_cons (pv 2) pa_nil))))))), ?_⟩
    exact ⟨_, rfl, _, rfl, _, rfl, .inr ⟨a, b, v, rfl, h⟩⟩
def RefW1 (cW cC : Addr) (H : Hp) (a v : V) (E : XK) : Prop :=
  (OddV H a ∧ wvB a = false ∧ Refuses cW "word" a H E) ∨ (∃ z, a = .str z ∧ IsWd z ∧ ∃ o, NoChs H v o ∧ Refuses cC "place" (plV o) H E)
def spMeanR (cW cC : Addr) : Sp := fun vs H Q E => ∃ a v, vs = [a, v] ∧ RefW1 cW cC H a v E
theorem ok_meanR (F : FunN K "meaning" wMean f fd) (hCk : HasX P w K mg base "check_word" 2 ["word"] (spCheckWX cW)) (hCh : HasX P w K mg base "checked_changes" 4 ["changes"] (spCheckedX cC)) : FnOk P w K mg base (L2N.CX P w) 5 f fd ps2 (spMeanR cW cC) := by
  refine F.ok scMean (fun vs H Q E h => ?_) (fun cdv A outer s H vs Q E hr h => ?_)
  · obtain ⟨a, v, rfl, _⟩ := h
    rfl
  · obtain ⟨a, v, rfl, h⟩ := h
    have px : Passes (L2N.CX P w) (cxOf (L2N.CX P w) P w K mg base nMean "meaning" (defScope wMean) f cdv A outer s H E) E := passE (L2N.takes_of rfl rfl rfl rfl)
    refine ⟨_, pss_cons (ps_expr (pe_hx hCk hr px (pa_cons (pv 0) pa_nil))) (pss_cons (ps_set (i := 2) scMean.nd rfl (.inr rfl) (pe_hx hCh hr px (pa_cons (pv 1) pa_nil))) pss_never), ?_⟩
    rcases h with ⟨o, e, q⟩ | ⟨z, rfl, hz, o, hn, q⟩
    · exact ⟨_, rfl, .inr ⟨a, rfl, o, e, q⟩⟩
    · exact ⟨_, rfl, .inl ⟨z, rfl, hz, fun H1 s1 => ⟨_, rfl, .inr ⟨v, o, rfl, hn.same s1, q.same s1⟩⟩⟩⟩
end
end Wl

/-! xs.count(y), items and y flat. -/
namespace Wl
open PySem PySem.Spec PyProof.Rows L2
theorem countP_vals {y : V} {uy : Value} : ∀ {ys : List V} {its : List Value}, Vals ys its → ys.all flatV = true → (∀ z u, RelV z u → flatV z = true → eqU y u = eqV z y) → its.countP (eqU y) = ys.countP fun z => eqV z y
  | _, _, .nil, _, _ => rfl
  | _, _, .cons r t, f, k => by
    rw [List.all_cons, Bool.and_eq_true] at f
    rw [List.countP_cons, List.countP_cons, countP_vals (uy := uy) t f.2 k, k _ _ r f.1]
def rCntF (K : PySem.W.Frag) : V → List V → Hp → VK → Prop := fun x xs H Q => ∃ (a : Addr) (ys : List V) (y : V), x = V.ref a ∧ xs = [y] ∧ SqL K H a ys ∧ flatV y = true ∧ ys.all flatV = true ∧ Q (.int ((ys.countP fun z => eqV z y : Nat) : Int)) H
theorem mt_countF {X : Cx} : MtR X "list.count" (rCntF X.K) := by
  intro pins s σ H x xs v us Q I rx rxs h
  obtain ⟨a, ys, y, rfl, rfl, hs, fy, fys, q⟩ := h
  cases rx
  obtain ⟨uy, rfl, ry⟩ := rxs.one
  obtain ⟨its, rv, ⟨⟨cls, dd, data, sl⟩, n, ho, hc, hdn, hd⟩, hlen⟩ := I.list hs
  simp only at hc hd
  subst hc hd
  refine call_meets PySem.F.slot_list_count ⟨_, ho, rfl⟩ PySem.F.entry_list_count (PySem.F.args_list_count_2 _ _)
    (SeqAt.list_countAt a its.toArray n dd sl uy (eqU y)) ⟨ho, fun u' hu' => mem_eqAt ry fy rv fys u' (by simpa using hu'), ?_⟩
  have ec : its.toArray.toList.countP (eqU y) = ys.countP fun z => eqV z y := countP_vals (uy := uy) rv fys fun z u r f => eqU_of r f
  refine ⟨.int ((ys.countP fun z => eqV z y : Nat) : Int), H, I.tok _, ⟨s.toks, ?_⟩, q⟩
  rw [ec]
end Wl

/-! Of which class a caught exception is: what the laws' own sorting asks. -/
namespace Wl
open PySem PySem.Spec PyProof.Rows L2
/-- the program's exceptions, in their order -/
def exL : List Str := ["NoWord", "NoChanges", "NoText", "NoAge", "NoSure", "NoRings", "NoThings", "NoCount", "NoRow", "NoLand", "NoName", "NoGathering", "NoMap", "NoTelling", "NoBack", "Told", "Full", "Clash", "TooMany"]
def exN (i : Nat) : Str := exL.getD i ""
def baL : List Str := ["WordError", "LandError", "JoinError"]
def baN (i : Nat) : Str := baL.getD i ""
/-- which base the n-th has -/
def baOf (n : Nat) : Nat := if n ≤ 8 then 0 else if n ≤ 14 then 1 else 2
/-- the globals that hold the classes -/
structure SortG (mg : Str → Option Value) (ad bd : Nat → Addr) : Prop where
  own : ∀ i, i < 19 → mg (exN i) = some (.ref (ad i))
  bas : ∀ i, i < 3 → mg (baN i) = some (.ref (bd i))
  ve : mg "ValueError" = none
  le : mg "LookupError" = none
  ae : mg "ArithmeticError" = none
/-- C is the n-th class, as isinstance answers -/
structure SortC (K : PySem.W.Frag) (ad bd : Nat → Addr) (C : Addr) (n : Nat) : Prop where
  ex : ExK K C
  lt : n < 19
  own : ∀ i, i < 19 → PySem.W.kitOne K (.ref C) (.ref (ad i)) = some (decide (i = n))
  bas : ∀ i, i < 3 → PySem.W.kitOne K (.ref C) (.ref (bd i)) = some (decide (i = baOf n))
  ve : PySem.W.kitOne K (.ref C) (.type "ValueError") = some (decide (0 = baOf n))
  le : PySem.W.kitOne K (.ref C) (.type "LookupError") = some (decide (1 = baOf n))
  ae : PySem.W.kitOne K (.ref C) (.type "ArithmeticError") = some (decide (2 = baOf n))
/-- at e: a caught exception, the n-th -/
structure ExcAt (K : PySem.W.Frag) (ad bd : Nat → Addr) (H : Hp) (e : Addr) (n : Nat) : Prop where
  ex : ∃ (C : Addr) (d : Option Addr), H e = some (exH e (.ref C) d) ∧ DxOk H d ∧ SortC K ad bd C n
theorem ExcAt.same {K : PySem.W.Frag} {ad bd : Nat → Addr} {H H' : Hp} {e : Addr} {n : Nat} (h : ExcAt K ad bd H e n) (s : Same H H') : ExcAt K ad bd H' e n := by
  obtain ⟨C, d, h1, h2, h3⟩ := h.ex
  refine ⟨C, d, s _ _ h1, fun dd e => ?_, h3⟩
  obtain ⟨fs, q⟩ := h2 dd e
  exact ⟨fs, s _ _ q⟩
theorem ExcAt.hot {K : PySem.W.Frag} {ad bd : Nat → Addr} {H : Hp} {e : Addr} {n : Nat} (h : ExcAt K ad bd H e n) : HotH e H := by
  obtain ⟨C, d, h1, _⟩ := h.ex
  exact ⟨_, _, h1⟩
/-- isinstance(e, c) of it -/
abbrev tIs (K : PySem.W.Frag) (i : Nat) (c : V) : TE := tCB (rIsX K) (tCons (tVar i) (tCons (tC c) tNil))
section
variable {K : PySem.W.Frag} {ad bd : Nat → Addr} {H : Hp} {e : Addr} {n j : Nat} {σ : L2.St} {R : VK}
theorem is_own (i : Nat) (h : ExcAt K ad bd H e n) (h0 : σ[j]? = some (some (.ref e))) (hi : i < 19) (q : R (.bl (decide (i = n))) H) : tIs K j (.ref (ad i)) σ H R := by
  obtain ⟨C, d, h1, h2, h3⟩ := h.ex
  exact ⟨_, h0, e, C, d, _, _, _, rfl, h1, h2, h3.ex, .own _, h3.own i hi, q⟩
theorem is_bas (i : Nat) (h : ExcAt K ad bd H e n) (h0 : σ[j]? = some (some (.ref e))) (hi : i < 3) (q : R (.bl (decide (i = baOf n))) H) : tIs K j (.ref (bd i)) σ H R := by
  obtain ⟨C, d, h1, h2, h3⟩ := h.ex
  exact ⟨_, h0, e, C, d, _, _, _, rfl, h1, h2, h3.ex, .own _, h3.bas i hi, q⟩
theorem is_ve (h : ExcAt K ad bd H e n) (h0 : σ[j]? = some (some (.ref e))) (q : R (.bl (decide (0 = baOf n))) H) : tIs K j (.ty "ValueError") σ H R := by
  obtain ⟨C, d, h1, h2, h3⟩ := h.ex
  exact ⟨_, h0, e, C, d, _, _, _, rfl, h1, h2, h3.ex, .ty _, h3.ve, q⟩
theorem is_le (h : ExcAt K ad bd H e n) (h0 : σ[j]? = some (some (.ref e))) (q : R (.bl (decide (1 = baOf n))) H) : tIs K j (.ty "LookupError") σ H R := by
  obtain ⟨C, d, h1, h2, h3⟩ := h.ex
  exact ⟨_, h0, e, C, d, _, _, _, rfl, h1, h2, h3.ex, .ty _, h3.le, q⟩
theorem is_ae (h : ExcAt K ad bd H e n) (h0 : σ[j]? = some (some (.ref e))) (q : R (.bl (decide (2 = baOf n))) H) : tIs K j (.ty "ArithmeticError") σ H R := by
  obtain ⟨C, d, h1, h2, h3⟩ := h.ex
  exact ⟨_, h0, e, C, d, _, _, _, rfl, h1, h2, h3.ex, .ty _, h3.ae, q⟩
end
section
variable {X : Cx} {ad bd : Nat → Addr} {j : Nat} {x y z : Str} {p q r s pos : Pos}
/-- the terms of isinstance(e, ..) -/
theorem pe_own (i : Nat) (B : X.mg "isinstance" = none) (G : SortG X.mg ad bd) (hi : i < 19) (hg : Gl X (exN i)) (hN : X.N[j]? = some y) (hv : Vis X.env.scope y) (g1 : Gl X "isinstance" := by rfl) (h1 : (y == ("__debug__" : Str)) = false := by decide) (h2 : (y == ("__classdict__" : Str)) = false := by decide)
    (h3 : (exN i == ("__debug__" : Str)) = false := by decide)
    (he : starEach [.Name y q, .Name (exN i) r] X.env = [(false, eval (.Name y q) X.env), (false, eval (.Name (exN i) r) X.env)] := by rfl) : PE X (.Call (.Name "isinstance" p) [.Name y q, .Name (exN i) r] [] pos) (tIs X.K j (.ref (ad i))) :=
  pe_callB call_isX g1 B (by decide +kernel) (pa_cons (pe_var hN hv h1 h2) (pa_cons (pe_glob (v := .ref (ad i)) hg (G.own i hi) rfl h3) pa_nil) he)
end
def kinds (n : Nat) : List V := (List.range 19).map fun i => .bl (decide (i = n))
theorem kinds_flat (n : Nat) (h : n < 19) : (kinds n).all flatV = true := by
  have : ∀ m : Fin 19, (kinds m.1).all flatV = true := by decide +kernel
  exact this ⟨n, h⟩
theorem kinds_count (n : Nat) (h : n < 19) : (kinds n).countP (fun z => eqV z (.bl true)) = 1 := by
  have : ∀ m : Fin 19, (kinds m.1).countP (fun z => eqV z (.bl true)) = 1 := by decide +kernel
  exact this ⟨n, h⟩
theorem kinds_at (n : Nat) (h : n < 19) : (kinds n)[n]? = some (.bl true) := by
  unfold kinds
  rw [List.getElem?_map, List.getElem?_range h]
  simp
theorem kinds_none (n : Nat) (h : n < 19) (m : Nat) (z : V) (hm : m < n) (hz : (kinds n)[m]? = some z) : eqV z (.bl true) = false := by
  unfold kinds at hz
  rw [List.getElem?_map, List.getElem?_range (by omega)] at hz
  have e : z = .bl (decide (m = n)) := (Option.some.inj hz).symm
  rw [e, decide_eq_false (by omega)]
  decide +kernel
end Wl

namespace Wl
open PySem PySem.Spec PyProof.Rows L2
abbrev sSort : Stmt := topS 49
def sortN : List Str := ["word", "changes", "text", "age", "sure", "rings", "things", "count", "row", "land", "name", "gathering", "map", "telling", "back", "told", "full", "clash", "many"]
section
variable {P : Program} {w : World} {K : PySem.W.Frag} {mg : Str → Option Value} {base : Heap} {f : Addr} {fd : FuncData} {ad bd : Nat → Addr}
def spSort (K : PySem.W.Frag) (ad bd : Nat → Addr) : Addr → Sp := fun a vs H Q _ => ∃ n, vs = [.ref a] ∧ ExcAt K ad bd H a n ∧ n < 19 ∧ ∀ H', Same H H' → Q (.str (sortN.getD n "")) H'
abbrev nSort : List Str := ["_law_e", "_law_kinds", "_law_at", "_law_base", "_law_names", "_law_k"]
theorem scSort : FnScope nSort ["_law_e"] (defScope sSort) := ⟨rfl, rfl, rfl, by decide +kernel, rfl, by decide +kernel, by decide +kernel⟩
theorem bases_eqv (n : Nat) (h : n < 19) : PyData.eqv (.list [.bool (decide (0 = baOf n)), .bool (decide (1 = baOf n)), .bool (decide (2 = baOf n))]) (.list ((List.range 3).map fun k : Nat => .bool (decide ((k : Int) = (baOf n : Int))))) = true := by
  have : ∀ m : Fin 19, PyData.eqv (.list [.bool (decide (0 = baOf m.1)), .bool (decide (1 = baOf m.1)), .bool (decide (2 = baOf m.1))]) (.list ((List.range 3).map fun k : Nat => .bool (decide ((k : Int) = (baOf m.1 : Int))))) = true := by decide +kernel
  exact this ⟨n, h⟩
theorem sortN_at (n : Nat) (h : n < 19) : (sortN.map V.str)[n]? = some (.str (sortN.getD n "")) := by
  have : ∀ m : Fin 19, (sortN.map V.str)[m.1]? = some (.str (sortN.getD m.1 "")) := by decide +kernel
  exact this ⟨n, h⟩
theorem base_at (n : Nat) (h : n < 19) : ([.bl (decide (0 = baOf n)), .bl (decide (1 = baOf n)), .bl (decide (2 = baOf n))] : List V)[baOf n]? = some (.bl true) := by
  have : ∀ m : Fin 19, ([.bl (decide (0 = baOf m.1)), .bl (decide (1 = baOf m.1)), .bl (decide (2 = baOf m.1))] : List V)[baOf m.1]? = some (.bl true) := by decide +kernel
  exact this ⟨n, h⟩
theorem base_sum (n : Nat) (h : n < 19) : b2i (decide ((8 : Int) < (n : Int))) + b2i (decide ((14 : Int) < (n : Int))) = (baOf n : Int) := by
  have : ∀ m : Fin 19, b2i (decide ((8 : Int) < (m.1 : Int))) + b2i (decide ((14 : Int) < (m.1 : Int))) = (baOf m.1 : Int) := by decide +kernel
  exact this ⟨n, h⟩
theorem ok_sort (F : Fun K "_law_sort" "_law_sort" sSort f fd) (B : Bi mg) (G : SortG mg ad bd) : FnT P w K mg base CX0 1 f fd ["_law_e"] (spSort K ad bd) := by
  refine FunT_ok F scSort (fun a vs H Q E h => ?_) (fun cdv A outer s H vs Q E a hot hh hr h => ?_)
  · obtain ⟨n, rfl, _⟩ := h
    rfl
  · obtain ⟨n, rfl, hE, hn, q⟩ := h
    have hot2 : (cxT CX0 P w K mg base nSort "_law_sort" (defScope sSort) f cdv A outer s H E).A.handled = some (.ref a) := hot
    have io : ∀ (i : Nat) (hi : i < 19) {r p q pos : Pos} (hg : Gl (cxT CX0 P w K mg base nSort "_law_sort" (defScope sSort) f cdv A outer s H E) (exN i)) (h3 : (exN i == ("__debug__" : Str)) = false)
      (he : starEach [.Name "_law_e" q, .Name (exN i) r] (cxT CX0 P w K mg base nSort "_law_sort" (defScope sSort) f cdv A outer s H E).env = [(false, eval (.Name "_law_e" q) (cxT CX0 P w K mg base nSort "_law_sort" (defScope sSort) f cdv A outer s H E).env), (false, eval (.Name (exN i) r) (cxT CX0 P w K mg base nSort "_law_sort" (defScope sSort) f cdv A outer s H E).env)]),
      PE (cxT CX0 P w K mg base nSort "_law_sort" (defScope sSort) f cdv A outer s H E) (.Call (.Name "isinstance" p) [.Name "_law_e" q, .Name (exN i) r] [] pos) (tIs K 0 (.ref (ad i))) :=
      fun i hi {r p q pos} hg h3 he => pe_own (j := 0) i B.isi G hi hg rfl (.inl rfl) rfl (by decide) (by decide) h3 he
    have ib : ∀ (x : Str) (c : V) (u : Value) {r p q pos : Pos} (hm : mg x = some u) (rc : RelV c u) (hg : Gl (cxT CX0 P w K mg base nSort "_law_sort" (defScope sSort) f cdv A outer s H E) x) (h3 : (x == ("__debug__" : Str)) = false)
      (he : starEach [.Name "_law_e" q, .Name x r] (cxT CX0 P w K mg base nSort "_law_sort" (defScope sSort) f cdv A outer s H E).env = [(false, eval (.Name "_law_e" q) (cxT CX0 P w K mg base nSort "_law_sort" (defScope sSort) f cdv A outer s H E).env), (false, eval (.Name x r) (cxT CX0 P w K mg base nSort "_law_sort" (defScope sSort) f cdv A outer s H E).env)]),
      PE (cxT CX0 P w K mg base nSort "_law_sort" (defScope sSort) f cdv A outer s H E) (.Call (.Name "isinstance" p) [.Name "_law_e" q, .Name x r] [] pos) (tIs K 0 c) :=
      fun x c u {r p q pos} hm rc hg h3 he => pe_callB call_isX (by rfl) B.isi (by decide +kernel) (pa_cons (pv 0) (pa_cons (pe_glob (v := c) hg hm rc h3) pa_nil) he)
    have hu : (cxT CX0 P w K mg base nSort "_law_sort" (defScope sSort) f cdv A outer s H E).A.units + 64 < cLine := by
      have := hr.un
      show (A.deeper (envOfC "_law_sort" (defScope sSort) s.heap.objs.size f cdv)).units + 64 < cLine
      omega
    refine ⟨_, pss_cons (ps_set (i := 1) scSort.nd rfl (.inl rfl) (pe_lst (pa_cons (io 0 (by decide) (by rfl) (by decide) (by rfl)) (pa_cons (io 1 (by decide) (by rfl) (by decide) (by rfl)) (pa_cons (io 2 (by decide) (by rfl) (by decide) (by rfl)) (pa_cons (io 3 (by decide) (by rfl) (by decide) (by rfl)) pa_nil))))))
      (pss_cons (ps_set (i := 1) scSort.nd rfl (.inl rfl) (pe_op op_cat (pv 1) (pe_lst (pa_cons (io 4 (by decide) (by rfl) (by decide) (by rfl)) (pa_cons (io 5 (by decide) (by rfl) (by decide) (by rfl)) (pa_cons (io 6 (by decide) (by rfl) (by decide) (by rfl)) (pa_cons (io 7 (by decide) (by rfl) (by decide) (by rfl)) pa_nil)))))))
      (pss_cons (ps_set (i := 1) scSort.nd rfl (.inl rfl) (pe_op op_cat (pv 1) (pe_lst (pa_cons (io 8 (by decide) (by rfl) (by decide) (by rfl)) (pa_cons (io 9 (by decide) (by rfl) (by decide) (by rfl)) (pa_cons (io 10 (by decide) (by rfl) (by decide) (by rfl)) (pa_cons (io 11 (by decide) (by rfl) (by decide) (by rfl)) pa_nil)))))))
      (pss_cons (ps_set (i := 1) scSort.nd rfl (.inl rfl) (pe_op op_cat (pv 1) (pe_lst (pa_cons (io 12 (by decide) (by rfl) (by decide) (by rfl)) (pa_cons (io 13 (by decide) (by rfl) (by decide) (by rfl)) (pa_cons (io 14 (by decide) (by rfl) (by decide) (by rfl)) (pa_cons (io 15 (by decide) (by rfl) (by decide) (by rfl)) pa_nil)))))))
      (pss_cons (ps_set (i := 1) scSort.nd rfl (.inl rfl) (pe_op op_cat (pv 1) (pe_lst (pa_cons (io 16 (by decide) (by rfl) (by decide) (by rfl)) (pa_cons (io 17 (by decide) (by rfl) (by decide) (by rfl)) (pa_cons (io 18 (by decide) (by rfl) (by decide) (by rfl)) pa_nil))))))
      (pss_cons (ps_if (pt_cmpR op_ne (pe_bm PySem.F.plainAttrs_list PySem.F.slot_list_count PySem.F.type_list_count mt_countF (pv 1) (pa_cons pe_bl pa_nil)) pe_int (nomark _)) (pss_one ps_never) pss_nil)
      (pss_cons (ps_set (i := 2) scSort.nd rfl (.inl rfl) (pe_bm PySem.F.plainAttrs_list PySem.F.slot_list_index PySem.F.type_list_index mt_index (pv 1) (pa_cons pe_bl pa_nil)))
      (pss_cons (ps_set (i := 3) scSort.nd rfl (.inr rfl) (pe_op op_add (pe_callTy call_int1 (by rfl) B.int (by decide +kernel) (pa_cons (pe_cmpR op_gt (pv 2) pe_int (nomark _)) pa_nil)) (pe_callTy call_int1 (by rfl) B.int (by decide +kernel) (pa_cons (pe_cmpR op_gt (pv 2) pe_int (nomark _)) pa_nil))))
      (pss_cons (ps_if (pt_cmpR (op_neD hu) (pe_lst (pa_cons (ib "WordError" (.ref (bd 0)) _ (G.bas 0 (by decide)) rfl (by rfl) (by decide) (by rfl)) (pa_cons (ib "LandError" (.ref (bd 1)) _ (G.bas 1 (by decide)) rfl (by rfl) (by decide) (by rfl)) (pa_cons (ib "JoinError" (.ref (bd 2)) _ (G.bas 2 (by decide)) rfl (by rfl) (by decide) (by rfl)) pa_nil))))
          (pe_lcT (own := [("_law_k", 5)]) (g := gName 5) (tt := tYes) hot2 scSort.nd (pi_rangeT (by rfl) B.range (pa_cons pe_int pa_nil)) (blkOk_by (N := nSort) (sc := defScope sSort) (by decide +kernel)) (fun _ _ _ _ _ => pg_name (i := 5) scSort.nd rfl (.inl rfl)) (fun _ _ _ _ _ => pts_nil) (fun _ _ _ _ _ => pe_cmpR op_eq (pv 5) (pv 3) (nomark _))) (nomark _)) (pss_one ps_never) pss_nil)
      (pss_cons (ps_if (pt_not (pt_val (pe_ix ix_list (pe_lst (pa_cons (pe_callB call_isX (by rfl) B.isi (by decide +kernel) (pa_cons (pv 0) (pa_cons (pe_bltn (v := .ty "ValueError") (by rfl) G.ve (by decide +kernel) rfl) pa_nil))) (pa_cons (pe_callB call_isX (by rfl) B.isi (by decide +kernel) (pa_cons (pv 0) (pa_cons (pe_bltn (v := .ty "LookupError") (by rfl) G.le (by decide +kernel) rfl) pa_nil)))
          (pa_cons (pe_callB call_isX (by rfl) B.isi (by decide +kernel) (pa_cons (pv 0) (pa_cons (pe_bltn (v := .ty "ArithmeticError") (by rfl) G.ae (by decide +kernel) rfl) pa_nil))) pa_nil)))) (pv 3) (fun _ _ => rfl)))) (pss_one ps_never) pss_nil)
      (pss_cons (ps_set (i := 4) scSort.nd rfl (.inl rfl) (pe_lst (pa_cons pe_str (pa_cons pe_str (pa_cons pe_str (pa_cons pe_str (pa_cons pe_str (pa_cons pe_str (pa_cons pe_str (pa_cons pe_str (pa_cons pe_str (pa_cons pe_str pa_nil))))))))))))
      (pss_cons (ps_set (i := 4) scSort.nd rfl (.inl rfl) (pe_op op_cat (pv 4) (pe_lst (pa_cons pe_str (pa_cons pe_str pa_nil)))))
      (pss_one (ps_ret (pe_ix ix_list (pe_op op_cat (pv 4) (pe_lst (pa_cons pe_str (pa_cons pe_str (pa_cons pe_str (pa_cons pe_str (pa_cons pe_str (pa_cons pe_str (pa_cons pe_str pa_nil))))))))) (pv 2) (fun _ _ => rfl))))))))))))))), ?_⟩
    refine (is_own 0 hE rfl (by decide) (is_own 1 hE rfl (by decide) (is_own 2 hE rfl (by decide) (is_own 3 hE rfl (by decide) ⟨lz, fun p1 h1 => ?_⟩))))
    have hE := hE.same (same_new (o := .lst ((kinds n).take 4)) h1)
    have s1 : Same H (upd H p1 (.lst ((kinds n).take 4))) := same_new h1
    have a1 : upd H p1 (.lst ((kinds n).take 4)) p1 = some (.lst ((kinds n).take 4)) := upd_same
    show tSeq _ _ _ _ (upd H p1 (.lst ((kinds n).take 4)))
    generalize upd H p1 (.lst ((kinds n).take 4)) = H1 at hE s1 a1
    refine ⟨_, rfl, (is_own 4 hE rfl (by decide) (is_own 5 hE rfl (by decide) (is_own 6 hE rfl (by decide) (is_own 7 hE rfl (by decide) ⟨lz, fun q0 g0 => ⟨p1, q0, _, _, rfl, rfl, (same_new g0) _ _ a1, upd_same, lz, fun r0 k0 => ?_⟩⟩))))⟩
    have t0 : Same H1 (upd (upd H1 q0 (.lst (((kinds n).drop 4).take 4))) r0 (.lst ((kinds n).take 8))) := (same_new g0).trans (same_new k0)
    have hE := hE.same t0
    have s1 := s1.trans t0
    have a1 : upd (upd H1 q0 (.lst (((kinds n).drop 4).take 4))) r0 (.lst ((kinds n).take 8)) r0 = some (.lst ((kinds n).take 8)) := upd_same
    show tSeq _ _ _ _ (upd (upd H1 q0 (.lst (((kinds n).drop 4).take 4))) r0 (.lst ((kinds n).take 8)))
    generalize upd (upd H1 q0 (.lst (((kinds n).drop 4).take 4))) r0 (.lst ((kinds n).take 8)) = HB0 at hE s1 a1
    clear t0 g0 k0
    refine ⟨_, rfl, (is_own 8 hE rfl (by decide) (is_own 9 hE rfl (by decide) (is_own 10 hE rfl (by decide) (is_own 11 hE rfl (by decide) ⟨lz, fun q1 g1 => ⟨r0, q1, _, _, rfl, rfl, (same_new g1) _ _ a1, upd_same, lz, fun r1 k1 => ?_⟩⟩))))⟩
    have t1 : Same HB0 (upd (upd HB0 q1 (.lst (((kinds n).drop 8).take 4))) r1 (.lst ((kinds n).take 12))) := (same_new g1).trans (same_new k1)
    have hE := hE.same t1
    have s1 := s1.trans t1
    have a1 : upd (upd HB0 q1 (.lst (((kinds n).drop 8).take 4))) r1 (.lst ((kinds n).take 12)) r1 = some (.lst ((kinds n).take 12)) := upd_same
    show tSeq _ _ _ _ (upd (upd HB0 q1 (.lst (((kinds n).drop 8).take 4))) r1 (.lst ((kinds n).take 12)))
    generalize upd (upd HB0 q1 (.lst (((kinds n).drop 8).take 4))) r1 (.lst ((kinds n).take 12)) = HB1 at hE s1 a1
    clear t1 g1 k1
    refine ⟨_, rfl, (is_own 12 hE rfl (by decide) (is_own 13 hE rfl (by decide) (is_own 14 hE rfl (by decide) (is_own 15 hE rfl (by decide) ⟨lz, fun q2 g2 => ⟨r1, q2, _, _, rfl, rfl, (same_new g2) _ _ a1, upd_same, lz, fun r2 k2 => ?_⟩⟩))))⟩
    have t2 : Same HB1 (upd (upd HB1 q2 (.lst (((kinds n).drop 12).take 4))) r2 (.lst ((kinds n).take 16))) := (same_new g2).trans (same_new k2)
    have hE := hE.same t2
    have s1 := s1.trans t2
    have a1 : upd (upd HB1 q2 (.lst (((kinds n).drop 12).take 4))) r2 (.lst ((kinds n).take 16)) r2 = some (.lst ((kinds n).take 16)) := upd_same
    show tSeq _ _ _ _ (upd (upd HB1 q2 (.lst (((kinds n).drop 12).take 4))) r2 (.lst ((kinds n).take 16)))
    generalize upd (upd HB1 q2 (.lst (((kinds n).drop 12).take 4))) r2 (.lst ((kinds n).take 16)) = HB2 at hE s1 a1
    clear t2 g2 k2
    refine ⟨_, rfl, (is_own 16 hE rfl (by decide) (is_own 17 hE rfl (by decide) (is_own 18 hE rfl (by decide) ⟨lz, fun q3 g3 => ⟨r2, q3, _, _, rfl, rfl, (same_new g3) _ _ a1, upd_same, lz, fun r3 k3 => ?_⟩⟩)))⟩
    have t3 : Same HB2 (upd (upd HB2 q3 (.lst (((kinds n).drop 16).take 3))) r3 (.lst ((kinds n).take 19))) := (same_new g3).trans (same_new k3)
    have hE := hE.same t3
    have s1 := s1.trans t3
    have a1 : upd (upd HB2 q3 (.lst (((kinds n).drop 16).take 3))) r3 (.lst ((kinds n).take 19)) r3 = some (.lst ((kinds n).take 19)) := upd_same
    show tSeq _ _ _ _ (upd (upd HB2 q3 (.lst (((kinds n).drop 16).take 3))) r3 (.lst ((kinds n).take 19)))
    generalize upd (upd HB2 q3 (.lst (((kinds n).drop 16).take 3))) r3 (.lst ((kinds n).take 19)) = HB3 at hE s1 a1
    clear t3 g3 k3
    have a1 : HB3 r3 = some (.lst (kinds n)) := a1
    refine ⟨_, rfl, .inl ⟨rfl, _, .inl (.inl a1)⟩, r3, kinds n, .bl true, rfl, rfl, .inl (.inl a1), rfl, kinds_flat n hn, rfl, _, rfl, ?_⟩
    rw [kinds_count n hn]
    refine iteNS (by simp) ?_
    refine ⟨_, rfl, .inl ⟨rfl, _, .inl (.inl a1)⟩, r3, kinds n, .bl true, n, .bl true, rfl, rfl, .inl (.inl a1), rfl, kinds_flat n hn, kinds_at n hn, rfl, fun m z' hm hz => kinds_none n hn m z' hm hz, ?_⟩
    refine ⟨_, rfl, _, _, rfl, rfl, .inr ⟨_, rfl, _, rfl, _, _, rfl, rfl, .inr ⟨_, rfl, _, _, rfl, rfl, ?_⟩⟩⟩
    clear io ib hot hh
    show gName 3 (V.int (b2i (decide ((8 : Int) < (n : Int))) + b2i (decide ((14 : Int) < (n : Int))))) _ _ _
    rw [base_sum n hn]
    refine is_bas 0 hE rfl (by decide) (is_bas 1 hE rfl (by decide) (is_bas 2 hE rfl (by decide) ⟨lz, fun p9 h9 => ⟨3, rfl, by decide, fun D hD => ?_⟩⟩))
    have s9 : Same HB3 (upd HB3 p9 (.lst [.bl (decide (0 = baOf n)), .bl (decide (1 = baOf n)), .bl (decide (2 = baOf n))])) := same_new h9
    have a9 : upd HB3 p9 (.lst [.bl (decide (0 = baOf n)), .bl (decide (1 = baOf n)), .bl (decide (2 = baOf n))]) p9 = some (.lst [.bl (decide (0 = baOf n)), .bl (decide (1 = baOf n)), .bl (decide (2 = baOf n))]) := upd_same
    have hE := hE.same s9
    have s1 := s1.trans s9
    generalize upd HB3 p9 (.lst [.bl (decide (0 = baOf n)), .bl (decide (1 = baOf n)), .bl (decide (2 = baOf n))]) = H9 at a9 hE s1 hD
    refine lc_rangeT hD hE.hot (fun k => .bl (decide ((k : Int) = (baOf n : Int)))) (fun _ => rfl) (fun k HA _ _ Q' q' => ⟨_, rfl, _, rfl, rfl, ?_⟩) (by decide) (fun HC sC hC => ?_)
    · rw [int_dec, Int.zero_add]
      exact q'
    have hE := hE.same sC
    have s1 := s1.trans sC
    have a9 := sC _ _ a9
    refine ⟨.list [.bool (decide (0 = baOf n)), .bool (decide (1 = baOf n)), .bool (decide (2 = baOf n))], .list ((List.range 3).map fun k : Nat => .bool (decide ((k : Int) = (baOf n : Int)))), .lst (.inl (.inl a9)) (.cons (.bl _) (.cons (.bl _) (.cons (.bl _) .nil))), .lst (.inl (.inl hC)) (.cons (.bl _) (.cons (.bl _) (.cons (.bl _) .nil))), rfl, rfl, _, rfl, ?_⟩
    rw [bases_eqv n hn]
    refine iteF ?_
    refine is_ve hE rfl (is_le hE rfl (is_ae hE rfl ⟨lz, fun p8 h8 => ?_⟩))
    refine ⟨_, rfl, p8, _, (baOf n : Int), _, rfl, rfl, .inl (.inl upd_same), atI_nat (base_at n hn), true, rfl, iteF ?_⟩
    have s1 := s1.trans (same_new (o := .lst [.bl (decide (0 = baOf n)), .bl (decide (1 = baOf n)), .bl (decide (2 = baOf n))]) h8)
    generalize upd HC p8 (.lst [.bl (decide (0 = baOf n)), .bl (decide (1 = baOf n)), .bl (decide (2 = baOf n))]) = HE at s1
    refine ⟨lz, fun t1 m1 => ⟨_, rfl, lz, fun t2 m2 => ⟨t1, t2, _, _, rfl, rfl, (same_new m2) _ _ upd_same, upd_same, lz, fun t3 m3 => ?_⟩⟩⟩
    refine ⟨_, rfl, lz, fun t4 m4 => ⟨t3, t4, _, _, rfl, rfl, (same_new m4) _ _ upd_same, upd_same, lz, fun t5 m5 => ⟨_, rfl, t5, sortN.map V.str, (n : Int), _, rfl, rfl, .inl (.inl upd_same), atI_nat (sortN_at n hn), ?_⟩⟩⟩
    exact q _ (s1.trans ((same_new m1).trans ((same_new m2).trans ((same_new m3).trans ((same_new m4).trans (same_new m5))))))
end
end Wl

/-! What the head reads off the frame of an own exception's class. -/
namespace Wl
open PySem PySem.Spec PyProof.Rows L2
/-- an exception's class: which it is, its field read, caught by its base -/
structure ErrC (K : PySem.W.Frag) (ad bd : Nat → Addr) (C : Addr) (n : Nat) : Prop where
  sort : SortC K ad bd C n
  xf : XfC K C
  all : PySem.W.exmAny K (.ref C) [.ref (bd 0), .ref (bd 1), .ref (bd 2)] = some true
def adK (K : PySem.W.Frag) (i : Nat) : Addr := He.ga K (exN i)
def bdK (K : PySem.W.Frag) (i : Nat) : Addr := He.ga K (baN i)
/-- what is asked of the n-th exception's class, at C; bm: its built-in bases -/
def errB (K : PySem.W.Frag) (C : Addr) (f : Str) (n : Nat) (bm : List Value) (newId : String) : Bool :=
  PySem.W.excInitIn K C bm newId && (PySem.W.excOver K C bm && (He.eqO (PySem.W.findIn K (.ref C) "__setattr__") (some (some (.builtin "object.__setattr__"))) && (He.eqO (PySem.W.takerIn K C f) (some none) &&
  (He.eqO (PySem.W.findIn K (.ref C) f) (some none) && (decide (PySem.W.subIn K (.ref C) (.type "BaseException") = some true) && (decide (PySem.W.typeIn K (.ref C) = some (.type "type")) && (PySem.W.hasDictIn K C && (PySem.W.keepIn K (.ref C) &&
  ((PySem.W.clsIn K C).isSome && (He.eqO (PySem.W.findIn K (.ref C) "__getattribute__") (some (some (.builtin "BaseException.__getattribute__"))) && (He.eqO (PySem.W.findIn K (.ref C) "__getattr__") (some none) &&
  (He.eqO (PySem.W.findIn K (.ref C) "__class__") (some (some (.builtin "object.__class__"))) && (He.eqO (PySem.W.specialIn K (.builtin "object.__class__") "__get__") (some (some (.builtin "getset_descriptor.__get__"))) &&
  (decide (PySem.W.takesIn K (.builtin "object.__class__") = some true) && (decide (PySem.W.mroIn K C (.type "object") = some true) && (((List.range 19).all fun i => decide (PySem.W.kitOne K (.ref C) (.ref (adK K i)) = some (decide (i = n)))) &&
  (((List.range 3).all fun i => decide (PySem.W.kitOne K (.ref C) (.ref (bdK K i)) = some (decide (i = baOf n)))) && (decide (PySem.W.kitOne K (.ref C) (.type "ValueError") = some (decide (0 = baOf n))) &&
  (decide (PySem.W.kitOne K (.ref C) (.type "LookupError") = some (decide (1 = baOf n))) && (decide (PySem.W.kitOne K (.ref C) (.type "ArithmeticError") = some (decide (2 = baOf n))) &&
  (decide (PySem.W.exmAny K (.ref C) [.ref (bdK K 0), .ref (bdK K 1), .ref (bdK K 2)] = some true) && decide (n < 19))))))))))))))))))))))
def bmOf (n : Nat) : List Value := if n ≤ 8 then [.type "ValueError", .type "Exception", .type "BaseException", .type "object"] else if n ≤ 14 then [.type "LookupError", .type "Exception", .type "BaseException", .type "object"] else [.type "ArithmeticError", .type "Exception", .type "BaseException", .type "object"]
def newOf (n : Nat) : String := if n ≤ 8 then "ValueError.__new__" else if n ≤ 14 then "LookupError.__new__" else "ArithmeticError.__new__"
theorem base_of (n : Nat) : ∃ B initId, BaseX B (newOf n) initId (bmOf n) := by
  unfold newOf bmOf
  by_cases h : n ≤ 8
  · rw [if_pos h, if_pos h]
    exact ⟨_, _, baseVE⟩
  · rw [if_neg h, if_neg h]
    by_cases h2 : n ≤ 14
    · rw [if_pos h2, if_pos h2]
      exact ⟨_, _, baseLE⟩
    · rw [if_neg h2, if_neg h2]
      exact ⟨_, _, baseAE⟩
section
variable {K : PySem.W.Frag} {mg : Str → Option Value} {C : Addr} {f x : Str} {n : Nat}
def errOf (K : PySem.W.Frag) (n : Nat) (f : Str) : Bool := errB K (adK K n) f n (bmOf n) (newOf n)
theorem err_ok (h : errB K C f n (bmOf n) (newOf n) = true) : ErrC K (adK K) (bdK K) C n ∧
    ∀ {q : Str} {st : Stmt} {fI : Addr} {fd : FuncData} {x : Str} {q1 q2 q3 q4 : Pos}, mg x = some (.ref C) → Meth K C "__init__" fI → Fun K "__init__" q st fI fd → Binds K fd ["self", f] [] → FnScope ["self", f] ["self", f] (defScope st) → ((["self", f] : List Str).all fun y => decide ((defScope st).names.lookup y = some .local)) = true →
      defBody st = [.Assign [.Attribute (.Name "self" q1) f q2] (.Name f q3) q4] → OwnX K mg x f C := by
  unfold errB at h
  simp only [Bool.and_eq_true] at h
  obtain ⟨h1, h2, h3, h4, h5, h6, h7, h8, h9, h10, h11, h12, h13, h14, h15, h16, h17, h18, h19, h20, h21, h22, h23⟩ := h
  have hsub := of_decide_eq_true h6
  refine ⟨⟨⟨⟨h10, He.eqO_ok h11, He.eqO_ok h12, hsub, He.eqO_ok h13, He.eqO_ok h14, of_decide_eq_true h15, of_decide_eq_true h16⟩, of_decide_eq_true h23, fun i hi => of_decide_eq_true (List.all_eq_true.mp h17 i (List.mem_range.mpr hi)), fun i hi => of_decide_eq_true (List.all_eq_true.mp h18 i (List.mem_range.mpr hi)),
    of_decide_eq_true h19, of_decide_eq_true h20, of_decide_eq_true h21⟩, ⟨He.eqO_ok h11, He.eqO_ok h12, hsub, h8⟩, of_decide_eq_true h22⟩, ?_⟩
  intro q st fI fd x q1 q2 q3 q4 hg hm hF hB hS hL hb
  obtain ⟨B, ini, BX⟩ := base_of n
  refine ⟨hg, h9, ⟨B, newOf n, ini, bmOf n, BX, h1, h2⟩, He.eqO_ok h3, He.eqO_ok h4, He.eqO_ok h5, hsub, of_decide_eq_true h7, h8, ⟨fI, fd, q, st, q1, q2, q3, q4, hm.at_, ?_, hF, hB, hS, fun y hy => of_decide_eq_true (List.all_eq_true.mp hL y hy), hb⟩⟩
  have z : (PySem.W.typeIn K (.ref fI) == some (.type "function")) = true := hm.fn
  exact beq_iff_eq.mp z
/-- the globals -/
def sortB (K : PySem.W.Frag) : Bool := ((List.range 19).all fun i => (He.Fa.glo (exN i)).ok K) && (((List.range 3).all fun i => (He.Fa.glo (baN i)).ok K) && ((He.Fa.free "ValueError").ok K && ((He.Fa.free "LookupError").ok K && (He.Fa.free "ArithmeticError").ok K)))
theorem sort_ok {h : Heap} (X : K.In h) (G : h.Ns mainGlobals mg) (c : sortB K = true) : SortG mg (adK K) (bdK K) := by
  unfold sortB at c
  simp only [Bool.and_eq_true] at c
  obtain ⟨c1, c2, c3, c4, c5⟩ := c
  exact ⟨fun i hi => He.glo_ok X G (List.all_eq_true.mp c1 i (List.mem_range.mpr hi)), fun i hi => He.glo_ok X G (List.all_eq_true.mp c2 i (List.mem_range.mpr hi)), He.free_ok X G c3, He.free_ok X G c4, He.free_ok X G c5⟩
end
end Wl

namespace Wl
open PySem PySem.Spec PyProof.Rows L2
abbrev sTold : Stmt := topS 51
/-- what is told of what is asked; b: whether of two words -/
inductive AskR (H : Hp) : Bool → V → V → V → Str → V → Prop
  | told2 {z y : Str} {v : V} {chs : List Chg} : IsWd z → IsWd y → ChV H v chs → OkCs chs → AskR H true (.str z) (.str y) v "told" .non
  | told1 {z : Str} {t v : V} {chs : List Chg} : IsWd z → ChV H v chs → OkCs chs → AskR H false (.str z) t v "told" .non
  | word {b : Bool} {a t v : V} : OddV H a → wvB a = false → AskR H b a t v "word" a
  | other {z : Str} {t v : V} : IsWd z → OddV H t → wvB t = false → AskR H true (.str z) t v "word" t
  | chs2 {z y : Str} {v : V} {o : Option Nat} : IsWd z → IsWd y → NoChs H v o → AskR H true (.str z) (.str y) v "changes" (plV o)
  | chs1 {z : Str} {t v : V} {o : Option Nat} : IsWd z → NoChs H v o → AskR H false (.str z) t v "changes" (plV o)
theorem AskR.same {H H' : Hp} {b : Bool} {a t v u : V} {nm : Str} (h : AskR H b a t v nm u) (s : Same H H') : AskR H' b a t v nm u := by
  cases h with
  | told2 h1 h2 h3 h4 => exact .told2 h1 h2 (h3.same s) h4
  | told1 h1 h3 h4 => exact .told1 h1 (h3.same s) h4
  | word h1 h2 => exact .word (h1.same s) h2
  | other h1 h2 h3 => exact .other h1 (h2.same s) h3
  | chs2 h1 h2 h3 => exact .chs2 h1 h2 (h3.same s)
  | chs1 h1 h3 => exact .chs1 h1 (h3.same s)
abbrev nTold : List Str := ["_law_way", "_law_one", "_law_two", "_law_some", "_law_e", "_law_name"]
abbrev psTold : List Str := ["_law_way", "_law_one", "_law_two", "_law_some"]
theorem scTold : FnScope nTold psTold (defScope sTold) := ⟨rfl, rfl, rfl, by decide +kernel, rfl, by decide +kernel, by decide +kernel⟩
def spTold : Sp := fun vs H Q _ => ∃ (way : Nat) (a t v : V) (nm : Str) (u : V), vs = [.int way, a, t, v] ∧ way < 4 ∧ AskR H (decide (way ≤ 1)) a t v nm u ∧ ∀ (p : Addr) (H' : Hp), Same H H' → H' p = some (.tup [.str nm, u]) → Q (.ref p) H'
def gR3 {α : Type} : List α → List α → List α → List α
  | [], _, [c, a, b] => [a, b, c]
  | us, _, _ => us
theorem gR3_rel {vs ds zs : List V} {us its ws : List Value} (r1 : Vals vs us) (r2 : Vals ds its) (r3 : Vals zs ws) : Vals (gR3 vs ds zs) (gR3 us its ws) := by
  rcases r1 with _ | ⟨a1, a2⟩
  · rcases r3 with _ | ⟨c1, _ | ⟨c2, _ | ⟨c3, _ | ⟨_, _⟩⟩⟩⟩
    all_goals first | exact .nil | exact .cons c2 (.cons c3 (.cons c1 .nil))
  · exact .cons a1 a2
section
variable {P : Program} {w : World} {K : PySem.W.Frag} {mg : Str → Option Value} {base : Heap} {f : Addr} {fd : FuncData} {ad bd : Nat → Addr} {cW cC : Addr}
theorem kwR3 {x : Str} (F : FunN K x wRow f fd) : ∃ its : List Value, KBn K fd ps3 0 ["changes", "word", "other"] (fun us ws => gR3 us its ws) (fun vs zs => gR3 vs [.non] zs) :=
  F.kbindsD (ps := ps3) 0 ["changes", "word", "other"] gR3 (by simp) gR3_rel (fun T kV doc pm an cdv ct us its ws l1 l2 l3 => by
      match us, its, ws, l1, l2, l3 with
      | [], [d], [a, b, c], _, _, _ => exact ⟨_, rfl, rfl⟩)
def spAreX (cW cC : Addr) : Sp := fun vs H Q E => spAre vs H Q E ∨ spRowR cW cC vs H Q E
def spMeanX (cW cC : Addr) : Sp := fun vs H Q E => spMean vs H Q E ∨ spMeanR cW cC vs H Q E
/-- the suite of the law's try -/
def tSuite (K : PySem.W.Frag) (ad bd : Nat → Addr) : ClT := fun a => tSeq (tAsg (tCallT a (spSort K ad bd) (tCons (tVar 4) tNil)) (gName 5))
  (tSeq (tIfS (tTest (tOp rEq (tVar 5) (tC (.str "word")))) (tRet (tTup (tCons (tVar 5) (tCons (tXf K "word" (tVar 4)) tNil)))) tNext)
  (tSeq (tIfS (tTest (tOp rEq (tVar 5) (tC (.str "changes")))) (tRet (tTup (tCons (tVar 5) (tCons (tXf K "place" (tVar 4)) tNil)))) tNext)
  (tRet (tTup (tCons (tVar 5) (tCons (tC .non) tNil))))))
theorem suite_read {C a d : Addr} {n : Nat} {fl nm : Str} {v : V} {H H0 : Hp} {D : Ends} {σ : L2.St} {q : V → Hp → Prop} (hE : ErrC K ad bd C n) (hn : n = 0 ∧ fl = "word" ∧ nm = "word" ∨ n = 1 ∧ fl = "place" ∧ nm = "changes") (hf : PySem.W.findIn K (.ref C) fl = some none)
    (hl : σ.length = 6) (s : Same H H0) (hd : H0 d = some (.xd [(fl, v)])) (ha : H0 a = none) (hD : D.rt = q) (h : ∀ p H', Same H H' → H' p = some (.tup [.str nm, v]) → q (.ref p) H') : tAs 4 (tSuite K ad bd) a D σ (upd H0 a (exH a (.ref C) (some d))) := by
  have hda : d ≠ a := fun z => by rw [z, ha] at hd; cases hd
  have s1 : Same H0 (upd H0 a (exH a (.ref C) (some d))) := same_new ha
  have e1 : upd H0 a (exH a (.ref C) (some d)) a = some (exH a (.ref C) (some d)) := upd_same
  have hd := s1 _ _ hd
  have s := s.trans s1
  generalize upd H0 a (exH a (.ref C) (some d)) = H1 at e1 hd s
  have hX : ExcAt K ad bd H1 a n := ⟨C, some d, e1, fun dd z => by cases z; exact ⟨_, hd⟩, hE.sort⟩
  subst hD
  match σ, hl with
  | [s0, s1, s2, s3, s4, s5], _ =>
    refine ⟨_, rfl, hX.hot, n, rfl, hX, hE.sort.lt, fun H2 t2 => ?_⟩
    have hd := t2 _ _ hd
    have e1 := t2 _ _ e1
    have s := s.trans t2
    rcases hn with ⟨rfl, rfl, rfl⟩ | ⟨rfl, rfl, rfl⟩
    · refine ⟨_, rfl, rfl, _, rfl, iteT ?_⟩
      exact ⟨_, rfl, _, rfl, a, C, d, _, v, rfl, e1, hd, hE.xf, hf, by simp [List.lookup], lz, fun p hp => h p _ (s.trans (same_new hp)) upd_same⟩
    · refine ⟨_, rfl, rfl, _, rfl, iteF ⟨_, rfl, rfl, _, rfl, iteT ?_⟩⟩
      exact ⟨_, rfl, _, rfl, a, C, d, _, v, rfl, e1, hd, hE.xf, hf, by simp [List.lookup], lz, fun p hp => h p _ (s.trans (same_new hp)) upd_same⟩
theorem ok_told (F : Fun K "_law_told" "_law_told" sTold f fd) (G : SortG mg ad bd) (TW : OwnX K mg "NoWord" "word" cW) (TC : OwnX K mg "NoChanges" "place" cC) (EW0 : ErrC K ad bd cW 0) (EC1 : ErrC K ad bd cC 1)
    (hA : HasNX P w K mg base "are_one" wAre 6 ps3 (spAreX cW cC)) (hR : HasNX P w K mg base "row_between" wRow 5 ps3 (spRowX cW cC)) (hM : HasNX P w K mg base "meaning" wMean 5 ps2 (spMeanX cW cC)) (hS : HasT P w K mg base "_law_sort" 1 ["_law_e"] (spSort K ad bd)) :
    FnOk P w K mg base CX0 7 f fd psTold spTold := by
  obtain ⟨fA, fdA, FA, mA, NA⟩ := hA
  obtain ⟨fR, fdR, FR, mR, NR⟩ := hR
  obtain ⟨fM, fdM, FM, mM, NM⟩ := hM
  have bA := bind3 NA (.inr rfl)
  have bM := bindM2 NM
  obtain ⟨itR, kR⟩ := kwR3 NR
  obtain ⟨itM, kM⟩ := kwM2 NM
  refine F.ok scTold (fun vs H Q E h => ?_) (fun cdv A outer s H vs Q E hr h => ?_)
  · obtain ⟨way, a, t, v, nm, u, rfl, _⟩ := h
    rfl
  · obtain ⟨way, a, t, v, nm, u, rfl, hw, hk, q⟩ := h
    have r5 : Room 5 (A.deeper (envOfC "_law_told" (defScope sTold) s.heap.objs.size f cdv)) := hr.mono (by decide)
    have rH : ∀ a : Addr, L2H.RoomH 6 ((A.deeper (envOfC "_law_told" (defScope sTold) s.heap.objs.size f cdv)).mark (some (.ref a))) := fun a => ⟨hr.dp, hr.un⟩
    refine ⟨_, pss_cons (ps_tryE (l := [(fun cls => PySem.W.exmAny K cls [.ref (bd 0), .ref (bd 1), .ref (bd 2)], tAs 4 (tSuite K ad bd))]) rfl rfl rfl scTold.nd takes_noN
      (fun W pn xe tk po => pss_one (ps_if (pt_cmpR op_eq (pv 0) pe_int (nomark _)) (pss_one (ps_expr (pe_call FA hr rfl mA NA.kp bA .nil (passU (n := 6) tk rfl) (pa_cons (pv 1) (pa_cons (pv 2) (pa_cons (pv 3) pa_nil))))))
        (pss_one (ps_if (pt_cmpR op_eq (pv 0) pe_int (nomark _)) (pss_one (ps_expr (pe_callN0 FR r5 rfl mR NR.kp kR (passU (n := 6) tk rfl) (pk_cons (pv 3) (pk_cons (pv 1) (pk_cons (pv 2) pk_nil))))))
        (pss_one (ps_if (pt_cmpR op_eq (pv 0) pe_int (nomark _)) (pss_one (ps_expr (pe_call FM r5 rfl mM NM.kp bM .nil (passU (n := 6) tk rfl) (pa_cons (pv 1) (pa_cons (pv 3) pa_nil)))))
        (pss_one (ps_expr (pe_callN0 FM r5 rfl mM NM.kp kM (passU (n := 6) tk rfl) (pk_cons (pv 3) (pk_cons (pv 1) pk_nil)))))))))))
      (.as (i := 4) rfl rfl (test_tup3 (by rfl) (G.bas 0 (by decide)) (by rfl) (G.bas 1 (by decide)) (by rfl) (G.bas 2 (by decide))) (fun a pn =>
        pss_cons (ps_set (i := 5) scTold.nd rfl (.inl rfl) (pe_ht hS (rH a) rfl (pa_cons (pv 4) pa_nil)))
        (pss_cons (ps_if (pt_cmpR op_eq (pv 5) pe_str (nomark _)) (pss_one (ps_ret (pe_tup (pa_cons (pv 5) (pa_cons (Wl.pe_xf (pv 4)) pa_nil))))) pss_nil)
        (pss_cons (ps_if (pt_cmpR op_eq (pv 5) pe_str (nomark _)) (pss_one (ps_ret (pe_tup (pa_cons (pv 5) (pa_cons (Wl.pe_xf (pv 4)) pa_nil))))) pss_nil)
        (pss_one (ps_ret (pe_tup (pa_cons (pv 5) (pa_cons pe_non pa_nil)))))))) .nil))
      (pss_one (ps_ret (pe_tup (pa_cons pe_str (pa_cons pe_non pa_nil))))), ?_⟩
    have none_ : ∀ {C d : Addr} {n : Nat} {fl : Str} {u' : V} {D : Ends} {H1 : Hp}, ErrC K ad bd C n → (n = 0 ∧ fl = "word" ∧ nm = "word" ∨ n = 1 ∧ fl = "place" ∧ nm = "changes") → PySem.W.findIn K (.ref C) fl = some none → D.rt = Q → u' = u → Same H H1 → H1 d = some (.xd [(fl, u')]) →
        ∀ σ : L2.St, σ.length = 6 → wCls (fun _ _ _ _ => False) D [(fun cls => PySem.W.exmAny K cls [.ref (bd 0), .ref (bd 1), .ref (bd 2)], tAs 4 (tSuite K ad bd))] (.ref C) (some d) σ H1 := by
      intro C d n fl u' D H1 hE hn hf hD hu s1 hd σ hl
      subst hu
      exact ⟨true, hE.all, fun _ a ha => suite_read hE hn hf hl s1 hd ha hD q, fun z => by cases z⟩
    have ref_w : ∀ {x : V} {D : Ends} {W : WX}, W = wCls (fun _ _ _ _ => False) D [(fun cls => PySem.W.exmAny K cls [.ref (bd 0), .ref (bd 1), .ref (bd 2)], tAs 4 (tSuite K ad bd))] → D.rt = Q → nm = "word" → x = u → Refuses cW "word" x H (EW 6 W) := by
      intro x D W hW hD hnm hx d H' s' e σ hl
      subst hW
      exact none_ EW0 (.inl ⟨rfl, rfl, hnm⟩) TW.no hD hx s' e σ hl
    have ref_c : ∀ {o : Option Nat} {D : Ends} {W : WX}, W = wCls (fun _ _ _ _ => False) D [(fun cls => PySem.W.exmAny K cls [.ref (bd 0), .ref (bd 1), .ref (bd 2)], tAs 4 (tSuite K ad bd))] → D.rt = Q → nm = "changes" → plV o = u → Refuses cC "place" (plV o) H (EW 6 W) := by
      intro o D W hW hD hnm hx d H' s' e σ hl
      subst hW
      exact none_ EC1 (.inr ⟨rfl, rfl, hnm⟩) TC.no hD hx s' e σ hl
    have fin : ∀ {H1 : Hp}, nm = "told" → u = .non → Same H H1 → (∀ p, H1 p = none → Q (.ref p) (upd H1 p (.tup [.str "told", .non]))) := by
      intro H1 e1 e2 s1 p hp
      subst e1 e2
      exact q p _ (s1.trans (same_new hp)) upd_same
    obtain rfl | rfl | rfl | rfl : way = 0 ∨ way = 1 ∨ way = 2 ∨ way = 3 := by omega
    · refine ⟨_, rfl, rfl, _, rfl, iteT ⟨_, rfl, _, rfl, _, rfl, ?_⟩⟩
      cases hk with
      | told2 h1 h2 h3 h4 => exact .inl ⟨_, _, _, _, rfl, h1, h2, h3, h4, fun b H1 s1 _ => ⟨lz, fun p hp => fin rfl rfl s1 p hp⟩⟩
      | word h1 h2 => exact .inr ⟨_, _, _, rfl, .inl ⟨h1, h2, ref_w rfl rfl rfl rfl⟩⟩
      | other h1 h2 h3 => exact .inr ⟨_, _, _, rfl, .inr ⟨_, rfl, h1, .inl ⟨h2, h3, ref_w rfl rfl rfl rfl⟩⟩⟩
      | chs2 h1 h2 h3 => exact .inr ⟨_, _, _, rfl, .inr ⟨_, rfl, h1, .inr ⟨_, rfl, h2, _, h3, ref_c rfl rfl rfl rfl⟩⟩⟩
    · refine ⟨_, rfl, rfl, _, rfl, iteF ⟨_, rfl, rfl, _, rfl, iteT ⟨_, rfl, _, rfl, _, rfl, rfl, rfl, ?_⟩⟩⟩
      cases hk with
      | told2 h1 h2 h3 h4 => exact .inl ⟨_, _, _, _, rfl, h1, h2, h3, h4, fun _ T xs H1 s1 _ => ⟨lz, fun p hp => fin rfl rfl s1 p hp⟩, fun _ H1 s1 => ⟨lz, fun p hp => fin rfl rfl s1 p hp⟩⟩
      | word h1 h2 => exact .inr ⟨_, _, _, rfl, .inl ⟨h1, h2, ref_w rfl rfl rfl rfl⟩⟩
      | other h1 h2 h3 => exact .inr ⟨_, _, _, rfl, .inr ⟨_, rfl, h1, .inl ⟨h2, h3, ref_w rfl rfl rfl rfl⟩⟩⟩
      | chs2 h1 h2 h3 => exact .inr ⟨_, _, _, rfl, .inr ⟨_, rfl, h1, .inr ⟨_, rfl, h2, _, h3, ref_c rfl rfl rfl rfl⟩⟩⟩
    · refine ⟨_, rfl, rfl, _, rfl, iteF ⟨_, rfl, rfl, _, rfl, iteF ⟨_, rfl, rfl, _, rfl, iteT ⟨_, rfl, _, rfl, ?_⟩⟩⟩⟩
      cases hk with
      | told1 h1 h3 h4 => exact .inl ⟨_, _, _, rfl, h1, h3, h4, fun H1 s1 => ⟨lz, fun p hp => fin rfl rfl s1 p hp⟩⟩
      | word h1 h2 => exact .inr ⟨_, _, rfl, .inl ⟨h1, h2, ref_w rfl rfl rfl rfl⟩⟩
      | chs1 h1 h3 => exact .inr ⟨_, _, rfl, .inr ⟨_, rfl, h1, _, h3, ref_c rfl rfl rfl rfl⟩⟩
    · refine ⟨_, rfl, rfl, _, rfl, iteF ⟨_, rfl, rfl, _, rfl, iteF ⟨_, rfl, rfl, _, rfl, iteF ⟨_, rfl, _, rfl, rfl, rfl, ?_⟩⟩⟩⟩
      cases hk with
      | told1 h1 h3 h4 => exact .inl ⟨_, _, _, rfl, h1, h3, h4, fun H1 s1 => ⟨lz, fun p hp => fin rfl rfl s1 p hp⟩⟩
      | word h1 h2 => exact .inr ⟨_, _, rfl, .inl ⟨h1, h2, ref_w rfl rfl rfl rfl⟩⟩
      | chs1 h1 h3 => exact .inr ⟨_, _, rfl, .inr ⟨_, rfl, h1, _, h3, ref_c rfl rfl rfl rfl⟩⟩
end
end Wl

/-! Texts each once, as first met; dicts by texts. -/
namespace Wl
open PySem PySem.Spec PyProof.Rows L2
def addK (acc : List Str) (z : Str) : List Str := if z ∈ acc then acc else acc ++ [z]
def keysOf (l : List Str) : List Str := l.foldl addK []
theorem keysOf_snoc (l : List Str) (z : Str) : keysOf (l ++ [z]) = addK (keysOf l) z := by
  unfold keysOf
  rw [List.foldl_append]
  rfl
theorem mem_addK {acc : List Str} {z y : Str} : y ∈ addK acc z ↔ y ∈ acc ∨ y = z := by
  unfold addK
  split
  · constructor
    · exact .inl
    · rintro (h | rfl) <;> assumption
  · simp
theorem foldK_mem {y : Str} : ∀ {l acc : List Str}, y ∈ l.foldl addK acc ↔ y ∈ acc ∨ y ∈ l
  | [], acc => by simp
  | z :: l, acc => by
    rw [List.foldl_cons, foldK_mem (l := l), mem_addK, List.mem_cons]
    constructor
    · rintro ((h | h) | h)
      · exact .inl h
      · exact .inr (.inl h)
      · exact .inr (.inr h)
    · rintro (h | h | h)
      · exact .inl (.inl h)
      · exact .inl (.inr h)
      · exact .inr h
theorem mem_keysOf {l : List Str} {y : Str} : y ∈ keysOf l ↔ y ∈ l := by
  unfold keysOf
  rw [foldK_mem]
  simp
theorem addK_nodup {acc : List Str} {z : Str} (h : acc.Nodup) : (addK acc z).Nodup := by
  unfold addK
  split
  · exact h
  · rename_i n
    rw [List.nodup_append]
    exact ⟨h, by simp, fun a ha b hb e => n (by rw [List.mem_singleton.mp hb] at e; exact e ▸ ha)⟩
theorem foldK_nodup : ∀ {l acc : List Str}, acc.Nodup → (l.foldl addK acc).Nodup
  | [], _, h => h
  | _ :: l, _, h => foldK_nodup (l := l) (addK_nodup h)
theorem keysOf_nodup (l : List Str) : (keysOf l).Nodup := foldK_nodup List.nodup_nil
theorem addK_len (acc : List Str) (z : Str) : (addK acc z).length ≤ acc.length + 1 := by
  unfold addK
  split
  · omega
  · simp
theorem foldK_len : ∀ (l acc : List Str), (l.foldl addK acc).length ≤ acc.length + l.length
  | [], acc => by simp
  | z :: l, acc => by
    have h1 := foldK_len l (addK acc z)
    have h2 := addK_len acc z
    rw [List.foldl_cons, List.length_cons]
    omega
theorem keysOf_len (l : List Str) : (keysOf l).length ≤ l.length := by
  have := foldK_len l []
  simpa [keysOf] using this
/-- the pairs of a dict whose keys are these texts -/
def kvZ (ad : Str → V) (l : List Str) : List (Key × V) := l.map fun z => (Sum.inr z, ad z)
theorem valV_kvZ (ad : Str → V) (z : Str) : ∀ l : List Str, valV (kvZ ad l) (Sum.inr z : Key) = if z ∈ l then some (ad z) else none
  | [] => rfl
  | d :: r => by
    by_cases h : d = z
    · subst h
      rw [if_pos List.mem_cons_self]
      exact valV_pos rfl
    · have h1 : valV (kvZ ad (d :: r)) (Sum.inr z : Key) = valV (kvZ ad r) (Sum.inr z : Key) := valV_neg fun e => h (Sum.inr.inj e)
      rw [h1, valV_kvZ ad z r]
      have h2 : (z ∈ d :: r) = (z ∈ r) := by
        simp only [List.mem_cons, eq_iff_iff]
        constructor
        · rintro (e | e)
          · exact absurd e.symm h
          · exact e
        · exact .inr
      simp only [h2]
theorem valV_in {ad : Str → V} {z : Str} {l : List Str} (h : z ∈ l) : valV (kvZ ad l) (Sum.inr z : Key) = some (ad z) := by
  rw [valV_kvZ, if_pos h]
theorem valV_out {ad : Str → V} {z : Str} {l : List Str} (h : z ∉ l) : valV (kvZ ad l) (Sum.inr z : Key) = none := by
  rw [valV_kvZ, if_neg h]
theorem kvZ_congr {a b : Str → V} {l : List Str} (h : ∀ c ∈ l, a c = b c) : kvZ a l = kvZ b l := List.map_congr_left fun c hc => by rw [h c hc]
theorem kvZ_keys (ad : Str → V) (l : List Str) : (kvZ ad l).map (fun kv => kV kv.1) = l.map V.str := by
  unfold kvZ
  rw [List.map_map]
  rfl
theorem kvZ_len (ad : Str → V) (l : List Str) : (kvZ ad l).length = l.length := List.length_map _
theorem sortS_nodup {l : List Str} (h : l.Nodup) : (sortS l).Nodup := (List.mergeSort_perm l leB).nodup_iff.mpr h
end Wl

/-! d == e of two dicts of the same texts, their values told by data. -/
namespace Wl
open PySem PySem.Spec PyProof.Rows L2
def rEqDT (K : PySem.W.Frag) : R2 := fun x y H Q => ∃ (a b : Addr) (nms : List Str) (f g : Str → V) (fd gd : Str → PyData), x = .ref a ∧ y = .ref b ∧ H a = some (.dK (kvZ f nms)) ∧ H b = some (.dK (kvZ g nms)) ∧
  (∀ z ∈ nms, Dp K H (f z) (fd z) ∧ Dp K H (g z) (gd z) ∧ (fd z).canLay0 = true ∧ (gd z).canLay0 = true ∧ (fd z).depth ≤ 3) ∧ Q (.bl (nms.all fun z => PyData.eqv (fd z) (gd z))) H
theorem kv_mem {f : Str → V} : ∀ {nms : List Str} {va : List (Key × Value)}, KV (kvZ f nms) va → ∀ {k : Key} {v : Value}, (k, v) ∈ va → ∃ z ∈ nms, k = Sum.inr z ∧ RelV (f z) v
  | [], va, r, k, v, h => by
    cases r
    cases h
  | z :: nms, va, r, k, v, h => by
    have r' : Paired (fun (p : Key × V) (q : Key × Value) => p.1 = q.1 ∧ RelV p.2 q.2) ((Sum.inr z, f z) :: kvZ f nms) va := r
    cases r' with
    | cons e t =>
      rcases List.mem_cons.mp h with h1 | h1
      · obtain ⟨e1, e2⟩ := e
        rw [← h1] at e1 e2
        exact ⟨z, List.mem_cons_self, e1.symm, e2⟩
      · obtain ⟨y, hy, q⟩ := kv_mem (f := f) (nms := nms) t h1
        exact ⟨y, List.mem_cons_of_mem _ hy, q⟩
theorem kv_keys {f : Str → V} : ∀ {nms : List Str} {va : List (Key × Value)}, KV (kvZ f nms) va → va.map (·.1) = nms.map Sum.inr
  | [], va, r => by
    cases r
    rfl
  | z :: nms, va, r => by
    have r' : Paired (fun (p : Key × V) (q : Key × Value) => p.1 = q.1 ∧ RelV p.2 q.2) ((Sum.inr z, f z) :: kvZ f nms) va := r
    cases r' with
    | cons e t =>
      rw [List.map_cons, List.map_cons, kv_keys (f := f) (nms := nms) t, ← e.1]
section
variable {X : Cx}
theorem op_eqDT (hu : X.A.units + 64 < cLine) : OpR X (compareOp .Eq) (rEqDT X.K) := by
  intro pins s σ H x y v u Q I rx ry h
  obtain ⟨a, b, nms, f, g, fd, gd, rfl, rfl, ea, eb, hv, q⟩ := h
  obtain rfl : v = Value.ref a := rx
  obtain rfl : u = Value.ref b := ry
  obtain ⟨_, ya, va, ra, da⟩ := (show ObjOk X.prog X.w H s.heap a (.dK (kvZ f nms)) from I.hok a _ ea)
  obtain ⟨_, yb, vb, rb, db⟩ := (show ObjOk X.prog X.w H s.heap b (.dK (kvZ g nms)) from I.hok b _ eb)
  let e : Key → Bool := fun k => match k with
    | .inl _ => true
    | .inr z => PyData.eqv (fd z) (gd z)
  refine PySem.W.eq_dictsT (knd := mixKind X.prog X.w) (n := 3) (e := e) ya yb da db (fun k v' y' hm hva => ?_) (by omega) ?_
  · obtain ⟨z, hz, rfl, rv⟩ := kv_mem ra hm
    have rr := rb.val (Sum.inr z : Key)
    rw [valV_in hz] at rr
    obtain ⟨y2, hy2, ry2⟩ := rr.some_of
    rw [hva] at hy2
    obtain rfl := Option.some.inj hy2
    obtain ⟨d1, d2, c1, c2, dp⟩ := hv z hz
    obtain ⟨as, r1⟩ := Dp.reads I _ _ _ d1 rv
    obtain ⟨bs, r2⟩ := Dp.reads I _ _ _ d2 ry2
    exact .leaf fun A hA => SeqAt.eqAt_reads _ _ A s _ _ _ _ r1 r2 c1 c2 (by
      have := Nat.min_le_left (fd z).depth (gd z).depth
      omega)
  · have e1 : va.length = nms.length := by
      have := congrArg List.length (kv_keys ra)
      simpa using this
    have e2 : vb.length = nms.length := by
      have := congrArg List.length (kv_keys rb)
      simpa using this
    have e3 : (va.all fun p => (valueAt vb p.1).isSome && e p.1) = nms.all fun z => PyData.eqv (fd z) (gd z) := by
      have h1 : (va.all fun p => (valueAt vb p.1).isSome && e p.1) = (va.map (·.1)).all fun k => (valueAt vb k).isSome && e k := by
        rw [List.all_map]
        rfl
      rw [h1, kv_keys ra, List.all_map, Bool.eq_iff_iff, List.all_eq_true, List.all_eq_true]
      have sm : ∀ z ∈ nms, (valueAt vb (Sum.inr z : Key)).isSome = true := fun z hz => by
        have rr := rb.val (Sum.inr z : Key)
        rw [valV_in hz] at rr
        obtain ⟨y2, hy2, _⟩ := rr.some_of
        rw [hy2]
        rfl
      constructor
      · intro h z hz
        have := h z hz
        simp only [Function.comp, Bool.and_eq_true] at this
        exact this.2
      · intro h z hz
        simp only [Function.comp, Bool.and_eq_true]
        exact ⟨sm z hz, h z hz⟩
    rw [e3, e1, e2]
    refine ⟨.bl _, H, I, ?_, q⟩
    show _ = Value.bool _
    simp
end
end Wl

/-! v == v: a thing beside itself, data or a dict of texts with data. -/
namespace Wl
open PySem PySem.Spec PyProof.Rows L2
def SelfV (K : PySem.W.Frag) (H : Hp) (v : V) : Prop := (∃ d, Dp K H v d ∧ SeqAt.shaped d = true) ∨
  ∃ (p : Addr) (nms : List Str) (g : Str → V) (gd : Str → PyData), v = .ref p ∧ H p = some (.dK (kvZ g nms)) ∧ ∀ z ∈ nms, Dp K H (g z) (gd z) ∧ (gd z).canLay0 = true ∧ (gd z).depth ≤ 3
def rEqSelf (K : PySem.W.Frag) : R2 := fun x y H Q => x = y ∧ SelfV K H x ∧ Q (.bl true) H
theorem op_eqSelf {X : Cx} (hu : X.A.units + 64 < cLine) : OpR X (compareOp .Eq) (rEqSelf X.K) := by
  intro pins s σ H x y v u Q I rx ry h
  obtain ⟨rfl, h | h, q⟩ := h
  · obtain ⟨d, hd, sd⟩ := h
    refine op_eqD hu pins s σ H x x v u Q I rx ry ⟨d, d, hd, hd, sd, sd, ?_⟩
    rw [SeqAt.eqv_refl _ (SeqAt.canLay_of_shaped sd)]
    exact q
  · obtain ⟨p, nms, g, gd, rfl, hp, hz⟩ := h
    refine op_eqDT hu pins s σ H _ _ v u Q I rx ry ⟨p, p, nms, g, g, gd, gd, rfl, rfl, hp, hp, fun z hm => ?_, ?_⟩
    · obtain ⟨h1, h2, h3⟩ := hz z hm
      exact ⟨h1, h1, h2, h2, h3⟩
    · have : (nms.all fun z => PyData.eqv (gd z) (gd z)) = true := List.all_eq_true.mpr fun z hm => SeqAt.eqv_refl _ (hz z hm).2.1
      rw [this]
      exact q
end Wl

/-! Data of any depth under a heap that grows; a heap with one object left out. -/
namespace Wl
open PySem PySem.Spec PyProof.Rows L2
mutual
theorem dp_same {K : PySem.W.Frag} {H H' : Hp} (s : Same H H') : ∀ {v : V} {d : PyData}, Dp K H v d → Dp K H' v d
  | _, _, .non => .non
  | _, _, .bl b => .bl b
  | _, _, .int i => .int i
  | _, _, .str x => .str x
  | _, _, .lst h t => .lst (s.seq h) (dpAll_same s t)
  | _, _, .tup h t => .tup (tup_same s h) (dpAll_same s t)
theorem dpAll_same {K : PySem.W.Frag} {H H' : Hp} (s : Same H H') : ∀ {vs : List V} {ds : List PyData}, DpAll K H vs ds → DpAll K H' vs ds
  | _, _, .nil => .nil
  | _, _, .cons r t => .cons (dp_same s r) (dpAll_same s t)
end
theorem SelfV.same {K : PySem.W.Frag} {H H' : Hp} {v : V} (h : SelfV K H v) (s : Same H H') : SelfV K H' v := by
  rcases h with ⟨d, h1, h2⟩ | ⟨p, nms, g, gd, e, hp, hz⟩
  · exact .inl ⟨d, dp_same s h1, h2⟩
  · exact .inr ⟨p, nms, g, gd, e, s _ _ hp, fun z hm => ⟨dp_same s (hz z hm).1, (hz z hm).2⟩⟩
/-- new behind, new ahead -/
theorem hq_of {H H' : Hp} {p : Addr} (s : Same H H') (h : H' p = none) : H p = none := by
  cases q : H p with
  | none => rfl
  | some o =>
    rw [s p o q] at h
    cases h
/-- H without what stands at a -/
def hid (a : Addr) (H : Hp) : Hp := fun b => if b = a then none else H b
theorem hid_same {a : Addr} {H : Hp} : Same (hid a H) H := fun b o e => by
  unfold hid at e
  by_cases h : b = a
  · rw [if_pos h] at e
    cases e
  · rw [if_neg h] at e
    exact e
theorem hid_x {a : Addr} {H H' : Hp} (s : SameX a H H') : Same (hid a H) (hid a H') := fun b o e => by
  unfold hid at e ⊢
  by_cases h : b = a
  · rw [if_pos h] at e
    cases e
  · rw [if_neg h] at e ⊢
    exact s b o h e
theorem hid_at {a p : Addr} {H : Hp} {o : HO} (h : H p = some o) (hne : p ≠ a) : hid a H p = some o := by
  unfold hid
  rw [if_neg hne]
  exact h
/-- what H' has that H has not -/
def newH (H H' : Hp) : Hp := fun p => match H p with
  | none => H' p
  | some _ => none
theorem new_at {H H' : Hp} {p : Addr} {o : HO} (hn : H p = none) (h : H' p = some o) : newH H H' p = some o := by
  unfold newH
  rw [hn]
  exact h
theorem new_hid {H H' : Hp} {a : Addr} {o : HO} (h : H a = some o) : Same (newH H H') (hid a H') := fun p u e => by
  unfold newH at e
  cases q : H p with
  | some _ =>
    rw [q] at e
    cases e
  | none =>
    rw [q] at e
    exact hid_at e fun z => by
      rw [z, h] at q
      cases q
end Wl

/-! A tuple times 0 or 1. -/
namespace Wl
open PySem PySem.Spec PyProof.Rows L2
theorem times_same (l : Addr) (items : Array Value) (n : Nat) (dd : Option Addr) (sl : Array (Option Value)) (x : Int) (u : Tok) (c0 : (decide (x < -(2 ^ 63)) || decide (x ≥ 2 ^ 63)) = false) (c1 : (items.isEmpty || x == 1) = true) :
    Meets (Builtin.«tuple.__mul__» ⟨[.ref l, .int x u], []⟩) (fun _ R s => s.heap.get? l = some { cls := .type "tuple", dict := dd, data := .seq items n, slots := sl } ∧ R (.ok (.ret (Value.ref l))) s) :=
  .of_wp fun prog w A R s h => by
    obtain ⟨hp, g, d, tk, os⟩ := s
    obtain ⟨hl, h⟩ := h
    have f1 := AutoSeq1.idx_int
    have tl : Shared.TypeIs ⟨hp, g, d, tk, os⟩ (.ref l) "tuple" := ⟨_, hl, rfl⟩
    wp_walk using wpAny_loadPart' hl
    all_goals (try (refine wpAny_ite_false (decide_eq_false (by rw [c0]; exact Bool.false_ne_true)) ?_; wp_walk using wpAny_loadPart' hl))
    exact ⟨_, rfl, h⟩
theorem times_none (l : Addr) (items : Array Value) (n : Nat) (dd : Option Addr) (sl : Array (Option Value)) (u : Tok) (c1 : (items.isEmpty || (0 : Int) == 1) = false) :
    Meets (Builtin.«tuple.__mul__» ⟨[.ref l, .int 0 u], []⟩) (fun _ R s => s.heap.get? l = some { cls := .type "tuple", dict := dd, data := .seq items n, slots := sl } ∧
      R (.ok (.ret (Value.ref s.heap.objs.size))) { s with heap := s.heap.push { cls := Value.type "tuple", data := Data.seq #[] }, toks := s.toks }) :=
  .of_wp fun prog w A R s h => by
    obtain ⟨hp, g, d, tk, os⟩ := s
    obtain ⟨hl, h⟩ := h
    have f1 := AutoSeq1.idx_int
    have c2 : (decide ((0 : Int) ≤ 0) || items.isEmpty) = true := by rw [decide_eq_true (Int.le_refl 0)]; rfl
    wp_walk using wpAny_loadPart' hl
    refine wpAny_ite_false (decide_eq_false (fun e => by rw [c1] at e; cases e)) ?_
    wp_walk using wpAny_loadPart' hl
    all_goals (try (refine wpAny_ite_true (decide_eq_true c2) ?_; wp_walk using wpAny_loadPart' hl))
    exact ⟨_, rfl, h⟩
def rTimesT (K : PySem.W.Frag) : R2 := fun x y H Q => ∃ l k xs, x = .ref l ∧ y = .int k ∧ SqT K H l xs ∧ ((k = 1 ∧ Q (.ref l) H) ∨ (k = 0 ∧ (xs = [] → Q (.ref l) H) ∧ ∀ p, H p = none → Q (.ref p) (upd H p (.tup []))))
section
variable {X : Cx}
theorem op_timesT : OpR X (binaryOp .Mult) (rTimesT X.K) := by
  intro pins s σ H x y v u Q I rx ry h
  obtain ⟨l, k, xs, rfl, rfl, hT, q⟩ := h
  cases rx
  obtain ⟨t, rfl⟩ := ry
  obtain ⟨its, r, ⟨⟨cls, dd, data, sl⟩, ho, hc, n, hd⟩, hs⟩ := I.tuple hT
  simp only at hc hd
  subst hc hd
  have road : ∀ {Q' : Value → Shared → Prop}, wpAny (model X.prog X.w) X.A (call (.builtin "tuple.__mul__") [.ref l, .int k t]) Q' X.xe s → wpAny (model X.prog X.w) X.A (binaryOp .Mult (.ref l) (.int k t)) Q' X.xe s := fun {Q'} hq =>
    wpAny_binaryOp_repeat_ref (T := "tuple") (U := "int") (by decide) ⟨_, ho, rfl⟩ (fun s' => typeIs_int s' k t) noFill_tuple_mul F.fills_int_mul F.slot_int_rmul repeat_tuple F.slot_int_index.lookup
      (call_meets F.slot_int_rmul (typeIs_int s k t) F.entry_int_rmul (F.args_int_rmul_2 _ _) (int_rmul_tuple k t l its.toArray n dd sl) ⟨ho, rfl, ⟨_, ho, rfl⟩, hq⟩)
  refine road ?_
  rcases q with ⟨rfl, q⟩ | ⟨rfl, q0, q1⟩
  · exact call_meets F.slot_tuple_mul ⟨_, ho, rfl⟩ F.entry_tuple_mul (F.args_tuple_mul_2 _ _) (times_same l its.toArray n dd sl 1 t (by decide) (by simp)) ⟨ho, ⟨.ref l, H, I, rfl, q⟩⟩
  · cases its with
    | nil =>
      have e : xs = [] := by
        cases xs with
        | nil => rfl
        | cons a b => cases r
      exact call_meets F.slot_tuple_mul ⟨_, ho, rfl⟩ F.entry_tuple_mul (F.args_tuple_mul_2 _ _) (times_same l _ n dd sl 0 t (by decide) (by simp)) ⟨ho, ⟨.ref l, H, I, rfl, q0 e⟩⟩
    | cons a b =>
      refine call_meets F.slot_tuple_mul ⟨_, ho, rfl⟩ F.entry_tuple_mul (F.args_tuple_mul_2 _ _) (times_none l _ n dd sl t (by simp)) ⟨ho, ?_⟩
      have hn : H s.heap.objs.size = none := I.hok.fresh (Nat.le_refl _)
      refine ⟨.ref s.heap.objs.size, upd H s.heap.objs.size (.tup []), ?_, rfl, q1 _ hn⟩
      refine I.laid (t' := s.toks) (fun b o e => Heap.get?_push_of_some _ e) (Nat.le_refl _) ?_
      exact ⟨by simp, [], .nil, ⟨_, Heap.get?_push_size _ rfl, rfl, _, rfl⟩⟩
end
end Wl

namespace Wl
open PySem PySem.Spec PyProof.Rows L2
abbrev sSame : Stmt := topS 50
abbrev sIs : Stmt := topS 52
abbrev sNoWords : Stmt := topS 53
/-- what isinstance(v, T) tells, T bool or list -/
theorem OddV.kit {K : PySem.W.Frag} {H : Hp} {v : V} (h : OddV H v) : ∃ (t : Value) (b l : Bool), TyX K H v t ∧ PySem.W.kitOne K t (.type "bool") = some b ∧ PySem.W.kitOne K t (.type "list") = some l := by
  rcases h with ⟨z, e, h⟩ | h | ⟨b, h⟩ | ⟨i, h⟩ | ⟨p, e, ⟨xs, h⟩ | ⟨xs, h⟩ | ⟨xs, h⟩⟩
  · subst e
    exact ⟨_, false, false, .base (.str z), kit_ty (by decide +kernel), kit_ty (by decide +kernel)⟩
  · subst h
    exact ⟨_, false, false, .base .non, kit_ty (by decide +kernel), kit_ty (by decide +kernel)⟩
  · subst h
    exact ⟨_, true, false, .base (.bl b), kit_ty (by decide +kernel), kit_ty (by decide +kernel)⟩
  · subst h
    exact ⟨_, false, false, .base (.int i), kit_ty (by decide +kernel), kit_ty (by decide +kernel)⟩
  · subst e
    exact ⟨_, false, false, .base (.tup h), kit_ty (by decide +kernel), kit_ty (by decide +kernel)⟩
  · subst e
    exact ⟨_, false, true, .base (.lst h), kit_ty (by decide +kernel), kit_ty (by decide +kernel)⟩
  · subst e
    exact ⟨_, false, false, .base (.dK h), kit_ty (by decide +kernel), kit_ty (by decide +kernel)⟩
def OddS (K : PySem.W.Frag) (H : Hp) (v : V) : Prop := OddV H v ∧ SelfV K H v
theorem OddS.same {K : PySem.W.Frag} {H H' : Hp} {v : V} (h : OddS K H v) (s : Same H H') : OddS K H' v := ⟨h.1.same s, h.2.same s⟩
/-- a thing that is no word -/
def OddW (K : PySem.W.Frag) (H : Hp) (v : V) : Prop := OddS K H v ∧ wvB v = false
theorem OddW.same {K : PySem.W.Frag} {H H' : Hp} {v : V} (h : OddW K H v) (s : Same H H') : OddW K H' v := ⟨h.1.same s, h.2⟩
theorem pl_odd {K : PySem.W.Frag} {H : Hp} (o : Option Nat) : OddS K H (plV o) := by
  cases o with
  | none => exact ⟨.inr (.inl rfl), .inl ⟨_, .non, rfl⟩⟩
  | some i => exact ⟨.inr (.inr (.inr (.inl ⟨_, rfl⟩))), .inl ⟨_, .int _, rfl⟩⟩
structure Bq (mg : Str → Option Value) : Prop where
  bool : mg "bool" = none
section
variable {P : Program} {w : World} {K : PySem.W.Frag} {mg : Str → Option Value} {base : Heap} {f : Addr} {fd : FuncData}
def spSame (K : PySem.W.Frag) : Sp := fun vs H Q _ => ∃ v, vs = [v, v] ∧ OddS K H v ∧ Q (.bl true) H
theorem scSame : FnScope ["_law_told_here", "_law_due"] ["_law_told_here", "_law_due"] (defScope sSame) := ⟨rfl, rfl, rfl, by decide +kernel, rfl, by decide +kernel, by decide +kernel⟩
theorem ok_same (F : Fun K "_law_same" "_law_same" sSame f fd) (B : Bi mg) (B2 : Bq mg) : FnOk P w K mg base CX0 1 f fd ["_law_told_here", "_law_due"] (spSame K) := by
  refine F.ok scSame (fun vs H Q E h => ?_) (fun cdv A outer s H vs Q E hr h => ?_)
  · obtain ⟨v, rfl, _⟩ := h
    rfl
  · obtain ⟨v, rfl, ho, q⟩ := h
    obtain ⟨t, b, l, ty, hb, hl⟩ := ho.1.kit (K := K)
    refine ⟨_, pss_cons (ps_if (PW.pt (pw_or (pt_cmpR op_ne (pe_callB call_isi (by rfl) B.isi (by decide +kernel) (pa_cons (pv 0) (pa_cons (pe_bltn (v := .ty "bool") (by rfl) B2.bool (by decide +kernel) rfl) pa_nil))) (pe_callB call_isi (by rfl) B.isi (by decide +kernel) (pa_cons (pv 1) (pa_cons (pe_bltn (v := .ty "bool") (by rfl) B2.bool (by decide +kernel) rfl) pa_nil))) (nomark _))
        (pw_or1 (pt_cmpR op_ne (pe_callB call_isi (by rfl) B.isi (by decide +kernel) (pa_cons (pv 0) (pa_cons (pe_bltn (v := .ty "list") (by rfl) B.list (by decide +kernel) rfl) pa_nil))) (pe_callB call_isi (by rfl) B.isi (by decide +kernel) (pa_cons (pv 1) (pa_cons (pe_bltn (v := .ty "list") (by rfl) B.list (by decide +kernel) rfl) pa_nil))) (nomark _))))) (pss_one ps_never) pss_nil)
      (pss_one (ps_ret (pe_cmpR (op_eqSelf hr.units) (pv 0) (pv 1) (nomark _)))), ?_⟩
    refine ⟨_, rfl, _, _, _, _, _, rfl, .ty "bool", ty, hb, _, rfl, _, _, _, _, _, rfl, .ty "bool", ty, hb, rfl, _, rfl, ?_⟩
    rw [decide_eq_true rfl]
    refine iteF ⟨_, rfl, _, _, _, _, _, rfl, .ty "list", ty, hl, _, rfl, _, _, _, _, _, rfl, .ty "list", ty, hl, rfl, _, rfl, ?_⟩
    rw [decide_eq_true rfl]
    exact iteF ⟨_, rfl, _, rfl, rfl, ho.2, q⟩
def spIs (K : PySem.W.Frag) : Sp := fun vs H Q _ => ∃ (p : Addr) (nm : Str) (v : V), vs = [.ref p, .str nm, v] ∧ H p = some (.tup [.str nm, v]) ∧ OddS K H v ∧ Q (.bl true) H
theorem scIs : FnScope ["_law_found", "_law_name", "_law_due"] ["_law_found", "_law_name", "_law_due"] (defScope sIs) := ⟨rfl, rfl, rfl, by decide +kernel, rfl, by decide +kernel, by decide +kernel⟩
theorem ok_is (F : Fun K "_law_is" "_law_is" sIs f fd) (hS : Has P w K mg base "_law_same" 1 ["_law_told_here", "_law_due"] (spSame K)) : FnOk P w K mg base CX0 2 f fd ["_law_found", "_law_name", "_law_due"] (spIs K) := by
  refine F.ok scIs (fun vs H Q E h => ?_) (fun cdv A outer s H vs Q E hr h => ?_)
  · obtain ⟨p, nm, v, rfl, _⟩ := h
    rfl
  · obtain ⟨p, nm, v, rfl, hp, ho, q⟩ := h
    refine ⟨_, pss_one (ps_ret (pe_and (pe_cmpR op_eq (pe_ix ix_tup (pv 0) pe_int (fun _ _ => rfl)) (pv 1) (nomark _)) (pe_one (pe_h hS hr (pa_cons (pe_ix ix_tup (pv 0) pe_int (fun _ _ => rfl)) (pa_cons (pv 2) pa_nil)))))), ?_⟩
    refine ⟨_, rfl, p, _, 0, .str nm, rfl, rfl, .inl (.inl hp), atI_nat (j := 0) rfl, _, rfl, rfl, _, rfl, ?_⟩
    rw [decide_eq_true rfl]
    exact iteT ⟨_, rfl, p, _, 1, v, rfl, rfl, .inl (.inl hp), atI_nat (j := 1) rfl, _, rfl, v, rfl, ho, q⟩
def spNoWords (K : PySem.W.Frag) : Sp := fun vs H Q _ => vs = [] ∧ ∀ (p : Addr) (xs : List V) (H' : Hp), Same H H' → H' p = some (.lst xs) → H p = none → xs.length = 22 → (∀ v ∈ xs, OddW K (newH H H') v) → Q (.ref p) H'
theorem scNoWords : FnScope ["_law_some"] [] (defScope sNoWords) := ⟨rfl, rfl, rfl, by decide +kernel, rfl, by decide +kernel, by decide +kernel⟩
theorem ow_s {H : Hp} {z : Str} (h : Nat.ble z.length 1000 = true := by decide +kernel) (hw : wdB z = false := by decide +kernel) (hs : SeqAt.shaped (.str z) = true := by decide +kernel) : OddW K H (.str z) := ⟨⟨.inl ⟨z, rfl, Nat.le_of_ble_eq_true h⟩, .inl ⟨_, .str _, hs⟩⟩, hw⟩
theorem ow_n {H : Hp} : OddW K H .non := ⟨⟨.inr (.inl rfl), .inl ⟨_, .non, rfl⟩⟩, rfl⟩
theorem ow_b {H : Hp} {b : Bool} : OddW K H (.bl b) := ⟨⟨.inr (.inr (.inl ⟨b, rfl⟩)), .inl ⟨_, .bl b, rfl⟩⟩, rfl⟩
theorem ow_i {H : Hp} {i : Int} : OddW K H (.int i) := ⟨⟨.inr (.inr (.inr (.inl ⟨i, rfl⟩))), .inl ⟨_, .int i, rfl⟩⟩, rfl⟩
theorem ow_t {H : Hp} {p : Addr} {xs : List V} {ds : List PyData} (h : H p = some (.tup xs)) (d : DpAll K H xs ds) (hs : SeqAt.shaped (.tuple ds) = true) : OddW K H (.ref p) := ⟨⟨.inr (.inr (.inr (.inr ⟨p, rfl, .inl ⟨xs, h⟩⟩))), .inl ⟨_, .tup (.inl (.inl h)) d, hs⟩⟩, rfl⟩
theorem ow_l {H : Hp} {p : Addr} {xs : List V} {ds : List PyData} (h : H p = some (.lst xs)) (d : DpAll K H xs ds) (hs : SeqAt.shaped (.list ds) = true) : OddW K H (.ref p) := ⟨⟨.inr (.inr (.inr (.inr ⟨p, rfl, .inr (.inl ⟨xs, h⟩)⟩))), .inl ⟨_, .lst (.inl (.inl h)) d, hs⟩⟩, rfl⟩
theorem ow_d {H : Hp} {p : Addr} {nms : List Str} (g : Str → V) (gd : Str → PyData) (h : H p = some (.dK (kvZ g nms))) (hz : ∀ z ∈ nms, Dp K H (g z) (gd z) ∧ (gd z).canLay0 = true ∧ (gd z).depth ≤ 3) : OddW K H (.ref p) := ⟨⟨.inr (.inr (.inr (.inr ⟨p, rfl, .inr (.inr ⟨_, h⟩)⟩))), .inr ⟨p, nms, g, gd, rfl, h, hz⟩⟩, rfl⟩
abbrev nw1 (t1 t2 l1 d1 l2 : Addr) : List V := [.non, .bl true, .bl false, .int 0, .int 7, .str "", .str "A", .str "aB", .str "a b", .str "a1", .str "abcdefghi", .str "a\n", .str "-", .ref t1, .ref t2, .ref l1, .ref d1, .ref l2]
abbrev nw2 (d2 t4 l4 : Addr) : List V := [.ref d2, .ref t4, .int ((10 : Int) ^ (30 : Int).toNat), .ref l4]
theorem ok_nowords (F : Fun K "_law_no_words" "_law_no_words" sNoWords f fd) : FnOk P w K mg base CX0 1 f fd [] (spNoWords K) := by
  refine F.ok scNoWords (fun vs H Q E h => ?_) (fun cdv A outer s H vs Q E hr h => ?_)
  · obtain ⟨rfl, _⟩ := h
    rfl
  · obtain ⟨rfl, q⟩ := h
    refine ⟨_, pss_cons (ps_set (i := 0) scNoWords.nd rfl (.inl rfl) (pe_lst (pa_cons pe_non (pa_cons pe_bl (pa_cons pe_bl (pa_cons pe_int (pa_cons pe_int (pa_cons pe_str (pa_cons pe_str (pa_cons pe_str (pa_cons pe_str (pa_cons pe_str (pa_cons pe_str (pa_cons pe_str (pa_cons pe_str (pa_cons (pe_tup pa_nil) (pa_cons (pe_tup (pa_cons pe_str pa_nil)) (pa_cons (pe_lst (pa_cons pe_str pa_nil)) (pa_cons pe_dnewK (pa_cons (pe_lst pa_nil) pa_nil))))))))))))))))))))
      (pss_one (ps_ret (pe_op op_cat (pv 0) (pe_lst (pa_cons (pe_disp (pps_cons pe_str pe_str pps_nil) rfl rfl (by simp) (by decide)) (pa_cons (pe_tup (pa_cons (pe_tup (pa_cons pe_str pa_nil)) pa_nil)) (pa_cons (pe_op op_pow pe_int pe_int) (pa_cons (pe_lst (pa_cons pe_str (pa_cons (pe_lst (pa_cons pe_str pa_nil)) pa_nil))) pa_nil)))))))), ?_⟩
    refine ⟨lz, fun t1 ht1 => ⟨lz, fun t2 ht2 => ⟨lz, fun l1 hl1 => fun d1 hd1 => ⟨lz, fun l2 hl2 => ⟨lz, fun p1 hp1 => ?_⟩⟩⟩⟩⟩
    have k6 := same_new (o := .lst (nw1 t1 t2 l1 d1 l2)) hp1
    have k5 := (same_new (o := .lst []) hl2).trans k6
    have k4 := (same_new (o := .dK []) hd1).trans k5
    have k3 := (same_new (o := .lst [.str "a"]) hl1).trans k4
    have k2 := (same_new (o := .tup [.str "a"]) ht2).trans k3
    have k1 := (same_new (o := .tup []) ht1).trans k2
    have o1 := k2 _ _ upd_same
    have o2 := k3 _ _ upd_same
    have o3 := k4 _ _ upd_same
    have o4 := k5 _ _ upd_same
    have o5 := k6 _ _ upd_same
    have o6 : upd (upd (upd (upd (upd (upd H t1 (.tup [])) t2 (.tup [.str "a"])) l1 (.lst [.str "a"])) d1 (.dK [])) l2 (.lst [])) p1 (.lst (nw1 t1 t2 l1 d1 l2)) p1 = some (.lst (nw1 t1 t2 l1 d1 l2)) := upd_same
    have n2 : H t2 = none := hq_of (same_new (o := .tup []) ht1) ht2
    have n3 : H l1 = none := hq_of ((same_new (o := .tup []) ht1).trans (same_new (o := .tup [.str "a"]) ht2)) hl1
    have n4 : H d1 = none := hq_of (((same_new (o := .tup []) ht1).trans (same_new (o := .tup [.str "a"]) ht2)).trans (same_new (o := .lst [.str "a"]) hl1)) hd1
    have n5 : H l2 = none := hq_of ((((same_new (o := .tup []) ht1).trans (same_new (o := .tup [.str "a"]) ht2)).trans (same_new (o := .lst [.str "a"]) hl1)).trans (same_new (o := .dK []) hd1)) hl2
    clear k2 k3 k4 k5 k6
    generalize upd (upd (upd (upd (upd (upd H t1 (.tup [])) t2 (.tup [.str "a"])) l1 (.lst [.str "a"])) d1 (.dK [])) l2 (.lst [])) p1 (.lst (nw1 t1 t2 l1 d1 l2)) = H1 at o1 o2 o3 o4 o5 o6 k1
    refine ⟨_, rfl, fun d2 hd2 => ⟨upd_same, [(.inr "a", .str "a")], rfl, by simp, lz, fun t3 ht3 => ⟨lz, fun t4 ht4 => ⟨10, 30, rfl, rfl, ⟨by decide, by decide, by decide⟩, lz, fun l3 hl3 => ⟨lz, fun l4 hl4 => ⟨lz, fun p2 hp2 => ?_⟩⟩⟩⟩⟩⟩
    have m7 := same_new (o := .lst (nw2 d2 t4 l4)) hp2
    have m6 := (same_new (o := .lst [.str "a", .ref l3]) hl4).trans m7
    have m5 := (same_new (o := .lst [.str "b"]) hl3).trans m6
    have m4 := (same_new (o := .tup [.ref t3]) ht4).trans m5
    have m3 := (same_new (o := .tup [.str "a"]) ht3).trans m4
    have m2 := (same_mut (o := .dK (mergeK [] [(.inr "a", .str "a")])) (same_new (o := .dK []) hd2) hd2).trans m3
    have b1 := m3 _ _ upd_same
    have b2 := m4 _ _ upd_same
    have b3 := m5 _ _ upd_same
    have b4 := m6 _ _ upd_same
    have b5 := m7 _ _ upd_same
    refine ⟨p1, p2, _, _, rfl, rfl, m2 _ _ o6, upd_same, lz, fun p hp => ?_⟩
    have n6 : H d2 = none := hq_of k1 hd2
    have a1 := same_mut (o := .dK (mergeK [] [(.inr "a", .str "a")])) (same_new (o := .dK []) hd2) hd2
    have n9 : H t3 = none := hq_of (k1.trans a1) ht3
    have n10 : H l3 = none := hq_of (k1.trans (a1.trans ((same_new (o := .tup [.str "a"]) ht3).trans (same_new (o := .tup [.ref t3]) ht4)))) hl3
    have n7 : H t4 = none := hq_of (k1.trans (a1.trans (same_new (o := .tup [.str "a"]) ht3))) ht4
    have n8 : H l4 = none := hq_of (k1.trans (a1.trans ((same_new (o := .tup [.str "a"]) ht3).trans ((same_new (o := .tup [.ref t3]) ht4).trans (same_new (o := .lst [.str "b"]) hl3))))) hl4
    have sp := same_new (o := .lst (nw1 t1 t2 l1 d1 l2 ++ nw2 d2 t4 l4)) hp
    have c1 := new_at ht1 <| sp _ _ (m2 _ _ o1)
    have c2 := new_at n2 <| sp _ _ (m2 _ _ o2)
    have c3 := new_at n3 <| sp _ _ (m2 _ _ o3)
    have c4 := new_at n4 <| sp _ _ (m2 _ _ o4)
    have c5 := new_at n5 <| sp _ _ (m2 _ _ o5)
    have e1 := new_at n6 <| sp _ _ b1
    have e2 := new_at n9 <| sp _ _ b2
    have e3 := new_at n7 <| sp _ _ b3
    have e4 := new_at n10 <| sp _ _ b4
    have e5 := new_at n8 <| sp _ _ b5
    refine q p (nw1 t1 t2 l1 d1 l2 ++ nw2 d2 t4 l4) _ (k1.trans (m2.trans sp)) upd_same (hq_of (k1.trans m2) hp) rfl (fun v hv => ?_)
    rcases List.mem_append.mp hv with hv | hv
    · simp only [List.mem_cons, List.not_mem_nil, or_false] at hv
      rcases hv with rfl | rfl | rfl | rfl | rfl | rfl | rfl | rfl | rfl | rfl | rfl | rfl | rfl | rfl | rfl | rfl | rfl | rfl
      · exact ow_n
      · exact ow_b
      · exact ow_b
      · exact ow_i
      · exact ow_i
      · exact ow_s
      · exact ow_s
      · exact ow_s
      · exact ow_s
      · exact ow_s
      · exact ow_s
      · exact ow_s
      · exact ow_s
      · exact ow_t c1 .nil (by decide +kernel)
      · exact ow_t c2 (.cons (.str _) .nil) (by decide +kernel)
      · exact ow_l c3 (.cons (.str _) .nil) (by decide +kernel)
      · exact ow_d (nms := []) (fun _ => .non) (fun _ => .none) c4 (fun z hz => by cases hz)
      · exact ow_l c5 .nil (by decide +kernel)
    · simp only [List.mem_cons, List.not_mem_nil, or_false] at hv
      rcases hv with rfl | rfl | rfl | rfl
      · exact ow_d (nms := ["a"]) (fun _ => .str "a") (fun _ => .str "a") e1 (fun z hz => ⟨.str _, by decide +kernel, by decide +kernel⟩)
      · exact ow_t e3 (.cons (.tup (.inl (.inl e2)) (.cons (.str _) .nil)) .nil) (by decide +kernel)
      · exact ow_i
      · exact ow_l e5 (.cons (.str _) (.cons (.lst (.inl (.inl e4)) (.cons (.str _) .nil)) .nil)) (by decide +kernel)
end
end Wl

/-! Displays of things that G tells of, whatever they are, while I stands. -/
namespace Wl
open PySem PySem.Spec PyProof.Rows L2
/-- G and I bear a growing heap -/
def Grows (G : Hp → V → Prop) : Prop := ∀ (H H' : Hp) (v : V), G H v → Same H H' → G H' v
def GrowsH (I : Hp → Prop) : Prop := ∀ (H H' : Hp), I H → Same H H' → I H'
def Bld (σ : L2.St) (I : Hp → Prop) (G : Hp → V → Prop) (te : TE) : Prop := ∀ (H : Hp) (Q : VK), I H → (∀ v H', Same H H' → G H' v → Q v H') → te σ H Q
def BldA (σ : L2.St) (I : Hp → Prop) (G : Hp → V → Prop) (n : Nat) (ta : TA) : Prop := ∀ (H : Hp) (Q : List V → Hp → Prop), I H → (∀ vs H', Same H H' → vs.length = n → (∀ v ∈ vs, G H' v) → Q vs H') → ta σ H Q
section
variable {σ : L2.St} {I : Hp → Prop} {G : Hp → V → Prop} {te : TE} {ta : TA} {n : Nat}
theorem bld_nil : BldA σ I G 0 tNil := fun H Q _ q => q [] H (Same.refl H) rfl (fun v hv => by cases hv)
theorem bld_cons (gI : GrowsH I) (gG : Grows G) (h : Bld σ I G te) (k : BldA σ I G n ta) : BldA σ I G (n + 1) (tCons te ta) := fun H Q i q => h H _ i fun v H1 s1 g1 => k H1 _ (gI _ _ i s1) fun vs H2 s2 l2 g2 => q (v :: vs) H2 (s1.trans s2) (by rw [List.length_cons, l2]) (fun u hu => by
  rcases List.mem_cons.mp hu with rfl | hu
  · exact gG _ _ _ g1 s2
  · exact g2 u hu)
/-- a constant -/
theorem bld_c {v : V} (h : ∀ H, I H → G H v) : Bld σ I G (tC v) := fun H Q i q => q v H (Same.refl H) (h H i)
/-- a display of such, as a new list -/
theorem bld_lst (gG : Grows G) (h : BldA σ I G n ta) (hn : n ≤ 1000) {H : Hp} {Q : VK} (i : I H) (q : ∀ p vs H', Same H H' → H p = none → H' p = some (.lst vs) → vs.length = n → (∀ v ∈ vs, G H' v) → Q (.ref p) H') : tLst ta σ H Q :=
  h H _ i fun vs H1 s1 l1 g1 => ⟨lzl (by omega), fun p hp => q p vs _ (s1.trans (same_new hp)) (hq_of s1 hp) upd_same l1 fun v hv => gG _ _ _ (g1 v hv) (same_new hp)⟩
/-- xs + [..] -/
theorem bld_cat (gI : GrowsH I) (gG : Grows G) {i0 m : Nat} (h : BldA σ I G n ta) (hn : n + m ≤ 1000) {H : Hp} {Q : VK} {p : Addr} {xs : List V} (i : I H) (hσ : σ[i0]? = some (some (.ref p))) (hp : H p = some (.lst xs)) (hm : xs.length = m) (hg : ∀ v ∈ xs, G H v)
    (q : ∀ r vs H', Same H H' → H r = none → H' r = some (.lst vs) → vs.length = m + n → (∀ v ∈ vs, G H' v) → Q (.ref r) H') : tOp rCat (tVar i0) (tLst ta) σ H Q := by
  refine ⟨_, hσ, bld_lst (n := n) gG h (by omega) i fun r vs H1 s1 n1 e1 l1 g1 => ⟨p, r, xs, vs, rfl, rfl, s1 _ _ hp, e1, lzl (by omega), fun t ht => ?_⟩⟩
  refine q t (xs ++ vs) _ (s1.trans (same_new ht)) (hq_of s1 ht) upd_same (by rw [List.length_append, hm, l1]) fun v hv => ?_
  rcases List.mem_append.mp hv with hv | hv
  · exact gG _ _ _ (hg v hv) (s1.trans (same_new ht))
  · exact gG _ _ _ (g1 v hv) (same_new ht)
/-- what a display's parts are, all at once -/
def BldX (σ : L2.St) (I : Hp → Prop) (R : Hp → List V → Prop) (ta : TA) : Prop := ∀ (H : Hp) (Q : List V → Hp → Prop), I H → (∀ xs H', Same H H' → I H' → R H' xs → Q xs H') → ta σ H Q
theorem bldx_c {xs : List V} (h : ∀ (H : Hp) (Q : List V → Hp → Prop), Q xs H → ta σ H Q) : BldX σ I (fun _ ys => ys = xs) ta := fun H Q i q => h H Q (q xs H (Same.refl H) i rfl)
theorem bld_tup {R : Hp → List V → Prop} (ht : BldX σ I R ta) (hl : ∀ H xs, R H xs → xs.length ≤ 1000) (g : ∀ (H : Hp) (p : Addr) (xs : List V), I H → R H xs → H p = none → G (upd H p (.tup xs)) (.ref p)) : Bld σ I G (tTup ta) := fun H Q i q =>
  ht H _ i fun xs H1 s1 i1 r1 => ⟨lzl (hl _ _ r1), fun p hp => q (.ref p) _ (s1.trans (same_new hp)) (g H1 p xs i1 r1 hp)⟩
theorem bld_lstX {R : Hp → List V → Prop} (ht : BldX σ I R ta) (hl : ∀ H xs, R H xs → xs.length ≤ 1000) (g : ∀ (H : Hp) (p : Addr) (xs : List V), I H → R H xs → H p = none → G (upd H p (.lst xs)) (.ref p)) : Bld σ I G (tLst ta) := fun H Q i q =>
  ht H _ i fun xs H1 s1 i1 r1 => ⟨lzl (hl _ _ r1), fun p hp => q (.ref p) _ (s1.trans (same_new hp)) (g H1 p xs i1 r1 hp)⟩
end
end Wl

namespace Wl
open PySem PySem.Spec PyProof.Rows L2
abbrev sNoChg : Stmt := topS 54
section
variable {a : Addr} {σ : L2.St}
theorem purse_ne {H : Hp} {p : Addr} (h : PurseAt H a) (hp : H p = none) : p ≠ a := h.ne hp
theorem PurseAt.grows : GrowsH (fun H => PurseAt H a) := fun _ _ h s => h.same s
theorem NoChg.grows : Grows (fun H v => NoChg (hid a H) v) := fun _ _ _ h s => h.same (hid_x (sx s))
theorem hid_new {H : Hp} {p : Addr} {o : HO} (h : PurseAt H a) (hp : H p = none) : hid a (upd H p o) p = some o := hid_at upd_same (h.ne hp)
theorem nc_flat {H : Hp} {v : V} (h : OddV H v) (hr : ∀ p, v ≠ .ref p) : NoChg H v := ⟨h, fun p xs e => absurd e (hr p)⟩
theorem nc_tup {H : Hp} {p : Addr} {xs : List V} (h : H p = some (.tup xs)) (hl : xs.length ≤ 1000) (h3 : xs.length = 3 → ∃ x y z, xs = [x, y, z] ∧ OddV H x ∧ OddV H y ∧ OddV H z ∧ chB x y z = false) : NoChg H (.ref p) := by
  refine ⟨.inr (.inr (.inr (.inr ⟨p, rfl, .inl ⟨xs, h⟩⟩))), fun p' ys e hp => ?_⟩
  cases e
  rw [h] at hp
  cases hp
  exact ⟨hl, h3⟩
theorem nc_other {H : Hp} {p : Addr} {o : HO} (h : H p = some o) (ho : OddV H (.ref p)) (hn : ∀ xs, o ≠ .tup xs) : NoChg H (.ref p) := by
  refine ⟨ho, fun p' ys e hp => ?_⟩
  cases e
  rw [h] at hp
  exact absurd (Option.some.inj hp) (hn ys)
/-- three constants -/
theorem nc3 {x y z : V} (ox : ∀ H, OddV H x) (oy : ∀ H, OddV H y) (oz : ∀ H, OddV H z) (hc : chB x y z = false) : Bld σ (fun H => PurseAt H a) (fun H v => NoChg (hid a H) v) (tTup (tCons (tC x) (tCons (tC y) (tCons (tC z) tNil)))) :=
  bld_tup (bldx_c (xs := [x, y, z]) fun _ _ q => q) (fun _ xs e => by subst e; show 3 ≤ 1000; omega) fun H p xs i e hp => by
    subst e
    exact nc_tup (hid_new i hp) (by show 3 ≤ 1000; omega) fun _ => ⟨x, y, z, rfl, ox _, oy _, oz _, hc⟩
theorem ncN {xs : List V} {ta : TA} (h : ∀ (H : Hp) (Q : List V → Hp → Prop), Q xs H → ta σ H Q) (hl : xs.length ≤ 1000) (hn : xs.length ≠ 3) : Bld σ (fun H => PurseAt H a) (fun H v => NoChg (hid a H) v) (tTup ta) :=
  bld_tup (bldx_c h) (fun _ ys e => by subst e; exact hl) fun H p ys i e hp => by
    subst e
    exact nc_tup (hid_new i hp) hl fun e => absurd e hn
theorem ncL {xs : List V} {ta : TA} (h : ∀ (H : Hp) (Q : List V → Hp → Prop), Q xs H → ta σ H Q) (hl : xs.length ≤ 1000) : Bld σ (fun H => PurseAt H a) (fun H v => NoChg (hid a H) v) (tLst ta) :=
  bld_lstX (bldx_c h) (fun _ ys e => by subst e; exact hl) fun H p ys i e hp => by
    subst e
    exact nc_other (hid_new i hp) (.inr (.inr (.inr (.inr ⟨p, rfl, .inr (.inl ⟨_, hid_new i hp⟩)⟩)))) fun xs => by intro z; cases z
theorem ncC {v : V} (o : ∀ H, OddV H v) (hr : ∀ p, v ≠ .ref p) : Bld σ (fun H => PurseAt H a) (fun H v => NoChg (hid a H) v) (tC v) := bld_c fun H _ => nc_flat (o _) hr
theorem odS {z : Str} (h : Nat.ble z.length 1000 = true := by decide +kernel) : ∀ H, OddV H (.str z) := fun _ => .inl ⟨z, rfl, Nat.le_of_ble_eq_true h⟩
theorem odN : ∀ H, OddV H .non := fun _ => .inr (.inl rfl)
theorem odB {b : Bool} : ∀ H, OddV H (.bl b) := fun _ => .inr (.inr (.inl ⟨b, rfl⟩))
theorem odI {i : Int} : ∀ H, OddV H (.int i) := fun _ => .inr (.inr (.inr (.inl ⟨i, rfl⟩)))
theorem ncz : Bld σ (fun H => PurseAt H a) (fun H v => NoChg (hid a H) v) (tTup (tCons (tC (.str "a")) (tCons (tC (.str "b")) (tCons (tLst (tCons (tC (.str "any")) tNil)) tNil)))) :=
  bld_tup (R := fun H xs => ∃ l, xs = [.str "a", .str "b", .ref l] ∧ hid a H l = some (.lst [.str "any"])) (fun H Q i q => ⟨by decide, fun l hl => q _ _ (same_new hl) (i.same (same_new hl)) ⟨l, rfl, hid_new i hl⟩⟩) (fun _ xs ⟨_, e, _⟩ => by subst e; show 3 ≤ 1000; omega) fun H p xs i ⟨l, e, hl⟩ hp => by
    subst e
    exact nc_tup (hid_new i hp) (by show 3 ≤ 1000; omega) fun _ => ⟨_, _, _, rfl, (odS (by decide +kernel) _), (odS (by decide +kernel) _), .inr (.inr (.inr (.inr ⟨l, rfl, .inr (.inl ⟨_, hid_x (sx (same_new hp)) _ _ hl⟩)⟩))), rfl⟩
theorem ncx : Bld σ (fun H => PurseAt H a) (fun H v => NoChg (hid a H) v) (tTup (tCons (tLst (tCons (tC (.str "a")) tNil)) (tCons (tC (.str "b")) (tCons (tC (.str "any")) tNil)))) :=
  bld_tup (R := fun H xs => ∃ l, xs = [.ref l, .str "b", .str "any"] ∧ hid a H l = some (.lst [.str "a"])) (fun H Q i q => ⟨by decide, fun l hl => q _ _ (same_new hl) (i.same (same_new hl)) ⟨l, rfl, hid_new i hl⟩⟩) (fun _ xs ⟨_, e, _⟩ => by subst e; show 3 ≤ 1000; omega) fun H p xs i ⟨l, e, hl⟩ hp => by
    subst e
    exact nc_tup (hid_new i hp) (by show 3 ≤ 1000; omega) fun _ => ⟨_, _, _, rfl, .inr (.inr (.inr (.inr ⟨l, rfl, .inr (.inl ⟨_, hid_x (sx (same_new hp)) _ _ hl⟩)⟩))), (odS (by decide +kernel) _), (odS (by decide +kernel) _), rfl⟩
theorem ncd : Bld σ (fun H => PurseAt H a) (fun H v => NoChg (hid a H) v) tDNewK := fun H Q i q d hd => q (.ref d) _ (same_new hd) (nc_other (hid_new i hd) (.inr (.inr (.inr (.inr ⟨d, rfl, .inr (.inr ⟨_, hid_new i hd⟩)⟩)))) fun xs => by intro z; cases z)
theorem ncy : Bld σ (fun H => PurseAt H a) (fun H v => NoChg (hid a H) v) (tTup (tCons tDNewK (tCons (tC (.str "b")) (tCons (tC (.str "any")) tNil)))) :=
  bld_tup (R := fun H xs => ∃ l, xs = [.ref l, .str "b", .str "any"] ∧ hid a H l = some (.dK [])) (fun H Q i q d hd => q _ _ (same_new hd) (i.same (same_new hd)) ⟨d, rfl, hid_new i hd⟩) (fun _ xs ⟨_, e, _⟩ => by subst e; show 3 ≤ 1000; omega) fun H p xs i ⟨l, e, hl⟩ hp => by
    subst e
    exact nc_tup (hid_new i hp) (by show 3 ≤ 1000; omega) fun _ => ⟨_, _, _, rfl, .inr (.inr (.inr (.inr ⟨l, rfl, .inr (.inr ⟨_, hid_x (sx (same_new hp)) _ _ hl⟩)⟩))), (odS (by decide +kernel) _), (odS (by decide +kernel) _), rfl⟩
end
section
variable {P : Program} {w : World} {K : PySem.W.Frag} {mg : Str → Option Value} {base : Heap} {f : Addr} {fd : FuncData}
def spNoChg : Sp := fun vs H Q _ => ∃ a, vs = [.ref a] ∧ PurseAt H a ∧ ∀ v H', SameX a H H' → PurseAt H' a → NoChg (hid a H') v → Q v H'
theorem scNoChg : FnScope ["_law_purse_here", "_law_some"] ["_law_purse_here"] (defScope sNoChg) := ⟨rfl, rfl, rfl, by decide +kernel, rfl, by decide +kernel, by decide +kernel⟩
theorem ok_nochg (F : Fun K "_law_no_change" "_law_no_change" sNoChg f fd) (B : Bi mg) (hP : Has P w K mg base "_law_pick" 1 ["_law_purse_here", "_law_many"] spPick) : FnOk P w K mg base CX0 2 f fd ["_law_purse_here"] spNoChg := by
  refine F.ok scNoChg (fun vs H Q E h => ?_) (fun cdv A outer s H vs Q E hr h => ?_)
  · obtain ⟨a, rfl, _⟩ := h
    rfl
  · obtain ⟨a, rfl, hA, q⟩ := h
    have t3 : ∀ {X : Cx} {j1 j2 j3 : Nat} {x y z : Str} {p1 p2 p3 p : Pos} {k : Nat}, PE X (.Tuple [.Constant (.str x) j1 p1, .Constant (.str y) j2 p2, .Constant (.str z) j3 p3] k p) (tTup (tCons (tC (.str x)) (tCons (tC (.str y)) (tCons (tC (.str z)) tNil)))) := fun {X j1 j2 j3 x y z p1 p2 p3 p k} => pe_tup (pa_cons pe_str (pa_cons pe_str (pa_cons pe_str pa_nil)))
    refine ⟨_, pss_cons (ps_set (i := 1) scNoChg.nd rfl (.inl rfl) (pe_lst (pa_cons t3 (pa_cons (pe_tup (pa_cons pe_str (pa_cons pe_str pa_nil))) (pa_cons t3 (pa_cons t3 (pa_cons t3 pa_nil)))))))
      (pss_cons (ps_set (i := 1) scNoChg.nd rfl (.inl rfl) (pe_op op_cat (pv 1) (pe_lst (pa_cons t3 pa_nil))))
      (pss_cons (ps_set (i := 1) scNoChg.nd rfl (.inl rfl) (pe_op op_cat (pv 1) (pe_lst (pa_cons (pe_lst (pa_cons pe_str (pa_cons pe_str (pa_cons pe_str pa_nil)))) (pa_cons (pe_tup (pa_cons pe_str (pa_cons pe_str (pa_cons (pe_lst (pa_cons pe_str pa_nil)) pa_nil)))) (pa_cons (pe_tup (pa_cons (pe_lst (pa_cons pe_str pa_nil)) (pa_cons pe_str (pa_cons pe_str pa_nil)))) (pa_cons (pe_tup (pa_cons pe_non (pa_cons pe_str (pa_cons pe_str pa_nil)))) pa_nil)))))))
      (pss_cons (ps_set (i := 1) scNoChg.nd rfl (.inl rfl) (pe_op op_cat (pv 1) (pe_lst (pa_cons t3 pa_nil))))
      (pss_cons (ps_set (i := 1) scNoChg.nd rfl (.inl rfl) (pe_op op_cat (pv 1) (pe_lst (pa_cons (pe_tup (pa_cons pe_str (pa_cons pe_str (pa_cons pe_str (pa_cons pe_str pa_nil))))) (pa_cons pe_str (pa_cons (pe_tup (pa_cons pe_str (pa_cons pe_str (pa_cons pe_non pa_nil)))) (pa_cons (pe_tup (pa_cons pe_str (pa_cons pe_str (pa_cons pe_bl pa_nil)))) (pa_cons (pe_tup (pa_cons pe_int (pa_cons pe_int (pa_cons pe_str pa_nil)))) pa_nil))))))))
      (pss_cons (ps_set (i := 1) scNoChg.nd rfl (.inl rfl) (pe_op op_cat (pv 1) (pe_lst (pa_cons (pe_tup (pa_cons pe_str (pa_cons pe_str (pa_cons pe_int pa_nil)))) (pa_cons pe_dnewK pa_nil)))))
      (pss_cons (ps_set (i := 1) scNoChg.nd rfl (.inl rfl) (pe_op op_cat (pv 1) (pe_lst (pa_cons pe_non (pa_cons pe_bl (pa_cons (pe_tup pa_nil) (pa_cons (pe_tup (pa_cons pe_str pa_nil)) (pa_cons t3 (pa_cons t3 (pa_cons t3 (pa_cons (pe_lst pa_nil) pa_nil)))))))))))
      (pss_cons (ps_set (i := 1) scNoChg.nd rfl (.inl rfl) (pe_op op_cat (pv 1) (pe_lst (pa_cons (pe_tup (pa_cons pe_dnewK (pa_cons pe_str (pa_cons pe_str pa_nil)))) pa_nil))))
      (pss_one (ps_ret (pe_ix ix_list (pv 1) (pe_h hP hr (pa_cons (pv 0) (pa_cons (pe_callB call_len_seq (by rfl) B.len PySem.boot_len (pa_cons (pv 1) pa_nil)) pa_nil))) (fun _ _ => rfl))))))))))), ?_⟩
    have gI : GrowsH (fun H => PurseAt H a) := PurseAt.grows
    have gG : Grows (fun H v => NoChg (hid a H) v) := NoChg.grows
    have c0 : ∀ σ : L2.St, BldA σ (fun H => PurseAt H a) (fun H v => NoChg (hid a H) v) 5 (tCons (tTup (tCons (tC (.str "a")) (tCons (tC (.str "a")) (tCons (tC (.str "any")) tNil)))) (tCons (tTup (tCons (tC (.str "a")) (tCons (tC (.str "b")) tNil))) (tCons (tTup (tCons (tC (.str "a")) (tCons (tC (.str "b")) (tCons (tC (.str "mid")) tNil)))) (tCons (tTup (tCons (tC (.str "ab")) (tCons (tC (.str "b")) (tCons (tC (.str "any")) tNil)))) (tCons (tTup (tCons (tC (.str "a")) (tCons (tC (.str "bc")) (tCons (tC (.str "any")) tNil)))) tNil))))) := fun σ => (bld_cons gI gG (nc3 (x := .str "a") (y := .str "a") (z := .str "any") odS odS odS (by decide +kernel)) (bld_cons gI gG (ncN (xs := [.str "a", .str "b"]) (fun _ _ q => q) (by decide) (by decide)) (bld_cons gI gG (nc3 (x := .str "a") (y := .str "b") (z := .str "mid") odS odS odS (by decide +kernel)) (bld_cons gI gG (nc3 (x := .str "ab") (y := .str "b") (z := .str "any") odS odS odS (by decide +kernel)) (bld_cons gI gG (nc3 (x := .str "a") (y := .str "bc") (z := .str "any") odS odS odS (by decide +kernel)) bld_nil)))))
    have c1 : ∀ σ : L2.St, BldA σ (fun H => PurseAt H a) (fun H v => NoChg (hid a H) v) 1 (tCons (tTup (tCons (tC (.str "A")) (tCons (tC (.str "b")) (tCons (tC (.str "any")) tNil)))) tNil) := fun σ => (bld_cons gI gG (nc3 (x := .str "A") (y := .str "b") (z := .str "any") odS odS odS (by decide +kernel)) bld_nil)
    have c2 : ∀ σ : L2.St, BldA σ (fun H => PurseAt H a) (fun H v => NoChg (hid a H) v) 4 (tCons (tLst (tCons (tC (.str "a")) (tCons (tC (.str "b")) (tCons (tC (.str "any")) tNil)))) (tCons (tTup (tCons (tC (.str "a")) (tCons (tC (.str "b")) (tCons (tLst (tCons (tC (.str "any")) tNil)) tNil)))) (tCons (tTup (tCons (tLst (tCons (tC (.str "a")) tNil)) (tCons (tC (.str "b")) (tCons (tC (.str "any")) tNil)))) (tCons (tTup (tCons (tC .non) (tCons (tC (.str "b")) (tCons (tC (.str "any")) tNil)))) tNil)))) := fun σ => (bld_cons gI gG (ncL (xs := [.str "a", .str "b", .str "any"]) (fun _ _ q => q) (by decide)) (bld_cons gI gG ncz (bld_cons gI gG ncx (bld_cons gI gG (nc3 (x := .non) (y := .str "b") (z := .str "any") odN odS odS (by decide +kernel)) bld_nil))))
    have c3 : ∀ σ : L2.St, BldA σ (fun H => PurseAt H a) (fun H v => NoChg (hid a H) v) 1 (tCons (tTup (tCons (tC (.str "a")) (tCons (tC (.str "")) (tCons (tC (.str "first")) tNil)))) tNil) := fun σ => (bld_cons gI gG (nc3 (x := .str "a") (y := .str "") (z := .str "first") odS odS odS (by decide +kernel)) bld_nil)
    have c4 : ∀ σ : L2.St, BldA σ (fun H => PurseAt H a) (fun H v => NoChg (hid a H) v) 5 (tCons (tTup (tCons (tC (.str "a")) (tCons (tC (.str "b")) (tCons (tC (.str "any")) (tCons (tC (.str "any")) tNil))))) (tCons (tC (.str "abc")) (tCons (tTup (tCons (tC (.str "a")) (tCons (tC (.str "b")) (tCons (tC .non) tNil)))) (tCons (tTup (tCons (tC (.str "a")) (tCons (tC (.str "b")) (tCons (tC (.bl true)) tNil)))) (tCons (tTup (tCons (tC (.int 1)) (tCons (tC (.int 2)) (tCons (tC (.str "any")) tNil)))) tNil))))) := fun σ => (bld_cons gI gG (ncN (xs := [.str "a", .str "b", .str "any", .str "any"]) (fun _ _ q => q) (by decide) (by decide)) (bld_cons gI gG (ncC odS (fun p e => nomatch e)) (bld_cons gI gG (nc3 (x := .str "a") (y := .str "b") (z := .non) odS odS odN (by decide +kernel)) (bld_cons gI gG (nc3 (x := .str "a") (y := .str "b") (z := .bl true) odS odS odB (by decide +kernel)) (bld_cons gI gG (nc3 (x := .int 1) (y := .int 2) (z := .str "any") odI odI odS (by decide +kernel)) bld_nil)))))
    have c5 : ∀ σ : L2.St, BldA σ (fun H => PurseAt H a) (fun H v => NoChg (hid a H) v) 2 (tCons (tTup (tCons (tC (.str "a")) (tCons (tC (.str "b")) (tCons (tC (.int 0)) tNil)))) (tCons tDNewK tNil)) := fun σ => (bld_cons gI gG (nc3 (x := .str "a") (y := .str "b") (z := .int 0) odS odS odI (by decide +kernel)) (bld_cons gI gG ncd bld_nil))
    have c6 : ∀ σ : L2.St, BldA σ (fun H => PurseAt H a) (fun H v => NoChg (hid a H) v) 8 (tCons (tC .non) (tCons (tC (.bl true)) (tCons (tTup tNil) (tCons (tTup (tCons (tC (.str "a")) tNil)) (tCons (tTup (tCons (tC (.str "any")) (tCons (tC (.str "a")) (tCons (tC (.str "b")) tNil)))) (tCons (tTup (tCons (tC (.str "a")) (tCons (tC (.str "b")) (tCons (tC (.str "First")) tNil)))) (tCons (tTup (tCons (tC (.str "a")) (tCons (tC (.str "b")) (tCons (tC (.str "last ")) tNil)))) (tCons (tLst tNil) tNil)))))))) := fun σ => (bld_cons gI gG (ncC odN (fun p e => nomatch e)) (bld_cons gI gG (ncC odB (fun p e => nomatch e)) (bld_cons gI gG (ncN (xs := []) (fun _ _ q => q) (by decide) (by decide)) (bld_cons gI gG (ncN (xs := [.str "a"]) (fun _ _ q => q) (by decide) (by decide)) (bld_cons gI gG (nc3 (x := .str "any") (y := .str "a") (z := .str "b") odS odS odS (by decide +kernel)) (bld_cons gI gG (nc3 (x := .str "a") (y := .str "b") (z := .str "First") odS odS odS (by decide +kernel)) (bld_cons gI gG (nc3 (x := .str "a") (y := .str "b") (z := .str "last ") odS odS odS (by decide +kernel)) (bld_cons gI gG (ncL (xs := []) (fun _ _ q => q) (by decide)) bld_nil))))))))
    have c7 : ∀ σ : L2.St, BldA σ (fun H => PurseAt H a) (fun H v => NoChg (hid a H) v) 1 (tCons (tTup (tCons tDNewK (tCons (tC (.str "b")) (tCons (tC (.str "any")) tNil)))) tNil) := fun σ => (bld_cons gI gG ncy bld_nil)
    dsimp only [tSeq, tAsg]
    refine bld_lst gG (c0 _) (by decide) hA fun p0 x0 H0 s0 n0 e0 l0 g0 => ?_
    have i0 := gI _ _ hA s0
    have S0 := s0
    try dsimp only [gName, tSeq, tAsg]
    refine bld_cat gI gG (i0 := 1) (c1 _) (m := 5) (by decide) i0 rfl e0 l0 g0 fun p1 x1 H1 s1 n1 e1 l1 g1 => ?_
    have i1 := gI _ _ i0 s1
    have S1 := S0.trans s1
    try dsimp only [gName, tSeq, tAsg]
    refine bld_cat gI gG (i0 := 1) (c2 _) (m := 6) (by decide) i1 rfl e1 l1 g1 fun p2 x2 H2 s2 n2 e2 l2 g2 => ?_
    have i2 := gI _ _ i1 s2
    have S2 := S1.trans s2
    try dsimp only [gName, tSeq, tAsg]
    refine bld_cat gI gG (i0 := 1) (c3 _) (m := 10) (by decide) i2 rfl e2 l2 g2 fun p3 x3 H3 s3 n3 e3 l3 g3 => ?_
    have i3 := gI _ _ i2 s3
    have S3 := S2.trans s3
    try dsimp only [gName, tSeq, tAsg]
    refine bld_cat gI gG (i0 := 1) (c4 _) (m := 11) (by decide) i3 rfl e3 l3 g3 fun p4 x4 H4 s4 n4 e4 l4 g4 => ?_
    have i4 := gI _ _ i3 s4
    have S4 := S3.trans s4
    try dsimp only [gName, tSeq, tAsg]
    refine bld_cat gI gG (i0 := 1) (c5 _) (m := 16) (by decide) i4 rfl e4 l4 g4 fun p5 x5 H5 s5 n5 e5 l5 g5 => ?_
    have i5 := gI _ _ i4 s5
    have S5 := S4.trans s5
    try dsimp only [gName, tSeq, tAsg]
    refine bld_cat gI gG (i0 := 1) (c6 _) (m := 18) (by decide) i5 rfl e5 l5 g5 fun p6 x6 H6 s6 n6 e6 l6 g6 => ?_
    have i6 := gI _ _ i5 s6
    have S6 := S5.trans s6
    try dsimp only [gName, tSeq, tAsg]
    refine bld_cat gI gG (i0 := 1) (c7 _) (m := 26) (by decide) i6 rfl e6 l6 g6 fun p7 x7 H7 s7 n7 e7 l7 g7 => ?_
    have i7 := gI _ _ i6 s7
    have S7 := S6.trans s7
    have hl : x7.length = 27 := l7
    refine ⟨_, rfl, _, rfl, _, rfl, p7, _, rfl, .inl (.inl (.inl e7)), a, 27, by rw [hl]; rfl, i7, by decide, by decide, fun i H8 h0 h1 hp8 sx8 _ => ?_⟩
    obtain ⟨v, hv⟩ : ∃ v, x7[i.toNat]? = some v := ⟨_, List.getElem?_eq_getElem (by omega)⟩
    have e8 : H8 p7 = some (.lst x7) := sx8 _ _ (hA.ne (hq_of S6 n7)) e7
    have ei : (i.toNat : Int) = i := Int.toNat_of_nonneg h0
    refine ⟨p7, _, i, v, rfl, rfl, .inl (.inl e8), ?_, q v H8 ((sx S7).trans sx8) hp8 ((g7 v (List.mem_of_getElem? hv)).same (hid_x sx8))⟩
    rw [← ei]
    exact atI_nat hv
end
end Wl

/-! Slices and sums of tuples, whichever object they give. -/
namespace Wl
open PySem PySem.Spec PyProof.Rows L2
section
variable {K : PySem.W.Frag} {H : Hp} {Q : VK}
theorem slA_rd {a : Addr} {xs : List V} {lo hi : Option Int} (ha : H a = some (.tup xs)) (q : ∀ u H', Same H H' → H' u = some (.tup (cutV xs lo hi)) → Q (.ref u) H') : rSlA K (.ref a) lo hi H Q := by
  refine ⟨a, xs, rfl, .inl (.inl ha), fun w => q a H (Same.refl H) ?_, fun _ p hp => q p _ (same_new hp) upd_same⟩
  rw [ha]
  unfold cutV
  rw [w.1, w.2, List.drop_zero, Nat.sub_zero, List.take_length]
theorem catA_rd {a b : Addr} {xs ys : List V} (ha : H a = some (.tup xs)) (hb : H b = some (.tup ys)) (hl : xs.length + ys.length ≤ 1000) (q : ∀ u H', Same H H' → H' u = some (.tup (xs ++ ys)) → Q (.ref u) H') : rCatA K (.ref a) (.ref b) H Q := by
  refine ⟨a, b, xs, ys, rfl, rfl, .inl (.inl ha), .inl (.inl hb), lzl hl, fun e => ?_, fun _ e => ?_, fun _ _ p hp => q p _ (same_new hp) upd_same⟩
  · subst e
    exact q b H (Same.refl H) hb
  · subst e
    exact q a H (Same.refl H) (by rw [List.append_nil]; exact ha)
theorem cutA_to (xs : List V) (c : Nat) : cutV xs none (some (c : Int)) = xs.take c := by
  unfold cutV
  rw [HT.sIx_none, HT.sIx_nat, List.drop_zero, Nat.sub_zero]
  by_cases h : c ≤ xs.length
  · rw [Nat.min_eq_left h]
  · rw [Nat.min_eq_right (by omega), List.take_length, List.take_of_length_le (by omega)]
theorem cutA_from (xs : List V) (c : Nat) : cutV xs (some (c : Int)) none = xs.drop c := by
  unfold cutV
  rw [HT.sIx_none, HT.sIx_nat]
  by_cases h : c ≤ xs.length
  · rw [Nat.min_eq_left h, List.take_of_length_le (by rw [List.length_drop]; omega)]
  · rw [Nat.min_eq_right (by omega), List.drop_length, List.drop_of_length_le (by omega), List.take_nil]
end
end Wl

namespace Wl
open PySem PySem.Spec PyProof.Rows L2
abbrev sNoChs : Stmt := topS 55
section
variable {a S : Addr} {xs0 : List V}
theorem NoChs.grows {o : Option Nat} : Grows (fun H v => NoChs (hid a H) v o) := fun _ _ _ h s => h.same (hid_x (sx s))
/-- the purse, the tuple of changes -/
abbrev IPS (a S : Addr) (xs0 : List V) : Hp → Prop := fun H => PurseAt H a ∧ H S = some (.tup xs0)
theorem ips_grows : GrowsH (IPS a S xs0) := fun _ _ h s => ⟨h.1.same s, s _ _ h.2⟩
theorem no_flat {v : V} {H : Hp} (h : OddV H v) (hn : v ≠ .non) (hr : ∀ p, v ≠ .ref p) : NoChs H v none := ⟨h, hn, fun p xs e => absurd e (hr p)⟩
theorem no_obj {p : Addr} {o : HO} {H : Hp} (h : H p = some o) (ho : OddV H (.ref p)) (hn : ∀ xs, o = .tup xs → 12 < xs.length) : NoChs H (.ref p) none := by
  refine ⟨ho, (fun e => nomatch e), fun p' xs e hp => ?_⟩
  cases e
  rw [h] at hp
  exact hn xs (Option.some.inj hp)
end
abbrev nNoChs : List Str := ["_law_purse_here", "_law_some", "_law_at", "_law_way", "_law_odd"]
theorem scNoChs : FnScope nNoChs ["_law_purse_here", "_law_some"] (defScope sNoChs) := ⟨rfl, rfl, rfl, by decide +kernel, rfl, by decide +kernel, by decide +kernel⟩
def spNoChs : Sp := fun vs H Q _ => ∃ (a S : Addr) (chs : List Chg), vs = [.ref a, .ref S] ∧ PurseAt H a ∧ ChAt H S chs ∧ (∀ ch ∈ chs, OkC ch) ∧ chs.length ≤ 5 ∧
  ∀ (p : Addr) (v : V) (o : Option Nat) (H' : Hp), SameX a H H' → PurseAt H' a → H' p = some (.tup [v, plV o]) → NoChs (hid a H') v o → Q (.ref p) H'
section
variable {P : Program} {w : World} {K : PySem.W.Frag} {mg : Str → Option Value} {base : Heap} {f : Addr} {fd : FuncData}
theorem ok_nochs (F : Fun K "_law_no_changes" "_law_no_changes" sNoChs f fd) (B : Bi mg) (hP : Has P w K mg base "_law_pick" 1 ["_law_purse_here", "_law_many"] spPick) (hN : Has P w K mg base "_law_no_change" 2 ["_law_purse_here"] spNoChg) : FnOk P w K mg base CX0 3 f fd ["_law_purse_here", "_law_some"] spNoChs := by
  refine F.ok scNoChs (fun vs H Q E h => ?_) (fun cdv A outer s H vs Q E hr h => ?_)
  · obtain ⟨a, S, chs, rfl, _⟩ := h
    rfl
  · obtain ⟨a, S, chs, rfl, hA, hS, hok, hlen, q⟩ := h
    refine ⟨_, pss_cons (ps_set (i := 2) scNoChs.nd rfl (.inl rfl) (pe_h hP hr (pa_cons (pv 0) (pa_cons (pe_op op_add (pe_callB call_len_seq (by rfl) B.len PySem.boot_len (pa_cons (pv 1) pa_nil)) pe_int) pa_nil))))
      (pss_cons (ps_set (i := 3) scNoChs.nd rfl (.inl rfl) (pe_h hP hr (pa_cons (pv 0) (pa_cons pe_int pa_nil))))
      (pss_cons (ps_if (pt_cmpR op_gt (pv 3) pe_int (nomark _)) (pss_one (ps_ret (pe_tup (pa_cons (pe_op op_catA (pe_op op_catA (pe_slice sl_tupA (pv 1) po_none (po_some (pv 2))) (pe_tup (pa_cons (pe_h hN hr (pa_cons (pv 0) pa_nil)) pa_nil))) (pe_slice sl_tupA (pe_op op_catA (pv 1) (pe_tup (pa_cons (pe_h hN hr (pa_cons (pv 0) pa_nil)) pa_nil))) (po_some (pv 2)) po_none)) (pa_cons (pv 2) pa_nil))))) pss_nil)
      (pss_cons (ps_set (i := 4) scNoChs.nd rfl (.inl rfl) (pe_lst (pa_cons pe_bl (pa_cons pe_bl (pa_cons pe_int (pa_cons pe_str (pa_cons pe_str (pa_cons (pe_lst pa_nil) (pa_cons (pe_callTy call_list_of (by rfl) B.list (by decide +kernel) (pa_cons (pv 1) pa_nil)) (pa_cons pe_dnewK (pa_cons (pe_op op_repT (pe_tup (pa_cons (pe_tup (pa_cons pe_str (pa_cons pe_str (pa_cons pe_str pa_nil)))) pa_nil)) pe_int) pa_nil)))))))))))
      (pss_cons (ps_set (i := 4) scNoChs.nd rfl (.inl rfl) (pe_op op_cat (pv 4) (pe_lst (pa_cons (pe_lst (pa_cons (pe_tup (pa_cons pe_str (pa_cons pe_str (pa_cons pe_str pa_nil)))) pa_nil)) (pa_cons pe_str pa_nil)))))
      (pss_one (ps_ret (pe_tup (pa_cons (pe_ix ix_list (pv 4) (pe_h hP hr (pa_cons (pv 0) (pa_cons pe_int pa_nil))) (fun _ _ => rfl)) (pa_cons pe_non pa_nil))))))))), ?_⟩
    obtain ⟨as, hSt, hE⟩ := hS
    have eal : (as.map V.ref).length = chs.length := by rw [List.length_map, hE.length]
    have nSa : S ≠ a := fun z => by
      obtain ⟨ys, hy⟩ := hA.lst
      rw [z, hy] at hSt
      cases hSt
    refine ⟨_, rfl, _, rfl, S, _, rfl, .inr (.inl (.inl hSt)), _, _, rfl, rfl, a, ((as.map V.ref).length : Int) + 1, rfl, hA, by omega, by omega, fun at_ H1 h0 h1 hA1 x1 _ => ?_⟩
    refine ⟨_, rfl, a, 4, rfl, hA1, by decide, by decide, fun way H2 _ _ hA2 x2 _ => ?_⟩
    have x12 := x1.trans x2
    have hS2 : H2 S = some (.tup (as.map V.ref)) := x12 _ _ nSa hSt
    obtain ⟨c, rfl⟩ : ∃ c : Nat, at_ = (c : Int) := ⟨at_.toNat, by omega⟩
    have hc : c ≤ (as.map V.ref).length := by omega
    refine ⟨_, rfl, _, _, rfl, rfl, _, rfl, ite_b (fun _ => ?_) (fun _ => ?_)⟩
    · refine ⟨_, rfl, _, rfl, _, rfl, slA_rd hS2 fun u1 H3 s3 hu1 => ⟨_, rfl, a, rfl, hA2.same s3, fun v1 H4 x4 hA4 nc1 => ⟨lz, fun t1 ht1 => ?_⟩⟩⟩
      rw [cutA_to] at hu1
      have n1 : u1 ≠ a := fun z => by
        obtain ⟨ys, hy⟩ := (hA2.same s3).lst
        rw [z, hy] at hu1
        cases hu1
      have hu1 := (same_new (o := .tup [v1]) ht1) _ _ (x4 _ _ n1 hu1)
      have hv1 : upd H4 t1 (.tup [v1]) t1 = some (.tup [v1]) := upd_same
      have hA5 := hA4.same (same_new (o := .tup [v1]) ht1)
      have x5 : SameX a H (upd H4 t1 (.tup [v1])) := x12.trans ((sx s3).trans (x4.trans (sx (same_new (o := .tup [v1]) ht1))))
      have nc1 := nc1.same (hid_x (sx (same_new (o := .tup [v1]) ht1)))
      generalize upd H4 t1 (.tup [v1]) = H5 at hu1 hv1 hA5 x5 nc1
      refine catA_rd hu1 hv1 (by rw [List.length_take]; simp only [List.length_singleton]; omega) fun u2 H6 s6 hu2 => ?_
      have hA6 := hA5.same s6
      have hS6 := s6 _ _ (x5 _ _ nSa hSt)
      refine ⟨_, rfl, _, rfl, a, rfl, hA6, fun v2 H7 x7 hA7 nc2 => ⟨lz, fun t2 ht2 => ?_⟩⟩
      have n2 : u2 ≠ a := fun z => by
        obtain ⟨ys, hy⟩ := hA6.lst
        rw [z, hy] at hu2
        cases hu2
      have y8 : SameX a H6 (upd H7 t2 (.tup [v2])) := x7.trans (sx (same_new (o := .tup [v2]) ht2))
      have hv2 : upd H7 t2 (.tup [v2]) t2 = some (.tup [v2]) := upd_same
      have hu2 := y8 _ _ n2 hu2
      have hS8 := y8 _ _ nSa hS6
      have hA8 := hA7.same (same_new (o := .tup [v2]) ht2)
      have x8 := (x5.trans (sx s6)).trans y8
      have nc1 := (nc1.same (hid_x (sx s6))).same (hid_x y8)
      generalize upd H7 t2 (.tup [v2]) = H8 at hv2 hu2 hS8 hA8 x8 nc1
      refine catA_rd hS8 hv2 (by simp only [List.length_singleton]; omega) fun u3 H9 s9 hu3 => ⟨_, rfl, _, rfl, ?_⟩
      dsimp only [tNoPart]
      refine slA_rd hu3 fun u4 Ha sa hu4 => ?_
      rw [cutA_from] at hu4
      have s9a := s9.trans sa
      refine catA_rd (s9a _ _ hu2) hu4 (by rw [List.length_append, List.length_take, List.length_drop, List.length_append]; simp only [List.length_singleton]; omega) fun u5 Hb sb hu5 => ?_
      have nu5 : u5 ≠ a := fun z => by
        obtain ⟨ys, hy⟩ := (hA8.same (s9a.trans sb)).lst
        rw [z, hy] at hu5
        cases hu5
      refine ⟨_, rfl, lz, fun p hp => ?_⟩
      have sT := (s9a.trans sb).trans (same_new (o := .tup [.ref u5, .int (c : Int)]) hp)
      refine q p (.ref u5) (some c) _ (x8.trans (sx sT)) (hA8.same sT) upd_same ?_
      have hu5 : upd Hb p (.tup [.ref u5, .int (c : Int)]) u5 = _ := (same_new hp) _ _ hu5
      refine ⟨u5, _, rfl, hid_at hu5 nu5, ?_, ?_, fun j hj => ?_, v1, ?_, nc1.same (hid_x (sx sT))⟩
      · rw [List.length_append, List.length_append, List.length_take, List.length_drop, List.length_append]
        simp only [List.length_singleton]
        omega
      · rw [List.length_append, List.length_append, List.length_take]
        simp only [List.length_singleton]
        omega
      · have hj2 : j < (as.map V.ref).length := by omega
        obtain ⟨r, hr⟩ : ∃ r, as[j]? = some r := ⟨_, List.getElem?_eq_getElem (by rw [List.length_map] at hj2; exact hj2)⟩
        obtain ⟨ch, hch, hH⟩ := hE.get hr
        refine ⟨r, ch, ?_, ?_, hok ch (List.mem_of_getElem? hch)⟩
        · rw [List.append_assoc, List.getElem?_append_left (by rw [List.length_take]; omega), List.getElem?_take_of_lt hj, List.getElem?_map, hr]
          rfl
        · have nr : r ≠ a := fun z => by
            obtain ⟨ys, hy⟩ := hA.lst
            rw [z, hy] at hH
            cases hH
          exact hid_at (sT _ _ (x8 _ _ nr hH)) nr
      · rw [List.append_assoc, List.getElem?_append_right (by rw [List.length_take]; omega), List.length_take, Nat.min_eq_left hc, Nat.sub_self]
        rfl
    · have gI := ips_grows (a := a) (S := S) (xs0 := as.map V.ref)
      have gG := NoChs.grows (a := a) (o := none)
      have b1 : ∀ σ : L2.St, σ[1]? = some (some (.ref S)) → BldA σ (IPS a S (as.map V.ref)) (fun H v => NoChs (hid a H) v none) 9 (tCons (tC (.bl false)) (tCons (tC (.bl true)) (tCons (tC (.int 0)) (tCons (tC (.str "any")) (tCons (tC (.str "")) (tCons (tLst tNil) (tCons (tCB (fun xs H Q => ∃ p ys, xs = [.ref p] ∧ (SqL K H p ys ∨ SqT K H p ys) ∧ ∀ l, H l = none → Q (.ref l) (upd H l (.lst ys))) (tCons (tVar 1) tNil)) (tCons tDNewK (tCons (tOp (rRepT K) (tTup (tCons (tTup (tCons (tC (.str "a")) (tCons (tC (.str "b")) (tCons (tC (.str "any")) tNil)))) tNil)) (tC (.int 13))) tNil))))))))) := by
        intro σ h1
        refine bld_cons gI gG (bld_c fun H _ => no_flat (odB _) (fun e => nomatch e) (fun p e => nomatch e)) (bld_cons gI gG (bld_c fun H _ => no_flat (odB _) (fun e => nomatch e) (fun p e => nomatch e)) (bld_cons gI gG (bld_c fun H _ => no_flat (odI _) (fun e => nomatch e) (fun p e => nomatch e)) (bld_cons gI gG (bld_c fun H _ => no_flat (odS (by decide +kernel) _) (fun e => nomatch e) (fun p e => nomatch e)) (bld_cons gI gG (bld_c fun H _ => no_flat (odS (by decide +kernel) _) (fun e => nomatch e) (fun p e => nomatch e)) (bld_cons gI gG ?_ (bld_cons gI gG ?_ (bld_cons gI gG ?_ (bld_cons gI gG ?_ bld_nil))))))))
        · intro H Q i q
          exact ⟨by decide, fun p hp => q (.ref p) _ (same_new hp) (no_obj (hid_new i.1 hp) (.inr (.inr (.inr (.inr ⟨p, rfl, .inr (.inl ⟨_, hid_new i.1 hp⟩)⟩)))) (fun xs e => by cases e))⟩
        · intro H Q i q
          exact ⟨_, h1, S, _, rfl, .inr (.inl (.inl i.2)), fun p hp => q (.ref p) _ (same_new hp) (no_obj (hid_new i.1 hp) (.inr (.inr (.inr (.inr ⟨p, rfl, .inr (.inl ⟨_, hid_new i.1 hp⟩)⟩)))) (fun xs e => by cases e))⟩
        · intro H Q i q
          exact fun p hp => q (.ref p) _ (same_new hp) (no_obj (hid_new i.1 hp) (.inr (.inr (.inr (.inr ⟨p, rfl, .inr (.inr ⟨_, hid_new i.1 hp⟩)⟩)))) (fun xs e => by cases e))
        · intro H Q i q
          refine ⟨by decide, fun t ht => ⟨lz, fun p hp => ⟨p, 13, _, rfl, rfl, .inl (.inl upd_same), by simp, by decide, by decide, by simp, fun r hr => ?_⟩⟩⟩
          have s1 := same_new (o := .tup [.str "a", .str "b", .str "any"]) ht
          have i2 := gI _ _ i (s1.trans (same_new (o := .tup [.ref t]) hp))
          exact q (.ref r) _ ((s1.trans (same_new (o := .tup [.ref t]) hp)).trans (same_new hr)) (no_obj (hid_new i2.1 hr) (.inr (.inr (.inr (.inr ⟨r, rfl, .inl ⟨_, hid_new i2.1 hr⟩⟩)))) (fun xs e => by cases e; rw [List.length_flatten]; simp))
      have b2 : ∀ σ : L2.St, BldA σ (IPS a S (as.map V.ref)) (fun H v => NoChs (hid a H) v none) 2 (tCons (tLst (tCons (tTup (tCons (tC (.str "a")) (tCons (tC (.str "b")) (tCons (tC (.str "any")) tNil)))) tNil)) (tCons (tC (.str "a b any")) tNil)) := by
        intro σ
        refine bld_cons gI gG ?_ (bld_cons gI gG (bld_c fun H _ => no_flat (odS (by decide +kernel) _) (fun e => nomatch e) (fun p e => nomatch e)) bld_nil)
        intro H Q i q
        refine ⟨by decide, fun t ht => ⟨lz, fun p hp => ?_⟩⟩
        have s1 := same_new (o := .tup [.str "a", .str "b", .str "any"]) ht
        have i2 := gI _ _ i s1
        exact q (.ref p) _ (s1.trans (same_new hp)) (no_obj (hid_new i2.1 hp) (.inr (.inr (.inr (.inr ⟨p, rfl, .inr (.inl ⟨_, hid_new i2.1 hp⟩)⟩)))) (fun xs e => by cases e))
      have i0 : IPS a S (as.map V.ref) H2 := ⟨hA2, hS2⟩
      dsimp only [tNext, tSeq, tAsg]
      refine bld_lst gG (b1 _ rfl) (by decide) i0 fun p0 y0 H3 s3 n3 e3 l3 g3 => ?_
      have i3 := gI _ _ i0 s3
      try dsimp only [gName, tSeq, tAsg]
      refine bld_cat gI gG (i0 := 4) (b2 _) (m := 9) (by decide) i3 rfl e3 l3 g3 fun p1 y1 H4 s4 n4 e4 l4 g4 => ?_
      have i4 := gI _ _ i3 s4
      have hl : y1.length = 11 := l4
      refine ⟨_, rfl, _, rfl, a, 11, rfl, i4.1, by decide, by decide, fun i H5 h0 h1 hp5 x5 _ => ?_⟩
      obtain ⟨v, hv⟩ : ∃ v, y1[i.toNat]? = some v := ⟨_, List.getElem?_eq_getElem (by omega)⟩
      have ei : (i.toNat : Int) = i := Int.toNat_of_nonneg h0
      have e5 : H5 p1 = some (.lst y1) := x5 _ _ (hA2.ne (hq_of s3 n4)) e4
      refine ⟨p1, _, i, v, rfl, rfl, .inl (.inl e5), by rw [← ei]; exact atI_nat hv, lz, fun p hp => ?_⟩
      exact q p v none _ ((x12.trans (sx (s3.trans s4))).trans (x5.trans (sx (same_new hp)))) (hp5.same (same_new hp)) upd_same ((g4 v (List.mem_of_getElem? hv)).same (hid_x (x5.trans (sx (same_new hp)))))
end
end Wl

namespace Wl
open PySem PySem.Spec PyProof.Rows L2
abbrev sChanges : Stmt := topS 48
end Wl
namespace Wl
open PySem PySem.Spec PyProof.Rows L2
theorem abcde_eq : ("abcde" : Str).cps.toList = List.range' 97 5 := by decide +kernel
theorem abcde_at {r : Int} (h0 : 0 ≤ r) (h : r < 5) : atI ("abcde" : Str).cps.toList r = some (97 + r.toNat) := by
  rw [abcde_eq]
  have e : r = ((r.toNat : Nat) : Int) := by omega
  rw [e]
  refine atI_nat ?_
  rw [List.getElem?_range' (by omega)]
  congr 1
  omega
theorem ChAt.X {H H' : Hp} {a S : Addr} {chs : List Chg} {ys : List V} (h : ChAt H S chs) (ha : H a = some (.lst ys)) (s : SameX a H H') : ChAt H' S chs :=
  h.keep fun p xs e => s p _ (ne_of e ha (by intro z; cases z)) e
theorem each_X {H H' : Hp} {a : Addr} {as : List Addr} {chs : List Chg} {ys : List V} (h : Each (fun (p : Addr) (ch : Chg) => H p = some (.tup (chV ch))) as chs) (ha : H a = some (.lst ys)) (s : SameX a H H') : Each (fun (p : Addr) (ch : Chg) => H' p = some (.tup (chV ch))) as chs :=
  h.mono fun p ch e => s p _ (ne_of e ha (by intro z; cases z)) e
section
variable {P : Program} {w : World} {K : PySem.W.Frag} {mg : Str → Option Value} {base : Heap} {f : Addr} {fd : FuncData}
def spChanges : Sp := fun vs H Q _ => ∃ (a : Addr) (m : Int), vs = [.ref a, .int m] ∧ PurseAt H a ∧ 0 ≤ m ∧ m ≤ 12 ∧ ∀ (S : Addr) (chs : List Chg) (H' : Hp), PurseAt H' a → SameX a H H' → ChAt H' S chs → OkCs chs → (chs.length : Int) ≤ m → Q (.ref S) H'
abbrev nChanges : List Str := ["_law_purse_here", "_law_most", "_law_found", "_law_k", "_law_one", "_law_wide", "_law_second", "_law_where"]
theorem scChanges : FnScope nChanges ["_law_purse_here", "_law_most"] (defScope sChanges) := ⟨rfl, rfl, rfl, by decide +kernel, rfl, by decide +kernel, by decide +kernel⟩
theorem ok_changes (F : Fun K "_law_changes" "_law_changes" sChanges f fd) (B : Bi mg) (hp : Has P w K mg base "_law_pick" 1 ["_law_purse_here", "_law_many"] spPick) : FnOk P w K mg base CX0 2 f fd ["_law_purse_here", "_law_most"] spChanges := by
  refine F.ok scChanges (fun vs H Q E h => ?_) (fun cdv A outer s H vs Q E hr h => ?_)
  · obtain ⟨a, m, rfl, _⟩ := h
    rfl
  · obtain ⟨a, m, rfl, hA, m0, m12, q⟩ := h
    refine ⟨_, pss_cons (ps_set (i := 2) scChanges.nd rfl (.inl rfl) (pe_lst pa_nil))
      (pss_cons (ps_for PassesOwn.never rfl (pi_range1 (by rfl) B.range (pa_cons (pe_h hp hr (pa_cons (pv 0) (pa_cons (pe_op op_add (pv 1) pe_int) pa_nil))) pa_nil)) (pg_name (i := 3) scChanges.nd rfl (.inl rfl))
        (pss_cons (ps_par (i := 4) (j := 5) (by rfl) scChanges.nd rfl rfl (by decide) rfl rfl (pa_cons (pe_h hp hr (pa_cons (pv 0) (pa_cons pe_int pa_nil))) (pa_cons (pe_h hp hr (pa_cons (pv 0) (pa_cons pe_int pa_nil))) pa_nil)) (by rfl))
        (pss_cons (ps_set (i := 6) scChanges.nd rfl (.inl rfl) (pe_op op_mod (pe_op op_add (pe_op op_add (pv 4) pe_int) (pv 5)) pe_int))
        (pss_cons (ps_set (i := 7) scChanges.nd rfl (.inl rfl) (pe_ix ix_list (pe_lst (pa_cons pe_str (pa_cons pe_str (pa_cons pe_str (pa_cons pe_str pa_nil))))) (pe_h hp hr (pa_cons (pv 0) (pa_cons pe_int pa_nil))) (fun _ _ => rfl)))
        (pss_one (ps_expr (pe_bm PySem.F.plainAttrs_list PySem.F.slot_list_append PySem.F.type_list_append mt_append (pv 2) (pa_cons (pe_tup (pa_cons (pe_ix ix_str pe_str (pv 4) (fun _ _ => rfl)) (pa_cons (pe_ix ix_str pe_str (pv 6) (fun _ _ => rfl)) (pa_cons (pv 7) pa_nil)))) pa_nil))))))))
      (pss_one (ps_ret (pe_callTy call_tuple_of (by rfl) B.tuple (by decide +kernel) (pa_cons (pv 2) pa_nil))))), ?_⟩
    refine ⟨lz, fun R hR => ?_⟩
    have nRa : R ≠ a := hA.ne hR
    refine ⟨_, rfl, _, rfl, _, _, rfl, rfl, a, m + 1, rfl, hA.same (same_new hR), by omega, by omega, fun r0 H1 r00 r01 hA1 s1 n1 => ?_⟩
    have hR1 := s1 _ _ nRa upd_same
    refine ⟨r0, rfl, by omega, by omega, for_it (walk_range (lo := 0) (n := r0.toNat)) (fun i σ H' => (∃ y3 y4 y5 y6 y7, σ = [some (.ref a), some (.int m), some (.ref R), y3, y4, y5, y6, y7]) ∧ PurseAt H' a ∧ SameX a H H' ∧ ∃ (as : List Addr) (chs : List Chg), H' R = some (.lst (as.map V.ref)) ∧ Each (fun (p : Addr) (ch : Chg) => H' p = some (.tup (chV ch))) as chs ∧ chs.length = i ∧ ∀ ch ∈ chs, OkC ch)
      ⟨⟨_, _, _, _, _, rfl⟩, hA1, (sx (same_new hR)).trans s1, [], [], hR1, .nil, rfl, fun ch hc => by cases hc⟩ (fun _ _ _ _ _ => trivial) ?_ ?_⟩
    · rintro i x σ Hq H2 hi ⟨⟨y3, y4, y5, y6, y7, rfl⟩, hA2, s2, as, chs, hR2, hE2, hl2, ok2⟩ ⟨rfl, rfl⟩
      refine ⟨_, rfl, a, 5, rfl, hA2, by decide, by decide, fun u H3 u0 u1 hA3 s3 n3 => ⟨_, rfl, a, 4, rfl, hA3, by decide, by decide, fun v H4 v0 v1 hA4 s4 n4 => ⟨_, _, rfl, ?_⟩⟩⟩
      refine ⟨_, rfl, _, _, rfl, rfl, _, rfl, _, _, rfl, rfl, _, _, rfl, rfl, (show (0 : Int) < 5 by decide), ?_⟩
      refine ⟨lz, fun p hpn => ⟨_, rfl, a, 4, rfl, hA4.same (same_new hpn), by decide, by decide, fun t H5 t0 t1 hA5 s5 n5 => ?_⟩⟩
      have npa := hA4.ne hpn
      obtain ⟨zw, hzm, hzi⟩ := atI_strs (zs := ["first", "last", "any", "any"]) t0 t1
      obtain ⟨wh, rfl⟩ : ∃ wh, zw = whS wh := by
        simp only [List.mem_cons, List.not_mem_nil, or_false] at hzm
        rcases hzm with rfl | rfl | rfl | rfl
        · exact ⟨.first, rfl⟩
        · exact ⟨.last, rfl⟩
        · exact ⟨.any, rfl⟩
        · exact ⟨.any, rfl⟩
      refine ⟨p, _, t, .str (whS wh), rfl, rfl, .inl (.inl (s5 _ _ npa upd_same)), hzi, ?_⟩
      have s25 : SameX a H2 H5 := (s3.trans s4).trans ((sx (same_new hpn)).trans s5)
      have hR5 := s25 _ _ nRa hR2
      obtain ⟨ya, hya⟩ := hA2.lst
      have hE5 := each_X hE2 hya s25
      have b0 : 0 ≤ (u + 1 + v) % 5 := Int.emod_nonneg _ (by decide)
      have b1 : (u + 1 + v) % 5 < 5 := Int.emod_lt_of_pos _ (by decide)
      refine ⟨_, rfl, .inl ⟨rfl, _, .inl (.inl hR5)⟩, ?_⟩
      refine ⟨_, rfl, ⟨_, u, _, rfl, rfl, lz, abcde_at u0 u1, _, rfl, _, _, _, rfl, rfl, lz, abcde_at b0 b1, _, rfl, lz, fun T hT => ?_⟩⟩
      refine ⟨R, _, _, rfl, rfl, (same_new hT) _ _ hR5, ?_, ⟨_, _, _, _, _, rfl⟩, ?_, ?_, as ++ [T], chs ++ [(97 + u.toNat, 97 + ((u + 1 + v) % 5).toNat, wh)], ?_, ?_, ?_, ?_⟩
      · rw [List.length_map, hE2.length]
        exact small1000 (by omega)
      · have hA6 := hA5.same (same_new (o := .tup [sgV (97 + u.toNat), sgV (97 + ((u + 1 + v) % 5).toNat), .str (whS wh)]) hT)
        obtain ⟨x0, x1, x2, hx, hx1⟩ := hA6
        exact ⟨x0, x1, x2, by rw [upd_ne nRa.symm]; exact hx, hx1⟩
      · exact sameX_mut ((s2.trans s25).trans (sx (same_new hT))) hR
      · rw [upd_same, List.map_append]
        rfl
      · have nTR : T ≠ R := (ne_of_none hR5 hT).symm
        refine Each.append (hE5.mono fun p ch e => ?_) (.cons ?_ .nil)
        · rw [upd_ne (ne_of e hR5 (by intro z; cases z))]
          exact (same_new hT) _ _ e
        · rw [upd_ne nTR, upd_same]
          rfl
      · rw [List.length_append, hl2]
        rfl
      · intro ch hch
        rcases List.mem_append.mp hch with hch | hch
        · exact ok2 ch hch
        · rw [List.mem_singleton] at hch
          subst hch
          refine ⟨?_, ?_, ?_⟩
          · show 97 ≤ 97 + u.toNat ∧ 97 + u.toNat ≤ 122
            omega
          · show 97 ≤ 97 + ((u + 1 + v) % 5).toNat ∧ 97 + ((u + 1 + v) % 5).toNat ≤ 122
            omega
          · show 97 + u.toNat ≠ 97 + ((u + 1 + v) % 5).toNat
            omega
    · rintro σ H2 ⟨⟨y3, y4, y5, y6, y7, rfl⟩, hA2, s2, as, chs, hR2, hE2, hl2, ok2⟩
      refine ⟨_, rfl, R, _, rfl, .inl ⟨.inl (.inl hR2), fun l hl => ?_⟩⟩
      refine q l chs _ (hA2.same (same_new hl)) (s2.trans (sx (same_new hl))) ⟨as, upd_same, hE2.mono fun p ch e => (same_new hl) _ _ e⟩ ⟨?_, ok2⟩ ?_
      · omega
      · omega
end
end Wl


namespace Wl
open PySem PySem.Spec PyProof.Rows L2
abbrev sRight : Stmt := topS 56
abbrev nRight : List Str := ["_law_purse_here", "_law_one", "_law_two", "_law_some", "_law_odds", "_law_odd", "_law_more", "_law_bad", "_law_at", "_law_way", "_law_asked", "_law_told_here"]
abbrev psRight : List Str := ["_law_purse_here", "_law_one", "_law_two", "_law_some"]
theorem scRight : FnScope nRight psRight (defScope sRight) := ⟨rfl, rfl, rfl, by decide +kernel, rfl, by decide +kernel, by decide +kernel⟩
def spRight : Sp := fun vs H Q _ => ∃ (a S : Addr) (z y : Str) (chs : List Chg), vs = [.ref a, .str z, .str y, .ref S] ∧ PurseAt H a ∧ IsWd z ∧ IsWd y ∧ ChAt H S chs ∧ OkCs chs ∧ chs.length ≤ 5 ∧ ∀ H', SameX a H H' → PurseAt H' a → Q (.bl true) H'
section
variable {P : Program} {w : World} {K : PySem.W.Frag} {mg : Str → Option Value} {base : Heap} {f : Addr} {fd : FuncData}
/-- _law_is(_law_told(way, x, y, v), nm, due): True -/
theorem is_told {way : Nat} {x y v u : V} {nm : Str} {b : Bool} {H : Hp} {R : VK} {σ : L2.St} {t1 t2 t3 t4 : TE} {n' : Str} (hw : way < 4) (hb : decide (way ≤ 1) = b) (hk : AskR H b x y v nm u) (hu : OddS K H u)
    (h1 : ∀ {Q : VK}, Q (.int way) H → t1 σ H Q) (h2 : ∀ {Q : VK}, Q x H → t2 σ H Q) (h3 : ∀ {Q : VK}, Q y H → t3 σ H Q) (h4 : ∀ {Q : VK}, Q v H → t4 σ H Q) (t5 : TE) (h5 : ∀ {Q : VK} {H'}, Q u H' → t5 σ H' Q) (hn : nm = n') (q : ∀ H', Same H H' → R (.bl true) H') :
    tCall (spIs K) [] E0 (tCons (tCall spTold [] E0 (tCons t1 (tCons t2 (tCons t3 (tCons t4 tNil))))) (tCons (tC (.str n')) (tCons t5 tNil))) σ H R := by
  subst hn
  refine h1 (h2 (h3 (h4 ⟨way, x, y, v, nm, u, rfl, hw, hb ▸ hk, fun p H' s hp => h5 ⟨p, nm, u, rfl, hp, hu.same s, q H' s⟩⟩)))
theorem tell_told {way : Nat} {x y v : V} {b : Bool} {H : Hp} {R : VK} {σ : L2.St} {t1 t2 t3 t4 : TE} (hw : way < 4) (hb : decide (way ≤ 1) = b) (hk : AskR H b x y v "told" .non)
    (h1 : ∀ {Q : VK}, Q (.int way) H → t1 σ H Q) (h2 : ∀ {Q : VK}, Q x H → t2 σ H Q) (h3 : ∀ {Q : VK}, Q y H → t3 σ H Q) (h4 : ∀ {Q : VK}, Q v H → t4 σ H Q) (q : ∀ H', Same H H' → R (.str "told") H') :
    tOp (rIxT K) (tCall spTold [] E0 (tCons t1 (tCons t2 (tCons t3 (tCons t4 tNil))))) (tC (.int 0)) σ H R :=
  h1 (h2 (h3 (h4 ⟨way, x, y, v, "told", .non, rfl, hw, hb ▸ hk, fun p H' s hp => ⟨p, _, 0, .str "told", rfl, rfl, .inl (.inl hp), atI_nat (j := 0) rfl, q H' s⟩⟩)))
theorem not_told {way : Nat} {x y v u : V} {nm : Str} {b : Bool} {H : Hp} {R : Bool → Hp → Prop} {σ : L2.St} {t1 t2 t3 t4 : TE} {n' : Str} (hw : way < 4) (hb : decide (way ≤ 1) = b) (hk : AskR H b x y v nm u) (hu : OddS K H u)
    (h1 : ∀ {Q : VK}, Q (.int way) H → t1 σ H Q) (h2 : ∀ {Q : VK}, Q x H → t2 σ H Q) (h3 : ∀ {Q : VK}, Q y H → t3 σ H Q) (h4 : ∀ {Q : VK}, Q v H → t4 σ H Q) (t5 : TE) (h5 : ∀ {Q : VK} {H'}, Q u H' → t5 σ H' Q) (hn : nm = n') (q : ∀ H', Same H H' → R false H') :
    tNot (tB (tCall (spIs K) [] E0 (tCons (tCall spTold [] E0 (tCons t1 (tCons t2 (tCons t3 (tCons t4 tNil))))) (tCons (tC (.str n')) (tCons t5 tNil))))) σ H R :=
  is_told (R := fun v H' => ∃ k, v = .bl k ∧ R (!k) H') hw hb hk hu h1 h2 h3 h4 t5 h5 hn fun H' s => ⟨true, rfl, q H' s⟩
theorem ne_told {way : Nat} {x y v : V} {b : Bool} {H : Hp} {R : Bool → Hp → Prop} {σ : L2.St} {t1 t2 t3 t4 : TE} (hw : way < 4) (hb : decide (way ≤ 1) = b) (hk : AskR H b x y v "told" .non)
    (h1 : ∀ {Q : VK}, Q (.int way) H → t1 σ H Q) (h2 : ∀ {Q : VK}, Q x H → t2 σ H Q) (h3 : ∀ {Q : VK}, Q y H → t3 σ H Q) (h4 : ∀ {Q : VK}, Q v H → t4 σ H Q) (q : ∀ H', Same H H' → R false H') :
    tTest (tOp rNe (tOp (rIxT K) (tCall spTold [] E0 (tCons t1 (tCons t2 (tCons t3 (tCons t4 tNil))))) (tC (.int 0))) (tC (.str "told"))) σ H R :=
  tell_told (R := fun v H' => tC (.str "told") σ H' fun u H2 => rNe v u H2 fun z H3 => ∃ k, z = .bl k ∧ R k H3) hw hb hk h1 h2 h3 h4 fun H' s => ⟨rfl, false, rfl, q H' s⟩
theorem ok_right (F : Fun K "_law_right" "_law_right" sRight f fd) (B : Bi mg) (hW : Has P w K mg base "_law_no_words" 1 [] (spNoWords K)) (hP : Has P w K mg base "_law_pick" 1 ["_law_purse_here", "_law_many"] spPick)
    (hN : Has P w K mg base "_law_no_changes" 3 ["_law_purse_here", "_law_some"] spNoChs) (hT : Has P w K mg base "_law_told" 7 psTold spTold) (hI : Has P w K mg base "_law_is" 2 ["_law_found", "_law_name", "_law_due"] (spIs K)) : FnOk P w K mg base CX0 8 f fd psRight spRight := by
  refine F.ok scRight (fun vs H Q E h => ?_) (fun cdv A outer s H vs Q E hr h => ?_)
  · obtain ⟨a, S, z, y, chs, rfl, _⟩ := h
    rfl
  · obtain ⟨a, S, z, y, chs, rfl, hA, hz, hy, hS, hok, hlen, q⟩ := h
    refine ⟨_, pss_cons (ps_set (i := 4) scRight.nd rfl (.inl rfl) (pe_h0 hW hr))
      (pss_cons (ps_asg (pe_tup (pa_cons (pe_ix ix_list (pv 4) (pe_h hP hr (pa_cons (pv 0) (pa_cons (pe_callB call_len_seq (by rfl) B.len PySem.boot_len (pa_cons (pv 4) pa_nil)) pa_nil))) (fun _ _ => rfl)) (pa_cons (pe_ix ix_list (pv 4) (pe_h hP hr (pa_cons (pv 0) (pa_cons (pe_callB call_len_seq (by rfl) B.len PySem.boot_len (pa_cons (pv 4) pa_nil)) pa_nil))) (fun _ _ => rfl)) pa_nil))) (pg_tup rfl (pgs_cons (pg_name (i := 5) scRight.nd rfl (.inr rfl)) (pgs_cons (pg_name (i := 6) scRight.nd rfl (.inl rfl)) pgs_nil))))
      (pss_cons (ps_asg (pe_h hN hr (pa_cons (pv 0) (pa_cons (pv 3) pa_nil))) (pg_tup rfl (pgs_cons (pg_name (i := 7) scRight.nd rfl (.inl rfl)) (pgs_cons (pg_name (i := 8) scRight.nd rfl (.inl rfl)) pgs_nil))))
      (pss_cons (ps_for PassesOwn.never rfl (pi_list (pe_lst (pa_cons pe_int (pa_cons pe_int (pa_cons pe_int pa_nil))))) (pg_name (i := 9) scRight.nd rfl (.inr rfl))
        (pss_cons (ps_set (i := 10) scRight.nd rfl (.inl rfl) (pe_lst (pa_cons (pe_tup (pa_cons (pv 5) (pa_cons (pv 6) (pa_cons (pv 7) pa_nil)))) (pa_cons (pe_tup (pa_cons (pv 5) (pa_cons (pv 2) (pa_cons (pv 3) pa_nil)))) (pa_cons (pe_tup (pa_cons (pv 1) (pa_cons (pv 5) (pa_cons (pv 7) pa_nil)))) (pa_cons (pe_tup (pa_cons (pv 1) (pa_cons (pv 5) (pa_cons (pv 3) pa_nil)))) pa_nil))))))
        (pss_cons (ps_if (pt_not (pt_val (pe_callB (cr_all rfl) (by rfl) B.all (by decide +kernel) (pa_cons (pe_lc (own := [("_law_told_here", 11)]) (g := gName 11) (tt := tYes) (te := tCall (spIs K) [] E0 (tCons (tCall spTold [] E0 (tCons (tVar 9) (tCons (tOp (rIxT K) (tVar 11) (tC (.int 0))) (tCons (tOp (rIxT K) (tVar 11) (tC (.int 1))) (tCons (tOp (rIxT K) (tVar 11) (tC (.int 2))) tNil))))) (tCons (tC (.str "word")) (tCons (tVar 5) tNil)))) rfl scRight.nd (pi_list (pv 10)) (blkOk_by (N := nRight) (sc := defScope sRight) (by decide +kernel)) (fun _ _ _ _ _ => pg_name (i := 11) scRight.nd rfl (.inl rfl)) (fun _ _ _ _ _ => pts_nil)
            (fun _ _ _ _ _ => pe_h hI hr (pa_cons (pe_h hT hr (pa_cons (pv 9) (pa_cons (pe_ix ix_tup (pv 11) pe_int (fun _ _ => rfl)) (pa_cons (pe_ix ix_tup (pv 11) pe_int (fun _ _ => rfl)) (pa_cons (pe_ix ix_tup (pv 11) pe_int (fun _ _ => rfl)) pa_nil))))) (pa_cons pe_str (pa_cons (pv 5) pa_nil))))) pa_nil)))) (pss_one ps_never) pss_nil)
        (pss_one (ps_if (PW.pt (pw_or (pt_not (pt_val (pe_h hI hr (pa_cons (pe_h hT hr (pa_cons (pv 9) (pa_cons (pv 1) (pa_cons (pv 2) (pa_cons (pv 7) pa_nil))))) (pa_cons pe_str (pa_cons (pv 8) pa_nil)))))) (pw_or1 (pt_cmpR op_ne (pe_ix ix_tup (pe_h hT hr (pa_cons (pv 9) (pa_cons (pv 1) (pa_cons (pv 2) (pa_cons (pv 3) pa_nil))))) pe_int (fun _ _ => rfl)) pe_str (nomark _))))) (pss_one ps_never) pss_nil)))))
      (pss_cons (ps_for PassesOwn.never rfl (pi_list (pe_lst (pa_cons pe_int (pa_cons pe_int (pa_cons pe_int pa_nil))))) (pg_name (i := 9) scRight.nd rfl (.inr rfl))
        (pss_cons (ps_if (pt_not (pt_val (pe_h hI hr (pa_cons (pe_h hT hr (pa_cons (pv 9) (pa_cons (pv 5) (pa_cons pe_non (pa_cons (pv 7) pa_nil))))) (pa_cons pe_str (pa_cons (pv 5) pa_nil)))))) (pss_one ps_never) pss_nil)
        (pss_cons (ps_if (pt_not (pt_val (pe_h hI hr (pa_cons (pe_h hT hr (pa_cons (pv 9) (pa_cons (pv 1) (pa_cons pe_non (pa_cons (pv 7) pa_nil))))) (pa_cons pe_str (pa_cons (pv 8) pa_nil)))))) (pss_one ps_never) pss_nil)
        (pss_one (ps_if (pt_cmpR op_ne (pe_ix ix_tup (pe_h hT hr (pa_cons (pv 9) (pa_cons (pv 1) (pa_cons pe_non (pa_cons (pv 3) pa_nil))))) pe_int (fun _ _ => rfl)) pe_str (nomark _)) (pss_one ps_never) pss_nil)))))
      (pss_one (ps_ret pe_bl)))))), ?_⟩
    refine ⟨rfl, fun p0 xs H0 s0 hp0 np0 hl0 hg0 => ?_⟩
    have hA0 := hA.same s0
    have np0a : p0 ≠ a := hA.ne np0
    -- odd, more
    refine ⟨_, rfl, _, rfl, _, rfl, p0, _, rfl, .inl (.inl (.inl hp0)), a, 22, by rw [hl0]; rfl, hA0, by decide, by decide, fun i1 H1 i10 i11 hA1 x1 n1 => ?_⟩
    obtain ⟨od, hod⟩ : ∃ v, xs[i1.toNat]? = some v := ⟨_, List.getElem?_eq_getElem (by omega)⟩
    have e1 : H1 p0 = some (.lst xs) := x1 _ _ np0a hp0
    have ei1 : (i1.toNat : Int) = i1 := Int.toNat_of_nonneg i10
    refine ⟨p0, _, i1, od, rfl, rfl, .inl (.inl e1), by rw [← ei1]; exact atI_nat hod, ?_⟩
    refine ⟨_, rfl, _, rfl, _, rfl, p0, _, rfl, .inl (.inl (.inl e1)), a, 22, by rw [hl0]; rfl, hA1, by decide, by decide, fun i2 H2 i20 i21 hA2 x2 n2 => ?_⟩
    obtain ⟨mo, hmo⟩ : ∃ v, xs[i2.toNat]? = some v := ⟨_, List.getElem?_eq_getElem (by omega)⟩
    have e2 : H2 p0 = some (.lst xs) := x2 _ _ np0a e1
    have ei2 : (i2.toNat : Int) = i2 := Int.toNat_of_nonneg i20
    refine ⟨p0, _, i2, mo, rfl, rfl, .inl (.inl e2), by rw [← ei2]; exact atI_nat hmo, lz, fun t0 ht0 => ?_⟩
    refine ⟨t0, _, rfl, .inl (.inl upd_same), rfl, _, _, rfl, _, _, rfl, rfl, ?_⟩
    obtain ⟨ya, hya⟩ := hA.lst
    have sH := new_hid (H' := H0) hya
    have st0 := same_new (o := .tup [od, mo]) ht0
    have xT : SameX a H0 (upd H2 t0 (.tup [od, mo])) := (x1.trans x2).trans (sx st0)
    have w1 : OddW K (hid a (upd H2 t0 (.tup [od, mo]))) od := (hg0 od (List.mem_of_getElem? hod)).same (sH.trans (hid_x xT))
    have w2 : OddW K (hid a (upd H2 t0 (.tup [od, mo]))) mo := (hg0 mo (List.mem_of_getElem? hmo)).same (sH.trans (hid_x xT))
    have hA3 := hA2.same st0
    have xS : SameX a H (upd H2 t0 (.tup [od, mo])) := (sx s0).trans xT
    generalize upd H2 t0 (.tup [od, mo]) = H3 at w1 w2 hA3 xS
    have hS3 := hS.X hya xS
    refine ⟨_, rfl, _, rfl, a, S, chs, rfl, hA3, hS3, hok.2, hlen, fun p4 bad o H4 x4 hA4 hp4 hb4 => ?_⟩
    refine ⟨p4, _, rfl, .inl (.inl hp4), rfl, _, _, rfl, _, _, rfl, rfl, ?_⟩
    have w1 := w1.same (hid_x x4)
    have w2 := w2.same (hid_x x4)
    have hS4 := hS3.X hA3.lst.choose_spec x4
    have xS := xS.trans x4
    have v1 : OddW K H4 od := w1.same hid_same
    have v2 : OddW K H4 mo := w2.same hid_same
    have nb : NoChs H4 bad o := hb4.same hid_same
    have cv : ChV H4 (.ref S) chs := .inr ⟨S, rfl, hS4⟩
    -- the answers
    have kW : ∀ {b : Bool} {t v : V} {H' : Hp}, Same H4 H' → AskR H' b od t v "word" od := fun s' => .word (v1.same s').1.1 v1.2
    have kO : ∀ {v : V} {H' : Hp}, Same H4 H' → AskR H' true (.str z) od v "word" od := fun s' => .other hz (v1.same s').1.1 v1.2
    refine ⟨lz, fun l5 hl5 => ⟨l5, rfl, ⟨_, .inl (.inl upd_same)⟩, ?_⟩⟩
    have s5 : Same H4 (upd H4 l5 (.lst [.int 0, .int 1, .int 0])) := same_new hl5
    refine for_it (walk_list (K := K) (a := l5) (xs := [.int 0, .int 1, .int 0])) (fun i σ H' => (∃ y9 y10, σ = [some (.ref a), some (.str z), some (.str y), some (.ref S), some (.ref p0), some od, some mo, some bad, some (plV o), y9, y10, none]) ∧ Same H4 H' ∧ H' l5 = some (.lst [.int 0, .int 1, .int 0]))
      ⟨⟨_, _, rfl⟩, s5, upd_same⟩ (fun i σ H' _ h => .inl (.inl h.2.2)) ?_ ?_
    · rintro i x σ Hq H5 hi ⟨⟨y9, y10, rfl⟩, s5, h5⟩ ⟨rfl, hx⟩
      obtain ⟨way, hw, rfl⟩ : ∃ way : Nat, way ≤ 1 ∧ x = .int way := by
        have := List.mem_of_getElem? hx
        simp only [List.mem_cons, List.not_mem_nil, or_false] at this
        rcases this with rfl | rfl | rfl
        · exact ⟨0, by omega, rfl⟩
        · exact ⟨1, by omega, rfl⟩
        · exact ⟨0, by omega, rfl⟩
      have hb : decide (way ≤ 1) = true := decide_eq_true hw
      refine ⟨_, rfl, _, rfl, _, rfl, lz, fun q1 g1 => ⟨_, rfl, _, rfl, _, rfl, lz, fun q2 g2 => ⟨_, rfl, _, rfl, _, rfl, lz, fun q3 g3 => ⟨_, rfl, _, rfl, _, rfl, lz, fun q4 g4 => ⟨lz, fun q5 g5 => ?_⟩⟩⟩⟩⟩
      have m5 := same_new (o := .lst [.ref q1, .ref q2, .ref q3, .ref q4]) g5
      have m4 := (same_new (o := .tup [.str z, od, .ref S]) g4).trans m5
      have m3 := (same_new (o := .tup [.str z, od, bad]) g3).trans m4
      have m2 := (same_new (o := .tup [od, .str y, .ref S]) g2).trans m3
      have m1 := (same_new (o := .tup [od, mo, bad]) g1).trans m2
      have c1 := m2 _ _ upd_same
      have c2 := m3 _ _ upd_same
      have c3 := m4 _ _ upd_same
      have c4 := m5 _ _ upd_same
      have c5 : upd (upd (upd (upd (upd H5 q1 (.tup [od, mo, bad])) q2 (.tup [od, .str y, .ref S])) q3 (.tup [.str z, od, bad])) q4 (.tup [.str z, od, .ref S])) q5 (.lst [.ref q1, .ref q2, .ref q3, .ref q4]) q5 = some (.lst [.ref q1, .ref q2, .ref q3, .ref q4]) := upd_same
      have s6 := s5.trans m1
      have h6 := m1 _ _ h5
      clear m2 m3 m4 m5
      generalize upd (upd (upd (upd (upd H5 q1 (.tup [od, mo, bad])) q2 (.tup [od, .str y, .ref S])) q3 (.tup [.str z, od, bad])) q4 (.tup [.str z, od, .ref S])) q5 (.lst [.ref q1, .ref q2, .ref q3, .ref q4]) = H6 at c1 c2 c3 c4 c5 s6 h6
      refine ⟨_, rfl, q5, rfl, ⟨_, .inl (.inl c5)⟩, fun D hD => lc_rel (walk_list (K := K) (a := q5) (xs := [.ref q1, .ref q2, .ref q3, .ref q4])) hD (fun _ => true) (fun _ v _ => v = .bl true) (fun H' s' => .inl (.inl (s' _ _ c5))) (fun _ => rfl) (fun x H' _ _ Q' q' => q') ?_ (fun _ _ _ _ _ _ _ r => r) (small1000 (by simp)) ?_⟩
      · intro x H7 hx _ s7 Q' q'
        simp only [List.mem_cons, List.not_mem_nil, or_false] at hx
        have fin : ∀ {u1 u2 u3 : V} {q0 : Addr}, H6 q0 = some (.tup [u1, u2, u3]) → x = .ref q0 → (∀ {H' : Hp}, Same H4 H' → AskR H' true u1 u2 u3 "word" od) →
            tCall (spIs K) [] E0 (tCons (tCall spTold [] E0 (tCons (tVar 9) (tCons (tOp (rIxT K) (tVar 11) (tC (.int 0))) (tCons (tOp (rIxT K) (tVar 11) (tC (.int 1))) (tCons (tOp (rIxT K) (tVar 11) (tC (.int 2))) tNil))))) (tCons (tC (.str "word")) (tCons (tVar 5) tNil)))
              ((wipe [some (V.ref a), some (.str z), some (.str y), some (.ref S), some (.ref p0), some od, some mo, some bad, some (plV o), some (.int way), some (.ref q5), none] [11]).set 11 (some x)) H7 Q' := by
          intro u1 u2 u3 q0 hq e hk
          subst e
          have hq7 := s7 _ _ hq
          refine is_told (b := true) (Nat.lt_of_le_of_lt hw (by decide)) hb (hk (s6.trans s7)) ((v1.same (s6.trans s7)).1) (fun h => ⟨_, rfl, h⟩) (fun h => ⟨_, rfl, q0, _, 0, u1, rfl, rfl, .inl (.inl hq7), atI_nat (j := 0) rfl, h⟩) (fun h => ⟨_, rfl, q0, _, 1, u2, rfl, rfl, .inl (.inl hq7), atI_nat (j := 1) rfl, h⟩) (fun h => ⟨_, rfl, q0, _, 2, u3, rfl, rfl, .inl (.inl hq7), atI_nat (j := 2) rfl, h⟩) _ (fun h => ⟨_, rfl, h⟩) rfl (fun H8 s8 => q' _ H8 s8 rfl)
        rcases hx with rfl | rfl | rfl | rfl
        · exact fin c1 rfl kW
        · exact fin c2 rfl kW
        · exact fin c3 rfl kO
        · exact fin c4 rfl kO
      · intro zs H7 s7 hz7 ez
        have e7 : zs = ([true, true, true, true] : List Bool).map V.bl := by
          have := each_fn (f := fun _ => V.bl true) ez
          rw [this]
          rfl
        rw [e7] at hz7
        refine ⟨D, _, rfl, .inl (.inl hz7), true, rfl, iteF ?_⟩
        have s67 := s6.trans s7
        dsimp only [tNext, tIfS, tOr]
        refine not_told (b := true) (nm := "changes") (Nat.lt_of_le_of_lt hw (by decide)) hb (.chs2 hz hy (nb.same s67)) (pl_odd o) (fun h => ⟨_, rfl, h⟩) (fun h => ⟨_, rfl, h⟩) (fun h => ⟨_, rfl, h⟩) (fun h => ⟨_, rfl, h⟩) _ (fun h => ⟨_, rfl, h⟩) rfl (fun H8 s8 => iteF ?_)
        refine ne_told (b := true) (Nat.lt_of_le_of_lt hw (by decide)) hb (.told2 hz hy (cv.same (s67.trans s8)) hok) (fun h => ⟨_, rfl, h⟩) (fun h => ⟨_, rfl, h⟩) (fun h => ⟨_, rfl, h⟩) (fun h => ⟨_, rfl, h⟩) (fun H9 s9 => iteF ?_)
        exact ⟨⟨_, _, rfl⟩, (s67.trans s8).trans s9, s9 _ _ (s8 _ _ (s7 _ _ h6))⟩
    · rintro σ H5 ⟨⟨y9, y10, rfl⟩, s5, h5⟩
      refine ⟨lz, fun l6 hl6 => ⟨l6, rfl, ⟨_, .inl (.inl upd_same)⟩, ?_⟩⟩
      refine for_it (walk_list (K := K) (a := l6) (xs := [.int 2, .int 3, .int 2])) (fun i σ H' => (∃ y9, σ = [some (.ref a), some (.str z), some (.str y), some (.ref S), some (.ref p0), some od, some mo, some bad, some (plV o), y9, y10, none]) ∧ Same H4 H' ∧ H' l6 = some (.lst [.int 2, .int 3, .int 2]))
        ⟨⟨_, rfl⟩, s5.trans (same_new hl6), upd_same⟩ (fun i σ H' _ h => .inl (.inl h.2.2)) ?_ ?_
      · rintro i x σ Hq H6 hi ⟨⟨y9, rfl⟩, s6, h6⟩ ⟨rfl, hx⟩
        obtain ⟨way, hw, hw2, rfl⟩ : ∃ way : Nat, way < 4 ∧ 2 ≤ way ∧ x = .int way := by
          have := List.mem_of_getElem? hx
          simp only [List.mem_cons, List.not_mem_nil, or_false] at this
          rcases this with rfl | rfl | rfl
          · exact ⟨2, by omega, by omega, rfl⟩
          · exact ⟨3, by omega, by omega, rfl⟩
          · exact ⟨2, by omega, by omega, rfl⟩
        have hb : decide (way ≤ 1) = false := decide_eq_false (by omega)
        dsimp only [gName, tNext, tIfS, tSeq]
        refine not_told (b := false) hw hb (kW s6) ((v1.same s6).1) (fun h => ⟨_, rfl, h⟩) (fun h => ⟨_, rfl, h⟩) (fun h => h) (fun h => ⟨_, rfl, h⟩) _ (fun h => ⟨_, rfl, h⟩) rfl (fun H7 s7 => iteF ?_)
        try dsimp only [tNext, tIfS, tSeq]
        refine not_told (b := false) (nm := "changes") hw hb (.chs1 hz (nb.same (s6.trans s7))) (pl_odd o) (fun h => ⟨_, rfl, h⟩) (fun h => ⟨_, rfl, h⟩) (fun h => h) (fun h => ⟨_, rfl, h⟩) _ (fun h => ⟨_, rfl, h⟩) rfl (fun H8 s8 => iteF ?_)
        try dsimp only [tNext, tIfS, tSeq]
        refine ne_told (b := false) hw hb (.told1 hz (cv.same ((s6.trans s7).trans s8)) hok) (fun h => ⟨_, rfl, h⟩) (fun h => ⟨_, rfl, h⟩) (fun h => h) (fun h => ⟨_, rfl, h⟩) (fun H9 s9 => iteF ?_)
        exact ⟨⟨_, rfl⟩, ((s6.trans s7).trans s8).trans s9, s9 _ _ (s8 _ _ (s7 _ _ h6))⟩
      · rintro σ H6 ⟨⟨y9, rfl⟩, s6, h6⟩
        exact q H6 (xS.trans (sx s6)) (hA4.same s6)
end
end Wl

namespace Wl
open PySem PySem.Spec PyProof.Rows L2
abbrev sLaw : Stmt := topS 57
abbrev nLaw : List Str := ["_law_script", "_law_k", "_law_purse_here", "_law_some", "_law_one", "_law_two", "_law_turn", "_law_twelve", "_law_way"]
theorem scLaw : FnScope nLaw ["_law_script"] (defScope sLaw) := ⟨rfl, rfl, rfl, by decide +kernel, rfl, by decide +kernel, by decide +kernel⟩
def spLaw (K : PySem.W.Frag) : Sp := fun vs H Q _ => ∃ (a : Addr) (ns : List Int), vs = [.ref a] ∧ SqL K H a (ns.map V.int) ∧ ns.length ≤ 63 ∧ ∀ H', Q (.bl true) H'
section
variable {P : Program} {w : World} {K : PySem.W.Frag} {mg : Str → Option Value} {base : Heap} {f : Addr} {fd : FuncData}
theorem ok_law (F : Fun K "law" "law" sLaw f fd) (B : Bi mg) (hCell : Has P w K mg base "_law_cell" 1 ["_law_script", "_law_k"] (spCell K)) (hPurse : Has P w K mg base "_law_purse" 1 ["_law_cell_here"] spPurse) (hChg : Has P w K mg base "_law_changes" 2 ["_law_purse_here", "_law_most"] spChanges)
    (hWord : Has P w K mg base "_law_word" 2 ["_law_purse_here"] spWord) (hR : Has P w K mg base "_law_right" 8 psRight spRight) (hT : Has P w K mg base "_law_told" 7 psTold spTold) : FnOk P w K mg base CX0 9 f fd ["_law_script"] (spLaw K) := by
  refine F.ok scLaw (fun vs H Q E h => ?_) (fun cdv A outer s H vs Q E hr h => ?_)
  · obtain ⟨a, ns, rfl, _⟩ := h
    rfl
  · obtain ⟨a, ns, rfl, hS, hlen, q⟩ := h
    have t3 : ∀ {X : Cx} {j1 j2 j3 : Nat} {x y z : Str} {p1 p2 p3 p : Pos} {k : Nat}, PE X (.Tuple [.Constant (.str x) j1 p1, .Constant (.str y) j2 p2, .Constant (.str z) j3 p3] k p) (tTup (tCons (tC (.str x)) (tCons (tC (.str y)) (tCons (tC (.str z)) tNil)))) := fun {X j1 j2 j3 x y z p1 p2 p3 p k} => pe_tup (pa_cons pe_str (pa_cons pe_str (pa_cons pe_str pa_nil)))
    refine ⟨_, pss_cons (ps_for PassesOwn.never rfl (pi_range1 rfl B.range (pa_cons (pe_callB (call_max2 rfl) (by rfl) B.max (by decide +kernel) (pa_cons pe_int (pa_cons (pe_callB (call_min2 rfl) (by rfl) B.min (by decide +kernel) (pa_cons pe_int (pa_cons (pe_callB call_len_seq (by rfl) B.len PySem.boot_len (pa_cons (pv 0) pa_nil)) pa_nil))) pa_nil))) pa_nil)) (pg_name (i := 1) scLaw.nd rfl (.inl rfl))
        (pss_cons (ps_set (i := 2) scLaw.nd rfl (.inl rfl) (pe_h hPurse hr (pa_cons (pe_h hCell hr (pa_cons (pv 0) (pa_cons (pv 1) pa_nil))) pa_nil)))
        (pss_cons (ps_set (i := 3) scLaw.nd rfl (.inl rfl) (pe_h hChg hr (pa_cons (pv 2) (pa_cons pe_int pa_nil))))
        (pss_cons (ps_par (i := 4) (j := 5) (by rfl) scLaw.nd rfl rfl (by decide) rfl rfl (pa_cons (pe_h hWord hr (pa_cons (pv 2) pa_nil)) (pa_cons (pe_h hWord hr (pa_cons (pv 2) pa_nil)) pa_nil)) (by rfl))
        (pss_one (ps_for PassesOwn.never rfl (pi_range1 rfl B.range (pa_cons pe_int pa_nil)) (pg_name (i := 6) scLaw.nd rfl (.inl rfl))
          (pss_one (ps_if (pt_not (pt_val (pe_h hR hr (pa_cons (pv 2) (pa_cons (pv 4) (pa_cons (pv 5) (pa_cons (pv 3) pa_nil))))))) (pss_one ps_never) pss_nil))))))))
      (pss_cons (ps_set (i := 7) scLaw.nd rfl (.inl rfl) (pe_callTy call_tuple_of (by rfl) B.tuple (by decide +kernel) (pa_cons (pe_op op_rep (pe_lst (pa_cons t3 pa_nil)) pe_int) pa_nil)))
      (pss_cons (ps_if (pt_cmpR (op_neD hr.units) (pe_lc (own := [("_law_way", 8)]) (g := gName 8) (tt := tYes) (te := tOp (rIxT K) (tCall spTold [] E0 (tCons (tVar 8) (tCons (tC (.str "a")) (tCons (tC (.str "b")) (tCons (tC .non) tNil))))) (tC (.int 0))) rfl scLaw.nd (pi_range1 rfl B.range (pa_cons pe_int pa_nil)) (blkOk_by (N := nLaw) (sc := defScope sLaw) (by decide +kernel)) (fun _ _ _ _ _ => pg_name (i := 8) scLaw.nd rfl (.inl rfl)) (fun _ _ _ _ _ => pts_nil)
          (fun _ _ _ _ _ => pe_ix ix_tup (pe_h hT hr (pa_cons (pv 8) (pa_cons pe_str (pa_cons pe_str (pa_cons pe_non pa_nil))))) pe_int (fun _ _ => rfl))) (pe_op op_rep (pe_lst (pa_cons pe_str pa_nil)) pe_int) (nomark _)) (pss_one ps_never) pss_nil)
      (pss_cons (ps_if (PW.pt (pw_or (pt_cmpR op_ne (pe_ix ix_tup (pe_h hT hr (pa_cons pe_int (pa_cons pe_str (pa_cons pe_str (pa_cons (pv 7) pa_nil))))) pe_int (fun _ _ => rfl)) pe_str (nomark _)) (pw_or1 (pt_cmpR (op_neD hr.units) (pe_h hT hr (pa_cons pe_int (pa_cons pe_str (pa_cons pe_str (pa_cons (pe_op op_catA (pv 7) (pe_slice sl_tupA (pv 7) po_none (po_some pe_int))) pa_nil))))) (pe_tup (pa_cons pe_str (pa_cons pe_non pa_nil))) (nomark _))))) (pss_one ps_never) pss_nil)
      (pss_cons (ps_if (pt_cmpR (op_neD hr.units) (pe_h hT hr (pa_cons pe_int (pa_cons pe_str (pa_cons pe_str (pa_cons (pe_op op_catA (pv 7) (pe_tup (pa_cons t3 pa_nil))) pa_nil))))) (pe_tup (pa_cons pe_str (pa_cons pe_non pa_nil))) (nomark _)) (pss_one ps_never) pss_nil)
      (pss_one (ps_ret (pe_cmpR (op_eqD hr.units) (pe_h hT hr (pa_cons pe_int (pa_cons pe_str (pa_cons pe_str (pa_cons (pe_tup (pa_cons t3 (pa_cons t3 (pa_cons pe_non pa_nil)))) pa_nil))))) (pe_tup (pa_cons pe_str (pa_cons pe_int pa_nil))) (nomark _)))))))), ?_⟩
    have hln : ((ns.map V.int).length : Int) = ns.length := by rw [List.length_map]
    refine ⟨_, rfl, a, _, rfl, .inl hS, _, _, rfl, _, _, rfl, _, rfl, ?_, ?_, ?_⟩
    · rw [hln]; split <;> split <;> omega
    · rw [hln]; split <;> split <;> omega
    rw [hln]
    refine for_range (lo := 0) (n := _) (fun i σ H' => (∃ y1 y2 y3 y4 y5 y6, σ = [some (.ref a), y1, y2, y3, y4, y5, y6, none, none]) ∧ Same H H') ⟨⟨_, _, _, _, _, _, rfl⟩, Same.refl H⟩ ?_ ?_
    · rintro i σ H2 hi ⟨⟨y1, y2, y3, y4, y5, y6, rfl⟩, s2⟩
      have hi8 : i < 8 := by
        have : ∀ n : Int, (if (if n < 6 then n else 6) > (2 : Int) then (if n < 6 then n else 6) else 2).toNat ≤ 8 := fun n => by
          split <;> split <;> omega
        exact Nat.lt_of_lt_of_le hi (this _)
      refine ⟨_, rfl, _, rfl, a, ns, 0 + i, rfl, s2.seq hS, by omega, by omega, fun v H3 s3 => ⟨v, rfl, fun pu H4 hpu s4 hP4 => ?_⟩⟩
      have hpu0 : H pu = none := hq_of (s2.trans s3) hpu
      have sP4 : Same H H4 := (s2.trans s3).trans s4
      refine ⟨_, rfl, pu, 5, rfl, hP4, by decide, by decide, fun S chs H5 hP5 x5 hS5 ok hl => ?_⟩
      refine ⟨_, rfl, pu, rfl, hP5, fun z H6 hz hP6 x6 => ⟨_, rfl, pu, rfl, hP6, fun y H7 hy hP7 x7 => ⟨_, _, rfl, ?_⟩⟩⟩
      have x47 : SameX pu H4 H7 := x5.trans (x6.trans x7)
      have hS7 := (hS5.X hP5.lst.choose_spec x6).X hP6.lst.choose_spec x7
      refine ⟨4, rfl, by decide, by decide, for_it (walk_range (lo := 0) (n := 4)) (fun j σ H' => (∃ y6, σ = [some (.ref a), some (.int (0 + i)), some (.ref pu), some (.ref S), some (.str z), some (.str y), y6, none, none]) ∧ SameX pu H4 H' ∧ PurseAt H' pu ∧ ChAt H' S chs) ⟨⟨_, rfl⟩, x47, hP7, hS7⟩ (fun _ _ _ _ _ => trivial) ?_ ?_⟩
      · rintro j x σ Hq H8 hj ⟨⟨y6, rfl⟩, x8, hP8, hS8⟩ ⟨rfl, rfl⟩
        exact ⟨_, rfl, _, rfl, _, rfl, _, rfl, pu, S, z, y, chs, rfl, hP8, hz, hy, hS8, ok, by omega, fun H9 x9 hP9 => ⟨true, rfl, iteF ⟨⟨_, rfl⟩, x8.trans x9, hP9, hS8.X hP8.lst.choose_spec x9⟩⟩⟩
      · rintro σ H8 ⟨⟨y6, rfl⟩, x8, hP8, hS8⟩
        exact ⟨⟨_, _, _, _, _, _, rfl⟩, fun b o e => x8 b o (ne_of_none e hpu0) (sP4 b o e)⟩
    · rintro σ H2 ⟨⟨y1, y2, y3, y4, y5, y6, rfl⟩, s2⟩
      have wa : IsWd "a" := by decide +kernel
      have wb : IsWd "b" := by decide +kernel
      have okc : OkC (97, 98, .any) := ⟨⟨by decide, by decide⟩, ⟨by decide, by decide⟩, by decide⟩
      refine ⟨lz, fun t ht => ⟨lz, fun l hl => ⟨l, 12, _, rfl, rfl, upd_same, by decide, by decide, by simp; decide, fun m hm => ⟨m, _, rfl, .inl ⟨.inl (.inl upd_same), fun T hT => ?_⟩⟩⟩⟩⟩
      have eL : (List.replicate (12 : Int).toNat [V.ref t]).flatten = (List.replicate 12 t).map V.ref := rfl
      rw [eL] at hT ⊢
      have e1 : upd (upd (upd (upd H2 t (.tup (chV (97, 98, .any)))) l (.lst [.ref t])) m (.lst ((List.replicate 12 t).map V.ref))) T (.tup ((List.replicate 12 t).map V.ref)) T = some (.tup ((List.replicate 12 t).map V.ref)) := upd_same
      have e2 : upd (upd (upd (upd H2 t (.tup (chV (97, 98, .any)))) l (.lst [.ref t])) m (.lst ((List.replicate 12 t).map V.ref))) T (.tup ((List.replicate 12 t).map V.ref)) t = some (.tup (chV (97, 98, .any))) := ((same_new hl).trans ((same_new hm).trans (same_new hT))) _ _ upd_same
      change tSeq _ _ _ _ (upd (upd (upd (upd H2 t (.tup (chV (97, 98, .any)))) l (.lst [.ref t])) m (.lst ((List.replicate 12 t).map V.ref))) T (.tup ((List.replicate 12 t).map V.ref)))
      generalize upd (upd (upd (upd H2 t (.tup (chV (97, 98, .any)))) l (.lst [.ref t])) m (.lst ((List.replicate 12 t).map V.ref))) T (.tup ((List.replicate 12 t).map V.ref)) = H3 at e1 e2
      have hC : ChAt H3 T (List.replicate 12 (97, 98, .any)) := ⟨List.replicate 12 t, e1, by
        show Each _ [t, t, t, t, t, t, t, t, t, t, t, t] [_, _, _, _, _, _, _, _, _, _, _, _]
        exact .cons e2 (.cons e2 (.cons e2 (.cons e2 (.cons e2 (.cons e2 (.cons e2 (.cons e2 (.cons e2 (.cons e2 (.cons e2 (.cons e2 .nil)))))))))))⟩
      have okC : OkCs (List.replicate 12 (97, 98, .any)) := ⟨by decide, fun ch hch => by rw [List.eq_of_mem_replicate hch]; exact okc⟩
      have dS : ∀ {H' : Hp} {z : Str} {u : V} {d : PyData} {p : Addr}, H' p = some (.tup [.str z, u]) → Dp K H' u d → Dp K H' (.ref p) (.tuple [.str z, d]) := fun hp hu => .tup (.inl (.inl hp)) (.cons (.str _) (.cons hu .nil))
      refine ⟨4, rfl, by decide, by decide, fun D hD => lc_range (lo := 0) (n := 4) (fun i H' => Same H3 H' ∧ H' D = some (.lst (List.replicate i (.str "told")))) ⟨same_new hD, upd_same⟩ ?_ ?_⟩
      · rintro i H4 hi ⟨s4, hD4⟩
        have ei : (0 : Int) + (i : Int) = (i : Int) := by omega
        rw [ei]
        have nx : ∀ {b : Bool} (hb : decide (i ≤ 1) = b), AskR H4 b (.str "a") (.str "b") .non "told" .non := by
          intro b hb
          cases b with
          | true => exact .told2 wa wb (.inl ⟨rfl, rfl⟩) ⟨by decide, fun ch hch => by cases hch⟩
          | false => exact .told1 wa (.inl ⟨rfl, rfl⟩) ⟨by decide, fun ch hch => by cases hch⟩
        refine ⟨rfl, yes_it (tell_told (b := decide (i ≤ 1)) (by omega) rfl (nx rfl) (fun h => ⟨_, rfl, h⟩) (fun h => h) (fun h => h) (fun h => h) (fun H5 s5 => ?_))⟩
        refine ⟨_, s5 _ _ hD4, by rw [List.length_replicate]; exact small1000 (by omega), same_mut (s4.trans s5) hD, ?_⟩
        rw [upd_same, List.replicate_succ']
      · rintro H4 ⟨s4, hD4⟩
        refine ⟨lz, fun l2 hl2 => ⟨l2, 4, _, rfl, rfl, upd_same, by decide, by decide, by simp; decide, fun m2 hm2 => ?_⟩⟩
        have s5 := (same_new (o := .lst [.str "told"]) hl2).trans (same_new (o := .lst (List.replicate (4 : Int).toNat [V.str "told"]).flatten) hm2)
        have e3 : upd (upd H4 l2 (.lst [.str "told"])) m2 (.lst (List.replicate (4 : Int).toNat [V.str "told"]).flatten) m2 = some (.lst [.str "told", .str "told", .str "told", .str "told"]) := upd_same
        have hD5 := s5 _ _ hD4
        have s35 := s4.trans s5
        generalize upd (upd H4 l2 (.lst [.str "told"])) m2 (.lst (List.replicate (4 : Int).toNat [V.str "told"]).flatten) = H5 at e3 hD5 s35
        refine ⟨.list [.str "told", .str "told", .str "told", .str "told"], .list [.str "told", .str "told", .str "told", .str "told"], .lst (.inl (.inl hD5)) (.cons (.str _) (.cons (.str _) (.cons (.str _) (.cons (.str _) .nil)))), .lst (.inl (.inl e3)) (.cons (.str _) (.cons (.str _) (.cons (.str _) (.cons (.str _) .nil)))), by decide +kernel, by decide +kernel, _, rfl, ?_⟩
        rw [show (!PyData.eqv (.list [.str "told", .str "told", .str "told", .str "told"]) (.list [.str "told", .str "told", .str "told", .str "told"])) = false by decide +kernel]
        refine iteF ?_
        have hC5 := hC.same s35
        dsimp only [tNext, tSeq, tIfS, tOr]
        refine ne_told (b := true) (way := 0) (by decide) (by decide) (.told2 wa wb (.inr ⟨T, rfl, hC5⟩) okC) (fun h => h) (fun h => h) (fun h => h) (fun h => ⟨_, rfl, h⟩) (fun H6 s6 => iteF ?_)
        have hC6 := hC5.same s6
        have e6 := s6 _ _ (s35 _ _ e1)
        refine ⟨_, rfl, _, rfl, _, rfl, ?_⟩
        have eqc : (!PyData.eqv (.tuple [.str "changes", .none]) (.tuple [.str "changes", .none])) = false := by decide +kernel
        have shp : SeqAt.shaped (.tuple [.str "changes", .none]) = true := by decide +kernel
        have lT : ((List.replicate 12 t).map V.ref).length = 12 := rfl
        refine slA_rd e6 fun u1 H7 s7 hu1 => ?_
        have hu1 : H7 u1 = some (.tup (((List.replicate 12 t).map V.ref).take 1)) := by
          rw [← cutA_to]
          exact hu1
        refine catA_rd (s7 _ _ e6) hu1 (by rw [List.length_take, lT]; decide) fun u2 H8 s8 hu2 => ?_
        have l13 : (List.map V.ref (List.replicate 12 t) ++ (List.map V.ref (List.replicate 12 t)).take 1).length = 13 := by
          rw [List.length_append, List.length_take, lT]
          rfl
        refine ⟨0, .str "a", .str "b", .ref u2, "changes", .non, rfl, by decide, .chs2 (o := none) wa wb (no_obj hu2 (.inr (.inr (.inr (.inr ⟨u2, rfl, .inl ⟨_, hu2⟩⟩)))) fun xs e => by cases e; rw [l13]; decide), fun p1 H9 s9 hp1 => ⟨lz, fun p2 hp2 => ?_⟩⟩
        have st2 := same_new (o := .tup [.str "changes", .non]) hp2
        refine ⟨_, _, dS (st2 _ _ hp1) .non, dS upd_same .non, shp, shp, _, rfl, ?_⟩
        rw [eqc]
        refine iteF ?_
        have eA := st2 _ _ (s9 _ _ (s8 _ _ (s7 _ _ e6)))
        generalize upd H9 p2 (.tup [.str "changes", .non]) = HA at eA
        refine ⟨_, rfl, lz, fun v1 hv1 => ⟨lz, fun v2 hv2 => ?_⟩⟩
        refine catA_rd ((same_new hv2) _ _ ((same_new hv1) _ _ eA)) upd_same (by rw [lT, List.length_singleton]; decide) fun v3 HB sB hv3 => ?_
        have l14 : (List.map V.ref (List.replicate 12 t) ++ [V.ref v1]).length = 13 := by
          rw [List.length_append, lT]
          rfl
        refine ⟨0, .str "a", .str "b", .ref v3, "changes", .non, rfl, by decide, .chs2 (o := none) wa wb (no_obj hv3 (.inr (.inr (.inr (.inr ⟨v3, rfl, .inl ⟨_, hv3⟩⟩)))) fun xs e => by cases e; rw [l14]; decide), fun p3 HC sC hp3 => ⟨lz, fun p4 hp4 => ?_⟩⟩
        have st4 := same_new (o := .tup [.str "changes", .non]) hp4
        refine ⟨_, _, dS (st4 _ _ hp3) .non, dS upd_same .non, shp, shp, _, rfl, ?_⟩
        rw [eqc]
        refine iteF ?_
        generalize upd HC p4 (.tup [.str "changes", .non]) = HD
        refine ⟨lz, fun w1 hw1 => ⟨lz, fun w2 hw2 => ⟨lz, fun w3 hw3 => ?_⟩⟩⟩
        have k2 := same_new (o := .tup [.ref w1, .ref w2, .non]) hw3
        have k1 := (same_new (o := .tup [.str "b", .str "b", .str "any"]) hw2).trans k2
        have c1 := k1 _ _ upd_same
        have c2 := k2 _ _ upd_same
        have c3 : upd (upd (upd HD w1 (.tup [.str "a", .str "b", .str "any"])) w2 (.tup [.str "b", .str "b", .str "any"])) w3 (.tup [.ref w1, .ref w2, .non]) w3 = some (.tup [.ref w1, .ref w2, .non]) := upd_same
        generalize upd (upd (upd HD w1 (.tup [.str "a", .str "b", .str "any"])) w2 (.tup [.str "b", .str "b", .str "any"])) w3 (.tup [.ref w1, .ref w2, .non]) = HE at c1 c2 c3
        refine ⟨1, .str "a", .str "b", .ref w3, "changes", .int 1, rfl, by decide, .chs2 (o := some 1) wa wb ⟨w3, _, rfl, c3, by simp, by simp, fun j hj => ?_, .ref w2, rfl, nc_tup c2 (by simp) fun _ => ⟨_, _, _, rfl, odS (by decide +kernel) _, odS (by decide +kernel) _, odS (by decide +kernel) _, by decide +kernel⟩⟩, fun p5 HF sF hp5 => ⟨lz, fun p6 hp6 => ?_⟩⟩
        · obtain rfl : j = 0 := by omega
          exact ⟨w1, (97, 98, .any), rfl, c1, okc⟩
        have st6 := same_new (o := .tup [.str "changes", .int 1]) hp6
        refine ⟨_, _, dS (st6 _ _ hp5) (.int 1), dS upd_same (.int 1), by decide +kernel, by decide +kernel, ?_⟩
        rw [show PyData.eqv (.tuple [.str "changes", .int 1]) (.tuple [.str "changes", .int 1]) = true by decide +kernel]
        exact q _
end
end Wl

namespace Wl
open PySem PySem.Spec PyProof.Rows L2
/-- an exception's class that is not followed -/
def isExc (o : Obj) : Bool := match o.data with
  | .cls cd => (cd.mro.any fun v => match v with | .type n => n == "Exception" | _ => false) && !(decide (cd.name = "NoWord") || decide (cd.name = "NoChanges") || decide (cd.name = "WordError"))
  | _ => false
/-- what these objects name, exceptions left out -/
def refsL (g : Addr → Option Obj) (as : List Addr) : List Addr := as.flatMap fun a => match g a with
  | some o => if isExc o then [] else He.refsD o
  | none => []
def layK (g : Addr → Option Obj) : Nat → List Addr → List Addr
  | 0, l => l
  | n + 1, l => l ++ layK g n (refsL g l)
def frK (g : Addr → Option Obj) : PySem.W.Frag := He.frG g (layK g 4 [mainGlobals])
/-- the hook of facts over such a frame, with one more test of the frame -/
def hookK (fa : List He.Fa) (fn : List He.DefD) (ex : PySem.W.Frag → Bool) : PySem.W.Hook where
  α := He.AlD × Bool
  obs := fun s => (He.obsD fa fn (frK s.heap.get?), ex (frK s.heap.get?))
  val := fun _ => (He.valD fn, true)
  says := fun _ h => ∃ K : PySem.W.Frag, K.In h ∧ He.SaysD fa fn K ∧ ex K = true
  of := fun _ _ e => ⟨_, He.frG_in, congrArg (fun z : He.AlD × Bool => z.1) e, congrArg (fun z : He.AlD × Bool => z.2) e⟩
  keeps := fun _ _ _ ⟨K, hK, c⟩ k => ⟨K, PySem.W.Frag.In.keeps hK k, c⟩
theorem map3 {α β γ δ : Type} {o : Option α} {f : α → β} {g : α → γ} {h : α → δ} {a : β} {b : γ} {c : δ} (h1 : o.map (fun s => (f s, g s)) = some (a, b)) (h2 : o.map h = some c) : o.map (fun s => (f s, g s, h s)) = some (a, b, c) := by
  cases o with
  | none => cases h1
  | some x =>
    have e1 := Option.some.inj h1
    have e2 := Option.some.inj h2
    show some (f x, g x, h x) = _
    rw [(Prod.mk.inj e1).1, (Prod.mk.inj e1).2, e2]
def dOf (x : Str) (st : Stmt) (ds : List He.Dv) : He.DefD := ⟨(x, none), x, x, defArgs st, defBody st, defScope st, ds, []⟩
def dMet (cl m q : Str) (st : Stmt) (ds : List He.Dv) : He.DefD := ⟨(cl, some m), m, q, defArgs st, defBody st, defScope st, ds, []⟩
def exT (K : PySem.W.Frag) : Bool := sortB K && (errOf K 0 "word" && (errOf K 1 "place" && He.tupB K "WHERES" [.str "first", .str "last", .str "any"]))
def fn : List He.DefD := dMet "NoWord" "__init__" "NoWord.__init__" (inClass (topS 4) 0) [] :: dMet "NoChanges" "__init__" "NoChanges.__init__" (inClass (topS 5) 0) [] :: dOf "is_word" wIsWord [] :: dOf "check_word" wCheck [] :: dOf "is_letter" wIsLetter [] :: dOf "is_change" wIsChange [] :: dOf "is_tuple_up_to" wTupTo [] :: dOf "checked_changes" wChecked [] :: dOf "reaches" wReaches [] :: dOf "turned_letters" wTurned [] :: dOf "steps_toward" wSteps [] :: dOf "letters_between" wBetween [] :: dOf "row_between" wRow [.non] :: dOf "are_one" wAre [.non] :: dOf "letters_at" wLetAt [] :: dOf "meaning" wMean [.non] :: dOf "_law_cell" sCell [] :: dOf "_law_purse" sPurse [] :: dOf "_law_pick" sPick [] :: dOf "_law_menu" sMenu [] :: dOf "_law_word" sWord [] :: dOf "_law_changes" sChanges [] :: dOf "_law_sort" sSort [] :: dOf "_law_same" sSame [] :: dOf "_law_told" sTold [] :: dOf "_law_is" sIs [] :: dOf "_law_no_words" sNoWords [] :: dOf "_law_no_change" sNoChg [] :: dOf "_law_no_changes" sNoChs [] :: dOf "_law_right" sRight [] :: dOf "law" sLaw [] :: []
def fa : List He.Fa := .glo "NoWord" :: .meth "NoWord" "__init__" :: .glo "NoChanges" :: .meth "NoChanges" "__init__" :: .glo "is_word" :: .glo "check_word" :: .glo "is_letter" :: .glo "is_change" :: .glo "is_tuple_up_to" :: .glo "checked_changes" :: .glo "reaches" :: .glo "turned_letters" :: .glo "steps_toward" :: .glo "letters_between" :: .glo "row_between" :: .glo "are_one" :: .glo "letters_at" :: .glo "meaning" :: .glo "_law_cell" :: .glo "_law_purse" :: .glo "_law_pick" :: .glo "_law_menu" :: .glo "_law_word" :: .glo "_law_changes" :: .glo "_law_sort" :: .glo "_law_same" :: .glo "_law_told" :: .glo "_law_is" :: .glo "_law_no_words" :: .glo "_law_no_change" :: .glo "_law_no_changes" :: .glo "_law_right" :: .glo "law" :: .str "LETTERS" "abcdefghijklmnopqrstuvwxyz" :: .int "LONGEST_WORD" 8 :: .int "MOST_CHANGES" 12 :: .glo "WHERES" :: .free "bool" :: .free "len" :: .free "range" :: .free "isinstance" :: .free "tuple" :: .free "list" :: .free "sorted" :: .free "all" :: .free "int" :: .free "max" :: .free "min" :: .free "enumerate" :: .free "str" :: []
abbrev R : PySem.W.OpenRow := PySem.W.OpenLaw.row PySem.Challenge.rw_wordlines_k04_words_refused
abbrev hk : PySem.W.Hook := hookK fa fn exT
def ob (s : PySem.W.SharedT) : He.AlD × Bool := (He.obsD fa fn (frK (HandSHeadRun.getT s)), exT (frK (HandSHeadRun.getT s)))
theorem ob_eq (s : PySem.W.SharedT) : ob s = hk.obs s.abs := by
  have e : HandSHeadRun.getT s = s.abs.heap.get? := funext (HandSHeadRun.getT_eq s)
  unfold ob
  rw [e]
  rfl
def others : List PySem.Str := "WordError" :: "LandError" :: "JoinError" :: "NoWord" :: "NoChanges" :: "NoText" :: "NoAge" :: "NoSure" :: "NoRings" :: "NoThings" :: "NoCount" :: "NoRow" :: "NoLand" :: "NoName" :: "NoGathering" :: "NoMap" :: "NoTelling" :: "NoBack" :: "Told" :: "Full" :: "Clash" :: "TooMany" :: "LETTERS" :: "WHERES" :: "LONGEST_WORD" :: "MOST_CHANGES" :: "is_word" :: "check_word" :: "is_letter" :: "is_change" :: "is_tuple_up_to" :: "checked_changes" :: "reaches" :: "turned_letters" :: "steps_toward" :: "letters_between" :: "row_between" :: "are_one" :: "letters_at" :: "meaning" :: "_law_cell" :: "_law_purse" :: "_law_pick" :: "_law_menu" :: "_law_word" :: "_law_changes" :: "_law_sort" :: "_law_same" :: "_law_told" :: "_law_is" :: "_law_no_words" :: "_law_no_change" :: "_law_no_changes" :: "_law_right" :: []
theorem facts {P : Program} {w : World} {K : PySem.W.Frag} {h : Heap} {mg : Str → Option Value} {f : Addr} (X : K.In h) (G : h.Ns mainGlobals mg) (hfa : mg ("law" : Str) = some (.ref f)) (c : He.SaysD fa fn K) (cx : exT K = true) :
    ∃ fd : FuncData, (∀ (s : Shared) (v : Value), BindsTo s fd ⟨[v], []⟩ [("_law_script", v)]) ∧ ∀ base : Heap, K.In base → base.Ns mainGlobals mg → FnOk P w K mg base CX0 9 f fd ["_law_script"] (spLaw K) := by
  have B : Bi mg := ⟨He.free_ok X G (c.fact 38 (f := .free "len") rfl), He.free_ok X G (c.fact 39 (f := .free "range") rfl), He.free_ok X G (c.fact 40 (f := .free "isinstance") rfl), He.free_ok X G (c.fact 41 (f := .free "tuple") rfl), He.free_ok X G (c.fact 42 (f := .free "list") rfl), He.free_ok X G (c.fact 43 (f := .free "sorted") rfl), He.free_ok X G (c.fact 44 (f := .free "all") rfl), He.free_ok X G (c.fact 45 (f := .free "int") rfl), He.free_ok X G (c.fact 46 (f := .free "max") rfl), He.free_ok X G (c.fact 47 (f := .free "min") rfl), He.free_ok X G (c.fact 48 (f := .free "enumerate") rfl), He.free_ok X G (c.fact 49 (f := .free "str") rfl)⟩
  obtain ⟨fd0, F0⟩ := c.def_ 0 (d := dMet "NoWord" "__init__" "NoWord.__init__" (inClass (topS 4) 0) []) rfl
  obtain ⟨fd1, F1⟩ := c.def_ 1 (d := dMet "NoChanges" "__init__" "NoChanges.__init__" (inClass (topS 5) 0) []) rfl
  obtain ⟨fd2, F2⟩ := c.def_ 2 (d := dOf "is_word" wIsWord []) rfl
  obtain ⟨fd3, F3⟩ := c.def_ 3 (d := dOf "check_word" wCheck []) rfl
  obtain ⟨fd4, F4⟩ := c.def_ 4 (d := dOf "is_letter" wIsLetter []) rfl
  obtain ⟨fd5, F5⟩ := c.def_ 5 (d := dOf "is_change" wIsChange []) rfl
  obtain ⟨fd6, F6⟩ := c.def_ 6 (d := dOf "is_tuple_up_to" wTupTo []) rfl
  obtain ⟨fd7, F7⟩ := c.def_ 7 (d := dOf "checked_changes" wChecked []) rfl
  obtain ⟨fd8, F8⟩ := c.def_ 8 (d := dOf "reaches" wReaches []) rfl
  obtain ⟨fd9, F9⟩ := c.def_ 9 (d := dOf "turned_letters" wTurned []) rfl
  obtain ⟨fd10, F10⟩ := c.def_ 10 (d := dOf "steps_toward" wSteps []) rfl
  obtain ⟨fd11, F11⟩ := c.def_ 11 (d := dOf "letters_between" wBetween []) rfl
  obtain ⟨fd12, F12⟩ := c.def_ 12 (d := dOf "row_between" wRow [.non]) rfl
  obtain ⟨fd13, F13⟩ := c.def_ 13 (d := dOf "are_one" wAre [.non]) rfl
  obtain ⟨fd14, F14⟩ := c.def_ 14 (d := dOf "letters_at" wLetAt []) rfl
  obtain ⟨fd15, F15⟩ := c.def_ 15 (d := dOf "meaning" wMean [.non]) rfl
  obtain ⟨fd16, F16⟩ := c.def_ 16 (d := dOf "_law_cell" sCell []) rfl
  obtain ⟨fd17, F17⟩ := c.def_ 17 (d := dOf "_law_purse" sPurse []) rfl
  obtain ⟨fd18, F18⟩ := c.def_ 18 (d := dOf "_law_pick" sPick []) rfl
  obtain ⟨fd19, F19⟩ := c.def_ 19 (d := dOf "_law_menu" sMenu []) rfl
  obtain ⟨fd20, F20⟩ := c.def_ 20 (d := dOf "_law_word" sWord []) rfl
  obtain ⟨fd21, F21⟩ := c.def_ 21 (d := dOf "_law_changes" sChanges []) rfl
  obtain ⟨fd22, F22⟩ := c.def_ 22 (d := dOf "_law_sort" sSort []) rfl
  obtain ⟨fd23, F23⟩ := c.def_ 23 (d := dOf "_law_same" sSame []) rfl
  obtain ⟨fd24, F24⟩ := c.def_ 24 (d := dOf "_law_told" sTold []) rfl
  obtain ⟨fd25, F25⟩ := c.def_ 25 (d := dOf "_law_is" sIs []) rfl
  obtain ⟨fd26, F26⟩ := c.def_ 26 (d := dOf "_law_no_words" sNoWords []) rfl
  obtain ⟨fd27, F27⟩ := c.def_ 27 (d := dOf "_law_no_change" sNoChg []) rfl
  obtain ⟨fd28, F28⟩ := c.def_ 28 (d := dOf "_law_no_changes" sNoChs []) rfl
  obtain ⟨fd29, F29⟩ := c.def_ 29 (d := dOf "_law_right" sRight []) rfl
  obtain ⟨fd30, F30⟩ := c.def_ 30 (d := dOf "law" sLaw []) rfl
  have e := hfa.symm.trans (He.glo_ok X G (c.fact 32 (f := .glo "law") rfl))
  cases e
  have f0 : Fun K "__init__" "NoWord.__init__" (inClass (topS 4) 0) _ fd0 := He5.fun_of F0
  have f1 : Fun K "__init__" "NoChanges.__init__" (inClass (topS 5) 0) _ fd1 := He5.fun_of F1
  have f2 : Fun K "is_word" "is_word" wIsWord _ fd2 := He5.fun_of F2
  have f3 : Fun K "check_word" "check_word" wCheck _ fd3 := He5.fun_of F3
  have f4 : Fun K "is_letter" "is_letter" wIsLetter _ fd4 := He5.fun_of F4
  have f5 : Fun K "is_change" "is_change" wIsChange _ fd5 := He5.fun_of F5
  have f6 : Fun K "is_tuple_up_to" "is_tuple_up_to" wTupTo _ fd6 := He5.fun_of F6
  have f7 : Fun K "checked_changes" "checked_changes" wChecked _ fd7 := He5.fun_of F7
  have f8 : Fun K "reaches" "reaches" wReaches _ fd8 := He5.fun_of F8
  have f9 : Fun K "turned_letters" "turned_letters" wTurned _ fd9 := He5.fun_of F9
  have f10 : Fun K "steps_toward" "steps_toward" wSteps _ fd10 := He5.fun_of F10
  have f11 : Fun K "letters_between" "letters_between" wBetween _ fd11 := He5.fun_of F11
  have f12 : FunN K "row_between" wRow _ fd12 := F12
  have f13 : FunN K "are_one" wAre _ fd13 := F13
  have f14 : Fun K "letters_at" "letters_at" wLetAt _ fd14 := He5.fun_of F14
  have f15 : FunN K "meaning" wMean _ fd15 := F15
  have f16 : Fun K "_law_cell" "_law_cell" sCell _ fd16 := He5.fun_of F16
  have f17 : Fun K "_law_purse" "_law_purse" sPurse _ fd17 := He5.fun_of F17
  have f18 : Fun K "_law_pick" "_law_pick" sPick _ fd18 := He5.fun_of F18
  have f19 : Fun K "_law_menu" "_law_menu" sMenu _ fd19 := He5.fun_of F19
  have f20 : Fun K "_law_word" "_law_word" sWord _ fd20 := He5.fun_of F20
  have f21 : Fun K "_law_changes" "_law_changes" sChanges _ fd21 := He5.fun_of F21
  have f22 : Fun K "_law_sort" "_law_sort" sSort _ fd22 := He5.fun_of F22
  have f23 : Fun K "_law_same" "_law_same" sSame _ fd23 := He5.fun_of F23
  have f24 : Fun K "_law_told" "_law_told" sTold _ fd24 := He5.fun_of F24
  have f25 : Fun K "_law_is" "_law_is" sIs _ fd25 := He5.fun_of F25
  have f26 : Fun K "_law_no_words" "_law_no_words" sNoWords _ fd26 := He5.fun_of F26
  have f27 : Fun K "_law_no_change" "_law_no_change" sNoChg _ fd27 := He5.fun_of F27
  have f28 : Fun K "_law_no_changes" "_law_no_changes" sNoChs _ fd28 := He5.fun_of F28
  have f29 : Fun K "_law_right" "_law_right" sRight _ fd29 := He5.fun_of F29
  have f30 : Fun K "law" "law" sLaw _ fd30 := He5.fun_of F30
  refine ⟨fd30, fun s v => ?_, fun base _ _ => ?_⟩
  · obtain ⟨oc, od, kV, doc, pm, an, cdv, ct, osl, e, l, c⟩ := f30.ex
    subst e
    exact .of_eq rfl
  unfold exT at cx
  simp only [Bool.and_eq_true] at cx
  obtain ⟨e1, e2, e3, e7⟩ := cx
  have SG : SortG mg (adK K) (bdK K) := sort_ok X G e1
  have ENoWord := err_ok (mg := mg) (C := He.ga K "NoWord") (f := "word") (n := 0) e2
  have ENoChanges := err_ok (mg := mg) (C := He.ga K "NoChanges") (f := "place") (n := 1) e3
  have Bq1 : Bq mg := ⟨He.free_ok X G (c.fact 37 (f := .free "bool") rfl)⟩
  have Gw' : Gw K mg := ⟨He.str_ok X G (c.fact 33 (f := .str "LETTERS" "abcdefghijklmnopqrstuvwxyz") rfl), He.int_ok X G (c.fact 34 (f := .int "LONGEST_WORD" 8) rfl), He.int_ok X G (c.fact 35 (f := .int "MOST_CHANGES" 12) rfl), _, He.glo_ok X G (c.fact 36 (f := .glo "WHERES") rfl), fun H => He.tupB_ok e7 H⟩
  have TNoWord : OwnX K mg "NoWord" "word" (He.ga K "NoWord") := ENoWord.2 (He.glo_ok X G (c.fact 0 (f := .glo "NoWord") rfl)) (He.meth_ok (c.fact 1 (f := .meth "NoWord" "__init__") rfl)) f0 (f0.binds fun _ _ _ _ _ _ us hl => match us, hl with | [_, _], _ => rfl) ⟨rfl, rfl, rfl, by decide +kernel, rfl, by decide +kernel, by decide +kernel⟩ (by decide +kernel) rfl
  have TNoChanges : OwnX K mg "NoChanges" "place" (He.ga K "NoChanges") := ENoChanges.2 (He.glo_ok X G (c.fact 2 (f := .glo "NoChanges") rfl)) (He.meth_ok (c.fact 3 (f := .meth "NoChanges" "__init__") rfl)) f1 (f1.binds fun _ _ _ _ _ _ us hl => match us, hl with | [_, _], _ => rfl) ⟨rfl, rfl, rfl, by decide +kernel, rfl, by decide +kernel, by decide +kernel⟩ (by decide +kernel) rfl
  have h_is_word : Has P w K mg base "is_word" 1 ["thing"] (spIsW K) := ⟨_, fd2, ok_isw f2 B Gw', He.glo_ok X G (c.fact 4 (f := .glo "is_word") rfl), f2.kp, f2.binds fun _ _ _ _ _ _ us hl => match us, hl with | [_], _ => rfl⟩
  have h_check_word : Has P w K mg base "check_word" 2 ["word"] spCheckW := ⟨_, fd3, ok_checkw f3 h_is_word, He.glo_ok X G (c.fact 5 (f := .glo "check_word") rfl), f3.kp, f3.binds fun _ _ _ _ _ _ us hl => match us, hl with | [_], _ => rfl⟩
  have hX_check_word : HasX P w K mg base "check_word" 2 ["word"] (spCheckWX (He.ga K "NoWord")) := ⟨_, fd3, ok_checkwX f3 TNoWord h_is_word, (He.glo_ok X G (c.fact 5 (f := .glo "check_word") rfl)), f3.kp, (f3.binds fun _ _ _ _ _ _ us hl => match us, hl with | [_], _ => rfl)⟩
  have h_is_letter : Has P w K mg base "is_letter" 2 ["thing"] spIsLet := ⟨_, fd4, ok_islet f4 B h_is_word, He.glo_ok X G (c.fact 6 (f := .glo "is_letter") rfl), f4.kp, f4.binds fun _ _ _ _ _ _ us hl => match us, hl with | [_], _ => rfl⟩
  have hO_is_letter : Has P w K mg base "is_letter" 2 ["thing"] spIsLetO := ⟨_, fd4, ok_isletO f4 B h_is_word, (He.glo_ok X G (c.fact 6 (f := .glo "is_letter") rfl)), f4.kp, (f4.binds fun _ _ _ _ _ _ us hl => match us, hl with | [_], _ => rfl)⟩
  have h_is_change : Has P w K mg base "is_change" 3 ["thing"] spIsCh := ⟨_, fd5, ok_isch f5 B Gw' h_is_letter, He.glo_ok X G (c.fact 7 (f := .glo "is_change") rfl), f5.kp, f5.binds fun _ _ _ _ _ _ us hl => match us, hl with | [_], _ => rfl⟩
  have hX_is_change : Has P w K mg base "is_change" 3 ["thing"] spIsChX := ⟨_, fd5, FnOk_or (ok_isch f5 B Gw' h_is_letter) (ok_ischO f5 B Gw' hO_is_letter), (He.glo_ok X G (c.fact 7 (f := .glo "is_change") rfl)), f5.kp, (f5.binds fun _ _ _ _ _ _ us hl => match us, hl with | [_], _ => rfl)⟩
  have h_is_tuple_up_to : Has P w K mg base "is_tuple_up_to" 1 ["thing", "most"] spTupTo := ⟨_, fd6, ok_tupto f6 B, He.glo_ok X G (c.fact 8 (f := .glo "is_tuple_up_to") rfl), f6.kp, f6.binds fun _ _ _ _ _ _ us hl => match us, hl with | [_, _], _ => rfl⟩
  have hX_tupto : Has P w K mg base "is_tuple_up_to" 1 ["thing", "most"] spTupToX := ⟨_, fd6, FnOk_or (ok_tupto f6 B) (ok_tuptoO f6 B), (He.glo_ok X G (c.fact 8 (f := .glo "is_tuple_up_to") rfl)), f6.kp, (f6.binds fun _ _ _ _ _ _ us hl => match us, hl with | [_, _], _ => rfl)⟩
  have h_checked_changes : Has P w K mg base "checked_changes" 4 ["changes"] spChecked := ⟨_, fd7, ok_checked f7 B Gw' h_is_tuple_up_to h_is_change, He.glo_ok X G (c.fact 9 (f := .glo "checked_changes") rfl), f7.kp, f7.binds fun _ _ _ _ _ _ us hl => match us, hl with | [_], _ => rfl⟩
  have hX_checked : HasX P w K mg base "checked_changes" 4 ["changes"] (spCheckedX (He.ga K "NoChanges")) := ⟨_, fd7, FnOk_xor (ok_checked f7 B Gw' h_is_tuple_up_to h_is_change) (ok_checkedR f7 TNoChanges B Gw' hX_tupto hX_is_change), (He.glo_ok X G (c.fact 9 (f := .glo "checked_changes") rfl)), f7.kp, (f7.binds fun _ _ _ _ _ _ us hl => match us, hl with | [_], _ => rfl)⟩
  have h_reaches : Has P w K mg base "reaches" 1 ["where", "place", "length"] spReaches := ⟨_, fd8, ok_reaches f8, He.glo_ok X G (c.fact 10 (f := .glo "reaches") rfl), f8.kp, f8.binds fun _ _ _ _ _ _ us hl => match us, hl with | [_, _, _], _ => rfl⟩
  have h_turned_letters : Has P w K mg base "turned_letters" 2 ["changes", "place", "length"] spTurned := ⟨_, fd9, ok_turned f9 Gw' h_reaches, He.glo_ok X G (c.fact 11 (f := .glo "turned_letters") rfl), f9.kp, f9.binds fun _ _ _ _ _ _ us hl => match us, hl with | [_, _, _], _ => rfl⟩
  have h_steps_toward : Has P w K mg base "steps_toward" 1 ["goal", "turned"] spSteps := ⟨_, fd10, ok_steps f10 B, He.glo_ok X G (c.fact 12 (f := .glo "steps_toward") rfl), f10.kp, f10.binds fun _ _ _ _ _ _ us hl => match us, hl with | [_, _], _ => rfl⟩
  have h_letters_between : Has P w K mg base "letters_between" 2 ["one", "other", "turned"] spBetween := ⟨_, fd11, ok_between f11 h_steps_toward, He.glo_ok X G (c.fact 13 (f := .glo "letters_between") rfl), f11.kp, f11.binds fun _ _ _ _ _ _ us hl => match us, hl with | [_, _, _], _ => rfl⟩
  have h_row_between : HasN P w K mg base "row_between" wRow 5 ["word", "other", "changes"] spRow := ⟨_, fd12, ok_row f12 B h_check_word h_checked_changes h_letters_between h_turned_letters, He.glo_ok X G (c.fact 14 (f := .glo "row_between") rfl), f12⟩
  have hX_row : HasNX P w K mg base "row_between" wRow 5 ps3 (spRowX (He.ga K "NoWord") (He.ga K "NoChanges")) := ⟨_, fd12, FnOk_xor (ok_row f12 B h_check_word h_checked_changes h_letters_between h_turned_letters) (ok_rowR f12 hX_check_word hX_checked), (He.glo_ok X G (c.fact 14 (f := .glo "row_between") rfl)), f12⟩
  have hX_are : HasNX P w K mg base "are_one" wAre 6 ps3 (spAreX (He.ga K "NoWord") (He.ga K "NoChanges")) := ⟨_, fd13, FnOk_xor (ok_are f13 h_row_between) (ok_areR f13 hX_row), (He.glo_ok X G (c.fact 15 (f := .glo "are_one") rfl)), f13⟩
  have h_letters_at : Has P w K mg base "letters_at" 3 ["word", "place", "changes"] spLetAt := ⟨_, fd14, ok_letat f14 B h_steps_toward h_turned_letters, He.glo_ok X G (c.fact 16 (f := .glo "letters_at") rfl), f14.kp, f14.binds fun _ _ _ _ _ _ us hl => match us, hl with | [_, _, _], _ => rfl⟩
  have hX_mean : HasNX P w K mg base "meaning" wMean 5 ps2 (spMeanX (He.ga K "NoWord") (He.ga K "NoChanges")) := ⟨_, fd15, FnOk_xor (ok_mean f15 B h_check_word h_checked_changes h_letters_at) (ok_meanR f15 hX_check_word hX_checked), (He.glo_ok X G (c.fact 17 (f := .glo "meaning") rfl)), f15⟩
  have h__law_cell : Has P w K mg base "_law_cell" 1 ["_law_script", "_law_k"] (spCell K) := ⟨_, fd16, ok_cell f16 B, He.glo_ok X G (c.fact 18 (f := .glo "_law_cell") rfl), f16.kp, f16.binds fun _ _ _ _ _ _ us hl => match us, hl with | [_, _], _ => rfl⟩
  have h__law_purse : Has P w K mg base "_law_purse" 1 ["_law_cell_here"] spPurse := ⟨_, fd17, ok_purse f17 B, He.glo_ok X G (c.fact 19 (f := .glo "_law_purse") rfl), f17.kp, f17.binds fun _ _ _ _ _ _ us hl => match us, hl with | [_], _ => rfl⟩
  have h__law_pick : Has P w K mg base "_law_pick" 1 ["_law_purse_here", "_law_many"] spPick := ⟨_, fd18, ok_pick f18, He.glo_ok X G (c.fact 20 (f := .glo "_law_pick") rfl), f18.kp, f18.binds fun _ _ _ _ _ _ us hl => match us, hl with | [_, _], _ => rfl⟩
  have h__law_menu : Has P w K mg base "_law_menu" 1 [] spMenu := ⟨_, fd19, ok_menu f19, He.glo_ok X G (c.fact 21 (f := .glo "_law_menu") rfl), f19.kp, f19.binds fun _ _ _ _ _ _ us hl => match us, hl with | [], _ => rfl⟩
  have h__law_word : Has P w K mg base "_law_word" 2 ["_law_purse_here"] spWord := ⟨_, fd20, ok_word f20 B h__law_pick h__law_menu, He.glo_ok X G (c.fact 22 (f := .glo "_law_word") rfl), f20.kp, f20.binds fun _ _ _ _ _ _ us hl => match us, hl with | [_], _ => rfl⟩
  have h__law_changes : Has P w K mg base "_law_changes" 2 ["_law_purse_here", "_law_most"] spChanges := ⟨_, fd21, ok_changes f21 B h__law_pick, He.glo_ok X G (c.fact 23 (f := .glo "_law_changes") rfl), f21.kp, f21.binds fun _ _ _ _ _ _ us hl => match us, hl with | [_, _], _ => rfl⟩
  have h__law_sort : HasT P w K mg base "_law_sort" 1 ["_law_e"] (spSort K (adK K) (bdK K)) := ⟨_, fd22, ok_sort f22 B SG, He.glo_ok X G (c.fact 24 (f := .glo "_law_sort") rfl), f22.kp, f22.binds fun _ _ _ _ _ _ us hl => match us, hl with | [_], _ => rfl⟩
  have h__law_same : Has P w K mg base "_law_same" 1 ["_law_told_here", "_law_due"] (spSame K) := ⟨_, fd23, ok_same f23 B Bq1, He.glo_ok X G (c.fact 25 (f := .glo "_law_same") rfl), f23.kp, f23.binds fun _ _ _ _ _ _ us hl => match us, hl with | [_, _], _ => rfl⟩
  have h__law_told : Has P w K mg base "_law_told" 7 ["_law_way", "_law_one", "_law_two", "_law_some"] spTold := ⟨_, fd24, ok_told f24 SG TNoWord TNoChanges ENoWord.1 ENoChanges.1 hX_are hX_row hX_mean h__law_sort, He.glo_ok X G (c.fact 26 (f := .glo "_law_told") rfl), f24.kp, f24.binds fun _ _ _ _ _ _ us hl => match us, hl with | [_, _, _, _], _ => rfl⟩
  have h__law_is : Has P w K mg base "_law_is" 2 ["_law_found", "_law_name", "_law_due"] (spIs K) := ⟨_, fd25, ok_is f25 h__law_same, He.glo_ok X G (c.fact 27 (f := .glo "_law_is") rfl), f25.kp, f25.binds fun _ _ _ _ _ _ us hl => match us, hl with | [_, _, _], _ => rfl⟩
  have h__law_no_words : Has P w K mg base "_law_no_words" 1 [] (spNoWords K) := ⟨_, fd26, ok_nowords f26, He.glo_ok X G (c.fact 28 (f := .glo "_law_no_words") rfl), f26.kp, f26.binds fun _ _ _ _ _ _ us hl => match us, hl with | [], _ => rfl⟩
  have h__law_no_change : Has P w K mg base "_law_no_change" 2 ["_law_purse_here"] spNoChg := ⟨_, fd27, ok_nochg f27 B h__law_pick, He.glo_ok X G (c.fact 29 (f := .glo "_law_no_change") rfl), f27.kp, f27.binds fun _ _ _ _ _ _ us hl => match us, hl with | [_], _ => rfl⟩
  have h__law_no_changes : Has P w K mg base "_law_no_changes" 3 ["_law_purse_here", "_law_some"] spNoChs := ⟨_, fd28, ok_nochs f28 B h__law_pick h__law_no_change, He.glo_ok X G (c.fact 30 (f := .glo "_law_no_changes") rfl), f28.kp, f28.binds fun _ _ _ _ _ _ us hl => match us, hl with | [_, _], _ => rfl⟩
  have h__law_right : Has P w K mg base "_law_right" 8 ["_law_purse_here", "_law_one", "_law_two", "_law_some"] spRight := ⟨_, fd29, ok_right f29 B h__law_no_words h__law_pick h__law_no_changes h__law_told h__law_is, He.glo_ok X G (c.fact 31 (f := .glo "_law_right") rfl), f29.kp, f29.binds fun _ _ _ _ _ _ us hl => match us, hl with | [_, _, _, _], _ => rfl⟩
  exact ok_law f30 B h__law_cell h__law_purse h__law_changes h__law_word h__law_right h__law_told
end Wl

namespace Wl
open PySem PySem.Spec PyProof.Rows L2
noncomputable abbrev atEnd (w : World) (os : OsState) : Option PySem.W.SharedT := HandSHeadRun.endF (HandSHeadRun.stepQ (HandSHeadRun.denQ HandSHeadRun.tabQ) R.prog w) 12000 R.prog w os
theorem runA (w : World) (os : OsState) : (atEnd w os).map (fun s => (HandSHeadRun.looksF R.prog (PySem.W.boot_heap w.params) s.abs, HandSHeadRun.seenQ (PySem.W.view R.prog [57]) others (importedModules R.prog.main.body) (fun s => PySem.W.xlAt (PySem.W.view R.prog [57]) [] s && PySem.W.recOk R.toRowW.records s) s.abs)) = some (true, PySem.W.openGood (PySem.W.view R.prog [57]) others) := by
  kernel_rfl
theorem runB (w : World) (os : OsState) : (atEnd w os).map ob = some (He.valD fn, true) := by
  kernel_rfl
theorem run (w : World) : HandSHeadRun.RunEq R (PySem.W.view R.prog [57]) hk ob 12000 others w := fun os => map3 (runA w os) (runB w os)
end Wl

open PySem PySem.W PySem.Calls PyProof.Rows
theorem PySem.Challenge.cw_wordlines_k04_words_refused_holds : PySem.Challenge.rw_wordlines_k04_words_refused.Holds := by
  w_on; o_law
  refine HandSHeadRun.head_any (r := OpenLaw.row PySem.Challenge.rw_wordlines_k04_words_refused) (q := view (OpenLaw.row PySem.Challenge.rw_wordlines_k04_words_refused).prog [57]) (H := Wl.hk) (ob := Wl.ob) (M := 12000) (loose := Wl.others) (d := HandSHeadRun.topDef (OpenLaw.row PySem.Challenge.rw_wordlines_k04_words_refused).prog 57) (kwd := []) Wl.ob_eq
    (by kernel_rfl) (fun s => by kernel_rfl) Wl.run (by kernel_rfl) (by kernel_rfl) (by kernel_rfl) (by rfl) (by first | assumption | decide +kernel) (by decide +kernel) ⟨rfl, rfl, rfl, rfl, rfl, by decide +kernel⟩ ?hw ?hc
  case hw => w_witness2
  case hc =>
    refine L2.walk_ofE (l := PySem.Challenge.rw_wordlines_k04_words_refused) (n := 63) (k := 9) (x := "_law_script") (CX := L2.CX0) rfl (by decide) (by kernel_rfl) ⟨rfl, by decide, by decide⟩ ?F (fun _ _ _ _ z => z)
    intro w mg fa h Y G hmg0
    obtain ⟨K, KX, c, cx⟩ := Y
    have hmg : mg ("law" : PySem.Str) = some (.ref fa) := by
      have e : (HandSHeadRun.topDef (OpenLaw.row PySem.Challenge.rw_wordlines_k04_words_refused).prog 57).name = ("law" : PySem.Str) := by kernel_rfl
      rw [← e]
      exact hmg0
    obtain ⟨fd, hb, hF⟩ := Wl.facts (P := (PySem.Challenge.rw_wordlines_k04_words_refused).prog) (w := w) KX G hmg c cx
    exact ⟨K, fd, Wl.spLaw K, KX, hb, fun H a ns hl _ hS => ⟨a, ns, rfl, hS, hl, fun _ => rfl⟩, hF⟩

