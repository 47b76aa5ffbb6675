import PyProof.Rows.All
import Wide.All
import OpenK.AllK
import Wide.FinOn
import HandS.ForMost
import HandS.Defaults
import HandS.MakeKwOnly
import HandS.Conv
import HandS.IsInst
import HandS.Walk
import HandS.Flow
import KE.SortData
import KE.DataMinMax
import KE.GoesMore
import HandS.Replace
import HandS.DictComp
import HandS.MakeKw
import HandS.Style
import HandS.OwnEq
import KE.KCallOwn
import KE.KFmtOwn
import HandS.Codes
import HandS.FStr
import KE.LtData
import HandS.More
import KE.KEqNest
import HandS.TupAny
import HandS.Deep
import KE.DataCmp
import HandS.Strs
import HandS.SetFor
import HandS.SetTxt0
import HandS.SetBool
import HandS.TupSets
import HandS.Iter
import KE.KStateDown
import Lean
import HandS.Ends
import HandS.WordsExc
import HandS.Head0
import HandS.Head1
import HandS.Head2
import HandS.HeadEnd
import HandS.HeadHook1
import HandS.HeadHook2
import HandS.HeadNt
import PySem.Challenge.RW_wordlines_k24_rings_about_words
set_option Elab.async false
set_option linter.all false
set_option maxRecDepth 100000
set_option maxHeartbeats 0
/-! Rules of ours beside the layer: sorted of data, min and max of two texts, in of nested tuples, methods by keyword, enumerate of a tuple. -/
namespace Wl
open PySem PySem.Spec PyProof.Rows L2

/-! sorted(list of data) -/
def rSortD (K : PySem.W.Frag) : List V → Hp → VK → Prop := fun vs H Q =>
  ∃ (a : Addr) (bs : List (V × PyData)), vs = [V.ref a] ∧ SqL K H a (bs.map (·.1)) ∧ (∀ b ∈ bs, Dp K H b.1 b.2) ∧
    PySem.W.AllAlike (bs.map (·.2)) ∧ PySem.W.Sortable (bs.map (·.2)) ∧ (∀ b ∈ bs, b.2.depth ≤ 8) ∧
    ∀ p, H p = none → Q (.ref p) (upd H p (.lst ((bs.mergeSort (PySem.W.dataLe false (·.2))).map (·.1))))
theorem each_of_vals : ∀ {bs : List (V × PyData)} {its : List Value}, Vals (bs.map (·.1)) its → PySem.W.EachIs (fun u b => RelV b.1 u) its bs
  | [], [], _ => .nil
  | [], _ :: _, h => nomatch h
  | _ :: _, [], h => nomatch h
  | b :: bs, u :: us, h => by
    cases h with
    | cons r t => exact .cons r (each_of_vals t)
theorem vals_of_each : ∀ {bs : List (V × PyData)} {its : List Value}, PySem.W.EachIs (fun u b => RelV b.1 u) its bs → Vals (bs.map (·.1)) its
  | _, _, .nil => .nil
  | _, _, .cons r t => .cons r (vals_of_each t)
theorem each_reads {X : Cx} {pins : List (Addr × Obj)} {σ : L2.St} {H : Hp} {s : Shared} (I : Inv X pins σ H s) :
    ∀ {bs : List (V × PyData)} {its : List Value}, (∀ b ∈ bs, Dp X.K H b.1 b.2) → PySem.W.EachIs (fun u b => RelV b.1 u) its bs →
      PySem.W.EachIs (fun v b => ∃ as, Reads s.heap v b.2 as) its bs
  | _, _, _, .nil => .nil
  | _, _, hd, .cons r t => .cons (Dp.reads I _ _ _ (hd _ List.mem_cons_self) r) (each_reads I (fun b m => hd b (List.mem_cons_of_mem _ m)) t)
theorem cr_sortD {X : Cx} (hu : X.A.units + 64 < cLine) : CallR X (.builtin "sorted") (rSortD X.K) := by
  intro pins s σ H vs us Q I r h
  obtain ⟨a, bs, rfl, hs, hd, ha, hk, hz, q⟩ := h
  obtain ⟨its, rv, hl, hn⟩ := I.list hs
  obtain ⟨u, rfl, ru⟩ := vals1 r
  obtain rfl : u = Value.ref a := ru
  have e := each_of_vals rv
  have hbn : bs.length ≤ sizeLine := by
    rw [List.length_map] at hn
    exact hn
  refine PySem.W.sorted_data (R := fun u b => RelV b.1 u) (enc := (·.2)) hl.isList e (each_reads I hd e) ha hk hbn (fun b hb => ?_) fun out ho eo => ?_
  · have := hz b hb
    omega
  · have rv2 := vals_of_each eo
    obtain ⟨n, hn2⟩ := sortedAll_at s.heap its out.toArray
    have hlen : ((bs.mergeSort (PySem.W.dataLe false (·.2))).map (·.1)).length ≤ sizeLine := by
      rw [List.length_map, List.length_mergeSort]
      exact hbn
    exact ⟨.ref (s.heap.objs.size + 1), _, I.laid (t' := s.toks) (o := .lst ((bs.mergeSort (PySem.W.dataLe false (·.2))).map (·.1))) (fun b o e => sortedAll_old e) (Nat.le_succ _) ⟨hlen, out, n, rv2, hn2⟩, rfl, q _ (I.hok.fresh (Nat.le_succ _))⟩

/-! min, max of a tuple of two texts -/
def rTwo (K : PySem.W.Frag) (f : Str → Str → Str) : List V → Hp → VK → Prop := fun vs H Q =>
  ∃ (a : Addr) (x y : Str), vs = [V.ref a] ∧ SqT K H a [.str x, .str y] ∧ Q (.str (f x y)) H
def lessOf (x y : Str) : Str := if y.cps.toList < x.cps.toList then y else x
def moreOf (x y : Str) : Str := if x.cps.toList < y.cps.toList then y else x
theorem alike2 (x y : Str) : PySem.W.AlikeAll [PyData.str x, .str y] := by
  refine ⟨fun a ha b hb => ?_, fun a ha => ?_⟩
  · simp only [List.mem_cons, List.not_mem_nil, or_false] at ha hb
    rcases ha with rfl | rfl <;> rcases hb with rfl | rfl <;> rfl
  · simp only [List.mem_cons, List.not_mem_nil, or_false] at ha
    rcases ha with rfl | rfl <;> exact fun z => by cases z
theorem dp2 {K : PySem.W.Frag} {H : Hp} (x y : Str) : DpAll K H [.str x, .str y] [PyData.str x, .str y] := .cons (.str x) (.cons (.str y) .nil)
theorem cr_minT {X : Cx} (hc : X.calm = true) (hu : X.A.units + 64 < cLine) : CallR X (.builtin "min") (rTwo X.K lessOf) := by
  intro pins s σ H vs us Q I r h
  obtain ⟨a, x, y, rfl, hs, q⟩ := h
  obtain ⟨its, rv, hl, hn⟩ := I.tuple hs
  obtain ⟨u, rfl, ru⟩ := vals1 r
  obtain rfl : u = Value.ref a := ru
  obtain ⟨as, hr⟩ := Dp.readsAll I _ _ its (dp2 x y) rv
  refine PySem.W.min_tuple_data (I.ok.hd hc) (show s.heap.IsTuple a its.toArray from hl) (by simpa using hr) (alike2 x y) (by
    have : PyData.depthAll [PyData.str x, .str y] = 0 := rfl
    omega) fun i v h' tk bs hv hR hk => ?_
  have e : PySem.W.minD (.str x) [.str y] = .str (lessOf x y) := by
    unfold PySem.W.minD lessOf
    simp only [List.foldl_cons, List.foldl_nil, PySem.W.dataLt_str]
    by_cases c : y.cps.toList < x.cps.toList <;> simp [c]
  rw [e] at hR
  cases hR with
  | str z t => exact ⟨.str _, H, I.kept (t' := tk) hk, ⟨_, rfl⟩, q⟩
theorem cr_maxT {X : Cx} (hc : X.calm = true) (hu : X.A.units + 64 < cLine) : CallR X (.builtin "max") (rTwo X.K moreOf) := by
  intro pins s σ H vs us Q I r h
  obtain ⟨a, x, y, rfl, hs, q⟩ := h
  obtain ⟨its, rv, hl, hn⟩ := I.tuple hs
  obtain ⟨u, rfl, ru⟩ := vals1 r
  obtain rfl : u = Value.ref a := ru
  obtain ⟨as, hr⟩ := Dp.readsAll I _ _ its (dp2 x y) rv
  refine PySem.W.max_tuple_data (I.ok.hd hc) (show s.heap.IsTuple a its.toArray from hl) (by simpa using hr) (alike2 x y) (by
    have : PyData.depthAll [PyData.str x, .str y] = 0 := rfl
    omega) fun i v h' tk bs hv hR hk => ?_
  have e : PySem.W.maxD (.str x) [.str y] = .str (moreOf x y) := by
    unfold PySem.W.maxD moreOf
    simp only [List.foldl_cons, List.foldl_nil, PySem.W.dataLt_str]
    by_cases c : x.cps.toList < y.cps.toList <;> simp [c]
  rw [e] at hR
  cases hR with
  | str z t => exact ⟨.str _, H, I.kept (t' := tk) hk, ⟨_, rfl⟩, q⟩

/-! x in a tuple of data -/
def rInDT (K : PySem.W.Frag) : R2 := fun x y H Q => ∃ d ds, Dp K H x d ∧ Dp K H y (.tuple ds) ∧ SeqAt.shaped d = true ∧
  SeqAt.shaped (.tuple ds) = true ∧ Q (.bl (ds.any fun z => PyData.eqv z d)) H
theorem op_inDT {X : Cx} (hu : X.A.units + 65 < cLine) : OpR X (compareOp .In) (rInDT X.K) := by
  intro pins s σ H x y v u Q I rx ry h
  obtain ⟨d, ds, hd, he, sd, se, q⟩ := h
  obtain ⟨as, r1⟩ := Dp.reads I d x v hd rx
  obtain ⟨bs, r2⟩ := Dp.reads I (.tuple ds) y u he ry
  exact SeqAt.in_tuple_reads r2 r1 (SeqAt.canLay_of_shaped se) (SeqAt.canLay_of_shaped sd) (room_in_shaped sd hu) ⟨.bl _, H, I, rfl, q⟩

/-! o.m(k = e): one argument by its name -/
def g2 {α : Type} : List α → List α → List α
  | [a], [b] => [a, b]
  | _, _ => []
theorem g2_rel : ∀ {vs : List V} {us : List Value} {zs : List V} {ws : List Value}, Vals vs us → Vals zs ws → Vals (g2 vs zs) (g2 us ws)
  | _, _, _, _, .nil, _ => .nil
  | _, _, _, _, .cons a (.cons b c), _ => .nil
  | _, _, _, _, .cons a .nil, .nil => .nil
  | _, _, _, _, .cons a .nil, .cons b .nil => .cons a (.cons b .nil)
  | _, _, _, _, .cons a .nil, .cons b (.cons c d) => .nil
def tMethK (C : Addr) (m : Str) (sp : Sp) (E : XK) (ta : TE) (tk : TA) : TE := fun σ H Q => ta σ H fun x H1 =>
  ∃ a dx fs, x = .ref a ∧ H1 a = some (.ins C dx fs) ∧ fs.lookup m = none ∧ tk σ H1 fun zs H2 => sp (g2 [.ref a] zs) H2 Q E
theorem pe_methK {X : Cx} {CX : CXT} {k : Nat} {f C : Addr} {fd : FuncData} {ps ks : List Str} {sp : Sp} {E : XK} {m : Str} {pos apos : Pos} {o : Expr} {kws : List Keyword} {ta : TE} {tk : TA} {pl : Sem Bool}
    (he : PE X o ta) (c : Cls X.K C) (hm : Meth X.K C m f) (F : FnOk X.prog X.w X.K X.mg X.base CX k f fd ps sp) (hr : Room k X.A) (hb : KBinds X.K fd ps ks g2 g2) (hx : Passes CX X E) (hkw : PK X kws tk)
    (hall : (backToKw pos (keywordEach kws X.env)).all (·.1.isSome) = true := by rfl) (hks : (backToKw pos (keywordEach kws X.env)).filterMap (·.1) = ks := by rfl)
    (hpl : ((backTo pos (starEach [] X.env)).any (·.1) || (backToKw pos (keywordEach kws X.env)).any (·.1.isNone)) = false := by rfl)
    (ht : eval (.Call (.Attribute o m apos) [] kws pos) X.env = (do
      let ov ← eval o X.env
      standAt apos.atName
      let (f, first) ← holding [ov] (getMethod ov m pl)
      callWith pos f first (backTo pos (starEach [] X.env)) (backToKw pos (keywordEach kws X.env))) := by rfl) :
    PE X (.Call (.Attribute o m apos) [] kws pos) (tMethK C m sp E ta tk) := by
  refine ⟨fun pins s σ H Q I h => ?_⟩
  refine PySem.W.methodCall_KW (pl := pl) (thn (he.run pins s σ H _ I h) fun u s1 ⟨x, H1, I1, rx, a, dx, fs, ex, ea, l, q⟩ => ?_) ht
  subst ex
  obtain rfl : u = Value.ref a := rx
  refine getmeth_ok I1 ea c hm l ?_
  refine PySem.W.callWith_KW0 (first := [.ref a]) (h₀ := X.base) I.ok.mod.kin hm.kp hall (thn (hkw.run pos pins s1 σ H1 _ I1 q) fun ws s2 ⟨zs, H2, I2, rz, q2⟩ => ⟨I2.kIn, ?_⟩) hpl
  rw [hks]
  exact run_fnk (us := [.ref a]) (vs := [.ref a]) F hr hb hx I2 (.cons rfl .nil) rz q2

/-! enumerate(a tuple) -/
open AutoSeq1 (wpAny_loadPart') in
theorem new_enumT (l : Addr) (items : Array Value) (n : Nat) (dct : Option Addr) (sl : Array (Option Value)) :
    Meets (Builtin.«enumerate.__new__» ⟨[.type "enumerate", .ref l], []⟩) (fun _ R s =>
      s.heap.get? l = some { cls := .type "tuple", dict := dct, data := .seq items n, slots := sl } ∧
      R (.ok (.ret (.ref (s.heap.push { cls := .type "tuple_iterator", data := .fields #[.ref l, .int 0 0] }).objs.size)))
        { s with heap := (s.heap.push { cls := .type "tuple_iterator", data := .fields #[.ref l, .int 0 0] }).push { cls := .type "enumerate", data := .fields #[.none, .bool false, .ref s.heap.objs.size, rawInt 0, .none, .none] } }) :=
  .of_wp fun prog w A R s h => by
    obtain ⟨hp, g, d, tk, os⟩ := s
    obtain ⟨hl, h⟩ := h
    have hsub := sub_enumerate
    have hT : Heap.IsTuple (Shared.heap ⟨hp, g, d, tk, os⟩) l items := ⟨_, hl, rfl, n, rfl⟩
    wp_walk using wpAny_loadPart' hl
    refine wpAny_stack_any fun st => wpAny_pure ?_
    split
    · rename_i c _ _ _ _ _
      cases (c == Value.type "enumerate") <;> (wp_walk using wpAny_loadPart' hl, wpAny_pyIter_tuple hT; exact ⟨_, rfl, h⟩)
    · (wp_walk using wpAny_loadPart' hl, wpAny_pyIter_tuple hT); exact ⟨_, rfl, h⟩
section
variable {prog : Program} {w : World} {A : Around} {E : Value → Shared → Prop} {s : Shared}
theorem make_enumT {l : Addr} {items : Array Value} {Q : Value → Shared → Prop} (hL : s.heap.IsTuple l items)
    (h : ∀ h', IsEnum h' (s.heap.objs.size + 1) s.heap.objs.size 0 .none → h'.IsTupleIter s.heap.objs.size l 0 →
      (∀ b o, s.heap.get? b = some o → h'.get? b = some o) → Q (.ref (s.heap.objs.size + 1)) { s with heap := h' }) :
    wpAny (model prog w) A (call (.type "enumerate") [.ref l]) Q E s := by
  obtain ⟨⟨c, dct, dt, sl⟩, hl, hc, n, hd⟩ := hL
  obtain rfl : c = .type "tuple" := hc
  obtain rfl : dt = .seq items n := hd
  refine callType_new F.called_enumerate (by decide) (F.typeCall_enumerate_1 _) (F.newCall_enumerate_1 _) (fun obj => F.args_object_init_2 obj _) F.entry_enumerate_new (new_enumT l items n dct sl) ⟨hl, ?_⟩
  have hz : (s.heap.push { cls := .type "tuple_iterator", data := .fields #[.ref l, .int 0 0] }).objs.size = s.heap.objs.size + 1 := Heap.size_push ..
  rw [hz]
  have he : IsEnum ((s.heap.push { cls := .type "tuple_iterator", data := .fields #[.ref l, .int 0 0] }).push { cls := .type "enumerate", data := .fields #[.none, .bool false, .ref s.heap.objs.size, rawInt 0, .none, .none] })
      (s.heap.objs.size + 1) s.heap.objs.size 0 .none := hz ▸ Heap.get?_push_size (s.heap.push { cls := .type "tuple_iterator", data := .fields #[.ref l, .int 0 0] }) rfl
  exact ⟨⟨_, he, rfl⟩, h _ he ⟨_, Heap.get?_push_of_some _ (Heap.get?_push_size _ rfl), rfl, rfl⟩ fun b o x => Heap.get?_push_of_some _ (Heap.get?_push_of_some _ x)⟩
end
def IteT (K : PySem.W.Frag) (a : Addr) : It where
  go := fun i H => ∃ (xs : List V) (x : V), SqT K H a xs ∧ xs[i]? = some x
  yld := fun i H v H' => ∃ T x, v = .ref T ∧ H T = none ∧ H' = upd H T (.tup [.int (i : Nat), x]) ∧ ∀ xs, SqT K H a xs → xs[i]? = some x
  stop := fun i H => ∃ xs : List V, SqT K H a xs ∧ xs.length ≤ i
theorem apart_of {h : Heap} {a b : Addr} {o u : Obj} (ha : h.get? a = some o) (hb : h.get? b = some u) (hc : o.cls ≠ u.cls) : a ≠ b := fun e => by
  subst e
  rw [ha] at hb
  exact hc (congrArg Obj.cls (Option.some.inj hb))
theorem turn_enumT {P : Program} {w : World} {K : PySem.W.Frag} {elts : List Expr} {kk : Nat} {tpos : Pos} (a e it : Addr) :
    Turn P w K (.Tuple elts kk tpos) (IteT K a) [e, it] e (fun i h => (∃ old, IsEnum h e it ((i : Nat) : Int) old) ∧ h.IsTupleIter it a i ∧ e ≠ it) where
  mem := by simp
  obj := fun i h st b hb => by
    obtain ⟨⟨old, he⟩, ⟨o, ho, hc, hd⟩, _⟩ := st
    rcases (show b = e ∨ b = it by simpa using hb) with z | z
    · subst z; exact ⟨_, he, fun v q => nomatch q⟩
    · subst z; exact ⟨o, ho, fun v q => by rw [hd] at q; cases q⟩
  keep := fun i h h' st k => let ⟨⟨old, he⟩, hi, hne⟩ := st; ⟨⟨old, k e (by simp) _ he⟩, hi.at fun o q => k it (by simp) o q, hne⟩
  item := by
    intro X hP hw hK hc i pins s σ H E I hf st hg
    subst hP hw hK
    obtain ⟨⟨old, he⟩, hit, hne⟩ := st
    obtain ⟨xs, x, hq, hx⟩ := hg
    obtain ⟨its, rv, p, hz⟩ := I.tuple hq
    obtain ⟨u, hu, ru⟩ := rv.get hx
    have hT : s.heap.IsTuple a its.toArray := p
    obtain ⟨oi, hoi, hci, _⟩ := id hit
    obtain ⟨oa, hoa, hca, _⟩ := id hT
    have hel : e < s.heap.objs.size := Heap.lt_size he
    have hil : it < s.heap.objs.size := Heap.lt_size hoi
    have nai : a ≠ it := apart_of hoa hoi (by rw [hca, hci]; decide)
    have nea : e ≠ a := apart_of he hoa (by rw [hca]; show Value.type "enumerate" ≠ Value.type "tuple"; decide)
    have hi : i < its.toArray.size := by
      have := (List.getElem?_eq_some_iff.mp hu).1
      simpa using this
    refine wpAny_pyNext_enum_itemD (Draws.tuple (prog := X.prog) (w := X.w) (A := X.A.in1) (I.ok.hd hc) it a nai its.toArray) he ⟨hit, hT⟩ hi hne (by simp [hne, nea]) fun y h' tk hy ho hst hTp hsz hk => ?_
    obtain rfl : u = y := by
      have q : its.toArray[i]? = some u := by simpa using hu
      exact Option.some.inj (q.symm.trans hy)
    refine ⟨_, rfl, wpAny_letOwnedTupleGo_enum (s := { s with heap := h', toks := tk + 1 }) ho fun h'' he' sb => ?_⟩
    have hT2 : h''.get? s.heap.objs.size = some { cls := .type "tuple", data := .seq #[.int i tk, u] } := (sb.2 _ (Nat.ne_of_gt hel)).trans hTp
    have new : ObjOk X.prog X.w (upd H s.heap.objs.size (.tup [.int (i : Nat), x])) h'' s.heap.objs.size (.tup [.int (i : Nat), x]) :=
      ⟨by show 2 ≤ sizeLine; decide, [.int i tk, u], .cons ⟨_, rfl⟩ (.cons ru .nil), ⟨_, hT2, rfl, _, rfl⟩⟩
    have I1 : L2.Inv X pins σ (upd H s.heap.objs.size (.tup [.int (i : Nat), x])) { s with heap := h'', toks := tk + 1 } :=
      I.turnedNew (ch := [e, it]) (fun b ob hb q => by
        simp only [List.mem_cons, List.not_mem_nil, or_false, not_or] at hb
        exact (sb.2 b hb.1).trans (hk b ob hb.1 hb.2 q)) hf (Nat.le_refl _) new
    have e1 : ((i + 1 : Nat) : Int) = (i : Int) + 1 := by omega
    refine ⟨.ref s.heap.objs.size, _, I1, rfl, ⟨_, x, rfl, I.hok.fresh (Nat.le_refl _), rfl, fun ys hy => by rw [I.tuple_inj hy hq]; exact hx⟩,
      ⟨⟨u, by rw [e1]; exact he'⟩, hst.1.at fun o q => (sb.2 it (Ne.symm hne)).trans q, hne⟩, fun b hb => ?_⟩
    have hb' : b < s.heap.objs.size := by
      rcases (show b = e ∨ b = it by simpa using hb) with z | z <;> subst z <;> assumption
    rw [upd_ne (Nat.ne_of_lt hb')]
    exact (hf b hb).1
  done := by
    intro X hP hw hK hc i pins s σ H E I hf st hg
    subst hP hw hK
    obtain ⟨⟨old, he⟩, hit, hne⟩ := st
    obtain ⟨xs, hq, hx⟩ := hg
    obtain ⟨its, rv, p, hz⟩ := I.tuple hq
    obtain ⟨f0, f1, f2, f3, f4, f5⟩ := hf it (by simp)
    have hT : s.heap.IsTuple a its.toArray := p
    have hl : xs.length = its.length := rv.length
    have hT2 : ¬ (i < its.toArray.size) := by simp; omega
    show wpAny _ _ (pyNext (.ref e)) _ _ s
    have hTy : s.TypeIs (.ref e) "enumerate" := ⟨_, he, rfl⟩
    unfold pyNext
    refine wpAny_bind (wpAny_attempt (wpAny_callSpecial?_slot (name := Str.ofString "__next__") hTy F.slot_enumerate_next (wpAny_call_entry F.slot_enumerate_next hTy F.entry_enumerate_next ?_ (F.args_enumerate_next_1 _))))
    show wpAny _ _ (field (.ref e) 2 >>= _) _ _ _
    refine wpAny_bind (wpAny_field he rfl (x := .ref it) rfl (wpAny_bind (wpAny_nextOf_tuple_end (I.ok.hd hc) hit hT (Array.getElem?_eq_none (by omega)) fun h' x he' hx' => ?_)))
    obtain ⟨o, ho, hcc⟩ := hx'
    exact wpAny_bind (wpAny_isInstance (T := "StopIteration") (b := true) ⟨o, ho, hcc⟩ isSubtype_stop (wpAny_pure ⟨rfl, I.turned (t' := s.toks) (fun b o hb q => he' b o hb q) f0 f1 f3 f4 f5⟩))
  self := fun A i s Q E st h => let ⟨⟨_, he⟩, _⟩ := st; wpAny_pyIter_enum he h
def iEnumT (K : PySem.W.Frag) (ta : TA) : TI := fun σ H R => ta σ H fun vs H1 => ∃ a xs, vs = [.ref a] ∧ SqT K H1 a xs ∧ R (IteT K a) H1
theorem pi_enumT {X : Cx} {e : Expr} {ta : TA} {p pos tpos : Pos} {elts : List Expr} {kk : Nat} (hg : Gl X "enumerate") (hm : X.mg "enumerate" = none) (ha : PA X [e] ta) (hs : starEach [e] X.env = [(false, eval e X.env)] := by rfl) :
    PI X (.Tuple elts kk tpos) (.Call (.Name "enumerate" p) [e] [] pos) (iEnumT X.K ta) := by
  refine ⟨fun pins s σ H R I h => ?_⟩
  refine Call_ (ld_blt I hg hm boot_enumerate (PyProof.Rows.callWith_type1 (thn (ha.run pos pins s σ H _ I h) fun us s1 ⟨vs, H1, I1, r1, q1⟩ => ?_) hs rfl))
  obtain ⟨a, xs, rfl, hq, q⟩ := q1
  obtain ⟨u, rfl, ru⟩ := vals1 r1
  obtain rfl : u = Value.ref a := ru
  obtain ⟨its, rv, p', hz⟩ := I1.tuple hq
  refine make_enumT (show s1.heap.IsTuple a its.toArray from p') fun h' he hit hk => wpAny_pyIter_enum he ?_
  refine ⟨s1.heap.objs.size + 1, [s1.heap.objs.size + 1, s1.heap.objs.size], _, _, H1, rfl, I1.kept (t' := s1.toks) hk, turn_enumT a (s1.heap.objs.size + 1) s1.heap.objs.size, ⟨⟨.none, he⟩, hit, Nat.succ_ne_self _⟩, fun b hb => ?_, q⟩
  have hle : s1.heap.objs.size ≤ b := by
    rcases (show b = s1.heap.objs.size + 1 ∨ b = s1.heap.objs.size by simpa using hb) with z | z <;> rw [z]
    · exact Nat.le_add_right _ _
    · exact Nat.le_refl _
  exact I1.fpOk hle (I1.hok.fresh hle)
theorem walk_enumT {K : PySem.W.Frag} {a : Addr} {xs : List V} : Walk (IteT K a) xs.length (fun H => SqT K H a xs) (YPair (fun i => some (.int (i : Nat))) (fun i => xs[i]?)) := by
  refine ⟨fun i _ hi q => ⟨xs, xs[i], q, by simp [hi]⟩, fun _ q => ⟨xs, q, Nat.le_refl _⟩, ?_⟩
  rintro i H v H' _ q ⟨T, x, h1, h2, h3, h4⟩
  exact ⟨T, .int (i : Nat), x, h1, h2, h3, rfl, h4 xs q⟩
end Wl

namespace Wl
open PySem

/-! ### strictly rising lists -/
theorem rising_ext {α : Type} {lt : α → α → Prop} (ir : ∀ a, ¬ lt a a) (tr : ∀ a b c, lt a b → lt b c → lt a c) :
    ∀ {l m : List α}, l.Pairwise lt → m.Pairwise lt → (∀ x, x ∈ l ↔ x ∈ m) → l = m
  | [], [], _, _, _ => rfl
  | [], y :: m, _, _, h => absurd ((h y).mpr List.mem_cons_self) (by simp)
  | x :: l, [], _, _, h => absurd ((h x).mp List.mem_cons_self) (by simp)
  | x :: l, y :: m, hl, hm, h => by
    obtain ⟨hx, hl'⟩ := List.pairwise_cons.mp hl
    obtain ⟨hy, hm'⟩ := List.pairwise_cons.mp hm
    have e : x = y := by
      rcases List.mem_cons.mp ((h x).mp List.mem_cons_self) with e | h1
      · exact e
      · rcases List.mem_cons.mp ((h y).mpr List.mem_cons_self) with e | h2
        · exact e.symm
        · exact absurd (tr _ _ _ (hx y h2) (hy x h1)) (ir x)
    subst e
    have : l = m := rising_ext ir tr hl' hm' fun z => by
      constructor
      · intro hz
        rcases List.mem_cons.mp ((h z).mp (List.mem_cons_of_mem _ hz)) with e | q
        · exact absurd (hx z hz) (by rw [e]; exact ir x)
        · exact q
      · intro hz
        rcases List.mem_cons.mp ((h z).mpr (List.mem_cons_of_mem _ hz)) with e | q
        · exact absurd (hy z hz) (by rw [e]; exact ir x)
        · exact q
    rw [this]

/-! ### texts by their codes -/
theorem str_ext {a b : Str} (h : a.cps.toList = b.cps.toList) : a = b := by
  cases a; cases b
  exact congrArg Str.mk (Array.ext' h)
abbrev ltS (a b : Str) : Prop := a.cps.toList < b.cps.toList
theorem ltS_irr (a : Str) : ¬ ltS a a := List.lt_irrefl _
theorem ltS_tr (a b c : Str) (h : ltS a b) (k : ltS b c) : ltS a c := List.lt_trans h k
theorem ltS_tot {a b : Str} (h : ¬ ltS a b) (k : ¬ ltS b a) : a = b :=
  str_ext (List.le_antisymm (List.not_lt.mp k) (List.not_lt.mp h))
def leB (a b : Str) : Bool := !decide (ltS b a)
theorem leB_trans (a b c : Str) (h : leB a b = true) (k : leB b c = true) : leB a c = true := by
  simp only [leB, Bool.not_eq_true', decide_eq_false_iff_not] at h k ⊢
  exact fun q => by
    by_cases e : ltS a b
    · exact k (ltS_tr _ _ _ q e)
    · have := ltS_tot e h
      subst this
      exact k q
theorem leB_total (a b : Str) : (leB a b || leB b a) = true := by
  simp only [leB, Bool.or_eq_true, Bool.not_eq_true', decide_eq_false_iff_not]
  by_cases h : ltS b a
  · exact .inr fun q => ltS_irr _ (ltS_tr _ _ _ h q)
  · exact .inl h
def sortS (xs : List Str) : List Str := xs.mergeSort leB
theorem mem_sortS {xs : List Str} {z : Str} : z ∈ sortS xs ↔ z ∈ xs := List.mem_mergeSort
theorem sortS_len (xs : List Str) : (sortS xs).length = xs.length := List.length_mergeSort _
theorem sortS_rising {xs : List Str} (h : xs.Nodup) : (sortS xs).Pairwise ltS := by
  have h1 : (sortS xs).Pairwise (fun a b => leB a b = true) := List.pairwise_mergeSort leB_trans leB_total xs
  have h2 : (sortS xs).Pairwise (· ≠ ·) := (List.mergeSort_perm xs leB).nodup_iff.mpr h
  refine List.Pairwise.imp₂ ?_ h1 h2
  intro a b q n
  simp only [leB, Bool.not_eq_true', decide_eq_false_iff_not] at q
  exact Classical.byContradiction fun c => n (ltS_tot c q)
/-- what is strictly rising with the same members is the sorted list -/
theorem sortS_eq {xs l : List Str} (h : xs.Nodup) (hl : l.Pairwise ltS) (hm : ∀ z, z ∈ l ↔ z ∈ xs) : l = sortS xs :=
  rising_ext ltS_irr ltS_tr hl (sortS_rising h) fun z => (hm z).trans mem_sortS.symm

/-! ### pairs of texts -/
abbrev Two := Str × Str
def ltP (p q : Two) : Prop := ltS p.1 q.1 ∨ (p.1 = q.1 ∧ ltS p.2 q.2)
instance (p q : Two) : Decidable (ltP p q) := by unfold ltP; infer_instance
theorem ltP_irr (p : Two) : ¬ ltP p p := by
  rintro (h | ⟨_, h⟩) <;> exact ltS_irr _ h
theorem ltP_tr (p q r : Two) (h : ltP p q) (k : ltP q r) : ltP p r := by
  obtain ⟨p1, p2⟩ := p
  obtain ⟨q1, q2⟩ := q
  obtain ⟨r1, r2⟩ := r
  rcases h with h | ⟨e, h⟩ <;> rcases k with k | ⟨f, k⟩
  · exact .inl (ltS_tr _ _ _ h k)
  · simp only at f; subst f; exact .inl h
  · simp only at e; subst e; exact .inl k
  · simp only at e f; subst e f; exact .inr ⟨rfl, ltS_tr _ _ _ h k⟩
theorem ltP_tot {p q : Two} (h : ¬ ltP p q) (k : ¬ ltP q p) : p = q := by
  obtain ⟨p1, p2⟩ := p
  obtain ⟨q1, q2⟩ := q
  simp only [ltP, not_or, not_and] at h k
  have e : p1 = q1 := ltS_tot h.1 k.1
  subst e
  rw [ltS_tot (h.2 rfl) (k.2 rfl)]
def lePB (a b : Two) : Bool := !decide (ltP b a)
theorem lePB_trans (a b c : Two) (h : lePB a b = true) (k : lePB b c = true) : lePB a c = true := by
  simp only [lePB, Bool.not_eq_true', decide_eq_false_iff_not] at h k ⊢
  exact fun q => by
    by_cases e : ltP a b
    · exact k (ltP_tr _ _ _ q e)
    · have := ltP_tot e h
      subst this
      exact k q
theorem lePB_total (a b : Two) : (lePB a b || lePB b a) = true := by
  simp only [lePB, Bool.or_eq_true, Bool.not_eq_true', decide_eq_false_iff_not]
  by_cases h : ltP b a
  · exact .inr fun q => ltP_irr _ (ltP_tr _ _ _ h q)
  · exact .inl h
def sortP (xs : List Two) : List Two := xs.mergeSort lePB
theorem mem_sortP {xs : List Two} {z : Two} : z ∈ sortP xs ↔ z ∈ xs := List.mem_mergeSort
theorem sortP_len (xs : List Two) : (sortP xs).length = xs.length := List.length_mergeSort _
theorem sortP_rising {xs : List Two} (h : xs.Nodup) : (sortP xs).Pairwise ltP := by
  have h1 : (sortP xs).Pairwise (fun a b => lePB a b = true) := List.pairwise_mergeSort lePB_trans lePB_total xs
  have h2 : (sortP xs).Pairwise (· ≠ ·) := (List.mergeSort_perm xs lePB).nodup_iff.mpr h
  refine List.Pairwise.imp₂ ?_ h1 h2
  intro a b q n
  simp only [lePB, Bool.not_eq_true', decide_eq_false_iff_not] at q
  exact Classical.byContradiction fun c => n (ltP_tot c q)
theorem sortP_eq {xs l : List Two} (h : xs.Nodup) (hl : l.Pairwise ltP) (hm : ∀ z, z ∈ l ↔ z ∈ xs) : l = sortP xs :=
  rising_ext ltP_irr ltP_tr hl (sortP_rising h) fun z => (hm z).trans mem_sortP.symm

/-! ### the machine's order is ours -/
theorem le_data_str (a b : Str) : (!PySem.W.dataLt (.str b) (.str a)) = leB a b := by
  rw [PySem.W.dataLt_str]
  rfl
theorem le_data_two (a b : Two) : (!PySem.W.dataLt (.tuple [.str b.1, .str b.2]) (.tuple [.str a.1, .str a.2])) = lePB a b := by
  rw [PySem.W.dataLt_pair rfl rfl, PySem.W.dataLt_str, PySem.W.dataLt_str]
  unfold lePB
  congr 1
  have q : ∀ x y : Str, (PyData.eqv (.str x) (.str y) = true) = (x = y) := fun x y => by simp [PyData.eqv]
  simp only [q]
  by_cases h : b.1 = a.1
  · by_cases k : b.2 = a.2
    · have e : b = a := Prod.ext h k
      subst e
      simp [ltP_irr]
    · simp only [h, k, if_true, if_false, ltP]
      by_cases z : ltS b.2 a.2
      · simp [z]
      · simp [z, ltS_irr]
  · simp only [h, if_false, ltP]
    by_cases z : ltS b.1 a.1 <;> simp [z, h]
end Wl

namespace Wl
open PySem PySem.Spec PyProof.Rows L2

/-! ### defs that keep promises, by name -/
def Has (P : Program) (w : World) (K : PySem.W.Frag) (mg : Str → Option Value) (base : Heap) (x : Str) (k : Nat) (ps : List Str) (sp : Sp) : Prop :=
  ∃ f fd, FnOk P w K mg base CX0 k f fd ps sp ∧ mg x = some (.ref f) ∧ PySem.W.keepIn K (.ref f) = true ∧ Binds K fd ps []
def HasM (P : Program) (w : World) (K : PySem.W.Frag) (mg : Str → Option Value) (base : Heap) (C : Addr) (m : Str) (k : Nat) (ps : List Str) (sp : Sp) : Prop :=
  ∃ f fd, FnOk P w K mg base CX0 k f fd ps sp ∧ Meth K C m f ∧ Binds K fd ps []
section
variable {X : Cx} {k j : Nat} {C : Addr} {ps ks : List Str} {sp : Sp} {x m : Str} {p pos apos : Pos} {e o : Expr} {es : List Expr} {kws : List Keyword} {ta : TE} {t tk : TA}
theorem pe_h (h : Has X.prog X.w X.K X.mg X.base x k ps sp) (hr : Room j X.A) (ha : PA X (e :: es) t) (hkj : k ≤ j := by decide) (hg : Gl X x := by rfl) (hdb : (x == ("__debug__" : Str)) = false := by decide)
    (he : starEach (e :: es) X.env = (false, eval e X.env) :: starEach es X.env := by rfl) (hpl : (backTo pos (starEach es X.env)).any (·.1) = false := by rfl) :
    PE X (.Call (.Name x p) (e :: es) [] pos) (tCall sp [] E0 t) := by
  obtain ⟨f, fd, F, g, kp, b⟩ := h
  exact pe_call F (hr.mono hkj) hg g kp b .nil pass0 ha hdb he hpl
theorem pe_h0 (h : Has X.prog X.w X.K X.mg X.base x k ps sp) (hr : Room j X.A) (hkj : k ≤ j := by decide) (hg : Gl X x := by rfl) (hdb : (x == ("__debug__" : Str)) = false := by decide) :
    PE X (.Call (.Name x p) [] [] pos) (tCall sp [] E0 tNil) := by
  obtain ⟨f, fd, F, g, kp, b⟩ := h
  exact pe_call0 F (hr.mono hkj) hg g kp b .nil pass0 hdb
theorem pe_hm {pl : Sem Bool} (h : HasM X.prog X.w X.K X.mg X.base C m k ps sp) (c : Cls X.K C) (hr : Room j X.A) (ho : PE X o ta) (ha : PA X (e :: es) t) (hkj : k ≤ j := by decide)
    (hst : starEach (e :: es) X.env = (false, eval e X.env) :: starEach es X.env := by rfl) (hpl : (backTo pos (starEach es X.env)).any (·.1) = false := by rfl)
    (ht : eval (.Call (.Attribute o m apos) (e :: es) [] pos) X.env = (do
      let ov ← eval o X.env
      standAt apos.atName
      let (f, first) ← holding [ov] (getMethod ov m pl)
      callWith pos f first (backTo pos (starEach (e :: es) X.env)) (backToKw pos (keywordEach [] X.env))) := by rfl) :
    PE X (.Call (.Attribute o m apos) (e :: es) [] pos) (tMeth C m sp [] E0 ta t) := by
  obtain ⟨f, fd, F, g, b⟩ := h
  exact pe_meth ho c g F (hr.mono hkj) b .nil pass0 ha hst hpl ht
theorem pe_hm0 {pl : Sem Bool} (h : HasM X.prog X.w X.K X.mg X.base C m k ps sp) (c : Cls X.K C) (hr : Room j X.A) (ho : PE X o ta) (hkj : k ≤ j := by decide)
    (ht : eval (.Call (.Attribute o m apos) [] [] pos) X.env = (do
      let ov ← eval o X.env
      standAt apos.atName
      let (f, first) ← holding [ov] (getMethod ov m pl)
      callWith pos f first (backTo pos (starEach [] X.env)) (backToKw pos (keywordEach [] X.env))) := by rfl) :
    PE X (.Call (.Attribute o m apos) [] [] pos) (tMeth C m sp [] E0 ta tNil) := by
  obtain ⟨f, fd, F, g, b⟩ := h
  exact pe_meth0 ho c g F (hr.mono hkj) b .nil pass0 ht
end

/-! ### heaps -/
theorem same_new {H : Hp} {p : Addr} {o : HO} (h : H p = none) : Same H (upd H p o) := fun b x e => by
  rw [upd_ne (ne_of_none e h)]
  exact e
theorem same_mut {H H' : Hp} {p : Addr} {o : HO} (s : Same H H') (h : H p = none) : Same H (upd H' p o) := fun b x e => by
  rw [upd_ne (ne_of_none e h)]
  exact s b x e
theorem tup_same {K : PySem.W.Frag} {H H' : Hp} {a : Addr} {xs : List V} (e : Same H H') (h : SqT K H a xs) : SqT K H' a xs := by
  rcases h with (h | ⟨o, h⟩) | h
  · exact .inl (.inl (e _ _ h))
  · exact .inl (.inr ⟨o, e _ _ h⟩)
  · exact .inr h
/-- all but what stands at a is as it was -/
def SameX (a : Addr) (H H' : Hp) : Prop := ∀ b o, b ≠ a → H b = some o → H' b = some o
theorem SameX.refl (a : Addr) (H : Hp) : SameX a H H := fun _ _ _ h => h
theorem SameX.trans {a : Addr} {H H1 H2 : Hp} (s : SameX a H H1) (t : SameX a H1 H2) : SameX a H H2 := fun b o n h => t b o n (s b o n h)
theorem sx {a : Addr} {H H' : Hp} (s : Same H H') : SameX a H H' := fun b o _ h => s b o h
theorem sameX_upd {a : Addr} {H : Hp} {o : HO} : SameX a H (upd H a o) := fun b u n h => by rw [upd_ne n]; exact h
/-- an object that H does not know may change -/
theorem sameX_mut {a : Addr} {H H' : Hp} {p : Addr} {o : HO} (s : SameX a H H') (h : H p = none) : SameX a H (upd H' p o) := fun b u n e => by
  rw [upd_ne (ne_of_none e h)]
  exact s b u n e
theorem SameX.free {a l : Addr} {H H' : Hp} (e : SameX a H H') (n : l ≠ a) (h : H' l = none) : H l = none := by
  cases q : H l with
  | none => rfl
  | some o =>
    rw [e l o n q] at h
    cases h
theorem SameX.tup {K : PySem.W.Frag} {a p : Addr} {H H' : Hp} {xs ys : List V} (e : SameX a H H') (ha : H a = some (.lst ys)) (h : SqT K H p xs) : SqT K H' p xs := by
  rcases h with (h | ⟨o, h⟩) | h
  · exact .inl (.inl (e _ _ (ne_of h ha (by intro z; cases z)) h))
  · exact .inl (.inr ⟨o, e _ _ (ne_of h ha (by intro z; cases z)) h⟩)
  · exact .inr h

/-! ### tests whose answer is known -/
theorem ite_b {b : Bool} {A B : Prop} (h1 : b = true → A) (h2 : b = false → B) : if b = true then A else B := by
  cases b with
  | true => exact iteT (h1 rfl)
  | false => exact iteF (h2 rfl)
theorem not_b {b : Bool} {A B : Prop} (h1 : b = false → A) (h2 : b = true → B) : if (!b) = true then A else B := by
  cases b with
  | true => exact iteF (h2 rfl)
  | false => exact iteT (h1 rfl)

theorem yes_it {σ : L2.St} {H : Hp} {A B : Hp → Prop} (h : A H) : tYes σ H (fun b H' => if b = true then A H' else B H') := by
  show if true = true then A H else B H
  rw [if_pos rfl]
  exact h
theorem lz {n : Nat} (h : Nat.ble n 1000 = true := by rfl) : n ≤ sizeLine := Nat.le_trans (Nat.le_of_ble_eq_true h) (by decide)
theorem lzl {n : Nat} (h : n ≤ 1000) : n ≤ sizeLine := Nat.le_trans h (by decide)

/-! ### words -/
def wdB (z : Str) : Bool := decide (1 ≤ z.length) && decide (z.length ≤ 8) && z.cps.toList.all fun c => decide (97 ≤ c) && decide (c ≤ 122)
def IsWd (z : Str) : Prop := wdB z = true
instance (z : Str) : Decidable (IsWd z) := inferInstanceAs (Decidable (wdB z = true))
def oV : Option Str → V
  | none => .non
  | some z => .str z

/-! ### the built-ins that the text leaves as they are -/
structure Bi (mg : Str → Option Value) : Prop where
  len : mg "len" = none
  range : mg "range" = none
  isi : mg "isinstance" = none
  tuple : mg "tuple" = none
  list : mg "list" = none
  sorted : mg "sorted" = none
  all : mg "all" = none
  int : mg "int" = none
  max : mg "max" = none
  min : mg "min" = none
  enum : mg "enumerate" = none
  str : mg "str" = none
end Wl
namespace Wl
open PySem PySem.Spec PyProof.Rows L2
theorem atI_tab {ns : List Int} {r : Int} (h0 : 0 ≤ r) (h : r < ns.length) : ∃ n ∈ ns, atI (ns.map V.int) r = some (.int n) := by
  have hr : r.toNat < ns.length := by omega
  refine ⟨ns[r.toNat], List.getElem_mem hr, at_of (j := r.toNat) (by omega) ?_⟩
  rw [List.getElem?_map, List.getElem?_eq_getElem hr]
  rfl
theorem atI_strs {zs : List Str} {r : Int} (h0 : 0 ≤ r) (h : r < zs.length) : ∃ z ∈ zs, atI (zs.map V.str) r = some (.str z) := by
  have hr : r.toNat < zs.length := by omega
  refine ⟨zs[r.toNat], List.getElem_mem hr, at_of (j := r.toNat) (by omega) ?_⟩
  rw [List.getElem?_map, List.getElem?_eq_getElem hr]
  rfl
theorem letters_eq : ("abcdefghijklmnopqrstuvwxyz" : Str).cps.toList = List.range' 97 26 := by decide +kernel
theorem letter_at {r : Int} (h0 : 0 ≤ r) (h : r < 26) : atI ("abcdefghijklmnopqrstuvwxyz" : Str).cps.toList r = some (97 + r.toNat) := by
  rw [letters_eq]
  refine at_of' (j := r.toNat) (by omega) ?_
  rw [List.getElem?_range' (by omega)]
  congr 1
  omega
where
  at_of' {xs : List Nat} {z : Int} {j : Nat} {v : Nat} (e : z = (j : Int)) (h : xs[j]? = some v) : atI xs z = some v := by
    rw [e]
    exact atI_nat h
def sign (c : Nat) : Str := ⟨#[c]⟩
theorem joinL_flat : ∀ ps : List (List Nat), TL.joinL [] ps = ps.flatten
  | [] => rfl
  | [p] => by simp [TL.joinL]
  | p :: q :: r => by
    show p ++ ([] ++ TL.joinL [] (q :: r)) = _
    rw [joinL_flat (q :: r)]
    simp
theorem join_codes (ys : List Str) : (Txt.join ("" : Str) ys).cps.toList = (ys.map fun y => y.cps.toList).flatten := by
  have h := TL.tl_join ("" : Str) ys
  rw [show TL.tl ("" : Str) = [] by decide +kernel, joinL_flat] at h
  rw [TL.join_eq]
  exact h
theorem join_signs (cs : List Nat) : (Txt.join ("" : Str) (cs.map sign)).cps.toList = cs := by
  rw [join_codes, List.map_map]
  induction cs with
  | nil => rfl
  | cons c r ih => exact congrArg (c :: ·) ih
theorem isWd_of {z : Str} (h1 : 1 ≤ z.cps.toList.length) (h8 : z.cps.toList.length ≤ 8) (hc : ∀ c ∈ z.cps.toList, 97 ≤ c ∧ c ≤ 122) : IsWd z := by
  unfold IsWd wdB Str.length
  rw [Array.length_toList] at h1 h8
  simp only [Bool.and_eq_true, decide_eq_true_eq, List.all_eq_true]
  exact ⟨⟨h1, h8⟩, hc⟩
theorem IsWd.len {z : Str} (h : IsWd z) : 1 ≤ z.length ∧ z.length ≤ 8 := by
  unfold IsWd wdB at h
  simp only [Bool.and_eq_true, decide_eq_true_eq] at h
  exact h.1
end Wl

namespace Wl
open PySem PySem.Spec PyProof.Rows L2

inductive Each {α β : Type} (R : α → β → Prop) : List α → List β → Prop
  | nil : Each R [] []
  | cons {a : α} {b : β} {as : List α} {bs : List β} : R a b → Each R as bs → Each R (a :: as) (b :: bs)
section
variable {α β : Type} {R S : α → β → Prop}
theorem Each.length : ∀ {as : List α} {bs : List β}, Each R as bs → as.length = bs.length
  | _, _, .nil => rfl
  | _, _, .cons _ t => congrArg (· + 1) t.length
theorem Each.mono (h : ∀ a b, R a b → S a b) : ∀ {as : List α} {bs : List β}, Each R as bs → Each S as bs
  | _, _, .nil => .nil
  | _, _, .cons r t => .cons (h _ _ r) (t.mono h)
theorem Each.append : ∀ {as : List α} {bs : List β} {cs : List α} {ds : List β}, Each R as bs → Each R cs ds → Each R (as ++ cs) (bs ++ ds)
  | _, _, _, _, .nil, s => s
  | _, _, _, _, .cons r t, s => .cons r (t.append s)
theorem Each.get : ∀ {as : List α} {bs : List β} {i : Nat} {a : α}, Each R as bs → as[i]? = some a → ∃ b, bs[i]? = some b ∧ R a b
  | _, _, _, _, .nil, e => by simp at e
  | _, _, 0, _, .cons r _, e => by simp at e; subst e; exact ⟨_, rfl, r⟩
  | _, _, i + 1, x, .cons _ t, e => by
    obtain ⟨u, h1, h2⟩ := t.get (i := i) (a := x) (by simpa using e)
    exact ⟨u, by simpa using h1, h2⟩
theorem Each.get2 : ∀ {as : List α} {bs : List β} {i : Nat} {b : β}, Each R as bs → bs[i]? = some b → ∃ a, as[i]? = some a ∧ R a b
  | _, _, _, _, .nil, e => by simp at e
  | _, _, 0, _, .cons r _, e => by simp at e; subst e; exact ⟨_, rfl, r⟩
  | _, _, i + 1, x, .cons _ t, e => by
    obtain ⟨u, h1, h2⟩ := t.get2 (i := i) (b := x) (by simpa using e)
    exact ⟨u, by simpa using h1, h2⟩
theorem Each.mem2 : ∀ {as : List α} {bs : List β} {b : β}, Each R as bs → b ∈ bs → ∃ a ∈ as, R a b
  | _, _, _, .nil, h => by simp at h
  | _, _, _, .cons r t, h => by
    rcases List.mem_cons.mp h with rfl | h
    · exact ⟨_, List.mem_cons_self, r⟩
    · obtain ⟨a, ha, hr⟩ := t.mem2 h
      exact ⟨a, List.mem_cons_of_mem _ ha, hr⟩
theorem each_fn {f : α → β} : ∀ {as : List α} {bs : List β}, Each (fun a b => b = f a) as bs → bs = as.map f
  | _, _, .nil => rfl
  | _, _, .cons r t => by rw [List.map_cons, ← each_fn t, r]
theorem each_map_l {γ : Type} {g : γ → α} : ∀ {cs : List γ} {bs : List β}, Each R (cs.map g) bs → Each (fun c b => R (g c) b) cs bs
  | [], [], _ => .nil
  | [], _ :: _, h => nomatch h
  | _ :: _, [], h => nomatch h
  | _ :: _, _ :: _, .cons r t => .cons r (each_map_l t)
theorem each_map_r {γ : Type} {g : γ → α} : ∀ {cs : List γ} {bs : List β}, Each (fun c b => R (g c) b) cs bs → Each R (cs.map g) bs
  | _, _, .nil => .nil
  | _, _, .cons r t => .cons r (each_map_r t)
end

theorem filter_take_snoc {α : Type} {p : α → Bool} {ys : List α} {i : Nat} {x : α} (h : ys[i]? = some x) : (ys.take (i + 1)).filter p = (ys.take i).filter p ++ (if p x then [x] else []) := by
  rw [List.take_add_one, h, List.filter_append]
  congr 1
  by_cases c : p x = true
  · simp [c]
  · simp [c]

section
variable {J : It} {ys : List V} {G : Hp → Prop} {slot : Nat} {tt : TT} {te : TE} {vs : List Nat} {σ : L2.St} {H1 : Hp} {D : Addr} {Qd : Hp → Prop}
/-- a comprehension [e for x in ys if t]: each e a value that R tells of, the heap only growing -/
theorem lc_rel (w : L2.Walk J ys.length G (YAt ys)) (hD : H1 D = none) (keep : V → Bool) (R : V → V → Hp → Prop)
    (hG : ∀ H, Same H1 H → G H)
    (hw : ∀ x, wipe ((wipe σ vs).set slot (some x)) vs = wipe σ vs)
    (ht : ∀ (x : V) (H : Hp), x ∈ ys → Same H1 H → ∀ Q : Bool → Hp → Prop, Q (keep x) H → tt ((wipe σ vs).set slot (some x)) H Q)
    (he : ∀ (x : V) (H : Hp), x ∈ ys → keep x = true → Same H1 H → ∀ Q : VK, (∀ y H', Same H H' → R x y H' → Q y H') → te ((wipe σ vs).set slot (some x)) H Q)
    (hR : ∀ x y H H' acc, H D = some (.lst acc) → SameX D H H' → R x y H → R x y H')
    (hn : ys.length < sizeLine)
    (hd : ∀ zs H, Same H1 H → H D = some (.lst zs) → Each (fun x z => R x z H) (ys.filter keep) zs → Qd H) :
    ∃ W : Nat → Nat → Hp → Prop, (∃ m, W 0 m (upd H1 D (.lst []))) ∧ ∀ i m H, W i m H →
      (J.stop i H ∧ Qd H) ∨ (J.go i H ∧ ∃ Nx : Hp → Prop, (∀ H', Nx H' → ∃ m', m' < m ∧ W (i + 1) m' H') ∧ ∀ x H', J.yld i H x H' → gName slot x (wipe σ vs) H' fun σ2 H2 => wipe σ2 vs = wipe σ vs ∧ tt σ2 H2 fun b H3 =>
        if b = true then te σ2 H3 fun y H4 => ∃ acc, H4 D = some (.lst acc) ∧ acc.length < sizeLine ∧ Nx (upd H4 D (.lst (acc ++ [y]))) else Nx H3) := by
  refine lc_it w (fun i H => ∃ zs, Same H1 H ∧ H D = some (.lst zs) ∧ Each (fun x z => R x z H) ((ys.take i).filter keep) zs) ⟨[], same_new hD, upd_same, by simpa using Each.nil⟩ (fun i H _ h => ?_) ?_ ?_
  · obtain ⟨zs, s, _⟩ := h
    exact hG H s
  · rintro i x H H' hi ⟨zs, s, hz, ez⟩ ⟨rfl, hx⟩
    have hm : x ∈ ys := List.mem_of_getElem? hx
    refine ⟨hw x, ht x _ hm s _ ?_⟩
    have hf := filter_take_snoc (p := keep) hx
    refine ite_b (fun e => ?_) (fun e => ?_)
    · refine he x _ hm e s _ fun y H4 s4 r4 => ⟨zs, s4 _ _ hz, ?_, zs ++ [y], same_mut (s.trans s4) hD, upd_same, ?_⟩
      · have h1 := ez.length
        have h2 : ((ys.take i).filter keep).length ≤ (ys.take i).length := List.length_filter_le _ _
        have h3 : (ys.take i).length ≤ ys.length := List.length_take_le' _ _
        omega
      · rw [hf, if_pos e]
        have hD4 : H4 D = some (.lst zs) := s4 _ _ hz
        refine Each.append (ez.mono fun a b r => ?_) (.cons ?_ .nil)
        · exact hR _ _ _ _ _ hz (fun b o n h => by rw [upd_ne n]; exact s4 _ _ h) r
        · exact hR _ _ _ _ _ hD4 sameX_upd r4
    · refine ⟨zs, s, hz, ?_⟩
      rw [hf, if_neg (by rw [e]; decide), List.append_nil]
      exact ez
  · rintro H ⟨zs, s, hz, ez⟩
    rw [List.take_length] at ez
    exact hd zs H s hz ez
/-- the same, each e a plain value, the heap as it was -/
theorem lc_map (w : L2.Walk J ys.length G (YAt ys)) (hD : H1 D = none) (keep : V → Bool) (f : V → V)
    (hG : ∀ H, Same H1 H → G H)
    (hw : ∀ x, wipe ((wipe σ vs).set slot (some x)) vs = wipe σ vs)
    (ht : ∀ (x : V) (H : Hp), x ∈ ys → Same H1 H → ∀ Q : Bool → Hp → Prop, Q (keep x) H → tt ((wipe σ vs).set slot (some x)) H Q)
    (he : ∀ (x : V) (H : Hp), x ∈ ys → keep x = true → Same H1 H → ∀ Q : VK, Q (f x) H → te ((wipe σ vs).set slot (some x)) H Q)
    (hn : ys.length < sizeLine)
    (hd : ∀ H, Same H1 H → H D = some (.lst ((ys.filter keep).map f)) → Qd H) :
    ∃ W : Nat → Nat → Hp → Prop, (∃ m, W 0 m (upd H1 D (.lst []))) ∧ ∀ i m H, W i m H →
      (J.stop i H ∧ Qd H) ∨ (J.go i H ∧ ∃ Nx : Hp → Prop, (∀ H', Nx H' → ∃ m', m' < m ∧ W (i + 1) m' H') ∧ ∀ x H', J.yld i H x H' → gName slot x (wipe σ vs) H' fun σ2 H2 => wipe σ2 vs = wipe σ vs ∧ tt σ2 H2 fun b H3 =>
        if b = true then te σ2 H3 fun y H4 => ∃ acc, H4 D = some (.lst acc) ∧ acc.length < sizeLine ∧ Nx (upd H4 D (.lst (acc ++ [y]))) else Nx H3) :=
  lc_rel w hD keep (fun x y _ => y = f x) hG hw ht (fun x H hx hk s Q q => he x H hx hk s Q (q _ H (Same.refl H) rfl)) (fun _ _ _ _ _ _ _ r => r) hn fun zs H s hz ez => hd H s (by rw [hz, each_fn ez])
end
/-- a text's signs as a list -/
def signsOf (z : Str) : List V := z.cps.toList.map fun c => .str (sign c)
theorem walk_signs {z : Str} : L2.Walk (Its z) (signsOf z).length (fun _ => True) (YAt (signsOf z)) := by
  have e : (signsOf z).length = z.cps.size := by simp [signsOf]
  rw [e]
  refine ⟨fun _ _ hi _ => hi, fun _ _ => Nat.le_refl _, ?_⟩
  rintro i H x H' _ _ ⟨rfl, c, hc, rfl⟩
  refine ⟨rfl, ?_⟩
  have : z.cps.toList[i]? = some c := by simpa using hc
  simp only [signsOf, List.getElem?_map, this]
  rfl
theorem yes_pure {σ : L2.St} {H : Hp} {Q : Bool → Hp → Prop} (h : Q true H) : tYes σ H Q := h
theorem inV_strs (z : Str) (ws : List Str) : inV (.str z) (ws.map V.str) = decide (z ∈ ws) := by
  unfold inV
  induction ws with
  | nil => rfl
  | cons x r ih =>
    rw [List.map_cons, List.any_cons, ih]
    by_cases h : x = z
    · subst h
      simp [eqV]
    · have h2 : ¬ z = x := fun e => h e.symm
      simp [eqV, h, h2]
theorem flat_strs (ws : List Str) : (ws.map V.str).all flatV = true := by
  rw [List.all_eq_true]
  intro v hv
  obtain ⟨x, _, rfl⟩ := List.mem_map.mp hv
  rfl
theorem dp_strs {K : PySem.W.Frag} {H : Hp} : ∀ ws : List Str, DpAll K H (ws.map V.str) (ws.map PyData.str)
  | [] => .nil
  | z :: r => .cons (.str z) (dp_strs r)
theorem wd_ok {z : Str} (h : IsWd z) : PyData.strOk z = true := by
  unfold PyData.strOk
  rw [← Array.all_toList, List.all_eq_true]
  intro c hc
  unfold IsWd wdB at h
  simp only [Bool.and_eq_true, decide_eq_true_eq, List.all_eq_true] at h
  have := h.2 c hc
  exact decide_eq_true (by omega)
theorem lay_strs : ∀ {ws : List Str}, (∀ z ∈ ws, IsWd z) → PyData.canLayAll0 (ws.map PyData.str) = true
  | [], _ => by simp [PyData.canLayAll0]
  | z :: r, h => by
    have h1 := wd_ok (h z List.mem_cons_self)
    have h2 := lay_strs (ws := r) fun y hy => h y (List.mem_cons_of_mem _ hy)
    simp [PyData.canLayAll0, PyData.canLay0, h1, h2]
theorem depth_strs : ∀ ws : List Str, PyData.depthAll (ws.map PyData.str) = 0
  | [] => by simp [PyData.depthAll]
  | z :: r => by simp [PyData.depthAll, PyData.depth, depth_strs r]
theorem shaped_list {ds : List PyData} (h : PyData.canLayAll0 ds = true) (d : PyData.depthAll ds ≤ 60) : SeqAt.shaped (.list ds) = true := by
  unfold SeqAt.shaped
  rw [Bool.and_eq_true]
  refine ⟨by simpa [PyData.canLay0] using h, decide_eq_true ?_⟩
  simp only [PyData.depth]
  omega
theorem shaped_tuple {ds : List PyData} (h : PyData.canLayAll0 ds = true) (d : PyData.depthAll ds ≤ 60) : SeqAt.shaped (.tuple ds) = true := by
  unfold SeqAt.shaped
  rw [Bool.and_eq_true]
  refine ⟨by simpa [PyData.canLay0] using h, decide_eq_true ?_⟩
  simp only [PyData.depth]
  omega
theorem cut_hi (z : Str) (k : Nat) : (cutS z none (some (k : Int))).cps.toList = z.cps.toList.take k := by
  show ((z.cps.toList.drop (HT.sIx z.length 0 none)).take (HT.sIx z.length z.length (some (k : Int)) - HT.sIx z.length 0 none)) = _
  rw [HT.sIx_none, HT.sIx_nat, Nat.sub_zero, List.drop_zero]
  have : z.length = z.cps.toList.length := by simp [Str.length]
  rw [this]
  by_cases h : k ≤ z.cps.toList.length
  · rw [Nat.min_eq_left h]
  · rw [Nat.min_eq_right (by omega), List.take_length, List.take_of_length_le (by omega)]
end Wl

namespace Wl
open PySem PySem.Spec PyProof.Rows L2
inductive Wh where
  | first | last | any
  deriving DecidableEq
def whS : Wh → Str
  | .first => "first"
  | .last => "last"
  | .any => "any"
abbrev Chg := Nat × Nat × Wh
def isLet (c : Nat) : Prop := 97 ≤ c ∧ c ≤ 122
instance (c : Nat) : Decidable (isLet c) := by unfold isLet; infer_instance
def OkC (ch : Chg) : Prop := isLet ch.1 ∧ isLet ch.2.1 ∧ ch.1 ≠ ch.2.1
def acts (wh : Wh) (i n : Nat) : Bool := match wh with
  | .first => decide (i = 0)
  | .last => decide (i + 1 = n)
  | .any => true
abbrev Edges := List (Nat × Nat)
def es (chs : List Chg) (i n : Nat) : Edges := (chs.filter fun ch => acts ch.2.2 i n).map fun ch => (ch.1, ch.2.1)
def nbE (c : Nat) (e : Nat × Nat) : List Nat := (if e.1 = c then [e.2] else []) ++ (if e.2 = c then [e.1] else [])
def nbrs (E : Edges) (c : Nat) : List Nat := E.flatMap (nbE c)
theorem mem_nbrs {E : Edges} {c d : Nat} : d ∈ nbrs E c ↔ (c, d) ∈ E ∨ (d, c) ∈ E := by
  unfold nbrs nbE
  rw [List.mem_flatMap]
  constructor
  · rintro ⟨⟨x, y⟩, he, h⟩
    rcases List.mem_append.mp h with k | k
    · by_cases q : x = c
      · rw [if_pos q, List.mem_singleton] at k
        rw [k, ← q]
        exact .inl he
      · rw [if_neg q] at k
        cases k
    · by_cases q : y = c
      · rw [if_pos q, List.mem_singleton] at k
        rw [k, ← q]
        exact .inr he
      · rw [if_neg q] at k
        cases k
  · rintro (h | h)
    · exact ⟨(c, d), h, List.mem_append_left _ (by simp)⟩
    · exact ⟨(d, c), h, List.mem_append_right _ (by simp)⟩
theorem nbrs_symm {E : Edges} {c d : Nat} (h : d ∈ nbrs E c) : c ∈ nbrs E d := mem_nbrs.mpr ((mem_nbrs.mp h).symm)
theorem nbrs_snoc (E : Edges) (x y c : Nat) : nbrs (E ++ [(x, y)]) c = nbrs E c ++ ((if x = c then [y] else []) ++ (if y = c then [x] else [])) := by
  unfold nbrs
  rw [List.flatMap_append]
  simp [nbE]
inductive Conn (E : Edges) : Nat → Nat → Prop
  | refl (a : Nat) : Conn E a a
  | step {a b c : Nat} : Conn E a b → c ∈ nbrs E b → Conn E a c
theorem Conn.trans {E : Edges} {a b c : Nat} (h : Conn E a b) (k : Conn E b c) : Conn E a c := by
  induction k with
  | refl => exact h
  | step _ m ih => exact .step ih m
theorem Conn.symm {E : Edges} {a b : Nat} (h : Conn E a b) : Conn E b a := by
  induction h with
  | refl => exact .refl _
  | step _ m ih => exact (Conn.step (.refl _) (nbrs_symm m)).trans ih
def OkE (E : Edges) : Prop := ∀ e ∈ E, isLet e.1 ∧ isLet e.2
theorem conn_let {E : Edges} (ok : OkE E) {a b : Nat} (h : Conn E a b) (ha : isLet a) : isLet b := by
  induction h with
  | refl => exact ha
  | step _ m _ =>
    rcases mem_nbrs.mp m with m | m
    · exact (ok _ m).2
    · exact (ok _ m).1
theorem es_ok {chs : List Chg} (h : ∀ ch ∈ chs, OkC ch) (i n : Nat) : OkE (es chs i n) := fun e he => by
  obtain ⟨ch, hc, rfl⟩ := List.mem_map.mp he
  have := h ch (List.mem_filter.mp hc).1
  exact ⟨this.1, this.2.1⟩
theorem least_of (p : Nat → Prop) : ∀ n, p n → ∃ m, p m ∧ ∀ d, p d → m ≤ d := by
  intro n
  induction n using Nat.strongRecOn with
  | _ n ih =>
    intro hn
    by_cases h : ∃ k, k < n ∧ p k
    · obtain ⟨k, hk, pk⟩ := h
      exact ih k hk pk
    · exact ⟨n, hn, fun d hd => Nat.le_of_not_lt fun q => h ⟨d, q, hd⟩⟩
noncomputable def lo (E : Edges) (c : Nat) : Nat := Classical.choose (least_of (Conn E c) c (.refl c))
theorem lo_conn (E : Edges) (c : Nat) : Conn E c (lo E c) := (Classical.choose_spec (least_of (Conn E c) c (.refl c))).1
theorem lo_le {E : Edges} {c d : Nat} (h : Conn E c d) : lo E c ≤ d := (Classical.choose_spec (least_of (Conn E c) c (.refl c))).2 d h
theorem lo_self (E : Edges) (c : Nat) : lo E c ≤ c := lo_le (.refl c)
theorem lo_eq {E : Edges} {c d : Nat} : lo E c = lo E d ↔ Conn E c d := by
  constructor
  · intro e
    have h1 := lo_conn E c
    have h2 := lo_conn E d
    rw [← e] at h2
    exact h1.trans h2.symm
  · intro h
    exact Nat.le_antisymm (lo_le (h.trans (lo_conn E d))) (lo_le (h.symm.trans (lo_conn E c)))
theorem lo_of {E : Edges} {c m : Nat} (h : Conn E c m) (k : ∀ d, Conn E c d → m ≤ d) : lo E c = m := Nat.le_antisymm (lo_le h) (k _ (lo_conn E c))
/-! ### words -/
abbrev codes (z : Str) : List Nat := z.cps.toList
def ofC (l : List Nat) : Str := ⟨l.toArray⟩
theorem codes_ofC (l : List Nat) : codes (ofC l) = l := rfl
noncomputable def mean (chs : List Chg) (z : Str) : Str := ofC ((codes z).mapIdx fun i c => lo (es chs i (codes z).length) c)
theorem mean_len (chs : List Chg) (z : Str) : (codes (mean chs z)).length = (codes z).length := by
  unfold mean
  rw [codes_ofC, List.length_mapIdx]
theorem mean_at (chs : List Chg) (z : Str) {i c : Nat} (h : (codes z)[i]? = some c) : (codes (mean chs z))[i]? = some (lo (es chs i (codes z).length) c) := by
  unfold mean
  rw [codes_ofC, List.getElem?_mapIdx, h]
  rfl
/-- they are one: as long, and at each place the letters hang together -/
def OneP (chs : List Chg) (z y : Str) : Prop := (codes z).length = (codes y).length ∧ ∀ i a b, (codes z)[i]? = some a → (codes y)[i]? = some b → Conn (es chs i (codes z).length) b a
theorem one_iff {chs : List Chg} {z y : Str} : OneP chs z y ↔ (codes z).length = (codes y).length ∧ mean chs z = mean chs y := by
  constructor
  · rintro ⟨hl, h⟩
    refine ⟨hl, str_ext ?_⟩
    refine List.ext_getElem? fun i => ?_
    by_cases hi : i < (codes z).length
    · have h1 : (codes z)[i]? = some (codes z)[i] := List.getElem?_eq_getElem hi
      have h2 : (codes y)[i]? = some ((codes y)[i]'(by omega)) := List.getElem?_eq_getElem (by omega)
      have e1 := mean_at chs z h1
      have e2 := mean_at chs y h2
      rw [e1, e2, hl]
      rw [hl] at h
      exact congrArg some (lo_eq.mpr (h i _ _ h1 h2).symm)
    · have q1 : (codes (mean chs z))[i]? = none := List.getElem?_eq_none (by rw [mean_len]; omega)
      have q2 : (codes (mean chs y))[i]? = none := List.getElem?_eq_none (by rw [mean_len]; omega)
      exact q1.trans q2.symm
  · rintro ⟨hl, e⟩
    refine ⟨hl, fun i a b ha hb => ?_⟩
    have e1 := mean_at chs z ha
    have e2 := mean_at chs y hb
    rw [e, e2, ← hl] at e1
    exact lo_eq.mp (Option.some.inj e1)
theorem mean_mean {chs : List Chg} (z : Str) : mean chs (mean chs z) = mean chs z := by
  refine str_ext (List.ext_getElem? fun i => ?_)
  have l1 := mean_len chs z
  have l2 := mean_len chs (mean chs z)
  by_cases hi : i < (codes z).length
  · have h1 : (codes z)[i]? = some (codes z)[i] := List.getElem?_eq_getElem hi
    have e1 := mean_at chs z h1
    have e2 := mean_at chs (mean chs z) e1
    rw [e2, e1, l1]
    exact congrArg some (lo_eq.mpr (lo_conn _ _).symm)
  · have q1 : (codes (mean chs (mean chs z)))[i]? = none := List.getElem?_eq_none (by rw [mean_len, mean_len]; omega)
    have q2 : (codes (mean chs z))[i]? = none := List.getElem?_eq_none (by rw [mean_len]; omega)
    exact q1.trans q2.symm
theorem one_mean (chs : List Chg) (z : Str) : OneP chs (mean chs z) z := one_iff.mpr ⟨mean_len chs z, mean_mean z⟩
theorem one_symm {chs : List Chg} {z y : Str} : OneP chs z y ↔ OneP chs y z := by
  rw [one_iff, one_iff]
  constructor <;> rintro ⟨a, b⟩ <;> exact ⟨a.symm, b.symm⟩
theorem lt_no : ∀ {l m : List Nat}, l.length = m.length → (∀ (i a b : Nat), l[i]? = some a → m[i]? = some b → a ≤ b) → ¬ m < l
  | [], [], _, _ => List.lt_irrefl _
  | a :: l, b :: m, hl, h => by
    have h0 : a ≤ b := h 0 a b rfl rfl
    have ih := lt_no (l := l) (m := m) (by simpa using hl) fun i x y hx hy => h (i + 1) x y (by simpa using hx) (by simpa using hy)
    intro q
    rcases List.cons_lt_cons_iff.mp q with q | ⟨e, q⟩
    · omega
    · exact ih q
  | [], b :: m, hl, _ => by simp at hl
  | a :: l, [], hl, _ => by simp at hl
theorem mean_le (chs : List Chg) (z : Str) : ¬ ltS z (mean chs z) := by
  refine lt_no (mean_len chs z) fun i a b ha hb => ?_
  rw [mean_at chs z hb] at ha
  cases ha
  exact lo_self _ _
theorem es_nil (i n : Nat) : es [] i n = [] := rfl
theorem conn_nil {a b : Nat} (h : Conn [] a b) : a = b := by
  induction h with
  | refl => rfl
  | step _ m _ => cases m
theorem one_plain {z y : Str} : OneP [] z y ↔ z = y := by
  constructor
  · rintro ⟨hl, h⟩
    refine str_ext (List.ext_getElem? fun i => ?_)
    by_cases hi : i < (codes z).length
    · have h1 : (codes z)[i]? = some (codes z)[i] := List.getElem?_eq_getElem hi
      have h2 : (codes y)[i]? = some ((codes y)[i]'(by omega)) := List.getElem?_eq_getElem (by omega)
      exact h1.trans ((congrArg some (conn_nil (h i _ _ h1 h2)).symm).trans h2.symm)
    · have q1 : (codes z)[i]? = none := List.getElem?_eq_none (by omega)
      have q2 : (codes y)[i]? = none := List.getElem?_eq_none (by omega)
      exact q1.trans q2.symm
  · rintro rfl
    refine ⟨rfl, fun i a b h1 h2 => ?_⟩
    rw [h1] at h2
    cases h2
    exact .refl _
theorem mean_plain (z : Str) : mean [] z = z := by
  refine str_ext (List.ext_getElem? fun i => ?_)
  have l1 := mean_len [] z
  by_cases hi : i < (codes z).length
  · have h1 : (codes z)[i]? = some (codes z)[i] := List.getElem?_eq_getElem hi
    exact (mean_at [] z h1).trans ((congrArg some (conn_nil (lo_conn _ _)).symm).trans h1.symm)
  · have q1 : (codes (mean [] z))[i]? = none := List.getElem?_eq_none (by rw [mean_len]; omega)
    have q2 : (codes z)[i]? = none := List.getElem?_eq_none (by omega)
    exact q1.trans q2.symm
theorem wd_codes {z : Str} : IsWd z ↔ (1 ≤ (codes z).length ∧ (codes z).length ≤ 8) ∧ ∀ c ∈ codes z, isLet c := by
  unfold IsWd wdB isLet Str.length codes
  rw [Array.length_toList]
  simp only [Bool.and_eq_true, decide_eq_true_eq, List.all_eq_true]
theorem mean_wd {chs : List Chg} (h : ∀ ch ∈ chs, OkC ch) {z : Str} (hz : IsWd z) : IsWd (mean chs z) := by
  obtain ⟨h1, h2⟩ := wd_codes.mp hz
  refine wd_codes.mpr ⟨by rw [mean_len]; exact h1, fun c hc => ?_⟩
  obtain ⟨i, hi, rfl⟩ := List.mem_iff_getElem.mp hc
  have hi2 : i < (codes z).length := by rw [mean_len] at hi; exact hi
  have e := mean_at chs z (List.getElem?_eq_getElem hi2)
  rw [List.getElem?_eq_getElem hi] at e
  rw [Option.some.inj e]
  exact conn_let (es_ok h _ _) (lo_conn _ _) (h2 _ (List.getElem_mem hi2))
/-! ### the walk over letters, by breadth -/
structure Bfs (E : Edges) (goal : Nat) (tw : List (Nat × Option Nat)) (at' : Nat) : Prop where
  nd : (tw.map (·.1)).Nodup
  lets : ∀ x ∈ tw.map (·.1), isLet x
  conn : ∀ x ∈ tw.map (·.1), Conn E goal x
  head : tw[0]? = some (goal, none)
  par : ∀ (i c d : Nat), tw[i]? = some (c, some d) → ∃ j o, j < i ∧ tw[j]? = some (d, o)
  non : ∀ (i c : Nat), tw[i]? = some (c, none) → i = 0
  closed : ∀ (j x : Nat) (o : Option Nat), j < at' → tw[j]? = some (x, o) → ∀ y ∈ nbrs E x, y ∈ tw.map (·.1)
theorem Bfs.start {E : Edges} {goal : Nat} (h : isLet goal) : Bfs E goal [(goal, none)] 0 := by
  refine ⟨by simp, ?_, ?_, rfl, ?_, ?_, fun j x o hj => by omega⟩
  · intro x hx
    simp at hx
    subst hx
    exact h
  · intro x hx
    simp at hx
    subst hx
    exact .refl _
  · intro i c d hi
    match i, hi with
    | 0, e => cases e
    | n + 1, e => simp at e
  · intro i c hi
    match i, hi with
    | 0, _ => rfl
    | n + 1, e => simp at e
theorem Bfs.len {E : Edges} {goal : Nat} {tw : List (Nat × Option Nat)} {a : Nat} (b : Bfs E goal tw a) : tw.length ≤ 26 := by
  have h := b.nd.length_le_of_subset (l₂ := List.range' 97 26) fun x hx => by
    have := b.lets x hx
    rw [List.mem_range'_1]
    unfold isLet at this
    omega
  simpa using h
theorem Bfs.push {E : Edges} {goal x y : Nat} {tw : List (Nat × Option Nat)} {a : Nat} {o : Option Nat} (b : Bfs E goal tw a) (hx : tw[a]? = some (x, o)) (hy : y ∈ nbrs E x) (hl : isLet y) (hn : y ∉ tw.map (·.1)) : Bfs E goal (tw ++ [(y, some x)]) a := by
  have ha : a < tw.length := (List.getElem?_eq_some_iff.mp hx).1
  have old : ∀ {i : Nat} {p : Nat × Option Nat}, tw[i]? = some p → (tw ++ [(y, some x)])[i]? = some p := fun {i p} h => by
    rw [List.getElem?_append_left (List.getElem?_eq_some_iff.mp h).1]
    exact h
  have back : ∀ {i : Nat} {p : Nat × Option Nat}, (tw ++ [(y, some x)])[i]? = some p → tw[i]? = some p ∨ (i = tw.length ∧ p = (y, some x)) := fun {i p} h => by
    by_cases q : i < tw.length
    · rw [List.getElem?_append_left q] at h
      exact .inl h
    · rw [List.getElem?_append_right (by omega)] at h
      have : i - tw.length = 0 := by
        have := (List.getElem?_eq_some_iff.mp h).1
        simp at this
        omega
      rw [this] at h
      simp at h
      exact .inr ⟨by omega, h.symm⟩
  refine ⟨?_, ?_, ?_, old b.head, ?_, ?_, ?_⟩
  · rw [List.map_append, List.nodup_append]
    refine ⟨b.nd, by simp, fun u hu v hv e => ?_⟩
    simp at hv
    subst hv e
    exact hn hu
  · intro u hu
    rw [List.map_append] at hu
    rcases List.mem_append.mp hu with hu | hu
    · exact b.lets u hu
    · simp at hu
      subst hu
      exact hl
  · intro u hu
    rw [List.map_append] at hu
    rcases List.mem_append.mp hu with hu | hu
    · exact b.conn u hu
    · simp at hu
      subst hu
      exact .step (b.conn x (List.mem_map.mpr ⟨_, List.mem_of_getElem? hx, rfl⟩)) hy
  · intro i c d hi
    rcases back hi with h | ⟨e, h⟩
    · obtain ⟨j, o', hj, h'⟩ := b.par i c d h
      exact ⟨j, o', hj, old h'⟩
    · cases h
      exact ⟨a, o, by omega, old hx⟩
  · intro i c hi
    rcases back hi with h | ⟨e, h⟩
    · exact b.non i c h
    · cases h
  · intro j u o' hj h v hv
    rcases back h with h | ⟨e, h⟩
    · rw [List.map_append]
      exact List.mem_append_left _ (b.closed j u o' hj h v hv)
    · omega
theorem Bfs.next {E : Edges} {goal x : Nat} {tw : List (Nat × Option Nat)} {a : Nat} {o : Option Nat} (b : Bfs E goal tw a) (hx : tw[a]? = some (x, o)) (h : ∀ y ∈ nbrs E x, y ∈ tw.map (·.1)) : Bfs E goal tw (a + 1) := by
  refine ⟨b.nd, b.lets, b.conn, b.head, b.par, b.non, fun j u o' hj hu => ?_⟩
  by_cases q : j < a
  · exact b.closed j u o' q hu
  · have : j = a := by omega
    subst this
    rw [hx] at hu
    cases hu
    exact h
theorem Bfs.done {E : Edges} {goal : Nat} {tw : List (Nat × Option Nat)} {a : Nat} (b : Bfs E goal tw a) (ha : tw.length ≤ a) {c : Nat} : c ∈ tw.map (·.1) ↔ Conn E goal c := by
  refine ⟨b.conn c, fun h => ?_⟩
  induction h with
  | refl => exact List.mem_map.mpr ⟨_, List.mem_of_getElem? b.head, rfl⟩
  | step _ m ih =>
    obtain ⟨⟨u, o⟩, hu, rfl⟩ := List.mem_map.mp ih
    obtain ⟨j, hj, e⟩ := List.mem_iff_getElem.mp hu
    exact b.closed j u o (by omega) (by rw [List.getElem?_eq_getElem hj, e]) _ m
end Wl

namespace Wl
open PySem PySem.Spec PyProof.Rows L2
/-! enumerate(a text) -/
def IteS (z : Str) : It where
  go := fun i _ => i < z.cps.size
  yld := fun i H v H' => ∃ T c, v = .ref T ∧ H T = none ∧ z.cps[i]? = some c ∧ H' = upd H T (.tup [.int (i : Nat), .str (sign c)])
  stop := fun i _ => z.cps.size ≤ i
theorem turn_enumS {P : Program} {w : World} {K : PySem.W.Frag} {elts : List Expr} {kk : Nat} {tpos : Pos} (z : Str) (t : Tok) (e it : Addr) :
    Turn P w K (.Tuple elts kk tpos) (IteS z) [e, it] e (fun i h => (∃ old, IsEnum h e it ((i : Nat) : Int) old) ∧ h.IsStrIter it (strIterType z) z t i ∧ e ≠ it) where
  mem := by simp
  obj := fun i h st b hb => by
    obtain ⟨⟨old, he⟩, ⟨o, ho, hc, hd⟩, _⟩ := st
    rcases (show b = e ∨ b = it by simpa using hb) with q | q
    · subst q; exact ⟨_, he, fun v q => nomatch q⟩
    · subst q; exact ⟨o, ho, fun v q => by rw [hd] at q; cases q⟩
  keep := fun i h h' st k => let ⟨⟨old, he⟩, ⟨o, ho, r⟩, hne⟩ := st; ⟨⟨old, k e (by simp) _ he⟩, ⟨o, k it (by simp) o ho, r⟩, hne⟩
  item := by
    intro X hP hw hK hc i pins s σ H E I hf st hg
    subst hP hw hK
    obtain ⟨⟨old, he⟩, hit, hne⟩ := st
    have hi : i < z.cps.size := hg
    obtain ⟨oi, hoi, _⟩ := id hit
    have hel : e < s.heap.objs.size := Heap.lt_size he
    have hil : it < s.heap.objs.size := Heap.lt_size hoi
    refine wpAny_pyNext_enum_itemD (Draws.text (prog := X.prog) (w := X.w) (A := X.A.in1) (I.ok.hd hc) it z t) he hit hi hne (by simp [hne]) fun y h' tk hy ho hst hTp hsz hk => ?_
    obtain ⟨c, tu, hcz, rfl⟩ := hy
    refine ⟨_, rfl, wpAny_letOwnedTupleGo_enum (s := { s with heap := h', toks := tk + 1 }) ho fun h'' he' sb => ?_⟩
    have hT2 : h''.get? s.heap.objs.size = some { cls := .type "tuple", data := .seq #[.int i tk, .str ⟨#[c]⟩ tu] } := (sb.2 _ (Nat.ne_of_gt hel)).trans hTp
    have new : ObjOk X.prog X.w (upd H s.heap.objs.size (.tup [.int (i : Nat), .str (sign c)])) h'' s.heap.objs.size (.tup [.int (i : Nat), .str (sign c)]) :=
      ⟨by show 2 ≤ sizeLine; decide, [.int i tk, .str ⟨#[c]⟩ tu], .cons ⟨_, rfl⟩ (.cons ⟨_, rfl⟩ .nil), ⟨_, hT2, rfl, _, rfl⟩⟩
    have I1 : L2.Inv X pins σ (upd H s.heap.objs.size (.tup [.int (i : Nat), .str (sign c)])) { s with heap := h'', toks := tk + 1 } :=
      I.turnedNew (ch := [e, it]) (fun b ob hb q => by
        simp only [List.mem_cons, List.not_mem_nil, or_false, not_or] at hb
        exact (sb.2 b hb.1).trans (hk b ob hb.1 hb.2 q)) hf (Nat.le_refl _) new
    have e1 : ((i + 1 : Nat) : Int) = (i : Int) + 1 := by omega
    obtain ⟨o2, ho2, r2⟩ := hst
    refine ⟨.ref s.heap.objs.size, _, I1, rfl, ⟨_, c, rfl, I.hok.fresh (Nat.le_refl _), hcz, rfl⟩, ⟨⟨.str ⟨#[c]⟩ tu, by rw [e1]; exact he'⟩, ⟨o2, (sb.2 it (Ne.symm hne)).trans ho2, r2⟩, hne⟩, fun b hb => ?_⟩
    have hb' : b < s.heap.objs.size := by
      rcases (show b = e ∨ b = it by simpa using hb) with q | q <;> subst q <;> assumption
    rw [upd_ne (Nat.ne_of_lt hb')]
    exact (hf b hb).1
  done := by
    intro X hP hw hK hc i pins s σ H E I hf st hg
    subst hP hw hK
    obtain ⟨⟨old, he⟩, hit, hne⟩ := st
    have hi : z.cps.size ≤ i := hg
    obtain ⟨f0, f1, f2, f3, f4, f5⟩ := hf it (by simp)
    have hTy : s.TypeIs (.ref e) "enumerate" := ⟨_, he, rfl⟩
    show wpAny _ _ (pyNext (.ref e)) _ _ s
    unfold pyNext
    refine wpAny_bind (wpAny_attempt (wpAny_callSpecial?_slot (name := Str.ofString "__next__") hTy F.slot_enumerate_next (wpAny_call_entry F.slot_enumerate_next hTy F.entry_enumerate_next ?_ (F.args_enumerate_next_1 _))))
    show wpAny _ _ (field (.ref e) 2 >>= _) _ _ _
    refine wpAny_bind (wpAny_field he rfl (x := .ref it) rfl (wpAny_bind ?_))
    have hx : z.cps[i]? = none := Array.getElem?_eq_none hi
    cases ha : z.cps.all (· < 128)
    · simp only [strIterType, ha, Bool.false_eq_true, if_false] at hit
      refine wpAny_nextOf_wide_end (I.ok.hd hc) hit hx fun h' x he' hx' => ?_
      obtain ⟨o, ho, hcc⟩ := hx'
      exact wpAny_bind (wpAny_isInstance (T := "StopIteration") (b := true) ⟨o, ho, hcc⟩ isSubtype_stop (wpAny_pure ⟨rfl, I.turned (t' := s.toks) (fun b o hb q => he' b o hb q) f0 f1 f3 f4 f5⟩))
    · simp only [strIterType, ha, if_true] at hit
      refine wpAny_nextOf_ascii_end (I.ok.hd hc) hit hx fun h' x he' hx' => ?_
      obtain ⟨o, ho, hcc⟩ := hx'
      exact wpAny_bind (wpAny_isInstance (T := "StopIteration") (b := true) ⟨o, ho, hcc⟩ isSubtype_stop (wpAny_pure ⟨rfl, I.turned (t' := s.toks) (fun b o hb q => he' b o hb q) f0 f1 f3 f4 f5⟩))
  self := fun A i s Q E st h => let ⟨⟨_, he⟩, _⟩ := st; wpAny_pyIter_enum he h
def iEnumS (ta : TA) : TI := fun σ H R => ta σ H fun vs H1 => ∃ z, vs = [.str z] ∧ R (IteS z) H1
theorem pi_enumS {X : Cx} {e : Expr} {ta : TA} {p pos tpos : Pos} {elts : List Expr} {kk : Nat} (hg : Gl X "enumerate") (hm : X.mg "enumerate" = none) (ha : PA X [e] ta) (hs : starEach [e] X.env = [(false, eval e X.env)] := by rfl) :
    PI X (.Tuple elts kk tpos) (.Call (.Name "enumerate" p) [e] [] pos) (iEnumS ta) := by
  refine ⟨fun pins s σ H R I h => ?_⟩
  refine Call_ (ld_blt I hg hm boot_enumerate (PyProof.Rows.callWith_type1 (thn (ha.run pos pins s σ H _ I h) fun us s1 ⟨vs, H1, I1, r1, q1⟩ => ?_) hs rfl))
  obtain ⟨z, rfl, q⟩ := q1
  obtain ⟨u, rfl, ru⟩ := vals1 r1
  obtain ⟨t, rfl⟩ := ru
  refine call_enumerate_str fun h' he hit hsz hk => wpAny_pyIter_enum he ?_
  refine ⟨s1.heap.objs.size + 1, [s1.heap.objs.size + 1, s1.heap.objs.size], _, _, H1, rfl, I1.kept (t' := s1.toks) hk, turn_enumS z t (s1.heap.objs.size + 1) s1.heap.objs.size, ⟨⟨.none, he⟩, hit, Nat.succ_ne_self _⟩, fun b hb => ?_, q⟩
  have hle : s1.heap.objs.size ≤ b := by
    rcases (show b = s1.heap.objs.size + 1 ∨ b = s1.heap.objs.size by simpa using hb) with q | q <;> rw [q]
    · exact Nat.le_add_right _ _
    · exact Nat.le_refl _
  exact I1.fpOk hle (I1.hok.fresh hle)
theorem walk_enumS {z : Str} : L2.Walk (IteS z) (codes z).length (fun _ => True) (fun i H v H' => ∃ T c, v = .ref T ∧ H T = none ∧ (codes z)[i]? = some c ∧ H' = upd H T (.tup [.int (i : Nat), .str (sign c)])) := by
  have e : (codes z).length = z.cps.size := by simp [codes]
  rw [e]
  refine ⟨fun _ _ hi _ => hi, fun _ _ => Nat.le_refl _, ?_⟩
  rintro i H v H' _ _ ⟨T, c, h1, h2, h3, h4⟩
  exact ⟨T, c, h1, h2, by simpa [codes] using h3, h4⟩
/-! f(k = v, ..) with no place -/
theorem pe_callN0 {X : Cx} {CX : CXT} {k : Nat} {f : Addr} {fd : FuncData} {ps ks : List Str} {sp : Sp} {E : XK} {x : Str} {p pos : Pos} {kws : List Keyword} {tk : TA} {g : List Value → List Value → List Value} {gV : List V → List V → List V}
    (F : FnOk X.prog X.w X.K X.mg X.base CX k f fd ps sp) (hr : Room k X.A) (hg : Gl X x) (hm : X.mg x = some (.ref f)) (hk : PySem.W.keepIn X.K (.ref f) = true) (hb : KBn X.K fd ps 0 ks g gV) (hx : Passes CX X E) (hkw : PK X kws tk)
    (hall : (backToKw pos (keywordEach kws X.env)).all (·.1.isSome) = true := by rfl) (hks : (backToKw pos (keywordEach kws X.env)).filterMap (·.1) = ks := by rfl) (hdb : (x == ("__debug__" : Str)) = false := by decide)
    (hpl : ((backTo pos (starEach [] X.env)).any (·.1) || (backToKw pos (keywordEach kws X.env)).any (·.1.isNone)) = false := by rfl) :
    PE X (.Call (.Name x p) [] kws pos) (L2.tCallN 0 ks.length sp gV E tNil tk) := by
  refine ⟨fun pins s σ H Q I h => ?_⟩
  refine wpAny_Call_Name_kw (ld_glob I hg hm ?_ hdb)
  refine PySem.W.callWith_KW0 (h₀ := X.base) I.ok.mod.kin hk hall ?_ hpl
  refine thn (hkw.run pos pins s σ H _ I h) fun ws s2 ⟨zs, H2, I2, rz, l1, l2, q2⟩ => ⟨I2.kIn, ?_⟩
  rw [hks]
  exact run_fnN (us := []) (vs := []) F hr hb hx I2 .nil rz rfl l2 q2
/-! min of a list of signs -/
def sgV (c : Nat) : V := .str (sign c)
def rMinL (K : PySem.W.Frag) : List V → Hp → VK → Prop := fun vs H Q => ∃ (a : Addr) (cs : List Nat), vs = [V.ref a] ∧ SqL K H a (cs.map sgV) ∧ cs ≠ [] ∧ cs.length ≤ 1000 ∧ ∀ m ∈ cs, (∀ c ∈ cs, m ≤ c) → Q (sgV m) H
theorem dp_signs {K : PySem.W.Frag} {H : Hp} : ∀ cs : List Nat, DpAll K H (cs.map sgV) (cs.map fun c => PyData.str (sign c))
  | [] => .nil
  | c :: r => .cons (.str _) (dp_signs r)
theorem sign_lt (a b : Nat) : ((sign a).cps.toList < (sign b).cps.toList) ↔ a < b := by
  show ([a] < [b]) ↔ _
  constructor
  · intro h
    rcases List.cons_lt_cons_iff.mp h with h | ⟨_, h⟩
    · exact h
    · exact absurd h (List.lt_irrefl _)
  · intro h
    exact List.cons_lt_cons_iff.mpr (.inl h)
theorem minD_signs : ∀ (c : Nat) (cs : List Nat), ∃ m, m ∈ c :: cs ∧ (∀ d ∈ c :: cs, m ≤ d) ∧ PySem.W.minD (.str (sign c)) (cs.map fun c => PyData.str (sign c)) = .str (sign m)
  | c, [] => ⟨c, List.mem_cons_self, fun d hd => by simp at hd; omega, rfl⟩
  | c, d :: r => by
    by_cases h : d < c
    · obtain ⟨m, h1, h2, h3⟩ := minD_signs d r
      refine ⟨m, List.mem_cons_of_mem _ h1, fun x hx => ?_, ?_⟩
      · rcases List.mem_cons.mp hx with rfl | hx
        · have := h2 d List.mem_cons_self
          omega
        · exact h2 x hx
      · rw [← h3]
        unfold PySem.W.minD
        rw [List.map_cons, List.foldl_cons, PySem.W.dataLt_str, decide_eq_true ((sign_lt d c).mpr h)]
        rfl
    · obtain ⟨m, h1, h2, h3⟩ := minD_signs c r
      refine ⟨m, ?_, fun x hx => ?_, ?_⟩
      · rcases List.mem_cons.mp h1 with rfl | h1
        · exact List.mem_cons_self
        · exact List.mem_cons_of_mem _ (List.mem_cons_of_mem _ h1)
      · rcases List.mem_cons.mp hx with rfl | hx
        · exact h2 x List.mem_cons_self
        · rcases List.mem_cons.mp hx with rfl | hx
          · have := h2 c List.mem_cons_self
            omega
          · exact h2 x (List.mem_cons_of_mem _ hx)
      · rw [← h3]
        unfold PySem.W.minD
        rw [List.map_cons, List.foldl_cons, PySem.W.dataLt_str, decide_eq_false (fun q => h ((sign_lt d c).mp q))]
        rfl
theorem cr_minL {X : Cx} (hc : X.calm = true) (hu : X.A.units + 64 < cLine) : CallR X (.builtin "min") (rMinL X.K) := by
  intro pins s σ H vs us Q I r h
  obtain ⟨a, cs, rfl, hs, hne, hlen, q⟩ := h
  obtain ⟨its, rv, hl, hn⟩ := I.list hs
  obtain ⟨u, rfl, ru⟩ := vals1 r
  obtain rfl : u = Value.ref a := ru
  obtain ⟨as, hr⟩ := Dp.readsAll I _ _ its (dp_signs cs) rv
  cases cs with
  | nil => exact absurd rfl hne
  | cons c cs =>
    have al : PySem.W.AlikeAll (((c :: cs)).map fun c => PyData.str (sign c)) := by
      refine ⟨fun x hx y hy => ?_, fun x hx => ?_⟩
      · obtain ⟨i, _, rfl⟩ := List.mem_map.mp hx
        obtain ⟨j, _, rfl⟩ := List.mem_map.mp hy
        rfl
      · obtain ⟨i, _, rfl⟩ := List.mem_map.mp hx
        exact fun q => by cases q
    have dp : ∀ l : List Nat, PyData.depthAll (l.map fun c => PyData.str (sign c)) = 0 := fun l => by
      induction l with
      | nil => rfl
      | cons x r ih => simp [PyData.depthAll, PyData.depth, ih]
    refine PySem.W.min_list_data (x := .str (sign c)) (xs := cs.map fun c => PyData.str (sign c)) (I.ok.hd hc) hl.isList (by simpa using hr) al (by
      have := dp (c :: cs)
      rw [List.map_cons] at this
      omega) fun i v h' tk bs hv hR hk => ?_
    obtain ⟨m, h1, h2, h3⟩ := minD_signs c cs
    rw [h3] at hR
    cases hR with
    | str z t => exact ⟨.str _, H, I.kept (t' := tk) hk, ⟨_, rfl⟩, q m h1 h2⟩
/-! 'a' * 8 -/
def rMulA : R2 := fun x y H Q => x = .str "a" ∧ y = .int 8 ∧ Q (.str "aaaaaaaa") H
theorem op_mulA {X : Cx} : OpR X (binaryOp .Mult) rMulA := by
  intro pins s σ H x y v u Q I rx ry h
  obtain ⟨rfl, rfl, q⟩ := h
  obtain ⟨t, rfl⟩ := rx
  obtain ⟨t', rfl⟩ := ry
  refine P.mul_str (by decide) (fun _ _ => by decide +kernel) (fun _ _ => by decide +kernel) ?_
  have e1 : ((8 : Int) == 1 || ("a" : Str).length == 0) = false := by decide +kernel
  rw [if_neg (by decide), e1]
  have e2 : (⟨(List.replicate (8 : Int).toNat ("a" : Str).cps).foldl (· ++ ·) #[]⟩ : Str) = "aaaaaaaa" := by decide +kernel
  show Made.post (Made.str (⟨(List.replicate (8 : Int).toNat ("a" : Str).cps).foldl (· ++ ·) #[]⟩ : Str)) _ _
  rw [e2]
  exact ⟨by decide +kernel, .str _, H, I.tok _, ⟨_, rfl⟩, q⟩
end Wl

/-! sorted of a list of texts, as a reading; the least of sorted letters stands first. -/
namespace Wl
open PySem PySem.Spec PyProof.Rows L2
def dz (z : Str) : V × PyData := (.str z, .str z)
theorem srt_strs (xs : List Str) : ((xs.map dz).mergeSort (PySem.W.dataLe false (·.2))).map (·.1) = (sortS xs).map V.str := by
  have h : (sortS xs).map dz = (xs.map dz).mergeSort (PySem.W.dataLe false (·.2)) := List.map_mergeSort fun a _ b _ => by
    rw [PySem.W.dataLe_eq]
    exact (le_data_str a b).symm
  rw [← h, List.map_map]
  rfl
theorem srt_reads {K : PySem.W.Frag} {H : Hp} {Q : VK} {a : Addr} {xs : List Str} (h : SqL K H a (xs.map V.str)) (q : ∀ p, H p = none → Q (.ref p) (upd H p (.lst ((sortS xs).map V.str)))) : rSortD K [.ref a] H Q := by
  refine ⟨a, xs.map dz, rfl, ?_, ?_, ?_, ?_, ?_, fun p hp => ?_⟩
  · rw [List.map_map]
    exact h
  · intro b hb
    obtain ⟨x, _, rfl⟩ := List.mem_map.mp hb
    exact .str x
  · intro d hd e he
    obtain ⟨b, hb, rfl⟩ := List.mem_map.mp hd
    obtain ⟨x, _, rfl⟩ := List.mem_map.mp hb
    obtain ⟨c, hc, rfl⟩ := List.mem_map.mp he
    obtain ⟨y, _, rfl⟩ := List.mem_map.mp hc
    rfl
  · refine .inr fun d hd => ?_
    obtain ⟨b, hb, rfl⟩ := List.mem_map.mp hd
    obtain ⟨x, _, rfl⟩ := List.mem_map.mp hb
    exact ⟨(fun e => by cases e), (fun ys e => by cases e)⟩
  · intro b hb
    obtain ⟨x, _, rfl⟩ := List.mem_map.mp hb
    show PyData.depth (.str x) ≤ 8
    simp [PyData.depth]
  · rw [srt_strs]
    exact q p hp
theorem ltS_sign {c d : Nat} : ltS (sign c) (sign d) ↔ c < d := by
  show [c] < [d] ↔ c < d
  constructor
  · intro h
    cases h with
    | rel h => exact h
    | cons h => cases h
  · exact fun h => .rel h
theorem sg_inj1 {c d : Nat} (h : sign c = sign d) : c = d := by
  have e := congrArg (fun z : Str => z.cps.toList) h
  simpa [sign] using e
theorem head_sortS {cs : List Nat} {m : Nat} (hm : m ∈ cs) (hmin : ∀ d ∈ cs, m ≤ d) : (sortS (cs.map sign))[0]? = some (sign m) := by
  have h1 : (sortS (cs.map sign)).Pairwise (fun a b => leB a b = true) := List.pairwise_mergeSort leB_trans leB_total _
  have h2 : sign m ∈ sortS (cs.map sign) := mem_sortS.mpr (List.mem_map.mpr ⟨m, hm, rfl⟩)
  have h3 : ∀ x ∈ sortS (cs.map sign), ∃ c ∈ cs, sign c = x := fun x hx => List.mem_map.mp (mem_sortS.mp hx)
  cases e : sortS (cs.map sign) with
  | nil =>
    rw [e] at h2
    cases h2
  | cons x r =>
    rw [e] at h1 h2 h3
    obtain ⟨c, hc, rfl⟩ := h3 x List.mem_cons_self
    have e2 : c = m := by
      rcases List.mem_cons.mp h2 with h | h
      · exact (sg_inj1 h).symm
      · have q := (List.pairwise_cons.mp h1).1 _ h
        unfold leB at q
        rw [Bool.not_eq_true', decide_eq_false_iff_not, ltS_sign] at q
        have := hmin c hc
        omega
    rw [e2]
    rfl
end Wl

namespace Wl
open PySem PySem.Spec PyProof.Rows L2
def topS (i : Nat) : Stmt := PySem.Challenge.pw_wordlines_k24_rings_about_words.main.body.getD i (.Pass ⟨0, 0, 0, 0⟩)
end Wl
namespace Wl
open PySem PySem.Spec PyProof.Rows L2
end Wl
namespace Wl
open PySem PySem.Spec PyProof.Rows L2
abbrev wIsWord : Stmt := topS 24
abbrev wCheck : Stmt := topS 25
abbrev wIsLetter : Stmt := topS 26
abbrev wIsChange : Stmt := topS 27
abbrev wTupTo : Stmt := topS 28
abbrev wChecked : Stmt := topS 29
abbrev wReaches : Stmt := topS 30
abbrev wTurned : Stmt := topS 31
/-! y = {k: v for x in ..} -/
theorem ps_setDc {X : Cx} {i : Nat} {y : Str} {py : Pos} {kx vx tg iter : Expr} {ifs : List Expr} {scope : Scope} {own : List (Str × Nat)} {pos spos : Pos} {wi : TI} {g : TG} {tt : TT} {tk tv : TE} (hc : X.calm = true) (hN : X.N.Nodup) (hy : X.N[i]? = some y) (hyl : X.env.scope.names.lookup y = some .local)
    (hsw : swapsWith (.DictComp kx vx [⟨tg, iter, ifs, 0⟩] scope pos) (some (.Name y py)) spos.line X.env = pure true) (hi : PI X tg iter wi) (ok : BlkOk X.N X.env.scope scope own)
    (hg : ∀ (s : Shared) (H : Hp) (C : Addr) (cl : List (Str × Addr)) (fp : List Addr), PG (X.blk s H scope (compEnvC scope cl C X.env) fp) tg g) (ht : ∀ (s : Shared) (H : Hp) (C : Addr) (cl : List (Str × Addr)) (fp : List Addr), PTs (X.blk s H scope (compEnvC scope cl C X.env) fp) ifs tt)
    (hk : ∀ (s : Shared) (H : Hp) (C : Addr) (cl : List (Str × Addr)) (fp : List Addr), PE (X.blk s H scope (compEnvC scope cl C X.env) fp) kx tk) (he : ∀ (s : Shared) (H : Hp) (C : Addr) (cl : List (Str × Addr)) (fp : List Addr), PE (X.blk s H scope (compEnvC scope cl C X.env) fp) vx tv)
    (hs : ∀ x, foldedSetIterable iter X.env x = pure x := by intro _; rfl) :
    PS X (.Assign [.Name y py] (.DictComp kx vx [⟨tg, iter, ifs, 0⟩] scope pos) spos) (tAsg (tDc wi g tt tk tv (own.map (·.2))) (gName i)) := by
  constructor
  intro pins s σ H D I h
  rw [exec_Assign_Name_used _ _ _ _ hsw]
  refine wpAny_bind (wpAny_standAt (wpAny_bind ?_))
  show wpAny _ X.A (do let _ ← comprehension (.DictComp kx vx [⟨tg, iter, ifs, 0⟩] scope pos) scope X.env (firstIterPos [⟨tg, iter, ifs, 0⟩] pos) newDict false (eval iter X.env) (some (assign (.Name y py) X.env))) _ _ s
  have h2 : tDc wi g tt tk tv (own.map (·.2)) σ H (fun x H1 => gName i x σ H1 D.nx) := h
  refine wpAny_bind (thn (dc_core (Qf := fun _ s' => SP X pins D .next s') hc hN I hi ok hg ht hk he hs h2 fun L C s' m H' I' q hn f => ?_) fun _ s' hq => wpAny_pure (wpAny_pure hq))
  show wpAny _ _ (assign (.Name y py) X.env (.ref L)) _ _ _
  obtain ⟨f0, f1, f2, f3, f4, f5⟩ := f
  refine wpAny_assign_Name (store_ok2 (v := V.ref L) I' hN hy (.inl hyl) rfl (fun s2 I2 ⟨a, sb, ha⟩ => ?_) (.inr hyl))
  have haC : C ≠ a := ha.elim (fun z => z ▸ f1) (fun z e => f4 y a z e.symm)
  exact ⟨m, hn.sameBut sb haC, fun h3 sb3 => ⟨_, H', I2.turned (t' := s2.toks) (fun b o hb e => (sb3.2 b hb).trans e) f0 f1 f3 f4 f5, q⟩⟩
theorem sw_dict {kx vx : Expr} {gs : List Comprehension} {scope : Scope} {pos py : Pos} {y : Str} {l : Nat} {env : Env} (hk : env.scope.kind = .function) (hy : env.scope.names.lookup y = some .local) (hl : (py.line == pos.line) = true)
    (ha : (scope.names.any fun (n, k) => n == y && (k == .local || k == .cell)) = false) : swapsWith (.DictComp kx vx gs scope pos) (some (.Name y py)) l env = pure true := by
  have ky : env.kindOf y = some .local := hy
  have hb : env.blockKind = .function := by
    show env.blockKind = _
    unfold Env.blockKind
    rw [hk]
    rfl
  show (do return env.blockKind == .function && env.kindOf y == some .local && py.line == pos.line && !(scope.names.any fun (n, k) => n == y && (k == .local || k == .cell)) : Sem Bool) = _
  rw [hb, ky, ha, hl]
  rfl

structure Bw (mg : Str → Option Value) : Prop where
  bool : mg "bool" = none
structure Gw (K : PySem.W.Frag) (mg : Str → Option Value) : Prop where
  letters : ∃ t, mg "LETTERS" = some (.str "abcdefghijklmnopqrstuvwxyz" t)
  longest : ∃ t, mg "LONGEST_WORD" = some (.int 8 t)
  mostch : ∃ t, mg "MOST_CHANGES" = some (.int 12 t)
  wheres : ∃ a, mg "WHERES" = some (.ref a) ∧ ∀ H, SqT K H a [.str "first", .str "last", .str "any"]
def letB (c : Nat) : Bool := decide (97 ≤ c) && decide (c ≤ 122)
def letV : V → V
  | .str s => .bl (s.cps.toList.all letB)
  | v => v
theorem letB_mem (c : Nat) : decide (c ∈ ("abcdefghijklmnopqrstuvwxyz" : Str).cps.toList) = letB c := by
  rw [letters_eq]
  unfold letB
  by_cases h : c ∈ List.range' 97 26
  · rw [decide_eq_true h]
    rw [List.mem_range'_1] at h
    simp
    omega
  · rw [decide_eq_false h]
    rw [List.mem_range'_1] at h
    symm
    rw [Bool.and_eq_false_iff, decide_eq_false_iff_not, decide_eq_false_iff_not]
    omega
/-- whether a thing of any kind is a word -/
def Wv (K : PySem.W.Frag) (H : Hp) (v : V) (b : Bool) : Prop := (∃ z, v = .str z ∧ z.length ≤ 1000 ∧ b = wdB z) ∨ (∃ t, TyX K H v t ∧ PySem.W.kitOne K t (.type "str") = some false ∧ b = false)
section
variable {P : Program} {w : World} {K : PySem.W.Frag} {mg : Str → Option Value} {base : Heap} {f : Addr} {fd : FuncData}
def spIsW (K : PySem.W.Frag) : Sp := fun vs H Q _ => ∃ (v : V) (b : Bool), vs = [v] ∧ Wv K H v b ∧ ∀ (H' : Hp), Same H H' → Q (.bl b) H'
abbrev nIsWord : List Str := ["thing", "letter"]
theorem scIsW : FnScope nIsWord ["thing"] (defScope wIsWord) := ⟨rfl, rfl, rfl, by decide +kernel, rfl, by decide +kernel, by decide +kernel⟩
theorem ok_isw (F : Fun K "is_word" "is_word" wIsWord f fd) (B : Bi mg) (G : Gw K mg) : FnOk P w K mg base CX0 1 f fd ["thing"] (spIsW K) := by
  obtain ⟨t1, g1⟩ := G.letters
  obtain ⟨t2, g2⟩ := G.longest
  refine F.ok scIsW (fun vs H Q E h => ?_) (fun cdv A outer s H vs Q E hr h => ?_)
  · obtain ⟨v, b, rfl, _⟩ := h
    rfl
  · obtain ⟨v, b, rfl, hw, q⟩ := h
    refine ⟨_, pss_cons (ps_if (PW.pt (pw_or (pt_not (pt_val (pe_callB call_isi (by rfl) B.isi (by decide +kernel) (pa_cons (pv 0) (pa_cons (pe_bltn (v := .ty "str") (by rfl) B.str (by decide +kernel) rfl) pa_nil)))))
        (pw_or1 (pt_not (pt_chain op_le op_le pe_int (pe_callB call_len_str (by rfl) B.len PySem.boot_len (pa_cons (pv 0) pa_nil)) (pe_glob (v := .int 8) rfl g2 ⟨_, rfl⟩)))))) (pss_one (ps_ret pe_bl)) pss_nil)
      (pss_one (ps_ret (pe_callB (cr_all rfl) (by rfl) B.all (by decide +kernel) (pa_cons (pe_lc (own := [("letter", 1)]) (g := gName 1) (tt := tYes) rfl scIsW.nd (pi_str (pv 0)) (blkOk_by (N := nIsWord) (sc := defScope wIsWord) (by decide +kernel))
        (fun _ _ _ _ _ => pg_name (i := 1) scIsW.nd rfl (.inl rfl)) (fun _ _ _ _ _ => pts_nil) (fun _ _ _ _ _ => pe_cmpR op_in_sign (pv 1) (pe_glob (v := .str "abcdefghijklmnopqrstuvwxyz") rfl g1 ⟨_, rfl⟩) rfl)) pa_nil)))), ?_⟩
    rcases hw with ⟨z, rfl, hz, rfl⟩ | ⟨t, ty, hk, rfl⟩
    · refine ⟨_, rfl, _, _, _, _, _, rfl, .ty "str", .base (.str z), kit_ty (r := true) (by decide +kernel), true, rfl, ?_⟩
      refine iteF ⟨_, rfl, _, rfl, lzl hz, _, _, rfl, rfl, _, rfl, ite_b (fun e1 => ?_) (fun e1 => ?_)⟩
      · refine ⟨_, _, rfl, rfl, _, rfl, not_b (fun e2 => ?_) (fun e2 => ?_)⟩
        · have e2' : ¬ ((z.length : Int) ≤ 8) := of_decide_eq_false e2
          have : wdB z = false := by
            unfold wdB
            rw [decide_eq_false (show ¬ z.length ≤ 8 by omega)]
            simp
          rw [← this]
          exact q H (Same.refl H)
        · have h1 : 1 ≤ z.length := by
            have := of_decide_eq_true e1
            omega
          have h8 : z.length ≤ 8 := by
            have := of_decide_eq_true e2
            omega
          refine ⟨_, rfl, _, rfl, fun D hD => lc_map walk_signs hD (fun _ => true) letV (fun _ _ => trivial) (fun _ => rfl) (fun x H' _ _ Q' q' => q') ?_ ?_ ?_⟩
          · intro x H' hx _ _ Q' q'
            obtain ⟨c, hc, rfl⟩ := List.mem_map.mp hx
            refine ⟨_, rfl, c, _, rfl, rfl, ?_⟩
            rw [letB_mem]
            have : letV (.str (sign c)) = .bl (letB c) := by
              show V.bl ([c].all letB) = _
              simp
            rw [this] at q'
            exact q'
          · unfold signsOf
            rw [List.length_map, Array.length_toList]
            exact small1000 (by have : z.length = z.cps.size := rfl; omega)
          · intro H' s' hD'
            have e0 : ((signsOf z).filter fun _ => true).map letV = (z.cps.toList.map letB).map V.bl := by
              rw [List.filter_eq_self.mpr fun _ _ => rfl]
              unfold signsOf
              rw [List.map_map, List.map_map]
              refine List.map_congr_left fun c _ => ?_
              show V.bl ([c].all letB) = _
              simp
            refine ⟨D, z.cps.toList.map letB, rfl, .inl (.inl (by rw [hD', e0])), ?_⟩
            have : (z.cps.toList.map letB).all id = wdB z := by
              unfold wdB
              rw [decide_eq_true h1, decide_eq_true h8, List.all_map]
              rfl
            rw [this]
            exact q H' s'
      · refine ⟨false, rfl, iteT ?_⟩
        have : wdB z = false := by
          have e1' : ¬ ((1 : Int) ≤ z.length) := of_decide_eq_false e1
          unfold wdB
          rw [decide_eq_false (show ¬ 1 ≤ z.length by omega)]
          simp
        rw [← this]
        exact q H (Same.refl H)
    · exact ⟨_, rfl, _, _, _, _, _, rfl, .ty "str", ty, hk, false, rfl, iteT (q H (Same.refl H))⟩
theorem wv_wd {K : PySem.W.Frag} {H : Hp} {z : Str} (h : IsWd z) : Wv K H (.str z) true := .inl ⟨z, rfl, by have := h.len; omega, (show wdB z = true from h).symm⟩
theorem sign_wd {c : Nat} (h : isLet c) : IsWd (sign c) := wd_codes.mpr ⟨⟨Nat.le_refl 1, Nat.le_of_ble_eq_true rfl⟩, fun d hd => by
  have : d = c := by simpa [codes, sign] using hd
  rw [this]
  exact h⟩
/-! ### check_word, is_letter -/
def spCheckW : Sp := fun vs H Q _ => ∃ (z : Str), vs = [.str z] ∧ IsWd z ∧ ∀ (H' : Hp), Same H H' → Q .non H'
theorem scCheckW : FnScope ["word"] ["word"] (defScope wCheck) := ⟨rfl, rfl, rfl, by decide +kernel, rfl, by decide +kernel, by decide +kernel⟩
theorem ok_checkw (F : Fun K "check_word" "check_word" wCheck f fd) (hI : Has P w K mg base "is_word" 1 ["thing"] (spIsW K)) : FnOk P w K mg base CX0 2 f fd ["word"] spCheckW := by
  refine F.ok scCheckW (fun vs H Q E h => ?_) (fun cdv A outer s H vs Q E hr h => ?_)
  · obtain ⟨z, rfl, _⟩ := h
    rfl
  · obtain ⟨z, rfl, hz, q⟩ := h
    exact ⟨_, pss_one (ps_if (pt_not (pt_val (pe_h hI hr (pa_cons (pv 0) pa_nil)))) (pss_one ps_never) pss_nil), _, rfl, _, true, rfl, wv_wd hz, fun H1 s1 => ⟨_, rfl, iteF (q H1 s1)⟩⟩
def spIsLet : Sp := fun vs H Q _ => ∃ (c : Nat), vs = [sgV c] ∧ isLet c ∧ ∀ (H' : Hp), Same H H' → Q (.bl true) H'
theorem scIsLet : FnScope ["thing"] ["thing"] (defScope wIsLetter) := ⟨rfl, rfl, rfl, by decide +kernel, rfl, by decide +kernel, by decide +kernel⟩
theorem ok_islet (F : Fun K "is_letter" "is_letter" wIsLetter f fd) (B : Bi mg) (hI : Has P w K mg base "is_word" 1 ["thing"] (spIsW K)) : FnOk P w K mg base CX0 2 f fd ["thing"] spIsLet := by
  refine F.ok scIsLet (fun vs H Q E h => ?_) (fun cdv A outer s H vs Q E hr h => ?_)
  · obtain ⟨z, rfl, _⟩ := h
    rfl
  · obtain ⟨c, rfl, hc, q⟩ := h
    refine ⟨_, pss_one (ps_ret (pe_and (pe_h hI hr (pa_cons (pv 0) pa_nil)) (pe_one (pe_cmpR op_eq (pe_callB call_len_str (by rfl) B.len PySem.boot_len (pa_cons (pv 0) pa_nil)) pe_int (nomark _))))), ?_⟩
    refine ⟨_, rfl, _, true, rfl, wv_wd (sign_wd hc), fun H1 s1 => ⟨true, rfl, iteT ⟨_, rfl, _, rfl, lz, rfl, ?_⟩⟩⟩
    rw [show decide (V.int ((sign c).length : Int) = V.int 1) = true from decide_eq_true rfl]
    exact q H1 s1
/-! ### changes -/
def chV (ch : Chg) : List V := [sgV ch.1, sgV ch.2.1, .str (whS ch.2.2)]
theorem wh_dec (a b : Wh) : decide (V.str (whS a) = V.str (whS b)) = decide (a = b) := by
  cases a <;> cases b <;> decide +kernel
theorem sg_dec (a b : Nat) : decide (sgV a = sgV b) = decide (a = b) := by
  by_cases h : a = b
  · subst h
    simp
  · have : sgV a ≠ sgV b := fun e => h (by
      have e2 := congrArg (fun z : Str => z.cps.toList) (V.str.inj e)
      simpa [sign] using e2)
    rw [decide_eq_false h, decide_eq_false this]
def spIsCh : Sp := fun vs H Q _ => ∃ (p : Addr) (ch : Chg), vs = [.ref p] ∧ H p = some (.tup (chV ch)) ∧ OkC ch ∧ ∀ (H' : Hp), Same H H' → Q (.bl true) H'
abbrev nIsCh : List Str := ["thing", "one", "other", "where"]
theorem scIsCh : FnScope nIsCh ["thing"] (defScope wIsChange) := ⟨rfl, rfl, rfl, by decide +kernel, rfl, by decide +kernel, by decide +kernel⟩
theorem ok_isch (F : Fun K "is_change" "is_change" wIsChange f fd) (B : Bi mg) (G : Gw K mg) (hL : Has P w K mg base "is_letter" 2 ["thing"] spIsLet) : FnOk P w K mg base CX0 3 f fd ["thing"] spIsCh := by
  obtain ⟨wa, gw, hw⟩ := G.wheres
  refine F.ok scIsCh (fun vs H Q E h => ?_) (fun cdv A outer s H vs Q E hr h => ?_)
  · obtain ⟨p, ch, rfl, _⟩ := h
    rfl
  · obtain ⟨p, ch, rfl, hp, ok, q⟩ := h
    refine ⟨_, pss_cons (ps_if (PW.pt (pw_or (pt_not (pt_val (pe_callB call_isi (by rfl) B.isi (by decide +kernel) (pa_cons (pv 0) (pa_cons (pe_bltn (v := .ty "tuple") (by rfl) B.tuple (by decide +kernel) rfl) pa_nil)))))
        (pw_or1 (pt_cmpR op_ne (pe_callB call_len_seq (by rfl) B.len PySem.boot_len (pa_cons (pv 0) pa_nil)) pe_int (nomark _))))) (pss_one (ps_ret pe_bl)) pss_nil)
      (pss_cons (ps_asg (pv 0) (pg_tup rfl (pgs_cons (pg_name (i := 1) scIsCh.nd rfl (.inl rfl)) (pgs_cons (pg_name (i := 2) scIsCh.nd rfl (.inl rfl)) (pgs_cons (pg_name (i := 3) scIsCh.nd rfl (.inl rfl)) pgs_nil)))))
      (pss_cons (ps_if (PW.pt (pw_or (pt_not (pt_val (pe_h hL hr (pa_cons (pv 1) pa_nil)))) (pw_or (pt_not (pt_val (pe_h hL hr (pa_cons (pv 2) pa_nil)))) (pw_or1 (pt_cmpR op_eq (pv 1) (pv 2) (nomark _)))))) (pss_one (ps_ret pe_bl)) pss_nil)
      (pss_one (ps_ret (pe_and (pe_callB call_isi (by rfl) B.isi (by decide +kernel) (pa_cons (pv 3) (pa_cons (pe_bltn (v := .ty "str") (by rfl) B.str (by decide +kernel) rfl) pa_nil))) (pe_one (pe_cmpR op_in_seq (pv 3) (pe_glob (v := .ref wa) rfl gw rfl) (by rfl)))))))), ?_⟩
    refine ⟨_, rfl, _, _, _, _, _, rfl, .ty "tuple", .base (.tup hp), kit_ty (r := true) (by decide +kernel), true, rfl, ?_⟩
    refine iteF ⟨_, rfl, p, _, rfl, .inr (.inl (.inl hp)), rfl, _, rfl, ?_⟩
    refine iteNS rfl ?_
    refine ⟨_, rfl, p, _, rfl, .inl (.inl hp), rfl, _, _, rfl, _, _, rfl, _, _, rfl, rfl, ?_⟩
    refine ⟨_, rfl, ch.1, rfl, ok.1, fun H1 s1 => ⟨true, rfl, iteF ⟨_, rfl, ch.2.1, rfl, ok.2.1, fun H2 s2 => ⟨true, rfl, iteF ⟨_, rfl, _, rfl, rfl, _, rfl, ?_⟩⟩⟩⟩⟩
    rw [sg_dec, decide_eq_false ok.2.2]
    refine iteF ⟨_, rfl, _, _, _, _, _, rfl, .ty "str", .base (.str _), kit_ty (r := true) (by decide +kernel), true, rfl, iteT ⟨_, rfl, wa, _, rfl, .inr (hw H2), rfl, rfl, ?_⟩⟩
    have e : inV (.str (whS ch.2.2)) [.str "first", .str "last", .str "any"] = true := by
      generalize ch.2.2 = wh
      cases wh <;> decide +kernel
    rw [if_neg (by decide), e]
    exact q H2 (s1.trans s2)
/-- a tuple of changes -/
def ChAt (H : Hp) (S : Addr) (chs : List Chg) : Prop := ∃ as : List Addr, H S = some (.tup (as.map V.ref)) ∧ Each (fun (p : Addr) (ch : Chg) => H p = some (.tup (chV ch))) as chs
theorem ChAt.keep {H H' : Hp} {S : Addr} {chs : List Chg} (h : ChAt H S chs) (k : ∀ p xs, H p = some (.tup xs) → H' p = some (.tup xs)) : ChAt H' S chs := by
  obtain ⟨as, h1, h2⟩ := h
  exact ⟨as, k _ _ h1, h2.mono fun p ch e => k _ _ e⟩
theorem ChAt.same {H H' : Hp} {S : Addr} {chs : List Chg} (h : ChAt H S chs) (s : Same H H') : ChAt H' S chs := h.keep fun p xs e => s _ _ e
def OkCs (chs : List Chg) : Prop := chs.length ≤ 12 ∧ ∀ ch ∈ chs, OkC ch
/-- what is handed in for changes: None, or a tuple of them -/
def ChV (H : Hp) (v : V) (chs : List Chg) : Prop := (v = .non ∧ chs = []) ∨ ∃ S, v = .ref S ∧ ChAt H S chs
theorem ChV.same {H H' : Hp} {v : V} {chs : List Chg} (h : ChV H v chs) (s : Same H H') : ChV H' v chs := by
  rcases h with h | ⟨S, e, h⟩
  · exact .inl h
  · exact .inr ⟨S, e, h.same s⟩
def spChecked : Sp := fun vs H Q _ => ∃ (v : V) (chs : List Chg), vs = [v] ∧ ChV H v chs ∧ OkCs chs ∧ ∀ (S : Addr) (H' : Hp), Same H H' → ChAt H' S chs → Q (.ref S) H'
abbrev nChecked : List Str := ["changes", "place", "change"]
theorem scChecked : FnScope nChecked ["changes"] (defScope wChecked) := ⟨rfl, rfl, rfl, by decide +kernel, rfl, by decide +kernel, by decide +kernel⟩
/-! ### is_tuple_up_to -/
def spTupTo : Sp := fun vs H Q _ => ∃ (S : Addr) (xs : List V) (n : Int), vs = [.ref S, .int n] ∧ H S = some (.tup xs) ∧ Q (.bl (decide ((xs.length : Int) ≤ n))) H
theorem scTupTo : FnScope ["thing", "most"] ["thing", "most"] (defScope wTupTo) := ⟨rfl, rfl, rfl, by decide +kernel, rfl, by decide +kernel, by decide +kernel⟩
theorem ok_tupto (F : Fun K "is_tuple_up_to" "is_tuple_up_to" wTupTo f fd) (B : Bi mg) : FnOk P w K mg base CX0 1 f fd ["thing", "most"] spTupTo := by
  refine F.ok scTupTo (fun vs H Q E h => ?_) (fun cdv A outer s H vs Q E hr h => ?_)
  · obtain ⟨S, xs, n, rfl, _⟩ := h
    rfl
  · obtain ⟨S, xs, n, rfl, hS, q⟩ := h
    refine ⟨_, pss_one (ps_ret (pe_and (pe_callB call_isi (by rfl) B.isi (by decide +kernel) (pa_cons (pv 0) (pa_cons (pe_bltn (v := .ty "tuple") (by rfl) B.tuple (by decide +kernel) rfl) pa_nil))) (pe_one (pe_cmpR op_le (pe_callB call_len_seq (by rfl) B.len PySem.boot_len (pa_cons (pv 0) pa_nil)) (pv 1) (nomark _))))), ?_⟩
    exact ⟨_, rfl, _, _, _, _, _, rfl, .ty "tuple", .base (.tup hS), kit_ty (r := true) (by decide +kernel), true, rfl, iteT ⟨_, rfl, S, _, rfl, .inr (.inl (.inl hS)), _, rfl, _, _, rfl, rfl, q⟩⟩
theorem ok_checked (F : Fun K "checked_changes" "checked_changes" wChecked f fd) (B : Bi mg) (G : Gw K mg) (hTu : Has P w K mg base "is_tuple_up_to" 1 ["thing", "most"] spTupTo) (hC : Has P w K mg base "is_change" 3 ["thing"] spIsCh) : FnOk P w K mg base CX0 4 f fd ["changes"] spChecked := by
  obtain ⟨t1, g1⟩ := G.mostch
  refine F.ok scChecked (fun vs H Q E h => ?_) (fun cdv A outer s H vs Q E hr h => ?_)
  · obtain ⟨v, chs, rfl, _⟩ := h
    rfl
  · obtain ⟨v, chs, rfl, hv, ok, q⟩ := h
    refine ⟨_, pss_cons (ps_if (pt_cmp (pc_isN (pv 0))) (pss_one (ps_ret (pe_tup pa_nil))) pss_nil)
      (pss_cons (ps_if (pt_not (pt_val (pe_h hTu hr (pa_cons (pv 0) (pa_cons (pe_glob (v := .int 12) rfl g1 ⟨_, rfl⟩) pa_nil))))) (pss_one ps_never) pss_nil)
      (pss_cons (ps_for PassesOwn.never rfl (pi_enumT (by rfl) B.enum (pa_cons (pv 0) pa_nil)) (pg_tup rfl (pgs_cons (pg_name (i := 1) scChecked.nd rfl (.inl rfl)) (pgs_cons (pg_name (i := 2) scChecked.nd rfl (.inl rfl)) pgs_nil)))
        (pss_one (ps_if (pt_not (pt_val (pe_h hC hr (pa_cons (pv 2) pa_nil)))) (pss_one ps_never) pss_nil)))
      (pss_one (ps_ret (pv 0))))), ?_⟩
    rcases hv with ⟨rfl, rfl⟩ | ⟨S, rfl, as, hS, hE⟩
    · exact ⟨_, rfl, _, rfl, iteT ⟨lz, fun p hp => q p _ (same_new hp) ⟨[], upd_same, .nil⟩⟩⟩
    · refine ⟨_, rfl, _, rfl, iteF ?_⟩
      have hl : (as.map V.ref).length = chs.length := by rw [List.length_map, hE.length]
      refine ⟨_, rfl, S, _, 12, rfl, hS, _, rfl, ?_⟩
      rw [hl, decide_eq_true (by have := ok.1; omega)]
      refine iteF ⟨_, rfl, S, _, rfl, .inl (.inl hS), for_it (walk_enumT (K := K) (a := S) (xs := as.map V.ref)) (fun i σ H' => (∃ y1 y2, σ = [some (.ref S), y1, y2]) ∧ Same H H') ⟨⟨_, _, rfl⟩, Same.refl H⟩ (fun i σ H' _ h => .inl (.inl (h.2 _ _ hS))) ?_ ?_⟩
      · rintro i x σ H1 H2 hi ⟨⟨y1, y2, rfl⟩, s1⟩ ⟨T, x1, x2, rfl, hT, rfl, ex1, ex2⟩
        cases ex1
        have ex2 : (as.map V.ref)[i]? = some x2 := ex2
        rw [List.getElem?_map] at ex2
        obtain ⟨p, hp, rfl⟩ := Option.map_eq_some_iff.mp ex2
        obtain ⟨ch, hch, hH⟩ := hE.get hp
        have s2 : Same H1 (upd H1 T (.tup [.int i, .ref p])) := same_new hT
        refine ⟨T, _, rfl, .inl (.inl upd_same), rfl, _, _, rfl, _, _, rfl, rfl, ?_⟩
        exact ⟨_, rfl, p, ch, rfl, s2 _ _ (s1 _ _ hH), ok.2 ch (List.mem_of_getElem? hch), fun H3 s3 => ⟨true, rfl, iteF ⟨⟨_, _, rfl⟩, (s1.trans s2).trans s3⟩⟩⟩
      · rintro σ H1 ⟨⟨y1, y2, rfl⟩, s1⟩
        exact ⟨_, rfl, q S H1 s1 ⟨as, s1 _ _ hS, hE.mono fun p ch e => s1 _ _ e⟩⟩
/-! ### reaches -/
def spReaches : Sp := fun vs H Q _ => ∃ (wh : Wh) (i n : Nat), vs = [.str (whS wh), .int i, .int n] ∧ Q (.bl (acts wh i n)) H
theorem scReaches : FnScope ["where", "place", "length"] ["where", "place", "length"] (defScope wReaches) := ⟨rfl, rfl, rfl, by decide +kernel, rfl, by decide +kernel, by decide +kernel⟩
theorem int_dec (a b : Int) : decide (V.int a = V.int b) = decide (a = b) := by
  by_cases h : a = b
  · subst h
    simp
  · rw [decide_eq_false h, decide_eq_false fun e => h (V.int.inj e)]
theorem ok_reaches (F : Fun K "reaches" "reaches" wReaches f fd) : FnOk P w K mg base CX0 1 f fd ["where", "place", "length"] spReaches := by
  refine F.ok scReaches (fun vs H Q E h => ?_) (fun cdv A outer s H vs Q E hr h => ?_)
  · obtain ⟨wh, i, n, rfl, _⟩ := h
    rfl
  · obtain ⟨wh, i, n, rfl, q⟩ := h
    refine ⟨_, pss_cons (ps_if (pt_cmpR op_eq (pv 0) pe_str (nomark _)) (pss_one (ps_ret (pe_cmpR op_eq (pv 1) pe_int (nomark _)))) pss_nil)
      (pss_cons (ps_if (pt_cmpR op_eq (pv 0) pe_str (nomark _)) (pss_one (ps_ret (pe_cmpR op_eq (pv 1) (pe_op op_sub (pv 2) pe_int) (nomark _)))) pss_nil)
      (pss_one (ps_ret pe_bl))), ?_⟩
    have e1 : decide (V.str (whS wh) = V.str "first") = decide (wh = .first) := wh_dec wh .first
    have e2 : decide (V.str (whS wh) = V.str "last") = decide (wh = .last) := wh_dec wh .last
    refine ⟨_, rfl, rfl, _, rfl, ?_⟩
    rw [e1]
    cases wh with
    | first =>
      refine iteT ⟨_, rfl, rfl, ?_⟩
      rw [int_dec]
      have : decide ((i : Int) = 0) = acts .first i n := by
        unfold acts
        by_cases h : i = 0
        · simp [h]
        · simp [h]
      rw [this]
      exact q
    | last =>
      refine iteF ⟨_, rfl, rfl, _, rfl, ?_⟩
      rw [e2]
      refine iteT ⟨_, rfl, _, rfl, _, _, rfl, rfl, rfl, ?_⟩
      rw [int_dec]
      have : decide ((i : Int) = (n : Int) - 1) = acts .last i n := by
        unfold acts
        by_cases h : i + 1 = n
        · rw [decide_eq_true h, decide_eq_true (by omega)]
        · rw [decide_eq_false h, decide_eq_false (by omega)]
      rw [this]
      exact q
    | any =>
      refine iteF ⟨_, rfl, rfl, _, rfl, ?_⟩
      rw [e2]
      exact iteF q
end
end Wl



namespace Wl
open PySem PySem.Spec PyProof.Rows L2
abbrev wSteps : Stmt := topS 32
/-! a dict comprehension over a walk -/
theorem dc_it {J : It} {n : Nat} {G : Hp → Prop} {Y : Nat → Hp → V → Hp → Prop} (w : L2.Walk J n G Y) {g : TG} {tt : TT} {tk tv : TE} {vs : List Nat} {σ : L2.St} {H1 : Hp} {D : Addr} {Qd : Hp → Prop} (Pv : Nat → Hp → Prop) (h0 : Pv 0 (upd H1 D (.dK []))) (hG : ∀ i H, i ≤ n → Pv i H → G H)
    (hs : ∀ i x H H', i < n → Pv i H → Y i H x H' → g x (wipe σ vs) H' fun σ2 H2 => wipe σ2 vs = wipe σ vs ∧ tt σ2 H2 fun b H3 =>
      if b = true then tk σ2 H3 fun y H4 => tv σ2 H4 fun z H5 => ∃ kvs k, y = kV k ∧ H5 D = some (.dK kvs) ∧ kvs.length < sizeLine ∧ Pv (i + 1) (upd H5 D (.dK (putK kvs k z))) else Pv (i + 1) H3) (hd : ∀ H, Pv n H → Qd H) :
    ∃ W : Nat → Nat → Hp → Prop, (∃ m, W 0 m (upd H1 D (.dK []))) ∧ ∀ i m H, W i m H →
      (J.stop i H ∧ Qd H) ∨ (J.go i H ∧ ∃ Nx : Hp → Prop, (∀ H', Nx H' → ∃ m', m' < m ∧ W (i + 1) m' H') ∧ ∀ x H', J.yld i H x H' → g x (wipe σ vs) H' fun σ2 H2 => wipe σ2 vs = wipe σ vs ∧ tt σ2 H2 fun b H3 =>
        if b = true then tk σ2 H3 fun y H4 => tv σ2 H4 fun z H5 => ∃ kvs k, y = kV k ∧ H5 D = some (.dK kvs) ∧ kvs.length < sizeLine ∧ Nx (upd H5 D (.dK (putK kvs k z))) else Nx H3) := by
  refine ⟨fun i m H => m = n - i ∧ i ≤ n ∧ Pv i H, ⟨n, by simp, Nat.zero_le _, h0⟩, ?_⟩
  rintro i m H ⟨rfl, hi, p⟩
  have q := hG i H hi p
  by_cases hlt : i < n
  · exact .inr ⟨w.goes i H hlt q, Pv (i + 1), fun H' p' => ⟨n - (i + 1), by omega, rfl, hlt, p'⟩, fun x H' y => hs i x H H' hlt p (w.yields i H x H' hlt q y)⟩
  · have e : i = n := by omega
    subst e
    exact .inl ⟨w.stops H q, hd H p⟩
abbrev kS (c : Nat) : Key := Sum.inr (sign c)
theorem kS_inj {a b : Nat} (h : kS a = kS b) : a = b := by
  have e := congrArg (fun z : Str => z.cps.toList) (Sum.inr.inj h)
  simpa [sign] using e
def kvL (ad : Nat → V) (l : List Nat) : List (Key × V) := l.map fun c => (kS c, ad c)
theorem valV_kvL (ad : Nat → V) (c : Nat) : ∀ l : List Nat, valV (kvL ad l) (kS c) = if c ∈ l then some (ad c) else none
  | [] => rfl
  | d :: r => by
    by_cases h : d = c
    · subst h
      rw [if_pos List.mem_cons_self]
      exact valV_pos rfl
    · have h1 : valV (kvL ad (d :: r)) (kS c) = valV (kvL ad r) (kS c) := valV_neg fun e => h (kS_inj e)
      rw [h1, valV_kvL ad c r]
      have h2 : (c ∈ d :: r) = (c ∈ r) := by
        simp only [List.mem_cons, eq_iff_iff]
        constructor
        · rintro (e | e)
          · exact absurd e.symm h
          · exact e
        · exact .inr
      simp only [h2]
theorem kvL_congr {a b : Nat → V} {l : List Nat} (h : ∀ c ∈ l, a c = b c) : kvL a l = kvL b l := List.map_congr_left fun c hc => by rw [h c hc]
structure TurnI (H : Hp) (D : Addr) (ad : Nat → Addr) (E : Edges) : Prop where
  dict : H D = some (.dK (kvL (fun c => .ref (ad c)) (List.range' 97 26)))
  lst : ∀ c, isLet c → H (ad c) = some (.lst ((nbrs E c).map sgV))
  inj : ∀ c d, isLet c → isLet d → ad c = ad d → c = d
theorem let_mem {c : Nat} : isLet c ↔ c ∈ List.range' 97 26 := by
  rw [List.mem_range'_1]
  unfold isLet
  omega
def TurnAt (H : Hp) (D : Addr) (E : Edges) : Prop := ∃ ad, TurnI H D ad E
theorem TurnI.val {H : Hp} {D : Addr} {ad : Nat → Addr} {E : Edges} (t : TurnI H D ad E) {c : Nat} (h : isLet c) : DGet H D (sgV c) (some (.ref (ad c))) := by
  have := DGet.k (k := kS c) t.dict
  rw [valV_kvL, if_pos (let_mem.mp h)] at this
  exact this
theorem TurnI.same {H H' : Hp} {D : Addr} {ad : Nat → Addr} {E : Edges} (t : TurnI H D ad E) (s : Same H H') : TurnI H' D ad E := ⟨s _ _ t.dict, fun c h => s _ _ (t.lst c h), t.inj⟩
theorem room1 {k : Nat} {A : Around} (r : Room k A) : A.units + 1 < cLine := by have := r.un; omega
theorem nbrs_len (E : Edges) (c : Nat) : (nbrs E c).length ≤ 2 * E.length := by
  induction E with
  | nil => simp [nbrs]
  | cons e r ih =>
    have h1 : nbrs (e :: r) c = nbE c e ++ nbrs r c := rfl
    have h2 : (nbE c e).length ≤ 2 := by
      unfold nbE
      split <;> split <;> simp
    rw [h1, List.length_append, List.length_cons]
    omega
theorem es_len (chs : List Chg) (i n : Nat) : (es chs i n).length ≤ chs.length := by
  unfold es
  rw [List.length_map]
  exact List.length_filter_le _ _
theorem es_snoc (l : List Chg) (ch : Chg) (i n : Nat) : es (l ++ [ch]) i n = es l i n ++ (if acts ch.2.2 i n = true then [(ch.1, ch.2.1)] else []) := by
  unfold es
  rw [List.filter_append, List.map_append]
  by_cases h : acts ch.2.2 i n = true
  · simp [h]
  · simp [h]
theorem signs_abc : signsOf "abcdefghijklmnopqrstuvwxyz" = (List.range' 97 26).map sgV := by
  unfold signsOf
  rw [letters_eq]
  rfl
theorem TurnI.push {H : Hp} {D : Addr} {ad : Nat → Addr} {E : Edges} (t : TurnI H D ad E) {a b : Nat} (ha : isLet a) (hb : isLet b) (hn : a ≠ b) :
    TurnI (upd (upd H (ad a) (.lst ((nbrs E a).map sgV ++ [sgV b]))) (ad b) (.lst ((nbrs E b).map sgV ++ [sgV a]))) D ad (E ++ [(a, b)]) := by
  have nab : ad a ≠ ad b := fun e => hn (t.inj a b ha hb e)
  have nd : ∀ c, isLet c → D ≠ ad c := fun c hc => ne_of t.dict (t.lst c hc) (by intro z; cases z)
  refine ⟨?_, fun c hc => ?_, t.inj⟩
  · rw [upd_ne (nd b hb), upd_ne (nd a ha)]
    exact t.dict
  · rw [nbrs_snoc]
    by_cases h1 : b = c
    · subst h1
      rw [upd_same, if_neg hn, if_pos rfl, List.map_append]
      rfl
    · have n1 : ad c ≠ ad b := fun e => h1 (t.inj c b hc hb e).symm
      rw [upd_ne n1, if_neg h1]
      by_cases h2 : a = c
      · subst h2
        rw [upd_same, if_pos rfl, List.map_append]
        rfl
      · have n2 : ad c ≠ ad a := fun e => h2 (t.inj c a hc ha e).symm
        rw [upd_ne n2, if_neg h2, t.lst c hc]
        simp
section
variable {P : Program} {w : World} {K : PySem.W.Frag} {mg : Str → Option Value} {base : Heap} {f : Addr} {fd : FuncData}
def spTurned : Sp := fun vs H Q _ => ∃ (S : Addr) (chs : List Chg) (i n : Nat), vs = [.ref S, .int i, .int n] ∧ ChAt H S chs ∧ OkCs chs ∧ ∀ (D : Addr) (H' : Hp), Same H H' → TurnAt H' D (es chs i n) → Q (.ref D) H'
abbrev nTurned : List Str := ["changes", "place", "length", "turned", "letter", "one", "other", "where"]
theorem scTurned : FnScope nTurned ["changes", "place", "length"] (defScope wTurned) := ⟨rfl, rfl, rfl, by decide +kernel, rfl, by decide +kernel, by decide +kernel⟩
theorem ok_turned (F : Fun K "turned_letters" "turned_letters" wTurned f fd) (G : Gw K mg) (hR : Has P w K mg base "reaches" 1 ["where", "place", "length"] spReaches) : FnOk P w K mg base CX0 2 f fd ["changes", "place", "length"] spTurned := by
  obtain ⟨t1, g1⟩ := G.letters
  refine F.ok scTurned (fun vs H Q E h => ?_) (fun cdv A outer s H vs Q E hr h => ?_)
  · obtain ⟨S, chs, i, n, rfl, _⟩ := h
    rfl
  · obtain ⟨S, chs, pl, n, rfl, ⟨as, hS, hE⟩, ok, q⟩ := h
    refine ⟨_, pss_cons (ps_setDc (i := 3) (own := [("letter", 4)]) (g := gName 4) (tt := tYes) rfl scTurned.nd rfl rfl (sw_dict rfl rfl rfl rfl) (pi_str (pe_glob (v := .str "abcdefghijklmnopqrstuvwxyz") rfl g1 ⟨_, rfl⟩)) (blkOk_by (N := nTurned) (sc := defScope wTurned) (by decide +kernel))
        (fun _ _ _ _ _ => pg_name (i := 4) scTurned.nd rfl (.inl rfl)) (fun _ _ _ _ _ => pts_nil) (fun _ _ _ _ _ => pv 4) (fun _ _ _ _ _ => pe_lst pa_nil))
      (pss_cons (ps_for PassesOwn.never rfl (pi_tup (pv 0)) (pg_tup rfl (pgs_cons (pg_name (i := 5) scTurned.nd rfl (.inl rfl)) (pgs_cons (pg_name (i := 6) scTurned.nd rfl (.inl rfl)) (pgs_cons (pg_name (i := 7) scTurned.nd rfl (.inl rfl)) pgs_nil))))
        (pss_one (ps_if (pt_val (pe_h hR hr (pa_cons (pv 7) (pa_cons (pv 1) (pa_cons (pv 2) pa_nil)))))
          (pss_cons (ps_expr (pe_bm PySem.F.plainAttrs_list PySem.F.slot_list_append PySem.F.type_list_append mt_append (pe_dget (room1 hr) (pv 3) (pv 5) (fun _ _ => rfl)) (pa_cons (pv 6) pa_nil)))
          (pss_one (ps_expr (pe_bm PySem.F.plainAttrs_list PySem.F.slot_list_append PySem.F.type_list_append mt_append (pe_dget (room1 hr) (pv 3) (pv 6) (fun _ _ => rfl)) (pa_cons (pv 5) pa_nil))))) pss_nil)))
      (pss_one (ps_ret (pv 3)))), ?_⟩
    refine ⟨_, rfl, fun D hD => dc_it walk_signs (fun i H' => ∃ ad : Nat → Addr, Same H H' ∧ H' D = some (.dK (kvL (fun c => .ref (ad c)) (List.range' 97 i))) ∧ (∀ c ∈ List.range' 97 i, H' (ad c) = some (.lst []) ∧ H (ad c) = none) ∧ ∀ c d, c ∈ List.range' 97 i → d ∈ List.range' 97 i → ad c = ad d → c = d) ⟨fun _ => 0, same_new hD, upd_same, fun c hc => by simp at hc, fun c d hc => by simp at hc⟩ (fun _ _ _ _ => trivial) ?_ ?_⟩
    · rintro i x H1 H2 hi ⟨ad, s1, hd, hl, hj⟩ ⟨rfl, hx⟩
      have hi26 : i < 26 := by
        rw [signs_abc, List.length_map, List.length_range'] at hi
        exact hi
      rw [signs_abc, List.getElem?_map, List.getElem?_range' hi26] at hx
      obtain rfl := Option.some.inj hx
      have e97 : 97 + 1 * i = 97 + i := by omega
      rw [e97]
      refine ⟨rfl, yes_it ⟨_, rfl, lz, fun p hp => ⟨_, kS (97 + i), rfl, (same_new hp) _ _ hd, ?_, fun c => if c = 97 + i then p else ad c, ?_, ?_, ?_, ?_⟩⟩⟩
      · unfold kvL
        rw [List.length_map, List.length_range']
        exact small1000 (by omega)
      · exact same_mut (s1.trans (same_new hp)) hD
      · rw [upd_same, putK_new]
        · have e : List.range' 97 (i + 1) = List.range' 97 i ++ [97 + i] := by
            have := List.range'_concat (s := 97) (n := i) (step := 1)
            simpa using this
          rw [e]
          unfold kvL
          rw [List.map_append]
          have e2 : (List.range' 97 i).map (fun c => (kS c, V.ref (if c = 97 + i then p else ad c))) = (List.range' 97 i).map fun c => (kS c, V.ref (ad c)) := List.map_congr_left fun c hc => by
            rw [List.mem_range'_1] at hc
            rw [if_neg (by omega)]
          rw [e2]
          simp
        · rw [valV_kvL, if_neg]
          rw [List.mem_range'_1]
          omega
      · intro c hc
        rw [List.mem_range'_1] at hc
        have nD : p ≠ D := (ne_of_none hd hp).symm
        dsimp only
        by_cases h : c = 97 + i
        · rw [if_pos h]
          exact ⟨by rw [upd_ne nD, upd_same], s1.free hp⟩
        · rw [if_neg h]
          obtain ⟨h1, h2⟩ := hl c (by rw [List.mem_range'_1]; omega)
          have n1 : ad c ≠ D := ne_of h1 hd (by intro z; cases z)
          exact ⟨by rw [upd_ne n1]; exact (same_new hp) _ _ h1, h2⟩
      · intro c d hc hd' e
        rw [List.mem_range'_1] at hc hd'
        dsimp only at e
        have np : ∀ c, c < 97 + i → 97 ≤ c → ad c ≠ p := fun c h1 h2 => ne_of_none (hl c (by rw [List.mem_range'_1]; omega)).1 hp
        by_cases h1 : c = 97 + i <;> by_cases h2 : d = 97 + i
        · omega
        · rw [if_pos h1, if_neg h2] at e
          exact absurd e.symm (np d (by omega) (by omega))
        · rw [if_neg h1, if_pos h2] at e
          exact absurd e (np c (by omega) (by omega))
        · rw [if_neg h1, if_neg h2] at e
          exact hj c d (by rw [List.mem_range'_1]; omega) (by rw [List.mem_range'_1]; omega) e
    · rintro H1 ⟨ad, s1, hd, hl, hj⟩
      have e26 : (signsOf "abcdefghijklmnopqrstuvwxyz").length = 26 := by rw [signs_abc, List.length_map, List.length_range']
      rw [e26] at hd hl hj
      have T1 : TurnI H1 D ad (es (chs.take 0) pl n) := ⟨hd, fun c hc => (hl c (let_mem.mp hc)).1, fun c d hc hd' e => hj c d (let_mem.mp hc) (let_mem.mp hd') e⟩
      refine ⟨_, rfl, S, rfl, ⟨_, .inl (.inl (s1 _ _ hS))⟩, for_it (walk_tup (K := K) (a := S) (xs := as.map V.ref)) (fun i σ H' => (∃ y4 y5 y6 y7, σ = [some (.ref S), some (.int pl), some (.int n), some (.ref D), y4, y5, y6, y7]) ∧ Same H H' ∧ TurnI H' D ad (es (chs.take i) pl n)) ⟨⟨_, _, _, _, rfl⟩, s1, T1⟩ (fun i σ H' _ h => .inl (.inl (h.2.1 _ _ hS))) ?_ ?_⟩
      · rintro i x σ H2 H3 hi ⟨⟨y4, y5, y6, y7, rfl⟩, s2, t2⟩ ⟨rfl, hx⟩
        rw [List.getElem?_map] at hx
        obtain ⟨p, hp, rfl⟩ := Option.map_eq_some_iff.mp hx
        obtain ⟨ch, hch, hH⟩ := hE.get hp
        obtain ⟨o1, o2, o3⟩ := ok.2 ch (List.mem_of_getElem? hch)
        have etk : chs.take (i + 1) = chs.take i ++ [ch] := by rw [List.take_add_one, hch]; rfl
        have lenE : ∀ c, ((nbrs (es (chs.take i) pl n) c).map sgV).length < sizeLine := fun c => by
          rw [List.length_map]
          have h1 := nbrs_len (es (chs.take i) pl n) c
          have h2 := es_len (chs.take i) pl n
          have h3 : (chs.take i).length ≤ chs.length := List.length_take_le' _ _
          have h4 := ok.1
          exact small1000 (by omega)
        refine ⟨p, _, rfl, .inl (.inl (s2 _ _ hH)), rfl, _, _, rfl, _, _, rfl, _, _, rfl, rfl, ?_⟩
        refine ⟨_, rfl, _, rfl, _, rfl, ch.2.2, pl, n, rfl, _, rfl, ite_b (fun e => ?_) (fun e => ?_)⟩
        · refine ⟨_, rfl, _, rfl, D, _, rfl, t2.val o1, .inl ⟨rfl, _, .inl (.inl (t2.lst _ o1))⟩, _, rfl, ad ch.1, _, _, rfl, rfl, t2.lst _ o1, lenE _, ?_⟩
          have nab : ad ch.2.1 ≠ ad ch.1 := fun e => o3 (t2.inj _ _ o2 o1 e).symm
          have hb : upd H3 (ad ch.1) (.lst ((nbrs (es (chs.take i) pl n) ch.1).map sgV ++ [sgV ch.2.1])) (ad ch.2.1) = some (.lst ((nbrs (es (chs.take i) pl n) ch.2.1).map sgV)) := by
            rw [upd_ne nab]
            exact t2.lst _ o2
          have hDg : DGet (upd H3 (ad ch.1) (.lst ((nbrs (es (chs.take i) pl n) ch.1).map sgV ++ [sgV ch.2.1]))) D (sgV ch.2.1) (some (.ref (ad ch.2.1))) := by
            have nD : D ≠ ad ch.1 := ne_of t2.dict (t2.lst _ o1) (by intro z; cases z)
            have := DGet.k (k := kS ch.2.1) (show upd H3 (ad ch.1) (.lst ((nbrs (es (chs.take i) pl n) ch.1).map sgV ++ [sgV ch.2.1])) D = _ by rw [upd_ne nD]; exact t2.dict)
            rw [valV_kvL, if_pos (let_mem.mp o2)] at this
            exact this
          refine ⟨_, rfl, _, rfl, D, _, rfl, hDg, .inl ⟨rfl, _, .inl (.inl hb)⟩, _, rfl, ad ch.2.1, _, _, rfl, rfl, hb, lenE _, ⟨_, _, _, _, rfl⟩, ?_, ?_⟩
          · exact same_mut (same_mut s2 (hl _ (let_mem.mp o1)).2) (hl _ (let_mem.mp o2)).2
          · rw [etk, es_snoc, if_pos e]
            exact t2.push o1 o2 o3
        · refine ⟨⟨_, _, _, _, rfl⟩, s2, ?_⟩
          rw [etk, es_snoc, if_neg (by rw [e]; decide), List.append_nil]
          exact t2
      · rintro σ H2 ⟨⟨y4, y5, y6, y7, rfl⟩, s2, t2⟩
        have : chs.take (as.map V.ref).length = chs := by rw [List.length_map, hE.length, List.take_length]
        rw [this] at t2
        exact ⟨_, rfl, q D H2 s2 ⟨ad, t2⟩⟩
end
end Wl



namespace Wl
open PySem PySem.Spec PyProof.Rows L2
abbrev Tw := List (Nat × Option Nat)
def oS : Option Nat → V
  | none => .non
  | some d => sgV d
def twK (tw : Tw) : List (Key × V) := tw.map fun p => (kS p.1, oS p.2)
theorem twK_snoc (tw : Tw) (c : Nat) (o : Option Nat) : twK (tw ++ [(c, o)]) = twK tw ++ [(kS c, oS o)] := by
  unfold twK
  rw [List.map_append]
  rfl
theorem twK_in (tw : Tw) (c : Nat) : (valV (twK tw) (kS c)).isSome = decide (c ∈ tw.map (·.1)) := by
  rw [← valV_any]
  induction tw with
  | nil => rfl
  | cons p r ih =>
    have e : twK (p :: r) = (kS p.1, oS p.2) :: twK r := rfl
    rw [e, List.any_cons, ih, List.map_cons]
    by_cases h : p.1 = c
    · subst h
      simp
    · have h1 : ¬ kS p.1 = kS c := fun q => h (kS_inj q)
      have h2 : ¬ c = p.1 := fun q => h q.symm
      rw [decide_eq_false h1]
      simp [h2]
theorem twK_none {tw : Tw} {c : Nat} (h : c ∉ tw.map (·.1)) : valV (twK tw) (kS c) = none := by
  have := twK_in tw c
  rw [decide_eq_false h] at this
  cases q : valV (twK tw) (kS c) with
  | none => rfl
  | some v => rw [q] at this; cases this
theorem twK_val : ∀ {tw : Tw} {i c : Nat} {o : Option Nat}, (tw.map (·.1)).Nodup → tw[i]? = some (c, o) → valV (twK tw) (kS c) = some (oS o)
  | [], i, c, o, _, h => by simp at h
  | p :: r, 0, c, o, _, h => by
    simp at h
    subst h
    exact valV_pos rfl
  | p :: r, i + 1, c, o, nd, h => by
    rw [List.map_cons, List.nodup_cons] at nd
    have h' : r[i]? = some (c, o) := by simpa using h
    have hm : c ∈ r.map (·.1) := List.mem_map.mpr ⟨_, List.mem_of_getElem? h', rfl⟩
    have e : valV (twK (p :: r)) (kS c) = valV (twK r) (kS c) := valV_neg fun q => by
      have := kS_inj q
      rw [this] at nd
      exact nd.1 hm
    rw [e]
    exact twK_val nd.2 h'
section
variable {P : Program} {w : World} {K : PySem.W.Frag} {mg : Str → Option Value} {base : Heap} {f : Addr} {fd : FuncData}
def spSteps : Sp := fun vs H Q _ => ∃ (g : Nat) (D : Addr) (E : Edges), vs = [sgV g, .ref D] ∧ isLet g ∧ TurnAt H D E ∧ OkE E ∧ E.length ≤ 12 ∧ ∀ (W : Addr) (tw : Tw) (H' : Hp), Same H H' → H' W = some (.dK (twK tw)) → Bfs E g tw tw.length → Q (.ref W) H'
abbrev nSteps : List Str := ["goal", "turned", "toward", "waiting", "at", "letter", "ahead"]
theorem scSteps : FnScope nSteps ["goal", "turned"] (defScope wSteps) := ⟨rfl, rfl, rfl, by decide +kernel, rfl, by decide +kernel, by decide +kernel⟩
theorem ok_steps (F : Fun K "steps_toward" "steps_toward" wSteps f fd) (B : Bi mg) : FnOk P w K mg base CX0 1 f fd ["goal", "turned"] spSteps := by
  refine F.ok scSteps (fun vs H Q E h => ?_) (fun cdv A outer s H vs Q E hr h => ?_)
  · obtain ⟨g, D, E, rfl, _⟩ := h
    rfl
  · obtain ⟨g, D, Ed, rfl, hg, ⟨ad, t⟩, okE, lE, q⟩ := h
    refine ⟨_, pss_cons (ps_set (i := 2) scSteps.nd rfl (.inl rfl) (pe_disp (pps_cons (pv 0) pe_non pps_nil) rfl rfl (by simp) (by decide)))
      (pss_cons (ps_set (i := 3) scSteps.nd rfl (.inl rfl) (pe_lst (pa_cons (pv 0) pa_nil)))
      (pss_cons (ps_set (i := 4) scSteps.nd rfl (.inl rfl) pe_int)
      (pss_cons (ps_while PassesOwn.never (pt_cmpR op_lt (pv 4) (pe_callB call_len_seq (by rfl) B.len PySem.boot_len (pa_cons (pv 3) pa_nil)) (nomark _))
        (pss_cons (ps_set (i := 5) scSteps.nd rfl (.inl rfl) (pe_ix ix_list (pv 3) (pv 4) (fun _ _ => rfl)))
        (pss_cons (ps_for PassesOwn.never rfl (pi_list (pe_dget (room1 hr) (pv 1) (pv 5) (fun _ _ => rfl))) (pg_name (i := 6) scSteps.nd rfl (.inl rfl))
          (pss_one (ps_if (pt_cmp (pc_dnotin (room1 hr) (pv 6) (pv 2)))
            (pss_cons (ps_dput (room1 hr) (pv 2) (pv 6) (pv 5) rfl)
            (pss_one (ps_expr (pe_bm PySem.F.plainAttrs_list PySem.F.slot_list_append PySem.F.type_list_append mt_append (pv 3) (pa_cons (pv 6) pa_nil))))) pss_nil)))
        (pss_one (ps_aug (i := 4) scSteps.nd rfl (.inl rfl) pe_int ip_add)))))
      (pss_one (ps_ret (pv 2)))))), ?_⟩
    intro W hW
    refine ⟨_, rfl, upd_same, [(kS g, .non)], rfl, by simp, ?_⟩
    have sW : Same H (upd (upd H W (.dK [])) W (.dK (mergeK [] [(kS g, .non)]))) := same_mut (same_new hW) hW
    have eW : (upd (upd H W (.dK [])) W (.dK (mergeK [] [(kS g, .non)]))) W = some (.dK (twK [(g, none)])) := upd_same
    generalize upd (upd H W (.dK [])) W (.dK (mergeK [] [(kS g, .non)])) = H1 at sW eW
    refine ⟨_, rfl, lz, fun L hL => ?_⟩
    have nLW : L ≠ W := (ne_of_none eW hL).symm
    have hL0 : H L = none := sW.free hL
    refine ⟨fun m σ H' => ∃ (tw : Tw) (a : Nat) (y5 y6 : Option V), m = 26 - a ∧ σ = [some (sgV g), some (.ref D), some (.ref W), some (.ref L), some (.int a), y5, y6] ∧ Same H H' ∧ H' W = some (.dK (twK tw)) ∧ H' L = some (.lst (tw.map fun p => sgV p.1)) ∧ Bfs Ed g tw a ∧ a ≤ tw.length,
      ⟨26, [(g, none)], 0, _, _, rfl, rfl, sW.trans (same_new hL), (same_new hL) _ _ eW, upd_same, Bfs.start hg, by simp⟩, ?_⟩
    rintro m σ H2 ⟨tw, a, y5, y6, rfl, rfl, s2, hW2, hL2, b2, ha⟩
    have h26 := b2.len
    refine ⟨_, rfl, _, rfl, L, _, rfl, .inl (.inl (.inl hL2)), _, _, rfl, rfl, _, rfl, ite_b (fun e => ?_) (fun e => ?_)⟩
    · have hlt : a < tw.length := by
        have := of_decide_eq_true e
        rw [List.length_map] at this
        omega
      obtain ⟨⟨x, o⟩, hx⟩ : ∃ p, tw[a]? = some p := ⟨tw[a], List.getElem?_eq_getElem hlt⟩
      have hxl : isLet x := b2.lets x (List.mem_map.mpr ⟨_, List.mem_of_getElem? hx, rfl⟩)
      refine ⟨_, fun σ' H' h => h, ?_⟩
      refine ⟨_, rfl, _, rfl, L, _, _, sgV x, rfl, rfl, .inl (.inl hL2), atI_nat (j := a) (by rw [List.getElem?_map, hx]; rfl), ?_⟩
      have lenN : (nbrs Ed x).length ≤ 24 := by
        have := nbrs_len Ed x
        omega
      refine ⟨_, rfl, _, rfl, D, _, rfl, (t.same s2).val hxl, ad x, rfl, ⟨_, .inl (.inl ((t.same s2).lst x hxl))⟩, for_it (walk_list (K := K) (a := ad x) (xs := (nbrs Ed x).map sgV)) (fun j σ H' => ∃ (tw' : Tw) (y6 : Option V), σ = [some (sgV g), some (.ref D), some (.ref W), some (.ref L), some (.int a), some (sgV x), y6] ∧ Same H H' ∧ H' W = some (.dK (twK tw')) ∧ H' L = some (.lst (tw'.map fun p => sgV p.1)) ∧ Bfs Ed g tw' a ∧ tw'[a]? = some (x, o) ∧ ∀ y ∈ (nbrs Ed x).take j, y ∈ tw'.map (·.1))
        ⟨tw, _, rfl, s2, hW2, hL2, b2, hx, fun y hy => by simp at hy⟩ (fun j σ H' _ h => ?_) ?_ ?_⟩
      · obtain ⟨_, _, _, s3, _⟩ := h
        exact .inl (.inl ((t.same s3).lst x hxl))
      · rintro j v σ H3 H4 hj ⟨tw', y6', rfl, s3, hW3, hL3, b3, hx3, hin⟩ ⟨rfl, hv⟩
        rw [List.getElem?_map] at hv
        obtain ⟨c, hc, rfl⟩ := Option.map_eq_some_iff.mp hv
        have hcn : c ∈ nbrs Ed x := List.mem_of_getElem? hc
        have hcl : isLet c := conn_let okE (Conn.step (.refl x) hcn) hxl
        have l3 := b3.len
        have etk : (nbrs Ed x).take (j + 1) = (nbrs Ed x).take j ++ [c] := by rw [List.take_add_one, hc]; rfl
        refine ⟨_, rfl, _, rfl, W, _, rfl, DGet.k (k := kS c) hW3, _, rfl, ?_⟩
        rw [twK_in]
        refine not_b (fun e => ?_) (fun e => ?_)
        · have hnot := of_decide_eq_false e
          have lK : (twK tw').length < sizeLine := by
            unfold twK
            rw [List.length_map]
            exact small1000 (by omega)
          refine ⟨_, rfl, _, rfl, _, rfl, W, _, rfl, DPut.k (k := kS c) hW3 lK, ?_⟩
          rw [putK_new _ (twK_none hnot)]
          have hL4 : upd H4 W (.dK (twK tw' ++ [(kS c, sgV x)])) L = some (.lst (tw'.map fun p => sgV p.1)) := by
            rw [upd_ne nLW]
            exact hL3
          refine ⟨_, rfl, .inl ⟨rfl, _, .inl (.inl hL4)⟩, _, rfl, L, _, _, rfl, rfl, hL4, ?_, tw' ++ [(c, some x)], _, rfl, ?_, ?_, ?_, b3.push hx3 hcn hcl hnot, ?_, ?_⟩
          · rw [List.length_map]
            exact small1000 (by omega)
          · exact same_mut (same_mut s3 hW) hL0
          · rw [upd_ne nLW.symm, upd_same, twK_snoc]
            rfl
          · rw [upd_same, List.map_append]
            rfl
          · rw [List.getElem?_append_left (List.getElem?_eq_some_iff.mp hx3).1]
            exact hx3
          · intro y hy
            rw [etk] at hy
            rw [List.map_append]
            rcases List.mem_append.mp hy with hy | hy
            · exact List.mem_append_left _ (hin y hy)
            · rw [List.mem_singleton] at hy
              subst hy
              exact List.mem_append_right _ (by simp)
        · have hyes := of_decide_eq_true e
          refine ⟨tw', _, rfl, s3, hW3, hL3, b3, hx3, fun y hy => ?_⟩
          rw [etk] at hy
          rcases List.mem_append.mp hy with hy | hy
          · exact hin y hy
          · rw [List.mem_singleton] at hy
            subst hy
            exact hyes
      · rintro σ H3 ⟨tw', y6', rfl, s3, hW3, hL3, b3, hx3, hin⟩
        have hall : ∀ y ∈ nbrs Ed x, y ∈ tw'.map (·.1) := fun y hy => hin y (by rw [List.length_map, List.take_length]; exact hy)
        have hl3 : a < tw'.length := (List.getElem?_eq_some_iff.mp hx3).1
        exact ⟨_, rfl, _, _, rfl, rfl, 26 - (a + 1), by omega, tw', a + 1, _, _, rfl, rfl, s3, hW3, hL3, b3.next hx3 hall, hl3⟩
    · have hge : tw.length ≤ a := by
        have := of_decide_eq_false e
        rw [List.length_map] at this
        omega
      have : a = tw.length := by omega
      subst this
      exact ⟨_, rfl, q W tw H2 s2 hW2 b2⟩
end
end Wl



namespace Wl
open PySem PySem.Spec PyProof.Rows L2
abbrev wLetAt : Stmt := topS 33
abbrev wMean : Stmt := topS 34
section
variable {P : Program} {w : World} {K : PySem.W.Frag} {mg : Str → Option Value} {base : Heap} {f : Addr} {fd : FuncData}
/-- a def whose last parameter may be left out: None -/
abbrev FunN (K : PySem.W.Frag) (x : Str) (st : Stmt) (f : Addr) (fd : FuncData) : Prop := FunD K x x (defArgs st) (defBody st) (defScope st) [.non] [] f fd
def HasN (P : Program) (w : World) (K : PySem.W.Frag) (mg : Str → Option Value) (base : Heap) (x : Str) (st : Stmt) (k : Nat) (ps : List Str) (sp : Sp) : Prop :=
  ∃ f fd, FnOk P w K mg base CX0 k f fd ps sp ∧ mg x = some (.ref f) ∧ FunN K x st f fd
abbrev ps2 : List Str := ["word", "changes"]
theorem bindM2 {x : Str} (F : FunN K x wMean f fd) : Binds K fd ps2 [] := by
  obtain ⟨ds, h1, h2⟩ := F.binds1 (ps := ps2) 2 1 (by simp) rfl (fun T kV doc pm an cdv ct us its l1 l2 => by
      match us, its, l1, l2 with
      | [a, b], [d], _, _ => exact ⟨_, rfl, rfl⟩)
  cases h1
  exact h2
/-! keywords -/
end
end Wl



namespace Wl
open PySem PySem.Spec PyProof.Rows L2
theorem cut_len (z : Str) (lo hi : Option Int) : (cutS z lo hi).length ≤ z.length := by
  have e : ∀ x : Str, x.length = x.cps.toList.length := fun x => by simp [Str.length]
  rw [e, e]
  show (List.take _ (List.drop _ z.cps.toList)).length ≤ _
  rw [List.length_take, List.length_drop]
  omega
theorem add_len (x y : Str) : (x ++ y).length = x.length + y.length := by
  rw [TL.len_tl, TL.tl_append, List.length_append, ← TL.len_tl, ← TL.len_tl]
theorem codes_len (z : Str) : (codes z).length = z.length := by simp [codes, Str.length]
theorem ones_sum (l : List Nat) : (l.map fun _ => 1).sum = l.length := by
  induction l with
  | nil => rfl
  | cons x r ih => rw [List.map_cons, List.sum_cons, ih, List.length_cons]; omega
section
variable {P : Program} {w : World} {K : PySem.W.Frag} {mg : Str → Option Value} {base : Heap} {f : Addr} {fd : FuncData}
theorem okN {x : Str} {st : Stmt} {N ps : List Str} {k : Nat} {sp : Sp} (F : FunN K x st f fd) (S : FnScope N ps (defScope st)) (len : ∀ vs H Q E, sp vs H Q E → vs.length = ps.length)
    (hbody : ∀ (cdv : Value) (A : Around) (outer : List Env) (s : Shared) (H : Hp) (vs : List V) (Q : VK) (E : XK), Room k (A.deeper (envOfC x (defScope st) s.heap.objs.size f cdv)) → sp vs H Q E →
      ∃ t, PSs (cxOf CX0 P w K mg base N x (defScope st) f cdv A outer s H E).nox (defBody st) t ∧ t { nx := fun _ H' => Q .non H', rt := Q } (start N vs) H) : FnOk P w K mg base CX0 (k + 1) f fd ps sp :=
  F.ok S len fun cdv A outer s H vs Q E hr hsp => let ⟨t, h, q⟩ := hbody cdv A outer s H vs Q E hr hsp; ⟨t, h.nox, q⟩
def spLetAt : Sp := fun vs H Q _ => ∃ (z : Str) (i b : Nat) (S : Addr) (chs : List Chg), vs = [.str z, .int (i : Int), .ref S] ∧ IsWd z ∧ (codes z)[i]? = some b ∧ ChAt H S chs ∧ OkCs chs ∧
  ∀ (L : Addr) (cs : List Nat) (H' : Hp), Same H H' → H' L = some (.lst ((sortS (cs.map sign)).map V.str)) → (∀ d, d ∈ cs ↔ Conn (es chs i (codes z).length) b d) → Q (.ref L) H'
theorem scLetAt : FnScope ["word", "place", "changes"] ["word", "place", "changes"] (defScope wLetAt) := ⟨rfl, rfl, rfl, by decide +kernel, rfl, by decide +kernel, by decide +kernel⟩
theorem ok_letat (F : Fun K "letters_at" "letters_at" wLetAt f fd) (B : Bi mg) (hS : Has P w K mg base "steps_toward" 1 ["goal", "turned"] spSteps) (hT : Has P w K mg base "turned_letters" 2 ["changes", "place", "length"] spTurned) : FnOk P w K mg base CX0 3 f fd ["word", "place", "changes"] spLetAt := by
  refine F.ok scLetAt (fun vs H Q E h => ?_) (fun cdv A outer s H vs Q E hr h => ?_)
  · obtain ⟨z, i, b, S, chs, rfl, _⟩ := h
    rfl
  · obtain ⟨z, i, b, S, chs, rfl, hz, hb, hS', ok, q⟩ := h
    refine ⟨_, pss_one (ps_ret (pe_callB (cr_sortD hr.units) (by rfl) B.sorted (by decide +kernel) (pa_cons (pe_callTy (call_list_dK rfl) (by rfl) B.list (by decide +kernel) (pa_cons (pe_h hS hr (pa_cons (pe_ix ix_str (pv 0) (pv 1) (fun _ _ => rfl)) (pa_cons (pe_h hT hr (pa_cons (pv 2) (pa_cons (pv 1) (pa_cons (pe_callB call_len_str (by rfl) B.len PySem.boot_len (pa_cons (pv 0) pa_nil)) pa_nil)))) pa_nil))) pa_nil)) pa_nil))), ?_⟩
    have z8 := hz.len
    have hbl : isLet b := (wd_codes.mp hz).2 b (List.mem_of_getElem? hb)
    refine ⟨_, rfl, _, rfl, z, _, b, rfl, rfl, lzl (by omega), atI_nat hb, _, rfl, _, rfl, _, rfl, _, rfl, lzl (by omega), S, chs, i, z.length, rfl, hS', ok, fun D H4 s4 t4 => ?_⟩
    rw [← codes_len z] at t4
    refine ⟨b, D, es chs i (codes z).length, rfl, hbl, t4, es_ok ok.2 _ _, Nat.le_trans (es_len _ _ _) ok.1, fun W tw H5 s5 hW bf => ?_⟩
    refine ⟨W, _, rfl, hW, fun L hL => ?_⟩
    have eL : (twK tw).map (fun kv => kV kv.1) = ((tw.map (·.1)).map sign).map V.str := by
      unfold twK
      rw [List.map_map, List.map_map, List.map_map]
      rfl
    dsimp only [tNil]
    refine srt_reads (K := K) (xs := (tw.map (·.1)).map sign) (.inl (.inl (by rw [upd_same, eL]))) fun p hp => ?_
    exact q p (tw.map (·.1)) _ (s4.trans (s5.trans ((same_new hL).trans (same_new hp)))) upd_same fun d => bf.done (Nat.le_refl _)
def spMean : Sp := fun vs H Q _ => ∃ (z : Str) (v : V) (chs : List Chg), vs = [.str z, v] ∧ IsWd z ∧ ChV H v chs ∧ OkCs chs ∧ ∀ (H' : Hp), Same H H' → Q (.str (mean chs z)) H'
abbrev nMean : List Str := ["word", "changes", "known", "place"]
theorem scMean : FnScope nMean ps2 (defScope wMean) := ⟨rfl, rfl, rfl, by decide +kernel, rfl, by decide +kernel, by decide +kernel⟩
theorem room64 {k : Nat} {A : Around} (r : Room k A) : A.units + 64 < cLine := by have := r.un; omega
theorem ok_mean (F : FunN K "meaning" wMean f fd) (B : Bi mg) (hCk : Has P w K mg base "check_word" 2 ["word"] spCheckW) (hCh : Has P w K mg base "checked_changes" 4 ["changes"] spChecked)
    (hL : Has P w K mg base "letters_at" 3 ["word", "place", "changes"] spLetAt) : FnOk P w K mg base CX0 5 f fd ps2 spMean := by
  refine okN F scMean (fun vs H Q E h => ?_) (fun cdv A outer s H vs Q E hr h => ?_)
  · obtain ⟨z, v, chs, rfl, _⟩ := h
    rfl
  · obtain ⟨z, v, chs, rfl, hz, hv, ok, q⟩ := h
    refine ⟨_, pss_cons (ps_expr (pe_h hCk hr (pa_cons (pv 0) pa_nil)))
      (pss_cons (ps_set (i := 2) scMean.nd rfl (.inr rfl) (pe_h hCh hr (pa_cons (pv 1) pa_nil)))
      (pss_one (ps_ret (pe_join pe_str (pe_lc (own := [("place", 3)]) (g := gName 3) (tt := tYes) (te := tOp (rIxL K) (tCall spLetAt [] E0 (tCons (tVar 0) (tCons (tVar 3) (tCons (tVar 2) tNil)))) (tC (.int 0))) rfl scMean.nd (pi_range1 rfl B.range (pa_cons (pe_callB call_len_str (by rfl) B.len PySem.boot_len (pa_cons (pv 0) pa_nil)) pa_nil)) (blkOk_by (N := nMean) (sc := defScope wMean) (by decide +kernel))
        (fun _ _ _ _ _ => pg_name (i := 3) scMean.nd rfl (.inl rfl)) (fun _ _ _ _ _ => pts_nil) (fun _ _ _ _ _ => pe_ix ix_list (pe_h hL hr (pa_cons (pv 0) (pa_cons (pv 3) (pa_cons (pv 2) pa_nil)))) pe_int (fun _ _ => rfl))))))), ?_⟩
    have z8 := hz.len
    refine ⟨_, rfl, z, rfl, hz, fun Ha sa => ⟨_, rfl, v, chs, rfl, hv.same sa, ok, fun S H1 s1 hS => ?_⟩⟩
    have s01 : Same H H1 := sa.trans s1
    refine ⟨⟨_, rfl⟩, _, rfl, _, rfl, lzl (by omega), (z.length : Int), rfl, by omega, by omega, fun D hD => lc_range (lo := 0) (n := z.length) (fun i H' => Same H1 H' ∧ H' D = some (.lst ((((codes (mean chs z)).take i).map sign).map V.str))) ⟨same_new hD, upd_same⟩ ?_ ?_⟩
    · rintro i H2 hi ⟨s2, hD2⟩
      obtain ⟨b, hb⟩ : ∃ b, (codes z)[i]? = some b := ⟨_, List.getElem?_eq_getElem (by rw [codes_len]; exact hi)⟩
      have ei : (0 : Int) + (i : Int) = (i : Int) := by omega
      rw [ei]
      refine ⟨rfl, yes_it ⟨_, rfl, _, rfl, _, rfl, z, i, b, S, chs, rfl, hz, hb, hS.same s2, ok, fun L cs H3 s3 hL3 hcs => ?_⟩⟩
      have hlo : ∀ d ∈ cs, lo (es chs i (codes z).length) b ≤ d := fun d hd => lo_le ((hcs d).mp hd)
      have hhd := head_sortS ((hcs _).mpr (lo_conn (es chs i (codes z).length) b)) hlo
      refine ⟨L, _, 0, .str (sign (lo (es chs i (codes z).length) b)), rfl, rfl, .inl (.inl hL3), atI_nat (j := 0) (by rw [List.getElem?_map, hhd]; rfl), _, s3 _ _ hD2, ?_, same_mut (s2.trans s3) hD, ?_⟩
      · rw [List.length_map, List.length_map]
        have h1 : ((codes (mean chs z)).take i).length ≤ (codes (mean chs z)).length := List.length_take_le' _ _
        rw [mean_len, codes_len] at h1
        exact small1000 (by omega)
      · rw [upd_same, List.take_add_one, mean_at chs z hb, List.map_append, List.map_append]
        rfl
    · rintro H2 ⟨s2, hx⟩
      have e1 : (codes (mean chs z)).take z.length = codes (mean chs z) := by rw [← codes_len z, ← mean_len chs z, List.take_length]
      rw [e1] at hx
      refine ⟨_, D, (codes (mean chs z)).map sign, rfl, rfl, .inl (.inl (.inl hx)), ?_, ?_⟩
      · have e0 : ("" : Str).length = 0 := by decide +kernel
        have e1 : ((codes (mean chs z)).map sign).map (·.length) = (codes (mean chs z)).map fun _ => 1 := by
          rw [List.map_map]
          rfl
        rw [e0, e1, Nat.mul_zero, ones_sum, mean_len, codes_len]
        omega
      · have e2 : Txt.join ("" : Str) ((codes (mean chs z)).map sign) = mean chs z := str_ext (join_signs _)
        rw [e2]
        exact q H2 (s01.trans s2)
end
end Wl



namespace Wl
open PySem PySem.Spec PyProof.Rows L2

/-! ### the text by places -/
abbrev sCell : Stmt := topS 69
abbrev sPurse : Stmt := topS 70
abbrev sPick : Stmt := topS 71
abbrev sMenu : Stmt := topS 72
abbrev sWord : Stmt := topS 73

section
variable {P : Program} {w : World} {K : PySem.W.Frag} {mg : Str → Option Value} {base : Heap} {f : Addr} {fd : FuncData}

/-! ### a cell of the script: some int -/
def spCell (K : PySem.W.Frag) : Sp := fun vs H Q _ => ∃ (a : Addr) (ns : List Int) (k : Int), vs = [.ref a, .int k] ∧ SqL K H a (ns.map V.int) ∧ 0 ≤ k ∧ k ≤ 63 ∧
  ∀ (v : Int) (H' : Hp), Same H H' → Q (.int v) H'
theorem scCell : FnScope ["_law_script", "_law_k", "_law_state", "_law_cell_here"] ["_law_script", "_law_k"] (defScope sCell) :=
  ⟨rfl, rfl, rfl, by decide +kernel, rfl, by decide +kernel, by decide +kernel⟩
theorem mem_cut {xs : List V} {lo hi : Option Int} {v : V} (h : v ∈ cutV xs lo hi) : v ∈ xs := List.mem_of_mem_drop (List.mem_of_mem_take h)
theorem ok_cell (F : Fun K "_law_cell" "_law_cell" sCell f fd) (B : Bi mg) : FnOk P w K mg base CX0 1 f fd ["_law_script", "_law_k"] (spCell K) := by
  refine F.ok scCell (fun vs H Q E h => ?_) (fun cdv A outer s H vs Q E hr h => ?_)
  · obtain ⟨a, ns, k, rfl, _⟩ := h
    rfl
  · obtain ⟨a, ns, k, rfl, hS, k0, k1, q⟩ := h
    refine ⟨_, pss_cons (ps_if (pt_cmpR op_lt (pv 1) (pe_callB call_len_seq (by rfl) B.len PySem.boot_len (pa_cons (pv 0) pa_nil)) (nomark _)) (pss_one (ps_ret (pe_ix ix_list (pv 0) (pv 1) (fun _ _ => rfl)))) pss_nil)
      (pss_cons (ps_set (i := 2) scCell.nd rfl (.inl rfl) (pe_op op_mod (pe_op op_mul pe_int (pe_op op_add (pe_op op_add (pe_op op_mul (pv 1) (pv 1)) (pe_op op_mul pe_int (pv 1))) pe_int)) pe_int))
      (pss_cons (ps_for PassesOwn.never rfl (pi_list (pe_slice sl_list (pv 0) po_none (po_some pe_int))) (pg_name (i := 3) scCell.nd rfl (.inl rfl))
        (pss_one (ps_set (i := 2) scCell.nd rfl (.inl rfl) (pe_op op_mod (pe_op op_add (pe_op op_mul (pv 2) pe_int) (pv 3)) pe_int))))
      (pss_one (ps_ret (pv 2))))), ?_⟩
    refine ⟨_, rfl, .ref a, rfl, a, _, rfl, .inl hS, _, _, rfl, rfl, _, rfl, ite_b (fun e => ?_) (fun e => ?_)⟩
    · have hk : k < ((ns.map V.int).length : Int) := of_decide_eq_true e
      rw [List.length_map] at hk
      have hk2 : k.toNat < ns.length := by omega
      refine ⟨_, rfl, _, rfl, a, _, k, .int ns[k.toNat], rfl, rfl, hS, at_of (j := k.toNat) (by omega) ?_, q _ H (Same.refl H)⟩
      rw [List.getElem?_map, List.getElem?_eq_getElem hk2]
      rfl
    · refine ⟨_, rfl, _, rfl, k, k, rfl, rfl, .inl ⟨by omega, by omega⟩, _, rfl, 5, k, rfl, rfl, .inl ⟨by decide, by decide⟩, _, _, rfl, rfl, _, _, rfl, rfl, _, _, rfl, rfl, .inl ⟨by decide, by decide⟩, _, _, rfl, rfl, (show (0 : Int) < 1000000033 by decide), ?_⟩
      refine ⟨_, rfl, 4, rfl, a, _, rfl, hS, fun p hp => ?_⟩
      have hc : SqL K (upd H p (.lst (cutV (ns.map V.int) none (some 4)))) p (cutV (ns.map V.int) none (some 4)) := .inl (.inl upd_same)
      refine ⟨p, rfl, ⟨_, hc⟩, for_list (K := K) (a := p) (xs := cutV (ns.map V.int) none (some 4)) (fun i σ H' => (∃ (z : Int) (y : Option V), σ = [some (.ref a), some (.int k), some (.int z), y]) ∧ H' = upd H p (.lst (cutV (ns.map V.int) none (some 4))))
        ⟨⟨_, _, rfl⟩, rfl⟩ (fun i σ H' _ h => by rw [h.2]; exact hc) ?_ ?_⟩
      · rintro i x σ H' hx ⟨⟨z, y, rfl⟩, rfl⟩
        obtain ⟨n, rfl⟩ : ∃ n, x = V.int n := by
          obtain ⟨n, _, e⟩ := List.mem_map.mp (mem_cut (List.mem_of_getElem? hx))
          exact ⟨n, e.symm⟩
        refine ⟨_, rfl, z, 30029, rfl, rfl, .inr ⟨by decide, by decide⟩, _, rfl, _, _, rfl, rfl, _, _, rfl, rfl, (show (0 : Int) < 1000000033 by decide), ⟨⟨_, _, rfl⟩, rfl⟩⟩
      · rintro σ H' ⟨⟨z, y, rfl⟩, rfl⟩
        exact ⟨_, rfl, q _ _ (same_new hp)⟩

/-! ### the purse -/
def PurseAt (H : Hp) (a : Addr) : Prop := ∃ s b c : Int, H a = some (.lst [.int s, .int b, .int c]) ∧ 0 ≤ b
theorem PurseAt.same {H H' : Hp} {a : Addr} (h : PurseAt H a) (s : Same H H') : PurseAt H' a := by
  obtain ⟨s0, b, c, ha, hb⟩ := h
  exact ⟨s0, b, c, s _ _ ha, hb⟩
theorem PurseAt.ne {H : Hp} {a p : Addr} (h : PurseAt H a) (hp : H p = none) : p ≠ a := by
  obtain ⟨s0, b, c, ha, hb⟩ := h
  exact (ne_of_none ha hp).symm
theorem PurseAt.lst {H : Hp} {a : Addr} (h : PurseAt H a) : ∃ ys, H a = some (.lst ys) := by
  obtain ⟨s0, b, c, ha, hb⟩ := h
  exact ⟨_, ha⟩
def spPurse : Sp := fun vs H Q _ => ∃ (n : Int), vs = [.int n] ∧ ∀ (a : Addr) (H' : Hp), H a = none → Same H H' → PurseAt H' a → Q (.ref a) H'
theorem scPurse : FnScope ["_law_cell_here"] ["_law_cell_here"] (defScope sPurse) :=
  ⟨rfl, rfl, rfl, by decide +kernel, rfl, by decide +kernel, by decide +kernel⟩
theorem ok_purse (F : Fun K "_law_purse" "_law_purse" sPurse f fd) (B : Bi mg) : FnOk P w K mg base CX0 1 f fd ["_law_cell_here"] spPurse := by
  refine F.ok scPurse (fun vs H Q E h => ?_) (fun cdv A outer s H vs Q E hr h => ?_)
  · obtain ⟨n, rfl, _⟩ := h
    rfl
  · obtain ⟨n, rfl, q⟩ := h
    refine ⟨_, pss_one (ps_ret (pe_lst (pa_cons (pe_op op_add (pe_op op_mul (pe_op op_mod (pv 0) pe_int) pe_int) pe_int)
      (pa_cons (pe_ix ix_list (pe_lst (pa_cons pe_int (pa_cons (pv 0) pa_nil))) (pe_callTy call_int1 (by rfl) B.int (by decide +kernel) (pa_cons (pe_cmpR op_ge (pv 0) (pe_op op_pow pe_int pe_int) (nomark _)) pa_nil)) (fun _ _ => rfl))
      (pa_cons pe_int pa_nil))))), ?_⟩
    refine ⟨_, rfl, _, _, rfl, rfl, (show (0 : Int) < 1000000033 by decide), _, _, rfl, rfl, .inr ⟨by decide, by decide⟩, _, _, rfl, rfl, _, rfl, lz, fun p hp => ?_⟩
    have e18 : (10 : Int) ^ (18 : Int).toNat = 1000000000000000000 := by decide
    refine ⟨_, rfl, 10, 18, rfl, rfl, ⟨by decide, by decide, by decide⟩, _, _, rfl, rfl, .inr ⟨_, rfl, ?_⟩⟩
    refine ⟨p, [.int 0, .int n], _, .int (if decide ((10 : Int) ^ (18 : Int).toNat ≤ n) = true then n else 0), rfl, rfl, .inl (.inl upd_same), ?_, lz, fun a ha => ?_⟩
    · by_cases c : (10 : Int) ^ (18 : Int).toNat ≤ n
      · simp only [decide_eq_true c, if_true]
        exact atI_nat (j := 1) rfl
      · simp only [decide_eq_false c]
        exact atI_nat (j := 0) rfl
    · have hp2 : Same H (upd H p (.lst [.int 0, .int n])) := same_new hp
      refine q a _ (hp2.free ha) (hp2.trans (same_new ha)) ⟨_, _, _, upd_same, ?_⟩
      by_cases c : (10 : Int) ^ (18 : Int).toNat ≤ n
      · simp only [decide_eq_true c, if_true]
        rw [e18] at c
        omega
      · simp only [decide_eq_false c]
        exact Int.le_refl 0
/-! ### a pick: some number below many -/
def spPick : Sp := fun vs H Q _ => ∃ (a : Addr) (m : Int), vs = [.ref a, .int m] ∧ PurseAt H a ∧ 0 < m ∧ m < 1073741824 ∧
  ∀ (r : Int) (H' : Hp), 0 ≤ r → r < m → PurseAt H' a → SameX a H H' → (∀ p, H p = none → H' p = none) → Q (.int r) H'
theorem scPick : FnScope ["_law_purse_here", "_law_count", "_law_state", "_law_taken"] ["_law_purse_here", "_law_count"] (defScope sPick) :=
  ⟨rfl, rfl, rfl, by decide +kernel, rfl, by decide +kernel, by decide +kernel⟩
theorem none_upd {H : Hp} {a : Addr} {o u : HO} (h : H a = some o) : ∀ p, H p = none → upd H a u p = none := fun p hp => by
  rw [upd_ne (ne_of_none h hp).symm]
  exact hp
theorem ok_pick (F : Fun K "_law_pick" "_law_pick" sPick f fd) : FnOk P w K mg base CX0 1 f fd ["_law_purse_here", "_law_count"] spPick := by
  refine F.ok scPick (fun vs H Q E h => ?_) (fun cdv A outer s H vs Q E hr h => ?_)
  · obtain ⟨a, m, rfl, _⟩ := h
    rfl
  · obtain ⟨a, m, rfl, ⟨s0, b, c, ha, hb⟩, m0, m1, q⟩ := h
    refine ⟨_, pss_cons (ps_asg (pe_op op_add (pe_ix ix_list (pv 0) pe_int (fun _ _ => rfl)) pe_int) (pg_sub (pv 0) pe_int set_list))
      (pss_cons (ps_set (i := 2) scPick.nd rfl (.inl rfl) (pe_op op_mod (pe_ix ix_list (pv 0) pe_int (fun _ _ => rfl)) pe_int))
      (pss_cons (ps_asg (pe_op op_add (pe_op op_mul (pv 2) (pe_op op_add (pe_op op_mod (pv 2) pe_int) pe_int)) (pe_op op_mul pe_int (pe_ix ix_list (pv 0) pe_int (fun _ _ => rfl)))) (pg_sub (pv 0) pe_int set_list))
      (pss_cons (ps_if (pt_cmpR op_gt (pe_ix ix_list (pv 0) pe_int (fun _ _ => rfl)) pe_int (nomark _))
        (pss_cons (ps_set (i := 3) scPick.nd rfl (.inl rfl) (pe_op op_mod (pe_ix ix_list (pv 0) pe_int (fun _ _ => rfl)) (pv 1)))
        (pss_cons (ps_asg (pe_op op_fdiv (pe_ix ix_list (pv 0) pe_int (fun _ _ => rfl)) (pv 1)) (pg_sub (pv 0) pe_int set_list))
        (pss_one (ps_ret (pv 3))))) pss_nil)
      (pss_one (ps_ret (pe_op op_mod (pe_op op_fdiv (pe_op op_mod (pe_ix ix_list (pv 0) pe_int (fun _ _ => rfl)) pe_int) pe_int) (pv 1))))))), ?_⟩
    have hmod : ∀ x : Int, 0 ≤ x % 1000000033 ∧ x % 1000000033 < 1000000033 := fun x => by omega
    refine ⟨_, rfl, a, _, 2, .int c, rfl, rfl, .inl (.inl ha), atI_nat (j := 2) rfl, _, _, rfl, rfl, _, rfl, a, _, 2, 2, rfl, rfl, ha, rfl, ?_⟩
    refine ⟨_, rfl, a, _, 0, .int s0, rfl, rfl, .inl (.inl upd_same), atI_nat (j := 0) rfl, _, _, rfl, rfl, (show (0 : Int) < 1000000033 by decide), ?_⟩
    refine ⟨_, rfl, _, rfl, _, _, rfl, rfl, (show (0 : Int) < 60013 by decide), _, _, rfl, rfl, _, _, rfl, rfl, .inl ⟨by have := hmod s0; omega, by have := hmod s0; omega⟩,
      _, rfl, a, _, 2, _, rfl, rfl, .inl (.inl upd_same), atI_nat (j := 2) rfl, _, _, rfl, rfl, .inl ⟨by decide, by decide⟩, _, _, rfl, rfl, _, rfl, a, _, 0, 0, rfl, rfl, upd_same, rfl, ?_⟩
    refine ⟨_, rfl, a, _, 1, .int b, rfl, rfl, .inl (.inl upd_same), atI_nat (j := 1) rfl, _, _, rfl, rfl, _, rfl, ite_b (fun e => ?_) (fun e => ?_)⟩
    · refine ⟨_, rfl, a, _, 1, .int b, rfl, rfl, .inl (.inl upd_same), atI_nat (j := 1) rfl, _, rfl, b, m, rfl, rfl, m0, ?_⟩
      refine ⟨_, rfl, a, _, 1, .int b, rfl, rfl, .inl (.inl upd_same), atI_nat (j := 1) rfl, _, rfl, b, m, rfl, rfl, ⟨m0, m1⟩, _, rfl, a, _, 1, 1, rfl, rfl, upd_same, rfl, ?_⟩
      refine ⟨_, rfl, q _ _ (Int.emod_nonneg _ (by omega)) (Int.emod_lt_of_pos _ m0) ⟨_, _, _, upd_same, ?_⟩ (((sameX_upd).trans sameX_upd).trans sameX_upd) fun p hp => ?_⟩
      · exact Int.ediv_nonneg hb (by omega)
      · exact none_upd upd_same p (none_upd upd_same p (none_upd ha p hp))
    · refine ⟨_, rfl, a, _, 0, _, rfl, rfl, .inl (.inl upd_same), atI_nat (j := 0) rfl, _, _, rfl, rfl, (show (0 : Int) < 1000000033 by decide), _, _, rfl, rfl, ⟨by decide, by decide⟩, _, rfl, _, m, rfl, rfl, m0, ?_⟩
      exact q _ _ (Int.emod_nonneg _ (by omega)) (Int.emod_lt_of_pos _ m0) ⟨_, _, _, upd_same, hb⟩ ((sameX_upd).trans sameX_upd) fun p hp => none_upd upd_same p (none_upd ha p hp)

/-! ### the menu, a word -/
def menuW : List Str := ["put", "doubt", "strike", "back", "change", "one", "map", "words", "parted", "line", "rings", "thin", "fate", "asks", "habit", "apart", "near", "paper", "ok", "no", "none", "self", "may", "not", "has", "any"]
theorem menu_wd : ∀ z ∈ menuW, IsWd z := by decide +kernel
theorem menu_len : menuW.length = 26 := by decide +kernel
def spMenu : Sp := fun vs H Q _ => vs = [] ∧ ∀ (p : Addr) (H' : Hp), H p = none → Same H H' → H' p = some (.lst (menuW.map V.str)) → Q (.ref p) H'
theorem scMenu : FnScope ["_law_some"] [] (defScope sMenu) := ⟨rfl, rfl, rfl, by decide +kernel, rfl, by decide +kernel, by decide +kernel⟩
theorem ok_menu (F : Fun K "_law_menu" "_law_menu" sMenu f fd) : FnOk P w K mg base CX0 1 f fd [] spMenu := by
  refine F.ok scMenu (fun vs H Q E h => ?_) (fun cdv A outer s H vs Q E hr h => ?_)
  · obtain ⟨rfl, _⟩ := h
    rfl
  · obtain ⟨rfl, q⟩ := h
    refine ⟨_, pss_cons (ps_set (i := 0) scMenu.nd rfl (.inl rfl) (pe_lst (pa_cons pe_str (pa_cons pe_str (pa_cons pe_str (pa_cons pe_str (pa_cons pe_str (pa_cons pe_str (pa_cons pe_str (pa_cons pe_str (pa_cons pe_str (pa_cons pe_str pa_nil))))))))))))
      (pss_cons (ps_set (i := 0) scMenu.nd rfl (.inl rfl) (pe_op op_cat (pv 0) (pe_lst (pa_cons pe_str (pa_cons pe_str (pa_cons pe_str pa_nil))))))
      (pss_one (ps_ret (pe_op op_cat (pv 0) (pe_lst (pa_cons pe_str (pa_cons pe_str (pa_cons pe_str (pa_cons pe_str (pa_cons pe_str (pa_cons pe_str (pa_cons pe_str (pa_cons pe_str (pa_cons pe_str (pa_cons pe_str (pa_cons pe_str (pa_cons pe_str (pa_cons pe_str pa_nil)))))))))))))))))), ?_⟩
    refine ⟨lz, fun p1 h1 => ?_⟩
    refine ⟨_, rfl, lz, fun p2 h2 => ⟨p1, p2, _, _, rfl, rfl, (same_new h2) _ _ upd_same, upd_same, lz, fun p3 h3 => ?_⟩⟩
    refine ⟨_, rfl, lz, fun p4 h4 => ⟨p3, p4, _, _, rfl, rfl, (same_new h4) _ _ upd_same, upd_same, lz, fun p5 h5 => ?_⟩⟩
    exact q p5 _ (Same.free (((same_new h1).trans (same_new h2)).trans ((same_new h3).trans (same_new h4))) h5) ((((same_new h1).trans (same_new h2)).trans ((same_new h3).trans (same_new h4))).trans (same_new h5)) upd_same

def spWord : Sp := fun vs H Q _ => ∃ (a : Addr), vs = [.ref a] ∧ PurseAt H a ∧ ∀ (z : Str) (H' : Hp), IsWd z → PurseAt H' a → SameX a H H' → Q (.str z) H'
abbrev nWord : List Str := ["_law_purse_here", "_law_way", "_law_wide", "_law_count", "_law_k"]
theorem scWord : FnScope nWord ["_law_purse_here"] (defScope sWord) :=
  ⟨rfl, rfl, rfl, by decide +kernel, rfl, by decide +kernel, by decide +kernel⟩
theorem ok_word (F : Fun K "_law_word" "_law_word" sWord f fd) (B : Bi mg) (hp : Has P w K mg base "_law_pick" 1 ["_law_purse_here", "_law_count"] spPick) (hm : Has P w K mg base "_law_menu" 1 [] spMenu) :
    FnOk P w K mg base CX0 2 f fd ["_law_purse_here"] spWord := by
  refine F.ok scWord (fun vs H Q E h => ?_) (fun cdv A outer s H vs Q E hr h => ?_)
  · obtain ⟨a, rfl, _⟩ := h
    rfl
  · obtain ⟨a, rfl, hA, q⟩ := h
    refine ⟨_, pss_cons (ps_asg (pe_tup (pa_cons (pe_h hp hr (pa_cons (pv 0) (pa_cons pe_int pa_nil))) (pa_cons (pe_ix ix_list (pe_lst (pa_cons pe_int (pa_cons pe_int (pa_cons pe_int pa_nil)))) (pe_h hp hr (pa_cons (pv 0) (pa_cons pe_int pa_nil))) (fun _ _ => rfl)) pa_nil)))
        (pg_tup rfl (pgs_cons (pg_name (i := 1) scWord.nd rfl (.inl rfl)) (pgs_cons (pg_name (i := 2) scWord.nd rfl (.inr rfl)) pgs_nil))))
      (pss_cons (ps_if (pt_cmpR op_eq (pv 1) pe_int (nomark _)) (pss_one (ps_ret (pe_ix ix_list (pe_h0 hm hr) (pe_h hp hr (pa_cons (pv 0) (pa_cons pe_int pa_nil))) (fun _ _ => rfl)))) pss_nil)
      (pss_cons (ps_set (i := 3) scWord.nd rfl (.inl rfl) (pe_ix ix_list (pe_lst (pa_cons pe_int (pa_cons pe_int (pa_cons pe_int (pa_cons pe_int (pa_cons (pe_op op_add pe_int (pe_h hp hr (pa_cons (pv 0) (pa_cons pe_int pa_nil)))) pa_nil)))))) (pe_h hp hr (pa_cons (pv 0) (pa_cons pe_int pa_nil))) (fun _ _ => rfl)))
      (pss_one (ps_ret (pe_join pe_str (pe_lc (own := [("_law_k", 4)]) (g := gName 4) (tt := tYes) rfl scWord.nd (pi_range1 (by rfl) B.range (pa_cons (pv 3) pa_nil)) (blkOk_by (N := nWord) (sc := defScope sWord) (by decide +kernel))
        (fun _ _ _ _ _ => pg_name (i := 4) scWord.nd rfl (.inl rfl)) (fun _ _ _ _ _ => pts_nil) (fun _ _ _ _ _ => pe_ix ix_str pe_str (pe_h hp hr (pa_cons (pv 0) (pa_cons (pv 2) pa_nil))) (fun _ _ => rfl)))))))), ?_⟩
    -- way, wide
    refine ⟨_, rfl, a, 4, rfl, hA, by decide, by decide, fun r1 H1 r10 r11 hA1 s1 n1 => ?_⟩
    refine ⟨lz, fun p hp => ⟨_, rfl, a, 3, rfl, hA1.same (same_new hp), by decide, by decide, fun r2 H2 r20 r21 hA2 s2 n2 => ?_⟩⟩
    have npa := hA1.ne hp
    obtain ⟨wd, hwm, hwd⟩ := atI_tab (ns := [3, 5, 26]) r20 r21
    have hw : 0 < wd ∧ wd ≤ 26 := by
      simp only [List.mem_cons, List.not_mem_nil, or_false] at hwm
      omega
    have s2' : SameX a H H2 := (s1.trans (sx (same_new hp))).trans s2
    refine ⟨p, _, r2, .int wd, rfl, rfl, .inl (.inl (s2 _ _ npa upd_same)), hwd, lz, fun t ht => ?_⟩
    refine ⟨t, _, rfl, .inl (.inl upd_same), rfl, _, _, rfl, _, _, rfl, rfl, ?_⟩
    have hA3 := hA2.same (same_new (o := .tup [.int r1, .int wd]) ht)
    have s3 : SameX a H _ := s2'.trans (sx (same_new (o := .tup [.int r1, .int wd]) ht))
    generalize upd H2 t (.tup [.int r1, .int wd]) = H3 at hA3 s3
    refine ⟨_, rfl, rfl, _, rfl, ite_b (fun e => ?_) (fun e => ?_)⟩
    · -- menu()[..]
      refine ⟨rfl, fun p4 H4 hp4 s4 h4 => ⟨_, rfl, a, 26, rfl, hA3.same s4, by decide, by decide, fun r5 H5 r50 r51 hA5 s5 n5 => ?_⟩⟩
      obtain ⟨z, hz, hzi⟩ := atI_strs (zs := menuW) r50 (by rw [menu_len]; exact r51)
      exact ⟨p4, _, r5, .str z, rfl, rfl, .inl (.inl (s5 _ _ (hA3.ne hp4) h4)), hzi, q z H5 (menu_wd z hz) hA5 ((s3.trans (sx s4)).trans s5)⟩
    · -- size
      refine ⟨_, rfl, a, 8, rfl, hA3, by decide, by decide, fun r4 H4 r40 r41 hA4 s4 n4 => ⟨_, _, rfl, rfl, lz, fun p5 hp5 => ⟨_, rfl, a, 5, rfl, hA4.same (same_new hp5), by decide, by decide, fun r6 H6 r60 r61 hA6 s6 n6 => ?_⟩⟩⟩
      have np5 := hA4.ne hp5
      obtain ⟨sz, hsm, hsz⟩ := atI_tab (ns := [1, 2, 3, 4, 1 + r4]) r60 r61
      have hs8 : 1 ≤ sz ∧ sz ≤ 8 := by
        simp only [List.mem_cons, List.not_mem_nil, or_false] at hsm
        omega
      refine ⟨p5, _, r6, .int sz, rfl, rfl, .inl (.inl (s6 _ _ np5 upd_same)), hsz, ?_⟩
      have s6' : SameX a H H6 := ((s3.trans s4).trans (sx (same_new hp5))).trans s6
      -- join of the signs
      refine ⟨⟨_, rfl⟩, _, rfl, sz, rfl, by omega, by omega, fun D hD => lc_range (lo := 0) (n := sz.toNat)
        (fun i H' => ∃ cs : List Nat, cs.length = i ∧ (∀ c ∈ cs, 97 ≤ c ∧ c ≤ 122) ∧ H' D = some (.lst ((cs.map sign).map V.str)) ∧ PurseAt H' a ∧ SameX a H6 H')
        ⟨[], rfl, fun c hc => by simp at hc, upd_same, hA6.same (same_new hD), sx (same_new hD)⟩ ?_ ?_⟩
      · rintro i H7 hi ⟨cs, hcl, hcs, hDl, hA7, s7⟩
        refine ⟨rfl, yes_it ⟨_, rfl, _, rfl, a, wd, rfl, hA7, hw.1, by omega, fun r8 H8 r80 r81 hA8 s8 n8 => ?_⟩⟩
        have nD := hA6.ne hD
        refine ⟨_, r8, _, rfl, rfl, lz, letter_at r80 (by omega), _, s8 _ _ nD hDl, ?_, ?_⟩
        · rw [List.length_map, List.length_map]
          exact small1000 (by omega)
        · refine ⟨cs ++ [97 + r8.toNat], by simp [hcl], fun c hc => ?_, ?_, ?_, sameX_mut (s7.trans s8) hD⟩
          · rcases List.mem_append.mp hc with hc | hc
            · exact hcs c hc
            · rw [List.mem_singleton.mp hc]
              omega
          · rw [upd_same, List.map_append, List.map_append]
            rfl
          · obtain ⟨x0, x1, x2, hx, hx1⟩ := hA8
            exact ⟨x0, x1, x2, by rw [upd_ne nD.symm]; exact hx, hx1⟩
      · rintro H7 ⟨cs, hcl, hcs, hDl, hA7, s7⟩
        refine ⟨_, D, cs.map sign, rfl, rfl, .inl (.inl (.inl hDl)), ?_, ?_⟩
        · have e0 : ("" : Str).length = 0 := by decide +kernel
          have e1 : (cs.map sign).map (·.length) = cs.map fun _ => 1 := by
            rw [List.map_map]
            rfl
          rw [e0, e1, Nat.mul_zero]
          have e2 : ∀ l : List Nat, (l.map fun _ => 1).sum = l.length := fun l => by
            induction l with
            | nil => rfl
            | cons x r ih => rw [List.map_cons, List.sum_cons, ih, List.length_cons]; omega
          rw [e2]
          omega
        · refine q _ H7 (isWd_of ?_ ?_ ?_) hA7 (s6'.trans s7)
          · rw [join_signs]; omega
          · rw [join_signs]; omega
          · rw [join_signs]; exact hcs
end
end Wl



namespace Wl
open PySem
def Closed (E : Edges) (l : List Nat) : Prop := ∀ e ∈ E, (e.1 ∈ l ↔ e.2 ∈ l)
theorem closed_conn {E : Edges} {l : List Nat} (h : Closed E l) {c d : Nat} (hc : c ∈ l) (k : Conn E c d) : d ∈ l := by
  induction k with
  | refl => exact hc
  | step _ m ih =>
    rcases mem_nbrs.mp m with m | m
    · exact (h _ m).mp ih
    · exact (h _ m).mpr ih
theorem filt_more {p q : Nat × Nat → Bool} : ∀ {E : Edges}, (∀ e, p e = true → q e = true) → (∃ e ∈ E, p e = false ∧ q e = true) → (E.filter p).length + 1 ≤ (E.filter q).length
  | [], _, ⟨_, h, _⟩ => nomatch h
  | e :: E, h, ⟨x, hx, h1, h2⟩ => by
    have sub : ∀ E : Edges, (E.filter p).length ≤ (E.filter q).length := fun E => by
      induction E with
      | nil => exact Nat.le_refl _
      | cons y r ih =>
        rw [List.filter_cons, List.filter_cons]
        by_cases c : p y = true
        · rw [if_pos c, if_pos (h y c), List.length_cons, List.length_cons]
          omega
        · rw [if_neg c]
          split
          · rw [List.length_cons]
            omega
          · exact ih
    have s1 := sub E
    rw [List.filter_cons, List.filter_cons]
    rcases List.mem_cons.mp hx with rfl | hx
    · rw [if_neg (by rw [h1]; decide), if_pos h2, List.length_cons]
      omega
    · have ih := filt_more (E := E) h ⟨x, hx, h1, h2⟩
      by_cases c : p e = true
      · rw [if_pos c, if_pos (h e c), List.length_cons, List.length_cons]
        omega
      · rw [if_neg c]
        split
        · rw [List.length_cons]
          omega
        · exact ih
/-- the edges within -/
def inE (E : Edges) (l : List Nat) : Nat := (E.filter fun e => decide (e.1 ∈ l) && decide (e.2 ∈ l)).length
structure KinB (E : Edges) (c : Nat) (l : List Nat) : Prop where
  nd : l.Nodup
  lets : ∀ x ∈ l, isLet x
  conn : ∀ x ∈ l, Conn E c x
  mem : c ∈ l
  few : l.length ≤ inE E l + 1
theorem KinB.start {E : Edges} {c : Nat} (h : isLet c) : KinB E c [c] := ⟨by simp, fun x hx => by simp at hx; subst hx; exact h, fun x hx => by simp at hx; subst hx; exact .refl _, by simp, by simp⟩
theorem KinB.push {E : Edges} {c x y : Nat} {l : List Nat} (b : KinB E c l) (hx : x ∈ l) (hy : y ∉ l) (hn : y ∈ nbrs E x) (hl : isLet y) : KinB E c (l ++ [y]) := by
  have hfew : inE E l + 1 ≤ inE E (l ++ [y]) := by
    refine filt_more (fun e he => ?_) ?_
    · simp only [Bool.and_eq_true, decide_eq_true_eq] at he ⊢
      exact ⟨List.mem_append_left _ he.1, List.mem_append_left _ he.2⟩
    · rcases mem_nbrs.mp hn with m | m
      · exact ⟨_, m, by simp [hy], by simp [hx]⟩
      · exact ⟨_, m, by simp [hy], by simp [hx]⟩
  refine ⟨?_, fun u hu => ?_, fun u hu => ?_, List.mem_append_left _ b.mem, by have := b.few; rw [List.length_append, List.length_singleton]; omega⟩
  · rw [List.nodup_append]
    refine ⟨b.nd, by simp, fun u hu v hv e => ?_⟩
    simp at hv
    subst hv e
    exact hy hu
  · rcases List.mem_append.mp hu with hu | hu
    · exact b.lets u hu
    · simp at hu; subst hu; exact hl
  · rcases List.mem_append.mp hu with hu | hu
    · exact b.conn u hu
    · simp at hu; subst hu; exact .step (b.conn x hx) hn
theorem KinB.len {E : Edges} {c : Nat} {l : List Nat} (b : KinB E c l) : l.length ≤ 26 := by
  have h := b.nd.length_le_of_subset (l₂ := List.range' 97 26) fun x hx => by
    have := b.lets x hx
    rw [List.mem_range'_1]
    unfold isLet at this
    omega
  simpa using h
def KinP (E : Edges) (c : Nat) (l0 : List Nat) (Ej : Edges) (l : List Nat) : Prop := KinB E c l ∧ ((l = l0 ∧ ∀ e ∈ Ej, (e.1 ∈ l ↔ e.2 ∈ l)) ∨ (¬ Closed E l0 ∧ l0.length + 1 ≤ l.length))
theorem KinP.add {E : Edges} {c a b : Nat} {l0 l : List Nat} {Ej Ek : Edges} (p : KinP E c l0 Ej l) (he : (a, b) ∈ E ∨ (b, a) ∈ E) (ha : a ∈ l) (hb : b ∉ l) (hl : isLet b) : KinP E c l0 Ek (l ++ [b]) := by
  obtain ⟨p1, p2⟩ := p
  refine ⟨p1.push ha hb (mem_nbrs.mpr he) hl, .inr ?_⟩
  rw [List.length_append, List.length_singleton]
  rcases p2 with ⟨e, _⟩ | ⟨h1, h2⟩
  · subst e
    refine ⟨fun cl => ?_, Nat.le_refl _⟩
    rcases he with he | he
    · exact hb ((cl _ he).mp ha)
    · exact hb ((cl _ he).mpr ha)
  · exact ⟨h1, by omega⟩
theorem KinP.skip {E : Edges} {c a b : Nat} {l0 l : List Nat} {Ej : Edges} (p : KinP E c l0 Ej l) (h : a ∈ l ↔ b ∈ l) : KinP E c l0 (Ej ++ [(a, b)]) l := by
  obtain ⟨p1, p2⟩ := p
  refine ⟨p1, ?_⟩
  rcases p2 with ⟨e, q⟩ | q
  · refine .inl ⟨e, fun x hx => ?_⟩
    rcases List.mem_append.mp hx with hx | hx
    · exact q x hx
    · rw [List.mem_singleton] at hx
      subst hx
      exact h
  · exact .inr q
def KinK (E : Edges) (c k : Nat) (l : List Nat) : Prop := KinB E c l ∧ (Closed E l ∨ k + 1 ≤ l.length)
theorem KinK.begin {E : Edges} {c k : Nat} {l : List Nat} (h : KinK E c k l) : KinP E c l [] l := ⟨h.1, .inl ⟨rfl, fun e he => by cases he⟩⟩
theorem KinK.next {E : Edges} {c k : Nat} {l0 l : List Nat} (h : KinK E c k l0) (p : KinP E c l0 E l) : KinK E c (k + 1) l := by
  refine ⟨p.1, ?_⟩
  rcases p.2 with ⟨_, q⟩ | ⟨q1, q2⟩
  · exact .inl q
  · rcases h.2 with h2 | h2
    · exact absurd h2 q1
    · exact .inr (by omega)
theorem KinK.done {E : Edges} {c : Nat} {l : List Nat} (h : KinK E c 26 l) {d : Nat} : d ∈ l ↔ Conn E c d := by
  have hl := h.1.len
  rcases h.2 with h2 | h2
  · exact ⟨h.1.conn d, closed_conn h2 h.1.mem⟩
  · omega
theorem KinK.doneE {E : Edges} {c k : Nat} {l : List Nat} (h : KinK E c k l) {d : Nat} (hk : E.length + 1 ≤ k) : d ∈ l ↔ Conn E c d := by
  have hl := h.1.few
  have h3 : inE E l ≤ E.length := List.length_filter_le _ _
  rcases h.2 with h2 | h2
  · exact ⟨h.1.conn d, closed_conn h2 h.1.mem⟩
  · omega
end Wl

namespace Wl
open PySem PySem.Spec PyProof.Rows L2
abbrev sKin : Stmt := topS 76
abbrev sMeaning : Stmt := topS 77
def sd (z : Str) : V × PyData := (.str z, .str z)
theorem sort_strs (xs : List Str) : ((xs.map sd).mergeSort (PySem.W.dataLe false (·.2))).map (·.1) = (sortS xs).map V.str := by
  have h : (sortS xs).map sd = (xs.map sd).mergeSort (PySem.W.dataLe false (·.2)) := List.map_mergeSort fun a _ b _ => by
    rw [PySem.W.dataLe_eq]
    exact (le_data_str a b).symm
  rw [← h, List.map_map]
  rfl
theorem alike_strs (xs : List Str) : PySem.W.AllAlike ((xs.map sd).map (·.2)) := by
  intro d hd e he
  obtain ⟨b, hb, rfl⟩ := List.mem_map.mp hd
  obtain ⟨x, _, rfl⟩ := List.mem_map.mp hb
  obtain ⟨c, hc, rfl⟩ := List.mem_map.mp he
  obtain ⟨y, _, rfl⟩ := List.mem_map.mp hc
  rfl
theorem sortable_strs (xs : List Str) : PySem.W.Sortable ((xs.map sd).map (·.2)) := .inr fun d hd => by
  obtain ⟨b, hb, rfl⟩ := List.mem_map.mp hd
  obtain ⟨x, _, rfl⟩ := List.mem_map.mp hb
  exact ⟨(fun e => by cases e), (fun ys e => by cases e)⟩
/-- sorted of a list of texts, as a reading -/
theorem sort_readsK {K : PySem.W.Frag} {H : Hp} {Q : VK} {a : Addr} {xs : List Str} (h : SqL K H a (xs.map V.str)) (q : ∀ p, H p = none → Q (.ref p) (upd H p (.lst ((sortS xs).map V.str)))) : rSortD K [.ref a] H Q := by
  refine ⟨a, xs.map sd, rfl, ?_, ?_, alike_strs xs, sortable_strs xs, ?_, fun p hp => ?_⟩
  · rw [List.map_map]
    exact h
  · intro b hb
    obtain ⟨x, _, rfl⟩ := List.mem_map.mp hb
    exact .str x
  · intro b hb
    obtain ⟨x, _, rfl⟩ := List.mem_map.mp hb
    show PyData.depth (.str x) ≤ 8
    simp [PyData.depth]
  · rw [sort_strs]
    exact q p hp
theorem sign_inj {a b : Nat} (h : sign a = sign b) : a = b := by
  have e := congrArg (fun z : Str => z.cps.toList) h
  simpa [sign] using e
theorem mem_signs {a : Nat} {l : List Nat} : sign a ∈ l.map sign ↔ a ∈ l := by
  constructor
  · intro h
    obtain ⟨b, hb, e⟩ := List.mem_map.mp h
    rw [← sign_inj e]
    exact hb
  · exact fun h => List.mem_map.mpr ⟨a, h, rfl⟩
theorem inV_signs (a : Nat) (l : List Nat) : inV (.str (sign a)) ((l.map sign).map V.str) = decide (a ∈ l) := by
  rw [inV_strs]
  by_cases h : a ∈ l
  · rw [decide_eq_true h, decide_eq_true (mem_signs.mpr h)]
  · rw [decide_eq_false h, decide_eq_false fun q => h (mem_signs.mp q)]
section
variable {a : Nat} {l : List Nat}
theorem inT (h : a ∈ l) : V.bl (if (false : Bool) then !inV (.str (sign a)) ((l.map sign).map V.str) else inV (.str (sign a)) ((l.map sign).map V.str)) = .bl true := by
  rw [if_neg (by decide), inV_signs, decide_eq_true h]
theorem inF (h : a ∉ l) : V.bl (if (false : Bool) then !inV (.str (sign a)) ((l.map sign).map V.str) else inV (.str (sign a)) ((l.map sign).map V.str)) = .bl false := by
  rw [if_neg (by decide), inV_signs, decide_eq_false h]
theorem niT (h : a ∉ l) : V.bl (if (true : Bool) then !inV (.str (sign a)) ((l.map sign).map V.str) else inV (.str (sign a)) ((l.map sign).map V.str)) = .bl true := by
  rw [if_pos rfl, inV_signs, decide_eq_false h]
  rfl
theorem niF (h : a ∈ l) : V.bl (if (true : Bool) then !inV (.str (sign a)) ((l.map sign).map V.str) else inV (.str (sign a)) ((l.map sign).map V.str)) = .bl false := by
  rw [if_pos rfl, inV_signs, decide_eq_true h]
  rfl
end
theorem sorted_least {l : List Nat} {E : Edges} {c : Nat} (nd : l.Nodup) (hm : ∀ d, d ∈ l ↔ Conn E c d) : ∃ r, (sortS (l.map sign)).map V.str = sgV (lo E c) :: r := by
  have nd2 : (l.map sign).Nodup := by
    exact List.pairwise_map.mpr (nd.imp fun h e => h (sign_inj e))
  have hr := sortS_rising nd2
  cases hs : sortS (l.map sign) with
  | nil =>
    have : sign c ∈ sortS (l.map sign) := mem_sortS.mpr (mem_signs.mpr ((hm c).mpr (.refl c)))
    rw [hs] at this
    cases this
  | cons m r =>
    rw [hs] at hr
    have hmm : m ∈ l.map sign := mem_sortS.mp (by rw [hs]; exact List.mem_cons_self)
    obtain ⟨d, hd, rfl⟩ := List.mem_map.mp hmm
    refine ⟨r.map V.str, ?_⟩
    have : lo E c = d := lo_of ((hm d).mp hd) fun x hx => by
      have hx2 : sign x ∈ sortS (l.map sign) := mem_sortS.mpr (mem_signs.mpr ((hm x).mpr hx))
      rw [hs] at hx2
      rcases List.mem_cons.mp hx2 with e | e
      · rw [sign_inj e]
        exact Nat.le_refl _
      · have := (List.pairwise_cons.mp hr).1 _ e
        exact Nat.le_of_lt ((sign_lt d x).mp this)
    rw [this]
    rfl
section
variable {P : Program} {w : World} {K : PySem.W.Frag} {mg : Str → Option Value} {base : Heap} {f : Addr} {fd : FuncData}
theorem kin_tt {σ : L2.St} {H : Hp} {Q : Bool → Hp → Prop} {wh : Wh} {pl n : Nat} (h8 : σ[8]? = some (some (.str (whS wh)))) (h2 : σ[2]? = some (some (.bl (decide (pl = 0))))) (h3 : σ[3]? = some (some (.bl (decide (pl + 1 = n))))) (q : Q (acts wh pl n) H) :
    tOr (tTest (tOp rEq (tVar 8) (tC (V.str "any")))) (tOr (tAnd (tTest (tOp rEq (tVar 8) (tC (V.str "first")))) fun σ H Q => tVar 2 σ H fun x H' => ∃ k, TruV K x H' k ∧ Q k H')
      (tAnd (tTest (tOp rEq (tVar 8) (tC (V.str "last")))) fun σ H Q => tVar 3 σ H fun x H' => ∃ k, TruV K x H' k ∧ Q k H')) σ H Q := by
  have e1 : decide (V.str (whS wh) = V.str "any") = decide (wh = .any) := wh_dec wh .any
  have e2 : decide (V.str (whS wh) = V.str "first") = decide (wh = .first) := wh_dec wh .first
  have e3 : decide (V.str (whS wh) = V.str "last") = decide (wh = .last) := wh_dec wh .last
  refine ⟨_, h8, rfl, _, rfl, ?_⟩
  rw [e1]
  cases wh with
  | any => exact iteT q
  | first =>
    refine iteF ⟨_, h8, rfl, _, rfl, ?_⟩
    rw [e2]
    refine iteT ⟨_, h2, _, rfl, ite_b (fun e => ?_) (fun e => ?_)⟩
    · rw [← e]
      exact q
    · refine ⟨_, h8, rfl, _, rfl, ?_⟩
      rw [e3]
      refine iteF ?_
      rw [← e]
      exact q
  | last =>
    refine iteF ⟨_, h8, rfl, _, rfl, ?_⟩
    rw [e2]
    refine iteF (iteF ⟨_, h8, rfl, _, rfl, ?_⟩)
    rw [e3]
    exact iteT ⟨_, h3, _, rfl, q⟩
def spKin : Sp := fun vs H Q _ => ∃ (S : Addr) (chs : List Chg) (c i n : Nat), vs = [.ref S, sgV c, .bl (decide (i = 0)), .bl (decide (i + 1 = n))] ∧ ChAt H S chs ∧ OkCs chs ∧ isLet c ∧
  ∀ (p : Addr) (xs : List V) (H' : Hp), Same H H' → H' p = some (.lst (sgV (lo (es chs i n) c) :: xs)) → Q (.ref p) H'
abbrev nKin : List Str := ["_law_shifts", "_law_letter", "_law_first", "_law_last", "_law_found", "_law_turn", "_law_one", "_law_second", "_law_where"]
theorem scKin : FnScope nKin ["_law_shifts", "_law_letter", "_law_first", "_law_last"] (defScope sKin) := ⟨rfl, rfl, rfl, by decide +kernel, rfl, by decide +kernel, by decide +kernel⟩
theorem ok_kin (F : Fun K "_law_kin" "_law_kin" sKin f fd) (B : Bi mg) : FnOk P w K mg base CX0 1 f fd ["_law_shifts", "_law_letter", "_law_first", "_law_last"] spKin := by
  refine F.ok scKin (fun vs H Q E h => ?_) (fun cdv A outer s H vs Q E hr h => ?_)
  · obtain ⟨S, chs, c, i, n, rfl, _⟩ := h
    rfl
  · obtain ⟨S, chs, c, pl, n, rfl, ⟨as, hS, hE⟩, ok, hc, q⟩ := h
    refine ⟨_, pss_cons (ps_set (i := 4) scKin.nd rfl (.inl rfl) (pe_lst (pa_cons (pv 1) pa_nil)))
      (pss_cons (ps_for PassesOwn.never rfl (pi_range1 (by rfl) B.range (pa_cons pe_int pa_nil)) (pg_name (i := 5) scKin.nd rfl (.inl rfl))
        (pss_one (ps_for PassesOwn.never rfl (pi_tup (pv 0)) (pg_tup rfl (pgs_cons (pg_name (i := 6) scKin.nd rfl (.inl rfl)) (pgs_cons (pg_name (i := 7) scKin.nd rfl (.inl rfl)) (pgs_cons (pg_name (i := 8) scKin.nd rfl (.inl rfl)) pgs_nil))))
          (pss_one (ps_if (PW.pt (pw_or (pt_cmpR op_eq (pv 8) pe_str (nomark _)) (pw_or (PW.pt (pw_and (pt_cmpR op_eq (pv 8) pe_str (nomark _)) (pw_and1 (pt_truth (pv 2) (by intro _; rfl))))) (pw_or1 (PW.pt (pw_and (pt_cmpR op_eq (pv 8) pe_str (nomark _)) (pw_and1 (pt_truth (pv 3) (by intro _; rfl)))))))))
            (pss_cons (ps_if (PW.pt (pw_and (pt_cmpR op_in_seq (pv 6) (pv 4) (by rfl)) (pw_and1 (pt_cmpR op_notIn_seq (pv 7) (pv 4) (by rfl))))) (pss_one (ps_expr (pe_bm PySem.F.plainAttrs_list PySem.F.slot_list_append PySem.F.type_list_append mt_append (pv 4) (pa_cons (pv 7) pa_nil)))) pss_nil)
            (pss_one (ps_if (PW.pt (pw_and (pt_cmpR op_in_seq (pv 7) (pv 4) (by rfl)) (pw_and1 (pt_cmpR op_notIn_seq (pv 6) (pv 4) (by rfl))))) (pss_one (ps_expr (pe_bm PySem.F.plainAttrs_list PySem.F.slot_list_append PySem.F.type_list_append mt_append (pv 4) (pa_cons (pv 6) pa_nil)))) pss_nil)))
            pss_nil)))))
      (pss_one (ps_ret (pe_callB (cr_sortD hr.units) (by rfl) B.sorted (by decide +kernel) (pa_cons (pv 4) pa_nil))))), ?_⟩
    refine ⟨_, rfl, lz, fun R hR => ?_⟩
    have eE : ∀ k, as.length ≤ k → es (chs.take k) pl n = es chs pl n := fun k hk => by rw [List.take_of_length_le (by rw [← hE.length]; exact hk)]
    refine ⟨26, rfl, by decide, by decide, for_it (walk_range (lo := 0) (n := 26)) (fun k σ H' => ∃ (l : List Nat) (y5 y6 y7 y8 : Option V), σ = [some (.ref S), some (sgV c), some (.bl (decide (pl = 0))), some (.bl (decide (pl + 1 = n))), some (.ref R), y5, y6, y7, y8] ∧ Same H H' ∧ H' R = some (.lst ((l.map sign).map V.str)) ∧ KinK (es chs pl n) c k l)
      ⟨[c], _, _, _, _, rfl, same_new hR, upd_same, KinB.start hc, .inr (by simp)⟩ (fun _ _ _ _ _ => trivial) ?_ ?_⟩
    · rintro k x σ H1 H2 hk ⟨l0, y5, y6, y7, y8, rfl, s1, hR1, hK⟩ ⟨rfl, rfl⟩
      refine ⟨_, rfl, S, rfl, ⟨_, .inl (.inl (s1 _ _ hS))⟩, for_it (walk_tup (K := K) (a := S) (xs := as.map V.ref)) (fun j σ H' => ∃ (l : List Nat) (y6 y7 y8 : Option V), σ = [some (.ref S), some (sgV c), some (.bl (decide (pl = 0))), some (.bl (decide (pl + 1 = n))), some (.ref R), some (.int (0 + (k : Int))), y6, y7, y8] ∧ Same H H' ∧ H' R = some (.lst ((l.map sign).map V.str)) ∧ KinP (es chs pl n) c l0 (es (chs.take j) pl n) l)
        ⟨l0, _, _, _, rfl, s1, hR1, hK.begin⟩ (fun j σ H' _ h => ?_) ?_ ?_⟩
      · obtain ⟨_, _, _, _, _, s', _⟩ := h
        exact .inl (.inl (s' _ _ hS))
      · rintro j x σ H3 H4 hj ⟨l, z6, z7, z8, rfl, s3, hR3, hP⟩ ⟨rfl, hx⟩
        rw [List.getElem?_map] at hx
        obtain ⟨p, hp, rfl⟩ := Option.map_eq_some_iff.mp hx
        obtain ⟨⟨a, b, wh⟩, hch, hH⟩ := hE.get hp
        obtain ⟨o1, o2, o3⟩ := ok.2 _ (List.mem_of_getElem? hch)
        have etk : chs.take (j + 1) = chs.take j ++ [(a, b, wh)] := by rw [List.take_add_one, hch]; rfl
        have hmE : acts wh pl n = true → (a, b) ∈ es chs pl n := fun e => List.mem_map.mpr ⟨(a, b, wh), List.mem_filter.mpr ⟨List.mem_of_getElem? hch, e⟩, rfl⟩
        have l26 := hP.1.len
        refine ⟨p, _, rfl, .inl (.inl (s3 _ _ hH)), rfl, _, _, rfl, _, _, rfl, _, _, rfl, rfl, ?_⟩
        refine kin_tt (K := K) (wh := wh) (pl := pl) (n := n) rfl rfl rfl (ite_b (fun e => ?_) (fun e => ?_))
        · have hm := hmE e
          have fl := fun l : List Nat => flat_strs (l.map sign)
          have lL : ∀ l : List Nat, l.length ≤ 26 → ((l.map sign).map V.str).length < sizeLine := fun l hl => by
            rw [List.length_map, List.length_map]
            exact small1000 (by omega)
          rw [etk, es_snoc, if_pos e]
          by_cases ha : a ∈ l <;> by_cases hb : b ∈ l
          · -- both
            refine ⟨_, rfl, _, rfl, R, _, rfl, .inl (.inl (.inl hR3)), rfl, fl l, true, inT ha, iteT ?_⟩
            refine ⟨_, rfl, _, rfl, R, _, rfl, .inl (.inl (.inl hR3)), rfl, fl l, false, niF hb, iteF ?_⟩
            refine ⟨_, rfl, _, rfl, R, _, rfl, .inl (.inl (.inl hR3)), rfl, fl l, true, inT hb, iteT ?_⟩
            refine ⟨_, rfl, _, rfl, R, _, rfl, .inl (.inl (.inl hR3)), rfl, fl l, false, niF ha, iteF ?_⟩
            exact ⟨l, _, _, _, rfl, s3, hR3, hP.skip ⟨fun _ => hb, fun _ => ha⟩⟩
          · -- b is new
            refine ⟨_, rfl, _, rfl, R, _, rfl, .inl (.inl (.inl hR3)), rfl, fl l, true, inT ha, iteT ?_⟩
            refine ⟨_, rfl, _, rfl, R, _, rfl, .inl (.inl (.inl hR3)), rfl, fl l, true, niT hb, iteT ?_⟩
            refine ⟨_, rfl, .inl ⟨rfl, _, .inl (.inl hR3)⟩, _, rfl, R, _, _, rfl, rfl, hR3, lL l l26, ?_⟩
            have hR5 : upd H4 R (.lst ((l.map sign).map V.str ++ [sgV b])) R = some (.lst (((l ++ [b]).map sign).map V.str)) := by
              rw [upd_same, List.map_append, List.map_append]
              rfl
            have s5 : Same H (upd H4 R (.lst ((l.map sign).map V.str ++ [sgV b]))) := same_mut s3 hR
            refine ⟨_, rfl, _, rfl, R, _, rfl, .inl (.inl (.inl hR5)), rfl, fl (l ++ [b]), true, inT (List.mem_append_right _ (by simp)), iteT ?_⟩
            refine ⟨_, rfl, _, rfl, R, _, rfl, .inl (.inl (.inl hR5)), rfl, fl (l ++ [b]), false, niF (List.mem_append_left _ ha), iteF ?_⟩
            exact ⟨l ++ [b], _, _, _, rfl, s5, hR5, hP.add (.inl hm) ha hb o2⟩
          · -- a is new
            refine ⟨_, rfl, _, rfl, R, _, rfl, .inl (.inl (.inl hR3)), rfl, fl l, false, inF ha, iteF ?_⟩
            refine ⟨_, rfl, _, rfl, R, _, rfl, .inl (.inl (.inl hR3)), rfl, fl l, true, inT hb, iteT ?_⟩
            refine ⟨_, rfl, _, rfl, R, _, rfl, .inl (.inl (.inl hR3)), rfl, fl l, true, niT ha, iteT ?_⟩
            refine ⟨_, rfl, .inl ⟨rfl, _, .inl (.inl hR3)⟩, _, rfl, R, _, _, rfl, rfl, hR3, lL l l26, ?_⟩
            refine ⟨l ++ [a], _, _, _, rfl, same_mut s3 hR, ?_, hP.add (.inr hm) hb ha o1⟩
            rw [upd_same, List.map_append, List.map_append]
            rfl
          · -- none
            refine ⟨_, rfl, _, rfl, R, _, rfl, .inl (.inl (.inl hR3)), rfl, fl l, false, inF ha, iteF ?_⟩
            refine ⟨_, rfl, _, rfl, R, _, rfl, .inl (.inl (.inl hR3)), rfl, fl l, false, inF hb, iteF ?_⟩
            exact ⟨l, _, _, _, rfl, s3, hR3, hP.skip ⟨fun x => absurd x ha, fun x => absurd x hb⟩⟩
        · refine ⟨l, _, _, _, rfl, s3, hR3, ?_⟩
          rw [etk, es_snoc, if_neg (by rw [e]; decide), List.append_nil]
          exact hP
      · rintro σ H3 ⟨l, z6, z7, z8, rfl, s3, hR3, hP⟩
        rw [eE _ (by simp)] at hP
        exact ⟨l, _, _, _, _, rfl, s3, hR3, hK.next hP⟩
    · rintro σ H1 ⟨l, y5, y6, y7, y8, rfl, s1, hR1, hK⟩
      obtain ⟨r, hr2⟩ := sorted_least hK.1.nd fun d => hK.done (d := d)
      refine ⟨_, rfl, ?_⟩
      dsimp only [tNil]
      refine sort_readsK (K := K) (.inl (.inl hR1)) fun p hp => ?_
      exact q p r _ (s1.trans (same_new hp)) (by rw [upd_same, hr2])
end
end Wl



namespace Wl
open PySem PySem.Spec PyProof.Rows L2
abbrev sChanges : Stmt := topS 75
section
variable {P : Program} {w : World} {K : PySem.W.Frag} {mg : Str → Option Value} {base : Heap} {f : Addr} {fd : FuncData}
def spLMean : Sp := fun vs H Q _ => ∃ (S : Addr) (chs : List Chg) (z : Str), vs = [.ref S, .str z] ∧ ChAt H S chs ∧ OkCs chs ∧ IsWd z ∧ ∀ (H' : Hp), Same H H' → Q (.str (mean chs z)) H'
abbrev nLMean : List Str := ["_law_shifts", "_law_term", "_law_count", "_law_k"]
theorem scLMean : FnScope nLMean ["_law_shifts", "_law_term"] (defScope sMeaning) := ⟨rfl, rfl, rfl, by decide +kernel, rfl, by decide +kernel, by decide +kernel⟩
theorem ok_lmean (F : Fun K "_law_meaning" "_law_meaning" sMeaning f fd) (B : Bi mg) (hK : Has P w K mg base "_law_kin" 1 ["_law_shifts", "_law_letter", "_law_first", "_law_last"] spKin) : FnOk P w K mg base CX0 2 f fd ["_law_shifts", "_law_term"] spLMean := by
  refine F.ok scLMean (fun vs H Q E h => ?_) (fun cdv A outer s H vs Q E hr h => ?_)
  · obtain ⟨S, chs, z, rfl, _⟩ := h
    rfl
  · obtain ⟨S, chs, z, rfl, hS, ok, hz, q⟩ := h
    have z8 := hz.len
    refine ⟨_, pss_cons (ps_set (i := 2) scLMean.nd rfl (.inr rfl) (pe_callB call_len_str (by rfl) B.len PySem.boot_len (pa_cons (pv 1) pa_nil)))
      (pss_one (ps_ret (pe_join pe_str (pe_lc (own := [("_law_k", 3)]) (g := gName 3) (tt := tYes) (te := tOp (rIxL K) (tCall spKin [] E0 (tCons (tVar 0) (tCons (tOp rIxS (tVar 1) (tVar 3)) (tCons (tOp rEq (tVar 3) (tC (.int 0))) (tCons (tOp rEq (tVar 3) (tOp (rI0 fun i j => .int (i - j)) (tVar 2) (tC (.int 1)))) tNil))))) (tC (.int 0))) rfl scLMean.nd (pi_range1 (by rfl) B.range (pa_cons (pv 2) pa_nil)) (blkOk_by (N := nLMean) (sc := defScope sMeaning) (by decide +kernel))
        (fun _ _ _ _ _ => pg_name (i := 3) scLMean.nd rfl (.inl rfl)) (fun _ _ _ _ _ => pts_nil) (fun _ _ _ _ _ => pe_ix ix_list (pe_h hK hr (pa_cons (pv 0) (pa_cons (pe_ix ix_str (pv 1) (pv 3) (fun _ _ => rfl)) (pa_cons (pe_cmpR op_eq (pv 3) pe_int (nomark _)) (pa_cons (pe_cmpR op_eq (pv 3) (pe_op op_sub (pv 2) pe_int) (nomark _)) pa_nil))))) pe_int (fun _ _ => rfl)))))), ?_⟩
    refine ⟨_, rfl, _, rfl, lzl (by omega), ⟨_, rfl⟩, _, rfl, (z.length : Int), rfl, by omega, by omega, fun D hD => lc_range (lo := 0) (n := z.length)
      (fun i H' => Same H H' ∧ H' D = some (.lst ((((codes (mean chs z)).take i).map sign).map V.str))) ⟨same_new hD, upd_same⟩ ?_ ?_⟩
    · rintro i H1 hi ⟨s1, hD1⟩
      have hi2 : i < (codes z).length := by rw [codes_len]; exact hi
      obtain ⟨c, hc⟩ : ∃ c, (codes z)[i]? = some c := ⟨_, List.getElem?_eq_getElem hi2⟩
      have hcl : isLet c := (wd_codes.mp hz).2 c (List.mem_of_getElem? hc)
      have hat := mean_at chs z hc
      rw [codes_len] at hat
      refine ⟨rfl, yes_it ⟨_, rfl, _, rfl, _, rfl, z, _, c, rfl, rfl, lzl (by omega), ?_, ?_⟩⟩
      · rw [Int.zero_add]
        exact atI_nat hc
      · refine ⟨_, rfl, rfl, _, rfl, _, rfl, _, _, rfl, rfl, rfl, S, chs, c, i, z.length, ?_, hS.same s1, ok, hcl, fun p xs H2 s2 hp => ?_⟩
        · rw [int_dec, int_dec]
          have e1 : decide ((0 : Int) + (i : Int) = 0) = decide (i = 0) := by
            by_cases h : i = 0
            · simp [h]
            · rw [decide_eq_false h, decide_eq_false (by omega)]
          have e2 : decide ((0 : Int) + (i : Int) = (z.length : Int) - 1) = decide (i + 1 = z.length) := by
            by_cases h : i + 1 = z.length
            · rw [decide_eq_true h, decide_eq_true (by omega)]
            · rw [decide_eq_false h, decide_eq_false (by omega)]
          rw [e1, e2]
          rfl
        · refine ⟨p, _, 0, _, rfl, rfl, .inl (.inl hp), atI_nat (j := 0) rfl, _, s2 _ _ hD1, ?_, same_mut (s1.trans s2) hD, ?_⟩
          · rw [List.length_map, List.length_map]
            have h1 : ((codes (mean chs z)).take i).length ≤ (codes (mean chs z)).length := List.length_take_le' _ _
            rw [mean_len, codes_len] at h1
            exact small1000 (by omega)
          · rw [upd_same, List.take_add_one, hat, List.map_append, List.map_append]
            rfl
    · rintro H1 ⟨s1, hD1⟩
      have e1 : (codes (mean chs z)).take z.length = codes (mean chs z) := by rw [← codes_len z, ← mean_len chs z, List.take_length]
      rw [e1] at hD1
      refine ⟨_, D, (codes (mean chs z)).map sign, rfl, rfl, .inl (.inl (.inl hD1)), ?_, ?_⟩
      · have e0 : ("" : Str).length = 0 := by decide +kernel
        have e1 : ((codes (mean chs z)).map sign).map (·.length) = (codes (mean chs z)).map fun _ => 1 := by
          rw [List.map_map]
          rfl
        rw [e0, e1, Nat.mul_zero, ones_sum, mean_len, codes_len]
        omega
      · have e2 : Txt.join ("" : Str) ((codes (mean chs z)).map sign) = mean chs z := str_ext (join_signs _)
        rw [e2]
        exact q H1 s1
end
end Wl



namespace Wl
open PySem PySem.Spec PyProof.Rows L2
theorem abcde_eq : ("abcde" : Str).cps.toList = List.range' 97 5 := by decide +kernel
theorem abcde_at {r : Int} (h0 : 0 ≤ r) (h : r < 5) : atI ("abcde" : Str).cps.toList r = some (97 + r.toNat) := by
  rw [abcde_eq]
  have e : r = ((r.toNat : Nat) : Int) := by omega
  rw [e]
  refine atI_nat ?_
  rw [List.getElem?_range' (by omega)]
  congr 1
  omega
theorem ChAt.X {H H' : Hp} {a S : Addr} {chs : List Chg} {ys : List V} (h : ChAt H S chs) (ha : H a = some (.lst ys)) (s : SameX a H H') : ChAt H' S chs :=
  h.keep fun p xs e => s p _ (ne_of e ha (by intro z; cases z)) e
theorem each_X {H H' : Hp} {a : Addr} {as : List Addr} {chs : List Chg} {ys : List V} (h : Each (fun (p : Addr) (ch : Chg) => H p = some (.tup (chV ch))) as chs) (ha : H a = some (.lst ys)) (s : SameX a H H') : Each (fun (p : Addr) (ch : Chg) => H' p = some (.tup (chV ch))) as chs :=
  h.mono fun p ch e => s p _ (ne_of e ha (by intro z; cases z)) e
section
variable {P : Program} {w : World} {K : PySem.W.Frag} {mg : Str → Option Value} {base : Heap} {f : Addr} {fd : FuncData}
def spChanges : Sp := fun vs H Q _ => ∃ (a : Addr) (m : Int), vs = [.ref a, .int m] ∧ PurseAt H a ∧ 0 ≤ m ∧ m ≤ 12 ∧ ∀ (S : Addr) (chs : List Chg) (H' : Hp), PurseAt H' a → SameX a H H' → ChAt H' S chs → OkCs chs → Q (.ref S) H'
abbrev nChanges : List Str := ["_law_purse_here", "_law_limit", "_law_found", "_law_k", "_law_one", "_law_wide", "_law_second", "_law_where"]
theorem scChanges : FnScope nChanges ["_law_purse_here", "_law_limit"] (defScope sChanges) := ⟨rfl, rfl, rfl, by decide +kernel, rfl, by decide +kernel, by decide +kernel⟩
theorem ok_changes (F : Fun K "_law_changes" "_law_changes" sChanges f fd) (B : Bi mg) (hp : Has P w K mg base "_law_pick" 1 ["_law_purse_here", "_law_count"] spPick) : FnOk P w K mg base CX0 2 f fd ["_law_purse_here", "_law_limit"] spChanges := by
  refine F.ok scChanges (fun vs H Q E h => ?_) (fun cdv A outer s H vs Q E hr h => ?_)
  · obtain ⟨a, m, rfl, _⟩ := h
    rfl
  · obtain ⟨a, m, rfl, hA, m0, m12, q⟩ := h
    refine ⟨_, pss_cons (ps_set (i := 2) scChanges.nd rfl (.inl rfl) (pe_lst pa_nil))
      (pss_cons (ps_for PassesOwn.never rfl (pi_range1 (by rfl) B.range (pa_cons (pe_h hp hr (pa_cons (pv 0) (pa_cons (pe_op op_add (pv 1) pe_int) pa_nil))) pa_nil)) (pg_name (i := 3) scChanges.nd rfl (.inl rfl))
        (pss_cons (ps_par (i := 4) (j := 5) (by rfl) scChanges.nd rfl rfl (by decide) rfl rfl (pa_cons (pe_h hp hr (pa_cons (pv 0) (pa_cons pe_int pa_nil))) (pa_cons (pe_h hp hr (pa_cons (pv 0) (pa_cons pe_int pa_nil))) pa_nil)) (by rfl))
        (pss_cons (ps_set (i := 6) scChanges.nd rfl (.inl rfl) (pe_op op_mod (pe_op op_add (pe_op op_add (pv 4) pe_int) (pv 5)) pe_int))
        (pss_cons (ps_set (i := 7) scChanges.nd rfl (.inl rfl) (pe_ix ix_list (pe_lst (pa_cons pe_str (pa_cons pe_str (pa_cons pe_str (pa_cons pe_str pa_nil))))) (pe_h hp hr (pa_cons (pv 0) (pa_cons pe_int pa_nil))) (fun _ _ => rfl)))
        (pss_one (ps_expr (pe_bm PySem.F.plainAttrs_list PySem.F.slot_list_append PySem.F.type_list_append mt_append (pv 2) (pa_cons (pe_tup (pa_cons (pe_ix ix_str pe_str (pv 4) (fun _ _ => rfl)) (pa_cons (pe_ix ix_str pe_str (pv 6) (fun _ _ => rfl)) (pa_cons (pv 7) pa_nil)))) pa_nil))))))))
      (pss_one (ps_ret (pe_callTy call_tuple_of (by rfl) B.tuple (by decide +kernel) (pa_cons (pv 2) pa_nil))))), ?_⟩
    refine ⟨lz, fun R hR => ?_⟩
    have nRa : R ≠ a := hA.ne hR
    refine ⟨_, rfl, _, rfl, _, _, rfl, rfl, a, m + 1, rfl, hA.same (same_new hR), by omega, by omega, fun r0 H1 r00 r01 hA1 s1 n1 => ?_⟩
    have hR1 := s1 _ _ nRa upd_same
    refine ⟨r0, rfl, by omega, by omega, for_it (walk_range (lo := 0) (n := r0.toNat)) (fun i σ H' => (∃ y3 y4 y5 y6 y7, σ = [some (.ref a), some (.int m), some (.ref R), y3, y4, y5, y6, y7]) ∧ PurseAt H' a ∧ SameX a H H' ∧ ∃ (as : List Addr) (chs : List Chg), H' R = some (.lst (as.map V.ref)) ∧ Each (fun (p : Addr) (ch : Chg) => H' p = some (.tup (chV ch))) as chs ∧ chs.length = i ∧ ∀ ch ∈ chs, OkC ch)
      ⟨⟨_, _, _, _, _, rfl⟩, hA1, (sx (same_new hR)).trans s1, [], [], hR1, .nil, rfl, fun ch hc => by cases hc⟩ (fun _ _ _ _ _ => trivial) ?_ ?_⟩
    · rintro i x σ Hq H2 hi ⟨⟨y3, y4, y5, y6, y7, rfl⟩, hA2, s2, as, chs, hR2, hE2, hl2, ok2⟩ ⟨rfl, rfl⟩
      refine ⟨_, rfl, a, 5, rfl, hA2, by decide, by decide, fun u H3 u0 u1 hA3 s3 n3 => ⟨_, rfl, a, 4, rfl, hA3, by decide, by decide, fun v H4 v0 v1 hA4 s4 n4 => ⟨_, _, rfl, ?_⟩⟩⟩
      refine ⟨_, rfl, _, _, rfl, rfl, _, rfl, _, _, rfl, rfl, _, _, rfl, rfl, (show (0 : Int) < 5 by decide), ?_⟩
      refine ⟨lz, fun p hpn => ⟨_, rfl, a, 4, rfl, hA4.same (same_new hpn), by decide, by decide, fun t H5 t0 t1 hA5 s5 n5 => ?_⟩⟩
      have npa := hA4.ne hpn
      obtain ⟨zw, hzm, hzi⟩ := atI_strs (zs := ["first", "last", "any", "any"]) t0 t1
      obtain ⟨wh, rfl⟩ : ∃ wh, zw = whS wh := by
        simp only [List.mem_cons, List.not_mem_nil, or_false] at hzm
        rcases hzm with rfl | rfl | rfl | rfl
        · exact ⟨.first, rfl⟩
        · exact ⟨.last, rfl⟩
        · exact ⟨.any, rfl⟩
        · exact ⟨.any, rfl⟩
      refine ⟨p, _, t, .str (whS wh), rfl, rfl, .inl (.inl (s5 _ _ npa upd_same)), hzi, ?_⟩
      have s25 : SameX a H2 H5 := (s3.trans s4).trans ((sx (same_new hpn)).trans s5)
      have hR5 := s25 _ _ nRa hR2
      obtain ⟨ya, hya⟩ := hA2.lst
      have hE5 := each_X hE2 hya s25
      have b0 : 0 ≤ (u + 1 + v) % 5 := Int.emod_nonneg _ (by decide)
      have b1 : (u + 1 + v) % 5 < 5 := Int.emod_lt_of_pos _ (by decide)
      refine ⟨_, rfl, .inl ⟨rfl, _, .inl (.inl hR5)⟩, ?_⟩
      refine ⟨_, rfl, ⟨_, u, _, rfl, rfl, lz, abcde_at u0 u1, _, rfl, _, _, _, rfl, rfl, lz, abcde_at b0 b1, _, rfl, lz, fun T hT => ?_⟩⟩
      refine ⟨R, _, _, rfl, rfl, (same_new hT) _ _ hR5, ?_, ⟨_, _, _, _, _, rfl⟩, ?_, ?_, as ++ [T], chs ++ [(97 + u.toNat, 97 + ((u + 1 + v) % 5).toNat, wh)], ?_, ?_, ?_, ?_⟩
      · rw [List.length_map, hE2.length]
        exact small1000 (by omega)
      · have hA6 := hA5.same (same_new (o := .tup [sgV (97 + u.toNat), sgV (97 + ((u + 1 + v) % 5).toNat), .str (whS wh)]) hT)
        obtain ⟨x0, x1, x2, hx, hx1⟩ := hA6
        exact ⟨x0, x1, x2, by rw [upd_ne nRa.symm]; exact hx, hx1⟩
      · exact sameX_mut ((s2.trans s25).trans (sx (same_new hT))) hR
      · rw [upd_same, List.map_append]
        rfl
      · have nTR : T ≠ R := (ne_of_none hR5 hT).symm
        refine Each.append (hE5.mono fun p ch e => ?_) (.cons ?_ .nil)
        · rw [upd_ne (ne_of e hR5 (by intro z; cases z))]
          exact (same_new hT) _ _ e
        · rw [upd_ne nTR, upd_same]
          rfl
      · rw [List.length_append, hl2]
        rfl
      · intro ch hch
        rcases List.mem_append.mp hch with hch | hch
        · exact ok2 ch hch
        · rw [List.mem_singleton] at hch
          subst hch
          refine ⟨?_, ?_, ?_⟩
          · show 97 ≤ 97 + u.toNat ∧ 97 + u.toNat ≤ 122
            omega
          · show 97 ≤ 97 + ((u + 1 + v) % 5).toNat ∧ 97 + ((u + 1 + v) % 5).toNat ≤ 122
            omega
          · show 97 + u.toNat ≠ 97 + ((u + 1 + v) % 5).toNat
            omega
    · rintro σ H2 ⟨⟨y3, y4, y5, y6, y7, rfl⟩, hA2, s2, as, chs, hR2, hE2, hl2, ok2⟩
      refine ⟨_, rfl, R, _, rfl, .inl ⟨.inl (.inl hR2), fun l hl => ?_⟩⟩
      refine q l chs _ (hA2.same (same_new hl)) (s2.trans (sx (same_new hl))) ⟨as, upd_same, hE2.mono fun p ch e => (same_new hl) _ _ e⟩ ⟨?_, ok2⟩
      omega
end
end Wl



namespace Wl
open PySem PySem.Spec PyProof.Rows L2
abbrev sFresh : Stmt := topS 74
abbrev sLand : Stmt := topS 78
abbrev sNames : Stmt := topS 79

/-! ### a word that is not in use -/
def spareS (A B : Str) : List Str := ((List.range' 97 26).map fun c => A ++ sign c) ++ (List.range' 97 13).map fun c => B ++ sign c ++ ("z" : Str)
theorem codes_add (x y : Str) : (x ++ y).cps.toList = x.cps.toList ++ y.cps.toList := TL.tl_append x y
theorem spare_free (A B : Str) (ws : List Str) (h : ws.length ≤ 35) : ∃ z ∈ spareS A B, z ∉ ws := by
  refine Classical.byContradiction fun no => ?_
  have all : ∀ z ∈ spareS A B, z ∈ ws := fun z hz => Classical.byContradiction fun k => no ⟨z, hz, k⟩
  have nd : (((List.range' 97 25).map fun c => A ++ sign c) ++ (List.range' 97 13).map fun c => B ++ sign c ++ ("z" : Str)).Nodup := by
    have zc : ("z" : Str).cps.toList = [122] := by decide +kernel
    have c1 : ∀ c, (A ++ sign c).cps.toList = A.cps.toList ++ [c] := fun c => codes_add A (sign c)
    have c2 : ∀ c, (B ++ sign c ++ ("z" : Str)).cps.toList = B.cps.toList ++ [c] ++ [122] := fun c => by
      rw [codes_add, codes_add, zc]
      rfl
    rw [List.nodup_append]
    refine ⟨?_, ?_, ?_⟩
    · refine List.pairwise_map.mpr ((List.nodup_range' (s := 97) (n := 25) (step := 1)).imp fun {a b} ne e => ne ?_)
      have := congrArg (fun z : Str => z.cps.toList) e
      simp only [c1] at this
      simpa using this
    · refine List.pairwise_map.mpr ((List.nodup_range' (s := 97) (n := 13) (step := 1)).imp fun {a b} ne e => ne ?_)
      have := congrArg (fun z : Str => z.cps.toList) e
      simp only [c2] at this
      simpa using this
    · intro x hx y hy e
      obtain ⟨c, hc, rfl⟩ := List.mem_map.mp hx
      obtain ⟨d, hd, rfl⟩ := List.mem_map.mp hy
      have := congrArg (fun z : Str => z.cps.toList.getLast?) e
      simp only [c1, c2, List.getLast?_append, List.getLast?_singleton, Option.some_or, Option.some.injEq] at this
      rw [List.mem_range'_1] at hc
      omega
  have sub : (((List.range' 97 25).map fun c => A ++ sign c) ++ (List.range' 97 13).map fun c => B ++ sign c ++ ("z" : Str)) ⊆ ws := by
    intro z hz
    refine all z ?_
    rcases List.mem_append.mp hz with hz | hz
    · obtain ⟨c, hc, rfl⟩ := List.mem_map.mp hz
      refine List.mem_append.mpr (.inl (List.mem_map.mpr ⟨c, ?_, rfl⟩))
      rw [List.mem_range'_1] at hc ⊢
      omega
    · exact List.mem_append.mpr (.inr hz)
  have := nd.length_le_of_subset sub
  simp at this
  omega
theorem spare_wd {z : Str} (h : IsWd z) : ∀ y ∈ spareS (cutS z none (some 7)) (cutS z none (some 6)), IsWd y := by
  have hl := h.len
  have hz : z.length = z.cps.toList.length := by simp [Str.length]
  have hc : ∀ c ∈ z.cps.toList, 97 ≤ c ∧ c ≤ 122 := by
    unfold IsWd wdB at h
    simp only [Bool.and_eq_true, decide_eq_true_eq, List.all_eq_true] at h
    exact h.2
  have zc : ("z" : Str).cps.toList = [122] := by decide +kernel
  intro y hy
  rcases List.mem_append.mp hy with hy | hy
  · obtain ⟨c, hcm, rfl⟩ := List.mem_map.mp hy
    rw [List.mem_range'_1] at hcm
    have e : (cutS z none (some 7) ++ sign c).cps.toList = z.cps.toList.take 7 ++ [c] := by
      rw [codes_add, show ((7 : Int)) = ((7 : Nat) : Int) from rfl, cut_hi]
      rfl
    refine isWd_of ?_ ?_ ?_
    · rw [e]; simp
    · rw [e]; simp; omega
    · rw [e]
      intro d hd
      rcases List.mem_append.mp hd with hd | hd
      · exact hc d (List.mem_of_mem_take hd)
      · rw [List.mem_singleton.mp hd]; omega
  · obtain ⟨c, hcm, rfl⟩ := List.mem_map.mp hy
    rw [List.mem_range'_1] at hcm
    have e : (cutS z none (some 6) ++ sign c ++ ("z" : Str)).cps.toList = z.cps.toList.take 6 ++ [c] ++ [122] := by
      rw [codes_add, codes_add, show ((6 : Int)) = ((6 : Nat) : Int) from rfl, cut_hi, zc]
      rfl
    refine isWd_of ?_ ?_ ?_
    · rw [e]; simp
    · rw [e]; simp; omega
    · rw [e]
      intro d hd
      rcases List.mem_append.mp hd with hd | hd
      · rcases List.mem_append.mp hd with hd | hd
        · exact hc d (List.mem_of_mem_take hd)
        · rw [List.mem_singleton.mp hd]; omega
      · rw [List.mem_singleton.mp hd]; omega

section
variable {P : Program} {w : World} {K : PySem.W.Frag} {mg : Str → Option Value} {base : Heap} {f : Addr} {fd : FuncData}
def spFresh : Sp := fun vs H Q _ => ∃ (a u : Addr) (ws : List Str), vs = [.ref a, .ref u] ∧ PurseAt H a ∧ H u = some (.lst (ws.map V.str)) ∧ u ≠ a ∧ ws.length ≤ 35 ∧
  ∀ (z : Str) (H' : Hp), IsWd z → z ∉ ws → PurseAt H' a → SameX a H H' → Q (.str z) H'
abbrev nFresh : List Str := ["_law_purse_here", "_law_used", "_law_term", "_law_spare", "_law_sign", "_law_one"]
theorem scFresh : FnScope nFresh ["_law_purse_here", "_law_used"] (defScope sFresh) :=
  ⟨rfl, rfl, rfl, by decide +kernel, rfl, by decide +kernel, by decide +kernel⟩
def addS (A : Str) (B : Str) : V → V
  | .str s => .str (A ++ s ++ B)
  | v => v
theorem wd_line {z : Str} (h : IsWd z) : z.length ≤ sizeLine := lzl (by have := h.len; omega)
theorem ok_fresh (F : Fun K "_law_fresh" "_law_fresh" sFresh f fd) (B : Bi mg) (hW : Has P w K mg base "_law_word" 2 ["_law_purse_here"] spWord) :
    FnOk P w K mg base CX0 3 f fd ["_law_purse_here", "_law_used"] spFresh := by
  refine F.ok scFresh (fun vs H Q E h => ?_) (fun cdv A outer s H vs Q E hr h => ?_)
  · obtain ⟨a, u, ws, rfl, _⟩ := h
    rfl
  · obtain ⟨a, u, ws, rfl, hA, hu, nua, hl, q⟩ := h
    refine ⟨_, pss_cons (ps_set (i := 2) scFresh.nd rfl (.inr rfl) (pe_h hW hr (pa_cons (pv 0) pa_nil)))
      (pss_cons (ps_if (pt_cmpR op_notIn_seq (pv 2) (pv 1) (by rfl)) (pss_one (ps_ret (pv 2))) pss_nil)
      (pss_cons (ps_setLc (i := 3) (own := [("_law_sign", 4)]) (g := gName 4) (tt := tYes) rfl scFresh.nd rfl rfl (sw_true rfl rfl rfl (by decide +kernel)) (pi_str pe_str) (blkOk_by (N := nFresh) (sc := defScope sFresh) (by decide +kernel))
        (fun _ _ _ _ _ => pg_name (i := 4) scFresh.nd rfl (.inl rfl)) (fun _ _ _ _ _ => pts_nil) (fun _ _ _ _ _ => pe_op op_add_str (pe_slice sl_str (pv 2) po_none (po_some pe_int)) (pv 4)))
      (pss_cons (ps_set (i := 3) scFresh.nd rfl (.inl rfl) (pe_op op_cat (pv 3) (pe_lc (own := [("_law_sign", 4)]) (g := gName 4) (tt := tYes) rfl scFresh.nd (pi_str pe_str) (blkOk_by (N := nFresh) (sc := defScope sFresh) (by decide +kernel))
        (fun _ _ _ _ _ => pg_name (i := 4) scFresh.nd rfl (.inl rfl)) (fun _ _ _ _ _ => pts_nil) (fun _ _ _ _ _ => pe_op op_add_str (pe_op op_add_str (pe_slice sl_str (pv 2) po_none (po_some pe_int)) (pv 4)) pe_str))))
      (pss_one (ps_ret (pe_ix ix_list (pe_lc (own := [("_law_one", 5)]) (g := gName 5) (tt := tTest (tOp (rIn K true) (tVar 5) (tVar 1))) rfl scFresh.nd (pi_list (pv 3)) (blkOk_by (N := nFresh) (sc := defScope sFresh) (by decide +kernel))
        (fun _ _ _ _ _ => pg_name (i := 5) scFresh.nd rfl (.inl rfl)) (fun _ _ _ _ _ => pts_one (pt_cmpR op_notIn_seq (pv 5) (pv 1) (by rfl))) (fun _ _ _ _ _ => pv 5)) pe_int (fun _ _ => rfl))))))), ?_⟩
    refine ⟨_, rfl, a, rfl, hA, fun z H1 hz hA1 s1 => ?_⟩
    have hu1 : H1 u = some (.lst (ws.map V.str)) := s1 _ _ nua hu
    refine ⟨_, rfl, _, rfl, u, ws.map V.str, rfl, .inl (.inl (.inl hu1)), rfl, flat_strs ws, _, rfl, ite_b (fun e => ?_) (fun e => ?_)⟩
    · rw [if_pos rfl, inV_strs, Bool.not_eq_true', decide_eq_false_iff_not] at e
      exact ⟨_, rfl, q z H1 hz e hA1 s1⟩
    · refine ⟨_, rfl, fun D hD => lc_map walk_signs hD (fun _ => true) (addS (cutS z none (some 7)) ⟨#[]⟩) (fun _ _ => trivial) (fun _ => rfl) (fun x H' _ _ Q' q' => q') ?_ lz ?_⟩
      · intro x H' hx _ _ Q' q'
        obtain ⟨c, hc, rfl⟩ := List.mem_map.mp hx
        refine ⟨_, rfl, 7, rfl, z, rfl, wd_line hz, _, rfl, _, _, rfl, rfl, ?_, ?_⟩
        · have := cutS_length z none (some 7)
          have := hz.len
          exact lzl (by show (cutS z none (some 7)).length + 1 ≤ 1000; omega)
        · have e0 : addS (cutS z none (some 7)) ⟨#[]⟩ (.str (sign c)) = .str (cutS z none (some 7) ++ sign c) := by
            refine congrArg V.str (str_ext ?_)
            rw [codes_add]
            simp
          rw [e0] at q'
          exact q'
      · intro H2 s2 hD2
        have hu2 := s2 _ _ hu1
        have hA2 := hA1.same s2
        refine ⟨_, rfl, _, rfl, fun D3 hD3 => lc_map walk_signs hD3 (fun _ => true) (addS (cutS z none (some 6)) "z") (fun _ _ => trivial) (fun _ => rfl) (fun x H' _ _ Q' q' => q') ?_ lz ?_⟩
        · intro x H' hx _ _ Q' q'
          obtain ⟨c, hc, rfl⟩ := List.mem_map.mp hx
          have h6 := cutS_length z none (some 6)
          have hl8 := hz.len
          have hz1 : ("z" : Str).length = 1 := by decide +kernel
          have hadd : (cutS z none (some 6) ++ sign c).length = (cutS z none (some 6)).length + 1 := by
            rw [TL.len_tl, TL.tl_append, List.length_append, ← TL.len_tl]
            rfl
          refine ⟨_, rfl, 6, rfl, z, rfl, wd_line hz, _, rfl, _, _, rfl, rfl, ?_, _, _, rfl, rfl, ?_, q'⟩
          · exact lzl (by show (cutS z none (some 6)).length + 1 ≤ 1000; omega)
          · exact lzl (by rw [hz1]; show (cutS z none (some 6) ++ sign c).length + 1 ≤ 1000; omega)
        · intro H4 s4 hD4
          have e26 : (signsOf ("abcdefghijklmnopqrstuvwxyz" : Str)).filter (fun _ => true) = signsOf ("abcdefghijklmnopqrstuvwxyz" : Str) := List.filter_eq_self.mpr fun _ _ => rfl
          have e13 : (signsOf ("abcdefghijklm" : Str)).filter (fun _ => true) = signsOf ("abcdefghijklm" : Str) := List.filter_eq_self.mpr fun _ _ => rfl
          have c13 : ("abcdefghijklm" : Str).cps.toList = List.range' 97 13 := by decide +kernel
          have eall : ((signsOf ("abcdefghijklmnopqrstuvwxyz" : Str)).filter (fun _ => true)).map (addS (cutS z none (some 7)) ⟨#[]⟩) ++ ((signsOf ("abcdefghijklm" : Str)).filter (fun _ => true)).map (addS (cutS z none (some 6)) "z")
              = (spareS (cutS z none (some 7)) (cutS z none (some 6))).map V.str := by
            rw [e26, e13]
            unfold signsOf spareS
            rw [letters_eq, c13, List.map_append, List.map_map, List.map_map, List.map_map, List.map_map]
            congr 1
          refine ⟨D, D3, _, _, rfl, rfl, s4 _ _ hD2, hD4, lz, fun p5 hp5 => ?_⟩
          rw [eall]
          have s5 : Same H1 (upd H4 p5 (.lst ((spareS (cutS z none (some 7)) (cutS z none (some 6))).map V.str))) := (s2.trans s4).trans (same_new hp5)
          refine ⟨_, rfl, p5, rfl, ⟨_, .inl (.inl upd_same)⟩, fun D6 hD6 => lc_map (walk_list (K := K) (a := p5) (xs := (spareS (cutS z none (some 7)) (cutS z none (some 6))).map V.str)) hD6 (fun v => !inV v (ws.map V.str)) id (fun H' s' => .inl (.inl (s' _ _ upd_same))) (fun _ => rfl) ?_ ?_ lz ?_⟩
          · intro x H' hx s' Q' q'
            obtain ⟨y, hy, rfl⟩ := List.mem_map.mp hx
            exact ⟨_, rfl, _, rfl, u, _, rfl, .inl (.inl (.inl (s' _ _ (s5 _ _ hu1)))), rfl, flat_strs ws, _, rfl, q'⟩
          · intro x H' hx _ _ Q' q'
            exact ⟨_, rfl, q'⟩
          · intro H7 s7 hD7
            obtain ⟨y0, hy0, hn0⟩ := spare_free (cutS z none (some 7)) (cutS z none (some 6)) ws hl
            have hf : ((spareS (cutS z none (some 7)) (cutS z none (some 6))).map V.str).filter (fun v => !inV v (ws.map V.str)) = ((spareS (cutS z none (some 7)) (cutS z none (some 6))).filter fun y => decide (y ∉ ws)).map V.str := by
              rw [List.filter_map]
              congr 1
              refine List.filter_congr fun y _ => ?_
              simp only [Function.comp, inV_strs]
              by_cases c : y ∈ ws <;> simp [c]
            rw [List.map_id, hf] at hD7
            have hm0 : y0 ∈ (spareS (cutS z none (some 7)) (cutS z none (some 6))).filter fun y => decide (y ∉ ws) := List.mem_filter.mpr ⟨hy0, decide_eq_true hn0⟩
            cases hcl : (spareS (cutS z none (some 7)) (cutS z none (some 6))).filter fun y => decide (y ∉ ws) with
            | nil =>
              rw [hcl] at hm0
              cases hm0
            | cons y r =>
              have hym : y ∈ (spareS (cutS z none (some 7)) (cutS z none (some 6))).filter fun y => decide (y ∉ ws) := by
                rw [hcl]
                exact List.mem_cons_self
              obtain ⟨hy1, hy2⟩ := List.mem_filter.mp hym
              refine ⟨D6, _, 0, .str y, rfl, rfl, .inl (.inl hD7), atI_nat (j := 0) (by rw [hcl]; rfl), ?_⟩
              exact q y H7 (spare_wd hz y hy1) (of_decide_eq_true hy2) (hA1.same (s5.trans s7)) (s1.trans (sx (s5.trans s7)))
end
end Wl



namespace Wl
open PySem PySem.Spec PyProof.Rows L2
abbrev Row := List (Option Str)
abbrev Grid := List Row
def rnames (r : Row) : List Str := r.filterMap id
def names (g : Grid) : List Str := g.flatten.filterMap id
theorem names_nil : names [] = [] := rfl
theorem names_snoc (g : Grid) (r : Row) : names (g ++ [r]) = names g ++ rnames r := by
  unfold names rnames
  rw [List.flatten_append, List.filterMap_append]
  simp
theorem names_cons (r : Row) (g : Grid) : names (r :: g) = rnames r ++ names g := by
  unfold names rnames
  rw [List.flatten_cons, List.filterMap_append]
theorem rnames_snoc (r : Row) (o : Option Str) : rnames (r ++ [o]) = rnames r ++ o.toList := by
  unfold rnames
  rw [List.filterMap_append]
  cases o <;> rfl
structure Good (g : Grid) (wd : Nat) : Prop where
  h1 : 1 ≤ g.length
  h6 : g.length ≤ 6
  w1 : 1 ≤ wd
  w6 : wd ≤ 6
  rows : ∀ r ∈ g, r.length = wd
  nd : (names g).Nodup
  wd : ∀ z ∈ names g, IsWd z
  ne : names g ≠ []
/-- the heap keeps its tuples -/
def TupKeep (H H' : Hp) : Prop := ∀ p xs, H p = some (.tup xs) → H' p = some (.tup xs)
theorem TupKeep.refl (H : Hp) : TupKeep H H := fun _ _ h => h
theorem TupKeep.trans {H H1 H2 : Hp} (a : TupKeep H H1) (b : TupKeep H1 H2) : TupKeep H H2 := fun p xs h => b p xs (a p xs h)
theorem tk_same {H H' : Hp} (s : Same H H') : TupKeep H H' := fun p xs h => s p _ h
theorem tk_x {a : Addr} {H H' : Hp} {ys : List V} (s : SameX a H H') (ha : H a = some (.lst ys)) : TupKeep H H' := fun p xs h => s p _ (ne_of h ha (by intro z; cases z)) h
theorem tk_upd {a : Addr} {H : Hp} {ys : List V} {o : HO} (ha : H a = some (.lst ys)) : TupKeep H (upd H a o) := tk_x sameX_upd ha
theorem tk_new {p : Addr} {H : Hp} {o : HO} (hp : H p = none) : TupKeep H (upd H p o) := tk_same (same_new hp)
/-- rows of a grid as tuples -/
def RowsAt (H : Hp) (as : List Addr) (g : Grid) : Prop := Each (fun (p : Addr) (row : Row) => H p = some (.tup (row.map oV))) as g
theorem RowsAt.keep {H H' : Hp} {as : List Addr} {g : Grid} (h : RowsAt H as g) (k : TupKeep H H') : RowsAt H' as g := Each.mono (fun p row e => k p _ e) h
def GridAt (H : Hp) (L : Addr) (g : Grid) : Prop := ∃ as : List Addr, H L = some (.tup (as.map V.ref)) ∧ RowsAt H as g
theorem GridAt.keep {H H' : Hp} {L : Addr} {g : Grid} (h : GridAt H L g) (k : TupKeep H H') : GridAt H' L g := by
  obtain ⟨as, h1, h2⟩ := h
  exact ⟨as, k _ _ h1, h2.keep k⟩
/-- the part at a row and a column, none where there is none -/
def cellAt (g : Grid) (r c : Nat) : Option Str := match g[r]? with
  | some row => (row[c]?).getD none
  | none => none
theorem cellAt_some {g : Grid} {r c : Nat} {z : Str} (h : cellAt g r c = some z) : ∃ row, g[r]? = some row ∧ row[c]? = some (some z) := by
  unfold cellAt at h
  cases e : g[r]? with
  | none => rw [e] at h; cases h
  | some row =>
    rw [e] at h
    refine ⟨row, rfl, ?_⟩
    cases e2 : row[c]? with
    | none => simp only [e2] at h; cases h
    | some o => simp only [e2, Option.getD_some] at h; rw [h]
theorem cellAt_of {g : Grid} {r c : Nat} {row : Row} {o : Option Str} (h : g[r]? = some row) (k : row[c]? = some o) : cellAt g r c = o := by
  unfold cellAt
  rw [h]
  simp [k]
/-! ### the spots -/
def spR (i j : Nat) : Row → List (Str × Nat × Nat)
  | [] => []
  | none :: r => spR i (j + 1) r
  | some z :: r => (z, i, j) :: spR i (j + 1) r
def spG (i : Nat) : Grid → List (Str × Nat × Nat)
  | [] => []
  | row :: g => spR i 0 row ++ spG (i + 1) g
theorem spR_snoc (i : Nat) : ∀ (r : Row) (j : Nat) (o : Option Str), spR i j (r ++ [o]) = spR i j r ++ (o.toList.map fun z => (z, i, j + r.length))
  | [], j, none => rfl
  | [], j, some z => rfl
  | none :: r, j, o => by
    show spR i (j + 1) (r ++ [o]) = spR i (j + 1) r ++ _
    rw [spR_snoc i r (j + 1) o, List.length_cons]
    congr 2
    funext z
    rw [Nat.add_right_comm, Nat.add_assoc]
  | some y :: r, j, o => by
    show (y, i, j) :: spR i (j + 1) (r ++ [o]) = (y, i, j) :: spR i (j + 1) r ++ _
    rw [spR_snoc i r (j + 1) o, List.length_cons, List.cons_append]
    congr 3
    funext z
    rw [Nat.add_right_comm, Nat.add_assoc]
theorem spG_snoc : ∀ (g : Grid) (i : Nat) (r : Row), spG i (g ++ [r]) = spG i g ++ spR (i + g.length) 0 r
  | [], i, r => by simp [spG]
  | x :: g, i, r => by
    show spR i 0 x ++ spG (i + 1) (g ++ [r]) = spR i 0 x ++ spG (i + 1) g ++ _
    rw [spG_snoc g (i + 1) r, List.length_cons, List.append_assoc]
    congr 3
    omega
theorem spR_fst (i : Nat) : ∀ (r : Row) (j : Nat), (spR i j r).map (·.1) = rnames r
  | [], _ => rfl
  | none :: r, j => spR_fst i r (j + 1)
  | some z :: r, j => congrArg (z :: ·) (spR_fst i r (j + 1))
theorem spG_fst : ∀ (g : Grid) (i : Nat), (spG i g).map (·.1) = names g
  | [], _ => rfl
  | r :: g, i => by
    show (spR i 0 r ++ spG (i + 1) g).map (·.1) = _
    rw [List.map_append, spR_fst, spG_fst g (i + 1), names_cons]
theorem spR_mem (i : Nat) {z : Str} {a b : Nat} : ∀ (r : Row) (j : Nat), (z, a, b) ∈ spR i j r ↔ a = i ∧ ∃ k, b = j + k ∧ r[k]? = some (some z)
  | [], j => by simp [spR]
  | none :: r, j => by
    show (z, a, b) ∈ spR i (j + 1) r ↔ _
    rw [spR_mem i r (j + 1)]
    constructor
    · rintro ⟨h, k, e, q⟩
      exact ⟨h, k + 1, by omega, by simpa using q⟩
    · rintro ⟨h, k, e, q⟩
      cases k with
      | zero => simp at q
      | succ k => exact ⟨h, k, by omega, by simpa using q⟩
  | some y :: r, j => by
    show (z, a, b) ∈ (y, i, j) :: spR i (j + 1) r ↔ _
    rw [List.mem_cons, spR_mem i r (j + 1)]
    constructor
    · rintro (h | ⟨h, k, e, q⟩)
      · cases h
        exact ⟨rfl, 0, rfl, rfl⟩
      · exact ⟨h, k + 1, by omega, by simpa using q⟩
    · rintro ⟨h, k, e, q⟩
      cases k with
      | zero =>
        simp at q
        subst q h
        exact .inl (by rw [e, Nat.add_zero])
      | succ k => exact .inr ⟨h, k, by omega, by simpa using q⟩
theorem spG_mem {z : Str} {a b : Nat} : ∀ (g : Grid) (i : Nat), (z, a, b) ∈ spG i g ↔ ∃ k row, a = i + k ∧ g[k]? = some row ∧ row[b]? = some (some z)
  | [], i => by simp [spG]
  | r :: g, i => by
    show (z, a, b) ∈ spR i 0 r ++ spG (i + 1) g ↔ _
    rw [List.mem_append, spR_mem, spG_mem g (i + 1)]
    constructor
    · rintro (⟨h, k, e, q⟩ | ⟨k, row, e, q, t⟩)
      · exact ⟨0, r, by omega, rfl, by rw [e, Nat.zero_add]; exact q⟩
      · exact ⟨k + 1, row, by omega, by simpa using q, t⟩
    · rintro ⟨k, row, e, q, t⟩
      cases k with
      | zero =>
        simp at q
        subst q
        exact .inl ⟨by omega, b, by omega, t⟩
      | succ k => exact .inr ⟨k, row, by omega, by simpa using q, t⟩
theorem spG_cell {g : Grid} {z : Str} {r c : Nat} : (z, r, c) ∈ spG 0 g ↔ cellAt g r c = some z := by
  rw [spG_mem]
  constructor
  · rintro ⟨k, row, e, q, t⟩
    have : r = k := by omega
    subst this
    exact cellAt_of q t
  · intro h
    obtain ⟨row, q, t⟩ := cellAt_some h
    exact ⟨r, row, by omega, q, t⟩
theorem mem_names {g : Grid} {z : Str} : z ∈ names g ↔ ∃ r c, cellAt g r c = some z := by
  rw [← spG_fst g 0]
  constructor
  · intro h
    obtain ⟨⟨y, r, c⟩, hm, rfl⟩ := List.mem_map.mp h
    exact ⟨r, c, spG_cell.mp hm⟩
  · rintro ⟨r, c, h⟩
    exact List.mem_map.mpr ⟨_, spG_cell.mpr h, rfl⟩
theorem nodup_fst {α β : Type} : ∀ {l : List (α × β)}, (l.map (·.1)).Nodup → ∀ {a : α} {b b' : β}, (a, b) ∈ l → (a, b') ∈ l → b = b'
  | [], _, _, _, _, h, _ => by cases h
  | x :: l, nd, a, b, b', h, k => by
    obtain ⟨h1, h2⟩ := List.nodup_cons.mp nd
    rcases List.mem_cons.mp h with e | h <;> rcases List.mem_cons.mp k with e' | k
    · rw [← e] at e'
      exact (Prod.mk.inj e').2.symm
    · exact absurd (List.mem_map.mpr ⟨_, k, by rw [← e]⟩) h1
    · exact absurd (List.mem_map.mpr ⟨_, h, by rw [← e']⟩) h1
    · exact nodup_fst h2 h k
theorem cell_inj {g : Grid} (nd : (names g).Nodup) {z : Str} {r c r' c' : Nat} (h : cellAt g r c = some z) (k : cellAt g r' c' = some z) : r = r' ∧ c = c' := by
  have := nodup_fst (l := spG 0 g) (by rw [spG_fst]; exact nd) (spG_cell.mpr h) (spG_cell.mpr k)
  exact Prod.mk.inj this
theorem Good.cell {g : Grid} {wd : Nat} (G : Good g wd) {r c : Nat} {z : Str} (h : cellAt g r c = some z) : r < g.length ∧ c < wd := by
  obtain ⟨row, h1, h2⟩ := cellAt_some h
  obtain ⟨a, e⟩ := List.getElem?_eq_some_iff.mp h1
  obtain ⟨b, _⟩ := List.getElem?_eq_some_iff.mp h2
  have := G.rows row (List.mem_of_getElem? h1)
  exact ⟨a, by omega⟩
theorem Good.len {g : Grid} {wd : Nat} (G : Good g wd) : (names g).length ≤ 36 := by
  have h : ∀ l : Grid, (∀ r ∈ l, r.length = wd) → (names l).length ≤ l.length * wd := by
    intro l
    induction l with
    | nil => intro _; simp [names]
    | cons r l ih =>
      intro h
      rw [names_cons, List.length_append, List.length_cons]
      have h1 : (rnames r).length ≤ wd := by
        have := List.length_filterMap_le id r
        have := h r List.mem_cons_self
        unfold rnames
        omega
      have h2 := ih fun r hr => h r (List.mem_cons_of_mem _ hr)
      rw [Nat.succ_mul]
      omega
  have h1 := h g G.rows
  have h2 : g.length * wd ≤ 6 * 6 := Nat.mul_le_mul G.h6 G.w6
  omega
end Wl

namespace Wl
open PySem PySem.Spec PyProof.Rows L2
section
variable {P : Program} {w : World} {K : PySem.W.Frag} {mg : Str → Option Value} {base : Heap} {f : Addr} {fd : FuncData}
def spLand : Sp := fun vs H Q _ => ∃ (a : Addr) (m : Int), vs = [.ref a, .int m] ∧ PurseAt H a ∧ 1 ≤ m ∧ m ≤ 6 ∧
  ∀ (L : Addr) (g : Grid) (wd : Nat) (H' : Hp), Good g wd → GridAt H' L g → PurseAt H' a → SameX a H H' → Q (.ref L) H'
abbrev nLand : List Str := ["_law_purse_here", "_law_limit", "_law_high", "_law_wide", "_law_names_here", "_law_rows", "_law_row", "_law_parts", "_law_column", "_law_lake", "_law_name"]
theorem scLand : FnScope nLand ["_law_purse_here", "_law_limit"] (defScope sLand) :=
  ⟨rfl, rfl, rfl, by decide +kernel, rfl, by decide +kernel, by decide +kernel⟩
/-- what holds of the heap while the land is laid: the rows laid so far, the parts of this one -/
structure Laying (H0 H : Hp) (a tA lA : Addr) (g : Grid) (wd : Nat) (ps : Row) : Prop where
  purse : PurseAt H a
  same : SameX a H0 H
  towns : H tA = some (.lst ((names g ++ rnames ps).map V.str))
  laid : ∃ as, H lA = some (.lst (as.map V.ref)) ∧ RowsAt H as g
  rows : ∀ r ∈ g, r.length = wd
  nd : (names g ++ rnames ps).Nodup
  wds : ∀ z ∈ names g ++ rnames ps, IsWd z
theorem len_names {g : Grid} {wd : Nat} (h : ∀ r ∈ g, r.length = wd) : (names g).length ≤ g.length * wd := by
  induction g with
  | nil => simp [names]
  | cons r l ih =>
    rw [names_cons, List.length_append, List.length_cons]
    have h1 : (rnames r).length ≤ wd := by
      have := List.length_filterMap_le id r
      have := h r List.mem_cons_self
      unfold rnames
      omega
    have h2 := ih fun r hr => h r (List.mem_cons_of_mem _ hr)
    rw [Nat.succ_mul]
    omega
theorem lake_reads {σ : L2.St} {H : Hp} {Q : VK} {a tA : Addr} {ws : List Str} {x y hi wd : Int} (e0 : σ[0]? = some (some (.ref a))) (e4 : σ[4]? = some (some (.ref tA))) (e6 : σ[6]? = some (some (.int x))) (e8 : σ[8]? = some (some (.int y)))
    (e2 : σ[2]? = some (some (.int hi))) (e3 : σ[3]? = some (some (.int wd))) (hA : PurseAt H a) (ht : H tA = some (.lst (ws.map V.str))) (nta : tA ≠ a) (hws : ∀ z ∈ ws, IsWd z)
    (q : ∀ (b : Bool) (H' : Hp), PurseAt H' a → SameX a H H' → (b = true → ws ≠ [] ∨ x + y + 2 < hi + wd) → Q (.bl b) H') :
    tAndV (tOp rEq (tCall spPick [] E0 (tCons (tVar 0) (tCons (tC (.int 6)) tNil))) (tC (.int 5)))
      (tOrV (tOp (rNeD K) (tVar 4) (tLst tNil)) (tOp (rI0 fun i j => .bl (decide (i < j))) (tOp (rI0 fun i j => .int (i + j)) (tOp (rI0 fun i j => .int (i + j)) (tVar 6) (tVar 8)) (tC (.int 2))) (tOp (rI0 fun i j => .int (i + j)) (tVar 2) (tVar 3)))) σ H Q := by
  refine ⟨_, e0, a, 6, rfl, hA, by decide, by decide, fun r H1 r0 r1 hA1 s1 n1 => ⟨rfl, _, rfl, ite_b (fun e => ?_) (fun e => ?_)⟩⟩
  · refine ⟨_, e4, lz, fun p hp => ⟨.list (ws.map .str), .list [], .lst (.inl (.inl ((same_new hp) _ _ (s1 _ _ nta ht)))) (dp_strs ws), .lst (.inl (.inl upd_same)) .nil, shaped_list (lay_strs hws) (by rw [depth_strs]; decide), rfl, _, rfl, ite_b (fun e => ?_) (fun e => ?_)⟩⟩
    · refine q true _ (hA1.same (same_new hp)) (s1.trans (sx (same_new hp))) fun _ => .inl fun z => ?_
      subst z
      cases e
    · refine ⟨_, e6, _, e8, _, _, rfl, rfl, _, _, rfl, rfl, _, e2, _, e3, _, _, rfl, rfl, _, _, rfl, rfl, ?_⟩
      exact q _ _ (hA1.same (same_new hp)) (s1.trans (sx (same_new hp))) fun z => .inr (of_decide_eq_true z)
  · exact q false _ hA1 s1 fun z => by cases z
theorem Laying.go {H0 H H' : Hp} {a tA lA : Addr} {g : Grid} {wd : Nat} {ps : Row} (h : Laying H0 H a tA lA g wd ps) (nt : tA ≠ a) (nl : lA ≠ a) (hp : PurseAt H' a) (s : SameX a H H') : Laying H0 H' a tA lA g wd ps := by
  obtain ⟨as, hl, hR⟩ := h.laid
  obtain ⟨ys, ha⟩ := h.purse.lst
  exact ⟨hp, h.same.trans s, s _ _ nt h.towns, ⟨as, s _ _ nl hl, hR.keep (tk_x s ha)⟩, h.rows, h.nd, h.wds⟩
theorem ok_land (F : Fun K "_law_land" "_law_land" sLand f fd) (B : Bi mg) (hp : Has P w K mg base "_law_pick" 1 ["_law_purse_here", "_law_count"] spPick) (hF : Has P w K mg base "_law_fresh" 3 ["_law_purse_here", "_law_used"] spFresh) :
    FnOk P w K mg base CX0 4 f fd ["_law_purse_here", "_law_limit"] spLand := by
  refine F.ok scLand (fun vs H Q E h => ?_) (fun cdv A outer s H vs Q E hr h => ?_)
  · obtain ⟨a, m, rfl, _⟩ := h
    rfl
  · obtain ⟨a, m, rfl, hA, m1, m6, q⟩ := h
    refine ⟨_, pss_cons (ps_par3 (i := 2) (j := 3) (l := 4) (by rfl) scLand.nd rfl rfl rfl (by decide) (by decide) (by decide) rfl rfl rfl (pa_cons (pe_op op_add pe_int (pe_h hp hr (pa_cons (pv 0) (pa_cons (pv 1) pa_nil)))) (pa_cons (pe_op op_add pe_int (pe_h hp hr (pa_cons (pv 0) (pa_cons (pv 1) pa_nil)))) (pa_cons (pe_lst pa_nil) pa_nil))) (by rfl))
      (pss_cons (ps_set (i := 5) scLand.nd rfl (.inl rfl) (pe_lst pa_nil))
      (pss_cons (ps_for PassesOwn.never rfl (pi_range1 rfl B.range (pa_cons (pv 2) pa_nil)) (pg_name (i := 6) scLand.nd rfl (.inl rfl))
        (pss_cons (ps_set (i := 7) scLand.nd rfl (.inl rfl) (pe_lst pa_nil))
        (pss_cons (ps_for PassesOwn.never rfl (pi_range1 rfl B.range (pa_cons (pv 3) pa_nil)) (pg_name (i := 8) scLand.nd rfl (.inl rfl))
          (pss_cons (ps_set (i := 9) scLand.nd rfl (.inl rfl) (pe_and (pe_cmpR op_eq (pe_h hp hr (pa_cons (pv 0) (pa_cons pe_int pa_nil))) pe_int (nomark _)) (pe_one (pe_or (pe_cmpR (op_neD hr.units) (pv 4) (pe_lst pa_nil) (nomark _)) (pe_one (pe_cmpR op_lt (pe_op op_add (pe_op op_add (pv 6) (pv 8)) pe_int) (pe_op op_add (pv 2) (pv 3)) (nomark _)))))))
          (pss_cons (ps_set (i := 10) scLand.nd rfl (.inl rfl) (pe_h hF hr (pa_cons (pv 0) (pa_cons (pv 4) pa_nil))))
          (pss_cons (ps_if (pt_truth (pv 9) (by intro _; rfl)) (pss_one (ps_set (i := 10) scLand.nd rfl (.inl rfl) pe_non)) (pss_one (ps_expr (pe_bm PySem.F.plainAttrs_list PySem.F.slot_list_append PySem.F.type_list_append mt_append (pv 4) (pa_cons (pv 10) pa_nil)))))
          (pss_one (ps_expr (pe_bm PySem.F.plainAttrs_list PySem.F.slot_list_append PySem.F.type_list_append mt_append (pv 7) (pa_cons (pv 10) pa_nil))))))))
        (pss_one (ps_expr (pe_bm PySem.F.plainAttrs_list PySem.F.slot_list_append PySem.F.type_list_append mt_append (pv 5) (pa_cons (pe_callTy call_tuple_of (by rfl) B.tuple (by decide +kernel) (pa_cons (pv 7) pa_nil)) pa_nil)))))))
      (pss_one (ps_ret (pe_callTy call_tuple_of (by rfl) B.tuple (by decide +kernel) (pa_cons (pv 5) pa_nil)))))), ?_⟩
    refine ⟨_, rfl, _, rfl, a, m, rfl, hA, by omega, by omega, fun r1 H1 r10 r11 hA1 s1 n1 => ⟨_, _, rfl, rfl, ?_⟩⟩
    refine ⟨_, rfl, _, rfl, a, m, rfl, hA1, by omega, by omega, fun r2 H2 r20 r21 hA2 s2 n2 => ⟨_, _, rfl, rfl, ?_⟩⟩
    refine ⟨lz, fun tA htA => ⟨_, _, _, rfl, lz, fun lA hlA => ?_⟩⟩
    have nta : tA ≠ a := hA2.ne htA
    have nla : lA ≠ a := (hA2.same (same_new htA)).ne hlA
    have nlt : lA ≠ tA := (ne_of_none upd_same hlA).symm
    have htA0 : H tA = none := SameX.free (s1.trans s2) nta htA
    have hlA0 : H lA = none := SameX.free ((s1.trans s2).trans (sx (same_new htA))) nla hlA
    obtain ⟨hi, ehi⟩ : ∃ hi : Nat, 1 + r1 = (hi : Int) := ⟨(1 + r1).toNat, by omega⟩
    obtain ⟨wd, ewd⟩ : ∃ wd : Nat, 1 + r2 = (wd : Int) := ⟨(1 + r2).toNat, by omega⟩
    have n1 : (1 + r1).toNat = hi := by omega
    have n2 : (1 + r2).toNat = wd := by omega
    have hhi : 1 ≤ hi ∧ hi ≤ 6 := by omega
    have hwd : 1 ≤ wd ∧ wd ≤ 6 := by omega
    have L0 : Laying H (upd (upd H2 tA (.lst [])) lA (.lst [])) a tA lA [] wd [] := by
      refine ⟨(hA2.same (same_new htA)).same (same_new hlA), sameX_mut (sameX_mut (s1.trans s2) htA0) hlA0, ?_, ⟨[], upd_same, .nil⟩, (fun r hr => nomatch hr), List.nodup_nil, (fun z hz => nomatch hz)⟩
      rw [upd_ne nlt.symm, upd_same]
      rfl
    generalize upd (upd H2 tA (.lst [])) lA (.lst []) = H3 at L0
    refine ⟨_, rfl, 1 + r1, rfl, by omega, by omega, ?_⟩
    rw [n1]
    refine for_range (lo := 0) (n := hi) (fun i σ H' => ∃ (g : Grid) (y6 y7 y8 y9 y10 : Option V), σ = [some (.ref a), some (.int m), some (.int (1 + r1)), some (.int (1 + r2)), some (.ref tA), some (.ref lA), y6, y7, y8, y9, y10] ∧ g.length = i ∧ Laying H H' a tA lA g wd [] ∧ (i = hi → names g ≠ []))
      ⟨[], none, none, none, none, none, rfl, rfl, L0, fun e => by omega⟩ ?_ ?_
    · rintro i σ H4 hi4 ⟨g, y6, y7, y8, y9, y10, rfl, hgl, L4, _⟩
      refine ⟨lz, fun pA hpA => ?_⟩
      have npa : pA ≠ a := L4.purse.ne hpA
      have npt : pA ≠ tA := (ne_of_none L4.towns hpA).symm
      obtain ⟨as4, hl4, hR4⟩ := L4.laid
      have npl : pA ≠ lA := (ne_of_none hl4 hpA).symm
      have L5 := L4.go nta nla (L4.purse.same (same_new (o := .lst []) hpA)) (sx (same_new hpA))
      refine ⟨_, rfl, 1 + r2, rfl, by omega, by omega, ?_⟩
      rw [n2]
      refine for_range (lo := 0) (n := wd) (fun j σ H' => ∃ (ps : Row) (y8 y9 y10 : Option V), σ = [some (.ref a), some (.int m), some (.int (1 + r1)), some (.int (1 + r2)), some (.ref tA), some (.ref lA), some (.int (0 + i)), some (.ref pA), y8, y9, y10] ∧ ps.length = j ∧ Laying H H' a tA lA g wd ps ∧ H' pA = some (.lst (ps.map oV)) ∧ (i + 1 = hi → j = wd → names g ++ rnames ps ≠ []))
        ⟨[], _, _, _, rfl, rfl, L5, upd_same, fun _ e => by omega⟩ ?_ ?_
      · rintro j σ H6 hj ⟨ps, z8, z9, z10, rfl, hpl, L6, hp6, _⟩
        refine lake_reads (a := a) (tA := tA) (x := 0 + i) (y := 0 + j) (hi := 1 + r1) (wd := 1 + r2) rfl rfl rfl rfl rfl rfl L6.purse L6.towns nta L6.wds fun b H7 hA7 s7 hb => ?_
        have L7 := L6.go nta nla hA7 s7
        have hp7 := s7 _ _ npa hp6
        have hlen : (names g ++ rnames ps).length ≤ 35 := by
          have h1 := len_names L6.rows
          have h2 : (rnames ps).length ≤ ps.length := List.length_filterMap_le id ps
          rw [List.length_append]
          have h3 : g.length * wd ≤ 5 * wd := Nat.mul_le_mul_right _ (by omega)
          omega
        refine ⟨_, rfl, _, rfl, a, tA, names g ++ rnames ps, rfl, L7.purse, L7.towns, nta, hlen, fun z H8 hz hzn hA8 s8 => ?_⟩
        have L8 := L7.go nta nla hA8 s8
        have hp8 := s8 _ _ npa hp7
        have hlt : ((names g ++ rnames ps).map V.str).length < sizeLine := by
          rw [List.length_map]
          exact small1000 (by omega)
        have hpl2 : (ps.map oV).length < sizeLine := by
          rw [List.length_map]
          exact small1000 (by omega)
        refine ⟨_, rfl, b, rfl, ite_b (fun e => ?_) (fun e => ?_)⟩
        · -- a lake
          refine ⟨_, rfl, .inl ⟨rfl, _, .inl (.inl hp8)⟩, _, rfl, pA, _, _, rfl, rfl, hp8, hpl2, ?_⟩
          obtain ⟨as8, hl8, hR8⟩ := L8.laid
          refine ⟨ps ++ [none], _, _, _, rfl, by simp [hpl], ⟨?_, ?_, ?_, ⟨as8, ?_, hR8.keep (tk_upd hp8)⟩, L8.rows, ?_, ?_⟩, ?_, ?_⟩
          · obtain ⟨x0, x1, x2, hx, hx1⟩ := L8.purse
            exact ⟨x0, x1, x2, by rw [upd_ne npa.symm]; exact hx, hx1⟩
          · exact sameX_mut L8.same (SameX.free L4.same npa hpA)
          · rw [upd_ne npt.symm, rnames_snoc]
            simpa using L8.towns
          · rw [upd_ne npl.symm]
            exact hl8
          · rw [rnames_snoc]
            simpa using L8.nd
          · rw [rnames_snoc]
            simpa using L8.wds
          · rw [upd_same, List.map_append]
            rfl
          · intro e1 e2
            rw [rnames_snoc]
            rcases hb e with h | h
            · simpa using h
            · omega
        · -- a village
          refine ⟨_, rfl, .inl ⟨rfl, _, .inl (.inl L8.towns)⟩, _, rfl, tA, _, _, rfl, rfl, L8.towns, hlt, ?_⟩
          have hp9 : upd H8 tA (.lst ((names g ++ rnames ps).map V.str ++ [.str z])) pA = some (.lst (ps.map oV)) := by
            rw [upd_ne npt]
            exact hp8
          refine ⟨_, rfl, .inl ⟨rfl, _, .inl (.inl hp9)⟩, _, rfl, pA, _, _, rfl, rfl, hp9, hpl2, ?_⟩
          obtain ⟨as8, hl8, hR8⟩ := L8.laid
          have en : names g ++ rnames (ps ++ [some z]) = (names g ++ rnames ps) ++ [z] := by
            rw [rnames_snoc, List.append_assoc]
            rfl
          refine ⟨ps ++ [some z], _, _, _, rfl, by simp [hpl], ⟨?_, ?_, ?_, ⟨as8, ?_, (hR8.keep (tk_upd L8.towns)).keep (tk_upd hp9)⟩, L8.rows, ?_, ?_⟩, ?_, ?_⟩
          · obtain ⟨x0, x1, x2, hx, hx1⟩ := L8.purse
            exact ⟨x0, x1, x2, by rw [upd_ne npa.symm, upd_ne nta.symm]; exact hx, hx1⟩
          · exact sameX_mut (sameX_mut L8.same htA0) (SameX.free L4.same npa hpA)
          · rw [upd_ne npt.symm, upd_same, en]
            simp
          · rw [upd_ne npl.symm, upd_ne nlt]
            exact hl8
          · rw [en, List.nodup_append]
            refine ⟨L8.nd, by simp, fun x hx y hy e => ?_⟩
            rw [List.mem_singleton.mp hy] at e
            rw [e] at hx
            exact hzn hx
          · rw [en]
            intro y hy
            rcases List.mem_append.mp hy with hy | hy
            · exact L8.wds y hy
            · rw [List.mem_singleton.mp hy]
              exact hz
          · rw [upd_same, List.map_append]
            rfl
          · intro _ _
            rw [en]
            simp
      · rintro σ H6 ⟨ps, z8, z9, z10, rfl, hpl, L6, hp6, hne⟩
        obtain ⟨as6, hl6, hR6⟩ := L6.laid
        refine ⟨_, rfl, .inl ⟨rfl, _, .inl (.inl hl6)⟩, _, rfl, pA, _, rfl, .inl ⟨.inl (.inl hp6), fun t ht => ?_⟩⟩
        have nlt6 : lA ≠ t := ne_of_none hl6 ht
        refine ⟨lA, _, _, rfl, rfl, (same_new ht) _ _ hl6, ?_, ?_⟩
        · rw [List.length_map, hR6.length]
          exact small1000 (by omega)
        · refine ⟨g ++ [ps], _, _, _, _, _, rfl, by simp [hgl], ⟨?_, ?_, ?_, ⟨as6 ++ [t], ?_, ?_⟩, ?_, ?_, ?_⟩, ?_⟩
          · obtain ⟨x0, x1, x2, hx, hx1⟩ := L6.purse.same (same_new (o := .tup (ps.map oV)) ht)
            exact ⟨x0, x1, x2, by rw [upd_ne nla.symm]; exact hx, hx1⟩
          · exact sameX_mut (L6.same.trans (sx (same_new ht))) hlA0
          · rw [upd_ne nlt.symm, (same_new ht) _ _ L6.towns, names_snoc]
            simp [rnames]
          · rw [upd_same, List.map_append]
            rfl
          · refine Each.append ((hR6.keep (tk_new ht)).keep (tk_upd ((same_new ht) _ _ hl6))) (.cons ?_ .nil)
            rw [upd_ne nlt6.symm, upd_same]
          · intro r hr
            rcases List.mem_append.mp hr with hr | hr
            · exact L6.rows r hr
            · rw [List.mem_singleton.mp hr]
              exact hpl
          · rw [names_snoc]
            simpa [rnames] using L6.nd
          · rw [names_snoc]
            simpa [rnames] using L6.wds
          · intro e
            rw [names_snoc]
            exact hne e rfl
    · rintro σ H4 ⟨g, y6, y7, y8, y9, y10, rfl, hgl, L4, hne⟩
      obtain ⟨as4, hl4, hR4⟩ := L4.laid
      refine ⟨_, rfl, lA, _, rfl, .inl ⟨.inl (.inl hl4), fun t ht => ?_⟩⟩
      refine q t g wd _ ⟨by omega, by omega, hwd.1, hwd.2, L4.rows, ?_, ?_, hne rfl⟩ ⟨as4, upd_same, hR4.keep (tk_new ht)⟩ (L4.purse.same (same_new ht)) (L4.same.trans (sx (same_new ht)))
      · simpa [rnames] using L4.nd
      · simpa [rnames] using L4.wds
end
end Wl



namespace Wl
open PySem PySem.Spec PyProof.Rows L2
abbrev sAreRows : Stmt := topS 39
abbrev sWrong : Stmt := topS 40
abbrev sSpotsIn : Stmt := topS 41
abbrev sSpots : Stmt := topS 42
structure Gk (mg : Str → Option Value) : Prop where
  letters : ∃ t, mg "LETTERS" = some (.str "abcdefghijklmnopqrstuvwxyz" t)
  longest : ∃ t, mg "LONGEST_WORD" = some (.int 8 t)
  mrows : ∃ t, mg "MOST_ROWS" = some (.int 6 t)
  mcols : ∃ t, mg "MOST_COLUMNS" = some (.int 6 t)
section
variable {P : Program} {w : World} {K : PySem.W.Frag} {mg : Str → Option Value} {base : Heap} {f : Addr} {fd : FuncData}

/-! ### is_word of a text -/
def spIsWord : Sp := fun vs H Q _ => ∃ (z : Str), vs = [.str z] ∧ z.length ≤ 1000 ∧ ∀ (H' : Hp), Same H H' → Q (.bl (wdB z)) H'
end
end Wl



namespace Wl
open PySem PySem.Spec PyProof.Rows L2
section
variable {P : Program} {w : World} {K : PySem.W.Frag} {mg : Str → Option Value} {base : Heap} {f : Addr} {fd : FuncData}

/-! ### are_rows of a good grid -/
def spAreRows : Sp := fun vs H Q _ => ∃ (L : Addr) (g : Grid) (wd : Nat), vs = [.ref L] ∧ GridAt H L g ∧ Good g wd ∧ Q (.bl true) H
abbrev nAreRows : List Str := ["thing", "row"]
theorem scAreRows : FnScope nAreRows ["thing"] (defScope sAreRows) := ⟨rfl, rfl, rfl, by decide +kernel, rfl, by decide +kernel, by decide +kernel⟩
theorem ok_arerows (F : Fun K "are_rows" "are_rows" sAreRows f fd) (B : Bi mg) (G : Gk mg) : FnOk P w K mg base CX0 1 f fd ["thing"] spAreRows := by
  obtain ⟨t1, g1⟩ := G.mrows
  obtain ⟨t2, g2⟩ := G.mcols
  refine F.ok scAreRows (fun vs H Q E h => ?_) (fun cdv A outer s H vs Q E hr h => ?_)
  · obtain ⟨L, g, wd, rfl, _⟩ := h
    rfl
  · obtain ⟨L, g, wd, rfl, ⟨as, hL, hR⟩, gd, q⟩ := h
    refine ⟨_, pss_cons (ps_if (PW.pt (pw_or (pt_not (pt_val (pe_callB call_isi (by rfl) B.isi (by decide +kernel) (pa_cons (pv 0) (pa_cons (pe_bltn (v := .ty "tuple") (by rfl) B.tuple (by decide +kernel) rfl) pa_nil)))))
        (pw_or1 (pt_not (pt_chain op_le op_le pe_int (pe_callB call_len_seq (by rfl) B.len PySem.boot_len (pa_cons (pv 0) pa_nil)) (pe_glob (v := .int 6) rfl g1 ⟨_, rfl⟩)))))) (pss_one (ps_ret pe_bl)) pss_nil)
      (pss_cons (ps_for PassesOwn.never rfl (pi_tup (pv 0)) (pg_name (i := 1) scAreRows.nd rfl (.inl rfl))
        (pss_one (ps_if (PW.pt (pw_or (pt_not (pt_val (pe_callB call_isi (by rfl) B.isi (by decide +kernel) (pa_cons (pv 1) (pa_cons (pe_bltn (v := .ty "tuple") (by rfl) B.tuple (by decide +kernel) rfl) pa_nil)))))
          (pw_or (pt_not (pt_chain op_le op_le pe_int (pe_callB call_len_seq (by rfl) B.len PySem.boot_len (pa_cons (pv 1) pa_nil)) (pe_glob (v := .int 6) rfl g2 ⟨_, rfl⟩)))
          (pw_or1 (pt_cmpR op_ne (pe_callB call_len_seq (by rfl) B.len PySem.boot_len (pa_cons (pv 1) pa_nil)) (pe_callB call_len_seq (by rfl) B.len PySem.boot_len (pa_cons (pe_ix ix_tup (pv 0) pe_int (fun _ _ => rfl)) pa_nil)) (nomark _)))))) (pss_one (ps_ret pe_bl)) pss_nil)))
      (pss_one (ps_ret pe_bl))), ?_⟩
    have hlen : (as.map V.ref).length = g.length := by rw [List.length_map, hR.length]
    have hST : SqT K H L (as.map V.ref) := .inl (.inl hL)
    have h16 : 1 ≤ g.length ∧ g.length ≤ 6 := ⟨gd.h1, gd.h6⟩
    have w16 : 1 ≤ wd ∧ wd ≤ 6 := ⟨gd.w1, gd.w6⟩
    refine ⟨_, rfl, _, _, _, _, _, rfl, .ty "tuple", .base (.tup hL), kit_ty (r := true) (by decide +kernel), true, rfl, ?_⟩
    refine iteF ⟨_, rfl, L, _, rfl, .inr hST, _, _, rfl, rfl, _, rfl, ite_b (fun e1 => ?_) (fun e1 => ?_)⟩
    · refine ⟨_, _, rfl, rfl, _, rfl, not_b (fun e2 => ?_) (fun e2 => ?_)⟩
      · have := of_decide_eq_false e2
        omega
      · refine ⟨_, rfl, L, rfl, ⟨_, hST⟩, for_tup (K := K) (a := L) (xs := as.map V.ref) (fun i σ H' => (∃ y, σ = [some (.ref L), y]) ∧ H' = H) ⟨⟨_, rfl⟩, rfl⟩ (fun i σ H' _ h => by rw [h.2]; exact hST) ?_ ?_⟩
        · rintro i x σ H' hx ⟨⟨y, rfl⟩, rfl⟩
          rw [List.getElem?_map] at hx
          obtain ⟨p, hp, rfl⟩ := Option.map_eq_some_iff.mp hx
          obtain ⟨row, hrow, hH⟩ := hR.get hp
          have hrl : (row.map oV).length = wd := by rw [List.length_map]; exact gd.rows row (List.mem_of_getElem? hrow)
          have hrT : SqT K H' p (row.map oV) := .inl (.inl hH)
          obtain ⟨p0, hp0⟩ : ∃ p0, as[0]? = some p0 := by
            cases as with
            | nil =>
              have := hR.length
              simp at this
              omega
            | cons a0 r => exact ⟨a0, rfl⟩
          obtain ⟨row0, hrow0, hH0⟩ := hR.get hp0
          have hr0l : (row0.map oV).length = wd := by rw [List.length_map]; exact gd.rows row0 (List.mem_of_getElem? hrow0)
          refine ⟨_, rfl, _, _, _, _, _, rfl, .ty "tuple", .base (.tup hH), kit_ty (r := true) (by decide +kernel), true, rfl, ?_⟩
          refine iteF ⟨_, rfl, p, _, rfl, .inr hrT, _, _, rfl, rfl, _, rfl, ite_b (fun e3 => ?_) (fun e3 => ?_)⟩
          · refine ⟨_, _, rfl, rfl, _, rfl, not_b (fun e4 => ?_) (fun e4 => ?_)⟩
            · have := of_decide_eq_false e4
              omega
            · refine ⟨_, rfl, p, _, rfl, .inr hrT, _, rfl, L, _, 0, .ref p0, rfl, rfl, hST, atI_nat (j := 0) (by rw [List.getElem?_map, hp0]; rfl), p0, _, rfl, .inr (.inl (.inl hH0)), rfl, _, rfl, ?_⟩
              refine iteNS (by rw [hrl, hr0l]) ?_
              exact ⟨⟨_, rfl⟩, rfl⟩
          · have := of_decide_eq_false e3
            omega
        · rintro σ H' ⟨⟨y, rfl⟩, rfl⟩
          exact q
    · have := of_decide_eq_false e1
      omega
end
end Wl



/-! A dict comprehension of two clauses: {k: v for a in .. if .. for b in .. if ..}. -/
namespace Wl
open PySem PySem.Spec PyProof.Rows L2
/-- the whole of it -/
abbrev two (kx vx ta ia tb ib : Expr) (fa fb : List Expr) (sc : Scope) (pos : Pos) : Expr := .DictComp kx vx [⟨ta, ia, fa, 0⟩, ⟨tb, ib, fb, 0⟩] sc pos
/-- a clause's tests -/
abbrev testsOf (fs : List Expr) (env : Env) : Sem Bool :=
  forIn fs true fun c r => if r = true then (do let y ← isTrue c env (eval c env); pure (ForInStep.yield y)) else pure (ForInStep.yield r)
/-- a turn of a clause: no item is left, or one comes, is stored and tested -/
def Turned (M : Model) (A : Around) (env : Env) (tg : Expr) (it : Value) (fs : List Expr) (stop : Shared → Prop) (k : Bool → Shared → Prop) (E : Value → Shared → Prop) (s : Shared) : Prop :=
  wpAny M A (pyNext it) (fun r s1 => match r with
    | none => stop s1
    | some u => wpAny M A (letOwnedTupleGo tg it u) (fun _ s2 => wpAny M A (assign tg env u) (fun _ s3 => wpAny M A (testsOf fs env) k E s3) E s2) E s1) E s
section
variable {kx vx ta ia tb ib : Expr} {fa fb : List Expr} {sc : Scope} {pos : Pos} {it : Value} {D : Addr} {env : Env}
theorem turnA : compTurn (two kx vx ta ia tb ib fa fb sc pos) 0 it (.ref D) env = (do
    standAt ia.pos
    match ← pyNext it with
    | none => pure (.done .next)
    | some u =>
      letOwnedTupleGo ta it u
      assign ta env u
      let yes ← testsOf fa env
      if yes = true then
        let x ← eval ib env
        standAt ib.pos
        let z ← foldedSetIterable ib env x
        let _ ← runOwn (.compStart (two kx vx ta ia tb ib fa fb sc pos) 1 (← holding [z] (pyIter z)) (.ref D) env) env
      again (.compLoop (two kx vx ta ia tb ib fa fb sc pos) 0 it (.ref D) env)) := rfl
theorem turnB : compTurn (two kx vx ta ia tb ib fa fb sc pos) 1 it (.ref D) env = (do
    standAt ib.pos
    match ← pyNext it with
    | none => pure (.done .next)
    | some u =>
      letOwnedTupleGo tb it u
      assign tb env u
      let yes ← testsOf fb env
      if yes = true then
        (do
          let a ← eval kx env
          let b ← holding [a] (eval vx env)
          standAt { kx.pos with endLine := vx.pos.endLine, endCol := vx.pos.endCol }
          holding [a, b] (dictSet D a b))
      again (.compLoop (two kx vx ta ia tb ib fa fb sc pos) 1 it (.ref D) env)) := rfl
variable {prog : Program} {w : World} {A : Around} {R : Result → Shared → Prop} {s : Shared}
/-- what an error leaves behind it -/
abbrev errs (prog : Program) (w : World) (A : Around) (env : Env) (R : Result → Shared → Prop) : Value → Shared → Prop := notedBy (model prog w) A env fun e s' => R (.error e) s'
theorem loopA (plain : ∀ x, foldedSetIterable ib env x = pure x) (I : Nat → Shared → Prop)
    (turn : ∀ n s, I n s → Turned (model prog w) A env ta it fa (R (.ok .next)) (fun yes s1 => if yes = true then
        wpAny (model prog w) A (eval ib env) (fun x s2 => wpAny (model prog w) A (pyIter x) (fun j s3 => codeAny (model prog w) A (.compStart (two kx vx ta ia tb ib fa fb sc pos) 1 j (.ref D) env) (fun r s4 => (∃ f, r = .ok f) ∧ ∃ m, m < n ∧ I m s4) s3) (errs prog w A env R) s2) (errs prog w A env R) s1
      else ∃ m, m < n ∧ I m s1) (errs prog w A env R) s)
    (n : Nat) (h : I n s) : codeAny (model prog w) A (.compLoop (two kx vx ta ia tb ib fa fb sc pos) 0 it (.ref D) env) R s := by
  refine codeAny_loop rfl I (fun n s hI => wpAny_noted ?_) n h
  have key := turn n s hI
  unfold Turned at key
  show wpAny _ A (compTurn (two kx vx ta ia tb ib fa fb sc pos) 0 it (.ref D) env) _ _ s
  rw [turnA]
  refine wpAny_bind (wpAny_standAt (wpAny_bind (wpAny_mono key ?_ fun _ _ z => z)))
  rintro (_ | u) s1 k1
  · exact wpAny_pure k1
  · refine wpAny_bind (wpAny_mono k1 (fun _ s2 k2 => wpAny_bind (wpAny_mono k2 (fun _ s3 k3 => wpAny_bind (wpAny_mono k3 ?_ fun _ _ z => z)) fun _ _ z => z)) fun _ _ z => z)
    rintro (_ | _) s4 k4
    · exact wpAny_pure ⟨rfl, k4⟩
    · refine wpAny_bind (wpAny_mono k4 (fun x s5 k5 => wpAny_bind (wpAny_standAt (wpAny_bind (wpAny_of_eq (plain x) (wpAny_bind (wpAny_holding (wpAny_mono k5 (fun j s6 k6 => ?_) fun _ _ z => z))))))) fun _ _ z => z)
      refine wpAny_bind (wpAny_runOwn ?_)
      rw [Around.mark_none]
      refine codeAny_mono k6 ?_
      rintro (e | f) s7 ⟨⟨g, eg⟩, k7⟩
      · cases eg
      · first
          | exact wpAny_pure ⟨rfl, k7⟩
          | exact wpAny_bind (wpAny_pure (wpAny_pure ⟨rfl, k7⟩))
theorem loopB (I : Nat → Shared → Prop)
    (turn : ∀ n s, I n s → Turned (model prog w) A env tb it fb (R (.ok .next)) (fun yes s1 => if yes = true then
        wpAny (model prog w) A (eval kx env) (fun a s2 => wpAny (model prog w) A (eval vx env) (fun b s3 => wpAny (model prog w) A (dictSet D a b) (fun _ s4 => ∃ m, m < n ∧ I m s4) (errs prog w A env R) s3) (errs prog w A env R) s2) (errs prog w A env R) s1
      else ∃ m, m < n ∧ I m s1) (errs prog w A env R) s)
    (n : Nat) (h : I n s) : codeAny (model prog w) A (.compLoop (two kx vx ta ia tb ib fa fb sc pos) 1 it (.ref D) env) R s := by
  refine codeAny_loop rfl I (fun n s hI => wpAny_noted ?_) n h
  have key := turn n s hI
  unfold Turned at key
  show wpAny _ A (compTurn (two kx vx ta ia tb ib fa fb sc pos) 1 it (.ref D) env) _ _ s
  rw [turnB]
  refine wpAny_bind (wpAny_standAt (wpAny_bind (wpAny_mono key ?_ fun _ _ z => z)))
  rintro (_ | u) s1 k1
  · exact wpAny_pure k1
  · refine wpAny_bind (wpAny_mono k1 (fun _ s2 k2 => wpAny_bind (wpAny_mono k2 (fun _ s3 k3 => wpAny_bind (wpAny_mono k3 ?_ fun _ _ z => z)) fun _ _ z => z)) fun _ _ z => z)
    rintro (_ | _) s4 k4
    · exact wpAny_pure ⟨rfl, k4⟩
    · refine wpAny_bind (wpAny_bind (wpAny_mono k4 (fun a s5 k5 => ?_) fun _ _ z => z))
      refine wpAny_bind (wpAny_holding (wpAny_mono k5 (fun b s6 k6 => ?_) fun _ _ z => z))
      exact wpAny_bind (wpAny_standAt (wpAny_holding (wpAny_mono k6 (fun _ s7 k7 => wpAny_pure ⟨rfl, k7⟩) fun _ _ z => z)))
theorem startB (h0 : codeAny (model prog w) A (.compLoop (two kx vx ta ia tb ib fa fb sc pos) 1 it (.ref D) env) R s)
    (h1 : wpAny (model prog w) A (pyIter it) (fun j s' => codeAny (model prog w) A (.compLoop (two kx vx ta ia tb ib fa fb sc pos) 1 j (.ref D) env) R s') (errs prog w A env R) s) :
    codeAny (model prog w) A (.compStart (two kx vx ta ia tb ib fa fb sc pos) 1 it (.ref D) env) R s := by
  refine codeAny_of_tree (wpAny_notedAt (?_ : wpAny _ _ (compStart (two kx vx ta ia tb ib fa fb sc pos) 1 it (.ref D) env) _ _ s))
  unfold compStart
  show wpAny _ _ (ask >>= _) _ _ s
  refine wpAny_bind (wpAny_askSetting (wpAny_ite ?_))
  split
  · first
      | exact wpAny_pure ⟨rfl, h0⟩
      | exact wpAny_bind (wpAny_pure (wpAny_pure ⟨rfl, h0⟩))
  · refine wpAny_bind (wpAny_rule ?_)
    show wpAny _ _ (standAt ib.pos >>= _) _ _ s
    exact wpAny_bind (wpAny_standAt (wpAny_bind (wpAny_mono h1 (fun j s' h' => wpAny_pure ⟨rfl, h'⟩) fun _ _ z => z)))
end
section
variable {Y : Cx} {pins : List (Addr × Obj)} {σ : L2.St} {H : Hp} {s : Shared} {tg : Expr} {J : It} {fp : List Addr} {it : Addr} {tn : Nat → Heap → Prop}
/-- an item comes: stored and tested, the walk's objects held meanwhile -/
theorem clause {g : TG} {tt : TT} {fs : List Expr} {i : Nat} {C : L2.St → Prop} {Z : L2.St → Bool → Hp → Prop} {stop : Shared → Prop} {k : Bool → Shared → Prop} {E : Value → Shared → Prop}
    (quiet : Y.xe = fun _ _ => False) (hc : Y.calm = true) (T : Turn Y.prog Y.w Y.K tg J fp it tn) (pg : PG Y tg g) (pt : PTs Y fs tt) (I : L2.Inv Y pins σ H s)
    (free : ∀ {H' : Hp}, (∀ b ∈ fp, H' b = none) → ∀ b ∈ fp, FpOk Y pins H' b) (none0 : ∀ b ∈ fp, H b = none) (st : tn i s.heap) (go : J.go i H)
    (step : ∀ x H', J.yld i H x H' → g x σ H' fun σ2 H2 => C σ2 ∧ tt σ2 H2 (Z σ2))
    (next : ∀ {s1 s2 : Shared} {σ2 : L2.St} {b : Bool} {H2 : Hp}, tn (i + 1) s1.heap → C σ2 → L2.Inv Y (pins ++ pinsAt fp s1.heap) σ2 H2 s2 → Z σ2 b H2 → k b s2) :
    Turned (model Y.prog Y.w) Y.A Y.env tg (.ref it) fs stop k E s := by
  unfold Turned
  refine thnF (T.item Y rfl rfl rfl hc i pins s σ H (fun _ _ => False) I (free none0) st go) ?_
  rintro _ s1 ⟨u, rfl, h1⟩
  refine thnF h1 ?_
  rintro _ s2 ⟨x, H2, I2, rx, yx, st2, n2⟩
  have held := I2.pinned (free n2) (T.obj _ _ st2)
  have run1 := pg.run _ s2 _ H2 x u _ held rx (step x H2 yx)
  rw [quiet] at run1
  refine thnF run1 ?_
  rintro _ s3 ⟨σ3, H3, I3, c3, q3⟩
  have run2 := pt.run _ s3 σ3 H3 _ I3 q3
  rw [quiet] at run2
  refine thnF run2 ?_
  rintro b s4 ⟨H4, I4, q4⟩
  exact next st2 c3 I4 q4
/-- behind the turn the walk's objects stand as they did -/
theorem walk_stays {i : Nat} {h : Heap} (T : Turn Y.prog Y.w Y.K tg J fp it tn) (st : tn i h) (I : L2.Inv Y (pins ++ pinsAt fp h) σ H s) : tn i s.heap ∧ ∀ b ∈ fp, H b = none := by
  have each : ∀ b ∈ fp, ∀ o, h.get? b = some o → s.heap.get? b = some o ∧ H b = none := fun b hb o e => by
    have z := I.pin (b, o) (List.mem_append_right _ (List.mem_append_right _ (mem_pinsAt hb e)))
    exact ⟨z.1, z.2.1⟩
  refine ⟨T.keep i h s.heap st fun b hb o e => (each b hb o e).1, fun b hb => ?_⟩
  obtain ⟨o, e, _⟩ := T.obj i h st b hb
  exact (each b hb o e).2
end
section
variable {X : Cx}
/-- the second clause: its walk, in each turn of it a pair put -/
def InnD (gb : TG) (ttb : TT) (tk tv : TE) (vs1 : List Nat) (D : Addr) (σ2 : L2.St) (Nx : Hp → Prop) (J1 : It) (H4 : Hp) : Prop :=
  ∃ W1 : Nat → Nat → Hp → Prop, (∃ m, W1 0 m H4) ∧ ∀ j k H, W1 j k H → (J1.stop j H ∧ Nx H) ∨ (J1.go j H ∧ ∃ Nx1 : Hp → Prop, (∀ H', Nx1 H' → ∃ k', k' < k ∧ W1 (j + 1) k' H') ∧
    ∀ x H', J1.yld j H x H' → gb x (wipe σ2 vs1) H' fun σ3 H5 => wipe σ3 vs1 = wipe σ2 vs1 ∧ ttb σ3 H5 fun yes H6 =>
      if yes = true then tk σ3 H6 fun y H7 => tv σ3 H7 fun z H8 => ∃ kvs k, y = kV k ∧ H8 D = some (.dK kvs) ∧ kvs.length < sizeLine ∧ Nx1 (upd H8 D (.dK (putK kvs k z))) else Nx1 H6)
/-- what the comprehension asks: the first clause's walk, in each turn the second's; vs: the names of both clauses, vs1: of the second -/
def tDc2 (wa : TI) (ga : TG) (tta : TT) (wb : TI) (gb : TG) (ttb : TT) (tk tv : TE) (vs vs1 : List Nat) : TE := fun σ H Q => wa σ H fun J H1 => ∀ D, H1 D = none →
  ∃ W : Nat → Nat → Hp → Prop, (∃ m, W 0 m (upd H1 D (.dK []))) ∧ ∀ i m H, W i m H → (J.stop i H ∧ Q (.ref D) H) ∨ (J.go i H ∧ ∃ Nx : Hp → Prop, (∀ H', Nx H' → ∃ m', m' < m ∧ W (i + 1) m' H') ∧
    ∀ x H', J.yld i H x H' → ga x (wipe σ vs) H' fun σ2 H2 => wipe σ2 vs = wipe σ vs ∧ tta σ2 H2 fun yes H3 => if yes = true then wb σ2 H3 (InnD gb ttb tk tv vs1 D σ2 Nx) else Nx H3)
/-- the first clause by a walk that is known -/
theorem dc2_it {J : It} {n : Nat} {G : Hp → Prop} {Y : Nat → Hp → V → Hp → Prop} (w : L2.Walk J n G Y) {ga gb : TG} {tta ttb : TT} {wb : TI} {tk tv : TE} {vs vs1 : List Nat} {σ : L2.St} {H1 : Hp} {D : Addr} {Qd : Hp → Prop} (Pv : Nat → Hp → Prop) (h0 : Pv 0 (upd H1 D (.dK []))) (hG : ∀ i H, i ≤ n → Pv i H → G H)
    (hs : ∀ i x H H', i < n → Pv i H → Y i H x H' → ga x (wipe σ vs) H' fun σ2 H2 => wipe σ2 vs = wipe σ vs ∧ tta σ2 H2 fun yes H3 => if yes = true then wb σ2 H3 (InnD gb ttb tk tv vs1 D σ2 (Pv (i + 1))) else Pv (i + 1) H3) (hd : ∀ H, Pv n H → Qd H) :
    ∃ W : Nat → Nat → Hp → Prop, (∃ m, W 0 m (upd H1 D (.dK []))) ∧ ∀ i m H, W i m H → (J.stop i H ∧ Qd H) ∨ (J.go i H ∧ ∃ Nx : Hp → Prop, (∀ H', Nx H' → ∃ m', m' < m ∧ W (i + 1) m' H') ∧
      ∀ x H', J.yld i H x H' → ga x (wipe σ vs) H' fun σ2 H2 => wipe σ2 vs = wipe σ vs ∧ tta σ2 H2 fun yes H3 => if yes = true then wb σ2 H3 (InnD gb ttb tk tv vs1 D σ2 Nx) else Nx H3) := by
  refine ⟨fun i m H => m + i = n ∧ Pv i H, ⟨n, by simp, h0⟩, fun i m H ⟨e, p⟩ => ?_⟩
  have q := hG i H (by omega) p
  by_cases lt : i < n
  · exact .inr ⟨w.goes i H lt q, Pv (i + 1), fun H' p' => ⟨m - 1, by omega, by omega, p'⟩, fun x H' y => hs i x H H' lt p (w.yields i H x H' lt q y)⟩
  · obtain rfl : i = n := by omega
    exact .inl ⟨w.stops H q, hd H p⟩
/-- the second clause by a walk that is known -/
theorem inn_it {J1 : It} {n : Nat} {G : Hp → Prop} {Y : Nat → Hp → V → Hp → Prop} (w : L2.Walk J1 n G Y) {gb : TG} {ttb : TT} {tk tv : TE} {vs1 : List Nat} {σ2 : L2.St} {H4 : Hp} {D : Addr} {Nx : Hp → Prop} (Pv : Nat → Hp → Prop) (h0 : Pv 0 H4) (hG : ∀ i H, i ≤ n → Pv i H → G H)
    (hs : ∀ j x H H', j < n → Pv j H → Y j H x H' → gb x (wipe σ2 vs1) H' fun σ3 H5 => wipe σ3 vs1 = wipe σ2 vs1 ∧ ttb σ3 H5 fun yes H6 =>
      if yes = true then tk σ3 H6 fun y H7 => tv σ3 H7 fun z H8 => ∃ kvs k, y = kV k ∧ H8 D = some (.dK kvs) ∧ kvs.length < sizeLine ∧ Pv (j + 1) (upd H8 D (.dK (putK kvs k z))) else Pv (j + 1) H6) (hd : ∀ H, Pv n H → Nx H) :
    InnD gb ttb tk tv vs1 D σ2 Nx J1 H4 := by
  refine ⟨fun j k H => k + j = n ∧ Pv j H, ⟨n, by simp, h0⟩, fun j k H ⟨e, p⟩ => ?_⟩
  have q := hG j H (by omega) p
  by_cases lt : j < n
  · exact .inr ⟨w.goes j H lt q, Pv (j + 1), fun H' p' => ⟨k - 1, by omega, by omega, p'⟩, fun x H' y => hs j x H H' lt p (w.yields j H x H' lt q y)⟩
  · obtain rfl : j = n := by omega
    exact .inl ⟨w.stops H q, hd H p⟩
/-- a block of this scope -/
abbrev inBlk (X : Cx) (sc : Scope) (s : Shared) (H : Hp) (C : Addr) (cl : List (Str × Addr)) (fp : List Addr) : Cx := X.blk s H sc (compEnvC sc cl C X.env) fp
theorem pe_dc2 {kx vx ta ia tb ib : Expr} {fa fb : List Expr} {sc : Scope} {own : List (Str × Nat)} {vs1 : List Nat} {pos : Pos} {wa wb : TI} {ga gb : TG} {tta ttb : TT} {tk tv : TE} (hc : X.calm = true) (hN : X.N.Nodup) (hi : PI X ta ia wa) (ok : BlkOk X.N X.env.scope sc own) (hv : ∀ i ∈ vs1, i ∈ own.map (·.2))
    (hga : ∀ s H C cl fp, PG (inBlk X sc s H C cl fp) ta ga) (hta : ∀ s H C cl fp, PTs (inBlk X sc s H C cl fp) fa tta) (hib : ∀ s H C cl fp, PI (inBlk X sc s H C cl fp) tb ib wb) (hgb : ∀ s H C cl fp, PG (inBlk X sc s H C cl fp) tb gb) (htb : ∀ s H C cl fp, PTs (inBlk X sc s H C cl fp) fb ttb)
    (hk : ∀ s H C cl fp, PE (inBlk X sc s H C cl fp) kx tk) (he : ∀ s H C cl fp, PE (inBlk X sc s H C cl fp) vx tv)
    (pa : ∀ x, foldedSetIterable ia X.env x = pure x := by intro _; rfl) (pb : ∀ env x, foldedSetIterable ib env x = pure x := by intro _ _; rfl) :
    PE X (.DictComp kx vx [⟨ta, ia, fa, 0⟩, ⟨tb, ib, fb, 0⟩] sc pos) (tDc2 wa ga tta wb gb ttb tk tv (own.map (·.2)) vs1) := by
  refine ⟨fun pins s σ H Q I h => ?_⟩
  rw [arm_eval_DictComp]
  have clo : ∀ y ∈ sc.names, y.2 = .free → ∃ c, X.env.cells.lookup y.1 = some c := fun y hy e => (ok.free y hy e).elim (fun k => I.ok.has _ (.inl k)) fun k => I.ok.has _ (.inr k)
  refine wpAny_comprehension_free rfl pa (closure_ok clo) ok.kind (fun y hy e => by rw [ok.uniq y hy, e]) (thn (hi.run pins s σ H _ I h) fun _ _ h1 => thn h1 ?_)
  rintro _ s2 ⟨it, fp, tn, J, H2, rfl, I2, T, st2, f2, q⟩
  refine wpAny_newObj_type (newEnv_comp ?_)
  generalize hD : s2.heap.objs.size = D
  have newD : H2 D = none := I2.hok.fresh (Nat.le_of_eq hD)
  obtain ⟨W, ⟨m0, w0⟩, turn⟩ := q D newD
  generalize hs3 : ({ s2 with heap := s2.heap.push { cls := .type "dict", data := .dict #[] } } : Shared) = s3
  have e3 : s3.heap = s2.heap.push { cls := .type "dict", data := .dict #[] } := by rw [← hs3]
  have I3 : L2.Inv X pins σ (upd H2 D (.dK [])) s3 := by
    rw [← hs3]
    exact I2.laid (t' := s2.toks) (fun b o e => Heap.get?_push_of_some _ e) (Nat.le_of_eq hD) (hD ▸ dk_empty s2.heap I2.big)
  have f3 : ∀ b ∈ fp, FpOk X pins (upd H2 D (.dK [])) b ∧ b < s3.heap.objs.size := fun b hb => by
    obtain ⟨o, e, _⟩ := T.obj _ _ st2 b hb
    have small := Heap.lt_size e
    refine ⟨⟨?_, (f2 b hb).2⟩, ?_⟩
    · rw [upd_ne (Nat.ne_of_lt (hD ▸ small))]
      exact (f2 b hb).1
    · rw [e3, Heap.size_push]
      exact Nat.lt_succ_of_lt small
  have st3 : tn 0 s3.heap := T.keep _ _ _ st2 fun b _ o e => by
    rw [e3]
    exact Heap.get?_push_of_some _ e
  have I4 := block_start I3 ok hN f3
  generalize hcl : cellsFrom (s3.heap.objs.size + 1) sc.names (cloFrom X.env.cells sc.names []) = cl at I4
  show codeAny _ _ (.compStart (two kx vx ta ia tb ib fa fb sc pos) 0 (.ref it) (.ref D) (compEnvC sc cl s3.heap.objs.size X.env)) (compPost (model X.prog X.w) X.A X.xe none (EP X pins σ Q) (.ref D) s3.heap.objs.size) { s3 with heap := pushCells (s3.heap.push { cls := .type "dict", data := .dict #[] }) sc.names }
  have none3 : ∀ b ∈ fp, (upd H2 D (.dK [])) b = none := fun b hb => (f3 b hb).1.1
  generalize hH3 : upd H2 D (.dK []) = H3 at I3 I4 w0 none3 f3
  have jga : PG (X.blk s3 H3 sc (compEnvC sc cl s3.heap.objs.size X.env) fp) ta ga := hga s3 H3 s3.heap.objs.size cl fp
  have jta : PTs (X.blk s3 H3 sc (compEnvC sc cl s3.heap.objs.size X.env) fp) fa tta := hta s3 H3 s3.heap.objs.size cl fp
  have jib : PI (X.blk s3 H3 sc (compEnvC sc cl s3.heap.objs.size X.env) fp) tb ib wb := hib s3 H3 s3.heap.objs.size cl fp
  have jgb : PG (X.blk s3 H3 sc (compEnvC sc cl s3.heap.objs.size X.env) fp) tb gb := hgb s3 H3 s3.heap.objs.size cl fp
  have jtb : PTs (X.blk s3 H3 sc (compEnvC sc cl s3.heap.objs.size X.env) fp) fb ttb := htb s3 H3 s3.heap.objs.size cl fp
  have jk : PE (X.blk s3 H3 sc (compEnvC sc cl s3.heap.objs.size X.env) fp) kx tk := hk s3 H3 s3.heap.objs.size cl fp
  have je : PE (X.blk s3 H3 sc (compEnvC sc cl s3.heap.objs.size X.env) fp) vx tv := he s3 H3 s3.heap.objs.size cl fp
  generalize hs4 : ({ s3 with heap := pushCells (s3.heap.push { cls := .type "dict", data := .dict #[] }) sc.names } : Shared) = s4 at I4 ⊢
  have st4 : tn 0 s4.heap := T.keep _ _ _ st3 fun b _ o e => by
    rw [← hs4]
    exact pushCells_keeps _ _ _ _ (Heap.get?_push_of_some _ e)
  generalize hce : compEnvC sc cl s3.heap.objs.size X.env = ce at I4 jga jta jib jgb jtb jk je ⊢
  have cL : ce.locals = s3.heap.objs.size := by
    subst hce
    rfl
  have free0 : ∀ {H' : Hp}, (∀ b ∈ fp, H' b = none) → ∀ b ∈ fp, FpOk (X.blk s3 H3 sc ce fp) [] H' b := fun n b hb =>
    ⟨n b hb, (I4.ok.exf b hb).1, I4.ok.exfs b hb, .inl hb, (I4.ok.exf b hb).2, fun p hp => nomatch (show p ∈ ([] : List (Addr × Obj)) from hp)⟩
  have loop : codeAny (model X.prog X.w) X.A (.compLoop (two kx vx ta ia tb ib fa fb sc pos) 0 (.ref it) (.ref D) ce) (compPost (model X.prog X.w) X.A X.xe none (EP X pins σ Q) (.ref D) s3.heap.objs.size) s4 := by
    refine loopA (pb ce) (fun n s' => ∃ i H', L2.Inv (X.blk s3 H3 sc ce fp) [] (wipe σ (own.map (·.2))) H' s' ∧ tn i s'.heap ∧ (∀ b ∈ fp, H' b = none) ∧ W i n H') ?_ m0 ⟨0, H3, I4, st4, none3, w0⟩
    rintro n s5 ⟨i, H5, I5, st5, n5, w5⟩
    rcases turn i n H5 w5 with ⟨stop, qq⟩ | ⟨go, Nx, hNx, step⟩
    · unfold Turned
      refine thnF (T.done (X.blk s3 H3 sc ce fp) rfl rfl rfl hc i [] s5 _ H5 (fun _ _ => False) I5 (free0 n5) st5 stop) ?_
      rintro _ s6 ⟨rfl, I6⟩
      have I7 : L2.Inv X pins σ H5 s6 := I3.call' (ch := fp) I6.os I6.base I6.hok I6.bare fun b hb => by
        obtain ⟨⟨_, a1, _, a3, a4, a5⟩, _⟩ := f3 b hb
        exact ⟨a3, a1, a4, a5⟩
      have nC : H5 s3.heap.objs.size = none := cL ▸ (show H5 ce.locals = none from I6.free)
      obtain ⟨m, hn, _⟩ := I6.loc
      have hn : s6.heap.Ns s3.heap.objs.size m := cL ▸ (show s6.heap.Ns ce.locals m from hn)
      obtain ⟨g0, g1, _, g3, g4, g5⟩ := I3.fpOk (H' := H5) (Nat.le_refl _) nC
      exact ⟨m, hn, fun h2 sb => ⟨.ref D, H5, I7.turned (t' := s6.toks) (fun b o hb e => (sb.2 b hb).trans e) g0 g1 g3 g4 g5, rfl, qq⟩⟩
    · refine clause (Y := X.blk s3 H3 sc ce fp) rfl hc T jga jta I5 free0 n5 st5 go step ?_
      intro s6 s7 σ7 b H7 st6 w7 I7 q7
      have hl7 : (wipe σ (own.map (·.2))).length = σ7.length := by rw [← w7, wipe_length]
      have fin : ∀ {σ8 : L2.St} {s8 : Shared} {H8 : Hp}, L2.Inv (X.blk s3 H3 sc ce fp) ([] ++ pinsAt fp s6.heap) σ8 H8 s8 → (wipe σ (own.map (·.2))).length = σ8.length → (∀ (j : Nat) v, (wipe σ (own.map (·.2)))[j]? = some (some v) → σ8[j]? = some (some v)) → Nx H8 →
          ∃ m, m < n ∧ ∃ i H', L2.Inv (X.blk s3 H3 sc ce fp) [] (wipe σ (own.map (·.2))) H' s8 ∧ tn i s8.heap ∧ (∀ b ∈ fp, H' b = none) ∧ W i m H' := by
        intro σ8 s8 H8 I8 hl hk nx
        obtain ⟨m', hm, w'⟩ := hNx H8 nx
        obtain ⟨t1, t2⟩ := walk_stays (Y := X.blk s3 H3 sc ce fp) T st6 I8
        exact ⟨m', hm, i + 1, H8, (I8.unpinned (pins := [])).weak hl hk, t1, t2, w'⟩
      cases b with
      | false =>
        rw [if_neg (by decide)] at q7 ⊢
        exact fin I7 hl7 (fun j v e => (wipe_some (w7.symm ▸ e)).1) q7
      | true =>
        rw [if_pos rfl] at q7 ⊢
        refine thnF (jib.run _ s7 σ7 H7 _ I7 q7) fun _ s8 h8 => thnF h8 ?_
        rintro _ s9 ⟨it1, fp1, tn1, J1, H9, rfl, I9, T1, st9, f9, W1, ⟨m1, w1⟩, turn1⟩
        have free1 : ∀ {H' : Hp}, (∀ b ∈ fp1, H' b = none) → ∀ b ∈ fp1, FpOk (X.blk s3 H3 sc ce fp) ([] ++ pinsAt fp s6.heap) H' b := fun n b hb => ⟨n b hb, (f9 b hb).2⟩
        have loop1 : codeAny (model X.prog X.w) X.A (.compLoop (two kx vx ta ia tb ib fa fb sc pos) 1 (.ref it1) (.ref D) ce) (fun r s' => (∃ f, r = .ok f) ∧ ∃ m, m < n ∧ ∃ i H', L2.Inv (X.blk s3 H3 sc ce fp) [] (wipe σ (own.map (·.2))) H' s' ∧ tn i s'.heap ∧ (∀ b ∈ fp, H' b = none) ∧ W i m H') s9 := by
          refine loopB (fun k s' => ∃ j H', L2.Inv (X.blk s3 H3 sc ce fp) ([] ++ pinsAt fp s6.heap) (wipe σ7 vs1) H' s' ∧ tn1 j s'.heap ∧ (∀ b ∈ fp1, H' b = none) ∧ W1 j k H') ?_ m1 ⟨0, H9, I9.weak (wipe_length _ _) (fun j v e => (wipe_some e).1), st9, fun b hb => (f9 b hb).1, w1⟩
          rintro k s10 ⟨j, H10, I10, st10, n10, w10⟩
          rcases turn1 j k H10 w10 with ⟨stop1, nx1⟩ | ⟨go1, Nx1, hNx1, step1⟩
          · unfold Turned
            refine thnF (T1.done (X.blk s3 H3 sc ce fp) rfl rfl rfl hc j _ s10 (wipe σ7 vs1) H10 (fun _ _ => False) I10 (free1 n10) st10 stop1) ?_
            rintro _ s11 ⟨rfl, I11⟩
            refine ⟨⟨_, rfl⟩, fin I11 (hl7.trans (wipe_length σ7 vs1).symm) (fun j v e => ?_) nx1⟩
            obtain ⟨e1, e2⟩ := wipe_some (w7.symm ▸ e)
            rw [wipe_out fun z => e2 (hv j z)]
            exact e1
          · refine clause (Y := X.blk s3 H3 sc ce fp) rfl hc T1 jgb jtb I10 free1 n10 st10 go1 step1 ?_
            intro s11 s12 σ12 b1 H12 st11 w12 I12 q12
            have fin1 : ∀ {s' : Shared} {H' : Hp}, L2.Inv (X.blk s3 H3 sc ce fp) (([] ++ pinsAt fp s6.heap) ++ pinsAt fp1 s11.heap) σ12 H' s' → Nx1 H' → ∃ m, m < k ∧ ∃ j H', L2.Inv (X.blk s3 H3 sc ce fp) ([] ++ pinsAt fp s6.heap) (wipe σ7 vs1) H' s' ∧ tn1 j s'.heap ∧ (∀ b ∈ fp1, H' b = none) ∧ W1 j m H' := by
              intro s' H' I' nx
              obtain ⟨m', hm, w'⟩ := hNx1 H' nx
              obtain ⟨t1, t2⟩ := walk_stays (Y := X.blk s3 H3 sc ce fp) T1 st11 I'
              exact ⟨m', hm, j + 1, H', I'.unpinned.weak (by rw [← w12, wipe_length]) (fun i v e => (wipe_some (w12.symm ▸ e)).1), t1, t2, w'⟩
            cases b1 with
            | false =>
              rw [if_neg (by decide)] at q12 ⊢
              exact fin1 I12 q12
            | true =>
              rw [if_pos rfl] at q12 ⊢
              refine thnF (jk.run _ s12 σ12 H12 _ I12 q12) ?_
              rintro a s13 ⟨ya, H13, I13, ra, q13⟩
              refine thnF (je.run _ s13 σ12 H13 _ I13 q13) ?_
              rintro b s14 ⟨yb, H14, I14, rb, kvs, key, rfl, hD14, small, nx⟩
              exact d_dictSet (X := X.blk s3 H3 sc ce fp) I14 hD14 small ra rb fun s15 I15 => fin1 I15 nx
        exact startB loop1 (T1.self X.A 0 _ _ _ st9 loop1)
  exact codeAny_compStart_dict loop (T.self X.A 0 _ _ _ st4 loop)
end
end Wl

namespace Wl
open PySem PySem.Spec PyProof.Rows L2
/-- the heap keeps all but its lists -/
def Keep (H H' : Hp) : Prop := ∀ p o, (∀ xs, o ≠ .lst xs) → H p = some o → H' p = some o
theorem Keep.refl (H : Hp) : Keep H H := fun _ _ _ h => h
theorem Keep.trans {H H1 H2 : Hp} (a : Keep H H1) (b : Keep H1 H2) : Keep H H2 := fun p o n h => b p o n (a p o n h)
theorem kp_same {H H' : Hp} (s : Same H H') : Keep H H' := fun p o _ h => s p _ h
theorem kp_x {a : Addr} {H H' : Hp} {ys : List V} (s : SameX a H H') (ha : H a = some (.lst ys)) : Keep H H' := fun p o n h => s p _ (fun e => by
  subst e
  rw [ha] at h
  exact n _ (Option.some.inj h).symm) h
theorem kp_upd {a : Addr} {H : Hp} {ys : List V} {o : HO} (ha : H a = some (.lst ys)) : Keep H (upd H a o) := kp_x sameX_upd ha
theorem kp_new {p : Addr} {H : Hp} {o : HO} (hp : H p = none) : Keep H (upd H p o) := kp_same (same_new hp)
theorem Keep.tk {H H' : Hp} (k : Keep H H') : TupKeep H H' := fun p xs h => k p _ (fun ys e => by cases e) h
theorem tk_updD {a : Addr} {H : Hp} {kvs : List (Key × V)} {o : HO} (ha : H a = some (.dK kvs)) : TupKeep H (upd H a o) := fun p xs h => by
  rw [upd_ne (ne_of h ha (by intro z; cases z))]
  exact h
/-- the dict's pairs tell these spots -/
def Ent (H : Hp) (kv : Key × V) (s : Str × Nat × Nat) : Prop := kv.1 = Sum.inr s.1 ∧ ∃ t, kv.2 = .ref t ∧ H t = some (.tup [.int s.2.1, .int s.2.2])
def SpotsAt (H : Hp) (d : Addr) (sp : List (Str × Nat × Nat)) : Prop := ∃ kvs, H d = some (.dK kvs) ∧ Each (Ent H) kvs sp
theorem ent_keep {H H' : Hp} (k : TupKeep H H') {kvs : List (Key × V)} {sp : List (Str × Nat × Nat)} (h : Each (Ent H) kvs sp) : Each (Ent H') kvs sp :=
  Each.mono (fun _ _ ⟨e, t, e2, ht⟩ => ⟨e, t, e2, k _ _ ht⟩) h
theorem SpotsAt.keep {H H' : Hp} {d : Addr} {sp : List (Str × Nat × Nat)} (h : SpotsAt H d sp) (k : Keep H H') : SpotsAt H' d sp := by
  obtain ⟨kvs, h1, h2⟩ := h
  exact ⟨kvs, k _ _ (fun ys e => by cases e) h1, ent_keep k.tk h2⟩
theorem ent_none {H : Hp} {z : Str} : ∀ {kvs : List (Key × V)} {sp : List (Str × Nat × Nat)}, Each (Ent H) kvs sp → z ∉ sp.map (·.1) → valV kvs (Sum.inr z : Key) = none
  | _, _, .nil, _ => rfl
  | _, _, .cons (a := kv) (b := s) r t, h => by
    rw [List.map_cons, List.mem_cons, not_or] at h
    rw [valV_neg (fun e => h.1 (Sum.inr.inj (e.symm.trans r.1)))]
    exact ent_none t h.2
theorem ent_some {H : Hp} {z : Str} {r c : Nat} : ∀ {kvs : List (Key × V)} {sp : List (Str × Nat × Nat)}, Each (Ent H) kvs sp → (sp.map (·.1)).Nodup → (z, r, c) ∈ sp → ∃ t, valV kvs (Sum.inr z : Key) = some (.ref t) ∧ H t = some (.tup [.int r, .int c])
  | _, _, .nil, _, h => by cases h
  | _, _, .cons (a := kv) (b := s) e t, nd, h => by
    obtain ⟨n1, n2⟩ := List.nodup_cons.mp nd
    rcases List.mem_cons.mp h with h | h
    · subst h
      obtain ⟨e1, u, e2, hu⟩ := e
      exact ⟨u, by rw [valV_pos e1, e2], hu⟩
    · have ne : ¬ s.1 = z := fun q => n1 (List.mem_map.mpr ⟨_, h, q.symm⟩)
      obtain ⟨u, e2, hu⟩ := ent_some t n2 h
      exact ⟨u, by rw [valV_neg (fun q => ne (Sum.inr.inj (e.1.symm.trans q)))]; exact e2, hu⟩
theorem ent_keys {H : Hp} : ∀ {kvs : List (Key × V)} {sp : List (Str × Nat × Nat)}, Each (Ent H) kvs sp → kvs.map (fun kv => kV kv.1) = (sp.map (·.1)).map V.str
  | _, _, .nil => rfl
  | _, _, .cons e t => by
    rw [List.map_cons, List.map_cons, List.map_cons, ent_keys t, e.1]
    rfl
section
variable {P : Program} {w : World} {K : PySem.W.Frag} {mg : Str → Option Value} {base : Heap} {f : Addr} {fd : FuncData}
/-! ### wrong_spot of a good grid -/
def spWrong : Sp := fun vs H Q _ => ∃ (L : Addr) (g : Grid) (wd : Nat), vs = [.ref L] ∧ GridAt H L g ∧ Good g wd ∧ ∀ (H' : Hp), Same H H' → Q .non H'
abbrev nWrong : List Str := ["rows", "names", "at", "row", "column", "part"]
theorem scWrong : FnScope nWrong ["rows"] (defScope sWrong) := ⟨rfl, rfl, rfl, by decide +kernel, rfl, by decide +kernel, by decide +kernel⟩
theorem take_snoc {α : Type} {l : List α} {i : Nat} {x : α} (h : l[i]? = some x) : l.take (i + 1) = l.take i ++ [x] := by
  rw [List.take_add_one, h]
  rfl
theorem len_take {α : Type} {l : List α} {i : Nat} {x : α} (h : l[i]? = some x) : (l.take i).length = i := by
  have := (List.getElem?_eq_some_iff.mp h).1
  rw [List.length_take]
  omega
/-- a name isn't among those ahead of it -/
theorem ahead_new {g : Grid} {wd : Nat} (gd : Good g wd) {i j : Nat} {row : Row} {z : Str} (hrow : g[i]? = some row) (ho : row[j]? = some (some z)) : z ∉ (spG 0 (g.take i) ++ spR i 0 (row.take j)).map (·.1) := by
  have hcz : cellAt g i j = some z := cellAt_of hrow ho
  intro hm
  obtain ⟨⟨y, r', c'⟩, hm2, rfl⟩ := List.mem_map.mp hm
  have hlt : (r', c') = (i, j) := by
    have hc2 : cellAt g r' c' = some y := by
      rcases List.mem_append.mp hm2 with h | h
      · obtain ⟨k, row2, e, h1, h2⟩ := (spG_mem _ 0).mp h
        have : r' = k := by omega
        subst this
        rw [List.getElem?_take] at h1
        split at h1
        · exact cellAt_of h1 h2
        · cases h1
      · obtain ⟨e, k, e2, h1⟩ := (spR_mem i _ 0).mp h
        have : c' = k := by omega
        subst this e
        rw [List.getElem?_take] at h1
        split at h1
        · exact cellAt_of hrow h1
        · cases h1
    obtain ⟨h1, h2⟩ := cell_inj gd.nd hc2 hcz
    rw [h1, h2]
  cases hlt
  rcases List.mem_append.mp hm2 with h | h
  · obtain ⟨k, row2, e, h1, h2⟩ := (spG_mem _ 0).mp h
    rw [List.getElem?_take] at h1
    split at h1
    · omega
    · cases h1
  · obtain ⟨e, k, e2, h1⟩ := (spR_mem i _ 0).mp h
    rw [List.getElem?_take] at h1
    split at h1
    · omega
    · cases h1
theorem ahead_len {g : Grid} {wd : Nat} (gd : Good g wd) {i j : Nat} {row : Row} (hrow : g[i]? = some row) : ((spG 0 (g.take i) ++ spR i 0 (row.take j)).map (·.1)).length ≤ 42 := by
  rw [List.map_append, spG_fst, spR_fst, List.length_append]
  have a1 := len_names (g := g.take i) (wd := wd) fun r hr => gd.rows r (List.mem_of_mem_take hr)
  have a2 : (g.take i).length ≤ 6 := by rw [List.length_take]; have := gd.h6; omega
  have a3 : (g.take i).length * wd ≤ 6 * 6 := Nat.mul_le_mul a2 gd.w6
  have a4 : (rnames (row.take j)).length ≤ (row.take j).length := List.length_filterMap_le id _
  have a5 : (row.take j).length ≤ row.length := List.length_take_le' _ _
  have a6 := gd.rows row (List.mem_of_getElem? hrow)
  have a7 := gd.w6
  omega
theorem ahead_snoc {g : Grid} {i j : Nat} {row : Row} {o : Option Str} (ho : row[j]? = some o) : spG 0 (g.take i) ++ spR i 0 (row.take (j + 1)) = spG 0 (g.take i) ++ spR i 0 (row.take j) ++ (o.toList.map fun z => (z, i, j)) := by
  rw [take_snoc ho, spR_snoc, len_take ho, Nat.zero_add, List.append_assoc]
theorem ok_wrong (F : Fun K "wrong_spot" "wrong_spot" sWrong f fd) (B : Bi mg) (hI : Has P w K mg base "is_word" 1 ["thing"] spIsWord) : FnOk P w K mg base CX0 2 f fd ["rows"] spWrong := by
  refine F.ok scWrong (fun vs H Q E h => ?_) (fun cdv A outer s H vs Q E hr h => ?_)
  · obtain ⟨L, g, wd, rfl, _⟩ := h
    rfl
  · obtain ⟨L, g, wd, rfl, hG, gd, q⟩ := h
    refine ⟨_, pss_cons (ps_set (i := 1) scWrong.nd rfl (.inl rfl) (pe_lst pa_nil))
      (pss_cons (ps_for PassesOwn.never rfl (pi_enumT (by rfl) B.enum (pa_cons (pv 0) pa_nil)) (pg_tup rfl (pgs_cons (pg_name (i := 2) scWrong.nd rfl (.inl rfl)) (pgs_cons (pg_name (i := 3) scWrong.nd rfl (.inl rfl)) pgs_nil)))
        (pss_one (ps_for PassesOwn.never rfl (pi_enumT (by rfl) B.enum (pa_cons (pv 3) pa_nil)) (pg_tup rfl (pgs_cons (pg_name (i := 4) scWrong.nd rfl (.inl rfl)) (pgs_cons (pg_name (i := 5) scWrong.nd rfl (.inl rfl)) pgs_nil)))
          (pss_cons (ps_if (pt_cmp (pc_isN (pv 5))) (pss_one ps_continue) pss_nil)
          (pss_cons (ps_if (PW.pt (pw_or (pt_not (pt_val (pe_h hI hr (pa_cons (pv 5) pa_nil)))) (pw_or1 (pt_cmpR op_in_seq (pv 5) (pv 1) (by rfl))))) (pss_one ps_never) pss_nil)
          (pss_one (ps_expr (pe_bm PySem.F.plainAttrs_list PySem.F.slot_list_append PySem.F.type_list_append mt_append (pv 1) (pa_cons (pv 5) pa_nil)))))))))
      (pss_one (ps_ret pe_non))), ?_⟩
    refine ⟨lz, fun d hd => ?_⟩
    obtain ⟨as, hL, hR⟩ := id hG
    have s0 : Same H (upd H d (.lst [])) := same_new hd
    refine ⟨_, rfl, L, _, rfl, .inl (.inl (s0 _ _ hL)), for_it (walk_enumT (K := K) (a := L) (xs := as.map V.ref)) (fun i σ H' => (∃ y2 y3 y4 y5, σ = [some (.ref L), some (.ref d), y2, y3, y4, y5]) ∧ Same H H' ∧ H' d = some (.lst (((spG 0 (g.take i)).map (·.1)).map V.str)))
      ⟨⟨_, _, _, _, rfl⟩, s0, upd_same⟩ (fun i σ H' _ h => .inl (.inl (h.2.1 _ _ hL))) ?_ ?_⟩
    · rintro i x σ H1 H2 hi ⟨⟨y2, y3, y4, y5, rfl⟩, s1, hd1⟩ ⟨T, x1, x2, rfl, hT, rfl, ex1, ex2⟩
      cases ex1
      have ex2 : (as.map V.ref)[i]? = some x2 := ex2
      rw [List.getElem?_map] at ex2
      obtain ⟨p, hp, rfl⟩ := Option.map_eq_some_iff.mp ex2
      obtain ⟨row, hrow, hH⟩ := hR.get hp
      have s2 : Same H1 (upd H1 T (.tup [.int i, .ref p])) := same_new hT
      have hp2 := s2 _ _ (s1 _ _ hH)
      refine ⟨T, _, rfl, .inl (.inl upd_same), rfl, _, _, rfl, _, _, rfl, rfl, ?_⟩
      refine ⟨_, rfl, p, _, rfl, .inl (.inl hp2), for_it (walk_enumT (K := K) (a := p) (xs := row.map oV)) (fun j σ H' => (∃ y4 y5, σ = [some (.ref L), some (.ref d), some (.int i), some (.ref p), y4, y5]) ∧ Same H H' ∧ H' d = some (.lst (((spG 0 (g.take i) ++ spR i 0 (row.take j)).map (·.1)).map V.str)))
        ⟨⟨_, _, rfl⟩, s1.trans s2, by simpa [spR] using s2 _ _ hd1⟩ (fun j σ H' _ h => .inl (.inl (h.2.1 _ _ hH))) ?_ ?_⟩
      · rintro j x σ H3 H4 hj ⟨⟨z4, z5, rfl⟩, s3, hd3⟩ ⟨T2, x1, x2, rfl, hT2, rfl, ex1, ex2⟩
        cases ex1
        have ex2 : (row.map oV)[j]? = some x2 := ex2
        rw [List.getElem?_map] at ex2
        obtain ⟨o, ho, rfl⟩ := Option.map_eq_some_iff.mp ex2
        have s4 : Same H3 (upd H3 T2 (.tup [.int j, oV o])) := same_new hT2
        refine ⟨T2, _, rfl, .inl (.inl upd_same), rfl, _, _, rfl, _, _, rfl, rfl, ?_⟩
        cases o with
        | none =>
          refine ⟨_, rfl, _, rfl, iteT ?_⟩
          refine ⟨⟨_, _, rfl⟩, s3.trans s4, ?_⟩
          rw [ahead_snoc ho]
          simpa using s4 _ _ hd3
        | some z =>
          have hzw : IsWd z := gd.wd z (mem_names.mpr ⟨i, j, cellAt_of hrow ho⟩)
          refine ⟨_, rfl, _, rfl, iteF ?_⟩
          refine ⟨_, rfl, z, rfl, by have := hzw.len; omega, fun H5 s5 => ⟨_, rfl, ?_⟩⟩
          rw [show wdB z = true from hzw]
          have hd5 := s5 _ _ (s4 _ _ hd3)
          have hin : inV (.str z) (((spG 0 (g.take i) ++ spR i 0 (row.take j)).map (·.1)).map V.str) = false := by
            rw [inV_strs]
            exact decide_eq_false (ahead_new gd hrow ho)
          refine iteF ⟨_, rfl, _, rfl, d, _, rfl, .inl (.inl (.inl hd5)), rfl, flat_strs _, false, ?_, ?_⟩
          · exact congrArg V.bl hin
          refine iteF ⟨_, rfl, .inl ⟨rfl, _, .inl (.inl hd5)⟩, _, rfl, d, _, _, rfl, rfl, hd5, ?_, ?_⟩
          · rw [List.length_map]
            exact small1000 (by have := ahead_len gd hrow (j := j); omega)
          · refine ⟨⟨_, _, rfl⟩, same_mut ((s3.trans s4).trans s5) hd, ?_⟩
            rw [upd_same, ahead_snoc ho]
            simp [oV]
      · rintro σ H3 ⟨⟨z4, z5, rfl⟩, s3, hd3⟩
        refine ⟨⟨_, _, _, _, rfl⟩, s3, ?_⟩
        rw [List.length_map, List.take_length] at hd3
        rw [take_snoc hrow, spG_snoc, len_take hrow, Nat.zero_add]
        exact hd3
    · rintro σ H3 ⟨⟨y2, y3, y4, y5, rfl⟩, s3, hd3⟩
      exact q H3 s3
/-! ### spots_in of a good grid -/
def spSpotsIn : Sp := fun vs H Q _ => ∃ (L : Addr) (g : Grid) (wd : Nat), vs = [.ref L] ∧ GridAt H L g ∧ Good g wd ∧
  ∀ (d : Addr) (H' : Hp), H d = none → Same H H' → SpotsAt H' d (spG 0 g) → Q (.ref d) H'
abbrev nSpotsIn : List Str := ["rows", "at", "row", "column", "part"]
theorem scSpotsIn : FnScope nSpotsIn ["rows"] (defScope sSpotsIn) := ⟨rfl, rfl, rfl, by decide +kernel, rfl, by decide +kernel, by decide +kernel⟩
theorem ok_spotsin (F : Fun K "spots_in" "spots_in" sSpotsIn f fd) (B : Bi mg) : FnOk P w K mg base CX0 1 f fd ["rows"] spSpotsIn := by
  refine F.ok scSpotsIn (fun vs H Q E h => ?_) (fun cdv A outer s H vs Q E hr h => ?_)
  · obtain ⟨L, g, wd, rfl, _⟩ := h
    rfl
  · obtain ⟨L, g, wd, rfl, hG, gd, q⟩ := h
    refine ⟨_, pss_one (ps_ret (pe_dc2 (own := [("at", 1), ("row", 2), ("column", 3), ("part", 4)]) (vs1 := [3, 4]) (ga := gTup K 2 (gCons (gName 1) (gCons (gName 2) gNil))) (tta := tYes) (wb := iEnumT K (tCons (tVar 2) tNil)) (gb := gTup K 2 (gCons (gName 3) (gCons (gName 4) gNil))) (ttb := tB (tNotN (tVar 4))) (tk := tVar 4) (tv := tTup (tCons (tVar 1) (tCons (tVar 3) tNil))) rfl scSpotsIn.nd (pi_enumT (by rfl) B.enum (pa_cons (pv 0) pa_nil)) (blkOk_by (N := nSpotsIn) (sc := defScope sSpotsIn) (by decide +kernel)) (by decide)
      (fun _ _ _ _ _ => pg_tup rfl (pgs_cons (pg_name (i := 1) scSpotsIn.nd rfl (.inl rfl)) (pgs_cons (pg_name (i := 2) scSpotsIn.nd rfl (.inl rfl)) pgs_nil))) (fun _ _ _ _ _ => pts_nil)
      (fun _ _ _ _ _ => pi_enumT (by rfl) B.enum (pa_cons (pv 2) pa_nil)) (fun _ _ _ _ _ => pg_tup rfl (pgs_cons (pg_name (i := 3) scSpotsIn.nd rfl (.inl rfl)) (pgs_cons (pg_name (i := 4) scSpotsIn.nd rfl (.inl rfl)) pgs_nil)))
      (fun _ _ _ _ _ => pts_one (pt_cmp (pc_notN (pv 4)))) (fun _ _ _ _ _ => pv 4) (fun _ _ _ _ _ => pe_tup (pa_cons (pv 1) (pa_cons (pv 3) pa_nil))))), ?_⟩
    obtain ⟨as, hL, hR⟩ := id hG
    refine ⟨_, rfl, L, _, rfl, .inl (.inl hL), fun d hd => dc2_it (walk_enumT (K := K) (a := L) (xs := as.map V.ref)) (fun i H' => Same H H' ∧ SpotsAt H' d (spG 0 (g.take i))) ⟨same_new hd, [], upd_same, .nil⟩ (fun i H' _ h => .inl (.inl (h.1 _ _ hL))) ?_ ?_⟩
    · rintro i x H1 H2 hi ⟨s1, kvs1, hd1, e1⟩ ⟨T, x1, x2, rfl, hT, rfl, ex1, ex2⟩
      cases ex1
      have ex2 : (as.map V.ref)[i]? = some x2 := ex2
      rw [List.getElem?_map] at ex2
      obtain ⟨p, hp, rfl⟩ := Option.map_eq_some_iff.mp ex2
      obtain ⟨row, hrow, hH⟩ := hR.get hp
      have s2 : Same H1 (upd H1 T (.tup [.int i, .ref p])) := same_new hT
      have hp2 := s2 _ _ (s1 _ _ hH)
      refine ⟨T, _, rfl, .inl (.inl upd_same), rfl, _, _, rfl, _, _, rfl, rfl, rfl, yes_it ?_⟩
      refine ⟨_, rfl, p, _, rfl, .inl (.inl hp2), inn_it (walk_enumT (K := K) (a := p) (xs := row.map oV)) (fun j H' => Same H H' ∧ SpotsAt H' d (spG 0 (g.take i) ++ spR i 0 (row.take j)))
        ⟨s1.trans s2, kvs1, s2 _ _ hd1, by simpa [spR] using ent_keep (tk_same s2) e1⟩ (fun j H' _ h => .inl (.inl (h.1 _ _ hH))) ?_ ?_⟩
      · rintro j x H3 H4 hj ⟨s3, kvs3, hd3, e3⟩ ⟨T2, x1, x2, rfl, hT2, rfl, ex1, ex2⟩
        cases ex1
        have ex2 : (row.map oV)[j]? = some x2 := ex2
        rw [List.getElem?_map] at ex2
        obtain ⟨o, ho, rfl⟩ := Option.map_eq_some_iff.mp ex2
        have s4 : Same H3 (upd H3 T2 (.tup [.int j, oV o])) := same_new hT2
        refine ⟨T2, _, rfl, .inl (.inl upd_same), rfl, _, _, rfl, _, _, rfl, rfl, rfl, ?_⟩
        cases o with
        | none =>
          refine ⟨_, rfl, _, rfl, iteF ?_⟩
          refine ⟨s3.trans s4, kvs3, s4 _ _ hd3, ?_⟩
          rw [ahead_snoc ho]
          simpa using ent_keep (tk_same s4) e3
        | some z =>
          refine ⟨_, rfl, _, rfl, iteT ?_⟩
          have hd5 := s4 _ _ hd3
          have e5 := ent_keep (tk_same s4) e3
          have hv : valV kvs3 (Sum.inr z : Key) = none := ent_none e5 (ahead_new gd hrow ho)
          refine ⟨_, rfl, _, rfl, _, rfl, lz, fun T6 hT6 => ?_⟩
          have hd6 := (same_new (o := .tup [.int i, .int j]) hT6) _ _ hd5
          refine ⟨kvs3, Sum.inr z, rfl, hd6, ?_, same_mut ((s3.trans s4).trans (same_new hT6)) hd, kvs3 ++ [(Sum.inr z, .ref T6)], ?_, ?_⟩
          · have h1 := e5.length
            have h2 := ahead_len gd hrow (j := j)
            rw [List.length_map] at h2
            exact small1000 (by omega)
          · rw [putK_new _ hv, upd_same]
          · rw [ahead_snoc ho]
            refine Each.append (ent_keep (tk_updD hd6) (ent_keep (tk_new hT6) e5)) (.cons ⟨rfl, T6, rfl, ?_⟩ .nil)
            exact (tk_updD hd6) _ _ upd_same
      · rintro H3 ⟨s3, kvs3, hd3, e3⟩
        refine ⟨s3, kvs3, hd3, ?_⟩
        rw [List.length_map, List.take_length] at e3
        rw [take_snoc hrow, spG_snoc, len_take hrow, Nat.zero_add]
        exact e3
    · rintro H3 ⟨s3, kvs3, hd3, e3⟩
      have hlen : (as.map V.ref).length = g.length := by rw [List.length_map, hR.length]
      rw [hlen, List.take_length] at e3
      exact q d H3 hd s3 ⟨kvs3, hd3, e3⟩
/-! ### checked_spots of a good grid -/
def spSpots : Sp := fun vs H Q _ => ∃ (L : Addr) (g : Grid) (wd : Nat), vs = [.ref L] ∧ GridAt H L g ∧ Good g wd ∧
  ∀ (d : Addr) (H' : Hp), H d = none → Same H H' → SpotsAt H' d (spG 0 g) → Q (.ref d) H'
abbrev nSpots : List Str := ["rows", "wrong", "spots"]
theorem scSpots : FnScope nSpots ["rows"] (defScope sSpots) := ⟨rfl, rfl, rfl, by decide +kernel, rfl, by decide +kernel, by decide +kernel⟩
theorem ok_spots (F : Fun K "checked_spots" "checked_spots" sSpots f fd) (hA : Has P w K mg base "are_rows" 1 ["thing"] spAreRows) (hW : Has P w K mg base "wrong_spot" 2 ["rows"] spWrong) (hS : Has P w K mg base "spots_in" 1 ["rows"] spSpotsIn) :
    FnOk P w K mg base CX0 3 f fd ["rows"] spSpots := by
  refine F.ok scSpots (fun vs H Q E h => ?_) (fun cdv A outer s H vs Q E hr h => ?_)
  · obtain ⟨L, g, wd, rfl, _⟩ := h
    rfl
  · obtain ⟨L, g, wd, rfl, hG, gd, q⟩ := h
    refine ⟨_, pss_cons (ps_if (pt_not (pt_val (pe_h hA hr (pa_cons (pv 0) pa_nil)))) (pss_one ps_never) pss_nil)
      (pss_cons (ps_set (i := 1) scSpots.nd rfl (.inl rfl) (pe_h hW hr (pa_cons (pv 0) pa_nil)))
      (pss_cons (ps_if (pt_cmp (pc_notN (pv 1))) (pss_one ps_never) pss_nil)
      (pss_cons (ps_set (i := 2) scSpots.nd rfl (.inl rfl) (pe_h hS hr (pa_cons (pv 0) pa_nil)))
      (pss_cons (ps_if (pt_not (pt_truth (pv 2) (by intro _; rfl))) (pss_one ps_never) pss_nil)
      (pss_one (ps_ret (pv 2))))))), ?_⟩
    refine ⟨_, rfl, L, g, wd, rfl, hG, gd, true, rfl, iteF ?_⟩
    refine ⟨_, rfl, L, g, wd, rfl, hG, gd, fun H1 s1 => ⟨_, rfl, _, rfl, iteF ?_⟩⟩
    have hG1 : GridAt H1 L g := hG.keep (tk_same s1)
    refine ⟨_, rfl, L, g, wd, rfl, hG1, gd, fun d H2 hd s2 ⟨kvs, hk, he⟩ => ?_⟩
    have hne : kvs.isEmpty = false := by
      cases kvs with
      | nil =>
        have h1 := he.length
        have h2 : ((spG 0 g).map (·.1)).length = (names g).length := by rw [spG_fst]
        rw [List.length_map] at h2
        have h3 : names g = [] := List.eq_nil_of_length_eq_zero (by rw [← h2, ← h1]; rfl)
        exact absurd h3 gd.ne
      | cons a r => rfl
    refine ⟨_, rfl, _, .inr (.inr ⟨kvs, hk, rfl⟩), ?_⟩
    rw [hne]
    refine iteF ⟨_, rfl, q d H2 (s1.free hd) (s1.trans s2) ⟨kvs, hk, he⟩⟩
end
end Wl



namespace Wl
open PySem PySem.Spec PyProof.Rows L2
section
variable {J : It} {ys : List V} {G : Hp → Prop} {slot slot1 : Nat} {wi1 : TI} {tt1 : TT} {te : TE} {vs vs1 : List Nat} {σ : L2.St} {H1 : Hp} {D : Addr} {Qd : Hp → Prop}
theorem flat_take_snoc {α β : Type} {f : α → List β} {ys : List α} {i : Nat} {x : α} (h : ys[i]? = some x) : (ys.take (i + 1)).flatMap f = (ys.take i).flatMap f ++ f x := by
  rw [List.take_add_one, h, List.flatMap_append]
  simp
/-- [e for x in ys for y in inn x if t]: the heap only growing -/
theorem lc2_rel (w : L2.Walk J ys.length G (YAt ys)) (hD : H1 D = none) (inn : V → List V) (keep : V → V → Bool) (R : V → V → V → Hp → Prop) (N : Nat)
    (hG : ∀ H, Same H1 H → G H)
    (hw : ∀ x, wipe ((wipe σ vs).set slot (some x)) vs = wipe σ vs)
    (hw1 : ∀ x y, wipe ((wipe ((wipe σ vs).set slot (some x)) vs1).set slot1 (some y)) vs1 = wipe ((wipe σ vs).set slot (some x)) vs1)
    (hi : ∀ (x : V) (H : Hp) (acc : List V), x ∈ ys → Same H1 H → H D = some (.lst acc) → ∀ Rr : It → Hp → Prop,
      (∀ J1 H4 G1, Same H H4 → L2.Walk J1 (inn x).length G1 (YAt (inn x)) → (∀ H', SameX D H4 H' → G1 H') → Rr J1 H4) → wi1 ((wipe σ vs).set slot (some x)) H Rr)
    (ht : ∀ (x y : V) (H : Hp), x ∈ ys → y ∈ inn x → Same H1 H → ∀ Q : Bool → Hp → Prop, Q (keep x y) H → tt1 ((wipe ((wipe σ vs).set slot (some x)) vs1).set slot1 (some y)) H Q)
    (he : ∀ (x y : V) (H : Hp), x ∈ ys → y ∈ inn x → keep x y = true → Same H1 H → ∀ Q : VK, (∀ z H', Same H H' → R x y z H' → Q z H') → te ((wipe ((wipe σ vs).set slot (some x)) vs1).set slot1 (some y)) H Q)
    (hR : ∀ x y z H H' acc, H D = some (.lst acc) → SameX D H H' → R x y z H → R x y z H')
    (hl : ∀ x ∈ ys, (inn x).length ≤ N) (hn : ys.length * N < sizeLine)
    (hd : ∀ zs H, Same H1 H → H D = some (.lst zs) → Each (fun (xy : V × V) z => R xy.1 xy.2 z H) (ys.flatMap fun x => ((inn x).filter (keep x)).map fun y => (x, y)) zs → Qd H) :
    ∃ W : Nat → Nat → Hp → Prop, (∃ m, W 0 m (upd H1 D (.lst []))) ∧ ∀ i m H, W i m H →
      (J.stop i H ∧ Qd H) ∨ (J.go i H ∧ ∃ Nx : Hp → Prop, (∀ H', Nx H' → ∃ m', m' < m ∧ W (i + 1) m' H') ∧ ∀ x H', J.yld i H x H' → gName slot x (wipe σ vs) H' fun σ2 H2 => wipe σ2 vs = wipe σ vs ∧ tYes σ2 H2 fun b H3 =>
        if b = true then wi1 σ2 H3 fun J1 H4 => ∃ W1 : Nat → Nat → Hp → Prop, (∃ m, W1 0 m H4) ∧ ∀ j k H, W1 j k H →
          (J1.stop j H ∧ Nx H) ∨ (J1.go j H ∧ ∃ Nx1 : Hp → Prop, (∀ H', Nx1 H' → ∃ k', k' < k ∧ W1 (j + 1) k' H') ∧ ∀ x H', J1.yld j H x H' → gName slot1 x (wipe σ2 vs1) H' fun σ3 H5 => wipe σ3 vs1 = wipe σ2 vs1 ∧ tt1 σ3 H5 fun b H6 =>
            if b = true then te σ3 H6 fun y H7 => ∃ acc, H7 D = some (.lst acc) ∧ acc.length < sizeLine ∧ Nx1 (upd H7 D (.lst (acc ++ [y]))) else Nx1 H6)
        else Nx H3) := by
  have cnt : ∀ (l : List V), (∀ x ∈ l, (inn x).length ≤ N) → (l.flatMap fun x => ((inn x).filter (keep x)).map fun y => (x, y)).length ≤ l.length * N := by
    intro l
    induction l with
    | nil => intro _; simp
    | cons x r ih =>
      intro h
      rw [List.flatMap_cons, List.length_append, List.length_map, List.length_cons, Nat.succ_mul]
      have h1 : ((inn x).filter (keep x)).length ≤ (inn x).length := List.length_filter_le _ _
      have h2 := h x List.mem_cons_self
      have h3 := ih fun y hy => h y (List.mem_cons_of_mem _ hy)
      omega
  refine ⟨fun i m H => m = ys.length - i ∧ i ≤ ys.length ∧ ∃ zs, Same H1 H ∧ H D = some (.lst zs) ∧ Each (fun (xy : V × V) z => R xy.1 xy.2 z H) ((ys.take i).flatMap fun x => ((inn x).filter (keep x)).map fun y => (x, y)) zs,
    ⟨ys.length, by simp, Nat.zero_le _, [], same_new hD, upd_same, by simpa using Each.nil⟩, ?_⟩
  rintro i m H ⟨rfl, hi0, zs, s, hz, ez⟩
  by_cases hlt : i < ys.length
  · refine .inr ⟨w.goes i H hlt (hG H s), fun H' => ∃ zs, Same H1 H' ∧ H' D = some (.lst zs) ∧ Each (fun (xy : V × V) z => R xy.1 xy.2 z H') ((ys.take (i + 1)).flatMap fun x => ((inn x).filter (keep x)).map fun y => (x, y)) zs,
      fun H' h => ⟨ys.length - (i + 1), by omega, rfl, hlt, h⟩, fun x H' y => ?_⟩
    obtain ⟨rfl, hx⟩ := w.yields i H x H' hlt (hG H s) y
    have hm : x ∈ ys := List.mem_of_getElem? hx
    have hf := flat_take_snoc (f := fun x => ((inn x).filter (keep x)).map fun y => (x, y)) hx
    refine ⟨hw x, yes_it ?_⟩
    refine hi x _ zs hm s hz _ fun J1 H4 G1 s4 w1 hG1 => ?_
    have hz4 := s4 _ _ hz
    refine ⟨fun j k H => k = (inn x).length - j ∧ j ≤ (inn x).length ∧ ∃ ws, Same H1 H ∧ SameX D H4 H ∧ H D = some (.lst ws) ∧ Each (fun (xy : V × V) z => R xy.1 xy.2 z H) (((ys.take i).flatMap fun x => ((inn x).filter (keep x)).map fun y => (x, y)) ++ (((inn x).take j).filter (keep x)).map fun y => (x, y)) ws,
      ⟨(inn x).length, by simp, Nat.zero_le _, zs, s.trans s4, SameX.refl _ _, hz4, ?_⟩, ?_⟩
    · simpa using ez.mono fun a b r => hR _ _ _ _ _ _ hz (sx s4) r
    · rintro j k H5 ⟨rfl, hj0, ws, s5, x5, hz5, ez5⟩
      by_cases hjt : j < (inn x).length
      · refine .inr ⟨w1.goes j H5 hjt (hG1 H5 x5), fun H' => ∃ ws, Same H1 H' ∧ SameX D H4 H' ∧ H' D = some (.lst ws) ∧ Each (fun (xy : V × V) z => R xy.1 xy.2 z H') (((ys.take i).flatMap fun x => ((inn x).filter (keep x)).map fun y => (x, y)) ++ (((inn x).take (j + 1)).filter (keep x)).map fun y => (x, y)) ws,
          fun H' h => ⟨(inn x).length - (j + 1), by omega, rfl, hjt, h⟩, fun y H' yy => ?_⟩
        obtain ⟨rfl, hy⟩ := w1.yields j H5 y H' hjt (hG1 H5 x5) yy
        have hym : y ∈ inn x := List.mem_of_getElem? hy
        have hf2 := filter_take_snoc (p := keep x) hy
        refine ⟨hw1 x y, ht x y _ hm hym s5 _ ?_⟩
        refine ite_b (fun e => ?_) (fun e => ?_)
        · refine he x y _ hm hym e s5 _ fun z H6 s6 r6 => ⟨ws, s6 _ _ hz5, ?_, ws ++ [z], same_mut (s5.trans s6) hD, ?_, upd_same, ?_⟩
          · have h1 := ez5.length
            have h2 := cnt (ys.take i) fun x hx => hl x (List.mem_of_mem_take hx)
            have h3 : (((inn x).take j).filter (keep x)).length ≤ N := by
              have a1 : (((inn x).take j).filter (keep x)).length ≤ ((inn x).take j).length := List.length_filter_le _ _
              have a2 : ((inn x).take j).length ≤ (inn x).length := List.length_take_le' _ _
              have a3 := hl x hm
              omega
            rw [List.length_append, List.length_map] at h1
            have h4 : (ys.take i).length * N + N ≤ ys.length * N := by
              rw [← Nat.succ_mul]
              refine Nat.mul_le_mul_right N ?_
              rw [List.length_take]
              omega
            omega
          · exact (x5.trans (sx s6)).trans sameX_upd
          · rw [hf2, if_pos e, List.map_append, ← List.append_assoc]
            refine Each.append (ez5.mono fun a b r => ?_) (.cons ?_ .nil)
            · exact hR _ _ _ _ _ _ hz5 (fun b o n h => by rw [upd_ne n]; exact s6 _ _ h) r
            · exact hR _ _ _ _ _ _ (s6 _ _ hz5) sameX_upd r6
        · refine ⟨ws, s5, x5, hz5, ?_⟩
          rw [hf2, if_neg (by rw [e]; decide), List.append_nil]
          exact ez5
      · have e : j = (inn x).length := by omega
        subst e
        refine .inl ⟨w1.stops H5 (hG1 H5 x5), ws, s5, hz5, ?_⟩
        rw [List.take_length] at ez5
        rw [hf]
        exact ez5
  · have e : i = ys.length := by omega
    subst e
    rw [List.take_length] at ez
    exact .inl ⟨w.stops H (hG H s), hd zs H s hz ez⟩
end
end Wl

namespace Wl
open PySem PySem.Spec PyProof.Rows L2
abbrev sCls : Stmt := topS 43
abbrev sInit : Stmt := inClass sCls 0
abbrev sCheck : Stmt := inClass sCls 1
abbrev sLNames : Stmt := inClass sCls 2
abbrev sSpot : Stmt := inClass sCls 3
abbrev sNeigh : Stmt := inClass sCls 4
abbrev sBord : Stmt := inClass sCls 5
structure Txt (K : PySem.W.Frag) (mg : Str → Option Value) (C : Addr) : Prop where
  cl : Cls K C
  nS : NoAttr K C "spots"
  nR : NoAttr K C "rows"
  mgC : mg "Land" = some (.ref C)
theorem srne : ¬ (("spots" : Str) = "rows") := by decide +kernel
def lf (d L : Addr) : List (Str × V) := putF "rows" (.ref L) (putF "spots" (.ref d) [])
theorem lf_spots (d L : Addr) : (lf d L).lookup ("spots" : Str) = some (.ref d) := by
  unfold lf
  rw [lookup_putF, if_neg srne, lookup_putF, if_pos rfl]
theorem lf_rows (d L : Addr) : (lf d L).lookup ("rows" : Str) = some (.ref L) := by
  unfold lf
  rw [lookup_putF, if_pos rfl]
theorem lf_no (d L : Addr) {m : Str} (h1 : ¬ m = "rows") (h2 : ¬ m = "spots") : (lf d L).lookup m = none := by
  unfold lf
  rw [lookup_putF, if_neg h1, lookup_putF, if_neg h2]
  rfl
def LandAt (C : Addr) (H : Hp) (p L : Addr) (g : Grid) : Prop := ∃ d dx, H p = some (.ins C dx (lf d L)) ∧ SpotsAt H d (spG 0 g) ∧ GridAt H L g
theorem LandAt.keep {C p L : Addr} {H H' : Hp} {g : Grid} (h : LandAt C H p L g) (k : Keep H H') : LandAt C H' p L g := by
  obtain ⟨d, dx, h1, h2, h3⟩ := h
  exact ⟨d, dx, k _ _ (fun xs e => by cases e) h1, h2.keep k, h3.keep k.tk⟩
theorem tk_updI {a : Addr} {H : Hp} {C dx : Addr} {fs : List (Str × V)} {o : HO} (ha : H a = some (.ins C dx fs)) : TupKeep H (upd H a o) := fun p xs h => by
  rw [upd_ne (ne_of h ha (by intro z; cases z))]
  exact h
theorem spots_updI {a d : Addr} {H : Hp} {C dx : Addr} {fs : List (Str × V)} {o : HO} {sp : List (Str × Nat × Nat)} (ha : H a = some (.ins C dx fs)) (h : SpotsAt H d sp) : SpotsAt (upd H a o) d sp := by
  obtain ⟨kvs, h1, h2⟩ := h
  exact ⟨kvs, by rw [upd_ne (ne_of h1 ha (by intro z; cases z))]; exact h1, ent_keep (tk_updI ha) h2⟩
section
variable {P : Program} {w : World} {K : PySem.W.Frag} {mg : Str → Option Value} {base : Heap} {f C : Addr} {fd : FuncData}
def spInit (C : Addr) : Sp := fun vs H Q _ => ∃ (p dx L : Addr) (g : Grid) (wd : Nat), vs = [.ref p, .ref L] ∧ H p = some (.ins C dx []) ∧ GridAt H L g ∧ Good g wd ∧
  ∀ (H' : Hp), (∀ b o, b ≠ p → H b = some o → H' b = some o) → LandAt C H' p L g → Q .non H'
theorem scInit : FnScope ["self", "rows"] ["self", "rows"] (defScope sInit) := ⟨rfl, rfl, rfl, by decide +kernel, rfl, by decide +kernel, by decide +kernel⟩
theorem ok_init (F : Fun K "__init__" "Land.__init__" sInit f fd) (T : Txt K mg C) (hS : Has P w K mg base "checked_spots" 3 ["rows"] spSpots) : FnOk P w K mg base CX0 4 f fd ["self", "rows"] (spInit C) := by
  refine F.ok scInit (fun vs H Q E h => ?_) (fun cdv A outer s H vs Q E hr h => ?_)
  · obtain ⟨p, dx, L, g, wd, rfl, _⟩ := h
    rfl
  · obtain ⟨p, dx, L, g, wd, rfl, hp, hG, gd, q⟩ := h
    refine ⟨_, pss_cons (ps_fld (pv 0) (pe_h hS hr (pa_cons (pv 1) pa_nil)) rfl) (pss_one (ps_fld (pv 0) (pv 1) rfl)), ?_⟩
    refine ⟨_, rfl, L, g, wd, rfl, hG, gd, fun d H1 hd s1 sp1 => ?_⟩
    have hp1 := s1 _ _ hp
    refine ⟨_, rfl, p, C, dx, [], rfl, hp1, T.cl, T.nS, (by show 0 < 1000; decide), ?_⟩
    refine ⟨_, rfl, _, rfl, p, C, dx, _, rfl, upd_same, T.cl, T.nR, (by show 1 < 1000; decide), ?_⟩
    refine q _ (fun b o n e => ?_) ⟨d, dx, upd_same, spots_updI upd_same (spots_updI hp1 sp1), ((hG.keep (tk_same s1)).keep (tk_updI hp1)).keep (tk_updI upd_same)⟩
    rw [upd_ne n, upd_ne n]
    exact s1 _ _ e

/-! ### names -/
def spLNames (C : Addr) : Sp := fun vs H Q _ => ∃ (p L : Addr) (g : Grid) (wd : Nat), vs = [.ref p] ∧ LandAt C H p L g ∧ Good g wd ∧
  ∀ (t : Addr) (H' : Hp), H t = none → Same H H' → H' t = some (.tup ((sortS (names g)).map V.str)) → Q (.ref t) H'
theorem scLNames : FnScope ["self"] ["self"] (defScope sLNames) := ⟨rfl, rfl, rfl, by decide +kernel, rfl, by decide +kernel, by decide +kernel⟩
/-- sorted of a list of texts, as a reading -/
theorem sort_reads {H : Hp} {Q : VK} {a : Addr} {xs : List Str} (h : SqL K H a (xs.map V.str)) (q : ∀ p, H p = none → Q (.ref p) (upd H p (.lst ((sortS xs).map V.str)))) : rSortD K [.ref a] H Q := by
  refine ⟨a, xs.map sd, rfl, ?_, ?_, alike_strs xs, sortable_strs xs, ?_, fun p hp => ?_⟩
  · rw [List.map_map]
    exact h
  · intro b hb
    obtain ⟨x, _, rfl⟩ := List.mem_map.mp hb
    exact .str x
  · intro b hb
    obtain ⟨x, _, rfl⟩ := List.mem_map.mp hb
    show PyData.depth (.str x) ≤ 8
    simp [PyData.depth]
  · rw [sort_strs]
    exact q p hp
theorem ok_lnames (F : Fun K "names" "Land.names" sLNames f fd) (B : Bi mg) (T : Txt K mg C) : FnOk P w K mg base CX0 1 f fd ["self"] (spLNames C) := by
  refine F.ok scLNames (fun vs H Q E h => ?_) (fun cdv A outer s H vs Q E hr h => ?_)
  · obtain ⟨p, L, g, wd, rfl, _⟩ := h
    rfl
  · obtain ⟨p, L, g, wd, rfl, ⟨d, dx, hp, ⟨kvs, hd, he⟩, hG⟩, gd, q⟩ := h
    refine ⟨_, pss_one (ps_ret (pe_callTy call_tuple_of (by rfl) B.tuple (by decide +kernel) (pa_cons (pe_callB (cr_sortD hr.units) (by rfl) B.sorted (by decide +kernel) (pa_cons (pe_callTy (call_list_dK rfl) (by rfl) B.list (by decide +kernel) (pa_cons (pe_fld (pv 0) rfl) pa_nil)) pa_nil)) pa_nil))), ?_⟩
    refine ⟨_, rfl, p, C, dx, _, _, rfl, hp, T.cl, T.nS, lf_spots _ _, d, kvs, rfl, hd, fun a1 h1 => ?_⟩
    rw [ent_keys he, spG_fst]
    dsimp only [tNil]
    refine sort_reads (K := K) (.inl (.inl upd_same)) fun a2 h2 => ?_
    refine ⟨a2, _, rfl, .inl ⟨.inl (.inl upd_same), fun a3 h3 => ?_⟩⟩
    exact q a3 _ (Same.free ((same_new h1).trans (same_new h2)) h3) (((same_new h1).trans (same_new h2)).trans (same_new h3)) upd_same

/-! ### check_name, spot -/
def spCheck (C : Addr) : Sp := fun vs H Q _ => ∃ (p L : Addr) (g : Grid) (wd : Nat) (z : Str), vs = [.ref p, .str z] ∧ LandAt C H p L g ∧ Good g wd ∧ z ∈ names g ∧ ∀ (H' : Hp), Same H H' → Q .non H'
theorem scCheck : FnScope ["self", "name"] ["self", "name"] (defScope sCheck) := ⟨rfl, rfl, rfl, by decide +kernel, rfl, by decide +kernel, by decide +kernel⟩
theorem ok_check (F : Fun K "check_name" "Land.check_name" sCheck f fd) (T : Txt K mg C) (hI : Has P w K mg base "is_word" 1 ["thing"] spIsWord) : FnOk P w K mg base CX0 2 f fd ["self", "name"] (spCheck C) := by
  refine F.ok scCheck (fun vs H Q E h => ?_) (fun cdv A outer s H vs Q E hr h => ?_)
  · obtain ⟨p, L, g, wd, z, rfl, _⟩ := h
    rfl
  · obtain ⟨p, L, g, wd, z, rfl, hLa, gd, hz, q⟩ := h
    have hu := hu_of hr
    have hzw := gd.wd z hz
    refine ⟨_, pss_one (ps_if (PW.pt (pw_or (pt_not (pt_val (pe_h hI hr (pa_cons (pv 1) pa_nil)))) (pw_or1 (pt_cmp (pc_dnotin hu (pv 1) (pe_fld (pv 0) rfl)))))) (pss_one ps_never) pss_nil), ?_⟩
    refine ⟨_, rfl, z, rfl, by have := hzw.len; omega, fun H1 s1 => ⟨_, rfl, ?_⟩⟩
    rw [show wdB z = true from hzw]
    refine iteF ?_
    obtain ⟨d, dx, hp, ⟨kvs, hd, he⟩, hG⟩ := hLa.keep (kp_same s1)
    obtain ⟨r, c, hc⟩ := mem_names.mp hz
    obtain ⟨t, hv, ht⟩ := ent_some he (by rw [spG_fst]; exact gd.nd) (spG_cell.mpr hc)
    refine ⟨_, rfl, _, rfl, p, C, dx, _, _, rfl, hp, T.cl, T.nS, lf_spots _ _, d, _, rfl, DGet.k (k := Sum.inr z) hd, _, rfl, ?_⟩
    rw [hv]
    exact iteF (q H1 s1)
def spSpot (C : Addr) : Sp := fun vs H Q _ => ∃ (p L : Addr) (g : Grid) (wd : Nat) (z : Str) (r c : Nat), vs = [.ref p, .str z] ∧ LandAt C H p L g ∧ Good g wd ∧ cellAt g r c = some z ∧
  ∀ (t : Addr) (H' : Hp), Same H H' → H' t = some (.tup [.int r, .int c]) → Q (.ref t) H'
theorem scSpot : FnScope ["self", "name"] ["self", "name"] (defScope sSpot) := ⟨rfl, rfl, rfl, by decide +kernel, rfl, by decide +kernel, by decide +kernel⟩
theorem ok_spot (F : Fun K "spot" "Land.spot" sSpot f fd) (T : Txt K mg C) (hC : HasM P w K mg base C "check_name" 2 ["self", "name"] (spCheck C)) : FnOk P w K mg base CX0 3 f fd ["self", "name"] (spSpot C) := by
  refine F.ok scSpot (fun vs H Q E h => ?_) (fun cdv A outer s H vs Q E hr h => ?_)
  · obtain ⟨p, L, g, wd, z, r, c, rfl, _⟩ := h
    rfl
  · obtain ⟨p, L, g, wd, z, r, c, rfl, hLa, gd, hc, q⟩ := h
    have hu := hu_of hr
    refine ⟨_, pss_cons (ps_expr (pe_hm hC T.cl hr (pv 0) (pa_cons (pv 1) pa_nil))) (pss_one (ps_ret (pe_dget hu (pe_fld (pv 0) rfl) (pv 1) (fun _ _ => rfl)))), ?_⟩
    obtain ⟨d0, dx0, hp0, _⟩ := id hLa
    refine ⟨_, rfl, p, dx0, _, rfl, hp0, lf_no _ _ (by decide +kernel) (by decide +kernel), _, rfl, p, L, g, wd, z, rfl, hLa, gd, mem_names.mpr ⟨r, c, hc⟩, fun H1 s1 => ?_⟩
    obtain ⟨d, dx, hp, ⟨kvs, hd, he⟩, hG⟩ := hLa.keep (kp_same s1)
    obtain ⟨t, hv, ht⟩ := ent_some he (by rw [spG_fst]; exact gd.nd) (spG_cell.mpr hc)
    refine ⟨_, rfl, p, C, dx, _, _, rfl, hp, T.cl, T.nS, lf_spots _ _, _, rfl, d, _, rfl, ?_, q t H1 s1 ht⟩
    rw [← hv]
    exact DGet.k (k := Sum.inr z) hd
end
end Wl



namespace Wl
open PySem PySem.Spec PyProof.Rows L2
/-- at most six rows of at most six -/
structure Sized (g : Grid) (wd : Nat) : Prop where
  h6 : g.length ≤ 6
  w6 : wd ≤ 6
  rows : ∀ r ∈ g, r.length = wd
theorem Good.sized {g : Grid} {wd : Nat} (G : Good g wd) : Sized g wd := ⟨G.h6, G.w6, G.rows⟩
section
variable {P : Program} {w : World} {K : PySem.W.Frag} {mg : Str → Option Value} {base : Heap} {f C : Addr} {fd : FuncData}
/-! ### the law's own names -/
def spNames : Sp := fun vs H Q _ => ∃ (L : Addr) (g : Grid) (wd : Nat), vs = [.ref L] ∧ GridAt H L g ∧ Sized g wd ∧
  ∀ (t : Addr) (H' : Hp), H t = none → Same H H' → H' t = some (.lst ((sortS (names g)).map V.str)) → Q (.ref t) H'
abbrev nNames : List Str := ["_law_rows", "_law_found", "_law_row", "_law_name"]
theorem scNames : FnScope nNames ["_law_rows"] (defScope sNames) := ⟨rfl, rfl, rfl, by decide +kernel, rfl, by decide +kernel, by decide +kernel⟩
theorem row_filter (row : Row) : ((row.map oV).filter fun v => !decide (v = .non)).map id = (rnames row).map V.str := by
  rw [List.map_id]
  induction row with
  | nil => rfl
  | cons o r ih =>
    cases o with
    | none => exact ih
    | some z => exact congrArg (V.str z :: ·) ih
theorem names_take {g : Grid} {i : Nat} {row : Row} (h : g[i]? = some row) : names (g.take (i + 1)) = names (g.take i) ++ rnames row := by
  rw [take_snoc h, names_snoc]
theorem ok_names (F : Fun K "_law_names" "_law_names" sNames f fd) (B : Bi mg) : FnOk P w K mg base CX0 1 f fd ["_law_rows"] spNames := by
  refine F.ok scNames (fun vs H Q E h => ?_) (fun cdv A outer s H vs Q E hr h => ?_)
  · obtain ⟨L, g, wd, rfl, _⟩ := h
    rfl
  · obtain ⟨L, g, wd, rfl, ⟨as, hL, hR⟩, gd, q⟩ := h
    refine ⟨_, pss_cons (ps_set (i := 1) scNames.nd rfl (.inl rfl) (pe_lst pa_nil))
      (pss_cons (ps_for PassesOwn.never rfl (pi_tup (pv 0)) (pg_name (i := 2) scNames.nd rfl (.inl rfl))
        (pss_one (ps_expr (pe_bm PySem.F.plainAttrs_list PySem.F.slot_list_extend PySem.F.type_list_extend mt_extend (pv 1) (pa_cons
          (pe_lc (own := [("_law_name", 3)]) (g := gName 3) (tt := tB (tNotN (tVar 3))) rfl scNames.nd (pi_tup (pv 2)) (blkOk_by (N := nNames) (sc := defScope sNames) (by decide +kernel)) (fun _ _ _ _ _ => pg_name (i := 3) scNames.nd rfl (.inl rfl))
            (fun _ _ _ _ _ => pts_one (pt_cmp (pc_notN (pv 3)))) (fun _ _ _ _ _ => pv 3)) pa_nil)))))
      (pss_one (ps_ret (pe_callB (cr_sortD hr.units) (by rfl) B.sorted (by decide +kernel) (pa_cons (pv 1) pa_nil))))), ?_⟩
    refine ⟨lz, fun fA hf => ?_⟩
    have s0 : Same H (upd H fA (.lst [])) := same_new hf
    have hlen : (as.map V.ref).length = g.length := by rw [List.length_map, hR.length]
    refine ⟨_, rfl, L, rfl, ⟨_, .inl (.inl (s0 _ _ hL))⟩, for_tup (K := K) (a := L) (xs := as.map V.ref) (fun i σ H' => (∃ y2 y3, σ = [some (.ref L), some (.ref fA), y2, y3]) ∧ Same H H' ∧ H' fA = some (.lst ((names (g.take i)).map V.str)))
      ⟨⟨_, _, rfl⟩, s0, upd_same⟩ (fun i σ H' _ h => .inl (.inl (h.2.1 _ _ hL))) ?_ ?_⟩
    · rintro i x σ H1 hx ⟨⟨y2, y3, rfl⟩, s1, hf1⟩
      rw [List.getElem?_map] at hx
      obtain ⟨p, hp, rfl⟩ := Option.map_eq_some_iff.mp hx
      obtain ⟨row, hrow, hH⟩ := hR.get hp
      have hrl := gd.rows row (List.mem_of_getElem? hrow)
      refine ⟨_, rfl, .inl ⟨rfl, _, .inl (.inl hf1)⟩, _, rfl, p, rfl, ⟨_, .inl (.inl (s1 _ _ hH))⟩, fun D hD => ?_⟩
      refine lc_map (walk_tup (K := K) (a := p) (xs := row.map oV)) hD (fun v => !decide (v = .non)) id (fun H' s' => .inl (.inl (s' _ _ (s1 _ _ hH)))) (fun _ => rfl) ?_ ?_ ?_ ?_
      · intro x H' hx s' Q' q'
        exact ⟨_, rfl, _, rfl, q'⟩
      · intro x H' hx _ _ Q' q'
        exact ⟨_, rfl, q'⟩
      · rw [List.length_map]
        exact small1000 (by have := gd.w6; omega)
      · intro H2 s2 hD2
        rw [row_filter] at hD2
        have hf2 := s2 _ _ hf1
        refine ⟨fA, D, _, _, rfl, rfl, hf2, hD2, ?_, ⟨_, _, rfl⟩, same_mut (s1.trans s2) hf, ?_⟩
        · rw [List.length_map, List.length_map]
          have a1 := len_names (g := g.take i) (wd := wd) fun r hr => gd.rows r (List.mem_of_mem_take hr)
          have a2 : (g.take i).length ≤ 6 := by rw [List.length_take]; have := gd.h6; omega
          have a3 : (g.take i).length * wd ≤ 6 * 6 := Nat.mul_le_mul a2 gd.w6
          have a4 : (rnames row).length ≤ row.length := List.length_filterMap_le id _
          have a7 := gd.w6
          exact lzl (by omega)
        · rw [upd_same, names_take hrow, List.map_append]
    · rintro σ H1 ⟨⟨y2, y3, rfl⟩, s1, hf1⟩
      rw [hlen, List.take_length] at hf1
      refine ⟨_, rfl, ?_⟩
      dsimp only [tNil]
      refine sort_reads (K := K) (.inl (.inl hf1)) fun p hp => ?_
      exact q p _ (s1.free hp) (s1.trans (same_new hp)) upd_same

theorem grid_get {H : Hp} {L : Addr} {g : Grid} {wd : Nat} (gd : Good g wd) {as : List Addr} (hL : H L = some (.tup (as.map V.ref))) (hR : RowsAt H as g) {x y : Int} (hx : 0 ≤ x ∧ x < g.length) (hy : 0 ≤ y ∧ y < wd) :
    ∃ (p : Addr) (row : Row), atI (as.map V.ref) x = some (.ref p) ∧ H p = some (.tup (row.map oV)) ∧ row.length = wd ∧ atI (row.map oV) y = some (oV (cellAt g x.toNat y.toNat)) := by
  have hx2 : x.toNat < g.length := by omega
  have hg : g[x.toNat]? = some g[x.toNat] := List.getElem?_eq_getElem hx2
  obtain ⟨p, hp, hH⟩ := hR.get2 hg
  have hw := gd.rows _ (List.mem_of_getElem? hg)
  have hy2 : y.toNat < g[x.toNat].length := by omega
  refine ⟨p, g[x.toNat], at_of (j := x.toNat) (by omega) (by rw [List.getElem?_map, hp]; rfl), hH, hw, at_of (j := y.toNat) (by omega) ?_⟩
  rw [List.getElem?_map, List.getElem?_eq_getElem hy2, cellAt_of hg (List.getElem?_eq_getElem hy2)]
  rfl
end
end Wl



/-! A land's text. -/
namespace Wl
open PySem PySem.Spec PyProof.Rows L2
def partS : Option Str → Str
  | none => "-"
  | some z => z
def lineS (row : Row) : Str := Txt.join (" " : Str) (row.map partS)
def landS (g : Grid) : Str := Txt.join ("\n" : Str) (g.map lineS)
theorem tl_dash : TL.tl ("-" : Str) = [45] := by decide +kernel
theorem tl_blank : TL.tl (" " : Str) = [32] := by decide +kernel
theorem tl_end : TL.tl ("\n" : Str) = [10] := by decide +kernel
theorem wd_tl {z : Str} (h : IsWd z) : (1 ≤ (TL.tl z).length ∧ (TL.tl z).length ≤ 8) ∧ ∀ c ∈ TL.tl z, 97 ≤ c ∧ c ≤ 122 := by
  refine ⟨by rw [← TL.len_tl]; exact h.len, ?_⟩
  unfold IsWd wdB at h
  simp only [Bool.and_eq_true, decide_eq_true_eq, List.all_eq_true] at h
  exact h.2
theorem wd_dash {z : Str} (h : IsWd z) : z ≠ "-" := fun e => by
  have := (wd_tl h).2 45 (by rw [e, tl_dash]; simp)
  omega
/-- a part of a row -/
def OkP (o : Option Str) : Prop := ∀ z, o = some z → IsWd z
theorem part_tl {o : Option Str} (h : OkP o) : (TL.tl (partS o)).length ≤ 8 ∧ ∀ c ∈ TL.tl (partS o), 45 ≤ c ∧ c ≤ 122 := by
  cases o with
  | none =>
    show (TL.tl ("-" : Str)).length ≤ 8 ∧ ∀ c ∈ TL.tl ("-" : Str), 45 ≤ c ∧ c ≤ 122
    rw [tl_dash]
    exact ⟨by decide, fun c hc => by rw [List.mem_singleton.mp hc]; decide⟩
  | some z =>
    have := wd_tl (h z rfl)
    exact ⟨this.1.2, fun c hc => ⟨by have := this.2 c hc; omega, (this.2 c hc).2⟩⟩
theorem join_mem {S : List Nat} {c : Nat} : ∀ {ps : List (List Nat)}, c ∈ TL.joinL S ps → c ∈ S ∨ ∃ p ∈ ps, c ∈ p
  | [], h => by cases h
  | [p], h => .inr ⟨p, List.mem_singleton.mpr rfl, h⟩
  | p :: q :: r, h => by
    have h : c ∈ p ++ (S ++ TL.joinL S (q :: r)) := h
    rcases List.mem_append.mp h with h | h
    · exact .inr ⟨p, List.mem_cons_self, h⟩
    · rcases List.mem_append.mp h with h | h
      · exact .inl h
      · rcases join_mem h with h | ⟨u, hu, h⟩
        · exact .inl h
        · exact .inr ⟨u, List.mem_cons_of_mem _ hu, h⟩
theorem join_size {S : List Nat} {m : Nat} : ∀ {ps : List (List Nat)}, (∀ p ∈ ps, p.length ≤ m) → (TL.joinL S ps).length ≤ ps.length * (m + S.length)
  | [], _ => by simp [TL.joinL]
  | [p], h => by
    have := h p (List.mem_singleton.mpr rfl)
    show p.length ≤ _
    simp
    omega
  | p :: q :: r, h => by
    have h1 := h p List.mem_cons_self
    have h2 := join_size (S := S) (m := m) (ps := q :: r) fun u hu => h u (List.mem_cons_of_mem _ hu)
    show (p ++ (S ++ TL.joinL S (q :: r))).length ≤ _
    rw [List.length_append, List.length_append, List.length_cons, Nat.succ_mul]
    omega
theorem line_tl (row : Row) : TL.tl (lineS row) = TL.joinL [32] (row.map fun o => TL.tl (partS o)) := by
  unfold lineS
  rw [TL.join_eq, TL.tl_join, tl_blank, List.map_map]
  rfl
theorem line_codes {row : Row} (h : ∀ o ∈ row, OkP o) {c : Nat} (hc : c ∈ TL.tl (lineS row)) : c = 32 ∨ (45 ≤ c ∧ c ≤ 122) := by
  rw [line_tl] at hc
  rcases join_mem hc with hc | ⟨p, hp, hc⟩
  · exact .inl (List.mem_singleton.mp hc)
  · obtain ⟨o, ho, rfl⟩ := List.mem_map.mp hp
    exact .inr ((part_tl (h o ho)).2 c hc)
theorem line_len {row : Row} (h : ∀ o ∈ row, OkP o) (h6 : row.length ≤ 6) : (lineS row).length ≤ 54 := by
  rw [TL.len_tl, line_tl]
  have := join_size (S := [32]) (m := 8) (ps := row.map fun o => TL.tl (partS o)) fun p hp => by
    obtain ⟨o, ho, rfl⟩ := List.mem_map.mp hp
    exact (part_tl (h o ho)).1
  rw [List.length_map] at this
  simp at this
  omega
theorem line_split {row : Row} (h : ∀ o ∈ row, OkP o) (ne : row ≠ []) : Txt.split (lineS row) (" " : Str) = row.map partS := by
  unfold lineS
  refine TL.split_join tl_blank (by decide +kernel) (fun e => ne (List.map_eq_nil_iff.mp e)) fun p hp hc => ?_
  obtain ⟨o, ho, rfl⟩ := List.mem_map.mp hp
  have := (part_tl (h o ho)).2 32 hc
  omega
theorem land_split {g : Grid} (h : ∀ r ∈ g, ∀ o ∈ r, OkP o) (ne : g ≠ []) : Txt.split (landS g) ("\n" : Str) = g.map lineS := by
  unfold landS
  refine TL.split_join tl_end (by decide +kernel) (fun e => ne (List.map_eq_nil_iff.mp e)) fun p hp hc => ?_
  obtain ⟨r, hr, rfl⟩ := List.mem_map.mp hp
  have := line_codes (h r hr) hc
  omega
theorem land_len {g : Grid} (h : ∀ r ∈ g, ∀ o ∈ r, OkP o) (hg : g.length ≤ 6) (hr : ∀ r ∈ g, r.length ≤ 6) : (landS g).length ≤ 330 := by
  unfold landS
  rw [TL.len_tl, TL.join_eq, TL.tl_join, tl_end]
  have := join_size (S := [10]) (m := 54) (ps := (g.map lineS).map TL.tl) fun p hp => by
    obtain ⟨z, hz, rfl⟩ := List.mem_map.mp hp
    obtain ⟨r, hr', rfl⟩ := List.mem_map.mp hz
    rw [← TL.len_tl]
    exact line_len (h r hr') (hr r hr')
  rw [List.length_map, List.length_map] at this
  have e : (54 + [10].length) = 55 := rfl
  rw [e] at this
  omega
theorem names_part {g : Grid} (h : ∀ z ∈ names g, IsWd z) : ∀ r ∈ g, ∀ o ∈ r, OkP o := fun r hr o ho z e => h z (by
  unfold names
  rw [List.mem_filterMap]
  exact ⟨o, List.mem_flatten.mpr ⟨r, hr, ho⟩, e⟩)
theorem Good.parts {g : Grid} {wd : Nat} (G : Good g wd) : ∀ r ∈ g, ∀ o ∈ r, OkP o := names_part G.wd
theorem Good.nn {g : Grid} {wd : Nat} (G : Good g wd) : g ≠ [] := fun e => by
  have := G.h1
  rw [e] at this
  simp at this
theorem Good.six {g : Grid} {wd : Nat} (G : Good g wd) : ∀ r ∈ g, r.length ≤ 6 := fun r hr => by
  rw [G.rows r hr]
  exact G.w6
theorem part_inj {o u : Option Str} (h : OkP o) (k : OkP u) (e : partS o = partS u) : o = u := by
  cases o with
  | none =>
    cases u with
    | none => rfl
    | some z => exact absurd e.symm (wd_dash (k z rfl))
  | some y =>
    cases u with
    | none => exact absurd e (wd_dash (h y rfl))
    | some z => exact congrArg some e
theorem map_part_inj : ∀ {r q : Row}, (∀ o ∈ r, OkP o) → (∀ o ∈ q, OkP o) → r.map partS = q.map partS → r = q
  | [], [], _, _, _ => rfl
  | [], _ :: _, _, _, e => by simp at e
  | _ :: _, [], _, _, e => by simp at e
  | o :: r, u :: q, h, k, e => by
    simp only [List.map_cons, List.cons.injEq] at e
    rw [part_inj (h o List.mem_cons_self) (k u List.mem_cons_self) e.1, map_part_inj (fun x hx => h x (List.mem_cons_of_mem _ hx)) (fun x hx => k x (List.mem_cons_of_mem _ hx)) e.2]
theorem line_inj {r q : Row} (h : ∀ o ∈ r, OkP o) (k : ∀ o ∈ q, OkP o) (nr : r ≠ []) (nq : q ≠ []) (e : lineS r = lineS q) : r = q := by
  have := congrArg (fun z => Txt.split z (" " : Str)) e
  simp only [line_split h nr, line_split k nq] at this
  exact map_part_inj h k this
/-- unlike lands have unlike texts -/
theorem land_inj {g g' : Grid} {wd wd' : Nat} (G : Good g wd) (G' : Good g' wd') (e : landS g = landS g') : g = g' := by
  have h := congrArg (fun z => Txt.split z ("\n" : Str)) e
  simp only [land_split G.parts G.nn, land_split G'.parts G'.nn] at h
  have ne : ∀ {l : Grid} {v : Nat}, Good l v → ∀ r ∈ l, r ≠ [] := fun {l v} L r hr q => by
    have h1 := L.rows r hr
    have h2 := L.w1
    rw [q] at h1
    simp at h1
    omega
  have key : ∀ {l m : Grid}, (∀ r ∈ l, r ≠ [] ∧ ∀ o ∈ r, OkP o) → (∀ r ∈ m, r ≠ [] ∧ ∀ o ∈ r, OkP o) → l.map lineS = m.map lineS → l = m := by
    intro l
    induction l with
    | nil =>
      intro m _ _ e
      cases m with
      | nil => rfl
      | cons _ _ => simp at e
    | cons r l ih =>
      intro m hl hm e
      cases m with
      | nil => simp at e
      | cons q m =>
        simp only [List.map_cons, List.cons.injEq] at e
        have a := hl r List.mem_cons_self
        have b := hm q List.mem_cons_self
        rw [line_inj a.2 b.2 a.1 b.1 e.1, ih (fun x hx => hl x (List.mem_cons_of_mem _ hx)) (fun x hx => hm x (List.mem_cons_of_mem _ hx)) e.2]
  exact key (fun r hr => ⟨ne G r hr, G.parts r hr⟩) (fun r hr => ⟨ne G' r hr, G'.parts r hr⟩) h
end Wl

/-! Rules of ours for objects of own classes: len, str, repr, ==, !=, in a list of one, each by the class's own method. -/
namespace Wl
open PySem PySem.Spec PyProof.Rows L2
section
variable {X : Cx} {n : Nat} {f : Addr} {fd : FuncData} {ps : List Str} {sp : Sp} {C : Addr}
theorem v1 (a : Addr) : Vals [V.ref a] [Value.ref a] := .cons rfl .nil
theorem v2 (a b : Addr) : Vals [V.ref a, V.ref b] [Value.ref a, Value.ref b] := .cons rfl (.cons rfl .nil)
/-- an own def called somewhere below the running body -/
theorem run_own {A : Around} {pins : List (Addr × Obj)} {s : Shared} {σ : L2.St} {H : Hp} {vs : List V} {us : List Value} {Q : VK} (F : FnOk X.prog X.w X.K X.mg X.base CX0 n f fd ps sp) (hb : Binds X.K fd ps []) (sb : Sub X n A) (I : L2.Inv X pins σ H s) (r : Vals vs us) (hsp : sp vs H Q E0) :
    wpAny (model X.prog X.w) A (call (.ref f) us) (EP X pins σ Q) X.xe s := by
  have e0 : Env0 X.prog X.w X.K X.mg X.base A X.stack s H := by
    have e := I.env0
    exact ⟨by rw [sb.fr]; exact e.frames, e.mod, e.bs, e.bsz, e.funs, e.frf, e.hok, e.bare⟩
  have hl := F.len _ _ _ _ hsp
  have hb' : BindsTo s fd ⟨us, []⟩ (ps.zip us) := by
    have := hb s us I.kIn (by rw [List.append_nil, ← r.length]; exact hl)
    rw [List.append_nil] at this
    exact this
  refine wpAny_call (codeAny_mono (F.run A X.stack s H ⟨us, []⟩ us vs _ E0 sb.room e0 hb' r hsp) fun r s' hq => ?_)
  cases r with
  | error e => exact pass0 pins σ H s e s' I hq
  | ok fl =>
    cases fl with
    | ret w => exact I.after hq
    | next => exact False.elim hq
    | brk => exact False.elim hq
    | cont => exact False.elim hq
/-- len(o) -/
def rLenO (C : Addr) (sp : Sp) : List V → Hp → VK → Prop := fun xs H Q => ∃ a dx fs, xs = [V.ref a] ∧ H a = some (.ins C dx fs) ∧ sp [.ref a] H (fun v H' => ∃ k : Nat, v = .int (k : Int) ∧ k < 2 ^ 62 ∧ Q (.int (k : Int)) H') E0
theorem cr_lenO (F : FnOk X.prog X.w X.K X.mg X.base CX0 n f fd ps sp) (hb : Binds X.K fd ps []) (m : Meth X.K C "__len__" f) (hr : Room (n + 1) X.A) : CallR X (.builtin "len") (rLenO C sp) := by
  intro pins s σ H xs us Q I r h
  obtain ⟨a, dx, fs, rfl, ha, hsp⟩ := h
  obtain ⟨u, rfl, ru⟩ := vals1 r
  obtain rfl : u = Value.ref a := ru
  obtain ⟨mA, J, _⟩ := ins_get I.hok ha
  obtain ⟨od, J, _⟩ := J.look
  obtain ⟨m', hF⟩ := I.fr
  refine PySem.W.len_K hF I.ok.mod.kin J m.at_ m.fn (wpAny_mono (run_own F hb (Sub.in1 ⟨hr, rfl⟩) I (v1 a) hsp) (fun v s' hq => ?_) fun _ _ z => z)
  obtain ⟨z, H', I', rz, k, rfl, hk, q⟩ := hq
  obtain ⟨t, rfl⟩ := rz
  exact ⟨⟨by omega, by omega⟩, .int (k : Int), H', I'.tok _, ⟨_, rfl⟩, q⟩
/-- str(o) -/
def rStrO (C : Addr) (sp : Sp) : List V → Hp → VK → Prop := fun xs H Q => ∃ a dx fs, xs = [V.ref a] ∧ H a = some (.ins C dx fs) ∧ sp [.ref a] H (fun v H' => ∃ z, v = .str z ∧ Q (.str z) H') E0
theorem room_u2 {k : Nat} {A : Around} (r : Room k A) : A.units + 2 < cLine := by have := r.un; omega
theorem cr_strO (F : FnOk X.prog X.w X.K X.mg X.base CX0 n f fd ps sp) (hb : Binds X.K fd ps []) (m : Meth X.K C "__str__" f) (hr : Room (n + 2) X.A) : CallR X (.type "str") (rStrO C sp) := by
  intro pins s σ H xs us Q I r h
  obtain ⟨a, dx, fs, rfl, ha, hsp⟩ := h
  obtain ⟨u, rfl, ru⟩ := vals1 r
  obtain rfl : u = Value.ref a := ru
  obtain ⟨mA, J, _⟩ := ins_get I.hok ha
  obtain ⟨od, J, _⟩ := J.look
  refine PySem.W.kso_call (show X.A.units + 1 + 1 < cLine from room_u2 hr) I.kIn J m.at_ m.fn (wpAny_mono (run_own F hb (Sub.in1 (Sub.in1 ⟨hr, rfl⟩)) I (v1 a) hsp) (fun v s' hq => ?_) fun _ _ z => z)
  obtain ⟨z, H', I', rz, y, rfl, q⟩ := hq
  obtain ⟨t, rfl⟩ := rz
  exact ⟨.str y, H', I', ⟨_, rfl⟩, q⟩
/-- repr(o) -/
theorem cr_reprO (F : FnOk X.prog X.w X.K X.mg X.base CX0 n f fd ps sp) (hb : Binds X.K fd ps []) (m : Meth X.K C "__repr__" f) (hr : Room (n + 1) X.A) : CallR X (.builtin "repr") (rStrO C sp) := by
  intro pins s σ H xs us Q I r h
  obtain ⟨a, dx, fs, rfl, ha, hsp⟩ := h
  obtain ⟨u, rfl, ru⟩ := vals1 r
  obtain rfl : u = Value.ref a := ru
  obtain ⟨mA, J, _⟩ := ins_get I.hok ha
  obtain ⟨od, J, _⟩ := J.look
  obtain ⟨m', hF⟩ := I.fr
  refine PySem.W.repr_K (show X.A.units + 1 < cLine from by have := room_u2 hr; omega) hF I.ok.mod.kin J m.at_ m.fn (wpAny_mono (run_own F hb (Sub.in1 ⟨hr, rfl⟩) I (v1 a) hsp) (fun v s' hq => ?_) fun _ _ z => z)
  obtain ⟨z, H', I', rz, y, rfl, q⟩ := hq
  obtain ⟨t, rfl⟩ := rz
  exact ⟨.str y, H', I', ⟨_, rfl⟩, q⟩
/-- x == y of two of one class -/
def rEqO (C : Addr) (sp : Sp) (g : Bool → Bool) : R2 := fun x y H Q => ∃ a dx fs b dy gs, x = V.ref a ∧ y = V.ref b ∧ H a = some (.ins C dx fs) ∧ H b = some (.ins C dy gs) ∧ sp [.ref a, .ref b] H (fun v H' => ∃ c, v = .bl c ∧ Q (.bl (g c)) H') E0
theorem rc_eqO {A : Around} {pins : List (Addr × Obj)} {s : Shared} {σ : L2.St} {H : Hp} {a b dx dy : Addr} {fs gs : List (Str × V)} {Q : Bool → Hp → Prop} (F : FnOk X.prog X.w X.K X.mg X.base CX0 n f fd ps sp) (hb : Binds X.K fd ps []) (m : Meth X.K C "__eq__" f) (sb : Sub X n A) (I : L2.Inv X pins σ H s)
    (ha : H a = some (.ins C dx fs)) (hb' : H b = some (.ins C dy gs)) (hsp : sp [.ref a, .ref b] H (fun v H' => ∃ c, v = .bl c ∧ Q c H') E0) :
    wpAny (model X.prog X.w) A (richCompare .Eq (.ref a) (.ref b)) (fun v s' => ∃ c, v = .bool c ∧ ∃ H', L2.Inv X pins σ H' s' ∧ Q c H') X.xe s := by
  obtain ⟨mA, J, _⟩ := ins_get I.hok ha
  obtain ⟨mB, J', _⟩ := ins_get I.hok hb'
  obtain ⟨od, J, _⟩ := J.look
  obtain ⟨od', J', _⟩ := J'.look
  obtain ⟨m', hF⟩ := I.fr
  refine PySem.W.cmp_K (op := .Eq) (tb := .ref C) sb.room.units0 hF I.ok.mod.kin J J'.type (by simp [PySem.W.notFirst]) m.at_ m.fn (wpAny_mono (run_own F hb sb I (v2 a b) hsp) (fun v s' hq => ?_) fun _ _ z => z)
  obtain ⟨z, H', I', rz, c, rfl, q⟩ := hq
  cases rz
  exact ⟨c, rfl, H', I', q⟩
theorem op_eqO (F : FnOk X.prog X.w X.K X.mg X.base CX0 n f fd ps sp) (hb : Binds X.K fd ps []) (m : Meth X.K C "__eq__" f) (hr : Room n X.A) : OpR X (compareOp .Eq) (rEqO C sp id) := by
  intro pins s σ H x y v u Q I rx ry h
  obtain ⟨a, dx, fs, b, dy, gs, rfl, rfl, ha, hb', hsp⟩ := h
  cases rx
  cases ry
  show wpAny (model X.prog X.w) X.A (richCompare .Eq (.ref a) (.ref b)) (EP X pins σ Q) X.xe s
  refine wpAny_mono (rc_eqO F hb m ⟨hr, rfl⟩ I ha hb' hsp) (fun v s' hq => ?_) fun _ _ z => z
  obtain ⟨c, rfl, H', I', q⟩ := hq
  exact ⟨.bl c, H', I', rfl, q⟩
/-- what the class says of != -/
structure NeC (K : PySem.W.Frag) (C : Addr) : Prop where
  ne : PySem.W.findIn K (.ref C) "__ne__" = some (some (.builtin "object.__ne__"))
  ob : PySem.W.mroIn K C (.type "object") = some true
theorem ifBound_B {M : Model} {A : Around} {E : Value → Shared → Prop} {s : Shared} {K : PySem.W.Frag} {x C : Addr} {ox : Obj} {od : Option Obj} {name : Str} {id : String} {args : List Value} {Q : Option Value → Shared → Prop} (X : K.In s.heap) (I : PySem.W.InstAt s.heap x ox C od) (hs : PySem.W.findIn K (.ref C) name = some (some (.builtin id)))
    (hb : ∀ self, bindSpecial (.builtin id) self = pure (.builtin id, [self])) (h : wpAny M A (call (.builtin id) (.ref x :: args)) (fun v => Q (some v)) E s) : wpAny M A (callSpecialIfBound? (.ref x) name args) Q E s := by
  simp only [callSpecialIfBound?, bindSpecialIfBound?]
  refine wpAny_holding (wpAny_bind (wpAny_bind (wpAny_bind (I.type.here ((PySem.W.looks_findIn X hs).here ?_)))))
  refine wpAny_bind (wpAny_askSetting (wpAny_ite ?_))
  have fin : wpAny M A (call (.builtin id) ([.ref x] ++ args) >>= fun v => pure (some v)) Q E s := wpAny_bind (wpAny_mono h (fun v s' h' => wpAny_pure h') fun _ _ h' => h')
  split
  · exact wpAny_bind ((PySem.W.Looks.of_pure (hb _)).here (wpAny_pure (by exact fin)))
  · exact wpAny_tryCatch (wpAny_bind ((PySem.W.Looks.of_pure (hb _)).here (wpAny_pure (by exact fin))))
theorem obj_neK {A : Around} {E : Value → Shared → Prop} {s : Shared} {prog : Program} {w : World} {K : PySem.W.Frag} {x C f : Addr} {y : Value} {ox : Obj} {od : Option Obj} {Q : Value → Shared → Prop} (hu : A.units + 1 < cLine) (X : K.In s.heap) (I : PySem.W.InstAt s.heap x ox C od) (N : NeC K C) (he : PySem.W.findIn K (.ref C) "__eq__" = some (some (.ref f))) (hf : PySem.W.isFn K (.ref f) = true)
    (h : wpAny (model prog w) A.in1 (call (.ref f) [.ref x, y]) (fun v s' => ∃ c, v = .bool c ∧ Q (.bool (!c)) s') E s) : wpAny (model prog w) A (call (.builtin "object.__ne__") [.ref x, y]) Q E s := by
  refine wpAny_call (codeAny_call_builtin PySem.F.slot_object_ne.plain PySem.F.cmpEntry_ne (PySem.W.check_slot (i := "object.__ne__") (owner := "object") (n := "__ne__") (by decide +kernel) (by decide +kernel) (I.type.andThen (PySem.W.looks_mroIn X N.ob)) (PySem.F.cmpArgs_ne _ _) ?_))
  unfold Builtin.«object.__ne__»
  refine wpAny_bind (m := slotArgs "__ne__" 1 _) (wpAny_pure ?_)
  refine wpAny_bind (m := cRoomFor _ _) (wpAny_cRoomFor (show A.in1.units < cLine from hu) ?_)
  refine wpAny_bind (m := callSpecialIfBound? (.ref x) (Str.ofString "__eq__") _) (PySem.W.ifBound_K X I he hf (wpAny_mono h (fun r s' hq => ?_) fun _ _ z => z))
  obtain ⟨c, rfl, q⟩ := hq
  exact wpAny_bind (wpAny_truthy_bool (wpAny_pure q))
end
end Wl
namespace Wl
open PySem PySem.Spec PyProof.Rows L2
theorem ne_K {A : Around} {E : Value → Shared → Prop} {s : Shared} {prog : Program} {w : World} {K : PySem.W.Frag} {x C f : Addr} {y : Addr} {ox oy : Obj} {od od' : Option Obj} {Q : Value → Shared → Prop} (hu : A.units + 2 < cLine) (X : K.In s.heap) (I : PySem.W.InstAt s.heap x ox C od) (I' : PySem.W.InstAt s.heap y oy C od') (N : NeC K C) (he : PySem.W.findIn K (.ref C) "__eq__" = some (some (.ref f))) (hf : PySem.W.isFn K (.ref f) = true)
    (h : wpAny (model prog w) A.in1 (call (.ref f) [.ref x, .ref y]) (fun v s' => ∃ c, v = .bool c ∧ Q (.bool (!c)) s') E s) : wpAny (model prog w) A (richCompare .NotEq (.ref x) (.ref y)) Q E s := by
  have one : wpAny (model prog w) A (tryCompare (.ref x) "__ne__" (.ref y)) (fun r s' => ∃ v, r = some v ∧ Q v s') E s := by
    unfold tryCompare
    refine wpAny_bind (ifBound_B X I N.ne PySem.F.slot_object_ne.bind (wpAny_mono (obj_neK (Q := fun v s' => ∃ c, v = .bool c ∧ Q v s') (by omega) X I N he hf (wpAny_mono h (fun v s' hv => ?_) fun _ _ z => z)) (fun v s' hv => ?_) fun _ _ z => z))
    · obtain ⟨c, rfl, q⟩ := hv
      exact ⟨c, rfl, _, rfl, q⟩
    · obtain ⟨c, rfl, q⟩ := hv
      exact wpAny_pure ⟨_, rfl, q⟩
  unfold richCompare
  simp only [oneThing_ref]
  refine wpAny_holding (wpAny_bind (wpAny_cRoomFor (by omega) ?_))
  refine wpAny_bind (I.type.here (wpAny_bind (I'.type.here ?_)))
  rw [show (Value.ref C != Value.ref C) = false from by simp]
  simp only [Bool.false_eq_true, if_false]
  refine wpAny_bind (wpAny_pure ?_)
  simp only [Bool.false_eq_true, if_false]
  refine wpAny_bind (wpAny_mono one (fun r s' z => ?_) fun _ _ e => e)
  obtain ⟨v, rfl, hq⟩ := z
  exact wpAny_pure hq
section
variable {X : Cx} {n : Nat} {f : Addr} {fd : FuncData} {ps : List Str} {sp : Sp} {C : Addr}
theorem op_neO (F : FnOk X.prog X.w X.K X.mg X.base CX0 n f fd ps sp) (hb : Binds X.K fd ps []) (m : Meth X.K C "__eq__" f) (N : NeC X.K C) (hr : Room (n + 1) X.A) : OpR X (compareOp .NotEq) (rEqO C sp not) := by
  intro pins s σ H x y v u Q I rx ry h
  obtain ⟨a, dx, fs, b, dy, gs, rfl, rfl, ha, hb', hsp⟩ := h
  cases rx
  cases ry
  obtain ⟨mA, J, _⟩ := ins_get I.hok ha
  obtain ⟨mB, J', _⟩ := ins_get I.hok hb'
  obtain ⟨od, J, _⟩ := J.look
  obtain ⟨od', J', _⟩ := J'.look
  show wpAny (model X.prog X.w) X.A (richCompare .NotEq (.ref a) (.ref b)) (EP X pins σ Q) X.xe s
  refine ne_K (room_u2 hr) I.kIn J J' N m.at_ m.fn (wpAny_mono (run_own F hb (Sub.in1 ⟨hr, rfl⟩) I (v2 a b) hsp) (fun v s' hq => ?_) fun _ _ z => z)
  obtain ⟨z, H', I', rz, c, rfl, q⟩ := hq
  cases rz
  exact ⟨c, rfl, .bl (!c), H', I', rfl, q⟩
/-! x in xs, x not in xs, of objects -/
open GQ MeetsSeq MeetsSeq2 MeetsSeq3 SeqRoads2 in
open AutoSeq1 (wpAny_loadPart') in
theorem contains_loopO {prog : Program} {w : World} {A : Around} {R : Result → Shared → Prop} {l : Addr} {items : Array Value} {x : Value} (P : Nat → Shared → Prop)
    (hl : ∀ i s, P i s → ∃ k, s.heap.get? l = some { cls := .type "list", data := .seq items k })
    (turn : ∀ (i : Nat) (h : i < items.size) (s : Shared), P i s → wpAny (model prog w) A.in1 (eqBool items[i] x) (fun b s' => if b = true then R (.ok (.ret (.bool true))) s' else P (i + 1) s') (fun e s' => R (.error e) s') s)
    (fin : ∀ s, P items.size s → R (.ok (.ret (.bool false))) s) (k : Nat) :
    ∀ i : Nat, items.size - i = k → i ≤ items.size → ∀ s, P i s → wpAny (model prog w) A.in1 (Builtin.«list.__contains__.loop» ⟨[.ref l, x, rawInt i], []⟩) (FinOf prog w A R) (fun e s' => R (.error e) s') s := by
  induction k with
  | zero =>
    intro i hk hi s h
    obtain ⟨k, hl1⟩ := hl i s h
    have e : i = items.size := by omega
    have q := fin s (e ▸ h)
    obtain ⟨hp, g, d, tk, os⟩ := s
    wp_walk using wpAny_loadPart' hl1
    have hi1 : items[((i : Nat) : Int).toNat]? = none := by simp; omega
    rw [hi1]
    wp_walk
    exact q
  | succ k ih =>
    intro i hk hi s h
    obtain ⟨k1, hl1⟩ := hl i s h
    have hlt : i < items.size := by omega
    have ht := turn i hlt s h
    obtain ⟨hp, g, d, tk, os⟩ := s
    wp_walk using wpAny_loadPart' hl1
    have hi1 : items[((i : Nat) : Int).toNat]? = some items[i] := by simp [hlt]
    rw [hi1]
    refine wpAny_bind (wpAny_mono ht (fun b s2 h2 => ?_) fun _ _ z => z)
    cases b with
    | true =>
      rw [if_pos rfl] at h2
      wp_walk
      exact h2
    | false =>
      rw [if_neg (by decide)] at h2
      have hrec := ih (i + 1) (by omega) (by omega) s2 h2
      obtain ⟨hp2, g2, d2, tk2, os2⟩ := s2
      have hc : ((i : Int) + 1) = ((i + 1 : Nat) : Int) := by omega
      wp_walk
      rw [hc]
      exact ⟨plainId_quiet plain_contains_loop _, codeAny_builtin entry_contains_loop (by
        rw [Around.under_plainId plain_contains_loop _]
        exact hrec)⟩
open GQ MeetsSeq MeetsSeq2 MeetsSeq3 SeqRoads2 in
open AutoSeq1 (wpAny_loadPart') in
theorem containsO {prog : Program} {w : World} {A : Around} {R : Result → Shared → Prop} {s : Shared} {l : Addr} {items : Array Value} {x : Value} (P : Nat → Shared → Prop)
    (hl : ∀ i s, P i s → ∃ k, s.heap.get? l = some { cls := .type "list", data := .seq items k })
    (turn : ∀ (i : Nat) (h : i < items.size) (s : Shared), P i s → wpAny (model prog w) A.in1 (eqBool items[i] x) (fun b s' => if b = true then R (.ok (.ret (.bool true))) s' else P (i + 1) s') (fun e s' => R (.error e) s') s)
    (fin : ∀ s, P items.size s → R (.ok (.ret (.bool false))) s) (h : P 0 s) :
    wpAny (model prog w) A.in1 (Builtin.«list.__contains__» ⟨[.ref l, x], []⟩) (FinOf prog w A R) (fun e s' => R (.error e) s') s := by
  have hrec := contains_loopO (A := A) (R := R) P hl turn fin _ 0 rfl (Nat.zero_le _) s h
  obtain ⟨k, hl1⟩ := hl 0 s h
  obtain ⟨hp, g, d, tk, os⟩ := s
  wp_walk using wpAny_loadPart' hl1
  exact ⟨plainId_quiet plain_contains_loop _, codeAny_builtin entry_contains_loop (by
    rw [Around.under_plainId plain_contains_loop _]
    exact hrec)⟩
/-- x in [y]: both of one class -/
def rInO (C : Addr) (sp : Sp) (g : Bool → Bool) : R2 := fun x y H Q => ∃ a dx fs l b dy gs, x = V.ref a ∧ y = V.ref l ∧ H l = some (.lst [.ref b]) ∧ H a = some (.ins C dx fs) ∧ H b = some (.ins C dy gs) ∧ (a = b → Q (.bl (g true)) H) ∧
  (a ≠ b → sp [.ref b, .ref a] H (fun v H' => ∃ c, v = .bl c ∧ H' l = some (.lst [.ref b]) ∧ Q (.bl (g c)) H') E0)
theorem op_inO' (F : FnOk X.prog X.w X.K X.mg X.base CX0 n f fd ps sp) (hb : Binds X.K fd ps []) (m : Meth X.K C "__eq__" f) (hr : Room (n + 1) X.A) {g : Bool → Bool} {pins : List (Addr × Obj)} {s : Shared} {σ : L2.St} {H : Hp} {x y : V} {v u : Value} {Q : VK} (I : L2.Inv X pins σ H s) (rx : RelV x v) (ry : RelV y u) (h : rInO C sp g x y H Q) :
    wpAny (model X.prog X.w) X.A (contains u v) (fun b s' => EP X pins σ Q (.bool (g b)) s') X.xe s := by
  obtain ⟨a, dx, fs, l, b, dy, gs, rfl, rfl, hl, ha, hb', q1, q2⟩ := h
  cases rx
  cases ry
  obtain ⟨z, its, k, r, ho⟩ := I.hok l _ hl
  obtain ⟨u, rfl, ru⟩ := vals1 r
  obtain rfl : u = Value.ref b := ru
  refine wpAny_contains_slot ⟨_, ho, rfl⟩ PySem.F.slot_list_contains (wpAny_mono (GQ.call_here PySem.F.slot_list_contains ⟨_, ho, rfl⟩ PySem.F.entry_list_contains (PySem.F.args_list_contains_2 _ _)
    (containsO (R := wants (fun v s' => ∃ c, v = .bool c ∧ EP X pins σ Q (.bool (g c)) s') X.xe) (items := #[.ref b]) (fun i s' => (i = 0 ∧ s' = s) ∨ (i = 1 ∧ ∃ H', L2.Inv X pins σ H' s' ∧ H' l = some (.lst [.ref b]) ∧ Q (.bl (g false)) H')) (fun i s' h => ?_) (fun i hi s' h => ?_) (fun s' h => ?_) (.inl ⟨rfl, rfl⟩))) (fun v s' hv => ?_) fun _ _ e => e)
  · rcases h with ⟨rfl, rfl⟩ | ⟨rfl, H', I', hl', _⟩
    · exact ⟨k, ho⟩
    · obtain ⟨z', its', k', r', ho'⟩ := I'.hok l _ hl'
      obtain ⟨u, rfl, ru⟩ := vals1 r'
      obtain rfl : u = Value.ref b := ru
      exact ⟨k', ho'⟩
  · have e0 : i = 0 := by simp at hi; omega
    subst e0
    rcases h with ⟨_, rfl⟩ | ⟨e, _⟩
    · show wpAny (model X.prog X.w) X.A.in1 (eqBool (.ref b) (.ref a)) _ _ _
      by_cases e : b = a
      · subst e
        refine SeqAt.EqAt.same (A := X.A.in1) (s := s') (.ref b) X.prog X.w _ _ ?_
        rw [if_pos rfl]
        exact ⟨_, rfl, .bl (g true), H, I, rfl, q1 rfl⟩
      · refine GQ.eqBool_refG e (wpAny_mono (rc_eqO F hb m (Sub.in1 ⟨hr, rfl⟩) I hb' ha (Q := fun c H' => H' l = some (.lst [.ref b]) ∧ Q (.bl (g c)) H') (q2 (Ne.symm e))) (fun v s2 hq => ?_) fun _ _ z => z)
        obtain ⟨c, rfl, H', I', hl', q⟩ := hq
        refine ⟨c, rfl, ?_⟩
        cases c with
        | true =>
          rw [if_pos rfl]
          exact ⟨_, rfl, .bl (g true), H', I', rfl, q⟩
        | false =>
          rw [if_neg (by decide)]
          exact .inr ⟨rfl, H', I', hl', q⟩
    · omega
  · rcases h with ⟨e, _⟩ | ⟨_, H', I', hl', q⟩
    · simp at e
    · exact ⟨_, rfl, .bl (g false), H', I', rfl, q⟩
  · obtain ⟨c, rfl, q⟩ := hv
    exact wpAny_truthy_bool q
theorem op_inO (F : FnOk X.prog X.w X.K X.mg X.base CX0 n f fd ps sp) (hb : Binds X.K fd ps []) (m : Meth X.K C "__eq__" f) (hr : Room (n + 1) X.A) : OpR X (compareOp .In) (rInO C sp id) := by
  intro pins s σ H x y v u Q I rx ry h
  show wpAny _ X.A (do return Value.bool (← contains u v)) _ _ s
  exact wpAny_bind (wpAny_mono (op_inO' F hb m hr I rx ry h) (fun b s' q => wpAny_pure q) fun _ _ z => z)
theorem op_notInO (F : FnOk X.prog X.w X.K X.mg X.base CX0 n f fd ps sp) (hb : Binds X.K fd ps []) (m : Meth X.K C "__eq__" f) (hr : Room (n + 1) X.A) : OpR X (compareOp .NotIn) (rInO C sp not) := by
  intro pins s σ H x y v u Q I rx ry h
  show wpAny _ X.A (do return Value.bool (!(← contains u v))) _ _ s
  exact wpAny_bind (wpAny_mono (op_inO' F hb m hr I rx ry h) (fun b s' q => wpAny_pure q) fun _ _ z => z)
end
end Wl

namespace Wl
open PySem PySem.Spec PyProof.Rows L2
def oD : Option Str → PyData
  | none => .none
  | some z => .str z
def rD (row : Row) : PyData := .tuple (row.map oD)
def gD (g : Grid) : PyData := .tuple (g.map rD)
theorem dp_row {K : PySem.W.Frag} {H : Hp} : ∀ row : Row, DpAll K H (row.map oV) (row.map oD)
  | [] => .nil
  | none :: r => .cons .non (dp_row r)
  | some z :: r => .cons (.str z) (dp_row r)
theorem dp_rows {K : PySem.W.Frag} {H : Hp} : ∀ {as : List Addr} {g : Grid}, RowsAt H as g → DpAll K H (as.map V.ref) (g.map rD)
  | _, _, .nil => .nil
  | _, _, .cons e t => .cons (.tup (.inl (.inl e)) (dp_row _)) (dp_rows t)
theorem dp_grid {K : PySem.W.Frag} {H : Hp} {L : Addr} {g : Grid} (h : GridAt H L g) : Dp K H (.ref L) (gD g) := by
  obtain ⟨as, hL, hR⟩ := h
  exact .tup (.inl (.inl hL)) (dp_rows hR)
theorem lay_row : ∀ {row : Row}, (∀ z ∈ rnames row, IsWd z) → PyData.canLayAll0 (row.map oD) = true
  | [], _ => by simp [PyData.canLayAll0]
  | none :: r, h => by simp [PyData.canLayAll0, oD, PyData.canLay0, lay_row (row := r) h]
  | some z :: r, h => by
    have h1 := wd_ok (h z (by simp [rnames]))
    have h2 := lay_row (row := r) fun y hy => h y (by simp only [rnames, List.filterMap_cons] at hy ⊢; exact List.mem_cons_of_mem _ hy)
    simp [PyData.canLayAll0, oD, PyData.canLay0, h1, h2]
theorem depth_row : ∀ row : Row, PyData.depthAll (row.map oD) = 0
  | [] => by simp [PyData.depthAll]
  | none :: r => by simp [PyData.depthAll, PyData.depth, oD, depth_row r]
  | some z :: r => by simp [PyData.depthAll, PyData.depth, oD, depth_row r]
theorem lay_grid : ∀ {g : Grid}, (∀ z ∈ names g, IsWd z) → PyData.canLayAll0 (g.map rD) = true
  | [], _ => by simp [PyData.canLayAll0]
  | r :: g, h => by
    rw [names_cons] at h
    have h1 := lay_row (row := r) fun z hz => h z (List.mem_append_left _ hz)
    have h2 := lay_grid (g := g) fun z hz => h z (List.mem_append_right _ hz)
    simp [PyData.canLayAll0, rD, PyData.canLay0, h1, h2]
theorem depth_grid : ∀ g : Grid, PyData.depthAll (g.map rD) ≤ 1
  | [] => by simp [PyData.depthAll]
  | r :: g => by
    have := depth_grid g
    have := depth_row r
    simp only [List.map_cons, PyData.depthAll, rD, PyData.depth]
    omega
theorem shaped_grid {g : Grid} {wd : Nat} (gd : Good g wd) : SeqAt.shaped (gD g) = true := shaped_tuple (lay_grid gd.wd) (by have := depth_grid g; omega)
theorem same_x {H0 H1 H2 : Hp} {a : Addr} (s : Same H0 H1) (x : SameX a H1 H2) (h : H0 a = none) : Same H0 H2 := fun b o e => x b o (ne_of_none e h) (s b o e)
theorem made_same {H1 H' : Hp} {x dx C : Addr} (nx : H1 x = none) (ndx : H1 dx = none) (h : ∀ b o, b ≠ x → (upd (upd H1 dx (.own x)) x (.ins C dx [])) b = some o → H' b = some o) : Same H1 H' := fun b o e => by
  have n1 : b ≠ x := ne_of_none e nx
  refine h b o n1 ?_
  rw [upd_ne n1, upd_ne (ne_of_none e ndx)]
  exact e

theorem o_eqv (a b : Option Str) : PyData.eqv (oD a) (oD b) = decide (a = b) := by
  cases a with
  | none => cases b <;> simp [oD, PyData.eqv]
  | some x =>
    cases b with
    | none => simp [oD, PyData.eqv]
    | some y =>
      simp only [oD, PyData.eqv, Option.some.injEq]
      by_cases h : x = y
      · subst h
        simp
      · rw [decide_eq_false h]
        exact beq_eq_false_iff_ne.mpr h
theorem row_eqv : ∀ r q : Row, PyData.eqvAll (r.map oD) (q.map oD) = decide (r = q)
  | [], [] => by simp [PyData.eqvAll]
  | [], _ :: _ => by simp [PyData.eqvAll]
  | _ :: _, [] => by simp [PyData.eqvAll]
  | o :: r, u :: q => by
    simp only [List.map_cons, PyData.eqvAll, o_eqv, row_eqv r q, List.cons.injEq]
    by_cases h1 : o = u <;> by_cases h2 : r = q <;> simp [h1, h2]
theorem rows_eqv : ∀ g g' : Grid, PyData.eqvAll (g.map rD) (g'.map rD) = decide (g = g')
  | [], [] => by simp [PyData.eqvAll]
  | [], _ :: _ => by simp [PyData.eqvAll]
  | _ :: _, [] => by simp [PyData.eqvAll]
  | r :: g, q :: g' => by
    simp only [List.map_cons, PyData.eqvAll, rD, PyData.eqv, row_eqv, rows_eqv g g', List.cons.injEq]
    by_cases h1 : r = q <;> by_cases h2 : g = g' <;> simp [h1, h2]
theorem grid_eqv (g g' : Grid) : PyData.eqv (gD g) (gD g') = decide (g = g') := by
  unfold gD
  simp only [PyData.eqv, rows_eqv]
/-- what the class says of itself, for isinstance and != -/
structure Txt2 (K : PySem.W.Frag) (mg : Str → Option Value) (C : Addr) : Prop where
  t : Txt K mg C
  ins : C8.InsC K C
  ne : NeC K C
theorem fs_no {m : Str} {d L : Addr} (h1 : ¬ m = "rows" := by decide +kernel) (h2 : ¬ m = "spots" := by decide +kernel) : (lf d L).lookup m = none := lf_no d L h1 h2
abbrev sEq : Stmt := inClass sCls 6
abbrev sLen : Stmt := inClass sCls 7
abbrev sStr : Stmt := inClass sCls 8
abbrev sRepr : Stmt := inClass sCls 9
section
variable {P : Program} {w : World} {K : PySem.W.Frag} {mg : Str → Option Value} {base : Heap} {f C : Addr} {fd : FuncData}
theorem LandAt.ins {H : Hp} {p L : Addr} {g : Grid} (h : LandAt C H p L g) : ∃ dx d, H p = some (.ins C dx (lf d L)) := by
  obtain ⟨d, dx, h1, _⟩ := h
  exact ⟨dx, d, h1⟩
theorem LandAt.grid {H : Hp} {p L : Addr} {g : Grid} (h : LandAt C H p L g) : GridAt H L g := by
  obtain ⟨d, dx, _, _, h3⟩ := h
  exact h3
theorem LandAt.same {H H' : Hp} {p L : Addr} {g : Grid} (h : LandAt C H p L g) (s : Same H H') : LandAt C H' p L g := h.keep (kp_same s)
/-! ### == -/
def spLEq (C : Addr) : Sp := fun vs H Q _ => ∃ (p L q M : Addr) (g g' : Grid) (wd wd' : Nat), vs = [.ref p, .ref q] ∧ LandAt C H p L g ∧ Good g wd ∧ LandAt C H q M g' ∧ Good g' wd' ∧ Q (.bl (decide (g = g'))) H
theorem scEq : FnScope ["self", "other"] ["self", "other"] (defScope sEq) := ⟨rfl, rfl, rfl, by decide +kernel, rfl, by decide +kernel, by decide +kernel⟩
theorem ok_leq (F : Fun K "__eq__" "Land.__eq__" sEq f fd) (B : Bi mg) (T : Txt2 K mg C) : FnOk P w K mg base CX0 1 f fd ["self", "other"] (spLEq C) := by
  refine F.ok scEq (fun vs H Q E h => ?_) (fun cdv A outer s H vs Q E hr h => ?_)
  · obtain ⟨p, L, q, M, g, g', wd, wd', rfl, _⟩ := h
    rfl
  · obtain ⟨p, L, q, M, g, g', wd, wd', rfl, h1, gd, h2, gd', qq⟩ := h
    refine ⟨_, pss_one (ps_ret (pe_and (pe_callB (C8.call_isC (C := C) T.ins) (by rfl) B.isi (by decide +kernel) (pa_cons (pv 1) (pa_cons (pe_glob (v := .ref C) rfl T.t.mgC rfl) pa_nil))) (pe_one (pe_cmpR (op_eqD hr.units) (pe_fld (pv 0) rfl) (pe_fld (pv 1) rfl) (nomark _))))), ?_⟩
    obtain ⟨dx, d, i1⟩ := h1.ins
    obtain ⟨dy, e, i2⟩ := h2.ins
    refine ⟨_, rfl, q, dy, _, rfl, i2, true, rfl, iteT ⟨_, rfl, p, C, dx, _, _, rfl, i1, T.t.cl, T.t.nR, lf_rows _ _, _, rfl, q, C, dy, _, _, rfl, i2, T.t.cl, T.t.nR, lf_rows _ _, _, _, dp_grid h1.grid, dp_grid h2.grid, shaped_grid gd, shaped_grid gd', ?_⟩⟩
    rw [grid_eqv]
    exact qq
/-! ### len -/
def spLLen (C : Addr) : Sp := fun vs H Q _ => ∃ (p L : Addr) (g : Grid), vs = [.ref p] ∧ LandAt C H p L g ∧ Q (.int (names g).length) H
theorem scLen : FnScope ["self"] ["self"] (defScope sLen) := ⟨rfl, rfl, rfl, by decide +kernel, rfl, by decide +kernel, by decide +kernel⟩
theorem ok_llen (F : Fun K "__len__" "Land.__len__" sLen f fd) (B : Bi mg) (T : Txt K mg C) : FnOk P w K mg base CX0 1 f fd ["self"] (spLLen C) := by
  refine F.ok scLen (fun vs H Q E h => ?_) (fun cdv A outer s H vs Q E hr h => ?_)
  · obtain ⟨p, L, g, rfl, _⟩ := h
    rfl
  · obtain ⟨p, L, g, rfl, ⟨d, dx, i1, ⟨kvs, hk, he⟩, _⟩, q⟩ := h
    refine ⟨_, pss_one (ps_ret (pe_callB call_lenD (by rfl) B.len PySem.boot_len (pa_cons (pe_fld (pv 0) rfl) pa_nil))), ?_⟩
    refine ⟨_, rfl, p, C, dx, _, _, rfl, i1, T.cl, T.nS, lf_spots _ _, d, kvs, rfl, hk, ?_⟩
    have : kvs.length = (names g).length := by
      rw [he.length, ← spG_fst g 0, List.length_map]
    rw [this]
    exact q
/-! ### repr -/
def reprS (n : Nat) : Str := ("Land(" : Str) ++ (toString (n : Int) : String) ++ (")" : Str)
def spLRepr (C : Addr) : Sp := fun vs H Q _ => ∃ (p L : Addr) (g : Grid), vs = [.ref p] ∧ LandAt C H p L g ∧ (names g).length ≤ 36 ∧ Q (.str (reprS (names g).length)) H
theorem scRepr : FnScope ["self"] ["self"] (defScope sRepr) := ⟨rfl, rfl, rfl, by decide +kernel, rfl, by decide +kernel, by decide +kernel⟩
theorem dig_len {n : Nat} (h : n ≤ 36) : ((toString (n : Int) : String) : Str).length ≤ 2 := by
  have : ∀ k : Fin 37, ((toString ((k.val : Nat) : Int) : String) : Str).length ≤ 2 := by decide +kernel
  exact this ⟨n, by omega⟩
theorem str_n (n : Nat) (h : n ≤ 36) : (((n : Nat) : Int).natAbs).log2 < 1920 := by
  have : ((n : Nat) : Int).natAbs = n := Int.natAbs_natCast n
  rw [this]
  have h2 : n.log2 ≤ n := Nat.log2_le_self n
  omega
theorem ok_lrepr (F : Fun K "__repr__" "Land.__repr__" sRepr f fd) (B : Bi mg) (T : Txt K mg C) : FnOk P w K mg base CX0 1 f fd ["self"] (spLRepr C) := by
  refine F.ok scRepr (fun vs H Q E h => ?_) (fun cdv A outer s H vs Q E hr h => ?_)
  · obtain ⟨p, L, g, rfl, _⟩ := h
    rfl
  · obtain ⟨p, L, g, rfl, ⟨d, dx, i1, ⟨kvs, hk, he⟩, _⟩, h36, q⟩ := h
    refine ⟨_, pss_one (ps_ret (pe_joined (.cons pe_str (.cons (pe_fmt (pe_callB call_lenD (by rfl) B.len PySem.boot_len (pa_cons (pe_fld (pv 0) rfl) pa_nil))) (.cons pe_str .nil))))), ?_⟩
    have ek : kvs.length = (names g).length := by
      rw [he.length, ← spG_fst g 0, List.length_map]
    refine ⟨_, rfl, by decide +kernel, _, rfl, p, C, dx, _, _, rfl, i1, T.cl, T.nS, lf_spots _ _, d, kvs, rfl, hk, .inr ⟨_, rfl, ?_, _, rfl, ?_, _, rfl, ?_, ?_⟩⟩
    · rw [ek]
      exact str_n _ h36
    · rw [ek]
      exact lzl (by rw [add_len, add_len]; have := dig_len h36; have : (Str.empty).length = 0 := rfl; have : ("Land(" : Str).length = 5 := (by decide +kernel); omega)
    · rw [ek]
      exact lzl (by rw [add_len, add_len, add_len]; have := dig_len h36; have : (Str.empty).length = 0 := rfl; have : ("Land(" : Str).length = 5 := (by decide +kernel); have : (")" : Str).length = 1 := (by decide +kernel); omega)
    · have e0 : (Str.empty ++ ("Land(" : Str)) = ("Land(" : Str) := by decide +kernel
      rw [ek]
      show Q (.str (Str.empty ++ ("Land(" : Str) ++ _ ++ (")" : Str))) H
      rw [e0]
      exact q
/-! ### str -/
def showV : V → V
  | .non => .str "-"
  | v => v
theorem sum_len {m : Nat} : ∀ {l : List Str}, (∀ z ∈ l, z.length ≤ m) → (l.map (·.length)).sum ≤ l.length * m
  | [], _ => by simp
  | z :: r, h => by
    have h1 := h z List.mem_cons_self
    have h2 := sum_len (m := m) (l := r) fun y hy => h y (List.mem_cons_of_mem _ hy)
    rw [List.map_cons, List.sum_cons, List.length_cons, Nat.succ_mul]
    omega
theorem oV_inj {o u : Option Str} (h : oV o = oV u) : o = u := by
  cases o with
  | none =>
    cases u with
    | none => rfl
    | some z => cases h
  | some y =>
    cases u with
    | none => cases h
    | some z =>
      cases h
      rfl
theorem map_oV_inj : ∀ {r q : Row}, r.map oV = q.map oV → r = q
  | [], [], _ => rfl
  | [], _ :: _, e => by simp at e
  | _ :: _, [], e => by simp at e
  | o :: r, u :: q, e => by
    simp only [List.map_cons, List.cons.injEq] at e
    rw [oV_inj e.1, map_oV_inj e.2]
theorem lines_of {H : Hp} : ∀ {as : List Addr} {g : Grid} {zs : List V}, RowsAt H as g → Each (fun (x z : V) => ∀ (pr : Addr) (row : Row), x = .ref pr → H pr = some (.tup (row.map oV)) → z = .str (lineS row)) (as.map V.ref) zs → zs = (g.map lineS).map V.str
  | [], [], [], _, _ => rfl
  | [], [], _ :: _, _, h => nomatch h
  | [], _ :: _, _, h, _ => nomatch h
  | _ :: _, [], _, h, _ => nomatch h
  | _ :: _, _ :: _, [], _, h => nomatch h
  | a :: as, r :: g, z :: zs, .cons e t, .cons e' t' => by
    rw [e' a r rfl e, lines_of t t']
    rfl
def spLStr (C : Addr) : Sp := fun vs H Q _ => ∃ (p L : Addr) (g : Grid) (wd : Nat), vs = [.ref p] ∧ LandAt C H p L g ∧ Good g wd ∧ ∀ (H' : Hp), Same H H' → Q (.str (landS g)) H'
abbrev nStr : List Str := ["self", "row", "part"]
theorem scStr : FnScope nStr ["self"] (defScope sStr) := ⟨rfl, rfl, rfl, by decide +kernel, rfl, by decide +kernel, by decide +kernel⟩
theorem ok_lstr (F : Fun K "__str__" "Land.__str__" sStr f fd) (T : Txt K mg C) (hlk : ∃ t, mg "LAKE" = some (.str "-" t)) : FnOk P w K mg base CX0 1 f fd ["self"] (spLStr C) := by
  obtain ⟨tl, gl⟩ := hlk
  refine F.ok scStr (fun vs H Q E h => ?_) (fun cdv A outer s H vs Q E hr h => ?_)
  · obtain ⟨p, L, g, wd, rfl, _⟩ := h
    rfl
  · obtain ⟨p, L, g, wd, rfl, ⟨d, dx, i1, _, as, hL, hR⟩, gd, q⟩ := h
    refine ⟨_, pss_one (ps_ret (pe_join pe_str (pe_lc (own := [("row", 1)]) (g := gName 1) (tt := tYes) (te := tM1 (fun x xs H Q => ∃ a p, ∃ ys : List Str, x = .str a ∧ xs = [.ref p] ∧ (SqL K H p (ys.map V.str) ∨ SqT K H p (ys.map V.str)) ∧ (ys.map (·.length)).sum + ys.length * a.length ≤ 16777216 ∧ Q (.str (Txt.join a ys)) H) (tC (.str " ")) (tLc (iTup K (tVar 1)) (gName 2) tYes (tIf (tB (tIsN (tVar 2))) (tC (.str "-")) (tVar 2)) [2])) rfl scStr.nd (pi_tup (pe_fld (pv 0) rfl)) (blkOk_by (N := nStr) (sc := defScope sStr) (by decide +kernel)) (fun _ _ _ _ _ => pg_name (i := 1) scStr.nd rfl (.inl rfl)) (fun _ _ _ _ _ => pts_nil)
      (fun _ _ _ _ _ => pe_join pe_str (pe_lc (own := [("part", 2)]) (g := gName 2) (tt := tYes) rfl scStr.nd (pi_tup (pv 1)) (blkOk_by (N := nStr) (sc := { kind := .function, names := [(".0", .local), ("row", .local)], isGenerator := false, isCoroutine := false }) (by decide +kernel)) (fun _ _ _ _ _ => pg_name (i := 2) scStr.nd rfl (.inl rfl)) (fun _ _ _ _ _ => pts_nil) (fun _ _ _ _ _ => pe_ifExp (pt_cmp (pc_isN (pv 2))) (pe_glob (v := .str "-") (by rfl) gl ⟨_, rfl⟩) (pv 2))))))), ?_⟩
    refine ⟨⟨_, rfl⟩, _, rfl, p, C, dx, _, _, rfl, i1, T.cl, T.nR, lf_rows _ _, L, rfl, ⟨_, .inl (.inl hL)⟩, fun D hD => ?_⟩
    have h6 : as.length ≤ 6 := by rw [hR.length]; exact gd.h6
    refine lc_rel (walk_tup (K := K) (a := L) (xs := as.map V.ref)) hD (fun _ => true) (fun x y _ => ∀ (pr : Addr) (row : Row), x = .ref pr → H pr = some (.tup (row.map oV)) → y = .str (lineS row)) (fun H' s' => .inl (.inl (s' _ _ hL))) (fun _ => rfl) (fun x H' _ _ Q' q' => q') ?_ (fun _ _ _ _ _ _ _ r => r) ?_ ?_
    · intro x H' hx _ s' Q' q'
      obtain ⟨pr, hpr, rfl⟩ := List.mem_map.mp hx
      obtain ⟨i, hi, ei⟩ := List.mem_iff_getElem.mp hpr
      obtain ⟨row, hrow, hH⟩ := hR.get (i := i) (a := pr) (by rw [List.getElem?_eq_getElem hi, ei])
      have hrm := List.mem_of_getElem? hrow
      have hr6 : row.length ≤ 6 := gd.six row hrm
      refine ⟨⟨_, rfl⟩, _, rfl, pr, rfl, ⟨_, .inl (.inl (s' _ _ hH))⟩, fun D2 hD2 => ?_⟩
      refine lc_map (walk_tup (K := K) (a := pr) (xs := row.map oV)) hD2 (fun _ => true) showV (fun H2 s2 => .inl (.inl (s2 _ _ (s' _ _ hH)))) (fun _ => rfl) (fun x H' _ _ Q' q' => q') ?_ ?_ ?_
      · intro x H2 hx2 _ _ Q2 q2
        obtain ⟨o, _, rfl⟩ := List.mem_map.mp hx2
        refine ⟨_, rfl, _, rfl, ?_⟩
        cases o with
        | none => exact iteT q2
        | some z => exact iteF ⟨_, rfl, q2⟩
      · rw [List.length_map]
        exact small1000 (by omega)
      · intro H2 s2 hD3
        have e1 : ((row.map oV).filter fun _ => true).map showV = (row.map partS).map V.str := by
          rw [List.filter_eq_self.mpr fun _ _ => rfl, List.map_map, List.map_map]
          refine List.map_congr_left fun o _ => ?_
          cases o <;> rfl
        rw [e1] at hD3
        refine ⟨_, D2, row.map partS, rfl, rfl, .inl (.inl (.inl hD3)), ?_, q' _ H2 s2 fun pr2 row2 e2 h2 => ?_⟩
        · have := sum_len (l := row.map partS) (m := 8) fun z hz => by
            obtain ⟨o, ho, rfl⟩ := List.mem_map.mp hz
            rw [TL.len_tl]
            exact (part_tl (gd.parts row hrm o ho)).1
          rw [List.length_map] at this ⊢
          have e : (" " : Str).length = 1 := by decide +kernel
          rw [e]
          omega
        · obtain rfl : pr = pr2 := V.ref.inj e2
          rw [hH] at h2
          have : row = row2 := map_oV_inj (HO.tup.inj (Option.some.inj h2))
          rw [← this]
          rfl
    · rw [List.length_map]
      exact small1000 (by omega)
    · intro zs H1 s1 hD1 he
      rw [List.filter_eq_self.mpr fun _ _ => rfl] at he
      have e1 : zs = (g.map lineS).map V.str := lines_of hR he
      rw [e1] at hD1
      refine ⟨_, D, g.map lineS, rfl, rfl, .inl (.inl (.inl hD1)), ?_, q H1 s1⟩
      have := sum_len (l := g.map lineS) (m := 54) fun z hz => by
        obtain ⟨r, hr', rfl⟩ := List.mem_map.mp hz
        exact line_len (gd.parts r hr') (gd.six r hr')
      rw [List.length_map] at this ⊢
      have e : ("\n" : Str).length = 1 := by decide +kernel
      have := gd.h6
      rw [e]
      omega
end
end Wl



namespace Wl
open PySem PySem.Spec PyProof.Rows L2
abbrev sIsWhole : Stmt := topS 22
abbrev sIsNum : Stmt := topS 23
abbrev sCheckW : Stmt := topS 25
abbrev sCheckA : Stmt := topS 49
abbrev sCheckS : Stmt := topS 50
abbrev sKeyOf : Stmt := topS 51
abbrev sGat : Stmt := topS 53
abbrev sGInit : Stmt := inClass sGat 0
abbrev sGPlace : Stmt := inClass sGat 1
abbrev sGPut : Stmt := inClass sGat 2
/-- what was told -/
structure Tel where
  v : Str
  th : Str
  wo : Str
  tl : Str
  age : Nat
  g : Str
  sure : Bool
deriving DecidableEq
def telV (t : Tel) : List V := [.str t.v, .str t.th, .str t.wo, .str t.tl, .int (t.age : Int), .str t.g, .bl t.sure]
def keyV (t : Tel) : List V := [.str t.v, .str t.tl, .str t.th, .str t.g]
structure OkT (t : Tel) : Prop where
  v : IsWd t.v
  th : IsWd t.th
  wo : IsWd t.wo
  tl : IsWd t.tl
  age : t.age ≤ 120
  g : IsWd t.g
def TelsAt (H : Hp) (as : List Addr) (ts : List Tel) : Prop := Each (fun (p : Addr) (t : Tel) => H p = some (.tup (telV t))) as ts
theorem TelsAt.keep {H H' : Hp} {as : List Addr} {ts : List Tel} (h : TelsAt H as ts) (k : TupKeep H H') : TelsAt H' as ts := Each.mono (fun p t e => k p _ e) h
section
variable {P : Program} {w : World} {K : PySem.W.Frag} {mg : Str → Option Value} {base : Heap} {f C : Addr} {fd : FuncData}
structure Bg (mg : Str → Option Value) : Prop where
  bool : mg "bool" = none
  oldest : ∃ t, mg "OLDEST" = some (.int 120 t)
  most : ∃ t, mg "MOST_TELLINGS" = some (.int 200 t)
  dot : ∃ t, mg "DOT" = some (.str "." t)
  doubt : ∃ t, mg "DOUBT" = some (.str "?" t)
/-! ### is_whole, is_number_from -/
def spIsWhole : Sp := fun vs H Q _ => ∃ (n : Int), vs = [.int n] ∧ Q (.bl true) H
theorem scIsWhole : FnScope ["thing"] ["thing"] (defScope sIsWhole) := ⟨rfl, rfl, rfl, by decide +kernel, rfl, by decide +kernel, by decide +kernel⟩
theorem ok_iswhole (F : Fun K "is_whole" "is_whole" sIsWhole f fd) (B : Bi mg) (B2 : Bg mg) : FnOk P w K mg base CX0 1 f fd ["thing"] spIsWhole := by
  refine F.ok scIsWhole (fun vs H Q E h => ?_) (fun cdv A outer s H vs Q E hr h => ?_)
  · obtain ⟨n, rfl, _⟩ := h
    rfl
  · obtain ⟨n, rfl, q⟩ := h
    refine ⟨_, pss_one (ps_ret (pe_and (pe_callB call_isi (by rfl) B.isi (by decide +kernel) (pa_cons (pv 0) (pa_cons (pe_bltn (v := .ty "int") (by rfl) B.int (by decide +kernel) rfl) pa_nil)))
      (pe_one (pe_not (pe_callB call_isi (by rfl) B.isi (by decide +kernel) (pa_cons (pv 0) (pa_cons (pe_bltn (v := .ty "bool") (by rfl) B2.bool (by decide +kernel) rfl) pa_nil))))))), ?_⟩
    refine ⟨_, rfl, _, _, _, _, _, rfl, .ty "int", .base (.int n), kit_ty (r := true) (by decide +kernel), true, rfl, iteT ?_⟩
    exact ⟨_, rfl, _, _, _, _, _, rfl, .ty "bool", .base (.int n), kit_ty (r := false) (by decide +kernel), false, rfl, q⟩
def spIsNum : Sp := fun vs H Q _ => ∃ (n lo hi : Int), vs = [.int n, .int lo, .int hi] ∧ lo ≤ n ∧ n ≤ hi ∧ Q (.bl true) H
theorem scIsNum : FnScope ["thing", "least", "most"] ["thing", "least", "most"] (defScope sIsNum) := ⟨rfl, rfl, rfl, by decide +kernel, rfl, by decide +kernel, by decide +kernel⟩
theorem ok_isnum (F : Fun K "is_number_from" "is_number_from" sIsNum f fd) (hI : Has P w K mg base "is_whole" 1 ["thing"] spIsWhole) : FnOk P w K mg base CX0 2 f fd ["thing", "least", "most"] spIsNum := by
  refine F.ok scIsNum (fun vs H Q E h => ?_) (fun cdv A outer s H vs Q E hr h => ?_)
  · obtain ⟨n, lo, hi, rfl, _⟩ := h
    rfl
  · obtain ⟨n, lo, hi, rfl, h1, h2, q⟩ := h
    refine ⟨_, pss_one (ps_ret (pe_and (pe_h hI hr (pa_cons (pv 0) pa_nil)) (pe_one (pe_chain op_le op_le (pv 1) (pv 0) (pv 2))))), ?_⟩
    refine ⟨_, rfl, n, rfl, true, rfl, iteT ?_⟩
    refine ⟨_, rfl, _, rfl, _, _, rfl, rfl, _, rfl, ?_⟩
    rw [decide_eq_true h1]
    refine iteT ⟨_, rfl, _, _, rfl, rfl, ?_⟩
    show Q (.bl (decide (n ≤ hi))) H
    rw [decide_eq_true h2]
    exact q
/-! ### check_word -/
/-! ### check_age -/
def spCheckA : Sp := fun vs H Q _ => ∃ (n : Nat), vs = [.int (n : Int)] ∧ n ≤ 120 ∧ Q .non H
theorem scCheckA : FnScope ["age"] ["age"] (defScope sCheckA) := ⟨rfl, rfl, rfl, by decide +kernel, rfl, by decide +kernel, by decide +kernel⟩
theorem ok_checka (F : Fun K "check_age" "check_age" sCheckA f fd) (B2 : Bg mg) (hI : Has P w K mg base "is_number_from" 2 ["thing", "least", "most"] spIsNum) : FnOk P w K mg base CX0 3 f fd ["age"] spCheckA := by
  obtain ⟨t, gt⟩ := B2.oldest
  refine F.ok scCheckA (fun vs H Q E h => ?_) (fun cdv A outer s H vs Q E hr h => ?_)
  · obtain ⟨z, rfl, _⟩ := h
    rfl
  · obtain ⟨n, rfl, hn, q⟩ := h
    refine ⟨_, pss_one (ps_if (pt_not (pt_val (pe_h hI hr (pa_cons (pv 0) (pa_cons pe_int (pa_cons (pe_glob (v := .int 120) rfl gt ⟨_, rfl⟩) pa_nil)))))) (pss_one ps_never) pss_nil), ?_⟩
    exact ⟨_, rfl, n, 0, 120, rfl, by omega, by omega, true, rfl, iteF q⟩
/-! ### check_sure -/
def spCheckS : Sp := fun vs H Q _ => ∃ (b : Bool), vs = [.bl b] ∧ Q .non H
theorem scCheckS : FnScope ["sure"] ["sure"] (defScope sCheckS) := ⟨rfl, rfl, rfl, by decide +kernel, rfl, by decide +kernel, by decide +kernel⟩
theorem ok_checks (F : Fun K "check_sure" "check_sure" sCheckS f fd) (B : Bi mg) (B2 : Bg mg) : FnOk P w K mg base CX0 1 f fd ["sure"] spCheckS := by
  refine F.ok scCheckS (fun vs H Q E h => ?_) (fun cdv A outer s H vs Q E hr h => ?_)
  · obtain ⟨z, rfl, _⟩ := h
    rfl
  · obtain ⟨b, rfl, q⟩ := h
    refine ⟨_, pss_one (ps_if (pt_not (pt_val (pe_callB call_isi (by rfl) B.isi (by decide +kernel) (pa_cons (pv 0) (pa_cons (pe_bltn (v := .ty "bool") (by rfl) B2.bool (by decide +kernel) rfl) pa_nil))))) (pss_one ps_never) pss_nil), ?_⟩
    exact ⟨_, rfl, _, _, _, _, _, rfl, .ty "bool", .base (.bl b), kit_ty (r := true) (by decide +kernel), true, rfl, iteF q⟩
/-! ### key_of -/
def spKeyOf : Sp := fun vs H Q _ => ∃ (p : Addr) (t : Tel), vs = [.ref p] ∧ H p = some (.tup (telV t)) ∧ ∀ u, H u = none → Q (.ref u) (upd H u (.tup (keyV t)))
theorem scKeyOf : FnScope ["telling"] ["telling"] (defScope sKeyOf) := ⟨rfl, rfl, rfl, by decide +kernel, rfl, by decide +kernel, by decide +kernel⟩
theorem ok_keyof (F : Fun K "key_of" "key_of" sKeyOf f fd) : FnOk P w K mg base CX0 1 f fd ["telling"] spKeyOf := by
  refine F.ok scKeyOf (fun vs H Q E h => ?_) (fun cdv A outer s H vs Q E hr h => ?_)
  · obtain ⟨p, t, rfl, _⟩ := h
    rfl
  · obtain ⟨p, t, rfl, hp, q⟩ := h
    refine ⟨_, pss_one (ps_ret (pe_tup (pa_cons (pe_ix ix_tup (pv 0) pe_int (fun _ _ => rfl)) (pa_cons (pe_ix ix_tup (pv 0) pe_int (fun _ _ => rfl)) (pa_cons (pe_ix ix_tup (pv 0) pe_int (fun _ _ => rfl)) (pa_cons (pe_ix ix_tup (pv 0) pe_int (fun _ _ => rfl)) pa_nil)))))), ?_⟩
    refine ⟨_, rfl, p, _, _, _, rfl, rfl, .inl (.inl hp), atI_nat (j := 0) rfl, _, rfl, p, _, _, _, rfl, rfl, .inl (.inl hp), atI_nat (j := 3) rfl, _, rfl, p, _, _, _, rfl, rfl, .inl (.inl hp), atI_nat (j := 1) rfl, _, rfl, p, _, _, _, rfl, rfl, .inl (.inl hp), atI_nat (j := 5) rfl, lz, fun u hu => q u hu⟩
end
end Wl



namespace Wl
open PySem PySem.Spec PyProof.Rows L2
/-! A Gathering on the heap. -/
def gf (l t d : Addr) : List (Str × V) := putF "deeds" (.ref d) (putF "told" (.ref t) (putF "land" (.ref l) []))
theorem gf_land (l t d : Addr) : (gf l t d).lookup ("land" : Str) = some (.ref l) := by
  unfold gf
  rw [lookup_putF, if_neg (by decide +kernel), lookup_putF, if_neg (by decide +kernel), lookup_putF, if_pos rfl]
theorem gf_told (l t d : Addr) : (gf l t d).lookup ("told" : Str) = some (.ref t) := by
  unfold gf
  rw [lookup_putF, if_neg (by decide +kernel), lookup_putF, if_pos rfl]
theorem gf_deeds (l t d : Addr) : (gf l t d).lookup ("deeds" : Str) = some (.ref d) := by
  unfold gf
  rw [lookup_putF, if_pos rfl]
theorem gf_no (l t d : Addr) {m : Str} (h1 : ¬ m = "deeds" := by decide +kernel) (h2 : ¬ m = "told" := by decide +kernel) (h3 : ¬ m = "land" := by decide +kernel) : (gf l t d).lookup m = none := by
  unfold gf
  rw [lookup_putF, if_neg h1, lookup_putF, if_neg h2, lookup_putF, if_neg h3]
  rfl
structure GR where
  pl : Addr
  L : Addr
  td : Addr
  dd : Addr
  g : Grid
  as : List Addr
  ts : List Tel
  ds : List V
structure GatAt (C D : Addr) (H : Hp) (p : Addr) (r : GR) : Prop where
  at_ : ∃ dx, H p = some (.ins D dx (gf r.pl r.td r.dd))
  land : LandAt C H r.pl r.L r.g
  told : H r.td = some (.lst (r.as.map V.ref))
  tels : TelsAt H r.as r.ts
  deeds : H r.dd = some (.lst r.ds)
  ne : r.td ≠ r.dd
theorem GatAt.same {C D : Addr} {H H' : Hp} {p : Addr} {r : GR} (h : GatAt C D H p r) (s : Same H H') : GatAt C D H' p r :=
  ⟨let ⟨dx, e⟩ := h.at_; ⟨dx, s _ _ e⟩, h.land.keep (kp_same s), s _ _ h.told, h.tels.keep (tk_same s), s _ _ h.deeds, h.ne⟩
/-- all but what stands at a and b is as it was -/
def Same2 (a b : Addr) (H H' : Hp) : Prop := ∀ c o, c ≠ a → c ≠ b → H c = some o → H' c = some o
theorem Same2.of {a b : Addr} {H H' : Hp} (s : Same H H') : Same2 a b H H' := fun c o _ _ h => s c o h
theorem Same2.trans {a b : Addr} {H H1 H2 : Hp} (s : Same2 a b H H1) (t : Same2 a b H1 H2) : Same2 a b H H2 := fun c o n m h => t c o n m (s c o n m h)
structure TxtG (K : PySem.W.Frag) (mg : Str → Option Value) (D : Addr) : Prop where
  cl : Cls K D
  nL : NoAttr K D "land"
  nT : NoAttr K D "told"
  nD : NoAttr K D "deeds"
  mgD : mg "Gathering" = some (.ref D)
def keyS (t : Tel) : List Str := [t.v, t.tl, t.th, t.g]
theorem keyV_eq (t : Tel) : keyV t = (keyS t).map V.str := rfl
theorem strs_eqv : ∀ a b : List Str, PyData.eqvAll (a.map PyData.str) (b.map PyData.str) = decide (a = b)
  | [], [] => by simp [PyData.eqvAll]
  | [], _ :: _ => by simp [PyData.eqvAll]
  | _ :: _, [] => by simp [PyData.eqvAll]
  | x :: a, y :: b => by
    have e : PyData.eqv (.str x) (.str y) = decide (x = y) := o_eqv (some x) (some y) |>.trans (by simp)
    simp only [List.map_cons, PyData.eqvAll, e, strs_eqv a b, List.cons.injEq]
    by_cases h1 : x = y <;> by_cases h2 : a = b <;> simp [h1, h2]
theorem tup_eqv (a b : List Str) : PyData.eqv (.tuple (a.map PyData.str)) (.tuple (b.map PyData.str)) = decide (a = b) := by
  simp only [PyData.eqv, strs_eqv]
theorem shaped_strs {a : List Str} (h : ∀ z ∈ a, IsWd z) : SeqAt.shaped (.tuple (a.map PyData.str)) = true := shaped_tuple (lay_strs h) (by rw [depth_strs]; omega)
theorem OkT.key {t : Tel} (h : OkT t) : ∀ z ∈ keyS t, IsWd z := fun z hz => by
  simp only [keyS, List.mem_cons, List.not_mem_nil, or_false] at hz
  rcases hz with rfl | rfl | rfl | rfl
  · exact h.v
  · exact h.tl
  · exact h.th
  · exact h.g
section
variable {P : Program} {w : World} {K : PySem.W.Frag} {mg : Str → Option Value} {base : Heap} {f C D : Addr} {fd : FuncData}
theorem land_but {H H' : Hp} {p pl L dx : Addr} {g : Grid} {fs : List (Str × V)} (h : LandAt C H pl L g) (hp : H p = some (.ins D dx fs)) (n : p ≠ pl) (k : ∀ b o, b ≠ p → H b = some o → H' b = some o) : LandAt C H' pl L g := by
  obtain ⟨d, dl, k1, ⟨kvs, k2, k3⟩, k4⟩ := h
  have tk : TupKeep H H' := fun b xs e => k b _ (ne_of e hp (by intro z; cases z)) e
  exact ⟨d, dl, k _ _ n.symm k1, ⟨kvs, k _ _ (ne_of k2 hp (by intro z; cases z)) k2, ent_keep tk k3⟩, k4.keep tk⟩
/-! ### a new one -/
def spGInit (C D : Addr) : Sp := fun vs H Q _ => ∃ (p dx pl L : Addr) (g : Grid), vs = [.ref p, .ref pl] ∧ H p = some (.ins D dx []) ∧ LandAt C H pl L g ∧ p ≠ pl ∧
  ∀ (td dd : Addr) (H' : Hp), H td = none → H dd = none → (∀ b o, b ≠ p → H b = some o → H' b = some o) → GatAt C D H' p ⟨pl, L, td, dd, g, [], [], []⟩ → Q .non H'
theorem scGInit : FnScope ["self", "land"] ["self", "land"] (defScope sGInit) := ⟨rfl, rfl, rfl, by decide +kernel, rfl, by decide +kernel, by decide +kernel⟩
theorem ok_ginit (F : Fun K "__init__" "Gathering.__init__" sGInit f fd) (B : Bi mg) (T : Txt2 K mg C) (TG : TxtG K mg D) : FnOk P w K mg base CX0 1 f fd ["self", "land"] (spGInit C D) := by
  refine F.ok scGInit (fun vs H Q E h => ?_) (fun cdv A outer s H vs Q E hr h => ?_)
  · obtain ⟨p, dx, pl, L, g, rfl, _⟩ := h
    rfl
  · obtain ⟨p, dx, pl, L, g, rfl, hp, hLa, npl, q⟩ := h
    refine ⟨_, pss_cons (ps_if (pt_not (pt_val (pe_callB (C8.call_isC (C := C) T.ins) (by rfl) B.isi (by decide +kernel) (pa_cons (pv 1) (pa_cons (pe_glob (v := .ref C) rfl T.t.mgC rfl) pa_nil))))) (pss_one ps_never) pss_nil)
      (pss_cons (ps_fld (pv 0) (pv 1) rfl) (pss_cons (ps_fld (pv 0) (pe_lst pa_nil) rfl) (pss_one (ps_fld (pv 0) (pe_lst pa_nil) rfl)))), ?_⟩
    obtain ⟨dl, d, i1⟩ := hLa.ins
    refine ⟨_, rfl, pl, dl, _, rfl, i1, true, rfl, iteF ?_⟩
    refine ⟨_, rfl, _, rfl, p, D, dx, [], rfl, hp, TG.cl, TG.nL, (by show 0 < 1000; decide), ?_⟩
    refine ⟨lz, fun td htd => ⟨_, rfl, p, D, dx, putF "land" (.ref pl) [], rfl, (same_new htd) _ _ upd_same, TG.cl, TG.nT, (by show 1 < 1000; decide), ?_⟩⟩
    refine ⟨lz, fun dd hdd => ⟨_, rfl, p, D, dx, putF "told" (.ref td) (putF "land" (.ref pl) []), rfl, (same_new hdd) _ _ upd_same, TG.cl, TG.nD, (by show 2 < 1000; decide), ?_⟩⟩
    have ntp : td ≠ p := fun e => by
      rw [e, upd_same] at htd
      cases htd
    have htd0 : H td = none := by
      rw [upd_ne ntp] at htd
      exact htd
    have ndp : dd ≠ p := fun e => by
      rw [e, upd_same] at hdd
      cases hdd
    have ndt : dd ≠ td := fun e => by
      rw [e, upd_ne ntp, upd_same] at hdd
      cases hdd
    have hdd0 : H dd = none := by
      rw [upd_ne ndp, upd_ne ndt, upd_ne ndp] at hdd
      exact hdd
    have all : ∀ b o, b ≠ p → H b = some o → upd (upd (upd (upd (upd H p (.ins D dx (putF "land" (.ref pl) []))) td (.lst [])) p (.ins D dx (putF "told" (.ref td) (putF "land" (.ref pl) [])))) dd (.lst [])) p (.ins D dx (gf pl td dd)) b = some o := fun b o n e => by
      rw [upd_ne n, upd_ne (ne_of_none e hdd0), upd_ne n, upd_ne (ne_of_none e htd0), upd_ne n]
      exact e
    refine q td dd _ htd0 hdd0 all ⟨⟨dx, upd_same⟩, ?_, ?_, .nil, ?_, ndt.symm⟩
    · exact land_but hLa hp npl all
    · rw [upd_ne ntp, upd_ne ndt.symm, upd_ne ntp, upd_same]
      rfl
    · rw [upd_ne ndp, upd_same]
/-! ### where a key stands -/
def plV (o : Option Nat) : V := match o with
  | some i => .int (i : Int)
  | none => .non
def spGPlace (C D : Addr) : Sp := fun vs H Q _ => ∃ (p kp : Addr) (r : GR) (ks : List Str), vs = [.ref p, .ref kp] ∧ GatAt C D H p r ∧ (∀ t ∈ r.ts, OkT t) ∧ r.ts.length ≤ 200 ∧ H kp = some (.tup (ks.map V.str)) ∧ (∀ z ∈ ks, IsWd z) ∧
  ∀ (H' : Hp), Same H H' → Q (plV (r.ts.findIdx? fun t => decide (keyS t = ks))) H'
abbrev nGPlace : List Str := ["self", "key", "place", "telling"]
theorem scGPlace : FnScope nGPlace ["self", "key"] (defScope sGPlace) := ⟨rfl, rfl, rfl, by decide +kernel, rfl, by decide +kernel, by decide +kernel⟩
theorem find_at {α : Type} {q : α → Bool} {l : List α} {i : Nat} {x : α} (h : l[i]? = some x) (hq : q x = true) (hn : ∀ j y, j < i → l[j]? = some y → q y = false) : l.findIdx? q = some i := by
  rw [List.findIdx?_eq_some_iff_getElem]
  obtain ⟨hi, e⟩ := List.getElem?_eq_some_iff.mp h
  refine ⟨hi, by rw [e]; exact hq, fun j hj => ?_⟩
  rw [hn j _ hj (List.getElem?_eq_getElem (by omega))]
  decide
theorem ok_gplace (F : Fun K "place_of" "Gathering.place_of" sGPlace f fd) (B : Bi mg) (TG : TxtG K mg D) (hK : Has P w K mg base "key_of" 1 ["telling"] spKeyOf) : FnOk P w K mg base CX0 2 f fd ["self", "key"] (spGPlace C D) := by
  refine F.ok scGPlace (fun vs H Q E h => ?_) (fun cdv A outer s H vs Q E hr h => ?_)
  · obtain ⟨p, kp, r, ks, rfl, _⟩ := h
    rfl
  · obtain ⟨p, kp, r, ks, rfl, hG, hok, h200, hk, hkw, q⟩ := h
    refine ⟨_, pss_cons (ps_for PassesOwn.never rfl (pi_enum (by rfl) B.enum (pa_cons (pe_fld (pv 0) rfl) pa_nil)) (pg_tup rfl (pgs_cons (pg_name (i := 2) scGPlace.nd rfl (.inl rfl)) (pgs_cons (pg_name (i := 3) scGPlace.nd rfl (.inl rfl)) pgs_nil)))
        (pss_one (ps_if (pt_cmpR (op_eqD hr.units) (pe_h hK hr (pa_cons (pv 3) pa_nil)) (pv 1) (nomark _)) (pss_one (ps_ret (pv 2))) pss_nil)))
      (pss_one (ps_ret pe_non)), ?_⟩
    obtain ⟨dx, hp⟩ := hG.at_
    refine ⟨_, rfl, p, D, dx, _, _, rfl, hp, TG.cl, TG.nT, gf_told _ _ _, r.td, _, rfl, .inl (.inl hG.told), for_it (walk_enum (K := K) (a := r.td) (xs := r.as.map V.ref)) (fun i σ H' => (∃ y2 y3, σ = [some (.ref p), some (.ref kp), y2, y3]) ∧ Same H H' ∧ ∀ j t, j < i → r.ts[j]? = some t → keyS t ≠ ks)
      ⟨⟨_, _, rfl⟩, Same.refl H, fun j t hj => absurd hj (Nat.not_lt_zero _)⟩ (fun i σ H' _ h => .inl (.inl (h.2.1 _ _ hG.told))) ?_ ?_⟩
    · rintro i x σ H1 H2 hi ⟨⟨y2, y3, rfl⟩, s1, hno⟩ ⟨T, x1, x2, rfl, hT, rfl, ex1, ex2⟩
      have ex1 : (some (V.int (i : Nat)) : Option V) = some x1 := ex1
      cases ex1
      have ex2 : (r.as.map V.ref)[i]? = some x2 := ex2
      rw [List.getElem?_map] at ex2
      obtain ⟨pt, hpt, rfl⟩ := Option.map_eq_some_iff.mp ex2
      obtain ⟨t, ht, hpt1⟩ := Each.get hG.tels hpt
      have okt := hok t (List.mem_of_getElem? ht)
      have sT : Same H1 (upd H1 T (.tup [V.int (i : Nat), .ref pt])) := same_new hT
      refine ⟨T, _, rfl, .inl (.inl upd_same), rfl, _, _, rfl, _, _, rfl, rfl, ?_⟩
      have s2 := s1.trans sT
      generalize upd H1 T (.tup [V.int (i : Nat), .ref pt]) = H2 at s2
      refine ⟨_, rfl, pt, t, rfl, s2 _ _ hpt1, fun u hu => ?_⟩
      have s3 := same_new (o := .tup (keyV t)) hu
      refine ⟨_, rfl, .tuple ((keyS t).map .str), .tuple (ks.map .str), .tup (.inl (.inl upd_same)) (dp_strs (keyS t)), .tup (.inl (.inl (s3 _ _ (s2 _ _ hk)))) (dp_strs ks), shaped_strs okt.key, shaped_strs hkw, _, rfl, ?_⟩
      rw [tup_eqv]
      refine ite_b (fun e => ?_) (fun e => ?_)
      · refine ⟨_, rfl, ?_⟩
        have := q _ (s2.trans s3)
        rw [find_at ht e fun j y hj hy => decide_eq_false (hno j y hj hy)] at this
        exact this
      · refine ⟨⟨_, _, rfl⟩, s2.trans s3, fun j y hj hy => ?_⟩
        by_cases c : j = i
        · subst c
          rw [ht] at hy
          cases hy
          exact of_decide_eq_false e
        · exact hno j y (by omega) hy
    · rintro σ H1 ⟨⟨y2, y3, rfl⟩, s1, hno⟩
      have e : (r.ts.findIdx? fun t => decide (keyS t = ks)) = none := by
        rw [List.findIdx?_eq_none_iff]
        intro t ht
        obtain ⟨j, hj, ej⟩ := List.mem_iff_getElem.mp ht
        refine decide_eq_false (hno j t ?_ (by rw [List.getElem?_eq_getElem hj, ej]))
        rw [List.length_map]
        have := hG.tels.length
        omega
      have := q H1 s1
      rw [e] at this
      exact this
end
end Wl



namespace Wl
open PySem PySem.Spec PyProof.Rows L2
abbrev psPut : List Str := ["self", "village", "thing", "word", "teller", "age", "gatherer", "sure"]
abbrev nPut : List Str := ["self", "village", "thing", "word", "teller", "age", "gatherer", "sure", "key"]
theorem scPut : FnScope nPut psPut (defScope sGPut) := ⟨rfl, rfl, rfl, by decide +kernel, rfl, by decide +kernel, by decide +kernel⟩
def GR.add (r : GR) (q : Addr) (t : Tel) : GR := { r with as := r.as ++ [q], ts := r.ts ++ [t], ds := r.ds ++ [.non] }
section
variable {P : Program} {w : World} {K : PySem.W.Frag} {mg : Str → Option Value} {base : Heap} {f C D : Addr} {fd : FuncData}
/-- put: the last two may be left out -/
abbrev FunP (K : PySem.W.Frag) (f : Addr) (fd : FuncData) : Prop := FunD K "put" "Gathering.put" (defArgs sGPut) (defBody sGPut) (defScope sGPut) [.str "self", .bl true] [] f fd
theorem okD {x qual : Str} {params : Arguments} {body : List Stmt} {scope : Scope} {dvs : List V} {N ps : List Str} {k : Nat} {sp : Sp} (F : FunD K x qual params body scope dvs [] f fd) (S : FnScope N ps scope) (len : ∀ vs H Q E, sp vs H Q E → vs.length = ps.length)
    (hbody : ∀ (cdv : Value) (A : Around) (outer : List Env) (s : Shared) (H : Hp) (vs : List V) (Q : VK) (E : XK), Room k (A.deeper (envOfC qual scope s.heap.objs.size f cdv)) → sp vs H Q E →
      ∃ t, PSs (cxOf CX0 P w K mg base N qual scope f cdv A outer s H E).nox body t ∧ t { nx := fun _ H' => Q .non H', rt := Q } (start N vs) H) : FnOk P w K mg base CX0 (k + 1) f fd ps sp :=
  F.ok S len fun cdv A outer s H vs Q E hr hsp => let ⟨t, h, q⟩ := hbody cdv A outer s H vs Q E hr hsp; ⟨t, h.nox, q⟩
def spPut (C D : Addr) : Sp := fun vs H Q _ => ∃ (p : Addr) (r : GR) (wd : Nat) (t : Tel), vs = .ref p :: telV t ∧ GatAt C D H p r ∧ Good r.g wd ∧ (∀ u ∈ r.ts, OkT u) ∧ OkT t ∧ t.v ∈ names r.g ∧ keyS t ∉ r.ts.map keyS ∧ r.ts.length < 200 ∧ r.ds.length < 1000 ∧
  ∀ (q : Addr) (H' : Hp), H q = none → Same2 r.td r.dd H H' → GatAt C D H' p (r.add q t) → Q .non H'
theorem find_no {l : List Tel} {t : Tel} (h : keyS t ∉ l.map keyS) : (l.findIdx? fun u => decide (keyS u = keyS t)) = none := by
  rw [List.findIdx?_eq_none_iff]
  intro u hu
  exact decide_eq_false fun e => h (List.mem_map.mpr ⟨u, hu, e⟩)
theorem ok_put (F : FunP K f fd) (B : Bi mg) (B2 : Bg mg) (T : Txt K mg C) (TG : TxtG K mg D) (hCk : HasM P w K mg base C "check_name" 2 ["self", "name"] (spCheck C)) (hW : Has P w K mg base "check_word" 2 ["word"] spCheckW)
    (hA : Has P w K mg base "check_age" 3 ["age"] spCheckA) (hS : Has P w K mg base "check_sure" 1 ["sure"] spCheckS) (hP : HasM P w K mg base D "place_of" 2 ["self", "key"] (spGPlace C D)) : FnOk P w K mg base CX0 4 f fd psPut (spPut C D) := by
  obtain ⟨t200, g200⟩ := B2.most
  refine okD F scPut (fun vs H Q E h => ?_) (fun cdv A outer s H vs Q E hr h => ?_)
  · obtain ⟨p, r, wd, t, rfl, _⟩ := h
    rfl
  · obtain ⟨p, r, wd, t, rfl, hG, gd, hok, okt, hv, hnew, h200, hds, q⟩ := h
    refine ⟨_, pss_cons (ps_expr (pe_hm hCk T.cl hr (pe_fld (pv 0) rfl) (pa_cons (pv 1) pa_nil)))
      (pss_cons (ps_expr (pe_h hW hr (pa_cons (pv 2) pa_nil)))
      (pss_cons (ps_expr (pe_h hW hr (pa_cons (pv 3) pa_nil)))
      (pss_cons (ps_expr (pe_h hW hr (pa_cons (pv 4) pa_nil)))
      (pss_cons (ps_expr (pe_h hA hr (pa_cons (pv 5) pa_nil)))
      (pss_cons (ps_expr (pe_h hW hr (pa_cons (pv 6) pa_nil)))
      (pss_cons (ps_expr (pe_h hS hr (pa_cons (pv 7) pa_nil)))
      (pss_cons (ps_set (i := 8) scPut.nd rfl (.inl rfl) (pe_tup (pa_cons (pv 1) (pa_cons (pv 4) (pa_cons (pv 2) (pa_cons (pv 6) pa_nil))))))
      (pss_cons (ps_if (pt_cmp (pc_notN (pe_hm hP TG.cl hr (pv 0) (pa_cons (pv 8) pa_nil)))) (pss_one ps_never) pss_nil)
      (pss_cons (ps_if (pt_cmpR op_ge (pe_callB call_len_seq (by rfl) B.len PySem.boot_len (pa_cons (pe_fld (pv 0) rfl) pa_nil)) (pe_glob (v := .int 200) rfl g200 ⟨_, rfl⟩) (nomark _)) (pss_one ps_never) pss_nil)
      (pss_cons (ps_expr (pe_bm PySem.F.plainAttrs_list PySem.F.slot_list_append PySem.F.type_list_append mt_append (pe_fld (pv 0) rfl) (pa_cons (pe_tup (pa_cons (pv 1) (pa_cons (pv 2) (pa_cons (pv 3) (pa_cons (pv 4) (pa_cons (pv 5) (pa_cons (pv 6) (pa_cons (pv 7) pa_nil)))))))) pa_nil)))
      (pss_one (ps_expr (pe_bm PySem.F.plainAttrs_list PySem.F.slot_list_append PySem.F.type_list_append mt_append (pe_fld (pv 0) rfl) (pa_cons pe_non pa_nil)))))))))))))), ?_⟩
    obtain ⟨dx, hp⟩ := hG.at_
    obtain ⟨dl, d, hl⟩ := hG.land.ins
    refine ⟨_, rfl, p, D, dx, _, _, rfl, hp, TG.cl, TG.nL, gf_land _ _ _, r.pl, dl, _, rfl, hl, fs_no, _, rfl, r.pl, r.L, r.g, wd, t.v, rfl, hG.land, gd, hv, fun H1 s1 => ?_⟩
    refine ⟨_, rfl, t.th, rfl, okt.th, fun H2 s2 => ?_⟩
    refine ⟨_, rfl, t.wo, rfl, okt.wo, fun H3 s3 => ?_⟩
    refine ⟨_, rfl, t.tl, rfl, okt.tl, fun H4 s4 => ?_⟩
    refine ⟨_, rfl, t.age, rfl, okt.age, ?_⟩
    refine ⟨_, rfl, t.g, rfl, okt.g, fun H5 s5 => ?_⟩
    refine ⟨_, rfl, t.sure, rfl, ?_⟩
    have s15 := ((s1.trans s2).trans (s3.trans s4)).trans s5
    refine ⟨_, rfl, _, rfl, _, rfl, _, rfl, lz, fun kp hkp => ?_⟩
    have s6 := same_new (o := .tup [V.str t.v, V.str t.tl, V.str t.th, V.str t.g]) hkp
    have hkp6 : upd H5 kp (.tup [V.str t.v, V.str t.tl, V.str t.th, V.str t.g]) kp = some (.tup ((keyS t).map V.str)) := upd_same
    have s16 := s15.trans s6
    have hG6 := hG.same s16
    generalize upd H5 kp (.tup [V.str t.v, V.str t.tl, V.str t.th, V.str t.g]) = H6 at hkp6 s16 hG6
    obtain ⟨dx6, hp6⟩ := hG6.at_
    refine ⟨_, rfl, p, dx6, _, rfl, hp6, gf_no _ _ _, _, rfl, p, kp, r, keyS t, rfl, hG6, hok, by omega, hkp6, okt.key, fun H7 s7 => ?_⟩
    rw [find_no hnew]
    refine ⟨_, rfl, iteF ?_⟩
    have hG7 := hG6.same s7
    obtain ⟨dx7, hp7⟩ := hG7.at_
    have hlen : r.as.length = r.ts.length := hG.tels.length
    refine ⟨_, rfl, p, D, dx7, _, _, rfl, hp7, TG.cl, TG.nT, gf_told _ _ _, r.td, _, rfl, .inl (.inl (.inl hG7.told)), _, _, rfl, rfl, _, rfl, ?_⟩
    have hno : decide ((200 : Int) ≤ ((r.as.map V.ref).length : Int)) = false := decide_eq_false (by rw [List.length_map]; omega)
    rw [hno]
    refine iteF ⟨_, rfl, p, D, dx7, _, _, rfl, hp7, TG.cl, TG.nT, gf_told _ _ _, .inl ⟨rfl, _, .inl (.inl hG7.told)⟩, _, rfl, _, rfl, _, rfl, _, rfl, _, rfl, _, rfl, _, rfl, lz, fun qa hqa => ?_⟩
    have s8 := same_new (o := .tup [V.str t.v, V.str t.th, V.str t.wo, V.str t.tl, V.int (t.age : Int), V.str t.g, V.bl t.sure]) hqa
    have hG8 := hG7.same s8
    have hqa8 : upd H7 qa (.tup [V.str t.v, V.str t.th, V.str t.wo, V.str t.tl, V.int (t.age : Int), V.str t.g, V.bl t.sure]) qa = some (.tup (telV t)) := upd_same
    have s18 := s16.trans (s7.trans s8)
    have hqa0 : H qa = none := (s16.trans s7).free hqa
    refine ⟨r.td, _, _, rfl, rfl, hG8.told, by rw [List.length_map]; exact small1000 (by omega), ?_⟩
    obtain ⟨dx8, hp8⟩ := hG8.at_
    have hd8 := hG8.deeds
    have ht8 := hG8.told
    generalize upd H7 qa (.tup [V.str t.v, V.str t.th, V.str t.wo, V.str t.tl, V.int (t.age : Int), V.str t.g, V.bl t.sure]) = H8 at hG8 hqa8 s18 hp8 hd8 ht8
    have k9 : Keep H8 (upd H8 r.td (.lst (r.as.map V.ref ++ [.ref qa]))) := kp_upd ht8
    have hp9 := k9 _ _ (fun xs e => by cases e) hp8
    have hd9 : upd H8 r.td (.lst (r.as.map V.ref ++ [.ref qa])) r.dd = some (.lst r.ds) := by
      rw [upd_ne hG.ne.symm]
      exact hd8
    have ht9 : upd H8 r.td (.lst (r.as.map V.ref ++ [.ref qa])) r.td = some (.lst (r.as.map V.ref ++ [.ref qa])) := upd_same
    have m9 : Same2 r.td r.dd H8 (upd H8 r.td (.lst (r.as.map V.ref ++ [.ref qa]))) := fun c o n _ e => by
      rw [upd_ne n]
      exact e
    generalize upd H8 r.td (.lst (r.as.map V.ref ++ [.ref qa])) = H9 at k9 hp9 hd9 ht9 m9
    refine ⟨_, rfl, p, D, dx8, _, _, rfl, hp9, TG.cl, TG.nD, gf_deeds _ _ _, .inl ⟨rfl, _, .inl (.inl hd9)⟩, r.dd, _, _, rfl, rfl, hd9, small1000 (by omega), ?_⟩
    have k10 : Keep H9 (upd H9 r.dd (.lst (r.ds ++ [.non]))) := kp_upd hd9
    have kk := k9.trans k10
    refine q qa _ hqa0 ?_ ⟨⟨dx8, k10 _ _ (fun xs e => by cases e) hp9⟩, hG8.land.keep kk, ?_, ?_, upd_same, hG.ne⟩
    · refine (Same2.of s18).trans (m9.trans fun c o _ n e => ?_)
      rw [upd_ne n]
      exact e
    · show upd H9 r.dd (.lst (r.ds ++ [.non])) r.td = some (.lst ((r.as ++ [qa]).map V.ref))
      rw [upd_ne hG.ne, ht9, List.map_append]
      rfl
    · exact Each.append (hG8.tels.keep kk.tk) (.cons (kk.tk _ _ hqa8) .nil)
end
end Wl



namespace Wl
open PySem PySem.Spec PyProof.Rows L2
/-! o.m(e, .., k = v, ..) of a method that may leave some out. -/
def tMethN (C : Addr) (m : Str) (n j : Nat) (sp : Sp) (gV : List V → List V → List V) (E : XK) (ta : TE) (t tk : TA) : TE := fun σ H Q => ta σ H fun x H1 =>
  ∃ a dx fs, x = .ref a ∧ H1 a = some (.ins C dx fs) ∧ fs.lookup m = none ∧ t σ H1 fun vs H2 => tk σ H2 fun zs H3 => vs.length = n ∧ zs.length = j ∧ sp (gV (.ref a :: vs) zs) H3 Q E
section
variable {X : Cx} {CX : CXT} {k n : Nat} {f C : Addr} {fd : FuncData} {ps ks : List Str} {sp : Sp} {E : XK} {m : Str} {pos apos : Pos} {o e : Expr} {es : List Expr} {kws : List Keyword} {ta : TE} {t tk : TA} {pl : Sem Bool} {g : List Value → List Value → List Value} {gV : List V → List V → List V}
theorem pe_methN0 (he : PE X o ta) (c : Cls X.K C) (hm : Meth X.K C m f) (F : FnOk X.prog X.w X.K X.mg X.base CX k f fd ps sp) (hr : Room k X.A) (hb : KBn X.K fd ps 1 ks g gV) (hx : Passes CX X E) (hkw : PK X kws tk)
    (hall : (backToKw pos (keywordEach kws X.env)).all (·.1.isSome) = true := by rfl) (hks : (backToKw pos (keywordEach kws X.env)).filterMap (·.1) = ks := by rfl)
    (hpl : ((backTo pos (starEach [] X.env)).any (·.1) || (backToKw pos (keywordEach kws X.env)).any (·.1.isNone)) = false := by rfl)
    (ht : eval (.Call (.Attribute o m apos) [] kws pos) X.env = (do
      let ov ← eval o X.env
      standAt apos.atName
      let (f, first) ← holding [ov] (getMethod ov m pl)
      callWith pos f first (backTo pos (starEach [] X.env)) (backToKw pos (keywordEach kws X.env))) := by rfl) :
    PE X (.Call (.Attribute o m apos) [] kws pos) (tMethN C m 0 ks.length sp gV E ta tNil tk) := by
  refine ⟨fun pins s σ H Q I h => ?_⟩
  refine PySem.W.methodCall_KW (pl := pl) (thn (he.run pins s σ H _ I h) fun u s1 ⟨x, H1, I1, rx, a, dx, fs, ex, ea, l, q⟩ => ?_) ht
  subst ex
  obtain rfl : u = Value.ref a := rx
  refine getmeth_ok I1 ea c hm l ?_
  refine PySem.W.callWith_KW0 (first := [.ref a]) (h₀ := X.base) I.ok.mod.kin hm.kp hall (thn (hkw.run pos pins s1 σ H1 _ I1 q) fun ws s2 ⟨zs, H2, I2, rz, _, l2, q2⟩ => ⟨I2.kIn, ?_⟩) hpl
  rw [hks]
  exact run_fnN (us := [.ref a]) (vs := [.ref a]) F hr hb hx I2 (.cons rfl .nil) rz rfl l2 q2
theorem pe_methN (he : PE X o ta) (c : Cls X.K C) (hm : Meth X.K C m f) (F : FnOk X.prog X.w X.K X.mg X.base CX k f fd ps sp) (hr : Room k X.A) (hb : KBn X.K fd ps (n + 1) ks g gV) (hx : Passes CX X E) (ha : PA X (e :: es) t) (hkw : PK X kws tk)
    (hall : (backToKw pos (keywordEach kws X.env)).all (·.1.isSome) = true := by rfl) (hks : (backToKw pos (keywordEach kws X.env)).filterMap (·.1) = ks := by rfl)
    (hst : starEach (e :: es) X.env = (false, eval e X.env) :: starEach es X.env := by rfl)
    (hpl : ((backTo pos (starEach (e :: es) X.env)).any (·.1) || (backToKw pos (keywordEach kws X.env)).any (·.1.isNone)) = false := by rfl)
    (ht : eval (.Call (.Attribute o m apos) (e :: es) kws pos) X.env = (do
      let ov ← eval o X.env
      standAt apos.atName
      let (f, first) ← holding [ov] (getMethod ov m pl)
      callWith pos f first (backTo pos (starEach (e :: es) X.env)) (backToKw pos (keywordEach kws X.env))) := by rfl) :
    PE X (.Call (.Attribute o m apos) (e :: es) kws pos) (tMethN C m n ks.length sp gV E ta t tk) := by
  refine ⟨fun pins s σ H Q I h => ?_⟩
  refine PySem.W.methodCall_KW (pl := pl) (thn (he.run pins s σ H _ I h) fun u s1 ⟨x, H1, I1, rx, a, dx, fs, ex, ea, l, q⟩ => ?_) ht
  subst ex
  obtain rfl : u = Value.ref a := rx
  refine getmeth_ok I1 ea c hm l ?_
  refine PySem.W.callWith_KW (first := [.ref a]) (h₀ := X.base) I.ok.mod.kin hm.kp hall (thn (ha.run pos pins s1 σ H1 _ I1 q) fun us s2 ⟨vs, H2, I2, r, q2⟩ => ?_) hpl hst
  refine thn (hkw.run pos pins s2 σ H2 _ I2 q2) fun ws s3 ⟨zs, H3, I3, rz, l1, l2, q3⟩ => ⟨I3.kIn, ?_⟩
  rw [hks]
  exact run_fnN (us := .ref a :: us) (vs := .ref a :: vs) F hr hb hx I3 (.cons rfl r) rz (by rw [List.length_cons, l1]) l2 q3
end
/-! the ways to call put -/
/-- age, village, gatherer, word, teller, thing; sure left out -/
def gP1 {α : Type} : List α → List α → List α → List α
  | [s], [_, b], [ag, v, g, w, tl, th] => [s, v, th, w, tl, ag, g, b]
  | _, _, _ => []
/-- five by place, sure by name -/
def gP2 {α : Type} : List α → List α → List α → List α
  | [s, v, th, w, tl, ag], [g, _], [b] => [s, v, th, w, tl, ag, g, b]
  | _, _, _ => []
/-- all by name: sure, gatherer, age, teller, word, thing, village -/
def gP3 {α : Type} : List α → List α → List α → List α
  | [s], [_, _], [b, g, ag, tl, w, th, v] => [s, v, th, w, tl, ag, g, b]
  | _, _, _ => []
theorem gP1_rel {vs ds zs : List V} {us its ws : List Value} (r1 : Vals vs us) (r2 : Vals ds its) (r3 : Vals zs ws) : Vals (gP1 vs ds zs) (gP1 us its ws) := by
  rcases r1 with _ | ⟨a1, _ | ⟨_, _⟩⟩
  · exact .nil
  · rcases r2 with _ | ⟨b1, _ | ⟨b2, _ | ⟨_, _⟩⟩⟩
    · exact .nil
    · exact .nil
    · rcases r3 with _ | ⟨c1, _ | ⟨c2, _ | ⟨c3, _ | ⟨c4, _ | ⟨c5, _ | ⟨c6, _ | ⟨_, _⟩⟩⟩⟩⟩⟩⟩
      all_goals first | exact .nil | exact .cons a1 (.cons c2 (.cons c6 (.cons c4 (.cons c5 (.cons c1 (.cons c3 (.cons b2 .nil)))))))
    · exact .nil
  · exact .nil
theorem gP2_rel {vs ds zs : List V} {us its ws : List Value} (r1 : Vals vs us) (r2 : Vals ds its) (r3 : Vals zs ws) : Vals (gP2 vs ds zs) (gP2 us its ws) := by
  rcases r1 with _ | ⟨a1, _ | ⟨a2, _ | ⟨a3, _ | ⟨a4, _ | ⟨a5, _ | ⟨a6, _ | ⟨_, _⟩⟩⟩⟩⟩⟩⟩
  all_goals first | exact .nil | skip
  rcases r2 with _ | ⟨b1, _ | ⟨b2, _ | ⟨_, _⟩⟩⟩
  all_goals first | exact .nil | skip
  rcases r3 with _ | ⟨c1, _ | ⟨_, _⟩⟩
  all_goals first | exact .nil | exact .cons a1 (.cons a2 (.cons a3 (.cons a4 (.cons a5 (.cons a6 (.cons b1 (.cons c1 .nil)))))))
theorem gP3_rel {vs ds zs : List V} {us its ws : List Value} (r1 : Vals vs us) (r2 : Vals ds its) (r3 : Vals zs ws) : Vals (gP3 vs ds zs) (gP3 us its ws) := by
  rcases r1 with _ | ⟨a1, _ | ⟨_, _⟩⟩
  all_goals first | exact .nil | skip
  rcases r2 with _ | ⟨b1, _ | ⟨b2, _ | ⟨_, _⟩⟩⟩
  all_goals first | exact .nil | skip
  rcases r3 with _ | ⟨c1, _ | ⟨c2, _ | ⟨c3, _ | ⟨c4, _ | ⟨c5, _ | ⟨c6, _ | ⟨c7, _ | ⟨_, _⟩⟩⟩⟩⟩⟩⟩⟩
  all_goals first | exact .nil | exact .cons a1 (.cons c7 (.cons c6 (.cons c5 (.cons c4 (.cons c3 (.cons c2 (.cons c1 .nil)))))))
section
variable {K : PySem.W.Frag} {f : Addr} {fd : FuncData}
theorem put_b8 (F : FunP K f fd) : Binds K fd psPut [] := by
  obtain ⟨ds, h1, h2⟩ := F.binds1 (ps := psPut) 8 2 (by simp) rfl (fun T kV doc pm an cdv ct us its l1 l2 => by
      match us, its, l1, l2 with
      | [_, _, _, _, _, _, _, _], [_, _], _, _ => exact ⟨_, rfl, rfl⟩)
  cases h1
  exact h2
theorem put_b6 (F : FunP K f fd) : ∃ ds, Vals [V.str "self", V.bl true] ds ∧ Binds K fd psPut ds :=
  F.binds1 (ps := psPut) 6 0 (by simp) rfl (fun T kV doc pm an cdv ct us its l1 l2 => by
      match us, its, l1, l2 with
      | [_, _, _, _, _, _], [_, _], _, _ => exact ⟨_, rfl, rfl⟩)
theorem put_k1 (F : FunP K f fd) : ∃ its : List Value, KBn K fd psPut 1 ["age", "village", "gatherer", "word", "teller", "thing"] (fun us ws => gP1 us its ws) (fun vs zs => gP1 vs [.str "self", .bl true] zs) :=
  F.kbindsD 1 _ gP1 (by simp) gP1_rel (fun T kV doc pm an cdv ct us its ws l1 l2 l3 => by
      match us, its, ws, l1, l2, l3 with
      | [_], [_, _], [_, _, _, _, _, _], _, _, _ => exact ⟨_, rfl, rfl⟩)
theorem put_k2 (F : FunP K f fd) : ∃ its : List Value, KBn K fd psPut 6 ["sure"] (fun us ws => gP2 us its ws) (fun vs zs => gP2 vs [.str "self", .bl true] zs) :=
  F.kbindsD 6 _ gP2 (by simp) gP2_rel (fun T kV doc pm an cdv ct us its ws l1 l2 l3 => by
      match us, its, ws, l1, l2, l3 with
      | [_, _, _, _, _, _], [_, _], [_], _, _, _ => exact ⟨_, rfl, rfl⟩)
theorem put_k3 (F : FunP K f fd) : ∃ its : List Value, KBn K fd psPut 1 ["sure", "gatherer", "age", "teller", "word", "thing", "village"] (fun us ws => gP3 us its ws) (fun vs zs => gP3 vs [.str "self", .bl true] zs) :=
  F.kbindsD 1 _ gP3 (by simp) gP3_rel (fun T kV doc pm an cdv ct us its ws l1 l2 l3 => by
      match us, its, ws, l1, l2, l3 with
      | [_], [_, _], [_, _, _, _, _, _, _], _, _, _ => exact ⟨_, rfl, rfl⟩)
end
end Wl



/-! Texts each once, as first met; dicts by texts. -/
namespace Wl
open PySem PySem.Spec PyProof.Rows L2
def addK (acc : List Str) (z : Str) : List Str := if z ∈ acc then acc else acc ++ [z]
def keysOf (l : List Str) : List Str := l.foldl addK []
theorem keysOf_snoc (l : List Str) (z : Str) : keysOf (l ++ [z]) = addK (keysOf l) z := by
  unfold keysOf
  rw [List.foldl_append]
  rfl
theorem mem_addK {acc : List Str} {z y : Str} : y ∈ addK acc z ↔ y ∈ acc ∨ y = z := by
  unfold addK
  split
  · constructor
    · exact .inl
    · rintro (h | rfl) <;> assumption
  · simp
theorem foldK_mem {y : Str} : ∀ {l acc : List Str}, y ∈ l.foldl addK acc ↔ y ∈ acc ∨ y ∈ l
  | [], acc => by simp
  | z :: l, acc => by
    rw [List.foldl_cons, foldK_mem (l := l), mem_addK, List.mem_cons]
    constructor
    · rintro ((h | h) | h)
      · exact .inl h
      · exact .inr (.inl h)
      · exact .inr (.inr h)
    · rintro (h | h | h)
      · exact .inl (.inl h)
      · exact .inl (.inr h)
      · exact .inr h
theorem mem_keysOf {l : List Str} {y : Str} : y ∈ keysOf l ↔ y ∈ l := by
  unfold keysOf
  rw [foldK_mem]
  simp
theorem addK_nodup {acc : List Str} {z : Str} (h : acc.Nodup) : (addK acc z).Nodup := by
  unfold addK
  split
  · exact h
  · rename_i n
    rw [List.nodup_append]
    exact ⟨h, by simp, fun a ha b hb e => n (by rw [List.mem_singleton.mp hb] at e; exact e ▸ ha)⟩
theorem foldK_nodup : ∀ {l acc : List Str}, acc.Nodup → (l.foldl addK acc).Nodup
  | [], _, h => h
  | _ :: l, _, h => foldK_nodup (l := l) (addK_nodup h)
theorem keysOf_nodup (l : List Str) : (keysOf l).Nodup := foldK_nodup List.nodup_nil
theorem addK_len (acc : List Str) (z : Str) : (addK acc z).length ≤ acc.length + 1 := by
  unfold addK
  split
  · omega
  · simp
theorem foldK_len : ∀ (l acc : List Str), (l.foldl addK acc).length ≤ acc.length + l.length
  | [], acc => by simp
  | z :: l, acc => by
    have h1 := foldK_len l (addK acc z)
    have h2 := addK_len acc z
    rw [List.foldl_cons, List.length_cons]
    omega
theorem keysOf_len (l : List Str) : (keysOf l).length ≤ l.length := by
  have := foldK_len l []
  simpa [keysOf] using this
/-- the pairs of a dict whose keys are these texts -/
def kvZ (ad : Str → V) (l : List Str) : List (Key × V) := l.map fun z => (Sum.inr z, ad z)
theorem valV_kvZ (ad : Str → V) (z : Str) : ∀ l : List Str, valV (kvZ ad l) (Sum.inr z : Key) = if z ∈ l then some (ad z) else none
  | [] => rfl
  | d :: r => by
    by_cases h : d = z
    · subst h
      rw [if_pos List.mem_cons_self]
      exact valV_pos rfl
    · have h1 : valV (kvZ ad (d :: r)) (Sum.inr z : Key) = valV (kvZ ad r) (Sum.inr z : Key) := valV_neg fun e => h (Sum.inr.inj e)
      rw [h1, valV_kvZ ad z r]
      have h2 : (z ∈ d :: r) = (z ∈ r) := by
        simp only [List.mem_cons, eq_iff_iff]
        constructor
        · rintro (e | e)
          · exact absurd e.symm h
          · exact e
        · exact .inr
      simp only [h2]
theorem valV_in {ad : Str → V} {z : Str} {l : List Str} (h : z ∈ l) : valV (kvZ ad l) (Sum.inr z : Key) = some (ad z) := by
  rw [valV_kvZ, if_pos h]
theorem valV_out {ad : Str → V} {z : Str} {l : List Str} (h : z ∉ l) : valV (kvZ ad l) (Sum.inr z : Key) = none := by
  rw [valV_kvZ, if_neg h]
theorem kvZ_congr {a b : Str → V} {l : List Str} (h : ∀ c ∈ l, a c = b c) : kvZ a l = kvZ b l := List.map_congr_left fun c hc => by rw [h c hc]
theorem kvZ_keys (ad : Str → V) (l : List Str) : (kvZ ad l).map (fun kv => kV kv.1) = l.map V.str := by
  unfold kvZ
  rw [List.map_map]
  rfl
theorem kvZ_len (ad : Str → V) (l : List Str) : (kvZ ad l).length = l.length := List.length_map _
theorem sortS_nodup {l : List Str} (h : l.Nodup) : (sortS l).Nodup := (List.mergeSort_perm l leB).nodup_iff.mpr h
end Wl

namespace Wl
open PySem PySem.Spec PyProof.Rows L2
abbrev sGTell : Stmt := inClass sGat 6
abbrev sCheckG : Stmt := topS 54
abbrev sSum : Stmt := topS 57
abbrev sByV : Stmt := topS 58
/-- what was told of a word: rows that begin with these words -/
def RowsT (H : Hp) (t : Addr) (ws : List Str) : Prop := ∃ as : List Addr, H t = some (.tup (as.map V.ref)) ∧ Each (fun (p : Addr) (z : Str) => ∃ a b n : Int, H p = some (.tup [.str z, .int a, .int b, .int n])) as ws
theorem RowsT.keep {H H' : Hp} {t : Addr} {ws : List Str} (h : RowsT H t ws) (k : TupKeep H H') : RowsT H' t ws := by
  obtain ⟨as, h1, h2⟩ := h
  exact ⟨as, k _ _ h1, h2.mono fun p z ⟨a, b, n, e⟩ => ⟨a, b, n, k _ _ e⟩⟩
noncomputable def wordsIn (chs : List Chg) (ts : List Tel) : List Str := sortS (keysOf (ts.map fun t => mean chs t.wo))
theorem mem_wordsIn {chs : List Chg} {ts : List Tel} {z : Str} : z ∈ wordsIn chs ts ↔ ∃ t ∈ ts, mean chs t.wo = z := by
  unfold wordsIn
  rw [mem_sortS, mem_keysOf, List.mem_map]
section
variable {P : Program} {w : World} {K : PySem.W.Frag} {mg : Str → Option Value} {base : Heap} {f C D : Addr} {fd : FuncData}
/-! ### tellings, as put in -/
abbrev FunT (K : PySem.W.Frag) (f : Addr) (fd : FuncData) : Prop := FunD K "tellings" "Gathering.tellings" (defArgs sGTell) (defBody sGTell) (defScope sGTell) [.non] [] f fd
def spTell (C D : Addr) : Sp := fun vs H Q _ => ∃ (p : Addr) (r : GR), vs = [.ref p, .non] ∧ GatAt C D H p r ∧ ∀ (l : Addr), H l = none → Q (.ref l) (upd H l (.lst (r.as.map V.ref)))
theorem scTell : FnScope ["self", "keying"] ["self", "keying"] (defScope sGTell) := ⟨rfl, rfl, rfl, by decide +kernel, rfl, by decide +kernel, by decide +kernel⟩
theorem tell_b1 (F : FunT K f fd) : ∃ ds, Vals [V.non] ds ∧ Binds K fd ["self", "keying"] ds :=
  F.binds1 (ps := ["self", "keying"]) 1 0 (by simp) rfl (fun T kV doc pm an cdv ct us its l1 l2 => by
      match us, its, l1, l2 with
      | [_], [_], _, _ => exact ⟨_, rfl, rfl⟩)
theorem ok_tell (F : FunT K f fd) (B : Bi mg) (TG : TxtG K mg D) : FnOk P w K mg base CX0 1 f fd ["self", "keying"] (spTell C D) := by
  refine okD F scTell (fun vs H Q E h => ?_) (fun cdv A outer s H vs Q E hr h => ?_)
  · obtain ⟨p, r, rfl, _⟩ := h
    rfl
  · obtain ⟨p, r, rfl, hG, q⟩ := h
    refine ⟨_, pss_cons (ps_if (pt_cmp (pc_isN (pv 1))) (pss_one (ps_ret (pe_callTy call_list_of (by rfl) B.list (by decide +kernel) (pa_cons (pe_fld (pv 0) rfl) pa_nil)))) pss_nil) (pss_one ps_never), ?_⟩
    obtain ⟨dx, hp⟩ := hG.at_
    exact ⟨_, rfl, _, rfl, iteT ⟨_, rfl, p, D, dx, _, _, rfl, hp, TG.cl, TG.nT, gf_told _ _ _, r.td, _, rfl, .inl (.inl (.inl hG.told)), q⟩⟩
/-! ### check_gathering -/
def spCheckG (C D : Addr) : Sp := fun vs H Q _ => ∃ (p : Addr) (r : GR), vs = [.ref p] ∧ GatAt C D H p r ∧ Q .non H
theorem scCheckG : FnScope ["thing"] ["thing"] (defScope sCheckG) := ⟨rfl, rfl, rfl, by decide +kernel, rfl, by decide +kernel, by decide +kernel⟩
theorem ok_checkg (F : Fun K "check_gathering" "check_gathering" sCheckG f fd) (B : Bi mg) (TG : TxtG K mg D) (ins : C8.InsC K D) : FnOk P w K mg base CX0 1 f fd ["thing"] (spCheckG C D) := by
  refine F.ok scCheckG (fun vs H Q E h => ?_) (fun cdv A outer s H vs Q E hr h => ?_)
  · obtain ⟨p, r, rfl, _⟩ := h
    rfl
  · obtain ⟨p, r, rfl, hG, q⟩ := h
    refine ⟨_, pss_one (ps_if (pt_not (pt_val (pe_callB (C8.call_isC (C := D) ins) (by rfl) B.isi (by decide +kernel) (pa_cons (pv 0) (pa_cons (pe_glob (v := .ref D) rfl TG.mgD rfl) pa_nil))))) (pss_one ps_never) pss_nil), ?_⟩
    obtain ⟨dx, hp⟩ := hG.at_
    exact ⟨_, rfl, p, dx, _, rfl, hp, true, rfl, iteF q⟩
/-! ### summed_up -/
structure AgesI (H0 H : Hp) (d : Addr) (ks : List Str) (ad : Str → Addr) (m : Nat) : Prop where
  dict : H d = some (.dK (kvZ (fun z => .ref (ad z)) ks))
  lst : ∀ z ∈ ks, ∃ ns : List Int, H (ad z) = some (.lst (ns.map V.int)) ∧ ns ≠ [] ∧ ns.length ≤ m
  inj : ∀ z ∈ ks, ∀ y ∈ ks, ad z = ad y → z = y
  new : ∀ z ∈ ks, H0 (ad z) = none
theorem AgesI.same {H0 H H' : Hp} {d : Addr} {ks : List Str} {ad : Str → Addr} {m : Nat} (h : AgesI H0 H d ks ad m) (s : Same H H') : AgesI H0 H' d ks ad m :=
  ⟨s _ _ h.dict, fun z hz => let ⟨ns, e, k⟩ := h.lst z hz; ⟨ns, s _ _ e, k⟩, h.inj, h.new⟩
def spSum : Sp := fun vs H Q _ => ∃ (l S : Addr) (as : List Addr) (ts : List Tel) (chs : List Chg), vs = [.ref l, .ref S] ∧ H l = some (.lst (as.map V.ref)) ∧ TelsAt H as ts ∧ (∀ t ∈ ts, OkT t) ∧ ts.length ≤ 200 ∧ ChAt H S chs ∧ OkCs chs ∧
  ∀ (t : Addr) (H' : Hp), Same H H' → RowsT H' t (wordsIn chs ts) → Q (.ref t) H'
abbrev nSum : List Str := ["tellings", "changes", "ages", "telling", "word"]
theorem scSum : FnScope nSum ["tellings", "changes"] (defScope sSum) := ⟨rfl, rfl, rfl, by decide +kernel, rfl, by decide +kernel, by decide +kernel⟩
theorem ok_sum (F : Fun K "summed_up" "summed_up" sSum f fd) (B : Bi mg) (hM : HasN P w K mg base "meaning" wMean 5 ps2 spMean) : FnOk P w K mg base CX0 6 f fd ["tellings", "changes"] spSum := by
  obtain ⟨fM, fdM, FM, mM, NM⟩ := hM
  have bM := bindM2 NM
  refine F.ok scSum (fun vs H Q E h => ?_) (fun cdv A outer s H vs Q E hr h => ?_)
  · obtain ⟨l, S, as, ts, chs, rfl, _⟩ := h
    rfl
  · obtain ⟨l, S, as, ts, chs, rfl, hl, hT, hok, h200, hS, okc, q⟩ := h
    have hu := hu_of hr
    refine ⟨_, pss_cons (ps_set (i := 2) scSum.nd rfl (.inr rfl) pe_dnewK)
      (pss_cons (ps_for PassesOwn.never rfl (pi_list (pv 0)) (pg_name (i := 3) scSum.nd rfl (.inl rfl))
        (pss_cons (ps_set (i := 4) scSum.nd rfl (.inl rfl) (pe_call FM hr rfl mM NM.kp bM .nil pass0 (pa_cons (pe_ix ix_tup (pv 3) pe_int (fun _ _ => rfl)) (pa_cons (pv 1) pa_nil))))
        (pss_cons (ps_if (pt_cmp (pc_dnotin hu (pv 4) (pv 2))) (pss_one (ps_dput hu (pv 2) (pv 4) (pe_lst pa_nil) rfl)) pss_nil)
        (pss_one (ps_expr (pe_bm PySem.F.plainAttrs_list PySem.F.slot_list_append PySem.F.type_list_append mt_append (pe_dget hu (pv 2) (pv 4) (fun _ _ => rfl)) (pa_cons (pe_ix ix_tup (pv 3) pe_int (fun _ _ => rfl)) pa_nil)))))))
      (pss_one (ps_ret (pe_callTy call_tuple_of (by rfl) B.tuple (by decide +kernel) (pa_cons (pe_lc (own := [("word", 4)]) (g := gName 4) (tt := tYes)
        (te := tTup (tCons (tVar 4) (tCons (tCB (rMin K) (tCons (tDGet (tVar 2) (tVar 4)) tNil)) (tCons (tCB (rMax K) (tCons (tDGet (tVar 2) (tVar 4)) tNil)) (tCons (tCB (fun xs H Q => ∃ p ys, xs = [.ref p] ∧ ((SqL K H p ys) ∨ SqT K H p ys) ∧ Q (.int ys.length) H) (tCons (tDGet (tVar 2) (tVar 4)) tNil)) tNil)))))
        rfl scSum.nd (pi_list (pe_callB (cr_sortD hr.units) (by rfl) B.sorted (by decide +kernel) (pa_cons (pe_callTy (call_list_dK rfl) (by rfl) B.list (by decide +kernel) (pa_cons (pv 2) pa_nil)) pa_nil))) (blkOk_by (N := nSum) (sc := defScope sSum) (by decide +kernel)) (fun _ _ _ _ _ => pg_name (i := 4) scSum.nd rfl (.inl rfl)) (fun _ _ _ _ _ => pts_nil)
        (fun _ _ _ _ _ => pe_tup (pa_cons (pv 4) (pa_cons (pe_callB (cr_min rfl) (by rfl) B.min (by decide +kernel) (pa_cons (pe_dget hu (pv 2) (pv 4) (fun _ _ => rfl)) pa_nil)) (pa_cons (pe_callB (cr_max rfl) (by rfl) B.max (by decide +kernel) (pa_cons (pe_dget hu (pv 2) (pv 4) (fun _ _ => rfl)) pa_nil)) (pa_cons (pe_callB call_len_seq (by rfl) B.len PySem.boot_len (pa_cons (pe_dget hu (pv 2) (pv 4) (fun _ _ => rfl)) pa_nil)) pa_nil)))))) pa_nil))))), ?_⟩
    intro d hd
    have hlen : as.length = ts.length := hT.length
    have s0 : Same H (upd H d (.dK [])) := same_new hd
    refine ⟨_, rfl, l, rfl, ⟨_, .inl (.inl (s0 _ _ hl))⟩, for_list (K := K) (a := l) (xs := as.map V.ref) (fun i σ H' => (∃ y3 y4, σ = [some (.ref l), some (.ref S), some (.ref d), y3, y4]) ∧ Same H H' ∧ ∃ ad, AgesI H H' d (keysOf ((ts.take i).map fun t => mean chs t.wo)) ad i)
      ⟨⟨_, _, rfl⟩, s0, fun _ => 0, ⟨upd_same, fun z hz => (by cases hz), fun z hz => (by cases hz), fun z hz => (by cases hz)⟩⟩ (fun i σ H' _ h => .inl (.inl (h.2.1 _ _ hl))) ?_ ?_⟩
    · rintro i x σ H1 hx ⟨⟨y3, y4, rfl⟩, s1, ad, I1⟩
      rw [List.getElem?_map] at hx
      obtain ⟨pt, hpt, rfl⟩ := Option.map_eq_some_iff.mp hx
      obtain ⟨t, ht, hH⟩ := Each.get hT hpt
      have okt := hok t (List.mem_of_getElem? ht)
      have hi200 : i < 200 := by
        have := (List.getElem?_eq_some_iff.mp ht).1
        omega
      have hpt1 := s1 _ _ hH
      refine ⟨_, rfl, pt, _, _, _, rfl, rfl, .inl (.inl hpt1), atI_nat (j := 2) rfl, _, rfl, t.wo, .ref S, chs, rfl, okt.wo, .inr ⟨S, rfl, hS.same s1⟩, okc, fun H2 s2 => ?_⟩
      have I2 := I1.same s2
      have hpt2 := s2 _ _ hpt1
      generalize hz : mean chs t.wo = z
      have ek : keysOf ((ts.take (i + 1)).map fun t => mean chs t.wo) = addK (keysOf ((ts.take i).map fun t => mean chs t.wo)) z := by
        rw [take_snoc ht, List.map_append, ← hz]
        exact keysOf_snoc _ _
      have kl := keysOf_len ((ts.take i).map fun t => mean chs t.wo)
      rw [List.length_map, List.length_take] at kl
      generalize keysOf ((ts.take i).map fun t => mean chs t.wo) = ks at I2 ek kl
      have s12 := s1.trans s2
      refine ⟨_, rfl, _, rfl, d, _, rfl, DGet.k (k := Sum.inr z) I2.dict, _, rfl, ?_⟩
      by_cases hm : z ∈ ks
      · rw [valV_in hm]
        refine iteF ?_
        obtain ⟨ns, hn, hne, hnl⟩ := I2.lst z hm
        have e1 : addK ks z = ks := if_pos hm
        have nd : d ≠ ad z := ne_of I2.dict hn (by intro q; cases q)
        refine ⟨_, rfl, _, rfl, d, .ref (ad z), rfl, ?_, .inl ⟨rfl, _, .inl (.inl hn)⟩, _, rfl, pt, _, _, _, rfl, rfl, .inl (.inl hpt2), atI_nat (j := 4) rfl, ad z, _, _, rfl, rfl, hn, ?_, ⟨_, _, rfl⟩, same_mut s12 (I2.new z hm), ad, ?_⟩
        · have := DGet.k (k := Sum.inr z) I2.dict
          rw [valV_in hm] at this
          exact this
        · rw [List.length_map]
          exact small1000 (by omega)
        · rw [ek, e1]
          refine ⟨by rw [upd_ne nd]; exact I2.dict, fun y hy => ?_, I2.inj, I2.new⟩
          by_cases c : y = z
          · subst c
            exact ⟨ns ++ [(t.age : Int)], by rw [upd_same, List.map_append]; rfl, by simp, by rw [List.length_append]; simp; omega⟩
          · obtain ⟨ms, h1, h2, h3⟩ := I2.lst y hy
            exact ⟨ms, by rw [upd_ne fun e => c (I2.inj y hy z hm e)]; exact h1, h2, by omega⟩
      · rw [valV_out hm]
        refine iteT ⟨lz, fun L hL => ⟨_, rfl, _, rfl, d, _, rfl, DPut.k (k := Sum.inr z) ((same_new hL) _ _ I2.dict) ?_, ?_⟩⟩
        · rw [kvZ_len]
          exact small1000 (by omega)
        have hv : valV (kvZ (fun z => V.ref (ad z)) ks) (Sum.inr z : Key) = none := valV_out hm
        have nLd : d ≠ L := ne_of_none I2.dict hL
        have s3 : Same H2 (upd H2 L (.lst [])) := same_new hL
        have hd3 := s3 _ _ I2.dict
        have hL3 : upd H2 L (.lst []) L = some (.lst []) := upd_same
        have hpt3 := s3 _ _ hpt2
        have I3 := I2.same s3
        have hL0 : H L = none := s12.free hL
        generalize upd H2 L (.lst []) = H3 at s3 hd3 hL3 hpt3 I3
        rw [putK_new _ hv]
        let ad' : Str → Addr := fun y => if y = z then L else ad y
        have eA : kvZ (fun z => V.ref (ad z)) ks ++ [(Sum.inr z, V.ref L)] = kvZ (fun y => V.ref (ad' y)) (ks ++ [z]) := by
          unfold kvZ
          rw [List.map_append]
          congr 1
          · refine List.map_congr_left fun y hy => ?_
            have : y ≠ z := fun e => hm (e ▸ hy)
            simp only [ad', if_neg this]
          · simp [ad']
        rw [eA]
        have e1 : addK ks z = ks ++ [z] := if_neg hm
        have hd4 : upd H3 d (.dK (kvZ (fun y => V.ref (ad' y)) (ks ++ [z]))) d = some (.dK (kvZ (fun y => V.ref (ad' y)) (ks ++ [z]))) := upd_same
        have hL4 : upd H3 d (.dK (kvZ (fun y => V.ref (ad' y)) (ks ++ [z]))) L = some (.lst []) := by
          rw [upd_ne nLd.symm]
          exact hL3
        have hpt4 : upd H3 d (.dK (kvZ (fun y => V.ref (ad' y)) (ks ++ [z]))) pt = some (.tup (telV t)) := by
          rw [upd_ne (ne_of hpt3 hd3 (by intro q; cases q))]
          exact hpt3
        have s14 : Same H (upd H3 d (.dK (kvZ (fun y => V.ref (ad' y)) (ks ++ [z])))) := same_mut (s12.trans s3) hd
        have old : ∀ y ∈ ks, ∃ ms : List Int, upd H3 d (.dK (kvZ (fun y => V.ref (ad' y)) (ks ++ [z]))) (ad y) = some (.lst (ms.map V.int)) ∧ ms ≠ [] ∧ ms.length ≤ i := fun y hy => by
          obtain ⟨ms, h1, h2, h3⟩ := I3.lst y hy
          exact ⟨ms, by rw [upd_ne (ne_of h1 hd3 (by intro q; cases q))]; exact h1, h2, h3⟩
        have nL : ∀ y ∈ ks, ad y ≠ L := fun y hy e => by
          obtain ⟨ms, h1, _⟩ := I2.lst y hy
          rw [e, hL] at h1
          cases h1
        generalize upd H3 d (.dK (kvZ (fun y => V.ref (ad' y)) (ks ++ [z]))) = H4 at hd4 hL4 hpt4 s14 old
        have nLd4 : d ≠ L := nLd
        refine ⟨_, rfl, _, rfl, d, .ref L, rfl, ?_, .inl ⟨rfl, _, .inl (.inl hL4)⟩, _, rfl, pt, _, _, _, rfl, rfl, .inl (.inl hpt4), atI_nat (j := 4) rfl, L, _, _, rfl, rfl, hL4, (by show 0 < sizeLine; decide), ⟨_, _, rfl⟩, same_mut s14 hL0, ad', ?_⟩
        · have := DGet.k (k := Sum.inr z) hd4
          have eL : ad' z = L := if_pos rfl
          rw [valV_in (by simp), eL] at this
          exact this
        · rw [ek, e1]
          refine ⟨by rw [upd_ne nLd]; exact hd4, fun y hy => ?_, fun y hy x hx e => ?_, fun y hy => ?_⟩
          · by_cases c : y = z
            · subst c
              exact ⟨[(t.age : Int)], by simp only [ad', if_true]; rw [upd_same]; rfl, by simp, by simp⟩
            · have hy' : y ∈ ks := by
                rcases List.mem_append.mp hy with h | h
                · exact h
                · exact absurd (List.mem_singleton.mp h) c
              obtain ⟨ms, h1, h2, h3⟩ := old y hy'
              refine ⟨ms, ?_, h2, by omega⟩
              simp only [ad', if_neg c]
              rw [upd_ne (nL y hy')]
              exact h1
          · have mm : ∀ u ∈ ks ++ [z], u ≠ z → u ∈ ks := fun u hu c => by
              rcases List.mem_append.mp hu with h | h
              · exact h
              · exact absurd (List.mem_singleton.mp h) c
            by_cases c1 : y = z
            · by_cases c2 : x = z
              · rw [c1, c2]
              · simp only [ad', if_pos c1, if_neg c2] at e
                exact absurd e.symm (nL x (mm x hx c2))
            · by_cases c2 : x = z
              · simp only [ad', if_neg c1, if_pos c2] at e
                exact absurd e (nL y (mm y hy c1))
              · simp only [ad', if_neg c1, if_neg c2] at e
                exact I2.inj y (mm y hy c1) x (mm x hx c2) e
          · by_cases c : y = z
            · simp only [ad', if_pos c]
              exact hL0
            · have hy' : y ∈ ks := by
                rcases List.mem_append.mp hy with h | h
                · exact h
                · exact absurd (List.mem_singleton.mp h) c
              simp only [ad', if_neg c]
              exact I2.new y hy'
    · rintro σ H1 ⟨⟨y3, y4, rfl⟩, s1, ad, I1⟩
      rw [List.length_map, hlen, List.take_length] at I1
      have kl := keysOf_len (ts.map fun t => mean chs t.wo)
      rw [List.length_map] at kl
      have kn := keysOf_nodup (ts.map fun t => mean chs t.wo)
      have ew : wordsIn chs ts = sortS (keysOf (ts.map fun t => mean chs t.wo)) := rfl
      generalize keysOf (ts.map fun t => mean chs t.wo) = ks at I1 kl kn ew
      refine ⟨_, rfl, d, _, rfl, I1.dict, fun a1 h1 => ?_⟩
      rw [kvZ_keys]
      dsimp only [tNil]
      refine sort_reads (K := K) (.inl (.inl upd_same)) fun a2 h2 => ?_
      have s3 : Same H1 (upd (upd H1 a1 (.lst (ks.map V.str))) a2 (.lst ((sortS ks).map V.str))) := (same_new h1).trans (same_new h2)
      have ha2 : upd (upd H1 a1 (.lst (ks.map V.str))) a2 (.lst ((sortS ks).map V.str)) a2 = some (.lst ((sortS ks).map V.str)) := upd_same
      generalize upd (upd H1 a1 (.lst (ks.map V.str))) a2 (.lst ((sortS ks).map V.str)) = H3 at s3 ha2
      have I3 := I1.same s3
      refine ⟨a2, rfl, ⟨_, .inl (.inl ha2)⟩, fun Dd hD => ?_⟩
      refine lc_rel (walk_list (K := K) (a := a2) (xs := (sortS ks).map V.str)) hD (fun _ => true) (fun x y H' => ∃ z p, ∃ a b n : Int, x = .str z ∧ y = .ref p ∧ H' p = some (.tup [.str z, .int a, .int b, .int n])) (fun H' s' => .inl (.inl (s' _ _ ha2))) (fun _ => rfl) (fun x H' _ _ Q' q' => q') ?_ ?_ ?_ ?_
      · intro x H' hx _ s' Q' q'
        obtain ⟨z, hz, rfl⟩ := List.mem_map.mp hx
        have hzk : z ∈ ks := mem_sortS.mp hz
        obtain ⟨ns, hn, hne, hnl⟩ := I3.lst z hzk
        have hdv : DGet H' d (.str z) (some (.ref (ad z))) := by
          have := DGet.k (k := Sum.inr z) (s' _ _ I3.dict)
          rw [valV_in hzk] at this
          exact this
        have hn' := s' _ _ hn
        have hp : 0 < ns.length := List.length_pos_iff.mpr hne
        refine ⟨_, rfl, _, rfl, _, rfl, d, _, rfl, hdv, ad z, ns, rfl, .inl (.inl hn'), hp, fun m1 _ _ => ⟨_, rfl, _, rfl, d, _, rfl, hdv, ad z, ns, rfl, .inl (.inl hn'), hp, fun m2 _ _ => ⟨_, rfl, _, rfl, d, _, rfl, hdv, ad z, _, rfl, .inl (.inl (.inl hn')), lz, fun p hp => ?_⟩⟩⟩
        exact q' _ _ (same_new hp) ⟨z, p, m1, m2, _, rfl, rfl, upd_same⟩
      · rintro x y H4 H5 acc hD4 x5 ⟨z, p, a, b, n, e1, e2, e3⟩
        exact ⟨z, p, a, b, n, e1, e2, x5 _ _ (ne_of e3 hD4 (by intro q; cases q)) e3⟩
      · rw [List.length_map, sortS_len]
        exact small1000 (by omega)
      · intro zs H4 s4 hD4 he
        rw [List.filter_eq_self.mpr fun _ _ => rfl] at he
        have key : ∀ {l : List Str} {zs : List V}, Each (fun (x z : V) => ∃ y p, ∃ a b n : Int, x = .str y ∧ z = .ref p ∧ H4 p = some (.tup [.str y, .int a, .int b, .int n])) (l.map V.str) zs → ∃ as : List Addr, zs = as.map V.ref ∧ Each (fun (p : Addr) (z : Str) => ∃ a b n : Int, H4 p = some (.tup [.str z, .int a, .int b, .int n])) as l := by
          intro l
          induction l with
          | nil =>
            intro zs h
            cases h
            exact ⟨[], rfl, .nil⟩
          | cons z r ih =>
            intro zs h
            cases h with
            | cons e t =>
              obtain ⟨y, p, a, b, n, e1, rfl, e3⟩ := e
              obtain ⟨as, rfl, h2⟩ := ih t
              have e1 := V.str.inj e1
              subst e1
              exact ⟨p :: as, rfl, .cons ⟨a, b, n, e3⟩ h2⟩
        obtain ⟨bs, rfl, hb⟩ := key he
        refine ⟨Dd, _, rfl, .inl ⟨.inl (.inl hD4), fun t ht => ?_⟩⟩
        have s5 := same_new (o := .tup (bs.map V.ref)) ht
        refine q t _ (((s1.trans s3).trans s4).trans s5) ?_
        rw [ew]
        exact ⟨bs, upd_same, hb.mono fun p z ⟨a, b, n, e⟩ => ⟨a, b, n, s5 _ _ e⟩⟩
end
end Wl


namespace Wl
open PySem PySem.Spec PyProof.Rows L2
theorem telV_inj' {t u : Tel} (h : telV t = telV u) : t = u := by
  cases t
  cases u
  simp only [telV, List.cons.injEq, V.str.injEq, V.int.injEq, V.bl.injEq, and_true] at h
  obtain ⟨h1, h2, h3, h4, h5, h6, h7⟩ := h
  have h5 := Int.ofNat.inj h5
  subst h1 h2 h3 h4 h5 h6 h7
  rfl
/-- a test of tellings, as a test of values -/
noncomputable def keepBy (H : Hp) (pr : Tel → Bool) (x : V) : Bool := open Classical in if h : ∃ t : Tel, ∃ p, x = .ref p ∧ H p = some (.tup (telV t)) then pr h.choose else false
theorem keepBy_at {H : Hp} {pr : Tel → Bool} {p : Addr} {t : Tel} (h : H p = some (.tup (telV t))) : keepBy H pr (.ref p) = pr t := by
  unfold keepBy
  have e : ∃ t : Tel, ∃ q, V.ref p = .ref q ∧ H q = some (.tup (telV t)) := ⟨t, p, rfl, h⟩
  rw [dif_pos e]
  obtain ⟨q, e1, e2⟩ := e.choose_spec
  have e1 := V.ref.inj e1
  subst e1
  rw [h] at e2
  rw [← telV_inj' (HO.tup.inj (Option.some.inj e2))]
theorem tels_filter {H H' : Hp} {pr : Tel → Bool} : ∀ {as : List Addr} {ts : List Tel}, TelsAt H as ts → TelsAt H' as ts → ∃ bs : List Addr, ((as.map V.ref).filter (keepBy H pr)).map id = bs.map V.ref ∧ TelsAt H' bs (ts.filter pr)
  | _, _, .nil, .nil => ⟨[], rfl, .nil⟩
  | _, _, .cons (a := p) (b := t) e r, .cons e' r' => by
    obtain ⟨bs, h1, h2⟩ := tels_filter (pr := pr) r r'
    rw [List.map_cons, List.filter_cons, keepBy_at e, List.filter_cons]
    by_cases c : pr t = true
    · rw [if_pos c, if_pos c]
      exact ⟨p :: bs, by rw [List.map_cons, h1]; rfl, .cons e' h2⟩
    · rw [if_neg c, if_neg c]
      exact ⟨bs, h1, h2⟩
section
variable {P : Program} {w : World} {K : PySem.W.Frag} {mg : Str → Option Value} {base : Heap} {f C D : Addr} {fd : FuncData}
/-- [t for t in tellings if ..] -/
theorem pick_tels {H1 : Hp} {a Dd : Addr} {as : List Addr} {ts : List Tel} {tt : TT} {te : TE} {slot : Nat} {vs : List Nat} {σ : L2.St} {Qd : Hp → Prop} (hl : H1 a = some (.lst (as.map V.ref))) (hT : TelsAt H1 as ts) (hD : H1 Dd = none) (pr : Tel → Bool) (hn : ts.length ≤ 200)
    (hw : ∀ x, wipe ((wipe σ vs).set slot (some x)) vs = wipe σ vs)
    (ht : ∀ (p : Addr) (t : Tel) (H : Hp), t ∈ ts → H p = some (.tup (telV t)) → Same H1 H → ∀ Q : Bool → Hp → Prop, Q (pr t) H → tt ((wipe σ vs).set slot (some (.ref p))) H Q)
    (he : ∀ (x : V) (H : Hp) (Q : VK), Q x H → te ((wipe σ vs).set slot (some x)) H Q)
    (hd : ∀ (bs : List Addr) (H : Hp), Same H1 H → H Dd = some (.lst (bs.map V.ref)) → TelsAt H bs (ts.filter pr) → Qd H) :
    ∃ W : Nat → Nat → Hp → Prop, (∃ m, W 0 m (upd H1 Dd (.lst []))) ∧ ∀ i m H, W i m H →
      ((Itl K a).stop i H ∧ Qd H) ∨ ((Itl K a).go i H ∧ ∃ Nx : Hp → Prop, (∀ H', Nx H' → ∃ m', m' < m ∧ W (i + 1) m' H') ∧ ∀ x H', (Itl K a).yld i H x H' → gName slot x (wipe σ vs) H' fun σ2 H2 => wipe σ2 vs = wipe σ vs ∧ tt σ2 H2 fun b H3 =>
        if b = true then te σ2 H3 fun y H4 => ∃ acc, H4 Dd = some (.lst acc) ∧ acc.length < sizeLine ∧ Nx (upd H4 Dd (.lst (acc ++ [y]))) else Nx H3) := by
  have hlen := hT.length
  refine lc_map (walk_list (K := K) (a := a) (xs := as.map V.ref)) hD (keepBy H1 pr) id (fun H' s' => .inl (.inl (s' _ _ hl))) hw ?_ ?_ ?_ ?_
  · intro x H' hx s' Q' q'
    obtain ⟨p, hp, rfl⟩ := List.mem_map.mp hx
    obtain ⟨i, hi, ei⟩ := List.mem_iff_getElem.mp hp
    obtain ⟨t, htm, hH⟩ := Each.get hT (i := i) (a := p) (by rw [List.getElem?_eq_getElem hi, ei])
    rw [keepBy_at hH] at q'
    exact ht p t H' (List.mem_of_getElem? htm) (s' _ _ hH) s' Q' q'
  · intro x H' hx _ _ Q' q'
    exact he x H' Q' q'
  · rw [List.length_map]
    exact small1000 (by omega)
  · intro H2 s2 hD2
    obtain ⟨bs, e1, e2⟩ := tels_filter (pr := pr) hT (hT.keep (tk_same s2))
    rw [e1] at hD2
    exact hd bs H2 s2 hD2 e2
/-! ### by_village -/
def ByV (H : Hp) (D : Addr) (nms : List Str) (chs : List Chg) (ts : List Tel) : Prop := ∃ ad : Str → Addr, H D = some (.dK (kvZ (fun z => .ref (ad z)) nms)) ∧ ∀ z ∈ nms, RowsT H (ad z) (wordsIn chs (ts.filter fun t => decide (t.v = z)))
def spByV : Sp := fun vs H Q _ => ∃ (tn l S : Addr) (nms : List Str) (as : List Addr) (ts : List Tel) (chs : List Chg), vs = [.ref tn, .ref l, .ref S] ∧ H tn = some (.tup (nms.map V.str)) ∧ nms.Nodup ∧ nms.length ≤ 36 ∧ H l = some (.lst (as.map V.ref)) ∧ TelsAt H as ts ∧ (∀ t ∈ ts, OkT t) ∧ ts.length ≤ 200 ∧ ChAt H S chs ∧ OkCs chs ∧
  ∀ (Dd : Addr) (H' : Hp), H Dd = none → Same H H' → ByV H' Dd nms chs ts → Q (.ref Dd) H'
abbrev nByV : List Str := ["names", "tellings", "changes", "name", "telling"]
theorem scByV : FnScope nByV ["names", "tellings", "changes"] (defScope sByV) := ⟨rfl, rfl, rfl, by decide +kernel, rfl, by decide +kernel, by decide +kernel⟩
theorem str_dec (a b : Str) : decide (V.str a = V.str b) = decide (a = b) := by
  by_cases h : a = b
  · subst h
    simp
  · rw [decide_eq_false h, decide_eq_false fun e => h (V.str.inj e)]
theorem ok_byv (F : Fun K "by_village" "by_village" sByV f fd) (hS : Has P w K mg base "summed_up" 6 ["tellings", "changes"] spSum) : FnOk P w K mg base CX0 7 f fd ["names", "tellings", "changes"] spByV := by
  refine F.ok scByV (fun vs H Q E h => ?_) (fun cdv A outer s H vs Q E hr h => ?_)
  · obtain ⟨tn, l, S, nms, as, ts, chs, rfl, _⟩ := h
    rfl
  · obtain ⟨tn, l, S, nms, as, ts, chs, rfl, hn, nd, n36, hl, hT, hok, h200, hC, okc, q⟩ := h
    refine ⟨_, pss_one (ps_ret (pe_dc (own := [("name", 3)]) (g := gName 3) (tt := tYes) (tk := tVar 3) (tv := tCall spSum [] E0 (tCons (tLc (iList K (tVar 1)) (gName 4) (tTest (tOp rEq (tOp (rIxT K) (tVar 4) (tC (.int 0))) (tVar 3))) (tVar 4) [4]) (tCons (tVar 2) tNil)))
      rfl scByV.nd (pi_tup (pv 0)) (blkOk_by (N := nByV) (sc := defScope sByV) (by decide +kernel)) (fun _ _ _ _ _ => pg_name (i := 3) scByV.nd rfl (.inr rfl)) (fun _ _ _ _ _ => pts_nil) (fun _ _ _ _ _ => pv 3)
      (fun _ _ _ _ _ => pe_h hS hr (pa_cons (pe_lc (own := [("telling", 4)]) (g := gName 4) (tt := tTest (tOp rEq (tOp (rIxT K) (tVar 4) (tC (.int 0))) (tVar 3))) (te := tVar 4) rfl scByV.nd (pi_list (pv 1)) (blkOk_by (N := nByV) (sc := { kind := .function, names := [(".0", .local), ("name", .cell), ("summed_up", .globalImplicit), ("changes", .cell), ("tellings", .cell)], isGenerator := false, isCoroutine := false }) (by decide +kernel))
        (fun _ _ _ _ _ => pg_name (i := 4) scByV.nd rfl (.inl rfl)) (fun _ _ _ _ _ => pts_one (pt_cmpR op_eq (pe_ix ix_tup (pv 4) pe_int (fun _ _ => rfl)) (pv 3) (nomark _))) (fun _ _ _ _ _ => pv 4)) (pa_cons (pv 2) pa_nil))))), ?_⟩
    refine ⟨_, rfl, tn, rfl, ⟨_, .inl (.inl hn)⟩, fun Dd hD => dc_it (walk_tup (K := K) (a := tn) (xs := nms.map V.str)) (fun i H' => Same H H' ∧ ByV H' Dd (nms.take i) chs ts) ⟨same_new hD, fun _ => 0, upd_same, fun z hz => by simp at hz⟩ (fun i H' _ h => .inl (.inl (h.1 _ _ hn))) ?_ ?_⟩
    · rintro i x H1 H2 hi ⟨s1, ad, hd1, hr1⟩ ⟨rfl, hx⟩
      rw [List.getElem?_map] at hx
      obtain ⟨z, hz, rfl⟩ := Option.map_eq_some_iff.mp hx
      have hl1 := s1 _ _ hl
      have hT1 : TelsAt H2 as ts := hT.keep (tk_same s1)
      refine ⟨rfl, yes_it ⟨_, rfl, _, rfl, l, rfl, ⟨_, .inl (.inl hl1)⟩, fun De hE => ?_⟩⟩
      refine pick_tels (K := K) hl1 hT1 hE (fun t => decide (t.v = z)) h200 (fun _ => rfl) ?_ (fun x H' Q' q' => ⟨_, rfl, q'⟩) ?_
      · intro p t H' _ hp _ Q' q'
        refine ⟨_, rfl, p, _, _, _, rfl, rfl, .inl (.inl hp), atI_nat (j := 0) rfl, _, rfl, rfl, _, rfl, ?_⟩
        rw [str_dec]
        exact q'
      · intro bs H3 s3 hE3 hb3
        refine ⟨_, rfl, De, S, bs, _, chs, rfl, hE3, hb3, fun t ht => hok t (List.mem_filter.mp ht).1, Nat.le_trans (List.length_filter_le _ _) h200, (hC.same s1).same s3, okc, fun t H4 s4 r4 => ?_⟩
        have s34 := s3.trans s4
        have hd4 := s34 _ _ hd1
        have hnew : z ∉ nms.take i := fun hm => by
          obtain ⟨j, hj, ej⟩ := List.mem_iff_getElem.mp hm
          rw [List.length_take] at hj
          rw [List.getElem_take] at ej
          obtain ⟨hi2, ei⟩ := List.getElem?_eq_some_iff.mp hz
          have := (List.getElem_inj nd).mp (ej.trans ei.symm)
          omega
        have hv : valV (kvZ (fun z => V.ref (ad z)) (nms.take i)) (Sum.inr z : Key) = none := valV_out hnew
        refine ⟨_, Sum.inr z, rfl, hd4, ?_, same_mut (s1.trans s34) hD, fun y => if y = z then t else ad y, ?_, fun y hy => ?_⟩
        · rw [kvZ_len, List.length_take]
          exact small1000 (by omega)
        · rw [putK_new _ hv, upd_same, take_snoc hz]
          unfold kvZ
          rw [List.map_append]
          congr 2
          congr 1
          · refine List.map_congr_left fun y hy => ?_
            have : y ≠ z := fun e => hnew (e ▸ hy)
            simp only [if_neg this]
          · simp
        · have tk := tk_updD (o := .dK (putK (kvZ (fun z => V.ref (ad z)) (nms.take i)) (Sum.inr z) (.ref t))) hd4
          by_cases c : y = z
          · subst c
            simp only [if_true]
            exact r4.keep tk
          · simp only [if_neg c]
            have hy' : y ∈ nms.take i := by
              rw [take_snoc hz] at hy
              rcases List.mem_append.mp hy with h | h
              · exact h
              · exact absurd (List.mem_singleton.mp h) c
            exact ((hr1 y hy').keep (tk_same s34)).keep tk
    · rintro H1 ⟨s1, h1⟩
      rw [List.length_map, List.take_length] at h1
      exact q Dd H1 hD s1 h1
end
end Wl


namespace Wl
open PySem PySem.Spec PyProof.Rows L2
abbrev sMap : Stmt := topS 59
abbrev sMInit : Stmt := inClass sMap 0
/-! A WordMap on the heap. -/
abbrev m1 (pl : Addr) : List (Str × V) := putF "land" (.ref pl) []
abbrev m2 (pl : Addr) (z : Str) : List (Str × V) := putF "thing" (.str z) (m1 pl)
abbrev m3 (pl : Addr) (z : Str) (S : Addr) : List (Str × V) := putF "changes" (.ref S) (m2 pl z)
abbrev m4 (pl : Addr) (z : Str) (S a : Addr) : List (Str × V) := putF "sure_words" (.ref a) (m3 pl z S)
abbrev m5 (pl : Addr) (z : Str) (S a b : Addr) : List (Str × V) := putF "doubtful_words" (.ref b) (m4 pl z S a)
abbrev mf (pl : Addr) (z : Str) (S a b c : Addr) : List (Str × V) := putF "said" (.ref c) (m5 pl z S a b)
theorem m3_land (pl : Addr) (z : Str) (S : Addr) : (m3 pl z S).lookup ("land" : Str) = some (.ref pl) := by
  unfold m3 m2 m1
  rw [lookup_putF, if_neg (by decide +kernel), lookup_putF, if_neg (by decide +kernel), lookup_putF, if_pos rfl]
theorem m5_sure (pl : Addr) (z : Str) (S a b : Addr) : (m5 pl z S a b).lookup ("sure_words" : Str) = some (.ref a) := by
  unfold m5 m4
  rw [lookup_putF, if_neg (by decide +kernel), lookup_putF, if_pos rfl]
theorem mf_land (pl : Addr) (z : Str) (S a b c : Addr) : (mf pl z S a b c).lookup ("land" : Str) = some (.ref pl) := by
  unfold mf m5 m4
  rw [lookup_putF, if_neg (by decide +kernel), lookup_putF, if_neg (by decide +kernel), lookup_putF, if_neg (by decide +kernel), m3_land]
theorem mf_changes (pl : Addr) (z : Str) (S a b c : Addr) : (mf pl z S a b c).lookup ("changes" : Str) = some (.ref S) := by
  unfold mf m5 m4 m3
  rw [lookup_putF, if_neg (by decide +kernel), lookup_putF, if_neg (by decide +kernel), lookup_putF, if_neg (by decide +kernel), lookup_putF, if_pos rfl]
theorem mf_said (pl : Addr) (z : Str) (S a b c : Addr) : (mf pl z S a b c).lookup ("said" : Str) = some (.ref c) := by
  unfold mf
  rw [lookup_putF, if_pos rfl]
theorem mf_no (pl : Addr) (z : Str) (S a b c : Addr) {m : Str} (h1 : ¬ m = "said" := by decide +kernel) (h2 : ¬ m = "doubtful_words" := by decide +kernel) (h3 : ¬ m = "sure_words" := by decide +kernel) (h4 : ¬ m = "changes" := by decide +kernel) (h5 : ¬ m = "thing" := by decide +kernel) (h6 : ¬ m = "land" := by decide +kernel) : (mf pl z S a b c).lookup m = none := by
  unfold mf m5 m4 m3 m2 m1
  rw [lookup_putF, if_neg h1, lookup_putF, if_neg h2, lookup_putF, if_neg h3, lookup_putF, if_neg h4, lookup_putF, if_neg h5, lookup_putF, if_neg h6]
  rfl
/-- what a map shows: of each village its words -/
def SaidAt (H : Hp) (d : Addr) (nms : List Str) (said : Str → List Str) : Prop := ∃ ad : Str → Addr, H d = some (.dK (kvZ (fun z => .ref (ad z)) nms)) ∧ ∀ z ∈ nms, H (ad z) = some (.tup ((said z).map V.str))
theorem SaidAt.keep {H H' : Hp} {d : Addr} {nms : List Str} {said : Str → List Str} (h : SaidAt H d nms said) (k : Keep H H') : SaidAt H' d nms said := by
  obtain ⟨ad, h1, h2⟩ := h
  exact ⟨ad, k _ _ (fun xs e => by cases e) h1, fun z hz => k _ _ (fun xs e => by cases e) (h2 z hz)⟩
structure MR where
  pl : Addr
  L : Addr
  S : Addr
  sd : Addr
  g : Grid
  z : Str
  chs : List Chg
  said : Str → List Str
structure MapAt (C W : Addr) (H : Hp) (p : Addr) (r : MR) : Prop where
  at_ : ∃ dx a b, H p = some (.ins W dx (mf r.pl r.z r.S a b r.sd))
  land : LandAt C H r.pl r.L r.g
  ch : ChAt H r.S r.chs
  said : SaidAt H r.sd (sortS (names r.g)) r.said
theorem MapAt.keep {C W : Addr} {H H' : Hp} {p : Addr} {r : MR} (h : MapAt C W H p r) (k : Keep H H') : MapAt C W H' p r := by
  obtain ⟨dx, a, b, e⟩ := h.at_
  exact ⟨⟨dx, a, b, k _ _ (fun xs e => by cases e) e⟩, h.land.keep k, h.ch.keep fun p xs e => k.tk p xs e, h.said.keep k⟩
theorem MapAt.same {C W : Addr} {H H' : Hp} {p : Addr} {r : MR} (h : MapAt C W H p r) (s : Same H H') : MapAt C W H' p r := h.keep (kp_same s)
structure TxtM (K : PySem.W.Frag) (mg : Str → Option Value) (W : Addr) : Prop where
  cl : Cls K W
  nL : NoAttr K W "land"
  nT : NoAttr K W "thing"
  nC : NoAttr K W "changes"
  nS : NoAttr K W "sure_words"
  nD : NoAttr K W "doubtful_words"
  nA : NoAttr K W "said"
  mgW : mg "WordMap" = some (.ref W)
/-- the tellings that a map shows -/
def shownOf (ts : List Tel) (z : Str) (lo hi : Nat) : List Tel := ts.filter fun t => decide (t.th = z) && (decide (lo ≤ t.age) && decide (t.age ≤ hi))
noncomputable def saidOf (chs : List Chg) (ts : List Tel) (z : Str) (lo hi : Nat) (y : Str) : List Str := wordsIn chs (((shownOf ts z lo hi).filter fun t => t.sure).filter fun t => decide (t.v = y))
/-- all but what stands at p is as it was -/
def But (p : Addr) (H H' : Hp) : Prop := ∀ b o, b ≠ p → H b = some o → H' b = some o
theorem But.upd {p : Addr} {H H' : Hp} {o : HO} (h : But p H H') : But p H (L2.upd H' p o) := fun b u n e => by
  rw [upd_ne n]
  exact h b u n e
theorem But.same {p : Addr} {H H1 H2 : Hp} (h : But p H H1) (s : Same H1 H2) : But p H H2 := fun b u n e => s _ _ (h b u n e)
theorem But.tk {p dx W : Addr} {fs : List (Str × V)} {H H' : Hp} (h : But p H H') (hp : H p = some (.ins W dx fs)) : TupKeep H H' := fun b xs e => h b _ (ne_of e hp (by intro z; cases z)) e
theorem gat_but {C D W g p dx : Addr} {H H' : Hp} {r : GR} {fs : List (Str × V)} (h : GatAt C D H g r) (hp : H p = some (.ins W dx fs)) (n1 : p ≠ g) (n2 : p ≠ r.pl) (k : But p H H') : GatAt C D H' g r := by
  obtain ⟨dg, e⟩ := h.at_
  exact ⟨⟨dg, k _ _ n1.symm e⟩, land_but h.land hp n2 k, k _ _ (ne_of h.told hp (by intro z; cases z)) h.told, h.tels.keep (k.tk hp), k _ _ (ne_of h.deeds hp (by intro z; cases z)) h.deeds, h.ne⟩
section
variable {P : Program} {w : World} {K : PySem.W.Frag} {mg : Str → Option Value} {base : Heap} {f C D W : Addr} {fd : FuncData}
abbrev FunI (K : PySem.W.Frag) (f : Addr) (fd : FuncData) : Prop := FunD K "__init__" "WordMap.__init__" (defArgs sMInit) (defBody sMInit) (defScope sMInit) [.non, .int 0, .int 120] [] f fd
abbrev psMI : List Str := ["self", "gathering", "thing", "changes", "least", "most"]
abbrev nMI : List Str := ["self", "gathering", "thing", "changes", "least", "most", "known", "told", "names", "telling", "name", "row"]
theorem scMI : FnScope nMI psMI (defScope sMInit) := ⟨rfl, rfl, rfl, by decide +kernel, rfl, by decide +kernel, by decide +kernel⟩
def HasT (P : Program) (w : World) (K : PySem.W.Frag) (mg : Str → Option Value) (base : Heap) (C D : Addr) : Prop := ∃ f fd, FnOk P w K mg base CX0 1 f fd ["self", "keying"] (spTell C D) ∧ Meth K D "tellings" f ∧ FunT K f fd
def spMI (C D W : Addr) : Sp := fun vs H Q _ => ∃ (p dx g : Addr) (r : GR) (wd : Nat) (z : Str) (v : V) (chs : List Chg) (lo hi : Nat), vs = [.ref p, .ref g, .str z, v, .int (lo : Int), .int (hi : Int)] ∧ H p = some (.ins W dx []) ∧ GatAt C D H g r ∧ Good r.g wd ∧ (∀ t ∈ r.ts, OkT t) ∧ r.ts.length ≤ 200 ∧ IsWd z ∧ ChV H v chs ∧ OkCs chs ∧ lo ≤ hi ∧ hi ≤ 120 ∧
  ∀ (S d : Addr) (H' : Hp), But p H H' → MapAt C W H' p ⟨r.pl, r.L, S, d, r.g, z, chs, saidOf chs r.ts z lo hi⟩ → Q .non H'
theorem words_rows {H : Hp} : ∀ {as : List Addr} {ws : List Str} {zs : List V}, Each (fun (p : Addr) (z : Str) => ∃ a b n : Int, H p = some (.tup [.str z, .int a, .int b, .int n])) as ws → Each (fun (x z : V) => ∀ (p : Addr) (u : Str) (a b n : Int), x = .ref p → H p = some (.tup [.str u, .int a, .int b, .int n]) → z = .str u) (as.map V.ref) zs → zs = ws.map V.str
  | [], [], [], _, _ => rfl
  | [], [], _ :: _, _, h => nomatch h
  | [], _ :: _, _, h, _ => nomatch h
  | _ :: _, [], _, h, _ => nomatch h
  | _ :: _, _ :: _, [], _, h => nomatch h
  | a :: as, r :: g, z :: zs, .cons e t, .cons e' t' => by
    obtain ⟨x, y, n, e⟩ := e
    rw [e' a r x y n rfl e, words_rows t t']
    rfl
theorem ok_minit (F : FunI K f fd) (B : Bi mg) (T : Txt K mg C) (TG : TxtG K mg D) (TM : TxtM K mg W) (hCG : Has P w K mg base "check_gathering" 1 ["thing"] (spCheckG C D)) (hW : Has P w K mg base "check_word" 2 ["word"] spCheckW)
    (hCh : Has P w K mg base "checked_changes" 4 ["changes"] spChecked) (hA : Has P w K mg base "check_age" 3 ["age"] spCheckA) (hT : HasT P w K mg base C D) (hN : HasM P w K mg base C "names" 1 ["self"] (spLNames C)) (hB : Has P w K mg base "by_village" 7 ["names", "tellings", "changes"] spByV) : FnOk P w K mg base CX0 8 f fd psMI (spMI C D W) := by
  obtain ⟨fT, fdT, FT, mT, FnT⟩ := hT
  obtain ⟨dsT, vT, bT⟩ := tell_b1 FnT
  refine okD F scMI (fun vs H Q E h => ?_) (fun cdv A outer s H vs Q E hr h => ?_)
  · obtain ⟨p, dx, g, r, wd, z, v, chs, lo, hi, rfl, _⟩ := h
    rfl
  · obtain ⟨p, dx, g, r, wd, z, v, chs, lo, hi, rfl, hp, hG, gd, hok, h200, hz, hv, okc, hlo, hhi, q⟩ := h
    have hu := hu_of hr
    refine ⟨_, pss_cons (ps_expr (pe_h hCG hr (pa_cons (pv 1) pa_nil)))
      (pss_cons (ps_expr (pe_h hW hr (pa_cons (pv 2) pa_nil)))
      (pss_cons (ps_set (i := 6) scMI.nd rfl (.inl rfl) (pe_h hCh hr (pa_cons (pv 3) pa_nil)))
      (pss_cons (ps_expr (pe_h hA hr (pa_cons (pv 4) pa_nil)))
      (pss_cons (ps_expr (pe_h hA hr (pa_cons (pv 5) pa_nil)))
      (pss_cons (ps_if (pt_cmpR op_lt (pv 5) (pv 4) (nomark _)) (pss_one ps_never) pss_nil)
      (pss_cons (ps_fld (pv 0) (pe_fld (pv 1) rfl) rfl)
      (pss_cons (ps_fld (pv 0) (pv 2) rfl)
      (pss_cons (ps_fld (pv 0) (pv 6) rfl)
      (pss_cons (ps_setLc (i := 7) (own := [("telling", 9)]) (g := gName 9) (tt := tAnd (tTest (tOp rEq (tOp (rIxT K) (tVar 9) (tC (.int 1))) (tVar 2))) (tTest (tChain (rI0 fun i j => .bl (decide (i ≤ j))) (rI0 fun i j => .bl (decide (i ≤ j))) (tVar 4) (tOp (rIxT K) (tVar 9) (tC (.int 4))) (tVar 5)))) (te := tVar 9) rfl scMI.nd rfl rfl (sw_true rfl rfl rfl (by decide +kernel)) (pi_list (pe_meth0 (pv 1) TG.cl mT FT (hr.mono (by decide)) bT vT pass0)) (blkOk_by (N := nMI) (sc := defScope sMInit) (by decide +kernel))
        (fun _ _ _ _ _ => pg_name (i := 9) scMI.nd rfl (.inl rfl)) (fun _ _ _ _ _ => pts_one (PW.pt (pw_and (pt_cmpR op_eq (pe_ix ix_tup (pv 9) pe_int (fun _ _ => rfl)) (pv 2) (nomark _)) (pw_and1 (pt_chain op_le op_le (pv 4) (pe_ix ix_tup (pv 9) pe_int (fun _ _ => rfl)) (pv 5)))))) (fun _ _ _ _ _ => pv 9))
      (pss_cons (ps_set (i := 8) scMI.nd rfl (.inl rfl) (pe_hm0 hN T.cl hr (pe_fld (pv 0) rfl)))
      (pss_cons (ps_fld (pv 0) (pe_h hB hr (pa_cons (pv 8) (pa_cons (pe_lc (own := [("telling", 9)]) (g := gName 9) (tt := tB (tOp (rIxT K) (tVar 9) (tC (.int 6)))) (te := tVar 9) rfl scMI.nd (pi_list (pv 7)) (blkOk_by (N := nMI) (sc := defScope sMInit) (by decide +kernel)) (fun _ _ _ _ _ => pg_name (i := 9) scMI.nd rfl (.inl rfl)) (fun _ _ _ _ _ => pts_one (pt_val (pe_ix ix_tup (pv 9) pe_int (fun _ _ => rfl)))) (fun _ _ _ _ _ => pv 9)) (pa_cons (pv 6) pa_nil)))) rfl)
      (pss_cons (ps_fld (pv 0) (pe_h hB hr (pa_cons (pv 8) (pa_cons (pe_lc (own := [("telling", 9)]) (g := gName 9) (tt := tNot (tB (tOp (rIxT K) (tVar 9) (tC (.int 6))))) (te := tVar 9) rfl scMI.nd (pi_list (pv 7)) (blkOk_by (N := nMI) (sc := defScope sMInit) (by decide +kernel)) (fun _ _ _ _ _ => pg_name (i := 9) scMI.nd rfl (.inl rfl)) (fun _ _ _ _ _ => pts_one (pt_not (pt_val (pe_ix ix_tup (pv 9) pe_int (fun _ _ => rfl))))) (fun _ _ _ _ _ => pv 9)) (pa_cons (pv 6) pa_nil)))) rfl)
      (pss_one (ps_fld (pv 0) (pe_dc (own := [("name", 10)]) (g := gName 10) (tt := tYes) (tk := tVar 10) (tv := tCB (fun xs H Q => ∃ p ys, xs = [.ref p] ∧ ((SqL K H p ys ∧ ∀ l, H l = none → Q (.ref l) (upd H l (.tup ys))) ∨ (SqT K H p ys ∧ Q (.ref p) H))) (tCons (tLc (iTup K (tDGet (tFld K (tVar 0) "sure_words") (tVar 10))) (gName 11) tYes (tOp (rIxT K) (tVar 11) (tC (.int 0))) [11]) tNil))
        rfl scMI.nd (pi_tup (pv 8)) (blkOk_by (N := nMI) (sc := defScope sMInit) (by decide +kernel)) (fun _ _ _ _ _ => pg_name (i := 10) scMI.nd rfl (.inl rfl)) (fun _ _ _ _ _ => pts_nil) (fun _ _ _ _ _ => pv 10)
        (fun _ _ _ _ _ => pe_callTy call_tuple_of (by rfl) B.tuple (by decide +kernel) (pa_cons (pe_lc (own := [("row", 11)]) (g := gName 11) (tt := tYes) (te := tOp (rIxT K) (tVar 11) (tC (.int 0))) rfl scMI.nd (pi_tup (pe_dget hu (pe_fld (pv 0) rfl) (pv 10) (fun _ _ => rfl))) (blkOk_by (N := nMI) (sc := { kind := .function, names := [(".0", .local), ("name", .local), ("tuple", .globalImplicit), ("self", .cell)], isGenerator := false, isCoroutine := false }) (by decide +kernel))
          (fun _ _ _ _ _ => pg_name (i := 11) scMI.nd rfl (.inl rfl)) (fun _ _ _ _ _ => pts_nil) (fun _ _ _ _ _ => pe_ix ix_tup (pv 11) pe_int (fun _ _ => rfl))) pa_nil))) rfl)))))))))))))), ?_⟩
    refine ⟨_, rfl, g, r, rfl, hG, ?_⟩
    refine ⟨_, rfl, z, rfl, hz, fun H1 s1 => ?_⟩
    refine ⟨_, rfl, v, chs, rfl, hv.same s1, okc, fun S H2 s2 hS => ?_⟩
    refine ⟨_, rfl, lo, rfl, by omega, ?_⟩
    refine ⟨_, rfl, hi, rfl, by omega, ?_⟩
    refine ⟨_, rfl, _, rfl, _, _, rfl, rfl, _, rfl, ?_⟩
    rw [decide_eq_false (show ¬ ((hi : Int) < (lo : Int)) by omega)]
    refine iteF ?_
    have s02 := s1.trans s2
    have hG2 := hG.same s02
    have hp2 := s02 _ _ hp
    have npg : p ≠ g := fun e => by
      obtain ⟨dg, eg⟩ := hG2.at_
      rw [← e, hp2] at eg
      have := (HO.ins.inj (Option.some.inj eg)).2.2
      have l := gf_land r.pl r.td r.dd
      rw [← this] at l
      cases l
    have npl : p ≠ r.pl := fun e => by
      obtain ⟨dl, d, el⟩ := hG2.land.ins
      rw [← e, hp2] at el
      have := (HO.ins.inj (Option.some.inj el)).2.2
      have l := lf_rows d r.L
      rw [← this] at l
      cases l
    obtain ⟨dg, hg2⟩ := hG2.at_
    refine ⟨_, rfl, g, D, dg, _, _, rfl, hg2, TG.cl, TG.nL, gf_land _ _ _, _, rfl, p, W, dx, [], rfl, hp2, TM.cl, TM.nL, (by show 0 < 1000; decide), ?_⟩
    refine ⟨_, rfl, _, rfl, p, W, dx, m1 r.pl, rfl, upd_same, TM.cl, TM.nT, (by show 1 < 1000; decide), ?_⟩
    refine ⟨_, rfl, _, rfl, p, W, dx, m2 r.pl z, rfl, upd_same, TM.cl, TM.nC, (by show 2 < 1000; decide), ?_⟩
    have k5 : But p H2 (L2.upd (L2.upd (L2.upd H2 p (.ins W dx (m1 r.pl))) p (.ins W dx (m2 r.pl z))) p (.ins W dx (m3 r.pl z S))) := But.upd (But.upd (But.upd fun b o _ e => e))
    have hp5 : L2.upd (L2.upd (L2.upd H2 p (.ins W dx (m1 r.pl))) p (.ins W dx (m2 r.pl z))) p (.ins W dx (m3 r.pl z S)) p = some (.ins W dx (m3 r.pl z S)) := upd_same
    generalize L2.upd (L2.upd (L2.upd H2 p (.ins W dx (m1 r.pl))) p (.ins W dx (m2 r.pl z))) p (.ins W dx (m3 r.pl z S)) = H5 at k5 hp5
    have hG5 := gat_but hG2 hp2 npg npl k5
    have hS5 : ChAt H5 S chs := hS.keep (k5.tk hp2)
    have k05 : But p H H5 := fun b o n e => k5 b o n (s02 _ _ e)
    obtain ⟨dg5, hg5⟩ := hG5.at_
    refine ⟨_, rfl, g, dg5, _, rfl, hg5, gf_no _ _ _, g, r, rfl, hG5, fun l hl => ⟨l, rfl, ⟨_, .inl (.inl upd_same)⟩, fun Dd hD => ?_⟩⟩
    have s6 := same_new (o := .lst (r.as.map V.ref)) hl
    have hl6 : L2.upd H5 l (.lst (r.as.map V.ref)) l = some (.lst (r.as.map V.ref)) := upd_same
    generalize L2.upd H5 l (.lst (r.as.map V.ref)) = H6 at s6 hl6 hD
    refine pick_tels (K := K) hl6 (hG5.tels.keep (tk_same s6)) hD (fun t => decide (t.th = z) && (decide (lo ≤ t.age) && decide (t.age ≤ hi))) h200 (fun _ => rfl) ?_ (fun x H' Q' q' => ⟨_, rfl, q'⟩) ?_
    · intro pt t H' _ hpt _ Q' q'
      refine ⟨_, rfl, pt, _, _, _, rfl, rfl, .inl (.inl hpt), atI_nat (j := 1) rfl, _, rfl, rfl, _, rfl, ?_⟩
      rw [str_dec]
      refine ite_b (fun e => ?_) (fun e => ?_)
      · rw [e, Bool.true_and] at q'
        refine ⟨_, rfl, _, rfl, pt, _, _, _, rfl, rfl, .inl (.inl hpt), atI_nat (j := 4) rfl, _, _, rfl, rfl, _, rfl, ite_b (fun e2 => ?_) (fun e2 => ?_)⟩
        · refine ⟨_, rfl, _, _, rfl, rfl, _, rfl, ?_⟩
          have e3 : decide (lo ≤ t.age) = true := decide_eq_true (by have := of_decide_eq_true e2; omega)
          have e4 : decide ((t.age : Int) ≤ (hi : Int)) = decide (t.age ≤ hi) := by
            by_cases c : t.age ≤ hi
            · rw [decide_eq_true c, decide_eq_true (by omega)]
            · rw [decide_eq_false c, decide_eq_false (by omega)]
          rw [e3, Bool.true_and] at q'
          rw [e4]
          exact q'
        · have e3 : decide (lo ≤ t.age) = false := decide_eq_false (by have := of_decide_eq_false e2; omega)
          rw [e3, Bool.false_and] at q'
          exact ⟨false, rfl, q'⟩
      · rw [e, Bool.false_and] at q'
        exact q'
    intro bs H7 s7 hD7 hb7
    have s57 := s6.trans s7
    have eT : (r.ts.filter fun t => decide (t.th = z) && (decide (lo ≤ t.age) && decide (t.age ≤ hi))) = shownOf r.ts z lo hi := rfl
    rw [eT] at hb7
    have okS : ∀ t ∈ shownOf r.ts z lo hi, OkT t := fun t ht => hok t (List.mem_filter.mp ht).1
    have lenS : (shownOf r.ts z lo hi).length ≤ 200 := Nat.le_trans (List.length_filter_le _ _) h200
    have esd : saidOf chs r.ts z lo hi = fun y => wordsIn chs (((shownOf r.ts z lo hi).filter fun t => t.sure).filter fun t => decide (t.v = y)) := rfl
    generalize shownOf r.ts z lo hi = ts at hb7 okS lenS esd
    have hp7 := s57 _ _ hp5
    have hL7 := hG5.land.same s57
    obtain ⟨dl7, dd7, hl7⟩ := hL7.ins
    refine ⟨_, rfl, p, W, dx, _, _, rfl, hp7, TM.cl, TM.nL, m3_land _ _ _, r.pl, dl7, _, rfl, hl7, fs_no, r.pl, r.L, r.g, wd, rfl, hL7, gd, fun tn H8 ntn s8 htn => ?_⟩
    have nds : (sortS (names r.g)).Nodup := sortS_nodup gd.nd
    have n36 : (sortS (names r.g)).length ≤ 36 := by
      rw [sortS_len]
      have a1 := len_names gd.rows
      have a3 : r.g.length * wd ≤ 6 * 6 := Nat.mul_le_mul gd.h6 gd.w6
      omega
    -- the sure ones
    have hD8 := s8 _ _ hD7
    have hb8 : TelsAt H8 bs ts := hb7.keep (tk_same s8)
    refine ⟨_, rfl, _, rfl, Dd, rfl, ⟨_, .inl (.inl hD8)⟩, fun De hE => ?_⟩
    refine pick_tels (K := K) hD8 hb8 hE (fun t => t.sure) lenS (fun _ => rfl) (fun pt t H' _ hpt _ Q' q' => ⟨_, rfl, pt, _, _, _, rfl, rfl, .inl (.inl hpt), atI_nat (j := 6) rfl, _, rfl, q'⟩) (fun x H' Q' q' => ⟨_, rfl, q'⟩) ?_
    intro cs H9 s9 hE9 hc9
    have s89 := s8.trans s9
    refine ⟨_, rfl, tn, De, S, _, cs, _, chs, rfl, s9 _ _ htn, nds, n36, hE9, hc9, fun t ht => okS t (List.mem_filter.mp ht).1, Nat.le_trans (List.length_filter_le _ _) lenS, (hS5.same s57).same s89, okc, fun D1 H10 nD1 s10 bv1 => ?_⟩
    have s710 := s89.trans s10
    have hp10 := s710 _ _ hp7
    refine ⟨_, rfl, p, W, dx, m3 r.pl z S, rfl, hp10, TM.cl, TM.nS, (by show 3 < 1000; decide), ?_⟩
    have k11 : But p H5 (L2.upd H10 p (.ins W dx (m4 r.pl z S D1))) := But.upd fun b o _ e => s710 _ _ (s57 _ _ e)
    have k10 : But p H10 (L2.upd H10 p (.ins W dx (m4 r.pl z S D1))) := But.upd fun b o _ e => e
    have hp11 : L2.upd H10 p (.ins W dx (m4 r.pl z S D1)) p = some (.ins W dx (m4 r.pl z S D1)) := upd_same
    have nlst : ∀ {a : Addr} {xs : List V}, H10 a = some (.lst xs) → a ≠ p := fun e => ne_of e hp10 (by intro q; cases q)
    have hD11 := k10 _ _ (nlst (s9.trans s10 _ _ hD8)) (s9.trans s10 _ _ hD8)
    have htn11 := k10.tk hp10 _ _ (s9.trans s10 _ _ htn)
    have hb11 : TelsAt (L2.upd H10 p (.ins W dx (m4 r.pl z S D1))) bs ts := (hb8.keep (tk_same (s9.trans s10))).keep (k10.tk hp10)
    have hS11 : ChAt (L2.upd H10 p (.ins W dx (m4 r.pl z S D1))) S chs := ((hS5.same s57).same s710).keep (k10.tk hp10)
    have bv11 : ByV (L2.upd H10 p (.ins W dx (m4 r.pl z S D1))) D1 (sortS (names r.g)) chs (ts.filter fun t => t.sure) := by
      obtain ⟨ad, h1, h2⟩ := bv1
      exact ⟨ad, k10 _ _ (ne_of h1 hp10 (by intro q; cases q)) h1, fun y hy => (h2 y hy).keep (k10.tk hp10)⟩
    generalize L2.upd H10 p (.ins W dx (m4 r.pl z S D1)) = H11 at k11 hp11 hD11 htn11 hb11 hS11 bv11
    -- the doubtful ones
    refine ⟨_, rfl, _, rfl, Dd, rfl, ⟨_, .inl (.inl hD11)⟩, fun Df hF => ?_⟩
    refine pick_tels (K := K) hD11 hb11 hF (fun t => !t.sure) lenS (fun _ => rfl) (fun pt t H' _ hpt _ Q' q' => ⟨_, rfl, pt, _, _, _, rfl, rfl, .inl (.inl hpt), atI_nat (j := 6) rfl, _, rfl, q'⟩) (fun x H' Q' q' => ⟨_, rfl, q'⟩) ?_
    intro es H12 s12 hF12 hc12
    refine ⟨_, rfl, tn, Df, S, _, es, _, chs, rfl, s12 _ _ htn11, nds, n36, hF12, hc12, fun t ht => okS t (List.mem_filter.mp ht).1, Nat.le_trans (List.length_filter_le _ _) lenS, hS11.same s12, okc, fun D2 H13 nD2 s13 bv2 => ?_⟩
    have s1113 := s12.trans s13
    have hp13 := s1113 _ _ hp11
    refine ⟨_, rfl, p, W, dx, m4 r.pl z S D1, rfl, hp13, TM.cl, TM.nD, (by show 4 < 1000; decide), ?_⟩
    have k13 : But p H13 (L2.upd H13 p (.ins W dx (m5 r.pl z S D1 D2))) := But.upd fun b o _ e => e
    have k14 : But p H5 (L2.upd H13 p (.ins W dx (m5 r.pl z S D1 D2))) := But.upd fun b o n e => s1113 _ _ (k11 b o n e)
    have hp14 : L2.upd H13 p (.ins W dx (m5 r.pl z S D1 D2)) p = some (.ins W dx (m5 r.pl z S D1 D2)) := upd_same
    have htn14 := k13.tk hp13 _ _ (s1113 _ _ htn11)
    have bv14 : ByV (L2.upd H13 p (.ins W dx (m5 r.pl z S D1 D2))) D1 (sortS (names r.g)) chs (ts.filter fun t => t.sure) := by
      obtain ⟨ad, h1, h2⟩ := bv11
      have h1' := s1113 _ _ h1
      exact ⟨ad, k13 _ _ (ne_of h1' hp13 (by intro q; cases q)) h1', fun y hy => ((h2 y hy).keep (tk_same s1113)).keep (k13.tk hp13)⟩
    generalize L2.upd H13 p (.ins W dx (m5 r.pl z S D1 D2)) = H14 at k14 hp14 htn14 bv14
    obtain ⟨ad, hd14, hr14⟩ := bv14
    -- what is said
    refine ⟨_, rfl, tn, rfl, ⟨_, .inl (.inl htn14)⟩, fun Ds hDs => dc_it (walk_tup (K := K) (a := tn) (xs := (sortS (names r.g)).map V.str)) (fun i H' => Same H14 H' ∧ SaidAt H' Ds ((sortS (names r.g)).take i) (saidOf chs r.ts z lo hi)) ⟨same_new hDs, fun _ => 0, upd_same, fun z hz => by simp at hz⟩ (fun i H' _ h => .inl (.inl (h.1 _ _ htn14))) ?_ ?_⟩
    · rintro i x H15 H16 hi' ⟨s15, ad2, hd15, hr15⟩ ⟨rfl, hx⟩
      rw [List.getElem?_map] at hx
      obtain ⟨y, hy, rfl⟩ := Option.map_eq_some_iff.mp hx
      have hym := List.mem_of_getElem? hy
      obtain ⟨as2, ha2, hb2⟩ := hr14 y hym
      have hdv : DGet H16 D1 (.str y) (some (.ref (ad y))) := by
        have := DGet.k (k := Sum.inr y) (s15 _ _ hd14)
        rw [valV_in hym] at this
        exact this
      have hay := s15 _ _ ha2
      refine ⟨rfl, yes_it ⟨_, rfl, _, rfl, p, W, dx, _, _, rfl, s15 _ _ hp14, TM.cl, TM.nS, m5_sure _ _ _ _ _, _, rfl, D1, _, rfl, hdv, ad y, rfl, ⟨_, .inl (.inl hay)⟩, fun Dr hDr => ?_⟩⟩
      have hlen2 := hb2.length
      have hw2 : (wordsIn chs ((ts.filter fun t => t.sure).filter fun t => decide (t.v = y))).length ≤ 200 := by
        unfold wordsIn
        rw [sortS_len]
        refine Nat.le_trans (keysOf_len _) ?_
        rw [List.length_map]
        exact Nat.le_trans (List.length_filter_le _ _) (Nat.le_trans (List.length_filter_le _ _) lenS)
      refine lc_rel (walk_tup (K := K) (a := ad y) (xs := as2.map V.ref)) hDr (fun _ => true) (fun x u _ => ∀ (p : Addr) (v : Str) (a b n : Int), x = .ref p → H14 p = some (.tup [.str v, .int a, .int b, .int n]) → u = .str v) (fun H' s' => .inl (.inl (s' _ _ hay))) (fun _ => rfl) (fun x H' _ _ Q' q' => q') ?_ (fun _ _ _ _ _ _ _ r => r) ?_ ?_
      · intro x H' hx _ s' Q' q'
        obtain ⟨pr, hpr, rfl⟩ := List.mem_map.mp hx
        obtain ⟨k, hk, ek⟩ := List.mem_iff_getElem.mp hpr
        obtain ⟨u, hu2, a, b, n, hH⟩ := Each.get hb2 (i := k) (a := pr) (by rw [List.getElem?_eq_getElem hk, ek])
        refine ⟨_, rfl, pr, _, _, .str u, rfl, rfl, .inl (.inl (s' _ _ (s15 _ _ hH))), atI_nat (j := 0) rfl, ?_⟩
        refine q' _ _ (Same.refl _) fun p' v a' b' n' e1 e2 => ?_
        have e1 := V.ref.inj e1
        subst e1
        rw [hH] at e2
        have := HO.tup.inj (Option.some.inj e2)
        simp only [List.cons.injEq] at this
        exact this.1
      · rw [List.length_map]
        exact small1000 (by omega)
      · intro zs H17 s17 hD17 he
        rw [List.filter_eq_self.mpr fun _ _ => rfl] at he
        have ez := words_rows hb2 he
        rw [ez] at hD17
        refine ⟨Dr, _, rfl, .inl ⟨.inl (.inl hD17), fun tt htt => ?_⟩⟩
        have s18 := same_new (o := .tup ((wordsIn chs ((ts.filter fun t => t.sure).filter fun t => decide (t.v = y))).map V.str)) htt
        have s1518 := s17.trans s18
        have hd18 := s1518 _ _ hd15
        have htt18 : L2.upd H17 tt (.tup ((wordsIn chs ((ts.filter fun t => t.sure).filter fun t => decide (t.v = y))).map V.str)) tt = some (.tup ((saidOf chs r.ts z lo hi y).map V.str)) := by
          rw [upd_same, esd]
        generalize L2.upd H17 tt (.tup ((wordsIn chs ((ts.filter fun t => t.sure).filter fun t => decide (t.v = y))).map V.str)) = H18 at s18 s1518 hd18 htt18
        have hnew : y ∉ (sortS (names r.g)).take i := fun hm => by
          obtain ⟨j, hj, ej⟩ := List.mem_iff_getElem.mp hm
          rw [List.length_take] at hj
          rw [List.getElem_take] at ej
          obtain ⟨hi2, ei⟩ := List.getElem?_eq_some_iff.mp hy
          have := (List.getElem_inj nds).mp (ej.trans ei.symm)
          omega
        have hv : valV (kvZ (fun z => V.ref (ad2 z)) ((sortS (names r.g)).take i)) (Sum.inr y : Key) = none := valV_out hnew
        refine ⟨_, Sum.inr y, rfl, hd18, ?_, same_mut (s15.trans s1518) hDs, fun u => if u = y then tt else ad2 u, ?_, fun u hu3 => ?_⟩
        · rw [kvZ_len, List.length_take]
          exact small1000 (by omega)
        · rw [putK_new _ hv, upd_same, take_snoc hy]
          unfold kvZ
          rw [List.map_append]
          congr 2
          congr 1
          · refine List.map_congr_left fun u hu3 => ?_
            have : u ≠ y := fun e => hnew (e ▸ hu3)
            simp only [if_neg this]
          · simp
        · have tk := tk_updD (o := .dK (putK (kvZ (fun z => V.ref (ad2 z)) ((sortS (names r.g)).take i)) (Sum.inr y) (.ref tt))) hd18
          by_cases c : u = y
          · subst c
            simp only [if_true]
            exact tk _ _ htt18
          · simp only [if_neg c]
            have hu' : u ∈ (sortS (names r.g)).take i := by
              rw [take_snoc hy] at hu3
              rcases List.mem_append.mp hu3 with h | h
              · exact h
              · exact absurd (List.mem_singleton.mp h) c
            exact tk _ _ (s1518 _ _ (hr15 u hu'))
    · rintro H15 ⟨s15, sd15⟩
      rw [List.length_map, List.take_length] at sd15
      have hp15 := s15 _ _ hp14
      refine ⟨_, rfl, p, W, dx, m5 r.pl z S D1 D2, rfl, hp15, TM.cl, TM.nA, (by show 5 < 1000; decide), ?_⟩
      have k16 : But p H15 (L2.upd H15 p (.ins W dx (mf r.pl z S D1 D2 Ds))) := But.upd fun b o _ e => e
      have k516 : But p H5 (L2.upd H15 p (.ins W dx (mf r.pl z S D1 D2 Ds))) := But.upd fun b o n e => s15 _ _ (k14 b o n e)
      refine q S Ds _ (fun b o n e => k516 b o n (k05 b o n e)) ⟨⟨dx, D1, D2, upd_same⟩, land_but hG5.land hp5 npl k516, hS5.keep (k516.tk hp5), ?_⟩
      obtain ⟨ad3, h1, h2⟩ := sd15
      exact ⟨ad3, k16 _ _ (ne_of h1 hp15 (by intro q; cases q)) h1, fun y hy => k16.tk hp15 _ _ (h2 y hy)⟩
end
end Wl


/-! A comprehension whose test makes objects. -/
namespace Wl
open PySem PySem.Spec PyProof.Rows L2
section
variable {J : It} {ys : List V} {G : Hp → Prop} {slot : Nat} {tt : TT} {te : TE} {vs : List Nat} {σ : L2.St} {H1 : Hp} {D : Addr} {Qd : Hp → Prop}
theorem lc_keepX (w : L2.Walk J ys.length G (YAt ys)) (hD : H1 D = none) (keep : V → Bool) (hG : ∀ H, Same H1 H → G H) (hw : ∀ x, wipe ((wipe σ vs).set slot (some x)) vs = wipe σ vs)
    (ht : ∀ (x : V) (H : Hp), x ∈ ys → Same H1 H → ∀ Q : Bool → Hp → Prop, (∀ H', Same H H' → Q (keep x) H') → tt ((wipe σ vs).set slot (some x)) H Q)
    (he : ∀ (x : V) (H : Hp) (Q : VK), Q x H → te ((wipe σ vs).set slot (some x)) H Q)
    (hn : ys.length < sizeLine)
    (hd : ∀ H, Same H1 H → H D = some (.lst (ys.filter keep)) → Qd H) :
    ∃ W : Nat → Nat → Hp → Prop, (∃ m, W 0 m (upd H1 D (.lst []))) ∧ ∀ i m H, W i m H →
      (J.stop i H ∧ Qd H) ∨ (J.go i H ∧ ∃ Nx : Hp → Prop, (∀ H', Nx H' → ∃ m', m' < m ∧ W (i + 1) m' H') ∧ ∀ x H', J.yld i H x H' → gName slot x (wipe σ vs) H' fun σ2 H2 => wipe σ2 vs = wipe σ vs ∧ tt σ2 H2 fun b H3 =>
        if b = true then te σ2 H3 fun y H4 => ∃ acc, H4 D = some (.lst acc) ∧ acc.length < sizeLine ∧ Nx (upd H4 D (.lst (acc ++ [y]))) else Nx H3) := by
  refine lc_it w (fun i H => Same H1 H ∧ H D = some (.lst ((ys.take i).filter keep))) ⟨same_new hD, upd_same⟩ (fun i H _ h => hG H h.1) ?_ ?_
  · rintro i x H H' hi ⟨s, hz⟩ ⟨rfl, hx⟩
    have hm : x ∈ ys := List.mem_of_getElem? hx
    refine ⟨hw x, ht x _ hm s _ fun H3 s3 => ?_⟩
    have hf := filter_take_snoc (p := keep) hx
    refine ite_b (fun e => ?_) (fun e => ?_)
    · refine he x _ _ ⟨_, s3 _ _ hz, ?_, same_mut (s.trans s3) hD, ?_⟩
      · have h2 : ((ys.take i).filter keep).length ≤ (ys.take i).length := List.length_filter_le _ _
        have h3 : (ys.take i).length ≤ ys.length := List.length_take_le' _ _
        omega
      · rw [upd_same, hf, if_pos e]
    · refine ⟨s.trans s3, ?_⟩
      rw [hf, if_neg (by rw [e]; decide), List.append_nil]
      exact s3 _ _ hz
  · rintro H ⟨s, hz⟩
    rw [List.take_length] at hz
    exact hd H s hz
end
end Wl

namespace Wl
open PySem PySem.Spec PyProof.Rows L2
abbrev sMHave : Stmt := inClass sMap 3
abbrev sCheckM : Stmt := topS 60
theorem Good.n36 {g : Grid} {wd : Nat} (gd : Good g wd) : (names g).length ≤ 36 := by
  have a1 := len_names gd.rows
  have a3 : g.length * wd ≤ 6 * 6 := Nat.mul_le_mul gd.h6 gd.w6
  omega
def bothB (said : Str → List Str) (a b : Str) : Bool := !(said a).isEmpty && !(said b).isEmpty
def partB (said : Str → List Str) (a b : Str) : Bool := bothB said a b && ((said a).filter fun z => decide (z ∈ said b)).isEmpty
theorem pos_dec {α : Type} (l : List α) : decide ((0 : Int) < (l.length : Int)) = !l.isEmpty := by
  cases l with
  | nil => rfl
  | cons a r =>
    refine decide_eq_true ?_
    rw [List.length_cons]
    omega
theorem zero_dec {α : Type} (l : List α) : decide (V.int (l.length : Int) = V.int 0) = l.isEmpty := by
  cases l with
  | nil => rfl
  | cons a r =>
    refine decide_eq_false fun e => ?_
    have := V.int.inj e
    rw [List.length_cons] at this
    omega
section
variable {P : Program} {w : World} {K : PySem.W.Frag} {mg : Str → Option Value} {base : Heap} {f C D W : Addr} {fd : FuncData}
theorem SaidAt.get {H : Hp} {d : Addr} {nms : List Str} {said : Str → List Str} (h : SaidAt H d nms said) {z : Str} (hz : z ∈ nms) : ∃ t, DGet H d (.str z) (some (.ref t)) ∧ H t = some (.tup ((said z).map V.str)) := by
  obtain ⟨ad, h1, h2⟩ := h
  refine ⟨ad z, ?_, h2 z hz⟩
  have := DGet.k (k := Sum.inr z) h1
  rw [valV_in hz] at this
  exact this
/-! ### have -/
def spHave (C W : Addr) : Sp := fun vs H Q _ => ∃ (p : Addr) (z : Str) (r : MR) (wd : Nat), vs = [.ref p, .str z] ∧ MapAt C W H p r ∧ Good r.g wd ∧ OkCs r.chs ∧ IsWd z ∧
  ∀ (t : Addr) (H' : Hp), H t = none → Same H H' → H' t = some (.tup (((sortS (names r.g)).filter fun y => decide (mean r.chs z ∈ r.said y)).map V.str)) → Q (.ref t) H'
abbrev nHave : List Str := ["self", "word", "meant", "name"]
theorem scHave : FnScope nHave ["self", "word"] (defScope sMHave) := ⟨rfl, rfl, rfl, by decide +kernel, rfl, by decide +kernel, by decide +kernel⟩
def keepH (said : Str → List Str) (m : Str) : V → Bool
  | .str y => decide (m ∈ said y)
  | _ => false
theorem keepH_filter (said : Str → List Str) (m : Str) : ∀ l : List Str, ((l.map V.str).filter (keepH said m)).map id = (l.filter fun y => decide (m ∈ said y)).map V.str
  | [] => rfl
  | y :: l => by
    have ih := keepH_filter said m l
    rw [List.map_id] at ih ⊢
    rw [List.map_cons, List.filter_cons, List.filter_cons]
    have e : keepH said m (.str y) = decide (m ∈ said y) := rfl
    rw [e]
    by_cases c : decide (m ∈ said y) = true
    · rw [if_pos c, if_pos c, ih]
      rfl
    · rw [if_neg c, if_neg c, ih]
theorem ok_have (F : Fun K "have" "WordMap.have" sMHave f fd) (B : Bi mg) (T : Txt K mg C) (TM : TxtM K mg W) (hM : HasN P w K mg base "meaning" wMean 5 ps2 spMean) (hN : HasM P w K mg base C "names" 1 ["self"] (spLNames C)) : FnOk P w K mg base CX0 6 f fd ["self", "word"] (spHave C W) := by
  obtain ⟨fM, fdM, FM, mM, NM⟩ := hM
  have bM := bindM2 NM
  refine F.ok scHave (fun vs H Q E h => ?_) (fun cdv A outer s H vs Q E hr h => ?_)
  · obtain ⟨p, z, r, wd, rfl, _⟩ := h
    rfl
  · obtain ⟨p, z, r, wd, rfl, hM, gd, okc, hz, q⟩ := h
    have hu := hu_of hr
    refine ⟨_, pss_cons (ps_set (i := 2) scHave.nd rfl (.inr rfl) (pe_call FM hr rfl mM NM.kp bM .nil pass0 (pa_cons (pv 1) (pa_cons (pe_fld (pv 0) rfl) pa_nil))))
      (pss_one (ps_ret (pe_callTy call_tuple_of (by rfl) B.tuple (by decide +kernel) (pa_cons (pe_lc (own := [("name", 3)]) (g := gName 3) (tt := tTest (tOp (rIn K false) (tVar 2) (tDGet (tFld K (tVar 0) "said") (tVar 3)))) (te := tVar 3) rfl scHave.nd (pi_tup (pe_hm0 hN T.cl hr (pe_fld (pv 0) rfl))) (blkOk_by (N := nHave) (sc := defScope sMHave) (by decide +kernel))
        (fun _ _ _ _ _ => pg_name (i := 3) scHave.nd rfl (.inl rfl)) (fun _ _ _ _ _ => pts_one (pt_cmpR op_in_seq (pv 2) (pe_dget hu (pe_fld (pv 0) rfl) (pv 3) (fun _ _ => rfl)) (by rfl))) (fun _ _ _ _ _ => pv 3)) pa_nil)))), ?_⟩
    obtain ⟨dx, a, b, hp⟩ := hM.at_
    refine ⟨_, rfl, _, rfl, p, W, dx, _, _, rfl, hp, TM.cl, TM.nC, mf_changes _ _ _ _ _ _, z, .ref r.S, r.chs, rfl, hz, .inr ⟨r.S, rfl, hM.ch⟩, okc, fun H1 s1 => ?_⟩
    have hM1 := hM.same s1
    obtain ⟨dx1, a1, b1, hp1⟩ := hM1.at_
    obtain ⟨dl, d, hl1⟩ := hM1.land.ins
    refine ⟨_, rfl, p, W, dx1, _, _, rfl, hp1, TM.cl, TM.nL, mf_land _ _ _ _ _ _, r.pl, dl, _, rfl, hl1, fs_no, r.pl, r.L, r.g, wd, rfl, hM1.land, gd, fun tn H2 ntn s2 htn => ⟨tn, rfl, ⟨_, .inl (.inl htn)⟩, fun Dd hD => ?_⟩⟩
    have hM2 := hM1.same s2
    refine lc_map (walk_tup (K := K) (a := tn) (xs := (sortS (names r.g)).map V.str)) hD (keepH r.said (mean r.chs z)) id (fun H' s' => .inl (.inl (s' _ _ htn))) (fun _ => rfl) ?_ ?_ ?_ ?_
    · intro x H' hx s' Q' q'
      obtain ⟨y, hy, rfl⟩ := List.mem_map.mp hx
      have hM3 := hM2.same s'
      obtain ⟨dx3, a3, b3, hp3⟩ := hM3.at_
      obtain ⟨t, ht1, ht2⟩ := hM3.said.get hy
      refine ⟨_, rfl, _, rfl, p, W, dx3, _, _, rfl, hp3, TM.cl, TM.nA, mf_said _ _ _ _ _ _, _, rfl, r.sd, _, rfl, ht1, t, _, rfl, .inr (.inl (.inl ht2)), rfl, flat_strs _, _, rfl, ?_⟩
      have e : inV (.str (mean r.chs z)) ((r.said y).map V.str) = keepH r.said (mean r.chs z) (.str y) := inV_strs _ _
      rw [if_neg (by decide), e]
      exact q'
    · intro x H' hx _ _ Q' q'
      exact ⟨_, rfl, q'⟩
    · rw [List.length_map, sortS_len]
      exact small1000 (by have := gd.n36; omega)
    · intro H3 s3 hD3
      rw [keepH_filter] at hD3
      refine ⟨Dd, _, rfl, .inl ⟨.inl (.inl hD3), fun t ht => ?_⟩⟩
      exact q t _ (((s1.trans s2).trans s3).free ht) (((s1.trans s2).trans s3).trans (same_new ht)) upd_same
/-! ### check_map -/
abbrev FunC (K : PySem.W.Frag) (f : Addr) (fd : FuncData) : Prop := FunD K "check_map" "check_map" (defArgs sCheckM) (defBody sCheckM) (defScope sCheckM) [.int 0] [] f fd
def spCheckM (C W : Addr) : Sp := fun vs H Q _ => ∃ (p : Addr) (v : V) (r : MR), vs = [.ref p, v] ∧ MapAt C W H p r ∧ Q .non H
theorem scCheckM : FnScope ["thing", "place"] ["thing", "place"] (defScope sCheckM) := ⟨rfl, rfl, rfl, by decide +kernel, rfl, by decide +kernel, by decide +kernel⟩
theorem cm_b1 (F : FunC K f fd) : ∃ ds, Vals [V.int 0] ds ∧ Binds K fd ["thing", "place"] ds :=
  F.binds1 (ps := ["thing", "place"]) 1 0 (by simp) rfl (fun T kV doc pm an cdv ct us its l1 l2 => by
      match us, its, l1, l2 with
      | [_], [_], _, _ => exact ⟨_, rfl, rfl⟩)
def HasC (P : Program) (w : World) (K : PySem.W.Frag) (mg : Str → Option Value) (base : Heap) (C W : Addr) : Prop := ∃ f fd, FnOk P w K mg base CX0 1 f fd ["thing", "place"] (spCheckM C W) ∧ mg "check_map" = some (.ref f) ∧ FunC K f fd
theorem ok_checkm (F : FunC K f fd) (B : Bi mg) (TM : TxtM K mg W) (ins : C8.InsC K W) : FnOk P w K mg base CX0 1 f fd ["thing", "place"] (spCheckM C W) := by
  refine okD F scCheckM (fun vs H Q E h => ?_) (fun cdv A outer s H vs Q E hr h => ?_)
  · obtain ⟨p, v, r, rfl, _⟩ := h
    rfl
  · obtain ⟨p, v, r, rfl, hM, q⟩ := h
    refine ⟨_, pss_one (ps_if (pt_not (pt_val (pe_callB (C8.call_isC (C := W) ins) (by rfl) B.isi (by decide +kernel) (pa_cons (pv 0) (pa_cons (pe_glob (v := .ref W) rfl TM.mgW rfl) pa_nil))))) (pss_one ps_never) pss_nil), ?_⟩
    obtain ⟨dx, a, b, hp⟩ := hM.at_
    exact ⟨_, rfl, p, dx, _, rfl, hp, true, rfl, iteF q⟩
/-! ### both_asked -/
/-! ### do_part -/
def keepW (ws : List Str) : V → Bool
  | .str y => decide (y ∈ ws)
  | _ => false
theorem keepW_filter (ws : List Str) : ∀ l : List Str, ((l.map V.str).filter (keepW ws)).map id = (l.filter fun y => decide (y ∈ ws)).map V.str
  | [] => rfl
  | y :: l => by
    have ih := keepW_filter ws l
    rw [List.map_id] at ih ⊢
    rw [List.map_cons, List.filter_cons, List.filter_cons]
    have e : keepW ws (.str y) = decide (y ∈ ws) := rfl
    rw [e]
    by_cases c : decide (y ∈ ws) = true
    · rw [if_pos c, if_pos c, ih]
      rfl
    · rw [if_neg c, if_neg c, ih]
end
end Wl


/-! Rings: the mathematics. -/
namespace Wl
/-! ### a map that is one to one on a list -/
def itR {α : Type} (f : α → α) : Nat → α → α
  | 0, x => x
  | n + 1, x => f (itR f n x)
theorem nodup_len {α : Type} [DecidableEq α] : ∀ {l m : List α}, l.Nodup → (∀ x ∈ l, x ∈ m) → l.length ≤ m.length
  | [], _, _, _ => Nat.zero_le _
  | x :: l, m, n, h => by
    obtain ⟨n1, n2⟩ := List.nodup_cons.mp n
    have hx := h x List.mem_cons_self
    have ih := nodup_len (m := m.erase x) n2 fun y hy => (List.mem_erase_of_ne (fun e => n1 (by rw [← e]; exact hy))).mpr (h y (List.mem_cons_of_mem _ hy))
    rw [List.length_erase_of_mem hx] at ih
    have := List.length_pos_of_mem hx
    rw [List.length_cons]
    omega
theorem nodup_perm {α : Type} [DecidableEq α] : ∀ {l m : List α}, l.Nodup → m.Nodup → (∀ x, x ∈ l ↔ x ∈ m) → l.Perm m
  | [], m, _, _, h => by
    cases m with
    | nil => exact .nil
    | cons x m => exact absurd ((h x).mpr List.mem_cons_self) List.not_mem_nil
  | x :: l, m, n, n', h => by
    obtain ⟨n1, n2⟩ := List.nodup_cons.mp n
    have hx := (h x).mp List.mem_cons_self
    refine (List.Perm.cons x (nodup_perm n2 (n'.erase x) fun y => ?_)).trans (List.perm_cons_erase hx).symm
    constructor
    · intro hy
      exact (List.mem_erase_of_ne (fun e => n1 (by rw [← e]; exact hy))).mpr ((h y).mp (List.mem_cons_of_mem _ hy))
    · intro hy
      have ny : y ≠ x := fun e => by
        rw [e] at hy
        exact absurd hy (List.Nodup.not_mem_erase n')
      rcases List.mem_cons.mp ((h y).mpr ((List.mem_erase_of_ne ny).mp hy)) with e | e
      · exact absurd e ny
      · exact e
section
variable {α : Type} {f : α → α} {E : List α}
theorem it_in (hf : ∀ x ∈ E, f x ∈ E) {x : α} (hx : x ∈ E) : ∀ n, itR f n x ∈ E
  | 0 => hx
  | n + 1 => hf _ (it_in hf hx n)
theorem it_add (x : α) (m : Nat) : ∀ n, itR f (n + m) x = itR f n (itR f m x)
  | 0 => by rw [Nat.zero_add]; rfl
  | n + 1 => by
    rw [Nat.succ_add]
    show f (itR f (n + m) x) = f (itR f n (itR f m x))
    rw [it_add x m n]
theorem it_cancel (hf : ∀ x ∈ E, f x ∈ E) (inj : ∀ x ∈ E, ∀ y ∈ E, f x = f y → x = y) {x y : α} (hx : x ∈ E) (hy : y ∈ E) : ∀ n, itR f n x = itR f n y → x = y
  | 0, e => e
  | n + 1, e => it_cancel hf inj hx hy n (inj _ (it_in hf hx n) _ (it_in hf hy n) e)
/-- it comes back -/
theorem it_back [DecidableEq α] (hf : ∀ x ∈ E, f x ∈ E) (inj : ∀ x ∈ E, ∀ y ∈ E, f x = f y → x = y) {x : α} (hx : x ∈ E) : ∃ n, 1 ≤ n ∧ n ≤ E.length ∧ itR f n x = x ∧ ∀ j, 1 ≤ j → j < n → itR f j x ≠ x := by
  have h1 : ∃ n, 1 ≤ n ∧ n ≤ E.length ∧ itR f n x = x := by
    apply Classical.byContradiction
    intro hn
    have nd : ((List.range (E.length + 1)).map fun i => itR f i x).Nodup := by
      rw [List.nodup_iff_pairwise_ne, List.pairwise_map]
      refine List.Pairwise.imp_of_mem ?_ (List.pairwise_lt_range (n := E.length + 1))
      intro a b ha hb hab e
      have hb := List.mem_range.mp hb
      refine hn ⟨b - a, by omega, by omega, ?_⟩
      have e2 : itR f b x = itR f a (itR f (b - a) x) := by
        rw [← it_add]
        congr 1
        omega
      rw [e2] at e
      exact (it_cancel hf inj hx (it_in hf hx _) a e).symm
    have := nodup_len nd (m := E) fun y hy => by
      obtain ⟨i, _, rfl⟩ := List.mem_map.mp hy
      exact it_in hf hx i
    rw [List.length_map, List.length_range] at this
    omega
  have least : ∀ k n : Nat, n ≤ k → 1 ≤ n → n ≤ E.length → itR f n x = x → ∃ n, 1 ≤ n ∧ n ≤ E.length ∧ itR f n x = x ∧ ∀ j, 1 ≤ j → j < n → itR f j x ≠ x := by
    intro k
    induction k with
    | zero => intro n h0 h1; omega
    | succ k ih =>
      intro n h0 h1 h2 h3
      by_cases c : ∃ j, 1 ≤ j ∧ j < n ∧ itR f j x = x
      · obtain ⟨j, c1, c2, c3⟩ := c
        exact ih j (by omega) c1 (by omega) c3
      · exact ⟨n, h1, h2, h3, fun j a b e => c ⟨j, a, b, e⟩⟩
  obtain ⟨n, a, b, c⟩ := h1
  exact least n n (Nat.le_refl _) a b c
/-- the way round from x -/
def ringR (f : α → α) (x : α) (n : Nat) : List α := (List.range n).map fun i => itR f i x
theorem ring_len {x : α} {n : Nat} : (ringR f x n).length = n := by simp [ringR]
theorem ring_at {x : α} {n i : Nat} (h : i < n) : (ringR f x n)[i]? = some (itR f i x) := by
  unfold ringR
  rw [List.getElem?_map, List.getElem?_range h]
  rfl
theorem ring_succ {x : α} {n : Nat} : ringR f x (n + 1) = ringR f x n ++ [itR f n x] := by
  unfold ringR
  rw [List.range_succ, List.map_append]
  rfl
theorem ring_mem {x y : α} {n : Nat} : y ∈ ringR f x n ↔ ∃ i, i < n ∧ y = itR f i x := by
  unfold ringR
  rw [List.mem_map]
  constructor
  · rintro ⟨i, hi, e⟩
    exact ⟨i, List.mem_range.mp hi, e.symm⟩
  · rintro ⟨i, hi, e⟩
    exact ⟨i, List.mem_range.mpr hi, e.symm⟩
theorem ring_nodup (hf : ∀ x ∈ E, f x ∈ E) (inj : ∀ x ∈ E, ∀ y ∈ E, f x = f y → x = y) {x : α} (hx : x ∈ E) {n : Nat} (h : ∀ j, 1 ≤ j → j < n → itR f j x ≠ x) : (ringR f x n).Nodup := by
  unfold ringR
  rw [List.nodup_iff_pairwise_ne, List.pairwise_map]
  refine List.Pairwise.imp_of_mem ?_ (List.pairwise_lt_range (n := n))
  intro a b ha hb hab e
  have hb := List.mem_range.mp hb
  refine h (b - a) (by omega) (by omega) ?_
  have e2 : itR f b x = itR f a (itR f (b - a) x) := by
    rw [← it_add]
    congr 1
    omega
  rw [e2] at e
  exact (it_cancel hf inj hx (it_in hf hx _) a e).symm
/-- a way round: each leads to the next, the last to the first -/
def CycF (f : α → α) (R : List α) : Prop := 1 ≤ R.length ∧ ∀ i x, R[i]? = some x → R[(i + 1) % R.length]? = some (f x)
theorem ring_cyc {x : α} {n : Nat} (h1 : 1 ≤ n) (h : itR f n x = x) : CycF f (ringR f x n) := by
  refine ⟨by rw [ring_len]; exact h1, fun i y hy => ?_⟩
  have hi : i < n := by
    have := (List.getElem?_eq_some_iff.mp hy).1
    rw [ring_len] at this
    exact this
  rw [ring_at hi] at hy
  cases hy
  rw [ring_len]
  by_cases c : i + 1 < n
  · rw [Nat.mod_eq_of_lt c, ring_at c]
    rfl
  · have e : i + 1 = n := by omega
    rw [e, Nat.mod_self, ring_at (by omega)]
    show some x = some (itR f (i + 1) x)
    rw [e, h]
/-- all turns of a list -/
def rotR (k : Nat) (l : List α) : List α := l.drop k ++ l.take k
theorem rot_perm (k : Nat) (l : List α) : (rotR k l).Perm l := by
  unfold rotR
  refine List.perm_append_comm.trans ?_
  rw [List.take_append_drop]
theorem rot_len (k : Nat) (l : List α) : (rotR k l).length = l.length := (rot_perm k l).length_eq
theorem rot_map {β : Type} (g : α → β) (k : Nat) (l : List α) : (rotR k l).map g = rotR k (l.map g) := by
  unfold rotR
  rw [List.map_append, List.map_drop, List.map_take]
theorem rot_at {k : Nat} {l : List α} {i : Nat} (hk : k < l.length) (hi : i < l.length) : (rotR k l)[i]? = l[(i + k) % l.length]? := by
  unfold rotR
  by_cases c : i < l.length - k
  · rw [List.getElem?_append_left (by rw [List.length_drop]; exact c), List.getElem?_drop, Nat.mod_eq_of_lt (by omega), Nat.add_comm]
  · rw [List.getElem?_append_right (by rw [List.length_drop]; omega), List.length_drop, List.getElem?_take_of_lt (by omega)]
    have e : (i + k) % l.length = i - (l.length - k) := by
      have : i + k = (i - (l.length - k)) + l.length := by omega
      rw [this, Nat.add_mod_right, Nat.mod_eq_of_lt (by omega)]
    rw [e]
theorem rot_cyc {R : List α} (h : CycF f R) {k : Nat} (hk : k < R.length) : CycF f (rotR k R) := by
  refine ⟨by rw [rot_len]; exact h.1, fun i x hx => ?_⟩
  have hi : i < R.length := by
    have := (List.getElem?_eq_some_iff.mp hx).1
    rw [rot_len] at this
    exact this
  rw [rot_at hk hi] at hx
  have z := h.2 _ _ hx
  rw [rot_len, rot_at hk (Nat.mod_lt _ (by omega))]
  rw [← z]
  congr 1
  rw [Nat.mod_add_mod, Nat.mod_add_mod]
  congr 1
  omega
theorem rot_rot {l : List α} {j k : Nat} (hj : j < l.length) (hk : k < l.length) : rotR k (rotR j l) = rotR ((j + k) % l.length) l := by
  apply List.ext_getElem?
  intro i
  by_cases hi : i < l.length
  · rw [rot_at (by rw [rot_len]; exact hk) (by rw [rot_len]; exact hi), rot_len, rot_at hj (Nat.mod_lt _ (by omega)), rot_at (Nat.mod_lt _ (by omega)) hi]
    congr 1
    rw [Nat.mod_add_mod, Nat.add_mod_mod]
    congr 1
    omega
  · rw [List.getElem?_eq_none (by rw [rot_len, rot_len]; omega), List.getElem?_eq_none (by rw [rot_len]; omega)]
end
/-! ### corners, edges -/
abbrev Pt := Int × Int
abbrev Ed := Pt × Pt
/-- for each side of a place what is beyond, and its edge -/
def sidesR (p : Pt) : List (Pt × Ed) := [((p.1, p.2 - 1), ((p.1, p.2), (p.1 + 1, p.2))), ((p.1 + 1, p.2), ((p.1 + 1, p.2), (p.1 + 1, p.2 + 1))), ((p.1, p.2 + 1), ((p.1 + 1, p.2 + 1), (p.1, p.2 + 1))), ((p.1 - 1, p.2), ((p.1, p.2 + 1), (p.1, p.2)))]
def outerR (S : List Pt) : List Ed := S.flatMap fun p => ((sidesR p).filter fun x => !decide (x.1 ∈ S)).map (·.2)
def leftR (e : Ed) : Ed := (e.2, (e.2.1 - (e.2.2 - e.1.2), e.2.2 + (e.2.1 - e.1.1)))
def nextR (E : List Ed) (e : Ed) : Ed := if leftR e ∈ E then leftR e else (E.find? fun w => decide (w.1 = e.2)).getD e
/-- the edge that begins at a corner and goes south, east, north, west -/
def mkE (r c : Int) (d : Fin 4) : Ed := ((r, c), match d with
  | 0 => (r + 1, c)
  | 1 => (r, c + 1)
  | 2 => (r - 1, c)
  | 3 => (r, c - 1))
/-- of the four places about a corner: northwest, northeast, southwest, southeast -/
def outB (a b c d : Bool) : Fin 4 → Bool
  | 0 => d && !c
  | 1 => b && !d
  | 2 => a && !b
  | 3 => c && !a
def inB (a b c d : Bool) : Fin 4 → Bool
  | 0 => b && !a
  | 1 => a && !c
  | 2 => c && !d
  | 3 => d && !b
def aboutB (S : List Pt) (r c : Int) (g : Bool → Bool → Bool → Bool → Fin 4 → Bool) : Fin 4 → Bool := g (decide ((r - 1, c - 1) ∈ S)) (decide ((r - 1, c) ∈ S)) (decide ((r, c - 1) ∈ S)) (decide ((r, c) ∈ S))
theorem one_out : ∀ (a b c d : Bool) (i : Fin 4), inB a b c d i = true → outB a b c d (i + 1) = false → ∀ j k : Fin 4, outB a b c d j = true → outB a b c d k = true → j = k := by decide
theorem some_out : ∀ (a b c d : Bool) (i : Fin 4), inB a b c d i = true → ∃ j : Fin 4, outB a b c d j = true := by decide
theorem nx_inj : ∀ (a b c d : Bool) (i k j : Fin 4), inB a b c d i = true → inB a b c d k = true → outB a b c d j = true → (j = i + 1 ∨ outB a b c d (i + 1) = false) → (j = k + 1 ∨ outB a b c d (k + 1) = false) → i = k := by decide
theorem no_turn : ∀ (a b c d : Bool) (i : Fin 4), inB a b c d i = true → outB a b c d (i + 2) = false := by decide
theorem mkE_inj {r c r' c' : Int} {d d' : Fin 4} (h : mkE r c d = mkE r' c' d') : r = r' ∧ c = c' ∧ d = d' := by
  have h1 : r = r' ∧ c = c' := by
    have := congrArg Prod.fst h
    exact ⟨congrArg Prod.fst this, congrArg Prod.snd this⟩
  obtain ⟨rfl, rfl⟩ := h1
  refine ⟨rfl, rfl, ?_⟩
  have h2 := congrArg Prod.snd h
  match d, d', h2 with
  | 0, 0, _ => rfl
  | 1, 1, _ => rfl
  | 2, 2, _ => rfl
  | 3, 3, _ => rfl
  | 0, 1, h => have := congrArg Prod.fst h; simp [mkE] at this; omega
  | 0, 2, h => have := congrArg Prod.fst h; simp [mkE] at this; omega
  | 0, 3, h => have := congrArg Prod.fst h; simp [mkE] at this; omega
  | 1, 0, h => have := congrArg Prod.fst h; simp [mkE] at this; omega
  | 1, 2, h => have := congrArg Prod.fst h; simp [mkE] at this; omega
  | 1, 3, h => have := congrArg Prod.snd h; simp [mkE] at this; omega
  | 2, 0, h => have := congrArg Prod.fst h; simp [mkE] at this; omega
  | 2, 1, h => have := congrArg Prod.fst h; simp [mkE] at this; omega
  | 2, 3, h => have := congrArg Prod.fst h; simp [mkE] at this; omega
  | 3, 0, h => have := congrArg Prod.fst h; simp [mkE] at this; omega
  | 3, 1, h => have := congrArg Prod.snd h; simp [mkE] at this; omega
  | 3, 2, h => have := congrArg Prod.fst h; simp [mkE] at this; omega
/-- an outer edge, by its begin -/
theorem mem_outer {S : List Pt} {e : Ed} : e ∈ outerR S ↔ ∃ r c d, e = mkE r c d ∧ aboutB S r c outB d = true := by
  unfold outerR
  simp only [List.mem_flatMap, List.mem_map, List.mem_filter]
  constructor
  · rintro ⟨⟨pr, pc⟩, hp, x, ⟨hx, hn⟩, rfl⟩
    have hn : x.1 ∉ S := by simpa using hn
    simp only [sidesR, List.mem_cons, List.not_mem_nil, or_false] at hx
    rcases hx with rfl | rfl | rfl | rfl
    · exact ⟨pr, pc, 0, rfl, by simp [aboutB, outB, hp]; exact hn⟩
    · refine ⟨pr + 1, pc, 1, rfl, ?_⟩
      simp only [aboutB, outB]
      rw [show pr + 1 - 1 = pr by omega]
      simp [hp]; exact hn
    · refine ⟨pr + 1, pc + 1, 2, ?_, ?_⟩
      · simp [mkE]
      · simp only [aboutB, outB]
        rw [show pr + 1 - 1 = pr by omega, show pc + 1 - 1 = pc by omega]
        simp [hp]; exact hn
    · refine ⟨pr, pc + 1, 3, ?_, ?_⟩
      · simp [mkE]
      · simp only [aboutB, outB]
        rw [show pc + 1 - 1 = pc by omega]
        simp [hp]; exact hn
  · rintro ⟨r, c, d, rfl, h⟩
    match d, h with
    | 0, h =>
      simp only [aboutB, outB, Bool.and_eq_true, Bool.not_eq_true', decide_eq_true_eq, decide_eq_false_iff_not] at h
      exact ⟨(r, c), h.1, ((r, c - 1), mkE r c 0), ⟨by simp [sidesR, mkE], by simpa using h.2⟩, rfl⟩
    | 1, h =>
      simp only [aboutB, outB, Bool.and_eq_true, Bool.not_eq_true', decide_eq_true_eq, decide_eq_false_iff_not] at h
      refine ⟨(r - 1, c), h.1, ((r, c), mkE r c 1), ⟨?_, by simpa using h.2⟩, rfl⟩
      have e : r - 1 + 1 = r := by omega
      simp [sidesR, mkE, e]
    | 2, h =>
      simp only [aboutB, outB, Bool.and_eq_true, Bool.not_eq_true', decide_eq_true_eq, decide_eq_false_iff_not] at h
      refine ⟨(r - 1, c - 1), h.1, ((r - 1, c), mkE r c 2), ⟨?_, by simpa using h.2⟩, rfl⟩
      have e : r - 1 + 1 = r := by omega
      have e2 : c - 1 + 1 = c := by omega
      simp [sidesR, mkE, e, e2]
    | 3, h =>
      simp only [aboutB, outB, Bool.and_eq_true, Bool.not_eq_true', decide_eq_true_eq, decide_eq_false_iff_not] at h
      refine ⟨(r, c - 1), h.1, ((r - 1, c - 1), mkE r c 3), ⟨?_, by simpa using h.2⟩, rfl⟩
      have e2 : c - 1 + 1 = c := by omega
      simp [sidesR, mkE, e2]
/-- where it ends it comes in -/
theorem in_end {S : List Pt} {r c : Int} {d : Fin 4} (h : aboutB S r c outB d = true) : aboutB S (mkE r c d).2.1 (mkE r c d).2.2 inB d = true := by
  have e1 : r + 1 - 1 = r := by omega
  have e2 : c + 1 - 1 = c := by omega
  match d, h with
  | 0, h =>
    show (decide ((r + 1 - 1, c) ∈ S) && !decide ((r + 1 - 1, c - 1) ∈ S)) = true
    simp only [e1]
    exact h
  | 1, h =>
    show (decide ((r - 1, c + 1 - 1) ∈ S) && !decide ((r, c + 1 - 1) ∈ S)) = true
    simp only [e2]
    exact h
  | 2, h => exact h
  | 3, h => exact h
theorem left_is (r c : Int) (d : Fin 4) : leftR (mkE r c d) = mkE (mkE r c d).2.1 (mkE r c d).2.2 (d + 1) := by
  match d with
  | 0 => exact Prod.ext rfl (Prod.ext (show r + 1 - (c - c) = r + 1 by omega) (show c + (r + 1 - r) = c + 1 by omega))
  | 1 => exact Prod.ext rfl (Prod.ext (show r - (c + 1 - c) = r - 1 by omega) (show c + 1 + (r - r) = c + 1 by omega))
  | 2 => exact Prod.ext rfl (Prod.ext (show r - 1 - (c - c) = r - 1 by omega) (show c + (r - 1 - r) = c - 1 by omega))
  | 3 => exact Prod.ext rfl (Prod.ext (show r - (c - 1 - c) = r + 1 by omega) (show c - 1 + (r - r) = c - 1 by omega))
theorem at_mkE {S : List Pt} {r c : Int} {d : Fin 4} : mkE r c d ∈ outerR S ↔ aboutB S r c outB d = true := by
  rw [mem_outer]
  constructor
  · rintro ⟨r', c', d', e, h⟩
    obtain ⟨rfl, rfl, rfl⟩ := mkE_inj e
    exact h
  · exact fun h => ⟨r, c, d, rfl, h⟩
/-- what leads on -/
theorem next_is {S : List Pt} {r c : Int} {d : Fin 4} (h : aboutB S r c outB d = true) : ∃ j, nextR (outerR S) (mkE r c d) = mkE (mkE r c d).2.1 (mkE r c d).2.2 j ∧ aboutB S (mkE r c d).2.1 (mkE r c d).2.2 outB j = true ∧
    (j = d + 1 ∨ aboutB S (mkE r c d).2.1 (mkE r c d).2.2 outB (d + 1) = false) := by
  have hin := in_end h
  unfold nextR
  rw [left_is]
  generalize hv : (mkE r c d).2 = v at hin ⊢
  by_cases c1 : aboutB S v.1 v.2 outB (d + 1) = true
  · rw [if_pos (at_mkE.mpr c1)]
    exact ⟨_, rfl, c1, .inl rfl⟩
  · rw [if_neg (fun z => c1 (at_mkE.mp z))]
    obtain ⟨j, hj⟩ := some_out _ _ _ _ _ hin
    have hm : mkE v.1 v.2 j ∈ outerR S := at_mkE.mpr hj
    cases hf : (outerR S).find? (fun w => decide (w.1 = v)) with
    | none => exact absurd (List.find?_eq_none.mp hf _ hm) (by simp [mkE])
    | some w =>
      have hw := List.mem_of_find?_eq_some hf
      have hw1 : w.1 = v := by
        have := List.find?_some hf
        simpa using this
      obtain ⟨r', c', j', e, ho⟩ := mem_outer.mp hw
      have e1 : (r', c') = v := by rw [← hw1, e]; rfl
      subst e1
      refine ⟨j', ?_, ho, .inr (by simpa using c1)⟩
      rw [e]
      rfl
theorem next_in {S : List Pt} : ∀ e ∈ outerR S, nextR (outerR S) e ∈ outerR S := fun e he => by
  obtain ⟨r, c, d, rfl, h⟩ := mem_outer.mp he
  obtain ⟨j, e, ho, _⟩ := next_is h
  rw [e]
  exact at_mkE.mpr ho
theorem next_at {S : List Pt} : ∀ e ∈ outerR S, (nextR (outerR S) e).1 = e.2 := fun e he => by
  obtain ⟨r, c, d, rfl, h⟩ := mem_outer.mp he
  obtain ⟨j, e, ho, _⟩ := next_is h
  rw [e]
  rfl
/-- a begin and a side from an end and a side -/
theorem back_of {r c r' c' : Int} {d : Fin 4} (h : (mkE r c d).2 = (mkE r' c' d).2) : r = r' ∧ c = c' := by
  match d, h with
  | 0, h => have h1 := congrArg Prod.fst h; have h2 := congrArg Prod.snd h; simp [mkE] at h1 h2; omega
  | 1, h => have h1 := congrArg Prod.fst h; have h2 := congrArg Prod.snd h; simp [mkE] at h1 h2; omega
  | 2, h => have h1 := congrArg Prod.fst h; have h2 := congrArg Prod.snd h; simp [mkE] at h1 h2; omega
  | 3, h => have h1 := congrArg Prod.fst h; have h2 := congrArg Prod.snd h; simp [mkE] at h1 h2; omega
theorem next_inj {S : List Pt} : ∀ e ∈ outerR S, ∀ e' ∈ outerR S, nextR (outerR S) e = nextR (outerR S) e' → e = e' := fun e he e' he' q => by
  obtain ⟨r, c, d, rfl, h⟩ := mem_outer.mp he
  obtain ⟨r', c', d', rfl, h'⟩ := mem_outer.mp he'
  obtain ⟨j, e1, ho, k⟩ := next_is h
  obtain ⟨j', e1', ho', k'⟩ := next_is h'
  rw [e1, e1'] at q
  obtain ⟨q1, q2, rfl⟩ := mkE_inj q
  have hin := in_end h
  have hin' := in_end h'
  have qv : (mkE r c d).2 = (mkE r' c' d').2 := Prod.ext q1 q2
  rw [← qv] at hin' k' ho'
  have := nx_inj _ _ _ _ d d' j hin hin' ho k k'
  subst this
  obtain ⟨rfl, rfl⟩ := back_of qv
  rfl
/-- of two ways on the left one is there -/
theorem next_left {S : List Pt} {e : Ed} (he : e ∈ outerR S) {w w' : Ed} (hw : w ∈ outerR S) (hw' : w' ∈ outerR S) (h : w.1 = e.2) (h' : w'.1 = e.2) (n : w ≠ w') : nextR (outerR S) e = leftR e := by
  unfold nextR
  apply if_pos
  obtain ⟨r, c, d, rfl, ho⟩ := mem_outer.mp he
  rw [left_is, at_mkE]
  have hin := in_end ho
  generalize (mkE r c d).2 = v at *
  obtain ⟨r1, c1, j, rfl, h1⟩ := mem_outer.mp hw
  obtain ⟨r2, c2, k, rfl, h2⟩ := mem_outer.mp hw'
  have e1 : (r1, c1) = v := h
  have e2 : (r2, c2) = v := h'
  subst e1
  cases e2
  apply Classical.byContradiction
  intro q
  exact n (by rw [one_out _ _ _ _ d hin (show aboutB S r1 c1 outB (d + 1) = false by simpa using q) j k h1 h2])
theorem outer_nodup {S : List Pt} (nd : S.Nodup) : (outerR S).Nodup := by
  unfold outerR
  rw [List.nodup_iff_pairwise_ne, List.pairwise_flatMap]
  have key : ∀ (p : Pt) (x : Pt × Ed), x ∈ sidesR p → ∀ (p' : Pt) (x' : Pt × Ed), x' ∈ sidesR p' → x.2 = x'.2 → x = x' ∧ p = p' := by
    rintro ⟨r, c⟩ x hx ⟨r', c'⟩ x' hx' e
    simp only [sidesR, List.mem_cons, List.not_mem_nil, or_false] at hx hx'
    rcases hx with rfl | rfl | rfl | rfl <;> rcases hx' with rfl | rfl | rfl | rfl <;> simp only [Prod.mk.injEq] at e ⊢ <;> omega
  refine ⟨fun p hp => ?_, ?_⟩
  · rw [List.pairwise_map]
    refine List.Pairwise.imp_of_mem (R := (· ≠ ·)) ?_ (List.Pairwise.filter _ ?_)
    · intro x y hx hy n e
      exact n (key p x (List.mem_filter.mp hx).1 p y (List.mem_filter.mp hy).1 e).1
    · obtain ⟨r, c⟩ := p
      simp only [sidesR, List.pairwise_cons, List.mem_cons, List.not_mem_nil, or_false, List.Pairwise.nil, forall_eq_or_imp, forall_eq, ne_eq, Prod.mk.injEq, and_true]
      refine ⟨⟨?_, ?_, ?_⟩, ⟨?_, ?_⟩, ?_, fun _ h => h.elim⟩ <;> omega
  · refine List.Pairwise.imp_of_mem ?_ (List.nodup_iff_pairwise_ne.mp nd)
    intro p p' hp hp' n e he e' he' q
    obtain ⟨x, hx, rfl⟩ := List.mem_map.mp he
    obtain ⟨x', hx', rfl⟩ := List.mem_map.mp he'
    exact n (key p x (List.mem_filter.mp hx).1 p' x' (List.mem_filter.mp hx').1 q).2
end Wl

/-! sorted(a list of things told by data), and when two such lists are sorted alike -/
namespace Wl
open PySem PySem.Spec PyProof.Rows L2
theorem each_pairs {α β : Type} {R : α → β → Prop} : ∀ {as : List α} {bs : List β}, Each R as bs → ∃ zs : List (α × β), zs.map (·.1) = as ∧ zs.map (·.2) = bs ∧ ∀ z ∈ zs, R z.1 z.2
  | _, _, .nil => ⟨[], rfl, rfl, fun z h => by cases h⟩
  | _, _, .cons (a := a) (b := b) r t => by
    obtain ⟨zs, h1, h2, h3⟩ := each_pairs t
    refine ⟨(a, b) :: zs, by rw [List.map_cons, h1], by rw [List.map_cons, h2], fun z hz => ?_⟩
    rcases List.mem_cons.mp hz with rfl | hz
    · exact r
    · exact h3 z hz
theorem pairs_each {α β : Type} {R : α → β → Prop} : ∀ (zs : List (α × β)), (∀ z ∈ zs, R z.1 z.2) → Each R (zs.map (·.1)) (zs.map (·.2))
  | [], _ => .nil
  | z :: zs, h => .cons (h z List.mem_cons_self) (pairs_each zs fun y hy => h y (List.mem_cons_of_mem _ hy))
def sortE {β : Type} (enc : β → PyData) (bs : List β) : List β := bs.mergeSort (PySem.W.dataLe false enc)
section
variable {β : Type} {enc : β → PyData}
theorem sortE_ind {enc : β → PyData} (bs : List β) : (sortE enc bs).Perm bs := List.mergeSort_perm _ _
theorem le_enc (a b : β) : PySem.W.dataLe false enc a b = !PyProof.Rows.lexLt PyProof.Rows.itemOrd (PySem.W.keyToks (enc b)) (PySem.W.keyToks (enc a)) := by
  rw [PySem.W.dataLe_eq]
  rfl
theorem le_tr (a b c : β) (h1 : PySem.W.dataLe false enc a b = true) (h2 : PySem.W.dataLe false enc b c = true) : PySem.W.dataLe false enc a c = true := by
  rw [le_enc, Bool.not_eq_true'] at h1 h2 ⊢
  cases e : PyProof.Rows.lexLt PyProof.Rows.itemOrd (PySem.W.keyToks (enc c)) (PySem.W.keyToks (enc a)) with
  | false => rfl
  | true =>
    rcases PyProof.Rows.lex_negTrans _ (PySem.W.keyToks (enc b)) _ e with z | z
    · rw [h2] at z
      cases z
    · rw [h1] at z
      cases z
theorem le_tot (a b : β) : (PySem.W.dataLe false enc a b || PySem.W.dataLe false enc b a) = true := by
  rw [le_enc, le_enc]
  cases e : PyProof.Rows.lexLt PyProof.Rows.itemOrd (PySem.W.keyToks (enc b)) (PySem.W.keyToks (enc a)) with
  | false => rfl
  | true =>
    cases e2 : PyProof.Rows.lexLt PyProof.Rows.itemOrd (PySem.W.keyToks (enc a)) (PySem.W.keyToks (enc b)) with
    | false => rfl
    | true =>
      have := PyProof.Rows.lex_trans _ _ _ e e2
      rw [PyProof.Rows.lex_irrefl] at this
      cases this
theorem le_anti (inj : ∀ a b : β, PySem.W.keyToks (enc a) = PySem.W.keyToks (enc b) → a = b) (a b : β) (h1 : PySem.W.dataLe false enc a b = true) (h2 : PySem.W.dataLe false enc b a = true) : a = b := by
  rw [le_enc, Bool.not_eq_true'] at h1 h2
  exact inj a b (PyProof.Rows.lex_total _ _ h2 h1)
theorem sorted_same {le : β → β → Bool} (anti : ∀ a b : β, le a b = true → le b a = true → a = b) : ∀ {l m : List β}, l.Pairwise (fun a b => le a b = true) → m.Pairwise (fun a b => le a b = true) → l.Perm m → l = m
  | [], m, _, _, p => p.nil_eq
  | a :: l, [], _, _, p => absurd p.symm.nil_eq (by simp)
  | a :: l, b :: m, h1, h2, p => by
    have e : a = b := by
      have ha : a ∈ b :: m := p.mem_iff.mp List.mem_cons_self
      have hb : b ∈ a :: l := p.mem_iff.mpr List.mem_cons_self
      rcases List.mem_cons.mp ha with e | ha
      · exact e
      · rcases List.mem_cons.mp hb with e | hb
        · exact e.symm
        · exact anti a b ((List.pairwise_cons.mp h1).1 b hb) ((List.pairwise_cons.mp h2).1 a ha)
    subst e
    rw [sorted_same anti (List.pairwise_cons.mp h1).2 (List.pairwise_cons.mp h2).2 (List.Perm.cons_inv p)]
theorem sortE_perm (inj : ∀ a b : β, PySem.W.keyToks (enc a) = PySem.W.keyToks (enc b) → a = b) {l m : List β} : sortE enc l = sortE enc m ↔ l.Perm m := by
  refine ⟨fun e => ?_, fun p => ?_⟩
  · have h1 := sortE_ind (enc := enc) l
    have h2 := sortE_ind (enc := enc) m
    rw [e] at h1
    exact h1.symm.trans h2
  · refine sorted_same (le := PySem.W.dataLe false enc) (le_anti inj) (List.pairwise_mergeSort le_tr le_tot l) (List.pairwise_mergeSort le_tr le_tot m) ?_
    exact (sortE_ind l).trans (p.trans (sortE_ind m).symm)
/-- sorted(xs) -/
theorem sort_enc {K : PySem.W.Frag} {H : Hp} {Q : VK} {a : Addr} {xs : List V} {bs : List β} (h : SqL K H a xs) (hd : Each (fun x b => Dp K H x (enc b)) xs bs) (al : ∀ b b' : β, PySem.W.alike (enc b) (enc b') = true) (sb : ∀ b, ∃ x r, enc b = .tuple (x :: r)) (dep : ∀ b, (enc b).depth ≤ 8)
    (q : ∀ p ys, H p = none → (∀ R : V → β → Prop, Each R xs bs → Each R ys (sortE enc bs)) → Q (.ref p) (upd H p (.lst ys))) : rSortD K [.ref a] H Q := by
  obtain ⟨zs, e1, e2, hz⟩ := each_pairs hd
  refine ⟨a, zs.map fun z => (z.1, enc z.2), rfl, ?_, ?_, ?_, ?_, ?_, fun p hp => ?_⟩
  · rw [List.map_map]
    exact e1 ▸ h
  · intro b hb
    obtain ⟨z, hzm, rfl⟩ := List.mem_map.mp hb
    exact hz z hzm
  · intro d hd e he
    obtain ⟨b, hb, rfl⟩ := List.mem_map.mp hd
    obtain ⟨x, _, rfl⟩ := List.mem_map.mp hb
    obtain ⟨c, hc, rfl⟩ := List.mem_map.mp he
    obtain ⟨y, _, rfl⟩ := List.mem_map.mp hc
    exact al _ _
  · refine .inl fun d hd => ?_
    obtain ⟨b, hb, rfl⟩ := List.mem_map.mp hd
    obtain ⟨x, _, rfl⟩ := List.mem_map.mp hb
    exact sb _
  · intro b hb
    obtain ⟨x, _, rfl⟩ := List.mem_map.mp hb
    exact dep _
  · have m1 : (zs.mergeSort fun x y => PySem.W.dataLe false enc x.2 y.2).map (fun z => (z.1, enc z.2)) = (zs.map fun z => (z.1, enc z.2)).mergeSort (PySem.W.dataLe false (·.2)) := List.map_mergeSort fun x _ y _ => by
      rw [PySem.W.dataLe_eq, PySem.W.dataLe_eq]
    have m2 : (zs.mergeSort fun x y => PySem.W.dataLe false enc x.2 y.2).map (·.2) = (zs.map (·.2)).mergeSort (PySem.W.dataLe false enc) := List.map_mergeSort fun x _ y _ => rfl
    rw [← m1, List.map_map]
    refine q p _ hp fun R hR => ?_
    have hall : ∀ z ∈ zs, R z.1 z.2 := by
      have : ∀ (zs : List (V × β)), Each R (zs.map (·.1)) (zs.map (·.2)) → ∀ z ∈ zs, R z.1 z.2 := by
        intro zs
        induction zs with
        | nil => intro _ z hz; cases hz
        | cons y ys ih =>
          intro h z hz
          cases h with
          | cons r t =>
            rcases List.mem_cons.mp hz with rfl | hz
            · exact r
            · exact ih t z hz
      rw [← e1, ← e2] at hR
      exact this zs hR
    have e3 := pairs_each (R := R) (zs.mergeSort fun x y => PySem.W.dataLe false enc x.2 y.2) fun z hzm => hall z (List.mem_mergeSort.mp hzm)
    rw [m2, e2] at e3
    exact e3
end
end Wl

/-! Rings: all of them, their turns. -/
namespace Wl
open PySem PySem.Spec PyProof.Rows L2
/-- steps of a lane of corners -/
def stepsR (l : List Pt) : List Ed := (List.range l.length).map fun k => (l.getD k (0, 0), l.getD ((k + 1) % l.length) (0, 0))
section
variable {S : List Pt} {R : List Ed}
/-- a ring of the edges about S -/
structure RingR (S : List Pt) (R : List Ed) : Prop where
  cyc : CycF (nextR (outerR S)) R
  mem : ∀ e ∈ R, e ∈ outerR S
theorem steps_ring (h : RingR S R) : stepsR (R.map (·.1)) = R := by
  apply List.ext_getElem?
  intro i
  unfold stepsR
  rw [List.length_map]
  by_cases hi : i < R.length
  · have e0 : R[i]? = some R[i] := List.getElem?_eq_getElem hi
    have e1 := h.cyc.2 _ _ e0
    have hm := h.mem _ (List.getElem_mem hi)
    rw [List.getElem?_map, List.getElem?_range hi, e0]
    have g0 : (R.map (·.1)).getD i (0, 0) = R[i].1 := by
      rw [List.getD_eq_getElem?_getD, List.getElem?_map, e0]
      rfl
    have g1 : (R.map (·.1)).getD ((i + 1) % R.length) (0, 0) = R[i].2 := by
      rw [List.getD_eq_getElem?_getD, List.getElem?_map, e1]
      show (nextR (outerR S) R[i]).1 = _
      exact next_at _ hm
    show some ((R.map (·.1)).getD i (0, 0), (R.map (·.1)).getD ((i + 1) % R.length) (0, 0)) = some R[i]
    rw [g0, g1]
  · rw [List.getElem?_map, List.getElem?_eq_none (by rw [List.length_range]; omega), List.getElem?_eq_none (by omega)]
    rfl
theorem outer_odd {e : Ed} (he : e ∈ outerR S) : (e.2.1 + e.2.2 - e.1.1 - e.1.2) % 2 = 1 := by
  obtain ⟨r, c, d, rfl, _⟩ := mem_outer.mp he
  match d with
  | 0 => show (r + 1 + c - r - c) % 2 = 1; omega
  | 1 => show (r + (c + 1) - r - c) % 2 = 1; omega
  | 2 => show (r - 1 + c - r - c) % 2 = 1; omega
  | 3 => show (r + (c - 1) - r - c) % 2 = 1; omega
theorem no_back {e : Ed} (he : e ∈ outerR S) : (nextR (outerR S) e).2 ≠ e.1 := fun q => by
  obtain ⟨r, c, d, rfl, h⟩ := mem_outer.mp he
  obtain ⟨j, e, ho, _⟩ := next_is h
  rw [e] at q
  have hin := in_end h
  have nt := no_turn _ _ _ _ _ hin
  have ej : j = d + 2 := by
    have q1 := congrArg Prod.fst q
    have q2 := congrArg Prod.snd q
    match d, j, q1, q2 with
    | 0, 2, _, _ => rfl
    | 1, 3, _, _ => rfl
    | 2, 0, _, _ => rfl
    | 3, 1, _, _ => rfl
    | 0, 0, q1, q2 => simp [mkE] at q1 q2 <;> omega
    | 0, 1, q1, q2 => simp [mkE] at q1 q2 <;> omega
    | 0, 3, q1, q2 => simp [mkE] at q1 q2 <;> omega
    | 1, 0, q1, q2 => simp [mkE] at q1 q2 <;> omega
    | 1, 1, q1, q2 => simp [mkE] at q1 q2 <;> omega
    | 1, 2, q1, q2 => simp [mkE] at q1 q2 <;> omega
    | 2, 1, q1, q2 => simp [mkE] at q1 q2 <;> omega
    | 2, 2, q1, q2 => simp [mkE] at q1 q2 <;> omega
    | 2, 3, q1, q2 => simp [mkE] at q1 q2 <;> omega
    | 3, 0, q1, q2 => simp [mkE] at q1 q2 <;> omega
    | 3, 2, q1, q2 => simp [mkE] at q1 q2 <;> omega
    | 3, 3, q1, q2 => simp [mkE] at q1 q2 <;> omega
  rw [ej] at ho
  have : aboutB S (mkE r c d).2.1 (mkE r c d).2.2 outB (d + 2) = false := nt
  rw [this] at ho
  cases ho
theorem ring_four (h : RingR S R) : 4 ≤ R.length := by
  obtain ⟨⟨h1, hc⟩, hm⟩ := h
  match R, h1, hc, hm with
  | [a], _, hc, hm =>
    have e0 : a = nextR (outerR S) a := by simpa using hc 0 a rfl
    have o := outer_odd (hm a List.mem_cons_self)
    have n := next_at a (hm a List.mem_cons_self)
    rw [← e0] at n
    rw [n] at o
    omega
  | [a, b], _, hc, hm =>
    have ha := hm a List.mem_cons_self
    have e0 : b = nextR (outerR S) a := by simpa using hc 0 a rfl
    have e1 : a = nextR (outerR S) b := by simpa using hc 1 b rfl
    have n1 := next_at b (hm b (List.mem_cons_of_mem _ List.mem_cons_self))
    rw [← e1] at n1
    have nb := no_back ha
    rw [← e0] at nb
    exact absurd n1.symm nb
  | [a, b, c], _, hc, hm =>
    have e0 : b = nextR (outerR S) a := by simpa using hc 0 a rfl
    have e1 : c = nextR (outerR S) b := by simpa using hc 1 b rfl
    have e2 : a = nextR (outerR S) c := by simpa using hc 2 c rfl
    have ha := hm a (by simp)
    have hb := hm b (by simp)
    have hcc := hm c (by simp)
    have n0 := next_at a ha
    have n1 := next_at b hb
    have n2 := next_at c hcc
    rw [← e0] at n0
    rw [← e1] at n1
    rw [← e2] at n2
    have o0 := outer_odd ha
    have o1 := outer_odd hb
    have o2 := outer_odd hcc
    rw [← n0] at o0
    rw [← n1] at o1
    rw [← n2] at o2
    omega
  | _ :: _ :: _ :: _ :: r, _, _, _ => simp
theorem RingR.rot (h : RingR S R) {k : Nat} (hk : k < R.length) : RingR S (rotR k R) := ⟨rot_cyc h.cyc hk, fun e he => h.mem e ((rot_perm k R).mem_iff.mp he)⟩
/-! ### all of them, one after the other -/
structure FoundI (S : List Pt) (i : Nat) (F : List (List Ed)) : Prop where
  rings : ∀ R ∈ F, RingR S R
  nd : F.flatten.Nodup
  got : ∀ e ∈ (outerR S).take i, e ∈ F.flatten
theorem found_0 : FoundI S 0 [] := ⟨fun R h => (by cases h), List.nodup_nil, fun e h => (by simp at h)⟩
theorem ring_on (h : RingR S R) {e : Ed} (he : e ∈ R) : ∀ n, itR (nextR (outerR S)) n e ∈ R
  | 0 => he
  | n + 1 => by
    obtain ⟨i, hi⟩ := List.mem_iff_getElem?.mp (ring_on h he n)
    exact List.mem_of_getElem? (h.cyc.2 _ _ hi)
theorem found_skip {i : Nat} {F : List (List Ed)} {e : Ed} (h : FoundI S i F) (he : (outerR S)[i]? = some e) (hg : e ∈ F.flatten) : FoundI S (i + 1) F :=
  ⟨h.rings, h.nd, fun x hx => by
    rw [List.take_add_one, he] at hx
    rcases List.mem_append.mp hx with hx | hx
    · exact h.got x hx
    · rw [List.mem_singleton.mp hx]
      exact hg⟩
theorem found_add {i n : Nat} {F : List (List Ed)} {e : Ed} (h : FoundI S i F) (he : (outerR S)[i]? = some e) (hg : e ∉ F.flatten) (h1 : 1 ≤ n) (hb : itR (nextR (outerR S)) n e = e) (hl : ∀ j, 1 ≤ j → j < n → itR (nextR (outerR S)) j e ≠ e) :
    FoundI S (i + 1) (F ++ [ringR (nextR (outerR S)) e n]) ∧ RingR S (ringR (nextR (outerR S)) e n) := by
  have hm := List.mem_of_getElem? he
  have hR : RingR S (ringR (nextR (outerR S)) e n) := ⟨ring_cyc h1 hb, fun x hx => by
    obtain ⟨j, _, rfl⟩ := ring_mem.mp hx
    exact it_in next_in hm j⟩
  refine ⟨⟨fun R hx => ?_, ?_, fun x hx => ?_⟩, hR⟩
  · rcases List.mem_append.mp hx with hx | hx
    · exact h.rings R hx
    · rw [List.mem_singleton.mp hx]
      exact hR
  · rw [List.flatten_append, List.flatten_cons, List.flatten_nil, List.append_nil]
    refine List.nodup_append.mpr ⟨h.nd, ring_nodup next_in next_inj hm hl, fun x hx y hy q => ?_⟩
    subst q
    obtain ⟨j, hj, rfl⟩ := ring_mem.mp hy
    obtain ⟨R', hR', hx'⟩ := List.mem_flatten.mp hx
    have z := ring_on (h.rings R' hR') hx' (n - j)
    rw [← it_add, show n - j + j = n by omega, hb] at z
    exact hg (List.mem_flatten.mpr ⟨R', hR', z⟩)
  · rw [List.take_add_one, he] at hx
    rw [List.flatten_append]
    rcases List.mem_append.mp hx with hx | hx
    · exact List.mem_append_left _ (h.got x hx)
    · rw [List.mem_singleton.mp hx]
      refine List.mem_append_right _ (List.mem_flatten.mpr ⟨_, List.mem_singleton.mpr rfl, ring_mem.mpr ⟨0, by omega, rfl⟩⟩)
theorem found_all {F : List (List Ed)} (nd : S.Nodup) (h : FoundI S (outerR S).length F) : F.flatten.Perm (outerR S) := by
  refine nodup_perm h.nd (outer_nodup nd) fun x => ⟨fun hx => ?_, fun hx => ?_⟩
  · obtain ⟨R, hR, hx⟩ := List.mem_flatten.mp hx
    exact (h.rings R hR).mem x hx
  · refine h.got x ?_
    rw [List.take_length]
    exact hx
end
/-! ### as data -/
def encPt (p : Pt) : PyData := .tuple [.int p.1, .int p.2]
def encEd (e : Ed) : PyData := .tuple [encPt e.1, encPt e.2]
def encLn (l : List Pt) : PyData := .tuple (l.map encPt)
theorem pt_toks {p q : Pt} {a b : List (Int ⊕ List Nat)} (h : PySem.W.keyToks (encPt p) ++ a = PySem.W.keyToks (encPt q) ++ b) : p = q ∧ a = b := by
  simp only [encPt, PySem.W.keyToks, PySem.W.keyToksAll, List.cons_append, List.nil_append, List.cons.injEq, Sum.inl.injEq, true_and] at h
  exact ⟨Prod.ext h.1 h.2.1, h.2.2⟩
theorem ln_inj : ∀ (l m : List Pt), PySem.W.keyToksAll (l.map encPt) = PySem.W.keyToksAll (m.map encPt) → l = m
  | [], [], _ => rfl
  | [], q :: m, h => by
    simp only [List.map_nil, List.map_cons, PySem.W.keyToksAll, List.cons_append, List.nil_append, List.cons.injEq, Sum.inl.injEq] at h
    exact absurd h.1 (by decide)
  | p :: l, [], h => by
    simp only [List.map_nil, List.map_cons, PySem.W.keyToksAll, List.cons_append, List.nil_append, List.cons.injEq, Sum.inl.injEq] at h
    exact absurd h.1 (by decide)
  | p :: l, q :: m, h => by
    simp only [List.map_cons, PySem.W.keyToksAll, List.cons_append, List.nil_append, List.cons.injEq, true_and] at h
    obtain ⟨e, h2⟩ := pt_toks h
    rw [e, ln_inj l m h2]
theorem encLn_inj (l m : List Pt) (h : PySem.W.keyToks (encLn l) = PySem.W.keyToks (encLn m)) : l = m := ln_inj l m (by simpa [encLn, PySem.W.keyToks] using h)
theorem encEd_inj (e g : Ed) (h : PySem.W.keyToks (encEd e) = PySem.W.keyToks (encEd g)) : e = g := by
  simp only [encEd, PySem.W.keyToks, PySem.W.keyToksAll, List.cons_append, List.nil_append, List.cons.injEq, true_and] at h
  obtain ⟨e1, h⟩ := pt_toks h
  simp only [List.cons.injEq, true_and] at h
  obtain ⟨e2, _⟩ := pt_toks h
  exact Prod.ext e1 e2
theorem pt_alike (p q : Pt) : PySem.W.alike (encPt p) (encPt q) = true := rfl
theorem ed_alike (p q : Ed) : PySem.W.alike (encEd p) (encEd q) = true := rfl
theorem ln_alike : ∀ (l m : List Pt), PySem.W.alike (encLn l) (encLn m) = true := fun l m => by
  have : ∀ l m : List Pt, PySem.W.alikeAll (l.map encPt) (m.map encPt) = true := by
    intro l
    induction l with
    | nil => intro m; rfl
    | cons p l ih =>
      intro m
      cases m with
      | nil => rfl
      | cons q m => simp only [List.map_cons, PySem.W.alikeAll, pt_alike, ih, Bool.and_self]
  simpa [encLn, PySem.W.alike] using this l m
theorem ln_depth (l : List Pt) : (encLn l).depth ≤ 8 := by
  have : ∀ l : List Pt, PyData.depthAll (l.map encPt) ≤ 1 := by
    intro l
    induction l with
    | nil => simp [PyData.depthAll]
    | cons p l ih =>
      simp only [List.map_cons, PyData.depthAll, encPt, PyData.depth]
      omega
  have := this l
  simp only [encLn, PyData.depth]
  omega
/-- less, of lanes -/
def ltLn (l m : List Pt) : Bool := PySem.W.dataLt (encLn l) (encLn m)
theorem ltLn_tot {l m : List Pt} (n : l ≠ m) (h : ltLn m l = false) : ltLn l m = true := by
  cases q : ltLn l m with
  | true => rfl
  | false => exact absurd (encLn_inj _ _ (PyProof.Rows.lex_total _ _ q h)) n
/-- a lane: the begins of a ring's edges, of its turns the least -/
structure LaneR (S : List Pt) (R : List Ed) : Prop where
  ring : RingR S R
  least : ∀ k, k < R.length → ltLn (rotR k (R.map (·.1))) (R.map (·.1)) = false
/-- all lanes, rising -/
structure LanesR (S : List Pt) (G : List (List Ed)) : Prop where
  lane : ∀ R ∈ G, LaneR S R
  all : G.flatten.Perm (outerR S)
  rise : ∀ i R R', G[i]? = some R → G[i + 1]? = some R' → ltLn (R.map (·.1)) (R'.map (·.1)) = true
theorem flatten_each_perm {α : Type} : ∀ {F G : List (List α)}, Each (fun R R' => R'.Perm R) F G → G.flatten.Perm F.flatten
  | _, _, .nil => .nil
  | _, _, .cons r t => by
    rw [List.flatten_cons, List.flatten_cons]
    exact r.append (flatten_each_perm t)
theorem lanes_of {S : List Pt} (nd : S.Nodup) {F F' : List (List Ed)} (h : FoundI S (outerR S).length F) (hF : Each (fun R R' => R'.Perm R) F F') (hl : ∀ R' ∈ F', LaneR S R') : LanesR S (F'.mergeSort fun x y => PySem.W.dataLe false encLn (x.map (·.1)) (y.map (·.1))) := by
  have p1 : F'.flatten.Perm (outerR S) := (flatten_each_perm hF).trans (found_all nd h)
  have pm := List.mergeSort_perm F' fun x y => PySem.W.dataLe false encLn (x.map (·.1)) (y.map (·.1))
  have so := List.pairwise_mergeSort (le := fun x y : List Ed => PySem.W.dataLe false encLn (x.map (·.1)) (y.map (·.1))) (fun a b c => le_tr _ _ _) (fun a b => le_tot _ _) F'
  have nF : F'.flatten.Nodup := p1.nodup_iff.mpr (outer_nodup nd)
  generalize F'.mergeSort (fun x y => PySem.W.dataLe false encLn (x.map (·.1)) (y.map (·.1))) = G at pm so
  refine ⟨fun R hR => hl R (pm.mem_iff.mp hR), pm.flatten.trans p1, fun i R R' h1 h2 => ?_⟩
  have nG : G.flatten.Nodup := pm.flatten.nodup_iff.mpr nF
  have li : i + 1 < G.length := (List.getElem?_eq_some_iff.mp h2).1
  have e1 := (List.getElem?_eq_some_iff.mp h1).2
  have e2 := (List.getElem?_eq_some_iff.mp h2).2
  have le := List.pairwise_iff_getElem.mp so i (i + 1) (by omega) li (by omega)
  rw [e1, e2, le_enc, Bool.not_eq_true'] at le
  refine ltLn_tot (fun q => ?_) le
  have r1 := (hl R (pm.mem_iff.mp (List.mem_of_getElem? h1))).ring
  have r2 := (hl R' (pm.mem_iff.mp (List.mem_of_getElem? h2))).ring
  have e : R = R' := by rw [← steps_ring r1, ← steps_ring r2, q]
  subst e
  have hd : ∃ a, a ∈ R := by
    have := r1.cyc.1
    cases R with
    | nil => simp at this
    | cons a r => exact ⟨a, List.mem_cons_self⟩
  obtain ⟨a, ha⟩ := hd
  have dj := (List.pairwise_flatten.mp (List.nodup_iff_pairwise_ne.mp nG)).2
  have := List.pairwise_iff_getElem.mp dj i (i + 1) (by omega) li (by omega) a (by rw [e1]; exact ha) a (by rw [e2]; exact ha)
  exact this rfl
/-! ### as the law has it -/
def sidesL (p : Pt) : List (Pt × Ed) := [((p.1 - 1, p.2), ((p.1, p.2 + 1), (p.1, p.2))), ((p.1, p.2 - 1), ((p.1, p.2), (p.1 + 1, p.2))), ((p.1 + 1, p.2), ((p.1 + 1, p.2), (p.1 + 1, p.2 + 1))), ((p.1, p.2 + 1), ((p.1 + 1, p.2 + 1), (p.1, p.2 + 1)))]
def outerL (S : List Pt) : List Ed := S.flatMap fun p => ((sidesL p).filter fun x => !decide (x.1 ∈ S)).map (·.2)
theorem sides_perm (p : Pt) : (sidesL p).Perm (sidesR p) := by
  unfold sidesL sidesR
  exact (List.perm_append_comm (l₁ := [((p.1 - 1, p.2), ((p.1, p.2 + 1), (p.1, p.2)))]) (l₂ := [((p.1, p.2 - 1), ((p.1, p.2), (p.1 + 1, p.2))), ((p.1 + 1, p.2), ((p.1 + 1, p.2), (p.1 + 1, p.2 + 1))), ((p.1, p.2 + 1), ((p.1 + 1, p.2 + 1), (p.1, p.2 + 1)))]))
theorem outer_perm {S S' : List Pt} (h : S'.Perm S) : (outerL S').Perm (outerR S) := by
  unfold outerL outerR
  have e : ∀ x : Pt × Ed, (!decide (x.1 ∈ S')) = !decide (x.1 ∈ S) := fun x => by simp only [h.mem_iff]
  simp only [e]
  refine (h.flatMap_right _).trans ?_
  clear e h
  generalize hq : (fun x : Pt × Ed => !decide (x.1 ∈ S)) = g
  clear hq
  induction S with
  | nil => exact .nil
  | cons p S ih =>
    rw [List.flatMap_cons, List.flatMap_cons]
    exact (((sides_perm p).filter g).map _).append ih
end Wl

/-! [e for x in xs for y in ys(x) if ..], by what holds at each turn. -/
namespace Wl
open PySem PySem.Spec PyProof.Rows L2
/-- the inner turns -/
theorem in_by {J1 : It} {m : Nat} {G1 : Hp → Prop} {Y1 : Nat → Hp → V → Hp → Prop} {g1 : TG} {tt1 : TT} {te : TE} {vs1 : List Nat} {σ2 : L2.St} {H4 : Hp} {D : Addr} {Nx : Hp → Prop} (w : L2.Walk J1 m G1 Y1) (Pw : Nat → Hp → Prop) (h0 : Pw 0 H4) (hG : ∀ j H, j ≤ m → Pw j H → G1 H)
    (hs : ∀ j y H H', j < m → Pw j H → Y1 j H y H' → g1 y (wipe σ2 vs1) H' fun σ3 H5 => wipe σ3 vs1 = wipe σ2 vs1 ∧ tt1 σ3 H5 fun b H6 =>
        if b = true then te σ3 H6 fun z H7 => ∃ acc, H7 D = some (.lst acc) ∧ acc.length < sizeLine ∧ Pw (j + 1) (upd H7 D (.lst (acc ++ [z]))) else Pw (j + 1) H6) (hd : ∀ H, Pw m H → Nx H) :
    ∃ W1 : Nat → Nat → Hp → Prop, (∃ m, W1 0 m H4) ∧ ∀ j k H, W1 j k H →
          (J1.stop j H ∧ Nx H) ∨ (J1.go j H ∧ ∃ Nx1 : Hp → Prop, (∀ H', Nx1 H' → ∃ k', k' < k ∧ W1 (j + 1) k' H') ∧ ∀ x H', J1.yld j H x H' → g1 x (wipe σ2 vs1) H' fun σ3 H5 => wipe σ3 vs1 = wipe σ2 vs1 ∧ tt1 σ3 H5 fun b H6 =>
            if b = true then te σ3 H6 fun y H7 => ∃ acc, H7 D = some (.lst acc) ∧ acc.length < sizeLine ∧ Nx1 (upd H7 D (.lst (acc ++ [y]))) else Nx1 H6) := by
  refine ⟨fun i k H => k = m - i ∧ i ≤ m ∧ Pw i H, ⟨m, by simp, Nat.zero_le _, h0⟩, ?_⟩
  rintro i k H ⟨rfl, hi, p⟩
  have q := hG i H hi p
  by_cases hlt : i < m
  · exact .inr ⟨w.goes i H hlt q, Pw (i + 1), fun H' p' => ⟨m - (i + 1), by omega, rfl, hlt, p'⟩, fun x H' y => hs i x H H' hlt p (w.yields i H x H' hlt q y)⟩
  · have e : i = m := by omega
    subst e
    exact .inl ⟨w.stops H q, hd H p⟩
theorem lc2_by {J : It} {n : Nat} {G : Hp → Prop} {Y : Nat → Hp → V → Hp → Prop} {g g1 : TG} {tt tt1 : TT} {wi1 : TI} {te : TE} {vs vs1 : List Nat} {σ : L2.St} {H1 : Hp} {D : Addr} {Qd : Hp → Prop} (w : L2.Walk J n G Y) (Pv : Nat → Hp → Prop) (h0 : Pv 0 (upd H1 D (.lst []))) (hG : ∀ i H, i ≤ n → Pv i H → G H)
    (hs : ∀ i x H H', i < n → Pv i H → Y i H x H' → g x (wipe σ vs) H' fun σ2 H2 => wipe σ2 vs = wipe σ vs ∧ tt σ2 H2 fun b H3 => if b = true then wi1 σ2 H3 fun J1 H4 => ∃ W1 : Nat → Nat → Hp → Prop, (∃ m, W1 0 m H4) ∧ ∀ j k H, W1 j k H →
          (J1.stop j H ∧ Pv (i + 1) H) ∨ (J1.go j H ∧ ∃ Nx1 : Hp → Prop, (∀ H', Nx1 H' → ∃ k', k' < k ∧ W1 (j + 1) k' H') ∧ ∀ x H', J1.yld j H x H' → g1 x (wipe σ2 vs1) H' fun σ3 H5 => wipe σ3 vs1 = wipe σ2 vs1 ∧ tt1 σ3 H5 fun b H6 =>
            if b = true then te σ3 H6 fun y H7 => ∃ acc, H7 D = some (.lst acc) ∧ acc.length < sizeLine ∧ Nx1 (upd H7 D (.lst (acc ++ [y]))) else Nx1 H6) else Pv (i + 1) H3)
    (hd : ∀ H, Pv n H → Qd H) :
    ∃ W : Nat → Nat → Hp → Prop, (∃ m, W 0 m (upd H1 D (.lst []))) ∧ ∀ i m H, W i m H →
      (J.stop i H ∧ Qd H) ∨ (J.go i H ∧ ∃ Nx : Hp → Prop, (∀ H', Nx H' → ∃ m', m' < m ∧ W (i + 1) m' H') ∧ ∀ x H', J.yld i H x H' → g x (wipe σ vs) H' fun σ2 H2 => wipe σ2 vs = wipe σ vs ∧ tt σ2 H2 fun b H3 =>
        if b = true then wi1 σ2 H3 fun J1 H4 => ∃ W1 : Nat → Nat → Hp → Prop, (∃ m, W1 0 m H4) ∧ ∀ j k H, W1 j k H →
          (J1.stop j H ∧ Nx H) ∨ (J1.go j H ∧ ∃ Nx1 : Hp → Prop, (∀ H', Nx1 H' → ∃ k', k' < k ∧ W1 (j + 1) k' H') ∧ ∀ x H', J1.yld j H x H' → g1 x (wipe σ2 vs1) H' fun σ3 H5 => wipe σ3 vs1 = wipe σ2 vs1 ∧ tt1 σ3 H5 fun b H6 =>
            if b = true then te σ3 H6 fun y H7 => ∃ acc, H7 D = some (.lst acc) ∧ acc.length < sizeLine ∧ Nx1 (upd H7 D (.lst (acc ++ [y]))) else Nx1 H6)
        else Nx H3) := by
  refine ⟨fun i m H => m = n - i ∧ i ≤ n ∧ Pv i H, ⟨n, by simp, Nat.zero_le _, h0⟩, ?_⟩
  rintro i m H ⟨rfl, hi, p⟩
  have q := hG i H hi p
  by_cases hlt : i < n
  · exact .inr ⟨w.goes i H hlt q, Pv (i + 1), fun H' p' => ⟨n - (i + 1), by omega, rfl, hlt, p'⟩, fun x H' y => hs i x H H' hlt p (w.yields i H x H' hlt q y)⟩
  · have e : i = n := by omega
    subst e
    exact .inl ⟨w.stops H q, hd H p⟩
end Wl

/-! d == e of two dicts of the same texts, their values told by data. -/
namespace Wl
open PySem PySem.Spec PyProof.Rows L2
def rEqDT (K : PySem.W.Frag) : R2 := fun x y H Q => ∃ (a b : Addr) (nms : List Str) (f g : Str → V) (fd gd : Str → PyData), x = .ref a ∧ y = .ref b ∧ H a = some (.dK (kvZ f nms)) ∧ H b = some (.dK (kvZ g nms)) ∧
  (∀ z ∈ nms, Dp K H (f z) (fd z) ∧ Dp K H (g z) (gd z) ∧ (fd z).canLay0 = true ∧ (gd z).canLay0 = true ∧ (fd z).depth ≤ 3) ∧ Q (.bl (nms.all fun z => PyData.eqv (fd z) (gd z))) H
theorem kv_mem {f : Str → V} : ∀ {nms : List Str} {va : List (Key × Value)}, KV (kvZ f nms) va → ∀ {k : Key} {v : Value}, (k, v) ∈ va → ∃ z ∈ nms, k = Sum.inr z ∧ RelV (f z) v
  | [], va, r, k, v, h => by
    cases r
    cases h
  | z :: nms, va, r, k, v, h => by
    have r' : Paired (fun (p : Key × V) (q : Key × Value) => p.1 = q.1 ∧ RelV p.2 q.2) ((Sum.inr z, f z) :: kvZ f nms) va := r
    cases r' with
    | cons e t =>
      rcases List.mem_cons.mp h with h1 | h1
      · obtain ⟨e1, e2⟩ := e
        rw [← h1] at e1 e2
        exact ⟨z, List.mem_cons_self, e1.symm, e2⟩
      · obtain ⟨y, hy, q⟩ := kv_mem (f := f) (nms := nms) t h1
        exact ⟨y, List.mem_cons_of_mem _ hy, q⟩
theorem kv_keys {f : Str → V} : ∀ {nms : List Str} {va : List (Key × Value)}, KV (kvZ f nms) va → va.map (·.1) = nms.map Sum.inr
  | [], va, r => by
    cases r
    rfl
  | z :: nms, va, r => by
    have r' : Paired (fun (p : Key × V) (q : Key × Value) => p.1 = q.1 ∧ RelV p.2 q.2) ((Sum.inr z, f z) :: kvZ f nms) va := r
    cases r' with
    | cons e t =>
      rw [List.map_cons, List.map_cons, kv_keys (f := f) (nms := nms) t, ← e.1]
section
variable {X : Cx}
theorem op_eqDT (hu : X.A.units + 64 < cLine) : OpR X (compareOp .Eq) (rEqDT X.K) := by
  intro pins s σ H x y v u Q I rx ry h
  obtain ⟨a, b, nms, f, g, fd, gd, rfl, rfl, ea, eb, hv, q⟩ := h
  obtain rfl : v = Value.ref a := rx
  obtain rfl : u = Value.ref b := ry
  obtain ⟨_, ya, va, ra, da⟩ := (show ObjOk X.prog X.w H s.heap a (.dK (kvZ f nms)) from I.hok a _ ea)
  obtain ⟨_, yb, vb, rb, db⟩ := (show ObjOk X.prog X.w H s.heap b (.dK (kvZ g nms)) from I.hok b _ eb)
  let e : Key → Bool := fun k => match k with
    | .inl _ => true
    | .inr z => PyData.eqv (fd z) (gd z)
  refine PySem.W.eq_dictsT (knd := mixKind X.prog X.w) (n := 3) (e := e) ya yb da db (fun k v' y' hm hva => ?_) (by omega) ?_
  · obtain ⟨z, hz, rfl, rv⟩ := kv_mem ra hm
    have rr := rb.val (Sum.inr z : Key)
    rw [valV_in hz] at rr
    obtain ⟨y2, hy2, ry2⟩ := rr.some_of
    rw [hva] at hy2
    obtain rfl := Option.some.inj hy2
    obtain ⟨d1, d2, c1, c2, dp⟩ := hv z hz
    obtain ⟨as, r1⟩ := Dp.reads I _ _ _ d1 rv
    obtain ⟨bs, r2⟩ := Dp.reads I _ _ _ d2 ry2
    exact .leaf fun A hA => SeqAt.eqAt_reads _ _ A s _ _ _ _ r1 r2 c1 c2 (by
      have := Nat.min_le_left (fd z).depth (gd z).depth
      omega)
  · have e1 : va.length = nms.length := by
      have := congrArg List.length (kv_keys ra)
      simpa using this
    have e2 : vb.length = nms.length := by
      have := congrArg List.length (kv_keys rb)
      simpa using this
    have e3 : (va.all fun p => (valueAt vb p.1).isSome && e p.1) = nms.all fun z => PyData.eqv (fd z) (gd z) := by
      have h1 : (va.all fun p => (valueAt vb p.1).isSome && e p.1) = (va.map (·.1)).all fun k => (valueAt vb k).isSome && e k := by
        rw [List.all_map]
        rfl
      rw [h1, kv_keys ra, List.all_map, Bool.eq_iff_iff, List.all_eq_true, List.all_eq_true]
      have sm : ∀ z ∈ nms, (valueAt vb (Sum.inr z : Key)).isSome = true := fun z hz => by
        have rr := rb.val (Sum.inr z : Key)
        rw [valV_in hz] at rr
        obtain ⟨y2, hy2, _⟩ := rr.some_of
        rw [hy2]
        rfl
      constructor
      · intro h z hz
        have := h z hz
        simp only [Function.comp, Bool.and_eq_true] at this
        exact this.2
      · intro h z hz
        simp only [Function.comp, Bool.and_eq_true]
        exact ⟨sm z hz, h z hz⟩
    rw [e3, e1, e2]
    refine ⟨.bl _, H, I, ?_, q⟩
    show _ = Value.bool _
    simp
end
end Wl

/-! v == v: a thing beside itself, data or a dict of texts with data. -/
namespace Wl
open PySem PySem.Spec PyProof.Rows L2
def SelfV (K : PySem.W.Frag) (H : Hp) (v : V) : Prop := (∃ d, Dp K H v d ∧ SeqAt.shaped d = true) ∨
  ∃ (p : Addr) (nms : List Str) (g : Str → V) (gd : Str → PyData), v = .ref p ∧ H p = some (.dK (kvZ g nms)) ∧ ∀ z ∈ nms, Dp K H (g z) (gd z) ∧ (gd z).canLay0 = true ∧ (gd z).depth ≤ 3
def rEqSelf (K : PySem.W.Frag) : R2 := fun x y H Q => x = y ∧ SelfV K H x ∧ Q (.bl true) H
theorem op_eqSelf {X : Cx} (hu : X.A.units + 64 < cLine) : OpR X (compareOp .Eq) (rEqSelf X.K) := by
  intro pins s σ H x y v u Q I rx ry h
  obtain ⟨rfl, h | h, q⟩ := h
  · obtain ⟨d, hd, sd⟩ := h
    refine op_eqD hu pins s σ H x x v u Q I rx ry ⟨d, d, hd, hd, sd, sd, ?_⟩
    rw [SeqAt.eqv_refl _ (SeqAt.canLay_of_shaped sd)]
    exact q
  · obtain ⟨p, nms, g, gd, rfl, hp, hz⟩ := h
    refine op_eqDT hu pins s σ H _ _ v u Q I rx ry ⟨p, p, nms, g, g, gd, gd, rfl, rfl, hp, hp, fun z hm => ?_, ?_⟩
    · obtain ⟨h1, h2, h3⟩ := hz z hm
      exact ⟨h1, h1, h2, h2, h3⟩
    · have : (nms.all fun z => PyData.eqv (gd z) (gd z)) = true := List.all_eq_true.mpr fun z hm => SeqAt.eqv_refl _ (hz z hm).2.1
      rw [this]
      exact q
end Wl

/-! Data of any depth under a heap that grows; a heap with one object left out. -/
namespace Wl
open PySem PySem.Spec PyProof.Rows L2
mutual
theorem dp_same {K : PySem.W.Frag} {H H' : Hp} (s : Same H H') : ∀ {v : V} {d : PyData}, Dp K H v d → Dp K H' v d
  | _, _, .non => .non
  | _, _, .bl b => .bl b
  | _, _, .int i => .int i
  | _, _, .str x => .str x
  | _, _, .lst h t => .lst (s.seq h) (dpAll_same s t)
  | _, _, .tup h t => .tup (tup_same s h) (dpAll_same s t)
theorem dpAll_same {K : PySem.W.Frag} {H H' : Hp} (s : Same H H') : ∀ {vs : List V} {ds : List PyData}, DpAll K H vs ds → DpAll K H' vs ds
  | _, _, .nil => .nil
  | _, _, .cons r t => .cons (dp_same s r) (dpAll_same s t)
end
theorem SelfV.same {K : PySem.W.Frag} {H H' : Hp} {v : V} (h : SelfV K H v) (s : Same H H') : SelfV K H' v := by
  rcases h with ⟨d, h1, h2⟩ | ⟨p, nms, g, gd, e, hp, hz⟩
  · exact .inl ⟨d, dp_same s h1, h2⟩
  · exact .inr ⟨p, nms, g, gd, e, s _ _ hp, fun z hm => ⟨dp_same s (hz z hm).1, (hz z hm).2⟩⟩
/-- new behind, new ahead -/
theorem hq_of {H H' : Hp} {p : Addr} (s : Same H H') (h : H' p = none) : H p = none := by
  cases q : H p with
  | none => rfl
  | some o =>
    rw [s p o q] at h
    cases h
/-- H without what stands at a -/
def hid (a : Addr) (H : Hp) : Hp := fun b => if b = a then none else H b
theorem hid_same {a : Addr} {H : Hp} : Same (hid a H) H := fun b o e => by
  unfold hid at e
  by_cases h : b = a
  · rw [if_pos h] at e
    cases e
  · rw [if_neg h] at e
    exact e
theorem hid_x {a : Addr} {H H' : Hp} (s : SameX a H H') : Same (hid a H) (hid a H') := fun b o e => by
  unfold hid at e ⊢
  by_cases h : b = a
  · rw [if_pos h] at e
    cases e
  · rw [if_neg h] at e ⊢
    exact s b o h e
theorem hid_at {a p : Addr} {H : Hp} {o : HO} (h : H p = some o) (hne : p ≠ a) : hid a H p = some o := by
  unfold hid
  rw [if_neg hne]
  exact h
/-- what H' has that H has not -/
def newH (H H' : Hp) : Hp := fun p => match H p with
  | none => H' p
  | some _ => none
theorem new_at {H H' : Hp} {p : Addr} {o : HO} (hn : H p = none) (h : H' p = some o) : newH H H' p = some o := by
  unfold newH
  rw [hn]
  exact h
theorem new_hid {H H' : Hp} {a : Addr} {o : HO} (h : H a = some o) : Same (newH H H') (hid a H') := fun p u e => by
  unfold newH at e
  cases q : H p with
  | some _ =>
    rw [q] at e
    cases e
  | none =>
    rw [q] at e
    exact hid_at e fun z => by
      rw [z, h] at q
      cases q
end Wl

/-! Displays of things that G tells of, whatever they are, while I stands. -/
namespace Wl
open PySem PySem.Spec PyProof.Rows L2
/-- G and I bear a growing heap -/
def Grows (G : Hp → V → Prop) : Prop := ∀ (H H' : Hp) (v : V), G H v → Same H H' → G H' v
def GrowsH (I : Hp → Prop) : Prop := ∀ (H H' : Hp), I H → Same H H' → I H'
def Bld (σ : L2.St) (I : Hp → Prop) (G : Hp → V → Prop) (te : TE) : Prop := ∀ (H : Hp) (Q : VK), I H → (∀ v H', Same H H' → G H' v → Q v H') → te σ H Q
def BldA (σ : L2.St) (I : Hp → Prop) (G : Hp → V → Prop) (n : Nat) (ta : TA) : Prop := ∀ (H : Hp) (Q : List V → Hp → Prop), I H → (∀ vs H', Same H H' → vs.length = n → (∀ v ∈ vs, G H' v) → Q vs H') → ta σ H Q
section
variable {σ : L2.St} {I : Hp → Prop} {G : Hp → V → Prop} {te : TE} {ta : TA} {n : Nat}
theorem bld_nil : BldA σ I G 0 tNil := fun H Q _ q => q [] H (Same.refl H) rfl (fun v hv => by cases hv)
theorem bld_cons (gI : GrowsH I) (gG : Grows G) (h : Bld σ I G te) (k : BldA σ I G n ta) : BldA σ I G (n + 1) (tCons te ta) := fun H Q i q => h H _ i fun v H1 s1 g1 => k H1 _ (gI _ _ i s1) fun vs H2 s2 l2 g2 => q (v :: vs) H2 (s1.trans s2) (by rw [List.length_cons, l2]) (fun u hu => by
  rcases List.mem_cons.mp hu with rfl | hu
  · exact gG _ _ _ g1 s2
  · exact g2 u hu)
/-- a constant -/
theorem bld_c {v : V} (h : ∀ H, I H → G H v) : Bld σ I G (tC v) := fun H Q i q => q v H (Same.refl H) (h H i)
/-- a display of such, as a new list -/
theorem bld_lst (gG : Grows G) (h : BldA σ I G n ta) (hn : n ≤ 1000) {H : Hp} {Q : VK} (i : I H) (q : ∀ p vs H', Same H H' → H p = none → H' p = some (.lst vs) → vs.length = n → (∀ v ∈ vs, G H' v) → Q (.ref p) H') : tLst ta σ H Q :=
  h H _ i fun vs H1 s1 l1 g1 => ⟨lzl (by omega), fun p hp => q p vs _ (s1.trans (same_new hp)) (hq_of s1 hp) upd_same l1 fun v hv => gG _ _ _ (g1 v hv) (same_new hp)⟩
/-- xs + [..] -/
theorem bld_cat (gI : GrowsH I) (gG : Grows G) {i0 m : Nat} (h : BldA σ I G n ta) (hn : n + m ≤ 1000) {H : Hp} {Q : VK} {p : Addr} {xs : List V} (i : I H) (hσ : σ[i0]? = some (some (.ref p))) (hp : H p = some (.lst xs)) (hm : xs.length = m) (hg : ∀ v ∈ xs, G H v)
    (q : ∀ r vs H', Same H H' → H r = none → H' r = some (.lst vs) → vs.length = m + n → (∀ v ∈ vs, G H' v) → Q (.ref r) H') : tOp rCat (tVar i0) (tLst ta) σ H Q := by
  refine ⟨_, hσ, bld_lst (n := n) gG h (by omega) i fun r vs H1 s1 n1 e1 l1 g1 => ⟨p, r, xs, vs, rfl, rfl, s1 _ _ hp, e1, lzl (by omega), fun t ht => ?_⟩⟩
  refine q t (xs ++ vs) _ (s1.trans (same_new ht)) (hq_of s1 ht) upd_same (by rw [List.length_append, hm, l1]) fun v hv => ?_
  rcases List.mem_append.mp hv with hv | hv
  · exact gG _ _ _ (hg v hv) (s1.trans (same_new ht))
  · exact gG _ _ _ (g1 v hv) (same_new ht)
/-- what a display's parts are, all at once -/
def BldX (σ : L2.St) (I : Hp → Prop) (R : Hp → List V → Prop) (ta : TA) : Prop := ∀ (H : Hp) (Q : List V → Hp → Prop), I H → (∀ xs H', Same H H' → I H' → R H' xs → Q xs H') → ta σ H Q
theorem bldx_c {xs : List V} (h : ∀ (H : Hp) (Q : List V → Hp → Prop), Q xs H → ta σ H Q) : BldX σ I (fun _ ys => ys = xs) ta := fun H Q i q => h H Q (q xs H (Same.refl H) i rfl)
theorem bld_tup {R : Hp → List V → Prop} (ht : BldX σ I R ta) (hl : ∀ H xs, R H xs → xs.length ≤ 1000) (g : ∀ (H : Hp) (p : Addr) (xs : List V), I H → R H xs → H p = none → G (upd H p (.tup xs)) (.ref p)) : Bld σ I G (tTup ta) := fun H Q i q =>
  ht H _ i fun xs H1 s1 i1 r1 => ⟨lzl (hl _ _ r1), fun p hp => q (.ref p) _ (s1.trans (same_new hp)) (g H1 p xs i1 r1 hp)⟩
theorem bld_lstX {R : Hp → List V → Prop} (ht : BldX σ I R ta) (hl : ∀ H xs, R H xs → xs.length ≤ 1000) (g : ∀ (H : Hp) (p : Addr) (xs : List V), I H → R H xs → H p = none → G (upd H p (.lst xs)) (.ref p)) : Bld σ I G (tLst ta) := fun H Q i q =>
  ht H _ i fun xs H1 s1 i1 r1 => ⟨lzl (hl _ _ r1), fun p hp => q (.ref p) _ (s1.trans (same_new hp)) (g H1 p xs i1 r1 hp)⟩
end
end Wl

/-! Single steps of a reading, so that the kernel need not unfold what stands in it. -/
namespace Wl
open PySem PySem.Spec PyProof.Rows L2
section
variable {te ta tb : TE} {i : Nat} {B : TS} {D : Ends} {σ : L2.St} {H : Hp} {Q : VK} {r : R2}
theorem st_asg (h : te σ H fun x H1 => B D (σ.set i (some x)) H1) : tSeq (tAsg te (gName i)) B D σ H := h
theorem st_ret (h : te σ H D.rt) : tRet te D σ H := h
theorem st_next (h : D.nx σ H) : tNext D σ H := h
theorem st_nextR {rt : VK} {bk ct : L2.St → Hp → Prop} (h : te σ H D.rt) : tNext { nx := tRet te D, rt := rt, bk := bk, ct := ct } σ H := h
theorem st_op (h : ta σ H fun x H1 => tb σ H1 fun y H2 => r x y H2 Q) : tOp r ta tb σ H Q := h
/-- behind branches: what J says -/
theorem st_join {A : TS} (J : L2.St → Hp → Prop) (h2 : ∀ σ' H', J σ' H' → B D σ' H') (h1 : ∀ D' : Ends, (∀ σ' H', J σ' H' → D'.nx σ' H') → D'.rt = D.rt → A D' σ H) : tSeq A B D σ H := h1 _ (fun σ' H' j => h2 σ' H' j) rfl
end
end Wl

/-! Slices and sums of tuples, whichever object they give. -/
namespace Wl
open PySem PySem.Spec PyProof.Rows L2
section
variable {K : PySem.W.Frag} {H : Hp} {Q : VK}
theorem slA_rd {a : Addr} {xs : List V} {lo hi : Option Int} (ha : H a = some (.tup xs)) (q : ∀ u H', Same H H' → H' u = some (.tup (cutV xs lo hi)) → Q (.ref u) H') : rSlA K (.ref a) lo hi H Q := by
  refine ⟨a, xs, rfl, .inl (.inl ha), fun w => q a H (Same.refl H) ?_, fun _ p hp => q p _ (same_new hp) upd_same⟩
  rw [ha]
  unfold cutV
  rw [w.1, w.2, List.drop_zero, Nat.sub_zero, List.take_length]
theorem catA_rd {a b : Addr} {xs ys : List V} (ha : H a = some (.tup xs)) (hb : H b = some (.tup ys)) (hl : xs.length + ys.length ≤ 1000) (q : ∀ u H', Same H H' → H' u = some (.tup (xs ++ ys)) → Q (.ref u) H') : rCatA K (.ref a) (.ref b) H Q := by
  refine ⟨a, b, xs, ys, rfl, rfl, .inl (.inl ha), .inl (.inl hb), lzl hl, fun e => ?_, fun _ e => ?_, fun _ _ p hp => q p _ (same_new hp) upd_same⟩
  · subst e
    exact q b H (Same.refl H) hb
  · subst e
    exact q a H (Same.refl H) (by rw [List.append_nil]; exact ha)
theorem cutA_to (xs : List V) (c : Nat) : cutV xs none (some (c : Int)) = xs.take c := by
  unfold cutV
  rw [HT.sIx_none, HT.sIx_nat, List.drop_zero, Nat.sub_zero]
  by_cases h : c ≤ xs.length
  · rw [Nat.min_eq_left h]
  · rw [Nat.min_eq_right (by omega), List.take_length, List.take_of_length_le (by omega)]
theorem cutA_from (xs : List V) (c : Nat) : cutV xs (some (c : Int)) none = xs.drop c := by
  unfold cutV
  rw [HT.sIx_none, HT.sIx_nat]
  by_cases h : c ≤ xs.length
  · rw [Nat.min_eq_left h, List.take_of_length_le (by rw [List.length_drop]; omega)]
  · rw [Nat.min_eq_right (by omega), List.drop_length, List.drop_of_length_le (by omega), List.take_nil]
end
end Wl

/-! the edges about places -/
namespace Wl
open PySem PySem.Spec PyProof.Rows L2
abbrev sAbout : Stmt := topS 62
abbrev sOuter : Stmt := topS 63
abbrev sNextE : Stmt := topS 64
abbrev sRingF : Stmt := topS 65
abbrev sLeastT : Stmt := topS 66
abbrev sRings : Stmt := topS 67
/-! corners, edges on the heap -/
def PtAt (H : Hp) (a : Addr) (p : Pt) : Prop := H a = some (.tup [.int p.1, .int p.2])
def EdAt (H : Hp) (a : Addr) (e : Ed) : Prop := ∃ b c, H a = some (.tup [.ref b, .ref c]) ∧ PtAt H b e.1 ∧ PtAt H c e.2
def SdAt (H : Hp) (a : Addr) (x : Pt × Ed) : Prop := ∃ b c, H a = some (.tup [.ref b, .ref c]) ∧ PtAt H b x.1 ∧ EdAt H c x.2
def PtsAt (H : Hp) (as : List Addr) (ps : List Pt) : Prop := Each (PtAt H) as ps
def EdsAt (H : Hp) (as : List Addr) (es : List Ed) : Prop := Each (EdAt H) as es
theorem PtAt.keep {H H' : Hp} {a : Addr} {p : Pt} (h : PtAt H a p) (k : TupKeep H H') : PtAt H' a p := k _ _ h
theorem EdAt.keep {H H' : Hp} {a : Addr} {e : Ed} (h : EdAt H a e) (k : TupKeep H H') : EdAt H' a e := by
  obtain ⟨b, c, h1, h2, h3⟩ := h
  exact ⟨b, c, k _ _ h1, h2.keep k, h3.keep k⟩
theorem SdAt.keep {H H' : Hp} {a : Addr} {x : Pt × Ed} (h : SdAt H a x) (k : TupKeep H H') : SdAt H' a x := by
  obtain ⟨b, c, h1, h2, h3⟩ := h
  exact ⟨b, c, k _ _ h1, h2.keep k, h3.keep k⟩
theorem PtsAt.keep {H H' : Hp} {as : List Addr} {ps : List Pt} (h : PtsAt H as ps) (k : TupKeep H H') : PtsAt H' as ps := Each.mono (fun _ _ r => PtAt.keep r k) h
theorem EdsAt.keep {H H' : Hp} {as : List Addr} {es : List Ed} (h : EdsAt H as es) (k : TupKeep H H') : EdsAt H' as es := Each.mono (fun _ _ r => EdAt.keep r k) h
section
variable {K : PySem.W.Frag} {H : Hp}
theorem dp_pt {a : Addr} {p : Pt} (h : PtAt H a p) : Dp K H (.ref a) (encPt p) := .tup (.inl (.inl h)) (.cons (.int _) (.cons (.int _) .nil))
theorem dp_ed {a : Addr} {e : Ed} (h : EdAt H a e) : Dp K H (.ref a) (encEd e) := by
  obtain ⟨b, c, h1, h2, h3⟩ := h
  exact .tup (.inl (.inl h1)) (.cons (dp_pt h2) (.cons (dp_pt h3) .nil))
theorem dp_pts : ∀ {as : List Addr} {ps : List Pt}, PtsAt H as ps → DpAll K H (as.map V.ref) (ps.map encPt)
  | _, _, .nil => .nil
  | _, _, .cons r t => .cons (dp_pt r) (dp_pts t)
theorem dp_eds : ∀ {as : List Addr} {es : List Ed}, EdsAt H as es → DpAll K H (as.map V.ref) (es.map encEd)
  | _, _, .nil => .nil
  | _, _, .cons r t => .cons (dp_ed r) (dp_eds t)
end
theorem pt_eqv (p q : Pt) : PyData.eqv (encPt p) (encPt q) = decide (p = q) := by
  obtain ⟨a, b⟩ := p
  obtain ⟨c, d⟩ := q
  simp only [encPt, PyData.eqv, PyData.eqvAll, Bool.and_true, Prod.mk.injEq]
  by_cases h1 : a = c <;> by_cases h2 : b = d <;> simp [h1, h2, PyData.eqv]
theorem ed_eqv (p q : Ed) : PyData.eqv (encEd p) (encEd q) = decide (p = q) := by
  obtain ⟨a, b⟩ := p
  obtain ⟨c, d⟩ := q
  have h1 := pt_eqv a c
  have h2 := pt_eqv b d
  simp only [encEd, PyData.eqv, PyData.eqvAll, Bool.and_true, Prod.mk.injEq]
  rw [h1, h2]
  by_cases h1 : a = c <;> by_cases h2 : b = d <;> simp [h1, h2]
theorem lay_pts : ∀ ps : List Pt, PyData.canLayAll0 (ps.map encPt) = true
  | [] => by simp [PyData.canLayAll0]
  | p :: r => by
    have := lay_pts r
    simp [PyData.canLayAll0, encPt, PyData.canLay0, this]
theorem lay_eds : ∀ es : List Ed, PyData.canLayAll0 (es.map encEd) = true
  | [] => by simp [PyData.canLayAll0]
  | p :: r => by
    have := lay_eds r
    simp [PyData.canLayAll0, encEd, encPt, PyData.canLay0, this]
theorem depth_pts : ∀ ps : List Pt, PyData.depthAll (ps.map encPt) ≤ 1
  | [] => by simp [PyData.depthAll]
  | p :: r => by
    have := depth_pts r
    simp only [List.map_cons, PyData.depthAll, encPt, PyData.depth]
    omega
theorem depth_eds : ∀ es : List Ed, PyData.depthAll (es.map encEd) ≤ 2
  | [] => by simp [PyData.depthAll]
  | p :: r => by
    have := depth_eds r
    simp only [List.map_cons, PyData.depthAll, encEd, encPt, PyData.depth]
    omega
theorem sh_pt (p : Pt) : SeqAt.shaped (encPt p) = true := shaped_tuple (by simp [PyData.canLayAll0, PyData.canLay0]) (by simp [PyData.depthAll, PyData.depth])
theorem sh_ed (e : Ed) : SeqAt.shaped (encEd e) = true := shaped_tuple (by simp [PyData.canLayAll0, encPt, PyData.canLay0]) (by simp [PyData.depthAll, PyData.depth, encPt])
theorem sh_pts (ps : List Pt) : SeqAt.shaped (.list (ps.map encPt)) = true := shaped_list (lay_pts ps) (by have := depth_pts ps; omega)
theorem sh_eds (es : List Ed) : SeqAt.shaped (.list (es.map encEd)) = true := shaped_list (lay_eds es) (by have := depth_eds es; omega)
theorem any_pt (ps : List Pt) (p : Pt) : ((ps.map encPt).any fun z => PyData.eqv z (encPt p)) = decide (p ∈ ps) := by
  rw [Bool.eq_iff_iff, List.any_map, List.any_eq_true, decide_eq_true_iff]
  constructor
  · rintro ⟨x, hx, h⟩
    have h : PyData.eqv (encPt x) (encPt p) = true := h
    rw [pt_eqv] at h
    rw [← of_decide_eq_true h]
    exact hx
  · exact fun h => ⟨p, h, by show PyData.eqv (encPt p) (encPt p) = true; rw [pt_eqv]; exact decide_eq_true rfl⟩
theorem any_ed (ps : List Ed) (p : Ed) : ((ps.map encEd).any fun z => PyData.eqv z (encEd p)) = decide (p ∈ ps) := by
  rw [Bool.eq_iff_iff, List.any_map, List.any_eq_true, decide_eq_true_iff]
  constructor
  · rintro ⟨x, hx, h⟩
    have h : PyData.eqv (encEd x) (encEd p) = true := h
    rw [ed_eqv] at h
    rw [← of_decide_eq_true h]
    exact hx
  · exact fun h => ⟨p, h, by show PyData.eqv (encEd p) (encEd p) = true; rw [ed_eqv]; exact decide_eq_true rfl⟩
section
variable {P : Program} {w : World} {K : PySem.W.Frag} {mg : Str → Option Value} {base : Heap} {f C D W : Addr} {fd : FuncData}
def spAbout : Sp := fun vs H Q _ => ∃ (a : Addr) (p : Pt), vs = [.ref a] ∧ PtAt H a p ∧ ∀ (t : Addr) (as : List Addr) (H' : Hp), Same H H' → H' t = some (.tup (as.map V.ref)) → Each (SdAt H') as (sidesR p) → Q (.ref t) H'
abbrev nAbout : List Str := ["place", "row", "column", "northwest", "southwest", "northeast", "southeast"]
theorem scAbout : FnScope nAbout ["place"] (defScope sAbout) := ⟨rfl, rfl, rfl, by decide +kernel, rfl, by decide +kernel, by decide +kernel⟩
theorem ok_about (F : Fun K "edges_about" "edges_about" sAbout f fd) : FnOk P w K mg base CX0 1 f fd ["place"] spAbout := by
  refine F.ok scAbout (fun vs H Q E h => ?_) (fun cdv A outer s H vs Q E hr h => ?_)
  · obtain ⟨a, p, rfl, _⟩ := h
    rfl
  · obtain ⟨a, ⟨r, c⟩, rfl, hp, q⟩ := h
    refine ⟨_, pss_cons (ps_asg (pv 0) (pg_tup rfl (pgs_cons (pg_name (i := 1) scAbout.nd rfl (.inl rfl)) (pgs_cons (pg_name (i := 2) scAbout.nd rfl (.inl rfl)) pgs_nil))))
      (pss_cons (ps_par (i := 3) (j := 4) (by rfl) scAbout.nd rfl rfl (by decide) rfl rfl (pa_cons (pe_tup (pa_cons (pv 1) (pa_cons (pv 2) pa_nil))) (pa_cons (pe_tup (pa_cons (pe_op op_add (pv 1) pe_int) (pa_cons (pv 2) pa_nil))) pa_nil)) (by rfl))
      (pss_cons (ps_par (i := 5) (j := 6) (by rfl) scAbout.nd rfl rfl (by decide) rfl rfl (pa_cons (pe_tup (pa_cons (pv 1) (pa_cons (pe_op op_add (pv 2) pe_int) pa_nil))) (pa_cons (pe_tup (pa_cons (pe_op op_add (pv 1) pe_int) (pa_cons (pe_op op_add (pv 2) pe_int) pa_nil))) pa_nil)) (by rfl))
      (pss_one (ps_ret (pe_tup (pa_cons (pe_tup (pa_cons (pe_tup (pa_cons (pv 1) (pa_cons (pe_op op_sub (pv 2) pe_int) pa_nil))) (pa_cons (pe_tup (pa_cons (pv 3) (pa_cons (pv 4) pa_nil))) pa_nil)))
        (pa_cons (pe_tup (pa_cons (pe_tup (pa_cons (pe_op op_add (pv 1) pe_int) (pa_cons (pv 2) pa_nil))) (pa_cons (pe_tup (pa_cons (pv 4) (pa_cons (pv 6) pa_nil))) pa_nil)))
        (pa_cons (pe_tup (pa_cons (pe_tup (pa_cons (pv 1) (pa_cons (pe_op op_add (pv 2) pe_int) pa_nil))) (pa_cons (pe_tup (pa_cons (pv 6) (pa_cons (pv 5) pa_nil))) pa_nil)))
        (pa_cons (pe_tup (pa_cons (pe_tup (pa_cons (pe_op op_sub (pv 1) pe_int) (pa_cons (pv 2) pa_nil))) (pa_cons (pe_tup (pa_cons (pv 5) (pa_cons (pv 3) pa_nil))) pa_nil))) pa_nil))))))))), ?_⟩
    refine ⟨_, rfl, a, _, rfl, .inl (.inl hp), rfl, _, _, rfl, _, _, rfl, rfl, _, rfl, _, rfl, lz, fun nw h1 => ⟨_, rfl, _, _, rfl, rfl, _, rfl, lz, fun sw h2 => ⟨_, _, rfl, _, rfl, _, rfl, _, _, rfl, rfl, lz, fun ne h3 => ⟨_, rfl, _, _, rfl, rfl, _, rfl, _, _, rfl, rfl, lz, fun se h4 => ⟨_, _, rfl, ?_⟩⟩⟩⟩⟩
    have s1 := same_new (o := .tup [V.int r, .int c]) h1
    have s2 := same_new (o := .tup [V.int (r + 1), .int c]) h2
    have s3 := same_new (o := .tup [V.int r, .int (c + 1)]) h3
    have s4 := same_new (o := .tup [V.int (r + 1), .int (c + 1)]) h4
    have S := (s1.trans s2).trans (s3.trans s4)
    have n1 : PtAt _ nw (r, c) := (s2.trans (s3.trans s4)) _ _ upd_same
    have n2 : PtAt _ sw (r + 1, c) := (s3.trans s4) _ _ upd_same
    have n3 : PtAt _ ne (r, c + 1) := s4 _ _ upd_same
    have n4 : PtAt (upd (upd (upd (upd H nw (.tup [V.int r, .int c])) sw (.tup [V.int (r + 1), .int c])) ne (.tup [V.int r, .int (c + 1)])) se (.tup [V.int (r + 1), .int (c + 1)])) se (r + 1, c + 1) := upd_same
    generalize upd (upd (upd (upd H nw (.tup [V.int r, .int c])) sw (.tup [V.int (r + 1), .int c])) ne (.tup [V.int r, .int (c + 1)])) se (.tup [V.int (r + 1), .int (c + 1)]) = H4 at S n1 n2 n3 n4 ⊢
    clear s1 s2 s3 s4 h1 h2 h3 h4
    refine ⟨_, rfl, _, rfl, _, _, rfl, rfl, lz, fun b1 h1 => ⟨_, rfl, _, rfl, lz, fun e1 h2 => ⟨lz, fun x1 h3 => ?_⟩⟩⟩
    have s1 := same_new (o := .tup [V.int r, .int (c - 1)]) h1
    have s2 := same_new (o := .tup [V.ref nw, .ref sw]) h2
    have s3 := same_new (o := .tup [V.ref b1, .ref e1]) h3
    have tk := tk_same ((s1.trans s2).trans s3)
    have S := S.trans ((s1.trans s2).trans s3)
    have n1 := n1.keep tk
    have n2 := n2.keep tk
    have n3 := n3.keep tk
    have n4 := n4.keep tk
    have d1 : SdAt (upd (upd (upd H4 b1 (.tup [V.int r, .int (c - 1)])) e1 (.tup [V.ref nw, .ref sw])) x1 (.tup [V.ref b1, .ref e1])) x1 ((r, c - 1), ((r, c), (r + 1, c))) := ⟨b1, e1, upd_same, (s2.trans s3) _ _ upd_same, nw, sw, s3 _ _ upd_same, n1, n2⟩
    generalize upd (upd (upd H4 b1 (.tup [V.int r, .int (c - 1)])) e1 (.tup [V.ref nw, .ref sw])) x1 (.tup [V.ref b1, .ref e1]) = H5 at S n1 n2 n3 n4  d1 ⊢
    clear s1 s2 s3 tk h1 h2 h3
    refine ⟨_, rfl, _, _, rfl, rfl, _, rfl, lz, fun b2 h1 => ⟨_, rfl, _, rfl, lz, fun e2 h2 => ⟨lz, fun x2 h3 => ?_⟩⟩⟩
    have s1 := same_new (o := .tup [V.int (r + 1), .int c]) h1
    have s2 := same_new (o := .tup [V.ref sw, .ref se]) h2
    have s3 := same_new (o := .tup [V.ref b2, .ref e2]) h3
    have tk := tk_same ((s1.trans s2).trans s3)
    have S := S.trans ((s1.trans s2).trans s3)
    have n1 := n1.keep tk
    have n2 := n2.keep tk
    have n3 := n3.keep tk
    have n4 := n4.keep tk
    have d1 := d1.keep tk
    have d2 : SdAt (upd (upd (upd H5 b2 (.tup [V.int (r + 1), .int c])) e2 (.tup [V.ref sw, .ref se])) x2 (.tup [V.ref b2, .ref e2])) x2 ((r + 1, c), ((r + 1, c), (r + 1, c + 1))) := ⟨b2, e2, upd_same, (s2.trans s3) _ _ upd_same, sw, se, s3 _ _ upd_same, n2, n4⟩
    generalize upd (upd (upd H5 b2 (.tup [V.int (r + 1), .int c])) e2 (.tup [V.ref sw, .ref se])) x2 (.tup [V.ref b2, .ref e2]) = H6 at S n1 n2 n3 n4 d1 d2 ⊢
    clear s1 s2 s3 tk h1 h2 h3
    refine ⟨_, rfl, _, rfl, _, _, rfl, rfl, lz, fun b3 h1 => ⟨_, rfl, _, rfl, lz, fun e3 h2 => ⟨lz, fun x3 h3 => ?_⟩⟩⟩
    have s1 := same_new (o := .tup [V.int r, .int (c + 1)]) h1
    have s2 := same_new (o := .tup [V.ref se, .ref ne]) h2
    have s3 := same_new (o := .tup [V.ref b3, .ref e3]) h3
    have tk := tk_same ((s1.trans s2).trans s3)
    have S := S.trans ((s1.trans s2).trans s3)
    have n1 := n1.keep tk
    have n2 := n2.keep tk
    have n3 := n3.keep tk
    have n4 := n4.keep tk
    have d1 := d1.keep tk
    have d2 := d2.keep tk
    have d3 : SdAt (upd (upd (upd H6 b3 (.tup [V.int r, .int (c + 1)])) e3 (.tup [V.ref se, .ref ne])) x3 (.tup [V.ref b3, .ref e3])) x3 ((r, c + 1), ((r + 1, c + 1), (r, c + 1))) := ⟨b3, e3, upd_same, (s2.trans s3) _ _ upd_same, se, ne, s3 _ _ upd_same, n4, n3⟩
    generalize upd (upd (upd H6 b3 (.tup [V.int r, .int (c + 1)])) e3 (.tup [V.ref se, .ref ne])) x3 (.tup [V.ref b3, .ref e3]) = H7 at S n1 n2 n3 n4 d1 d2 d3 ⊢
    clear s1 s2 s3 tk h1 h2 h3
    refine ⟨_, rfl, _, _, rfl, rfl, _, rfl, lz, fun b4 h1 => ⟨_, rfl, _, rfl, lz, fun e4 h2 => ⟨lz, fun x4 h3 => ?_⟩⟩⟩
    have s1 := same_new (o := .tup [V.int (r - 1), .int c]) h1
    have s2 := same_new (o := .tup [V.ref ne, .ref nw]) h2
    have s3 := same_new (o := .tup [V.ref b4, .ref e4]) h3
    have tk := tk_same ((s1.trans s2).trans s3)
    have S := S.trans ((s1.trans s2).trans s3)
    have n1 := n1.keep tk
    have n2 := n2.keep tk
    have n3 := n3.keep tk
    have n4 := n4.keep tk
    have d1 := d1.keep tk
    have d2 := d2.keep tk
    have d3 := d3.keep tk
    have d4 : SdAt (upd (upd (upd H7 b4 (.tup [V.int (r - 1), .int c])) e4 (.tup [V.ref ne, .ref nw])) x4 (.tup [V.ref b4, .ref e4])) x4 ((r - 1, c), ((r, c + 1), (r, c))) := ⟨b4, e4, upd_same, (s2.trans s3) _ _ upd_same, ne, nw, s3 _ _ upd_same, n3, n1⟩
    generalize upd (upd (upd H7 b4 (.tup [V.int (r - 1), .int c])) e4 (.tup [V.ref ne, .ref nw])) x4 (.tup [V.ref b4, .ref e4]) = H8 at S n1 n2 n3 n4 d1 d2 d3 d4 ⊢
    clear s1 s2 s3 tk h1 h2 h3
    refine ⟨lz, fun t ht => ?_⟩
    have k := same_new (o := .tup [V.ref x1, .ref x2, .ref x3, .ref x4]) ht
    have tk := tk_same k
    exact q t [x1, x2, x3, x4] _ (S.trans k) upd_same (.cons (d1.keep tk) (.cons (d2.keep tk) (.cons (d3.keep tk) (.cons (d4.keep tk) .nil))))
end
end Wl

/-! the outer edges, what leads on -/
namespace Wl
open PySem PySem.Spec PyProof.Rows L2
section
variable {P : Program} {w : World} {K : PySem.W.Frag} {mg : Str → Option Value} {base : Heap} {f C D W : Addr} {fd : FuncData}
def spOuter (K : PySem.W.Frag) : Sp := fun vs H Q _ => ∃ (a : Addr) (as : List Addr) (S : List Pt), vs = [.ref a] ∧ H a = some (.lst (as.map V.ref)) ∧ PtsAt H as S ∧ S.length ≤ 36 ∧ ∀ (l : Addr) (es : List Addr) (H' : Hp), H l = none → Same H H' → H' l = some (.lst (es.map V.ref)) → EdsAt H' es (outerR S) → Q (.ref l) H'
abbrev nOuter : List Str := ["places", "place", "beyond", "edge"]
theorem scOuter : FnScope nOuter ["places"] (defScope sOuter) := ⟨rfl, rfl, rfl, by decide +kernel, rfl, by decide +kernel, by decide +kernel⟩
theorem outer_step (S : List Pt) {i : Nat} {p : Pt} (h : S[i]? = some p) (f : Pt → List Ed) : ((S.take (i + 1)).flatMap f) = (S.take i).flatMap f ++ f p := flat_take_snoc h
theorem ok_outer (F : Fun K "outer_edges" "outer_edges" sOuter f fd) (B : Bi mg) (hA : Has P w K mg base "edges_about" 1 ["place"] spAbout) : FnOk P w K mg base CX0 2 f fd ["places"] (spOuter K) := by
  refine F.ok scOuter (fun vs H Q E h => ?_) (fun cdv A outer s H vs Q E hr h => ?_)
  · obtain ⟨a, as, S, rfl, _⟩ := h
    rfl
  · obtain ⟨a, as, S, rfl, ha, hS, h36, q⟩ := h
    have hu65 : (A.deeper (envOfC "outer_edges" (defScope sOuter) s.heap.objs.size f cdv)).units + 65 < cLine := by have := hr.un; omega
    refine ⟨_, pss_one (ps_ret (pe_lc2 (own := [("place", 1), ("beyond", 2), ("edge", 3)]) (vs1 := [2, 3]) (g := gName 1) (tt := tYes) (g1 := gTup K 2 (gCons (gName 2) (gCons (gName 3) gNil))) (wi1 := iTup K (tCall spAbout [] E0 (tCons (tVar 1) tNil))) (tt1 := tTest (tOp (rNotInD K) (tVar 2) (tVar 0))) (te := tVar 3) rfl scOuter.nd (pi_list (pv 0)) (blkOk_by (N := nOuter) (sc := defScope sOuter) (by decide +kernel)) (by decide)
      (fun _ _ _ _ _ => pg_name (i := 1) scOuter.nd rfl (.inl rfl)) (fun _ _ _ _ _ => pts_nil) (fun _ _ _ _ _ => pi_tup (pe_h hA hr (pa_cons (pv 1) pa_nil)))
      (fun _ _ _ _ _ => pg_tup rfl (pgs_cons (pg_name (i := 2) scOuter.nd rfl (.inl rfl)) (pgs_cons (pg_name (i := 3) scOuter.nd rfl (.inl rfl)) pgs_nil))) (fun _ _ _ _ _ => pts_one (pt_cmpR (op_notInD hu65) (pv 2) (pv 0) (by rfl))) (fun _ _ _ _ _ => pv 3))), ?_⟩
    refine ⟨_, rfl, a, rfl, ⟨_, .inl (.inl ha)⟩, fun D hD => ?_⟩
    refine lc2_by (walk_list (K := K) (a := a) (xs := as.map V.ref)) (fun i H' => Same H H' ∧ ∃ es : List Addr, H' D = some (.lst (es.map V.ref)) ∧ EdsAt H' es ((S.take i).flatMap fun p => ((sidesR p).filter fun x => !decide (x.1 ∈ S)).map (·.2)) ∧ es.length ≤ 4 * i)
      ⟨same_new hD, [], upd_same, .nil, Nat.le_refl _⟩ (fun i H' _ h => .inl (.inl (h.1 _ _ ha))) ?_ ?_
    · rintro i x H3 H4 hi ⟨s3, es, hD3, hE3, hl3⟩ ⟨rfl, hx⟩
      rw [List.getElem?_map] at hx
      obtain ⟨pa, hpa, rfl⟩ := Option.map_eq_some_iff.mp hx
      obtain ⟨p, hp, hpt⟩ := Each.get hS hpa
      have hi36 : i < 36 := by have := (List.getElem?_eq_some_iff.mp hp).1; omega
      refine ⟨rfl, yes_it ⟨_, rfl, pa, p, rfl, s3 _ _ hpt, fun t ss H5 s5 ht hsd => ⟨t, rfl, ⟨_, .inl (.inl ht)⟩, ?_⟩⟩⟩
      have lss : ss.length = 4 := hsd.length
      refine in_by (walk_tup (K := K) (a := t) (xs := ss.map V.ref)) (fun j H' => Same H H' ∧ H' t = some (.tup (ss.map V.ref)) ∧ Each (SdAt H') ss (sidesR p) ∧ ∃ es : List Addr, H' D = some (.lst (es.map V.ref)) ∧ EdsAt H' es (((S.take i).flatMap fun p => ((sidesR p).filter fun x => !decide (x.1 ∈ S)).map (·.2)) ++ (((sidesR p).take j).filter fun x => !decide (x.1 ∈ S)).map (·.2)) ∧ es.length ≤ 4 * i + j)
        ⟨s3.trans s5, ht, hsd, es, s5 _ _ hD3, by simpa using hE3.keep (tk_same s5), hl3⟩ (fun j H' _ h => .inl (.inl h.2.1)) ?_ ?_
      · rintro j y H6 H7 hj ⟨s6, ht6, hsd6, es6, hD6, hE6, hl6⟩ ⟨rfl, hy⟩
        rw [List.getElem?_map] at hy
        obtain ⟨sa, hsa, rfl⟩ := Option.map_eq_some_iff.mp hy
        obtain ⟨⟨bey, ed⟩, hsx, b, c, h1, h2, h3⟩ := Each.get hsd6 hsa
        rw [List.length_map, lss] at hj
        have ft : ((sidesR p).take (j + 1)).filter (fun x => !decide (x.1 ∈ S)) = ((sidesR p).take j).filter (fun x => !decide (x.1 ∈ S)) ++ (if (!decide (bey ∈ S)) = true then [(bey, ed)] else []) := filter_take_snoc (p := fun x : Pt × Ed => !decide (x.1 ∈ S)) hsx
        refine ⟨sa, _, rfl, .inl (.inl h1), rfl, _, _, rfl, _, _, rfl, rfl, rfl, _, rfl, _, rfl, encPt bey, S.map encPt, dp_pt h2, .lst (.inl (.inl (s6 _ _ ha))) (dp_pts (hS.keep (tk_same s6))), sh_pt _, sh_pts _, _, rfl, ?_⟩
        rw [any_pt]
        by_cases hm : bey ∈ S
        · rw [decide_eq_true hm]
          refine iteF ⟨s6, ht6, hsd6, es6, hD6, ?_, by omega⟩
          rw [ft, if_neg (by rw [decide_eq_true hm]; decide), List.append_nil]
          exact hE6
        · rw [decide_eq_false hm]
          have tk := tk_upd (o := .lst (es6.map V.ref ++ [V.ref c])) hD6
          refine iteT ⟨_, rfl, _, hD6, by rw [List.length_map]; exact small1000 (by omega), same_mut s6 hD, tk _ _ ht6, hsd6.mono fun _ _ r => SdAt.keep r tk, es6 ++ [c], by rw [upd_same, List.map_append]; rfl, ?_, by rw [List.length_append]; show es6.length + 1 ≤ _; omega⟩
          rw [ft, if_pos (by rw [decide_eq_false hm]; rfl), List.map_append, ← List.append_assoc]
          exact Each.append (hE6.keep tk) (.cons (h3.keep tk) .nil)
      · rintro H6 ⟨s6, ht6, hsd6, es6, hD6, hE6, hl6⟩
        rw [List.length_map, lss] at hE6 hl6
        refine ⟨s6, es6, hD6, ?_, by omega⟩
        rw [outer_step S hp]
        exact hE6
    · rintro H3 ⟨s3, es, hD3, hE3, _⟩
      rw [List.length_map, show as.length = S.length from hS.length, List.take_length] at hE3
      exact q D es H3 hD s3 hD3 hE3
end
end Wl

/-! what leads on -/
namespace Wl
open PySem PySem.Spec PyProof.Rows L2
section
variable {P : Program} {w : World} {K : PySem.W.Frag} {mg : Str → Option Value} {base : Heap} {f C D W : Addr} {fd : FuncData}
def spNextE : Sp := fun vs H Q _ => ∃ (a l : Addr) (e : Ed) (es : List Addr) (S : List Pt), vs = [.ref a, .ref l] ∧ EdAt H a e ∧ H l = some (.lst (es.map V.ref)) ∧ EdsAt H es (outerR S) ∧ (outerR S).length ≤ 144 ∧ e ∈ outerR S ∧ ∀ (v : Addr) (H' : Hp), Same H H' → EdAt H' v (nextR (outerR S) e) → Q (.ref v) H'
abbrev nNextE : List Str := ["edge", "edges", "row", "column", "to_row", "to_column", "left", "way"]
theorem scNextE : FnScope nNextE ["edge", "edges"] (defScope sNextE) := ⟨rfl, rfl, rfl, by decide +kernel, rfl, by decide +kernel, by decide +kernel⟩
theorem ok_nexte (F : Fun K "next_edge" "next_edge" sNextE f fd) (B : Bi mg) : FnOk P w K mg base CX0 1 f fd ["edge", "edges"] spNextE := by
  refine F.ok scNextE (fun vs H Q E h => ?_) (fun cdv A outer s H vs Q E hr h => ?_)
  · obtain ⟨a, l, e, es, S, rfl, _⟩ := h
    rfl
  · obtain ⟨a, l, ⟨⟨r, c⟩, ⟨r2, c2⟩⟩, es, S, rfl, he, hl, hE, h144, hm, q⟩ := h
    obtain ⟨b1, b2, ha, h1, h2⟩ := id he
    have hu65 : (A.deeper (envOfC "next_edge" (defScope sNextE) s.heap.objs.size f cdv)).units + 65 < cLine := by have := hr.un; omega
    refine ⟨_, pss_cons (ps_asg (pv 0) (pg_tup rfl (pgs_cons (pg_tup rfl (pgs_cons (pg_name (i := 2) scNextE.nd rfl (.inl rfl)) (pgs_cons (pg_name (i := 3) scNextE.nd rfl (.inl rfl)) pgs_nil))) (pgs_cons (pg_tup rfl (pgs_cons (pg_name (i := 4) scNextE.nd rfl (.inl rfl)) (pgs_cons (pg_name (i := 5) scNextE.nd rfl (.inl rfl)) pgs_nil))) pgs_nil))))
      (pss_cons (ps_set (i := 6) scNextE.nd rfl (.inl rfl) (pe_tup (pa_cons (pe_ix ix_tup (pv 0) pe_int (fun _ _ => rfl)) (pa_cons (pe_tup (pa_cons (pe_op op_sub (pv 4) (pe_op op_sub (pv 5) (pv 3))) (pa_cons (pe_op op_add (pv 5) (pe_op op_sub (pv 4) (pv 2))) pa_nil))) pa_nil))))
      (pss_cons (ps_if (pt_cmpR (op_inD hu65) (pv 6) (pv 1) (by rfl)) (pss_one (ps_ret (pv 6))) pss_nil)
      (pss_one (ps_ret (pe_ix ix_list (pe_lc (own := [("way", 7)]) (g := gName 7) (te := tVar 7) (tt := tTest (tOp (rEqD K) (tOp (rIxT K) (tVar 7) (tC (.int 0))) (tOp (rIxT K) (tVar 0) (tC (.int 1))))) rfl scNextE.nd (pi_list (pv 1)) (blkOk_by (N := nNextE) (sc := defScope sNextE) (by decide +kernel)) (fun _ _ _ _ _ => pg_name (i := 7) scNextE.nd rfl (.inl rfl))
        (fun _ _ _ _ _ => pts_one (pt_cmpR (op_eqD hr.units) (pe_ix ix_tup (pv 7) pe_int (fun _ _ => rfl)) (pe_ix ix_tup (pv 0) pe_int (fun _ _ => rfl)) (nomark _))) (fun _ _ _ _ _ => pv 7)) pe_int (fun _ _ => rfl)))))), ?_⟩
    refine ⟨_, rfl, a, _, rfl, .inl (.inl ha), rfl, _, _, rfl, ⟨b1, _, rfl, .inl (.inl h1), rfl, _, _, rfl, _, _, rfl, rfl, _, _, rfl, ⟨b2, _, rfl, .inl (.inl h2), rfl, _, _, rfl, _, _, rfl, rfl, rfl, ?_⟩⟩⟩
    refine ⟨_, rfl, a, _, 1, .ref b2, rfl, rfl, .inl (.inl ha), atI_nat (j := 1) rfl, _, rfl, _, rfl, _, rfl, _, _, rfl, rfl, _, _, rfl, rfl, _, rfl, _, rfl, _, rfl, _, _, rfl, rfl, _, _, rfl, rfl, lz, fun pl hpl => ⟨lz, fun L hL => ?_⟩⟩
    have s1 := same_new (o := .tup [V.int (r2 - (c2 - c)), .int (c2 + (r2 - r))]) hpl
    have s2 := same_new (o := .tup [V.ref b2, .ref pl]) hL
    have S2 := s1.trans s2
    have hLe : EdAt (upd (upd H pl (.tup [V.int (r2 - (c2 - c)), .int (c2 + (r2 - r))])) L (.tup [V.ref b2, .ref pl])) L (leftR ((r, c), (r2, c2))) := ⟨b2, pl, upd_same, S2 _ _ h2, s2 _ _ upd_same⟩
    generalize upd (upd H pl (.tup [V.int (r2 - (c2 - c)), .int (c2 + (r2 - r))])) L (.tup [V.ref b2, .ref pl]) = H2 at S2 hLe ⊢
    clear s1 s2 hpl hL
    have tk2 := tk_same S2
    refine ⟨_, rfl, _, rfl, encEd (leftR ((r, c), (r2, c2))), (outerR S).map encEd, dp_ed hLe, .lst (.inl (.inl (S2 _ _ hl))) (dp_eds (hE.keep tk2)), sh_ed _, sh_eds _, _, rfl, ?_⟩
    rw [any_ed]
    by_cases hin : leftR ((r, c), (r2, c2)) ∈ outerR S
    · rw [decide_eq_true hin]
      refine iteT ⟨_, rfl, q L _ S2 ?_⟩
      unfold nextR
      rw [if_pos hin]
      exact hLe
    rw [decide_eq_false hin]
    have le : es.length = (outerR S).length := hE.length
    refine iteF ⟨_, rfl, l, rfl, ⟨_, .inl (.inl (S2 _ _ hl))⟩, fun D hD => lc_it (walk_list (K := K) (a := l) (xs := es.map V.ref)) (fun i H' => Same H2 H' ∧ ∃ ws : List Addr, H' D = some (.lst (ws.map V.ref)) ∧ EdsAt H' ws (((outerR S).take i).filter fun w => decide (w.1 = (r2, c2))) ∧ ws.length ≤ i)
      ⟨same_new hD, [], upd_same, .nil, Nat.le_refl _⟩ (fun i H' _ h => .inl (.inl (h.1 _ _ (S2 _ _ hl)))) ?_ ?_⟩
    · rintro i x H3 H4 hi ⟨s3, ws, hD3, hW3, hl3⟩ ⟨rfl, hx⟩
      rw [List.getElem?_map] at hx
      obtain ⟨wa, hwa, rfl⟩ := Option.map_eq_some_iff.mp hx
      obtain ⟨wv, hwv, hwE⟩ := Each.get hE hwa
      have tk3 := tk_same (S2.trans s3)
      have hw3 := hwE.keep tk3
      obtain ⟨d1, d2, k1, k2, k3⟩ := id hw3
      have hi4 : i < 144 := by have := (List.getElem?_eq_some_iff.mp hwv).1; omega
      have ft := filter_take_snoc (p := fun w : Ed => decide (w.1 = (r2, c2))) hwv
      refine ⟨rfl, _, rfl, wa, _, 0, .ref d1, rfl, rfl, .inl (.inl k1), atI_nat (j := 0) rfl, _, rfl, a, _, 1, .ref b2, rfl, rfl, .inl (.inl (tk3 _ _ ha)), atI_nat (j := 1) rfl, encPt wv.1, encPt (r2, c2), dp_pt k2, dp_pt (PtAt.keep h2 tk3), sh_pt _, sh_pt _, _, rfl, ?_⟩
      rw [pt_eqv]
      by_cases hm : wv.1 = (r2, c2)
      · rw [decide_eq_true hm]
        have tk := tk_upd (o := .lst (ws.map V.ref ++ [V.ref wa])) hD3
        refine iteT ⟨_, rfl, _, hD3, by rw [List.length_map]; exact small1000 (by omega), same_mut s3 hD, ws ++ [wa], by rw [upd_same, List.map_append]; rfl, ?_, by rw [List.length_append]; show ws.length + 1 ≤ _; omega⟩
        rw [ft, if_pos (decide_eq_true hm)]
        exact Each.append (hW3.keep tk) (.cons (hw3.keep tk) .nil)
      · rw [decide_eq_false hm]
        refine iteF ⟨s3, ws, hD3, ?_, by omega⟩
        rw [ft, if_neg (by rw [decide_eq_false hm]; decide), List.append_nil]
        exact hW3
    · rintro H3 ⟨s3, ws, hD3, hW3, _⟩
      rw [List.length_map, le, List.take_length] at hW3
      have ex : ∃ w0, nextR (outerR S) ((r, c), (r2, c2)) = w0 ∧ ((outerR S).filter fun w => decide (w.1 = (r2, c2)))[0]? = some w0 := by
        have hd : ((outerR S).filter fun w => decide (w.1 = (r2, c2)))[0]? = (outerR S).find? fun w => decide (w.1 = (r2, c2)) := by
          rw [← List.head?_eq_getElem?, List.head?_filter]
        refine ⟨_, rfl, ?_⟩
        rw [hd]
        unfold nextR
        rw [if_neg hin]
        obtain ⟨r', c', d, e0, ho⟩ := mem_outer.mp hm
        obtain ⟨j, e1, ho1, _⟩ := next_is ho
        have hv : (mkE r' c' d).2 = (r2, c2) := by rw [← e0]
        cases hf : (outerR S).find? (fun w => decide (w.1 = (r2, c2))) with
        | none =>
          refine absurd (List.find?_eq_none.mp hf _ (at_mkE.mpr ho1)) ?_
          rw [hv]
          simp [mkE]
        | some w => rfl
      obtain ⟨w0, e0, hw0⟩ := ex
      obtain ⟨wa, hwa, hwE⟩ := Each.get2 hW3 hw0
      refine ⟨D, _, 0, .ref wa, rfl, rfl, .inl (.inl hD3), atI_nat (j := 0) (by rw [List.getElem?_map, hwa]; rfl), q wa _ (S2.trans s3) ?_⟩
      rw [e0]
      exact hwE
end
end Wl

/-! the ring that an edge is on -/
namespace Wl
open PySem PySem.Spec PyProof.Rows L2
section
variable {P : Program} {w : World} {K : PySem.W.Frag} {mg : Str → Option Value} {base : Heap} {f C D W : Addr} {fd : FuncData}
def spRingF : Sp := fun vs H Q _ => ∃ (a l : Addr) (e : Ed) (es : List Addr) (S : List Pt), vs = [.ref a, .ref l] ∧ EdAt H a e ∧ H l = some (.lst (es.map V.ref)) ∧ EdsAt H es (outerR S) ∧ (outerR S).length ≤ 144 ∧ e ∈ outerR S ∧
  ∀ (p : Addr) (rs : List Addr) (n : Nat) (H' : Hp), Same H H' → H p = none → H' p = some (.lst (rs.map V.ref)) → EdsAt H' rs (ringR (nextR (outerR S)) e n) → 1 ≤ n → n ≤ 144 → itR (nextR (outerR S)) n e = e → (∀ j, 1 ≤ j → j < n → itR (nextR (outerR S)) j e ≠ e) → Q (.ref p) H'
abbrev nRingF : List Str := ["edge", "edges", "ring", "way"]
theorem scRingF : FnScope nRingF ["edge", "edges"] (defScope sRingF) := ⟨rfl, rfl, rfl, by decide +kernel, rfl, by decide +kernel, by decide +kernel⟩
theorem ok_ringf (F : Fun K "ring_from" "ring_from" sRingF f fd) (B : Bi mg) (hN : Has P w K mg base "next_edge" 1 ["edge", "edges"] spNextE) : FnOk P w K mg base CX0 2 f fd ["edge", "edges"] spRingF := by
  refine F.ok scRingF (fun vs H Q E h => ?_) (fun cdv A outer s H vs Q E hr h => ?_)
  · obtain ⟨a, l, e, es, S, rfl, _⟩ := h
    rfl
  · obtain ⟨a, l, e, es, S, rfl, he, hl, hE, h144, hm, q⟩ := h
    refine ⟨_, pss_cons (ps_set (i := 2) scRingF.nd rfl (.inl rfl) (pe_lst (pa_cons (pv 0) pa_nil)))
      (pss_cons (ps_set (i := 3) scRingF.nd rfl (.inl rfl) (pe_h hN hr (pa_cons (pv 0) (pa_cons (pv 1) pa_nil))))
      (pss_cons (ps_while PassesOwn.never (pt_cmpR (op_neD hr.units) (pv 3) (pv 0) (nomark _))
        (pss_cons (ps_expr (pe_bm PySem.F.plainAttrs_list PySem.F.slot_list_append PySem.F.type_list_append mt_append (pv 2) (pa_cons (pv 3) pa_nil)))
        (pss_one (ps_set (i := 3) scRingF.nd rfl (.inl rfl) (pe_h hN hr (pa_cons (pv 3) (pa_cons (pv 1) pa_nil)))))))
      (pss_one (ps_ret (pv 2))))), ?_⟩
    obtain ⟨n, n1, n2, nb, nl⟩ := it_back next_in next_inj hm
    refine ⟨_, rfl, lz, fun D hD => ?_⟩
    have s1 := same_new (o := .lst [V.ref a]) hD
    refine ⟨_, rfl, _, rfl, a, l, e, es, S, rfl, he.keep (tk_same s1), s1 _ _ hl, hE.keep (tk_same s1), h144, hm, fun v H2 s2 hv => ?_⟩
    have hD2 := s2 _ _ (show upd H D (.lst [V.ref a]) D = some (.lst (([a] : List Addr).map V.ref)) from upd_same)
    have hE0 : EdsAt H2 [a] (ringR (nextR (outerR S)) e 1) := .cons (he.keep (tk_same (s1.trans s2))) .nil
    refine ⟨fun m σ H' => ∃ (i : Nat) (va : Addr) (rs : List Addr), m = n - (i + 1) ∧ i + 1 ≤ n ∧ σ = [some (.ref a), some (.ref l), some (.ref D), some (.ref va)] ∧ Same H H' ∧ H' D = some (.lst (rs.map V.ref)) ∧ EdsAt H' rs (ringR (nextR (outerR S)) e (i + 1)) ∧ EdAt H' va (itR (nextR (outerR S)) (i + 1) e),
      ⟨n - 1, 0, v, [a], rfl, n1, rfl, s1.trans s2, hD2, hE0, hv⟩, ?_⟩
    rintro m σ H3 ⟨i, va, rs, rfl, hi, rfl, s3, hD3, hE3, hv3⟩
    have lrs : rs.length = i + 1 := by rw [hE3.length, ring_len]
    refine ⟨_, rfl, _, rfl, encEd (itR (nextR (outerR S)) (i + 1) e), encEd e, dp_ed hv3, dp_ed (he.keep (tk_same s3)), sh_ed _, sh_ed _, _, rfl, ?_⟩
    rw [ed_eqv]
    by_cases c : itR (nextR (outerR S)) (i + 1) e = e
    · rw [decide_eq_true c]
      have en : i + 1 = n := by
        by_cases c2 : i + 1 < n
        · exact absurd c (nl _ (by omega) c2)
        · omega
      rw [en] at hE3
      exact iteF ⟨_, rfl, q D rs n H3 s3 hD hD3 hE3 n1 (by omega) nb nl⟩
    · rw [decide_eq_false c]
      have lt : i + 1 < n := by
        by_cases c2 : i + 1 = n
        · exact absurd (by rw [c2]; exact nb) c
        · omega
      refine iteT ⟨fun σ' H' => ∃ (va : Addr) (rs : List Addr), σ' = [some (.ref a), some (.ref l), some (.ref D), some (.ref va)] ∧ Same H H' ∧ H' D = some (.lst (rs.map V.ref)) ∧ EdsAt H' rs (ringR (nextR (outerR S)) e (i + 1 + 1)) ∧ EdAt H' va (itR (nextR (outerR S)) (i + 1 + 1) e),
        fun σ' H' ⟨va, rs, h1, h2, h3, h4, h5⟩ => ⟨n - (i + 1 + 1), by omega, i + 1, va, rs, rfl, lt, h1, h2, h3, h4, h5⟩, ?_⟩
      refine ⟨_, rfl, .inl ⟨rfl, _, .inl (.inl hD3)⟩, _, rfl, D, _, _, rfl, rfl, hD3, by rw [List.length_map]; exact small1000 (by omega), ?_⟩
      have tk := tk_upd (o := .lst (rs.map V.ref ++ [V.ref va])) hD3
      have S4 : Same H (upd H3 D (.lst (rs.map V.ref ++ [V.ref va]))) := same_mut s3 hD
      have tk4 := tk_same S4
      refine ⟨_, rfl, _, rfl, va, l, itR (nextR (outerR S)) (i + 1) e, es, S, rfl, hv3.keep tk, S4 _ _ hl, hE.keep tk4, h144, it_in next_in hm _, fun v4 H5 s5 hv5 => ⟨v4, rs ++ [va], rfl, S4.trans s5, s5 _ _ (by rw [upd_same, List.map_append]; rfl), ?_, hv5⟩⟩
      rw [ring_succ]
      exact Each.append ((hE3.keep tk).keep (tk_same s5)) (.cons ((hv3.keep tk).keep (tk_same s5)) .nil)
end
end Wl

/-! min of a list of pairs of whole numbers. -/
namespace Wl
open PySem PySem.Spec PyProof.Rows L2
def encPr (p : Int × Int) : PyData := .tuple [.int p.1, .int p.2]
def ltPr (p q : Int × Int) : Bool := decide (p.1 < q.1 ∨ (p.1 = q.1 ∧ p.2 < q.2))
def minPr (x : Int × Int) (xs : List (Int × Int)) : Int × Int := xs.foldl (fun a y => if ltPr y a then y else a) x
theorem minD_enc : ∀ (xs : List (Int × Int)) (x : Int × Int), PySem.W.minD (encPr x) (xs.map encPr) = encPr (minPr x xs)
  | [], _ => rfl
  | y :: r, x => by
    have ih := fun z => minD_enc r z
    have e : PySem.W.dataLt (encPr y) (encPr x) = ltPr y x := PySem.W.dataLt_ii _ _ _ _
    show PySem.W.minD (if PySem.W.dataLt (encPr y) (encPr x) = true then encPr y else encPr x) (r.map encPr) = encPr (minPr (if ltPr y x then y else x) r)
    rw [e]
    by_cases c : ltPr y x = true
    · rw [if_pos c, if_pos c]
      exact ih y
    · rw [if_neg c, if_neg c]
      exact ih x
theorem minPr_mem : ∀ (xs : List (Int × Int)) (x : Int × Int), minPr x xs ∈ x :: xs
  | [], _ => List.mem_cons_self
  | y :: r, x => by
    have ih := minPr_mem r (if ltPr y x then y else x)
    show minPr (if ltPr y x then y else x) r ∈ _
    rcases List.mem_cons.mp ih with h | h
    · rw [h]
      split <;> simp
    · exact List.mem_cons_of_mem _ (List.mem_cons_of_mem _ h)
theorem minPr_le : ∀ (xs : List (Int × Int)) (x : Int × Int), ∀ q ∈ x :: xs, ltPr q (minPr x xs) = false
  | [], x, q, hq => by
    rw [List.mem_singleton.mp hq]
    unfold ltPr
    exact decide_eq_false (by show ¬ (x.1 < x.1 ∨ (x.1 = x.1 ∧ x.2 < x.2)); omega)
  | y :: r, x, q, hq => by
    have ih := minPr_le r (if ltPr y x then y else x)
    show ltPr q (minPr (if ltPr y x then y else x) r) = false
    generalize minPr (if ltPr y x then y else x) r = m at ih
    have h0 := ih _ List.mem_cons_self
    unfold ltPr at h0 ih ⊢
    rw [decide_eq_false_iff_not] at h0 ⊢
    rcases List.mem_cons.mp hq with rfl | hq
    · split at h0
      · rename_i c
        have c := of_decide_eq_true c
        omega
      · exact h0
    · rcases List.mem_cons.mp hq with rfl | hq
      · split at h0
        · exact h0
        · rename_i c
          have c : ¬ _ := fun z => c (decide_eq_true z)
          omega
      · exact of_decide_eq_false (ih q (List.mem_cons_of_mem _ hq))
def rMinP (K : PySem.W.Frag) : List V → Hp → VK → Prop := fun vs H Q => ∃ (a : Addr) (ps : List (Addr × Int × Int)), vs = [V.ref a] ∧ SqL K H a (ps.map fun p => V.ref p.1) ∧ (∀ p ∈ ps, H p.1 = some (.tup [.int p.2.1, .int p.2.2])) ∧ ps ≠ [] ∧
  ∀ p ∈ ps, (∀ q ∈ ps, ltPr q.2 p.2 = false) → Q (.ref p.1) H
theorem dp_pairsI {K : PySem.W.Frag} {H : Hp} : ∀ {ps : List (Addr × Int × Int)}, (∀ p ∈ ps, H p.1 = some (.tup [.int p.2.1, .int p.2.2])) → DpAll K H (ps.map fun p => V.ref p.1) ((ps.map Prod.snd).map encPr)
  | [], _ => .nil
  | p :: r, h => .cons (.tup (.inl (.inl (h p List.mem_cons_self))) (.cons (.int _) (.cons (.int _) .nil))) (dp_pairsI fun q hq => h q (List.mem_cons_of_mem _ hq))
theorem pairs_alike (l : List (Int × Int)) : PySem.W.AlikeAll (l.map encPr) := by
  refine ⟨fun a ha b hb => ?_, fun a ha => ?_⟩
  · obtain ⟨x, _, rfl⟩ := List.mem_map.mp ha
    obtain ⟨y, _, rfl⟩ := List.mem_map.mp hb
    rfl
  · obtain ⟨x, _, rfl⟩ := List.mem_map.mp ha
    exact fun z => by cases z
theorem pairs_depth : ∀ l : List (Int × Int), PyData.depthAll (l.map encPr) ≤ 1
  | [] => by simp [PyData.depthAll]
  | p :: r => by
    have := pairs_depth r
    simp only [List.map_cons, PyData.depthAll, encPr, PyData.depth]
    omega
theorem vals_atP : ∀ {xs : List V} {us : List Value}, Vals xs us → ∀ {i : Nat} {v : Value}, us[i]? = some v → ∃ x, xs[i]? = some x ∧ RelV x v
  | _, _, .nil, i, v, h => by simp at h
  | _, _, .cons r t, 0, v, h => by
    cases h
    exact ⟨_, rfl, r⟩
  | _, _, .cons r t, i + 1, v, h => vals_atP t (i := i) (by simpa using h)
theorem ra_cons {h : Heap} {us : List Value} {d : PyData} {ds : List PyData} {as : List Addr} (r : ReadsAll h us (d :: ds) as) : ∃ v vs a b, us = v :: vs ∧ Reads h v d a ∧ ReadsAll h vs ds b := by
  cases r with
  | cons r1 r2 => exact ⟨_, _, _, _, rfl, r1, r2⟩
theorem rd_int {h : Heap} {v : Value} {a c : Int} {as bs : List Addr} (r : Reads h v (.int a) as) (r' : Reads h v (.int c) bs) : a = c := by
  cases r
  cases r'
  rfl
theorem reads_two {h : Heap} {us : List Value} {a b c d : Int} {as bs : List Addr} (r : ReadsAll h us [.int a, .int b] as) (r' : ReadsAll h us [.int c, .int d] bs) : a = c ∧ b = d := by
  obtain ⟨v, vs, _, _, rfl, r1, r2⟩ := ra_cons r
  obtain ⟨u, us, _, _, e, r3, r4⟩ := ra_cons r'
  cases e
  obtain ⟨v2, vs2, _, _, rfl, r5, _⟩ := ra_cons r2
  obtain ⟨u2, us2, _, _, e, r6, _⟩ := ra_cons r4
  cases e
  exact ⟨rd_int r1 r3, rd_int r5 r6⟩
theorem reads_pair {h : Heap} {v : Value} {p q : Int × Int} {as bs : List Addr} (h1 : Reads h v (encPr p) as) (h2 : Reads h v (encPr q) bs) : p = q := by
  unfold encPr at h1 h2
  cases h1 with
  | tuple g1 c1 d1 r1 =>
    cases h2 with
    | tuple g2 c2 d2 r2 =>
      rw [g1] at g2
      cases g2
      rw [d1] at d2
      cases d2
      obtain ⟨e1, e2⟩ := reads_two r1 r2
      exact Prod.ext e1 e2
theorem cr_minP {X : Cx} (hc : X.calm = true) (hu : X.A.units + 64 < cLine) : CallR X (.builtin "min") (rMinP X.K) := by
  intro pins s σ H vs us Q I r h
  obtain ⟨a, ps, rfl, hs, hp, hne, q⟩ := h
  obtain ⟨its, rv, hl, hn⟩ := I.list hs
  obtain ⟨u, rfl, ru⟩ := vals1 r
  obtain rfl : u = Value.ref a := ru
  obtain ⟨as, hr⟩ := Dp.readsAll I _ _ its (dp_pairsI hp) rv
  cases hps : ps with
  | nil => exact absurd hps hne
  | cons p0 pr =>
    rw [hps] at hr hp q rv
    refine PySem.W.min_list_data (x := encPr p0.2) (xs := (pr.map Prod.snd).map encPr) (I.ok.hd hc) hl.isList (by simpa using hr) (pairs_alike (p0.2 :: pr.map Prod.snd)) (by
      have := pairs_depth (p0.2 :: pr.map Prod.snd)
      simp only [List.map_cons] at this
      omega) fun i v h' tk bs hv hR hk => ?_
    rw [minD_enc] at hR
    have hv' : its[i]? = some v := by simpa using hv
    obtain ⟨x, hx, rx⟩ : ∃ x, ((p0 :: pr).map fun p => V.ref p.1)[i]? = some x ∧ RelV x v := vals_atP rv hv'
    rw [List.getElem?_map] at hx
    obtain ⟨p, hpi, rfl⟩ := Option.map_eq_some_iff.mp hx
    have hpm := List.mem_of_getElem? hpi
    have I1 := I.kept (t' := tk) hk
    have rd := Dp.reads I1 (encPr p.2) (V.ref p.1) v (.tup (.inl (.inl (hp p hpm))) (.cons (.int _) (.cons (.int _) .nil))) rx
    obtain ⟨as2, rd⟩ := rd
    have e2 : minPr p0.2 (pr.map Prod.snd) = p.2 := reads_pair hR rd
    exact ⟨.ref p.1, H, I1, rx, q p hpm fun y hy => by
      rw [← e2]
      exact minPr_le _ _ _ (show y.2 ∈ (p0 :: pr).map Prod.snd from List.mem_map.mpr ⟨y, hy, rfl⟩)⟩
end Wl

/-! min of a list of things told by data, < of two of them -/
namespace Wl
open PySem PySem.Spec PyProof.Rows L2
section
variable {β : Type} {enc : β → PyData}
theorem minD_mem : ∀ (xs : List PyData) (x : PyData), PySem.W.minD x xs ∈ x :: xs
  | [], _ => List.mem_cons_self
  | y :: r, x => by
    have ih := minD_mem r (if PySem.W.dataLt y x then y else x)
    show PySem.W.minD (if PySem.W.dataLt y x then y else x) r ∈ _
    rcases List.mem_cons.mp ih with h | h
    · rw [h]
      split <;> simp
    · exact List.mem_cons_of_mem _ (List.mem_cons_of_mem _ h)
theorem minD_le : ∀ (xs : List PyData) (x : PyData), ∀ q ∈ x :: xs, PySem.W.dataLt q (PySem.W.minD x xs) = false
  | [], x, q, hq => by
    rw [List.mem_singleton.mp hq]
    exact PyProof.Rows.lex_irrefl _
  | y :: r, x, q, hq => by
    have ih := minD_le r (if PySem.W.dataLt y x then y else x)
    show PySem.W.dataLt q (PySem.W.minD (if PySem.W.dataLt y x then y else x) r) = false
    generalize PySem.W.minD (if PySem.W.dataLt y x then y else x) r = m at ih
    have h0 := ih _ List.mem_cons_self
    rcases List.mem_cons.mp hq with rfl | hq
    · split at h0
      · rename_i c
        cases e : PySem.W.dataLt q m with
        | false => rfl
        | true =>
          have := PyProof.Rows.lex_trans _ _ _ c e
          have h0 : PyProof.Rows.lexLt PyProof.Rows.itemOrd (PySem.W.keyToks y) (PySem.W.keyToks m) = false := h0
          rw [this] at h0
          cases h0
      · exact h0
    · rcases List.mem_cons.mp hq with rfl | hq
      · split at h0
        · exact h0
        · rename_i c
          have c : PySem.W.dataLt q x = false := by simpa using c
          cases e : PySem.W.dataLt q m with
          | false => rfl
          | true =>
            rcases PyProof.Rows.lex_negTrans _ (PySem.W.keyToks x) _ e with z | z
            · have c : PyProof.Rows.lexLt PyProof.Rows.itemOrd (PySem.W.keyToks q) (PySem.W.keyToks x) = false := c
              rw [c] at z
              cases z
            · have h0 : PyProof.Rows.lexLt PyProof.Rows.itemOrd (PySem.W.keyToks x) (PySem.W.keyToks m) = false := h0
              rw [h0] at z
              cases z
      · exact ih q (List.mem_cons_of_mem _ hq)
def rMinE (K : PySem.W.Frag) : List V → Hp → VK → Prop := fun vs H Q => ∃ (a : Addr) (xs : List V) (ds : List PyData), vs = [V.ref a] ∧ SqL K H a xs ∧ DpAll K H xs ds ∧ ds ≠ [] ∧ (∀ d ∈ ds, ∀ e ∈ ds, PySem.W.alike d e = true) ∧ (∀ d ∈ ds, d ≠ .none) ∧ PyData.depthAll ds ≤ 60 ∧
  ∀ (i : Nat) (x : V) (d : PyData), xs[i]? = some x → ds[i]? = some d → (∀ e ∈ ds, PySem.W.dataLt e d = false) → Q x H
theorem dpAll_at {K : PySem.W.Frag} {H : Hp} : ∀ {xs : List V} {ds : List PyData}, DpAll K H xs ds → ∀ {i : Nat} {x : V}, xs[i]? = some x → ∃ d, ds[i]? = some d ∧ Dp K H x d
  | _, _, .nil, _, _, h => by simp at h
  | _, _, .cons r _, 0, _, h => by cases h; exact ⟨_, rfl, r⟩
  | _, _, .cons _ t, i + 1, _, h => dpAll_at t (i := i) h
theorem cr_minE {X : Cx} (hc : X.calm = true) (hu : X.A.units + 64 < cLine) : CallR X (.builtin "min") (rMinE X.K) := by
  intro pins s σ H vs us Q I r h
  obtain ⟨a, xs, ds, rfl, hs, hp, hne, al, nn, hd, q⟩ := h
  obtain ⟨its, rv, hl, hn⟩ := I.list hs
  obtain ⟨u, rfl, ru⟩ := vals1 r
  obtain rfl : u = Value.ref a := ru
  obtain ⟨as, hr⟩ := Dp.readsAll I _ _ its hp rv
  cases hps : ds with
  | nil => exact absurd hps hne
  | cons d0 dr =>
    rw [hps] at hr hp q al nn hd
    refine PySem.W.min_list_data (x := d0) (xs := dr) (I.ok.hd hc) hl.isList (by simpa using hr) ⟨al, nn⟩ (by omega) fun i v h' tk bs hv hR hk => ?_
    have hv' : its[i]? = some v := by simpa using hv
    obtain ⟨x, hx, rx⟩ : ∃ x, xs[i]? = some x ∧ RelV x v := vals_atP rv hv'
    obtain ⟨d, hdi, hdp⟩ := dpAll_at hp hx
    have I1 := I.kept (t' := tk) hk
    obtain ⟨as2, rd⟩ := Dp.reads I1 d x v hdp rx
    have e : PySem.W.minD d0 dr = d := (PyProof.Rows.reads_det (fun _ _ z _ => z) rd hR).1
    exact ⟨x, H, I1, rx, q i x d hx hdi fun y hy => by
      rw [← e]
      exact minD_le _ _ _ hy⟩
/-- a < b -/
def rLtD (K : PySem.W.Frag) : R2 := fun x y H Q => ∃ d e, Dp K H x d ∧ Dp K H y e ∧ PySem.W.alike d e = true ∧ d ≠ .none ∧ d.depth ≤ 60 ∧ Q (.bl (PySem.W.dataLt d e)) H
theorem op_ltD {X : Cx} (hu : X.A.units + 65 < cLine) : OpR X (compareOp .Lt) (rLtD X.K) := by
  intro pins s σ H x y v u Q I rx ry h
  obtain ⟨d, e, hd, he, al, nn, dp, q⟩ := h
  obtain ⟨as, r1⟩ := Dp.reads I d x v hd rx
  obtain ⟨bs, r2⟩ := Dp.reads I e y u he ry
  exact PySem.W.lt_data r1 r2 al nn (by omega) ⟨.bl _, H, I, rfl, q⟩
end
end Wl

/-! the least of all turns -/
namespace Wl
open PySem PySem.Spec PyProof.Rows L2
def LnAt (H : Hp) (a : Addr) (ps : List Pt) : Prop := ∃ as : List Addr, H a = some (.tup (as.map V.ref)) ∧ PtsAt H as ps
theorem LnAt.keep {H H' : Hp} {a : Addr} {ps : List Pt} (h : LnAt H a ps) (k : TupKeep H H') : LnAt H' a ps := by
  obtain ⟨as, h1, h2⟩ := h
  exact ⟨as, k _ _ h1, h2.keep k⟩
theorem dp_ln {K : PySem.W.Frag} {H : Hp} {a : Addr} {ps : List Pt} (h : LnAt H a ps) : Dp K H (.ref a) (encLn ps) := by
  obtain ⟨as, h1, h2⟩ := h
  exact .tup (.inl (.inl h1)) (dp_pts h2)
theorem each_drop {α β : Type} {R : α → β → Prop} : ∀ {as : List α} {bs : List β} (n : Nat), Each R as bs → Each R (as.drop n) (bs.drop n)
  | _, _, 0, h => h
  | _, _, _ + 1, .nil => .nil
  | _, _, n + 1, .cons _ t => each_drop n t
theorem each_tk {α β : Type} {R : α → β → Prop} : ∀ {as : List α} {bs : List β} (n : Nat), Each R as bs → Each R (as.take n) (bs.take n)
  | _, _, 0, _ => .nil
  | _, _, _ + 1, .nil => .nil
  | _, _, n + 1, .cons r t => .cons r (each_tk n t)
theorem dp_lns {K : PySem.W.Frag} {H : Hp} : ∀ {as : List Addr} {ls : List (List Pt)}, Each (LnAt H) as ls → DpAll K H (as.map V.ref) (ls.map encLn)
  | _, _, .nil => .nil
  | _, _, .cons r t => .cons (dp_ln r) (dp_lns t)
theorem depth_lns : ∀ ls : List (List Pt), PyData.depthAll (ls.map encLn) ≤ 8
  | [] => by simp [PyData.depthAll]
  | p :: r => by
    have := depth_lns r
    have := ln_depth p
    simp only [List.map_cons, PyData.depthAll]
    omega
section
variable {P : Program} {w : World} {K : PySem.W.Frag} {mg : Str → Option Value} {base : Heap} {f C D W : Addr} {fd : FuncData}
def spLeastT : Sp := fun vs H Q _ => ∃ (a : Addr) (ps : List Pt), vs = [.ref a] ∧ LnAt H a ps ∧ 1 ≤ ps.length ∧ ps.length ≤ 144 ∧
  ∀ (v : Addr) (k : Nat) (H' : Hp), Same H H' → k < ps.length → LnAt H' v (rotR k ps) → (∀ j, j < ps.length → ltLn (rotR j ps) (rotR k ps) = false) → Q (.ref v) H'
abbrev nLeastT : List Str := ["ring", "at"]
theorem scLeastT : FnScope nLeastT ["ring"] (defScope sLeastT) := ⟨rfl, rfl, rfl, by decide +kernel, rfl, by decide +kernel, by decide +kernel⟩
theorem ok_leastt (F : Fun K "least_turn" "least_turn" sLeastT f fd) (B : Bi mg) : FnOk P w K mg base CX0 1 f fd ["ring"] spLeastT := by
  refine F.ok scLeastT (fun vs H Q E h => ?_) (fun cdv A outer s H vs Q E hr h => ?_)
  · obtain ⟨a, ps, rfl, _⟩ := h
    rfl
  · obtain ⟨a, ps, rfl, ⟨as, ha, hP⟩, l1, l2, q⟩ := h
    have hu64 : (A.deeper (envOfC "least_turn" (defScope sLeastT) s.heap.objs.size f cdv)).units + 64 < cLine := by have := hr.un; omega
    refine ⟨_, pss_one (ps_ret (pe_callB (cr_minE rfl hu64) (by rfl) B.min (by decide +kernel) (pa_cons (pe_lc (own := [("at", 1)]) (g := gName 1) (tt := tYes) (te := tOp (rCatA K) (tSl (rSlA K) (tVar 0) (tPart (tVar 1)) tNoPart) (tSl (rSlA K) (tVar 0) tNoPart (tPart (tVar 1)))) rfl scLeastT.nd (pi_range1 (by rfl) B.range (pa_cons (pe_callB call_len_seq (by rfl) B.len PySem.boot_len (pa_cons (pv 0) pa_nil)) pa_nil)) (blkOk_by (N := nLeastT) (sc := defScope sLeastT) (by decide +kernel))
      (fun _ _ _ _ _ => pg_name (i := 1) scLeastT.nd rfl (.inl rfl)) (fun _ _ _ _ _ => pts_nil) (fun _ _ _ _ _ => pe_op op_catA (pe_slice sl_tupA (pv 0) (po_some (pv 1)) po_none) (pe_slice sl_tupA (pv 0) po_none (po_some (pv 1))))) pa_nil))), ?_⟩
    have las : as.length = ps.length := hP.length
    refine ⟨_, rfl, a, _, rfl, .inr (.inl (.inl ha)), (((as.map V.ref).length : Nat) : Int), rfl, by omega, by rw [List.length_map]; omega, fun D hD => lc_range (lo := 0) (n := _) (fun i H' => Same H H' ∧ ∃ ts : List Addr, H' D = some (.lst (ts.map V.ref)) ∧ Each (LnAt H') ts ((List.range i).map fun k => rotR k ps) ∧ ts.length = i)
      ⟨same_new hD, [], upd_same, .nil, rfl⟩ ?_ ?_⟩
    · rintro i H3 hi ⟨s3, ts, hD3, hT3, hl3⟩
      have hi : i < ps.length := by
        rw [List.length_map, Int.toNat_natCast] at hi
        omega
      have ha3 := s3 _ _ ha
      refine ⟨rfl, yes_it ⟨_, rfl, _, rfl, _, rfl, ?_⟩⟩
      unfold tNoPart
      refine slA_rd ha3 fun u1 H4 s4 hu1 => ⟨_, rfl, _, rfl, _, rfl, slA_rd (s4 _ _ ha3) fun u2 H5 s5 hu2 => ?_⟩
      rw [Int.zero_add, cutA_from] at hu1
      rw [Int.zero_add, cutA_to] at hu2
      refine catA_rd (s5 _ _ hu1) hu2 (by rw [List.length_drop, List.length_take, List.length_map]; omega) fun u3 H6 s6 hu3 => ?_
      have S36 := (s4.trans s5).trans s6
      have tk := tk_upd (o := .lst (ts.map V.ref ++ [V.ref u3])) (S36 _ _ hD3)
      have ln : LnAt H6 u3 (rotR i ps) := ⟨as.drop i ++ as.take i, by rw [hu3, List.map_append, List.map_drop, List.map_take], Each.append ((each_drop i hP).mono fun _ _ r => PtAt.keep r (tk_same (s3.trans S36))) ((each_tk i hP).mono fun _ _ r => PtAt.keep r (tk_same (s3.trans S36)))⟩
      refine ⟨_, S36 _ _ hD3, by rw [List.length_map]; exact small1000 (by omega), same_mut (s3.trans S36) hD, ts ++ [u3], by rw [upd_same, List.map_append]; rfl, ?_, by rw [List.length_append, hl3]; rfl⟩
      rw [List.range_succ, List.map_append]
      exact Each.append (hT3.mono fun _ _ r => (LnAt.keep r (tk_same S36)).keep tk) (.cons (ln.keep tk) .nil)
    · rintro H3 ⟨s3, ts, hD3, hT3, hl3⟩
      have e0 : ((((as.map V.ref).length : Nat) : Int)).toNat = ps.length := by rw [Int.toNat_natCast, List.length_map, las]
      rw [e0] at hT3 hl3
      refine ⟨D, ts.map V.ref, ((List.range ps.length).map fun k => rotR k ps).map encLn, rfl, .inl (.inl hD3), dp_lns hT3, ?_, ?_, ?_, ?_, ?_⟩
      · intro z
        have z := congrArg List.length z
        rw [List.length_map, List.length_map, List.length_range] at z
        have z : ps.length = 0 := z
        omega
      · intro d hd e he
        obtain ⟨x, _, rfl⟩ := List.mem_map.mp hd
        obtain ⟨y, _, rfl⟩ := List.mem_map.mp he
        exact ln_alike _ _
      · intro d hd z
        obtain ⟨x, _, rfl⟩ := List.mem_map.mp hd
        cases z
      · have := depth_lns ((List.range ps.length).map fun k => rotR k ps)
        omega
      · intro i x d hx hd hle
        rw [List.getElem?_map] at hx
        obtain ⟨t, ht, rfl⟩ := Option.map_eq_some_iff.mp hx
        have hi : i < ps.length := by have := (List.getElem?_eq_some_iff.mp ht).1; omega
        obtain ⟨ln, hln, hat⟩ := Each.get hT3 ht
        rw [List.getElem?_map, List.getElem?_range hi] at hln
        cases hln
        rw [List.getElem?_map, List.getElem?_map, List.getElem?_range hi] at hd
        cases hd
        exact q t i H3 s3 hi hat fun j hj => hle _ (List.mem_map.mpr ⟨_, List.mem_map.mpr ⟨j, List.mem_range.mpr hj, rfl⟩, rfl⟩)
end
end Wl

/-! sorted of things told by data, where just these are tuples that hold something -/
namespace Wl
open PySem PySem.Spec PyProof.Rows L2
section
variable {β : Type} {enc : β → PyData}
/-- sorted(xs) -/
theorem sort_encM {K : PySem.W.Frag} {H : Hp} {Q : VK} {a : Addr} {xs : List V} {bs : List β} (h : SqL K H a xs) (hd : Each (fun x b => Dp K H x (enc b)) xs bs) (al : ∀ b b' : β, PySem.W.alike (enc b) (enc b') = true) (sb : ∀ b ∈ bs, ∃ x r, enc b = .tuple (x :: r)) (dep : ∀ b, (enc b).depth ≤ 8)
    (q : ∀ p ys, H p = none → (∀ R : V → β → Prop, Each R xs bs → Each R ys (sortE enc bs)) → Q (.ref p) (upd H p (.lst ys))) : rSortD K [.ref a] H Q := by
  obtain ⟨zs, e1, e2, hz⟩ := each_pairs hd
  refine ⟨a, zs.map fun z => (z.1, enc z.2), rfl, ?_, ?_, ?_, ?_, ?_, fun p hp => ?_⟩
  · rw [List.map_map]
    exact e1 ▸ h
  · intro b hb
    obtain ⟨z, hzm, rfl⟩ := List.mem_map.mp hb
    exact hz z hzm
  · intro d hd e he
    obtain ⟨b, hb, rfl⟩ := List.mem_map.mp hd
    obtain ⟨x, _, rfl⟩ := List.mem_map.mp hb
    obtain ⟨c, hc, rfl⟩ := List.mem_map.mp he
    obtain ⟨y, _, rfl⟩ := List.mem_map.mp hc
    exact al _ _
  · refine .inl fun d hd => ?_
    obtain ⟨b, hb, rfl⟩ := List.mem_map.mp hd
    obtain ⟨x, _, rfl⟩ := List.mem_map.mp hb
    exact sb _ (by rw [← e2]; exact List.mem_map_of_mem ‹_›)
  · intro b hb
    obtain ⟨x, _, rfl⟩ := List.mem_map.mp hb
    exact dep _
  · have m1 : (zs.mergeSort fun x y => PySem.W.dataLe false enc x.2 y.2).map (fun z => (z.1, enc z.2)) = (zs.map fun z => (z.1, enc z.2)).mergeSort (PySem.W.dataLe false (·.2)) := List.map_mergeSort fun x _ y _ => by
      rw [PySem.W.dataLe_eq, PySem.W.dataLe_eq]
    have m2 : (zs.mergeSort fun x y => PySem.W.dataLe false enc x.2 y.2).map (·.2) = (zs.map (·.2)).mergeSort (PySem.W.dataLe false enc) := List.map_mergeSort fun x _ y _ => rfl
    rw [← m1, List.map_map]
    refine q p _ hp fun R hR => ?_
    have hall : ∀ z ∈ zs, R z.1 z.2 := by
      have : ∀ (zs : List (V × β)), Each R (zs.map (·.1)) (zs.map (·.2)) → ∀ z ∈ zs, R z.1 z.2 := by
        intro zs
        induction zs with
        | nil => intro _ z hz; cases hz
        | cons y ys ih =>
          intro h z hz
          cases h with
          | cons r t =>
            rcases List.mem_cons.mp hz with rfl | hz
            · exact r
            · exact ih t z hz
      rw [← e1, ← e2] at hR
      exact this zs hR
    have e3 := pairs_each (R := R) (zs.mergeSort fun x y => PySem.W.dataLe false enc x.2 y.2) fun z hzm => hall z (List.mem_mergeSort.mp hzm)
    rw [m2, e2] at e3
    exact e3
end
end Wl

/-! The lanes of places: always the same. -/
namespace Wl
open PySem PySem.Spec PyProof.Rows L2
def IsPer (S : List Pt) (e : Ed) (n : Nat) : Prop := 1 ≤ n ∧ itR (nextR (outerR S)) n e = e ∧ ∀ j, 1 ≤ j → j < n → itR (nextR (outerR S)) j e ≠ e
noncomputable def perT (S : List Pt) (e : Ed) : Nat := open Classical in if h : ∃ n, IsPer S e n then h.choose else 0
theorem perT_eq {S : List Pt} {e : Ed} {n : Nat} (h : IsPer S e n) : perT S e = n := by
  have hx : ∃ n, IsPer S e n := ⟨n, h⟩
  unfold perT
  rw [dif_pos hx]
  obtain ⟨a1, a2, a3⟩ := hx.choose_spec
  obtain ⟨b1, b2, b3⟩ := h
  by_cases c1 : hx.choose < n
  · exact absurd a2 (b3 _ a1 c1)
  · by_cases c2 : n < hx.choose
    · exact absurd b2 (a3 _ b1 c2)
    · omega
noncomputable def ringT (S : List Pt) (e : Ed) : List Ed := ringR (nextR (outerR S)) e (perT S e)
noncomputable def foundT (S : List Pt) : Nat → List (List Ed)
  | 0 => []
  | i + 1 => match (outerR S)[i]? with
    | some e => if e ∈ (foundT S i).flatten then foundT S i else foundT S i ++ [ringT S e]
    | none => foundT S i
theorem foundT_skip {S : List Pt} {i : Nat} {e : Ed} (h : (outerR S)[i]? = some e) (hg : e ∈ (foundT S i).flatten) : foundT S (i + 1) = foundT S i := by
  show (match (outerR S)[i]? with | some e => _ | none => _) = _
  rw [h]
  exact if_pos hg
theorem foundT_add {S : List Pt} {i n : Nat} {e : Ed} (h : (outerR S)[i]? = some e) (hg : e ∉ (foundT S i).flatten) (hn : IsPer S e n) : foundT S (i + 1) = foundT S i ++ [ringR (nextR (outerR S)) e n] := by
  show (match (outerR S)[i]? with | some e => _ | none => _) = _
  rw [h]
  show (if e ∈ (foundT S i).flatten then foundT S i else foundT S i ++ [ringT S e]) = _
  rw [if_neg hg]
  unfold ringT
  rw [perT_eq hn]
def IsLeast (ps l : List Pt) : Prop := (∃ k, k < ps.length ∧ l = rotR k ps) ∧ ∀ j, j < ps.length → ltLn (rotR j ps) l = false
noncomputable def leastL (ps : List Pt) : List Pt := open Classical in if h : ∃ l, IsLeast ps l then h.choose else []
theorem leastL_eq {ps : List Pt} {k : Nat} (hk : k < ps.length) (h : ∀ j, j < ps.length → ltLn (rotR j ps) (rotR k ps) = false) : leastL ps = rotR k ps := by
  have hl : IsLeast ps (rotR k ps) := ⟨⟨k, hk, rfl⟩, h⟩
  have hx : ∃ l, IsLeast ps l := ⟨_, hl⟩
  unfold leastL
  rw [dif_pos hx]
  obtain ⟨⟨j, hj, e⟩, h2⟩ := hx.choose_spec
  apply Classical.byContradiction
  intro n
  have h3 := h j hj
  rw [← e] at h3
  have := ltLn_tot n (h2 k hk)
  rw [this] at h3
  cases h3
/-- all lanes, rising -/
noncomputable def lanesT (S : List Pt) : List (List Pt) := sortE encLn ((foundT S (outerR S).length).map fun R => leastL (R.map (·.1)))
end Wl

/-! all rings about the villages that have a word -/
namespace Wl
open PySem PySem.Spec PyProof.Rows L2
theorem outer_len (S : List Pt) : (outerR S).length ≤ 4 * S.length := by
  unfold outerR
  generalize (fun x : Pt × Ed => !decide (x.1 ∈ S)) = g
  induction S with
  | nil => simp
  | cons p S ih =>
    rw [List.flatMap_cons, List.length_append, List.length_map, List.length_cons]
    have := List.length_filter_le g (sidesR p)
    have e : (sidesR p).length = 4 := rfl
    omega
/-- where a village lies -/
noncomputable def spotI (g : Grid) (y : Str) : Pt := open Classical in if h : ∃ rc : Nat × Nat, cellAt g rc.1 rc.2 = some y then ((h.choose.1 : Int), (h.choose.2 : Int)) else (0, 0)
theorem spotI_at {g : Grid} (nd : (names g).Nodup) {y : Str} {r c : Nat} (h : cellAt g r c = some y) : spotI g y = ((r : Int), (c : Int)) := by
  have hx : ∃ rc : Nat × Nat, cellAt g rc.1 rc.2 = some y := ⟨(r, c), h⟩
  unfold spotI
  rw [dif_pos hx]
  obtain ⟨e1, e2⟩ := cell_inj nd hx.choose_spec h
  rw [e1, e2]
theorem spotI_inj {g : Grid} (nd : (names g).Nodup) {y z : Str} (hy : y ∈ names g) (hz : z ∈ names g) (e : spotI g y = spotI g z) : y = z := by
  obtain ⟨r, c, h⟩ := mem_names.mp hy
  obtain ⟨r', c', h'⟩ := mem_names.mp hz
  rw [spotI_at nd h, spotI_at nd h'] at e
  have e1 : (r : Int) = r' := congrArg Prod.fst e
  have e2 : (c : Int) = c' := congrArg Prod.snd e
  have e1 : r = r' := by omega
  have e2 : c = c' := by omega
  subst e1 e2
  rw [h] at h'
  exact Option.some.inj h'
/-- the places of the villages that have a word -/
noncomputable def havP (g : Grid) (said : Str → List Str) (m : Str) : List Pt := ((sortS (names g)).filter fun y => decide (m ∈ said y)).map (spotI g)
theorem map_nodup {α β : Type} {f : α → β} : ∀ {l : List α}, l.Nodup → (∀ x ∈ l, ∀ y ∈ l, f x = f y → x = y) → (l.map f).Nodup
  | [], _, _ => List.nodup_nil
  | x :: l, n, h => by
    obtain ⟨n1, n2⟩ := List.nodup_cons.mp n
    refine List.nodup_cons.mpr ⟨fun hm => ?_, map_nodup n2 fun a ha b hb => h a (List.mem_cons_of_mem _ ha) b (List.mem_cons_of_mem _ hb)⟩
    obtain ⟨y, hy, e⟩ := List.mem_map.mp hm
    have := h y (List.mem_cons_of_mem _ hy) x List.mem_cons_self e
    rw [this] at hy
    exact n1 hy
theorem havP_nodup {g : Grid} (nd : (names g).Nodup) (said : Str → List Str) (m : Str) : (havP g said m).Nodup := by
  unfold havP
  refine map_nodup ((sortS_nodup nd).filter _) fun x hx y hy e => spotI_inj nd (mem_sortS.mp (List.mem_filter.mp hx).1) (mem_sortS.mp (List.mem_filter.mp hy).1) e
theorem havP_len {g : Grid} {wd : Nat} (gd : Good g wd) (said : Str → List Str) (m : Str) : (havP g said m).length ≤ 36 := by
  unfold havP
  rw [List.length_map]
  refine Nat.le_trans (List.length_filter_le _ _) ?_
  rw [sortS_len]
  exact gd.n36
theorem each_refs {β : Type} {R : Addr → β → Prop} : ∀ {as : List Addr} {bs : List β}, Each R as bs → Each (fun (x : V) b => ∃ a, x = V.ref a ∧ R a b) (as.map V.ref) bs
  | _, _, .nil => .nil
  | _, _, .cons r t => .cons ⟨_, rfl, r⟩ (each_refs t)
theorem refs_each {β : Type} {R : Addr → β → Prop} : ∀ {xs : List V} {bs : List β}, Each (fun (x : V) b => ∃ a, x = V.ref a ∧ R a b) xs bs → ∃ as : List Addr, xs = as.map V.ref ∧ Each R as bs
  | _, _, .nil => ⟨[], rfl, .nil⟩
  | _, _, .cons ⟨a, e, r⟩ t => by
    obtain ⟨as, h1, h2⟩ := refs_each t
    exact ⟨a :: as, by rw [e, h1]; rfl, .cons r h2⟩
abbrev laneOf (R : List Ed) : List Pt := R.map (·.1)
theorem flat_le {α : Type} : ∀ {F : List (List α)}, (∀ R ∈ F, 1 ≤ R.length) → F.length ≤ F.flatten.length
  | [], _ => Nat.zero_le _
  | R :: F, h => by
    have h1 := h R List.mem_cons_self
    have h2 := flat_le (F := F) fun R hR => h R (List.mem_cons_of_mem _ hR)
    rw [List.length_cons, List.flatten_cons, List.length_append]
    omega
theorem found_len {S : List Pt} {i : Nat} {F : List (List Ed)} (h : FoundI S i F) : F.flatten.length ≤ (outerR S).length := nodup_len h.nd fun x hx => by
  obtain ⟨R, hR, hx⟩ := List.mem_flatten.mp hx
  exact (h.rings R hR).mem x hx
theorem lane_of {S : List Pt} {R : List Ed} (h : RingR S R) {k : Nat} (hk : k < R.length) (hl : ∀ j, j < R.length → ltLn (rotR j (laneOf R)) (rotR k (laneOf R)) = false) : LaneR S (rotR k R) := by
  refine ⟨h.rot hk, fun j hj => ?_⟩
  rw [rot_len] at hj
  rw [rot_map, rot_rot (by rw [List.length_map]; exact hk) (by rw [List.length_map]; exact hj)]
  exact hl _ (by rw [List.length_map]; exact Nat.mod_lt _ (by omega))
section
variable {P : Program} {w : World} {K : PySem.W.Frag} {mg : Str → Option Value} {base : Heap} {f C D W : Addr} {fd : FuncData}
def spRings (C W : Addr) : Sp := fun vs H Q _ => ∃ (p : Addr) (z : Str) (r : MR) (wd : Nat), vs = [.ref p, .str z] ∧ MapAt C W H p r ∧ Good r.g wd ∧ OkCs r.chs ∧ IsWd z ∧
  ∀ (t : Addr) (ls : List Addr) (G : List (List Ed)) (H' : Hp), Same H H' → H' t = some (.tup (ls.map V.ref)) → Each (LnAt H') ls (G.map laneOf) → LanesR (havP r.g r.said (mean r.chs z)) G → G.map laneOf = lanesT (havP r.g r.said (mean r.chs z)) → Q (.ref t) H'
abbrev nRings : List Str := ["wordmap", "word", "edges", "gone", "found", "edge", "ring", "name", "corner", "goal"]
theorem scRings : FnScope nRings ["wordmap", "word"] (defScope sRings) := ⟨rfl, rfl, rfl, by decide +kernel, rfl, by decide +kernel, by decide +kernel⟩
theorem ok_rings (F : Fun K "rings" "rings" sRings f fd) (B : Bi mg) (T : Txt K mg C) (TM : TxtM K mg W) (hC : HasC P w K mg base C W) (hHv : HasM P w K mg base W "have" 6 ["self", "word"] (spHave C W)) (hSp : HasM P w K mg base C "spot" 3 ["self", "name"] (spSpot C)) (hO : Has P w K mg base "outer_edges" 2 ["places"] (spOuter K))
    (hRf : Has P w K mg base "ring_from" 2 ["edge", "edges"] spRingF) (hLt : Has P w K mg base "least_turn" 1 ["ring"] spLeastT) : FnOk P w K mg base CX0 7 f fd ["wordmap", "word"] (spRings C W) := by
  obtain ⟨fC, fdC, FC, mC, FnC⟩ := hC
  obtain ⟨dsC, vC, bC⟩ := cm_b1 FnC
  refine F.ok scRings (fun vs H Q E h => ?_) (fun cdv A outer s H vs Q E hr h => ?_)
  · obtain ⟨p, z, r, wd, rfl, _⟩ := h
    rfl
  · obtain ⟨p, z, r, wd, rfl, hM, gd, okc, hz, q⟩ := h
    have hu65 : (A.deeper (envOfC "rings" (defScope sRings) s.heap.objs.size f cdv)).units + 65 < cLine := by have := hr.un; omega
    refine ⟨_, pss_cons (ps_expr (pe_call FC (hr.mono (by decide)) rfl mC FnC.kp bC vC pass0 (pa_cons (pv 0) pa_nil)))
      (pss_cons (ps_set (i := 2) scRings.nd rfl (.inl rfl) (pe_h hO hr (pa_cons (pe_lc (own := [("name", 7)]) (g := gName 7) (tt := tYes) (te := tMeth C "spot" (spSpot C) [] E0 (tFld K (tVar 0) "land") (tCons (tVar 7) tNil)) rfl scRings.nd (pi_tup (pe_hm hHv TM.cl hr (pv 0) (pa_cons (pv 1) pa_nil))) (blkOk_by (N := nRings) (sc := defScope sRings) (by decide +kernel))
        (fun _ _ _ _ _ => pg_name (i := 7) scRings.nd rfl (.inl rfl)) (fun _ _ _ _ _ => pts_nil) (fun _ _ _ _ _ => pe_hm hSp T.cl hr (pe_fld (pv 0) rfl) (pa_cons (pv 7) pa_nil))) pa_nil)))
      (pss_cons (ps_set (i := 3) scRings.nd rfl (.inl rfl) (pe_lst pa_nil))
      (pss_cons (ps_set (i := 4) scRings.nd rfl (.inl rfl) (pe_lst pa_nil))
      (pss_cons (ps_for PassesOwn.never rfl (pi_list (pv 2)) (pg_name (i := 5) scRings.nd rfl (.inl rfl))
        (pss_one (ps_if (pt_cmpR (op_notInD hu65) (pv 5) (pv 3) (by rfl))
          (pss_cons (ps_set (i := 6) scRings.nd rfl (.inl rfl) (pe_h hRf hr (pa_cons (pv 5) (pa_cons (pv 2) pa_nil))))
          (pss_cons (ps_expr (pe_bm PySem.F.plainAttrs_list PySem.F.slot_list_extend PySem.F.type_list_extend mt_extend (pv 3) (pa_cons (pv 6) pa_nil)))
          (pss_one (ps_expr (pe_bm PySem.F.plainAttrs_list PySem.F.slot_list_append PySem.F.type_list_append mt_append (pv 4) (pa_cons (pe_h hLt hr (pa_cons (pe_callTy call_tuple_of (by rfl) B.tuple (by decide +kernel) (pa_cons (pe_lc (own := [("corner", 8), ("goal", 9)]) (g := gTup K 2 (gCons (gName 8) (gCons (gName 9) gNil))) (tt := tYes) (te := tVar 8) rfl scRings.nd (pi_list (pv 6)) (blkOk_by (N := nRings) (sc := defScope sRings) (by decide +kernel))
            (fun _ _ _ _ _ => pg_tup rfl (pgs_cons (pg_name (i := 8) scRings.nd rfl (.inl rfl)) (pgs_cons (pg_name (i := 9) scRings.nd rfl (.inl rfl)) pgs_nil))) (fun _ _ _ _ _ => pts_nil) (fun _ _ _ _ _ => pv 8)) pa_nil)) pa_nil)) pa_nil)))))) pss_nil)))
      (pss_one (ps_ret (pe_callTy call_tuple_of (by rfl) B.tuple (by decide +kernel) (pa_cons (pe_callB (cr_sortD hr.units) (by rfl) B.sorted (by decide +kernel) (pa_cons (pv 4) pa_nil)) pa_nil)))))))), ?_⟩
    refine ⟨_, rfl, p, _, r, rfl, hM, ?_⟩
    obtain ⟨dx, a, b, hp⟩ := hM.at_
    refine ⟨_, rfl, p, dx, _, rfl, hp, mf_no _ _ _ _ _ _, _, rfl, p, z, r, wd, rfl, hM, gd, okc, hz, fun th H1 nth s1 hth => ?_⟩
    have hM1 := hM.same s1
    obtain ⟨ys, hys⟩ : ∃ ys, ys = (sortS (names r.g)).filter fun y => decide (mean r.chs z ∈ r.said y) := ⟨_, rfl⟩
    rw [← hys] at hth
    have ymem : ∀ y ∈ ys, y ∈ names r.g := fun y hy => by
      rw [hys] at hy
      exact mem_sortS.mp (List.mem_filter.mp hy).1
    have hSP : havP r.g r.said (mean r.chs z) = ys.map (spotI r.g) := by
      unfold havP
      rw [hys]
    have l36 : ys.length ≤ 36 := by
      have := havP_len gd r.said (mean r.chs z)
      rw [hSP, List.length_map] at this
      exact this
    refine ⟨th, rfl, ⟨_, .inl (.inl hth)⟩, fun D hD => lc_it (walk_tup (K := K) (a := th) (xs := ys.map V.str)) (fun i H' => Same H1 H' ∧ ∃ ps : List Addr, H' D = some (.lst (ps.map V.ref)) ∧ PtsAt H' ps ((ys.take i).map (spotI r.g)) ∧ ps.length = i)
      ⟨same_new hD, [], upd_same, .nil, rfl⟩ (fun i H' _ h => .inl (.inl (h.1 _ _ hth))) ?_ ?_⟩
    · rintro i x H3 H4 hi ⟨s3, ps, hD3, hP3, hl3⟩ ⟨rfl, hx⟩
      rw [List.getElem?_map] at hx
      obtain ⟨y, hy, rfl⟩ := Option.map_eq_some_iff.mp hx
      obtain ⟨rr, cc, hc⟩ := mem_names.mp (ymem y (List.mem_of_getElem? hy))
      have hM3 := hM1.same s3
      obtain ⟨dx3, a3, b3, hp3⟩ := hM3.at_
      obtain ⟨dl, d, hl⟩ := hM3.land.ins
      have hi36 : i < 36 := by have := (List.getElem?_eq_some_iff.mp hy).1; omega
      refine ⟨rfl, yes_it ⟨_, rfl, p, W, dx3, _, _, rfl, hp3, TM.cl, TM.nL, mf_land _ _ _ _ _ _, r.pl, dl, _, rfl, hl, fs_no, _, rfl, r.pl, r.L, r.g, wd, y, rr, cc, rfl, hM3.land, gd, hc, fun t H4 s4 ht => ?_⟩⟩
      have tk := tk_upd (o := .lst (ps.map V.ref ++ [V.ref t])) (s4 _ _ hD3)
      have pt : PtAt H4 t (spotI r.g y) := by
        rw [spotI_at gd.nd hc]
        exact ht
      refine ⟨_, s4 _ _ hD3, by rw [List.length_map]; exact small1000 (by omega), same_mut (s3.trans s4) hD, ps ++ [t], by rw [upd_same, List.map_append]; rfl, ?_, by rw [List.length_append, hl3]; rfl⟩
      have e : (ys.take (i + 1)).map (spotI r.g) = (ys.take i).map (spotI r.g) ++ [spotI r.g y] := by
        rw [List.take_add_one, hy, List.map_append]
        rfl
      rw [e]
      exact Each.append ((hP3.keep (tk_same s4)).keep tk) (.cons (pt.keep tk) .nil)
    rintro H3 ⟨s3, ps, hD3, hP3, _⟩
    rw [List.length_map, List.take_length, ← hSP] at hP3
    have nS := havP_nodup gd.nd r.said (mean r.chs z)
    have lS := havP_len gd r.said (mean r.chs z)
    obtain ⟨S, eS⟩ : ∃ S, S = havP r.g r.said (mean r.chs z) := ⟨_, rfl⟩
    rw [← eS] at hP3 nS lS q
    have sH3 := s1.trans s3
    refine ⟨D, ps, S, rfl, hD3, hP3, lS, fun el es H4 nel s4 hel hE4 => ?_⟩
    clear hP3 hD3
    have l144 : (outerR S).length ≤ 144 := by have := outer_len S; omega
    have les : es.length = (outerR S).length := hE4.length
    refine ⟨lz, fun Gn hGn => ⟨lz, fun Fo hFo => ?_⟩⟩
    have k1 := same_new (o := .lst []) hGn
    have k2 := same_new (o := .lst []) hFo
    have s46 := k1.trans k2
    have hG6 : upd (upd H4 Gn (.lst [])) Fo (.lst []) Gn = some (.lst (([] : List Addr).map V.ref)) := k2 _ _ upd_same
    have hF6 : upd (upd H4 Gn (.lst [])) Fo (.lst []) Fo = some (.lst (([] : List Addr).map V.ref)) := upd_same
    have nGF : Gn ≠ Fo := fun e => by
      rw [e, upd_same] at hFo
      cases hFo
    have nFo4 : H4 Fo = none := by
      rw [upd_ne nGF.symm] at hFo
      exact hFo
    generalize upd (upd H4 Gn (.lst [])) Fo (.lst []) = H6 at s46 hG6 hF6 ⊢
    clear k1 k2 hFo
    refine ⟨_, rfl, el, rfl, ⟨_, .inl (.inl (s46 _ _ hel))⟩, for_list (K := K) (a := el) (xs := es.map V.ref) (fun i σ H' => (∃ y5 y6, σ = [some (.ref p), some (.str z), some (.ref el), some (.ref Gn), some (.ref Fo), y5, y6, none, none, none]) ∧ Same H4 H' ∧ ∃ (gs fs : List Addr) (F F' : List (List Ed)), H' Gn = some (.lst (gs.map V.ref)) ∧ EdsAt H' gs F.flatten ∧ H' Fo = some (.lst (fs.map V.ref)) ∧ Each (LnAt H') fs (F'.map laneOf) ∧ FoundI S i F ∧ Each (fun R R' => R'.Perm R) F F' ∧ (∀ R' ∈ F', LaneR S R') ∧ F = foundT S i ∧ F'.map laneOf = F.map fun R => leastL (laneOf R))
      ⟨⟨_, _, rfl⟩, s46, [], [], [], [], hG6, .nil, hF6, .nil, found_0, .nil, fun R h => (by cases h), rfl, rfl⟩ (fun i σ H' _ h => .inl (.inl (h.2.1 _ _ hel))) ?_ ?_⟩
    · rintro i x σ H7 hx ⟨⟨y5, y6, rfl⟩, s7, gs, fs, F, F', hG7, hgs7, hF7, hfs7, fI, eF, lF, eT, eL⟩
      rw [List.getElem?_map] at hx
      obtain ⟨ea, hea, rfl⟩ := Option.map_eq_some_iff.mp hx
      obtain ⟨e, hei, heE⟩ := Each.get hE4 hea
      have he7 := heE.keep (tk_same s7)
      have lgs : gs.length ≤ 144 := by
        have := hgs7.length
        have := found_len fI
        omega
      have lfs : fs.length ≤ 144 := by
        have h1 := hfs7.length
        rw [List.length_map, ← eF.length] at h1
        have h2 := flat_le (F := F) fun R hR => (fI.rings R hR).cyc.1
        have h3 := found_len fI
        omega
      refine ⟨_, rfl, _, rfl, encEd e, F.flatten.map encEd, dp_ed he7, .lst (.inl (.inl hG7)) (dp_eds hgs7), sh_ed _, sh_eds _, _, rfl, ?_⟩
      rw [any_ed]
      by_cases hg : e ∈ F.flatten
      · rw [decide_eq_true hg]
        exact iteF ⟨⟨_, _, rfl⟩, s7, gs, fs, F, F', hG7, hgs7, hF7, hfs7, found_skip fI hei hg, eF, lF, by rw [foundT_skip hei (by rw [← eT]; exact hg)]; exact eT, eL⟩
      rw [decide_eq_false hg]
      refine iteT ⟨_, rfl, _, rfl, ea, el, e, es, S, rfl, he7, s7 _ _ hel, hE4.keep (tk_same s7), l144, List.mem_of_getElem? hei, fun rg rs n H8 s8 nrg hrg hrs n1 n2 nb nl0 => ?_⟩
      obtain ⟨fI2, hR⟩ := found_add fI hei hg n1 nb nl0
      have lrs : rs.length = n := by rw [hrs.length, ring_len]
      -- extend
      have hG8 := s8 _ _ hG7
      refine ⟨_, rfl, .inl ⟨rfl, _, .inl (.inl hG8)⟩, _, rfl, Gn, rg, _, _, rfl, rfl, hG8, hrg, by rw [List.length_map, List.length_map]; exact Nat.le_of_lt (small1000 (by omega)), ?_⟩
      have x9 : SameX Gn H8 (upd H8 Gn (.lst (gs.map V.ref ++ rs.map V.ref))) := sameX_upd
      have tk9 := tk_upd (o := .lst (gs.map V.ref ++ rs.map V.ref)) hG8
      have hG9 : upd H8 Gn (.lst (gs.map V.ref ++ rs.map V.ref)) Gn = some (.lst ((gs ++ rs).map V.ref)) := by rw [upd_same, List.map_append]
      have s49 : Same H4 (upd H8 Gn (.lst (gs.map V.ref ++ rs.map V.ref))) := same_mut (s7.trans s8) hGn
      have hF9 := x9 _ _ nGF.symm (s8 _ _ hF7)
      have hfs9 : Each (LnAt (upd H8 Gn (.lst (gs.map V.ref ++ rs.map V.ref)))) fs (F'.map laneOf) := hfs7.mono fun _ _ r => (LnAt.keep r (tk_same s8)).keep tk9
      have hgs9 := (hgs7.keep (tk_same s8)).keep tk9
      have hrs9 := hrs.keep tk9
      have nrG : rg ≠ Gn := fun z => by rw [z, hG7] at nrg; cases nrg
      have hrg9 := x9 _ _ nrG hrg
      generalize upd H8 Gn (.lst (gs.map V.ref ++ rs.map V.ref)) = H9 at hG9 s49 hF9 hfs9 hgs9 hrs9 hrg9 ⊢
      clear x9 tk9 hG8 hrg hrs
      -- its corners
      refine ⟨_, rfl, .inl ⟨rfl, _, .inl (.inl hF9)⟩, ?_⟩
      refine ⟨_, rfl, rg, rfl, ⟨_, .inl (.inl hrg9)⟩, fun Dc hDc => lc_it (walk_list (K := K) (a := rg) (xs := rs.map V.ref)) (fun j H' => Same H9 H' ∧ ∃ cs : List Addr, H' Dc = some (.lst (cs.map V.ref)) ∧ PtsAt H' cs (laneOf ((ringR (nextR (outerR S)) e n).take j)) ∧ cs.length = j)
        ⟨same_new hDc, [], upd_same, .nil, rfl⟩ (fun j H' _ h => .inl (.inl (h.1 _ _ hrg9))) ?_ ?_⟩
      · rintro j x Ha Hb hj ⟨sa, cs, hDa, hCa, hla⟩ ⟨rfl, hxj⟩
        rw [List.getElem?_map] at hxj
        obtain ⟨ca, hca, rfl⟩ := Option.map_eq_some_iff.mp hxj
        obtain ⟨ce, hce, c1, c2, g1, g2, g3⟩ := Each.get hrs9 hca
        have hj : j < n := by have := (List.getElem?_eq_some_iff.mp hca).1; omega
        have tk := tk_upd (o := .lst (cs.map V.ref ++ [V.ref c1])) hDa
        refine ⟨ca, _, rfl, .inl (.inl (sa _ _ g1)), rfl, _, _, rfl, _, _, rfl, rfl, rfl, yes_it ⟨_, rfl, _, hDa, by rw [List.length_map]; exact small1000 (by omega), same_mut sa hDc, cs ++ [c1], by rw [upd_same, List.map_append]; rfl, ?_, by rw [List.length_append, hla]; rfl⟩⟩
        have e3 : laneOf ((ringR (nextR (outerR S)) e n).take (j + 1)) = laneOf ((ringR (nextR (outerR S)) e n).take j) ++ [ce.1] := by
          unfold laneOf
          rw [List.take_add_one, hce, List.map_append]
          rfl
        rw [e3]
        exact Each.append (hCa.keep tk) (.cons ((PtAt.keep g2 (tk_same sa)).keep tk) .nil)
      rintro Ha ⟨sa, cs, hDa, hCa, _⟩
      rw [List.length_map, lrs, List.take_of_length_le (by rw [ring_len]; exact Nat.le_refl _)] at hCa
      have lR : (laneOf (ringR (nextR (outerR S)) e n)).length = n := by
        unfold laneOf
        rw [List.length_map, ring_len]
      refine ⟨Dc, _, rfl, .inl ⟨.inl (.inl hDa), fun tp htp => ?_⟩⟩
      have k5 := same_new (o := .tup (cs.map V.ref)) htp
      refine ⟨tp, laneOf (ringR (nextR (outerR S)) e n), rfl, ⟨cs, upd_same, hCa.keep (tk_same k5)⟩, by omega, by omega, fun lv k Hc sc hk hlv hle => ?_⟩
      rw [lR] at hk hle
      have s9c := (sa.trans k5).trans sc
      have hFc := s9c _ _ hF9
      refine ⟨Fo, _, _, rfl, rfl, hFc, by rw [List.length_map]; exact small1000 (by omega), ?_⟩
      have tkd := tk_upd (o := .lst (fs.map V.ref ++ [V.ref lv])) hFc
      have nl : LaneR S (rotR k (ringR (nextR (outerR S)) e n)) := lane_of hR (by rw [ring_len]; exact hk) fun j hj => hle j (by rw [ring_len] at hj; exact hj)
      refine ⟨⟨_, _, rfl⟩, same_mut (s49.trans s9c) nFo4, gs ++ rs, fs ++ [lv], F ++ [ringR (nextR (outerR S)) e n], F' ++ [rotR k (ringR (nextR (outerR S)) e n)], ?_, ?_, ?_, ?_, fI2, ?_, ?_, ?_, ?_⟩
      · rw [upd_ne nGF]
        exact s9c _ _ hG9
      · rw [List.flatten_append, List.flatten_cons, List.flatten_nil, List.append_nil]
        exact Each.append ((hgs9.keep (tk_same s9c)).keep tkd) ((hrs9.keep (tk_same s9c)).keep tkd)
      · rw [upd_same, List.map_append]
        rfl
      · rw [List.map_append]
        refine Each.append (hfs9.mono fun _ _ r => (LnAt.keep r (tk_same s9c)).keep tkd) (.cons ?_ .nil)
        have e4 : laneOf (rotR k (ringR (nextR (outerR S)) e n)) = rotR k (laneOf (ringR (nextR (outerR S)) e n)) := rot_map _ _ _
        rw [e4]
        exact hlv.keep tkd
      · exact Each.append eF (.cons (rot_perm _ _) .nil)
      · intro R' hR'
        rcases List.mem_append.mp hR' with h | h
        · exact lF R' h
        · rw [List.mem_singleton.mp h]
          exact nl
      · rw [foundT_add hei (by rw [← eT]; exact hg) ⟨n1, nb, nl0⟩, ← eT]
      · rw [List.map_append, List.map_append, eL]
        have e6 : laneOf (rotR k (ringR (nextR (outerR S)) e n)) = leastL (laneOf (ringR (nextR (outerR S)) e n)) := by
          rw [leastL_eq (by rw [lR]; exact hk) (fun j hj => hle j (by rw [lR] at hj; exact hj))]
          exact rot_map _ _ _
        show _ ++ [laneOf _] = _ ++ [_]
        rw [e6]
    rintro σ H7 ⟨⟨y5, y6, rfl⟩, s7, gs, fs, F, F', hG7, hgs7, hF7, hfs7, fI, eF, lF, eT, eL⟩
    rw [List.length_map, les] at fI eT
    have lan := lanes_of nS fI eF lF
    refine ⟨_, rfl, ?_⟩
    unfold tNil
    refine sort_encM (K := K) (enc := encLn) (.inl (.inl hF7)) ((each_refs hfs7).mono fun x b ⟨a, e, h⟩ => by rw [e]; exact dp_ln h) (fun _ _ => ln_alike _ _) ?_ ln_depth fun p9 ys9 hp9 hy => ?_
    · intro b hb
      obtain ⟨R', hR', rfl⟩ := List.mem_map.mp hb
      have h1 := (lF R' hR').ring.cyc.1
      cases R' with
      | nil => simp at h1
      | cons e R' => exact ⟨_, _, rfl⟩
    · have hy2 := hy (fun x l => ∃ a, x = V.ref a ∧ LnAt H7 a l) (each_refs hfs7)
      obtain ⟨ls, rfl, hls⟩ := refs_each hy2
      have e5 : sortE encLn (F'.map laneOf) = (F'.mergeSort fun x y => PySem.W.dataLe false encLn (x.map (·.1)) (y.map (·.1))).map laneOf := by
        unfold sortE
        exact (List.map_mergeSort (r := fun x y : List Ed => PySem.W.dataLe false encLn (x.map (·.1)) (y.map (·.1))) (s := PySem.W.dataLe false encLn) (f := laneOf) (fun a _ b _ => rfl)).symm
      have e7 : (F'.mergeSort fun x y => PySem.W.dataLe false encLn (x.map (·.1)) (y.map (·.1))).map laneOf = lanesT S := by
        rw [← e5, eL, eT]
        rfl
      rw [e5] at hls
      refine ⟨p9, _, rfl, .inl ⟨.inl (.inl upd_same), fun u hu => ?_⟩⟩
      have s10 := (same_new (o := .lst (ls.map V.ref)) hp9).trans (same_new (o := .tup (ls.map V.ref)) hu)
      have sF : Same H H7 := (sH3.trans s4).trans s7
      exact q u ls _ _ (sF.trans s10) upd_same (hls.mono fun _ _ r => LnAt.keep r (tk_same s10)) lan e7
end
end Wl

namespace Wl
open PySem PySem.Spec PyProof.Rows L2
abbrev sPool : Stmt := topS 81
abbrev sTold : Stmt := topS 82
abbrev sTome : Stmt := topS 83
abbrev sShown : Stmt := topS 84
abbrev sLaw : Stmt := topS 92
theorem purse_upd {H : Hp} {a b : Addr} {o : HO} (h : PurseAt H a) (n : b ≠ a) : PurseAt (upd H b o) a := by
  obtain ⟨y0, y1, y2, hy, hy1⟩ := h
  exact ⟨y0, y1, y2, by rw [upd_ne n.symm]; exact hy, hy1⟩
theorem cutFrom (z : Str) (k : Nat) : codes (cutS z (some (k : Int)) none) = (codes z).drop k := by
  show ((z.cps.toList.drop (HT.sIx z.length 0 (some (k : Int)))).take (HT.sIx z.length z.length none - HT.sIx z.length 0 (some (k : Int)))) = _
  rw [HT.sIx_none, HT.sIx_nat]
  have e : z.length = z.cps.toList.length := by simp [Str.length]
  rw [e]
  by_cases h : k ≤ z.cps.toList.length
  · rw [Nat.min_eq_left h]
    refine List.take_of_length_le ?_
    rw [List.length_drop]
    omega
  · rw [Nat.min_eq_right (by omega), List.drop_of_length_le (Nat.le_refl _), List.drop_of_length_le (show (codes z).length ≤ k by show z.cps.toList.length ≤ k; omega)]
    simp
theorem tl_codes (z : Str) : TL.tl z = codes z := rfl
theorem near_wd {z : Str} (h : IsWd z) {k : Nat} (hk : k < z.length) {c : Nat} (hc : isLet c) : IsWd ((cutS z none (some (k : Int))) ++ sign c ++ (cutS z (some ((k + 1 : Nat) : Int)) none)) := by
  obtain ⟨h1, h2⟩ := wd_codes.mp h
  have hl : (codes z).length = z.length := codes_len z
  have e : codes ((cutS z none (some (k : Int))) ++ sign c ++ (cutS z (some ((k + 1 : Nat) : Int)) none)) = (codes z).take k ++ [c] ++ (codes z).drop (k + 1) := by
    rw [← tl_codes, TL.tl_append, TL.tl_append, tl_codes, tl_codes, tl_codes, cutFrom, show codes (cutS z none (some (k : Int))) = (codes z).take k from cut_hi z k]
    rfl
  rw [wd_codes, e]
  refine ⟨?_, fun d hd => ?_⟩
  · rw [List.length_append, List.length_append, List.length_take, List.length_drop]
    simp only [List.length_cons, List.length_nil]
    omega
  · rcases List.mem_append.mp hd with hd | hd
    · rcases List.mem_append.mp hd with hd | hd
      · exact h2 d (List.mem_of_mem_take hd)
      · rw [List.mem_singleton.mp hd]
        exact hc
    · exact h2 d (List.mem_of_mem_drop hd)
section
variable {P : Program} {w : World} {K : PySem.W.Frag} {mg : Str → Option Value} {base : Heap} {f C D W : Addr} {fd : FuncData}
/-! ### a pool of words -/
def spPool : Sp := fun vs H Q _ => ∃ (a : Addr), vs = [.ref a] ∧ PurseAt H a ∧ ∀ (l : Addr) (ws : List Str) (H' : Hp), H l = none → H' l = some (.lst (ws.map V.str)) → ws ≠ [] → ws.length ≤ 4 → (∀ z ∈ ws, IsWd z) → PurseAt H' a → SameX a H H' → Q (.ref l) H'
abbrev nPool : List Str := ["_law_purse_here", "_law_found", "_law_turn", "_law_term", "_law_at", "_law_near"]
theorem scPool : FnScope nPool ["_law_purse_here"] (defScope sPool) := ⟨rfl, rfl, rfl, by decide +kernel, rfl, by decide +kernel, by decide +kernel⟩
theorem ok_pool (F : Fun K "_law_pool" "_law_pool" sPool f fd) (B : Bi mg) (hp : Has P w K mg base "_law_pick" 1 ["_law_purse_here", "_law_count"] spPick) (hW : Has P w K mg base "_law_word" 2 ["_law_purse_here"] spWord) (hF : Has P w K mg base "_law_fresh" 3 ["_law_purse_here", "_law_used"] spFresh) : FnOk P w K mg base CX0 4 f fd ["_law_purse_here"] spPool := by
  refine F.ok scPool (fun vs H Q E h => ?_) (fun cdv A outer s H vs Q E hr h => ?_)
  · obtain ⟨a, rfl, _⟩ := h
    rfl
  · obtain ⟨a, rfl, hA, q⟩ := h
    refine ⟨_, pss_cons (ps_set (i := 1) scPool.nd rfl (.inl rfl) (pe_lst (pa_cons (pe_h hW hr (pa_cons (pv 0) pa_nil)) pa_nil)))
      (pss_cons (ps_for PassesOwn.never rfl (pi_range1 rfl B.range (pa_cons (pe_op op_add pe_int (pe_h hp hr (pa_cons (pv 0) (pa_cons pe_int pa_nil)))) pa_nil)) (pg_name (i := 2) scPool.nd rfl (.inl rfl))
        (pss_cons (ps_par (i := 3) (j := 4) (by rfl) scPool.nd rfl rfl (by decide) rfl rfl (pa_cons (pe_ix ix_list (pv 1) (pe_h hp hr (pa_cons (pv 0) (pa_cons (pe_callB call_len_seq (by rfl) B.len PySem.boot_len (pa_cons (pv 1) pa_nil)) pa_nil))) (fun _ _ => rfl)) (pa_cons (pe_h hp hr (pa_cons (pv 0) (pa_cons pe_int pa_nil))) pa_nil)) (by rfl))
        (pss_cons (ps_set (i := 4) scPool.nd rfl (.inl rfl) (pe_op op_mod (pv 4) (pe_callB call_len_str (by rfl) B.len PySem.boot_len (pa_cons (pv 3) pa_nil))))
        (pss_cons (ps_set (i := 5) scPool.nd rfl (.inl rfl) (pe_op op_add_str (pe_op op_add_str (pe_slice sl_str (pv 3) po_none (po_some (pv 4))) (pe_ix ix_str pe_str (pe_h hp hr (pa_cons (pv 0) (pa_cons pe_int pa_nil))) (fun _ _ => rfl))) (pe_slice sl_str (pv 3) (po_some (pe_op op_add (pv 4) pe_int)) po_none)))
        (pss_one (ps_expr (pe_bm PySem.F.plainAttrs_list PySem.F.slot_list_append PySem.F.type_list_append mt_append (pv 1) (pa_cons (pe_ix ix_list (pe_lst (pa_cons (pv 5) (pa_cons (pe_h hF hr (pa_cons (pv 0) (pa_cons (pv 1) pa_nil))) pa_nil))) (pe_h hp hr (pa_cons (pv 0) (pa_cons pe_int pa_nil))) (fun _ _ => rfl)) pa_nil))))))))
      (pss_one (ps_ret (pv 1)))), ?_⟩
    refine ⟨_, rfl, a, rfl, hA, fun z0 H1 hz0 hA1 x1 => ⟨lz, fun l hl => ?_⟩⟩
    have nla : l ≠ a := hA1.ne hl
    have hl0 : H l = none := SameX.free x1 nla hl
    have x2 : SameX a H (upd H1 l (.lst [V.str z0])) := x1.trans (sx (same_new hl))
    have hA2 := hA1.same (same_new (o := .lst [V.str z0]) hl)
    have hl2 : upd H1 l (.lst [V.str z0]) l = some (.lst ([z0].map V.str)) := upd_same
    generalize upd H1 l (.lst [V.str z0]) = H2 at x2 hA2 hl2
    refine ⟨_, rfl, a, 3, rfl, hA2, by decide, by decide, fun r0 H3 r00 r01 hA3 x3 _ => ⟨_, _, rfl, rfl, 1 + r0, rfl, by omega, by omega, ?_⟩⟩
    refine for_range (lo := 0) (n := (1 + r0).toNat) (fun i σ H' => (∃ y2 y3 y4 y5, σ = [some (.ref a), some (.ref l), y2, y3, y4, y5]) ∧ ∃ ws : List Str, H' l = some (.lst (ws.map V.str)) ∧ ws.length = i + 1 ∧ (∀ z ∈ ws, IsWd z) ∧ PurseAt H' a ∧ SameX a H H')
      ⟨⟨_, _, _, _, rfl⟩, [z0], x3 _ _ nla hl2, rfl, fun z hz => by rw [List.mem_singleton.mp hz]; exact hz0, hA3, x2.trans x3⟩ ?_ ?_
    · rintro i σ H4 hi ⟨⟨y2, y3, y4, y5, rfl⟩, ws, hw, hwl, hwd, hA4, x4⟩
      have hi4 : i < 3 := by omega
      refine ⟨_, rfl, _, rfl, _, rfl, l, _, rfl, .inl (.inl (.inl hw)), a, _, rfl, hA4, by rw [List.length_map]; omega, by rw [List.length_map]; omega, fun r1 H5 r10 r11 hA5 x5 _ => ?_⟩
      rw [List.length_map] at r11
      obtain ⟨z, hzm, hzi⟩ := atI_strs (zs := ws) r10 r11
      have hzw := hwd z hzm
      have hzl := hzw.len
      have hw5 := x5 _ _ nla hw
      refine ⟨l, _, r1, .str z, rfl, rfl, .inl (.inl hw5), hzi, _, rfl, a, 8, rfl, hA5, by decide, by decide, fun r2 H6 r20 r21 hA6 x6 _ => ⟨_, _, rfl, ?_⟩⟩
      have hw6 := x6 _ _ nla hw5
      refine ⟨_, rfl, _, rfl, _, rfl, lzl (by omega), _, _, rfl, rfl, (by show (0 : Int) < (z.length : Int); omega), ?_⟩
      have b0 : 0 ≤ r2 % (z.length : Int) := Int.emod_nonneg _ (by omega)
      have b1 : r2 % (z.length : Int) < (z.length : Int) := Int.emod_lt_of_pos _ (by omega)
      obtain ⟨k, ek⟩ : ∃ k : Nat, r2 % (z.length : Int) = (k : Int) := ⟨(r2 % (z.length : Int)).toNat, by omega⟩
      have hk : k < z.length := by omega
      have l1 : (cutS z none (some (r2 % (z.length : Int)))).length ≤ 8 := Nat.le_trans (cut_len _ _ _) hzl.2
      have l2 : (cutS z (some (r2 % (z.length : Int) + 1)) none).length ≤ 8 := Nat.le_trans (cut_len _ _ _) hzl.2
      refine ⟨_, rfl, _, rfl, _, rfl, z, rfl, lzl (by omega), _, rfl, a, 5, rfl, hA6, by decide, by decide, fun r3 H7 r30 r31 hA7 x7 _ => ?_⟩
      refine ⟨_, _, 97 + r3.toNat, rfl, rfl, lz, abcde_at r30 r31, ?_⟩
      have l3 : (⟨#[97 + r3.toNat]⟩ : Str).length = 1 := rfl
      refine ⟨_, _, rfl, rfl, lzl (by omega), _, rfl, _, rfl, _, _, rfl, rfl, _, rfl, z, rfl, lzl (by omega), _, _, rfl, rfl, lzl (by rw [add_len]; omega), ?_⟩
      have hnw := near_wd hzw hk (c := 97 + r3.toNat) (by unfold isLet; omega)
      have ek1 : (((k + 1 : Nat) : Int)) = (k : Int) + 1 := by omega
      rw [ek1, ← ek] at hnw
      have hw7 := x7 _ _ nla hw6
      have hnw' : IsWd (cutS z none (some (r2 % (z.length : Int))) ++ (⟨#[97 + r3.toNat]⟩ : Str) ++ cutS z (some (r2 % (z.length : Int) + 1)) none) := hnw
      dsimp only [tAsg, tSeq, gName]
      generalize cutS z none (some (r2 % (z.length : Int))) ++ (⟨#[97 + r3.toNat]⟩ : Str) ++ cutS z (some (r2 % (z.length : Int) + 1)) none = ne at hnw'
      refine ⟨_, rfl, .inl ⟨rfl, _, .inl (.inl hw7)⟩, _, rfl, _, rfl, _, rfl, a, l, ws, rfl, hA7, hw7, nla, by omega, fun fr H8 hfr _ hA8 x8 => ⟨lz, fun tl htl => ?_⟩⟩
      have ntl : tl ≠ a := hA8.ne htl
      have s9 := same_new (o := .lst [V.str ne, V.str fr]) htl
      refine ⟨_, rfl, a, 2, rfl, hA8.same s9, by decide, by decide, fun r4 H9 r40 r41 hA9 x9 _ => ?_⟩
      have htl9 : H9 tl = some (.lst ([ne, fr].map V.str)) := x9 _ _ ntl upd_same
      obtain ⟨nw, hnm, hni⟩ := atI_strs (zs := [ne, fr]) r40 r41
      have hnww : IsWd nw := by
        simp only [List.mem_cons, List.not_mem_nil, or_false] at hnm
        rcases hnm with rfl | rfl
        · exact hnw'
        · exact hfr
      have x79 : SameX a H7 H9 := (x8.trans (sx s9)).trans x9
      have hw9 := x79 _ _ nla hw7
      refine ⟨tl, _, r4, .str nw, rfl, rfl, .inl (.inl htl9), hni, l, _, _, rfl, rfl, hw9, ?_, ⟨_, _, _, _, rfl⟩, ws ++ [nw], ?_, ?_, ?_, purse_upd hA9 nla, ?_⟩
      · rw [List.length_map]
        exact small1000 (by omega)
      · rw [upd_same, List.map_append]
        rfl
      · rw [List.length_append, hwl]
        rfl
      · intro u hu
        rcases List.mem_append.mp hu with hu | hu
        · exact hwd u hu
        · rw [List.mem_singleton.mp hu]
          exact hnww
      · exact sameX_mut ((((x4.trans x5).trans x6).trans x7).trans x79) hl0
    · rintro σ H4 ⟨⟨y2, y3, y4, y5, rfl⟩, ws, hw, hwl, hwd, hA4, x4⟩
      refine ⟨_, rfl, q l ws H4 hl0 hw (fun e => by rw [e] at hwl; simp at hwl) (by omega) hwd hA4 x4⟩
/-! ### ages -/
end
end Wl


namespace Wl
open PySem PySem.Spec PyProof.Rows L2
theorem cut_to (xs : List V) (c : Nat) : cutV xs none (some (c : Int)) = xs.take c := by
  unfold cutV
  rw [HT.sIx_none, HT.sIx_nat, Nat.sub_zero, List.drop_zero]
  by_cases h : c ≤ xs.length
  · rw [Nat.min_eq_left h]
  · rw [Nat.min_eq_right (by omega), List.take_length, List.take_of_length_le (by omega)]
/-- what was told of a topic: each village and teller once -/
structure ToldI (topic : Str) (nms : List Str) (ts : List Tel) : Prop where
  ok : ∀ t ∈ ts, OkT t
  th : ∀ t ∈ ts, t.th = topic
  v : ∀ t ∈ ts, t.v ∈ nms
  nd : (ts.map fun t => (t.v, t.tl)).Nodup
  len : ts.length ≤ 3 * nms.length
  tl : ∀ t ∈ ts, t.tl ∈ (["tim", "una", "val"] : List Str)
theorem ToldI.keys {topic : Str} {nms : List Str} {ts : List Tel} (h : ToldI topic nms ts) : (ts.map keyS).Nodup := by
  have h1 := h.nd
  unfold List.Nodup at h1 ⊢
  rw [List.pairwise_map] at h1 ⊢
  refine h1.imp fun {a b} n e => n ?_
  simp only [keyS, List.cons.injEq, and_true] at e
  exact Prod.ext e.1 e.2.1
theorem ToldI.more {topic z : Str} {nms : List Str} {ts us : List Tel} (h : ToldI topic nms ts) (hz : z ∉ nms) (h1 : ∀ u ∈ us, u.v = z ∧ u.th = topic ∧ OkT u) (h2 : (us.map (·.tl)).Nodup) (h3 : us.length ≤ 3) (h4 : ∀ u ∈ us, u.tl ∈ (["tim", "una", "val"] : List Str)) : ToldI topic (nms ++ [z]) (ts ++ us) := by
  refine ⟨fun t ht => ?_, fun t ht => ?_, fun t ht => ?_, ?_, ?_, fun t ht => (List.mem_append.mp ht).elim (h.tl t) (h4 t)⟩
  · rcases List.mem_append.mp ht with q | q
    · exact h.ok t q
    · exact (h1 t q).2.2
  · rcases List.mem_append.mp ht with q | q
    · exact h.th t q
    · exact (h1 t q).2.1
  · rcases List.mem_append.mp ht with q | q
    · exact List.mem_append_left _ (h.v t q)
    · rw [(h1 t q).1]
      simp
  · rw [List.map_append, List.nodup_append]
    refine ⟨h.nd, ?_, fun a ha b hb e => ?_⟩
    · unfold List.Nodup at h2 ⊢
      rw [List.pairwise_map] at h2 ⊢
      exact h2.imp fun {a b} n e => n (Prod.mk.inj e).2
    · obtain ⟨t, ht, rfl⟩ := List.mem_map.mp ha
      obtain ⟨u, hu, rfl⟩ := List.mem_map.mp hb
      have e1 := (Prod.mk.inj e).1
      rw [(h1 u hu).1] at e1
      exact hz (e1 ▸ h.v t ht)
  · have := h.len
    rw [List.length_append, List.length_append]
    simp only [List.length_cons, List.length_nil]
    omega
section
variable {P : Program} {w : World} {K : PySem.W.Frag} {mg : Str → Option Value} {base : Heap} {f C D W : Addr} {fd : FuncData}
/-! ### what is told -/
def spTold : Sp := fun vs H Q _ => ∃ (a Lb Po : Addr) (topic : Str) (nms ws : List Str), vs = [.ref a, .ref Lb, .str topic, .ref Po] ∧ PurseAt H a ∧ H Lb = some (.lst (nms.map V.str)) ∧ H Po = some (.lst (ws.map V.str)) ∧ Lb ≠ a ∧ Po ≠ a ∧ nms.Nodup ∧ nms.length ≤ 36 ∧ (∀ z ∈ nms, IsWd z) ∧ IsWd topic ∧ ws ≠ [] ∧ ws.length ≤ 36 ∧ (∀ z ∈ ws, IsWd z) ∧
  ∀ (l : Addr) (as : List Addr) (ts : List Tel) (H' : Hp), H l = none → H' l = some (.lst (as.map V.ref)) → TelsAt H' as ts → ToldI topic nms ts → PurseAt H' a → SameX a H H' → Q (.ref l) H'
abbrev nTold : List Str := ["_law_purse_here", "_law_labels", "_law_topic", "_law_pool_here", "_law_found", "_law_label", "_law_teller", "_law_term", "_law_age", "_law_who", "_law_sure"]
theorem scTold : FnScope nTold ["_law_purse_here", "_law_labels", "_law_topic", "_law_pool_here"] (defScope sTold) := ⟨rfl, rfl, rfl, by decide +kernel, rfl, by decide +kernel, by decide +kernel⟩
theorem ok_told (F : Fun K "_law_told" "_law_told" sTold f fd) (B : Bi mg) (hp : Has P w K mg base "_law_pick" 1 ["_law_purse_here", "_law_count"] spPick) : FnOk P w K mg base CX0 2 f fd ["_law_purse_here", "_law_labels", "_law_topic", "_law_pool_here"] spTold := by
  refine F.ok scTold (fun vs H Q E h => ?_) (fun cdv A outer s H vs Q E hr h => ?_)
  · obtain ⟨a, Lb, Po, topic, nms, ws, rfl, _⟩ := h
    rfl
  · obtain ⟨a, Lb, Po, topic, nms, ws, rfl, hA, hLb, hPo, nLb, nPo, nd, n36, nwd, twd, wne, wle, wwd, q⟩ := h
    refine ⟨_, pss_cons (ps_set (i := 4) scTold.nd rfl (.inl rfl) (pe_lst pa_nil))
      (pss_cons (ps_for PassesOwn.never rfl (pi_list (pv 1)) (pg_name (i := 5) scTold.nd rfl (.inl rfl))
        (pss_one (ps_for PassesOwn.never rfl (pi_list (pe_slice sl_list (pe_lst (pa_cons pe_str (pa_cons pe_str (pa_cons pe_str pa_nil)))) po_none (po_some (pe_ix ix_list (pe_lst (pa_cons pe_int (pa_cons pe_int (pa_cons pe_int (pa_cons pe_int (pa_cons pe_int (pa_cons pe_int pa_nil))))))) (pe_h hp hr (pa_cons (pv 0) (pa_cons pe_int pa_nil))) (fun _ _ => rfl))))) (pg_name (i := 6) scTold.nd rfl (.inl rfl))
          (pss_cons (ps_par (i := 7) (j := 8) (by rfl) scTold.nd rfl rfl (by decide) rfl rfl (pa_cons (pe_ix ix_list (pv 3) (pe_h hp hr (pa_cons (pv 0) (pa_cons (pe_callB call_len_seq (by rfl) B.len PySem.boot_len (pa_cons (pv 3) pa_nil)) pa_nil))) (fun _ _ => rfl)) (pa_cons (pe_h hp hr (pa_cons (pv 0) (pa_cons pe_int pa_nil))) pa_nil)) (by rfl))
          (pss_cons (ps_par (i := 9) (j := 10) (by rfl) scTold.nd rfl rfl (by decide) rfl rfl (pa_cons (pe_ix ix_list (pe_lst (pa_cons pe_str (pa_cons pe_str (pa_cons pe_str pa_nil)))) (pe_h hp hr (pa_cons (pv 0) (pa_cons pe_int pa_nil))) (fun _ _ => rfl)) (pa_cons (pe_cmpR op_gt (pe_h hp hr (pa_cons (pv 0) (pa_cons pe_int pa_nil))) pe_int (nomark _)) pa_nil)) (by rfl))
          (pss_one (ps_expr (pe_bm PySem.F.plainAttrs_list PySem.F.slot_list_append PySem.F.type_list_append mt_append (pv 4) (pa_cons (pe_tup (pa_cons (pv 5) (pa_cons (pv 2) (pa_cons (pv 7) (pa_cons (pv 6) (pa_cons (pv 8) (pa_cons (pv 9) (pa_cons (pv 10) pa_nil)))))))) pa_nil)))))))))
      (pss_one (ps_ret (pv 4)))), ?_⟩
    refine ⟨lz, fun Fo hFo => ?_⟩
    have nFa : Fo ≠ a := hA.ne hFo
    have s0 := same_new (o := .lst []) hFo
    have hF0 : upd H Fo (.lst []) Fo = some (.lst (([] : List Addr).map V.ref)) := upd_same
    have hA0 := hA.same s0
    have x0 : SameX a H (upd H Fo (.lst [])) := sx s0
    generalize upd H Fo (.lst []) = H0 at s0 hF0 hA0 x0
    refine ⟨_, rfl, Lb, rfl, ⟨_, .inl (.inl (s0 _ _ hLb))⟩, for_list (K := K) (a := Lb) (xs := nms.map V.str) (fun i σ H' => (∃ y5 y6 y7 y8 y9 y10, σ = [some (.ref a), some (.ref Lb), some (.str topic), some (.ref Po), some (.ref Fo), y5, y6, y7, y8, y9, y10]) ∧ PurseAt H' a ∧ SameX a H H' ∧ ∃ as ts, H' Fo = some (.lst (as.map V.ref)) ∧ TelsAt H' as ts ∧ ToldI topic (nms.take i) ts)
      ⟨⟨_, _, _, _, _, _, rfl⟩, hA0, x0, [], [], hF0, .nil, fun t ht => (by cases ht), fun t ht => (by cases ht), fun t ht => (by cases ht), List.nodup_nil, by simp, fun t ht => (by cases ht)⟩ (fun i σ H' _ h => .inl (.inl (h.2.2.1 _ _ nLb hLb))) ?_ ?_⟩
    · rintro i x σ H1 hx ⟨⟨y5, y6, y7, y8, y9, y10, rfl⟩, hA1, x1, as, ts, hF1, hT1, tI⟩
      rw [List.getElem?_map] at hx
      obtain ⟨z, hz, rfl⟩ := Option.map_eq_some_iff.mp hx
      have hzm := List.mem_of_getElem? hz
      have hnew : z ∉ nms.take i := fun hm => by
        obtain ⟨j, hj, ej⟩ := List.mem_iff_getElem.mp hm
        rw [List.length_take] at hj
        rw [List.getElem_take] at ej
        obtain ⟨hi2, ei⟩ := List.getElem?_eq_some_iff.mp hz
        have := (List.getElem_inj nd).mp (ej.trans ei.symm)
        omega
      refine ⟨lz, fun l1 hl1 => ⟨lz, fun l2 hl2 => ?_⟩⟩
      have s2 := same_new (o := .lst [V.str "tim", V.str "una", V.str "val"]) hl1
      have s3 := same_new (o := .lst [V.int 0, V.int 1, V.int 1, V.int 1, V.int 2, V.int 3]) hl2
      have e1 := s3 _ _ (upd_same (H := H1) (a := l1) (o := .lst [V.str "tim", V.str "una", V.str "val"]))
      have e2 : upd (upd H1 l1 (.lst [V.str "tim", V.str "una", V.str "val"])) l2 (.lst [V.int 0, V.int 1, V.int 1, V.int 1, V.int 2, V.int 3]) l2 = some (.lst ([0, 1, 1, 1, 2, 3].map V.int)) := upd_same
      have s13 := s2.trans s3
      have nl1 : l1 ≠ a := hA1.ne hl1
      have nl2 : l2 ≠ a := (hA1.same s2).ne hl2
      generalize upd (upd H1 l1 (.lst [V.str "tim", V.str "una", V.str "val"])) l2 (.lst [V.int 0, V.int 1, V.int 1, V.int 1, V.int 2, V.int 3]) = H3 at e1 e2 s13
      refine ⟨_, rfl, a, 6, rfl, hA1.same s13, by decide, by decide, fun r0 H4 r00 r01 hA4 x4 _ => ?_⟩
      obtain ⟨n, hnm, hni⟩ := atI_tab (ns := [0, 1, 1, 1, 2, 3]) r00 r01
      have hn3 : 0 ≤ n ∧ n ≤ 3 := by
        simp only [List.mem_cons, List.not_mem_nil, or_false] at hnm
        omega
      obtain ⟨m, rfl⟩ : ∃ m : Nat, n = (m : Int) := ⟨n.toNat, by omega⟩
      refine ⟨l2, _, r0, .int (m : Int), rfl, rfl, .inl (.inl (x4 _ _ nl2 e2)), hni, (m : Int), rfl, l1, _, rfl, .inl (.inl (x4 _ _ nl1 e1)), fun tl htl => ?_⟩
      rw [cut_to]
      have ntl : tl ≠ a := hA4.ne htl
      have x14 : SameX a H1 H4 := (sx s13).trans x4
      have hF4 := x14 _ _ nFa hF1
      have ntF : Fo ≠ tl := ne_of_none hF4 htl
      obtain ⟨tk, etk, tknd, tkwd, tkl, tksub⟩ : ∃ tk : List Str, ([V.str "tim", V.str "una", V.str "val"] : List V).take m = tk.map V.str ∧ tk.Nodup ∧ (∀ z ∈ tk, IsWd z) ∧ tk.length ≤ 3 ∧ ∀ z ∈ tk, z ∈ (["tim", "una", "val"] : List Str) := by
        refine ⟨(["tim", "una", "val"] : List Str).take m, by rw [List.map_take]; rfl, ?_, ?_, ?_, fun z hz => List.mem_of_mem_take hz⟩
        · exact List.Sublist.nodup (List.take_sublist _ _) (by decide +kernel)
        · intro z hz
          have h1 := List.mem_of_mem_take hz
          simp only [List.mem_cons, List.not_mem_nil, or_false] at h1
          rcases h1 with rfl | rfl | rfl <;> decide +kernel
        · rw [List.length_take]
          simp only [List.length_cons, List.length_nil]
          omega
      rw [etk]
      have s5 := same_new (o := .lst (tk.map V.str)) htl
      have ht5 : upd H4 tl (.lst (tk.map V.str)) tl = some (.lst (tk.map V.str)) := upd_same
      have hA5 := hA4.same s5
      have x15 : SameX a H1 (upd H4 tl (.lst (tk.map V.str))) := x14.trans (sx s5)
      generalize upd H4 tl (.lst (tk.map V.str)) = H5 at s5 ht5 hA5 x15
      have tupk : ∀ {H' : Hp}, SameX a H1 H' → TelsAt H' as ts := fun x => hT1.keep fun p xs e => by
        obtain ⟨w0, w1, w2, hw, _⟩ := hA1
        exact x _ _ (ne_of e hw (by intro z; cases z)) e
      refine ⟨tl, rfl, ⟨_, .inl (.inl ht5)⟩, for_list (K := K) (a := tl) (xs := tk.map V.str) (fun j σ H' => (∃ z6 z7 z8 z9 z10, σ = [some (.ref a), some (.ref Lb), some (.str topic), some (.ref Po), some (.ref Fo), some (.str z), z6, z7, z8, z9, z10]) ∧ PurseAt H' a ∧ SameX a H H' ∧ H' tl = some (.lst (tk.map V.str)) ∧ ∃ bs us, H' Fo = some (.lst ((as ++ bs).map V.ref)) ∧ TelsAt H' (as ++ bs) (ts ++ us) ∧ us.map (·.tl) = tk.take j ∧ ∀ u ∈ us, u.v = z ∧ u.th = topic ∧ OkT u)
        ⟨⟨_, _, _, _, _, rfl⟩, hA5, x1.trans x15, ht5, [], [], by rw [List.append_nil]; exact x15 _ _ nFa hF1, by rw [List.append_nil, List.append_nil]; exact tupk x15, rfl, fun u hu => by cases hu⟩ (fun j σ H' _ h => .inl (.inl h.2.2.2.1)) ?_ ?_⟩
      · rintro j y σ H6 hy ⟨⟨z6, z7, z8, z9, z10, rfl⟩, hA6, x6, ht6, bs, us, hF6, hT6, hu6, hus⟩
        rw [List.getElem?_map] at hy
        obtain ⟨te, hte, rfl⟩ := Option.map_eq_some_iff.mp hy
        have hj3 : j < 3 := by
          have := (List.getElem?_eq_some_iff.mp hte).1
          omega
        have hPo6 := x6 _ _ nPo hPo
        have wpos : 0 < ws.length := List.length_pos_iff.mpr wne
        refine ⟨_, rfl, _, rfl, _, rfl, Po, _, rfl, .inl (.inl (.inl hPo6)), a, _, rfl, hA6, by rw [List.length_map]; omega, by rw [List.length_map]; omega, fun r1 H7 r10 r11 hA7 x7 _ => ?_⟩
        rw [List.length_map] at r11
        obtain ⟨wo, hwm, hwi⟩ := atI_strs (zs := ws) r10 r11
        refine ⟨Po, _, r1, .str wo, rfl, rfl, .inl (.inl (x7 _ _ nPo hPo6)), hwi, _, rfl, a, 121, rfl, hA7, by decide, by decide, fun r2 H8 r20 r21 hA8 x8 _ => ⟨_, _, rfl, lz, fun l3 hl3 => ?_⟩⟩
        have n3 : l3 ≠ a := hA8.ne hl3
        have s9 := same_new (o := .lst [V.str "self", V.str "ann", V.str "bob"]) hl3
        have e9 : upd H8 l3 (.lst [V.str "self", V.str "ann", V.str "bob"]) l3 = some (.lst (([("self" : Str), "ann", "bob"] : List Str).map V.str)) := upd_same
        refine ⟨_, rfl, a, 3, rfl, hA8.same s9, by decide, by decide, fun r3 H9 r30 r31 hA9 x9 _ => ?_⟩
        obtain ⟨gw, hgm, hgi⟩ := atI_strs (zs := [("self" : Str), "ann", "bob"]) r30 r31
        have hgw : IsWd gw := by
          simp only [List.mem_cons, List.not_mem_nil, or_false] at hgm
          rcases hgm with rfl | rfl | rfl <;> decide +kernel
        refine ⟨l3, _, r3, .str gw, rfl, rfl, .inl (.inl (x9 _ _ n3 e9)), hgi, _, rfl, a, 5, rfl, hA9, by decide, by decide, fun r4 H10 r40 r41 hA10 x10 _ => ⟨_, _, rfl, rfl, _, _, rfl, ?_⟩⟩
        have x610 : SameX a H6 H10 := (((x7.trans x8).trans (sx s9)).trans x9).trans x10
        have hF10 := x610 _ _ nFa hF6
        obtain ⟨ag, eag⟩ : ∃ ag : Nat, r2 = (ag : Int) := ⟨r2.toNat, by omega⟩
        subst eag
        refine ⟨_, rfl, .inl ⟨rfl, _, .inl (.inl hF10)⟩, _, rfl, _, rfl, _, rfl, _, rfl, _, rfl, _, rfl, _, rfl, lz, fun tp htp => ?_⟩
        have s11 := same_new (o := .tup [V.str z, V.str topic, V.str wo, V.str te, V.int (ag : Int), V.str gw, V.bl (decide (0 < r4))]) htp
        have e11 : upd H10 tp (.tup [V.str z, V.str topic, V.str wo, V.str te, V.int (ag : Int), V.str gw, V.bl (decide (0 < r4))]) tp = some (.tup (telV ⟨z, topic, wo, te, ag, gw, decide (0 < r4)⟩)) := upd_same
        have hA11 := hA10.same s11
        have x611 : SameX a H6 (upd H10 tp (.tup [V.str z, V.str topic, V.str wo, V.str te, V.int (ag : Int), V.str gw, V.bl (decide (0 < r4))])) := x610.trans (sx s11)
        have hF11 := s11 _ _ hF10
        generalize upd H10 tp (.tup [V.str z, V.str topic, V.str wo, V.str te, V.int (ag : Int), V.str gw, V.bl (decide (0 < r4))]) = H11 at s11 e11 hA11 x611 hF11
        have hT11 : TelsAt H11 (as ++ bs) (ts ++ us) := hT6.keep fun p xs e => by
          obtain ⟨w0, w1, w2, hw, _⟩ := hA6
          exact x611 _ _ (ne_of e hw (by intro z; cases z)) e
        have lus : us.length = j := by
          have h1 := congrArg List.length hu6
          rw [List.length_map, List.length_take] at h1
          have := (List.getElem?_eq_some_iff.mp hte).1
          omega
        have lts := tI.len
        have ltk : (nms.take i).length ≤ 36 := Nat.le_trans (List.length_take_le' _ _) n36
        have lab : (as ++ bs).length = ts.length + us.length := by
          rw [hT6.length, List.length_append]
        refine ⟨Fo, _, _, rfl, rfl, hF11, ?_, ⟨_, _, _, _, _, rfl⟩, purse_upd hA11 nFa, sameX_mut (x6.trans x611) hFo, ?_, bs ++ [tp], us ++ [⟨z, topic, wo, te, ag, gw, decide (0 < r4)⟩], ?_, ?_, ?_, ?_⟩
        · rw [List.length_map, lab]
          exact small1000 (by omega)
        · rw [upd_ne ntF.symm]
          exact x611 _ _ ntl ht6
        · rw [upd_same, ← List.append_assoc, List.map_append (l₁ := as ++ bs)]
          rfl
        · rw [← List.append_assoc, ← List.append_assoc]
          exact Each.append (hT11.keep (tk_upd hF11)) (.cons ((tk_upd hF11) _ _ e11) .nil)
        · rw [List.map_append, hu6, take_snoc hte]
          rfl
        · intro u hu
          rcases List.mem_append.mp hu with hu | hu
          · exact hus u hu
          · rw [List.mem_singleton.mp hu]
            exact ⟨rfl, rfl, nwd z hzm, twd, wwd wo hwm, tkwd te (List.mem_of_getElem? hte), by show ag ≤ 120; omega, hgw⟩
      · rintro σ H6 ⟨⟨z6, z7, z8, z9, z10, rfl⟩, hA6, x6, ht6, bs, us, hF6, hT6, hu6, hus⟩
        rw [List.length_map, List.take_length] at hu6
        refine ⟨⟨_, _, _, _, _, _, rfl⟩, hA6, x6, as ++ bs, ts ++ us, hF6, hT6, ?_⟩
        rw [take_snoc hz]
        refine tI.more hnew hus (by rw [hu6]; exact tknd) ?_ (fun u hu => tksub _ (by rw [← hu6]; exact List.mem_map.mpr ⟨u, hu, rfl⟩))
        have := congrArg List.length hu6
        rw [List.length_map] at this
        omega
    · rintro σ H1 ⟨⟨y5, y6, y7, y8, y9, y10, rfl⟩, hA1, x1, as, ts, hF1, hT1, tI⟩
      rw [List.length_map, List.take_length] at tI
      exact ⟨_, rfl, q Fo as ts H1 hFo hF1 hT1 tI hA1 x1⟩
end
end Wl


namespace Wl
open PySem PySem.Spec PyProof.Rows L2
section
variable {P : Program} {w : World} {K : PySem.W.Frag} {mg : Str → Option Value} {base : Heap} {f C D W : Addr} {fd : FuncData}
def HasI (P : Program) (w : World) (K : PySem.W.Frag) (mg : Str → Option Value) (base : Heap) (C : Addr) : Prop :=
  ∃ f fd, Mk K C f ∧ FnOk P w K mg base CX0 4 f fd ["self", "rows"] (spInit C) ∧ Binds K fd ["self", "rows"] []
def HasG (P : Program) (w : World) (K : PySem.W.Frag) (mg : Str → Option Value) (base : Heap) (C D : Addr) : Prop :=
  ∃ f fd, Mk K D f ∧ FnOk P w K mg base CX0 1 f fd ["self", "land"] (spGInit C D) ∧ Binds K fd ["self", "land"] []
def HasP (P : Program) (w : World) (K : PySem.W.Frag) (mg : Str → Option Value) (base : Heap) (C D : Addr) : Prop := ∃ f fd, FnOk P w K mg base CX0 4 f fd psPut (spPut C D) ∧ Meth K D "put" f ∧ FunP K f fd
/-! ### a Gathering of what was told -/
def spTome (C D : Addr) : Sp := fun vs H Q _ => ∃ (L l : Addr) (g : Grid) (wd : Nat) (as : List Addr) (ts : List Tel), vs = [.ref L, .ref l] ∧ GridAt H L g ∧ Good g wd ∧ H l = some (.lst (as.map V.ref)) ∧ TelsAt H as ts ∧ (∀ t ∈ ts, OkT t) ∧ (∀ t ∈ ts, t.v ∈ names g) ∧ (ts.map keyS).Nodup ∧ ts.length ≤ 200 ∧
  ∀ (p : Addr) (r : GR) (H' : Hp), Same H H' → GatAt C D H' p r → r.ts = ts → r.g = g → r.ds.length = ts.length → H r.td = none → H r.dd = none → Q (.ref p) H'
abbrev nTome : List Str := ["_law_rows", "_law_told_here", "_law_tome_here", "_law_label", "_law_topic", "_law_term", "_law_teller", "_law_age", "_law_who", "_law_sure"]
theorem scTome : FnScope nTome ["_law_rows", "_law_told_here"] (defScope sTome) := ⟨rfl, rfl, rfl, by decide +kernel, rfl, by decide +kernel, by decide +kernel⟩
theorem ok_tome (F : Fun K "_law_tome" "_law_tome" sTome f fd) (T : Txt K mg C) (TG : TxtG K mg D) (hI : HasI P w K mg base C) (hGi : HasG P w K mg base C D) (hP : HasP P w K mg base C D) : FnOk P w K mg base CX0 6 f fd ["_law_rows", "_law_told_here"] (spTome C D) := by
  obtain ⟨fI, fdI, MI, GI, bI⟩ := hI
  obtain ⟨fG, fdG, MG, GG, bG⟩ := hGi
  obtain ⟨fp, fdp, FP, mP, fnP⟩ := hP
  have b8 := put_b8 fnP
  refine F.ok scTome (fun vs H Q E h => ?_) (fun cdv A outer s H vs Q E hr h => ?_)
  · obtain ⟨L, l, g, wd, as, ts, rfl, _⟩ := h
    rfl
  · obtain ⟨L, l, g, wd, as, ts, rfl, hGr, gd, hl, hT, hok, hv, hnd, h200, q⟩ := h
    refine ⟨_, pss_cons (ps_set (i := 2) scTome.nd rfl (.inl rfl) (pe_make MG GG (hr.mono (by decide)) rfl TG.mgD bG .nil pass0 (pa_cons (pe_make MI GI (hr.mono (by decide)) rfl T.mgC bI .nil pass0 (pa_cons (pv 0) pa_nil)) pa_nil)))
      (pss_cons (ps_for PassesOwn.never rfl (pi_list (pv 1)) (pg_tup rfl (pgs_cons (pg_name (i := 3) scTome.nd rfl (.inl rfl)) (pgs_cons (pg_name (i := 4) scTome.nd rfl (.inl rfl)) (pgs_cons (pg_name (i := 5) scTome.nd rfl (.inl rfl)) (pgs_cons (pg_name (i := 6) scTome.nd rfl (.inl rfl)) (pgs_cons (pg_name (i := 7) scTome.nd rfl (.inl rfl)) (pgs_cons (pg_name (i := 8) scTome.nd rfl (.inl rfl)) (pgs_cons (pg_name (i := 9) scTome.nd rfl (.inl rfl)) pgs_nil))))))))
        (pss_one (ps_expr (pe_meth (pv 2) TG.cl mP FP (hr.mono (by decide)) b8 .nil pass0 (pa_cons (pv 3) (pa_cons (pv 4) (pa_cons (pv 5) (pa_cons (pv 6) (pa_cons (pv 7) (pa_cons (pv 8) (pa_cons (pv 9) pa_nil)))))))))))
      (pss_one (ps_ret (pv 2)))), ?_⟩
    refine ⟨_, rfl, fun pl dl npl ndl nel => ?_⟩
    have kp1 : TupKeep H (upd (upd H dl (.own pl)) pl (.ins C dl [])) := fun b xs h => by
      rw [upd_ne (ne_of_none h npl), upd_ne (ne_of_none h ndl)]
      exact h
    refine ⟨pl, dl, L, g, wd, rfl, upd_same, hGr.keep kp1, gd, fun H1 k1 hLa1 => ⟨rfl, ?_⟩⟩
    have s1 := made_same npl ndl k1
    intro p dp np ndp nep
    have s2 : Same H1 (upd (upd H1 dp (.own p)) p (.ins D dp [])) := fun b o e => by
      rw [upd_ne (ne_of_none e np), upd_ne (ne_of_none e ndp)]
      exact e
    have npp : p ≠ pl := fun e => by
      obtain ⟨_, _, h1⟩ := hLa1.ins
      rw [← e, np] at h1
      cases h1
    refine ⟨p, dp, pl, L, g, rfl, upd_same, hLa1.same s2, npp, fun td dd H2 htd hdd k2 hG2 => ⟨rfl, ?_⟩⟩
    have s12 : Same H1 H2 := fun b o e => k2 b o (ne_of_none e np) (s2 b o e)
    have s02 := s1.trans s12
    have htd0 : H td = none := s1.free (s2.free htd)
    have hdd0 : H dd = none := s1.free (s2.free hdd)
    have hlen := hT.length
    refine ⟨_, rfl, l, rfl, ⟨_, .inl (.inl (s02 _ _ hl))⟩, for_list (K := K) (a := l) (xs := as.map V.ref) (fun i σ H' => (∃ y3 y4 y5 y6 y7 y8 y9, σ = [some (.ref L), some (.ref l), some (.ref p), y3, y4, y5, y6, y7, y8, y9]) ∧ Same H H' ∧ ∃ r : GR, GatAt C D H' p r ∧ r.ts = ts.take i ∧ r.g = g ∧ r.ds.length = i ∧ r.td = td ∧ r.dd = dd)
      ⟨⟨_, _, _, _, _, _, _, rfl⟩, s02, ⟨pl, L, td, dd, g, [], [], []⟩, hG2, rfl, rfl, rfl, rfl, rfl⟩ (fun i σ H' _ h => .inl (.inl (h.2.1 _ _ hl))) ?_ ?_⟩
    · rintro i x σ H3 hx ⟨⟨y3, y4, y5, y6, y7, y8, y9, rfl⟩, s3, r, hG3, ets, eg, eds, etd, edd⟩
      rw [List.getElem?_map] at hx
      obtain ⟨pt, hpt, rfl⟩ := Option.map_eq_some_iff.mp hx
      obtain ⟨t, ht, hH⟩ := Each.get hT hpt
      have htm := List.mem_of_getElem? ht
      have hi : i < ts.length := (List.getElem?_eq_some_iff.mp ht).1
      obtain ⟨dx, hp3⟩ := hG3.at_
      refine ⟨pt, _, rfl, .inl (.inl (s3 _ _ hH)), rfl, _, _, rfl, _, _, rfl, _, _, rfl, _, _, rfl, _, _, rfl, _, _, rfl, _, _, rfl, rfl, ?_⟩
      refine ⟨_, rfl, p, dx, _, rfl, hp3, gf_no _ _ _, _, rfl, _, rfl, _, rfl, _, rfl, _, rfl, _, rfl, _, rfl, p, r, wd, t, rfl, hG3, by rw [eg]; exact gd, fun u hu => hok u (List.mem_of_mem_take (ets ▸ hu)), hok t htm, by rw [eg]; exact hv t htm, ?_, ?_, by omega, fun qa H4 hqa m4 hG4 => ?_⟩
      · rw [ets]
        intro hm
        obtain ⟨u, hu, e⟩ := List.mem_map.mp hm
        obtain ⟨j, hj, ej⟩ := List.mem_iff_getElem.mp hu
        rw [List.length_take] at hj
        rw [List.getElem_take] at ej
        obtain ⟨hi2, ei⟩ := List.getElem?_eq_some_iff.mp ht
        have e3 : (ts.map keyS)[j]'(by rw [List.length_map]; omega) = (ts.map keyS)[i]'(by rw [List.length_map]; omega) := by
          rw [List.getElem_map, List.getElem_map, ej, ei, e]
        have := (List.getElem_inj hnd).mp e3
        omega
      · rw [ets, List.length_take]
        omega
      · refine ⟨⟨_, _, _, _, _, _, _, rfl⟩, fun b o e => ?_, r.add qa t, hG4, ?_, eg, ?_, etd, edd⟩
        · refine m4 b o ?_ ?_ (s3 _ _ e)
          · rw [etd]
            exact ne_of_none e htd0
          · rw [edd]
            exact ne_of_none e hdd0
        · show r.ts ++ [t] = _
          rw [ets, take_snoc ht]
        · show (r.ds ++ [V.non]).length = _
          rw [List.length_append, eds]
          rfl
    · rintro σ H3 ⟨⟨y3, y4, y5, y6, y7, y8, y9, rfl⟩, s3, r, hG3, ets, eg, eds, etd, edd⟩
      rw [List.length_map, hlen] at ets eds
      rw [List.take_length] at ets
      exact ⟨_, rfl, q p r H3 s3 hG3 ets eg eds (by rw [etd]; exact htd0) (by rw [edd]; exact hdd0)⟩
end
/-! ### what a map is due to show -/
def condT (topic : Str) (lo hi : Nat) (t : Tel) : Bool := (decide (t.th = topic) && (decide (lo ≤ t.age) && decide (t.age ≤ hi))) && t.sure
def selT (topic : Str) (lo hi : Nat) (ts : List Tel) (y : Str) : List Tel := ((shownOf ts topic lo hi).filter fun t => t.sure).filter fun t => decide (t.v = y)
theorem selT_snoc (topic : Str) (lo hi : Nat) (ts : List Tel) (t : Tel) (y : Str) : selT topic lo hi (ts ++ [t]) y = selT topic lo hi ts y ++ (if (condT topic lo hi t && decide (t.v = y)) = true then [t] else []) := by
  unfold selT shownOf condT
  rw [List.filter_append, List.filter_append, List.filter_append]
  congr 1
  cases h1 : decide (t.th = topic) <;> cases h2 : decide (lo ≤ t.age) <;> cases h3 : decide (t.age ≤ hi) <;> cases h4 : t.sure <;> cases h5 : decide (t.v = y) <;> simp [h1, h2, h3, h4, h5] at * <;> simp [*]
noncomputable def shL (chs : List Chg) (topic : Str) (lo hi : Nat) (ts : List Tel) (y : Str) : List Str := keysOf ((selT topic lo hi ts y).map fun t => mean chs t.wo)
theorem said_shL (chs : List Chg) (ts : List Tel) (z : Str) (lo hi : Nat) (y : Str) : saidOf chs ts z lo hi y = sortS (shL chs z lo hi ts y) := rfl
theorem shL_len (chs : List Chg) (topic : Str) (lo hi : Nat) (ts : List Tel) (y : Str) : (shL chs topic lo hi ts y).length ≤ ts.length := by
  unfold shL
  refine Nat.le_trans (keysOf_len _) ?_
  rw [List.length_map]
  unfold selT shownOf
  exact Nat.le_trans (List.length_filter_le _ _) (Nat.le_trans (List.length_filter_le _ _) (List.length_filter_le _ _))
theorem shL_snoc (chs : List Chg) (topic : Str) (lo hi : Nat) (ts : List Tel) (t : Tel) (y : Str) : shL chs topic lo hi (ts ++ [t]) y = if (condT topic lo hi t && decide (t.v = y)) = true then addK (shL chs topic lo hi ts y) (mean chs t.wo) else shL chs topic lo hi ts y := by
  unfold shL
  rw [selT_snoc]
  split
  · rw [List.map_append]
    exact keysOf_snoc _ _
  · rw [List.append_nil]
structure ShI (H0 H : Hp) (d : Addr) (nms : List Str) (ad : Str → Addr) (sh : Str → List Str) : Prop where
  dict : H d = some (.dK (kvZ (fun z => .ref (ad z)) nms))
  lst : ∀ z ∈ nms, H (ad z) = some (.lst ((sh z).map V.str))
  inj : ∀ z ∈ nms, ∀ y ∈ nms, ad z = ad y → z = y
  new : ∀ z ∈ nms, H0 (ad z) = none
theorem ShI.same {H0 H H' : Hp} {d : Addr} {nms : List Str} {ad : Str → Addr} {sh : Str → List Str} (h : ShI H0 H d nms ad sh) (s : Same H H') : ShI H0 H' d nms ad sh := ⟨s _ _ h.dict, fun z hz => s _ _ (h.lst z hz), h.inj, h.new⟩
def ShAt (H : Hp) (d : Addr) (nms : List Str) (sh : Str → List Str) : Prop := ∃ ad : Str → Addr, H d = some (.dK (kvZ (fun z => .ref (ad z)) nms)) ∧ ∀ z ∈ nms, H (ad z) = some (.lst ((sh z).map V.str))
section
variable {P : Program} {w : World} {K : PySem.W.Frag} {mg : Str → Option Value} {base : Heap} {f C D W : Addr} {fd : FuncData}
def spShown : Sp := fun vs H Q _ => ∃ (Lb l S ta : Addr) (topic : Str) (nms : List Str) (as : List Addr) (ts : List Tel) (chs : List Chg) (lo hi : Nat), vs = [.ref Lb, .ref l, .str topic, .ref S, .ref ta] ∧ H Lb = some (.lst (nms.map V.str)) ∧ nms.Nodup ∧ nms.length ≤ 36 ∧ H l = some (.lst (as.map V.ref)) ∧ TelsAt H as ts ∧ (∀ t ∈ ts, OkT t) ∧ (∀ t ∈ ts, t.v ∈ nms) ∧ ts.length ≤ 200 ∧ ChAt H S chs ∧ OkCs chs ∧ H ta = some (.tup [.int (lo : Int), .int (hi : Int)]) ∧
  ∀ (d : Addr) (ad : Str → Addr) (H' : Hp), H d = none → Same H H' → ShI H H' d nms ad (shL chs topic lo hi ts) → Q (.ref d) H'
abbrev nShown : List Str := ["_law_labels", "_law_told_here", "_law_topic", "_law_shifts", "_law_ages", "_law_found", "_law_label", "_law_own", "_law_term", "_law_teller", "_law_age", "_law_who", "_law_sure", "_law_meant"]
theorem scShown : FnScope nShown ["_law_labels", "_law_told_here", "_law_topic", "_law_shifts", "_law_ages"] (defScope sShown) := ⟨rfl, rfl, rfl, by decide +kernel, rfl, by decide +kernel, by decide +kernel⟩
theorem ok_shown (F : Fun K "_law_shown" "_law_shown" sShown f fd) (hLM : Has P w K mg base "_law_meaning" 2 ["_law_shifts", "_law_term"] spLMean) : FnOk P w K mg base CX0 3 f fd ["_law_labels", "_law_told_here", "_law_topic", "_law_shifts", "_law_ages"] spShown := by
  refine F.ok scShown (fun vs H Q E h => ?_) (fun cdv A outer s H vs Q E hr h => ?_)
  · obtain ⟨Lb, l, S, ta, topic, nms, as, ts, chs, lo, hi, rfl, _⟩ := h
    rfl
  · obtain ⟨Lb, l, S, ta, topic, nms, as, ts, chs, lo, hi, rfl, hLb, nd, n36, hl, hT, hok, hv, h200, hS, okc, hta, q⟩ := h
    have hu := hu_of hr
    refine ⟨_, pss_cons (ps_set (i := 5) scShown.nd rfl (.inl rfl) pe_dnewK)
      (pss_cons (ps_for PassesOwn.never rfl (pi_list (pv 0)) (pg_name (i := 6) scShown.nd rfl (.inl rfl)) (pss_one (ps_dput hu (pv 5) (pv 6) (pe_lst pa_nil) rfl)))
      (pss_cons (ps_for PassesOwn.never rfl (pi_list (pv 1)) (pg_tup rfl (pgs_cons (pg_name (i := 6) scShown.nd rfl (.inl rfl)) (pgs_cons (pg_name (i := 7) scShown.nd rfl (.inl rfl)) (pgs_cons (pg_name (i := 8) scShown.nd rfl (.inl rfl)) (pgs_cons (pg_name (i := 9) scShown.nd rfl (.inl rfl)) (pgs_cons (pg_name (i := 10) scShown.nd rfl (.inl rfl)) (pgs_cons (pg_name (i := 11) scShown.nd rfl (.inl rfl)) (pgs_cons (pg_name (i := 12) scShown.nd rfl (.inl rfl)) pgs_nil))))))))
        (pss_one (ps_if (PW.pt (pw_and (pt_cmpR op_eq (pv 7) (pv 2) (nomark _)) (pw_and (pt_val (pv 12)) (pw_and1 (pt_chain op_le op_le (pe_ix ix_tup (pv 4) pe_int (fun _ _ => rfl)) (pv 10) (pe_ix ix_tup (pv 4) pe_int (fun _ _ => rfl)))))))
          (pss_cons (ps_set (i := 13) scShown.nd rfl (.inl rfl) (pe_h hLM hr (pa_cons (pv 3) (pa_cons (pv 8) pa_nil))))
          (pss_one (ps_if (pt_cmpR op_notIn_seq (pv 13) (pe_dget hu (pv 5) (pv 6) (fun _ _ => rfl)) (by rfl)) (pss_one (ps_expr (pe_bm PySem.F.plainAttrs_list PySem.F.slot_list_append PySem.F.type_list_append mt_append (pe_dget hu (pv 5) (pv 6) (fun _ _ => rfl)) (pa_cons (pv 13) pa_nil)))) pss_nil))) pss_nil)))
      (pss_one (ps_ret (pv 5))))), ?_⟩
    intro d hd
    have s0 : Same H (upd H d (.dK [])) := same_new hd
    refine ⟨_, rfl, Lb, rfl, ⟨_, .inl (.inl (s0 _ _ hLb))⟩, for_list (K := K) (a := Lb) (xs := nms.map V.str) (fun i σ H' => (∃ y6 y7 y8 y9 y10 y11 y12 y13, σ = [some (.ref Lb), some (.ref l), some (.str topic), some (.ref S), some (.ref ta), some (.ref d), y6, y7, y8, y9, y10, y11, y12, y13]) ∧ Same H H' ∧ ∃ ad, ShI H H' d (nms.take i) ad (fun _ => []))
      ⟨⟨_, _, _, _, _, _, _, _, rfl⟩, s0, fun _ => 0, upd_same, fun z hz => (by simp at hz), fun z hz => (by simp at hz), fun z hz => (by simp at hz)⟩ (fun i σ H' _ h => .inl (.inl (h.2.1 _ _ hLb))) ?_ ?_⟩
    · rintro i x σ H1 hx ⟨⟨y6, y7, y8, y9, y10, y11, y12, y13, rfl⟩, s1, ad, I1⟩
      rw [List.getElem?_map] at hx
      obtain ⟨z, hz, rfl⟩ := Option.map_eq_some_iff.mp hx
      have hm : z ∉ nms.take i := fun hm => by
        obtain ⟨j, hj, ej⟩ := List.mem_iff_getElem.mp hm
        rw [List.length_take] at hj
        rw [List.getElem_take] at ej
        obtain ⟨hi2, ei⟩ := List.getElem?_eq_some_iff.mp hz
        have := (List.getElem_inj nd).mp (ej.trans ei.symm)
        omega
      refine ⟨lz, fun Lz hL => ⟨_, rfl, _, rfl, d, _, rfl, DPut.k (k := Sum.inr z) ((same_new hL) _ _ I1.dict) ?_, ?_⟩⟩
      · rw [kvZ_len, List.length_take]
        exact small1000 (by omega)
      have hv' : valV (kvZ (fun z => V.ref (ad z)) (nms.take i)) (Sum.inr z : Key) = none := valV_out hm
      have nLd : d ≠ Lz := ne_of_none I1.dict hL
      have s3 : Same H1 (upd H1 Lz (.lst [])) := same_new hL
      have I3 := I1.same s3
      have hL3 : upd H1 Lz (.lst []) Lz = some (.lst []) := upd_same
      have hL0 : H Lz = none := s1.free hL
      have nL : ∀ y ∈ nms.take i, ad y ≠ Lz := fun y hy e => by
        have h1 := I1.lst y hy
        rw [e, hL] at h1
        cases h1
      generalize upd H1 Lz (.lst []) = H3 at s3 I3 hL3
      rw [putK_new _ hv']
      refine ⟨⟨_, _, _, _, _, _, _, _, rfl⟩, same_mut (s1.trans s3) hd, fun y => if y = z then Lz else ad y, ?_, fun y hy => ?_, fun y hy x hx e => ?_, fun y hy => ?_⟩
      · rw [upd_same, take_snoc hz]
        unfold kvZ
        rw [List.map_append]
        congr 2
        congr 1
        · refine List.map_congr_left fun u hu3 => ?_
          have : u ≠ z := fun e => hm (e ▸ hu3)
          simp only [if_neg this]
        · simp
      · by_cases c : y = z
        · simp only [if_pos c]
          rw [upd_ne nLd.symm]
          exact hL3
        · have hy' : y ∈ nms.take i := by
            rw [take_snoc hz] at hy
            rcases List.mem_append.mp hy with h | h
            · exact h
            · exact absurd (List.mem_singleton.mp h) c
          simp only [if_neg c]
          have h1 := I3.lst y hy'
          rw [upd_ne (ne_of h1 I3.dict (by intro q; cases q))]
          exact h1
      · have mm : ∀ u ∈ nms.take (i + 1), u ≠ z → u ∈ nms.take i := fun u hu c => by
          rw [take_snoc hz] at hu
          rcases List.mem_append.mp hu with h | h
          · exact h
          · exact absurd (List.mem_singleton.mp h) c
        by_cases c1 : y = z
        · by_cases c2 : x = z
          · rw [c1, c2]
          · simp only [if_pos c1, if_neg c2] at e
            exact absurd e.symm (nL x (mm x hx c2))
        · by_cases c2 : x = z
          · simp only [if_neg c1, if_pos c2] at e
            exact absurd e (nL y (mm y hy c1))
          · simp only [if_neg c1, if_neg c2] at e
            exact I1.inj y (mm y hy c1) x (mm x hx c2) e
      · by_cases c : y = z
        · simp only [if_pos c]
          exact hL0
        · have hy' : y ∈ nms.take i := by
            rw [take_snoc hz] at hy
            rcases List.mem_append.mp hy with h | h
            · exact h
            · exact absurd (List.mem_singleton.mp h) c
          simp only [if_neg c]
          exact I1.new y hy'
    rintro σ H1 ⟨⟨y6, y7, y8, y9, y10, y11, y12, y13, rfl⟩, s1, ad, I1⟩
    rw [List.length_map, List.take_length] at I1
    have hlen := hT.length
    refine ⟨_, rfl, l, rfl, ⟨_, .inl (.inl (s1 _ _ hl))⟩, for_list (K := K) (a := l) (xs := as.map V.ref) (fun i σ H' => (∃ y6 y7 y8 y9 y10 y11 y12 y13, σ = [some (.ref Lb), some (.ref l), some (.str topic), some (.ref S), some (.ref ta), some (.ref d), y6, y7, y8, y9, y10, y11, y12, y13]) ∧ Same H H' ∧ ShI H H' d nms ad (shL chs topic lo hi (ts.take i)))
      ⟨⟨_, _, _, _, _, _, _, _, rfl⟩, s1, I1⟩ (fun i σ H' _ h => .inl (.inl (h.2.1 _ _ hl))) ?_ ?_⟩
    · rintro i x σ H2 hx ⟨⟨z6, z7, z8, z9, z10, z11, z12, z13, rfl⟩, s2, I2⟩
      rw [List.getElem?_map] at hx
      obtain ⟨pt, hpt, rfl⟩ := Option.map_eq_some_iff.mp hx
      obtain ⟨t, ht, hH⟩ := Each.get hT hpt
      have htm := List.mem_of_getElem? ht
      have okt := hok t htm
      have hi200 : i < 200 := by
        have := (List.getElem?_eq_some_iff.mp ht).1
        omega
      have sn : ∀ y, shL chs topic lo hi (ts.take (i + 1)) y = if (condT topic lo hi t && decide (t.v = y)) = true then addK (shL chs topic lo hi (ts.take i) y) (mean chs t.wo) else shL chs topic lo hi (ts.take i) y := fun y => by
        rw [take_snoc ht]
        exact shL_snoc _ _ _ _ _ _ _
      have skip : condT topic lo hi t = false → shL chs topic lo hi (ts.take (i + 1)) = shL chs topic lo hi (ts.take i) := fun e => funext fun y => by
        rw [sn y, e, Bool.false_and, if_neg (by decide)]
      have lsh := fun y => shL_len chs topic lo hi (ts.take i) y
      have ltk : (ts.take i).length ≤ 200 := Nat.le_trans (List.length_take_le' _ _) h200
      refine ⟨pt, _, rfl, .inl (.inl (s2 _ _ hH)), rfl, _, _, rfl, _, _, rfl, _, _, rfl, _, _, rfl, _, _, rfl, _, _, rfl, _, _, rfl, rfl, ?_⟩
      refine ⟨_, rfl, _, rfl, rfl, _, rfl, ?_⟩
      rw [str_dec]
      refine ite_b (fun e1 => ?_) (fun e1 => ?_)
      · refine ⟨_, rfl, t.sure, rfl, ite_b (fun e2 => ?_) (fun e2 => ?_)⟩
        · have hta2 := s2 _ _ hta
          refine ⟨_, rfl, ta, _, _, _, rfl, rfl, .inl (.inl hta2), atI_nat (j := 0) rfl, _, rfl, _, _, rfl, rfl, _, rfl, ite_b (fun e3 => ?_) (fun e3 => ?_)⟩
          · refine ⟨_, rfl, ta, _, _, _, rfl, rfl, .inl (.inl hta2), atI_nat (j := 1) rfl, _, _, rfl, rfl, _, rfl, ite_b (fun e4 => ?_) (fun e4 => ?_)⟩
            · have hc : condT topic lo hi t = true := by
                unfold condT
                rw [e1, e2, decide_eq_true (show lo ≤ t.age by have := of_decide_eq_true e3; omega), decide_eq_true (show t.age ≤ hi by have := of_decide_eq_true e4; omega)]
                rfl
              refine ⟨_, rfl, _, rfl, S, chs, t.wo, rfl, hS.same s2, okc, okt.wo, fun H3 s3 => ?_⟩
              have I3 := I2.same s3
              have hvm := hv t htm
              have hdv : DGet H3 d (.str t.v) (some (.ref (ad t.v))) := by
                have := DGet.k (k := Sum.inr t.v) I3.dict
                rw [valV_in hvm] at this
                exact this
              have hlv := I3.lst t.v hvm
              refine ⟨_, rfl, _, rfl, _, rfl, d, _, rfl, hdv, ad t.v, _, rfl, .inl (.inl (.inl hlv)), rfl, flat_strs _, _, rfl, ?_⟩
              rw [if_pos rfl, inV_strs]
              by_cases cm : mean chs t.wo ∈ shL chs topic lo hi (ts.take i) t.v
              · rw [decide_eq_true cm]
                refine iteF ⟨⟨_, _, _, _, _, _, _, _, rfl⟩, s2.trans s3, ?_⟩
                have e : shL chs topic lo hi (ts.take (i + 1)) = shL chs topic lo hi (ts.take i) := funext fun y => by
                  rw [sn y]
                  split
                  · rename_i h
                    rw [hc, Bool.true_and] at h
                    have := of_decide_eq_true h
                    subst this
                    exact if_pos cm
                  · rfl
                rw [e]
                exact I3
              · rw [decide_eq_false cm]
                refine iteT ?_
                refine ⟨_, rfl, _, rfl, d, _, rfl, hdv, .inl ⟨rfl, _, .inl (.inl hlv)⟩, _, rfl, ad t.v, _, _, rfl, rfl, hlv, ?_, ⟨_, _, _, _, _, _, _, _, rfl⟩, same_mut (s2.trans s3) (I3.new t.v hvm), ?_, fun y hy => ?_, I3.inj, I3.new⟩
                · rw [List.length_map]
                  exact small1000 (by have := lsh t.v; omega)
                · rw [upd_ne (ne_of I3.dict hlv (by intro q; cases q))]
                  exact I3.dict
                · rw [sn y, hc, Bool.true_and]
                  by_cases cy : t.v = y
                  · subst cy
                    rw [if_pos (decide_eq_true rfl), upd_same]
                    unfold addK
                    rw [if_neg cm, List.map_append]
                    rfl
                  · rw [if_neg (by rw [decide_eq_false cy]; decide), upd_ne fun e => cy (I3.inj y hy t.v hvm e).symm]
                    exact I3.lst y hy
            · refine ⟨⟨_, _, _, _, _, _, _, _, rfl⟩, s2, ?_⟩
              rw [skip (by unfold condT; rw [decide_eq_false (show ¬ t.age ≤ hi by have := of_decide_eq_false e4; omega)]; simp)]
              exact I2
          · refine ⟨false, rfl, iteF ⟨⟨_, _, _, _, _, _, _, _, rfl⟩, s2, ?_⟩⟩
            rw [skip (by unfold condT; rw [decide_eq_false (show ¬ lo ≤ t.age by have := of_decide_eq_false e3; omega)]; simp)]
            exact I2
        · refine iteF ⟨⟨_, _, _, _, _, _, _, _, rfl⟩, s2, ?_⟩
          rw [skip (by unfold condT; rw [e2]; simp)]
          exact I2
      · refine iteF ⟨⟨_, _, _, _, _, _, _, _, rfl⟩, s2, ?_⟩
        rw [skip (by unfold condT; rw [e1]; simp)]
        exact I2
    · rintro σ H2 ⟨⟨z6, z7, z8, z9, z10, z11, z12, z13, rfl⟩, s2, I2⟩
      rw [List.length_map, hlen, List.take_length] at I2
      exact ⟨_, rfl, q d ad H2 hd s2 I2⟩
end
end Wl


namespace Wl
open PySem PySem.Spec PyProof.Rows L2
/-! the ways to make a map -/
theorem ne_nil_data (ws : List Str) : (!PyData.eqv (.list (ws.map PyData.str)) (.list [])) = !ws.isEmpty := by
  cases ws with
  | nil => simp [PyData.eqv, PyData.eqvAll]
  | cons z r => simp [PyData.eqv, PyData.eqvAll]
theorem sortS_empty (l : List Str) : (sortS l).isEmpty = l.isEmpty := by
  have h := sortS_len l
  cases e : sortS l with
  | nil =>
    rw [e] at h
    cases l with
    | nil => rfl
    | cons a r => simp at h
  | cons b r =>
    rw [e] at h
    cases l with
    | nil => simp at h
    | cons a r => rfl
section
variable {P : Program} {w : World} {K : PySem.W.Frag} {mg : Str → Option Value} {base : Heap} {f C D W : Addr} {fd : FuncData}
theorem mi_b4 (F : FunI K f fd) : ∃ ds, Vals [V.int 0, V.int 120] ds ∧ Binds K fd psMI ds :=
  F.binds1 (ps := psMI) 4 1 (by simp) rfl (fun T kV doc pm an cdv ct us its l1 l2 => by
      match us, its, l1, l2 with
      | [_, _, _, _], [_, _, _], _, _ => exact ⟨_, rfl, rfl⟩)
theorem mi_b6 (F : FunI K f fd) : Binds K fd psMI [] := by
  obtain ⟨ds, h1, h2⟩ := F.binds1 (ps := psMI) 6 3 (by simp) rfl (fun T kV doc pm an cdv ct us its l1 l2 => by
      match us, its, l1, l2 with
      | [_, _, _, _, _, _], [_, _, _], _, _ => exact ⟨_, rfl, rfl⟩)
  cases h1
  exact h2
def HasW (P : Program) (w : World) (K : PySem.W.Frag) (mg : Str → Option Value) (base : Heap) (C D W : Addr) : Prop := ∃ f fd, Mk K W f ∧ FnOk P w K mg base CX0 8 f fd psMI (spMI C D W) ∧ FunI K f fd
/-! ### a map -/
end
end Wl


namespace Wl
open PySem PySem.Spec PyProof.Rows L2
def g01 {α : Type} : List α → List α → List α
  | [], [b] => [b]
  | _, _ => []
theorem g01_rel : ∀ {vs : List V} {us : List Value} {zs : List V} {ws : List Value}, Vals vs us → Vals zs ws → Vals (g01 vs zs) (g01 us ws)
  | _, _, _, _, .cons _ _, _ => .nil
  | _, _, _, _, .nil, .nil => .nil
  | _, _, _, _, .nil, .cons a .nil => .cons a .nil
  | _, _, _, _, .nil, .cons a (.cons b c) => .nil
/-- two by name, the second of them first -/
def gSw {α : Type} : List α → List α → List α
  | [], [b, c] => [c, b]
  | _, _ => []
theorem gSw_rel : ∀ {vs : List V} {us : List Value} {zs : List V} {ws : List Value}, Vals vs us → Vals zs ws → Vals (gSw vs zs) (gSw us ws)
  | _, _, _, _, .cons _ _, _ => .nil
  | _, _, _, _, .nil, .nil => .nil
  | _, _, _, _, .nil, .cons a .nil => .nil
  | _, _, _, _, .nil, .cons a (.cons b .nil) => .cons b (.cons a .nil)
  | _, _, _, _, .nil, .cons a (.cons b (.cons c d)) => .nil
def HasKG (P : Program) (w : World) (K : PySem.W.Frag) (mg : Str → Option Value) (base : Heap) (x : Str) (k : Nat) (ps ks : List Str) (sp : Sp) (g : List Value → List Value → List Value) (gV : List V → List V → List V) : Prop :=
  ∃ f fd, FnOk P w K mg base CX0 k f fd ps sp ∧ mg x = some (.ref f) ∧ PySem.W.keepIn K (.ref f) = true ∧ Binds K fd ps [] ∧ KBn K fd ps 0 ks g gV
theorem HasKG.pos {P : Program} {w : World} {K : PySem.W.Frag} {mg : Str → Option Value} {base : Heap} {x : Str} {k : Nat} {ps ks : List Str} {sp : Sp} {g : List Value → List Value → List Value} {gV : List V → List V → List V} (h : HasKG P w K mg base x k ps ks sp g gV) : Has P w K mg base x k ps sp := by
  obtain ⟨f, fd, a, b, c, d, _⟩ := h
  exact ⟨f, fd, a, b, c, d⟩
theorem and_reads {ta tb : TE} {σ : L2.St} {H : Hp} {Q : VK} (ha : ∀ Q' : VK, (∀ b, Q' (.bl b) H) → ta σ H Q') (hb : ∀ Q' : VK, (∀ b, Q' (.bl b) H) → tb σ H Q') (q : ∀ b, Q (.bl b) H) : tAndV ta tb σ H Q := by
  refine ha _ fun b => ⟨b, rfl, ?_⟩
  split
  · exact hb _ q
  · exact q false
theorem keysOf_sub (l : List Str) : ∀ z ∈ keysOf l, z ∈ l := fun z hz => mem_keysOf.mp hz
theorem shL_wd {chs : List Chg} (okc : OkCs chs) {ts : List Tel} (h : ∀ t ∈ ts, OkT t) (z : Str) (lo hi : Nat) (y : Str) : ∀ u ∈ shL chs z lo hi ts y, IsWd u := fun u hu => by
  have hu := keysOf_sub _ _ hu
  obtain ⟨t, ht, rfl⟩ := List.mem_map.mp hu
  have ht2 : t ∈ ts := by
    unfold selT shownOf at ht
    exact (List.mem_filter.mp (List.mem_filter.mp (List.mem_filter.mp ht).1).1).1
  exact mean_wd okc.2 (h t ht2).wo
section
variable {P : Program} {w : World} {K : PySem.W.Frag} {mg : Str → Option Value} {base : Heap} {f C D W : Addr} {fd : FuncData}
end
end Wl


/-! the places of names, as the law has them -/
namespace Wl
open PySem PySem.Spec PyProof.Rows L2
abbrev sLSpots : Stmt := topS 80
abbrev sDrawn : Stmt := topS 85
abbrev sInside : Stmt := topS 86
abbrev sLEdges : Stmt := topS 87
abbrev sLSteps : Stmt := topS 88
abbrev sLane : Stmt := topS 89
abbrev sTurns : Stmt := topS 90
abbrev sRight : Stmt := topS 91
section
variable {P : Program} {w : World} {K : PySem.W.Frag} {mg : Str → Option Value} {base : Heap} {f C D W : Addr} {fd : FuncData}
def spLSpots : Sp := fun vs H Q _ => ∃ (L : Addr) (g : Grid) (wd : Nat), vs = [.ref L] ∧ GridAt H L g ∧ Good g wd ∧ ∀ (d : Addr) (H' : Hp), H d = none → Same H H' → SpotsAt H' d (spG 0 g) → Q (.ref d) H'
abbrev nLSpots : List Str := ["_law_rows", "_law_found", "_law_row", "_law_column"]
theorem scLSpots : FnScope nLSpots ["_law_rows"] (defScope sLSpots) := ⟨rfl, rfl, rfl, by decide +kernel, rfl, by decide +kernel, by decide +kernel⟩
theorem ok_lspots (F : Fun K "_law_spots" "_law_spots" sLSpots f fd) (B : Bi mg) : FnOk P w K mg base CX0 1 f fd ["_law_rows"] spLSpots := by
  refine F.ok scLSpots (fun vs H Q E h => ?_) (fun cdv A outer s H vs Q E hr h => ?_)
  · obtain ⟨L, g, wd, rfl, _⟩ := h
    rfl
  · obtain ⟨L, g, wd, rfl, hL, gd, q⟩ := h
    have hu := hu_of hr
    refine ⟨_, pss_cons (ps_set (i := 1) scLSpots.nd rfl (.inl rfl) pe_dnewK)
      (pss_cons (ps_for PassesOwn.never rfl (pi_range1 rfl B.range (pa_cons (pe_callB call_len_seq (by rfl) B.len PySem.boot_len (pa_cons (pv 0) pa_nil)) pa_nil)) (pg_name (i := 2) scLSpots.nd rfl (.inl rfl))
        (pss_one (ps_for PassesOwn.never rfl (pi_range1 rfl B.range (pa_cons (pe_callB call_len_seq (by rfl) B.len PySem.boot_len (pa_cons (pe_ix ix_tup (pv 0) (pv 2) (fun _ _ => rfl)) pa_nil)) pa_nil)) (pg_name (i := 3) scLSpots.nd rfl (.inl rfl))
          (pss_one (ps_if (pt_cmp (pc_notN (pe_ix ix_tup (pe_ix ix_tup (pv 0) (pv 2) (fun _ _ => rfl)) (pv 3) (fun _ _ => rfl)))) (pss_one (ps_dput hu (pv 1) (pe_ix ix_tup (pe_ix ix_tup (pv 0) (pv 2) (fun _ _ => rfl)) (pv 3) (fun _ _ => rfl)) (pe_tup (pa_cons (pv 2) (pa_cons (pv 3) pa_nil))) rfl)) pss_nil)))))
      (pss_one (ps_ret (pv 1)))), ?_⟩
    intro d hd
    have s0 : Same H (upd H d (.dK [])) := same_new hd
    obtain ⟨asg, hL0, hR⟩ := id hL
    have la : asg.length = g.length := hR.length
    have h6 := gd.h6
    have w6 := gd.w6
    refine ⟨_, rfl, L, _, rfl, .inr (.inl (.inl (s0 _ _ hL0))), (((asg.map V.ref).length : Nat) : Int), rfl, by omega, by rw [List.length_map]; omega, ?_⟩
    refine for_range (lo := 0) (n := _) (fun i σ H' => (∃ y2 y3, σ = [some (.ref L), some (.ref d), y2, y3]) ∧ Same H H' ∧ SpotsAt H' d (spG 0 (g.take i))) ⟨⟨_, _, rfl⟩, s0, [], upd_same, .nil⟩ ?_ ?_
    · rintro i σ H1 hi ⟨⟨y2, y3, rfl⟩, s1, hS1⟩
      have hi : i < g.length := by rw [List.length_map, Int.toNat_natCast] at hi; omega
      obtain ⟨ra, hra⟩ : ∃ ra, asg[i]? = some ra := ⟨_, List.getElem?_eq_getElem (by omega)⟩
      obtain ⟨row, hrow, hrA⟩ := Each.get hR hra
      have lr : row.length = wd := gd.rows row (List.mem_of_getElem? hrow)
      have eat : atI (asg.map V.ref) (0 + (i : Int)) = some (.ref ra) := by
        rw [Int.zero_add]
        exact atI_nat (by rw [List.getElem?_map, hra]; rfl)
      refine ⟨_, rfl, _, rfl, L, _, _, .ref ra, rfl, rfl, .inl (.inl (s1 _ _ hL0)), eat, ra, _, rfl, .inr (.inl (.inl (s1 _ _ hrA))), (((row.map oV).length : Nat) : Int), rfl, by omega, by rw [List.length_map]; omega, ?_⟩
      refine for_range (lo := 0) (n := _) (fun j σ H' => (∃ y3, σ = [some (.ref L), some (.ref d), some (.int (0 + (i : Int))), y3]) ∧ Same H H' ∧ SpotsAt H' d (spG 0 (g.take i) ++ spR i 0 (row.take j))) ⟨⟨_, rfl⟩, s1, by simpa [spR] using hS1⟩ ?_ ?_
      · rintro j σ H2 hj ⟨⟨y3, rfl⟩, s2, kvs, hd2, hE2⟩
        have hj : j < row.length := by rw [List.length_map, Int.toNat_natCast] at hj; omega
        obtain ⟨o, ho⟩ : ∃ o, row[j]? = some o := ⟨_, List.getElem?_eq_getElem hj⟩
        have eat2 : atI (row.map oV) (0 + (j : Int)) = some (oV o) := by
          rw [Int.zero_add]
          exact atI_nat (by rw [List.getElem?_map, ho]; rfl)
        have snoc : spR i 0 (row.take (j + 1)) = spR i 0 (row.take j) ++ (o.toList.map fun z => (z, i, j)) := by
          rw [List.take_add_one, ho]
          show spR i 0 (row.take j ++ [o]) = _
          rw [spR_snoc, List.length_take, Nat.min_eq_left (by omega), Nat.zero_add]
        refine ⟨_, rfl, _, rfl, L, _, _, .ref ra, rfl, rfl, .inl (.inl (s2 _ _ hL0)), eat, _, rfl, ra, _, _, oV o, rfl, rfl, .inl (.inl (s2 _ _ hrA)), eat2, ?_⟩
        cases o with
        | none =>
          refine ⟨_, rfl, iteF ⟨⟨_, rfl⟩, s2, kvs, hd2, ?_⟩⟩
          rw [snoc]
          simpa using hE2
        | some z =>
          have hz := cellAt_of hrow ho
          have fresh : z ∉ (spG 0 (g.take i) ++ spR i 0 (row.take j)).map (·.1) := fun hm => by
            obtain ⟨⟨z', a, b⟩, hmem, rfl⟩ := List.mem_map.mp hm
            rcases List.mem_append.mp hmem with hmem | hmem
            · obtain ⟨k, row', rfl, hk, hb⟩ := (spG_mem _ _).mp hmem
              have lk := (List.getElem?_eq_some_iff.mp hk).1
              rw [List.length_take] at lk
              rw [List.getElem?_take_of_lt (by omega)] at hk
              have := (cell_inj gd.nd (cellAt_of hk hb) hz).1
              omega
            · obtain ⟨rfl, k, rfl, hk⟩ := (spR_mem _ _ _).mp hmem
              have lk := (List.getElem?_eq_some_iff.mp hk).1
              rw [List.length_take] at lk
              rw [List.getElem?_take_of_lt (by omega)] at hk
              have := (cell_inj gd.nd (cellAt_of hrow hk) hz).2
              omega
          have lkv : kvs.length ≤ 100 := by
            have e1 := hE2.length
            have e2 : ((spG 0 (g.take i) ++ spR i 0 (row.take j)).map (·.1)).length ≤ 36 + 6 := by
              rw [List.map_append, List.length_append, spG_fst, spR_fst]
              have h1 := len_names (g := g.take i) (wd := wd) fun r hr => gd.rows r (List.mem_of_mem_take hr)
              have h2 : (g.take i).length * wd ≤ 6 * 6 := Nat.mul_le_mul (by rw [List.length_take]; omega) w6
              have h3 : (rnames (row.take j)).length ≤ (row.take j).length := List.length_filterMap_le _ _
              have h4 : (row.take j).length ≤ 6 := by rw [List.length_take]; omega
              omega
            rw [List.length_map] at e2
            omega
          refine ⟨_, rfl, iteT ⟨_, rfl, _, rfl, lz, fun t ht => ?_⟩⟩
          have k3 := same_new (o := .tup [V.int (0 + (i : Int)), .int (0 + (j : Int))]) ht
          have hd3 := k3 _ _ hd2
          refine ⟨_, rfl, _, rfl, _, rfl, L, _, _, .ref ra, rfl, rfl, .inl (.inl (k3 _ _ (s2 _ _ hL0))), eat, _, rfl, ra, _, _, .str z, rfl, rfl, .inl (.inl (k3 _ _ (s2 _ _ hrA))), eat2, d, _, rfl, DPut.k (k := Sum.inr z) hd3 (small1000 (by omega)), ⟨_, rfl⟩, same_mut (s2.trans k3) hd, kvs ++ [(Sum.inr z, .ref t)], ?_, ?_⟩
          · rw [upd_same, putK_new _ (ent_none hE2 fresh)]
          · rw [snoc, ← List.append_assoc]
            have tkd : TupKeep (upd H2 t (.tup [V.int (0 + (i : Int)), .int (0 + (j : Int))])) (upd (upd H2 t (.tup [V.int (0 + (i : Int)), .int (0 + (j : Int))])) d (.dK (putK kvs (Sum.inr z) (.ref t)))) := tk_updD hd3
            refine Each.append (ent_keep tkd (ent_keep (tk_same k3) hE2)) (.cons ⟨rfl, t, rfl, tkd _ _ ?_⟩ .nil)
            rw [upd_same, Int.zero_add, Int.zero_add]
      · rintro σ H2 ⟨⟨y3, rfl⟩, s2, hS2⟩
        refine ⟨⟨_, _, rfl⟩, s2, ?_⟩
        rw [List.length_map, Int.toNat_natCast, List.take_length] at hS2
        have e : spG 0 (g.take (i + 1)) = spG 0 (g.take i) ++ spR i 0 row := by
          rw [List.take_add_one, hrow]
          show spG 0 (g.take i ++ [row]) = _
          rw [spG_snoc, List.length_take, Nat.min_eq_left (by omega), Nat.zero_add]
        rw [e]
        exact hS2
    · rintro σ H1 ⟨⟨y2, y3, rfl⟩, s1, hS1⟩
      rw [List.length_map, Int.toNat_natCast, la, List.take_length] at hS1
      exact ⟨_, rfl, q d H1 hd s1 hS1⟩
end
end Wl

/-! Sets of texts, whole: set(xs), {e for ..}, sorted(a set). -/
namespace Wl
open PySem PySem.Spec PyProof.Rows L2
open PySem.Froz (SD sObj TxOk addTx tailTx)
theorem tail_ris {ep : Nat} {es : Array (Int × Value)} {t : SetTable} {b : Bool} (r : Ris t.place.toList) : Ris (tailTx ep es t b).2.2.place.toList := by
  unfold tailTx
  split
  · exact relayAll_ris _ _ _
  · exact r
theorem tail_led {ep : Nat} {es : Array (Int × Value)} {t : SetTable} {b : Bool} : (tailTx ep es t b).2.2.led = t.led := by
  unfold tailTx
  split
  · exact relayAll_led _ _ _
  · rfl
theorem add_ris {h : Int} {v : Value} {D : SD} (r : Ris D.2.2.place.toList) : Ris (addTx h v D).2.2.place.toList := by
  unfold addTx
  refine tail_ris ?_
  split
  · exact layNew_ris _ _ _ _ r
  · exact layNew_ris _ _ _ _ r
theorem add_led {h : Int} {v : Value} {D : SD} : (addTx h v D).2.2.led = D.2.2.led := by
  unfold addTx
  rw [tail_led]
  split
  · exact layNew_led _ _ _ _
  · exact layNew_led _ _ _ _
/-- the set at a holds the texts l, each once -/
structure SetX (P : Program) (w : World) (h : Heap) (a : Addr) (l : List Str) : Prop where
  nd : l.Nodup
  ob : ∃ D : SD, h.get? a = some (sObj "set" D) ∧ TxOk P w D l ∧ Ris D.2.2.place.toList ∧ (w.params.followText "set-order" = true ∨ D.2.2.led = true)
section
variable {P : Program} {w : World} {A : Around} {E : Value → Shared → Prop} {s : Shared} {a : Addr} {l : List Str} {k : Str} {u : Tok}
theorem SetX.at {h h' : Heap} (R : SetX P w h a l) (q : ∀ o, h.get? a = some o → h'.get? a = some o) : SetX P w h' a l := by
  obtain ⟨D, h1, h2⟩ := R.ob
  exact ⟨R.nd, D, q _ h1, h2⟩
/-- a text that is there already -/
theorem add_old {T : String} {D : SD} {Q : Bool → Shared → Prop} (hob : s.heap.get? a = some (sObj T D)) (F : TxOk P w D l) (hk : k ∈ l) (hb : l.length < scanBound) (h : Q false s) : wpAny (model P w) A (setAddHashed a (.str k u) (hashStr w k)) Q E s := by
  obtain ⟨es, ep, t⟩ := D
  have hdt : (sObj T (es, ep, t)).data = .set es ep t := rfl
  have hft : t.fits es.size = true := F.fit
  have hels : ElemsOf (strKind P w) es.toList := F.el
  have hn : es.size < scanBound := by rw [show es.size = l.length from F.sz]; exact hb
  have hks : (strKind P w).is k (.str k u) = true := PySem.Froz.is_str k u
  obtain ⟨j, hj⟩ : ∃ j, List.findIdx? (fun e => (strKind P w).is k e.2) es.toList = some j := by
    obtain ⟨e, he, hq⟩ := (F.mem k).mp hk
    cases hr : List.findIdx? (fun e => (strKind P w).is k e.2) es.toList with
    | some j => exact ⟨j, rfl⟩
    | none =>
      have := List.findIdx?_eq_none_iff.mp hr e he
      rw [hq] at this
      cases this
  unfold setAddHashed setAddHashedIn
  refine wpAny_holding (wpAny_bind (wpAny_setState_of hob hdt hft ?_))
  dsimp only
  rw [byScan_of rfl hn hels]
  simp only [↓reduceIte]
  unfold setAddByScan
  refine wpAny_bind (wpAny_bind (wpAny_rule (wpAny_bind (wpAny_setScan_of (knd := strKind P w) (k := k) hks hob hdt hft hels ?_))))
  rw [hj]
  dsimp only
  exact wpAny_pure (wpAny_pure h)
/-- a text put in -/
theorem setX_put {Q : Bool → Shared → Prop} (R : SetX P w s.heap a l) (room : l.length + 1 < scanBound)
    (hQ : ∀ (b : Bool) (h' : Heap) (l' : List Str), (∀ c o, c ≠ a → s.heap.get? c = some o → h'.get? c = some o) → SetX P w h' a l' → (∀ z, z ∈ l' ↔ z ∈ l ∨ z = k) → l'.length ≤ l.length + 1 → Q b { s with heap := h', toks := s.toks + 1 }) :
    wpAny (model P w) A (setAdd a (.str k u)) Q E s := by
  obtain ⟨D, h1, F, r, hl⟩ := R.ob
  unfold setAdd
  refine wpAny_holding (wpAny_bind ((PySem.strKind P w).pyHash (k := k) (strKind_is _ _ _ _) ?_))
  by_cases hk : k ∈ l
  · refine add_old (s := { s with toks := s.toks + 1 }) h1 F hk (by omega) (hQ false s.heap l (fun _ _ _ e => e) R (fun z => ?_) (Nat.le_succ _))
    constructor
    · exact .inl
    · rintro (e | e)
      · exact e
      · rw [e]
        exact hk
  · refine PySem.Froz.add_x (s := { s with toks := s.toks + 1 }) h1 F hk room (hQ true _ (k :: l) (fun c o n e => ?_) ⟨List.nodup_cons.mpr ⟨hk, R.nd⟩, _, PySem.Froz.get_upd _ h1 rfl, PySem.Froz.add_ok u F, add_ris r, ?_⟩ (fun z => ?_) (Nat.le_refl _))
    · exact (Heap.get?_update_other _ _ (Ne.symm n)).trans e
    · rw [add_led]
      exact hl
    · rw [List.mem_cons]
      exact Or.comm
end
section
variable {P : Program} {w : World} {A : Around} {R : Result → Shared → Prop} {I S : Addr} {fp wr : List Addr} {G : Array GenState → Array GenState → Prop} {n : Nat} {Pv : Nat → Value → Prop} {St : Nat → Shared → Prop} {xs : List Str}
/-- the texts of a walk, put in one by one -/
theorem walk_setX (W : WalksS P w A.in1 I fp wr G n Pv St) (hS : S ∉ fp) (hn : n = xs.length) (hb : n + 1 < scanBound) (hv : ∀ i v, Pv i v → ∃ x t, xs[i]? = some x ∧ v = .str x t) :
    ∀ (m i : Nat) (s : Shared) (l : List Str), n - i = m → i ≤ n → St i s → SetX P w s.heap S l → (∀ z, z ∈ l ↔ z ∈ xs.take i) → l.length ≤ i →
      (∀ s' l', Moved (S :: wr) G s s' → SetX P w s'.heap S l' → (∀ z, z ∈ l' ↔ z ∈ xs) → l'.length ≤ n → R (.ok (.ret .none)) s') → codeAny (model P w) A (.builtin "set.update.loop" ⟨[.ref S, .ref I], []⟩) R s := by
  have nS : S ∉ wr := fun q => hS (W.sub _ q)
  have wide : ∀ b ∈ wr, b ∈ S :: wr := fun b q => List.mem_cons_of_mem _ q
  intro m
  induction m with
  | zero =>
    intro i s l hm hi st X hz hl fin
    have e : i = n := by omega
    subst e
    refine codeAny_builtin PyProof.Rows.F.entry_set_update_loop ((Around.under_plainId PyProof.Rows.F.plain_set_update_loop _).symm ▸ ?_)
    show wpAny _ A.in1 (pyNext (.ref I) >>= _) _ _ s
    refine wpAny_bind (W.done s _ _ st fun s' mv => wpAny_pure (fin s' l (mv.mono wide) (X.at fun o q => mv.heap S o nS q) (fun z => ?_) hl))
    rw [hz, hn, List.take_length]
  | succ m ih =>
    intro i s l hm hi st X hz hl fin
    have lt : i < n := by omega
    refine codeAny_builtin PyProof.Rows.F.entry_set_update_loop ((Around.under_plainId PyProof.Rows.F.plain_set_update_loop _).symm ▸ ?_)
    show wpAny _ A.in1 (pyNext (.ref I) >>= _) _ _ s
    refine wpAny_bind (W.item i s _ _ lt st fun v s' pv st' mv => ?_)
    obtain ⟨x, t, hx, rfl⟩ := hv i v pv
    have X1 := X.at (h' := s'.heap) fun o q => mv.heap S o nS q
    show wpAny _ A.in1 (holding [Value.str x t] (setAdd S (.str x t)) >>= _) _ _ s'
    refine wpAny_bind (wpAny_holding (setX_put X1 (by omega) fun b h' l' kp X2 hz2 hl2 => ?_))
    refine wpAny_pure ⟨plainId_quiet PyProof.Rows.F.plain_set_update_loop _, ih (i + 1) _ l' (by omega) lt (W.frame _ s' _ _ st' (Nat.le_succ _) fun c hc o q => ?_) X2 (fun z => ?_) (by omega) fun s'' l'' mv2 X3 hz3 hl3 => fin s'' l'' (Moved.trans W.gtrans ((mv.mono wide).then_heap (Nat.le_succ _) fun c o hc q => ?_) mv2) X3 hz3 hl3⟩
    · exact kp c o (fun e => hS (e ▸ hc)) q
    · rw [hz2, hz, List.take_add_one, hx, List.mem_append]
      simp
    · exact kp c o (fun e => hc (e ▸ List.mem_cons_self)) q
end
theorem texts_each : ∀ {ys : List Str} {us : List Value}, Vals (ys.map V.str) us → ∀ (i : Nat) (v : Value), us[i]? = some v → ∃ x t, ys[i]? = some x ∧ v = .str x t
  | [], [], _, i, v, h => by simp at h
  | [], _ :: _, r, _, _, _ => nomatch r
  | _ :: _, [], r, _, _, _ => nomatch r
  | y :: ys, u :: us, .cons r t, 0, v, h => by
    obtain ⟨k, rfl⟩ := r
    exact ⟨y, k, rfl, (Option.some.inj h).symm⟩
  | y :: ys, u :: us, .cons r t, i + 1, v, h => by
    obtain ⟨x, k, h1, h2⟩ := texts_each t i v (by simpa using h)
    exact ⟨x, k, by simpa using h1, h2⟩
end Wl

namespace Wl
open PySem PySem.Spec PyProof.Rows L2
open PySem.Froz (SD sObj TxOk addTx tailTx)
/-- a new set, as the world lays it -/
abbrev setN (w : World) : Obj := { cls := .type "set", dict := none, data := .set #[] 0 (.fresh 0 0 (!w.params.followText "set-order")) }
theorem setX_new {P : Program} {w : World} {h : Heap} {a : Addr} (ho : h.get? a = some (setN w)) : SetX P w h a [] := by
  refine ⟨List.nodup_nil, (#[], 0, .fresh 0 0 (!w.params.followText "set-order")), ho, PySem.Froz.TxOk.nil rfl, List.Pairwise.nil, ?_⟩
  show _ ∨ (!w.params.followText "set-order") = true
  cases w.params.followText "set-order"
  · exact .inr rfl
  · exact .inl rfl
section
variable {P : Program} {w : World} {A : Around} {E : Value → Shared → Prop} {s : Shared} {xs : List Str}
theorem make_setX {l : Addr} {items : Array Value} {Q : Value → Shared → Prop} (hh : A.handled = none) (hl : s.heap.IsList l items) (r : Vals (xs.map V.str) items.toList) (hb : xs.length + 1 < scanBound)
    (h : ∀ (h' : Heap) (tk : Nat) (ys : List Str), SetX P w h' s.heap.objs.size ys → (∀ z, z ∈ ys ↔ z ∈ xs) → ys.length ≤ xs.length → (∀ b o, b < s.heap.objs.size → s.heap.get? b = some o → h'.get? b = some o) → Q (.ref s.heap.objs.size) { s with heap := h', toks := tk }) :
    wpAny (model P w) A (call (.type "set") [.ref l]) Q E s := by
  have hsz : xs.length = items.size := by
    have := r.length
    rw [List.length_map, Array.length_toList] at this
    exact this
  obtain ⟨c, tl, hmro⟩ := PySem.F.called_set.mro
  have a1 := PySem.F.called_set.made
  have a2 := PySem.F.called_set.sub
  have a3 := PySem.F.called_set.notType
  have a4 := PySem.F.called_set.canCreate
  have a5 := PySem.F.typeCall_set_1 (.ref l)
  refine wpAny_call (codeAny_of_tree (show wpAny _ _ (callAny (.type "set") _) _ _ _ from wpAny_pure ⟨Code.quiet_builtin _ (by decide +kernel), codeAny_builtin PySem.F.entry_type_call ?_⟩))
  rw [Around.under_plain (weight_type_call_type "set" [.ref l] []) rfl]
  repeat (any_goals (first | assumption | wp_step))
  refine codeAny_mono (code_set_led1 (.ref l) (E := E) (Q₁ := fun obj s₁ => obj = .ref s.heap.objs.size ∧ s₁ = { s with heap := s.heap.push (setN w) }) ⟨rfl, rfl⟩) fun r₁ s₁ h₁ => ?_
  cases r₁ with
  | error e => exact h₁
  | ok fl =>
    cases fl with
    | ret obj =>
      obtain ⟨rfl, rfl⟩ := h₁
      have g1 : (s.heap.push (setN w)).get? s.heap.objs.size = some (setN w) := Heap.get?_push_size _ rfl
      have g2 : Shared.TypeIs { s with heap := s.heap.push (setN w) } (.ref s.heap.objs.size) "set" := ⟨_, g1, rfl⟩
      have g3 := PySem.F.called_set.init.lookup
      have g4 := PySem.F.called_set.init.bind (.ref s.heap.objs.size)
      repeat (any_goals (first | assumption | wp_step))
      refine codeAny_mono (codeAny_call_builtin (R := wants (fun v s₂ => v = .none ∧ ∃ h' tk ys, s₂ = { s with heap := h', toks := tk } ∧ SetX P w h' s.heap.objs.size ys ∧ (∀ z, z ∈ ys ↔ z ∈ xs) ∧ ys.length ≤ xs.length ∧ (∀ b o, b < s.heap.objs.size → s.heap.get? b = some o → h'.get? b = some o)) E) PySem.F.called_set.init.plain PySem.F.entry_set_init (check_set_init_1 g2 ?_)) fun r₂ s₂ h₂ => ?_
      · obtain ⟨⟨oc, odt, oda, osl⟩, e1, e2, nl, e3⟩ := hl
        simp only at e2 e3
        subst e2 e3
        have e4 : (s.heap.push (setN w)).get? l = some { cls := .type "list", dict := odt, data := .seq items nl, slots := osl } := Heap.get?_push_of_some _ e1
        have b1 := PySem.F.sub_list_set
        have b2 := PySem.F.sub_list_frozenset
        have b3 : (Value.type "list" == Value.type "dict") = false := by decide
        have il : (s.heap.push (setN w)).IsList l items := ⟨_, e4, rfl, nl, rfl⟩
        have ll : l < s.heap.objs.size := Heap.lt_size e1
        have zz : (s.heap.push (setN w)).objs.size = s.heap.objs.size + 1 := Heap.size_push ..
        unfold Builtin.«set.__init__» noKeywords Builtin.Frozenset.updateFrom
        generalize hPI : pyIter = PI
        wp_walk
        subst hPI
        refine wpAny_pyIter_list il (wpAny_bind (wpAny_runValue ?_))
        have hh3 : A.in1.in1.in1.handled = none := by simp [hh]
        refine walk_setX (S := s.heap.objs.size) (xs := xs) (n := items.size) ((Walks.list hh3 _ l (by rw [zz]; exact Nat.ne_of_lt (Nat.lt_succ_of_lt ll)) items).toS) (by rw [zz]; simp only [List.mem_cons, List.not_mem_nil, or_false, not_or]; exact ⟨Nat.ne_of_lt (Nat.lt_succ_self _), Nat.ne_of_gt ll⟩) hsz.symm (by omega) (fun i v q => texts_each r i v (by rw [Array.getElem?_toList]; exact q)) (items.size - 0) 0 _ [] (by omega) (Nat.zero_le _) ⟨⟨_, Heap.get?_push_size _ rfl, rfl, rfl⟩, il.push _⟩ (setX_new (Heap.get?_push_of_some _ g1)) (fun z => by simp) (Nat.le_refl _) ?_
        intro s' ys mv X hz hy
        obtain ⟨h', g', d', tk', os'⟩ := s'
        obtain rfl : g' = s.gens := mv.gens
        obtain rfl : d' = s.drawn := mv.drawn
        obtain rfl : os' = s.os := mv.os
        refine wpAny_pure (show wpAny _ _ (ret Value.none) _ _ _ from wpAny_pure ⟨rfl, h', tk', ys, rfl, X, hz, by rw [hsz]; exact hy, fun b' o hb' q => mv.heap b' o ?_ (Heap.get?_push_of_some _ (Heap.get?_push_of_some _ q))⟩)
        rw [zz]
        simp only [List.mem_cons, List.not_mem_nil, or_false, not_or]
        exact ⟨Nat.ne_of_lt hb', Nat.ne_of_lt (Nat.lt_succ_of_lt hb')⟩
      · cases r₂ with
        | error e => exact h₂
        | ok fl₂ =>
          cases fl₂ with
          | ret v =>
            obtain ⟨rfl, h', tk, ys, rfl, X, hz, hy, kk⟩ := h₂
            repeat (any_goals (first | assumption | wp_step))
            exact h _ _ ys X hz hy kk
          | _ => exact h₂.elim
    | _ => exact h₁.elim
end
/-! as tracked things -/
def SetXO (P : Program) (w : World) (a : Addr) (l : List Str) : HO := .ext fun h => SetX P w h a l
theorem setXO_ok {P : Program} {w : World} {H : Hp} {h : Heap} {a : Addr} {l : List Str} (R : SetX P w h a l) : ObjOk P w H h a (SetXO P w a l) := by
  obtain ⟨D, h1, _⟩ := R.ob
  exact ⟨R, ⟨_, h1⟩, fun _ _ p k => p.at k⟩
theorem same_members {ks : List Str} : ∀ {l : List Str}, l.Nodup → (∀ z ∈ l, z ∈ ks) → ks.length = l.length → ks.Perm l := by
  intro l
  induction l generalizing ks with
  | nil =>
    intro _ _ h
    rw [List.eq_nil_of_length_eq_zero h]
  | cons x l ih =>
    intro nd hs hl
    rw [List.nodup_cons] at nd
    have hx := hs x List.mem_cons_self
    have p := List.perm_cons_erase hx
    refine p.trans (List.Perm.cons x (ih nd.2 (fun z hz => ?_) ?_))
    · have hne : z ≠ x := fun e => nd.1 (e ▸ hz)
      exact (List.mem_erase_of_ne hne).mpr (hs z (List.mem_cons_of_mem _ hz))
    · have := p.length_eq
      rw [List.length_cons] at this
      rw [List.length_cons] at hl
      omega
def txtV : Value → Str
  | .str k _ => k
  | _ => ""
theorem strs_srt (ks : List Str) : ks.mergeSort (PySem.W.dataLe false PyData.str) = sortS ks := by
  unfold sortS
  congr 1
  funext a b
  exact le_data_str a b
theorem each_txt : ∀ {vs : List Value}, (∀ v ∈ vs, ∃ k t, v = .str k t) → PySem.W.EachIs (fun u z => RelV (.str z) u) vs (vs.map txtV)
  | [], _ => .nil
  | v :: vs, h => by
    obtain ⟨k, t, rfl⟩ := h v List.mem_cons_self
    exact .cons ⟨t, rfl⟩ (each_txt fun u hu => h u (List.mem_cons_of_mem _ hu))
theorem vals_txt : ∀ {out : List Value} {ks : List Str}, PySem.W.EachIs (fun u z => RelV (.str z) u) out ks → Vals (ks.map V.str) out
  | _, _, .nil => .nil
  | _, _, .cons r t => .cons r (vals_txt t)
theorem sortS_perm {a b : List Str} (nd : b.Nodup) (p : a.Perm b) : sortS a = sortS b := by
  refine sortS_eq nd (sortS_rising (p.nodup_iff.mpr nd)) fun z => ?_
  rw [mem_sortS, p.mem_iff]
section
variable {X : Cx}
/-- set(xs), xs a list of texts -/
def rSetX (K : PySem.W.Frag) (P : Program) (w : World) : List V → Hp → VK → Prop := fun xs H Q => ∃ (p : Addr) (ys : List Str), xs = [V.ref p] ∧ SqL K H p (ys.map V.str) ∧ ys.length ≤ 1000 ∧
  ∀ (a : Addr) (l : List Str), H a = none → l.Nodup → (∀ z, z ∈ l ↔ z ∈ ys) → l.length ≤ ys.length → Q (.ref a) (upd H a (SetXO P w a l))
theorem cr_setX (hc : X.calm = true) : CallR X (.type "set") (rSetX X.K X.prog X.w) := by
  intro pins s σ H xs us Q I r h
  obtain ⟨p, ys, rfl, hp, hy, q⟩ := h
  rw [Vals.ref1 r]
  obtain ⟨its, rv, pl, hz⟩ := I.list hp
  refine make_setX (P := X.prog) (w := X.w) (I.ok.hd hc) pl.isList (by simpa using rv) (by unfold scanBound; omega) fun h' tk l R hm hl k => ?_
  exact ⟨.ref s.heap.objs.size, upd H s.heap.objs.size (SetXO X.prog X.w s.heap.objs.size l), I.laid (t' := tk) (fun b o e => k b o (Heap.lt_size e) e) (Nat.le_refl _) (setXO_ok R), rfl, q _ l (I.hok.fresh (Nat.le_refl _)) R.nd hm hl⟩
/-- sorted(a set of texts) -/
def rSortX (P : Program) (w : World) : List V → Hp → VK → Prop := fun vs H Q => ∃ (a : Addr) (l : List Str), vs = [V.ref a] ∧ H a = some (SetXO P w a l) ∧ l.length ≤ 1000 ∧ ∀ p, H p = none → Q (.ref p) (upd H p (.lst ((sortS l).map V.str)))
theorem cr_sortX (hc : X.calm = true) (hu : X.A.units + 64 < cLine) : CallR X (.builtin "sorted") (rSortX X.prog X.w) := by
  intro pins s σ H vs us Q I r h
  obtain ⟨a, l, rfl, ha, hl, q⟩ := h
  have R : SetX X.prog X.w s.heap a l := (I.hok a _ ha).1
  rw [Vals.ref1 r]
  obtain ⟨⟨es, ep, t⟩, ho, F, ri, led⟩ := R.ob
  have hes : es.size = l.length := F.sz
  refine Calls.call_function_entry PyProof.Rows.kind_sorted PyProof.Rows.plain_sorted PyProof.Rows.entry_sorted (PyProof.Rows.args_sorted1 _) ?_
  unfold Builtin.«sorted»
  refine wpAny_bind (m := checkCount "sorted" 1 1 _) (wpAny_pure ?_)
  refine wpAny_bind (collect_set (A := X.A.in1) (I.ok.hd hc) ⟨_, ho, rfl, rfl⟩ F.fit (by show es.size < scanBound; unfold scanBound; omega) ri led fun s1 out k1 z1 g1 o1 pm => ?_)
  have hv : ∀ v ∈ out, ∃ k t, v = Value.str k t := fun v hv => by
    obtain ⟨e, he, rfl⟩ := List.mem_map.mp (pm.mem_iff.mp hv)
    obtain ⟨⟨k, hk, _⟩, _⟩ := F.el e he
    obtain ⟨t, ht⟩ := Value.isStrOf_shape (x := k) (v := e.2) hk
    exact ⟨k, t, ht⟩
  have hol : out.length = l.length := by
    rw [pm.length_eq, List.length_map, Array.length_toList]
    exact hes
  have pl : (out.map txtV).Perm l := by
    refine same_members R.nd (fun z hz => ?_) (by rw [List.length_map]; exact hol)
    obtain ⟨e, he, hk⟩ := (F.mem z).mp hz
    obtain ⟨t, ht⟩ := Value.isStrOf_shape (x := z) (v := e.2) hk
    refine List.mem_map.mpr ⟨e.2, pm.mem_iff.mpr (List.mem_map.mpr ⟨e, he, rfl⟩), ?_⟩
    rw [ht]
    rfl
  have hS := each_txt hv
  have hsl : (out.map txtV).length ≤ sizeLine := by
    rw [List.length_map, hol]
    exact Nat.le_trans hl (by decide)
  refine wpAny_bind (wpAny_newList ?_ (by rw [hol]; exact Nat.le_trans hl (by decide)))
  have hoL : (s1.heap.push (seqObj "list" out.toArray 0)).get? s1.heap.objs.size = some (seqObj "list" out.toArray 0) := Heap.get?_push_size _ rfl
  refine wpAny_bind (wpAny_holding (PySem.W.list_sort_data (R := fun u z => RelV (.str z) u) (enc := PyData.str) (s := { s1 with heap := s1.heap.push (seqObj "list" out.toArray 0) }) hoL hS (hS.mono fun v b r => ?_) (PySem.W.AllAlike.of fun _ _ => rfl) (PySem.W.Sortable.others fun b => ⟨(fun e => by cases e), (fun xs e => by cases e)⟩) hsl (fun b _ => ?_) fun srt hso eo => ?_))
  · obtain ⟨t, rfl⟩ := r
    exact ⟨[], .str _ _, by simp⟩
  · show X.A.units + 1 + 1 + 0 < cLine
    omega
  · rw [strs_srt, sortS_perm R.nd pl] at eo
    obtain ⟨e', he'⟩ := PyProof.Rows.sortedHeap_at (vs := out) (out := srt.toArray) hoL
    have hlen : ((sortS l).map V.str).length ≤ sizeLine := by
      rw [List.length_map, sortS_len]
      exact Nat.le_trans hl (by decide)
    have hn : H s1.heap.objs.size = none := I.hok.fresh z1
    have kp : ∀ b o, s.heap.get? b = some o → (PyProof.Rows.sortedHeap (s1.heap.push (seqObj "list" out.toArray 0)) s1.heap.objs.size out srt.toArray).get? b = some o := fun b o e => by
      have q1 := k1 b o e
      have hb := Heap.lt_size q1
      rw [PyProof.Rows.sortedHeap_old (Nat.ne_of_lt hb) (by rw [size_push']; exact Nat.lt_succ_of_lt hb)]
      exact Heap.get?_push_of_some _ q1
    have J : L2.Inv X pins σ (upd H s1.heap.objs.size (.lst ((sortS l).map V.str))) { s with heap := PyProof.Rows.sortedHeap (s1.heap.push (seqObj "list" out.toArray 0)) s1.heap.objs.size out srt.toArray, gens := s1.gens, drawn := s1.drawn, toks := s1.toks } :=
      I.call (ch := []) (Un.laid kp z1 hn) (I.hok.laid kp z1 ⟨hlen, srt, e', vals_txt eo, he'⟩) (by rw [g1]; exact I.bare) (fun _ z => nomatch z)
    have es1 : ({ s1 with heap := PyProof.Rows.sortedHeap (s1.heap.push (seqObj "list" out.toArray 0)) s1.heap.objs.size out srt.toArray } : Shared) = { s with heap := PyProof.Rows.sortedHeap (s1.heap.push (seqObj "list" out.toArray 0)) s1.heap.objs.size out srt.toArray, gens := s1.gens, drawn := s1.drawn, toks := s1.toks } := by
      cases s1
      cases s
      cases o1
      rfl
    refine wpAny_pure ⟨_, rfl, .ref s1.heap.objs.size, upd H s1.heap.objs.size (.lst ((sortS l).map V.str)), ?_, rfl, q _ hn⟩
    show L2.Inv X pins σ _ { s1 with heap := PyProof.Rows.sortedHeap (s1.heap.push (seqObj "list" out.toArray 0)) s1.heap.objs.size out srt.toArray }
    rw [es1]
    exact J
end
end Wl

/-! {e for x in xs if t}, e a text. -/
namespace Wl
open PySem PySem.Spec PyProof.Rows L2
section
variable {X : Cx}
/-- set.add of a text to a tracked set -/
theorem putX_ok {pins : List (Addr × Obj)} {σ : L2.St} {H : Hp} {s : Shared} {E : Value → Shared → Prop} {D : Addr} {l : List Str} {z : Str} {tk : Tok} {Q : Value → Shared → Prop} (I : L2.Inv X pins σ H s) (hD : H D = some (SetXO X.prog X.w D l)) (room : l.length + 1 < scanBound)
    (h : ∀ s' l', l'.Nodup → (∀ y, y ∈ l' ↔ y ∈ l ∨ y = z) → l'.length ≤ l.length + 1 → L2.Inv X pins σ (upd H D (SetXO X.prog X.w D l')) s' → Q .none s') : wpAny (model X.prog X.w) X.A (call (.builtin "set.add") [.ref D, .str z tk]) Q E s := by
  have R : SetX X.prog X.w s.heap D l := (I.hok D _ hD).1
  obtain ⟨D0, ho, _⟩ := R.ob
  refine wpAny_call_entry F.slot_set_add ⟨_, ho, rfl⟩ F.entry_set_add ?_ (F.args_set_add_2 _ _)
  unfold Builtin.«set.add» Builtin.Frozenset.oneOther
  simp only [List.isEmpty_nil, bind_assoc]
  unfold Builtin.Frozenset.addrOf
  refine wpAny_bind (wpAny_pure (wpAny_bind (wpAny_pure (wpAny_bind ?_))))
  refine setX_put R room fun b h' l' kp R' hm hl => ?_
  show wpAny _ _ (ret Value.none) _ _ _
  obtain ⟨D1, ho1, _⟩ := R'.ob
  exact wpAny_pure ⟨_, rfl, h _ l' R'.nd hm hl (I.write (e := D) (t' := s.toks + 1) (by rw [hD]; trivial) (.inl rfl) (fun c u hc hu => kp c u hc hu) ⟨_, ho1⟩ (setXO_ok R'))⟩
/-- what {e for x in xs if t} asks: D the new set, grown text by text -/
def tScX (P : Program) (w : World) (wi : TI) (g : TG) (tt : TT) (te : TE) (vs : List Nat) : TE := fun σ H Q => wi σ H fun J H1 => ∀ D, H1 D = none → ∃ W : Nat → Nat → Hp → Prop, (∃ m, W 0 m (upd H1 D (SetXO P w D []))) ∧ ∀ i m H, W i m H →
  (J.stop i H ∧ Q (.ref D) H) ∨ (J.go i H ∧ ∃ Nx : Hp → Prop, (∀ H', Nx H' → ∃ m', m' < m ∧ W (i + 1) m' H') ∧ ∀ x H', J.yld i H x H' → g x (wipe σ vs) H' fun σ2 H2 => wipe σ2 vs = wipe σ vs ∧ tt σ2 H2 fun b H3 =>
    if b = true then te σ2 H3 fun y H4 => ∃ (z : Str) (l : List Str), y = .str z ∧ H4 D = some (SetXO P w D l) ∧ l.length + 1 < scanBound ∧ ∀ l', l'.Nodup → (∀ u, u ∈ l' ↔ u ∈ l ∨ u = z) → l'.length ≤ l.length + 1 → Nx (upd H4 D (SetXO P w D l')) else Nx H3)
theorem pe_scX {elt tg iter : Expr} {ifs : List Expr} {scope : Scope} {own : List (PySem.Str × Nat)} {pos : Pos} {wi : TI} {g : TG} {tt : TT} {te : TE} (hcalm : X.calm = true) (nd : X.N.Nodup) (pit : PI X tg iter wi) (bok : BlkOk X.N X.env.scope scope own)
    (gg : ∀ (s : Shared) (H : Hp) (C : Addr) (cl : List (PySem.Str × Addr)) (fp : List Addr), PG (X.blk s H scope (compEnvC scope cl C X.env) fp) tg g) (gt : ∀ (s : Shared) (H : Hp) (C : Addr) (cl : List (PySem.Str × Addr)) (fp : List Addr), PTs (X.blk s H scope (compEnvC scope cl C X.env) fp) ifs tt)
    (ge : ∀ (s : Shared) (H : Hp) (C : Addr) (cl : List (PySem.Str × Addr)) (fp : List Addr), PE (X.blk s H scope (compEnvC scope cl C X.env) fp) elt te) (hfold : ∀ x, foldedSetIterable iter X.env x = pure x := by intro _; rfl) :
    PE X (.SetComp elt [⟨tg, iter, ifs, 0⟩] scope pos) (tScX X.prog X.w wi g tt te (own.map (·.2))) := by
  refine ⟨fun pins s σ H Q I rd => ?_⟩
  rw [PpSet.eval_SetComp]
  have frees : ∀ y ∈ scope.names, y.2 = .free → ∃ c, X.env.cells.lookup y.1 = some c := fun y hy e => by
    rcases bok.free y hy e with q | q
    · exact I.ok.has _ (.inl q)
    · exact I.ok.has _ (.inr q)
  refine wpAny_comprehension_free (use := none) rfl hfold (closure_ok frees) bok.kind (fun y hy e => by rw [bok.uniq y hy, e]) (thn (pit.run pins s σ H _ I rd) fun xv s1 hx => thn hx fun itv s2 h2 => ?_)
  obtain ⟨it, fp, tn, J, H2, e, I2, T, st2, f2, q⟩ := h2
  subst e
  refine PpSet.newSet_ok (newEnv_comp ?_)
  obtain ⟨D, hD⟩ : ∃ D, s2.heap.objs.size = D := ⟨_, rfl⟩
  obtain ⟨W, ⟨m0, w0⟩, turn⟩ := q D (I2.hok.fresh (Nat.le_of_eq hD))
  obtain ⟨s3, hs3⟩ : ∃ s3 : Shared, ({ s2 with heap := s2.heap.push (setN X.w) } : Shared) = s3 := ⟨_, rfl⟩
  obtain ⟨H3, hH3⟩ : ∃ H3, upd H2 D (SetXO X.prog X.w D []) = H3 := ⟨_, rfl⟩
  have heap3 : s3.heap = s2.heap.push (setN X.w) := by rw [← hs3]
  have I3 : L2.Inv X pins σ H3 s3 := by
    rw [← hs3, ← hH3]
    refine I2.laid (t' := s2.toks) (fun b o e => Heap.get?_push_of_some _ e) (Nat.le_of_eq hD) ?_
    rw [← hD]
    exact setXO_ok (setX_new (Heap.get?_push_size _ rfl))
  have f3 : ∀ b ∈ fp, FpOk X pins H3 b ∧ b < s3.heap.objs.size := fun b hb => by
    obtain ⟨o, e, _⟩ := T.obj _ _ st2 b hb
    have lt := Heap.lt_size e
    refine ⟨⟨?_, (f2 b hb).2⟩, by rw [heap3, Heap.size_push]; exact Nat.lt_succ_of_lt lt⟩
    rw [← hH3, upd_ne (by rw [← hD]; exact Nat.ne_of_lt lt)]
    exact (f2 b hb).1
  have none3 : ∀ b ∈ fp, H3 b = none := fun b hb => (f3 b hb).1.1
  rw [hH3] at w0
  show codeAny _ _ (.compStart (.SetComp elt [⟨tg, iter, ifs, 0⟩] scope pos) 0 (.ref it) (.ref s2.heap.objs.size) (compEnvC scope (cellsFrom ((s2.heap.push (setN X.w)).objs.size + 1) scope.names (cloFrom X.env.cells scope.names [])) (s2.heap.push (setN X.w)).objs.size X.env)) (compPost (model X.prog X.w) X.A X.xe none _ (.ref s2.heap.objs.size) (s2.heap.push (setN X.w)).objs.size) { s2 with heap := pushCells ((s2.heap.push (setN X.w)).push { cls := .type "dict", data := .dict #[] }) scope.names }
  rw [← heap3, hD]
  have st3 : tn 0 s3.heap := T.keep _ _ _ st2 fun b _ o e => by rw [heap3]; exact Heap.get?_push_of_some _ e
  have I4 := block_start I3 bok nd f3
  obtain ⟨ce, hce⟩ : ∃ ce, compEnvC scope (cellsFrom (s3.heap.objs.size + 1) scope.names (cloFrom X.env.cells scope.names [])) s3.heap.objs.size X.env = ce := ⟨_, rfl⟩
  have pg := gg s3 H3 s3.heap.objs.size (cellsFrom (s3.heap.objs.size + 1) scope.names (cloFrom X.env.cells scope.names [])) fp
  have pt := gt s3 H3 s3.heap.objs.size (cellsFrom (s3.heap.objs.size + 1) scope.names (cloFrom X.env.cells scope.names [])) fp
  have pe := ge s3 H3 s3.heap.objs.size (cellsFrom (s3.heap.objs.size + 1) scope.names (cloFrom X.env.cells scope.names [])) fp
  have locs : ce.locals = s3.heap.objs.size := by rw [← hce]; rfl
  rw [hce] at I4 pg pt pe ⊢
  obtain ⟨s4, hs4⟩ : ∃ s4 : Shared, ({ s3 with heap := pushCells (s3.heap.push { cls := .type "dict", data := .dict #[] }) scope.names } : Shared) = s4 := ⟨_, rfl⟩
  have es4 : ({ s2 with heap := pushCells (s3.heap.push { cls := .type "dict", data := .dict #[] }) scope.names } : Shared) = s4 := by
    rw [← hs4, ← hs3]
  rw [hs4] at I4
  rw [es4]
  have st4 : tn 0 s4.heap := T.keep _ _ _ st3 fun b _ o e => by rw [← hs4]; exact pushCells_keeps _ _ _ _ (Heap.get?_push_of_some _ e)
  have calmFp : ∀ {σ' : L2.St} {H' : Hp} {s' : Shared}, L2.Inv (X.blk s3 H3 scope ce fp) [] σ' H' s' → (∀ b ∈ fp, H' b = none) → ∀ b ∈ fp, FpOk (X.blk s3 H3 scope ce fp) [] H' b := fun {σ' H' s'} I' hn b hb =>
    ⟨hn b hb, (I'.ok.exf b hb).1, I'.ok.exfs b hb, .inl hb, fun x c e => (I'.ok.exf b hb).2 x c e, fun r hr => absurd (show r ∈ ([] : List (Addr × Obj)) ++ [] from hr) (by simp)⟩
  have loop : codeAny (model X.prog X.w) X.A (.compLoop (.SetComp elt [⟨tg, iter, ifs, 0⟩] scope pos) 0 (.ref it) (.ref D) ce) (compPost (model X.prog X.w) X.A X.xe none (fun v s' => ∃ x H', L2.Inv X pins σ H' s' ∧ RelV x v ∧ Q x H') (.ref D) s3.heap.objs.size) s4 := by
    refine PpSet.compLoopS_any (fun n s' => ∃ i H', L2.Inv (X.blk s3 H3 scope ce fp) [] (wipe σ (own.map (·.2))) H' s' ∧ tn i s'.heap ∧ (∀ b ∈ fp, H' b = none) ∧ W i n H') ?_ m0 ⟨0, H3, I4, st4, none3, w0⟩
    rintro n s5 ⟨i, H5, I5, st5, n5, w5⟩
    rcases turn i n H5 w5 with ⟨stop, qq⟩ | ⟨go, Nx, hNx, step⟩
    · refine thnF (T.done (X.blk s3 H3 scope ce fp) rfl rfl rfl hcalm i [] s5 _ H5 (fun _ _ => False) I5 (calmFp I5 n5) st5 stop) fun r s6 ⟨hr, I6⟩ => ?_
      subst hr
      have I7 : L2.Inv X pins σ H5 s6 := I3.call' (ch := fp) I6.os I6.base I6.hok I6.bare fun b hb => ⟨(f3 b hb).1.2.2.2.1, (f3 b hb).1.2.1, (f3 b hb).1.2.2.2.2.1, (f3 b hb).1.2.2.2.2.2⟩
      have nC : H5 s3.heap.objs.size = none := by
        have z : H5 ce.locals = none := I6.free
        rw [locs] at z
        exact z
      obtain ⟨m, hn, _⟩ := I6.loc
      have hn : s6.heap.Ns ce.locals m := hn
      rw [locs] at hn
      obtain ⟨k0, k1, k2, k3, k4, k5⟩ := I3.fpOk (Nat.le_refl _) nC
      exact ⟨m, hn, fun h'' sb => ⟨.ref D, H5, I7.turned (t' := s6.toks) (fun b o hb e => (sb.2 b hb).trans e) k0 k1 k3 k4 k5, rfl, qq⟩⟩
    · refine thnF (T.item (X.blk s3 H3 scope ce fp) rfl rfl rfl hcalm i [] s5 _ H5 (fun _ _ => False) I5 (calmFp I5 n5) st5 go) fun r s6 ⟨u, hr, h6⟩ => ?_
      subst hr
      refine thnF h6 fun _ s7 ⟨x, H7, I7, r7, y7, st7, n7⟩ => ?_
      have I7' := I7.pinned (calmFp I7 n7) (T.obj _ _ st7)
      refine thnF (pg.run _ s7 _ H7 x u _ I7' r7 (step x H7 y7)) fun _ s8 ⟨σ8, H8, I8, hw8, q8⟩ => thnF (pt.run _ s8 σ8 H8 _ I8 q8) fun b s9 ⟨H9, I9, q9⟩ => ?_
      have next : ∀ {s' : Shared} {H' : Hp}, L2.Inv (X.blk s3 H3 scope ce fp) ([] ++ pinsAt fp s7.heap) σ8 H' s' → Nx H' → ∃ m, m < n ∧ ∃ i H', L2.Inv (X.blk s3 H3 scope ce fp) [] (wipe σ (own.map (·.2))) H' s' ∧ tn i s'.heap ∧ (∀ b ∈ fp, H' b = none) ∧ W i m H' := fun {s' H'} I' nx => by
        obtain ⟨m', hm, w'⟩ := hNx H' nx
        have held : ∀ b ∈ fp, ∀ o, s7.heap.get? b = some o → s'.heap.get? b = some o ∧ H' b = none := fun b hb o e => by
          have z := I'.pin (b, o) (List.mem_append_right _ (List.mem_append_right _ (mem_pinsAt hb e)))
          exact ⟨z.1, z.2.1⟩
        have len : (wipe σ (own.map (·.2))).length = σ8.length := by rw [← hw8, wipe_length]
        refine ⟨m', hm, i + 1, H', (I'.unpinned (pins := [])).weak len (fun j v e => ?_), T.keep _ _ _ st7 fun b hb o e => (held b hb o e).1, fun b hb => ?_, w'⟩
        · rw [← hw8] at e
          exact (wipe_some e).1
        · obtain ⟨o, e, _⟩ := T.obj _ _ st7 b hb
          exact (held b hb o e).2
      cases b with
      | false =>
        simp only [Bool.false_eq_true, if_false] at q9 ⊢
        exact next I9 q9
      | true =>
        simp only [if_true] at q9 ⊢
        refine thnF (pe.run _ s9 σ8 H9 _ I9 q9) fun z s10 ⟨yv, H10, I10, r10, zt, l0, ey, hD10, hz10, nx⟩ => ?_
        subst ey
        obtain ⟨tk, rfl⟩ := r10
        exact putX_ok (X := X.blk s3 H3 scope ce fp) I10 hD10 hz10 fun s11 l' n1 n2 n3 I11 => next I11 (nx l' n1 n2 n3)
  exact PpSet.codeAny_compStart_set loop (T.self X.A 0 _ _ _ st4 loop)
end
section
variable {P : Program} {w : World} {J : It} {ys : List V} {G : Hp → Prop} {slot : Nat} {tt : TT} {te : TE} {vs : List Nat} {σ : L2.St} {H1 : Hp} {D : Addr} {Qd : Hp → Prop}
/-- {e for x in ys if t}: each e a text, the heap only growing -/
theorem sc_texts (wk : L2.Walk J ys.length G (YAt ys)) (hD : H1 D = none) (keep : V → Bool) (f : V → Str) (hG : ∀ H, Same H1 H → G H)
    (hw : ∀ x, wipe ((wipe σ vs).set slot (some x)) vs = wipe σ vs)
    (ht : ∀ (x : V) (H : Hp), x ∈ ys → Same H1 H → ∀ Q : Bool → Hp → Prop, Q (keep x) H → tt ((wipe σ vs).set slot (some x)) H Q)
    (he : ∀ (x : V) (H : Hp), x ∈ ys → keep x = true → Same H1 H → ∀ Q : VK, Q (.str (f x)) H → te ((wipe σ vs).set slot (some x)) H Q)
    (hn : ys.length ≤ 1000)
    (hd : ∀ (l : List Str) (H : Hp), Same H1 H → H D = some (SetXO P w D l) → l.Nodup → (∀ z, z ∈ l ↔ z ∈ (ys.filter keep).map f) → l.length ≤ ys.length → Qd H) :
    ∃ W : Nat → Nat → Hp → Prop, (∃ m, W 0 m (upd H1 D (SetXO P w D []))) ∧ ∀ i m H, W i m H →
      (J.stop i H ∧ Qd H) ∨ (J.go i H ∧ ∃ Nx : Hp → Prop, (∀ H', Nx H' → ∃ m', m' < m ∧ W (i + 1) m' H') ∧ ∀ x H', J.yld i H x H' → gName slot x (wipe σ vs) H' fun σ2 H2 => wipe σ2 vs = wipe σ vs ∧ tt σ2 H2 fun b H3 =>
        if b = true then te σ2 H3 fun y H4 => ∃ (z : Str) (l : List Str), y = .str z ∧ H4 D = some (SetXO P w D l) ∧ l.length + 1 < scanBound ∧ ∀ l', l'.Nodup → (∀ u, u ∈ l' ↔ u ∈ l ∨ u = z) → l'.length ≤ l.length + 1 → Nx (upd H4 D (SetXO P w D l')) else Nx H3) := by
  refine ⟨fun i m H => m = ys.length - i ∧ i ≤ ys.length ∧ Same H1 H ∧ ∃ l, H D = some (SetXO P w D l) ∧ l.Nodup ∧ (∀ z, z ∈ l ↔ z ∈ ((ys.take i).filter keep).map f) ∧ l.length ≤ i, ⟨ys.length, by simp, Nat.zero_le _, same_new hD, [], upd_same, List.nodup_nil, fun z => by simp, Nat.le_refl _⟩, ?_⟩
  rintro i m H ⟨rfl, hi, s, l, hl, nd, hm, hll⟩
  by_cases hlt : i < ys.length
  · refine .inr ⟨wk.goes i H hlt (hG H s), fun H' => i + 1 ≤ ys.length ∧ Same H1 H' ∧ ∃ l, H' D = some (SetXO P w D l) ∧ l.Nodup ∧ (∀ z, z ∈ l ↔ z ∈ ((ys.take (i + 1)).filter keep).map f) ∧ l.length ≤ i + 1, fun H' h' => ⟨ys.length - (i + 1), by omega, rfl, h'⟩, fun x H' hy => ?_⟩
    obtain ⟨rfl, hx⟩ := wk.yields i H x H' hlt (hG H s) hy
    have hxm : x ∈ ys := List.mem_of_getElem? hx
    have hf := filter_take_snoc (p := keep) hx
    refine ⟨hw x, ht x _ hxm s _ ?_⟩
    refine ite_b (fun e => ?_) (fun e => ?_)
    · refine he x _ hxm e s _ ⟨f x, l, rfl, hl, by unfold scanBound; omega, fun l' n1 n2 n3 => ⟨hlt, same_mut s hD, l', upd_same, n1, fun z => ?_, by omega⟩⟩
      rw [n2, hm, hf, if_pos e, List.map_append, List.mem_append]
      simp
    · refine ⟨hlt, s, l, hl, nd, fun z => ?_, by omega⟩
      rw [hm, hf, if_neg (by rw [e]; decide), List.append_nil]
  · have e : i = ys.length := by omega
    subst e
    rw [List.take_length] at hm
    exact .inl ⟨wk.stops H (hG H s), hd l H s hl nd hm hll⟩
end
end Wl

/-! {e for x in xs if t for y in ys if u}, e a text: two sources. -/
namespace Wl
open PySem PySem.Spec PyProof.Rows L2
/-- the tree of such a comprehension -/
abbrev sc2 (e : Expr) (a b : Comprehension) (scope : Scope) (pos : Pos) : Expr := .SetComp e [a, b] scope pos
section
variable {prog : Program} {w : World} {A : Around} {R : Result → Shared → Prop} {s : Shared} {e t0 i0 t1 i1 : Expr} {q0 q1 : List Expr} {scope : Scope} {pos : Pos} {it acc : Value} {env : Env}
theorem turnS_out : compTurn (sc2 e ⟨t0, i0, q0, 0⟩ ⟨t1, i1, q1, 0⟩ scope pos) 0 it acc env = (do
      standAt i0.pos
      match ← pyNext it with
      | none => pure (.done .next)
      | some v =>
        letOwnedTupleGo t0 it v
        assign t0 env v
        let mut ok := true
        for c in q0 do
          if ok then ok ← isTrue c env (eval c env)
        if ok then
          let x ← eval i1 env
          standAt i1.pos
          let x ← foldedSetIterable i1 env x
          let _ ← runOwn (.compStart (sc2 e ⟨t0, i0, q0, 0⟩ ⟨t1, i1, q1, 0⟩ scope pos) 1 (← holding [x] (pyIter x)) acc env) env
        again (.compLoop (sc2 e ⟨t0, i0, q0, 0⟩ ⟨t1, i1, q1, 0⟩ scope pos) 0 it acc env)) := by rfl
theorem turnS_in : compTurn (sc2 e ⟨t0, i0, q0, 0⟩ ⟨t1, i1, q1, 0⟩ scope pos) 1 it acc env = (do
      standAt i1.pos
      match ← pyNext it with
      | none => pure (.done .next)
      | some v =>
        letOwnedTupleGo t1 it v
        assign t1 env v
        let mut ok := true
        for c in q1 do
          if ok then ok ← isTrue c env (eval c env)
        if ok then
          (do let v ← eval e env; standAt e.pos; let _ ← call (.builtin "set.add") [acc, v])
        again (.compLoop (sc2 e ⟨t0, i0, q0, 0⟩ ⟨t1, i1, q1, 0⟩ scope pos) 1 it acc env)) := by rfl
/-- the outer loop, by a measure -/
theorem loopS_out (fo : ∀ x, foldedSetIterable i1 env x = pure x) (K : Nat → Shared → Prop)
    (step : ∀ n s, K n s → wpAny (model prog w) A (pyNext it) (fun r s1 => match r with
      | none => R (.ok .next) s1
      | some v => wpAny (model prog w) A (letOwnedTupleGo t0 it v) (fun _ s2 => wpAny (model prog w) A (assign t0 env v) (fun _ s3 =>
          wpAny (model prog w) A (forIn q0 true fun c r => if r = true then do let ok ← isTrue c env (eval c env); pure (ForInStep.yield ok) else pure (ForInStep.yield r)) (fun ok s4 =>
            if ok = true then wpAny (model prog w) A (eval i1 env) (fun x s5 => wpAny (model prog w) A (pyIter x) (fun j s6 =>
              codeAny (model prog w) A (.compStart (sc2 e ⟨t0, i0, q0, 0⟩ ⟨t1, i1, q1, 0⟩ scope pos) 1 j acc env) (fun r z => match r with
                | .ok _ => ∃ m, m < n ∧ K m z
                | .error _ => False) s6) (notedBy (model prog w) A env fun x z => R (.error x) z) s5) (notedBy (model prog w) A env fun x z => R (.error x) z) s4
            else ∃ m, m < n ∧ K m s4) (notedBy (model prog w) A env fun x z => R (.error x) z) s3) (notedBy (model prog w) A env fun x z => R (.error x) z) s2) (notedBy (model prog w) A env fun x z => R (.error x) z) s1) (notedBy (model prog w) A env fun x z => R (.error x) z) s)
    (n : Nat) (h : K n s) : codeAny (model prog w) A (.compLoop (sc2 e ⟨t0, i0, q0, 0⟩ ⟨t1, i1, q1, 0⟩ scope pos) 0 it acc env) R s := by
  refine codeAny_loop rfl K (fun n z hk => ?_) n h
  show wpAny _ A ((compTurn (sc2 e ⟨t0, i0, q0, 0⟩ ⟨t1, i1, q1, 0⟩ scope pos) 0 it acc env).onRaise (fun x => do noteFrame x env; theTreesLotGoes x)) _ _ z
  refine wpAny_noted ?_
  rw [turnS_out]
  refine wpAny_bind (wpAny_standAt (wpAny_bind (thn (step n z hk) fun r z1 k1 => ?_)))
  rcases r with _ | v
  · exact wpAny_pure k1
  refine wpAny_bind (thn k1 fun _ z2 k2 => wpAny_bind (thn k2 fun _ z3 k3 => wpAny_bind (thn k3 fun ok z4 k4 => ?_)))
  rcases ok with _ | _
  · exact wpAny_pure ⟨rfl, k4⟩
  refine wpAny_bind (thn k4 fun x z5 k5 => wpAny_bind (wpAny_standAt (wpAny_bind (wpAny_of_eq (fo x) (wpAny_bind (wpAny_holding (thn k5 fun j z6 k6 => wpAny_bind (wpAny_runOwn ?_))))))))
  rw [Around.mark_none]
  refine codeAny_mono k6 fun r z7 k7 => ?_
  rcases r with x | f
  · exact k7.elim
  · first
      | exact wpAny_pure ⟨rfl, k7⟩
      | exact wpAny_bind (wpAny_pure (wpAny_pure ⟨rfl, k7⟩))
/-- the inner loop -/
theorem loopS_in (K : Nat → Shared → Prop)
    (step : ∀ n s, K n s → wpAny (model prog w) A (pyNext it) (fun r s1 => match r with
      | none => R (.ok .next) s1
      | some v => wpAny (model prog w) A (letOwnedTupleGo t1 it v) (fun _ s2 => wpAny (model prog w) A (assign t1 env v) (fun _ s3 =>
          wpAny (model prog w) A (forIn q1 true fun c r => if r = true then do let ok ← isTrue c env (eval c env); pure (ForInStep.yield ok) else pure (ForInStep.yield r)) (fun ok s4 =>
            if ok = true then wpAny (model prog w) A (eval e env) (fun x s5 =>
              wpAny (model prog w) A (call (.builtin "set.add") [acc, x]) (fun _ s6 => ∃ m, m < n ∧ K m s6) (notedBy (model prog w) A env fun x z => R (.error x) z) s5) (notedBy (model prog w) A env fun x z => R (.error x) z) s4
            else ∃ m, m < n ∧ K m s4) (notedBy (model prog w) A env fun x z => R (.error x) z) s3) (notedBy (model prog w) A env fun x z => R (.error x) z) s2) (notedBy (model prog w) A env fun x z => R (.error x) z) s1) (notedBy (model prog w) A env fun x z => R (.error x) z) s)
    (n : Nat) (h : K n s) : codeAny (model prog w) A (.compLoop (sc2 e ⟨t0, i0, q0, 0⟩ ⟨t1, i1, q1, 0⟩ scope pos) 1 it acc env) R s := by
  refine codeAny_loop rfl K (fun n z hk => ?_) n h
  show wpAny _ A ((compTurn (sc2 e ⟨t0, i0, q0, 0⟩ ⟨t1, i1, q1, 0⟩ scope pos) 1 it acc env).onRaise (fun x => do noteFrame x env; theTreesLotGoes x)) _ _ z
  refine wpAny_noted ?_
  rw [turnS_in]
  refine wpAny_bind (wpAny_standAt (wpAny_bind (thn (step n z hk) fun r z1 k1 => ?_)))
  rcases r with _ | v
  · exact wpAny_pure k1
  refine wpAny_bind (thn k1 fun _ z2 k2 => wpAny_bind (thn k2 fun _ z3 k3 => wpAny_bind (thn k3 fun ok z4 k4 => ?_)))
  rcases ok with _ | _
  · exact wpAny_pure ⟨rfl, k4⟩
  · exact wpAny_bind (wpAny_bind (thn k4 fun x z5 k5 => wpAny_bind (wpAny_standAt (wpAny_bind (thn k5 fun _ z6 k6 => wpAny_pure (wpAny_pure ⟨rfl, k6⟩))))))
theorem startS_in (h0 : codeAny (model prog w) A (.compLoop (sc2 e ⟨t0, i0, q0, 0⟩ ⟨t1, i1, q1, 0⟩ scope pos) 1 it acc env) R s)
    (h : wpAny (model prog w) A (pyIter it) (fun j z => codeAny (model prog w) A (.compLoop (sc2 e ⟨t0, i0, q0, 0⟩ ⟨t1, i1, q1, 0⟩ scope pos) 1 j acc env) R z) (notedBy (model prog w) A env fun x z => R (.error x) z) s) :
    codeAny (model prog w) A (.compStart (sc2 e ⟨t0, i0, q0, 0⟩ ⟨t1, i1, q1, 0⟩ scope pos) 1 it acc env) R s := by
  refine codeAny_of_tree ?_
  show wpAny _ _ ((compStart (sc2 e ⟨t0, i0, q0, 0⟩ ⟨t1, i1, q1, 0⟩ scope pos) 1 it acc env).onRaise (fun x => do noteFrame x env; standAt theWindowsPlace)) _ _ s
  refine wpAny_notedAt ?_
  unfold compStart
  show wpAny _ _ (ask >>= _) _ _ s
  refine wpAny_bind (wpAny_askSetting (wpAny_ite ?_))
  have fin := fun (k : wpAny (model prog w) A (pyIter it) (fun j z => codeAny (model prog w) A (.compLoop (sc2 e ⟨t0, i0, q0, 0⟩ ⟨t1, i1, q1, 0⟩ scope pos) 1 j acc env) R z) (notedBy (model prog w) A env fun x z => R (.error x) z) s) => k
  split
  · first
      | exact wpAny_pure ⟨rfl, h0⟩
      | exact wpAny_bind (wpAny_pure (wpAny_pure ⟨rfl, h0⟩))
  · refine wpAny_bind (wpAny_rule ?_)
    show wpAny _ _ (standAt i1.pos >>= _) _ _ s
    exact wpAny_bind (wpAny_standAt (wpAny_bind (thn (fin h) fun j z k => wpAny_pure ⟨rfl, k⟩)))
end
section
variable {X : Cx}
/-- what it asks: Nx reached from the inner source's own loop -/
def tScX2 (P : Program) (w : World) (wi : TI) (g : TG) (tt : TT) (wj : TI) (gj : TG) (tj : TT) (te : TE) (vs us : List Nat) : TE := fun σ H Q => wi σ H fun J H1 => ∀ D, H1 D = none → ∃ W : Nat → Nat → Hp → Prop, (∃ m, W 0 m (upd H1 D (SetXO P w D []))) ∧ ∀ i m H, W i m H →
  (J.stop i H ∧ Q (.ref D) H) ∨ (J.go i H ∧ ∃ Nx : Hp → Prop, (∀ H', Nx H' → ∃ m', m' < m ∧ W (i + 1) m' H') ∧ ∀ x H', J.yld i H x H' → g x (wipe σ vs) H' fun σ2 H2 => wipe σ2 vs = wipe σ vs ∧ tt σ2 H2 fun b H3 =>
    if b = true then wj σ2 H3 fun L H4 => ∃ U : Nat → Nat → Hp → Prop, (∃ m, U 0 m H4) ∧ ∀ j k H, U j k H →
      (L.stop j H ∧ Nx H) ∨ (L.go j H ∧ ∃ Ny : Hp → Prop, (∀ H', Ny H' → ∃ k', k' < k ∧ U (j + 1) k' H') ∧ ∀ x H', L.yld j H x H' → gj x (wipe σ2 us) H' fun σ3 H5 => wipe σ3 us = wipe σ2 us ∧ tj σ3 H5 fun b H6 =>
        if b = true then te σ3 H6 fun y H7 => ∃ (z : Str) (l : List Str), y = .str z ∧ H7 D = some (SetXO P w D l) ∧ l.length + 1 < scanBound ∧ ∀ l', l'.Nodup → (∀ u, u ∈ l' ↔ u ∈ l ∨ u = z) → l'.length ≤ l.length + 1 → Ny (upd H7 D (SetXO P w D l')) else Ny H6)
    else Nx H3)
theorem pe_scX2 {elt tg iter tj' iter1 : Expr} {ifs ifs1 : List Expr} {scope : Scope} {own : List (PySem.Str × Nat)} {us : List Nat} {pos : Pos} {wi wj : TI} {g gj : TG} {tt tj : TT} {te : TE} (hcalm : X.calm = true) (nd : X.N.Nodup) (pit : PI X tg iter wi) (bok : BlkOk X.N X.env.scope scope own) (hus : ∀ i ∈ us, i ∈ own.map (·.2))
    (gg : ∀ (s : Shared) (H : Hp) (C : Addr) (cl : List (PySem.Str × Addr)) (fp : List Addr), PG (X.blk s H scope (compEnvC scope cl C X.env) fp) tg g) (gt : ∀ (s : Shared) (H : Hp) (C : Addr) (cl : List (PySem.Str × Addr)) (fp : List Addr), PTs (X.blk s H scope (compEnvC scope cl C X.env) fp) ifs tt)
    (gi : ∀ (s : Shared) (H : Hp) (C : Addr) (cl : List (PySem.Str × Addr)) (fp : List Addr), PI (X.blk s H scope (compEnvC scope cl C X.env) fp) tj' iter1 wj)
    (gh : ∀ (s : Shared) (H : Hp) (C : Addr) (cl : List (PySem.Str × Addr)) (fp : List Addr), PG (X.blk s H scope (compEnvC scope cl C X.env) fp) tj' gj) (gu : ∀ (s : Shared) (H : Hp) (C : Addr) (cl : List (PySem.Str × Addr)) (fp : List Addr), PTs (X.blk s H scope (compEnvC scope cl C X.env) fp) ifs1 tj)
    (ge : ∀ (s : Shared) (H : Hp) (C : Addr) (cl : List (PySem.Str × Addr)) (fp : List Addr), PE (X.blk s H scope (compEnvC scope cl C X.env) fp) elt te) (hfold : ∀ x, foldedSetIterable iter X.env x = pure x := by intro _; rfl) (hfold1 : ∀ env x, foldedSetIterable iter1 env x = pure x := by intro _ _; rfl) :
    PE X (.SetComp elt [⟨tg, iter, ifs, 0⟩, ⟨tj', iter1, ifs1, 0⟩] scope pos) (tScX2 X.prog X.w wi g tt wj gj tj te (own.map (·.2)) us) := by
  refine ⟨fun pins s σ H Q I rd => ?_⟩
  rw [PpSet.eval_SetComp]
  have frees : ∀ y ∈ scope.names, y.2 = .free → ∃ c, X.env.cells.lookup y.1 = some c := fun y hy e => by
    rcases bok.free y hy e with q | q
    · exact I.ok.has _ (.inl q)
    · exact I.ok.has _ (.inr q)
  refine wpAny_comprehension_free (use := none) rfl hfold (closure_ok frees) bok.kind (fun y hy e => by rw [bok.uniq y hy, e]) (thn (pit.run pins s σ H _ I rd) fun xv s1 hx => thn hx fun itv s2 h2 => ?_)
  obtain ⟨it, fp, tn, J, H2, e, I2, T, st2, f2, q⟩ := h2
  subst e
  refine PpSet.newSet_ok (newEnv_comp ?_)
  obtain ⟨D, hD⟩ : ∃ D, s2.heap.objs.size = D := ⟨_, rfl⟩
  obtain ⟨W, ⟨m0, w0⟩, turn⟩ := q D (I2.hok.fresh (Nat.le_of_eq hD))
  obtain ⟨s3, hs3⟩ : ∃ s3 : Shared, ({ s2 with heap := s2.heap.push (setN X.w) } : Shared) = s3 := ⟨_, rfl⟩
  obtain ⟨H3, hH3⟩ : ∃ H3, upd H2 D (SetXO X.prog X.w D []) = H3 := ⟨_, rfl⟩
  have heap3 : s3.heap = s2.heap.push (setN X.w) := by rw [← hs3]
  have I3 : L2.Inv X pins σ H3 s3 := by
    rw [← hs3, ← hH3]
    refine I2.laid (t' := s2.toks) (fun b o e => Heap.get?_push_of_some _ e) (Nat.le_of_eq hD) ?_
    rw [← hD]
    exact setXO_ok (setX_new (Heap.get?_push_size _ rfl))
  have f3 : ∀ b ∈ fp, FpOk X pins H3 b ∧ b < s3.heap.objs.size := fun b hb => by
    obtain ⟨o, e, _⟩ := T.obj _ _ st2 b hb
    have lt := Heap.lt_size e
    refine ⟨⟨?_, (f2 b hb).2⟩, by rw [heap3, Heap.size_push]; exact Nat.lt_succ_of_lt lt⟩
    rw [← hH3, upd_ne (by rw [← hD]; exact Nat.ne_of_lt lt)]
    exact (f2 b hb).1
  have none3 : ∀ b ∈ fp, H3 b = none := fun b hb => (f3 b hb).1.1
  rw [hH3] at w0
  show codeAny _ _ (.compStart (.SetComp elt [⟨tg, iter, ifs, 0⟩, ⟨tj', iter1, ifs1, 0⟩] scope pos) 0 (.ref it) (.ref s2.heap.objs.size) (compEnvC scope (cellsFrom ((s2.heap.push (setN X.w)).objs.size + 1) scope.names (cloFrom X.env.cells scope.names [])) (s2.heap.push (setN X.w)).objs.size X.env)) (compPost (model X.prog X.w) X.A X.xe none _ (.ref s2.heap.objs.size) (s2.heap.push (setN X.w)).objs.size) { s2 with heap := pushCells ((s2.heap.push (setN X.w)).push { cls := .type "dict", data := .dict #[] }) scope.names }
  rw [← heap3, hD]
  have st3 : tn 0 s3.heap := T.keep _ _ _ st2 fun b _ o e => by rw [heap3]; exact Heap.get?_push_of_some _ e
  have I4 := block_start I3 bok nd f3
  obtain ⟨ce, hce⟩ : ∃ ce, compEnvC scope (cellsFrom (s3.heap.objs.size + 1) scope.names (cloFrom X.env.cells scope.names [])) s3.heap.objs.size X.env = ce := ⟨_, rfl⟩
  have pg := gg s3 H3 s3.heap.objs.size (cellsFrom (s3.heap.objs.size + 1) scope.names (cloFrom X.env.cells scope.names [])) fp
  have pt := gt s3 H3 s3.heap.objs.size (cellsFrom (s3.heap.objs.size + 1) scope.names (cloFrom X.env.cells scope.names [])) fp
  have pe := ge s3 H3 s3.heap.objs.size (cellsFrom (s3.heap.objs.size + 1) scope.names (cloFrom X.env.cells scope.names [])) fp
  have pj := gi s3 H3 s3.heap.objs.size (cellsFrom (s3.heap.objs.size + 1) scope.names (cloFrom X.env.cells scope.names [])) fp
  have ph := gh s3 H3 s3.heap.objs.size (cellsFrom (s3.heap.objs.size + 1) scope.names (cloFrom X.env.cells scope.names [])) fp
  have pu := gu s3 H3 s3.heap.objs.size (cellsFrom (s3.heap.objs.size + 1) scope.names (cloFrom X.env.cells scope.names [])) fp
  have locs : ce.locals = s3.heap.objs.size := by rw [← hce]; rfl
  rw [hce] at I4 pg pt pe pj ph pu ⊢
  obtain ⟨s4, hs4⟩ : ∃ s4 : Shared, ({ s3 with heap := pushCells (s3.heap.push { cls := .type "dict", data := .dict #[] }) scope.names } : Shared) = s4 := ⟨_, rfl⟩
  have es4 : ({ s2 with heap := pushCells (s3.heap.push { cls := .type "dict", data := .dict #[] }) scope.names } : Shared) = s4 := by
    rw [← hs4, ← hs3]
  rw [hs4] at I4
  rw [es4]
  have st4 : tn 0 s4.heap := T.keep _ _ _ st3 fun b _ o e => by rw [← hs4]; exact pushCells_keeps _ _ _ _ (Heap.get?_push_of_some _ e)
  have calmFp : ∀ {σ' : L2.St} {H' : Hp} {s' : Shared}, L2.Inv (X.blk s3 H3 scope ce fp) [] σ' H' s' → (∀ b ∈ fp, H' b = none) → ∀ b ∈ fp, FpOk (X.blk s3 H3 scope ce fp) [] H' b := fun {σ' H' s'} I' hn b hb =>
    ⟨hn b hb, (I'.ok.exf b hb).1, I'.ok.exfs b hb, .inl hb, fun x c e => (I'.ok.exf b hb).2 x c e, fun r hr => absurd (show r ∈ ([] : List (Addr × Obj)) ++ [] from hr) (by simp)⟩
  have loop : codeAny (model X.prog X.w) X.A (.compLoop (.SetComp elt [⟨tg, iter, ifs, 0⟩, ⟨tj', iter1, ifs1, 0⟩] scope pos) 0 (.ref it) (.ref D) ce) (compPost (model X.prog X.w) X.A X.xe none (fun v s' => ∃ x H', L2.Inv X pins σ H' s' ∧ RelV x v ∧ Q x H') (.ref D) s3.heap.objs.size) s4 := by
    refine loopS_out (hfold1 ce) (fun n s' => ∃ i H', L2.Inv (X.blk s3 H3 scope ce fp) [] (wipe σ (own.map (·.2))) H' s' ∧ tn i s'.heap ∧ (∀ b ∈ fp, H' b = none) ∧ W i n H') ?_ m0 ⟨0, H3, I4, st4, none3, w0⟩
    rintro n s5 ⟨i, H5, I5, st5, n5, w5⟩
    rcases turn i n H5 w5 with ⟨stop, qq⟩ | ⟨go, Nx, hNx, step⟩
    · refine thnF (T.done (X.blk s3 H3 scope ce fp) rfl rfl rfl hcalm i [] s5 _ H5 (fun _ _ => False) I5 (calmFp I5 n5) st5 stop) fun r s6 ⟨hr, I6⟩ => ?_
      subst hr
      have I7 : L2.Inv X pins σ H5 s6 := I3.call' (ch := fp) I6.os I6.base I6.hok I6.bare fun b hb => ⟨(f3 b hb).1.2.2.2.1, (f3 b hb).1.2.1, (f3 b hb).1.2.2.2.2.1, (f3 b hb).1.2.2.2.2.2⟩
      have nC : H5 s3.heap.objs.size = none := by
        have z : H5 ce.locals = none := I6.free
        rw [locs] at z
        exact z
      obtain ⟨m, hn, _⟩ := I6.loc
      have hn : s6.heap.Ns ce.locals m := hn
      rw [locs] at hn
      obtain ⟨k0, k1, k2, k3, k4, k5⟩ := I3.fpOk (Nat.le_refl _) nC
      exact ⟨m, hn, fun h'' sb => ⟨.ref D, H5, I7.turned (t' := s6.toks) (fun b o hb e => (sb.2 b hb).trans e) k0 k1 k3 k4 k5, rfl, qq⟩⟩
    · refine thnF (T.item (X.blk s3 H3 scope ce fp) rfl rfl rfl hcalm i [] s5 _ H5 (fun _ _ => False) I5 (calmFp I5 n5) st5 go) fun r s6 ⟨u, hr, h6⟩ => ?_
      subst hr
      refine thnF h6 fun _ s7 ⟨x, H7, I7, r7, y7, st7, n7⟩ => ?_
      have I7' := I7.pinned (calmFp I7 n7) (T.obj _ _ st7)
      refine thnF (pg.run _ s7 _ H7 x u _ I7' r7 (step x H7 y7)) fun _ s8 ⟨σ8, H8, I8, hw8, q8⟩ => thnF (pt.run _ s8 σ8 H8 _ I8 q8) fun b s9 ⟨H9, I9, q9⟩ => ?_
      have next : ∀ {σ9 : L2.St} {s' : Shared} {H' : Hp}, L2.Inv (X.blk s3 H3 scope ce fp) ([] ++ pinsAt fp s7.heap) σ9 H' s' → (wipe σ (own.map (·.2))).length = σ9.length → (∀ (j : Nat) v, (wipe σ (own.map (·.2)))[j]? = some (some v) → σ9[j]? = some (some v)) → Nx H' → ∃ m, m < n ∧ ∃ i H', L2.Inv (X.blk s3 H3 scope ce fp) [] (wipe σ (own.map (·.2))) H' s' ∧ tn i s'.heap ∧ (∀ b ∈ fp, H' b = none) ∧ W i m H' := fun {σ9 s' H'} I' len kn nx => by
        obtain ⟨m', hm, w'⟩ := hNx H' nx
        have held : ∀ b ∈ fp, ∀ o, s7.heap.get? b = some o → s'.heap.get? b = some o ∧ H' b = none := fun b hb o e => by
          have z := I'.pin (b, o) (List.mem_append_right _ (List.mem_append_right _ (mem_pinsAt hb e)))
          exact ⟨z.1, z.2.1⟩
        refine ⟨m', hm, i + 1, H', (I'.unpinned (pins := [])).weak len kn, T.keep _ _ _ st7 fun b hb o e => (held b hb o e).1, fun b hb => ?_, w'⟩
        obtain ⟨o, e, _⟩ := T.obj _ _ st7 b hb
        exact (held b hb o e).2
      have len8 : (wipe σ (own.map (·.2))).length = σ8.length := by rw [← hw8, wipe_length]
      have kn8 : ∀ (j : Nat) v, (wipe σ (own.map (·.2)))[j]? = some (some v) → σ8[j]? = some (some v) ∧ (wipe σ8 us)[j]? = some (some v) := fun j v e => by
        rw [← hw8] at e
        have z := wipe_some e
        exact ⟨z.1, by rw [wipe_out fun y => z.2 (hus j y)]; exact z.1⟩
      cases b with
      | false =>
        simp only [Bool.false_eq_true, if_false] at q9 ⊢
        exact next I9 len8 (fun j v e => (kn8 j v e).1) q9
      | true =>
        simp only [if_true] at q9 ⊢
        refine thnF (pj.run _ s9 σ8 H9 _ I9 q9) fun xv s10 hx => thnF hx fun itv s11 h11 => ?_
        obtain ⟨jt, fj, tm, L, H11, ej, I11, T1, st11, f11, U, ⟨m1, w1⟩, turn1⟩ := h11
        subst ej
        have calm1 : ∀ {H' : Hp}, (∀ b ∈ fj, H' b = none) → ∀ b ∈ fj, FpOk (X.blk s3 H3 scope ce fp) ([] ++ pinsAt fp s7.heap) H' b := fun hn b hb => ⟨hn b hb, (f11 b hb).2⟩
        have inner : codeAny (model X.prog X.w) X.A (.compLoop (.SetComp elt [⟨tg, iter, ifs, 0⟩, ⟨tj', iter1, ifs1, 0⟩] scope pos) 1 (.ref jt) (.ref D) ce)
            (fun r s' => match r with
              | .ok _ => ∃ m, m < n ∧ ∃ i H', L2.Inv (X.blk s3 H3 scope ce fp) [] (wipe σ (own.map (·.2))) H' s' ∧ tn i s'.heap ∧ (∀ b ∈ fp, H' b = none) ∧ W i m H'
              | .error _ => False) s11 := by
          refine loopS_in (fun k s' => ∃ j H', L2.Inv (X.blk s3 H3 scope ce fp) ([] ++ pinsAt fp s7.heap) (wipe σ8 us) H' s' ∧ tm j s'.heap ∧ (∀ b ∈ fj, H' b = none) ∧ U j k H') ?_ m1 ⟨0, H11, I11.weak (wipe_length _ _) (fun j v e => (wipe_some e).1), st11, fun b hb => (f11 b hb).1, w1⟩
          rintro k s12 ⟨j, H12, I12, st12, n12, w12⟩
          rcases turn1 j k H12 w12 with ⟨stop1, nx1⟩ | ⟨go1, Ny, hNy, step1⟩
          · refine thnF (T1.done (X.blk s3 H3 scope ce fp) rfl rfl rfl hcalm j _ s12 (wipe σ8 us) H12 (fun _ _ => False) I12 (calm1 n12) st12 stop1) fun r s13 ⟨hr, I13⟩ => ?_
            subst hr
            exact next I13 (len8.trans (wipe_length σ8 us).symm) (fun j v e => (kn8 j v e).2) nx1
          · refine thnF (T1.item (X.blk s3 H3 scope ce fp) rfl rfl rfl hcalm j _ s12 (wipe σ8 us) H12 (fun _ _ => False) I12 (calm1 n12) st12 go1) fun r s13 ⟨u1, hr, h13⟩ => ?_
            subst hr
            refine thnF h13 fun _ s14 ⟨x1, H14, I14, r14, y14, st14, n14⟩ => ?_
            have I14' := I14.pinned (calm1 n14) (T1.obj _ _ st14)
            refine thnF (ph.run _ s14 (wipe σ8 us) H14 x1 u1 _ I14' r14 (step1 x1 H14 y14)) fun _ s15 ⟨σ15, H15, I15, hw15, q15⟩ => thnF (pu.run _ s15 σ15 H15 _ I15 q15) fun b1 s16 ⟨H16, I16, q16⟩ => ?_
            have next1 : ∀ {s' : Shared} {H' : Hp}, L2.Inv (X.blk s3 H3 scope ce fp) (([] ++ pinsAt fp s7.heap) ++ pinsAt fj s14.heap) σ15 H' s' → Ny H' → ∃ m, m < k ∧ ∃ j H', L2.Inv (X.blk s3 H3 scope ce fp) ([] ++ pinsAt fp s7.heap) (wipe σ8 us) H' s' ∧ tm j s'.heap ∧ (∀ b ∈ fj, H' b = none) ∧ U j m H' := fun {s' H'} I' nx => by
              obtain ⟨m', hm, w'⟩ := hNy H' nx
              have held : ∀ b ∈ fj, ∀ o, s14.heap.get? b = some o → s'.heap.get? b = some o ∧ H' b = none := fun b hb o e => by
                have z := I'.pin (b, o) (List.mem_append_right _ (List.mem_append_right _ (mem_pinsAt hb e)))
                exact ⟨z.1, z.2.1⟩
              refine ⟨m', hm, j + 1, H', I'.unpinned.weak (by rw [← hw15, wipe_length]) (fun j v e => by rw [← hw15] at e; exact (wipe_some e).1), T1.keep _ _ _ st14 fun b hb o e => (held b hb o e).1, fun b hb => ?_, w'⟩
              obtain ⟨o, e, _⟩ := T1.obj _ _ st14 b hb
              exact (held b hb o e).2
            cases b1 with
            | false =>
              simp only [Bool.false_eq_true, if_false] at q16 ⊢
              exact next1 I16 q16
            | true =>
              simp only [if_true] at q16 ⊢
              refine thnF (pe.run _ s16 σ15 H16 _ I16 q16) fun z s17 ⟨yv, H17, I17, r17, zt, l0, ey, hD17, hz17, nx⟩ => ?_
              subst ey
              obtain ⟨tk, rfl⟩ := r17
              exact putX_ok (X := X.blk s3 H3 scope ce fp) I17 hD17 hz17 fun s18 l' n1 n2 n3 I18 => next1 I18 (nx l' n1 n2 n3)
        exact startS_in inner (T1.self X.A 0 _ _ _ st11 inner)
  exact PpSet.codeAny_compStart_set loop (T.self X.A 0 _ _ _ st4 loop)
end
end Wl

/-! dicts by texts while a loop goes over their keys; sorted of what a set holds. -/
namespace Wl
open PySem PySem.Spec PyProof.Rows L2
theorem sortS_alike {l m : List Str} (h1 : l.Nodup) (h2 : m.Nodup) (hm : ∀ z, z ∈ l ↔ z ∈ m) : sortS l = sortS m := sortS_eq h2 (sortS_rising h1) fun z => by rw [mem_sortS, hm]
theorem unlock_as {H H' : Hp} {d : Addr} {u x : HO} (hd : H d = some u) (s : Same (upd H d x) H') : Same H (upd H' d u) := fun b o e => by
  by_cases c : b = d
  · subst c
    rw [upd_same, ← hd]
    exact e
  · rw [upd_ne c]
    exact s b o (by rw [upd_ne c]; exact e)
theorem lock_free {H : Hp} {d p : Addr} {x : HO} (h : upd H d x p = none) : H p = none := by
  by_cases c : p = d
  · rw [c, upd_same] at h
    cases h
  · rw [upd_ne c] at h
    exact h
theorem walk_kz {d : Addr} {o : Obj} {ad : Str → V} {nms : List Str} : L2.Walk (Itk d o (kvZ ad nms)) (nms.map V.str).length (fun H => H d = some (.frz o (.dK (kvZ ad nms)))) (YAt (nms.map V.str)) := by
  have e : (nms.map V.str).length = (kvZ ad nms).length := by rw [List.length_map, kvZ_len]
  rw [e]
  refine walk_keys.mono (fun H h => h) fun i H x H' hi hG hy => ?_
  obtain ⟨rfl, k, v, h1, h2⟩ := hy
  refine ⟨rfl, ?_⟩
  unfold kvZ at h1
  rw [List.getElem?_map] at h1
  obtain ⟨z, hz, e2⟩ := Option.map_eq_some_iff.mp h1
  rw [List.getElem?_map, hz, h2, ← (Prod.mk.inj e2).1]
  rfl
theorem dget_fz {H : Hp} {d : Addr} {o : Obj} {ad : Str → V} {nms : List Str} {z : Str} (h : H d = some (.frz o (.dK (kvZ ad nms)))) (hz : z ∈ nms) : DGet H d (.str z) (some (ad z)) := .inl ⟨_, Sum.inr z, .inr ⟨o, h⟩, rfl, (valV_in hz).symm⟩
end Wl

/-! the places of the villages that have a word; the edges about them -/
namespace Wl
open PySem PySem.Spec PyProof.Rows L2
noncomputable def insP (g : Grid) (sh : Str → List Str) (m : Str) : List Pt := ((sortS (names g)).filter fun y => decide (m ∈ sh y)).map (spotI g)
theorem pt_depth (p : Pt) : (encPt p).depth ≤ 8 := by simp [encPt, PyData.depth, PyData.depthAll]
theorem ed_depth (e : Ed) : (encEd e).depth ≤ 8 := by simp [encEd, encPt, PyData.depth, PyData.depthAll]
theorem ShAt.same {H H' : Hp} {d : Addr} {nms : List Str} {sh : Str → List Str} (h : ShAt H d nms sh) (s : Same H H') : ShAt H' d nms sh := by
  obtain ⟨ad, h1, h2⟩ := h
  exact ⟨ad, s _ _ h1, fun z hz => s _ _ (h2 z hz)⟩
section
variable {P : Program} {w : World} {K : PySem.W.Frag} {mg : Str → Option Value} {base : Heap} {f C D W : Addr} {fd : FuncData}
def spInside : Sp := fun vs H Q _ => ∃ (L d : Addr) (g : Grid) (wd : Nat) (sh : Str → List Str) (m : Str), vs = [.ref L, .ref d, .str m] ∧ GridAt H L g ∧ Good g wd ∧ ShAt H d (sortS (names g)) sh ∧
  ∀ (t : Addr) (as : List Addr) (H' : Hp), Same H H' → H' t = some (.lst (as.map V.ref)) → PtsAt H' as (sortE encPt (insP g sh m)) → Q (.ref t) H'
abbrev nInside : List Str := ["_law_rows", "_law_shown_here", "_law_meant", "_law_spots_here", "_law_label"]
abbrev psInside : List Str := ["_law_rows", "_law_shown_here", "_law_meant"]
theorem scInside : FnScope nInside psInside (defScope sInside) := ⟨rfl, rfl, rfl, by decide +kernel, rfl, by decide +kernel, by decide +kernel⟩
theorem ok_inside (F : Fun K "_law_inside" "_law_inside" sInside f fd) (B : Bi mg) (hSp : Has P w K mg base "_law_spots" 1 ["_law_rows"] spLSpots) : FnOk P w K mg base CX0 2 f fd psInside spInside := by
  refine F.ok scInside (fun vs H Q E h => ?_) (fun cdv A outer s H vs Q E hr h => ?_)
  · obtain ⟨L, d, g, wd, sh, m, rfl, _⟩ := h
    rfl
  · obtain ⟨L, d, g, wd, sh, m, rfl, hL, gd, hSh, q⟩ := h
    have hu := hu_of hr
    refine ⟨_, pss_cons (ps_set (i := 3) scInside.nd rfl (.inr rfl) (pe_h hSp hr (pa_cons (pv 0) pa_nil)))
      (pss_one (ps_ret (pe_callB (cr_sortD hr.units) (by rfl) B.sorted (by decide +kernel) (pa_cons (pe_lock (pe_lc (own := [("_law_label", 4)]) (g := gName 4) (tt := tTest (tOp (rIn K false) (tVar 2) (tDGet (tVar 1) (tVar 4)))) (te := tDGet (tVar 3) (tVar 4)) rfl scInside.nd (pi_keys (pv 1)) (blkOk_by (N := nInside) (sc := defScope sInside) (by decide +kernel))
        (fun _ _ _ _ _ => pg_name (i := 4) scInside.nd rfl (.inl rfl)) (fun _ _ _ _ _ => pts_one (pt_cmpR op_in_seq (pv 2) (pe_dget hu (pv 1) (pv 4) (fun _ _ => rfl)) (by rfl))) (fun _ _ _ _ _ => pe_dget hu (pv 3) (pv 4) (fun _ _ => rfl)))) pa_nil)))), ?_⟩
    refine ⟨_, rfl, L, g, wd, rfl, hL, gd, fun sd H1 nsd s1 hS1 => ?_⟩
    obtain ⟨ad, hd, hl⟩ := hSh.same s1
    obtain ⟨kvs, hsd, hE⟩ := hS1
    have nds : d ≠ sd := fun z => by
      obtain ⟨_, h0, _⟩ := hSh
      rw [z, nsd] at h0
      cases h0
    have ndn : (sortS (names g)).Nodup := sortS_nodup gd.nd
    have ln : (sortS (names g)).length ≤ 36 := by rw [sortS_len]; exact gd.n36
    obtain ⟨nms, hnms⟩ : ∃ nms, nms = sortS (names g) := ⟨_, rfl⟩
    rw [← hnms] at hd hl ndn ln
    have q : ∀ (t : Addr) (as : List Addr) (H' : Hp), Same H H' → H' t = some (.lst (as.map V.ref)) → PtsAt H' as (sortE encPt ((nms.filter fun y => decide (m ∈ sh y)).map (spotI g))) → Q (.ref t) H' := by
      rw [hnms]
      exact q
    have nmem : ∀ z ∈ nms, ∃ r c, cellAt g r c = some z := fun z hz => mem_names.mp (mem_sortS.mp (by rw [← hnms]; exact hz))
    refine ⟨d, _, hd, trivial, fun od => ?_⟩
    have hf2 : upd H1 d (.frz od (.dK (kvZ (fun z => .ref (ad z)) nms))) d = some (.frz od (.dK (kvZ (fun z => .ref (ad z)) nms))) := upd_same
    have hl2 : ∀ z ∈ nms, upd H1 d (.frz od (.dK (kvZ (fun z => .ref (ad z)) nms))) (ad z) = some (.lst ((sh z).map V.str)) := fun z hz => by
      rw [upd_ne fun e => by have := hl z hz; rw [e, hd] at this; cases this]
      exact hl z hz
    have hs2 : upd H1 d (.frz od (.dK (kvZ (fun z => .ref (ad z)) nms))) sd = some (.dK kvs) := by
      rw [upd_ne nds.symm]
      exact hsd
    have tk2 : TupKeep H1 (upd H1 d (.frz od (.dK (kvZ (fun z => .ref (ad z)) nms)))) := tk_updD hd
    have hE2 := ent_keep tk2 hE
    have unl : ∀ {H'}, Same (upd H1 d (.frz od (.dK (kvZ (fun z => .ref (ad z)) nms)))) H' → Same H1 (upd H' d (.dK (kvZ (fun z => .ref (ad z)) nms))) := fun s' => unlock_as hd s'
    generalize upd H1 d (.frz od (.dK (kvZ (fun z => .ref (ad z)) nms))) = H2 at hf2 hl2 hs2 hE2 unl ⊢
    refine ⟨_, rfl, d, od, rfl, .inl ⟨_, hf2, fun Dd hD => lc_it (walk_kz (d := d) (o := od) (ad := fun z => .ref (ad z)) (nms := nms)) (fun i H' => Same H2 H' ∧ ∃ ps : List Addr, H' Dd = some (.lst (ps.map V.ref)) ∧ PtsAt H' ps (((nms.take i).filter fun y => decide (m ∈ sh y)).map (spotI g)) ∧ ps.length ≤ i)
      ⟨same_new hD, [], upd_same, .nil, Nat.le_refl _⟩ (fun i H' _ h => h.1 _ _ hf2) ?_ ?_⟩⟩
    · rintro i x H3 H4 hi ⟨s3, ps, hD3, hP3, hl3⟩ ⟨rfl, hx⟩
      rw [List.getElem?_map] at hx
      obtain ⟨z, hz, rfl⟩ := Option.map_eq_some_iff.mp hx
      have hzm := List.mem_of_getElem? hz
      have hi36 : i < 36 := by have := (List.getElem?_eq_some_iff.mp hz).1; omega
      have ft := filter_take_snoc (p := fun y => decide (m ∈ sh y)) hz
      refine ⟨rfl, _, rfl, _, rfl, _, rfl, d, _, rfl, dget_fz (s3 _ _ hf2) hzm, ad z, (sh z).map V.str, rfl, .inl (.inl (.inl (s3 _ _ (hl2 z hzm)))), rfl, flat_strs _, _, rfl, ?_⟩
      rw [show (if false = true then !inV (V.str m) ((sh z).map V.str) else inV (V.str m) ((sh z).map V.str)) = inV (V.str m) ((sh z).map V.str) from rfl, inV_strs]
      by_cases hm : m ∈ sh z
      · rw [decide_eq_true hm]
        obtain ⟨r, c, hc⟩ := nmem z hzm
        obtain ⟨t, ht, hpt⟩ := ent_some hE2 (by rw [spG_fst]; exact gd.nd) (spG_cell.mpr hc)
        have pt : PtAt H4 t (spotI g z) := by
          rw [spotI_at gd.nd hc]
          exact s3 _ _ hpt
        have dg : DGet H4 sd (.str z) (some (.ref t)) := by
          have := DGet.k (k := Sum.inr z) (s3 _ _ hs2)
          rw [ht] at this
          exact this
        have tk := tk_upd (o := .lst (ps.map V.ref ++ [V.ref t])) hD3
        refine iteT ⟨_, rfl, _, rfl, sd, _, rfl, dg, _, hD3, by rw [List.length_map]; exact small1000 (by omega), same_mut s3 hD, ps ++ [t], by rw [upd_same, List.map_append]; rfl, ?_, by rw [List.length_append]; show ps.length + 1 ≤ _; omega⟩
        rw [ft, if_pos (decide_eq_true hm), List.map_append]
        exact Each.append (hP3.keep tk) (.cons (pt.keep tk) .nil)
      · rw [decide_eq_false hm]
        refine iteF ⟨s3, ps, hD3, ?_, by omega⟩
        rw [ft, if_neg (by rw [decide_eq_false hm]; decide), List.append_nil]
        exact hP3
    · rintro H3 ⟨s3, ps, hD3, hP3, hl3⟩
      rw [List.length_map, List.take_length] at hP3
      refine ⟨s3 _ _ hf2, ?_⟩
      have sU := unl s3
      have nDd : Dd ≠ d := (ne_of_none hf2 hD).symm
      have hD4 : upd H3 d (.dK (kvZ (fun z => .ref (ad z)) nms)) Dd = some (.lst (ps.map V.ref)) := by rw [upd_ne nDd]; exact hD3
      have tk4 : TupKeep H3 (upd H3 d (.dK (kvZ (fun z => .ref (ad z)) nms))) := fun b xs e => by
        rw [upd_ne fun z => by rw [z, s3 _ _ hf2] at e; cases e]
        exact e
      have hP4 := hP3.keep tk4
      generalize upd H3 d (.dK (kvZ (fun z => .ref (ad z)) nms)) = H4 at sU hD4 hP4 ⊢
      unfold tNil
      refine sort_encM (K := K) (enc := encPt) (.inl (.inl hD4)) ((each_refs hP4).mono fun x b ⟨a, e, h⟩ => by rw [e]; exact dp_pt h) pt_alike (fun p _ => ⟨_, _, rfl⟩) pt_depth fun p9 ys9 hp9 hy => ?_
      obtain ⟨ls, rfl, hls⟩ := refs_each (hy (fun x p => ∃ a, x = V.ref a ∧ PtAt H4 a p) (each_refs hP4))
      have k5 := same_new (o := .lst (ls.map V.ref)) hp9
      exact q p9 ls _ ((s1.trans sU).trans k5) upd_same (PtsAt.keep hls (tk_same k5))
end
end Wl

/-! the edges about places, as the law has them -/
namespace Wl
open PySem PySem.Spec PyProof.Rows L2
def outerL' (S T : List Pt) : List Ed := T.flatMap fun p => ((sidesL p).filter fun x => !decide (x.1 ∈ S)).map (·.2)
theorem outerL'_snoc (S : List Pt) {i : Nat} {p : Pt} (h : S[i]? = some p) : outerL' S (S.take (i + 1)) = outerL' S (S.take i) ++ ((sidesL p).filter fun x => !decide (x.1 ∈ S)).map (·.2) := flat_take_snoc h
section
variable {P : Program} {w : World} {K : PySem.W.Frag} {mg : Str → Option Value} {base : Heap} {f C D W : Addr} {fd : FuncData}
def spLEdges : Sp := fun vs H Q _ => ∃ (a : Addr) (as : List Addr) (S : List Pt), vs = [.ref a] ∧ H a = some (.lst (as.map V.ref)) ∧ PtsAt H as S ∧ S.length ≤ 36 ∧ ∀ (l : Addr) (es : List Addr) (H' : Hp), Same H H' → H' l = some (.lst (es.map V.ref)) → EdsAt H' es (outerL S) → Q (.ref l) H'
abbrev nLEdges : List Str := ["_law_places", "_law_found", "_law_row", "_law_column", "_law_a", "_law_b", "_law_c", "_law_d", "_law_sides", "_law_beside", "_law_step"]
theorem scLEdges : FnScope nLEdges ["_law_places"] (defScope sLEdges) := ⟨rfl, rfl, rfl, by decide +kernel, rfl, by decide +kernel, by decide +kernel⟩
theorem ok_ledges (F : Fun K "_law_edges" "_law_edges" sLEdges f fd) (B : Bi mg) : FnOk P w K mg base CX0 1 f fd ["_law_places"] spLEdges := by
  refine F.ok scLEdges (fun vs H Q E h => ?_) (fun cdv A outer s H vs Q E hr h => ?_)
  · obtain ⟨a, as, S, rfl, _⟩ := h
    rfl
  · obtain ⟨a, as, S, rfl, ha, hS, h36, q⟩ := h
    have hu65 : (A.deeper (envOfC "_law_edges" (defScope sLEdges) s.heap.objs.size f cdv)).units + 65 < cLine := by have := hr.un; omega
    refine ⟨_, pss_cons (ps_set (i := 1) scLEdges.nd rfl (.inl rfl) (pe_lst pa_nil))
      (pss_cons (ps_for PassesOwn.never rfl (pi_list (pv 0)) (pg_tup rfl (pgs_cons (pg_name (i := 2) scLEdges.nd rfl (.inl rfl)) (pgs_cons (pg_name (i := 3) scLEdges.nd rfl (.inl rfl)) pgs_nil)))
        (pss_cons (ps_par (i := 4) (j := 5) (by rfl) scLEdges.nd rfl rfl (by decide) rfl rfl (pa_cons (pe_tup (pa_cons (pv 2) (pa_cons (pv 3) pa_nil))) (pa_cons (pe_tup (pa_cons (pv 2) (pa_cons (pe_op op_add (pv 3) pe_int) pa_nil))) pa_nil)) (by rfl))
        (pss_cons (ps_par (i := 6) (j := 7) (by rfl) scLEdges.nd rfl rfl (by decide) rfl rfl (pa_cons (pe_tup (pa_cons (pe_op op_add (pv 2) pe_int) (pa_cons (pe_op op_add (pv 3) pe_int) pa_nil))) (pa_cons (pe_tup (pa_cons (pe_op op_add (pv 2) pe_int) (pa_cons (pv 3) pa_nil))) pa_nil)) (by rfl))
        (pss_cons (ps_set (i := 8) scLEdges.nd rfl (.inl rfl) (pe_lst (pa_cons (pe_tup (pa_cons (pe_tup (pa_cons (pe_op op_sub (pv 2) pe_int) (pa_cons (pv 3) pa_nil))) (pa_cons (pe_tup (pa_cons (pv 5) (pa_cons (pv 4) pa_nil))) pa_nil))) (pa_cons (pe_tup (pa_cons (pe_tup (pa_cons (pv 2) (pa_cons (pe_op op_sub (pv 3) pe_int) pa_nil))) (pa_cons (pe_tup (pa_cons (pv 4) (pa_cons (pv 7) pa_nil))) pa_nil)))
          (pa_cons (pe_tup (pa_cons (pe_tup (pa_cons (pe_op op_add (pv 2) pe_int) (pa_cons (pv 3) pa_nil))) (pa_cons (pe_tup (pa_cons (pv 7) (pa_cons (pv 6) pa_nil))) pa_nil))) pa_nil)))))
        (pss_cons (ps_expr (pe_bm PySem.F.plainAttrs_list PySem.F.slot_list_append PySem.F.type_list_append mt_append (pv 8) (pa_cons (pe_tup (pa_cons (pe_tup (pa_cons (pv 2) (pa_cons (pe_op op_add (pv 3) pe_int) pa_nil))) (pa_cons (pe_tup (pa_cons (pv 6) (pa_cons (pv 5) pa_nil))) pa_nil))) pa_nil)))
        (pss_one (ps_expr (pe_bm PySem.F.plainAttrs_list PySem.F.slot_list_extend PySem.F.type_list_extend mt_extend (pv 1) (pa_cons (pe_lc (own := [("_law_beside", 9), ("_law_step", 10)]) (g := gTup K 2 (gCons (gName 9) (gCons (gName 10) gNil))) (tt := tTest (tOp (rNotInD K) (tVar 9) (tVar 0))) (te := tVar 10) rfl scLEdges.nd (pi_list (pv 8)) (blkOk_by (N := nLEdges) (sc := defScope sLEdges) (by decide +kernel))
          (fun _ _ _ _ _ => pg_tup rfl (pgs_cons (pg_name (i := 9) scLEdges.nd rfl (.inl rfl)) (pgs_cons (pg_name (i := 10) scLEdges.nd rfl (.inl rfl)) pgs_nil))) (fun _ _ _ _ _ => pts_one (pt_cmpR (op_notInD hu65) (pv 9) (pv 0) (by rfl))) (fun _ _ _ _ _ => pv 10)) pa_nil)))))))))
      (pss_one (ps_ret (pv 1)))), ?_⟩
    refine ⟨lz, fun Fo nFo => ?_⟩
    have s0 := same_new (o := .lst []) nFo
    refine ⟨_, rfl, a, rfl, ⟨_, .inl (.inl (s0 _ _ ha))⟩, for_list (K := K) (a := a) (xs := as.map V.ref) (fun i σ H' => (∃ y2 y3 y4 y5 y6 y7 y8, σ = [some (.ref a), some (.ref Fo), y2, y3, y4, y5, y6, y7, y8, none, none]) ∧ Same H H' ∧ ∃ es : List Addr, H' Fo = some (.lst (es.map V.ref)) ∧ EdsAt H' es (outerL' S (S.take i)) ∧ es.length ≤ 4 * i)
      ⟨⟨_, _, _, _, _, _, _, rfl⟩, s0, [], upd_same, .nil, Nat.le_refl _⟩ (fun i σ H' _ h => .inl (.inl (h.2.1 _ _ ha))) ?_ ?_⟩
    · rintro i x σ H0 hx ⟨⟨y2, y3, y4, y5, y6, y7, y8, rfl⟩, S0, es, hFo, hE0, hl0⟩
      rw [List.getElem?_map] at hx
      obtain ⟨pa, hpa, rfl⟩ := Option.map_eq_some_iff.mp hx
      obtain ⟨⟨r, c⟩, hp, hpt0⟩ := Each.get hS hpa
      have hi36 : i < 36 := by have := (List.getElem?_eq_some_iff.mp hp).1; omega
      have hpt := S0 _ _ hpt0
      refine ⟨pa, _, rfl, .inl (.inl hpt), rfl, _, _, rfl, _, _, rfl, rfl, _, rfl, _, rfl, lz, fun n1 h1 => ⟨_, rfl, _, rfl, _, _, rfl, rfl, lz, fun n2 h2 => ⟨_, _, rfl, _, rfl, _, _, rfl, rfl, _, rfl, _, _, rfl, rfl, lz, fun n3 h3 => ⟨_, rfl, _, _, rfl, rfl, _, rfl, lz, fun n4 h4 => ⟨_, _, rfl, ?_⟩⟩⟩⟩⟩
      have s1 := same_new (o := .tup [V.int r, .int c]) h1
      have s2 := same_new (o := .tup [V.int r, .int (c + 1)]) h2
      have s3 := same_new (o := .tup [V.int (r + 1), .int (c + 1)]) h3
      have s4 := same_new (o := .tup [V.int (r + 1), .int c]) h4
      have T := (s1.trans s2).trans (s3.trans s4)
      have p1 : PtAt _ n1 (r, c) := (s2.trans (s3.trans s4)) _ _ upd_same
      have p2 : PtAt _ n2 (r, c + 1) := (s3.trans s4) _ _ upd_same
      have p3 : PtAt _ n3 (r + 1, c + 1) := s4 _ _ upd_same
      have p4 : PtAt (upd (upd (upd (upd H0 n1 (.tup [V.int r, .int c])) n2 (.tup [V.int r, .int (c + 1)])) n3 (.tup [V.int (r + 1), .int (c + 1)])) n4 (.tup [V.int (r + 1), .int c])) n4 (r + 1, c) := upd_same
      generalize upd (upd (upd (upd H0 n1 (.tup [V.int r, .int c])) n2 (.tup [V.int r, .int (c + 1)])) n3 (.tup [V.int (r + 1), .int (c + 1)])) n4 (.tup [V.int (r + 1), .int c]) = H4 at T p1 p2 p3 p4 ⊢
      clear s1 s2 s3 s4 h1 h2 h3 h4
      refine ⟨_, rfl, _, _, rfl, rfl, _, rfl, lz, fun b1 h1 => ⟨_, rfl, _, rfl, lz, fun e1 h2 => ⟨lz, fun x1 h3 => ?_⟩⟩⟩
      have s1 := same_new (o := .tup [V.int (r - 1), .int c]) h1
      have s2 := same_new (o := .tup [V.ref n2, .ref n1]) h2
      have s3 := same_new (o := .tup [V.ref b1, .ref e1]) h3
      have tk := tk_same ((s1.trans s2).trans s3)
      have T := T.trans ((s1.trans s2).trans s3)
      have p1 := p1.keep tk
      have p2 := p2.keep tk
      have p3 := p3.keep tk
      have p4 := p4.keep tk
      have d1 : SdAt (upd (upd (upd H4 b1 (.tup [V.int (r - 1), .int c])) e1 (.tup [V.ref n2, .ref n1])) x1 (.tup [V.ref b1, .ref e1])) x1 ((r - 1, c), ((r, c + 1), (r, c))) := ⟨b1, e1, upd_same, (s2.trans s3) _ _ upd_same, n2, n1, s3 _ _ upd_same, p2, p1⟩
      generalize upd (upd (upd H4 b1 (.tup [V.int (r - 1), .int c])) e1 (.tup [V.ref n2, .ref n1])) x1 (.tup [V.ref b1, .ref e1]) = H5 at T p1 p2 p3 p4  d1 ⊢
      clear s1 s2 s3 tk h1 h2 h3
      refine ⟨_, rfl, _, rfl, _, _, rfl, rfl, lz, fun b2 h1 => ⟨_, rfl, _, rfl, lz, fun e2 h2 => ⟨lz, fun x2 h3 => ?_⟩⟩⟩
      have s1 := same_new (o := .tup [V.int r, .int (c - 1)]) h1
      have s2 := same_new (o := .tup [V.ref n1, .ref n4]) h2
      have s3 := same_new (o := .tup [V.ref b2, .ref e2]) h3
      have tk := tk_same ((s1.trans s2).trans s3)
      have T := T.trans ((s1.trans s2).trans s3)
      have p1 := p1.keep tk
      have p2 := p2.keep tk
      have p3 := p3.keep tk
      have p4 := p4.keep tk
      have d1 := d1.keep tk
      have d2 : SdAt (upd (upd (upd H5 b2 (.tup [V.int r, .int (c - 1)])) e2 (.tup [V.ref n1, .ref n4])) x2 (.tup [V.ref b2, .ref e2])) x2 ((r, c - 1), ((r, c), (r + 1, c))) := ⟨b2, e2, upd_same, (s2.trans s3) _ _ upd_same, n1, n4, s3 _ _ upd_same, p1, p4⟩
      generalize upd (upd (upd H5 b2 (.tup [V.int r, .int (c - 1)])) e2 (.tup [V.ref n1, .ref n4])) x2 (.tup [V.ref b2, .ref e2]) = H6 at T p1 p2 p3 p4 d1 d2 ⊢
      clear s1 s2 s3 tk h1 h2 h3
      refine ⟨_, rfl, _, _, rfl, rfl, _, rfl, lz, fun b3 h1 => ⟨_, rfl, _, rfl, lz, fun e3 h2 => ⟨lz, fun x3 h3 => ?_⟩⟩⟩
      have s1 := same_new (o := .tup [V.int (r + 1), .int c]) h1
      have s2 := same_new (o := .tup [V.ref n4, .ref n3]) h2
      have s3 := same_new (o := .tup [V.ref b3, .ref e3]) h3
      have tk := tk_same ((s1.trans s2).trans s3)
      have T := T.trans ((s1.trans s2).trans s3)
      have p1 := p1.keep tk
      have p2 := p2.keep tk
      have p3 := p3.keep tk
      have p4 := p4.keep tk
      have d1 := d1.keep tk
      have d2 := d2.keep tk
      have d3 : SdAt (upd (upd (upd H6 b3 (.tup [V.int (r + 1), .int c])) e3 (.tup [V.ref n4, .ref n3])) x3 (.tup [V.ref b3, .ref e3])) x3 ((r + 1, c), ((r + 1, c), (r + 1, c + 1))) := ⟨b3, e3, upd_same, (s2.trans s3) _ _ upd_same, n4, n3, s3 _ _ upd_same, p4, p3⟩
      generalize upd (upd (upd H6 b3 (.tup [V.int (r + 1), .int c])) e3 (.tup [V.ref n4, .ref n3])) x3 (.tup [V.ref b3, .ref e3]) = H7 at T p1 p2 p3 p4 d1 d2 d3 ⊢
      clear s1 s2 s3 tk h1 h2 h3
      refine ⟨lz, fun Sd nSd => ?_⟩
      have k8 := same_new (o := .lst [V.ref x1, .ref x2, .ref x3]) nSd
      have tk := tk_same k8
      have T0 := T
      have T := T.trans k8
      have hSd : upd H7 Sd (.lst [V.ref x1, .ref x2, .ref x3]) Sd = some (.lst [V.ref x1, .ref x2, .ref x3]) := upd_same
      have p1 := p1.keep tk
      have p2 := p2.keep tk
      have p3 := p3.keep tk
      have p4 := p4.keep tk
      have d1 := d1.keep tk
      have d2 := d2.keep tk
      have d3 := d3.keep tk
      have nSd0 : H0 Sd = none := by
        cases z : H0 Sd with
        | none => rfl
        | some o => exact absurd (T0 _ _ z) (by rw [nSd]; exact fun z => by cases z)
      generalize upd H7 Sd (.lst [V.ref x1, .ref x2, .ref x3]) = H8 at T p1 p2 p3 p4 d1 d2 d3 hSd ⊢
      clear k8 tk
      refine ⟨_, rfl, .inl ⟨rfl, _, .inl (.inl hSd)⟩, _, rfl, _, rfl, _, _, rfl, rfl, lz, fun b4 h1 => ⟨_, rfl, _, rfl, lz, fun e4 h2 => ⟨lz, fun x4 h3 => ?_⟩⟩⟩
      have s1 := same_new (o := .tup [V.int r, .int (c + 1)]) h1
      have s2 := same_new (o := .tup [V.ref n3, .ref n2]) h2
      have s3 := same_new (o := .tup [V.ref b4, .ref e4]) h3
      have tk := tk_same ((s1.trans s2).trans s3)
      have T := T.trans ((s1.trans s2).trans s3)
      have p1 := p1.keep tk
      have p2 := p2.keep tk
      have p3 := p3.keep tk
      have p4 := p4.keep tk
      have d1 := d1.keep tk
      have d2 := d2.keep tk
      have d3 := d3.keep tk
      have hSd := ((s1.trans s2).trans s3) _ _ hSd
      have d4 : SdAt (upd (upd (upd H8 b4 (.tup [V.int r, .int (c + 1)])) e4 (.tup [V.ref n3, .ref n2])) x4 (.tup [V.ref b4, .ref e4])) x4 ((r, c + 1), ((r + 1, c + 1), (r, c + 1))) := ⟨b4, e4, upd_same, (s2.trans s3) _ _ upd_same, n3, n2, s3 _ _ upd_same, p3, p2⟩
      generalize upd (upd (upd H8 b4 (.tup [V.int r, .int (c + 1)])) e4 (.tup [V.ref n3, .ref n2])) x4 (.tup [V.ref b4, .ref e4]) = H9 at T p1 p2 p3 p4 d1 d2 d3 d4 hSd ⊢
      clear s1 s2 s3 tk h1 h2 h3
      refine ⟨Sd, _, _, rfl, rfl, hSd, by show 3 < _; decide, ?_⟩
      have tkd := tk_upd (o := .lst [V.ref x1, .ref x2, .ref x3, .ref x4]) hSd
      have T9 : Same H0 (upd H9 Sd (.lst [V.ref x1, .ref x2, .ref x3, .ref x4])) := same_mut T nSd0
      have hSd9 : upd H9 Sd (.lst [V.ref x1, .ref x2, .ref x3, .ref x4]) Sd = some (.lst (([x1, x2, x3, x4] : List Addr).map V.ref)) := upd_same
      have hsd : Each (SdAt (upd H9 Sd (.lst [V.ref x1, .ref x2, .ref x3, .ref x4]))) [x1, x2, x3, x4] (sidesL (r, c)) := .cons (d1.keep tkd) (.cons (d2.keep tkd) (.cons (d3.keep tkd) (.cons (d4.keep tkd) .nil)))
      show tSeq _ _ _ _ (upd H9 Sd (.lst [V.ref x1, .ref x2, .ref x3, .ref x4]))
      generalize upd H9 Sd (.lst [V.ref x1, .ref x2, .ref x3, .ref x4]) = HA at T9 hSd9 hsd ⊢
      clear tkd p1 p2 p3 p4 d1 d2 d3 d4 T T0 hSd
      obtain ⟨ss, ess⟩ : ∃ ss : List Addr, ss = [x1, x2, x3, x4] := ⟨_, rfl⟩
      rw [← ess] at hSd9 hsd
      have S9 : Same H HA := S0.trans T9
      have hFoA := T9 _ _ hFo
      have nFS : Fo ≠ Sd := ne_of_none hFo nSd0
      refine ⟨_, rfl, .inl ⟨rfl, _, .inl (.inl hFoA)⟩, _, rfl, Sd, rfl, ⟨_, .inl (.inl hSd9)⟩, fun Dd hD => lc_it (walk_list (K := K) (a := Sd) (xs := ss.map V.ref)) (fun j H' => Same HA H' ∧ ∃ ws : List Addr, H' Dd = some (.lst (ws.map V.ref)) ∧ EdsAt H' ws ((((sidesL (r, c)).take j).filter fun x => !decide (x.1 ∈ S)).map (·.2)) ∧ ws.length ≤ j)
        ⟨same_new hD, [], upd_same, .nil, Nat.le_refl _⟩ (fun j H' _ h => .inl (.inl (h.1 _ _ hSd9))) ?_ ?_⟩
      · rintro j y HB HC hj ⟨sB, ws, hDB, hWB, hlB⟩ ⟨rfl, hy⟩
        rw [List.getElem?_map] at hy
        obtain ⟨sa, hsa, rfl⟩ := Option.map_eq_some_iff.mp hy
        obtain ⟨⟨bey, ed⟩, hsx, hsdA⟩ := Each.get hsd hsa
        obtain ⟨b, cc, h1, h2, h3⟩ := hsdA.keep (tk_same sB)
        have hj4 : j < 4 := by have := (List.getElem?_eq_some_iff.mp hsx).1; exact this
        have ft : ((sidesL (r, c)).take (j + 1)).filter (fun x => !decide (x.1 ∈ S)) = ((sidesL (r, c)).take j).filter (fun x => !decide (x.1 ∈ S)) ++ (if (!decide (bey ∈ S)) = true then [(bey, ed)] else []) := filter_take_snoc (p := fun x : Pt × Ed => !decide (x.1 ∈ S)) hsx
        refine ⟨sa, _, rfl, .inl (.inl h1), rfl, _, _, rfl, _, _, rfl, rfl, rfl, _, rfl, _, rfl, encPt bey, S.map encPt, dp_pt h2, .lst (.inl (.inl ((S9.trans sB) _ _ ha))) (dp_pts (hS.keep (tk_same (S9.trans sB)))), sh_pt _, sh_pts _, _, rfl, ?_⟩
        rw [any_pt]
        by_cases hm : bey ∈ S
        · rw [decide_eq_true hm]
          refine iteF ⟨sB, ws, hDB, ?_, by omega⟩
          rw [ft, if_neg (by rw [decide_eq_true hm]; decide), List.append_nil]
          exact hWB
        · rw [decide_eq_false hm]
          have tk := tk_upd (o := .lst (ws.map V.ref ++ [V.ref cc])) hDB
          refine iteT ⟨_, rfl, _, hDB, by rw [List.length_map]; exact small1000 (by omega), same_mut sB hD, ws ++ [cc], by rw [upd_same, List.map_append]; rfl, ?_, by rw [List.length_append]; show ws.length + 1 ≤ _; omega⟩
          rw [ft, if_pos (by rw [decide_eq_false hm]; rfl), List.map_append]
          exact Each.append (hWB.keep tk) (.cons (h3.keep tk) .nil)
      · rintro HB ⟨sB, ws, hDB, hWB, hlB⟩
        have lss : ss.length = 4 := by rw [ess]; rfl
        rw [List.length_map, lss] at hWB hlB
        have hFoB := sB _ _ hFoA
        refine ⟨Fo, Dd, _, _, rfl, rfl, hFoB, hDB, by rw [List.length_map, List.length_map]; exact Nat.le_of_lt (small1000 (by omega)), ?_⟩
        have tk := tk_upd (o := .lst (es.map V.ref ++ ws.map V.ref)) hFoB
        refine ⟨⟨_, _, _, _, _, _, _, rfl⟩, same_mut (S9.trans sB) nFo, es ++ ws, by rw [upd_same, List.map_append], ?_, by rw [List.length_append]; omega⟩
        rw [outerL'_snoc S hp]
        exact Each.append ((hE0.keep (tk_same (T9.trans sB))).keep tk) (hWB.keep tk)
    · rintro σ H1 ⟨⟨y2, y3, y4, y5, y6, y7, y8, rfl⟩, S1, es, hFo, hE, _⟩
      rw [List.length_map, show as.length = S.length from hS.length, List.take_length] at hE
      exact ⟨_, rfl, q Fo es H1 S1 hFo hE⟩
end
end Wl

/-! steps of a lane; whether it is one -/
namespace Wl
open PySem PySem.Spec PyProof.Rows L2
abbrev rLenK (K : PySem.W.Frag) : List V → Hp → VK → Prop := fun xs H Q => ∃ p ys, xs = [.ref p] ∧ (SqL K H p ys ∨ SqT K H p ys) ∧ Q (.int ys.length) H
section
variable {P : Program} {w : World} {K : PySem.W.Frag} {mg : Str → Option Value} {base : Heap} {f C D W : Addr} {fd : FuncData}
def spLSteps : Sp := fun vs H Q _ => ∃ (a : Addr) (ps : List Pt), vs = [.ref a] ∧ LnAt H a ps ∧ 1 ≤ ps.length ∧ ps.length ≤ 144 ∧ ∀ (l : Addr) (es : List Addr) (H' : Hp), H l = none → Same H H' → H' l = some (.lst (es.map V.ref)) → EdsAt H' es (stepsR ps) → Q (.ref l) H'
theorem scLSteps : FnScope ["_law_lane", "_law_k"] ["_law_lane"] (defScope sLSteps) := ⟨rfl, rfl, rfl, by decide +kernel, rfl, by decide +kernel, by decide +kernel⟩
theorem ok_lsteps (F : Fun K "_law_steps" "_law_steps" sLSteps f fd) (B : Bi mg) : FnOk P w K mg base CX0 1 f fd ["_law_lane"] spLSteps := by
  refine F.ok scLSteps (fun vs H Q E h => ?_) (fun cdv A outer s H vs Q E hr h => ?_)
  · obtain ⟨a, ps, rfl, _⟩ := h
    rfl
  · obtain ⟨a, ps, rfl, ⟨as, ha, hP⟩, l1, l2, q⟩ := h
    refine ⟨_, pss_one (ps_ret (pe_lc (own := [("_law_k", 1)]) (g := gName 1) (tt := tYes) (te := tTup (tCons (tOp (rIxT K) (tVar 0) (tVar 1)) (tCons (tOp (rIxT K) (tVar 0) (tOp (rI (fun _ j => 0 < j) fun i j => .int (i % j)) (tOp (rI0 fun i j => .int (i + j)) (tVar 1) (tC (.int 1))) (tCB (rLenK K) (tCons (tVar 0) tNil)))) tNil))) rfl scLSteps.nd (pi_range1 (by rfl) B.range (pa_cons (pe_callB call_len_seq (by rfl) B.len PySem.boot_len (pa_cons (pv 0) pa_nil)) pa_nil)) (blkOk_by (N := ["_law_lane", "_law_k"]) (sc := defScope sLSteps) (by decide +kernel))
      (fun _ _ _ _ _ => pg_name (i := 1) scLSteps.nd rfl (.inl rfl)) (fun _ _ _ _ _ => pts_nil) (fun _ _ _ _ _ => pe_tup (pa_cons (pe_ix ix_tup (pv 0) (pv 1) (fun _ _ => rfl)) (pa_cons (pe_ix ix_tup (pv 0) (pe_op op_mod (pe_op op_add (pv 1) pe_int) (pe_callB call_len_seq (by rfl) B.len PySem.boot_len (pa_cons (pv 0) pa_nil))) (fun _ _ => rfl)) pa_nil))))), ?_⟩
    have las : as.length = ps.length := hP.length
    refine ⟨_, rfl, a, _, rfl, .inr (.inl (.inl ha)), (((as.map V.ref).length : Nat) : Int), rfl, by omega, by rw [List.length_map]; omega, fun D hD => lc_range (lo := 0) (n := _) (fun i H' => Same H H' ∧ ∃ es : List Addr, H' D = some (.lst (es.map V.ref)) ∧ EdsAt H' es ((List.range i).map fun k => (ps.getD k (0, 0), ps.getD ((k + 1) % ps.length) (0, 0))) ∧ es.length = i)
      ⟨same_new hD, [], upd_same, .nil, rfl⟩ ?_ ?_⟩
    · rintro i H3 hi ⟨s3, es, hD3, hE3, hl3⟩
      have hi : i < ps.length := by
        rw [List.length_map, Int.toNat_natCast] at hi
        omega
      have ha3 := s3 _ _ ha
      have get : ∀ k, k < ps.length → ∃ c, (as.map V.ref)[k]? = some (.ref c) ∧ PtAt H3 c (ps.getD k (0, 0)) := fun k hk => by
        obtain ⟨c, hc, hcp⟩ := Each.get2 hP (List.getElem?_eq_getElem hk)
        refine ⟨c, by rw [List.getElem?_map, hc]; rfl, ?_⟩
        rw [List.getD_eq_getElem?_getD, List.getElem?_eq_getElem hk]
        exact s3 _ _ hcp
      obtain ⟨c1, e1, g1⟩ := get i hi
      obtain ⟨c2, e2, g2⟩ := get ((i + 1) % ps.length) (Nat.mod_lt _ (by omega))
      have em : ((0 : Int) + (i : Int) + 1) % (((as.map V.ref).length : Nat) : Int) = (((i + 1) % ps.length : Nat) : Int) := by
        rw [List.length_map, las, Int.zero_add, Int.natCast_emod]
        rfl
      refine ⟨rfl, yes_it ⟨_, rfl, _, rfl, a, _, _, .ref c1, rfl, rfl, .inl (.inl ha3), by rw [Int.zero_add]; exact atI_nat e1, _, rfl, _, rfl, _, _, rfl, rfl, _, rfl, a, _, rfl, .inr (.inl (.inl ha3)), _, _, rfl, rfl, (show (0 : Int) < _ by rw [List.length_map]; omega), a, _, _, .ref c2, rfl, rfl, .inl (.inl ha3), by rw [em]; exact atI_nat e2, lz, fun u hu => ?_⟩⟩
      have k4 := same_new (o := .tup [V.ref c1, .ref c2]) hu
      have tk := tk_upd (o := .lst (es.map V.ref ++ [V.ref u])) (k4 _ _ hD3)
      refine ⟨_, k4 _ _ hD3, by rw [List.length_map]; exact small1000 (by omega), same_mut (s3.trans k4) hD, es ++ [u], by rw [upd_same, List.map_append]; rfl, ?_, by rw [List.length_append, hl3]; rfl⟩
      rw [List.range_succ, List.map_append]
      refine Each.append ((hE3.keep (tk_same k4)).keep tk) (.cons ?_ .nil)
      exact EdAt.keep (⟨c1, c2, upd_same, k4 _ _ g1, k4 _ _ g2⟩ : EdAt _ u (_, _)) tk
    · rintro H3 ⟨s3, es, hD3, hE3, _⟩
      rw [List.length_map, Int.toNat_natCast, las] at hE3
      exact q D es H3 hD s3 hD3 hE3
/-! ### whether it is a lane -/
abbrev tIsT (K : PySem.W.Frag) (i : Nat) (ty : String) : TE := tCB (rIsi K) (tCons (tVar i) (tCons (tC (.ty ty)) tNil))
theorem all_true (n : Nat) : (List.replicate n true).all id = true := by
  induction n with
  | zero => rfl
  | succ n ih => rw [List.replicate_succ, List.all_cons, ih]; rfl
theorem any_false (n : Nat) : (List.replicate n false).any id = false := by
  induction n with
  | zero => rfl
  | succ n ih => rw [List.replicate_succ, List.any_cons, ih]; rfl
def spLane : Sp := fun vs H Q _ => ∃ (a : Addr) (ps : List Pt), vs = [.ref a] ∧ LnAt H a ps ∧ 4 ≤ ps.length ∧ ps.length ≤ 144 ∧ (∀ k, k < ps.length → ltLn (rotR k ps) ps = false) ∧ ∀ H', Same H H' → Q (.bl true) H'
abbrev nLane : List Str := ["_law_lane", "_law_corner", "_law_part", "_law_k"]
theorem scLane : FnScope nLane ["_law_lane"] (defScope sLane) := ⟨rfl, rfl, rfl, by decide +kernel, rfl, by decide +kernel, by decide +kernel⟩
theorem ok_lane (F : Fun K "_law_is_lane" "_law_is_lane" sLane f fd) (B : Bi mg) (B2 : Bg mg) (hany : mg "any" = none) : FnOk P w K mg base CX0 1 f fd ["_law_lane"] spLane := by
  refine F.ok scLane (fun vs H Q E h => ?_) (fun cdv A outer s H vs Q E hr h => ?_)
  · obtain ⟨a, ps, rfl, _⟩ := h
    rfl
  · obtain ⟨a, ps, rfl, ⟨as, ha, hP⟩, l1, l2, hle, q⟩ := h
    have hu65 : (A.deeper (envOfC "_law_is_lane" (defScope sLane) s.heap.objs.size f cdv)).units + 65 < cLine := by have := hr.un; omega
    refine ⟨_, pss_cons (ps_if (PW.pt (pw_or (pt_not (pt_val (pe_callB call_isi (by rfl) B.isi (by decide +kernel) (pa_cons (pv 0) (pa_cons (pe_bltn (v := .ty "tuple") (by rfl) B.tuple (by decide +kernel) rfl) pa_nil))))) (pw_or1 (pt_not (pt_val (pe_callB (cr_all rfl) (by rfl) B.all (by decide +kernel) (pa_cons (pe_lc (own := [("_law_corner", 1)]) (g := gName 1) (tt := tYes) (te := tAndV (tIsT K 1 "tuple") (tOp rEq (tCB (rLenK K) (tCons (tVar 1) tNil)) (tC (.int 2)))) rfl scLane.nd (pi_tup (pv 0)) (blkOk_by (N := nLane) (sc := defScope sLane) (by decide +kernel))
        (fun _ _ _ _ _ => pg_name (i := 1) scLane.nd rfl (.inl rfl)) (fun _ _ _ _ _ => pts_nil) (fun _ _ _ _ _ => pe_and (pe_callB call_isi (by rfl) B.isi (by decide +kernel) (pa_cons (pv 1) (pa_cons (pe_bltn (v := .ty "tuple") (by rfl) B.tuple (by decide +kernel) rfl) pa_nil))) (pe_one (pe_cmpR op_eq (pe_callB call_len_seq (by rfl) B.len PySem.boot_len (pa_cons (pv 1) pa_nil)) pe_int (nomark _))))) pa_nil))))))) (pss_one (ps_ret pe_bl)) pss_nil)
      (pss_cons (ps_for PassesOwn.never rfl (pi_tup (pv 0)) (pg_name (i := 1) scLane.nd rfl (.inl rfl))
        (pss_one (ps_if (pt_not (pt_val (pe_callB (cr_all rfl) (by rfl) B.all (by decide +kernel) (pa_cons (pe_lc (own := [("_law_part", 2)]) (g := gName 2) (tt := tYes) (te := tAndV (tIsT K 2 "int") (tNotV (tIsT K 2 "bool"))) rfl scLane.nd (pi_tup (pv 1)) (blkOk_by (N := nLane) (sc := defScope sLane) (by decide +kernel))
          (fun _ _ _ _ _ => pg_name (i := 2) scLane.nd rfl (.inl rfl)) (fun _ _ _ _ _ => pts_nil) (fun _ _ _ _ _ => pe_and (pe_callB call_isi (by rfl) B.isi (by decide +kernel) (pa_cons (pv 2) (pa_cons (pe_bltn (v := .ty "int") (by rfl) B.int (by decide +kernel) rfl) pa_nil))) (pe_one (pe_not (pe_callB call_isi (by rfl) B.isi (by decide +kernel) (pa_cons (pv 2) (pa_cons (pe_bltn (v := .ty "bool") (by rfl) B2.bool (by decide +kernel) rfl) pa_nil))))))) pa_nil)))) (pss_one (ps_ret pe_bl)) pss_nil)))
      (pss_one (ps_ret (pe_and (pe_cmpR op_gt (pe_callB call_len_seq (by rfl) B.len PySem.boot_len (pa_cons (pv 0) pa_nil)) pe_int (nomark _)) (pe_one (pe_not (pe_callB (cr_any rfl) (by rfl) hany (by decide +kernel) (pa_cons (pe_lc (own := [("_law_k", 3)]) (g := gName 3) (tt := tYes) (te := tOp (rLtD K) (tOp (rCatA K) (tSl (rSlA K) (tVar 0) (tPart (tVar 3)) tNoPart) (tSl (rSlA K) (tVar 0) tNoPart (tPart (tVar 3)))) (tVar 0)) rfl scLane.nd (pi_range1 (by rfl) B.range (pa_cons (pe_callB call_len_seq (by rfl) B.len PySem.boot_len (pa_cons (pv 0) pa_nil)) pa_nil)) (blkOk_by (N := nLane) (sc := defScope sLane) (by decide +kernel))
        (fun _ _ _ _ _ => pg_name (i := 3) scLane.nd rfl (.inl rfl)) (fun _ _ _ _ _ => pts_nil) (fun _ _ _ _ _ => pe_cmpR (op_ltD hu65) (pe_op op_catA (pe_slice sl_tupA (pv 0) (po_some (pv 3)) po_none) (pe_slice sl_tupA (pv 0) po_none (po_some (pv 3)))) (pv 0) (nomark _))) pa_nil)))))))), ?_⟩
    have las : as.length = ps.length := hP.length
    refine ⟨_, rfl, _, _, _, _, _, rfl, .ty "tuple", .base (.tup ha), kit_ty (r := true) (by decide +kernel), true, rfl, iteF ?_⟩
    have cor : ∀ (i : Nat) (x : V), (as.map V.ref)[i]? = some x → ∃ c r k, x = .ref c ∧ H c = some (.tup [.int r, .int k]) := fun i x hx => by
      rw [List.getElem?_map] at hx
      obtain ⟨c, hc, rfl⟩ := Option.map_eq_some_iff.mp hx
      obtain ⟨p, _, hp⟩ := Each.get hP hc
      exact ⟨c, p.1, p.2, rfl, hp⟩
    have li : ∀ (i : Nat) (x : V), (as.map V.ref)[i]? = some x → i < 144 := fun i x hx => by
      have := (List.getElem?_eq_some_iff.mp hx).1
      rw [List.length_map] at this
      omega
    refine ⟨_, rfl, a, rfl, ⟨_, .inl (.inl ha)⟩, fun D hD => lc_it (walk_tup (K := K) (a := a) (xs := as.map V.ref)) (fun i H' => Same H H' ∧ H' D = some (.lst ((List.replicate i true).map V.bl))) ⟨same_new hD, upd_same⟩ (fun i H' _ h => .inl (.inl (h.1 _ _ ha))) ?_ ?_⟩
    · rintro i x H1 H2 hi ⟨s1, hD1⟩ ⟨rfl, hx⟩
      have hi := li i x hx
      obtain ⟨c, r, k, rfl, hc⟩ := cor i x hx
      have hc1 := s1 _ _ hc
      refine ⟨rfl, yes_it ⟨_, rfl, _, _, _, _, _, rfl, .ty "tuple", .base (.tup hc1), kit_ty (r := true) (by decide +kernel), true, rfl, iteT ⟨_, rfl, c, _, rfl, .inr (.inl (.inl hc1)), rfl, _, hD1, by rw [List.length_map, List.length_replicate]; exact small1000 (by omega), same_mut s1 hD, ?_⟩⟩⟩
      rw [upd_same, List.replicate_succ', List.map_append]
      rfl
    rintro H1 ⟨s1, hD1⟩
    refine ⟨D, _, rfl, .inl (.inl hD1), _, rfl, ?_⟩
    rw [all_true]
    refine iteF ?_
    have ha1 := s1 _ _ ha
    refine ⟨_, rfl, a, rfl, ⟨_, .inl (.inl ha1)⟩, for_tup (K := K) (a := a) (xs := as.map V.ref) (fun i σ H' => (∃ y1, σ = [some (.ref a), y1, none, none]) ∧ Same H H') ⟨⟨_, rfl⟩, s1⟩ (fun i σ H' _ h => .inl (.inl (h.2 _ _ ha))) ?_ ?_⟩
    · rintro i x σ H2 hx ⟨⟨y1, rfl⟩, s2⟩
      obtain ⟨c, r, k, rfl, hc⟩ := cor i x hx
      have hc2 := s2 _ _ hc
      refine ⟨_, rfl, c, rfl, ⟨_, .inl (.inl hc2)⟩, fun D2 hD2 => lc_it (walk_tup (K := K) (a := c) (xs := [.int r, .int k])) (fun j H' => Same H2 H' ∧ H' D2 = some (.lst ((List.replicate j true).map V.bl))) ⟨same_new hD2, upd_same⟩ (fun j H' _ h => .inl (.inl (h.1 _ _ hc2))) ?_ ?_⟩
      · rintro j y H3 H4 hj ⟨s3, hD3⟩ ⟨rfl, hy⟩
        have hj2 : j < 2 := hj
        obtain ⟨n, rfl⟩ : ∃ n, y = .int n := by
          match j, hy with
          | 0, hy => cases hy; exact ⟨_, rfl⟩
          | 1, hy => cases hy; exact ⟨_, rfl⟩
        refine ⟨rfl, yes_it ⟨_, rfl, _, _, _, _, _, rfl, .ty "int", .base (.int n), kit_ty (r := true) (by decide +kernel), true, rfl, iteT ⟨_, rfl, _, _, _, _, _, rfl, .ty "bool", .base (.int n), kit_ty (r := false) (by decide +kernel), false, rfl, _, hD3, by rw [List.length_map, List.length_replicate]; exact small1000 (by omega), same_mut s3 hD2, ?_⟩⟩⟩
        rw [upd_same, List.replicate_succ', List.map_append]
        rfl
      · rintro H3 ⟨s3, hD3⟩
        refine ⟨D2, _, rfl, .inl (.inl hD3), _, rfl, ?_⟩
        rw [all_true]
        exact iteF ⟨⟨_, rfl⟩, s2.trans s3⟩
    rintro σ H2 ⟨⟨y1, rfl⟩, s2⟩
    have ha2 := s2 _ _ ha
    have e3 : decide ((((as.map V.ref).length : Nat) : Int) > 3) = true := decide_eq_true (by rw [List.length_map]; omega)
    refine ⟨_, rfl, a, _, rfl, .inr (.inl (.inl ha2)), _, _, rfl, rfl, _, rfl, ?_⟩
    have e3' : decide ((3 : Int) < (((as.map V.ref).length : Nat) : Int)) = true := e3
    rw [e3']
    refine iteT ⟨_, rfl, a, _, rfl, .inr (.inl (.inl ha2)), (((as.map V.ref).length : Nat) : Int), rfl, by omega, by rw [List.length_map]; omega, fun D2 hD2 => lc_range (lo := 0) (n := _) (fun i H' => Same H2 H' ∧ H' D2 = some (.lst ((List.replicate i false).map V.bl))) ⟨same_new hD2, upd_same⟩ ?_ ?_⟩
    · rintro i H3 hi ⟨s3, hD3⟩
      have hi : i < ps.length := by
        rw [List.length_map, Int.toNat_natCast] at hi
        omega
      have ha3 := s3 _ _ ha2
      refine ⟨rfl, yes_it ⟨_, rfl, _, rfl, _, rfl, ?_⟩⟩
      unfold tNoPart
      refine slA_rd ha3 fun u1 H4 s4 hu1 => ⟨_, rfl, _, rfl, _, rfl, slA_rd (s4 _ _ ha3) fun u2 H5 s5 hu2 => ?_⟩
      rw [Int.zero_add, cutA_from] at hu1
      rw [Int.zero_add, cutA_to] at hu2
      refine catA_rd (s5 _ _ hu1) hu2 (by rw [List.length_drop, List.length_take, List.length_map]; omega) fun u3 H6 s6 hu3 => ?_
      have S36 := (s4.trans s5).trans s6
      have S06 := (s2.trans s3).trans S36
      have ln : LnAt H6 u3 (rotR i ps) := ⟨as.drop i ++ as.take i, by rw [hu3, List.map_append, List.map_drop, List.map_take], Each.append ((each_drop i hP).mono fun _ _ r => PtAt.keep r (tk_same S06)) ((each_tk i hP).mono fun _ _ r => PtAt.keep r (tk_same S06))⟩
      have ln0 : LnAt H6 a ps := ⟨as, S06 _ _ ha, PtsAt.keep hP (tk_same S06)⟩
      refine ⟨_, rfl, encLn (rotR i ps), encLn ps, dp_ln ln, dp_ln ln0, ln_alike _ _, (fun z => by cases z), Nat.le_trans (ln_depth _) (by decide), _, S36 _ _ hD3, by rw [List.length_map, List.length_replicate]; exact small1000 (by omega), same_mut (s3.trans S36) hD2, ?_⟩
      rw [upd_same, show PySem.W.dataLt (encLn (rotR i ps)) (encLn ps) = false from hle i hi, List.replicate_succ', List.map_append]
      rfl
    · rintro H3 ⟨s3, hD3⟩
      refine ⟨D2, _, rfl, .inl (.inl hD3), _, rfl, ?_⟩
      rw [any_false]
      exact q _ (s2.trans s3)
end
end Wl

/-! to the left where two ways lead on -/
namespace Wl
open PySem PySem.Spec PyProof.Rows L2
theorem two_of {α : Type} {l : List α} (nd : l.Nodup) (h : 1 < l.length) : ∃ a b, a ∈ l ∧ b ∈ l ∧ a ≠ b := by
  match l, nd, h with
  | a :: b :: r, nd, _ => exact ⟨a, b, by simp, by simp, fun e => (List.nodup_cons.mp nd).1 (by rw [e]; simp)⟩
section
variable {P : Program} {w : World} {K : PySem.W.Frag} {mg : Str → Option Value} {base : Heap} {f C D W : Addr} {fd : FuncData}
def spTurns : Sp := fun vs H Q _ => ∃ (a l : Addr) (S : List Pt) (R EL : List Ed) (es : List Addr), vs = [.ref a, .ref l] ∧ S.Nodup ∧ RingR S R ∧ LnAt H a (laneOf R) ∧ R.length ≤ 144 ∧ H l = some (.lst (es.map V.ref)) ∧ EdsAt H es EL ∧ EL.Perm (outerR S) ∧ EL.length ≤ 144 ∧ ∀ H', Same H H' → Q (.bl true) H'
abbrev nTurns : List Str := ["_law_lane", "_law_edges_here", "_law_steps_here", "_law_k", "_law_begin", "_law_end", "_law_ways", "_law_down", "_law_along", "_law_left", "_law_then", "_law_one"]
abbrev psTurns : List Str := ["_law_lane", "_law_edges_here"]
theorem scTurns : FnScope nTurns psTurns (defScope sTurns) := ⟨rfl, rfl, rfl, by decide +kernel, rfl, by decide +kernel, by decide +kernel⟩
theorem ok_turns (F : Fun K "_law_turns_left" "_law_turns_left" sTurns f fd) (B : Bi mg) (hSt : Has P w K mg base "_law_steps" 1 ["_law_lane"] spLSteps) : FnOk P w K mg base CX0 2 f fd psTurns spTurns := by
  refine F.ok scTurns (fun vs H Q E h => ?_) (fun cdv A outer s H vs Q E hr h => ?_)
  · obtain ⟨a, l, S, R, EL, es, rfl, _⟩ := h
    rfl
  · obtain ⟨a, l, S, R, EL, es, rfl, ndS, hR, hLn, lR, hl, hE, pE, lE, q⟩ := h
    have hu65 : (A.deeper (envOfC "_law_turns_left" (defScope sTurns) s.heap.objs.size f cdv)).units + 65 < cLine := by have := hr.un; omega
    refine ⟨_, pss_cons (ps_set (i := 2) scTurns.nd rfl (.inl rfl) (pe_h hSt hr (pa_cons (pv 0) pa_nil)))
      (pss_cons (ps_for PassesOwn.never rfl (pi_range1 rfl B.range (pa_cons (pe_callB call_len_seq (by rfl) B.len PySem.boot_len (pa_cons (pv 2) pa_nil)) pa_nil)) (pg_name (i := 3) scTurns.nd rfl (.inl rfl))
        (pss_cons (ps_asg (pe_ix ix_list (pv 2) (pv 3) (fun _ _ => rfl)) (pg_tup rfl (pgs_cons (pg_name (i := 4) scTurns.nd rfl (.inl rfl)) (pgs_cons (pg_name (i := 5) scTurns.nd rfl (.inr rfl)) pgs_nil))))
        (pss_cons (ps_setLc (i := 6) (own := [("_law_one", 11)]) (g := gName 11) (te := tVar 11) (tt := tTest (tOp (rEqD K) (tOp (rIxT K) (tVar 11) (tC (.int 0))) (tVar 5))) rfl scTurns.nd rfl rfl (sw_true rfl rfl rfl (by decide +kernel)) (pi_list (pv 1)) (blkOk_by (N := nTurns) (sc := defScope sTurns) (by decide +kernel))
          (fun _ _ _ _ _ => pg_name (i := 11) scTurns.nd rfl (.inl rfl)) (fun _ _ _ _ _ => pts_one (pt_cmpR (op_eqD hr.units) (pe_ix ix_tup (pv 11) pe_int (fun _ _ => rfl)) (pv 5) (nomark _))) (fun _ _ _ _ _ => pv 11))
        (pss_cons (ps_par (i := 7) (j := 8) (by rfl) scTurns.nd rfl rfl (by decide) rfl rfl (pa_cons (pe_op op_sub (pe_ix ix_tup (pv 5) pe_int (fun _ _ => rfl)) (pe_ix ix_tup (pv 4) pe_int (fun _ _ => rfl))) (pa_cons (pe_op op_sub (pe_ix ix_tup (pv 5) pe_int (fun _ _ => rfl)) (pe_ix ix_tup (pv 4) pe_int (fun _ _ => rfl))) pa_nil)) (by rfl))
        (pss_cons (ps_set (i := 9) scTurns.nd rfl (.inl rfl) (pe_tup (pa_cons (pv 5) (pa_cons (pe_tup (pa_cons (pe_op op_sub (pe_ix ix_tup (pv 5) pe_int (fun _ _ => rfl)) (pv 8)) (pa_cons (pe_op op_add (pe_ix ix_tup (pv 5) pe_int (fun _ _ => rfl)) (pv 7)) pa_nil))) pa_nil))))
        (pss_cons (ps_set (i := 10) scTurns.nd rfl (.inl rfl) (pe_ix ix_list (pv 2) (pe_op op_mod (pe_op op_add (pv 3) pe_int) (pe_callB call_len_seq (by rfl) B.len PySem.boot_len (pa_cons (pv 2) pa_nil))) (fun _ _ => rfl)))
        (pss_one (ps_if (PW.pt (pw_or (pt_cmpR (op_notInD hu65) (pv 10) (pv 6) (by rfl)) (pw_or1 (PW.pt (pw_and (pt_cmpR op_gt (pe_callB call_len_seq (by rfl) B.len PySem.boot_len (pa_cons (pv 6) pa_nil)) pe_int (nomark _)) (pw_and1 (pt_cmpR (op_neD hr.units) (pv 10) (pv 9) (nomark _)))))))) (pss_one (ps_ret pe_bl)) pss_nil))))))))
      (pss_one (ps_ret pe_bl))), ?_⟩
    have l1 := hR.cyc.1
    refine ⟨_, rfl, a, laneOf R, rfl, hLn, by rw [List.length_map]; exact l1, by rw [List.length_map]; exact lR, fun D es2 H1 nD s1 hD1 hS1 => ?_⟩
    rw [steps_ring hR] at hS1
    have le2 : es2.length = R.length := hS1.length
    refine ⟨_, rfl, D, _, rfl, .inl (.inl (.inl hD1)), (((es2.map V.ref).length : Nat) : Int), rfl, by omega, by rw [List.length_map]; omega, ?_⟩
    refine for_range (lo := 0) (n := _) (fun i σ H' => (∃ y3 y4 y5 y6 y7 y8 y9 y10, σ = [some (.ref a), some (.ref l), some (.ref D), y3, y4, y5, y6, y7, y8, y9, y10, none]) ∧ Same H1 H') ⟨⟨_, _, _, _, _, _, _, _, rfl⟩, Same.refl _⟩ ?_ ?_
    · rintro i σ H2 hi ⟨⟨y3, y4, y5, y6, y7, y8, y9, y10, rfl⟩, s2⟩
      have hi : i < R.length := by rw [List.length_map, Int.toNat_natCast] at hi; omega
      obtain ⟨e, he⟩ : ∃ e, R[i]? = some e := ⟨_, List.getElem?_eq_getElem hi⟩
      have hem := hR.mem e (List.mem_of_getElem? he)
      have hen := hR.cyc.2 i e he
      obtain ⟨ea, hea, heE⟩ := Each.get2 hS1 he
      obtain ⟨b1, b2, g0, g1, g2⟩ := heE.keep (tk_same s2)
      have hD2 := s2 _ _ hD1
      refine ⟨_, rfl, _, rfl, D, _, _, .ref ea, rfl, rfl, .inl (.inl hD2), by rw [Int.zero_add]; exact atI_nat (by rw [List.getElem?_map, hea]; rfl), ea, _, rfl, .inl (.inl g0), rfl, _, _, rfl, _, _, rfl, rfl, ?_⟩
      have S2 := s1.trans s2
      have hl2 := S2 _ _ hl
      have hE2 := hE.keep (tk_same S2)
      have le : es.length = EL.length := hE.length
      refine ⟨_, rfl, l, rfl, ⟨_, .inl (.inl hl2)⟩, fun Dw hDw => lc_it (walk_list (K := K) (a := l) (xs := es.map V.ref)) (fun j H' => Same H2 H' ∧ ∃ ws : List Addr, H' Dw = some (.lst (ws.map V.ref)) ∧ EdsAt H' ws ((EL.take j).filter fun w => decide (w.1 = e.2)) ∧ ws.length ≤ j)
        ⟨same_new hDw, [], upd_same, .nil, Nat.le_refl _⟩ (fun j H' _ h => .inl (.inl (h.1 _ _ hl2))) ?_ ?_⟩
      · rintro j x H3 H4 hj ⟨s3, ws, hD3, hW3, hl3⟩ ⟨rfl, hx⟩
        rw [List.getElem?_map] at hx
        obtain ⟨wa, hwa, rfl⟩ := Option.map_eq_some_iff.mp hx
        obtain ⟨wv, hwv, hwE⟩ := Each.get hE2 hwa
        have hw3 := hwE.keep (tk_same s3)
        obtain ⟨d1, d2, k1, k2, k3⟩ := id hw3
        have hj4 : j < 144 := by have := (List.getElem?_eq_some_iff.mp hwv).1; omega
        have ft := filter_take_snoc (p := fun w : Ed => decide (w.1 = e.2)) hwv
        refine ⟨rfl, _, rfl, wa, _, 0, .ref d1, rfl, rfl, .inl (.inl k1), atI_nat (j := 0) rfl, _, rfl, encPt wv.1, encPt e.2, dp_pt k2, dp_pt (PtAt.keep g2 (tk_same s3)), sh_pt _, sh_pt _, _, rfl, ?_⟩
        rw [pt_eqv]
        by_cases hm : wv.1 = e.2
        · rw [decide_eq_true hm]
          have tk := tk_upd (o := .lst (ws.map V.ref ++ [V.ref wa])) hD3
          refine iteT ⟨_, rfl, _, hD3, by rw [List.length_map]; exact small1000 (by omega), same_mut s3 hDw, ws ++ [wa], by rw [upd_same, List.map_append]; rfl, ?_, by rw [List.length_append]; show ws.length + 1 ≤ _; omega⟩
          rw [ft, if_pos (decide_eq_true hm)]
          exact Each.append (hW3.keep tk) (.cons (hw3.keep tk) .nil)
        · rw [decide_eq_false hm]
          refine iteF ⟨s3, ws, hD3, ?_, by omega⟩
          rw [ft, if_neg (by rw [decide_eq_false hm]; decide), List.append_nil]
          exact hW3
      rintro H3 ⟨s3, ws, hD3, hW3, lw⟩
      rw [List.length_map, le, List.take_length] at hW3
      rw [List.length_map] at lw
      have g0 := s3 _ _ g0
      have g1 := PtAt.keep g1 (tk_same s3)
      have g2 := PtAt.keep g2 (tk_same s3)
      have hD3' := s3 _ _ hD2
      have S3 := s2.trans s3
      refine ⟨_, rfl, b2, _, 0, .int e.2.1, rfl, rfl, .inl (.inl g2), atI_nat (j := 0) rfl, _, rfl, b1, _, 0, .int e.1.1, rfl, rfl, .inl (.inl g1), atI_nat (j := 0) rfl, _, _, rfl, rfl, _, rfl, b2, _, 1, .int e.2.2, rfl, rfl, .inl (.inl g2), atI_nat (j := 1) rfl, _, rfl, b1, _, 1, .int e.1.2, rfl, rfl, .inl (.inl g1), atI_nat (j := 1) rfl, _, _, rfl, rfl, _, _, rfl, ?_⟩
      refine ⟨_, rfl, _, rfl, b2, _, 0, .int e.2.1, rfl, rfl, .inl (.inl g2), atI_nat (j := 0) rfl, _, rfl, _, _, rfl, rfl, _, rfl, b2, _, 1, .int e.2.2, rfl, rfl, .inl (.inl g2), atI_nat (j := 1) rfl, _, rfl, _, _, rfl, rfl, lz, fun pl hpl => ⟨lz, fun L hL => ?_⟩⟩
      have k1 := same_new (o := .tup [V.int (e.2.1 - (e.2.2 - e.1.2)), .int (e.2.2 + (e.2.1 - e.1.1))]) hpl
      have k2 := same_new (o := .tup [V.ref b2, .ref pl]) hL
      have S5 := S3.trans (k1.trans k2)
      have hLe : EdAt (upd (upd H3 pl (.tup [V.int (e.2.1 - (e.2.2 - e.1.2)), .int (e.2.2 + (e.2.1 - e.1.1))])) L (.tup [V.ref b2, .ref pl])) L (leftR e) := ⟨b2, pl, upd_same, (k1.trans k2) _ _ g2, k2 _ _ upd_same⟩
      have hW5 := hW3.keep (tk_same (k1.trans k2))
      have hDw5 := (k1.trans k2) _ _ hD3
      generalize upd (upd H3 pl (.tup [V.int (e.2.1 - (e.2.2 - e.1.2)), .int (e.2.2 + (e.2.1 - e.1.1))])) L (.tup [V.ref b2, .ref pl]) = H5 at S5 hLe hW5 hDw5 ⊢
      clear k1 k2 hpl hL g0 g1 g2 hW3 hD3
      -- the next
      obtain ⟨na, hna, hnE⟩ := Each.get2 hS1 hen
      have hn5 := hnE.keep (tk_same S5)
      have hD5 := S5 _ _ hD1
      have em : ((0 : Int) + (i : Int) + 1) % (((es2.map V.ref).length : Nat) : Int) = (((i + 1) % R.length : Nat) : Int) := by
        rw [List.length_map, le2, Int.zero_add, Int.natCast_emod]
        rfl
      refine ⟨_, rfl, _, rfl, _, _, rfl, rfl, _, rfl, D, _, rfl, .inl (.inl (.inl hD5)), _, _, rfl, rfl, (show (0 : Int) < _ by rw [List.length_map]; omega), D, _, _, .ref na, rfl, rfl, .inl (.inl hD5), by rw [em]; exact atI_nat (by rw [List.getElem?_map, hna]; rfl), ?_⟩
      have nin := next_in e hem
      have nat := next_at e hem
      have ndE : EL.Nodup := pE.nodup_iff.mpr (outer_nodup ndS)
      have nw : nextR (outerR S) e ∈ EL.filter fun w => decide (w.1 = e.2) := List.mem_filter.mpr ⟨pE.mem_iff.mpr nin, decide_eq_true nat⟩
      refine ⟨_, rfl, _, rfl, encEd (nextR (outerR S) e), (EL.filter fun w => decide (w.1 = e.2)).map encEd, dp_ed hn5, .lst (.inl (.inl hDw5)) (dp_eds hW5), sh_ed _, sh_eds _, _, rfl, ?_⟩
      rw [any_ed, decide_eq_true nw]
      have lws : ws.length = (EL.filter fun w => decide (w.1 = e.2)).length := hW5.length
      refine iteF ⟨_, rfl, Dw, _, rfl, .inl (.inl (.inl hDw5)), _, _, rfl, rfl, _, rfl, ite_b (fun c => ?_) (fun c => iteF ⟨⟨_, _, _, _, _, _, _, _, rfl⟩, S5⟩)⟩
      have c : 1 < (EL.filter fun w => decide (w.1 = e.2)).length := by
        have c := of_decide_eq_true c
        rw [List.length_map, lws] at c
        omega
      obtain ⟨u1, u2, m1, m2, nu⟩ := two_of (List.Pairwise.filter _ ndE) c
      obtain ⟨m1, q1⟩ := List.mem_filter.mp m1
      obtain ⟨m2, q2⟩ := List.mem_filter.mp m2
      have nl := next_left hem (pE.mem_iff.mp m1) (pE.mem_iff.mp m2) (of_decide_eq_true q1) (of_decide_eq_true q2) nu
      refine ⟨_, rfl, _, rfl, encEd (nextR (outerR S) e), encEd (leftR e), dp_ed hn5, dp_ed hLe, sh_ed _, sh_ed _, _, rfl, ?_⟩
      rw [ed_eqv, decide_eq_true nl]
      exact iteF ⟨⟨_, _, _, _, _, _, _, _, rfl⟩, S5⟩
    · rintro σ H2 ⟨⟨y3, y4, y5, y6, y7, y8, y9, y10, rfl⟩, s2⟩
      exact q _ (s1.trans s2)
end
end Wl

/-! all that is asked of the rings told -/
namespace Wl
open PySem PySem.Spec PyProof.Rows L2
theorem eds_eqv (es : List Ed) : PyData.eqv (.list (es.map encEd)) (.list (es.map encEd)) = true := by
  have : PyData.eqvAll (es.map encEd) (es.map encEd) = true := by
    induction es with
    | nil => rfl
    | cons e es ih => simp only [List.map_cons, PyData.eqvAll, ed_eqv, ih, decide_true, Bool.and_self]
  simpa [PyData.eqv] using this
theorem len_flat {α : Type} : ∀ {F : List (List α)} {R : List α}, R ∈ F → R.length ≤ F.flatten.length
  | X :: F, R, h => by
    rw [List.flatten_cons, List.length_append]
    rcases List.mem_cons.mp h with e | h
    · rw [e]; omega
    · have := len_flat h; omega
theorem take_flat {α : Type} : ∀ (F : List (List α)) (i : Nat), (F.take i).flatten.length ≤ F.flatten.length
  | [], i => by simp
  | X :: F, 0 => by simp
  | X :: F, i + 1 => by
    have := take_flat F i
    rw [List.take_succ_cons, List.flatten_cons, List.flatten_cons, List.length_append, List.length_append]
    omega
section
variable {P : Program} {w : World} {K : PySem.W.Frag} {mg : Str → Option Value} {base : Heap} {f C D W : Addr} {fd : FuncData}
def spRight : Sp := fun vs H Q _ => ∃ (t l : Addr) (ls as : List Addr) (G : List (List Ed)) (S S' : List Pt), vs = [.ref t, .ref l] ∧ H t = some (.tup (ls.map V.ref)) ∧ Each (LnAt H) ls (G.map laneOf) ∧ LanesR S G ∧ S.Nodup ∧ S.length ≤ 36 ∧ S'.Perm S ∧ H l = some (.lst (as.map V.ref)) ∧ PtsAt H as S' ∧ ∀ H', Same H H' → Q (.bl true) H'
abbrev nRight : List Str := ["_law_found", "_law_places", "_law_edges_here", "_law_steps_here", "_law_lane", "_law_k"]
abbrev psRight : List Str := ["_law_found", "_law_places"]
theorem scRight : FnScope nRight psRight (defScope sRight) := ⟨rfl, rfl, rfl, by decide +kernel, rfl, by decide +kernel, by decide +kernel⟩
theorem ok_right (F : Fun K "_law_right" "_law_right" sRight f fd) (B : Bi mg) (hEd : Has P w K mg base "_law_edges" 1 ["_law_places"] spLEdges) (hSt : Has P w K mg base "_law_steps" 1 ["_law_lane"] spLSteps) (hLa : Has P w K mg base "_law_is_lane" 1 ["_law_lane"] spLane) (hTu : Has P w K mg base "_law_turns_left" 2 psTurns spTurns) : FnOk P w K mg base CX0 3 f fd psRight spRight := by
  refine F.ok scRight (fun vs H Q E h => ?_) (fun cdv A outer s H vs Q E hr h => ?_)
  · obtain ⟨t, l, ls, as, G, S, S', rfl, _⟩ := h
    rfl
  · obtain ⟨t, l, ls, as, G, S, S', rfl, ht, hLs, lan, ndS, lS, pS, hl, hS, q⟩ := h
    have hu65 : (A.deeper (envOfC "_law_right" (defScope sRight) s.heap.objs.size f cdv)).units + 65 < cLine := by have := hr.un; omega
    refine ⟨_, pss_cons (ps_par (i := 2) (j := 3) (by rfl) scRight.nd rfl rfl (by decide) rfl rfl (pa_cons (pe_h hEd hr (pa_cons (pv 1) pa_nil)) (pa_cons (pe_lst pa_nil) pa_nil)) (by rfl))
      (pss_cons (ps_if (PW.pt (pw_or (pt_not (pt_val (pe_callB call_isi (by rfl) B.isi (by decide +kernel) (pa_cons (pv 0) (pa_cons (pe_bltn (v := .ty "tuple") (by rfl) B.tuple (by decide +kernel) rfl) pa_nil))))) (pw_or1 (pt_not (pt_val (pe_callB (cr_all rfl) (by rfl) B.all (by decide +kernel) (pa_cons (pe_lc (own := [("_law_lane", 4)]) (g := gName 4) (tt := tYes) (te := tCall spLane [] E0 (tCons (tVar 4) tNil)) rfl scRight.nd (pi_tup (pv 0)) (blkOk_by (N := nRight) (sc := defScope sRight) (by decide +kernel))
        (fun _ _ _ _ _ => pg_name (i := 4) scRight.nd rfl (.inl rfl)) (fun _ _ _ _ _ => pts_nil) (fun _ _ _ _ _ => pe_h hLa hr (pa_cons (pv 4) pa_nil))) pa_nil))))))) (pss_one (ps_ret pe_bl)) pss_nil)
      (pss_cons (ps_if (pt_not (pt_val (pe_callB (cr_all rfl) (by rfl) B.all (by decide +kernel) (pa_cons (pe_lc (own := [("_law_k", 5)]) (g := gName 5) (tt := tYes) (te := tOp (rLtD K) (tOp (rIxT K) (tVar 0) (tVar 5)) (tOp (rIxT K) (tVar 0) (tOp (rI0 fun i j => .int (i + j)) (tVar 5) (tC (.int 1))))) rfl scRight.nd (pi_range1 (by rfl) B.range (pa_cons (pe_op op_sub (pe_callB call_len_seq (by rfl) B.len PySem.boot_len (pa_cons (pv 0) pa_nil)) pe_int) pa_nil)) (blkOk_by (N := nRight) (sc := defScope sRight) (by decide +kernel))
        (fun _ _ _ _ _ => pg_name (i := 5) scRight.nd rfl (.inl rfl)) (fun _ _ _ _ _ => pts_nil) (fun _ _ _ _ _ => pe_cmpR (op_ltD hu65) (pe_ix ix_tup (pv 0) (pv 5) (fun _ _ => rfl)) (pe_ix ix_tup (pv 0) (pe_op op_add (pv 5) pe_int) (fun _ _ => rfl)) (nomark _))) pa_nil)))) (pss_one (ps_ret pe_bl)) pss_nil)
      (pss_cons (ps_for PassesOwn.never rfl (pi_tup (pv 0)) (pg_name (i := 4) scRight.nd rfl (.inl rfl))
        (pss_cons (ps_expr (pe_bm PySem.F.plainAttrs_list PySem.F.slot_list_extend PySem.F.type_list_extend mt_extend (pv 3) (pa_cons (pe_h hSt hr (pa_cons (pv 4) pa_nil)) pa_nil)))
        (pss_one (ps_if (pt_not (pt_val (pe_h hTu hr (pa_cons (pv 4) (pa_cons (pv 2) pa_nil))))) (pss_one (ps_ret pe_bl)) pss_nil))))
      (pss_one (ps_ret (pe_cmpR (op_eqD hr.units) (pe_callB (cr_sortD hr.units) (by rfl) B.sorted (by decide +kernel) (pa_cons (pv 3) pa_nil)) (pe_callB (cr_sortD hr.units) (by rfl) B.sorted (by decide +kernel) (pa_cons (pv 2) pa_nil)) (nomark _))))))), ?_⟩
    have l144 : (outerR S).length ≤ 144 := by have := outer_len S; omega
    have lfl : G.flatten.length ≤ 144 := by rw [lan.all.length_eq]; exact l144
    have lG : G.length ≤ 144 := Nat.le_trans (flat_le fun R hR => (lan.lane R hR).ring.cyc.1) lfl
    have lls : ls.length = G.length := by rw [hLs.length, List.length_map]
    have pE := outer_perm pS
    have lEL : (outerL S').length ≤ 144 := by rw [pE.length_eq]; exact l144
    have getR : ∀ (i : Nat) (x : V), (ls.map V.ref)[i]? = some x → ∃ a R, x = .ref a ∧ G[i]? = some R ∧ LnAt H a (laneOf R) := fun i x hx => by
      rw [List.getElem?_map] at hx
      obtain ⟨a, ha, rfl⟩ := Option.map_eq_some_iff.mp hx
      obtain ⟨ps, hps, hat⟩ := Each.get hLs ha
      rw [List.getElem?_map] at hps
      obtain ⟨R, hR, rfl⟩ := Option.map_eq_some_iff.mp hps
      exact ⟨a, R, rfl, hR, hat⟩
    have l1 : (S'.length ≤ 36) := by rw [pS.length_eq]; exact lS
    refine ⟨_, rfl, l, as, S', rfl, hl, hS, l1, fun el es H1 s1 hel hE1 => ⟨lz, fun St hSt0 => ⟨_, _, rfl, ?_⟩⟩⟩
    have k2 := same_new (o := .lst []) hSt0
    have s2 := s1.trans k2
    have hel2 := k2 _ _ hel
    have hE2 := hE1.keep (tk_same k2)
    have hSt2 : upd H1 St (.lst []) St = some (.lst (([] : List Addr).map V.ref)) := upd_same
    have nSt : H St = none := s1.free hSt0
    have nel : el ≠ St := ne_of_none hel hSt0
    generalize upd H1 St (.lst []) = H2 at s2 hel2 hE2 hSt2 ⊢
    clear k2 hE1 hel hSt0
    -- all lanes
    refine ⟨_, rfl, _, _, _, _, _, rfl, .ty "tuple", .base (.tup (s2 _ _ ht)), kit_ty (r := true) (by decide +kernel), true, rfl, iteF ?_⟩
    refine ⟨_, rfl, t, rfl, ⟨_, .inl (.inl (s2 _ _ ht))⟩, fun Da hDa => lc_it (walk_tup (K := K) (a := t) (xs := ls.map V.ref)) (fun i H' => Same H2 H' ∧ H' Da = some (.lst ((List.replicate i true).map V.bl))) ⟨same_new hDa, upd_same⟩ (fun i H' _ h => .inl (.inl (h.1 _ _ (s2 _ _ ht)))) ?_ ?_⟩
    · rintro i x H3 H4 hi ⟨s3, hD3⟩ ⟨rfl, hx⟩
      obtain ⟨a, R, rfl, hR, hat⟩ := getR i x hx
      have hL := lan.lane R (List.mem_of_getElem? hR)
      have hi : i < 144 := by have := (List.getElem?_eq_some_iff.mp hR).1; omega
      have lR := len_flat (List.mem_of_getElem? hR)
      refine ⟨rfl, yes_it ⟨_, rfl, a, laneOf R, rfl, hat.keep (tk_same (s2.trans s3)), by rw [List.length_map]; exact ring_four hL.ring, by rw [List.length_map]; omega, fun k hk => hL.least k (by rw [List.length_map] at hk; exact hk), fun H5 s5 => ⟨_, s5 _ _ hD3, by rw [List.length_map, List.length_replicate]; exact small1000 (by omega), same_mut (s3.trans s5) hDa, ?_⟩⟩⟩
      rw [upd_same, List.replicate_succ', List.map_append]
      rfl
    rintro H3 ⟨s3, hD3⟩
    refine ⟨Da, _, rfl, .inl (.inl hD3), _, rfl, ?_⟩
    rw [all_true]
    have s03 := s2.trans s3
    -- rising
    refine iteF ⟨_, rfl, t, _, rfl, .inr (.inl (.inl (s03 _ _ ht))), _, _, rfl, rfl, (((ls.map V.ref).length : Nat) : Int) - 1, rfl, by rw [List.length_map]; omega, by rw [List.length_map]; omega, fun Db hDb => lc_range (lo := 0) (n := _) (fun i H' => Same H3 H' ∧ H' Db = some (.lst ((List.replicate i true).map V.bl))) ⟨same_new hDb, upd_same⟩ ?_ ?_⟩
    · rintro i H4 hi ⟨s4, hD4⟩
      have hi : i + 1 < G.length := by
        rw [List.length_map, lls] at hi
        omega
      have s04 := s03.trans s4
      obtain ⟨x0, hx0⟩ : ∃ x, (ls.map V.ref)[i]? = some x := ⟨_, List.getElem?_eq_getElem (by rw [List.length_map]; omega)⟩
      obtain ⟨x1, hx1⟩ : ∃ x, (ls.map V.ref)[i + 1]? = some x := ⟨_, List.getElem?_eq_getElem (by rw [List.length_map]; omega)⟩
      obtain ⟨a0, R0, rfl, hR0, hat0⟩ := getR i x0 hx0
      obtain ⟨a1, R1, rfl, hR1, hat1⟩ := getR (i + 1) x1 hx1
      have e1 : (0 : Int) + (i : Int) + 1 = ((i + 1 : Nat) : Int) := by omega
      refine ⟨rfl, yes_it ⟨_, rfl, _, rfl, t, _, _, .ref a0, rfl, rfl, .inl (.inl (s04 _ _ ht)), by rw [Int.zero_add]; exact atI_nat hx0, _, rfl, _, rfl, _, _, rfl, rfl, t, _, _, .ref a1, rfl, rfl, .inl (.inl (s04 _ _ ht)), by rw [e1]; exact atI_nat hx1, encLn (laneOf R0), encLn (laneOf R1), dp_ln (hat0.keep (tk_same s04)), dp_ln (hat1.keep (tk_same s04)), ln_alike _ _, (fun z => by cases z), Nat.le_trans (ln_depth _) (by decide), _, hD4, by rw [List.length_map, List.length_replicate]; exact small1000 (by omega), same_mut s4 hDb, ?_⟩⟩
      rw [upd_same, show PySem.W.dataLt (encLn (laneOf R0)) (encLn (laneOf R1)) = true from lan.rise i R0 R1 hR0 hR1, List.replicate_succ', List.map_append]
      rfl
    rintro H4 ⟨s4, hD4⟩
    refine ⟨Db, _, rfl, .inl (.inl hD4), _, rfl, ?_⟩
    rw [all_true]
    have s24 := s3.trans s4
    have s04 := s2.trans s24
    have hSt4 := s24 _ _ hSt2
    have hel4 := s24 _ _ hel2
    have hE4 := hE2.keep (tk_same s24)
    clear hD3 hD4 hSt2 hel2 hE2 hDa hDb
    -- the steps
    refine iteF ⟨_, rfl, t, rfl, ⟨_, .inl (.inl (s04 _ _ ht))⟩, for_tup (K := K) (a := t) (xs := ls.map V.ref) (fun i σ H' => (∃ y4, σ = [some (.ref t), some (.ref l), some (.ref el), some (.ref St), y4, none]) ∧ SameX St H4 H' ∧ ∃ ss : List Addr, H' St = some (.lst (ss.map V.ref)) ∧ EdsAt H' ss (G.take i).flatten)
      ⟨⟨_, rfl⟩, SameX.refl _ _, [], hSt4, .nil⟩ (fun i σ H' _ h => .inl (.inl (h.2.1 _ _ (ne_of_none ht nSt) (s04 _ _ ht)))) ?_ ?_⟩
    · rintro i x σ H5 hx ⟨⟨y4, rfl⟩, x5, ss, hSt5, hE5⟩
      obtain ⟨a, R, rfl, hR, hat⟩ := getR i x hx
      have hL := lan.lane R (List.mem_of_getElem? hR)
      have lR := len_flat (List.mem_of_getElem? hR)
      have tk5 : TupKeep H4 H5 := tk_x x5 hSt4
      have hat5 := (hat.keep (tk_same s04)).keep tk5
      have lss : ss.length ≤ 144 := by
        rw [hE5.length]
        exact Nat.le_trans (take_flat G i) lfl
      have l1 := hL.ring.cyc.1
      refine ⟨_, rfl, .inl ⟨rfl, _, .inl (.inl hSt5)⟩, _, rfl, a, laneOf R, rfl, hat5, by rw [List.length_map]; exact l1, by rw [List.length_map]; omega, fun p es6 H6 np s6 hp6 hE6 => ?_⟩
      rw [steps_ring hL.ring] at hE6
      have hSt6 := s6 _ _ hSt5
      refine ⟨St, p, _, _, rfl, rfl, hSt6, hp6, by rw [List.length_map, List.length_map]; exact Nat.le_of_lt (small1000 (by have := hE6.length; omega)), ?_⟩
      have tk7 := tk_upd (o := .lst (ss.map V.ref ++ es6.map V.ref)) hSt6
      have x7 : SameX St H4 (upd H6 St (.lst (ss.map V.ref ++ es6.map V.ref))) := (x5.trans (sx s6)).trans sameX_upd
      have hSt7 : upd H6 St (.lst (ss.map V.ref ++ es6.map V.ref)) St = some (.lst ((ss ++ es6).map V.ref)) := by rw [upd_same, List.map_append]
      have hE7 : EdsAt (upd H6 St (.lst (ss.map V.ref ++ es6.map V.ref))) (ss ++ es6) (G.take (i + 1)).flatten := by
        rw [List.take_add_one, hR, List.flatten_append]
        show EdsAt _ _ ((G.take i).flatten ++ [R].flatten)
        rw [List.flatten_cons, List.flatten_nil, List.append_nil]
        exact Each.append ((hE5.keep (tk_same s6)).keep tk7) (hE6.keep tk7)
      have hat7 := (hat5.keep (tk_same s6)).keep tk7
      show tSeq _ _ _ _ (upd H6 St (.lst (ss.map V.ref ++ es6.map V.ref)))
      generalize upd H6 St (.lst (ss.map V.ref ++ es6.map V.ref)) = H7 at x7 hSt7 hE7 hat7 ⊢
      have tk47 : TupKeep H4 H7 := tk_x x7 hSt4
      refine ⟨_, rfl, _, rfl, a, el, S, R, outerL S', es, rfl, ndS, hL.ring, hat7, by omega, x7 _ _ nel hel4, hE4.keep tk47, pE, lEL, fun H8 s8 => ⟨true, rfl, iteF ⟨⟨_, rfl⟩, x7.trans (sx s8), ss ++ es6, s8 _ _ hSt7, hE7.keep (tk_same s8)⟩⟩⟩
    rintro σ H5 ⟨⟨y4, rfl⟩, x5, ss, hSt5, hE5⟩
    rw [List.length_map, lls, List.take_length] at hE5
    have tk5 : TupKeep H4 H5 := tk_x x5 hSt4
    have hel5 := x5 _ _ nel hel4
    have hEl5 := hE4.keep tk5
    have S05 : Same H H5 := same_x s04 x5 nSt
    refine ⟨_, rfl, ?_⟩
    unfold tNil
    refine sort_encM (K := K) (enc := encEd) (.inl (.inl hSt5)) ((each_refs hE5).mono fun x b ⟨a, e, h⟩ => by rw [e]; exact dp_ed h) ed_alike (fun p _ => ⟨_, _, rfl⟩) ed_depth fun p9 ys9 hp9 hy9 => ?_
    obtain ⟨l9, rfl, hl9⟩ := refs_each (hy9 (fun x e => ∃ a, x = V.ref a ∧ EdAt H5 a e) (each_refs hE5))
    have k9 := same_new (o := .lst (l9.map V.ref)) hp9
    have hl9' : EdsAt (upd H5 p9 (.lst (l9.map V.ref))) l9 (sortE encEd G.flatten) := EdsAt.keep hl9 (tk_same k9)
    have hp9' : upd H5 p9 (.lst (l9.map V.ref)) p9 = some (.lst (l9.map V.ref)) := upd_same
    have hel9 := k9 _ _ hel5
    have hEl9 := hEl5.keep (tk_same k9)
    generalize upd H5 p9 (.lst (l9.map V.ref)) = H9 at k9 hl9' hp9' hel9 hEl9 ⊢
    refine ⟨_, rfl, ?_⟩
    refine sort_encM (K := K) (enc := encEd) (.inl (.inl hel9)) ((each_refs hEl9).mono fun x b ⟨a, e, h⟩ => by rw [e]; exact dp_ed h) ed_alike (fun p _ => ⟨_, _, rfl⟩) ed_depth fun pA ysA hpA hyA => ?_
    obtain ⟨lA, rfl, hlA⟩ := refs_each (hyA (fun x e => ∃ a, x = V.ref a ∧ EdAt H9 a e) (each_refs hEl9))
    have kA := same_new (o := .lst (lA.map V.ref)) hpA
    have eq : sortE encEd G.flatten = sortE encEd (outerL S') := (sortE_perm encEd_inj).mpr (lan.all.trans pE.symm)
    rw [← eq] at hlA
    refine ⟨.list ((sortE encEd G.flatten).map encEd), .list ((sortE encEd G.flatten).map encEd), .lst (.inl (.inl (kA _ _ hp9'))) (dp_eds (hl9'.keep (tk_same kA))), .lst (.inl (.inl upd_same)) (dp_eds (EdsAt.keep hlA (tk_same kA))), sh_eds _, sh_eds _, ?_⟩
    rw [eds_eqv]
    exact q _ (S05.trans (k9.trans kA))
end
end Wl

/-! what is drawn for a turn -/
namespace Wl
open PySem PySem.Spec PyProof.Rows L2
/-- rows, a map, the words of each village, the words told, the changes -/
structure DrAt (C W : Addr) (H : Hp) (a L ch d Po S : Addr) (g : Grid) (wd : Nat) (mr : MR) (chs : List Chg) (ws : List Str) (sh : Str → List Str) : Prop where
  grid : GridAt H L g
  gd : Good g wd
  map : MapAt C W H ch mr
  mg : mr.g = g
  mc : mr.chs = chs
  ms : mr.said = fun y => sortS (sh y)
  sh : ∃ ad : Str → Addr, H d = some (.dK (kvZ (fun z => .ref (ad z)) (sortS (names g)))) ∧ (∀ z ∈ sortS (names g), H (ad z) = some (.lst ((sh z).map V.str))) ∧ ∀ z ∈ sortS (names g), ad z ≠ a
  dn : d ≠ a
  po : H Po = some (.lst (ws.map V.str))
  pn : Po ≠ a
  wne : ws ≠ []
  wl : ws.length ≤ 4
  ww : ∀ z ∈ ws, IsWd z
  ca : ChAt H S chs
  okc : OkCs chs
theorem DrAt.x {C W : Addr} {H H' : Hp} {a L ch d Po S : Addr} {g : Grid} {wd : Nat} {mr : MR} {chs : List Chg} {ws : List Str} {sh : Str → List Str} (h : DrAt C W H a L ch d Po S g wd mr chs ws sh) (hA : PurseAt H a) (s : SameX a H H') : DrAt C W H' a L ch d Po S g wd mr chs ws sh := by
  obtain ⟨ys, hy⟩ := hA.lst
  obtain ⟨ad, h1, h2, h3⟩ := h.sh
  exact { h with grid := h.grid.keep (tk_x s hy), map := h.map.keep (kp_x s hy), sh := ⟨ad, s _ _ h.dn h1, fun z hz => s _ _ (h3 z hz) (h2 z hz), h3⟩, po := s _ _ h.pn h.po, ca := h.ca.keep (tk_x s hy) }
theorem DrAt.same {C W : Addr} {H H' : Hp} {a L ch d Po S : Addr} {g : Grid} {wd : Nat} {mr : MR} {chs : List Chg} {ws : List Str} {sh : Str → List Str} (h : DrAt C W H a L ch d Po S g wd mr chs ws sh) (s : Same H H') : DrAt C W H' a L ch d Po S g wd mr chs ws sh := by
  obtain ⟨ad, h1, h2, h3⟩ := h.sh
  exact { h with grid := h.grid.keep (tk_same s), map := h.map.same s, sh := ⟨ad, s _ _ h1, fun z hz => s _ _ (h2 z hz), h3⟩, po := s _ _ h.po, ca := h.ca.keep (tk_same s) }
section
variable {P : Program} {w : World} {K : PySem.W.Frag} {mg : Str → Option Value} {base : Heap} {f C D W : Addr} {fd : FuncData}
def spDrawn (C W : Addr) : Sp := fun vs H Q _ => ∃ (a : Addr) (great : Bool), vs = [.ref a, .bl great] ∧ PurseAt H a ∧
  ∀ (t L ch d Po S : Addr) (g : Grid) (wd : Nat) (mr : MR) (chs : List Chg) (ws : List Str) (sh : Str → List Str) (H' : Hp), PurseAt H' a → SameX a H H' → H' t = some (.tup [.ref L, .ref ch, .ref d, .ref Po, .ref S]) → DrAt C W H' a L ch d Po S g wd mr chs ws sh → Q (.ref t) H'
abbrev nDrawn : List Str := ["_law_purse_here", "_law_great", "_law_rows", "_law_pool_here", "_law_shifts", "_law_labels", "_law_topic", "_law_told_here", "_law_low", "_law_ages", "_law_chart"]
abbrev psDrawn : List Str := ["_law_purse_here", "_law_great"]
theorem scDrawn : FnScope nDrawn psDrawn (defScope sDrawn) := ⟨rfl, rfl, rfl, by decide +kernel, rfl, by decide +kernel, by decide +kernel⟩
theorem ok_drawn (F : Fun K "_law_drawn" "_law_drawn" sDrawn f fd) (B : Bi mg) (TM : TxtM K mg W) (hPick : Has P w K mg base "_law_pick" 1 ["_law_purse_here", "_law_count"] spPick)
    (hLand : Has P w K mg base "_law_land" 4 ["_law_purse_here", "_law_limit"] spLand) (hNames : Has P w K mg base "_law_names" 1 ["_law_rows"] spNames) (hPool : Has P w K mg base "_law_pool" 4 ["_law_purse_here"] spPool)
    (hChg : Has P w K mg base "_law_changes" 2 ["_law_purse_here", "_law_limit"] spChanges) (hTold : Has P w K mg base "_law_told" 2 ["_law_purse_here", "_law_labels", "_law_topic", "_law_pool_here"] spTold)
    (hTome : Has P w K mg base "_law_tome" 6 ["_law_rows", "_law_told_here"] (spTome C D)) (hShown : Has P w K mg base "_law_shown" 3 ["_law_labels", "_law_told_here", "_law_topic", "_law_shifts", "_law_ages"] spShown) (hW : HasW P w K mg base C D W) : FnOk P w K mg base CX0 10 f fd psDrawn (spDrawn C W) := by
  obtain ⟨fW, fdW, MW, GW, FnW⟩ := hW
  obtain ⟨ds4, v4, b4⟩ := mi_b4 FnW
  have b6 := mi_b6 FnW
  refine F.ok scDrawn (fun vs H Q E h => ?_) (fun cdv A outer s H vs Q E hr h => ?_)
  · obtain ⟨a, great, rfl, _⟩ := h
    rfl
  · obtain ⟨a, great, rfl, hA, q⟩ := h
    refine ⟨_, pss_cons (ps_par3 (i := 2) (j := 3) (l := 4) (by rfl) scDrawn.nd rfl rfl rfl (by decide) (by decide) (by decide) rfl rfl rfl (pa_cons (pe_h hLand hr (pa_cons (pv 0) (pa_cons (pe_ix ix_list (pe_lst (pa_cons pe_int (pa_cons pe_int pa_nil))) (pe_callTy call_int1 (by rfl) B.int (by decide +kernel) (pa_cons (pv 1) pa_nil)) (fun _ _ => rfl)) pa_nil))) (pa_cons (pe_h hPool hr (pa_cons (pv 0) pa_nil)) (pa_cons (pe_h hChg hr (pa_cons (pv 0) (pa_cons pe_int pa_nil))) pa_nil))) (by rfl))
      (pss_cons (ps_par (i := 5) (j := 6) (by rfl) scDrawn.nd rfl rfl (by decide) rfl rfl (pa_cons (pe_h hNames hr (pa_cons (pv 2) pa_nil)) (pa_cons pe_str pa_nil)) (by rfl))
      (pss_cons (ps_par (i := 7) (j := 8) (by rfl) scDrawn.nd rfl rfl (by decide) rfl rfl (pa_cons (pe_h hTold hr (pa_cons (pv 0) (pa_cons (pv 5) (pa_cons (pv 6) (pa_cons (pv 3) pa_nil))))) (pa_cons (pe_h hPick hr (pa_cons (pv 0) (pa_cons pe_int pa_nil))) pa_nil)) (by rfl))
      (pss_cons (ps_set (i := 9) scDrawn.nd rfl (.inl rfl) (pe_ix ix_list (pe_lst (pa_cons (pe_tup (pa_cons pe_int (pa_cons pe_int pa_nil))) (pa_cons (pe_tup (pa_cons pe_int (pa_cons pe_int pa_nil))) (pa_cons (pe_tup (pa_cons (pv 8) (pa_cons (pe_op op_add (pv 8) (pe_h hPick hr (pa_cons (pv 0) (pa_cons (pe_op op_sub pe_int (pv 8)) pa_nil)))) pa_nil))) pa_nil)))) (pe_h hPick hr (pa_cons (pv 0) (pa_cons pe_int pa_nil))) (fun _ _ => rfl)))
      (pss_cons (ps_set (i := 10) scDrawn.nd rfl (.inl rfl) (pe_make MW GW hr rfl TM.mgW b4 v4 pass0 (pa_cons (pe_h hTome hr (pa_cons (pv 2) (pa_cons (pv 7) pa_nil))) (pa_cons (pv 6) (pa_cons (pv 4) pa_nil)))))
      (pss_cons (ps_if (pt_cmpR (op_neD hr.units) (pv 9) (pe_tup (pa_cons pe_int (pa_cons pe_int pa_nil))) (nomark _)) (pss_one (ps_set (i := 10) scDrawn.nd rfl (.inl rfl) (pe_make MW GW hr rfl TM.mgW b6 .nil pass0 (pa_cons (pe_h hTome hr (pa_cons (pv 2) (pa_cons (pv 7) pa_nil))) (pa_cons (pv 6) (pa_cons (pv 4) (pa_cons (pe_ix ix_tup (pv 9) pe_int (fun _ _ => rfl)) (pa_cons (pe_ix ix_tup (pv 9) pe_int (fun _ _ => rfl)) pa_nil)))))))) pss_nil)
      (pss_one (ps_ret (pe_tup (pa_cons (pv 2) (pa_cons (pv 10) (pa_cons (pe_h hShown hr (pa_cons (pv 5) (pa_cons (pv 7) (pa_cons (pv 6) (pa_cons (pv 4) (pa_cons (pv 9) pa_nil)))))) (pa_cons (pv 3) (pa_cons (pv 4) pa_nil))))))))))))), ?_⟩
    -- land, pool, changes
    obtain ⟨m, hm, hmat⟩ : ∃ m : Int, (1 ≤ m ∧ m ≤ 6) ∧ atI [V.int 4, V.int 6] (if great = true then 1 else 0) = some (.int m) := by
      by_cases c : great = true
      · exact ⟨6, by omega, by rw [if_pos c]; exact atI_nat (j := 1) rfl⟩
      · exact ⟨4, by omega, by rw [if_neg c]; exact atI_nat (j := 0) rfl⟩
    refine ⟨_, rfl, lz, fun ml hml => ⟨_, rfl, .inr ⟨great, rfl, ml, _, _, .int m, rfl, rfl, .inl (.inl upd_same), hmat, a, m, rfl, hA.same (same_new hml), hm.1, hm.2, fun L g wd H1 gd hG1 hA1 x1 => ?_⟩⟩⟩
    have x01 : SameX a H H1 := (sx (same_new hml)).trans x1
    clear x1 hml
    refine ⟨_, rfl, a, rfl, hA1, fun Po ws H2 nPo0 hPo2 wne w4 wwd hA2 x2 => ⟨_, rfl, a, 3, rfl, hA2, by decide, by decide, fun S chs H3 hA3 x3 hS3 okc => ⟨_, _, _, rfl, ?_⟩⟩⟩
    have nPo : Po ≠ a := hA1.ne nPo0
    have x13 := x2.trans x3
    obtain ⟨ya1, hya1⟩ := hA1.lst
    obtain ⟨ya3, hya3⟩ := hA3.lst
    have hG3 := hG1.keep (tk_x x13 hya1)
    have hPo3 := x3 _ _ nPo hPo2
    -- names
    refine ⟨_, rfl, L, g, wd, rfl, hG3, gd.sized, fun Lb H4 nLb0 s4 hLb4 => ⟨_, _, rfl, ?_⟩⟩
    have nLb : Lb ≠ a := hA3.ne nLb0
    have hA4 := hA3.same s4
    have ndN : (sortS (names g)).Nodup := sortS_nodup gd.nd
    have lenN : (sortS (names g)).length ≤ 36 := by rw [sortS_len]; exact gd.n36
    have wdN : ∀ z ∈ sortS (names g), IsWd z := fun z hz => gd.wd z (mem_sortS.mp hz)
    have hPo4 := s4 _ _ hPo3
    -- told, the age
    refine ⟨_, rfl, _, rfl, _, rfl, _, rfl, a, Lb, Po, "topic", sortS (names g), ws, rfl, hA4, hLb4, hPo4, nLb, nPo, ndN, lenN, wdN, by decide +kernel, wne, by omega, wwd, fun l as ts H5 nl0 hl5 hT5 tI hA5 x5 => ⟨_, rfl, a, 121, rfl, hA5, by decide, by decide, fun low H6 l0 l1 hA6 x6 _ => ⟨_, _, rfl, ?_⟩⟩⟩
    have nl : l ≠ a := hA4.ne nl0
    have x46 := x5.trans x6
    have x36 : SameX a H3 H6 := (sx s4).trans x46
    obtain ⟨ya4, hya4⟩ := hA4.lst
    obtain ⟨ya5, hya5⟩ := hA5.lst
    have hG6 := hG3.keep (tk_x x36 hya3)
    have hS6 := hS3.keep (tk_x x36 hya3)
    have hPo6 := x46 _ _ nPo hPo4
    have hLb6 := x46 _ _ nLb hLb4
    have hl6 := x6 _ _ nl hl5
    have hT6 : TelsAt H6 as ts := hT5.keep (tk_x x6 hya5)
    have x06 : SameX a H H6 := (x01.trans x13).trans x36
    obtain ⟨lo0, rfl⟩ : ∃ n : Nat, low = (n : Int) := ⟨low.toNat, by omega⟩
    clear hG1 hG3 hS3 hPo2 hPo3 hPo4 hLb4 hl5 hT5
    -- the ages
    refine ⟨lz, fun t1 h1 => ⟨lz, fun t2 h2 => ⟨_, rfl, _, rfl, _, rfl, _, rfl, _, _, rfl, rfl, ?_⟩⟩⟩
    have k1 := same_new (o := .tup [V.int 0, .int 120]) h1
    have k2 := same_new (o := .tup [V.int 0, .int 120]) h2
    have p1 : upd (upd H6 t1 (.tup [V.int 0, .int 120])) t2 (.tup [V.int 0, .int 120]) t1 = some (.tup [V.int 0, .int 120]) := k2 _ _ upd_same
    have p2 : upd (upd H6 t1 (.tup [V.int 0, .int 120])) t2 (.tup [V.int 0, .int 120]) t2 = some (.tup [V.int 0, .int 120]) := upd_same
    have n1 : t1 ≠ a := hA6.ne h1
    have n2 : t2 ≠ a := (hA6.same k1).ne h2
    have s68 := k1.trans k2
    have hA8 := hA6.same s68
    generalize upd (upd H6 t1 (.tup [V.int 0, .int 120])) t2 (.tup [V.int 0, .int 120]) = H8 at p1 p2 s68 hA8 ⊢
    clear k1 k2 h1 h2
    refine ⟨a, 121 - (lo0 : Int), rfl, hA8, by omega, by omega, fun pk H9 q0 q1 hA9 x9 _ => ⟨_, _, rfl, rfl, lz, fun t3 h3 => ⟨lz, fun Ml hMl => ?_⟩⟩⟩
    obtain ⟨pk0, rfl⟩ : ∃ n : Nat, pk = (n : Int) := ⟨pk.toNat, by omega⟩
    have k3 := same_new (o := .tup [V.int (lo0 : Int), .int ((lo0 : Int) + (pk0 : Int))]) h3
    have k4 := same_new (o := .lst [V.ref t1, .ref t2, .ref t3]) hMl
    have n3 : t3 ≠ a := hA9.ne h3
    have nM : Ml ≠ a := (hA9.same k3).ne hMl
    have p1 := (k3.trans k4) _ _ (x9 _ _ n1 p1)
    have p2 := (k3.trans k4) _ _ (x9 _ _ n2 p2)
    have p3 : upd (upd H9 t3 (.tup [V.int (lo0 : Int), .int ((lo0 : Int) + (pk0 : Int))])) Ml (.lst [V.ref t1, .ref t2, .ref t3]) t3 = some (.tup [V.int (lo0 : Int), .int ((lo0 : Int) + (pk0 : Int))]) := k4 _ _ upd_same
    have pM : upd (upd H9 t3 (.tup [V.int (lo0 : Int), .int ((lo0 : Int) + (pk0 : Int))])) Ml (.lst [V.ref t1, .ref t2, .ref t3]) Ml = some (.lst [V.ref t1, .ref t2, .ref t3]) := upd_same
    have x6A : SameX a H6 (upd (upd H9 t3 (.tup [V.int (lo0 : Int), .int ((lo0 : Int) + (pk0 : Int))])) Ml (.lst [V.ref t1, .ref t2, .ref t3])) := ((sx s68).trans x9).trans (sx (k3.trans k4))
    have hAA := hA9.same (k3.trans k4)
    generalize upd (upd H9 t3 (.tup [V.int (lo0 : Int), .int ((lo0 : Int) + (pk0 : Int))])) Ml (.lst [V.ref t1, .ref t2, .ref t3]) = HA at p1 p2 p3 pM x6A hAA ⊢
    clear k3 k4 h3 hMl
    refine ⟨_, rfl, a, 3, rfl, hAA, by decide, by decide, fun ix HB i0 i1 hAB xB _ => ?_⟩
    obtain ⟨ta, lo, hi, hat, hta, hlh, h120⟩ : ∃ (ta : Addr) (lo hi : Nat), atI [V.ref t1, .ref t2, .ref t3] ix = some (.ref ta) ∧ HB ta = some (.tup [.int (lo : Int), .int (hi : Int)]) ∧ lo ≤ hi ∧ hi ≤ 120 := by
      rcases (by omega : ix = 0 ∨ ix = 1 ∨ ix = 2) with rfl | rfl | rfl
      · exact ⟨t1, 0, 120, rfl, xB _ _ n1 p1, by omega, by omega⟩
      · exact ⟨t2, 0, 120, rfl, xB _ _ n2 p2, by omega, by omega⟩
      · refine ⟨t3, lo0, lo0 + pk0, rfl, ?_, by omega, by omega⟩
        have := xB _ _ n3 p3
        rw [this]
        rfl
    refine ⟨Ml, _, ix, .ref ta, rfl, rfl, .inl (.inl (xB _ _ nM pM)), hat, ?_⟩
    have x6B := x6A.trans xB
    obtain ⟨ya6, hya6⟩ := hA6.lst
    have hGB := hG6.keep (tk_x x6B hya6)
    have hSB := hS6.keep (tk_x x6B hya6)
    have hPoB := x6B _ _ nPo hPo6
    have hLbB := x6B _ _ nLb hLb6
    have hlB := x6B _ _ nl hl6
    have hTB : TelsAt HB as ts := hT6.keep (tk_x x6B hya6)
    have x0B := x06.trans x6B
    clear hG6 hS6 hPo6 hLb6 hl6 hT6 p1 p2 p3 pM hat
    have hv : ∀ t ∈ ts, t.v ∈ names g := fun t ht => mem_sortS.mp (tI.v t ht)
    have l200 : ts.length ≤ 200 := by have := tI.len; omega
    -- the map
    have make : ∀ (HX : Hp) (p : Addr) (r : GR) (lo hi : Nat) (Qx : Addr → Hp → Prop), GatAt C D HX p r → r.g = g → r.ts = ts → ChAt HX S chs → lo ≤ hi → hi ≤ 120 → (∀ (x : Addr) (mr : MR) (H' : Hp), Same HX H' → MapAt C W H' x mr → mr.g = g → mr.chs = chs → (mr.said = fun y => sortS (shL chs "topic" lo hi ts y)) → Qx x H') →
        ∀ (x dx : Addr), HX x = none → HX dx = none → dx ≠ x → spMI C D W [V.ref x, .ref p, .str "topic", .ref S, .int (lo : Int), .int (hi : Int)] (upd (upd HX dx (.own x)) x (.ins W dx [])) (fun v H3 => v = .non ∧ Qx x H3) E0 := by
      intro HX p r lo hi Qx hG rg rt hS h1 h2 q' x dx nx ndx nex
      have s2 : Same HX (upd (upd HX dx (.own x)) x (.ins W dx [])) := fun b o e => by
        rw [upd_ne (ne_of_none e nx), upd_ne (ne_of_none e ndx)]
        exact e
      refine ⟨x, dx, p, r, wd, "topic", .ref S, chs, lo, hi, rfl, upd_same, hG.same s2, by rw [rg]; exact gd, by rw [rt]; exact tI.ok, by rw [rt]; exact l200, by decide +kernel, .inr ⟨S, rfl, hS.keep (tk_same s2)⟩, okc, h1, h2, fun S' d H' hb hM => ⟨rfl, q' x _ H' (fun b o e => hb b o (ne_of_none e nx) (s2 _ _ e)) hM rg rfl ?_⟩⟩
      show saidOf chs r.ts "topic" lo hi = _
      rw [rt]
      rfl
    refine ⟨_, rfl, _, rfl, L, l, g, wd, as, ts, rfl, hGB, gd, hlB, hTB, tI.ok, hv, tI.keys, l200, fun p r HC sC hGa rt rg _ _ _ => ⟨_, rfl, _, rfl, make HC p r 0 120 _ hGa rg rt (hSB.keep (tk_same sC)) (by omega) (by omega) fun ch mr HD sD hM mg mc ms => ?_⟩⟩
    have sBD := sC.trans sD
    -- by ages
    show tSeq (tIfS (tTest (tOp _ (tVar 9) (tTup _))) _ _) _ _ _ _
    refine st_join (fun σ' H' => ∃ (ch : Addr) (mr : MR), σ' = [some (.ref a), some (.bl great), some (.ref L), some (.ref Po), some (.ref S), some (.ref Lb), some (.str "topic"), some (.ref l), some (.int (lo0 : Int)), some (.ref ta), some (.ref ch)] ∧ Same HB H' ∧ MapAt C W H' ch mr ∧ mr.g = g ∧ mr.chs = chs ∧ mr.said = fun y => sortS (shL chs "topic" lo hi ts y)) ?_ ?_
    · rintro σ' H' ⟨ch, mr, rfl, s', hM, mg, mc, ms⟩
      have hta' := s' _ _ hta
      refine ⟨_, rfl, _, rfl, _, rfl, _, rfl, _, rfl, _, rfl, _, rfl, Lb, l, S, ta, "topic", sortS (names g), as, ts, chs, lo, hi, rfl, s' _ _ hLbB, ndN, lenN, s' _ _ hlB, hTB.keep (tk_same s'), tI.ok, tI.v, l200, hSB.keep (tk_same s'), okc, hta', fun d ad H'' nd s'' I => ⟨_, rfl, _, rfl, lz, fun t ht => ?_⟩⟩
      have kt := same_new (o := .tup [V.ref L, .ref ch, .ref d, .ref Po, .ref S]) ht
      have sF := (s'.trans s'').trans kt
      have hA' := hAB.same s'
      refine q t L ch d Po S g wd mr chs ws (shL chs "topic" lo hi ts) _ (hAB.same sF) (x0B.trans (sx sF)) upd_same ⟨hGB.keep (tk_same sF), gd, hM.same (s''.trans kt), mg, mc, ms, ⟨ad, kt _ _ I.dict, fun z hz => kt _ _ (I.lst z hz), fun z hz => hA'.ne (I.new z hz)⟩, hA'.ne nd, sF _ _ hPoB, nPo, wne, w4, wwd, hSB.keep (tk_same sF), okc⟩
    · intro D' hn hrt
      refine ⟨_, rfl, lz, fun tp htp => ?_⟩
      have kp := same_new (o := .tup [V.int 0, .int 120]) htp
      refine ⟨.tuple [.int (lo : Int), .int (hi : Int)], .tuple [.int 0, .int 120], .tup (.inl (.inl (kp _ _ (sBD _ _ hta)))) (.cons (.int _) (.cons (.int _) .nil)), .tup (.inl (.inl upd_same)) (.cons (.int _) (.cons (.int _) .nil)), shaped_tuple (by simp [PyData.canLayAll0, PyData.canLay0]) (by simp [PyData.depthAll, PyData.depth]), by decide +kernel, _, rfl, ite_b (fun c1 => ?_) (fun c1 => ?_)⟩
      · have hta2 := kp _ _ (sBD _ _ hta)
        have sBE := sBD.trans kp
        refine ⟨_, rfl, _, rfl, L, l, g, wd, as, ts, rfl, hGB.keep (tk_same sBE), gd, sBE _ _ hlB, hTB.keep (tk_same sBE), tI.ok, hv, tI.keys, l200, fun p2 r2 HF sF hGa2 rt2 rg2 _ _ _ => ⟨_, rfl, _, rfl, _, rfl, ta, _, 0, .int (lo : Int), rfl, rfl, .inl (.inl (sF _ _ hta2)), atI_nat (j := 0) rfl, _, rfl, ta, _, 1, .int (hi : Int), rfl, rfl, .inl (.inl (sF _ _ hta2)), atI_nat (j := 1) rfl, make HF p2 r2 lo hi _ hGa2 rg2 rt2 ((hSB.keep (tk_same sBE)).keep (tk_same sF)) hlh h120 fun ch2 mr2 HG sG hM2 mg2 mc2 ms2 => hn _ _ ⟨ch2, mr2, rfl, (sBE.trans sF).trans sG, hM2, mg2, mc2, ms2⟩⟩⟩
      · have el : lo = 0 ∧ hi = 120 := by
          simp only [PyData.eqv, PyData.eqvAll, Bool.and_true] at c1
          have c1 : (lo : Int) = 0 ∧ (hi : Int) = 120 := by simpa using c1
          omega
        obtain ⟨rfl, rfl⟩ := el
        exact hn _ _ ⟨ch, mr, rfl, sBD.trans kp, hM.same kp, mg, mc, ms⟩
end
end Wl

/-! the law: rings about words -/
namespace Wl
open PySem PySem.Spec PyProof.Rows L2
abbrev nLaw : List Str := ["_law_script", "_law_k", "_law_purse_here", "_law_great", "_law_rows", "_law_chart", "_law_shown_here", "_law_pool_here", "_law_shifts", "_law_term", "_law_places", "_law_found"]
theorem scLaw : FnScope nLaw ["_law_script"] (defScope sLaw) := ⟨rfl, rfl, rfl, by decide +kernel, rfl, by decide +kernel, by decide +kernel⟩
def spLaw (K : PySem.W.Frag) : Sp := fun vs H Q _ => ∃ (a : Addr) (ns : List Int), vs = [.ref a] ∧ SqL K H a (ns.map V.int) ∧ ns.length ≤ 63 ∧ ∀ H', Q (.bl true) H'
/-- `a and b`, where b changes the heap -/
theorem st_and3 {b : Bool} {tb : TE} {σ : L2.St} {H : Hp} {Q : VK} (J : Hp → Prop) (h0 : J H) (h1 : ∀ Q' : VK, (∀ (g : Bool) (H' : Hp), J H' → Q' (.bl g) H') → tb σ H Q') (h2 : ∀ (g : Bool) (H' : Hp), J H' → Q (.bl g) H') : if b = true then tb σ H Q else Q (.bl false) H := by
  cases b
  · exact h2 _ _ h0
  · exact h1 _ h2
theorem pts_eqv : ∀ ps : List Pt, PyData.eqvAll (ps.map encPt) (ps.map encPt) = true
  | [] => by simp [PyData.eqvAll]
  | p :: r => by
    have := pts_eqv r
    simp [PyData.eqvAll, pt_eqv, this]
theorem lns_eqvAll : ∀ ls : List (List Pt), PyData.eqvAll (ls.map encLn) (ls.map encLn) = true
  | [] => by simp [PyData.eqvAll]
  | p :: r => by
    have h1 := lns_eqvAll r
    have h2 := pts_eqv p
    simp only [List.map_cons, PyData.eqvAll, encLn, PyData.eqv, h1, h2, Bool.and_self]
theorem lns_eqv (ls : List (List Pt)) : PyData.eqv (.tuple (ls.map encLn)) (.tuple (ls.map encLn)) = true := by
  simpa [PyData.eqv] using lns_eqvAll ls
theorem lay_lns : ∀ ls : List (List Pt), PyData.canLayAll0 (ls.map encLn) = true
  | [] => by simp [PyData.canLayAll0]
  | p :: r => by
    have h1 := lay_lns r
    have h2 := lay_pts p
    simp [PyData.canLayAll0, encLn, PyData.canLay0, h1, h2]
theorem sh_lns (ls : List (List Pt)) : SeqAt.shaped (.tuple (ls.map encLn)) = true := shaped_tuple (lay_lns ls) (by have := depth_lns ls; omega)
theorem ins_hav {g : Grid} {sh said : Str → List Str} (h : said = fun y => sortS (sh y)) (m : Str) : havP g said m = insP g sh m := by
  subst h
  unfold havP insP
  congr 1
  exact List.filter_congr fun y _ => by simp only [mem_sortS]
section
variable {P : Program} {w : World} {K : PySem.W.Frag} {mg : Str → Option Value} {base : Heap} {f C D W : Addr} {fd : FuncData}
theorem ok_law (F : Fun K "law" "law" sLaw f fd) (B : Bi mg)
    (hCell : Has P w K mg base "_law_cell" 1 ["_law_script", "_law_k"] (spCell K)) (hPurse : Has P w K mg base "_law_purse" 1 ["_law_cell_here"] spPurse) (hPick : Has P w K mg base "_law_pick" 1 ["_law_purse_here", "_law_count"] spPick) (hWord : Has P w K mg base "_law_word" 2 ["_law_purse_here"] spWord)
    (hDr : Has P w K mg base "_law_drawn" 10 psDrawn (spDrawn C W)) (hLM : Has P w K mg base "_law_meaning" 2 ["_law_shifts", "_law_term"] spLMean) (hIn : Has P w K mg base "_law_inside" 2 psInside spInside) (hRg : HasKG P w K mg base "rings" 7 ["wordmap", "word"] ["word", "wordmap"] (spRings C W) gSw gSw)
    (hRt : Has P w K mg base "_law_right" 3 psRight spRight) : FnOk P w K mg base CX0 11 f fd ["_law_script"] (spLaw K) := by
  have hRgP := hRg.pos
  obtain ⟨fB, fdB, FB, gB, kB, _, bB⟩ := hRg
  refine F.ok scLaw (fun vs H Q E h => ?_) (fun cdv A outer s H vs Q E hr h => ?_)
  · obtain ⟨a, ns, rfl, _⟩ := h
    rfl
  · obtain ⟨a, ns, rfl, hSc, hlen, q⟩ := h
    refine ⟨_, pss_cons (ps_for PassesOwn.never rfl (pi_range1 rfl B.range (pa_cons (pe_callB (call_max2 rfl) (by rfl) B.max (by decide +kernel) (pa_cons pe_int (pa_cons (pe_callB (call_min2 rfl) (by rfl) B.min (by decide +kernel) (pa_cons (pe_callB call_len_seq (by rfl) B.len PySem.boot_len (pa_cons (pv 0) pa_nil)) (pa_cons pe_int pa_nil))) pa_nil))) pa_nil)) (pg_name (i := 1) scLaw.nd rfl (.inl rfl))
        (pss_cons (ps_set (i := 2) scLaw.nd rfl (.inl rfl) (pe_h hPurse hr (pa_cons (pe_h hCell hr (pa_cons (pv 0) (pa_cons (pv 1) pa_nil))) pa_nil)))
        (pss_cons (ps_set (i := 3) scLaw.nd rfl (.inl rfl) (pe_and (pe_cmpR op_eq (pv 1) pe_int (nomark _)) (pe_one (pe_cmpR op_eq (pe_h hPick hr (pa_cons (pv 2) (pa_cons pe_int pa_nil))) pe_int (nomark _)))))
        (pss_cons (ps_asg (pe_h hDr hr (pa_cons (pv 2) (pa_cons (pv 3) pa_nil))) (pg_tup rfl (pgs_cons (pg_name (i := 4) scLaw.nd rfl (.inl rfl)) (pgs_cons (pg_name (i := 5) scLaw.nd rfl (.inl rfl)) (pgs_cons (pg_name (i := 6) scLaw.nd rfl (.inl rfl)) (pgs_cons (pg_name (i := 7) scLaw.nd rfl (.inl rfl)) (pgs_cons (pg_name (i := 8) scLaw.nd rfl (.inl rfl)) pgs_nil)))))))
        (pss_one (ps_for PassesOwn.never rfl (pi_list (pe_op op_cat (pv 7) (pe_lst (pa_cons (pe_h hWord hr (pa_cons (pv 2) pa_nil)) (pa_cons (pe_h hLM hr (pa_cons (pv 8) (pa_cons (pe_ix ix_list (pv 7) pe_int (fun _ _ => rfl)) pa_nil))) pa_nil))))) (pg_name (i := 9) scLaw.nd rfl (.inl rfl))
          (pss_cons (ps_set (i := 10) scLaw.nd rfl (.inl rfl) (pe_h hIn hr (pa_cons (pv 4) (pa_cons (pv 6) (pa_cons (pe_h hLM hr (pa_cons (pv 8) (pa_cons (pv 9) pa_nil))) pa_nil)))))
          (pss_cons (ps_set (i := 11) scLaw.nd rfl (.inl rfl) (pe_h hRgP hr (pa_cons (pv 5) (pa_cons (pv 9) pa_nil))))
          (pss_one (ps_if (PW.pt (pw_or (pt_not (pt_val (pe_h hRt hr (pa_cons (pv 11) (pa_cons (pv 10) pa_nil))))) (pw_or (pt_cmpR (op_neD hr.units) (pe_callN0 FB (hr.mono (by decide)) rfl gB kB bB pass0 (pk_cons (pv 9) (pk_cons (pv 5) pk_nil))) (pv 11) (nomark _)) (pw_or1 (pt_cmpR (op_neD hr.units) (pe_h hRgP hr (pa_cons (pv 5) (pa_cons (pv 9) pa_nil))) (pv 11) (nomark _)))))) (pss_one (ps_ret pe_bl)) pss_nil))))))))))
      (pss_one (ps_ret pe_bl)), ?_⟩
    have hln : ((ns.map V.int).length : Int) = ns.length := by rw [List.length_map]
    refine ⟨_, rfl, a, _, rfl, .inl hSc, _, _, rfl, _, _, rfl, _, rfl, ?_, ?_, ?_⟩
    · rw [hln]; split <;> split <;> omega
    · rw [hln]; split <;> split <;> omega
    rw [hln]
    refine for_range (lo := 0) (n := _) (fun i σ H' => (∃ y1 y2 y3 y4 y5 y6 y7 y8 y9 y10 y11, σ = [some (.ref a), y1, y2, y3, y4, y5, y6, y7, y8, y9, y10, y11]) ∧ Same H H') ⟨⟨_, _, _, _, _, _, _, _, _, _, _, rfl⟩, Same.refl H⟩ ?_ ?_
    · rintro i σ H1 hi ⟨⟨y1, y2, y3, y4, y5, y6, y7, y8, y9, y10, y11, rfl⟩, s1⟩
      have hi5 : i < 5 := by
        have : ∀ n : Int, (if (if (4 : Int) < n then 4 else n) > 2 then (if (4 : Int) < n then 4 else n) else 2).toNat ≤ 4 := fun n => by
          split <;> split <;> omega
        exact Nat.lt_of_lt_of_le hi (Nat.le_trans (this _) (by decide))
      refine ⟨_, rfl, _, rfl, a, ns, 0 + i, rfl, s1.seq hSc, by omega, by omega, fun v H2 s2 => ⟨v, rfl, fun pu H3 hpu s3 hA3 => ?_⟩⟩
      have hpu0 : H pu = none := (s1.trans s2).free hpu
      have sP3 : Same H H3 := (s1.trans s2).trans s3
      refine ⟨_, rfl, rfl, _, rfl, ?_⟩
      refine st_and3 (fun H' => PurseAt H' pu ∧ SameX pu H3 H') ⟨hA3, SameX.refl _ _⟩ (fun Q' k => ⟨_, rfl, pu, 8, rfl, hA3, by decide, by decide, fun w3 H4 _ _ hA4 x4 _ => ⟨rfl, k _ _ ⟨hA4, x4⟩⟩⟩) fun gb H4 hJ => ?_
      obtain ⟨hA4, x4⟩ := hJ
      -- drawn
      refine ⟨_, rfl, _, rfl, pu, gb, rfl, hA4, fun t L ch d Po S g wd mr chs ws sh H5 hA5 x5 ht dr => ⟨t, _, rfl, .inl (.inl ht), rfl, _, _, rfl, _, _, rfl, _, _, rfl, _, _, rfl, _, _, rfl, rfl, ?_⟩⟩
      have sP5 : Same H H5 := same_x sP3 (x4.trans x5) hpu0
      obtain ⟨w0, wr, ew⟩ : ∃ w0 wr, ws = w0 :: wr := by
        cases e : ws with
        | nil => exact absurd e dr.wne
        | cons w0 wr => exact ⟨w0, wr, rfl⟩
      have hw0 : IsWd w0 := dr.ww w0 (by rw [ew]; exact List.mem_cons_self)
      have hat0 : atI (ws.map V.str) 0 = some (.str w0) := atI_nat (j := 0) (by rw [ew]; rfl)
      -- the words asked
      refine ⟨_, rfl, _, rfl, pu, rfl, hA5, fun be H6 hbe hA6 x6 => ?_⟩
      have dr6 := dr.x hA5 x6
      have sP6 : Same H H6 := same_x sP5 x6 hpu0
      refine ⟨_, rfl, _, rfl, Po, _, _, .str w0, rfl, rfl, .inl (.inl dr6.po), hat0, S, chs, w0, rfl, dr6.ca, dr6.okc, hw0, fun H7 s7 => ⟨lz, fun l4 hl4 => ?_⟩⟩
      have s8 := s7.trans (same_new (o := .lst [V.str be, V.str (mean chs w0)]) hl4)
      have hl8 : upd H7 l4 (.lst [V.str be, V.str (mean chs w0)]) l4 = _ := upd_same
      generalize upd H7 l4 (.lst [V.str be, V.str (mean chs w0)]) = H8 at s8 hl8
      have dr8 := dr6.same s8
      refine ⟨Po, l4, _, _, rfl, rfl, dr8.po, hl8, ?_, fun l5 hl5 => ?_⟩
      · rw [List.length_map]
        have := dr.wl
        exact Nat.le_of_lt (small1000 (by simp only [List.length_cons, List.length_nil]; omega))
      have eT : ws.map V.str ++ [V.str be, V.str (mean chs w0)] = (ws ++ [be, mean chs w0]).map V.str := by rw [List.map_append]; rfl
      rw [eT]
      have s9 := s8.trans (same_new (o := .lst ((ws ++ [be, mean chs w0]).map V.str)) hl5)
      have dr9 := dr8.same (same_new (o := .lst ((ws ++ [be, mean chs w0]).map V.str)) hl5)
      have hl9 : upd H8 l5 (.lst ((ws ++ [be, mean chs w0]).map V.str)) l5 = _ := upd_same
      generalize upd H8 l5 (.lst ((ws ++ [be, mean chs w0]).map V.str)) = H9 at s9 hl9 dr9
      have sP9 : Same H H9 := sP6.trans s9
      have wdT : ∀ z ∈ ws ++ [be, mean chs w0], IsWd z := fun z hz => by
        rcases List.mem_append.mp hz with h | h
        · exact dr.ww z h
        · simp only [List.mem_cons, List.not_mem_nil, or_false] at h
          rcases h with rfl | rfl
          · exact hbe
          · exact mean_wd dr.okc.2 hw0
      have mg' := dr.mg
      have mc' := dr.mc
      have gd' : Good mr.g wd := by rw [mg']; exact dr.gd
      have okc' : OkCs mr.chs := by rw [mc']; exact dr.okc
      refine ⟨l5, rfl, ⟨_, .inl (.inl hl9)⟩, for_list (K := K) (a := l5) (xs := (ws ++ [be, mean chs w0]).map V.str) (fun k σ H' => (∃ z9 z10 z11, σ = [some (.ref a), some (.int (0 + i)), some (.ref pu), some (.bl gb), some (.ref L), some (.ref ch), some (.ref d), some (.ref Po), some (.ref S), z9, z10, z11]) ∧ Same H9 H')
        ⟨⟨_, _, _, rfl⟩, Same.refl _⟩ (fun k σ H' _ h => .inl (.inl (h.2 _ _ hl9))) ?_ ?_⟩
      · rintro k v σ H10 hv ⟨⟨z9, z10, z11, rfl⟩, s10⟩
        rw [List.getElem?_map] at hv
        obtain ⟨z, hz, rfl⟩ := Option.map_eq_some_iff.mp hv
        have hzw := wdT z (List.mem_of_getElem? hz)
        have dr10 := dr9.same s10
        refine ⟨_, rfl, _, rfl, _, rfl, _, rfl, S, chs, z, rfl, dr10.ca, dr10.okc, hzw, fun H11 s11 => ?_⟩
        have dr11 := dr10.same s11
        obtain ⟨ad, hd11, hl11, _⟩ := dr11.sh
        refine ⟨L, d, g, wd, sh, mean chs z, rfl, dr11.grid, dr.gd, ⟨ad, hd11, hl11⟩, fun pl as H12 s12 hpl hP12 => ?_⟩
        have dr12 := dr11.same s12
        refine ⟨_, rfl, _, rfl, ch, z, mr, wd, rfl, dr12.map, gd', okc', hzw, fun tf ls G H13 s13 htf hLs lan eG => ?_⟩
        have dr13 := dr12.same s13
        have eP : havP mr.g mr.said (mean mr.chs z) = insP g sh (mean chs z) := by
          rw [ins_hav dr.ms, mg', mc']
        have ndP := havP_nodup gd'.nd mr.said (mean mr.chs z)
        have lnP := havP_len gd' mr.said (mean mr.chs z)
        refine ⟨_, rfl, _, rfl, tf, pl, ls, as, G, havP mr.g mr.said (mean mr.chs z), sortE encPt (insP g sh (mean chs z)), rfl, htf, hLs, lan, ndP, lnP, by rw [eP]; exact sortE_ind _, s13 _ _ hpl, hP12.keep (tk_same s13), fun H14 s14 => ⟨true, rfl, iteF ?_⟩⟩
        have dr14 := dr13.same s14
        refine ⟨_, rfl, _, rfl, rfl, rfl, ch, z, mr, wd, rfl, dr14.map, gd', okc', hzw, fun tf2 ls2 G2 H15 s15 htf2 hLs2 lan2 eG2 => ?_⟩
        have s1315 := s14.trans s15
        have dr15 := dr14.same s15
        refine ⟨_, rfl, .tuple ((G2.map laneOf).map encLn), .tuple ((G.map laneOf).map encLn), .tup (.inl (.inl htf2)) (dp_lns hLs2), .tup (.inl (.inl (s1315 _ _ htf))) (dp_lns (hLs.mono fun _ _ r => LnAt.keep r (tk_same s1315))), sh_lns _, sh_lns _, _, rfl, ?_⟩
        rw [eG, eG2, lns_eqv]
        refine iteF ?_
        refine ⟨_, rfl, _, rfl, ch, z, mr, wd, rfl, dr15.map, gd', okc', hzw, fun tf3 ls3 G3 H16 s16 htf3 hLs3 lan3 eG3 => ?_⟩
        have s1316 := s1315.trans s16
        refine ⟨_, rfl, .tuple ((G3.map laneOf).map encLn), .tuple ((G.map laneOf).map encLn), .tup (.inl (.inl htf3)) (dp_lns hLs3), .tup (.inl (.inl (s1316 _ _ htf))) (dp_lns (hLs.mono fun _ _ r => LnAt.keep r (tk_same s1316))), sh_lns _, sh_lns _, _, rfl, ?_⟩
        rw [eG, eG3, lns_eqv]
        exact iteF ⟨⟨_, _, _, rfl⟩, ((((s10.trans s11).trans s12).trans s13).trans s1316)⟩
      · rintro σ H10 ⟨⟨z9, z10, z11, rfl⟩, s10⟩
        exact ⟨⟨_, _, _, _, _, _, _, _, _, _, _, rfl⟩, sP9.trans s10⟩
    · rintro σ H1 ⟨⟨y1, y2, y3, y4, y5, y6, y7, y8, y9, y10, y11, rfl⟩, s1⟩
      exact q H1
end
end Wl

namespace Wl
open PySem PySem.Spec PyProof.Rows L2
/-- an exception's class -/
def isExc (o : Obj) : Bool := match o.data with
  | .cls cd => cd.mro.any fun v => match v with | .type n => n == "Exception" | _ => false
  | _ => false
/-- what these objects name, exceptions left out -/
def refsL (g : Addr → Option Obj) (as : List Addr) : List Addr := as.flatMap fun a => match g a with
  | some o => if isExc o then [] else He.refsD o
  | none => []
def layK (g : Addr → Option Obj) : Nat → List Addr → List Addr
  | 0, l => l
  | n + 1, l => l ++ layK g n (refsL g l)
def frK (g : Addr → Option Obj) : PySem.W.Frag := He.frG g (layK g 4 [mainGlobals])
/-- the hook of facts over such a frame, with one more test of the frame -/
def hookK (fa : List He.Fa) (fn : List He.DefD) (ex : PySem.W.Frag → Bool) : PySem.W.Hook where
  α := He.AlD × Bool
  obs := fun s => (He.obsD fa fn (frK s.heap.get?), ex (frK s.heap.get?))
  val := fun _ => (He.valD fn, true)
  says := fun _ h => ∃ K : PySem.W.Frag, K.In h ∧ He.SaysD fa fn K ∧ ex K = true
  of := fun _ _ e => ⟨_, He.frG_in, congrArg (fun z : He.AlD × Bool => z.1) e, congrArg (fun z : He.AlD × Bool => z.2) e⟩
  keeps := fun _ _ _ ⟨K, hK, c⟩ k => ⟨K, PySem.W.Frag.In.keeps hK k, c⟩
theorem map3 {α β γ δ : Type} {o : Option α} {f : α → β} {g : α → γ} {h : α → δ} {a : β} {b : γ} {c : δ} (h1 : o.map (fun s => (f s, g s)) = some (a, b)) (h2 : o.map h = some c) : o.map (fun s => (f s, g s, h s)) = some (a, b, c) := by
  cases o with
  | none => cases h1
  | some x =>
    have e1 := Option.some.inj h1
    have e2 := Option.some.inj h2
    show some (f x, g x, h x) = _
    rw [(Prod.mk.inj e1).1, (Prod.mk.inj e1).2, e2]
theorem kbSw_of {K : PySem.W.Frag} {x qual : Str} {st : Stmt} {f : Addr} {fd : FuncData} {n m : Str} (F : Fun K x qual st f fd)
    (h : ∀ (kV doc pm : Value) (an : Option Addr) (cdv ct a b : Value), bindArgs (PySem.W.fnOf x qual (defArgs st) (defBody st) (defScope st) .none kV doc pm an cdv ct) ⟨[], [(m, a), (n, b)]⟩ = pure [(n, b), (m, a)]) : KBn K fd [n, m] 0 [m, n] gSw gSw := by
  obtain ⟨oc, od, kV, doc, pm, an, cdv, ct, osl, rfl, l, c⟩ := F.ex
  refine ⟨fun s us ws _ h1 h2 => ?_, gSw_rel⟩
  match us, ws, h1, h2 with
  | [], [a, b], _, _ => exact .of_eq (h kV doc pm an cdv ct a b)
def dOf (x : Str) (st : Stmt) (ds : List He.Dv) : He.DefD := ⟨(x, none), x, x, defArgs st, defBody st, defScope st, ds, []⟩
def dMet (cl m q : Str) (st : Stmt) (ds : List He.Dv) : He.DefD := ⟨(cl, some m), m, q, defArgs st, defBody st, defScope st, ds, []⟩
/-- what else a class says: isinstance -/
def exC (K : PySem.W.Frag) (x : Str) : Bool :=
  He.eqO (PySem.W.findIn K (.ref (He.ga K x)) "__class__") (some (some (.builtin "object.__class__"))) && (decide (PySem.W.mroIn K (He.ga K x) (.type "object") = some true) && decide (PySem.W.kitOne K (.ref (He.ga K x)) (.ref (He.ga K x)) = some true))
/-- and of all classes: isinstance, !=; the tuple of places -/
def exT (K : PySem.W.Frag) : Bool :=
  He.eqO (PySem.W.specialIn K (.builtin "object.__class__") "__get__") (some (some (.builtin "getset_descriptor.__get__"))) && (decide (PySem.W.takesIn K (.builtin "object.__class__") = some true) && (exC K "Land" && (exC K "Gathering" && (exC K "WordMap" &&
  (He.eqO (PySem.W.findIn K (.ref (He.ga K "Land")) "__ne__") (some (some (.builtin "object.__ne__"))) && He.tupB K "WHERES" [.str "first", .str "last", .str "any"])))))
def fn : List He.DefD := dOf "is_word" wIsWord [] :: dOf "is_whole" sIsWhole [] :: dOf "is_number_from" sIsNum [] :: dOf "check_word" wCheck [] :: dOf "is_letter" wIsLetter [] :: dOf "is_change" wIsChange [] :: dOf "is_tuple_up_to" wTupTo [] :: dOf "checked_changes" wChecked [] :: dOf "reaches" wReaches [] :: dOf "turned_letters" wTurned [] :: dOf "steps_toward" wSteps [] :: dOf "letters_at" wLetAt [] :: dOf "meaning" wMean [.non] :: dOf "are_rows" sAreRows [] :: dOf "wrong_spot" sWrong [] :: dOf "spots_in" sSpotsIn [] :: dOf "checked_spots" sSpots [] :: dMet "Land" "__init__" "Land.__init__" sInit [] :: dMet "Land" "check_name" "Land.check_name" sCheck [] :: dMet "Land" "names" "Land.names" sLNames [] :: dMet "Land" "spot" "Land.spot" sSpot [] :: dOf "check_age" sCheckA [] :: dOf "check_sure" sCheckS [] :: dOf "key_of" sKeyOf [] :: dMet "Gathering" "__init__" "Gathering.__init__" sGInit [] :: dMet "Gathering" "place_of" "Gathering.place_of" sGPlace [] :: dMet "Gathering" "put" "Gathering.put" sGPut [.str "self", .bl true] :: dMet "Gathering" "tellings" "Gathering.tellings" sGTell [.non] :: dOf "check_gathering" sCheckG [] :: dOf "summed_up" sSum [] :: dOf "by_village" sByV [] :: dMet "WordMap" "__init__" "WordMap.__init__" sMInit [.non, .int 0, .int 120] :: dMet "WordMap" "have" "WordMap.have" sMHave [] :: dOf "check_map" sCheckM [.int 0] :: dOf "edges_about" sAbout [] :: dOf "outer_edges" sOuter [] :: dOf "next_edge" sNextE [] :: dOf "ring_from" sRingF [] :: dOf "least_turn" sLeastT [] :: dOf "rings" sRings [] :: dOf "_law_cell" sCell [] :: dOf "_law_purse" sPurse [] :: dOf "_law_pick" sPick [] :: dOf "_law_menu" sMenu [] :: dOf "_law_word" sWord [] :: dOf "_law_fresh" sFresh [] :: dOf "_law_changes" sChanges [] :: dOf "_law_kin" sKin [] :: dOf "_law_meaning" sMeaning [] :: dOf "_law_land" sLand [] :: dOf "_law_names" sNames [] :: dOf "_law_spots" sLSpots [] :: dOf "_law_pool" sPool [] :: dOf "_law_told" sTold [] :: dOf "_law_tome" sTome [] :: dOf "_law_shown" sShown [] :: dOf "_law_drawn" sDrawn [] :: dOf "_law_inside" sInside [] :: dOf "_law_edges" sLEdges [] :: dOf "_law_steps" sLSteps [] :: dOf "_law_is_lane" sLane [] :: dOf "_law_turns_left" sTurns [] :: dOf "_law_right" sRight [] :: dOf "law" sLaw [] :: []
def fa : List He.Fa := .glo "is_word" :: .glo "is_whole" :: .glo "is_number_from" :: .glo "check_word" :: .glo "is_letter" :: .glo "is_change" :: .glo "is_tuple_up_to" :: .glo "checked_changes" :: .glo "reaches" :: .glo "turned_letters" :: .glo "steps_toward" :: .glo "letters_at" :: .glo "meaning" :: .glo "are_rows" :: .glo "wrong_spot" :: .glo "spots_in" :: .glo "checked_spots" :: .glo "check_age" :: .glo "check_sure" :: .glo "key_of" :: .glo "check_gathering" :: .glo "summed_up" :: .glo "by_village" :: .glo "check_map" :: .glo "edges_about" :: .glo "outer_edges" :: .glo "next_edge" :: .glo "ring_from" :: .glo "least_turn" :: .glo "rings" :: .glo "_law_cell" :: .glo "_law_purse" :: .glo "_law_pick" :: .glo "_law_menu" :: .glo "_law_word" :: .glo "_law_fresh" :: .glo "_law_changes" :: .glo "_law_kin" :: .glo "_law_meaning" :: .glo "_law_land" :: .glo "_law_names" :: .glo "_law_spots" :: .glo "_law_pool" :: .glo "_law_told" :: .glo "_law_tome" :: .glo "_law_shown" :: .glo "_law_drawn" :: .glo "_law_inside" :: .glo "_law_edges" :: .glo "_law_steps" :: .glo "_law_is_lane" :: .glo "_law_turns_left" :: .glo "_law_right" :: .glo "law" :: .glo "Land" :: .cls "Land" :: .mkr "Land" :: .noat "Land" "spots" :: .noat "Land" "rows" :: .glo "Gathering" :: .cls "Gathering" :: .mkr "Gathering" :: .noat "Gathering" "land" :: .noat "Gathering" "told" :: .noat "Gathering" "deeds" :: .glo "WordMap" :: .cls "WordMap" :: .mkr "WordMap" :: .noat "WordMap" "land" :: .noat "WordMap" "thing" :: .noat "WordMap" "changes" :: .noat "WordMap" "sure_words" :: .noat "WordMap" "doubtful_words" :: .noat "WordMap" "said" :: .meth "Land" "check_name" :: .meth "Land" "names" :: .meth "Land" "spot" :: .meth "Gathering" "place_of" :: .meth "Gathering" "put" :: .meth "Gathering" "tellings" :: .meth "WordMap" "have" :: .str "LETTERS" "abcdefghijklmnopqrstuvwxyz" :: .int "LONGEST_WORD" 8 :: .int "MOST_CHANGES" 12 :: .int "MOST_ROWS" 6 :: .int "MOST_COLUMNS" 6 :: .int "OLDEST" 120 :: .int "MOST_TELLINGS" 200 :: .str "DOT" "." :: .str "DOUBT" "?" :: .glo "WHERES" :: .free "len" :: .free "range" :: .free "isinstance" :: .free "tuple" :: .free "list" :: .free "sorted" :: .free "all" :: .free "int" :: .free "max" :: .free "min" :: .free "enumerate" :: .free "str" :: .free "bool" :: .free "any" :: []
abbrev R : PySem.W.OpenRow := PySem.W.OpenLaw.row PySem.Challenge.rw_wordlines_k24_rings_about_words
abbrev hk : PySem.W.Hook := hookK fa fn exT
def ob (s : PySem.W.SharedT) : He.AlD × Bool := (He.obsD fa fn (frK (HandSHeadRun.getT s)), exT (frK (HandSHeadRun.getT s)))
theorem ob_eq (s : PySem.W.SharedT) : ob s = hk.obs s.abs := by
  have e : HandSHeadRun.getT s = s.abs.heap.get? := funext (HandSHeadRun.getT_eq s)
  unfold ob
  rw [e]
  rfl
def others : List PySem.Str := "_wall" :: "WordError" :: "LandError" :: "JoinError" :: "NoWord" :: "NoChanges" :: "NoAge" :: "NoSure" :: "NoLand" :: "NoName" :: "NoGathering" :: "NoMap" :: "NoTelling" :: "NoBack" :: "Told" :: "Full" :: "LETTERS" :: "WHERES" :: "LONGEST_WORD" :: "MOST_CHANGES" :: "is_whole" :: "is_number_from" :: "is_word" :: "check_word" :: "is_letter" :: "is_change" :: "is_tuple_up_to" :: "checked_changes" :: "reaches" :: "turned_letters" :: "steps_toward" :: "letters_at" :: "meaning" :: "MOST_ROWS" :: "MOST_COLUMNS" :: "LAKE" :: "are_rows" :: "wrong_spot" :: "spots_in" :: "checked_spots" :: "Land" :: "MOST_TELLINGS" :: "OLDEST" :: "DOT" :: "DOUBT" :: "check_age" :: "check_sure" :: "key_of" :: "telling_row" :: "Gathering" :: "check_gathering" :: "NOT_ASKED" :: "summed_up" :: "by_village" :: "WordMap" :: "check_map" :: "edges_about" :: "outer_edges" :: "next_edge" :: "ring_from" :: "least_turn" :: "rings" :: "_law_cell" :: "_law_purse" :: "_law_pick" :: "_law_menu" :: "_law_word" :: "_law_fresh" :: "_law_changes" :: "_law_kin" :: "_law_meaning" :: "_law_land" :: "_law_names" :: "_law_spots" :: "_law_pool" :: "_law_told" :: "_law_tome" :: "_law_shown" :: "_law_drawn" :: "_law_inside" :: "_law_edges" :: "_law_steps" :: "_law_is_lane" :: "_law_turns_left" :: "_law_right" :: []
theorem facts {P : Program} {w : World} {K : PySem.W.Frag} {h : Heap} {mg : Str → Option Value} {f : Addr} (X : K.In h) (G : h.Ns mainGlobals mg) (hfa : mg ("law" : Str) = some (.ref f)) (c : He.SaysD fa fn K) (cx : exT K = true) :
    ∃ fd : FuncData, (∀ (s : Shared) (v : Value), BindsTo s fd ⟨[v], []⟩ [("_law_script", v)]) ∧ ∀ base : Heap, K.In base → base.Ns mainGlobals mg → FnOk P w K mg base CX0 11 f fd ["_law_script"] (spLaw K) := by
  have B : Bi mg := ⟨He.free_ok X G (c.fact 91 (f := .free "len") rfl), He.free_ok X G (c.fact 92 (f := .free "range") rfl), He.free_ok X G (c.fact 93 (f := .free "isinstance") rfl), He.free_ok X G (c.fact 94 (f := .free "tuple") rfl), He.free_ok X G (c.fact 95 (f := .free "list") rfl), He.free_ok X G (c.fact 96 (f := .free "sorted") rfl), He.free_ok X G (c.fact 97 (f := .free "all") rfl), He.free_ok X G (c.fact 98 (f := .free "int") rfl), He.free_ok X G (c.fact 99 (f := .free "max") rfl), He.free_ok X G (c.fact 100 (f := .free "min") rfl), He.free_ok X G (c.fact 101 (f := .free "enumerate") rfl), He.free_ok X G (c.fact 102 (f := .free "str") rfl)⟩
  have hany : mg "any" = none := He.free_ok X G (c.fact 104 (f := .free "any") rfl)
  have B2 : Bg mg := ⟨He.free_ok X G (c.fact 103 (f := .free "bool") rfl), He.int_ok X G (c.fact 86 (f := .int "OLDEST" 120) rfl), He.int_ok X G (c.fact 87 (f := .int "MOST_TELLINGS" 200) rfl), He.str_ok X G (c.fact 88 (f := .str "DOT" ".") rfl), He.str_ok X G (c.fact 89 (f := .str "DOUBT" "?") rfl)⟩
  have Gk' : Gk mg := ⟨He.str_ok X G (c.fact 81 (f := .str "LETTERS" "abcdefghijklmnopqrstuvwxyz") rfl), He.int_ok X G (c.fact 82 (f := .int "LONGEST_WORD" 8) rfl), He.int_ok X G (c.fact 84 (f := .int "MOST_ROWS" 6) rfl), He.int_ok X G (c.fact 85 (f := .int "MOST_COLUMNS" 6) rfl)⟩
  have T : Txt K mg (He.ga K "Land") := ⟨He.cls_ok (c.fact 55 (f := .cls "Land") rfl), He.noat_ok (c.fact 57 (f := .noat "Land" "spots") rfl), He.noat_ok (c.fact 58 (f := .noat "Land" "rows") rfl), He.glo_ok X G (c.fact 54 (f := .glo "Land") rfl)⟩
  have TG : TxtG K mg (He.ga K "Gathering") := ⟨He.cls_ok (c.fact 60 (f := .cls "Gathering") rfl), He.noat_ok (c.fact 62 (f := .noat "Gathering" "land") rfl), He.noat_ok (c.fact 63 (f := .noat "Gathering" "told") rfl), He.noat_ok (c.fact 64 (f := .noat "Gathering" "deeds") rfl), He.glo_ok X G (c.fact 59 (f := .glo "Gathering") rfl)⟩
  have TM : TxtM K mg (He.ga K "WordMap") := ⟨He.cls_ok (c.fact 66 (f := .cls "WordMap") rfl), He.noat_ok (c.fact 68 (f := .noat "WordMap" "land") rfl), He.noat_ok (c.fact 69 (f := .noat "WordMap" "thing") rfl), He.noat_ok (c.fact 70 (f := .noat "WordMap" "changes") rfl), He.noat_ok (c.fact 71 (f := .noat "WordMap" "sure_words") rfl), He.noat_ok (c.fact 72 (f := .noat "WordMap" "doubtful_words") rfl), He.noat_ok (c.fact 73 (f := .noat "WordMap" "said") rfl), He.glo_ok X G (c.fact 65 (f := .glo "WordMap") rfl)⟩
  unfold exT exC at cx
  simp only [Bool.and_eq_true] at cx
  obtain ⟨e2, e3, ⟨a1, a2, a3⟩, ⟨b1, b2, b3⟩, ⟨c1, c2, c3⟩, e6, e7⟩ := cx
  have T2 : Txt2 K mg (He.ga K "Land") := ⟨T, ⟨T.cl, He.eqO_ok a1, He.eqO_ok e2, of_decide_eq_true e3, of_decide_eq_true a2, of_decide_eq_true a3⟩, ⟨He.eqO_ok e6, of_decide_eq_true a2⟩⟩
  have insD : C8.InsC K (He.ga K "Gathering") := ⟨TG.cl, He.eqO_ok b1, He.eqO_ok e2, of_decide_eq_true e3, of_decide_eq_true b2, of_decide_eq_true b3⟩
  have insW : C8.InsC K (He.ga K "WordMap") := ⟨TM.cl, He.eqO_ok c1, He.eqO_ok e2, of_decide_eq_true e3, of_decide_eq_true c2, of_decide_eq_true c3⟩
  have Gw' : Gw K mg := ⟨He.str_ok X G (c.fact 81 (f := .str "LETTERS" "abcdefghijklmnopqrstuvwxyz") rfl), He.int_ok X G (c.fact 82 (f := .int "LONGEST_WORD" 8) rfl), He.int_ok X G (c.fact 83 (f := .int "MOST_CHANGES" 12) rfl), _, He.glo_ok X G (c.fact 90 (f := .glo "WHERES") rfl), fun H => He.tupB_ok e7 H⟩
  obtain ⟨fd0, F0⟩ := c.def_ 0 (d := dOf "is_word" wIsWord []) rfl
  obtain ⟨fd1, F1⟩ := c.def_ 1 (d := dOf "is_whole" sIsWhole []) rfl
  obtain ⟨fd2, F2⟩ := c.def_ 2 (d := dOf "is_number_from" sIsNum []) rfl
  obtain ⟨fd3, F3⟩ := c.def_ 3 (d := dOf "check_word" wCheck []) rfl
  obtain ⟨fd4, F4⟩ := c.def_ 4 (d := dOf "is_letter" wIsLetter []) rfl
  obtain ⟨fd5, F5⟩ := c.def_ 5 (d := dOf "is_change" wIsChange []) rfl
  obtain ⟨fd6, F6⟩ := c.def_ 6 (d := dOf "is_tuple_up_to" wTupTo []) rfl
  obtain ⟨fd7, F7⟩ := c.def_ 7 (d := dOf "checked_changes" wChecked []) rfl
  obtain ⟨fd8, F8⟩ := c.def_ 8 (d := dOf "reaches" wReaches []) rfl
  obtain ⟨fd9, F9⟩ := c.def_ 9 (d := dOf "turned_letters" wTurned []) rfl
  obtain ⟨fd10, F10⟩ := c.def_ 10 (d := dOf "steps_toward" wSteps []) rfl
  obtain ⟨fd11, F11⟩ := c.def_ 11 (d := dOf "letters_at" wLetAt []) rfl
  obtain ⟨fd12, F12⟩ := c.def_ 12 (d := dOf "meaning" wMean [.non]) rfl
  obtain ⟨fd13, F13⟩ := c.def_ 13 (d := dOf "are_rows" sAreRows []) rfl
  obtain ⟨fd14, F14⟩ := c.def_ 14 (d := dOf "wrong_spot" sWrong []) rfl
  obtain ⟨fd15, F15⟩ := c.def_ 15 (d := dOf "spots_in" sSpotsIn []) rfl
  obtain ⟨fd16, F16⟩ := c.def_ 16 (d := dOf "checked_spots" sSpots []) rfl
  obtain ⟨fd17, F17⟩ := c.def_ 17 (d := dMet "Land" "__init__" "Land.__init__" sInit []) rfl
  obtain ⟨fd18, F18⟩ := c.def_ 18 (d := dMet "Land" "check_name" "Land.check_name" sCheck []) rfl
  obtain ⟨fd19, F19⟩ := c.def_ 19 (d := dMet "Land" "names" "Land.names" sLNames []) rfl
  obtain ⟨fd20, F20⟩ := c.def_ 20 (d := dMet "Land" "spot" "Land.spot" sSpot []) rfl
  obtain ⟨fd21, F21⟩ := c.def_ 21 (d := dOf "check_age" sCheckA []) rfl
  obtain ⟨fd22, F22⟩ := c.def_ 22 (d := dOf "check_sure" sCheckS []) rfl
  obtain ⟨fd23, F23⟩ := c.def_ 23 (d := dOf "key_of" sKeyOf []) rfl
  obtain ⟨fd24, F24⟩ := c.def_ 24 (d := dMet "Gathering" "__init__" "Gathering.__init__" sGInit []) rfl
  obtain ⟨fd25, F25⟩ := c.def_ 25 (d := dMet "Gathering" "place_of" "Gathering.place_of" sGPlace []) rfl
  obtain ⟨fd26, F26⟩ := c.def_ 26 (d := dMet "Gathering" "put" "Gathering.put" sGPut [.str "self", .bl true]) rfl
  obtain ⟨fd27, F27⟩ := c.def_ 27 (d := dMet "Gathering" "tellings" "Gathering.tellings" sGTell [.non]) rfl
  obtain ⟨fd28, F28⟩ := c.def_ 28 (d := dOf "check_gathering" sCheckG []) rfl
  obtain ⟨fd29, F29⟩ := c.def_ 29 (d := dOf "summed_up" sSum []) rfl
  obtain ⟨fd30, F30⟩ := c.def_ 30 (d := dOf "by_village" sByV []) rfl
  obtain ⟨fd31, F31⟩ := c.def_ 31 (d := dMet "WordMap" "__init__" "WordMap.__init__" sMInit [.non, .int 0, .int 120]) rfl
  obtain ⟨fd32, F32⟩ := c.def_ 32 (d := dMet "WordMap" "have" "WordMap.have" sMHave []) rfl
  obtain ⟨fd33, F33⟩ := c.def_ 33 (d := dOf "check_map" sCheckM [.int 0]) rfl
  obtain ⟨fd34, F34⟩ := c.def_ 34 (d := dOf "edges_about" sAbout []) rfl
  obtain ⟨fd35, F35⟩ := c.def_ 35 (d := dOf "outer_edges" sOuter []) rfl
  obtain ⟨fd36, F36⟩ := c.def_ 36 (d := dOf "next_edge" sNextE []) rfl
  obtain ⟨fd37, F37⟩ := c.def_ 37 (d := dOf "ring_from" sRingF []) rfl
  obtain ⟨fd38, F38⟩ := c.def_ 38 (d := dOf "least_turn" sLeastT []) rfl
  obtain ⟨fd39, F39⟩ := c.def_ 39 (d := dOf "rings" sRings []) rfl
  obtain ⟨fd40, F40⟩ := c.def_ 40 (d := dOf "_law_cell" sCell []) rfl
  obtain ⟨fd41, F41⟩ := c.def_ 41 (d := dOf "_law_purse" sPurse []) rfl
  obtain ⟨fd42, F42⟩ := c.def_ 42 (d := dOf "_law_pick" sPick []) rfl
  obtain ⟨fd43, F43⟩ := c.def_ 43 (d := dOf "_law_menu" sMenu []) rfl
  obtain ⟨fd44, F44⟩ := c.def_ 44 (d := dOf "_law_word" sWord []) rfl
  obtain ⟨fd45, F45⟩ := c.def_ 45 (d := dOf "_law_fresh" sFresh []) rfl
  obtain ⟨fd46, F46⟩ := c.def_ 46 (d := dOf "_law_changes" sChanges []) rfl
  obtain ⟨fd47, F47⟩ := c.def_ 47 (d := dOf "_law_kin" sKin []) rfl
  obtain ⟨fd48, F48⟩ := c.def_ 48 (d := dOf "_law_meaning" sMeaning []) rfl
  obtain ⟨fd49, F49⟩ := c.def_ 49 (d := dOf "_law_land" sLand []) rfl
  obtain ⟨fd50, F50⟩ := c.def_ 50 (d := dOf "_law_names" sNames []) rfl
  obtain ⟨fd51, F51⟩ := c.def_ 51 (d := dOf "_law_spots" sLSpots []) rfl
  obtain ⟨fd52, F52⟩ := c.def_ 52 (d := dOf "_law_pool" sPool []) rfl
  obtain ⟨fd53, F53⟩ := c.def_ 53 (d := dOf "_law_told" sTold []) rfl
  obtain ⟨fd54, F54⟩ := c.def_ 54 (d := dOf "_law_tome" sTome []) rfl
  obtain ⟨fd55, F55⟩ := c.def_ 55 (d := dOf "_law_shown" sShown []) rfl
  obtain ⟨fd56, F56⟩ := c.def_ 56 (d := dOf "_law_drawn" sDrawn []) rfl
  obtain ⟨fd57, F57⟩ := c.def_ 57 (d := dOf "_law_inside" sInside []) rfl
  obtain ⟨fd58, F58⟩ := c.def_ 58 (d := dOf "_law_edges" sLEdges []) rfl
  obtain ⟨fd59, F59⟩ := c.def_ 59 (d := dOf "_law_steps" sLSteps []) rfl
  obtain ⟨fd60, F60⟩ := c.def_ 60 (d := dOf "_law_is_lane" sLane []) rfl
  obtain ⟨fd61, F61⟩ := c.def_ 61 (d := dOf "_law_turns_left" sTurns []) rfl
  obtain ⟨fd62, F62⟩ := c.def_ 62 (d := dOf "_law_right" sRight []) rfl
  obtain ⟨fd63, F63⟩ := c.def_ 63 (d := dOf "law" sLaw []) rfl
  have e := hfa.symm.trans (He.glo_ok X G (c.fact 53 (f := .glo "law") rfl))
  cases e
  have f0 : Fun K "is_word" "is_word" wIsWord _ fd0 := He5.fun_of F0
  have f1 : Fun K "is_whole" "is_whole" sIsWhole _ fd1 := He5.fun_of F1
  have f2 : Fun K "is_number_from" "is_number_from" sIsNum _ fd2 := He5.fun_of F2
  have f3 : Fun K "check_word" "check_word" wCheck _ fd3 := He5.fun_of F3
  have f4 : Fun K "is_letter" "is_letter" wIsLetter _ fd4 := He5.fun_of F4
  have f5 : Fun K "is_change" "is_change" wIsChange _ fd5 := He5.fun_of F5
  have f6 : Fun K "is_tuple_up_to" "is_tuple_up_to" wTupTo _ fd6 := He5.fun_of F6
  have f7 : Fun K "checked_changes" "checked_changes" wChecked _ fd7 := He5.fun_of F7
  have f8 : Fun K "reaches" "reaches" wReaches _ fd8 := He5.fun_of F8
  have f9 : Fun K "turned_letters" "turned_letters" wTurned _ fd9 := He5.fun_of F9
  have f10 : Fun K "steps_toward" "steps_toward" wSteps _ fd10 := He5.fun_of F10
  have f11 : Fun K "letters_at" "letters_at" wLetAt _ fd11 := He5.fun_of F11
  have f12 : FunN K "meaning" wMean _ fd12 := F12
  have f13 : Fun K "are_rows" "are_rows" sAreRows _ fd13 := He5.fun_of F13
  have f14 : Fun K "wrong_spot" "wrong_spot" sWrong _ fd14 := He5.fun_of F14
  have f15 : Fun K "spots_in" "spots_in" sSpotsIn _ fd15 := He5.fun_of F15
  have f16 : Fun K "checked_spots" "checked_spots" sSpots _ fd16 := He5.fun_of F16
  have f17 : Fun K "__init__" "Land.__init__" sInit _ fd17 := He5.fun_of F17
  have f18 : Fun K "check_name" "Land.check_name" sCheck _ fd18 := He5.fun_of F18
  have f19 : Fun K "names" "Land.names" sLNames _ fd19 := He5.fun_of F19
  have f20 : Fun K "spot" "Land.spot" sSpot _ fd20 := He5.fun_of F20
  have f21 : Fun K "check_age" "check_age" sCheckA _ fd21 := He5.fun_of F21
  have f22 : Fun K "check_sure" "check_sure" sCheckS _ fd22 := He5.fun_of F22
  have f23 : Fun K "key_of" "key_of" sKeyOf _ fd23 := He5.fun_of F23
  have f24 : Fun K "__init__" "Gathering.__init__" sGInit _ fd24 := He5.fun_of F24
  have f25 : Fun K "place_of" "Gathering.place_of" sGPlace _ fd25 := He5.fun_of F25
  have f26 : FunP K _ fd26 := F26
  have f27 : FunT K _ fd27 := F27
  have f28 : Fun K "check_gathering" "check_gathering" sCheckG _ fd28 := He5.fun_of F28
  have f29 : Fun K "summed_up" "summed_up" sSum _ fd29 := He5.fun_of F29
  have f30 : Fun K "by_village" "by_village" sByV _ fd30 := He5.fun_of F30
  have f31 : FunI K _ fd31 := F31
  have f32 : Fun K "have" "WordMap.have" sMHave _ fd32 := He5.fun_of F32
  have f33 : FunC K _ fd33 := F33
  have f34 : Fun K "edges_about" "edges_about" sAbout _ fd34 := He5.fun_of F34
  have f35 : Fun K "outer_edges" "outer_edges" sOuter _ fd35 := He5.fun_of F35
  have f36 : Fun K "next_edge" "next_edge" sNextE _ fd36 := He5.fun_of F36
  have f37 : Fun K "ring_from" "ring_from" sRingF _ fd37 := He5.fun_of F37
  have f38 : Fun K "least_turn" "least_turn" sLeastT _ fd38 := He5.fun_of F38
  have f39 : Fun K "rings" "rings" sRings _ fd39 := He5.fun_of F39
  have f40 : Fun K "_law_cell" "_law_cell" sCell _ fd40 := He5.fun_of F40
  have f41 : Fun K "_law_purse" "_law_purse" sPurse _ fd41 := He5.fun_of F41
  have f42 : Fun K "_law_pick" "_law_pick" sPick _ fd42 := He5.fun_of F42
  have f43 : Fun K "_law_menu" "_law_menu" sMenu _ fd43 := He5.fun_of F43
  have f44 : Fun K "_law_word" "_law_word" sWord _ fd44 := He5.fun_of F44
  have f45 : Fun K "_law_fresh" "_law_fresh" sFresh _ fd45 := He5.fun_of F45
  have f46 : Fun K "_law_changes" "_law_changes" sChanges _ fd46 := He5.fun_of F46
  have f47 : Fun K "_law_kin" "_law_kin" sKin _ fd47 := He5.fun_of F47
  have f48 : Fun K "_law_meaning" "_law_meaning" sMeaning _ fd48 := He5.fun_of F48
  have f49 : Fun K "_law_land" "_law_land" sLand _ fd49 := He5.fun_of F49
  have f50 : Fun K "_law_names" "_law_names" sNames _ fd50 := He5.fun_of F50
  have f51 : Fun K "_law_spots" "_law_spots" sLSpots _ fd51 := He5.fun_of F51
  have f52 : Fun K "_law_pool" "_law_pool" sPool _ fd52 := He5.fun_of F52
  have f53 : Fun K "_law_told" "_law_told" sTold _ fd53 := He5.fun_of F53
  have f54 : Fun K "_law_tome" "_law_tome" sTome _ fd54 := He5.fun_of F54
  have f55 : Fun K "_law_shown" "_law_shown" sShown _ fd55 := He5.fun_of F55
  have f56 : Fun K "_law_drawn" "_law_drawn" sDrawn _ fd56 := He5.fun_of F56
  have f57 : Fun K "_law_inside" "_law_inside" sInside _ fd57 := He5.fun_of F57
  have f58 : Fun K "_law_edges" "_law_edges" sLEdges _ fd58 := He5.fun_of F58
  have f59 : Fun K "_law_steps" "_law_steps" sLSteps _ fd59 := He5.fun_of F59
  have f60 : Fun K "_law_is_lane" "_law_is_lane" sLane _ fd60 := He5.fun_of F60
  have f61 : Fun K "_law_turns_left" "_law_turns_left" sTurns _ fd61 := He5.fun_of F61
  have f62 : Fun K "_law_right" "_law_right" sRight _ fd62 := He5.fun_of F62
  have f63 : Fun K "law" "law" sLaw _ fd63 := He5.fun_of F63
  refine ⟨fd63, fun s v => ?_, fun base _ _ => ?_⟩
  · obtain ⟨oc, od, kV, doc, pm, an, cdv, ct, osl, e, l, c⟩ := f63.ex
    subst e
    exact .of_eq rfl
  have h_is_word : Has P w K mg base "is_word" 1 ["thing"] (spIsW K) := ⟨_, fd0, ok_isw f0 B Gw', He.glo_ok X G (c.fact 0 (f := .glo "is_word") rfl), f0.kp, f0.binds fun _ _ _ _ _ _ us hl => match us, hl with | [_], _ => rfl⟩
  have h_is_wordL : Has P w K mg base "is_word" 1 ["thing"] spIsWord := ⟨_, fd0, FnOk.imp (ok_isw f0 B Gw') (fun vs H Q E ⟨z, e, hz, q⟩ => ⟨.str z, wdB z, e, .inl ⟨z, rfl, hz, rfl⟩, q⟩), He.glo_ok X G (c.fact 0 (f := .glo "is_word") rfl), f0.kp, f0.binds fun _ _ _ _ _ _ us hl => match us, hl with | [_], _ => rfl⟩
  have h_is_whole : Has P w K mg base "is_whole" 1 ["thing"] spIsWhole := ⟨_, fd1, ok_iswhole f1 B B2, He.glo_ok X G (c.fact 1 (f := .glo "is_whole") rfl), f1.kp, f1.binds fun _ _ _ _ _ _ us hl => match us, hl with | [_], _ => rfl⟩
  have h_is_number_from : Has P w K mg base "is_number_from" 2 ["thing", "least", "most"] spIsNum := ⟨_, fd2, ok_isnum f2 h_is_whole, He.glo_ok X G (c.fact 2 (f := .glo "is_number_from") rfl), f2.kp, f2.binds fun _ _ _ _ _ _ us hl => match us, hl with | [_, _, _], _ => rfl⟩
  have h_check_word : Has P w K mg base "check_word" 2 ["word"] spCheckW := ⟨_, fd3, ok_checkw f3 h_is_word, He.glo_ok X G (c.fact 3 (f := .glo "check_word") rfl), f3.kp, f3.binds fun _ _ _ _ _ _ us hl => match us, hl with | [_], _ => rfl⟩
  have h_is_letter : Has P w K mg base "is_letter" 2 ["thing"] spIsLet := ⟨_, fd4, ok_islet f4 B h_is_word, He.glo_ok X G (c.fact 4 (f := .glo "is_letter") rfl), f4.kp, f4.binds fun _ _ _ _ _ _ us hl => match us, hl with | [_], _ => rfl⟩
  have h_is_change : Has P w K mg base "is_change" 3 ["thing"] spIsCh := ⟨_, fd5, ok_isch f5 B Gw' h_is_letter, He.glo_ok X G (c.fact 5 (f := .glo "is_change") rfl), f5.kp, f5.binds fun _ _ _ _ _ _ us hl => match us, hl with | [_], _ => rfl⟩
  have h_is_tuple_up_to : Has P w K mg base "is_tuple_up_to" 1 ["thing", "most"] spTupTo := ⟨_, fd6, ok_tupto f6 B, He.glo_ok X G (c.fact 6 (f := .glo "is_tuple_up_to") rfl), f6.kp, f6.binds fun _ _ _ _ _ _ us hl => match us, hl with | [_, _], _ => rfl⟩
  have h_checked_changes : Has P w K mg base "checked_changes" 4 ["changes"] spChecked := ⟨_, fd7, ok_checked f7 B Gw' h_is_tuple_up_to h_is_change, He.glo_ok X G (c.fact 7 (f := .glo "checked_changes") rfl), f7.kp, f7.binds fun _ _ _ _ _ _ us hl => match us, hl with | [_], _ => rfl⟩
  have h_reaches : Has P w K mg base "reaches" 1 ["where", "place", "length"] spReaches := ⟨_, fd8, ok_reaches f8, He.glo_ok X G (c.fact 8 (f := .glo "reaches") rfl), f8.kp, f8.binds fun _ _ _ _ _ _ us hl => match us, hl with | [_, _, _], _ => rfl⟩
  have h_turned_letters : Has P w K mg base "turned_letters" 2 ["changes", "place", "length"] spTurned := ⟨_, fd9, ok_turned f9 Gw' h_reaches, He.glo_ok X G (c.fact 9 (f := .glo "turned_letters") rfl), f9.kp, f9.binds fun _ _ _ _ _ _ us hl => match us, hl with | [_, _, _], _ => rfl⟩
  have h_steps_toward : Has P w K mg base "steps_toward" 1 ["goal", "turned"] spSteps := ⟨_, fd10, ok_steps f10 B, He.glo_ok X G (c.fact 10 (f := .glo "steps_toward") rfl), f10.kp, f10.binds fun _ _ _ _ _ _ us hl => match us, hl with | [_, _], _ => rfl⟩
  have h_letters_at : Has P w K mg base "letters_at" 3 ["word", "place", "changes"] spLetAt := ⟨_, fd11, ok_letat f11 B h_steps_toward h_turned_letters, He.glo_ok X G (c.fact 11 (f := .glo "letters_at") rfl), f11.kp, f11.binds fun _ _ _ _ _ _ us hl => match us, hl with | [_, _, _], _ => rfl⟩
  have h_meaning : HasN P w K mg base "meaning" wMean 5 ["word", "changes"] spMean := ⟨_, fd12, ok_mean f12 B h_check_word h_checked_changes h_letters_at, He.glo_ok X G (c.fact 12 (f := .glo "meaning") rfl), f12⟩
  have h_are_rows : Has P w K mg base "are_rows" 1 ["thing"] spAreRows := ⟨_, fd13, ok_arerows f13 B Gk', He.glo_ok X G (c.fact 13 (f := .glo "are_rows") rfl), f13.kp, f13.binds fun _ _ _ _ _ _ us hl => match us, hl with | [_], _ => rfl⟩
  have h_wrong_spot : Has P w K mg base "wrong_spot" 2 ["rows"] spWrong := ⟨_, fd14, ok_wrong f14 B h_is_wordL, He.glo_ok X G (c.fact 14 (f := .glo "wrong_spot") rfl), f14.kp, f14.binds fun _ _ _ _ _ _ us hl => match us, hl with | [_], _ => rfl⟩
  have h_spots_in : Has P w K mg base "spots_in" 1 ["rows"] spSpotsIn := ⟨_, fd15, ok_spotsin f15 B, He.glo_ok X G (c.fact 15 (f := .glo "spots_in") rfl), f15.kp, f15.binds fun _ _ _ _ _ _ us hl => match us, hl with | [_], _ => rfl⟩
  have h_checked_spots : Has P w K mg base "checked_spots" 3 ["rows"] spSpots := ⟨_, fd16, ok_spots f16 h_are_rows h_wrong_spot h_spots_in, He.glo_ok X G (c.fact 16 (f := .glo "checked_spots") rfl), f16.kp, f16.binds fun _ _ _ _ _ _ us hl => match us, hl with | [_], _ => rfl⟩
  have h_Land__init__ : HasI P w K mg base (He.ga K "Land") := ⟨_, fd17, He.mkr_ok (c.fact 56 (f := .mkr "Land") rfl), ok_init f17 T h_checked_spots, f17.binds fun _ _ _ _ _ _ us hl => match us, hl with | [_, _], _ => rfl⟩
  have h_check_name : HasM P w K mg base (He.ga K "Land") "check_name" 2 ["self", "name"] (spCheck (He.ga K "Land")) := ⟨_, fd18, ok_check f18 T h_is_wordL, He.meth_ok (c.fact 74 (f := .meth "Land" "check_name") rfl), f18.binds fun _ _ _ _ _ _ us hl => match us, hl with | [_, _], _ => rfl⟩
  have h_names : HasM P w K mg base (He.ga K "Land") "names" 1 ["self"] (spLNames (He.ga K "Land")) := ⟨_, fd19, ok_lnames f19 B T, He.meth_ok (c.fact 75 (f := .meth "Land" "names") rfl), f19.binds fun _ _ _ _ _ _ us hl => match us, hl with | [_], _ => rfl⟩
  have h_spot : HasM P w K mg base (He.ga K "Land") "spot" 3 ["self", "name"] (spSpot (He.ga K "Land")) := ⟨_, fd20, ok_spot f20 T h_check_name, He.meth_ok (c.fact 76 (f := .meth "Land" "spot") rfl), f20.binds fun _ _ _ _ _ _ us hl => match us, hl with | [_, _], _ => rfl⟩
  have h_check_age : Has P w K mg base "check_age" 3 ["age"] spCheckA := ⟨_, fd21, ok_checka f21 B2 h_is_number_from, He.glo_ok X G (c.fact 17 (f := .glo "check_age") rfl), f21.kp, f21.binds fun _ _ _ _ _ _ us hl => match us, hl with | [_], _ => rfl⟩
  have h_check_sure : Has P w K mg base "check_sure" 1 ["sure"] spCheckS := ⟨_, fd22, ok_checks f22 B B2, He.glo_ok X G (c.fact 18 (f := .glo "check_sure") rfl), f22.kp, f22.binds fun _ _ _ _ _ _ us hl => match us, hl with | [_], _ => rfl⟩
  have h_key_of : Has P w K mg base "key_of" 1 ["telling"] spKeyOf := ⟨_, fd23, ok_keyof f23, He.glo_ok X G (c.fact 19 (f := .glo "key_of") rfl), f23.kp, f23.binds fun _ _ _ _ _ _ us hl => match us, hl with | [_], _ => rfl⟩
  have h_Gathering__init__ : HasG P w K mg base (He.ga K "Land") (He.ga K "Gathering") := ⟨_, fd24, He.mkr_ok (c.fact 61 (f := .mkr "Gathering") rfl), ok_ginit f24 B T2 TG, f24.binds fun _ _ _ _ _ _ us hl => match us, hl with | [_, _], _ => rfl⟩
  have h_place_of : HasM P w K mg base (He.ga K "Gathering") "place_of" 2 ["self", "key"] (spGPlace (He.ga K "Land") (He.ga K "Gathering")) := ⟨_, fd25, ok_gplace f25 B TG h_key_of, He.meth_ok (c.fact 77 (f := .meth "Gathering" "place_of") rfl), f25.binds fun _ _ _ _ _ _ us hl => match us, hl with | [_, _], _ => rfl⟩
  have h_put : HasP P w K mg base (He.ga K "Land") (He.ga K "Gathering") := ⟨_, fd26, ok_put f26 B B2 T TG h_check_name h_check_word h_check_age h_check_sure h_place_of, He.meth_ok (c.fact 78 (f := .meth "Gathering" "put") rfl), f26⟩
  have h_tellings : HasT P w K mg base (He.ga K "Land") (He.ga K "Gathering") := ⟨_, fd27, ok_tell f27 B TG, He.meth_ok (c.fact 79 (f := .meth "Gathering" "tellings") rfl), f27⟩
  have h_check_gathering : Has P w K mg base "check_gathering" 1 ["thing"] (spCheckG (He.ga K "Land") (He.ga K "Gathering")) := ⟨_, fd28, ok_checkg f28 B TG insD, He.glo_ok X G (c.fact 20 (f := .glo "check_gathering") rfl), f28.kp, f28.binds fun _ _ _ _ _ _ us hl => match us, hl with | [_], _ => rfl⟩
  have h_summed_up : Has P w K mg base "summed_up" 6 ["tellings", "changes"] spSum := ⟨_, fd29, ok_sum f29 B h_meaning, He.glo_ok X G (c.fact 21 (f := .glo "summed_up") rfl), f29.kp, f29.binds fun _ _ _ _ _ _ us hl => match us, hl with | [_, _], _ => rfl⟩
  have h_by_village : Has P w K mg base "by_village" 7 ["names", "tellings", "changes"] spByV := ⟨_, fd30, ok_byv f30 h_summed_up, He.glo_ok X G (c.fact 22 (f := .glo "by_village") rfl), f30.kp, f30.binds fun _ _ _ _ _ _ us hl => match us, hl with | [_, _, _], _ => rfl⟩
  have h_WordMap__init__ : HasW P w K mg base (He.ga K "Land") (He.ga K "Gathering") (He.ga K "WordMap") := ⟨_, fd31, He.mkr_ok (c.fact 67 (f := .mkr "WordMap") rfl), ok_minit f31 B T TG TM h_check_gathering h_check_word h_checked_changes h_check_age h_tellings h_names h_by_village, f31⟩
  have h_have : HasM P w K mg base (He.ga K "WordMap") "have" 6 ["self", "word"] (spHave (He.ga K "Land") (He.ga K "WordMap")) := ⟨_, fd32, ok_have f32 B T TM h_meaning h_names, He.meth_ok (c.fact 80 (f := .meth "WordMap" "have") rfl), f32.binds fun _ _ _ _ _ _ us hl => match us, hl with | [_, _], _ => rfl⟩
  have h_check_map : HasC P w K mg base (He.ga K "Land") (He.ga K "WordMap") := ⟨_, fd33, ok_checkm f33 B TM insW, He.glo_ok X G (c.fact 23 (f := .glo "check_map") rfl), f33⟩
  have h_edges_about : Has P w K mg base "edges_about" 1 ["place"] spAbout := ⟨_, fd34, ok_about f34, He.glo_ok X G (c.fact 24 (f := .glo "edges_about") rfl), f34.kp, f34.binds fun _ _ _ _ _ _ us hl => match us, hl with | [_], _ => rfl⟩
  have h_outer_edges : Has P w K mg base "outer_edges" 2 ["places"] (spOuter K) := ⟨_, fd35, ok_outer f35 B h_edges_about, He.glo_ok X G (c.fact 25 (f := .glo "outer_edges") rfl), f35.kp, f35.binds fun _ _ _ _ _ _ us hl => match us, hl with | [_], _ => rfl⟩
  have h_next_edge : Has P w K mg base "next_edge" 1 ["edge", "edges"] spNextE := ⟨_, fd36, ok_nexte f36 B, He.glo_ok X G (c.fact 26 (f := .glo "next_edge") rfl), f36.kp, f36.binds fun _ _ _ _ _ _ us hl => match us, hl with | [_, _], _ => rfl⟩
  have h_ring_from : Has P w K mg base "ring_from" 2 ["edge", "edges"] spRingF := ⟨_, fd37, ok_ringf f37 B h_next_edge, He.glo_ok X G (c.fact 27 (f := .glo "ring_from") rfl), f37.kp, f37.binds fun _ _ _ _ _ _ us hl => match us, hl with | [_, _], _ => rfl⟩
  have h_least_turn : Has P w K mg base "least_turn" 1 ["ring"] spLeastT := ⟨_, fd38, ok_leastt f38 B, He.glo_ok X G (c.fact 28 (f := .glo "least_turn") rfl), f38.kp, f38.binds fun _ _ _ _ _ _ us hl => match us, hl with | [_], _ => rfl⟩
  have h_rings : HasKG P w K mg base "rings" 7 ["wordmap", "word"] ["word", "wordmap"] (spRings (He.ga K "Land") (He.ga K "WordMap")) gSw gSw := ⟨_, fd39, ok_rings f39 B T TM h_check_map h_have h_spot h_outer_edges h_ring_from h_least_turn, He.glo_ok X G (c.fact 29 (f := .glo "rings") rfl), f39.kp, (f39.binds fun _ _ _ _ _ _ us hl => match us, hl with | [_, _], _ => rfl), kbSw_of f39 fun _ _ _ _ _ _ _ _ => rfl⟩
  have h__law_cell : Has P w K mg base "_law_cell" 1 ["_law_script", "_law_k"] (spCell K) := ⟨_, fd40, ok_cell f40 B, He.glo_ok X G (c.fact 30 (f := .glo "_law_cell") rfl), f40.kp, f40.binds fun _ _ _ _ _ _ us hl => match us, hl with | [_, _], _ => rfl⟩
  have h__law_purse : Has P w K mg base "_law_purse" 1 ["_law_cell_here"] spPurse := ⟨_, fd41, ok_purse f41 B, He.glo_ok X G (c.fact 31 (f := .glo "_law_purse") rfl), f41.kp, f41.binds fun _ _ _ _ _ _ us hl => match us, hl with | [_], _ => rfl⟩
  have h__law_pick : Has P w K mg base "_law_pick" 1 ["_law_purse_here", "_law_count"] spPick := ⟨_, fd42, ok_pick f42, He.glo_ok X G (c.fact 32 (f := .glo "_law_pick") rfl), f42.kp, f42.binds fun _ _ _ _ _ _ us hl => match us, hl with | [_, _], _ => rfl⟩
  have h__law_menu : Has P w K mg base "_law_menu" 1 [] spMenu := ⟨_, fd43, ok_menu f43, He.glo_ok X G (c.fact 33 (f := .glo "_law_menu") rfl), f43.kp, f43.binds fun _ _ _ _ _ _ us hl => match us, hl with | [], _ => rfl⟩
  have h__law_word : Has P w K mg base "_law_word" 2 ["_law_purse_here"] spWord := ⟨_, fd44, ok_word f44 B h__law_pick h__law_menu, He.glo_ok X G (c.fact 34 (f := .glo "_law_word") rfl), f44.kp, f44.binds fun _ _ _ _ _ _ us hl => match us, hl with | [_], _ => rfl⟩
  have h__law_fresh : Has P w K mg base "_law_fresh" 3 ["_law_purse_here", "_law_used"] spFresh := ⟨_, fd45, ok_fresh f45 B h__law_word, He.glo_ok X G (c.fact 35 (f := .glo "_law_fresh") rfl), f45.kp, f45.binds fun _ _ _ _ _ _ us hl => match us, hl with | [_, _], _ => rfl⟩
  have h__law_changes : Has P w K mg base "_law_changes" 2 ["_law_purse_here", "_law_limit"] spChanges := ⟨_, fd46, ok_changes f46 B h__law_pick, He.glo_ok X G (c.fact 36 (f := .glo "_law_changes") rfl), f46.kp, f46.binds fun _ _ _ _ _ _ us hl => match us, hl with | [_, _], _ => rfl⟩
  have h__law_kin : Has P w K mg base "_law_kin" 1 ["_law_shifts", "_law_letter", "_law_first", "_law_last"] spKin := ⟨_, fd47, ok_kin f47 B, He.glo_ok X G (c.fact 37 (f := .glo "_law_kin") rfl), f47.kp, f47.binds fun _ _ _ _ _ _ us hl => match us, hl with | [_, _, _, _], _ => rfl⟩
  have h__law_meaning : Has P w K mg base "_law_meaning" 2 ["_law_shifts", "_law_term"] spLMean := ⟨_, fd48, ok_lmean f48 B h__law_kin, He.glo_ok X G (c.fact 38 (f := .glo "_law_meaning") rfl), f48.kp, f48.binds fun _ _ _ _ _ _ us hl => match us, hl with | [_, _], _ => rfl⟩
  have h__law_land : Has P w K mg base "_law_land" 4 ["_law_purse_here", "_law_limit"] spLand := ⟨_, fd49, ok_land f49 B h__law_pick h__law_fresh, He.glo_ok X G (c.fact 39 (f := .glo "_law_land") rfl), f49.kp, f49.binds fun _ _ _ _ _ _ us hl => match us, hl with | [_, _], _ => rfl⟩
  have h__law_names : Has P w K mg base "_law_names" 1 ["_law_rows"] spNames := ⟨_, fd50, ok_names f50 B, He.glo_ok X G (c.fact 40 (f := .glo "_law_names") rfl), f50.kp, f50.binds fun _ _ _ _ _ _ us hl => match us, hl with | [_], _ => rfl⟩
  have h__law_spots : Has P w K mg base "_law_spots" 1 ["_law_rows"] spLSpots := ⟨_, fd51, ok_lspots f51 B, He.glo_ok X G (c.fact 41 (f := .glo "_law_spots") rfl), f51.kp, f51.binds fun _ _ _ _ _ _ us hl => match us, hl with | [_], _ => rfl⟩
  have h__law_pool : Has P w K mg base "_law_pool" 4 ["_law_purse_here"] spPool := ⟨_, fd52, ok_pool f52 B h__law_pick h__law_word h__law_fresh, He.glo_ok X G (c.fact 42 (f := .glo "_law_pool") rfl), f52.kp, f52.binds fun _ _ _ _ _ _ us hl => match us, hl with | [_], _ => rfl⟩
  have h__law_told : Has P w K mg base "_law_told" 2 ["_law_purse_here", "_law_labels", "_law_topic", "_law_pool_here"] spTold := ⟨_, fd53, ok_told f53 B h__law_pick, He.glo_ok X G (c.fact 43 (f := .glo "_law_told") rfl), f53.kp, f53.binds fun _ _ _ _ _ _ us hl => match us, hl with | [_, _, _, _], _ => rfl⟩
  have h__law_tome : Has P w K mg base "_law_tome" 6 ["_law_rows", "_law_told_here"] (spTome (He.ga K "Land") (He.ga K "Gathering")) := ⟨_, fd54, ok_tome f54 T TG h_Land__init__ h_Gathering__init__ h_put, He.glo_ok X G (c.fact 44 (f := .glo "_law_tome") rfl), f54.kp, f54.binds fun _ _ _ _ _ _ us hl => match us, hl with | [_, _], _ => rfl⟩
  have h__law_shown : Has P w K mg base "_law_shown" 3 ["_law_labels", "_law_told_here", "_law_topic", "_law_shifts", "_law_ages"] spShown := ⟨_, fd55, ok_shown f55 h__law_meaning, He.glo_ok X G (c.fact 45 (f := .glo "_law_shown") rfl), f55.kp, f55.binds fun _ _ _ _ _ _ us hl => match us, hl with | [_, _, _, _, _], _ => rfl⟩
  have h__law_drawn : Has P w K mg base "_law_drawn" 10 ["_law_purse_here", "_law_great"] (spDrawn (He.ga K "Land") (He.ga K "WordMap")) := ⟨_, fd56, ok_drawn f56 B TM h__law_pick h__law_land h__law_names h__law_pool h__law_changes h__law_told h__law_tome h__law_shown h_WordMap__init__, He.glo_ok X G (c.fact 46 (f := .glo "_law_drawn") rfl), f56.kp, f56.binds fun _ _ _ _ _ _ us hl => match us, hl with | [_, _], _ => rfl⟩
  have h__law_inside : Has P w K mg base "_law_inside" 2 ["_law_rows", "_law_shown_here", "_law_meant"] spInside := ⟨_, fd57, ok_inside f57 B h__law_spots, He.glo_ok X G (c.fact 47 (f := .glo "_law_inside") rfl), f57.kp, f57.binds fun _ _ _ _ _ _ us hl => match us, hl with | [_, _, _], _ => rfl⟩
  have h__law_edges : Has P w K mg base "_law_edges" 1 ["_law_places"] spLEdges := ⟨_, fd58, ok_ledges f58 B, He.glo_ok X G (c.fact 48 (f := .glo "_law_edges") rfl), f58.kp, f58.binds fun _ _ _ _ _ _ us hl => match us, hl with | [_], _ => rfl⟩
  have h__law_steps : Has P w K mg base "_law_steps" 1 ["_law_lane"] spLSteps := ⟨_, fd59, ok_lsteps f59 B, He.glo_ok X G (c.fact 49 (f := .glo "_law_steps") rfl), f59.kp, f59.binds fun _ _ _ _ _ _ us hl => match us, hl with | [_], _ => rfl⟩
  have h__law_is_lane : Has P w K mg base "_law_is_lane" 1 ["_law_lane"] spLane := ⟨_, fd60, ok_lane f60 B B2 hany, He.glo_ok X G (c.fact 50 (f := .glo "_law_is_lane") rfl), f60.kp, f60.binds fun _ _ _ _ _ _ us hl => match us, hl with | [_], _ => rfl⟩
  have h__law_turns_left : Has P w K mg base "_law_turns_left" 2 ["_law_lane", "_law_edges_here"] spTurns := ⟨_, fd61, ok_turns f61 B h__law_steps, He.glo_ok X G (c.fact 51 (f := .glo "_law_turns_left") rfl), f61.kp, f61.binds fun _ _ _ _ _ _ us hl => match us, hl with | [_, _], _ => rfl⟩
  have h__law_right : Has P w K mg base "_law_right" 3 ["_law_found", "_law_places"] spRight := ⟨_, fd62, ok_right f62 B h__law_edges h__law_steps h__law_is_lane h__law_turns_left, He.glo_ok X G (c.fact 52 (f := .glo "_law_right") rfl), f62.kp, f62.binds fun _ _ _ _ _ _ us hl => match us, hl with | [_, _], _ => rfl⟩
  exact ok_law f63 B h__law_cell h__law_purse h__law_pick h__law_word h__law_drawn h__law_meaning h__law_inside h_rings h__law_right
end Wl

namespace Wl
open PySem PySem.Spec PyProof.Rows L2
noncomputable abbrev atEnd (w : World) (os : OsState) : Option PySem.W.SharedT := HandSHeadRun.endF (HandSHeadRun.stepQ (HandSHeadRun.denQ HandSHeadRun.tabQ) R.prog w) 12000 R.prog w os
theorem runA (w : World) (os : OsState) : (atEnd w os).map (fun s => (HandSHeadRun.looksF R.prog (PySem.W.boot_heap w.params) s.abs, HandSHeadRun.seenQ (PySem.W.view R.prog [92]) others (importedModules R.prog.main.body) (fun s => PySem.W.xlAt (PySem.W.view R.prog [92]) [] s && PySem.W.recOk R.toRowW.records s) s.abs)) = some (true, PySem.W.openGood (PySem.W.view R.prog [92]) others) := by
  kernel_rfl
theorem runB (w : World) (os : OsState) : (atEnd w os).map ob = some (He.valD fn, true) := by
  kernel_rfl
theorem run (w : World) : HandSHeadRun.RunEq R (PySem.W.view R.prog [92]) hk ob 12000 others w := fun os => map3 (runA w os) (runB w os)
end Wl

open PySem PySem.W PySem.Calls PyProof.Rows
theorem PySem.Challenge.cw_wordlines_k24_rings_about_words_holds : PySem.Challenge.rw_wordlines_k24_rings_about_words.Holds := by
  w_on; o_law
  refine HandSHeadRun.head_any (r := OpenLaw.row PySem.Challenge.rw_wordlines_k24_rings_about_words) (q := view (OpenLaw.row PySem.Challenge.rw_wordlines_k24_rings_about_words).prog [92]) (H := Wl.hk) (ob := Wl.ob) (M := 12000) (loose := Wl.others) (d := HandSHeadRun.topDef (OpenLaw.row PySem.Challenge.rw_wordlines_k24_rings_about_words).prog 92) (kwd := []) Wl.ob_eq
    (by kernel_rfl) (fun s => by kernel_rfl) Wl.run (by kernel_rfl) (by kernel_rfl) (by kernel_rfl) (by rfl) (by first | assumption | decide +kernel) (by decide +kernel) ⟨rfl, rfl, rfl, rfl, rfl, by decide +kernel⟩ ?hw ?hc
  case hw => w_witness2
  case hc =>
    refine L2.walk_ofE (l := PySem.Challenge.rw_wordlines_k24_rings_about_words) (n := 63) (k := 11) (x := "_law_script") (CX := L2.CX0) rfl (by decide) (by kernel_rfl) ⟨rfl, by decide, by decide⟩ ?F (fun _ _ _ _ z => z)
    intro w mg fa h Y G hmg0
    obtain ⟨K, KX, c, cx⟩ := Y
    have hmg : mg ("law" : PySem.Str) = some (.ref fa) := by
      have e : (HandSHeadRun.topDef (OpenLaw.row PySem.Challenge.rw_wordlines_k24_rings_about_words).prog 92).name = ("law" : PySem.Str) := by kernel_rfl
      rw [← e]
      exact hmg0
    obtain ⟨fd, hb, hF⟩ := Wl.facts (P := (PySem.Challenge.rw_wordlines_k24_rings_about_words).prog) (w := w) KX G hmg c cx
    exact ⟨K, fd, Wl.spLaw K, KX, hb, fun H a ns hl _ hS => ⟨a, ns, rfl, hS, hl, fun _ => rfl⟩, hF⟩

