import PyProof.Rows.All
import Wide.All
import OpenK.AllK
import Wide.FinOn
import HandS.ForMost
import HandS.Defaults
import HandS.MakeKwOnly
import HandS.Conv
import HandS.IsInst
import HandS.Walk
import HandS.Flow
import KE.SortData
import KE.DataMinMax
import KE.GoesMore
import HandS.Replace
import HandS.DictComp
import HandS.MakeKw
import HandS.Style
import HandS.OwnEq
import KE.KCallOwn
import KE.KFmtOwn
import HandS.Codes
import HandS.FStr
import HandS.Strs
import HandS.SetFor
import HandS.SetTxt0
import HandS.SetBool
import HandS.More
import HandS.TupSets
import HandS.Iter
import HandS.SortInts
import HandS.TupAny
import HandS.Deep
import HandS.SetKeys
import HandS.DictEq
import HandS.Small
import PyProof.Rows.Range3
import PyProof.ListTruth
import KE.KEqNest
import HandS.WordsDict
import HandS.TupMul
import KE.KStateDown
import Lean
import HandS.Ends
import HandS.WordsExc
import HandS.Head0
import HandS.Head1
import HandS.Head2
import HandS.HeadEnd
import HandS.HeadHook1
import HandS.HeadHook2
import HandS.HeadNt
import PySem.Challenge.RW_wordlines_k18_maps_alike_and_shown
set_option Elab.async false
set_option linter.all false
set_option maxRecDepth 100000
set_option maxHeartbeats 0
/-! Rules of ours beside the layer: sorted of data, min and max of two texts, in of nested tuples, methods by keyword, enumerate of a tuple. -/
namespace Wl
open PySem PySem.Spec PyProof.Rows L2

/-! sorted(list of data) -/
def rSortD (K : PySem.W.Frag) : List V → Hp → VK → Prop := fun vs H Q =>
  ∃ (a : Addr) (bs : List (V × PyData)), vs = [V.ref a] ∧ SqL K H a (bs.map (·.1)) ∧ (∀ b ∈ bs, Dp K H b.1 b.2) ∧
    PySem.W.AllAlike (bs.map (·.2)) ∧ PySem.W.Sortable (bs.map (·.2)) ∧ (∀ b ∈ bs, b.2.depth ≤ 8) ∧
    ∀ p, H p = none → Q (.ref p) (upd H p (.lst ((bs.mergeSort (PySem.W.dataLe false (·.2))).map (·.1))))
theorem each_of_vals : ∀ {bs : List (V × PyData)} {its : List Value}, Vals (bs.map (·.1)) its → PySem.W.EachIs (fun u b => RelV b.1 u) its bs
  | [], [], _ => .nil
  | [], _ :: _, h => nomatch h
  | _ :: _, [], h => nomatch h
  | b :: bs, u :: us, h => by
    cases h with
    | cons r t => exact .cons r (each_of_vals t)
theorem vals_of_each : ∀ {bs : List (V × PyData)} {its : List Value}, PySem.W.EachIs (fun u b => RelV b.1 u) its bs → Vals (bs.map (·.1)) its
  | _, _, .nil => .nil
  | _, _, .cons r t => .cons r (vals_of_each t)
theorem each_reads {X : Cx} {pins : List (Addr × Obj)} {σ : L2.St} {H : Hp} {s : Shared} (I : Inv X pins σ H s) :
    ∀ {bs : List (V × PyData)} {its : List Value}, (∀ b ∈ bs, Dp X.K H b.1 b.2) → PySem.W.EachIs (fun u b => RelV b.1 u) its bs →
      PySem.W.EachIs (fun v b => ∃ as, Reads s.heap v b.2 as) its bs
  | _, _, _, .nil => .nil
  | _, _, hd, .cons r t => .cons (Dp.reads I _ _ _ (hd _ List.mem_cons_self) r) (each_reads I (fun b m => hd b (List.mem_cons_of_mem _ m)) t)
theorem cr_sortD {X : Cx} (hu : X.A.units + 64 < cLine) : CallR X (.builtin "sorted") (rSortD X.K) := by
  intro pins s σ H vs us Q I r h
  obtain ⟨a, bs, rfl, hs, hd, ha, hk, hz, q⟩ := h
  obtain ⟨its, rv, hl, hn⟩ := I.list hs
  obtain ⟨u, rfl, ru⟩ := vals1 r
  obtain rfl : u = Value.ref a := ru
  have e := each_of_vals rv
  have hbn : bs.length ≤ sizeLine := by
    rw [List.length_map] at hn
    exact hn
  refine PySem.W.sorted_data (R := fun u b => RelV b.1 u) (enc := (·.2)) hl.isList e (each_reads I hd e) ha hk hbn (fun b hb => ?_) fun out ho eo => ?_
  · have := hz b hb
    omega
  · have rv2 := vals_of_each eo
    obtain ⟨n, hn2⟩ := sortedAll_at s.heap its out.toArray
    have hlen : ((bs.mergeSort (PySem.W.dataLe false (·.2))).map (·.1)).length ≤ sizeLine := by
      rw [List.length_map, List.length_mergeSort]
      exact hbn
    exact ⟨.ref (s.heap.objs.size + 1), _, I.laid (t' := s.toks) (o := .lst ((bs.mergeSort (PySem.W.dataLe false (·.2))).map (·.1))) (fun b o e => sortedAll_old e) (Nat.le_succ _) ⟨hlen, out, n, rv2, hn2⟩, rfl, q _ (I.hok.fresh (Nat.le_succ _))⟩

/-! min, max of a tuple of two texts -/
def rTwo (K : PySem.W.Frag) (f : Str → Str → Str) : List V → Hp → VK → Prop := fun vs H Q =>
  ∃ (a : Addr) (x y : Str), vs = [V.ref a] ∧ SqT K H a [.str x, .str y] ∧ Q (.str (f x y)) H
def lessOf (x y : Str) : Str := if y.cps.toList < x.cps.toList then y else x
def moreOf (x y : Str) : Str := if x.cps.toList < y.cps.toList then y else x
theorem alike2 (x y : Str) : PySem.W.AlikeAll [PyData.str x, .str y] := by
  refine ⟨fun a ha b hb => ?_, fun a ha => ?_⟩
  · simp only [List.mem_cons, List.not_mem_nil, or_false] at ha hb
    rcases ha with rfl | rfl <;> rcases hb with rfl | rfl <;> rfl
  · simp only [List.mem_cons, List.not_mem_nil, or_false] at ha
    rcases ha with rfl | rfl <;> exact fun z => by cases z
theorem dp2 {K : PySem.W.Frag} {H : Hp} (x y : Str) : DpAll K H [.str x, .str y] [PyData.str x, .str y] := .cons (.str x) (.cons (.str y) .nil)
theorem cr_minT {X : Cx} (hc : X.calm = true) (hu : X.A.units + 64 < cLine) : CallR X (.builtin "min") (rTwo X.K lessOf) := by
  intro pins s σ H vs us Q I r h
  obtain ⟨a, x, y, rfl, hs, q⟩ := h
  obtain ⟨its, rv, hl, hn⟩ := I.tuple hs
  obtain ⟨u, rfl, ru⟩ := vals1 r
  obtain rfl : u = Value.ref a := ru
  obtain ⟨as, hr⟩ := Dp.readsAll I _ _ its (dp2 x y) rv
  refine PySem.W.min_tuple_data (I.ok.hd hc) (show s.heap.IsTuple a its.toArray from hl) (by simpa using hr) (alike2 x y) (by
    have : PyData.depthAll [PyData.str x, .str y] = 0 := rfl
    omega) fun i v h' tk bs hv hR hk => ?_
  have e : PySem.W.minD (.str x) [.str y] = .str (lessOf x y) := by
    unfold PySem.W.minD lessOf
    simp only [List.foldl_cons, List.foldl_nil, PySem.W.dataLt_str]
    by_cases c : y.cps.toList < x.cps.toList <;> simp [c]
  rw [e] at hR
  cases hR with
  | str z t => exact ⟨.str _, H, I.kept (t' := tk) hk, ⟨_, rfl⟩, q⟩
theorem cr_maxT {X : Cx} (hc : X.calm = true) (hu : X.A.units + 64 < cLine) : CallR X (.builtin "max") (rTwo X.K moreOf) := by
  intro pins s σ H vs us Q I r h
  obtain ⟨a, x, y, rfl, hs, q⟩ := h
  obtain ⟨its, rv, hl, hn⟩ := I.tuple hs
  obtain ⟨u, rfl, ru⟩ := vals1 r
  obtain rfl : u = Value.ref a := ru
  obtain ⟨as, hr⟩ := Dp.readsAll I _ _ its (dp2 x y) rv
  refine PySem.W.max_tuple_data (I.ok.hd hc) (show s.heap.IsTuple a its.toArray from hl) (by simpa using hr) (alike2 x y) (by
    have : PyData.depthAll [PyData.str x, .str y] = 0 := rfl
    omega) fun i v h' tk bs hv hR hk => ?_
  have e : PySem.W.maxD (.str x) [.str y] = .str (moreOf x y) := by
    unfold PySem.W.maxD moreOf
    simp only [List.foldl_cons, List.foldl_nil, PySem.W.dataLt_str]
    by_cases c : x.cps.toList < y.cps.toList <;> simp [c]
  rw [e] at hR
  cases hR with
  | str z t => exact ⟨.str _, H, I.kept (t' := tk) hk, ⟨_, rfl⟩, q⟩

/-! x in a tuple of data -/
def rInDT (K : PySem.W.Frag) : R2 := fun x y H Q => ∃ d ds, Dp K H x d ∧ Dp K H y (.tuple ds) ∧ SeqAt.shaped d = true ∧
  SeqAt.shaped (.tuple ds) = true ∧ Q (.bl (ds.any fun z => PyData.eqv z d)) H
theorem op_inDT {X : Cx} (hu : X.A.units + 65 < cLine) : OpR X (compareOp .In) (rInDT X.K) := by
  intro pins s σ H x y v u Q I rx ry h
  obtain ⟨d, ds, hd, he, sd, se, q⟩ := h
  obtain ⟨as, r1⟩ := Dp.reads I d x v hd rx
  obtain ⟨bs, r2⟩ := Dp.reads I (.tuple ds) y u he ry
  exact SeqAt.in_tuple_reads r2 r1 (SeqAt.canLay_of_shaped se) (SeqAt.canLay_of_shaped sd) (room_in_shaped sd hu) ⟨.bl _, H, I, rfl, q⟩

/-! o.m(k = e): one argument by its name -/
def g2 {α : Type} : List α → List α → List α
  | [a], [b] => [a, b]
  | _, _ => []
theorem g2_rel : ∀ {vs : List V} {us : List Value} {zs : List V} {ws : List Value}, Vals vs us → Vals zs ws → Vals (g2 vs zs) (g2 us ws)
  | _, _, _, _, .nil, _ => .nil
  | _, _, _, _, .cons a (.cons b c), _ => .nil
  | _, _, _, _, .cons a .nil, .nil => .nil
  | _, _, _, _, .cons a .nil, .cons b .nil => .cons a (.cons b .nil)
  | _, _, _, _, .cons a .nil, .cons b (.cons c d) => .nil
def tMethK (C : Addr) (m : Str) (sp : Sp) (E : XK) (ta : TE) (tk : TA) : TE := fun σ H Q => ta σ H fun x H1 =>
  ∃ a dx fs, x = .ref a ∧ H1 a = some (.ins C dx fs) ∧ fs.lookup m = none ∧ tk σ H1 fun zs H2 => sp (g2 [.ref a] zs) H2 Q E
theorem pe_methK {X : Cx} {CX : CXT} {k : Nat} {f C : Addr} {fd : FuncData} {ps ks : List Str} {sp : Sp} {E : XK} {m : Str} {pos apos : Pos} {o : Expr} {kws : List Keyword} {ta : TE} {tk : TA} {pl : Sem Bool}
    (he : PE X o ta) (c : Cls X.K C) (hm : Meth X.K C m f) (F : FnOk X.prog X.w X.K X.mg X.base CX k f fd ps sp) (hr : Room k X.A) (hb : KBinds X.K fd ps ks g2 g2) (hx : Passes CX X E) (hkw : PK X kws tk)
    (hall : (backToKw pos (keywordEach kws X.env)).all (·.1.isSome) = true := by rfl) (hks : (backToKw pos (keywordEach kws X.env)).filterMap (·.1) = ks := by rfl)
    (hpl : ((backTo pos (starEach [] X.env)).any (·.1) || (backToKw pos (keywordEach kws X.env)).any (·.1.isNone)) = false := by rfl)
    (ht : eval (.Call (.Attribute o m apos) [] kws pos) X.env = (do
      let ov ← eval o X.env
      standAt apos.atName
      let (f, first) ← holding [ov] (getMethod ov m pl)
      callWith pos f first (backTo pos (starEach [] X.env)) (backToKw pos (keywordEach kws X.env))) := by rfl) :
    PE X (.Call (.Attribute o m apos) [] kws pos) (tMethK C m sp E ta tk) := by
  refine ⟨fun pins s σ H Q I h => ?_⟩
  refine PySem.W.methodCall_KW (pl := pl) (thn (he.run pins s σ H _ I h) fun u s1 ⟨x, H1, I1, rx, a, dx, fs, ex, ea, l, q⟩ => ?_) ht
  subst ex
  obtain rfl : u = Value.ref a := rx
  refine getmeth_ok I1 ea c hm l ?_
  refine PySem.W.callWith_KW0 (first := [.ref a]) (h₀ := X.base) I.ok.mod.kin hm.kp hall (thn (hkw.run pos pins s1 σ H1 _ I1 q) fun ws s2 ⟨zs, H2, I2, rz, q2⟩ => ⟨I2.kIn, ?_⟩) hpl
  rw [hks]
  exact run_fnk (us := [.ref a]) (vs := [.ref a]) F hr hb hx I2 (.cons rfl .nil) rz q2

/-! enumerate(a tuple) -/
open AutoSeq1 (wpAny_loadPart') in
theorem new_enumT (l : Addr) (items : Array Value) (n : Nat) (dct : Option Addr) (sl : Array (Option Value)) :
    Meets (Builtin.«enumerate.__new__» ⟨[.type "enumerate", .ref l], []⟩) (fun _ R s =>
      s.heap.get? l = some { cls := .type "tuple", dict := dct, data := .seq items n, slots := sl } ∧
      R (.ok (.ret (.ref (s.heap.push { cls := .type "tuple_iterator", data := .fields #[.ref l, .int 0 0] }).objs.size)))
        { s with heap := (s.heap.push { cls := .type "tuple_iterator", data := .fields #[.ref l, .int 0 0] }).push { cls := .type "enumerate", data := .fields #[.none, .bool false, .ref s.heap.objs.size, rawInt 0, .none, .none] } }) :=
  .of_wp fun prog w A R s h => by
    obtain ⟨hp, g, d, tk, os⟩ := s
    obtain ⟨hl, h⟩ := h
    have hsub := sub_enumerate
    have hT : Heap.IsTuple (Shared.heap ⟨hp, g, d, tk, os⟩) l items := ⟨_, hl, rfl, n, rfl⟩
    wp_walk using wpAny_loadPart' hl
    refine wpAny_stack_any fun st => wpAny_pure ?_
    split
    · rename_i c _ _ _ _ _
      cases (c == Value.type "enumerate") <;> (wp_walk using wpAny_loadPart' hl, wpAny_pyIter_tuple hT; exact ⟨_, rfl, h⟩)
    · (wp_walk using wpAny_loadPart' hl, wpAny_pyIter_tuple hT); exact ⟨_, rfl, h⟩
section
variable {prog : Program} {w : World} {A : Around} {E : Value → Shared → Prop} {s : Shared}
theorem make_enumT {l : Addr} {items : Array Value} {Q : Value → Shared → Prop} (hL : s.heap.IsTuple l items)
    (h : ∀ h', IsEnum h' (s.heap.objs.size + 1) s.heap.objs.size 0 .none → h'.IsTupleIter s.heap.objs.size l 0 →
      (∀ b o, s.heap.get? b = some o → h'.get? b = some o) → Q (.ref (s.heap.objs.size + 1)) { s with heap := h' }) :
    wpAny (model prog w) A (call (.type "enumerate") [.ref l]) Q E s := by
  obtain ⟨⟨c, dct, dt, sl⟩, hl, hc, n, hd⟩ := hL
  obtain rfl : c = .type "tuple" := hc
  obtain rfl : dt = .seq items n := hd
  refine callType_new F.called_enumerate (by decide) (F.typeCall_enumerate_1 _) (F.newCall_enumerate_1 _) (fun obj => F.args_object_init_2 obj _) F.entry_enumerate_new (new_enumT l items n dct sl) ⟨hl, ?_⟩
  have hz : (s.heap.push { cls := .type "tuple_iterator", data := .fields #[.ref l, .int 0 0] }).objs.size = s.heap.objs.size + 1 := Heap.size_push ..
  rw [hz]
  have he : IsEnum ((s.heap.push { cls := .type "tuple_iterator", data := .fields #[.ref l, .int 0 0] }).push { cls := .type "enumerate", data := .fields #[.none, .bool false, .ref s.heap.objs.size, rawInt 0, .none, .none] })
      (s.heap.objs.size + 1) s.heap.objs.size 0 .none := hz ▸ Heap.get?_push_size (s.heap.push { cls := .type "tuple_iterator", data := .fields #[.ref l, .int 0 0] }) rfl
  exact ⟨⟨_, he, rfl⟩, h _ he ⟨_, Heap.get?_push_of_some _ (Heap.get?_push_size _ rfl), rfl, rfl⟩ fun b o x => Heap.get?_push_of_some _ (Heap.get?_push_of_some _ x)⟩
end
def IteT (K : PySem.W.Frag) (a : Addr) : It where
  go := fun i H => ∃ (xs : List V) (x : V), SqT K H a xs ∧ xs[i]? = some x
  yld := fun i H v H' => ∃ T x, v = .ref T ∧ H T = none ∧ H' = upd H T (.tup [.int (i : Nat), x]) ∧ ∀ xs, SqT K H a xs → xs[i]? = some x
  stop := fun i H => ∃ xs : List V, SqT K H a xs ∧ xs.length ≤ i
theorem apart_of {h : Heap} {a b : Addr} {o u : Obj} (ha : h.get? a = some o) (hb : h.get? b = some u) (hc : o.cls ≠ u.cls) : a ≠ b := fun e => by
  subst e
  rw [ha] at hb
  exact hc (congrArg Obj.cls (Option.some.inj hb))
theorem turn_enumT {P : Program} {w : World} {K : PySem.W.Frag} {elts : List Expr} {kk : Nat} {tpos : Pos} (a e it : Addr) :
    Turn P w K (.Tuple elts kk tpos) (IteT K a) [e, it] e (fun i h => (∃ old, IsEnum h e it ((i : Nat) : Int) old) ∧ h.IsTupleIter it a i ∧ e ≠ it) where
  mem := by simp
  obj := fun i h st b hb => by
    obtain ⟨⟨old, he⟩, ⟨o, ho, hc, hd⟩, _⟩ := st
    rcases (show b = e ∨ b = it by simpa using hb) with z | z
    · subst z; exact ⟨_, he, fun v q => nomatch q⟩
    · subst z; exact ⟨o, ho, fun v q => by rw [hd] at q; cases q⟩
  keep := fun i h h' st k => let ⟨⟨old, he⟩, hi, hne⟩ := st; ⟨⟨old, k e (by simp) _ he⟩, hi.at fun o q => k it (by simp) o q, hne⟩
  item := by
    intro X hP hw hK hc i pins s σ H E I hf st hg
    subst hP hw hK
    obtain ⟨⟨old, he⟩, hit, hne⟩ := st
    obtain ⟨xs, x, hq, hx⟩ := hg
    obtain ⟨its, rv, p, hz⟩ := I.tuple hq
    obtain ⟨u, hu, ru⟩ := rv.get hx
    have hT : s.heap.IsTuple a its.toArray := p
    obtain ⟨oi, hoi, hci, _⟩ := id hit
    obtain ⟨oa, hoa, hca, _⟩ := id hT
    have hel : e < s.heap.objs.size := Heap.lt_size he
    have hil : it < s.heap.objs.size := Heap.lt_size hoi
    have nai : a ≠ it := apart_of hoa hoi (by rw [hca, hci]; decide)
    have nea : e ≠ a := apart_of he hoa (by rw [hca]; show Value.type "enumerate" ≠ Value.type "tuple"; decide)
    have hi : i < its.toArray.size := by
      have := (List.getElem?_eq_some_iff.mp hu).1
      simpa using this
    refine wpAny_pyNext_enum_itemD (Draws.tuple (prog := X.prog) (w := X.w) (A := X.A.in1) (I.ok.hd hc) it a nai its.toArray) he ⟨hit, hT⟩ hi hne (by simp [hne, nea]) fun y h' tk hy ho hst hTp hsz hk => ?_
    obtain rfl : u = y := by
      have q : its.toArray[i]? = some u := by simpa using hu
      exact Option.some.inj (q.symm.trans hy)
    refine ⟨_, rfl, wpAny_letOwnedTupleGo_enum (s := { s with heap := h', toks := tk + 1 }) ho fun h'' he' sb => ?_⟩
    have hT2 : h''.get? s.heap.objs.size = some { cls := .type "tuple", data := .seq #[.int i tk, u] } := (sb.2 _ (Nat.ne_of_gt hel)).trans hTp
    have new : ObjOk X.prog X.w (upd H s.heap.objs.size (.tup [.int (i : Nat), x])) h'' s.heap.objs.size (.tup [.int (i : Nat), x]) :=
      ⟨by show 2 ≤ sizeLine; decide, [.int i tk, u], .cons ⟨_, rfl⟩ (.cons ru .nil), ⟨_, hT2, rfl, _, rfl⟩⟩
    have I1 : L2.Inv X pins σ (upd H s.heap.objs.size (.tup [.int (i : Nat), x])) { s with heap := h'', toks := tk + 1 } :=
      I.turnedNew (ch := [e, it]) (fun b ob hb q => by
        simp only [List.mem_cons, List.not_mem_nil, or_false, not_or] at hb
        exact (sb.2 b hb.1).trans (hk b ob hb.1 hb.2 q)) hf (Nat.le_refl _) new
    have e1 : ((i + 1 : Nat) : Int) = (i : Int) + 1 := by omega
    refine ⟨.ref s.heap.objs.size, _, I1, rfl, ⟨_, x, rfl, I.hok.fresh (Nat.le_refl _), rfl, fun ys hy => by rw [I.tuple_inj hy hq]; exact hx⟩,
      ⟨⟨u, by rw [e1]; exact he'⟩, hst.1.at fun o q => (sb.2 it (Ne.symm hne)).trans q, hne⟩, fun b hb => ?_⟩
    have hb' : b < s.heap.objs.size := by
      rcases (show b = e ∨ b = it by simpa using hb) with z | z <;> subst z <;> assumption
    rw [upd_ne (Nat.ne_of_lt hb')]
    exact (hf b hb).1
  done := by
    intro X hP hw hK hc i pins s σ H E I hf st hg
    subst hP hw hK
    obtain ⟨⟨old, he⟩, hit, hne⟩ := st
    obtain ⟨xs, hq, hx⟩ := hg
    obtain ⟨its, rv, p, hz⟩ := I.tuple hq
    obtain ⟨f0, f1, f2, f3, f4, f5⟩ := hf it (by simp)
    have hT : s.heap.IsTuple a its.toArray := p
    have hl : xs.length = its.length := rv.length
    have hT2 : ¬ (i < its.toArray.size) := by simp; omega
    show wpAny _ _ (pyNext (.ref e)) _ _ s
    have hTy : s.TypeIs (.ref e) "enumerate" := ⟨_, he, rfl⟩
    unfold pyNext
    refine wpAny_bind (wpAny_attempt (wpAny_callSpecial?_slot (name := Str.ofString "__next__") hTy F.slot_enumerate_next (wpAny_call_entry F.slot_enumerate_next hTy F.entry_enumerate_next ?_ (F.args_enumerate_next_1 _))))
    show wpAny _ _ (field (.ref e) 2 >>= _) _ _ _
    refine wpAny_bind (wpAny_field he rfl (x := .ref it) rfl (wpAny_bind (wpAny_nextOf_tuple_end (I.ok.hd hc) hit hT (Array.getElem?_eq_none (by omega)) fun h' x he' hx' => ?_)))
    obtain ⟨o, ho, hcc⟩ := hx'
    exact wpAny_bind (wpAny_isInstance (T := "StopIteration") (b := true) ⟨o, ho, hcc⟩ isSubtype_stop (wpAny_pure ⟨rfl, I.turned (t' := s.toks) (fun b o hb q => he' b o hb q) f0 f1 f3 f4 f5⟩))
  self := fun A i s Q E st h => let ⟨⟨_, he⟩, _⟩ := st; wpAny_pyIter_enum he h
def iEnumT (K : PySem.W.Frag) (ta : TA) : TI := fun σ H R => ta σ H fun vs H1 => ∃ a xs, vs = [.ref a] ∧ SqT K H1 a xs ∧ R (IteT K a) H1
theorem pi_enumT {X : Cx} {e : Expr} {ta : TA} {p pos tpos : Pos} {elts : List Expr} {kk : Nat} (hg : Gl X "enumerate") (hm : X.mg "enumerate" = none) (ha : PA X [e] ta) (hs : starEach [e] X.env = [(false, eval e X.env)] := by rfl) :
    PI X (.Tuple elts kk tpos) (.Call (.Name "enumerate" p) [e] [] pos) (iEnumT X.K ta) := by
  refine ⟨fun pins s σ H R I h => ?_⟩
  refine Call_ (ld_blt I hg hm boot_enumerate (PyProof.Rows.callWith_type1 (thn (ha.run pos pins s σ H _ I h) fun us s1 ⟨vs, H1, I1, r1, q1⟩ => ?_) hs rfl))
  obtain ⟨a, xs, rfl, hq, q⟩ := q1
  obtain ⟨u, rfl, ru⟩ := vals1 r1
  obtain rfl : u = Value.ref a := ru
  obtain ⟨its, rv, p', hz⟩ := I1.tuple hq
  refine make_enumT (show s1.heap.IsTuple a its.toArray from p') fun h' he hit hk => wpAny_pyIter_enum he ?_
  refine ⟨s1.heap.objs.size + 1, [s1.heap.objs.size + 1, s1.heap.objs.size], _, _, H1, rfl, I1.kept (t' := s1.toks) hk, turn_enumT a (s1.heap.objs.size + 1) s1.heap.objs.size, ⟨⟨.none, he⟩, hit, Nat.succ_ne_self _⟩, fun b hb => ?_, q⟩
  have hle : s1.heap.objs.size ≤ b := by
    rcases (show b = s1.heap.objs.size + 1 ∨ b = s1.heap.objs.size by simpa using hb) with z | z <;> rw [z]
    · exact Nat.le_add_right _ _
    · exact Nat.le_refl _
  exact I1.fpOk hle (I1.hok.fresh hle)
theorem walk_enumT {K : PySem.W.Frag} {a : Addr} {xs : List V} : Walk (IteT K a) xs.length (fun H => SqT K H a xs) (YPair (fun i => some (.int (i : Nat))) (fun i => xs[i]?)) := by
  refine ⟨fun i _ hi q => ⟨xs, xs[i], q, by simp [hi]⟩, fun _ q => ⟨xs, q, Nat.le_refl _⟩, ?_⟩
  rintro i H v H' _ q ⟨T, x, h1, h2, h3, h4⟩
  exact ⟨T, .int (i : Nat), x, h1, h2, h3, rfl, h4 xs q⟩
end Wl

namespace Wl
open PySem

/-! ### strictly rising lists -/
theorem rising_ext {α : Type} {lt : α → α → Prop} (ir : ∀ a, ¬ lt a a) (tr : ∀ a b c, lt a b → lt b c → lt a c) :
    ∀ {l m : List α}, l.Pairwise lt → m.Pairwise lt → (∀ x, x ∈ l ↔ x ∈ m) → l = m
  | [], [], _, _, _ => rfl
  | [], y :: m, _, _, h => absurd ((h y).mpr List.mem_cons_self) (by simp)
  | x :: l, [], _, _, h => absurd ((h x).mp List.mem_cons_self) (by simp)
  | x :: l, y :: m, hl, hm, h => by
    obtain ⟨hx, hl'⟩ := List.pairwise_cons.mp hl
    obtain ⟨hy, hm'⟩ := List.pairwise_cons.mp hm
    have e : x = y := by
      rcases List.mem_cons.mp ((h x).mp List.mem_cons_self) with e | h1
      · exact e
      · rcases List.mem_cons.mp ((h y).mpr List.mem_cons_self) with e | h2
        · exact e.symm
        · exact absurd (tr _ _ _ (hx y h2) (hy x h1)) (ir x)
    subst e
    have : l = m := rising_ext ir tr hl' hm' fun z => by
      constructor
      · intro hz
        rcases List.mem_cons.mp ((h z).mp (List.mem_cons_of_mem _ hz)) with e | q
        · exact absurd (hx z hz) (by rw [e]; exact ir x)
        · exact q
      · intro hz
        rcases List.mem_cons.mp ((h z).mpr (List.mem_cons_of_mem _ hz)) with e | q
        · exact absurd (hy z hz) (by rw [e]; exact ir x)
        · exact q
    rw [this]

/-! ### texts by their codes -/
theorem str_ext {a b : Str} (h : a.cps.toList = b.cps.toList) : a = b := by
  cases a; cases b
  exact congrArg Str.mk (Array.ext' h)
abbrev ltS (a b : Str) : Prop := a.cps.toList < b.cps.toList
theorem ltS_irr (a : Str) : ¬ ltS a a := List.lt_irrefl _
theorem ltS_tr (a b c : Str) (h : ltS a b) (k : ltS b c) : ltS a c := List.lt_trans h k
theorem ltS_tot {a b : Str} (h : ¬ ltS a b) (k : ¬ ltS b a) : a = b :=
  str_ext (List.le_antisymm (List.not_lt.mp k) (List.not_lt.mp h))
def leB (a b : Str) : Bool := !decide (ltS b a)
theorem leB_trans (a b c : Str) (h : leB a b = true) (k : leB b c = true) : leB a c = true := by
  simp only [leB, Bool.not_eq_true', decide_eq_false_iff_not] at h k ⊢
  exact fun q => by
    by_cases e : ltS a b
    · exact k (ltS_tr _ _ _ q e)
    · have := ltS_tot e h
      subst this
      exact k q
theorem leB_total (a b : Str) : (leB a b || leB b a) = true := by
  simp only [leB, Bool.or_eq_true, Bool.not_eq_true', decide_eq_false_iff_not]
  by_cases h : ltS b a
  · exact .inr fun q => ltS_irr _ (ltS_tr _ _ _ h q)
  · exact .inl h
def sortS (xs : List Str) : List Str := xs.mergeSort leB
theorem mem_sortS {xs : List Str} {z : Str} : z ∈ sortS xs ↔ z ∈ xs := List.mem_mergeSort
theorem sortS_len (xs : List Str) : (sortS xs).length = xs.length := List.length_mergeSort _
theorem sortS_rising {xs : List Str} (h : xs.Nodup) : (sortS xs).Pairwise ltS := by
  have h1 : (sortS xs).Pairwise (fun a b => leB a b = true) := List.pairwise_mergeSort leB_trans leB_total xs
  have h2 : (sortS xs).Pairwise (· ≠ ·) := (List.mergeSort_perm xs leB).nodup_iff.mpr h
  refine List.Pairwise.imp₂ ?_ h1 h2
  intro a b q n
  simp only [leB, Bool.not_eq_true', decide_eq_false_iff_not] at q
  exact Classical.byContradiction fun c => n (ltS_tot c q)
/-- what is strictly rising with the same members is the sorted list -/
theorem sortS_eq {xs l : List Str} (h : xs.Nodup) (hl : l.Pairwise ltS) (hm : ∀ z, z ∈ l ↔ z ∈ xs) : l = sortS xs :=
  rising_ext ltS_irr ltS_tr hl (sortS_rising h) fun z => (hm z).trans mem_sortS.symm

/-! ### pairs of texts -/
abbrev Two := Str × Str
def ltP (p q : Two) : Prop := ltS p.1 q.1 ∨ (p.1 = q.1 ∧ ltS p.2 q.2)
instance (p q : Two) : Decidable (ltP p q) := by unfold ltP; infer_instance
theorem ltP_irr (p : Two) : ¬ ltP p p := by
  rintro (h | ⟨_, h⟩) <;> exact ltS_irr _ h
theorem ltP_tr (p q r : Two) (h : ltP p q) (k : ltP q r) : ltP p r := by
  obtain ⟨p1, p2⟩ := p
  obtain ⟨q1, q2⟩ := q
  obtain ⟨r1, r2⟩ := r
  rcases h with h | ⟨e, h⟩ <;> rcases k with k | ⟨f, k⟩
  · exact .inl (ltS_tr _ _ _ h k)
  · simp only at f; subst f; exact .inl h
  · simp only at e; subst e; exact .inl k
  · simp only at e f; subst e f; exact .inr ⟨rfl, ltS_tr _ _ _ h k⟩
theorem ltP_tot {p q : Two} (h : ¬ ltP p q) (k : ¬ ltP q p) : p = q := by
  obtain ⟨p1, p2⟩ := p
  obtain ⟨q1, q2⟩ := q
  simp only [ltP, not_or, not_and] at h k
  have e : p1 = q1 := ltS_tot h.1 k.1
  subst e
  rw [ltS_tot (h.2 rfl) (k.2 rfl)]
def lePB (a b : Two) : Bool := !decide (ltP b a)
theorem lePB_trans (a b c : Two) (h : lePB a b = true) (k : lePB b c = true) : lePB a c = true := by
  simp only [lePB, Bool.not_eq_true', decide_eq_false_iff_not] at h k ⊢
  exact fun q => by
    by_cases e : ltP a b
    · exact k (ltP_tr _ _ _ q e)
    · have := ltP_tot e h
      subst this
      exact k q
theorem lePB_total (a b : Two) : (lePB a b || lePB b a) = true := by
  simp only [lePB, Bool.or_eq_true, Bool.not_eq_true', decide_eq_false_iff_not]
  by_cases h : ltP b a
  · exact .inr fun q => ltP_irr _ (ltP_tr _ _ _ h q)
  · exact .inl h
def sortP (xs : List Two) : List Two := xs.mergeSort lePB
theorem mem_sortP {xs : List Two} {z : Two} : z ∈ sortP xs ↔ z ∈ xs := List.mem_mergeSort
theorem sortP_len (xs : List Two) : (sortP xs).length = xs.length := List.length_mergeSort _
theorem sortP_rising {xs : List Two} (h : xs.Nodup) : (sortP xs).Pairwise ltP := by
  have h1 : (sortP xs).Pairwise (fun a b => lePB a b = true) := List.pairwise_mergeSort lePB_trans lePB_total xs
  have h2 : (sortP xs).Pairwise (· ≠ ·) := (List.mergeSort_perm xs lePB).nodup_iff.mpr h
  refine List.Pairwise.imp₂ ?_ h1 h2
  intro a b q n
  simp only [lePB, Bool.not_eq_true', decide_eq_false_iff_not] at q
  exact Classical.byContradiction fun c => n (ltP_tot c q)
theorem sortP_eq {xs l : List Two} (h : xs.Nodup) (hl : l.Pairwise ltP) (hm : ∀ z, z ∈ l ↔ z ∈ xs) : l = sortP xs :=
  rising_ext ltP_irr ltP_tr hl (sortP_rising h) fun z => (hm z).trans mem_sortP.symm

/-! ### the machine's order is ours -/
theorem le_data_str (a b : Str) : (!PySem.W.dataLt (.str b) (.str a)) = leB a b := by
  rw [PySem.W.dataLt_str]
  rfl
theorem le_data_two (a b : Two) : (!PySem.W.dataLt (.tuple [.str b.1, .str b.2]) (.tuple [.str a.1, .str a.2])) = lePB a b := by
  rw [PySem.W.dataLt_pair rfl rfl, PySem.W.dataLt_str, PySem.W.dataLt_str]
  unfold lePB
  congr 1
  have q : ∀ x y : Str, (PyData.eqv (.str x) (.str y) = true) = (x = y) := fun x y => by simp [PyData.eqv]
  simp only [q]
  by_cases h : b.1 = a.1
  · by_cases k : b.2 = a.2
    · have e : b = a := Prod.ext h k
      subst e
      simp [ltP_irr]
    · simp only [h, k, if_true, if_false, ltP]
      by_cases z : ltS b.2 a.2
      · simp [z]
      · simp [z, ltS_irr]
  · simp only [h, if_false, ltP]
    by_cases z : ltS b.1 a.1 <;> simp [z, h]
end Wl

namespace Wl
open PySem PySem.Spec PyProof.Rows L2

/-! ### defs that keep promises, by name -/
def Has (P : Program) (w : World) (K : PySem.W.Frag) (mg : Str → Option Value) (base : Heap) (x : Str) (k : Nat) (ps : List Str) (sp : Sp) : Prop :=
  ∃ f fd, FnOk P w K mg base CX0 k f fd ps sp ∧ mg x = some (.ref f) ∧ PySem.W.keepIn K (.ref f) = true ∧ Binds K fd ps []
def HasM (P : Program) (w : World) (K : PySem.W.Frag) (mg : Str → Option Value) (base : Heap) (C : Addr) (m : Str) (k : Nat) (ps : List Str) (sp : Sp) : Prop :=
  ∃ f fd, FnOk P w K mg base CX0 k f fd ps sp ∧ Meth K C m f ∧ Binds K fd ps []
section
variable {X : Cx} {k j : Nat} {C : Addr} {ps ks : List Str} {sp : Sp} {x m : Str} {p pos apos : Pos} {e o : Expr} {es : List Expr} {kws : List Keyword} {ta : TE} {t tk : TA}
theorem pe_h (h : Has X.prog X.w X.K X.mg X.base x k ps sp) (hr : Room j X.A) (ha : PA X (e :: es) t) (hkj : k ≤ j := by decide) (hg : Gl X x := by rfl) (hdb : (x == ("__debug__" : Str)) = false := by decide)
    (he : starEach (e :: es) X.env = (false, eval e X.env) :: starEach es X.env := by rfl) (hpl : (backTo pos (starEach es X.env)).any (·.1) = false := by rfl) :
    PE X (.Call (.Name x p) (e :: es) [] pos) (tCall sp [] E0 t) := by
  obtain ⟨f, fd, F, g, kp, b⟩ := h
  exact pe_call F (hr.mono hkj) hg g kp b .nil pass0 ha hdb he hpl
theorem pe_h0 (h : Has X.prog X.w X.K X.mg X.base x k ps sp) (hr : Room j X.A) (hkj : k ≤ j := by decide) (hg : Gl X x := by rfl) (hdb : (x == ("__debug__" : Str)) = false := by decide) :
    PE X (.Call (.Name x p) [] [] pos) (tCall sp [] E0 tNil) := by
  obtain ⟨f, fd, F, g, kp, b⟩ := h
  exact pe_call0 F (hr.mono hkj) hg g kp b .nil pass0 hdb
theorem pe_hm {pl : Sem Bool} (h : HasM X.prog X.w X.K X.mg X.base C m k ps sp) (c : Cls X.K C) (hr : Room j X.A) (ho : PE X o ta) (ha : PA X (e :: es) t) (hkj : k ≤ j := by decide)
    (hst : starEach (e :: es) X.env = (false, eval e X.env) :: starEach es X.env := by rfl) (hpl : (backTo pos (starEach es X.env)).any (·.1) = false := by rfl)
    (ht : eval (.Call (.Attribute o m apos) (e :: es) [] pos) X.env = (do
      let ov ← eval o X.env
      standAt apos.atName
      let (f, first) ← holding [ov] (getMethod ov m pl)
      callWith pos f first (backTo pos (starEach (e :: es) X.env)) (backToKw pos (keywordEach [] X.env))) := by rfl) :
    PE X (.Call (.Attribute o m apos) (e :: es) [] pos) (tMeth C m sp [] E0 ta t) := by
  obtain ⟨f, fd, F, g, b⟩ := h
  exact pe_meth ho c g F (hr.mono hkj) b .nil pass0 ha hst hpl ht
theorem pe_hm0 {pl : Sem Bool} (h : HasM X.prog X.w X.K X.mg X.base C m k ps sp) (c : Cls X.K C) (hr : Room j X.A) (ho : PE X o ta) (hkj : k ≤ j := by decide)
    (ht : eval (.Call (.Attribute o m apos) [] [] pos) X.env = (do
      let ov ← eval o X.env
      standAt apos.atName
      let (f, first) ← holding [ov] (getMethod ov m pl)
      callWith pos f first (backTo pos (starEach [] X.env)) (backToKw pos (keywordEach [] X.env))) := by rfl) :
    PE X (.Call (.Attribute o m apos) [] [] pos) (tMeth C m sp [] E0 ta tNil) := by
  obtain ⟨f, fd, F, g, b⟩ := h
  exact pe_meth0 ho c g F (hr.mono hkj) b .nil pass0 ht
end

/-! ### heaps -/
theorem same_new {H : Hp} {p : Addr} {o : HO} (h : H p = none) : Same H (upd H p o) := fun b x e => by
  rw [upd_ne (ne_of_none e h)]
  exact e
theorem same_mut {H H' : Hp} {p : Addr} {o : HO} (s : Same H H') (h : H p = none) : Same H (upd H' p o) := fun b x e => by
  rw [upd_ne (ne_of_none e h)]
  exact s b x e
theorem tup_same {K : PySem.W.Frag} {H H' : Hp} {a : Addr} {xs : List V} (e : Same H H') (h : SqT K H a xs) : SqT K H' a xs := by
  rcases h with (h | ⟨o, h⟩) | h
  · exact .inl (.inl (e _ _ h))
  · exact .inl (.inr ⟨o, e _ _ h⟩)
  · exact .inr h
/-- all but what stands at a is as it was -/
def SameX (a : Addr) (H H' : Hp) : Prop := ∀ b o, b ≠ a → H b = some o → H' b = some o
theorem SameX.refl (a : Addr) (H : Hp) : SameX a H H := fun _ _ _ h => h
theorem SameX.trans {a : Addr} {H H1 H2 : Hp} (s : SameX a H H1) (t : SameX a H1 H2) : SameX a H H2 := fun b o n h => t b o n (s b o n h)
theorem sx {a : Addr} {H H' : Hp} (s : Same H H') : SameX a H H' := fun b o _ h => s b o h
theorem sameX_upd {a : Addr} {H : Hp} {o : HO} : SameX a H (upd H a o) := fun b u n h => by rw [upd_ne n]; exact h
/-- an object that H does not know may change -/
theorem sameX_mut {a : Addr} {H H' : Hp} {p : Addr} {o : HO} (s : SameX a H H') (h : H p = none) : SameX a H (upd H' p o) := fun b u n e => by
  rw [upd_ne (ne_of_none e h)]
  exact s b u n e
theorem SameX.free {a l : Addr} {H H' : Hp} (e : SameX a H H') (n : l ≠ a) (h : H' l = none) : H l = none := by
  cases q : H l with
  | none => rfl
  | some o =>
    rw [e l o n q] at h
    cases h
theorem SameX.tup {K : PySem.W.Frag} {a p : Addr} {H H' : Hp} {xs ys : List V} (e : SameX a H H') (ha : H a = some (.lst ys)) (h : SqT K H p xs) : SqT K H' p xs := by
  rcases h with (h | ⟨o, h⟩) | h
  · exact .inl (.inl (e _ _ (ne_of h ha (by intro z; cases z)) h))
  · exact .inl (.inr ⟨o, e _ _ (ne_of h ha (by intro z; cases z)) h⟩)
  · exact .inr h

/-! ### tests whose answer is known -/
theorem ite_b {b : Bool} {A B : Prop} (h1 : b = true → A) (h2 : b = false → B) : if b = true then A else B := by
  cases b with
  | true => exact iteT (h1 rfl)
  | false => exact iteF (h2 rfl)
theorem not_b {b : Bool} {A B : Prop} (h1 : b = false → A) (h2 : b = true → B) : if (!b) = true then A else B := by
  cases b with
  | true => exact iteF (h2 rfl)
  | false => exact iteT (h1 rfl)

theorem yes_it {σ : L2.St} {H : Hp} {A B : Hp → Prop} (h : A H) : tYes σ H (fun b H' => if b = true then A H' else B H') := by
  show if true = true then A H else B H
  rw [if_pos rfl]
  exact h
theorem lz {n : Nat} (h : Nat.ble n 1000 = true := by rfl) : n ≤ sizeLine := Nat.le_trans (Nat.le_of_ble_eq_true h) (by decide)
theorem lzl {n : Nat} (h : n ≤ 1000) : n ≤ sizeLine := Nat.le_trans h (by decide)

/-! ### words -/
def wdB (z : Str) : Bool := decide (1 ≤ z.length) && decide (z.length ≤ 8) && z.cps.toList.all fun c => decide (97 ≤ c) && decide (c ≤ 122)
def IsWd (z : Str) : Prop := wdB z = true
instance (z : Str) : Decidable (IsWd z) := inferInstanceAs (Decidable (wdB z = true))
def oV : Option Str → V
  | none => .non
  | some z => .str z

/-! ### the built-ins that the text leaves as they are -/
structure Bi (mg : Str → Option Value) : Prop where
  len : mg "len" = none
  range : mg "range" = none
  isi : mg "isinstance" = none
  tuple : mg "tuple" = none
  list : mg "list" = none
  sorted : mg "sorted" = none
  all : mg "all" = none
  int : mg "int" = none
  max : mg "max" = none
  min : mg "min" = none
  enum : mg "enumerate" = none
  str : mg "str" = none
end Wl
namespace Wl
open PySem PySem.Spec PyProof.Rows L2
theorem atI_tab {ns : List Int} {r : Int} (h0 : 0 ≤ r) (h : r < ns.length) : ∃ n ∈ ns, atI (ns.map V.int) r = some (.int n) := by
  have hr : r.toNat < ns.length := by omega
  refine ⟨ns[r.toNat], List.getElem_mem hr, at_of (j := r.toNat) (by omega) ?_⟩
  rw [List.getElem?_map, List.getElem?_eq_getElem hr]
  rfl
theorem atI_strs {zs : List Str} {r : Int} (h0 : 0 ≤ r) (h : r < zs.length) : ∃ z ∈ zs, atI (zs.map V.str) r = some (.str z) := by
  have hr : r.toNat < zs.length := by omega
  refine ⟨zs[r.toNat], List.getElem_mem hr, at_of (j := r.toNat) (by omega) ?_⟩
  rw [List.getElem?_map, List.getElem?_eq_getElem hr]
  rfl
theorem letters_eq : ("abcdefghijklmnopqrstuvwxyz" : Str).cps.toList = List.range' 97 26 := by decide +kernel
theorem letter_at {r : Int} (h0 : 0 ≤ r) (h : r < 26) : atI ("abcdefghijklmnopqrstuvwxyz" : Str).cps.toList r = some (97 + r.toNat) := by
  rw [letters_eq]
  refine at_of' (j := r.toNat) (by omega) ?_
  rw [List.getElem?_range' (by omega)]
  congr 1
  omega
where
  at_of' {xs : List Nat} {z : Int} {j : Nat} {v : Nat} (e : z = (j : Int)) (h : xs[j]? = some v) : atI xs z = some v := by
    rw [e]
    exact atI_nat h
def sign (c : Nat) : Str := ⟨#[c]⟩
theorem joinL_flat : ∀ ps : List (List Nat), TL.joinL [] ps = ps.flatten
  | [] => rfl
  | [p] => by simp [TL.joinL]
  | p :: q :: r => by
    show p ++ ([] ++ TL.joinL [] (q :: r)) = _
    rw [joinL_flat (q :: r)]
    simp
theorem join_codes (ys : List Str) : (Txt.join ("" : Str) ys).cps.toList = (ys.map fun y => y.cps.toList).flatten := by
  have h := TL.tl_join ("" : Str) ys
  rw [show TL.tl ("" : Str) = [] by decide +kernel, joinL_flat] at h
  rw [TL.join_eq]
  exact h
theorem join_signs (cs : List Nat) : (Txt.join ("" : Str) (cs.map sign)).cps.toList = cs := by
  rw [join_codes, List.map_map]
  induction cs with
  | nil => rfl
  | cons c r ih => exact congrArg (c :: ·) ih
theorem isWd_of {z : Str} (h1 : 1 ≤ z.cps.toList.length) (h8 : z.cps.toList.length ≤ 8) (hc : ∀ c ∈ z.cps.toList, 97 ≤ c ∧ c ≤ 122) : IsWd z := by
  unfold IsWd wdB Str.length
  rw [Array.length_toList] at h1 h8
  simp only [Bool.and_eq_true, decide_eq_true_eq, List.all_eq_true]
  exact ⟨⟨h1, h8⟩, hc⟩
theorem IsWd.len {z : Str} (h : IsWd z) : 1 ≤ z.length ∧ z.length ≤ 8 := by
  unfold IsWd wdB at h
  simp only [Bool.and_eq_true, decide_eq_true_eq] at h
  exact h.1
end Wl

namespace Wl
open PySem PySem.Spec PyProof.Rows L2

inductive Each {α β : Type} (R : α → β → Prop) : List α → List β → Prop
  | nil : Each R [] []
  | cons {a : α} {b : β} {as : List α} {bs : List β} : R a b → Each R as bs → Each R (a :: as) (b :: bs)
section
variable {α β : Type} {R S : α → β → Prop}
theorem Each.length : ∀ {as : List α} {bs : List β}, Each R as bs → as.length = bs.length
  | _, _, .nil => rfl
  | _, _, .cons _ t => congrArg (· + 1) t.length
theorem Each.mono (h : ∀ a b, R a b → S a b) : ∀ {as : List α} {bs : List β}, Each R as bs → Each S as bs
  | _, _, .nil => .nil
  | _, _, .cons r t => .cons (h _ _ r) (t.mono h)
theorem Each.append : ∀ {as : List α} {bs : List β} {cs : List α} {ds : List β}, Each R as bs → Each R cs ds → Each R (as ++ cs) (bs ++ ds)
  | _, _, _, _, .nil, s => s
  | _, _, _, _, .cons r t, s => .cons r (t.append s)
theorem Each.get : ∀ {as : List α} {bs : List β} {i : Nat} {a : α}, Each R as bs → as[i]? = some a → ∃ b, bs[i]? = some b ∧ R a b
  | _, _, _, _, .nil, e => by simp at e
  | _, _, 0, _, .cons r _, e => by simp at e; subst e; exact ⟨_, rfl, r⟩
  | _, _, i + 1, x, .cons _ t, e => by
    obtain ⟨u, h1, h2⟩ := t.get (i := i) (a := x) (by simpa using e)
    exact ⟨u, by simpa using h1, h2⟩
theorem Each.get2 : ∀ {as : List α} {bs : List β} {i : Nat} {b : β}, Each R as bs → bs[i]? = some b → ∃ a, as[i]? = some a ∧ R a b
  | _, _, _, _, .nil, e => by simp at e
  | _, _, 0, _, .cons r _, e => by simp at e; subst e; exact ⟨_, rfl, r⟩
  | _, _, i + 1, x, .cons _ t, e => by
    obtain ⟨u, h1, h2⟩ := t.get2 (i := i) (b := x) (by simpa using e)
    exact ⟨u, by simpa using h1, h2⟩
theorem Each.mem2 : ∀ {as : List α} {bs : List β} {b : β}, Each R as bs → b ∈ bs → ∃ a ∈ as, R a b
  | _, _, _, .nil, h => by simp at h
  | _, _, _, .cons r t, h => by
    rcases List.mem_cons.mp h with rfl | h
    · exact ⟨_, List.mem_cons_self, r⟩
    · obtain ⟨a, ha, hr⟩ := t.mem2 h
      exact ⟨a, List.mem_cons_of_mem _ ha, hr⟩
theorem each_fn {f : α → β} : ∀ {as : List α} {bs : List β}, Each (fun a b => b = f a) as bs → bs = as.map f
  | _, _, .nil => rfl
  | _, _, .cons r t => by rw [List.map_cons, ← each_fn t, r]
theorem each_map_l {γ : Type} {g : γ → α} : ∀ {cs : List γ} {bs : List β}, Each R (cs.map g) bs → Each (fun c b => R (g c) b) cs bs
  | [], [], _ => .nil
  | [], _ :: _, h => nomatch h
  | _ :: _, [], h => nomatch h
  | _ :: _, _ :: _, .cons r t => .cons r (each_map_l t)
theorem each_map_r {γ : Type} {g : γ → α} : ∀ {cs : List γ} {bs : List β}, Each (fun c b => R (g c) b) cs bs → Each R (cs.map g) bs
  | _, _, .nil => .nil
  | _, _, .cons r t => .cons r (each_map_r t)
end

theorem filter_take_snoc {α : Type} {p : α → Bool} {ys : List α} {i : Nat} {x : α} (h : ys[i]? = some x) : (ys.take (i + 1)).filter p = (ys.take i).filter p ++ (if p x then [x] else []) := by
  rw [List.take_add_one, h, List.filter_append]
  congr 1
  by_cases c : p x = true
  · simp [c]
  · simp [c]

section
variable {J : It} {ys : List V} {G : Hp → Prop} {slot : Nat} {tt : TT} {te : TE} {vs : List Nat} {σ : L2.St} {H1 : Hp} {D : Addr} {Qd : Hp → Prop}
/-- a comprehension [e for x in ys if t]: each e a value that R tells of, the heap only growing -/
theorem lc_rel (w : L2.Walk J ys.length G (YAt ys)) (hD : H1 D = none) (keep : V → Bool) (R : V → V → Hp → Prop)
    (hG : ∀ H, Same H1 H → G H)
    (hw : ∀ x, wipe ((wipe σ vs).set slot (some x)) vs = wipe σ vs)
    (ht : ∀ (x : V) (H : Hp), x ∈ ys → Same H1 H → ∀ Q : Bool → Hp → Prop, Q (keep x) H → tt ((wipe σ vs).set slot (some x)) H Q)
    (he : ∀ (x : V) (H : Hp), x ∈ ys → keep x = true → Same H1 H → ∀ Q : VK, (∀ y H', Same H H' → R x y H' → Q y H') → te ((wipe σ vs).set slot (some x)) H Q)
    (hR : ∀ x y H H' acc, H D = some (.lst acc) → SameX D H H' → R x y H → R x y H')
    (hn : ys.length < sizeLine)
    (hd : ∀ zs H, Same H1 H → H D = some (.lst zs) → Each (fun x z => R x z H) (ys.filter keep) zs → Qd H) :
    ∃ W : Nat → Nat → Hp → Prop, (∃ m, W 0 m (upd H1 D (.lst []))) ∧ ∀ i m H, W i m H →
      (J.stop i H ∧ Qd H) ∨ (J.go i H ∧ ∃ Nx : Hp → Prop, (∀ H', Nx H' → ∃ m', m' < m ∧ W (i + 1) m' H') ∧ ∀ x H', J.yld i H x H' → gName slot x (wipe σ vs) H' fun σ2 H2 => wipe σ2 vs = wipe σ vs ∧ tt σ2 H2 fun b H3 =>
        if b = true then te σ2 H3 fun y H4 => ∃ acc, H4 D = some (.lst acc) ∧ acc.length < sizeLine ∧ Nx (upd H4 D (.lst (acc ++ [y]))) else Nx H3) := by
  refine lc_it w (fun i H => ∃ zs, Same H1 H ∧ H D = some (.lst zs) ∧ Each (fun x z => R x z H) ((ys.take i).filter keep) zs) ⟨[], same_new hD, upd_same, by simpa using Each.nil⟩ (fun i H _ h => ?_) ?_ ?_
  · obtain ⟨zs, s, _⟩ := h
    exact hG H s
  · rintro i x H H' hi ⟨zs, s, hz, ez⟩ ⟨rfl, hx⟩
    have hm : x ∈ ys := List.mem_of_getElem? hx
    refine ⟨hw x, ht x _ hm s _ ?_⟩
    have hf := filter_take_snoc (p := keep) hx
    refine ite_b (fun e => ?_) (fun e => ?_)
    · refine he x _ hm e s _ fun y H4 s4 r4 => ⟨zs, s4 _ _ hz, ?_, zs ++ [y], same_mut (s.trans s4) hD, upd_same, ?_⟩
      · have h1 := ez.length
        have h2 : ((ys.take i).filter keep).length ≤ (ys.take i).length := List.length_filter_le _ _
        have h3 : (ys.take i).length ≤ ys.length := List.length_take_le' _ _
        omega
      · rw [hf, if_pos e]
        have hD4 : H4 D = some (.lst zs) := s4 _ _ hz
        refine Each.append (ez.mono fun a b r => ?_) (.cons ?_ .nil)
        · exact hR _ _ _ _ _ hz (fun b o n h => by rw [upd_ne n]; exact s4 _ _ h) r
        · exact hR _ _ _ _ _ hD4 sameX_upd r4
    · refine ⟨zs, s, hz, ?_⟩
      rw [hf, if_neg (by rw [e]; decide), List.append_nil]
      exact ez
  · rintro H ⟨zs, s, hz, ez⟩
    rw [List.take_length] at ez
    exact hd zs H s hz ez
/-- the same, each e a plain value, the heap as it was -/
theorem lc_map (w : L2.Walk J ys.length G (YAt ys)) (hD : H1 D = none) (keep : V → Bool) (f : V → V)
    (hG : ∀ H, Same H1 H → G H)
    (hw : ∀ x, wipe ((wipe σ vs).set slot (some x)) vs = wipe σ vs)
    (ht : ∀ (x : V) (H : Hp), x ∈ ys → Same H1 H → ∀ Q : Bool → Hp → Prop, Q (keep x) H → tt ((wipe σ vs).set slot (some x)) H Q)
    (he : ∀ (x : V) (H : Hp), x ∈ ys → keep x = true → Same H1 H → ∀ Q : VK, Q (f x) H → te ((wipe σ vs).set slot (some x)) H Q)
    (hn : ys.length < sizeLine)
    (hd : ∀ H, Same H1 H → H D = some (.lst ((ys.filter keep).map f)) → Qd H) :
    ∃ W : Nat → Nat → Hp → Prop, (∃ m, W 0 m (upd H1 D (.lst []))) ∧ ∀ i m H, W i m H →
      (J.stop i H ∧ Qd H) ∨ (J.go i H ∧ ∃ Nx : Hp → Prop, (∀ H', Nx H' → ∃ m', m' < m ∧ W (i + 1) m' H') ∧ ∀ x H', J.yld i H x H' → gName slot x (wipe σ vs) H' fun σ2 H2 => wipe σ2 vs = wipe σ vs ∧ tt σ2 H2 fun b H3 =>
        if b = true then te σ2 H3 fun y H4 => ∃ acc, H4 D = some (.lst acc) ∧ acc.length < sizeLine ∧ Nx (upd H4 D (.lst (acc ++ [y]))) else Nx H3) :=
  lc_rel w hD keep (fun x y _ => y = f x) hG hw ht (fun x H hx hk s Q q => he x H hx hk s Q (q _ H (Same.refl H) rfl)) (fun _ _ _ _ _ _ _ r => r) hn fun zs H s hz ez => hd H s (by rw [hz, each_fn ez])
end
/-- a text's signs as a list -/
def signsOf (z : Str) : List V := z.cps.toList.map fun c => .str (sign c)
theorem walk_signs {z : Str} : L2.Walk (Its z) (signsOf z).length (fun _ => True) (YAt (signsOf z)) := by
  have e : (signsOf z).length = z.cps.size := by simp [signsOf]
  rw [e]
  refine ⟨fun _ _ hi _ => hi, fun _ _ => Nat.le_refl _, ?_⟩
  rintro i H x H' _ _ ⟨rfl, c, hc, rfl⟩
  refine ⟨rfl, ?_⟩
  have : z.cps.toList[i]? = some c := by simpa using hc
  simp only [signsOf, List.getElem?_map, this]
  rfl
theorem yes_pure {σ : L2.St} {H : Hp} {Q : Bool → Hp → Prop} (h : Q true H) : tYes σ H Q := h
theorem inV_strs (z : Str) (ws : List Str) : inV (.str z) (ws.map V.str) = decide (z ∈ ws) := by
  unfold inV
  induction ws with
  | nil => rfl
  | cons x r ih =>
    rw [List.map_cons, List.any_cons, ih]
    by_cases h : x = z
    · subst h
      simp [eqV]
    · have h2 : ¬ z = x := fun e => h e.symm
      simp [eqV, h, h2]
theorem flat_strs (ws : List Str) : (ws.map V.str).all flatV = true := by
  rw [List.all_eq_true]
  intro v hv
  obtain ⟨x, _, rfl⟩ := List.mem_map.mp hv
  rfl
theorem dp_strs {K : PySem.W.Frag} {H : Hp} : ∀ ws : List Str, DpAll K H (ws.map V.str) (ws.map PyData.str)
  | [] => .nil
  | z :: r => .cons (.str z) (dp_strs r)
theorem wd_ok {z : Str} (h : IsWd z) : PyData.strOk z = true := by
  unfold PyData.strOk
  rw [← Array.all_toList, List.all_eq_true]
  intro c hc
  unfold IsWd wdB at h
  simp only [Bool.and_eq_true, decide_eq_true_eq, List.all_eq_true] at h
  have := h.2 c hc
  exact decide_eq_true (by omega)
theorem lay_strs : ∀ {ws : List Str}, (∀ z ∈ ws, IsWd z) → PyData.canLayAll0 (ws.map PyData.str) = true
  | [], _ => by simp [PyData.canLayAll0]
  | z :: r, h => by
    have h1 := wd_ok (h z List.mem_cons_self)
    have h2 := lay_strs (ws := r) fun y hy => h y (List.mem_cons_of_mem _ hy)
    simp [PyData.canLayAll0, PyData.canLay0, h1, h2]
theorem depth_strs : ∀ ws : List Str, PyData.depthAll (ws.map PyData.str) = 0
  | [] => by simp [PyData.depthAll]
  | z :: r => by simp [PyData.depthAll, PyData.depth, depth_strs r]
theorem shaped_list {ds : List PyData} (h : PyData.canLayAll0 ds = true) (d : PyData.depthAll ds ≤ 60) : SeqAt.shaped (.list ds) = true := by
  unfold SeqAt.shaped
  rw [Bool.and_eq_true]
  refine ⟨by simpa [PyData.canLay0] using h, decide_eq_true ?_⟩
  simp only [PyData.depth]
  omega
theorem shaped_tuple {ds : List PyData} (h : PyData.canLayAll0 ds = true) (d : PyData.depthAll ds ≤ 60) : SeqAt.shaped (.tuple ds) = true := by
  unfold SeqAt.shaped
  rw [Bool.and_eq_true]
  refine ⟨by simpa [PyData.canLay0] using h, decide_eq_true ?_⟩
  simp only [PyData.depth]
  omega
theorem cut_hi (z : Str) (k : Nat) : (cutS z none (some (k : Int))).cps.toList = z.cps.toList.take k := by
  show ((z.cps.toList.drop (HT.sIx z.length 0 none)).take (HT.sIx z.length z.length (some (k : Int)) - HT.sIx z.length 0 none)) = _
  rw [HT.sIx_none, HT.sIx_nat, Nat.sub_zero, List.drop_zero]
  have : z.length = z.cps.toList.length := by simp [Str.length]
  rw [this]
  by_cases h : k ≤ z.cps.toList.length
  · rw [Nat.min_eq_left h]
  · rw [Nat.min_eq_right (by omega), List.take_length, List.take_of_length_le (by omega)]
end Wl

namespace Wl
open PySem PySem.Spec PyProof.Rows L2
inductive Wh where
  | first | last | any
  deriving DecidableEq
def whS : Wh → Str
  | .first => "first"
  | .last => "last"
  | .any => "any"
abbrev Chg := Nat × Nat × Wh
def isLet (c : Nat) : Prop := 97 ≤ c ∧ c ≤ 122
instance (c : Nat) : Decidable (isLet c) := by unfold isLet; infer_instance
def OkC (ch : Chg) : Prop := isLet ch.1 ∧ isLet ch.2.1 ∧ ch.1 ≠ ch.2.1
def acts (wh : Wh) (i n : Nat) : Bool := match wh with
  | .first => decide (i = 0)
  | .last => decide (i + 1 = n)
  | .any => true
abbrev Edges := List (Nat × Nat)
def es (chs : List Chg) (i n : Nat) : Edges := (chs.filter fun ch => acts ch.2.2 i n).map fun ch => (ch.1, ch.2.1)
def nbE (c : Nat) (e : Nat × Nat) : List Nat := (if e.1 = c then [e.2] else []) ++ (if e.2 = c then [e.1] else [])
def nbrs (E : Edges) (c : Nat) : List Nat := E.flatMap (nbE c)
theorem mem_nbrs {E : Edges} {c d : Nat} : d ∈ nbrs E c ↔ (c, d) ∈ E ∨ (d, c) ∈ E := by
  unfold nbrs nbE
  rw [List.mem_flatMap]
  constructor
  · rintro ⟨⟨x, y⟩, he, h⟩
    rcases List.mem_append.mp h with k | k
    · by_cases q : x = c
      · rw [if_pos q, List.mem_singleton] at k
        rw [k, ← q]
        exact .inl he
      · rw [if_neg q] at k
        cases k
    · by_cases q : y = c
      · rw [if_pos q, List.mem_singleton] at k
        rw [k, ← q]
        exact .inr he
      · rw [if_neg q] at k
        cases k
  · rintro (h | h)
    · exact ⟨(c, d), h, List.mem_append_left _ (by simp)⟩
    · exact ⟨(d, c), h, List.mem_append_right _ (by simp)⟩
theorem nbrs_symm {E : Edges} {c d : Nat} (h : d ∈ nbrs E c) : c ∈ nbrs E d := mem_nbrs.mpr ((mem_nbrs.mp h).symm)
theorem nbrs_snoc (E : Edges) (x y c : Nat) : nbrs (E ++ [(x, y)]) c = nbrs E c ++ ((if x = c then [y] else []) ++ (if y = c then [x] else [])) := by
  unfold nbrs
  rw [List.flatMap_append]
  simp [nbE]
inductive Conn (E : Edges) : Nat → Nat → Prop
  | refl (a : Nat) : Conn E a a
  | step {a b c : Nat} : Conn E a b → c ∈ nbrs E b → Conn E a c
theorem Conn.trans {E : Edges} {a b c : Nat} (h : Conn E a b) (k : Conn E b c) : Conn E a c := by
  induction k with
  | refl => exact h
  | step _ m ih => exact .step ih m
theorem Conn.symm {E : Edges} {a b : Nat} (h : Conn E a b) : Conn E b a := by
  induction h with
  | refl => exact .refl _
  | step _ m ih => exact (Conn.step (.refl _) (nbrs_symm m)).trans ih
def OkE (E : Edges) : Prop := ∀ e ∈ E, isLet e.1 ∧ isLet e.2
theorem conn_let {E : Edges} (ok : OkE E) {a b : Nat} (h : Conn E a b) (ha : isLet a) : isLet b := by
  induction h with
  | refl => exact ha
  | step _ m _ =>
    rcases mem_nbrs.mp m with m | m
    · exact (ok _ m).2
    · exact (ok _ m).1
theorem es_ok {chs : List Chg} (h : ∀ ch ∈ chs, OkC ch) (i n : Nat) : OkE (es chs i n) := fun e he => by
  obtain ⟨ch, hc, rfl⟩ := List.mem_map.mp he
  have := h ch (List.mem_filter.mp hc).1
  exact ⟨this.1, this.2.1⟩
theorem least_of (p : Nat → Prop) : ∀ n, p n → ∃ m, p m ∧ ∀ d, p d → m ≤ d := by
  intro n
  induction n using Nat.strongRecOn with
  | _ n ih =>
    intro hn
    by_cases h : ∃ k, k < n ∧ p k
    · obtain ⟨k, hk, pk⟩ := h
      exact ih k hk pk
    · exact ⟨n, hn, fun d hd => Nat.le_of_not_lt fun q => h ⟨d, q, hd⟩⟩
noncomputable def lo (E : Edges) (c : Nat) : Nat := Classical.choose (least_of (Conn E c) c (.refl c))
theorem lo_conn (E : Edges) (c : Nat) : Conn E c (lo E c) := (Classical.choose_spec (least_of (Conn E c) c (.refl c))).1
theorem lo_le {E : Edges} {c d : Nat} (h : Conn E c d) : lo E c ≤ d := (Classical.choose_spec (least_of (Conn E c) c (.refl c))).2 d h
theorem lo_self (E : Edges) (c : Nat) : lo E c ≤ c := lo_le (.refl c)
theorem lo_eq {E : Edges} {c d : Nat} : lo E c = lo E d ↔ Conn E c d := by
  constructor
  · intro e
    have h1 := lo_conn E c
    have h2 := lo_conn E d
    rw [← e] at h2
    exact h1.trans h2.symm
  · intro h
    exact Nat.le_antisymm (lo_le (h.trans (lo_conn E d))) (lo_le (h.symm.trans (lo_conn E c)))
theorem lo_of {E : Edges} {c m : Nat} (h : Conn E c m) (k : ∀ d, Conn E c d → m ≤ d) : lo E c = m := Nat.le_antisymm (lo_le h) (k _ (lo_conn E c))
/-! ### words -/
abbrev codes (z : Str) : List Nat := z.cps.toList
def ofC (l : List Nat) : Str := ⟨l.toArray⟩
theorem codes_ofC (l : List Nat) : codes (ofC l) = l := rfl
noncomputable def mean (chs : List Chg) (z : Str) : Str := ofC ((codes z).mapIdx fun i c => lo (es chs i (codes z).length) c)
theorem mean_len (chs : List Chg) (z : Str) : (codes (mean chs z)).length = (codes z).length := by
  unfold mean
  rw [codes_ofC, List.length_mapIdx]
theorem mean_at (chs : List Chg) (z : Str) {i c : Nat} (h : (codes z)[i]? = some c) : (codes (mean chs z))[i]? = some (lo (es chs i (codes z).length) c) := by
  unfold mean
  rw [codes_ofC, List.getElem?_mapIdx, h]
  rfl
/-- they are one: as long, and at each place the letters hang together -/
def OneP (chs : List Chg) (z y : Str) : Prop := (codes z).length = (codes y).length ∧ ∀ i a b, (codes z)[i]? = some a → (codes y)[i]? = some b → Conn (es chs i (codes z).length) b a
theorem one_iff {chs : List Chg} {z y : Str} : OneP chs z y ↔ (codes z).length = (codes y).length ∧ mean chs z = mean chs y := by
  constructor
  · rintro ⟨hl, h⟩
    refine ⟨hl, str_ext ?_⟩
    refine List.ext_getElem? fun i => ?_
    by_cases hi : i < (codes z).length
    · have h1 : (codes z)[i]? = some (codes z)[i] := List.getElem?_eq_getElem hi
      have h2 : (codes y)[i]? = some ((codes y)[i]'(by omega)) := List.getElem?_eq_getElem (by omega)
      have e1 := mean_at chs z h1
      have e2 := mean_at chs y h2
      rw [e1, e2, hl]
      rw [hl] at h
      exact congrArg some (lo_eq.mpr (h i _ _ h1 h2).symm)
    · have q1 : (codes (mean chs z))[i]? = none := List.getElem?_eq_none (by rw [mean_len]; omega)
      have q2 : (codes (mean chs y))[i]? = none := List.getElem?_eq_none (by rw [mean_len]; omega)
      exact q1.trans q2.symm
  · rintro ⟨hl, e⟩
    refine ⟨hl, fun i a b ha hb => ?_⟩
    have e1 := mean_at chs z ha
    have e2 := mean_at chs y hb
    rw [e, e2, ← hl] at e1
    exact lo_eq.mp (Option.some.inj e1)
theorem mean_mean {chs : List Chg} (z : Str) : mean chs (mean chs z) = mean chs z := by
  refine str_ext (List.ext_getElem? fun i => ?_)
  have l1 := mean_len chs z
  have l2 := mean_len chs (mean chs z)
  by_cases hi : i < (codes z).length
  · have h1 : (codes z)[i]? = some (codes z)[i] := List.getElem?_eq_getElem hi
    have e1 := mean_at chs z h1
    have e2 := mean_at chs (mean chs z) e1
    rw [e2, e1, l1]
    exact congrArg some (lo_eq.mpr (lo_conn _ _).symm)
  · have q1 : (codes (mean chs (mean chs z)))[i]? = none := List.getElem?_eq_none (by rw [mean_len, mean_len]; omega)
    have q2 : (codes (mean chs z))[i]? = none := List.getElem?_eq_none (by rw [mean_len]; omega)
    exact q1.trans q2.symm
theorem one_mean (chs : List Chg) (z : Str) : OneP chs (mean chs z) z := one_iff.mpr ⟨mean_len chs z, mean_mean z⟩
theorem one_symm {chs : List Chg} {z y : Str} : OneP chs z y ↔ OneP chs y z := by
  rw [one_iff, one_iff]
  constructor <;> rintro ⟨a, b⟩ <;> exact ⟨a.symm, b.symm⟩
theorem lt_no : ∀ {l m : List Nat}, l.length = m.length → (∀ (i a b : Nat), l[i]? = some a → m[i]? = some b → a ≤ b) → ¬ m < l
  | [], [], _, _ => List.lt_irrefl _
  | a :: l, b :: m, hl, h => by
    have h0 : a ≤ b := h 0 a b rfl rfl
    have ih := lt_no (l := l) (m := m) (by simpa using hl) fun i x y hx hy => h (i + 1) x y (by simpa using hx) (by simpa using hy)
    intro q
    rcases List.cons_lt_cons_iff.mp q with q | ⟨e, q⟩
    · omega
    · exact ih q
  | [], b :: m, hl, _ => by simp at hl
  | a :: l, [], hl, _ => by simp at hl
theorem mean_le (chs : List Chg) (z : Str) : ¬ ltS z (mean chs z) := by
  refine lt_no (mean_len chs z) fun i a b ha hb => ?_
  rw [mean_at chs z hb] at ha
  cases ha
  exact lo_self _ _
theorem es_nil (i n : Nat) : es [] i n = [] := rfl
theorem conn_nil {a b : Nat} (h : Conn [] a b) : a = b := by
  induction h with
  | refl => rfl
  | step _ m _ => cases m
theorem one_plain {z y : Str} : OneP [] z y ↔ z = y := by
  constructor
  · rintro ⟨hl, h⟩
    refine str_ext (List.ext_getElem? fun i => ?_)
    by_cases hi : i < (codes z).length
    · have h1 : (codes z)[i]? = some (codes z)[i] := List.getElem?_eq_getElem hi
      have h2 : (codes y)[i]? = some ((codes y)[i]'(by omega)) := List.getElem?_eq_getElem (by omega)
      exact h1.trans ((congrArg some (conn_nil (h i _ _ h1 h2)).symm).trans h2.symm)
    · have q1 : (codes z)[i]? = none := List.getElem?_eq_none (by omega)
      have q2 : (codes y)[i]? = none := List.getElem?_eq_none (by omega)
      exact q1.trans q2.symm
  · rintro rfl
    refine ⟨rfl, fun i a b h1 h2 => ?_⟩
    rw [h1] at h2
    cases h2
    exact .refl _
theorem mean_plain (z : Str) : mean [] z = z := by
  refine str_ext (List.ext_getElem? fun i => ?_)
  have l1 := mean_len [] z
  by_cases hi : i < (codes z).length
  · have h1 : (codes z)[i]? = some (codes z)[i] := List.getElem?_eq_getElem hi
    exact (mean_at [] z h1).trans ((congrArg some (conn_nil (lo_conn _ _)).symm).trans h1.symm)
  · have q1 : (codes (mean [] z))[i]? = none := List.getElem?_eq_none (by rw [mean_len]; omega)
    have q2 : (codes z)[i]? = none := List.getElem?_eq_none (by omega)
    exact q1.trans q2.symm
theorem wd_codes {z : Str} : IsWd z ↔ (1 ≤ (codes z).length ∧ (codes z).length ≤ 8) ∧ ∀ c ∈ codes z, isLet c := by
  unfold IsWd wdB isLet Str.length codes
  rw [Array.length_toList]
  simp only [Bool.and_eq_true, decide_eq_true_eq, List.all_eq_true]
theorem mean_wd {chs : List Chg} (h : ∀ ch ∈ chs, OkC ch) {z : Str} (hz : IsWd z) : IsWd (mean chs z) := by
  obtain ⟨h1, h2⟩ := wd_codes.mp hz
  refine wd_codes.mpr ⟨by rw [mean_len]; exact h1, fun c hc => ?_⟩
  obtain ⟨i, hi, rfl⟩ := List.mem_iff_getElem.mp hc
  have hi2 : i < (codes z).length := by rw [mean_len] at hi; exact hi
  have e := mean_at chs z (List.getElem?_eq_getElem hi2)
  rw [List.getElem?_eq_getElem hi] at e
  rw [Option.some.inj e]
  exact conn_let (es_ok h _ _) (lo_conn _ _) (h2 _ (List.getElem_mem hi2))
/-! ### the walk over letters, by breadth -/
structure Bfs (E : Edges) (goal : Nat) (tw : List (Nat × Option Nat)) (at' : Nat) : Prop where
  nd : (tw.map (·.1)).Nodup
  lets : ∀ x ∈ tw.map (·.1), isLet x
  conn : ∀ x ∈ tw.map (·.1), Conn E goal x
  head : tw[0]? = some (goal, none)
  par : ∀ (i c d : Nat), tw[i]? = some (c, some d) → ∃ j o, j < i ∧ tw[j]? = some (d, o)
  non : ∀ (i c : Nat), tw[i]? = some (c, none) → i = 0
  closed : ∀ (j x : Nat) (o : Option Nat), j < at' → tw[j]? = some (x, o) → ∀ y ∈ nbrs E x, y ∈ tw.map (·.1)
theorem Bfs.start {E : Edges} {goal : Nat} (h : isLet goal) : Bfs E goal [(goal, none)] 0 := by
  refine ⟨by simp, ?_, ?_, rfl, ?_, ?_, fun j x o hj => by omega⟩
  · intro x hx
    simp at hx
    subst hx
    exact h
  · intro x hx
    simp at hx
    subst hx
    exact .refl _
  · intro i c d hi
    match i, hi with
    | 0, e => cases e
    | n + 1, e => simp at e
  · intro i c hi
    match i, hi with
    | 0, _ => rfl
    | n + 1, e => simp at e
theorem Bfs.len {E : Edges} {goal : Nat} {tw : List (Nat × Option Nat)} {a : Nat} (b : Bfs E goal tw a) : tw.length ≤ 26 := by
  have h := b.nd.length_le_of_subset (l₂ := List.range' 97 26) fun x hx => by
    have := b.lets x hx
    rw [List.mem_range'_1]
    unfold isLet at this
    omega
  simpa using h
theorem Bfs.push {E : Edges} {goal x y : Nat} {tw : List (Nat × Option Nat)} {a : Nat} {o : Option Nat} (b : Bfs E goal tw a) (hx : tw[a]? = some (x, o)) (hy : y ∈ nbrs E x) (hl : isLet y) (hn : y ∉ tw.map (·.1)) : Bfs E goal (tw ++ [(y, some x)]) a := by
  have ha : a < tw.length := (List.getElem?_eq_some_iff.mp hx).1
  have old : ∀ {i : Nat} {p : Nat × Option Nat}, tw[i]? = some p → (tw ++ [(y, some x)])[i]? = some p := fun {i p} h => by
    rw [List.getElem?_append_left (List.getElem?_eq_some_iff.mp h).1]
    exact h
  have back : ∀ {i : Nat} {p : Nat × Option Nat}, (tw ++ [(y, some x)])[i]? = some p → tw[i]? = some p ∨ (i = tw.length ∧ p = (y, some x)) := fun {i p} h => by
    by_cases q : i < tw.length
    · rw [List.getElem?_append_left q] at h
      exact .inl h
    · rw [List.getElem?_append_right (by omega)] at h
      have : i - tw.length = 0 := by
        have := (List.getElem?_eq_some_iff.mp h).1
        simp at this
        omega
      rw [this] at h
      simp at h
      exact .inr ⟨by omega, h.symm⟩
  refine ⟨?_, ?_, ?_, old b.head, ?_, ?_, ?_⟩
  · rw [List.map_append, List.nodup_append]
    refine ⟨b.nd, by simp, fun u hu v hv e => ?_⟩
    simp at hv
    subst hv e
    exact hn hu
  · intro u hu
    rw [List.map_append] at hu
    rcases List.mem_append.mp hu with hu | hu
    · exact b.lets u hu
    · simp at hu
      subst hu
      exact hl
  · intro u hu
    rw [List.map_append] at hu
    rcases List.mem_append.mp hu with hu | hu
    · exact b.conn u hu
    · simp at hu
      subst hu
      exact .step (b.conn x (List.mem_map.mpr ⟨_, List.mem_of_getElem? hx, rfl⟩)) hy
  · intro i c d hi
    rcases back hi with h | ⟨e, h⟩
    · obtain ⟨j, o', hj, h'⟩ := b.par i c d h
      exact ⟨j, o', hj, old h'⟩
    · cases h
      exact ⟨a, o, by omega, old hx⟩
  · intro i c hi
    rcases back hi with h | ⟨e, h⟩
    · exact b.non i c h
    · cases h
  · intro j u o' hj h v hv
    rcases back h with h | ⟨e, h⟩
    · rw [List.map_append]
      exact List.mem_append_left _ (b.closed j u o' hj h v hv)
    · omega
theorem Bfs.next {E : Edges} {goal x : Nat} {tw : List (Nat × Option Nat)} {a : Nat} {o : Option Nat} (b : Bfs E goal tw a) (hx : tw[a]? = some (x, o)) (h : ∀ y ∈ nbrs E x, y ∈ tw.map (·.1)) : Bfs E goal tw (a + 1) := by
  refine ⟨b.nd, b.lets, b.conn, b.head, b.par, b.non, fun j u o' hj hu => ?_⟩
  by_cases q : j < a
  · exact b.closed j u o' q hu
  · have : j = a := by omega
    subst this
    rw [hx] at hu
    cases hu
    exact h
theorem Bfs.done {E : Edges} {goal : Nat} {tw : List (Nat × Option Nat)} {a : Nat} (b : Bfs E goal tw a) (ha : tw.length ≤ a) {c : Nat} : c ∈ tw.map (·.1) ↔ Conn E goal c := by
  refine ⟨b.conn c, fun h => ?_⟩
  induction h with
  | refl => exact List.mem_map.mpr ⟨_, List.mem_of_getElem? b.head, rfl⟩
  | step _ m ih =>
    obtain ⟨⟨u, o⟩, hu, rfl⟩ := List.mem_map.mp ih
    obtain ⟨j, hj, e⟩ := List.mem_iff_getElem.mp hu
    exact b.closed j u o (by omega) (by rw [List.getElem?_eq_getElem hj, e]) _ m
end Wl

namespace Wl
open PySem PySem.Spec PyProof.Rows L2
/-! enumerate(a text) -/
def IteS (z : Str) : It where
  go := fun i _ => i < z.cps.size
  yld := fun i H v H' => ∃ T c, v = .ref T ∧ H T = none ∧ z.cps[i]? = some c ∧ H' = upd H T (.tup [.int (i : Nat), .str (sign c)])
  stop := fun i _ => z.cps.size ≤ i
theorem turn_enumS {P : Program} {w : World} {K : PySem.W.Frag} {elts : List Expr} {kk : Nat} {tpos : Pos} (z : Str) (t : Tok) (e it : Addr) :
    Turn P w K (.Tuple elts kk tpos) (IteS z) [e, it] e (fun i h => (∃ old, IsEnum h e it ((i : Nat) : Int) old) ∧ h.IsStrIter it (strIterType z) z t i ∧ e ≠ it) where
  mem := by simp
  obj := fun i h st b hb => by
    obtain ⟨⟨old, he⟩, ⟨o, ho, hc, hd⟩, _⟩ := st
    rcases (show b = e ∨ b = it by simpa using hb) with q | q
    · subst q; exact ⟨_, he, fun v q => nomatch q⟩
    · subst q; exact ⟨o, ho, fun v q => by rw [hd] at q; cases q⟩
  keep := fun i h h' st k => let ⟨⟨old, he⟩, ⟨o, ho, r⟩, hne⟩ := st; ⟨⟨old, k e (by simp) _ he⟩, ⟨o, k it (by simp) o ho, r⟩, hne⟩
  item := by
    intro X hP hw hK hc i pins s σ H E I hf st hg
    subst hP hw hK
    obtain ⟨⟨old, he⟩, hit, hne⟩ := st
    have hi : i < z.cps.size := hg
    obtain ⟨oi, hoi, _⟩ := id hit
    have hel : e < s.heap.objs.size := Heap.lt_size he
    have hil : it < s.heap.objs.size := Heap.lt_size hoi
    refine wpAny_pyNext_enum_itemD (Draws.text (prog := X.prog) (w := X.w) (A := X.A.in1) (I.ok.hd hc) it z t) he hit hi hne (by simp [hne]) fun y h' tk hy ho hst hTp hsz hk => ?_
    obtain ⟨c, tu, hcz, rfl⟩ := hy
    refine ⟨_, rfl, wpAny_letOwnedTupleGo_enum (s := { s with heap := h', toks := tk + 1 }) ho fun h'' he' sb => ?_⟩
    have hT2 : h''.get? s.heap.objs.size = some { cls := .type "tuple", data := .seq #[.int i tk, .str ⟨#[c]⟩ tu] } := (sb.2 _ (Nat.ne_of_gt hel)).trans hTp
    have new : ObjOk X.prog X.w (upd H s.heap.objs.size (.tup [.int (i : Nat), .str (sign c)])) h'' s.heap.objs.size (.tup [.int (i : Nat), .str (sign c)]) :=
      ⟨by show 2 ≤ sizeLine; decide, [.int i tk, .str ⟨#[c]⟩ tu], .cons ⟨_, rfl⟩ (.cons ⟨_, rfl⟩ .nil), ⟨_, hT2, rfl, _, rfl⟩⟩
    have I1 : L2.Inv X pins σ (upd H s.heap.objs.size (.tup [.int (i : Nat), .str (sign c)])) { s with heap := h'', toks := tk + 1 } :=
      I.turnedNew (ch := [e, it]) (fun b ob hb q => by
        simp only [List.mem_cons, List.not_mem_nil, or_false, not_or] at hb
        exact (sb.2 b hb.1).trans (hk b ob hb.1 hb.2 q)) hf (Nat.le_refl _) new
    have e1 : ((i + 1 : Nat) : Int) = (i : Int) + 1 := by omega
    obtain ⟨o2, ho2, r2⟩ := hst
    refine ⟨.ref s.heap.objs.size, _, I1, rfl, ⟨_, c, rfl, I.hok.fresh (Nat.le_refl _), hcz, rfl⟩, ⟨⟨.str ⟨#[c]⟩ tu, by rw [e1]; exact he'⟩, ⟨o2, (sb.2 it (Ne.symm hne)).trans ho2, r2⟩, hne⟩, fun b hb => ?_⟩
    have hb' : b < s.heap.objs.size := by
      rcases (show b = e ∨ b = it by simpa using hb) with q | q <;> subst q <;> assumption
    rw [upd_ne (Nat.ne_of_lt hb')]
    exact (hf b hb).1
  done := by
    intro X hP hw hK hc i pins s σ H E I hf st hg
    subst hP hw hK
    obtain ⟨⟨old, he⟩, hit, hne⟩ := st
    have hi : z.cps.size ≤ i := hg
    obtain ⟨f0, f1, f2, f3, f4, f5⟩ := hf it (by simp)
    have hTy : s.TypeIs (.ref e) "enumerate" := ⟨_, he, rfl⟩
    show wpAny _ _ (pyNext (.ref e)) _ _ s
    unfold pyNext
    refine wpAny_bind (wpAny_attempt (wpAny_callSpecial?_slot (name := Str.ofString "__next__") hTy F.slot_enumerate_next (wpAny_call_entry F.slot_enumerate_next hTy F.entry_enumerate_next ?_ (F.args_enumerate_next_1 _))))
    show wpAny _ _ (field (.ref e) 2 >>= _) _ _ _
    refine wpAny_bind (wpAny_field he rfl (x := .ref it) rfl (wpAny_bind ?_))
    have hx : z.cps[i]? = none := Array.getElem?_eq_none hi
    cases ha : z.cps.all (· < 128)
    · simp only [strIterType, ha, Bool.false_eq_true, if_false] at hit
      refine wpAny_nextOf_wide_end (I.ok.hd hc) hit hx fun h' x he' hx' => ?_
      obtain ⟨o, ho, hcc⟩ := hx'
      exact wpAny_bind (wpAny_isInstance (T := "StopIteration") (b := true) ⟨o, ho, hcc⟩ isSubtype_stop (wpAny_pure ⟨rfl, I.turned (t' := s.toks) (fun b o hb q => he' b o hb q) f0 f1 f3 f4 f5⟩))
    · simp only [strIterType, ha, if_true] at hit
      refine wpAny_nextOf_ascii_end (I.ok.hd hc) hit hx fun h' x he' hx' => ?_
      obtain ⟨o, ho, hcc⟩ := hx'
      exact wpAny_bind (wpAny_isInstance (T := "StopIteration") (b := true) ⟨o, ho, hcc⟩ isSubtype_stop (wpAny_pure ⟨rfl, I.turned (t' := s.toks) (fun b o hb q => he' b o hb q) f0 f1 f3 f4 f5⟩))
  self := fun A i s Q E st h => let ⟨⟨_, he⟩, _⟩ := st; wpAny_pyIter_enum he h
def iEnumS (ta : TA) : TI := fun σ H R => ta σ H fun vs H1 => ∃ z, vs = [.str z] ∧ R (IteS z) H1
theorem pi_enumS {X : Cx} {e : Expr} {ta : TA} {p pos tpos : Pos} {elts : List Expr} {kk : Nat} (hg : Gl X "enumerate") (hm : X.mg "enumerate" = none) (ha : PA X [e] ta) (hs : starEach [e] X.env = [(false, eval e X.env)] := by rfl) :
    PI X (.Tuple elts kk tpos) (.Call (.Name "enumerate" p) [e] [] pos) (iEnumS ta) := by
  refine ⟨fun pins s σ H R I h => ?_⟩
  refine Call_ (ld_blt I hg hm boot_enumerate (PyProof.Rows.callWith_type1 (thn (ha.run pos pins s σ H _ I h) fun us s1 ⟨vs, H1, I1, r1, q1⟩ => ?_) hs rfl))
  obtain ⟨z, rfl, q⟩ := q1
  obtain ⟨u, rfl, ru⟩ := vals1 r1
  obtain ⟨t, rfl⟩ := ru
  refine call_enumerate_str fun h' he hit hsz hk => wpAny_pyIter_enum he ?_
  refine ⟨s1.heap.objs.size + 1, [s1.heap.objs.size + 1, s1.heap.objs.size], _, _, H1, rfl, I1.kept (t' := s1.toks) hk, turn_enumS z t (s1.heap.objs.size + 1) s1.heap.objs.size, ⟨⟨.none, he⟩, hit, Nat.succ_ne_self _⟩, fun b hb => ?_, q⟩
  have hle : s1.heap.objs.size ≤ b := by
    rcases (show b = s1.heap.objs.size + 1 ∨ b = s1.heap.objs.size by simpa using hb) with q | q <;> rw [q]
    · exact Nat.le_add_right _ _
    · exact Nat.le_refl _
  exact I1.fpOk hle (I1.hok.fresh hle)
theorem walk_enumS {z : Str} : L2.Walk (IteS z) (codes z).length (fun _ => True) (fun i H v H' => ∃ T c, v = .ref T ∧ H T = none ∧ (codes z)[i]? = some c ∧ H' = upd H T (.tup [.int (i : Nat), .str (sign c)])) := by
  have e : (codes z).length = z.cps.size := by simp [codes]
  rw [e]
  refine ⟨fun _ _ hi _ => hi, fun _ _ => Nat.le_refl _, ?_⟩
  rintro i H v H' _ _ ⟨T, c, h1, h2, h3, h4⟩
  exact ⟨T, c, h1, h2, by simpa [codes] using h3, h4⟩
/-! f(k = v, ..) with no place -/
theorem pe_callN0 {X : Cx} {CX : CXT} {k : Nat} {f : Addr} {fd : FuncData} {ps ks : List Str} {sp : Sp} {E : XK} {x : Str} {p pos : Pos} {kws : List Keyword} {tk : TA} {g : List Value → List Value → List Value} {gV : List V → List V → List V}
    (F : FnOk X.prog X.w X.K X.mg X.base CX k f fd ps sp) (hr : Room k X.A) (hg : Gl X x) (hm : X.mg x = some (.ref f)) (hk : PySem.W.keepIn X.K (.ref f) = true) (hb : KBn X.K fd ps 0 ks g gV) (hx : Passes CX X E) (hkw : PK X kws tk)
    (hall : (backToKw pos (keywordEach kws X.env)).all (·.1.isSome) = true := by rfl) (hks : (backToKw pos (keywordEach kws X.env)).filterMap (·.1) = ks := by rfl) (hdb : (x == ("__debug__" : Str)) = false := by decide)
    (hpl : ((backTo pos (starEach [] X.env)).any (·.1) || (backToKw pos (keywordEach kws X.env)).any (·.1.isNone)) = false := by rfl) :
    PE X (.Call (.Name x p) [] kws pos) (L2.tCallN 0 ks.length sp gV E tNil tk) := by
  refine ⟨fun pins s σ H Q I h => ?_⟩
  refine wpAny_Call_Name_kw (ld_glob I hg hm ?_ hdb)
  refine PySem.W.callWith_KW0 (h₀ := X.base) I.ok.mod.kin hk hall ?_ hpl
  refine thn (hkw.run pos pins s σ H _ I h) fun ws s2 ⟨zs, H2, I2, rz, l1, l2, q2⟩ => ⟨I2.kIn, ?_⟩
  rw [hks]
  exact run_fnN (us := []) (vs := []) F hr hb hx I2 .nil rz rfl l2 q2
/-! min of a list of signs -/
def sgV (c : Nat) : V := .str (sign c)
def rMinL (K : PySem.W.Frag) : List V → Hp → VK → Prop := fun vs H Q => ∃ (a : Addr) (cs : List Nat), vs = [V.ref a] ∧ SqL K H a (cs.map sgV) ∧ cs ≠ [] ∧ cs.length ≤ 1000 ∧ ∀ m ∈ cs, (∀ c ∈ cs, m ≤ c) → Q (sgV m) H
theorem dp_signs {K : PySem.W.Frag} {H : Hp} : ∀ cs : List Nat, DpAll K H (cs.map sgV) (cs.map fun c => PyData.str (sign c))
  | [] => .nil
  | c :: r => .cons (.str _) (dp_signs r)
theorem sign_lt (a b : Nat) : ((sign a).cps.toList < (sign b).cps.toList) ↔ a < b := by
  show ([a] < [b]) ↔ _
  constructor
  · intro h
    rcases List.cons_lt_cons_iff.mp h with h | ⟨_, h⟩
    · exact h
    · exact absurd h (List.lt_irrefl _)
  · intro h
    exact List.cons_lt_cons_iff.mpr (.inl h)
theorem minD_signs : ∀ (c : Nat) (cs : List Nat), ∃ m, m ∈ c :: cs ∧ (∀ d ∈ c :: cs, m ≤ d) ∧ PySem.W.minD (.str (sign c)) (cs.map fun c => PyData.str (sign c)) = .str (sign m)
  | c, [] => ⟨c, List.mem_cons_self, fun d hd => by simp at hd; omega, rfl⟩
  | c, d :: r => by
    by_cases h : d < c
    · obtain ⟨m, h1, h2, h3⟩ := minD_signs d r
      refine ⟨m, List.mem_cons_of_mem _ h1, fun x hx => ?_, ?_⟩
      · rcases List.mem_cons.mp hx with rfl | hx
        · have := h2 d List.mem_cons_self
          omega
        · exact h2 x hx
      · rw [← h3]
        unfold PySem.W.minD
        rw [List.map_cons, List.foldl_cons, PySem.W.dataLt_str, decide_eq_true ((sign_lt d c).mpr h)]
        rfl
    · obtain ⟨m, h1, h2, h3⟩ := minD_signs c r
      refine ⟨m, ?_, fun x hx => ?_, ?_⟩
      · rcases List.mem_cons.mp h1 with rfl | h1
        · exact List.mem_cons_self
        · exact List.mem_cons_of_mem _ (List.mem_cons_of_mem _ h1)
      · rcases List.mem_cons.mp hx with rfl | hx
        · exact h2 x List.mem_cons_self
        · rcases List.mem_cons.mp hx with rfl | hx
          · have := h2 c List.mem_cons_self
            omega
          · exact h2 x (List.mem_cons_of_mem _ hx)
      · rw [← h3]
        unfold PySem.W.minD
        rw [List.map_cons, List.foldl_cons, PySem.W.dataLt_str, decide_eq_false (fun q => h ((sign_lt d c).mp q))]
        rfl
theorem cr_minL {X : Cx} (hc : X.calm = true) (hu : X.A.units + 64 < cLine) : CallR X (.builtin "min") (rMinL X.K) := by
  intro pins s σ H vs us Q I r h
  obtain ⟨a, cs, rfl, hs, hne, hlen, q⟩ := h
  obtain ⟨its, rv, hl, hn⟩ := I.list hs
  obtain ⟨u, rfl, ru⟩ := vals1 r
  obtain rfl : u = Value.ref a := ru
  obtain ⟨as, hr⟩ := Dp.readsAll I _ _ its (dp_signs cs) rv
  cases cs with
  | nil => exact absurd rfl hne
  | cons c cs =>
    have al : PySem.W.AlikeAll (((c :: cs)).map fun c => PyData.str (sign c)) := by
      refine ⟨fun x hx y hy => ?_, fun x hx => ?_⟩
      · obtain ⟨i, _, rfl⟩ := List.mem_map.mp hx
        obtain ⟨j, _, rfl⟩ := List.mem_map.mp hy
        rfl
      · obtain ⟨i, _, rfl⟩ := List.mem_map.mp hx
        exact fun q => by cases q
    have dp : ∀ l : List Nat, PyData.depthAll (l.map fun c => PyData.str (sign c)) = 0 := fun l => by
      induction l with
      | nil => rfl
      | cons x r ih => simp [PyData.depthAll, PyData.depth, ih]
    refine PySem.W.min_list_data (x := .str (sign c)) (xs := cs.map fun c => PyData.str (sign c)) (I.ok.hd hc) hl.isList (by simpa using hr) al (by
      have := dp (c :: cs)
      rw [List.map_cons] at this
      omega) fun i v h' tk bs hv hR hk => ?_
    obtain ⟨m, h1, h2, h3⟩ := minD_signs c cs
    rw [h3] at hR
    cases hR with
    | str z t => exact ⟨.str _, H, I.kept (t' := tk) hk, ⟨_, rfl⟩, q m h1 h2⟩
/-! 'a' * 8 -/
def rMulA : R2 := fun x y H Q => x = .str "a" ∧ y = .int 8 ∧ Q (.str "aaaaaaaa") H
theorem op_mulA {X : Cx} : OpR X (binaryOp .Mult) rMulA := by
  intro pins s σ H x y v u Q I rx ry h
  obtain ⟨rfl, rfl, q⟩ := h
  obtain ⟨t, rfl⟩ := rx
  obtain ⟨t', rfl⟩ := ry
  refine P.mul_str (by decide) (fun _ _ => by decide +kernel) (fun _ _ => by decide +kernel) ?_
  have e1 : ((8 : Int) == 1 || ("a" : Str).length == 0) = false := by decide +kernel
  rw [if_neg (by decide), e1]
  have e2 : (⟨(List.replicate (8 : Int).toNat ("a" : Str).cps).foldl (· ++ ·) #[]⟩ : Str) = "aaaaaaaa" := by decide +kernel
  show Made.post (Made.str (⟨(List.replicate (8 : Int).toNat ("a" : Str).cps).foldl (· ++ ·) #[]⟩ : Str)) _ _
  rw [e2]
  exact ⟨by decide +kernel, .str _, H, I.tok _, ⟨_, rfl⟩, q⟩
end Wl

/-! sorted of a list of texts, as a reading; the least of sorted letters stands first. -/
namespace Wl
open PySem PySem.Spec PyProof.Rows L2
def dz (z : Str) : V × PyData := (.str z, .str z)
theorem srt_strs (xs : List Str) : ((xs.map dz).mergeSort (PySem.W.dataLe false (·.2))).map (·.1) = (sortS xs).map V.str := by
  have h : (sortS xs).map dz = (xs.map dz).mergeSort (PySem.W.dataLe false (·.2)) := List.map_mergeSort fun a _ b _ => by
    rw [PySem.W.dataLe_eq]
    exact (le_data_str a b).symm
  rw [← h, List.map_map]
  rfl
theorem srt_reads {K : PySem.W.Frag} {H : Hp} {Q : VK} {a : Addr} {xs : List Str} (h : SqL K H a (xs.map V.str)) (q : ∀ p, H p = none → Q (.ref p) (upd H p (.lst ((sortS xs).map V.str)))) : rSortD K [.ref a] H Q := by
  refine ⟨a, xs.map dz, rfl, ?_, ?_, ?_, ?_, ?_, fun p hp => ?_⟩
  · rw [List.map_map]
    exact h
  · intro b hb
    obtain ⟨x, _, rfl⟩ := List.mem_map.mp hb
    exact .str x
  · intro d hd e he
    obtain ⟨b, hb, rfl⟩ := List.mem_map.mp hd
    obtain ⟨x, _, rfl⟩ := List.mem_map.mp hb
    obtain ⟨c, hc, rfl⟩ := List.mem_map.mp he
    obtain ⟨y, _, rfl⟩ := List.mem_map.mp hc
    rfl
  · refine .inr fun d hd => ?_
    obtain ⟨b, hb, rfl⟩ := List.mem_map.mp hd
    obtain ⟨x, _, rfl⟩ := List.mem_map.mp hb
    exact ⟨(fun e => by cases e), (fun ys e => by cases e)⟩
  · intro b hb
    obtain ⟨x, _, rfl⟩ := List.mem_map.mp hb
    show PyData.depth (.str x) ≤ 8
    simp [PyData.depth]
  · rw [srt_strs]
    exact q p hp
theorem ltS_sign {c d : Nat} : ltS (sign c) (sign d) ↔ c < d := by
  show [c] < [d] ↔ c < d
  constructor
  · intro h
    cases h with
    | rel h => exact h
    | cons h => cases h
  · exact fun h => .rel h
theorem sg_inj1 {c d : Nat} (h : sign c = sign d) : c = d := by
  have e := congrArg (fun z : Str => z.cps.toList) h
  simpa [sign] using e
theorem head_sortS {cs : List Nat} {m : Nat} (hm : m ∈ cs) (hmin : ∀ d ∈ cs, m ≤ d) : (sortS (cs.map sign))[0]? = some (sign m) := by
  have h1 : (sortS (cs.map sign)).Pairwise (fun a b => leB a b = true) := List.pairwise_mergeSort leB_trans leB_total _
  have h2 : sign m ∈ sortS (cs.map sign) := mem_sortS.mpr (List.mem_map.mpr ⟨m, hm, rfl⟩)
  have h3 : ∀ x ∈ sortS (cs.map sign), ∃ c ∈ cs, sign c = x := fun x hx => List.mem_map.mp (mem_sortS.mp hx)
  cases e : sortS (cs.map sign) with
  | nil =>
    rw [e] at h2
    cases h2
  | cons x r =>
    rw [e] at h1 h2 h3
    obtain ⟨c, hc, rfl⟩ := h3 x List.mem_cons_self
    have e2 : c = m := by
      rcases List.mem_cons.mp h2 with h | h
      · exact (sg_inj1 h).symm
      · have q := (List.pairwise_cons.mp h1).1 _ h
        unfold leB at q
        rw [Bool.not_eq_true', decide_eq_false_iff_not, ltS_sign] at q
        have := hmin c hc
        omega
    rw [e2]
    rfl
end Wl

namespace Wl
open PySem PySem.Spec PyProof.Rows L2
def topS (i : Nat) : Stmt := PySem.Challenge.pw_wordlines_k18_maps_alike_and_shown.main.body.getD i (.Pass ⟨0, 0, 0, 0⟩)
end Wl
namespace Wl
open PySem PySem.Spec PyProof.Rows L2
end Wl
namespace Wl
open PySem PySem.Spec PyProof.Rows L2
end Wl
namespace Wl
open PySem PySem.Spec PyProof.Rows L2
end Wl
namespace Wl
open PySem PySem.Spec PyProof.Rows L2
abbrev wIsWord : Stmt := topS 24
abbrev wCheck : Stmt := topS 25
abbrev wIsLetter : Stmt := topS 26
abbrev wIsChange : Stmt := topS 27
abbrev wTupTo : Stmt := topS 28
abbrev wChecked : Stmt := topS 29
abbrev wReaches : Stmt := topS 30
abbrev wTurned : Stmt := topS 31
/-! y = {k: v for x in ..} -/
theorem ps_setDc {X : Cx} {i : Nat} {y : Str} {py : Pos} {kx vx tg iter : Expr} {ifs : List Expr} {scope : Scope} {own : List (Str × Nat)} {pos spos : Pos} {wi : TI} {g : TG} {tt : TT} {tk tv : TE} (hc : X.calm = true) (hN : X.N.Nodup) (hy : X.N[i]? = some y) (hyl : X.env.scope.names.lookup y = some .local)
    (hsw : swapsWith (.DictComp kx vx [⟨tg, iter, ifs, 0⟩] scope pos) (some (.Name y py)) spos.line X.env = pure true) (hi : PI X tg iter wi) (ok : BlkOk X.N X.env.scope scope own)
    (hg : ∀ (s : Shared) (H : Hp) (C : Addr) (cl : List (Str × Addr)) (fp : List Addr), PG (X.blk s H scope (compEnvC scope cl C X.env) fp) tg g) (ht : ∀ (s : Shared) (H : Hp) (C : Addr) (cl : List (Str × Addr)) (fp : List Addr), PTs (X.blk s H scope (compEnvC scope cl C X.env) fp) ifs tt)
    (hk : ∀ (s : Shared) (H : Hp) (C : Addr) (cl : List (Str × Addr)) (fp : List Addr), PE (X.blk s H scope (compEnvC scope cl C X.env) fp) kx tk) (he : ∀ (s : Shared) (H : Hp) (C : Addr) (cl : List (Str × Addr)) (fp : List Addr), PE (X.blk s H scope (compEnvC scope cl C X.env) fp) vx tv)
    (hs : ∀ x, foldedSetIterable iter X.env x = pure x := by intro _; rfl) :
    PS X (.Assign [.Name y py] (.DictComp kx vx [⟨tg, iter, ifs, 0⟩] scope pos) spos) (tAsg (tDc wi g tt tk tv (own.map (·.2))) (gName i)) := by
  constructor
  intro pins s σ H D I h
  rw [exec_Assign_Name_used _ _ _ _ hsw]
  refine wpAny_bind (wpAny_standAt (wpAny_bind ?_))
  show wpAny _ X.A (do let _ ← comprehension (.DictComp kx vx [⟨tg, iter, ifs, 0⟩] scope pos) scope X.env (firstIterPos [⟨tg, iter, ifs, 0⟩] pos) newDict false (eval iter X.env) (some (assign (.Name y py) X.env))) _ _ s
  have h2 : tDc wi g tt tk tv (own.map (·.2)) σ H (fun x H1 => gName i x σ H1 D.nx) := h
  refine wpAny_bind (thn (dc_core (Qf := fun _ s' => SP X pins D .next s') hc hN I hi ok hg ht hk he hs h2 fun L C s' m H' I' q hn f => ?_) fun _ s' hq => wpAny_pure (wpAny_pure hq))
  show wpAny _ _ (assign (.Name y py) X.env (.ref L)) _ _ _
  obtain ⟨f0, f1, f2, f3, f4, f5⟩ := f
  refine wpAny_assign_Name (store_ok2 (v := V.ref L) I' hN hy (.inl hyl) rfl (fun s2 I2 ⟨a, sb, ha⟩ => ?_) (.inr hyl))
  have haC : C ≠ a := ha.elim (fun z => z ▸ f1) (fun z e => f4 y a z e.symm)
  exact ⟨m, hn.sameBut sb haC, fun h3 sb3 => ⟨_, H', I2.turned (t' := s2.toks) (fun b o hb e => (sb3.2 b hb).trans e) f0 f1 f3 f4 f5, q⟩⟩
theorem sw_dict {kx vx : Expr} {gs : List Comprehension} {scope : Scope} {pos py : Pos} {y : Str} {l : Nat} {env : Env} (hk : env.scope.kind = .function) (hy : env.scope.names.lookup y = some .local) (hl : (py.line == pos.line) = true)
    (ha : (scope.names.any fun (n, k) => n == y && (k == .local || k == .cell)) = false) : swapsWith (.DictComp kx vx gs scope pos) (some (.Name y py)) l env = pure true := by
  have ky : env.kindOf y = some .local := hy
  have hb : env.blockKind = .function := by
    show env.blockKind = _
    unfold Env.blockKind
    rw [hk]
    rfl
  show (do return env.blockKind == .function && env.kindOf y == some .local && py.line == pos.line && !(scope.names.any fun (n, k) => n == y && (k == .local || k == .cell)) : Sem Bool) = _
  rw [hb, ky, ha, hl]
  rfl

structure Bw (mg : Str → Option Value) : Prop where
  bool : mg "bool" = none
structure Gw (K : PySem.W.Frag) (mg : Str → Option Value) : Prop where
  letters : ∃ t, mg "LETTERS" = some (.str "abcdefghijklmnopqrstuvwxyz" t)
  longest : ∃ t, mg "LONGEST_WORD" = some (.int 8 t)
  mostch : ∃ t, mg "MOST_CHANGES" = some (.int 12 t)
  wheres : ∃ a, mg "WHERES" = some (.ref a) ∧ ∀ H, SqT K H a [.str "first", .str "last", .str "any"]
def letB (c : Nat) : Bool := decide (97 ≤ c) && decide (c ≤ 122)
def letV : V → V
  | .str s => .bl (s.cps.toList.all letB)
  | v => v
theorem letB_mem (c : Nat) : decide (c ∈ ("abcdefghijklmnopqrstuvwxyz" : Str).cps.toList) = letB c := by
  rw [letters_eq]
  unfold letB
  by_cases h : c ∈ List.range' 97 26
  · rw [decide_eq_true h]
    rw [List.mem_range'_1] at h
    simp
    omega
  · rw [decide_eq_false h]
    rw [List.mem_range'_1] at h
    symm
    rw [Bool.and_eq_false_iff, decide_eq_false_iff_not, decide_eq_false_iff_not]
    omega
/-- whether a thing of any kind is a word -/
def Wv (K : PySem.W.Frag) (H : Hp) (v : V) (b : Bool) : Prop := (∃ z, v = .str z ∧ z.length ≤ 1000 ∧ b = wdB z) ∨ (∃ t, TyX K H v t ∧ PySem.W.kitOne K t (.type "str") = some false ∧ b = false)
section
variable {P : Program} {w : World} {K : PySem.W.Frag} {mg : Str → Option Value} {base : Heap} {f : Addr} {fd : FuncData}
def spIsW (K : PySem.W.Frag) : Sp := fun vs H Q _ => ∃ (v : V) (b : Bool), vs = [v] ∧ Wv K H v b ∧ ∀ (H' : Hp), Same H H' → Q (.bl b) H'
abbrev nIsWord : List Str := ["thing", "letter"]
theorem scIsW : FnScope nIsWord ["thing"] (defScope wIsWord) := ⟨rfl, rfl, rfl, by decide +kernel, rfl, by decide +kernel, by decide +kernel⟩
theorem ok_isw (F : Fun K "is_word" "is_word" wIsWord f fd) (B : Bi mg) (G : Gw K mg) : FnOk P w K mg base CX0 1 f fd ["thing"] (spIsW K) := by
  obtain ⟨t1, g1⟩ := G.letters
  obtain ⟨t2, g2⟩ := G.longest
  refine F.ok scIsW (fun vs H Q E h => ?_) (fun cdv A outer s H vs Q E hr h => ?_)
  · obtain ⟨v, b, rfl, _⟩ := h
    rfl
  · obtain ⟨v, b, rfl, hw, q⟩ := h
    refine ⟨_, pss_cons (ps_if (PW.pt (pw_or (pt_not (pt_val (pe_callB call_isi (by rfl) B.isi (by decide +kernel) (pa_cons (pv 0) (pa_cons (pe_bltn (v := .ty "str") (by rfl) B.str (by decide +kernel) rfl) pa_nil)))))
        (pw_or1 (pt_not (pt_chain op_le op_le pe_int (pe_callB call_len_str (by rfl) B.len PySem.boot_len (pa_cons (pv 0) pa_nil)) (pe_glob (v := .int 8) rfl g2 ⟨_, rfl⟩)))))) (pss_one (ps_ret pe_bl)) pss_nil)
      (pss_one (ps_ret (pe_callB (cr_all rfl) (by rfl) B.all (by decide +kernel) (pa_cons (pe_lc (own := [("letter", 1)]) (g := gName 1) (tt := tYes) rfl scIsW.nd (pi_str (pv 0)) (blkOk_by (N := nIsWord) (sc := defScope wIsWord) (by decide +kernel))
        (fun _ _ _ _ _ => pg_name (i := 1) scIsW.nd rfl (.inl rfl)) (fun _ _ _ _ _ => pts_nil) (fun _ _ _ _ _ => pe_cmpR op_in_sign (pv 1) (pe_glob (v := .str "abcdefghijklmnopqrstuvwxyz") rfl g1 ⟨_, rfl⟩) rfl)) pa_nil)))), ?_⟩
    rcases hw with ⟨z, rfl, hz, rfl⟩ | ⟨t, ty, hk, rfl⟩
    · refine ⟨_, rfl, _, _, _, _, _, rfl, .ty "str", .base (.str z), kit_ty (r := true) (by decide +kernel), true, rfl, ?_⟩
      refine iteF ⟨_, rfl, _, rfl, lzl hz, _, _, rfl, rfl, _, rfl, ite_b (fun e1 => ?_) (fun e1 => ?_)⟩
      · refine ⟨_, _, rfl, rfl, _, rfl, not_b (fun e2 => ?_) (fun e2 => ?_)⟩
        · have e2' : ¬ ((z.length : Int) ≤ 8) := of_decide_eq_false e2
          have : wdB z = false := by
            unfold wdB
            rw [decide_eq_false (show ¬ z.length ≤ 8 by omega)]
            simp
          rw [← this]
          exact q H (Same.refl H)
        · have h1 : 1 ≤ z.length := by
            have := of_decide_eq_true e1
            omega
          have h8 : z.length ≤ 8 := by
            have := of_decide_eq_true e2
            omega
          refine ⟨_, rfl, _, rfl, fun D hD => lc_map walk_signs hD (fun _ => true) letV (fun _ _ => trivial) (fun _ => rfl) (fun x H' _ _ Q' q' => q') ?_ ?_ ?_⟩
          · intro x H' hx _ _ Q' q'
            obtain ⟨c, hc, rfl⟩ := List.mem_map.mp hx
            refine ⟨_, rfl, c, _, rfl, rfl, ?_⟩
            rw [letB_mem]
            have : letV (.str (sign c)) = .bl (letB c) := by
              show V.bl ([c].all letB) = _
              simp
            rw [this] at q'
            exact q'
          · unfold signsOf
            rw [List.length_map, Array.length_toList]
            exact small1000 (by have : z.length = z.cps.size := rfl; omega)
          · intro H' s' hD'
            have e0 : ((signsOf z).filter fun _ => true).map letV = (z.cps.toList.map letB).map V.bl := by
              rw [List.filter_eq_self.mpr fun _ _ => rfl]
              unfold signsOf
              rw [List.map_map, List.map_map]
              refine List.map_congr_left fun c _ => ?_
              show V.bl ([c].all letB) = _
              simp
            refine ⟨D, z.cps.toList.map letB, rfl, .inl (.inl (by rw [hD', e0])), ?_⟩
            have : (z.cps.toList.map letB).all id = wdB z := by
              unfold wdB
              rw [decide_eq_true h1, decide_eq_true h8, List.all_map]
              rfl
            rw [this]
            exact q H' s'
      · refine ⟨false, rfl, iteT ?_⟩
        have : wdB z = false := by
          have e1' : ¬ ((1 : Int) ≤ z.length) := of_decide_eq_false e1
          unfold wdB
          rw [decide_eq_false (show ¬ 1 ≤ z.length by omega)]
          simp
        rw [← this]
        exact q H (Same.refl H)
    · exact ⟨_, rfl, _, _, _, _, _, rfl, .ty "str", ty, hk, false, rfl, iteT (q H (Same.refl H))⟩
theorem wv_wd {K : PySem.W.Frag} {H : Hp} {z : Str} (h : IsWd z) : Wv K H (.str z) true := .inl ⟨z, rfl, by have := h.len; omega, (show wdB z = true from h).symm⟩
theorem sign_wd {c : Nat} (h : isLet c) : IsWd (sign c) := wd_codes.mpr ⟨⟨Nat.le_refl 1, Nat.le_of_ble_eq_true rfl⟩, fun d hd => by
  have : d = c := by simpa [codes, sign] using hd
  rw [this]
  exact h⟩
/-! ### check_word, is_letter -/
def spCheckW : Sp := fun vs H Q _ => ∃ (z : Str), vs = [.str z] ∧ IsWd z ∧ ∀ (H' : Hp), Same H H' → Q .non H'
theorem scCheckW : FnScope ["word"] ["word"] (defScope wCheck) := ⟨rfl, rfl, rfl, by decide +kernel, rfl, by decide +kernel, by decide +kernel⟩
theorem ok_checkw (F : Fun K "check_word" "check_word" wCheck f fd) (hI : Has P w K mg base "is_word" 1 ["thing"] (spIsW K)) : FnOk P w K mg base CX0 2 f fd ["word"] spCheckW := by
  refine F.ok scCheckW (fun vs H Q E h => ?_) (fun cdv A outer s H vs Q E hr h => ?_)
  · obtain ⟨z, rfl, _⟩ := h
    rfl
  · obtain ⟨z, rfl, hz, q⟩ := h
    exact ⟨_, pss_one (ps_if (pt_not (pt_val (pe_h hI hr (pa_cons (pv 0) pa_nil)))) (pss_one ps_never) pss_nil), _, rfl, _, true, rfl, wv_wd hz, fun H1 s1 => ⟨_, rfl, iteF (q H1 s1)⟩⟩
def spIsLet : Sp := fun vs H Q _ => ∃ (c : Nat), vs = [sgV c] ∧ isLet c ∧ ∀ (H' : Hp), Same H H' → Q (.bl true) H'
theorem scIsLet : FnScope ["thing"] ["thing"] (defScope wIsLetter) := ⟨rfl, rfl, rfl, by decide +kernel, rfl, by decide +kernel, by decide +kernel⟩
theorem ok_islet (F : Fun K "is_letter" "is_letter" wIsLetter f fd) (B : Bi mg) (hI : Has P w K mg base "is_word" 1 ["thing"] (spIsW K)) : FnOk P w K mg base CX0 2 f fd ["thing"] spIsLet := by
  refine F.ok scIsLet (fun vs H Q E h => ?_) (fun cdv A outer s H vs Q E hr h => ?_)
  · obtain ⟨z, rfl, _⟩ := h
    rfl
  · obtain ⟨c, rfl, hc, q⟩ := h
    refine ⟨_, pss_one (ps_ret (pe_and (pe_h hI hr (pa_cons (pv 0) pa_nil)) (pe_one (pe_cmpR op_eq (pe_callB call_len_str (by rfl) B.len PySem.boot_len (pa_cons (pv 0) pa_nil)) pe_int (nomark _))))), ?_⟩
    refine ⟨_, rfl, _, true, rfl, wv_wd (sign_wd hc), fun H1 s1 => ⟨true, rfl, iteT ⟨_, rfl, _, rfl, lz, rfl, ?_⟩⟩⟩
    rw [show decide (V.int ((sign c).length : Int) = V.int 1) = true from decide_eq_true rfl]
    exact q H1 s1
/-! ### changes -/
def chV (ch : Chg) : List V := [sgV ch.1, sgV ch.2.1, .str (whS ch.2.2)]
theorem wh_dec (a b : Wh) : decide (V.str (whS a) = V.str (whS b)) = decide (a = b) := by
  cases a <;> cases b <;> decide +kernel
theorem sg_dec (a b : Nat) : decide (sgV a = sgV b) = decide (a = b) := by
  by_cases h : a = b
  · subst h
    simp
  · have : sgV a ≠ sgV b := fun e => h (by
      have e2 := congrArg (fun z : Str => z.cps.toList) (V.str.inj e)
      simpa [sign] using e2)
    rw [decide_eq_false h, decide_eq_false this]
def spIsCh : Sp := fun vs H Q _ => ∃ (p : Addr) (ch : Chg), vs = [.ref p] ∧ H p = some (.tup (chV ch)) ∧ OkC ch ∧ ∀ (H' : Hp), Same H H' → Q (.bl true) H'
abbrev nIsCh : List Str := ["thing", "one", "other", "where"]
theorem scIsCh : FnScope nIsCh ["thing"] (defScope wIsChange) := ⟨rfl, rfl, rfl, by decide +kernel, rfl, by decide +kernel, by decide +kernel⟩
theorem ok_isch (F : Fun K "is_change" "is_change" wIsChange f fd) (B : Bi mg) (G : Gw K mg) (hL : Has P w K mg base "is_letter" 2 ["thing"] spIsLet) : FnOk P w K mg base CX0 3 f fd ["thing"] spIsCh := by
  obtain ⟨wa, gw, hw⟩ := G.wheres
  refine F.ok scIsCh (fun vs H Q E h => ?_) (fun cdv A outer s H vs Q E hr h => ?_)
  · obtain ⟨p, ch, rfl, _⟩ := h
    rfl
  · obtain ⟨p, ch, rfl, hp, ok, q⟩ := h
    refine ⟨_, pss_cons (ps_if (PW.pt (pw_or (pt_not (pt_val (pe_callB call_isi (by rfl) B.isi (by decide +kernel) (pa_cons (pv 0) (pa_cons (pe_bltn (v := .ty "tuple") (by rfl) B.tuple (by decide +kernel) rfl) pa_nil)))))
        (pw_or1 (pt_cmpR op_ne (pe_callB call_len_seq (by rfl) B.len PySem.boot_len (pa_cons (pv 0) pa_nil)) pe_int (nomark _))))) (pss_one (ps_ret pe_bl)) pss_nil)
      (pss_cons (ps_asg (pv 0) (pg_tup rfl (pgs_cons (pg_name (i := 1) scIsCh.nd rfl (.inl rfl)) (pgs_cons (pg_name (i := 2) scIsCh.nd rfl (.inl rfl)) (pgs_cons (pg_name (i := 3) scIsCh.nd rfl (.inl rfl)) pgs_nil)))))
      (pss_cons (ps_if (PW.pt (pw_or (pt_not (pt_val (pe_h hL hr (pa_cons (pv 1) pa_nil)))) (pw_or (pt_not (pt_val (pe_h hL hr (pa_cons (pv 2) pa_nil)))) (pw_or1 (pt_cmpR op_eq (pv 1) (pv 2) (nomark _)))))) (pss_one (ps_ret pe_bl)) pss_nil)
      (pss_one (ps_ret (pe_and (pe_callB call_isi (by rfl) B.isi (by decide +kernel) (pa_cons (pv 3) (pa_cons (pe_bltn (v := .ty "str") (by rfl) B.str (by decide +kernel) rfl) pa_nil))) (pe_one (pe_cmpR op_in_seq (pv 3) (pe_glob (v := .ref wa) rfl gw rfl) (by rfl)))))))), ?_⟩
    refine ⟨_, rfl, _, _, _, _, _, rfl, .ty "tuple", .base (.tup hp), kit_ty (r := true) (by decide +kernel), true, rfl, ?_⟩
    refine iteF ⟨_, rfl, p, _, rfl, .inr (.inl (.inl hp)), rfl, _, rfl, ?_⟩
    refine iteNS rfl ?_
    refine ⟨_, rfl, p, _, rfl, .inl (.inl hp), rfl, _, _, rfl, _, _, rfl, _, _, rfl, rfl, ?_⟩
    refine ⟨_, rfl, ch.1, rfl, ok.1, fun H1 s1 => ⟨true, rfl, iteF ⟨_, rfl, ch.2.1, rfl, ok.2.1, fun H2 s2 => ⟨true, rfl, iteF ⟨_, rfl, _, rfl, rfl, _, rfl, ?_⟩⟩⟩⟩⟩
    rw [sg_dec, decide_eq_false ok.2.2]
    refine iteF ⟨_, rfl, _, _, _, _, _, rfl, .ty "str", .base (.str _), kit_ty (r := true) (by decide +kernel), true, rfl, iteT ⟨_, rfl, wa, _, rfl, .inr (hw H2), rfl, rfl, ?_⟩⟩
    have e : inV (.str (whS ch.2.2)) [.str "first", .str "last", .str "any"] = true := by
      generalize ch.2.2 = wh
      cases wh <;> decide +kernel
    rw [if_neg (by decide), e]
    exact q H2 (s1.trans s2)
/-- a tuple of changes -/
def ChAt (H : Hp) (S : Addr) (chs : List Chg) : Prop := ∃ as : List Addr, H S = some (.tup (as.map V.ref)) ∧ Each (fun (p : Addr) (ch : Chg) => H p = some (.tup (chV ch))) as chs
theorem ChAt.keep {H H' : Hp} {S : Addr} {chs : List Chg} (h : ChAt H S chs) (k : ∀ p xs, H p = some (.tup xs) → H' p = some (.tup xs)) : ChAt H' S chs := by
  obtain ⟨as, h1, h2⟩ := h
  exact ⟨as, k _ _ h1, h2.mono fun p ch e => k _ _ e⟩
theorem ChAt.same {H H' : Hp} {S : Addr} {chs : List Chg} (h : ChAt H S chs) (s : Same H H') : ChAt H' S chs := h.keep fun p xs e => s _ _ e
def OkCs (chs : List Chg) : Prop := chs.length ≤ 12 ∧ ∀ ch ∈ chs, OkC ch
/-- what is handed in for changes: None, or a tuple of them -/
def ChV (H : Hp) (v : V) (chs : List Chg) : Prop := (v = .non ∧ chs = []) ∨ ∃ S, v = .ref S ∧ ChAt H S chs
theorem ChV.same {H H' : Hp} {v : V} {chs : List Chg} (h : ChV H v chs) (s : Same H H') : ChV H' v chs := by
  rcases h with h | ⟨S, e, h⟩
  · exact .inl h
  · exact .inr ⟨S, e, h.same s⟩
def spChecked : Sp := fun vs H Q _ => ∃ (v : V) (chs : List Chg), vs = [v] ∧ ChV H v chs ∧ OkCs chs ∧ ∀ (S : Addr) (H' : Hp), Same H H' → ChAt H' S chs → Q (.ref S) H'
abbrev nChecked : List Str := ["changes", "place", "change"]
theorem scChecked : FnScope nChecked ["changes"] (defScope wChecked) := ⟨rfl, rfl, rfl, by decide +kernel, rfl, by decide +kernel, by decide +kernel⟩
/-! ### is_tuple_up_to -/
def spTupTo : Sp := fun vs H Q _ => ∃ (S : Addr) (xs : List V) (n : Int), vs = [.ref S, .int n] ∧ H S = some (.tup xs) ∧ Q (.bl (decide ((xs.length : Int) ≤ n))) H
theorem scTupTo : FnScope ["thing", "most"] ["thing", "most"] (defScope wTupTo) := ⟨rfl, rfl, rfl, by decide +kernel, rfl, by decide +kernel, by decide +kernel⟩
theorem ok_tupto (F : Fun K "is_tuple_up_to" "is_tuple_up_to" wTupTo f fd) (B : Bi mg) : FnOk P w K mg base CX0 1 f fd ["thing", "most"] spTupTo := by
  refine F.ok scTupTo (fun vs H Q E h => ?_) (fun cdv A outer s H vs Q E hr h => ?_)
  · obtain ⟨S, xs, n, rfl, _⟩ := h
    rfl
  · obtain ⟨S, xs, n, rfl, hS, q⟩ := h
    refine ⟨_, pss_one (ps_ret (pe_and (pe_callB call_isi (by rfl) B.isi (by decide +kernel) (pa_cons (pv 0) (pa_cons (pe_bltn (v := .ty "tuple") (by rfl) B.tuple (by decide +kernel) rfl) pa_nil))) (pe_one (pe_cmpR op_le (pe_callB call_len_seq (by rfl) B.len PySem.boot_len (pa_cons (pv 0) pa_nil)) (pv 1) (nomark _))))), ?_⟩
    exact ⟨_, rfl, _, _, _, _, _, rfl, .ty "tuple", .base (.tup hS), kit_ty (r := true) (by decide +kernel), true, rfl, iteT ⟨_, rfl, S, _, rfl, .inr (.inl (.inl hS)), _, rfl, _, _, rfl, rfl, q⟩⟩
theorem ok_checked (F : Fun K "checked_changes" "checked_changes" wChecked f fd) (B : Bi mg) (G : Gw K mg) (hTu : Has P w K mg base "is_tuple_up_to" 1 ["thing", "most"] spTupTo) (hC : Has P w K mg base "is_change" 3 ["thing"] spIsCh) : FnOk P w K mg base CX0 4 f fd ["changes"] spChecked := by
  obtain ⟨t1, g1⟩ := G.mostch
  refine F.ok scChecked (fun vs H Q E h => ?_) (fun cdv A outer s H vs Q E hr h => ?_)
  · obtain ⟨v, chs, rfl, _⟩ := h
    rfl
  · obtain ⟨v, chs, rfl, hv, ok, q⟩ := h
    refine ⟨_, pss_cons (ps_if (pt_cmp (pc_isN (pv 0))) (pss_one (ps_ret (pe_tup pa_nil))) pss_nil)
      (pss_cons (ps_if (pt_not (pt_val (pe_h hTu hr (pa_cons (pv 0) (pa_cons (pe_glob (v := .int 12) rfl g1 ⟨_, rfl⟩) pa_nil))))) (pss_one ps_never) pss_nil)
      (pss_cons (ps_for PassesOwn.never rfl (pi_enumT (by rfl) B.enum (pa_cons (pv 0) pa_nil)) (pg_tup rfl (pgs_cons (pg_name (i := 1) scChecked.nd rfl (.inl rfl)) (pgs_cons (pg_name (i := 2) scChecked.nd rfl (.inl rfl)) pgs_nil)))
        (pss_one (ps_if (pt_not (pt_val (pe_h hC hr (pa_cons (pv 2) pa_nil)))) (pss_one ps_never) pss_nil)))
      (pss_one (ps_ret (pv 0))))), ?_⟩
    rcases hv with ⟨rfl, rfl⟩ | ⟨S, rfl, as, hS, hE⟩
    · exact ⟨_, rfl, _, rfl, iteT ⟨lz, fun p hp => q p _ (same_new hp) ⟨[], upd_same, .nil⟩⟩⟩
    · refine ⟨_, rfl, _, rfl, iteF ?_⟩
      have hl : (as.map V.ref).length = chs.length := by rw [List.length_map, hE.length]
      refine ⟨_, rfl, S, _, 12, rfl, hS, _, rfl, ?_⟩
      rw [hl, decide_eq_true (by have := ok.1; omega)]
      refine iteF ⟨_, rfl, S, _, rfl, .inl (.inl hS), for_it (walk_enumT (K := K) (a := S) (xs := as.map V.ref)) (fun i σ H' => (∃ y1 y2, σ = [some (.ref S), y1, y2]) ∧ Same H H') ⟨⟨_, _, rfl⟩, Same.refl H⟩ (fun i σ H' _ h => .inl (.inl (h.2 _ _ hS))) ?_ ?_⟩
      · rintro i x σ H1 H2 hi ⟨⟨y1, y2, rfl⟩, s1⟩ ⟨T, x1, x2, rfl, hT, rfl, ex1, ex2⟩
        cases ex1
        have ex2 : (as.map V.ref)[i]? = some x2 := ex2
        rw [List.getElem?_map] at ex2
        obtain ⟨p, hp, rfl⟩ := Option.map_eq_some_iff.mp ex2
        obtain ⟨ch, hch, hH⟩ := hE.get hp
        have s2 : Same H1 (upd H1 T (.tup [.int i, .ref p])) := same_new hT
        refine ⟨T, _, rfl, .inl (.inl upd_same), rfl, _, _, rfl, _, _, rfl, rfl, ?_⟩
        exact ⟨_, rfl, p, ch, rfl, s2 _ _ (s1 _ _ hH), ok.2 ch (List.mem_of_getElem? hch), fun H3 s3 => ⟨true, rfl, iteF ⟨⟨_, _, rfl⟩, (s1.trans s2).trans s3⟩⟩⟩
      · rintro σ H1 ⟨⟨y1, y2, rfl⟩, s1⟩
        exact ⟨_, rfl, q S H1 s1 ⟨as, s1 _ _ hS, hE.mono fun p ch e => s1 _ _ e⟩⟩
/-! ### reaches -/
def spReaches : Sp := fun vs H Q _ => ∃ (wh : Wh) (i n : Nat), vs = [.str (whS wh), .int i, .int n] ∧ Q (.bl (acts wh i n)) H
theorem scReaches : FnScope ["where", "place", "length"] ["where", "place", "length"] (defScope wReaches) := ⟨rfl, rfl, rfl, by decide +kernel, rfl, by decide +kernel, by decide +kernel⟩
theorem int_dec (a b : Int) : decide (V.int a = V.int b) = decide (a = b) := by
  by_cases h : a = b
  · subst h
    simp
  · rw [decide_eq_false h, decide_eq_false fun e => h (V.int.inj e)]
theorem ok_reaches (F : Fun K "reaches" "reaches" wReaches f fd) : FnOk P w K mg base CX0 1 f fd ["where", "place", "length"] spReaches := by
  refine F.ok scReaches (fun vs H Q E h => ?_) (fun cdv A outer s H vs Q E hr h => ?_)
  · obtain ⟨wh, i, n, rfl, _⟩ := h
    rfl
  · obtain ⟨wh, i, n, rfl, q⟩ := h
    refine ⟨_, pss_cons (ps_if (pt_cmpR op_eq (pv 0) pe_str (nomark _)) (pss_one (ps_ret (pe_cmpR op_eq (pv 1) pe_int (nomark _)))) pss_nil)
      (pss_cons (ps_if (pt_cmpR op_eq (pv 0) pe_str (nomark _)) (pss_one (ps_ret (pe_cmpR op_eq (pv 1) (pe_op op_sub (pv 2) pe_int) (nomark _)))) pss_nil)
      (pss_one (ps_ret pe_bl))), ?_⟩
    have e1 : decide (V.str (whS wh) = V.str "first") = decide (wh = .first) := wh_dec wh .first
    have e2 : decide (V.str (whS wh) = V.str "last") = decide (wh = .last) := wh_dec wh .last
    refine ⟨_, rfl, rfl, _, rfl, ?_⟩
    rw [e1]
    cases wh with
    | first =>
      refine iteT ⟨_, rfl, rfl, ?_⟩
      rw [int_dec]
      have : decide ((i : Int) = 0) = acts .first i n := by
        unfold acts
        by_cases h : i = 0
        · simp [h]
        · simp [h]
      rw [this]
      exact q
    | last =>
      refine iteF ⟨_, rfl, rfl, _, rfl, ?_⟩
      rw [e2]
      refine iteT ⟨_, rfl, _, rfl, _, _, rfl, rfl, rfl, ?_⟩
      rw [int_dec]
      have : decide ((i : Int) = (n : Int) - 1) = acts .last i n := by
        unfold acts
        by_cases h : i + 1 = n
        · rw [decide_eq_true h, decide_eq_true (by omega)]
        · rw [decide_eq_false h, decide_eq_false (by omega)]
      rw [this]
      exact q
    | any =>
      refine iteF ⟨_, rfl, rfl, _, rfl, ?_⟩
      rw [e2]
      exact iteF q
end
end Wl





namespace Wl
open PySem PySem.Spec PyProof.Rows L2
abbrev wSteps : Stmt := topS 32
/-! a dict comprehension over a walk -/
theorem dc_it {J : It} {n : Nat} {G : Hp → Prop} {Y : Nat → Hp → V → Hp → Prop} (w : L2.Walk J n G Y) {g : TG} {tt : TT} {tk tv : TE} {vs : List Nat} {σ : L2.St} {H1 : Hp} {D : Addr} {Qd : Hp → Prop} (Pv : Nat → Hp → Prop) (h0 : Pv 0 (upd H1 D (.dK []))) (hG : ∀ i H, i ≤ n → Pv i H → G H)
    (hs : ∀ i x H H', i < n → Pv i H → Y i H x H' → g x (wipe σ vs) H' fun σ2 H2 => wipe σ2 vs = wipe σ vs ∧ tt σ2 H2 fun b H3 =>
      if b = true then tk σ2 H3 fun y H4 => tv σ2 H4 fun z H5 => ∃ kvs k, y = kV k ∧ H5 D = some (.dK kvs) ∧ kvs.length < sizeLine ∧ Pv (i + 1) (upd H5 D (.dK (putK kvs k z))) else Pv (i + 1) H3) (hd : ∀ H, Pv n H → Qd H) :
    ∃ W : Nat → Nat → Hp → Prop, (∃ m, W 0 m (upd H1 D (.dK []))) ∧ ∀ i m H, W i m H →
      (J.stop i H ∧ Qd H) ∨ (J.go i H ∧ ∃ Nx : Hp → Prop, (∀ H', Nx H' → ∃ m', m' < m ∧ W (i + 1) m' H') ∧ ∀ x H', J.yld i H x H' → g x (wipe σ vs) H' fun σ2 H2 => wipe σ2 vs = wipe σ vs ∧ tt σ2 H2 fun b H3 =>
        if b = true then tk σ2 H3 fun y H4 => tv σ2 H4 fun z H5 => ∃ kvs k, y = kV k ∧ H5 D = some (.dK kvs) ∧ kvs.length < sizeLine ∧ Nx (upd H5 D (.dK (putK kvs k z))) else Nx H3) := by
  refine ⟨fun i m H => m = n - i ∧ i ≤ n ∧ Pv i H, ⟨n, by simp, Nat.zero_le _, h0⟩, ?_⟩
  rintro i m H ⟨rfl, hi, p⟩
  have q := hG i H hi p
  by_cases hlt : i < n
  · exact .inr ⟨w.goes i H hlt q, Pv (i + 1), fun H' p' => ⟨n - (i + 1), by omega, rfl, hlt, p'⟩, fun x H' y => hs i x H H' hlt p (w.yields i H x H' hlt q y)⟩
  · have e : i = n := by omega
    subst e
    exact .inl ⟨w.stops H q, hd H p⟩
abbrev kS (c : Nat) : Key := Sum.inr (sign c)
theorem kS_inj {a b : Nat} (h : kS a = kS b) : a = b := by
  have e := congrArg (fun z : Str => z.cps.toList) (Sum.inr.inj h)
  simpa [sign] using e
def kvL (ad : Nat → V) (l : List Nat) : List (Key × V) := l.map fun c => (kS c, ad c)
theorem valV_kvL (ad : Nat → V) (c : Nat) : ∀ l : List Nat, valV (kvL ad l) (kS c) = if c ∈ l then some (ad c) else none
  | [] => rfl
  | d :: r => by
    by_cases h : d = c
    · subst h
      rw [if_pos List.mem_cons_self]
      exact valV_pos rfl
    · have h1 : valV (kvL ad (d :: r)) (kS c) = valV (kvL ad r) (kS c) := valV_neg fun e => h (kS_inj e)
      rw [h1, valV_kvL ad c r]
      have h2 : (c ∈ d :: r) = (c ∈ r) := by
        simp only [List.mem_cons, eq_iff_iff]
        constructor
        · rintro (e | e)
          · exact absurd e.symm h
          · exact e
        · exact .inr
      simp only [h2]
theorem kvL_congr {a b : Nat → V} {l : List Nat} (h : ∀ c ∈ l, a c = b c) : kvL a l = kvL b l := List.map_congr_left fun c hc => by rw [h c hc]
structure TurnI (H : Hp) (D : Addr) (ad : Nat → Addr) (E : Edges) : Prop where
  dict : H D = some (.dK (kvL (fun c => .ref (ad c)) (List.range' 97 26)))
  lst : ∀ c, isLet c → H (ad c) = some (.lst ((nbrs E c).map sgV))
  inj : ∀ c d, isLet c → isLet d → ad c = ad d → c = d
theorem let_mem {c : Nat} : isLet c ↔ c ∈ List.range' 97 26 := by
  rw [List.mem_range'_1]
  unfold isLet
  omega
def TurnAt (H : Hp) (D : Addr) (E : Edges) : Prop := ∃ ad, TurnI H D ad E
theorem TurnI.val {H : Hp} {D : Addr} {ad : Nat → Addr} {E : Edges} (t : TurnI H D ad E) {c : Nat} (h : isLet c) : DGet H D (sgV c) (some (.ref (ad c))) := by
  have := DGet.k (k := kS c) t.dict
  rw [valV_kvL, if_pos (let_mem.mp h)] at this
  exact this
theorem TurnI.same {H H' : Hp} {D : Addr} {ad : Nat → Addr} {E : Edges} (t : TurnI H D ad E) (s : Same H H') : TurnI H' D ad E := ⟨s _ _ t.dict, fun c h => s _ _ (t.lst c h), t.inj⟩
theorem room1 {k : Nat} {A : Around} (r : Room k A) : A.units + 1 < cLine := by have := r.un; omega
theorem nbrs_len (E : Edges) (c : Nat) : (nbrs E c).length ≤ 2 * E.length := by
  induction E with
  | nil => simp [nbrs]
  | cons e r ih =>
    have h1 : nbrs (e :: r) c = nbE c e ++ nbrs r c := rfl
    have h2 : (nbE c e).length ≤ 2 := by
      unfold nbE
      split <;> split <;> simp
    rw [h1, List.length_append, List.length_cons]
    omega
theorem es_len (chs : List Chg) (i n : Nat) : (es chs i n).length ≤ chs.length := by
  unfold es
  rw [List.length_map]
  exact List.length_filter_le _ _
theorem es_snoc (l : List Chg) (ch : Chg) (i n : Nat) : es (l ++ [ch]) i n = es l i n ++ (if acts ch.2.2 i n = true then [(ch.1, ch.2.1)] else []) := by
  unfold es
  rw [List.filter_append, List.map_append]
  by_cases h : acts ch.2.2 i n = true
  · simp [h]
  · simp [h]
theorem signs_abc : signsOf "abcdefghijklmnopqrstuvwxyz" = (List.range' 97 26).map sgV := by
  unfold signsOf
  rw [letters_eq]
  rfl
theorem TurnI.push {H : Hp} {D : Addr} {ad : Nat → Addr} {E : Edges} (t : TurnI H D ad E) {a b : Nat} (ha : isLet a) (hb : isLet b) (hn : a ≠ b) :
    TurnI (upd (upd H (ad a) (.lst ((nbrs E a).map sgV ++ [sgV b]))) (ad b) (.lst ((nbrs E b).map sgV ++ [sgV a]))) D ad (E ++ [(a, b)]) := by
  have nab : ad a ≠ ad b := fun e => hn (t.inj a b ha hb e)
  have nd : ∀ c, isLet c → D ≠ ad c := fun c hc => ne_of t.dict (t.lst c hc) (by intro z; cases z)
  refine ⟨?_, fun c hc => ?_, t.inj⟩
  · rw [upd_ne (nd b hb), upd_ne (nd a ha)]
    exact t.dict
  · rw [nbrs_snoc]
    by_cases h1 : b = c
    · subst h1
      rw [upd_same, if_neg hn, if_pos rfl, List.map_append]
      rfl
    · have n1 : ad c ≠ ad b := fun e => h1 (t.inj c b hc hb e).symm
      rw [upd_ne n1, if_neg h1]
      by_cases h2 : a = c
      · subst h2
        rw [upd_same, if_pos rfl, List.map_append]
        rfl
      · have n2 : ad c ≠ ad a := fun e => h2 (t.inj c a hc ha e).symm
        rw [upd_ne n2, if_neg h2, t.lst c hc]
        simp
section
variable {P : Program} {w : World} {K : PySem.W.Frag} {mg : Str → Option Value} {base : Heap} {f : Addr} {fd : FuncData}
def spTurned : Sp := fun vs H Q _ => ∃ (S : Addr) (chs : List Chg) (i n : Nat), vs = [.ref S, .int i, .int n] ∧ ChAt H S chs ∧ OkCs chs ∧ ∀ (D : Addr) (H' : Hp), Same H H' → TurnAt H' D (es chs i n) → Q (.ref D) H'
abbrev nTurned : List Str := ["changes", "place", "length", "turned", "letter", "one", "other", "where"]
theorem scTurned : FnScope nTurned ["changes", "place", "length"] (defScope wTurned) := ⟨rfl, rfl, rfl, by decide +kernel, rfl, by decide +kernel, by decide +kernel⟩
theorem ok_turned (F : Fun K "turned_letters" "turned_letters" wTurned f fd) (G : Gw K mg) (hR : Has P w K mg base "reaches" 1 ["where", "place", "length"] spReaches) : FnOk P w K mg base CX0 2 f fd ["changes", "place", "length"] spTurned := by
  obtain ⟨t1, g1⟩ := G.letters
  refine F.ok scTurned (fun vs H Q E h => ?_) (fun cdv A outer s H vs Q E hr h => ?_)
  · obtain ⟨S, chs, i, n, rfl, _⟩ := h
    rfl
  · obtain ⟨S, chs, pl, n, rfl, ⟨as, hS, hE⟩, ok, q⟩ := h
    refine ⟨_, pss_cons (ps_setDc (i := 3) (own := [("letter", 4)]) (g := gName 4) (tt := tYes) rfl scTurned.nd rfl rfl (sw_dict rfl rfl rfl rfl) (pi_str (pe_glob (v := .str "abcdefghijklmnopqrstuvwxyz") rfl g1 ⟨_, rfl⟩)) (blkOk_by (N := nTurned) (sc := defScope wTurned) (by decide +kernel))
        (fun _ _ _ _ _ => pg_name (i := 4) scTurned.nd rfl (.inl rfl)) (fun _ _ _ _ _ => pts_nil) (fun _ _ _ _ _ => pv 4) (fun _ _ _ _ _ => pe_lst pa_nil))
      (pss_cons (ps_for PassesOwn.never rfl (pi_tup (pv 0)) (pg_tup rfl (pgs_cons (pg_name (i := 5) scTurned.nd rfl (.inl rfl)) (pgs_cons (pg_name (i := 6) scTurned.nd rfl (.inl rfl)) (pgs_cons (pg_name (i := 7) scTurned.nd rfl (.inl rfl)) pgs_nil))))
        (pss_one (ps_if (pt_val (pe_h hR hr (pa_cons (pv 7) (pa_cons (pv 1) (pa_cons (pv 2) pa_nil)))))
          (pss_cons (ps_expr (pe_bm PySem.F.plainAttrs_list PySem.F.slot_list_append PySem.F.type_list_append mt_append (pe_dget (room1 hr) (pv 3) (pv 5) (fun _ _ => rfl)) (pa_cons (pv 6) pa_nil)))
          (pss_one (ps_expr (pe_bm PySem.F.plainAttrs_list PySem.F.slot_list_append PySem.F.type_list_append mt_append (pe_dget (room1 hr) (pv 3) (pv 6) (fun _ _ => rfl)) (pa_cons (pv 5) pa_nil))))) pss_nil)))
      (pss_one (ps_ret (pv 3)))), ?_⟩
    refine ⟨_, rfl, fun D hD => dc_it walk_signs (fun i H' => ∃ ad : Nat → Addr, Same H H' ∧ H' D = some (.dK (kvL (fun c => .ref (ad c)) (List.range' 97 i))) ∧ (∀ c ∈ List.range' 97 i, H' (ad c) = some (.lst []) ∧ H (ad c) = none) ∧ ∀ c d, c ∈ List.range' 97 i → d ∈ List.range' 97 i → ad c = ad d → c = d) ⟨fun _ => 0, same_new hD, upd_same, fun c hc => by simp at hc, fun c d hc => by simp at hc⟩ (fun _ _ _ _ => trivial) ?_ ?_⟩
    · rintro i x H1 H2 hi ⟨ad, s1, hd, hl, hj⟩ ⟨rfl, hx⟩
      have hi26 : i < 26 := by
        rw [signs_abc, List.length_map, List.length_range'] at hi
        exact hi
      rw [signs_abc, List.getElem?_map, List.getElem?_range' hi26] at hx
      obtain rfl := Option.some.inj hx
      have e97 : 97 + 1 * i = 97 + i := by omega
      rw [e97]
      refine ⟨rfl, yes_it ⟨_, rfl, lz, fun p hp => ⟨_, kS (97 + i), rfl, (same_new hp) _ _ hd, ?_, fun c => if c = 97 + i then p else ad c, ?_, ?_, ?_, ?_⟩⟩⟩
      · unfold kvL
        rw [List.length_map, List.length_range']
        exact small1000 (by omega)
      · exact same_mut (s1.trans (same_new hp)) hD
      · rw [upd_same, putK_new]
        · have e : List.range' 97 (i + 1) = List.range' 97 i ++ [97 + i] := by
            have := List.range'_concat (s := 97) (n := i) (step := 1)
            simpa using this
          rw [e]
          unfold kvL
          rw [List.map_append]
          have e2 : (List.range' 97 i).map (fun c => (kS c, V.ref (if c = 97 + i then p else ad c))) = (List.range' 97 i).map fun c => (kS c, V.ref (ad c)) := List.map_congr_left fun c hc => by
            rw [List.mem_range'_1] at hc
            rw [if_neg (by omega)]
          rw [e2]
          simp
        · rw [valV_kvL, if_neg]
          rw [List.mem_range'_1]
          omega
      · intro c hc
        rw [List.mem_range'_1] at hc
        have nD : p ≠ D := (ne_of_none hd hp).symm
        dsimp only
        by_cases h : c = 97 + i
        · rw [if_pos h]
          exact ⟨by rw [upd_ne nD, upd_same], s1.free hp⟩
        · rw [if_neg h]
          obtain ⟨h1, h2⟩ := hl c (by rw [List.mem_range'_1]; omega)
          have n1 : ad c ≠ D := ne_of h1 hd (by intro z; cases z)
          exact ⟨by rw [upd_ne n1]; exact (same_new hp) _ _ h1, h2⟩
      · intro c d hc hd' e
        rw [List.mem_range'_1] at hc hd'
        dsimp only at e
        have np : ∀ c, c < 97 + i → 97 ≤ c → ad c ≠ p := fun c h1 h2 => ne_of_none (hl c (by rw [List.mem_range'_1]; omega)).1 hp
        by_cases h1 : c = 97 + i <;> by_cases h2 : d = 97 + i
        · omega
        · rw [if_pos h1, if_neg h2] at e
          exact absurd e.symm (np d (by omega) (by omega))
        · rw [if_neg h1, if_pos h2] at e
          exact absurd e (np c (by omega) (by omega))
        · rw [if_neg h1, if_neg h2] at e
          exact hj c d (by rw [List.mem_range'_1]; omega) (by rw [List.mem_range'_1]; omega) e
    · rintro H1 ⟨ad, s1, hd, hl, hj⟩
      have e26 : (signsOf "abcdefghijklmnopqrstuvwxyz").length = 26 := by rw [signs_abc, List.length_map, List.length_range']
      rw [e26] at hd hl hj
      have T1 : TurnI H1 D ad (es (chs.take 0) pl n) := ⟨hd, fun c hc => (hl c (let_mem.mp hc)).1, fun c d hc hd' e => hj c d (let_mem.mp hc) (let_mem.mp hd') e⟩
      refine ⟨_, rfl, S, rfl, ⟨_, .inl (.inl (s1 _ _ hS))⟩, for_it (walk_tup (K := K) (a := S) (xs := as.map V.ref)) (fun i σ H' => (∃ y4 y5 y6 y7, σ = [some (.ref S), some (.int pl), some (.int n), some (.ref D), y4, y5, y6, y7]) ∧ Same H H' ∧ TurnI H' D ad (es (chs.take i) pl n)) ⟨⟨_, _, _, _, rfl⟩, s1, T1⟩ (fun i σ H' _ h => .inl (.inl (h.2.1 _ _ hS))) ?_ ?_⟩
      · rintro i x σ H2 H3 hi ⟨⟨y4, y5, y6, y7, rfl⟩, s2, t2⟩ ⟨rfl, hx⟩
        rw [List.getElem?_map] at hx
        obtain ⟨p, hp, rfl⟩ := Option.map_eq_some_iff.mp hx
        obtain ⟨ch, hch, hH⟩ := hE.get hp
        obtain ⟨o1, o2, o3⟩ := ok.2 ch (List.mem_of_getElem? hch)
        have etk : chs.take (i + 1) = chs.take i ++ [ch] := by rw [List.take_add_one, hch]; rfl
        have lenE : ∀ c, ((nbrs (es (chs.take i) pl n) c).map sgV).length < sizeLine := fun c => by
          rw [List.length_map]
          have h1 := nbrs_len (es (chs.take i) pl n) c
          have h2 := es_len (chs.take i) pl n
          have h3 : (chs.take i).length ≤ chs.length := List.length_take_le' _ _
          have h4 := ok.1
          exact small1000 (by omega)
        refine ⟨p, _, rfl, .inl (.inl (s2 _ _ hH)), rfl, _, _, rfl, _, _, rfl, _, _, rfl, rfl, ?_⟩
        refine ⟨_, rfl, _, rfl, _, rfl, ch.2.2, pl, n, rfl, _, rfl, ite_b (fun e => ?_) (fun e => ?_)⟩
        · refine ⟨_, rfl, _, rfl, D, _, rfl, t2.val o1, .inl ⟨rfl, _, .inl (.inl (t2.lst _ o1))⟩, _, rfl, ad ch.1, _, _, rfl, rfl, t2.lst _ o1, lenE _, ?_⟩
          have nab : ad ch.2.1 ≠ ad ch.1 := fun e => o3 (t2.inj _ _ o2 o1 e).symm
          have hb : upd H3 (ad ch.1) (.lst ((nbrs (es (chs.take i) pl n) ch.1).map sgV ++ [sgV ch.2.1])) (ad ch.2.1) = some (.lst ((nbrs (es (chs.take i) pl n) ch.2.1).map sgV)) := by
            rw [upd_ne nab]
            exact t2.lst _ o2
          have hDg : DGet (upd H3 (ad ch.1) (.lst ((nbrs (es (chs.take i) pl n) ch.1).map sgV ++ [sgV ch.2.1]))) D (sgV ch.2.1) (some (.ref (ad ch.2.1))) := by
            have nD : D ≠ ad ch.1 := ne_of t2.dict (t2.lst _ o1) (by intro z; cases z)
            have := DGet.k (k := kS ch.2.1) (show upd H3 (ad ch.1) (.lst ((nbrs (es (chs.take i) pl n) ch.1).map sgV ++ [sgV ch.2.1])) D = _ by rw [upd_ne nD]; exact t2.dict)
            rw [valV_kvL, if_pos (let_mem.mp o2)] at this
            exact this
          refine ⟨_, rfl, _, rfl, D, _, rfl, hDg, .inl ⟨rfl, _, .inl (.inl hb)⟩, _, rfl, ad ch.2.1, _, _, rfl, rfl, hb, lenE _, ⟨_, _, _, _, rfl⟩, ?_, ?_⟩
          · exact same_mut (same_mut s2 (hl _ (let_mem.mp o1)).2) (hl _ (let_mem.mp o2)).2
          · rw [etk, es_snoc, if_pos e]
            exact t2.push o1 o2 o3
        · refine ⟨⟨_, _, _, _, rfl⟩, s2, ?_⟩
          rw [etk, es_snoc, if_neg (by rw [e]; decide), List.append_nil]
          exact t2
      · rintro σ H2 ⟨⟨y4, y5, y6, y7, rfl⟩, s2, t2⟩
        have : chs.take (as.map V.ref).length = chs := by rw [List.length_map, hE.length, List.take_length]
        rw [this] at t2
        exact ⟨_, rfl, q D H2 s2 ⟨ad, t2⟩⟩
end
end Wl





namespace Wl
open PySem PySem.Spec PyProof.Rows L2
abbrev Tw := List (Nat × Option Nat)
def oS : Option Nat → V
  | none => .non
  | some d => sgV d
def twK (tw : Tw) : List (Key × V) := tw.map fun p => (kS p.1, oS p.2)
theorem twK_snoc (tw : Tw) (c : Nat) (o : Option Nat) : twK (tw ++ [(c, o)]) = twK tw ++ [(kS c, oS o)] := by
  unfold twK
  rw [List.map_append]
  rfl
theorem twK_in (tw : Tw) (c : Nat) : (valV (twK tw) (kS c)).isSome = decide (c ∈ tw.map (·.1)) := by
  rw [← valV_any]
  induction tw with
  | nil => rfl
  | cons p r ih =>
    have e : twK (p :: r) = (kS p.1, oS p.2) :: twK r := rfl
    rw [e, List.any_cons, ih, List.map_cons]
    by_cases h : p.1 = c
    · subst h
      simp
    · have h1 : ¬ kS p.1 = kS c := fun q => h (kS_inj q)
      have h2 : ¬ c = p.1 := fun q => h q.symm
      rw [decide_eq_false h1]
      simp [h2]
theorem twK_none {tw : Tw} {c : Nat} (h : c ∉ tw.map (·.1)) : valV (twK tw) (kS c) = none := by
  have := twK_in tw c
  rw [decide_eq_false h] at this
  cases q : valV (twK tw) (kS c) with
  | none => rfl
  | some v => rw [q] at this; cases this
theorem twK_val : ∀ {tw : Tw} {i c : Nat} {o : Option Nat}, (tw.map (·.1)).Nodup → tw[i]? = some (c, o) → valV (twK tw) (kS c) = some (oS o)
  | [], i, c, o, _, h => by simp at h
  | p :: r, 0, c, o, _, h => by
    simp at h
    subst h
    exact valV_pos rfl
  | p :: r, i + 1, c, o, nd, h => by
    rw [List.map_cons, List.nodup_cons] at nd
    have h' : r[i]? = some (c, o) := by simpa using h
    have hm : c ∈ r.map (·.1) := List.mem_map.mpr ⟨_, List.mem_of_getElem? h', rfl⟩
    have e : valV (twK (p :: r)) (kS c) = valV (twK r) (kS c) := valV_neg fun q => by
      have := kS_inj q
      rw [this] at nd
      exact nd.1 hm
    rw [e]
    exact twK_val nd.2 h'
section
variable {P : Program} {w : World} {K : PySem.W.Frag} {mg : Str → Option Value} {base : Heap} {f : Addr} {fd : FuncData}
def spSteps : Sp := fun vs H Q _ => ∃ (g : Nat) (D : Addr) (E : Edges), vs = [sgV g, .ref D] ∧ isLet g ∧ TurnAt H D E ∧ OkE E ∧ E.length ≤ 12 ∧ ∀ (W : Addr) (tw : Tw) (H' : Hp), Same H H' → H' W = some (.dK (twK tw)) → Bfs E g tw tw.length → Q (.ref W) H'
abbrev nSteps : List Str := ["goal", "turned", "toward", "waiting", "at", "letter", "ahead"]
theorem scSteps : FnScope nSteps ["goal", "turned"] (defScope wSteps) := ⟨rfl, rfl, rfl, by decide +kernel, rfl, by decide +kernel, by decide +kernel⟩
theorem ok_steps (F : Fun K "steps_toward" "steps_toward" wSteps f fd) (B : Bi mg) : FnOk P w K mg base CX0 1 f fd ["goal", "turned"] spSteps := by
  refine F.ok scSteps (fun vs H Q E h => ?_) (fun cdv A outer s H vs Q E hr h => ?_)
  · obtain ⟨g, D, E, rfl, _⟩ := h
    rfl
  · obtain ⟨g, D, Ed, rfl, hg, ⟨ad, t⟩, okE, lE, q⟩ := h
    refine ⟨_, pss_cons (ps_set (i := 2) scSteps.nd rfl (.inl rfl) (pe_disp (pps_cons (pv 0) pe_non pps_nil) rfl rfl (by simp) (by decide)))
      (pss_cons (ps_set (i := 3) scSteps.nd rfl (.inl rfl) (pe_lst (pa_cons (pv 0) pa_nil)))
      (pss_cons (ps_set (i := 4) scSteps.nd rfl (.inl rfl) pe_int)
      (pss_cons (ps_while PassesOwn.never (pt_cmpR op_lt (pv 4) (pe_callB call_len_seq (by rfl) B.len PySem.boot_len (pa_cons (pv 3) pa_nil)) (nomark _))
        (pss_cons (ps_set (i := 5) scSteps.nd rfl (.inl rfl) (pe_ix ix_list (pv 3) (pv 4) (fun _ _ => rfl)))
        (pss_cons (ps_for PassesOwn.never rfl (pi_list (pe_dget (room1 hr) (pv 1) (pv 5) (fun _ _ => rfl))) (pg_name (i := 6) scSteps.nd rfl (.inl rfl))
          (pss_one (ps_if (pt_cmp (pc_dnotin (room1 hr) (pv 6) (pv 2)))
            (pss_cons (ps_dput (room1 hr) (pv 2) (pv 6) (pv 5) rfl)
            (pss_one (ps_expr (pe_bm PySem.F.plainAttrs_list PySem.F.slot_list_append PySem.F.type_list_append mt_append (pv 3) (pa_cons (pv 6) pa_nil))))) pss_nil)))
        (pss_one (ps_aug (i := 4) scSteps.nd rfl (.inl rfl) pe_int ip_add)))))
      (pss_one (ps_ret (pv 2)))))), ?_⟩
    intro W hW
    refine ⟨_, rfl, upd_same, [(kS g, .non)], rfl, by simp, ?_⟩
    have sW : Same H (upd (upd H W (.dK [])) W (.dK (mergeK [] [(kS g, .non)]))) := same_mut (same_new hW) hW
    have eW : (upd (upd H W (.dK [])) W (.dK (mergeK [] [(kS g, .non)]))) W = some (.dK (twK [(g, none)])) := upd_same
    generalize upd (upd H W (.dK [])) W (.dK (mergeK [] [(kS g, .non)])) = H1 at sW eW
    refine ⟨_, rfl, lz, fun L hL => ?_⟩
    have nLW : L ≠ W := (ne_of_none eW hL).symm
    have hL0 : H L = none := sW.free hL
    refine ⟨fun m σ H' => ∃ (tw : Tw) (a : Nat) (y5 y6 : Option V), m = 26 - a ∧ σ = [some (sgV g), some (.ref D), some (.ref W), some (.ref L), some (.int a), y5, y6] ∧ Same H H' ∧ H' W = some (.dK (twK tw)) ∧ H' L = some (.lst (tw.map fun p => sgV p.1)) ∧ Bfs Ed g tw a ∧ a ≤ tw.length,
      ⟨26, [(g, none)], 0, _, _, rfl, rfl, sW.trans (same_new hL), (same_new hL) _ _ eW, upd_same, Bfs.start hg, by simp⟩, ?_⟩
    rintro m σ H2 ⟨tw, a, y5, y6, rfl, rfl, s2, hW2, hL2, b2, ha⟩
    have h26 := b2.len
    refine ⟨_, rfl, _, rfl, L, _, rfl, .inl (.inl (.inl hL2)), _, _, rfl, rfl, _, rfl, ite_b (fun e => ?_) (fun e => ?_)⟩
    · have hlt : a < tw.length := by
        have := of_decide_eq_true e
        rw [List.length_map] at this
        omega
      obtain ⟨⟨x, o⟩, hx⟩ : ∃ p, tw[a]? = some p := ⟨tw[a], List.getElem?_eq_getElem hlt⟩
      have hxl : isLet x := b2.lets x (List.mem_map.mpr ⟨_, List.mem_of_getElem? hx, rfl⟩)
      refine ⟨_, fun σ' H' h => h, ?_⟩
      refine ⟨_, rfl, _, rfl, L, _, _, sgV x, rfl, rfl, .inl (.inl hL2), atI_nat (j := a) (by rw [List.getElem?_map, hx]; rfl), ?_⟩
      have lenN : (nbrs Ed x).length ≤ 24 := by
        have := nbrs_len Ed x
        omega
      refine ⟨_, rfl, _, rfl, D, _, rfl, (t.same s2).val hxl, ad x, rfl, ⟨_, .inl (.inl ((t.same s2).lst x hxl))⟩, for_it (walk_list (K := K) (a := ad x) (xs := (nbrs Ed x).map sgV)) (fun j σ H' => ∃ (tw' : Tw) (y6 : Option V), σ = [some (sgV g), some (.ref D), some (.ref W), some (.ref L), some (.int a), some (sgV x), y6] ∧ Same H H' ∧ H' W = some (.dK (twK tw')) ∧ H' L = some (.lst (tw'.map fun p => sgV p.1)) ∧ Bfs Ed g tw' a ∧ tw'[a]? = some (x, o) ∧ ∀ y ∈ (nbrs Ed x).take j, y ∈ tw'.map (·.1))
        ⟨tw, _, rfl, s2, hW2, hL2, b2, hx, fun y hy => by simp at hy⟩ (fun j σ H' _ h => ?_) ?_ ?_⟩
      · obtain ⟨_, _, _, s3, _⟩ := h
        exact .inl (.inl ((t.same s3).lst x hxl))
      · rintro j v σ H3 H4 hj ⟨tw', y6', rfl, s3, hW3, hL3, b3, hx3, hin⟩ ⟨rfl, hv⟩
        rw [List.getElem?_map] at hv
        obtain ⟨c, hc, rfl⟩ := Option.map_eq_some_iff.mp hv
        have hcn : c ∈ nbrs Ed x := List.mem_of_getElem? hc
        have hcl : isLet c := conn_let okE (Conn.step (.refl x) hcn) hxl
        have l3 := b3.len
        have etk : (nbrs Ed x).take (j + 1) = (nbrs Ed x).take j ++ [c] := by rw [List.take_add_one, hc]; rfl
        refine ⟨_, rfl, _, rfl, W, _, rfl, DGet.k (k := kS c) hW3, _, rfl, ?_⟩
        rw [twK_in]
        refine not_b (fun e => ?_) (fun e => ?_)
        · have hnot := of_decide_eq_false e
          have lK : (twK tw').length < sizeLine := by
            unfold twK
            rw [List.length_map]
            exact small1000 (by omega)
          refine ⟨_, rfl, _, rfl, _, rfl, W, _, rfl, DPut.k (k := kS c) hW3 lK, ?_⟩
          rw [putK_new _ (twK_none hnot)]
          have hL4 : upd H4 W (.dK (twK tw' ++ [(kS c, sgV x)])) L = some (.lst (tw'.map fun p => sgV p.1)) := by
            rw [upd_ne nLW]
            exact hL3
          refine ⟨_, rfl, .inl ⟨rfl, _, .inl (.inl hL4)⟩, _, rfl, L, _, _, rfl, rfl, hL4, ?_, tw' ++ [(c, some x)], _, rfl, ?_, ?_, ?_, b3.push hx3 hcn hcl hnot, ?_, ?_⟩
          · rw [List.length_map]
            exact small1000 (by omega)
          · exact same_mut (same_mut s3 hW) hL0
          · rw [upd_ne nLW.symm, upd_same, twK_snoc]
            rfl
          · rw [upd_same, List.map_append]
            rfl
          · rw [List.getElem?_append_left (List.getElem?_eq_some_iff.mp hx3).1]
            exact hx3
          · intro y hy
            rw [etk] at hy
            rw [List.map_append]
            rcases List.mem_append.mp hy with hy | hy
            · exact List.mem_append_left _ (hin y hy)
            · rw [List.mem_singleton] at hy
              subst hy
              exact List.mem_append_right _ (by simp)
        · have hyes := of_decide_eq_true e
          refine ⟨tw', _, rfl, s3, hW3, hL3, b3, hx3, fun y hy => ?_⟩
          rw [etk] at hy
          rcases List.mem_append.mp hy with hy | hy
          · exact hin y hy
          · rw [List.mem_singleton] at hy
            subst hy
            exact hyes
      · rintro σ H3 ⟨tw', y6', rfl, s3, hW3, hL3, b3, hx3, hin⟩
        have hall : ∀ y ∈ nbrs Ed x, y ∈ tw'.map (·.1) := fun y hy => hin y (by rw [List.length_map, List.take_length]; exact hy)
        have hl3 : a < tw'.length := (List.getElem?_eq_some_iff.mp hx3).1
        exact ⟨_, rfl, _, _, rfl, rfl, 26 - (a + 1), by omega, tw', a + 1, _, _, rfl, rfl, s3, hW3, hL3, b3.next hx3 hall, hl3⟩
    · have hge : tw.length ≤ a := by
        have := of_decide_eq_false e
        rw [List.length_map] at this
        omega
      have : a = tw.length := by omega
      subst this
      exact ⟨_, rfl, q W tw H2 s2 hW2 b2⟩
end
end Wl





namespace Wl
open PySem PySem.Spec PyProof.Rows L2
abbrev wLetAt : Stmt := topS 33
abbrev wMean : Stmt := topS 34
section
variable {P : Program} {w : World} {K : PySem.W.Frag} {mg : Str → Option Value} {base : Heap} {f : Addr} {fd : FuncData}
/-- a def whose last parameter may be left out: None -/
abbrev FunN (K : PySem.W.Frag) (x : Str) (st : Stmt) (f : Addr) (fd : FuncData) : Prop := FunD K x x (defArgs st) (defBody st) (defScope st) [.non] [] f fd
def HasN (P : Program) (w : World) (K : PySem.W.Frag) (mg : Str → Option Value) (base : Heap) (x : Str) (st : Stmt) (k : Nat) (ps : List Str) (sp : Sp) : Prop :=
  ∃ f fd, FnOk P w K mg base CX0 k f fd ps sp ∧ mg x = some (.ref f) ∧ FunN K x st f fd
abbrev ps2 : List Str := ["word", "changes"]
theorem bindM2 {x : Str} (F : FunN K x wMean f fd) : Binds K fd ps2 [] := by
  obtain ⟨ds, h1, h2⟩ := F.binds1 (ps := ps2) 2 1 (by simp) rfl (fun T kV doc pm an cdv ct us its l1 l2 => by
      match us, its, l1, l2 with
      | [a, b], [d], _, _ => exact ⟨_, rfl, rfl⟩)
  cases h1
  exact h2
/-! keywords -/
end
end Wl





namespace Wl
open PySem PySem.Spec PyProof.Rows L2
theorem cut_len (z : Str) (lo hi : Option Int) : (cutS z lo hi).length ≤ z.length := by
  have e : ∀ x : Str, x.length = x.cps.toList.length := fun x => by simp [Str.length]
  rw [e, e]
  show (List.take _ (List.drop _ z.cps.toList)).length ≤ _
  rw [List.length_take, List.length_drop]
  omega
theorem add_len (x y : Str) : (x ++ y).length = x.length + y.length := by
  rw [TL.len_tl, TL.tl_append, List.length_append, ← TL.len_tl, ← TL.len_tl]
theorem codes_len (z : Str) : (codes z).length = z.length := by simp [codes, Str.length]
theorem ones_sum (l : List Nat) : (l.map fun _ => 1).sum = l.length := by
  induction l with
  | nil => rfl
  | cons x r ih => rw [List.map_cons, List.sum_cons, ih, List.length_cons]; omega
section
variable {P : Program} {w : World} {K : PySem.W.Frag} {mg : Str → Option Value} {base : Heap} {f : Addr} {fd : FuncData}
theorem okN {x : Str} {st : Stmt} {N ps : List Str} {k : Nat} {sp : Sp} (F : FunN K x st f fd) (S : FnScope N ps (defScope st)) (len : ∀ vs H Q E, sp vs H Q E → vs.length = ps.length)
    (hbody : ∀ (cdv : Value) (A : Around) (outer : List Env) (s : Shared) (H : Hp) (vs : List V) (Q : VK) (E : XK), Room k (A.deeper (envOfC x (defScope st) s.heap.objs.size f cdv)) → sp vs H Q E →
      ∃ t, PSs (cxOf CX0 P w K mg base N x (defScope st) f cdv A outer s H E).nox (defBody st) t ∧ t { nx := fun _ H' => Q .non H', rt := Q } (start N vs) H) : FnOk P w K mg base CX0 (k + 1) f fd ps sp :=
  F.ok S len fun cdv A outer s H vs Q E hr hsp => let ⟨t, h, q⟩ := hbody cdv A outer s H vs Q E hr hsp; ⟨t, h.nox, q⟩
def spLetAt : Sp := fun vs H Q _ => ∃ (z : Str) (i b : Nat) (S : Addr) (chs : List Chg), vs = [.str z, .int (i : Int), .ref S] ∧ IsWd z ∧ (codes z)[i]? = some b ∧ ChAt H S chs ∧ OkCs chs ∧
  ∀ (L : Addr) (cs : List Nat) (H' : Hp), Same H H' → H' L = some (.lst ((sortS (cs.map sign)).map V.str)) → (∀ d, d ∈ cs ↔ Conn (es chs i (codes z).length) b d) → Q (.ref L) H'
theorem scLetAt : FnScope ["word", "place", "changes"] ["word", "place", "changes"] (defScope wLetAt) := ⟨rfl, rfl, rfl, by decide +kernel, rfl, by decide +kernel, by decide +kernel⟩
theorem ok_letat (F : Fun K "letters_at" "letters_at" wLetAt f fd) (B : Bi mg) (hS : Has P w K mg base "steps_toward" 1 ["goal", "turned"] spSteps) (hT : Has P w K mg base "turned_letters" 2 ["changes", "place", "length"] spTurned) : FnOk P w K mg base CX0 3 f fd ["word", "place", "changes"] spLetAt := by
  refine F.ok scLetAt (fun vs H Q E h => ?_) (fun cdv A outer s H vs Q E hr h => ?_)
  · obtain ⟨z, i, b, S, chs, rfl, _⟩ := h
    rfl
  · obtain ⟨z, i, b, S, chs, rfl, hz, hb, hS', ok, q⟩ := h
    refine ⟨_, pss_one (ps_ret (pe_callB (cr_sortD hr.units) (by rfl) B.sorted (by decide +kernel) (pa_cons (pe_callTy (call_list_dK rfl) (by rfl) B.list (by decide +kernel) (pa_cons (pe_h hS hr (pa_cons (pe_ix ix_str (pv 0) (pv 1) (fun _ _ => rfl)) (pa_cons (pe_h hT hr (pa_cons (pv 2) (pa_cons (pv 1) (pa_cons (pe_callB call_len_str (by rfl) B.len PySem.boot_len (pa_cons (pv 0) pa_nil)) pa_nil)))) pa_nil))) pa_nil)) pa_nil))), ?_⟩
    have z8 := hz.len
    have hbl : isLet b := (wd_codes.mp hz).2 b (List.mem_of_getElem? hb)
    refine ⟨_, rfl, _, rfl, z, _, b, rfl, rfl, lzl (by omega), atI_nat hb, _, rfl, _, rfl, _, rfl, _, rfl, lzl (by omega), S, chs, i, z.length, rfl, hS', ok, fun D H4 s4 t4 => ?_⟩
    rw [← codes_len z] at t4
    refine ⟨b, D, es chs i (codes z).length, rfl, hbl, t4, es_ok ok.2 _ _, Nat.le_trans (es_len _ _ _) ok.1, fun W tw H5 s5 hW bf => ?_⟩
    refine ⟨W, _, rfl, hW, fun L hL => ?_⟩
    have eL : (twK tw).map (fun kv => kV kv.1) = ((tw.map (·.1)).map sign).map V.str := by
      unfold twK
      rw [List.map_map, List.map_map, List.map_map]
      rfl
    dsimp only [tNil]
    refine srt_reads (K := K) (xs := (tw.map (·.1)).map sign) (.inl (.inl (by rw [upd_same, eL]))) fun p hp => ?_
    exact q p (tw.map (·.1)) _ (s4.trans (s5.trans ((same_new hL).trans (same_new hp)))) upd_same fun d => bf.done (Nat.le_refl _)
def spMean : Sp := fun vs H Q _ => ∃ (z : Str) (v : V) (chs : List Chg), vs = [.str z, v] ∧ IsWd z ∧ ChV H v chs ∧ OkCs chs ∧ ∀ (H' : Hp), Same H H' → Q (.str (mean chs z)) H'
abbrev nMean : List Str := ["word", "changes", "known", "place"]
theorem scMean : FnScope nMean ps2 (defScope wMean) := ⟨rfl, rfl, rfl, by decide +kernel, rfl, by decide +kernel, by decide +kernel⟩
theorem room64 {k : Nat} {A : Around} (r : Room k A) : A.units + 64 < cLine := by have := r.un; omega
theorem ok_mean (F : FunN K "meaning" wMean f fd) (B : Bi mg) (hCk : Has P w K mg base "check_word" 2 ["word"] spCheckW) (hCh : Has P w K mg base "checked_changes" 4 ["changes"] spChecked)
    (hL : Has P w K mg base "letters_at" 3 ["word", "place", "changes"] spLetAt) : FnOk P w K mg base CX0 5 f fd ps2 spMean := by
  refine okN F scMean (fun vs H Q E h => ?_) (fun cdv A outer s H vs Q E hr h => ?_)
  · obtain ⟨z, v, chs, rfl, _⟩ := h
    rfl
  · obtain ⟨z, v, chs, rfl, hz, hv, ok, q⟩ := h
    refine ⟨_, pss_cons (ps_expr (pe_h hCk hr (pa_cons (pv 0) pa_nil)))
      (pss_cons (ps_set (i := 2) scMean.nd rfl (.inr rfl) (pe_h hCh hr (pa_cons (pv 1) pa_nil)))
      (pss_one (ps_ret (pe_join pe_str (pe_lc (own := [("place", 3)]) (g := gName 3) (tt := tYes) (te := tOp (rIxL K) (tCall spLetAt [] E0 (tCons (tVar 0) (tCons (tVar 3) (tCons (tVar 2) tNil)))) (tC (.int 0))) rfl scMean.nd (pi_range1 rfl B.range (pa_cons (pe_callB call_len_str (by rfl) B.len PySem.boot_len (pa_cons (pv 0) pa_nil)) pa_nil)) (blkOk_by (N := nMean) (sc := defScope wMean) (by decide +kernel))
        (fun _ _ _ _ _ => pg_name (i := 3) scMean.nd rfl (.inl rfl)) (fun _ _ _ _ _ => pts_nil) (fun _ _ _ _ _ => pe_ix ix_list (pe_h hL hr (pa_cons (pv 0) (pa_cons (pv 3) (pa_cons (pv 2) pa_nil)))) pe_int (fun _ _ => rfl))))))), ?_⟩
    have z8 := hz.len
    refine ⟨_, rfl, z, rfl, hz, fun Ha sa => ⟨_, rfl, v, chs, rfl, hv.same sa, ok, fun S H1 s1 hS => ?_⟩⟩
    have s01 : Same H H1 := sa.trans s1
    refine ⟨⟨_, rfl⟩, _, rfl, _, rfl, lzl (by omega), (z.length : Int), rfl, by omega, by omega, fun D hD => lc_range (lo := 0) (n := z.length) (fun i H' => Same H1 H' ∧ H' D = some (.lst ((((codes (mean chs z)).take i).map sign).map V.str))) ⟨same_new hD, upd_same⟩ ?_ ?_⟩
    · rintro i H2 hi ⟨s2, hD2⟩
      obtain ⟨b, hb⟩ : ∃ b, (codes z)[i]? = some b := ⟨_, List.getElem?_eq_getElem (by rw [codes_len]; exact hi)⟩
      have ei : (0 : Int) + (i : Int) = (i : Int) := by omega
      rw [ei]
      refine ⟨rfl, yes_it ⟨_, rfl, _, rfl, _, rfl, z, i, b, S, chs, rfl, hz, hb, hS.same s2, ok, fun L cs H3 s3 hL3 hcs => ?_⟩⟩
      have hlo : ∀ d ∈ cs, lo (es chs i (codes z).length) b ≤ d := fun d hd => lo_le ((hcs d).mp hd)
      have hhd := head_sortS ((hcs _).mpr (lo_conn (es chs i (codes z).length) b)) hlo
      refine ⟨L, _, 0, .str (sign (lo (es chs i (codes z).length) b)), rfl, rfl, .inl (.inl hL3), atI_nat (j := 0) (by rw [List.getElem?_map, hhd]; rfl), _, s3 _ _ hD2, ?_, same_mut (s2.trans s3) hD, ?_⟩
      · rw [List.length_map, List.length_map]
        have h1 : ((codes (mean chs z)).take i).length ≤ (codes (mean chs z)).length := List.length_take_le' _ _
        rw [mean_len, codes_len] at h1
        exact small1000 (by omega)
      · rw [upd_same, List.take_add_one, mean_at chs z hb, List.map_append, List.map_append]
        rfl
    · rintro H2 ⟨s2, hx⟩
      have e1 : (codes (mean chs z)).take z.length = codes (mean chs z) := by rw [← codes_len z, ← mean_len chs z, List.take_length]
      rw [e1] at hx
      refine ⟨_, D, (codes (mean chs z)).map sign, rfl, rfl, .inl (.inl (.inl hx)), ?_, ?_⟩
      · have e0 : ("" : Str).length = 0 := by decide +kernel
        have e1 : ((codes (mean chs z)).map sign).map (·.length) = (codes (mean chs z)).map fun _ => 1 := by
          rw [List.map_map]
          rfl
        rw [e0, e1, Nat.mul_zero, ones_sum, mean_len, codes_len]
        omega
      · have e2 : Txt.join ("" : Str) ((codes (mean chs z)).map sign) = mean chs z := str_ext (join_signs _)
        rw [e2]
        exact q H2 (s01.trans s2)
end
end Wl





namespace Wl
open PySem PySem.Spec PyProof.Rows L2

/-! ### the text by places -/
abbrev sCell : Stmt := topS 63
abbrev sPurse : Stmt := topS 64
abbrev sPick : Stmt := topS 65
abbrev sMenu : Stmt := topS 66
abbrev sWord : Stmt := topS 67

section
variable {P : Program} {w : World} {K : PySem.W.Frag} {mg : Str → Option Value} {base : Heap} {f : Addr} {fd : FuncData}

/-! ### a cell of the script: some int -/
def spCell (K : PySem.W.Frag) : Sp := fun vs H Q _ => ∃ (a : Addr) (ns : List Int) (k : Int), vs = [.ref a, .int k] ∧ SqL K H a (ns.map V.int) ∧ 0 ≤ k ∧ k ≤ 63 ∧
  ∀ (v : Int) (H' : Hp), Same H H' → Q (.int v) H'
theorem scCell : FnScope ["_law_script", "_law_k", "_law_state", "_law_cell_here"] ["_law_script", "_law_k"] (defScope sCell) :=
  ⟨rfl, rfl, rfl, by decide +kernel, rfl, by decide +kernel, by decide +kernel⟩
theorem mem_cut {xs : List V} {lo hi : Option Int} {v : V} (h : v ∈ cutV xs lo hi) : v ∈ xs := List.mem_of_mem_drop (List.mem_of_mem_take h)
theorem ok_cell (F : Fun K "_law_cell" "_law_cell" sCell f fd) (B : Bi mg) : FnOk P w K mg base CX0 1 f fd ["_law_script", "_law_k"] (spCell K) := by
  refine F.ok scCell (fun vs H Q E h => ?_) (fun cdv A outer s H vs Q E hr h => ?_)
  · obtain ⟨a, ns, k, rfl, _⟩ := h
    rfl
  · obtain ⟨a, ns, k, rfl, hS, k0, k1, q⟩ := h
    refine ⟨_, pss_cons (ps_if (pt_cmpR op_lt (pv 1) (pe_callB call_len_seq (by rfl) B.len PySem.boot_len (pa_cons (pv 0) pa_nil)) (nomark _)) (pss_one (ps_ret (pe_ix ix_list (pv 0) (pv 1) (fun _ _ => rfl)))) pss_nil)
      (pss_cons (ps_set (i := 2) scCell.nd rfl (.inl rfl) (pe_op op_mod (pe_op op_mul pe_int (pe_op op_add (pe_op op_add (pe_op op_mul (pv 1) (pv 1)) (pe_op op_mul pe_int (pv 1))) pe_int)) pe_int))
      (pss_cons (ps_for PassesOwn.never rfl (pi_list (pe_slice sl_list (pv 0) po_none (po_some pe_int))) (pg_name (i := 3) scCell.nd rfl (.inl rfl))
        (pss_one (ps_set (i := 2) scCell.nd rfl (.inl rfl) (pe_op op_mod (pe_op op_add (pe_op op_mul (pv 2) pe_int) (pv 3)) pe_int))))
      (pss_one (ps_ret (pv 2))))), ?_⟩
    refine ⟨_, rfl, .ref a, rfl, a, _, rfl, .inl hS, _, _, rfl, rfl, _, rfl, ite_b (fun e => ?_) (fun e => ?_)⟩
    · have hk : k < ((ns.map V.int).length : Int) := of_decide_eq_true e
      rw [List.length_map] at hk
      have hk2 : k.toNat < ns.length := by omega
      refine ⟨_, rfl, _, rfl, a, _, k, .int ns[k.toNat], rfl, rfl, hS, at_of (j := k.toNat) (by omega) ?_, q _ H (Same.refl H)⟩
      rw [List.getElem?_map, List.getElem?_eq_getElem hk2]
      rfl
    · refine ⟨_, rfl, _, rfl, k, k, rfl, rfl, .inl ⟨by omega, by omega⟩, _, rfl, 5, k, rfl, rfl, .inl ⟨by decide, by decide⟩, _, _, rfl, rfl, _, _, rfl, rfl, _, _, rfl, rfl, .inl ⟨by decide, by decide⟩, _, _, rfl, rfl, (show (0 : Int) < 1000000033 by decide), ?_⟩
      refine ⟨_, rfl, 4, rfl, a, _, rfl, hS, fun p hp => ?_⟩
      have hc : SqL K (upd H p (.lst (cutV (ns.map V.int) none (some 4)))) p (cutV (ns.map V.int) none (some 4)) := .inl (.inl upd_same)
      refine ⟨p, rfl, ⟨_, hc⟩, for_list (K := K) (a := p) (xs := cutV (ns.map V.int) none (some 4)) (fun i σ H' => (∃ (z : Int) (y : Option V), σ = [some (.ref a), some (.int k), some (.int z), y]) ∧ H' = upd H p (.lst (cutV (ns.map V.int) none (some 4))))
        ⟨⟨_, _, rfl⟩, rfl⟩ (fun i σ H' _ h => by rw [h.2]; exact hc) ?_ ?_⟩
      · rintro i x σ H' hx ⟨⟨z, y, rfl⟩, rfl⟩
        obtain ⟨n, rfl⟩ : ∃ n, x = V.int n := by
          obtain ⟨n, _, e⟩ := List.mem_map.mp (mem_cut (List.mem_of_getElem? hx))
          exact ⟨n, e.symm⟩
        refine ⟨_, rfl, z, 30029, rfl, rfl, .inr ⟨by decide, by decide⟩, _, rfl, _, _, rfl, rfl, _, _, rfl, rfl, (show (0 : Int) < 1000000033 by decide), ⟨⟨_, _, rfl⟩, rfl⟩⟩
      · rintro σ H' ⟨⟨z, y, rfl⟩, rfl⟩
        exact ⟨_, rfl, q _ _ (same_new hp)⟩

/-! ### the purse -/
def PurseAt (H : Hp) (a : Addr) : Prop := ∃ s b c : Int, H a = some (.lst [.int s, .int b, .int c]) ∧ 0 ≤ b
theorem PurseAt.same {H H' : Hp} {a : Addr} (h : PurseAt H a) (s : Same H H') : PurseAt H' a := by
  obtain ⟨s0, b, c, ha, hb⟩ := h
  exact ⟨s0, b, c, s _ _ ha, hb⟩
theorem PurseAt.ne {H : Hp} {a p : Addr} (h : PurseAt H a) (hp : H p = none) : p ≠ a := by
  obtain ⟨s0, b, c, ha, hb⟩ := h
  exact (ne_of_none ha hp).symm
theorem PurseAt.lst {H : Hp} {a : Addr} (h : PurseAt H a) : ∃ ys, H a = some (.lst ys) := by
  obtain ⟨s0, b, c, ha, hb⟩ := h
  exact ⟨_, ha⟩
def spPurse : Sp := fun vs H Q _ => ∃ (n : Int), vs = [.int n] ∧ ∀ (a : Addr) (H' : Hp), H a = none → Same H H' → PurseAt H' a → Q (.ref a) H'
theorem scPurse : FnScope ["_law_cell_here"] ["_law_cell_here"] (defScope sPurse) :=
  ⟨rfl, rfl, rfl, by decide +kernel, rfl, by decide +kernel, by decide +kernel⟩
theorem ok_purse (F : Fun K "_law_purse" "_law_purse" sPurse f fd) (B : Bi mg) : FnOk P w K mg base CX0 1 f fd ["_law_cell_here"] spPurse := by
  refine F.ok scPurse (fun vs H Q E h => ?_) (fun cdv A outer s H vs Q E hr h => ?_)
  · obtain ⟨n, rfl, _⟩ := h
    rfl
  · obtain ⟨n, rfl, q⟩ := h
    refine ⟨_, pss_one (ps_ret (pe_lst (pa_cons (pe_op op_add (pe_op op_mul (pe_op op_mod (pv 0) pe_int) pe_int) pe_int)
      (pa_cons (pe_ix ix_list (pe_lst (pa_cons pe_int (pa_cons (pv 0) pa_nil))) (pe_callTy call_int1 (by rfl) B.int (by decide +kernel) (pa_cons (pe_cmpR op_ge (pv 0) (pe_op op_pow pe_int pe_int) (nomark _)) pa_nil)) (fun _ _ => rfl))
      (pa_cons pe_int pa_nil))))), ?_⟩
    refine ⟨_, rfl, _, _, rfl, rfl, (show (0 : Int) < 1000000033 by decide), _, _, rfl, rfl, .inr ⟨by decide, by decide⟩, _, _, rfl, rfl, _, rfl, lz, fun p hp => ?_⟩
    have e18 : (10 : Int) ^ (18 : Int).toNat = 1000000000000000000 := by decide
    refine ⟨_, rfl, 10, 18, rfl, rfl, ⟨by decide, by decide, by decide⟩, _, _, rfl, rfl, .inr ⟨_, rfl, ?_⟩⟩
    refine ⟨p, [.int 0, .int n], _, .int (if decide ((10 : Int) ^ (18 : Int).toNat ≤ n) = true then n else 0), rfl, rfl, .inl (.inl upd_same), ?_, lz, fun a ha => ?_⟩
    · by_cases c : (10 : Int) ^ (18 : Int).toNat ≤ n
      · simp only [decide_eq_true c, if_true]
        exact atI_nat (j := 1) rfl
      · simp only [decide_eq_false c]
        exact atI_nat (j := 0) rfl
    · have hp2 : Same H (upd H p (.lst [.int 0, .int n])) := same_new hp
      refine q a _ (hp2.free ha) (hp2.trans (same_new ha)) ⟨_, _, _, upd_same, ?_⟩
      by_cases c : (10 : Int) ^ (18 : Int).toNat ≤ n
      · simp only [decide_eq_true c, if_true]
        rw [e18] at c
        omega
      · simp only [decide_eq_false c]
        exact Int.le_refl 0
/-! ### a pick: some number below many -/
def spPick : Sp := fun vs H Q _ => ∃ (a : Addr) (m : Int), vs = [.ref a, .int m] ∧ PurseAt H a ∧ 0 < m ∧ m < 1073741824 ∧
  ∀ (r : Int) (H' : Hp), 0 ≤ r → r < m → PurseAt H' a → SameX a H H' → (∀ p, H p = none → H' p = none) → Q (.int r) H'
theorem scPick : FnScope ["_law_purse_here", "_law_many", "_law_state", "_law_taken"] ["_law_purse_here", "_law_many"] (defScope sPick) :=
  ⟨rfl, rfl, rfl, by decide +kernel, rfl, by decide +kernel, by decide +kernel⟩
theorem none_upd {H : Hp} {a : Addr} {o u : HO} (h : H a = some o) : ∀ p, H p = none → upd H a u p = none := fun p hp => by
  rw [upd_ne (ne_of_none h hp).symm]
  exact hp
theorem ok_pick (F : Fun K "_law_pick" "_law_pick" sPick f fd) : FnOk P w K mg base CX0 1 f fd ["_law_purse_here", "_law_many"] spPick := by
  refine F.ok scPick (fun vs H Q E h => ?_) (fun cdv A outer s H vs Q E hr h => ?_)
  · obtain ⟨a, m, rfl, _⟩ := h
    rfl
  · obtain ⟨a, m, rfl, ⟨s0, b, c, ha, hb⟩, m0, m1, q⟩ := h
    refine ⟨_, pss_cons (ps_asg (pe_op op_add (pe_ix ix_list (pv 0) pe_int (fun _ _ => rfl)) pe_int) (pg_sub (pv 0) pe_int set_list))
      (pss_cons (ps_set (i := 2) scPick.nd rfl (.inl rfl) (pe_op op_mod (pe_ix ix_list (pv 0) pe_int (fun _ _ => rfl)) pe_int))
      (pss_cons (ps_asg (pe_op op_add (pe_op op_mul (pv 2) (pe_op op_add (pe_op op_mod (pv 2) pe_int) pe_int)) (pe_op op_mul pe_int (pe_ix ix_list (pv 0) pe_int (fun _ _ => rfl)))) (pg_sub (pv 0) pe_int set_list))
      (pss_cons (ps_if (pt_cmpR op_gt (pe_ix ix_list (pv 0) pe_int (fun _ _ => rfl)) pe_int (nomark _))
        (pss_cons (ps_set (i := 3) scPick.nd rfl (.inl rfl) (pe_op op_mod (pe_ix ix_list (pv 0) pe_int (fun _ _ => rfl)) (pv 1)))
        (pss_cons (ps_asg (pe_op op_fdiv (pe_ix ix_list (pv 0) pe_int (fun _ _ => rfl)) (pv 1)) (pg_sub (pv 0) pe_int set_list))
        (pss_one (ps_ret (pv 3))))) pss_nil)
      (pss_one (ps_ret (pe_op op_mod (pe_op op_fdiv (pe_op op_mod (pe_ix ix_list (pv 0) pe_int (fun _ _ => rfl)) pe_int) pe_int) (pv 1))))))), ?_⟩
    have hmod : ∀ x : Int, 0 ≤ x % 1000000033 ∧ x % 1000000033 < 1000000033 := fun x => by omega
    refine ⟨_, rfl, a, _, 2, .int c, rfl, rfl, .inl (.inl ha), atI_nat (j := 2) rfl, _, _, rfl, rfl, _, rfl, a, _, 2, 2, rfl, rfl, ha, rfl, ?_⟩
    refine ⟨_, rfl, a, _, 0, .int s0, rfl, rfl, .inl (.inl upd_same), atI_nat (j := 0) rfl, _, _, rfl, rfl, (show (0 : Int) < 1000000033 by decide), ?_⟩
    refine ⟨_, rfl, _, rfl, _, _, rfl, rfl, (show (0 : Int) < 60013 by decide), _, _, rfl, rfl, _, _, rfl, rfl, .inl ⟨by have := hmod s0; omega, by have := hmod s0; omega⟩,
      _, rfl, a, _, 2, _, rfl, rfl, .inl (.inl upd_same), atI_nat (j := 2) rfl, _, _, rfl, rfl, .inl ⟨by decide, by decide⟩, _, _, rfl, rfl, _, rfl, a, _, 0, 0, rfl, rfl, upd_same, rfl, ?_⟩
    refine ⟨_, rfl, a, _, 1, .int b, rfl, rfl, .inl (.inl upd_same), atI_nat (j := 1) rfl, _, _, rfl, rfl, _, rfl, ite_b (fun e => ?_) (fun e => ?_)⟩
    · refine ⟨_, rfl, a, _, 1, .int b, rfl, rfl, .inl (.inl upd_same), atI_nat (j := 1) rfl, _, rfl, b, m, rfl, rfl, m0, ?_⟩
      refine ⟨_, rfl, a, _, 1, .int b, rfl, rfl, .inl (.inl upd_same), atI_nat (j := 1) rfl, _, rfl, b, m, rfl, rfl, ⟨m0, m1⟩, _, rfl, a, _, 1, 1, rfl, rfl, upd_same, rfl, ?_⟩
      refine ⟨_, rfl, q _ _ (Int.emod_nonneg _ (by omega)) (Int.emod_lt_of_pos _ m0) ⟨_, _, _, upd_same, ?_⟩ (((sameX_upd).trans sameX_upd).trans sameX_upd) fun p hp => ?_⟩
      · exact Int.ediv_nonneg hb (by omega)
      · exact none_upd upd_same p (none_upd upd_same p (none_upd ha p hp))
    · refine ⟨_, rfl, a, _, 0, _, rfl, rfl, .inl (.inl upd_same), atI_nat (j := 0) rfl, _, _, rfl, rfl, (show (0 : Int) < 1000000033 by decide), _, _, rfl, rfl, ⟨by decide, by decide⟩, _, rfl, _, m, rfl, rfl, m0, ?_⟩
      exact q _ _ (Int.emod_nonneg _ (by omega)) (Int.emod_lt_of_pos _ m0) ⟨_, _, _, upd_same, hb⟩ ((sameX_upd).trans sameX_upd) fun p hp => none_upd upd_same p (none_upd ha p hp)

/-! ### the menu, a word -/
def menuW : List Str := ["put", "doubt", "strike", "back", "change", "one", "map", "words", "parted", "line", "rings", "thin", "fate", "asks", "habit", "apart", "near", "paper", "ok", "no", "none", "self", "may", "not", "has", "any"]
theorem menu_wd : ∀ z ∈ menuW, IsWd z := by decide +kernel
theorem menu_len : menuW.length = 26 := by decide +kernel
def spMenu : Sp := fun vs H Q _ => vs = [] ∧ ∀ (p : Addr) (H' : Hp), H p = none → Same H H' → H' p = some (.lst (menuW.map V.str)) → Q (.ref p) H'
theorem scMenu : FnScope ["_law_some"] [] (defScope sMenu) := ⟨rfl, rfl, rfl, by decide +kernel, rfl, by decide +kernel, by decide +kernel⟩
theorem ok_menu (F : Fun K "_law_menu" "_law_menu" sMenu f fd) : FnOk P w K mg base CX0 1 f fd [] spMenu := by
  refine F.ok scMenu (fun vs H Q E h => ?_) (fun cdv A outer s H vs Q E hr h => ?_)
  · obtain ⟨rfl, _⟩ := h
    rfl
  · obtain ⟨rfl, q⟩ := h
    refine ⟨_, pss_cons (ps_set (i := 0) scMenu.nd rfl (.inl rfl) (pe_lst (pa_cons pe_str (pa_cons pe_str (pa_cons pe_str (pa_cons pe_str (pa_cons pe_str (pa_cons pe_str (pa_cons pe_str (pa_cons pe_str (pa_cons pe_str (pa_cons pe_str (pa_cons pe_str (pa_cons pe_str pa_nil))))))))))))))
      (pss_cons (ps_set (i := 0) scMenu.nd rfl (.inl rfl) (pe_op op_cat (pv 0) (pe_lst (pa_cons pe_str (pa_cons pe_str (pa_cons pe_str (pa_cons pe_str (pa_cons pe_str (pa_cons pe_str (pa_cons pe_str (pa_cons pe_str (pa_cons pe_str (pa_cons pe_str (pa_cons pe_str (pa_cons pe_str pa_nil)))))))))))))))
      (pss_one (ps_ret (pe_op op_cat (pv 0) (pe_lst (pa_cons pe_str (pa_cons pe_str pa_nil))))))), ?_⟩
    refine ⟨lz, fun p1 h1 => ?_⟩
    refine ⟨_, rfl, lz, fun p2 h2 => ⟨p1, p2, _, _, rfl, rfl, (same_new h2) _ _ upd_same, upd_same, lz, fun p3 h3 => ?_⟩⟩
    refine ⟨_, rfl, lz, fun p4 h4 => ⟨p3, p4, _, _, rfl, rfl, (same_new h4) _ _ upd_same, upd_same, lz, fun p5 h5 => ?_⟩⟩
    exact q p5 _ (Same.free (((same_new h1).trans (same_new h2)).trans ((same_new h3).trans (same_new h4))) h5) ((((same_new h1).trans (same_new h2)).trans ((same_new h3).trans (same_new h4))).trans (same_new h5)) upd_same

def spWord : Sp := fun vs H Q _ => ∃ (a : Addr), vs = [.ref a] ∧ PurseAt H a ∧ ∀ (z : Str) (H' : Hp), IsWd z → PurseAt H' a → SameX a H H' → Q (.str z) H'
abbrev nWord : List Str := ["_law_purse_here", "_law_way", "_law_wide", "_law_size", "_law_k"]
theorem scWord : FnScope nWord ["_law_purse_here"] (defScope sWord) :=
  ⟨rfl, rfl, rfl, by decide +kernel, rfl, by decide +kernel, by decide +kernel⟩
theorem ok_word (F : Fun K "_law_word" "_law_word" sWord f fd) (B : Bi mg) (hp : Has P w K mg base "_law_pick" 1 ["_law_purse_here", "_law_many"] spPick) (hm : Has P w K mg base "_law_menu" 1 [] spMenu) :
    FnOk P w K mg base CX0 2 f fd ["_law_purse_here"] spWord := by
  refine F.ok scWord (fun vs H Q E h => ?_) (fun cdv A outer s H vs Q E hr h => ?_)
  · obtain ⟨a, rfl, _⟩ := h
    rfl
  · obtain ⟨a, rfl, hA, q⟩ := h
    refine ⟨_, pss_cons (ps_asg (pe_tup (pa_cons (pe_h hp hr (pa_cons (pv 0) (pa_cons pe_int pa_nil))) (pa_cons (pe_ix ix_list (pe_lst (pa_cons pe_int (pa_cons pe_int (pa_cons pe_int pa_nil)))) (pe_h hp hr (pa_cons (pv 0) (pa_cons pe_int pa_nil))) (fun _ _ => rfl)) pa_nil)))
        (pg_tup rfl (pgs_cons (pg_name (i := 1) scWord.nd rfl (.inl rfl)) (pgs_cons (pg_name (i := 2) scWord.nd rfl (.inr rfl)) pgs_nil))))
      (pss_cons (ps_if (pt_cmpR op_eq (pv 1) pe_int (nomark _)) (pss_one (ps_ret (pe_ix ix_list (pe_h0 hm hr) (pe_h hp hr (pa_cons (pv 0) (pa_cons pe_int pa_nil))) (fun _ _ => rfl)))) pss_nil)
      (pss_cons (ps_set (i := 3) scWord.nd rfl (.inl rfl) (pe_ix ix_list (pe_lst (pa_cons pe_int (pa_cons pe_int (pa_cons pe_int (pa_cons pe_int (pa_cons (pe_op op_add pe_int (pe_h hp hr (pa_cons (pv 0) (pa_cons pe_int pa_nil)))) pa_nil)))))) (pe_h hp hr (pa_cons (pv 0) (pa_cons pe_int pa_nil))) (fun _ _ => rfl)))
      (pss_one (ps_ret (pe_join pe_str (pe_lc (own := [("_law_k", 4)]) (g := gName 4) (tt := tYes) rfl scWord.nd (pi_range1 (by rfl) B.range (pa_cons (pv 3) pa_nil)) (blkOk_by (N := nWord) (sc := defScope sWord) (by decide +kernel))
        (fun _ _ _ _ _ => pg_name (i := 4) scWord.nd rfl (.inl rfl)) (fun _ _ _ _ _ => pts_nil) (fun _ _ _ _ _ => pe_ix ix_str pe_str (pe_h hp hr (pa_cons (pv 0) (pa_cons (pv 2) pa_nil))) (fun _ _ => rfl)))))))), ?_⟩
    -- way, wide
    refine ⟨_, rfl, a, 4, rfl, hA, by decide, by decide, fun r1 H1 r10 r11 hA1 s1 n1 => ?_⟩
    refine ⟨lz, fun p hp => ⟨_, rfl, a, 3, rfl, hA1.same (same_new hp), by decide, by decide, fun r2 H2 r20 r21 hA2 s2 n2 => ?_⟩⟩
    have npa := hA1.ne hp
    obtain ⟨wd, hwm, hwd⟩ := atI_tab (ns := [3, 5, 26]) r20 r21
    have hw : 0 < wd ∧ wd ≤ 26 := by
      simp only [List.mem_cons, List.not_mem_nil, or_false] at hwm
      omega
    have s2' : SameX a H H2 := (s1.trans (sx (same_new hp))).trans s2
    refine ⟨p, _, r2, .int wd, rfl, rfl, .inl (.inl (s2 _ _ npa upd_same)), hwd, lz, fun t ht => ?_⟩
    refine ⟨t, _, rfl, .inl (.inl upd_same), rfl, _, _, rfl, _, _, rfl, rfl, ?_⟩
    have hA3 := hA2.same (same_new (o := .tup [.int r1, .int wd]) ht)
    have s3 : SameX a H _ := s2'.trans (sx (same_new (o := .tup [.int r1, .int wd]) ht))
    generalize upd H2 t (.tup [.int r1, .int wd]) = H3 at hA3 s3
    refine ⟨_, rfl, rfl, _, rfl, ite_b (fun e => ?_) (fun e => ?_)⟩
    · -- menu()[..]
      refine ⟨rfl, fun p4 H4 hp4 s4 h4 => ⟨_, rfl, a, 26, rfl, hA3.same s4, by decide, by decide, fun r5 H5 r50 r51 hA5 s5 n5 => ?_⟩⟩
      obtain ⟨z, hz, hzi⟩ := atI_strs (zs := menuW) r50 (by rw [menu_len]; exact r51)
      exact ⟨p4, _, r5, .str z, rfl, rfl, .inl (.inl (s5 _ _ (hA3.ne hp4) h4)), hzi, q z H5 (menu_wd z hz) hA5 ((s3.trans (sx s4)).trans s5)⟩
    · -- size
      refine ⟨_, rfl, a, 8, rfl, hA3, by decide, by decide, fun r4 H4 r40 r41 hA4 s4 n4 => ⟨_, _, rfl, rfl, lz, fun p5 hp5 => ⟨_, rfl, a, 5, rfl, hA4.same (same_new hp5), by decide, by decide, fun r6 H6 r60 r61 hA6 s6 n6 => ?_⟩⟩⟩
      have np5 := hA4.ne hp5
      obtain ⟨sz, hsm, hsz⟩ := atI_tab (ns := [1, 2, 3, 4, 1 + r4]) r60 r61
      have hs8 : 1 ≤ sz ∧ sz ≤ 8 := by
        simp only [List.mem_cons, List.not_mem_nil, or_false] at hsm
        omega
      refine ⟨p5, _, r6, .int sz, rfl, rfl, .inl (.inl (s6 _ _ np5 upd_same)), hsz, ?_⟩
      have s6' : SameX a H H6 := ((s3.trans s4).trans (sx (same_new hp5))).trans s6
      -- join of the signs
      refine ⟨⟨_, rfl⟩, _, rfl, sz, rfl, by omega, by omega, fun D hD => lc_range (lo := 0) (n := sz.toNat)
        (fun i H' => ∃ cs : List Nat, cs.length = i ∧ (∀ c ∈ cs, 97 ≤ c ∧ c ≤ 122) ∧ H' D = some (.lst ((cs.map sign).map V.str)) ∧ PurseAt H' a ∧ SameX a H6 H')
        ⟨[], rfl, fun c hc => by simp at hc, upd_same, hA6.same (same_new hD), sx (same_new hD)⟩ ?_ ?_⟩
      · rintro i H7 hi ⟨cs, hcl, hcs, hDl, hA7, s7⟩
        refine ⟨rfl, yes_it ⟨_, rfl, _, rfl, a, wd, rfl, hA7, hw.1, by omega, fun r8 H8 r80 r81 hA8 s8 n8 => ?_⟩⟩
        have nD := hA6.ne hD
        refine ⟨_, r8, _, rfl, rfl, lz, letter_at r80 (by omega), _, s8 _ _ nD hDl, ?_, ?_⟩
        · rw [List.length_map, List.length_map]
          exact small1000 (by omega)
        · refine ⟨cs ++ [97 + r8.toNat], by simp [hcl], fun c hc => ?_, ?_, ?_, sameX_mut (s7.trans s8) hD⟩
          · rcases List.mem_append.mp hc with hc | hc
            · exact hcs c hc
            · rw [List.mem_singleton.mp hc]
              omega
          · rw [upd_same, List.map_append, List.map_append]
            rfl
          · obtain ⟨x0, x1, x2, hx, hx1⟩ := hA8
            exact ⟨x0, x1, x2, by rw [upd_ne nD.symm]; exact hx, hx1⟩
      · rintro H7 ⟨cs, hcl, hcs, hDl, hA7, s7⟩
        refine ⟨_, D, cs.map sign, rfl, rfl, .inl (.inl (.inl hDl)), ?_, ?_⟩
        · have e0 : ("" : Str).length = 0 := by decide +kernel
          have e1 : (cs.map sign).map (·.length) = cs.map fun _ => 1 := by
            rw [List.map_map]
            rfl
          rw [e0, e1, Nat.mul_zero]
          have e2 : ∀ l : List Nat, (l.map fun _ => 1).sum = l.length := fun l => by
            induction l with
            | nil => rfl
            | cons x r ih => rw [List.map_cons, List.sum_cons, ih, List.length_cons]; omega
          rw [e2]
          omega
        · refine q _ H7 (isWd_of ?_ ?_ ?_) hA7 (s6'.trans s7)
          · rw [join_signs]; omega
          · rw [join_signs]; omega
          · rw [join_signs]; exact hcs
end
end Wl





namespace Wl
open PySem
def Closed (E : Edges) (l : List Nat) : Prop := ∀ e ∈ E, (e.1 ∈ l ↔ e.2 ∈ l)
theorem closed_conn {E : Edges} {l : List Nat} (h : Closed E l) {c d : Nat} (hc : c ∈ l) (k : Conn E c d) : d ∈ l := by
  induction k with
  | refl => exact hc
  | step _ m ih =>
    rcases mem_nbrs.mp m with m | m
    · exact (h _ m).mp ih
    · exact (h _ m).mpr ih
theorem filt_more {p q : Nat × Nat → Bool} : ∀ {E : Edges}, (∀ e, p e = true → q e = true) → (∃ e ∈ E, p e = false ∧ q e = true) → (E.filter p).length + 1 ≤ (E.filter q).length
  | [], _, ⟨_, h, _⟩ => nomatch h
  | e :: E, h, ⟨x, hx, h1, h2⟩ => by
    have sub : ∀ E : Edges, (E.filter p).length ≤ (E.filter q).length := fun E => by
      induction E with
      | nil => exact Nat.le_refl _
      | cons y r ih =>
        rw [List.filter_cons, List.filter_cons]
        by_cases c : p y = true
        · rw [if_pos c, if_pos (h y c), List.length_cons, List.length_cons]
          omega
        · rw [if_neg c]
          split
          · rw [List.length_cons]
            omega
          · exact ih
    have s1 := sub E
    rw [List.filter_cons, List.filter_cons]
    rcases List.mem_cons.mp hx with rfl | hx
    · rw [if_neg (by rw [h1]; decide), if_pos h2, List.length_cons]
      omega
    · have ih := filt_more (E := E) h ⟨x, hx, h1, h2⟩
      by_cases c : p e = true
      · rw [if_pos c, if_pos (h e c), List.length_cons, List.length_cons]
        omega
      · rw [if_neg c]
        split
        · rw [List.length_cons]
          omega
        · exact ih
/-- the edges within -/
def inE (E : Edges) (l : List Nat) : Nat := (E.filter fun e => decide (e.1 ∈ l) && decide (e.2 ∈ l)).length
structure KinB (E : Edges) (c : Nat) (l : List Nat) : Prop where
  nd : l.Nodup
  lets : ∀ x ∈ l, isLet x
  conn : ∀ x ∈ l, Conn E c x
  mem : c ∈ l
  few : l.length ≤ inE E l + 1
theorem KinB.start {E : Edges} {c : Nat} (h : isLet c) : KinB E c [c] := ⟨by simp, fun x hx => by simp at hx; subst hx; exact h, fun x hx => by simp at hx; subst hx; exact .refl _, by simp, by simp⟩
theorem KinB.push {E : Edges} {c x y : Nat} {l : List Nat} (b : KinB E c l) (hx : x ∈ l) (hy : y ∉ l) (hn : y ∈ nbrs E x) (hl : isLet y) : KinB E c (l ++ [y]) := by
  have hfew : inE E l + 1 ≤ inE E (l ++ [y]) := by
    refine filt_more (fun e he => ?_) ?_
    · simp only [Bool.and_eq_true, decide_eq_true_eq] at he ⊢
      exact ⟨List.mem_append_left _ he.1, List.mem_append_left _ he.2⟩
    · rcases mem_nbrs.mp hn with m | m
      · exact ⟨_, m, by simp [hy], by simp [hx]⟩
      · exact ⟨_, m, by simp [hy], by simp [hx]⟩
  refine ⟨?_, fun u hu => ?_, fun u hu => ?_, List.mem_append_left _ b.mem, by have := b.few; rw [List.length_append, List.length_singleton]; omega⟩
  · rw [List.nodup_append]
    refine ⟨b.nd, by simp, fun u hu v hv e => ?_⟩
    simp at hv
    subst hv e
    exact hy hu
  · rcases List.mem_append.mp hu with hu | hu
    · exact b.lets u hu
    · simp at hu; subst hu; exact hl
  · rcases List.mem_append.mp hu with hu | hu
    · exact b.conn u hu
    · simp at hu; subst hu; exact .step (b.conn x hx) hn
theorem KinB.len {E : Edges} {c : Nat} {l : List Nat} (b : KinB E c l) : l.length ≤ 26 := by
  have h := b.nd.length_le_of_subset (l₂ := List.range' 97 26) fun x hx => by
    have := b.lets x hx
    rw [List.mem_range'_1]
    unfold isLet at this
    omega
  simpa using h
def KinP (E : Edges) (c : Nat) (l0 : List Nat) (Ej : Edges) (l : List Nat) : Prop := KinB E c l ∧ ((l = l0 ∧ ∀ e ∈ Ej, (e.1 ∈ l ↔ e.2 ∈ l)) ∨ (¬ Closed E l0 ∧ l0.length + 1 ≤ l.length))
theorem KinP.add {E : Edges} {c a b : Nat} {l0 l : List Nat} {Ej Ek : Edges} (p : KinP E c l0 Ej l) (he : (a, b) ∈ E ∨ (b, a) ∈ E) (ha : a ∈ l) (hb : b ∉ l) (hl : isLet b) : KinP E c l0 Ek (l ++ [b]) := by
  obtain ⟨p1, p2⟩ := p
  refine ⟨p1.push ha hb (mem_nbrs.mpr he) hl, .inr ?_⟩
  rw [List.length_append, List.length_singleton]
  rcases p2 with ⟨e, _⟩ | ⟨h1, h2⟩
  · subst e
    refine ⟨fun cl => ?_, Nat.le_refl _⟩
    rcases he with he | he
    · exact hb ((cl _ he).mp ha)
    · exact hb ((cl _ he).mpr ha)
  · exact ⟨h1, by omega⟩
theorem KinP.skip {E : Edges} {c a b : Nat} {l0 l : List Nat} {Ej : Edges} (p : KinP E c l0 Ej l) (h : a ∈ l ↔ b ∈ l) : KinP E c l0 (Ej ++ [(a, b)]) l := by
  obtain ⟨p1, p2⟩ := p
  refine ⟨p1, ?_⟩
  rcases p2 with ⟨e, q⟩ | q
  · refine .inl ⟨e, fun x hx => ?_⟩
    rcases List.mem_append.mp hx with hx | hx
    · exact q x hx
    · rw [List.mem_singleton] at hx
      subst hx
      exact h
  · exact .inr q
def KinK (E : Edges) (c k : Nat) (l : List Nat) : Prop := KinB E c l ∧ (Closed E l ∨ k + 1 ≤ l.length)
theorem KinK.begin {E : Edges} {c k : Nat} {l : List Nat} (h : KinK E c k l) : KinP E c l [] l := ⟨h.1, .inl ⟨rfl, fun e he => by cases he⟩⟩
theorem KinK.next {E : Edges} {c k : Nat} {l0 l : List Nat} (h : KinK E c k l0) (p : KinP E c l0 E l) : KinK E c (k + 1) l := by
  refine ⟨p.1, ?_⟩
  rcases p.2 with ⟨_, q⟩ | ⟨q1, q2⟩
  · exact .inl q
  · rcases h.2 with h2 | h2
    · exact absurd h2 q1
    · exact .inr (by omega)
theorem KinK.done {E : Edges} {c : Nat} {l : List Nat} (h : KinK E c 26 l) {d : Nat} : d ∈ l ↔ Conn E c d := by
  have hl := h.1.len
  rcases h.2 with h2 | h2
  · exact ⟨h.1.conn d, closed_conn h2 h.1.mem⟩
  · omega
theorem KinK.doneE {E : Edges} {c k : Nat} {l : List Nat} (h : KinK E c k l) {d : Nat} (hk : E.length + 1 ≤ k) : d ∈ l ↔ Conn E c d := by
  have hl := h.1.few
  have h3 : inE E l ≤ E.length := List.length_filter_le _ _
  rcases h.2 with h2 | h2
  · exact ⟨h.1.conn d, closed_conn h2 h.1.mem⟩
  · omega
end Wl

namespace Wl
open PySem PySem.Spec PyProof.Rows L2
abbrev sKin : Stmt := topS 70
abbrev sMeaning : Stmt := topS 71
def sd (z : Str) : V × PyData := (.str z, .str z)
theorem sort_strs (xs : List Str) : ((xs.map sd).mergeSort (PySem.W.dataLe false (·.2))).map (·.1) = (sortS xs).map V.str := by
  have h : (sortS xs).map sd = (xs.map sd).mergeSort (PySem.W.dataLe false (·.2)) := List.map_mergeSort fun a _ b _ => by
    rw [PySem.W.dataLe_eq]
    exact (le_data_str a b).symm
  rw [← h, List.map_map]
  rfl
theorem alike_strs (xs : List Str) : PySem.W.AllAlike ((xs.map sd).map (·.2)) := by
  intro d hd e he
  obtain ⟨b, hb, rfl⟩ := List.mem_map.mp hd
  obtain ⟨x, _, rfl⟩ := List.mem_map.mp hb
  obtain ⟨c, hc, rfl⟩ := List.mem_map.mp he
  obtain ⟨y, _, rfl⟩ := List.mem_map.mp hc
  rfl
theorem sortable_strs (xs : List Str) : PySem.W.Sortable ((xs.map sd).map (·.2)) := .inr fun d hd => by
  obtain ⟨b, hb, rfl⟩ := List.mem_map.mp hd
  obtain ⟨x, _, rfl⟩ := List.mem_map.mp hb
  exact ⟨(fun e => by cases e), (fun ys e => by cases e)⟩
/-- sorted of a list of texts, as a reading -/
theorem sort_readsK {K : PySem.W.Frag} {H : Hp} {Q : VK} {a : Addr} {xs : List Str} (h : SqL K H a (xs.map V.str)) (q : ∀ p, H p = none → Q (.ref p) (upd H p (.lst ((sortS xs).map V.str)))) : rSortD K [.ref a] H Q := by
  refine ⟨a, xs.map sd, rfl, ?_, ?_, alike_strs xs, sortable_strs xs, ?_, fun p hp => ?_⟩
  · rw [List.map_map]
    exact h
  · intro b hb
    obtain ⟨x, _, rfl⟩ := List.mem_map.mp hb
    exact .str x
  · intro b hb
    obtain ⟨x, _, rfl⟩ := List.mem_map.mp hb
    show PyData.depth (.str x) ≤ 8
    simp [PyData.depth]
  · rw [sort_strs]
    exact q p hp
theorem sign_inj {a b : Nat} (h : sign a = sign b) : a = b := by
  have e := congrArg (fun z : Str => z.cps.toList) h
  simpa [sign] using e
theorem mem_signs {a : Nat} {l : List Nat} : sign a ∈ l.map sign ↔ a ∈ l := by
  constructor
  · intro h
    obtain ⟨b, hb, e⟩ := List.mem_map.mp h
    rw [← sign_inj e]
    exact hb
  · exact fun h => List.mem_map.mpr ⟨a, h, rfl⟩
theorem inV_signs (a : Nat) (l : List Nat) : inV (.str (sign a)) ((l.map sign).map V.str) = decide (a ∈ l) := by
  rw [inV_strs]
  by_cases h : a ∈ l
  · rw [decide_eq_true h, decide_eq_true (mem_signs.mpr h)]
  · rw [decide_eq_false h, decide_eq_false fun q => h (mem_signs.mp q)]
section
variable {a : Nat} {l : List Nat}
theorem inT (h : a ∈ l) : V.bl (if (false : Bool) then !inV (.str (sign a)) ((l.map sign).map V.str) else inV (.str (sign a)) ((l.map sign).map V.str)) = .bl true := by
  rw [if_neg (by decide), inV_signs, decide_eq_true h]
theorem inF (h : a ∉ l) : V.bl (if (false : Bool) then !inV (.str (sign a)) ((l.map sign).map V.str) else inV (.str (sign a)) ((l.map sign).map V.str)) = .bl false := by
  rw [if_neg (by decide), inV_signs, decide_eq_false h]
theorem niT (h : a ∉ l) : V.bl (if (true : Bool) then !inV (.str (sign a)) ((l.map sign).map V.str) else inV (.str (sign a)) ((l.map sign).map V.str)) = .bl true := by
  rw [if_pos rfl, inV_signs, decide_eq_false h]
  rfl
theorem niF (h : a ∈ l) : V.bl (if (true : Bool) then !inV (.str (sign a)) ((l.map sign).map V.str) else inV (.str (sign a)) ((l.map sign).map V.str)) = .bl false := by
  rw [if_pos rfl, inV_signs, decide_eq_true h]
  rfl
end
theorem sorted_least {l : List Nat} {E : Edges} {c : Nat} (nd : l.Nodup) (hm : ∀ d, d ∈ l ↔ Conn E c d) : ∃ r, (sortS (l.map sign)).map V.str = sgV (lo E c) :: r := by
  have nd2 : (l.map sign).Nodup := by
    exact List.pairwise_map.mpr (nd.imp fun h e => h (sign_inj e))
  have hr := sortS_rising nd2
  cases hs : sortS (l.map sign) with
  | nil =>
    have : sign c ∈ sortS (l.map sign) := mem_sortS.mpr (mem_signs.mpr ((hm c).mpr (.refl c)))
    rw [hs] at this
    cases this
  | cons m r =>
    rw [hs] at hr
    have hmm : m ∈ l.map sign := mem_sortS.mp (by rw [hs]; exact List.mem_cons_self)
    obtain ⟨d, hd, rfl⟩ := List.mem_map.mp hmm
    refine ⟨r.map V.str, ?_⟩
    have : lo E c = d := lo_of ((hm d).mp hd) fun x hx => by
      have hx2 : sign x ∈ sortS (l.map sign) := mem_sortS.mpr (mem_signs.mpr ((hm x).mpr hx))
      rw [hs] at hx2
      rcases List.mem_cons.mp hx2 with e | e
      · rw [sign_inj e]
        exact Nat.le_refl _
      · have := (List.pairwise_cons.mp hr).1 _ e
        exact Nat.le_of_lt ((sign_lt d x).mp this)
    rw [this]
    rfl
section
variable {P : Program} {w : World} {K : PySem.W.Frag} {mg : Str → Option Value} {base : Heap} {f : Addr} {fd : FuncData}
theorem kin_tt {σ : L2.St} {H : Hp} {Q : Bool → Hp → Prop} {wh : Wh} {pl n : Nat} (h8 : σ[8]? = some (some (.str (whS wh)))) (h2 : σ[2]? = some (some (.bl (decide (pl = 0))))) (h3 : σ[3]? = some (some (.bl (decide (pl + 1 = n))))) (q : Q (acts wh pl n) H) :
    tOr (tTest (tOp rEq (tVar 8) (tC (V.str "any")))) (tOr (tAnd (tTest (tOp rEq (tVar 8) (tC (V.str "first")))) fun σ H Q => tVar 2 σ H fun x H' => ∃ k, TruV K x H' k ∧ Q k H')
      (tAnd (tTest (tOp rEq (tVar 8) (tC (V.str "last")))) fun σ H Q => tVar 3 σ H fun x H' => ∃ k, TruV K x H' k ∧ Q k H')) σ H Q := by
  have e1 : decide (V.str (whS wh) = V.str "any") = decide (wh = .any) := wh_dec wh .any
  have e2 : decide (V.str (whS wh) = V.str "first") = decide (wh = .first) := wh_dec wh .first
  have e3 : decide (V.str (whS wh) = V.str "last") = decide (wh = .last) := wh_dec wh .last
  refine ⟨_, h8, rfl, _, rfl, ?_⟩
  rw [e1]
  cases wh with
  | any => exact iteT q
  | first =>
    refine iteF ⟨_, h8, rfl, _, rfl, ?_⟩
    rw [e2]
    refine iteT ⟨_, h2, _, rfl, ite_b (fun e => ?_) (fun e => ?_)⟩
    · rw [← e]
      exact q
    · refine ⟨_, h8, rfl, _, rfl, ?_⟩
      rw [e3]
      refine iteF ?_
      rw [← e]
      exact q
  | last =>
    refine iteF ⟨_, h8, rfl, _, rfl, ?_⟩
    rw [e2]
    refine iteF (iteF ⟨_, h8, rfl, _, rfl, ?_⟩)
    rw [e3]
    exact iteT ⟨_, h3, _, rfl, q⟩
def spKin : Sp := fun vs H Q _ => ∃ (S : Addr) (chs : List Chg) (c i n : Nat), vs = [.ref S, sgV c, .bl (decide (i = 0)), .bl (decide (i + 1 = n))] ∧ ChAt H S chs ∧ OkCs chs ∧ isLet c ∧
  ∀ (p : Addr) (xs : List V) (H' : Hp), Same H H' → H' p = some (.lst (sgV (lo (es chs i n) c) :: xs)) → Q (.ref p) H'
abbrev nKin : List Str := ["_law_swaps", "_law_letter", "_law_first", "_law_last", "_law_found", "_law_turn", "_law_seen", "_law_rival", "_law_where"]
theorem scKin : FnScope nKin ["_law_swaps", "_law_letter", "_law_first", "_law_last"] (defScope sKin) := ⟨rfl, rfl, rfl, by decide +kernel, rfl, by decide +kernel, by decide +kernel⟩
theorem ok_kin (F : Fun K "_law_kin" "_law_kin" sKin f fd) (B : Bi mg) : FnOk P w K mg base CX0 1 f fd ["_law_swaps", "_law_letter", "_law_first", "_law_last"] spKin := by
  refine F.ok scKin (fun vs H Q E h => ?_) (fun cdv A outer s H vs Q E hr h => ?_)
  · obtain ⟨S, chs, c, i, n, rfl, _⟩ := h
    rfl
  · obtain ⟨S, chs, c, pl, n, rfl, ⟨as, hS, hE⟩, ok, hc, q⟩ := h
    refine ⟨_, pss_cons (ps_set (i := 4) scKin.nd rfl (.inl rfl) (pe_lst (pa_cons (pv 1) pa_nil)))
      (pss_cons (ps_for PassesOwn.never rfl (pi_range1 (by rfl) B.range (pa_cons (pe_op op_add (pe_callB call_len_seq (by rfl) B.len PySem.boot_len (pa_cons (pv 0) pa_nil)) pe_int) pa_nil)) (pg_name (i := 5) scKin.nd rfl (.inl rfl))
        (pss_one (ps_for PassesOwn.never rfl (pi_tup (pv 0)) (pg_tup rfl (pgs_cons (pg_name (i := 6) scKin.nd rfl (.inl rfl)) (pgs_cons (pg_name (i := 7) scKin.nd rfl (.inl rfl)) (pgs_cons (pg_name (i := 8) scKin.nd rfl (.inl rfl)) pgs_nil))))
          (pss_one (ps_if (PW.pt (pw_or (pt_cmpR op_eq (pv 8) pe_str (nomark _)) (pw_or (PW.pt (pw_and (pt_cmpR op_eq (pv 8) pe_str (nomark _)) (pw_and1 (pt_truth (pv 2) (by intro _; rfl))))) (pw_or1 (PW.pt (pw_and (pt_cmpR op_eq (pv 8) pe_str (nomark _)) (pw_and1 (pt_truth (pv 3) (by intro _; rfl)))))))))
            (pss_cons (ps_if (PW.pt (pw_and (pt_cmpR op_in_seq (pv 6) (pv 4) (by rfl)) (pw_and1 (pt_cmpR op_notIn_seq (pv 7) (pv 4) (by rfl))))) (pss_one (ps_expr (pe_bm PySem.F.plainAttrs_list PySem.F.slot_list_append PySem.F.type_list_append mt_append (pv 4) (pa_cons (pv 7) pa_nil)))) pss_nil)
            (pss_one (ps_if (PW.pt (pw_and (pt_cmpR op_in_seq (pv 7) (pv 4) (by rfl)) (pw_and1 (pt_cmpR op_notIn_seq (pv 6) (pv 4) (by rfl))))) (pss_one (ps_expr (pe_bm PySem.F.plainAttrs_list PySem.F.slot_list_append PySem.F.type_list_append mt_append (pv 4) (pa_cons (pv 6) pa_nil)))) pss_nil)))
            pss_nil)))))
      (pss_one (ps_ret (pe_callB (cr_sortD hr.units) (by rfl) B.sorted (by decide +kernel) (pa_cons (pv 4) pa_nil))))), ?_⟩
    refine ⟨_, rfl, lz, fun R hR => ?_⟩
    have eE : ∀ k, as.length ≤ k → es (chs.take k) pl n = es chs pl n := fun k hk => by rw [List.take_of_length_le (by rw [← hE.length]; exact hk)]
    refine ⟨_, rfl, S, _, rfl, .inr (.inl (.inl (same_new hR _ _ hS))), _, _, rfl, rfl, _, rfl, by omega, by have := ok.1; rw [List.length_map, hE.length]; omega, for_it (walk_range (lo := 0) (n := _)) (fun k σ H' => ∃ (l : List Nat) (y5 y6 y7 y8 : Option V), σ = [some (.ref S), some (sgV c), some (.bl (decide (pl = 0))), some (.bl (decide (pl + 1 = n))), some (.ref R), y5, y6, y7, y8] ∧ Same H H' ∧ H' R = some (.lst ((l.map sign).map V.str)) ∧ KinK (es chs pl n) c k l)
      ⟨[c], _, _, _, _, rfl, same_new hR, upd_same, KinB.start hc, .inr (by simp)⟩ (fun _ _ _ _ _ => trivial) ?_ ?_⟩
    · rintro k x σ H1 H2 hk ⟨l0, y5, y6, y7, y8, rfl, s1, hR1, hK⟩ ⟨rfl, rfl⟩
      refine ⟨_, rfl, S, rfl, ⟨_, .inl (.inl (s1 _ _ hS))⟩, for_it (walk_tup (K := K) (a := S) (xs := as.map V.ref)) (fun j σ H' => ∃ (l : List Nat) (y6 y7 y8 : Option V), σ = [some (.ref S), some (sgV c), some (.bl (decide (pl = 0))), some (.bl (decide (pl + 1 = n))), some (.ref R), some (.int (0 + (k : Int))), y6, y7, y8] ∧ Same H H' ∧ H' R = some (.lst ((l.map sign).map V.str)) ∧ KinP (es chs pl n) c l0 (es (chs.take j) pl n) l)
        ⟨l0, _, _, _, rfl, s1, hR1, hK.begin⟩ (fun j σ H' _ h => ?_) ?_ ?_⟩
      · obtain ⟨_, _, _, _, _, s', _⟩ := h
        exact .inl (.inl (s' _ _ hS))
      · rintro j x σ H3 H4 hj ⟨l, z6, z7, z8, rfl, s3, hR3, hP⟩ ⟨rfl, hx⟩
        rw [List.getElem?_map] at hx
        obtain ⟨p, hp, rfl⟩ := Option.map_eq_some_iff.mp hx
        obtain ⟨⟨a, b, wh⟩, hch, hH⟩ := hE.get hp
        obtain ⟨o1, o2, o3⟩ := ok.2 _ (List.mem_of_getElem? hch)
        have etk : chs.take (j + 1) = chs.take j ++ [(a, b, wh)] := by rw [List.take_add_one, hch]; rfl
        have hmE : acts wh pl n = true → (a, b) ∈ es chs pl n := fun e => List.mem_map.mpr ⟨(a, b, wh), List.mem_filter.mpr ⟨List.mem_of_getElem? hch, e⟩, rfl⟩
        have l26 := hP.1.len
        refine ⟨p, _, rfl, .inl (.inl (s3 _ _ hH)), rfl, _, _, rfl, _, _, rfl, _, _, rfl, rfl, ?_⟩
        refine kin_tt (K := K) (wh := wh) (pl := pl) (n := n) rfl rfl rfl (ite_b (fun e => ?_) (fun e => ?_))
        · have hm := hmE e
          have fl := fun l : List Nat => flat_strs (l.map sign)
          have lL : ∀ l : List Nat, l.length ≤ 26 → ((l.map sign).map V.str).length < sizeLine := fun l hl => by
            rw [List.length_map, List.length_map]
            exact small1000 (by omega)
          rw [etk, es_snoc, if_pos e]
          by_cases ha : a ∈ l <;> by_cases hb : b ∈ l
          · -- both
            refine ⟨_, rfl, _, rfl, R, _, rfl, .inl (.inl (.inl hR3)), rfl, fl l, true, inT ha, iteT ?_⟩
            refine ⟨_, rfl, _, rfl, R, _, rfl, .inl (.inl (.inl hR3)), rfl, fl l, false, niF hb, iteF ?_⟩
            refine ⟨_, rfl, _, rfl, R, _, rfl, .inl (.inl (.inl hR3)), rfl, fl l, true, inT hb, iteT ?_⟩
            refine ⟨_, rfl, _, rfl, R, _, rfl, .inl (.inl (.inl hR3)), rfl, fl l, false, niF ha, iteF ?_⟩
            exact ⟨l, _, _, _, rfl, s3, hR3, hP.skip ⟨fun _ => hb, fun _ => ha⟩⟩
          · -- b is new
            refine ⟨_, rfl, _, rfl, R, _, rfl, .inl (.inl (.inl hR3)), rfl, fl l, true, inT ha, iteT ?_⟩
            refine ⟨_, rfl, _, rfl, R, _, rfl, .inl (.inl (.inl hR3)), rfl, fl l, true, niT hb, iteT ?_⟩
            refine ⟨_, rfl, .inl ⟨rfl, _, .inl (.inl hR3)⟩, _, rfl, R, _, _, rfl, rfl, hR3, lL l l26, ?_⟩
            have hR5 : upd H4 R (.lst ((l.map sign).map V.str ++ [sgV b])) R = some (.lst (((l ++ [b]).map sign).map V.str)) := by
              rw [upd_same, List.map_append, List.map_append]
              rfl
            have s5 : Same H (upd H4 R (.lst ((l.map sign).map V.str ++ [sgV b]))) := same_mut s3 hR
            refine ⟨_, rfl, _, rfl, R, _, rfl, .inl (.inl (.inl hR5)), rfl, fl (l ++ [b]), true, inT (List.mem_append_right _ (by simp)), iteT ?_⟩
            refine ⟨_, rfl, _, rfl, R, _, rfl, .inl (.inl (.inl hR5)), rfl, fl (l ++ [b]), false, niF (List.mem_append_left _ ha), iteF ?_⟩
            exact ⟨l ++ [b], _, _, _, rfl, s5, hR5, hP.add (.inl hm) ha hb o2⟩
          · -- a is new
            refine ⟨_, rfl, _, rfl, R, _, rfl, .inl (.inl (.inl hR3)), rfl, fl l, false, inF ha, iteF ?_⟩
            refine ⟨_, rfl, _, rfl, R, _, rfl, .inl (.inl (.inl hR3)), rfl, fl l, true, inT hb, iteT ?_⟩
            refine ⟨_, rfl, _, rfl, R, _, rfl, .inl (.inl (.inl hR3)), rfl, fl l, true, niT ha, iteT ?_⟩
            refine ⟨_, rfl, .inl ⟨rfl, _, .inl (.inl hR3)⟩, _, rfl, R, _, _, rfl, rfl, hR3, lL l l26, ?_⟩
            refine ⟨l ++ [a], _, _, _, rfl, same_mut s3 hR, ?_, hP.add (.inr hm) hb ha o1⟩
            rw [upd_same, List.map_append, List.map_append]
            rfl
          · -- none
            refine ⟨_, rfl, _, rfl, R, _, rfl, .inl (.inl (.inl hR3)), rfl, fl l, false, inF ha, iteF ?_⟩
            refine ⟨_, rfl, _, rfl, R, _, rfl, .inl (.inl (.inl hR3)), rfl, fl l, false, inF hb, iteF ?_⟩
            exact ⟨l, _, _, _, rfl, s3, hR3, hP.skip ⟨fun x => absurd x ha, fun x => absurd x hb⟩⟩
        · refine ⟨l, _, _, _, rfl, s3, hR3, ?_⟩
          rw [etk, es_snoc, if_neg (by rw [e]; decide), List.append_nil]
          exact hP
      · rintro σ H3 ⟨l, z6, z7, z8, rfl, s3, hR3, hP⟩
        rw [eE _ (by simp)] at hP
        exact ⟨l, _, _, _, _, rfl, s3, hR3, hK.next hP⟩
    · rintro σ H1 ⟨l, y5, y6, y7, y8, rfl, s1, hR1, hK⟩
      obtain ⟨r, hr2⟩ := sorted_least hK.1.nd fun d => hK.doneE (d := d) (by have h1 := es_len chs pl n; have h2 := hE.length; rw [List.length_map]; omega)
      refine ⟨_, rfl, ?_⟩
      dsimp only [tNil]
      refine sort_readsK (K := K) (.inl (.inl hR1)) fun p hp => ?_
      exact q p r _ (s1.trans (same_new hp)) (by rw [upd_same, hr2])
end
end Wl





namespace Wl
open PySem PySem.Spec PyProof.Rows L2
abbrev sChanges : Stmt := topS 69
section
variable {P : Program} {w : World} {K : PySem.W.Frag} {mg : Str → Option Value} {base : Heap} {f : Addr} {fd : FuncData}
def spLMean : Sp := fun vs H Q _ => ∃ (S : Addr) (chs : List Chg) (z : Str), vs = [.ref S, .str z] ∧ ChAt H S chs ∧ OkCs chs ∧ IsWd z ∧ ∀ (H' : Hp), Same H H' → Q (.str (mean chs z)) H'
abbrev nLMean : List Str := ["_law_swaps", "_law_sound", "_law_size", "_law_k"]
theorem scLMean : FnScope nLMean ["_law_swaps", "_law_sound"] (defScope sMeaning) := ⟨rfl, rfl, rfl, by decide +kernel, rfl, by decide +kernel, by decide +kernel⟩
theorem ok_lmean (F : Fun K "_law_meaning" "_law_meaning" sMeaning f fd) (B : Bi mg) (hK : Has P w K mg base "_law_kin" 1 ["_law_swaps", "_law_letter", "_law_first", "_law_last"] spKin) : FnOk P w K mg base CX0 2 f fd ["_law_swaps", "_law_sound"] spLMean := by
  refine F.ok scLMean (fun vs H Q E h => ?_) (fun cdv A outer s H vs Q E hr h => ?_)
  · obtain ⟨S, chs, z, rfl, _⟩ := h
    rfl
  · obtain ⟨S, chs, z, rfl, hS, ok, hz, q⟩ := h
    have z8 := hz.len
    refine ⟨_, pss_cons (ps_set (i := 2) scLMean.nd rfl (.inr rfl) (pe_callB call_len_str (by rfl) B.len PySem.boot_len (pa_cons (pv 1) pa_nil)))
      (pss_one (ps_ret (pe_join pe_str (pe_lc (own := [("_law_k", 3)]) (g := gName 3) (tt := tYes) (te := tOp (rIxL K) (tCall spKin [] E0 (tCons (tVar 0) (tCons (tOp rIxS (tVar 1) (tVar 3)) (tCons (tOp rEq (tVar 3) (tC (.int 0))) (tCons (tOp rEq (tVar 3) (tOp (rI0 fun i j => .int (i - j)) (tVar 2) (tC (.int 1)))) tNil))))) (tC (.int 0))) rfl scLMean.nd (pi_range1 (by rfl) B.range (pa_cons (pv 2) pa_nil)) (blkOk_by (N := nLMean) (sc := defScope sMeaning) (by decide +kernel))
        (fun _ _ _ _ _ => pg_name (i := 3) scLMean.nd rfl (.inl rfl)) (fun _ _ _ _ _ => pts_nil) (fun _ _ _ _ _ => pe_ix ix_list (pe_h hK hr (pa_cons (pv 0) (pa_cons (pe_ix ix_str (pv 1) (pv 3) (fun _ _ => rfl)) (pa_cons (pe_cmpR op_eq (pv 3) pe_int (nomark _)) (pa_cons (pe_cmpR op_eq (pv 3) (pe_op op_sub (pv 2) pe_int) (nomark _)) pa_nil))))) pe_int (fun _ _ => rfl)))))), ?_⟩
    refine ⟨_, rfl, _, rfl, lzl (by omega), ⟨_, rfl⟩, _, rfl, (z.length : Int), rfl, by omega, by omega, fun D hD => lc_range (lo := 0) (n := z.length)
      (fun i H' => Same H H' ∧ H' D = some (.lst ((((codes (mean chs z)).take i).map sign).map V.str))) ⟨same_new hD, upd_same⟩ ?_ ?_⟩
    · rintro i H1 hi ⟨s1, hD1⟩
      have hi2 : i < (codes z).length := by rw [codes_len]; exact hi
      obtain ⟨c, hc⟩ : ∃ c, (codes z)[i]? = some c := ⟨_, List.getElem?_eq_getElem hi2⟩
      have hcl : isLet c := (wd_codes.mp hz).2 c (List.mem_of_getElem? hc)
      have hat := mean_at chs z hc
      rw [codes_len] at hat
      refine ⟨rfl, yes_it ⟨_, rfl, _, rfl, _, rfl, z, _, c, rfl, rfl, lzl (by omega), ?_, ?_⟩⟩
      · rw [Int.zero_add]
        exact atI_nat hc
      · refine ⟨_, rfl, rfl, _, rfl, _, rfl, _, _, rfl, rfl, rfl, S, chs, c, i, z.length, ?_, hS.same s1, ok, hcl, fun p xs H2 s2 hp => ?_⟩
        · rw [int_dec, int_dec]
          have e1 : decide ((0 : Int) + (i : Int) = 0) = decide (i = 0) := by
            by_cases h : i = 0
            · simp [h]
            · rw [decide_eq_false h, decide_eq_false (by omega)]
          have e2 : decide ((0 : Int) + (i : Int) = (z.length : Int) - 1) = decide (i + 1 = z.length) := by
            by_cases h : i + 1 = z.length
            · rw [decide_eq_true h, decide_eq_true (by omega)]
            · rw [decide_eq_false h, decide_eq_false (by omega)]
          rw [e1, e2]
          rfl
        · refine ⟨p, _, 0, _, rfl, rfl, .inl (.inl hp), atI_nat (j := 0) rfl, _, s2 _ _ hD1, ?_, same_mut (s1.trans s2) hD, ?_⟩
          · rw [List.length_map, List.length_map]
            have h1 : ((codes (mean chs z)).take i).length ≤ (codes (mean chs z)).length := List.length_take_le' _ _
            rw [mean_len, codes_len] at h1
            exact small1000 (by omega)
          · rw [upd_same, List.take_add_one, hat, List.map_append, List.map_append]
            rfl
    · rintro H1 ⟨s1, hD1⟩
      have e1 : (codes (mean chs z)).take z.length = codes (mean chs z) := by rw [← codes_len z, ← mean_len chs z, List.take_length]
      rw [e1] at hD1
      refine ⟨_, D, (codes (mean chs z)).map sign, rfl, rfl, .inl (.inl (.inl hD1)), ?_, ?_⟩
      · have e0 : ("" : Str).length = 0 := by decide +kernel
        have e1 : ((codes (mean chs z)).map sign).map (·.length) = (codes (mean chs z)).map fun _ => 1 := by
          rw [List.map_map]
          rfl
        rw [e0, e1, Nat.mul_zero, ones_sum, mean_len, codes_len]
        omega
      · have e2 : Txt.join ("" : Str) ((codes (mean chs z)).map sign) = mean chs z := str_ext (join_signs _)
        rw [e2]
        exact q H1 s1
end
end Wl





namespace Wl
open PySem PySem.Spec PyProof.Rows L2
theorem abcde_eq : ("abcde" : Str).cps.toList = List.range' 97 5 := by decide +kernel
theorem abcde_at {r : Int} (h0 : 0 ≤ r) (h : r < 5) : atI ("abcde" : Str).cps.toList r = some (97 + r.toNat) := by
  rw [abcde_eq]
  have e : r = ((r.toNat : Nat) : Int) := by omega
  rw [e]
  refine atI_nat ?_
  rw [List.getElem?_range' (by omega)]
  congr 1
  omega
theorem ChAt.X {H H' : Hp} {a S : Addr} {chs : List Chg} {ys : List V} (h : ChAt H S chs) (ha : H a = some (.lst ys)) (s : SameX a H H') : ChAt H' S chs :=
  h.keep fun p xs e => s p _ (ne_of e ha (by intro z; cases z)) e
theorem each_X {H H' : Hp} {a : Addr} {as : List Addr} {chs : List Chg} {ys : List V} (h : Each (fun (p : Addr) (ch : Chg) => H p = some (.tup (chV ch))) as chs) (ha : H a = some (.lst ys)) (s : SameX a H H') : Each (fun (p : Addr) (ch : Chg) => H' p = some (.tup (chV ch))) as chs :=
  h.mono fun p ch e => s p _ (ne_of e ha (by intro z; cases z)) e
section
variable {P : Program} {w : World} {K : PySem.W.Frag} {mg : Str → Option Value} {base : Heap} {f : Addr} {fd : FuncData}
def spChanges : Sp := fun vs H Q _ => ∃ (a : Addr) (m : Int), vs = [.ref a, .int m] ∧ PurseAt H a ∧ 0 ≤ m ∧ m ≤ 12 ∧ ∀ (S : Addr) (chs : List Chg) (H' : Hp), PurseAt H' a → SameX a H H' → ChAt H' S chs → OkCs chs → Q (.ref S) H'
abbrev nChanges : List Str := ["_law_purse_here", "_law_top", "_law_found", "_law_k", "_law_seen", "_law_wide", "_law_rival", "_law_where"]
theorem scChanges : FnScope nChanges ["_law_purse_here", "_law_top"] (defScope sChanges) := ⟨rfl, rfl, rfl, by decide +kernel, rfl, by decide +kernel, by decide +kernel⟩
theorem ok_changes (F : Fun K "_law_changes" "_law_changes" sChanges f fd) (B : Bi mg) (hp : Has P w K mg base "_law_pick" 1 ["_law_purse_here", "_law_many"] spPick) : FnOk P w K mg base CX0 2 f fd ["_law_purse_here", "_law_top"] spChanges := by
  refine F.ok scChanges (fun vs H Q E h => ?_) (fun cdv A outer s H vs Q E hr h => ?_)
  · obtain ⟨a, m, rfl, _⟩ := h
    rfl
  · obtain ⟨a, m, rfl, hA, m0, m12, q⟩ := h
    refine ⟨_, pss_cons (ps_set (i := 2) scChanges.nd rfl (.inl rfl) (pe_lst pa_nil))
      (pss_cons (ps_for PassesOwn.never rfl (pi_range1 (by rfl) B.range (pa_cons (pe_h hp hr (pa_cons (pv 0) (pa_cons (pe_op op_add (pv 1) pe_int) pa_nil))) pa_nil)) (pg_name (i := 3) scChanges.nd rfl (.inl rfl))
        (pss_cons (ps_par (i := 4) (j := 5) (by rfl) scChanges.nd rfl rfl (by decide) rfl rfl (pa_cons (pe_h hp hr (pa_cons (pv 0) (pa_cons pe_int pa_nil))) (pa_cons (pe_h hp hr (pa_cons (pv 0) (pa_cons pe_int pa_nil))) pa_nil)) (by rfl))
        (pss_cons (ps_set (i := 6) scChanges.nd rfl (.inl rfl) (pe_op op_mod (pe_op op_add (pe_op op_add (pv 4) pe_int) (pv 5)) pe_int))
        (pss_cons (ps_set (i := 7) scChanges.nd rfl (.inl rfl) (pe_ix ix_list (pe_lst (pa_cons pe_str (pa_cons pe_str (pa_cons pe_str (pa_cons pe_str pa_nil))))) (pe_h hp hr (pa_cons (pv 0) (pa_cons pe_int pa_nil))) (fun _ _ => rfl)))
        (pss_one (ps_expr (pe_bm PySem.F.plainAttrs_list PySem.F.slot_list_append PySem.F.type_list_append mt_append (pv 2) (pa_cons (pe_tup (pa_cons (pe_ix ix_str pe_str (pv 4) (fun _ _ => rfl)) (pa_cons (pe_ix ix_str pe_str (pv 6) (fun _ _ => rfl)) (pa_cons (pv 7) pa_nil)))) pa_nil))))))))
      (pss_one (ps_ret (pe_callTy call_tuple_of (by rfl) B.tuple (by decide +kernel) (pa_cons (pv 2) pa_nil))))), ?_⟩
    refine ⟨lz, fun R hR => ?_⟩
    have nRa : R ≠ a := hA.ne hR
    refine ⟨_, rfl, _, rfl, _, _, rfl, rfl, a, m + 1, rfl, hA.same (same_new hR), by omega, by omega, fun r0 H1 r00 r01 hA1 s1 n1 => ?_⟩
    have hR1 := s1 _ _ nRa upd_same
    refine ⟨r0, rfl, by omega, by omega, for_it (walk_range (lo := 0) (n := r0.toNat)) (fun i σ H' => (∃ y3 y4 y5 y6 y7, σ = [some (.ref a), some (.int m), some (.ref R), y3, y4, y5, y6, y7]) ∧ PurseAt H' a ∧ SameX a H H' ∧ ∃ (as : List Addr) (chs : List Chg), H' R = some (.lst (as.map V.ref)) ∧ Each (fun (p : Addr) (ch : Chg) => H' p = some (.tup (chV ch))) as chs ∧ chs.length = i ∧ ∀ ch ∈ chs, OkC ch)
      ⟨⟨_, _, _, _, _, rfl⟩, hA1, (sx (same_new hR)).trans s1, [], [], hR1, .nil, rfl, fun ch hc => by cases hc⟩ (fun _ _ _ _ _ => trivial) ?_ ?_⟩
    · rintro i x σ Hq H2 hi ⟨⟨y3, y4, y5, y6, y7, rfl⟩, hA2, s2, as, chs, hR2, hE2, hl2, ok2⟩ ⟨rfl, rfl⟩
      refine ⟨_, rfl, a, 5, rfl, hA2, by decide, by decide, fun u H3 u0 u1 hA3 s3 n3 => ⟨_, rfl, a, 4, rfl, hA3, by decide, by decide, fun v H4 v0 v1 hA4 s4 n4 => ⟨_, _, rfl, ?_⟩⟩⟩
      refine ⟨_, rfl, _, _, rfl, rfl, _, rfl, _, _, rfl, rfl, _, _, rfl, rfl, (show (0 : Int) < 5 by decide), ?_⟩
      refine ⟨lz, fun p hpn => ⟨_, rfl, a, 4, rfl, hA4.same (same_new hpn), by decide, by decide, fun t H5 t0 t1 hA5 s5 n5 => ?_⟩⟩
      have npa := hA4.ne hpn
      obtain ⟨zw, hzm, hzi⟩ := atI_strs (zs := ["first", "last", "any", "any"]) t0 t1
      obtain ⟨wh, rfl⟩ : ∃ wh, zw = whS wh := by
        simp only [List.mem_cons, List.not_mem_nil, or_false] at hzm
        rcases hzm with rfl | rfl | rfl | rfl
        · exact ⟨.first, rfl⟩
        · exact ⟨.last, rfl⟩
        · exact ⟨.any, rfl⟩
        · exact ⟨.any, rfl⟩
      refine ⟨p, _, t, .str (whS wh), rfl, rfl, .inl (.inl (s5 _ _ npa upd_same)), hzi, ?_⟩
      have s25 : SameX a H2 H5 := (s3.trans s4).trans ((sx (same_new hpn)).trans s5)
      have hR5 := s25 _ _ nRa hR2
      obtain ⟨ya, hya⟩ := hA2.lst
      have hE5 := each_X hE2 hya s25
      have b0 : 0 ≤ (u + 1 + v) % 5 := Int.emod_nonneg _ (by decide)
      have b1 : (u + 1 + v) % 5 < 5 := Int.emod_lt_of_pos _ (by decide)
      refine ⟨_, rfl, .inl ⟨rfl, _, .inl (.inl hR5)⟩, ?_⟩
      refine ⟨_, rfl, ⟨_, u, _, rfl, rfl, lz, abcde_at u0 u1, _, rfl, _, _, _, rfl, rfl, lz, abcde_at b0 b1, _, rfl, lz, fun T hT => ?_⟩⟩
      refine ⟨R, _, _, rfl, rfl, (same_new hT) _ _ hR5, ?_, ⟨_, _, _, _, _, rfl⟩, ?_, ?_, as ++ [T], chs ++ [(97 + u.toNat, 97 + ((u + 1 + v) % 5).toNat, wh)], ?_, ?_, ?_, ?_⟩
      · rw [List.length_map, hE2.length]
        exact small1000 (by omega)
      · have hA6 := hA5.same (same_new (o := .tup [sgV (97 + u.toNat), sgV (97 + ((u + 1 + v) % 5).toNat), .str (whS wh)]) hT)
        obtain ⟨x0, x1, x2, hx, hx1⟩ := hA6
        exact ⟨x0, x1, x2, by rw [upd_ne nRa.symm]; exact hx, hx1⟩
      · exact sameX_mut ((s2.trans s25).trans (sx (same_new hT))) hR
      · rw [upd_same, List.map_append]
        rfl
      · have nTR : T ≠ R := (ne_of_none hR5 hT).symm
        refine Each.append (hE5.mono fun p ch e => ?_) (.cons ?_ .nil)
        · rw [upd_ne (ne_of e hR5 (by intro z; cases z))]
          exact (same_new hT) _ _ e
        · rw [upd_ne nTR, upd_same]
          rfl
      · rw [List.length_append, hl2]
        rfl
      · intro ch hch
        rcases List.mem_append.mp hch with hch | hch
        · exact ok2 ch hch
        · rw [List.mem_singleton] at hch
          subst hch
          refine ⟨?_, ?_, ?_⟩
          · show 97 ≤ 97 + u.toNat ∧ 97 + u.toNat ≤ 122
            omega
          · show 97 ≤ 97 + ((u + 1 + v) % 5).toNat ∧ 97 + ((u + 1 + v) % 5).toNat ≤ 122
            omega
          · show 97 + u.toNat ≠ 97 + ((u + 1 + v) % 5).toNat
            omega
    · rintro σ H2 ⟨⟨y3, y4, y5, y6, y7, rfl⟩, hA2, s2, as, chs, hR2, hE2, hl2, ok2⟩
      refine ⟨_, rfl, R, _, rfl, .inl ⟨.inl (.inl hR2), fun l hl => ?_⟩⟩
      refine q l chs _ (hA2.same (same_new hl)) (s2.trans (sx (same_new hl))) ⟨as, upd_same, hE2.mono fun p ch e => (same_new hl) _ _ e⟩ ⟨?_, ok2⟩
      omega
end
end Wl





namespace Wl
open PySem PySem.Spec PyProof.Rows L2
abbrev sFresh : Stmt := topS 68
abbrev sLand : Stmt := topS 72
abbrev sNames : Stmt := topS 73

/-! ### a word that is not in use -/
def spareS (A B : Str) : List Str := ((List.range' 97 26).map fun c => A ++ sign c) ++ (List.range' 97 13).map fun c => B ++ sign c ++ ("z" : Str)
theorem codes_add (x y : Str) : (x ++ y).cps.toList = x.cps.toList ++ y.cps.toList := TL.tl_append x y
theorem spare_free (A B : Str) (ws : List Str) (h : ws.length ≤ 35) : ∃ z ∈ spareS A B, z ∉ ws := by
  refine Classical.byContradiction fun no => ?_
  have all : ∀ z ∈ spareS A B, z ∈ ws := fun z hz => Classical.byContradiction fun k => no ⟨z, hz, k⟩
  have nd : (((List.range' 97 25).map fun c => A ++ sign c) ++ (List.range' 97 13).map fun c => B ++ sign c ++ ("z" : Str)).Nodup := by
    have zc : ("z" : Str).cps.toList = [122] := by decide +kernel
    have c1 : ∀ c, (A ++ sign c).cps.toList = A.cps.toList ++ [c] := fun c => codes_add A (sign c)
    have c2 : ∀ c, (B ++ sign c ++ ("z" : Str)).cps.toList = B.cps.toList ++ [c] ++ [122] := fun c => by
      rw [codes_add, codes_add, zc]
      rfl
    rw [List.nodup_append]
    refine ⟨?_, ?_, ?_⟩
    · refine List.pairwise_map.mpr ((List.nodup_range' (s := 97) (n := 25) (step := 1)).imp fun {a b} ne e => ne ?_)
      have := congrArg (fun z : Str => z.cps.toList) e
      simp only [c1] at this
      simpa using this
    · refine List.pairwise_map.mpr ((List.nodup_range' (s := 97) (n := 13) (step := 1)).imp fun {a b} ne e => ne ?_)
      have := congrArg (fun z : Str => z.cps.toList) e
      simp only [c2] at this
      simpa using this
    · intro x hx y hy e
      obtain ⟨c, hc, rfl⟩ := List.mem_map.mp hx
      obtain ⟨d, hd, rfl⟩ := List.mem_map.mp hy
      have := congrArg (fun z : Str => z.cps.toList.getLast?) e
      simp only [c1, c2, List.getLast?_append, List.getLast?_singleton, Option.some_or, Option.some.injEq] at this
      rw [List.mem_range'_1] at hc
      omega
  have sub : (((List.range' 97 25).map fun c => A ++ sign c) ++ (List.range' 97 13).map fun c => B ++ sign c ++ ("z" : Str)) ⊆ ws := by
    intro z hz
    refine all z ?_
    rcases List.mem_append.mp hz with hz | hz
    · obtain ⟨c, hc, rfl⟩ := List.mem_map.mp hz
      refine List.mem_append.mpr (.inl (List.mem_map.mpr ⟨c, ?_, rfl⟩))
      rw [List.mem_range'_1] at hc ⊢
      omega
    · exact List.mem_append.mpr (.inr hz)
  have := nd.length_le_of_subset sub
  simp at this
  omega
theorem spare_wd {z : Str} (h : IsWd z) : ∀ y ∈ spareS (cutS z none (some 7)) (cutS z none (some 6)), IsWd y := by
  have hl := h.len
  have hz : z.length = z.cps.toList.length := by simp [Str.length]
  have hc : ∀ c ∈ z.cps.toList, 97 ≤ c ∧ c ≤ 122 := by
    unfold IsWd wdB at h
    simp only [Bool.and_eq_true, decide_eq_true_eq, List.all_eq_true] at h
    exact h.2
  have zc : ("z" : Str).cps.toList = [122] := by decide +kernel
  intro y hy
  rcases List.mem_append.mp hy with hy | hy
  · obtain ⟨c, hcm, rfl⟩ := List.mem_map.mp hy
    rw [List.mem_range'_1] at hcm
    have e : (cutS z none (some 7) ++ sign c).cps.toList = z.cps.toList.take 7 ++ [c] := by
      rw [codes_add, show ((7 : Int)) = ((7 : Nat) : Int) from rfl, cut_hi]
      rfl
    refine isWd_of ?_ ?_ ?_
    · rw [e]; simp
    · rw [e]; simp; omega
    · rw [e]
      intro d hd
      rcases List.mem_append.mp hd with hd | hd
      · exact hc d (List.mem_of_mem_take hd)
      · rw [List.mem_singleton.mp hd]; omega
  · obtain ⟨c, hcm, rfl⟩ := List.mem_map.mp hy
    rw [List.mem_range'_1] at hcm
    have e : (cutS z none (some 6) ++ sign c ++ ("z" : Str)).cps.toList = z.cps.toList.take 6 ++ [c] ++ [122] := by
      rw [codes_add, codes_add, show ((6 : Int)) = ((6 : Nat) : Int) from rfl, cut_hi, zc]
      rfl
    refine isWd_of ?_ ?_ ?_
    · rw [e]; simp
    · rw [e]; simp; omega
    · rw [e]
      intro d hd
      rcases List.mem_append.mp hd with hd | hd
      · rcases List.mem_append.mp hd with hd | hd
        · exact hc d (List.mem_of_mem_take hd)
        · rw [List.mem_singleton.mp hd]; omega
      · rw [List.mem_singleton.mp hd]; omega

section
variable {P : Program} {w : World} {K : PySem.W.Frag} {mg : Str → Option Value} {base : Heap} {f : Addr} {fd : FuncData}
def spFresh : Sp := fun vs H Q _ => ∃ (a u : Addr) (ws : List Str), vs = [.ref a, .ref u] ∧ PurseAt H a ∧ H u = some (.lst (ws.map V.str)) ∧ u ≠ a ∧ ws.length ≤ 35 ∧
  ∀ (z : Str) (H' : Hp), IsWd z → z ∉ ws → PurseAt H' a → SameX a H H' → Q (.str z) H'
abbrev nFresh : List Str := ["_law_purse_here", "_law_used", "_law_sound", "_law_spare", "_law_sign", "_law_seen"]
theorem scFresh : FnScope nFresh ["_law_purse_here", "_law_used"] (defScope sFresh) :=
  ⟨rfl, rfl, rfl, by decide +kernel, rfl, by decide +kernel, by decide +kernel⟩
def addS (A : Str) (B : Str) : V → V
  | .str s => .str (A ++ s ++ B)
  | v => v
theorem wd_line {z : Str} (h : IsWd z) : z.length ≤ sizeLine := lzl (by have := h.len; omega)
theorem ok_fresh (F : Fun K "_law_fresh" "_law_fresh" sFresh f fd) (B : Bi mg) (hW : Has P w K mg base "_law_word" 2 ["_law_purse_here"] spWord) :
    FnOk P w K mg base CX0 3 f fd ["_law_purse_here", "_law_used"] spFresh := by
  refine F.ok scFresh (fun vs H Q E h => ?_) (fun cdv A outer s H vs Q E hr h => ?_)
  · obtain ⟨a, u, ws, rfl, _⟩ := h
    rfl
  · obtain ⟨a, u, ws, rfl, hA, hu, nua, hl, q⟩ := h
    refine ⟨_, pss_cons (ps_set (i := 2) scFresh.nd rfl (.inr rfl) (pe_h hW hr (pa_cons (pv 0) pa_nil)))
      (pss_cons (ps_if (pt_cmpR op_notIn_seq (pv 2) (pv 1) (by rfl)) (pss_one (ps_ret (pv 2))) pss_nil)
      (pss_cons (ps_setLc (i := 3) (own := [("_law_sign", 4)]) (g := gName 4) (tt := tYes) rfl scFresh.nd rfl rfl (sw_true rfl rfl rfl (by decide +kernel)) (pi_str pe_str) (blkOk_by (N := nFresh) (sc := defScope sFresh) (by decide +kernel))
        (fun _ _ _ _ _ => pg_name (i := 4) scFresh.nd rfl (.inl rfl)) (fun _ _ _ _ _ => pts_nil) (fun _ _ _ _ _ => pe_op op_add_str (pe_slice sl_str (pv 2) po_none (po_some pe_int)) (pv 4)))
      (pss_cons (ps_set (i := 3) scFresh.nd rfl (.inl rfl) (pe_op op_cat (pv 3) (pe_lc (own := [("_law_sign", 4)]) (g := gName 4) (tt := tYes) rfl scFresh.nd (pi_str pe_str) (blkOk_by (N := nFresh) (sc := defScope sFresh) (by decide +kernel))
        (fun _ _ _ _ _ => pg_name (i := 4) scFresh.nd rfl (.inl rfl)) (fun _ _ _ _ _ => pts_nil) (fun _ _ _ _ _ => pe_op op_add_str (pe_op op_add_str (pe_slice sl_str (pv 2) po_none (po_some pe_int)) (pv 4)) pe_str))))
      (pss_one (ps_ret (pe_ix ix_list (pe_lc (own := [("_law_seen", 5)]) (g := gName 5) (tt := tTest (tOp (rIn K true) (tVar 5) (tVar 1))) rfl scFresh.nd (pi_list (pv 3)) (blkOk_by (N := nFresh) (sc := defScope sFresh) (by decide +kernel))
        (fun _ _ _ _ _ => pg_name (i := 5) scFresh.nd rfl (.inl rfl)) (fun _ _ _ _ _ => pts_one (pt_cmpR op_notIn_seq (pv 5) (pv 1) (by rfl))) (fun _ _ _ _ _ => pv 5)) pe_int (fun _ _ => rfl))))))), ?_⟩
    refine ⟨_, rfl, a, rfl, hA, fun z H1 hz hA1 s1 => ?_⟩
    have hu1 : H1 u = some (.lst (ws.map V.str)) := s1 _ _ nua hu
    refine ⟨_, rfl, _, rfl, u, ws.map V.str, rfl, .inl (.inl (.inl hu1)), rfl, flat_strs ws, _, rfl, ite_b (fun e => ?_) (fun e => ?_)⟩
    · rw [if_pos rfl, inV_strs, Bool.not_eq_true', decide_eq_false_iff_not] at e
      exact ⟨_, rfl, q z H1 hz e hA1 s1⟩
    · refine ⟨_, rfl, fun D hD => lc_map walk_signs hD (fun _ => true) (addS (cutS z none (some 7)) ⟨#[]⟩) (fun _ _ => trivial) (fun _ => rfl) (fun x H' _ _ Q' q' => q') ?_ lz ?_⟩
      · intro x H' hx _ _ Q' q'
        obtain ⟨c, hc, rfl⟩ := List.mem_map.mp hx
        refine ⟨_, rfl, 7, rfl, z, rfl, wd_line hz, _, rfl, _, _, rfl, rfl, ?_, ?_⟩
        · have := cutS_length z none (some 7)
          have := hz.len
          exact lzl (by show (cutS z none (some 7)).length + 1 ≤ 1000; omega)
        · have e0 : addS (cutS z none (some 7)) ⟨#[]⟩ (.str (sign c)) = .str (cutS z none (some 7) ++ sign c) := by
            refine congrArg V.str (str_ext ?_)
            rw [codes_add]
            simp
          rw [e0] at q'
          exact q'
      · intro H2 s2 hD2
        have hu2 := s2 _ _ hu1
        have hA2 := hA1.same s2
        refine ⟨_, rfl, _, rfl, fun D3 hD3 => lc_map walk_signs hD3 (fun _ => true) (addS (cutS z none (some 6)) "z") (fun _ _ => trivial) (fun _ => rfl) (fun x H' _ _ Q' q' => q') ?_ lz ?_⟩
        · intro x H' hx _ _ Q' q'
          obtain ⟨c, hc, rfl⟩ := List.mem_map.mp hx
          have h6 := cutS_length z none (some 6)
          have hl8 := hz.len
          have hz1 : ("z" : Str).length = 1 := by decide +kernel
          have hadd : (cutS z none (some 6) ++ sign c).length = (cutS z none (some 6)).length + 1 := by
            rw [TL.len_tl, TL.tl_append, List.length_append, ← TL.len_tl]
            rfl
          refine ⟨_, rfl, 6, rfl, z, rfl, wd_line hz, _, rfl, _, _, rfl, rfl, ?_, _, _, rfl, rfl, ?_, q'⟩
          · exact lzl (by show (cutS z none (some 6)).length + 1 ≤ 1000; omega)
          · exact lzl (by rw [hz1]; show (cutS z none (some 6) ++ sign c).length + 1 ≤ 1000; omega)
        · intro H4 s4 hD4
          have e26 : (signsOf ("abcdefghijklmnopqrstuvwxyz" : Str)).filter (fun _ => true) = signsOf ("abcdefghijklmnopqrstuvwxyz" : Str) := List.filter_eq_self.mpr fun _ _ => rfl
          have e13 : (signsOf ("abcdefghijklm" : Str)).filter (fun _ => true) = signsOf ("abcdefghijklm" : Str) := List.filter_eq_self.mpr fun _ _ => rfl
          have c13 : ("abcdefghijklm" : Str).cps.toList = List.range' 97 13 := by decide +kernel
          have eall : ((signsOf ("abcdefghijklmnopqrstuvwxyz" : Str)).filter (fun _ => true)).map (addS (cutS z none (some 7)) ⟨#[]⟩) ++ ((signsOf ("abcdefghijklm" : Str)).filter (fun _ => true)).map (addS (cutS z none (some 6)) "z")
              = (spareS (cutS z none (some 7)) (cutS z none (some 6))).map V.str := by
            rw [e26, e13]
            unfold signsOf spareS
            rw [letters_eq, c13, List.map_append, List.map_map, List.map_map, List.map_map, List.map_map]
            congr 1
          refine ⟨D, D3, _, _, rfl, rfl, s4 _ _ hD2, hD4, lz, fun p5 hp5 => ?_⟩
          rw [eall]
          have s5 : Same H1 (upd H4 p5 (.lst ((spareS (cutS z none (some 7)) (cutS z none (some 6))).map V.str))) := (s2.trans s4).trans (same_new hp5)
          refine ⟨_, rfl, p5, rfl, ⟨_, .inl (.inl upd_same)⟩, fun D6 hD6 => lc_map (walk_list (K := K) (a := p5) (xs := (spareS (cutS z none (some 7)) (cutS z none (some 6))).map V.str)) hD6 (fun v => !inV v (ws.map V.str)) id (fun H' s' => .inl (.inl (s' _ _ upd_same))) (fun _ => rfl) ?_ ?_ lz ?_⟩
          · intro x H' hx s' Q' q'
            obtain ⟨y, hy, rfl⟩ := List.mem_map.mp hx
            exact ⟨_, rfl, _, rfl, u, _, rfl, .inl (.inl (.inl (s' _ _ (s5 _ _ hu1)))), rfl, flat_strs ws, _, rfl, q'⟩
          · intro x H' hx _ _ Q' q'
            exact ⟨_, rfl, q'⟩
          · intro H7 s7 hD7
            obtain ⟨y0, hy0, hn0⟩ := spare_free (cutS z none (some 7)) (cutS z none (some 6)) ws hl
            have hf : ((spareS (cutS z none (some 7)) (cutS z none (some 6))).map V.str).filter (fun v => !inV v (ws.map V.str)) = ((spareS (cutS z none (some 7)) (cutS z none (some 6))).filter fun y => decide (y ∉ ws)).map V.str := by
              rw [List.filter_map]
              congr 1
              refine List.filter_congr fun y _ => ?_
              simp only [Function.comp, inV_strs]
              by_cases c : y ∈ ws <;> simp [c]
            rw [List.map_id, hf] at hD7
            have hm0 : y0 ∈ (spareS (cutS z none (some 7)) (cutS z none (some 6))).filter fun y => decide (y ∉ ws) := List.mem_filter.mpr ⟨hy0, decide_eq_true hn0⟩
            cases hcl : (spareS (cutS z none (some 7)) (cutS z none (some 6))).filter fun y => decide (y ∉ ws) with
            | nil =>
              rw [hcl] at hm0
              cases hm0
            | cons y r =>
              have hym : y ∈ (spareS (cutS z none (some 7)) (cutS z none (some 6))).filter fun y => decide (y ∉ ws) := by
                rw [hcl]
                exact List.mem_cons_self
              obtain ⟨hy1, hy2⟩ := List.mem_filter.mp hym
              refine ⟨D6, _, 0, .str y, rfl, rfl, .inl (.inl hD7), atI_nat (j := 0) (by rw [hcl]; rfl), ?_⟩
              exact q y H7 (spare_wd hz y hy1) (of_decide_eq_true hy2) (hA1.same (s5.trans s7)) (s1.trans (sx (s5.trans s7)))
end
end Wl





namespace Wl
open PySem PySem.Spec PyProof.Rows L2
abbrev Row := List (Option Str)
abbrev Grid := List Row
def rnames (r : Row) : List Str := r.filterMap id
def names (g : Grid) : List Str := g.flatten.filterMap id
theorem names_nil : names [] = [] := rfl
theorem names_snoc (g : Grid) (r : Row) : names (g ++ [r]) = names g ++ rnames r := by
  unfold names rnames
  rw [List.flatten_append, List.filterMap_append]
  simp
theorem names_cons (r : Row) (g : Grid) : names (r :: g) = rnames r ++ names g := by
  unfold names rnames
  rw [List.flatten_cons, List.filterMap_append]
theorem rnames_snoc (r : Row) (o : Option Str) : rnames (r ++ [o]) = rnames r ++ o.toList := by
  unfold rnames
  rw [List.filterMap_append]
  cases o <;> rfl
structure Good (g : Grid) (wd : Nat) : Prop where
  h1 : 1 ≤ g.length
  h6 : g.length ≤ 6
  w1 : 1 ≤ wd
  w6 : wd ≤ 6
  rows : ∀ r ∈ g, r.length = wd
  nd : (names g).Nodup
  wd : ∀ z ∈ names g, IsWd z
  ne : names g ≠ []
/-- the heap keeps its tuples -/
def TupKeep (H H' : Hp) : Prop := ∀ p xs, H p = some (.tup xs) → H' p = some (.tup xs)
theorem TupKeep.refl (H : Hp) : TupKeep H H := fun _ _ h => h
theorem TupKeep.trans {H H1 H2 : Hp} (a : TupKeep H H1) (b : TupKeep H1 H2) : TupKeep H H2 := fun p xs h => b p xs (a p xs h)
theorem tk_same {H H' : Hp} (s : Same H H') : TupKeep H H' := fun p xs h => s p _ h
theorem tk_x {a : Addr} {H H' : Hp} {ys : List V} (s : SameX a H H') (ha : H a = some (.lst ys)) : TupKeep H H' := fun p xs h => s p _ (ne_of h ha (by intro z; cases z)) h
theorem tk_upd {a : Addr} {H : Hp} {ys : List V} {o : HO} (ha : H a = some (.lst ys)) : TupKeep H (upd H a o) := tk_x sameX_upd ha
theorem tk_new {p : Addr} {H : Hp} {o : HO} (hp : H p = none) : TupKeep H (upd H p o) := tk_same (same_new hp)
/-- rows of a grid as tuples -/
def RowsAt (H : Hp) (as : List Addr) (g : Grid) : Prop := Each (fun (p : Addr) (row : Row) => H p = some (.tup (row.map oV))) as g
theorem RowsAt.keep {H H' : Hp} {as : List Addr} {g : Grid} (h : RowsAt H as g) (k : TupKeep H H') : RowsAt H' as g := Each.mono (fun p row e => k p _ e) h
def GridAt (H : Hp) (L : Addr) (g : Grid) : Prop := ∃ as : List Addr, H L = some (.tup (as.map V.ref)) ∧ RowsAt H as g
theorem GridAt.keep {H H' : Hp} {L : Addr} {g : Grid} (h : GridAt H L g) (k : TupKeep H H') : GridAt H' L g := by
  obtain ⟨as, h1, h2⟩ := h
  exact ⟨as, k _ _ h1, h2.keep k⟩
/-- the part at a row and a column, none where there is none -/
def cellAt (g : Grid) (r c : Nat) : Option Str := match g[r]? with
  | some row => (row[c]?).getD none
  | none => none
theorem cellAt_some {g : Grid} {r c : Nat} {z : Str} (h : cellAt g r c = some z) : ∃ row, g[r]? = some row ∧ row[c]? = some (some z) := by
  unfold cellAt at h
  cases e : g[r]? with
  | none => rw [e] at h; cases h
  | some row =>
    rw [e] at h
    refine ⟨row, rfl, ?_⟩
    cases e2 : row[c]? with
    | none => simp only [e2] at h; cases h
    | some o => simp only [e2, Option.getD_some] at h; rw [h]
theorem cellAt_of {g : Grid} {r c : Nat} {row : Row} {o : Option Str} (h : g[r]? = some row) (k : row[c]? = some o) : cellAt g r c = o := by
  unfold cellAt
  rw [h]
  simp [k]
/-! ### the spots -/
def spR (i j : Nat) : Row → List (Str × Nat × Nat)
  | [] => []
  | none :: r => spR i (j + 1) r
  | some z :: r => (z, i, j) :: spR i (j + 1) r
def spG (i : Nat) : Grid → List (Str × Nat × Nat)
  | [] => []
  | row :: g => spR i 0 row ++ spG (i + 1) g
theorem spR_snoc (i : Nat) : ∀ (r : Row) (j : Nat) (o : Option Str), spR i j (r ++ [o]) = spR i j r ++ (o.toList.map fun z => (z, i, j + r.length))
  | [], j, none => rfl
  | [], j, some z => rfl
  | none :: r, j, o => by
    show spR i (j + 1) (r ++ [o]) = spR i (j + 1) r ++ _
    rw [spR_snoc i r (j + 1) o, List.length_cons]
    congr 2
    funext z
    rw [Nat.add_right_comm, Nat.add_assoc]
  | some y :: r, j, o => by
    show (y, i, j) :: spR i (j + 1) (r ++ [o]) = (y, i, j) :: spR i (j + 1) r ++ _
    rw [spR_snoc i r (j + 1) o, List.length_cons, List.cons_append]
    congr 3
    funext z
    rw [Nat.add_right_comm, Nat.add_assoc]
theorem spG_snoc : ∀ (g : Grid) (i : Nat) (r : Row), spG i (g ++ [r]) = spG i g ++ spR (i + g.length) 0 r
  | [], i, r => by simp [spG]
  | x :: g, i, r => by
    show spR i 0 x ++ spG (i + 1) (g ++ [r]) = spR i 0 x ++ spG (i + 1) g ++ _
    rw [spG_snoc g (i + 1) r, List.length_cons, List.append_assoc]
    congr 3
    omega
theorem spR_fst (i : Nat) : ∀ (r : Row) (j : Nat), (spR i j r).map (·.1) = rnames r
  | [], _ => rfl
  | none :: r, j => spR_fst i r (j + 1)
  | some z :: r, j => congrArg (z :: ·) (spR_fst i r (j + 1))
theorem spG_fst : ∀ (g : Grid) (i : Nat), (spG i g).map (·.1) = names g
  | [], _ => rfl
  | r :: g, i => by
    show (spR i 0 r ++ spG (i + 1) g).map (·.1) = _
    rw [List.map_append, spR_fst, spG_fst g (i + 1), names_cons]
theorem spR_mem (i : Nat) {z : Str} {a b : Nat} : ∀ (r : Row) (j : Nat), (z, a, b) ∈ spR i j r ↔ a = i ∧ ∃ k, b = j + k ∧ r[k]? = some (some z)
  | [], j => by simp [spR]
  | none :: r, j => by
    show (z, a, b) ∈ spR i (j + 1) r ↔ _
    rw [spR_mem i r (j + 1)]
    constructor
    · rintro ⟨h, k, e, q⟩
      exact ⟨h, k + 1, by omega, by simpa using q⟩
    · rintro ⟨h, k, e, q⟩
      cases k with
      | zero => simp at q
      | succ k => exact ⟨h, k, by omega, by simpa using q⟩
  | some y :: r, j => by
    show (z, a, b) ∈ (y, i, j) :: spR i (j + 1) r ↔ _
    rw [List.mem_cons, spR_mem i r (j + 1)]
    constructor
    · rintro (h | ⟨h, k, e, q⟩)
      · cases h
        exact ⟨rfl, 0, rfl, rfl⟩
      · exact ⟨h, k + 1, by omega, by simpa using q⟩
    · rintro ⟨h, k, e, q⟩
      cases k with
      | zero =>
        simp at q
        subst q h
        exact .inl (by rw [e, Nat.add_zero])
      | succ k => exact .inr ⟨h, k, by omega, by simpa using q⟩
theorem spG_mem {z : Str} {a b : Nat} : ∀ (g : Grid) (i : Nat), (z, a, b) ∈ spG i g ↔ ∃ k row, a = i + k ∧ g[k]? = some row ∧ row[b]? = some (some z)
  | [], i => by simp [spG]
  | r :: g, i => by
    show (z, a, b) ∈ spR i 0 r ++ spG (i + 1) g ↔ _
    rw [List.mem_append, spR_mem, spG_mem g (i + 1)]
    constructor
    · rintro (⟨h, k, e, q⟩ | ⟨k, row, e, q, t⟩)
      · exact ⟨0, r, by omega, rfl, by rw [e, Nat.zero_add]; exact q⟩
      · exact ⟨k + 1, row, by omega, by simpa using q, t⟩
    · rintro ⟨k, row, e, q, t⟩
      cases k with
      | zero =>
        simp at q
        subst q
        exact .inl ⟨by omega, b, by omega, t⟩
      | succ k => exact .inr ⟨k, row, by omega, by simpa using q, t⟩
theorem spG_cell {g : Grid} {z : Str} {r c : Nat} : (z, r, c) ∈ spG 0 g ↔ cellAt g r c = some z := by
  rw [spG_mem]
  constructor
  · rintro ⟨k, row, e, q, t⟩
    have : r = k := by omega
    subst this
    exact cellAt_of q t
  · intro h
    obtain ⟨row, q, t⟩ := cellAt_some h
    exact ⟨r, row, by omega, q, t⟩
theorem mem_names {g : Grid} {z : Str} : z ∈ names g ↔ ∃ r c, cellAt g r c = some z := by
  rw [← spG_fst g 0]
  constructor
  · intro h
    obtain ⟨⟨y, r, c⟩, hm, rfl⟩ := List.mem_map.mp h
    exact ⟨r, c, spG_cell.mp hm⟩
  · rintro ⟨r, c, h⟩
    exact List.mem_map.mpr ⟨_, spG_cell.mpr h, rfl⟩
theorem nodup_fst {α β : Type} : ∀ {l : List (α × β)}, (l.map (·.1)).Nodup → ∀ {a : α} {b b' : β}, (a, b) ∈ l → (a, b') ∈ l → b = b'
  | [], _, _, _, _, h, _ => by cases h
  | x :: l, nd, a, b, b', h, k => by
    obtain ⟨h1, h2⟩ := List.nodup_cons.mp nd
    rcases List.mem_cons.mp h with e | h <;> rcases List.mem_cons.mp k with e' | k
    · rw [← e] at e'
      exact (Prod.mk.inj e').2.symm
    · exact absurd (List.mem_map.mpr ⟨_, k, by rw [← e]⟩) h1
    · exact absurd (List.mem_map.mpr ⟨_, h, by rw [← e']⟩) h1
    · exact nodup_fst h2 h k
theorem cell_inj {g : Grid} (nd : (names g).Nodup) {z : Str} {r c r' c' : Nat} (h : cellAt g r c = some z) (k : cellAt g r' c' = some z) : r = r' ∧ c = c' := by
  have := nodup_fst (l := spG 0 g) (by rw [spG_fst]; exact nd) (spG_cell.mpr h) (spG_cell.mpr k)
  exact Prod.mk.inj this
theorem Good.cell {g : Grid} {wd : Nat} (G : Good g wd) {r c : Nat} {z : Str} (h : cellAt g r c = some z) : r < g.length ∧ c < wd := by
  obtain ⟨row, h1, h2⟩ := cellAt_some h
  obtain ⟨a, e⟩ := List.getElem?_eq_some_iff.mp h1
  obtain ⟨b, _⟩ := List.getElem?_eq_some_iff.mp h2
  have := G.rows row (List.mem_of_getElem? h1)
  exact ⟨a, by omega⟩
theorem Good.len {g : Grid} {wd : Nat} (G : Good g wd) : (names g).length ≤ 36 := by
  have h : ∀ l : Grid, (∀ r ∈ l, r.length = wd) → (names l).length ≤ l.length * wd := by
    intro l
    induction l with
    | nil => intro _; simp [names]
    | cons r l ih =>
      intro h
      rw [names_cons, List.length_append, List.length_cons]
      have h1 : (rnames r).length ≤ wd := by
        have := List.length_filterMap_le id r
        have := h r List.mem_cons_self
        unfold rnames
        omega
      have h2 := ih fun r hr => h r (List.mem_cons_of_mem _ hr)
      rw [Nat.succ_mul]
      omega
  have h1 := h g G.rows
  have h2 : g.length * wd ≤ 6 * 6 := Nat.mul_le_mul G.h6 G.w6
  omega
end Wl

namespace Wl
open PySem PySem.Spec PyProof.Rows L2
section
variable {P : Program} {w : World} {K : PySem.W.Frag} {mg : Str → Option Value} {base : Heap} {f : Addr} {fd : FuncData}
def spLand : Sp := fun vs H Q _ => ∃ (a : Addr) (m : Int), vs = [.ref a, .int m] ∧ PurseAt H a ∧ 1 ≤ m ∧ m ≤ 6 ∧
  ∀ (L : Addr) (g : Grid) (wd : Nat) (H' : Hp), Good g wd → GridAt H' L g → PurseAt H' a → SameX a H H' → Q (.ref L) H'
abbrev nLand : List Str := ["_law_purse_here", "_law_top", "_law_high", "_law_wide", "_law_names_here", "_law_rows", "_law_row", "_law_parts", "_law_column", "_law_lake", "_law_name"]
theorem scLand : FnScope nLand ["_law_purse_here", "_law_top"] (defScope sLand) :=
  ⟨rfl, rfl, rfl, by decide +kernel, rfl, by decide +kernel, by decide +kernel⟩
/-- what holds of the heap while the land is laid: the rows laid so far, the parts of this one -/
structure Laying (H0 H : Hp) (a tA lA : Addr) (g : Grid) (wd : Nat) (ps : Row) : Prop where
  purse : PurseAt H a
  same : SameX a H0 H
  towns : H tA = some (.lst ((names g ++ rnames ps).map V.str))
  laid : ∃ as, H lA = some (.lst (as.map V.ref)) ∧ RowsAt H as g
  rows : ∀ r ∈ g, r.length = wd
  nd : (names g ++ rnames ps).Nodup
  wds : ∀ z ∈ names g ++ rnames ps, IsWd z
theorem len_names {g : Grid} {wd : Nat} (h : ∀ r ∈ g, r.length = wd) : (names g).length ≤ g.length * wd := by
  induction g with
  | nil => simp [names]
  | cons r l ih =>
    rw [names_cons, List.length_append, List.length_cons]
    have h1 : (rnames r).length ≤ wd := by
      have := List.length_filterMap_le id r
      have := h r List.mem_cons_self
      unfold rnames
      omega
    have h2 := ih fun r hr => h r (List.mem_cons_of_mem _ hr)
    rw [Nat.succ_mul]
    omega
theorem lake_reads {σ : L2.St} {H : Hp} {Q : VK} {a tA : Addr} {ws : List Str} {x y hi wd : Int} (e0 : σ[0]? = some (some (.ref a))) (e4 : σ[4]? = some (some (.ref tA))) (e6 : σ[6]? = some (some (.int x))) (e8 : σ[8]? = some (some (.int y)))
    (e2 : σ[2]? = some (some (.int hi))) (e3 : σ[3]? = some (some (.int wd))) (hA : PurseAt H a) (ht : H tA = some (.lst (ws.map V.str))) (nta : tA ≠ a) (hws : ∀ z ∈ ws, IsWd z)
    (q : ∀ (b : Bool) (H' : Hp), PurseAt H' a → SameX a H H' → (b = true → ws ≠ [] ∨ x + y + 2 < hi + wd) → Q (.bl b) H') :
    tAndV (tOp rEq (tCall spPick [] E0 (tCons (tVar 0) (tCons (tC (.int 6)) tNil))) (tC (.int 5)))
      (tOrV (tOp (rNeD K) (tVar 4) (tLst tNil)) (tOp (rI0 fun i j => .bl (decide (i < j))) (tOp (rI0 fun i j => .int (i + j)) (tOp (rI0 fun i j => .int (i + j)) (tVar 6) (tVar 8)) (tC (.int 2))) (tOp (rI0 fun i j => .int (i + j)) (tVar 2) (tVar 3)))) σ H Q := by
  refine ⟨_, e0, a, 6, rfl, hA, by decide, by decide, fun r H1 r0 r1 hA1 s1 n1 => ⟨rfl, _, rfl, ite_b (fun e => ?_) (fun e => ?_)⟩⟩
  · refine ⟨_, e4, lz, fun p hp => ⟨.list (ws.map .str), .list [], .lst (.inl (.inl ((same_new hp) _ _ (s1 _ _ nta ht)))) (dp_strs ws), .lst (.inl (.inl upd_same)) .nil, shaped_list (lay_strs hws) (by rw [depth_strs]; decide), rfl, _, rfl, ite_b (fun e => ?_) (fun e => ?_)⟩⟩
    · refine q true _ (hA1.same (same_new hp)) (s1.trans (sx (same_new hp))) fun _ => .inl fun z => ?_
      subst z
      cases e
    · refine ⟨_, e6, _, e8, _, _, rfl, rfl, _, _, rfl, rfl, _, e2, _, e3, _, _, rfl, rfl, _, _, rfl, rfl, ?_⟩
      exact q _ _ (hA1.same (same_new hp)) (s1.trans (sx (same_new hp))) fun z => .inr (of_decide_eq_true z)
  · exact q false _ hA1 s1 fun z => by cases z
theorem Laying.go {H0 H H' : Hp} {a tA lA : Addr} {g : Grid} {wd : Nat} {ps : Row} (h : Laying H0 H a tA lA g wd ps) (nt : tA ≠ a) (nl : lA ≠ a) (hp : PurseAt H' a) (s : SameX a H H') : Laying H0 H' a tA lA g wd ps := by
  obtain ⟨as, hl, hR⟩ := h.laid
  obtain ⟨ys, ha⟩ := h.purse.lst
  exact ⟨hp, h.same.trans s, s _ _ nt h.towns, ⟨as, s _ _ nl hl, hR.keep (tk_x s ha)⟩, h.rows, h.nd, h.wds⟩
theorem ok_land (F : Fun K "_law_land" "_law_land" sLand f fd) (B : Bi mg) (hp : Has P w K mg base "_law_pick" 1 ["_law_purse_here", "_law_many"] spPick) (hF : Has P w K mg base "_law_fresh" 3 ["_law_purse_here", "_law_used"] spFresh) :
    FnOk P w K mg base CX0 4 f fd ["_law_purse_here", "_law_top"] spLand := by
  refine F.ok scLand (fun vs H Q E h => ?_) (fun cdv A outer s H vs Q E hr h => ?_)
  · obtain ⟨a, m, rfl, _⟩ := h
    rfl
  · obtain ⟨a, m, rfl, hA, m1, m6, q⟩ := h
    refine ⟨_, pss_cons (ps_par3 (i := 2) (j := 3) (l := 4) (by rfl) scLand.nd rfl rfl rfl (by decide) (by decide) (by decide) rfl rfl rfl (pa_cons (pe_op op_add pe_int (pe_h hp hr (pa_cons (pv 0) (pa_cons (pv 1) pa_nil)))) (pa_cons (pe_op op_add pe_int (pe_h hp hr (pa_cons (pv 0) (pa_cons (pv 1) pa_nil)))) (pa_cons (pe_lst pa_nil) pa_nil))) (by rfl))
      (pss_cons (ps_set (i := 5) scLand.nd rfl (.inl rfl) (pe_lst pa_nil))
      (pss_cons (ps_for PassesOwn.never rfl (pi_range1 rfl B.range (pa_cons (pv 2) pa_nil)) (pg_name (i := 6) scLand.nd rfl (.inl rfl))
        (pss_cons (ps_set (i := 7) scLand.nd rfl (.inl rfl) (pe_lst pa_nil))
        (pss_cons (ps_for PassesOwn.never rfl (pi_range1 rfl B.range (pa_cons (pv 3) pa_nil)) (pg_name (i := 8) scLand.nd rfl (.inl rfl))
          (pss_cons (ps_set (i := 9) scLand.nd rfl (.inl rfl) (pe_and (pe_cmpR op_eq (pe_h hp hr (pa_cons (pv 0) (pa_cons pe_int pa_nil))) pe_int (nomark _)) (pe_one (pe_or (pe_cmpR (op_neD hr.units) (pv 4) (pe_lst pa_nil) (nomark _)) (pe_one (pe_cmpR op_lt (pe_op op_add (pe_op op_add (pv 6) (pv 8)) pe_int) (pe_op op_add (pv 2) (pv 3)) (nomark _)))))))
          (pss_cons (ps_set (i := 10) scLand.nd rfl (.inl rfl) (pe_h hF hr (pa_cons (pv 0) (pa_cons (pv 4) pa_nil))))
          (pss_cons (ps_if (pt_truth (pv 9) (by intro _; rfl)) (pss_one (ps_set (i := 10) scLand.nd rfl (.inl rfl) pe_non)) (pss_one (ps_expr (pe_bm PySem.F.plainAttrs_list PySem.F.slot_list_append PySem.F.type_list_append mt_append (pv 4) (pa_cons (pv 10) pa_nil)))))
          (pss_one (ps_expr (pe_bm PySem.F.plainAttrs_list PySem.F.slot_list_append PySem.F.type_list_append mt_append (pv 7) (pa_cons (pv 10) pa_nil))))))))
        (pss_one (ps_expr (pe_bm PySem.F.plainAttrs_list PySem.F.slot_list_append PySem.F.type_list_append mt_append (pv 5) (pa_cons (pe_callTy call_tuple_of (by rfl) B.tuple (by decide +kernel) (pa_cons (pv 7) pa_nil)) pa_nil)))))))
      (pss_one (ps_ret (pe_callTy call_tuple_of (by rfl) B.tuple (by decide +kernel) (pa_cons (pv 5) pa_nil)))))), ?_⟩
    refine ⟨_, rfl, _, rfl, a, m, rfl, hA, by omega, by omega, fun r1 H1 r10 r11 hA1 s1 n1 => ⟨_, _, rfl, rfl, ?_⟩⟩
    refine ⟨_, rfl, _, rfl, a, m, rfl, hA1, by omega, by omega, fun r2 H2 r20 r21 hA2 s2 n2 => ⟨_, _, rfl, rfl, ?_⟩⟩
    refine ⟨lz, fun tA htA => ⟨_, _, _, rfl, lz, fun lA hlA => ?_⟩⟩
    have nta : tA ≠ a := hA2.ne htA
    have nla : lA ≠ a := (hA2.same (same_new htA)).ne hlA
    have nlt : lA ≠ tA := (ne_of_none upd_same hlA).symm
    have htA0 : H tA = none := SameX.free (s1.trans s2) nta htA
    have hlA0 : H lA = none := SameX.free ((s1.trans s2).trans (sx (same_new htA))) nla hlA
    obtain ⟨hi, ehi⟩ : ∃ hi : Nat, 1 + r1 = (hi : Int) := ⟨(1 + r1).toNat, by omega⟩
    obtain ⟨wd, ewd⟩ : ∃ wd : Nat, 1 + r2 = (wd : Int) := ⟨(1 + r2).toNat, by omega⟩
    have n1 : (1 + r1).toNat = hi := by omega
    have n2 : (1 + r2).toNat = wd := by omega
    have hhi : 1 ≤ hi ∧ hi ≤ 6 := by omega
    have hwd : 1 ≤ wd ∧ wd ≤ 6 := by omega
    have L0 : Laying H (upd (upd H2 tA (.lst [])) lA (.lst [])) a tA lA [] wd [] := by
      refine ⟨(hA2.same (same_new htA)).same (same_new hlA), sameX_mut (sameX_mut (s1.trans s2) htA0) hlA0, ?_, ⟨[], upd_same, .nil⟩, (fun r hr => nomatch hr), List.nodup_nil, (fun z hz => nomatch hz)⟩
      rw [upd_ne nlt.symm, upd_same]
      rfl
    generalize upd (upd H2 tA (.lst [])) lA (.lst []) = H3 at L0
    refine ⟨_, rfl, 1 + r1, rfl, by omega, by omega, ?_⟩
    rw [n1]
    refine for_range (lo := 0) (n := hi) (fun i σ H' => ∃ (g : Grid) (y6 y7 y8 y9 y10 : Option V), σ = [some (.ref a), some (.int m), some (.int (1 + r1)), some (.int (1 + r2)), some (.ref tA), some (.ref lA), y6, y7, y8, y9, y10] ∧ g.length = i ∧ Laying H H' a tA lA g wd [] ∧ (i = hi → names g ≠ []))
      ⟨[], none, none, none, none, none, rfl, rfl, L0, fun e => by omega⟩ ?_ ?_
    · rintro i σ H4 hi4 ⟨g, y6, y7, y8, y9, y10, rfl, hgl, L4, _⟩
      refine ⟨lz, fun pA hpA => ?_⟩
      have npa : pA ≠ a := L4.purse.ne hpA
      have npt : pA ≠ tA := (ne_of_none L4.towns hpA).symm
      obtain ⟨as4, hl4, hR4⟩ := L4.laid
      have npl : pA ≠ lA := (ne_of_none hl4 hpA).symm
      have L5 := L4.go nta nla (L4.purse.same (same_new (o := .lst []) hpA)) (sx (same_new hpA))
      refine ⟨_, rfl, 1 + r2, rfl, by omega, by omega, ?_⟩
      rw [n2]
      refine for_range (lo := 0) (n := wd) (fun j σ H' => ∃ (ps : Row) (y8 y9 y10 : Option V), σ = [some (.ref a), some (.int m), some (.int (1 + r1)), some (.int (1 + r2)), some (.ref tA), some (.ref lA), some (.int (0 + i)), some (.ref pA), y8, y9, y10] ∧ ps.length = j ∧ Laying H H' a tA lA g wd ps ∧ H' pA = some (.lst (ps.map oV)) ∧ (i + 1 = hi → j = wd → names g ++ rnames ps ≠ []))
        ⟨[], _, _, _, rfl, rfl, L5, upd_same, fun _ e => by omega⟩ ?_ ?_
      · rintro j σ H6 hj ⟨ps, z8, z9, z10, rfl, hpl, L6, hp6, _⟩
        refine lake_reads (a := a) (tA := tA) (x := 0 + i) (y := 0 + j) (hi := 1 + r1) (wd := 1 + r2) rfl rfl rfl rfl rfl rfl L6.purse L6.towns nta L6.wds fun b H7 hA7 s7 hb => ?_
        have L7 := L6.go nta nla hA7 s7
        have hp7 := s7 _ _ npa hp6
        have hlen : (names g ++ rnames ps).length ≤ 35 := by
          have h1 := len_names L6.rows
          have h2 : (rnames ps).length ≤ ps.length := List.length_filterMap_le id ps
          rw [List.length_append]
          have h3 : g.length * wd ≤ 5 * wd := Nat.mul_le_mul_right _ (by omega)
          omega
        refine ⟨_, rfl, _, rfl, a, tA, names g ++ rnames ps, rfl, L7.purse, L7.towns, nta, hlen, fun z H8 hz hzn hA8 s8 => ?_⟩
        have L8 := L7.go nta nla hA8 s8
        have hp8 := s8 _ _ npa hp7
        have hlt : ((names g ++ rnames ps).map V.str).length < sizeLine := by
          rw [List.length_map]
          exact small1000 (by omega)
        have hpl2 : (ps.map oV).length < sizeLine := by
          rw [List.length_map]
          exact small1000 (by omega)
        refine ⟨_, rfl, b, rfl, ite_b (fun e => ?_) (fun e => ?_)⟩
        · -- a lake
          refine ⟨_, rfl, .inl ⟨rfl, _, .inl (.inl hp8)⟩, _, rfl, pA, _, _, rfl, rfl, hp8, hpl2, ?_⟩
          obtain ⟨as8, hl8, hR8⟩ := L8.laid
          refine ⟨ps ++ [none], _, _, _, rfl, by simp [hpl], ⟨?_, ?_, ?_, ⟨as8, ?_, hR8.keep (tk_upd hp8)⟩, L8.rows, ?_, ?_⟩, ?_, ?_⟩
          · obtain ⟨x0, x1, x2, hx, hx1⟩ := L8.purse
            exact ⟨x0, x1, x2, by rw [upd_ne npa.symm]; exact hx, hx1⟩
          · exact sameX_mut L8.same (SameX.free L4.same npa hpA)
          · rw [upd_ne npt.symm, rnames_snoc]
            simpa using L8.towns
          · rw [upd_ne npl.symm]
            exact hl8
          · rw [rnames_snoc]
            simpa using L8.nd
          · rw [rnames_snoc]
            simpa using L8.wds
          · rw [upd_same, List.map_append]
            rfl
          · intro e1 e2
            rw [rnames_snoc]
            rcases hb e with h | h
            · simpa using h
            · omega
        · -- a village
          refine ⟨_, rfl, .inl ⟨rfl, _, .inl (.inl L8.towns)⟩, _, rfl, tA, _, _, rfl, rfl, L8.towns, hlt, ?_⟩
          have hp9 : upd H8 tA (.lst ((names g ++ rnames ps).map V.str ++ [.str z])) pA = some (.lst (ps.map oV)) := by
            rw [upd_ne npt]
            exact hp8
          refine ⟨_, rfl, .inl ⟨rfl, _, .inl (.inl hp9)⟩, _, rfl, pA, _, _, rfl, rfl, hp9, hpl2, ?_⟩
          obtain ⟨as8, hl8, hR8⟩ := L8.laid
          have en : names g ++ rnames (ps ++ [some z]) = (names g ++ rnames ps) ++ [z] := by
            rw [rnames_snoc, List.append_assoc]
            rfl
          refine ⟨ps ++ [some z], _, _, _, rfl, by simp [hpl], ⟨?_, ?_, ?_, ⟨as8, ?_, (hR8.keep (tk_upd L8.towns)).keep (tk_upd hp9)⟩, L8.rows, ?_, ?_⟩, ?_, ?_⟩
          · obtain ⟨x0, x1, x2, hx, hx1⟩ := L8.purse
            exact ⟨x0, x1, x2, by rw [upd_ne npa.symm, upd_ne nta.symm]; exact hx, hx1⟩
          · exact sameX_mut (sameX_mut L8.same htA0) (SameX.free L4.same npa hpA)
          · rw [upd_ne npt.symm, upd_same, en]
            simp
          · rw [upd_ne npl.symm, upd_ne nlt]
            exact hl8
          · rw [en, List.nodup_append]
            refine ⟨L8.nd, by simp, fun x hx y hy e => ?_⟩
            rw [List.mem_singleton.mp hy] at e
            rw [e] at hx
            exact hzn hx
          · rw [en]
            intro y hy
            rcases List.mem_append.mp hy with hy | hy
            · exact L8.wds y hy
            · rw [List.mem_singleton.mp hy]
              exact hz
          · rw [upd_same, List.map_append]
            rfl
          · intro _ _
            rw [en]
            simp
      · rintro σ H6 ⟨ps, z8, z9, z10, rfl, hpl, L6, hp6, hne⟩
        obtain ⟨as6, hl6, hR6⟩ := L6.laid
        refine ⟨_, rfl, .inl ⟨rfl, _, .inl (.inl hl6)⟩, _, rfl, pA, _, rfl, .inl ⟨.inl (.inl hp6), fun t ht => ?_⟩⟩
        have nlt6 : lA ≠ t := ne_of_none hl6 ht
        refine ⟨lA, _, _, rfl, rfl, (same_new ht) _ _ hl6, ?_, ?_⟩
        · rw [List.length_map, hR6.length]
          exact small1000 (by omega)
        · refine ⟨g ++ [ps], _, _, _, _, _, rfl, by simp [hgl], ⟨?_, ?_, ?_, ⟨as6 ++ [t], ?_, ?_⟩, ?_, ?_, ?_⟩, ?_⟩
          · obtain ⟨x0, x1, x2, hx, hx1⟩ := L6.purse.same (same_new (o := .tup (ps.map oV)) ht)
            exact ⟨x0, x1, x2, by rw [upd_ne nla.symm]; exact hx, hx1⟩
          · exact sameX_mut (L6.same.trans (sx (same_new ht))) hlA0
          · rw [upd_ne nlt.symm, (same_new ht) _ _ L6.towns, names_snoc]
            simp [rnames]
          · rw [upd_same, List.map_append]
            rfl
          · refine Each.append ((hR6.keep (tk_new ht)).keep (tk_upd ((same_new ht) _ _ hl6))) (.cons ?_ .nil)
            rw [upd_ne nlt6.symm, upd_same]
          · intro r hr
            rcases List.mem_append.mp hr with hr | hr
            · exact L6.rows r hr
            · rw [List.mem_singleton.mp hr]
              exact hpl
          · rw [names_snoc]
            simpa [rnames] using L6.nd
          · rw [names_snoc]
            simpa [rnames] using L6.wds
          · intro e
            rw [names_snoc]
            exact hne e rfl
    · rintro σ H4 ⟨g, y6, y7, y8, y9, y10, rfl, hgl, L4, hne⟩
      obtain ⟨as4, hl4, hR4⟩ := L4.laid
      refine ⟨_, rfl, lA, _, rfl, .inl ⟨.inl (.inl hl4), fun t ht => ?_⟩⟩
      refine q t g wd _ ⟨by omega, by omega, hwd.1, hwd.2, L4.rows, ?_, ?_, hne rfl⟩ ⟨as4, upd_same, hR4.keep (tk_new ht)⟩ (L4.purse.same (same_new ht)) (L4.same.trans (sx (same_new ht)))
      · simpa [rnames] using L4.nd
      · simpa [rnames] using L4.wds
end
end Wl




namespace Wl
open PySem PySem.Spec PyProof.Rows L2
abbrev sAreRows : Stmt := topS 39
abbrev sWrong : Stmt := topS 40
abbrev sSpotsIn : Stmt := topS 41
abbrev sSpots : Stmt := topS 42
structure Gk (mg : Str → Option Value) : Prop where
  letters : ∃ t, mg "LETTERS" = some (.str "abcdefghijklmnopqrstuvwxyz" t)
  longest : ∃ t, mg "LONGEST_WORD" = some (.int 8 t)
  mrows : ∃ t, mg "MOST_ROWS" = some (.int 6 t)
  mcols : ∃ t, mg "MOST_COLUMNS" = some (.int 6 t)
section
variable {P : Program} {w : World} {K : PySem.W.Frag} {mg : Str → Option Value} {base : Heap} {f : Addr} {fd : FuncData}

/-! ### is_word of a text -/
def spIsWord : Sp := fun vs H Q _ => ∃ (z : Str), vs = [.str z] ∧ z.length ≤ 1000 ∧ ∀ (H' : Hp), Same H H' → Q (.bl (wdB z)) H'
end
end Wl





namespace Wl
open PySem PySem.Spec PyProof.Rows L2
section
variable {P : Program} {w : World} {K : PySem.W.Frag} {mg : Str → Option Value} {base : Heap} {f : Addr} {fd : FuncData}

/-! ### are_rows of a good grid -/
def spAreRows : Sp := fun vs H Q _ => ∃ (L : Addr) (g : Grid) (wd : Nat), vs = [.ref L] ∧ GridAt H L g ∧ Good g wd ∧ Q (.bl true) H
abbrev nAreRows : List Str := ["thing", "row"]
theorem scAreRows : FnScope nAreRows ["thing"] (defScope sAreRows) := ⟨rfl, rfl, rfl, by decide +kernel, rfl, by decide +kernel, by decide +kernel⟩
theorem ok_arerows (F : Fun K "are_rows" "are_rows" sAreRows f fd) (B : Bi mg) (G : Gk mg) : FnOk P w K mg base CX0 1 f fd ["thing"] spAreRows := by
  obtain ⟨t1, g1⟩ := G.mrows
  obtain ⟨t2, g2⟩ := G.mcols
  refine F.ok scAreRows (fun vs H Q E h => ?_) (fun cdv A outer s H vs Q E hr h => ?_)
  · obtain ⟨L, g, wd, rfl, _⟩ := h
    rfl
  · obtain ⟨L, g, wd, rfl, ⟨as, hL, hR⟩, gd, q⟩ := h
    refine ⟨_, pss_cons (ps_if (PW.pt (pw_or (pt_not (pt_val (pe_callB call_isi (by rfl) B.isi (by decide +kernel) (pa_cons (pv 0) (pa_cons (pe_bltn (v := .ty "tuple") (by rfl) B.tuple (by decide +kernel) rfl) pa_nil)))))
        (pw_or1 (pt_not (pt_chain op_le op_le pe_int (pe_callB call_len_seq (by rfl) B.len PySem.boot_len (pa_cons (pv 0) pa_nil)) (pe_glob (v := .int 6) rfl g1 ⟨_, rfl⟩)))))) (pss_one (ps_ret pe_bl)) pss_nil)
      (pss_cons (ps_for PassesOwn.never rfl (pi_tup (pv 0)) (pg_name (i := 1) scAreRows.nd rfl (.inl rfl))
        (pss_one (ps_if (PW.pt (pw_or (pt_not (pt_val (pe_callB call_isi (by rfl) B.isi (by decide +kernel) (pa_cons (pv 1) (pa_cons (pe_bltn (v := .ty "tuple") (by rfl) B.tuple (by decide +kernel) rfl) pa_nil)))))
          (pw_or (pt_not (pt_chain op_le op_le pe_int (pe_callB call_len_seq (by rfl) B.len PySem.boot_len (pa_cons (pv 1) pa_nil)) (pe_glob (v := .int 6) rfl g2 ⟨_, rfl⟩)))
          (pw_or1 (pt_cmpR op_ne (pe_callB call_len_seq (by rfl) B.len PySem.boot_len (pa_cons (pv 1) pa_nil)) (pe_callB call_len_seq (by rfl) B.len PySem.boot_len (pa_cons (pe_ix ix_tup (pv 0) pe_int (fun _ _ => rfl)) pa_nil)) (nomark _)))))) (pss_one (ps_ret pe_bl)) pss_nil)))
      (pss_one (ps_ret pe_bl))), ?_⟩
    have hlen : (as.map V.ref).length = g.length := by rw [List.length_map, hR.length]
    have hST : SqT K H L (as.map V.ref) := .inl (.inl hL)
    have h16 : 1 ≤ g.length ∧ g.length ≤ 6 := ⟨gd.h1, gd.h6⟩
    have w16 : 1 ≤ wd ∧ wd ≤ 6 := ⟨gd.w1, gd.w6⟩
    refine ⟨_, rfl, _, _, _, _, _, rfl, .ty "tuple", .base (.tup hL), kit_ty (r := true) (by decide +kernel), true, rfl, ?_⟩
    refine iteF ⟨_, rfl, L, _, rfl, .inr hST, _, _, rfl, rfl, _, rfl, ite_b (fun e1 => ?_) (fun e1 => ?_)⟩
    · refine ⟨_, _, rfl, rfl, _, rfl, not_b (fun e2 => ?_) (fun e2 => ?_)⟩
      · have := of_decide_eq_false e2
        omega
      · refine ⟨_, rfl, L, rfl, ⟨_, hST⟩, for_tup (K := K) (a := L) (xs := as.map V.ref) (fun i σ H' => (∃ y, σ = [some (.ref L), y]) ∧ H' = H) ⟨⟨_, rfl⟩, rfl⟩ (fun i σ H' _ h => by rw [h.2]; exact hST) ?_ ?_⟩
        · rintro i x σ H' hx ⟨⟨y, rfl⟩, rfl⟩
          rw [List.getElem?_map] at hx
          obtain ⟨p, hp, rfl⟩ := Option.map_eq_some_iff.mp hx
          obtain ⟨row, hrow, hH⟩ := hR.get hp
          have hrl : (row.map oV).length = wd := by rw [List.length_map]; exact gd.rows row (List.mem_of_getElem? hrow)
          have hrT : SqT K H' p (row.map oV) := .inl (.inl hH)
          obtain ⟨p0, hp0⟩ : ∃ p0, as[0]? = some p0 := by
            cases as with
            | nil =>
              have := hR.length
              simp at this
              omega
            | cons a0 r => exact ⟨a0, rfl⟩
          obtain ⟨row0, hrow0, hH0⟩ := hR.get hp0
          have hr0l : (row0.map oV).length = wd := by rw [List.length_map]; exact gd.rows row0 (List.mem_of_getElem? hrow0)
          refine ⟨_, rfl, _, _, _, _, _, rfl, .ty "tuple", .base (.tup hH), kit_ty (r := true) (by decide +kernel), true, rfl, ?_⟩
          refine iteF ⟨_, rfl, p, _, rfl, .inr hrT, _, _, rfl, rfl, _, rfl, ite_b (fun e3 => ?_) (fun e3 => ?_)⟩
          · refine ⟨_, _, rfl, rfl, _, rfl, not_b (fun e4 => ?_) (fun e4 => ?_)⟩
            · have := of_decide_eq_false e4
              omega
            · refine ⟨_, rfl, p, _, rfl, .inr hrT, _, rfl, L, _, 0, .ref p0, rfl, rfl, hST, atI_nat (j := 0) (by rw [List.getElem?_map, hp0]; rfl), p0, _, rfl, .inr (.inl (.inl hH0)), rfl, _, rfl, ?_⟩
              refine iteNS (by rw [hrl, hr0l]) ?_
              exact ⟨⟨_, rfl⟩, rfl⟩
          · have := of_decide_eq_false e3
            omega
        · rintro σ H' ⟨⟨y, rfl⟩, rfl⟩
          exact q
    · have := of_decide_eq_false e1
      omega
end
end Wl





/-! A dict comprehension of two clauses: {k: v for a in .. if .. for b in .. if ..}. -/
namespace Wl
open PySem PySem.Spec PyProof.Rows L2
/-- the whole of it -/
abbrev two (kx vx ta ia tb ib : Expr) (fa fb : List Expr) (sc : Scope) (pos : Pos) : Expr := .DictComp kx vx [⟨ta, ia, fa, 0⟩, ⟨tb, ib, fb, 0⟩] sc pos
/-- a clause's tests -/
abbrev testsOf (fs : List Expr) (env : Env) : Sem Bool :=
  forIn fs true fun c r => if r = true then (do let y ← isTrue c env (eval c env); pure (ForInStep.yield y)) else pure (ForInStep.yield r)
/-- a turn of a clause: no item is left, or one comes, is stored and tested -/
def Turned (M : Model) (A : Around) (env : Env) (tg : Expr) (it : Value) (fs : List Expr) (stop : Shared → Prop) (k : Bool → Shared → Prop) (E : Value → Shared → Prop) (s : Shared) : Prop :=
  wpAny M A (pyNext it) (fun r s1 => match r with
    | none => stop s1
    | some u => wpAny M A (letOwnedTupleGo tg it u) (fun _ s2 => wpAny M A (assign tg env u) (fun _ s3 => wpAny M A (testsOf fs env) k E s3) E s2) E s1) E s
section
variable {kx vx ta ia tb ib : Expr} {fa fb : List Expr} {sc : Scope} {pos : Pos} {it : Value} {D : Addr} {env : Env}
theorem turnA : compTurn (two kx vx ta ia tb ib fa fb sc pos) 0 it (.ref D) env = (do
    standAt ia.pos
    match ← pyNext it with
    | none => pure (.done .next)
    | some u =>
      letOwnedTupleGo ta it u
      assign ta env u
      let yes ← testsOf fa env
      if yes = true then
        let x ← eval ib env
        standAt ib.pos
        let z ← foldedSetIterable ib env x
        let _ ← runOwn (.compStart (two kx vx ta ia tb ib fa fb sc pos) 1 (← holding [z] (pyIter z)) (.ref D) env) env
      again (.compLoop (two kx vx ta ia tb ib fa fb sc pos) 0 it (.ref D) env)) := rfl
theorem turnB : compTurn (two kx vx ta ia tb ib fa fb sc pos) 1 it (.ref D) env = (do
    standAt ib.pos
    match ← pyNext it with
    | none => pure (.done .next)
    | some u =>
      letOwnedTupleGo tb it u
      assign tb env u
      let yes ← testsOf fb env
      if yes = true then
        (do
          let a ← eval kx env
          let b ← holding [a] (eval vx env)
          standAt { kx.pos with endLine := vx.pos.endLine, endCol := vx.pos.endCol }
          holding [a, b] (dictSet D a b))
      again (.compLoop (two kx vx ta ia tb ib fa fb sc pos) 1 it (.ref D) env)) := rfl
variable {prog : Program} {w : World} {A : Around} {R : Result → Shared → Prop} {s : Shared}
/-- what an error leaves behind it -/
abbrev errs (prog : Program) (w : World) (A : Around) (env : Env) (R : Result → Shared → Prop) : Value → Shared → Prop := notedBy (model prog w) A env fun e s' => R (.error e) s'
theorem loopA (plain : ∀ x, foldedSetIterable ib env x = pure x) (I : Nat → Shared → Prop)
    (turn : ∀ n s, I n s → Turned (model prog w) A env ta it fa (R (.ok .next)) (fun yes s1 => if yes = true then
        wpAny (model prog w) A (eval ib env) (fun x s2 => wpAny (model prog w) A (pyIter x) (fun j s3 => codeAny (model prog w) A (.compStart (two kx vx ta ia tb ib fa fb sc pos) 1 j (.ref D) env) (fun r s4 => (∃ f, r = .ok f) ∧ ∃ m, m < n ∧ I m s4) s3) (errs prog w A env R) s2) (errs prog w A env R) s1
      else ∃ m, m < n ∧ I m s1) (errs prog w A env R) s)
    (n : Nat) (h : I n s) : codeAny (model prog w) A (.compLoop (two kx vx ta ia tb ib fa fb sc pos) 0 it (.ref D) env) R s := by
  refine codeAny_loop rfl I (fun n s hI => wpAny_noted ?_) n h
  have key := turn n s hI
  unfold Turned at key
  show wpAny _ A (compTurn (two kx vx ta ia tb ib fa fb sc pos) 0 it (.ref D) env) _ _ s
  rw [turnA]
  refine wpAny_bind (wpAny_standAt (wpAny_bind (wpAny_mono key ?_ fun _ _ z => z)))
  rintro (_ | u) s1 k1
  · exact wpAny_pure k1
  · refine wpAny_bind (wpAny_mono k1 (fun _ s2 k2 => wpAny_bind (wpAny_mono k2 (fun _ s3 k3 => wpAny_bind (wpAny_mono k3 ?_ fun _ _ z => z)) fun _ _ z => z)) fun _ _ z => z)
    rintro (_ | _) s4 k4
    · exact wpAny_pure ⟨rfl, k4⟩
    · refine wpAny_bind (wpAny_mono k4 (fun x s5 k5 => wpAny_bind (wpAny_standAt (wpAny_bind (wpAny_of_eq (plain x) (wpAny_bind (wpAny_holding (wpAny_mono k5 (fun j s6 k6 => ?_) fun _ _ z => z))))))) fun _ _ z => z)
      refine wpAny_bind (wpAny_runOwn ?_)
      rw [Around.mark_none]
      refine codeAny_mono k6 ?_
      rintro (e | f) s7 ⟨⟨g, eg⟩, k7⟩
      · cases eg
      · first
          | exact wpAny_pure ⟨rfl, k7⟩
          | exact wpAny_bind (wpAny_pure (wpAny_pure ⟨rfl, k7⟩))
theorem loopB (I : Nat → Shared → Prop)
    (turn : ∀ n s, I n s → Turned (model prog w) A env tb it fb (R (.ok .next)) (fun yes s1 => if yes = true then
        wpAny (model prog w) A (eval kx env) (fun a s2 => wpAny (model prog w) A (eval vx env) (fun b s3 => wpAny (model prog w) A (dictSet D a b) (fun _ s4 => ∃ m, m < n ∧ I m s4) (errs prog w A env R) s3) (errs prog w A env R) s2) (errs prog w A env R) s1
      else ∃ m, m < n ∧ I m s1) (errs prog w A env R) s)
    (n : Nat) (h : I n s) : codeAny (model prog w) A (.compLoop (two kx vx ta ia tb ib fa fb sc pos) 1 it (.ref D) env) R s := by
  refine codeAny_loop rfl I (fun n s hI => wpAny_noted ?_) n h
  have key := turn n s hI
  unfold Turned at key
  show wpAny _ A (compTurn (two kx vx ta ia tb ib fa fb sc pos) 1 it (.ref D) env) _ _ s
  rw [turnB]
  refine wpAny_bind (wpAny_standAt (wpAny_bind (wpAny_mono key ?_ fun _ _ z => z)))
  rintro (_ | u) s1 k1
  · exact wpAny_pure k1
  · refine wpAny_bind (wpAny_mono k1 (fun _ s2 k2 => wpAny_bind (wpAny_mono k2 (fun _ s3 k3 => wpAny_bind (wpAny_mono k3 ?_ fun _ _ z => z)) fun _ _ z => z)) fun _ _ z => z)
    rintro (_ | _) s4 k4
    · exact wpAny_pure ⟨rfl, k4⟩
    · refine wpAny_bind (wpAny_bind (wpAny_mono k4 (fun a s5 k5 => ?_) fun _ _ z => z))
      refine wpAny_bind (wpAny_holding (wpAny_mono k5 (fun b s6 k6 => ?_) fun _ _ z => z))
      exact wpAny_bind (wpAny_standAt (wpAny_holding (wpAny_mono k6 (fun _ s7 k7 => wpAny_pure ⟨rfl, k7⟩) fun _ _ z => z)))
theorem startB (h0 : codeAny (model prog w) A (.compLoop (two kx vx ta ia tb ib fa fb sc pos) 1 it (.ref D) env) R s)
    (h1 : wpAny (model prog w) A (pyIter it) (fun j s' => codeAny (model prog w) A (.compLoop (two kx vx ta ia tb ib fa fb sc pos) 1 j (.ref D) env) R s') (errs prog w A env R) s) :
    codeAny (model prog w) A (.compStart (two kx vx ta ia tb ib fa fb sc pos) 1 it (.ref D) env) R s := by
  refine codeAny_of_tree (wpAny_notedAt (?_ : wpAny _ _ (compStart (two kx vx ta ia tb ib fa fb sc pos) 1 it (.ref D) env) _ _ s))
  unfold compStart
  show wpAny _ _ (ask >>= _) _ _ s
  refine wpAny_bind (wpAny_askSetting (wpAny_ite ?_))
  split
  · first
      | exact wpAny_pure ⟨rfl, h0⟩
      | exact wpAny_bind (wpAny_pure (wpAny_pure ⟨rfl, h0⟩))
  · refine wpAny_bind (wpAny_rule ?_)
    show wpAny _ _ (standAt ib.pos >>= _) _ _ s
    exact wpAny_bind (wpAny_standAt (wpAny_bind (wpAny_mono h1 (fun j s' h' => wpAny_pure ⟨rfl, h'⟩) fun _ _ z => z)))
end
section
variable {Y : Cx} {pins : List (Addr × Obj)} {σ : L2.St} {H : Hp} {s : Shared} {tg : Expr} {J : It} {fp : List Addr} {it : Addr} {tn : Nat → Heap → Prop}
/-- an item comes: stored and tested, the walk's objects held meanwhile -/
theorem clause {g : TG} {tt : TT} {fs : List Expr} {i : Nat} {C : L2.St → Prop} {Z : L2.St → Bool → Hp → Prop} {stop : Shared → Prop} {k : Bool → Shared → Prop} {E : Value → Shared → Prop}
    (quiet : Y.xe = fun _ _ => False) (hc : Y.calm = true) (T : Turn Y.prog Y.w Y.K tg J fp it tn) (pg : PG Y tg g) (pt : PTs Y fs tt) (I : L2.Inv Y pins σ H s)
    (free : ∀ {H' : Hp}, (∀ b ∈ fp, H' b = none) → ∀ b ∈ fp, FpOk Y pins H' b) (none0 : ∀ b ∈ fp, H b = none) (st : tn i s.heap) (go : J.go i H)
    (step : ∀ x H', J.yld i H x H' → g x σ H' fun σ2 H2 => C σ2 ∧ tt σ2 H2 (Z σ2))
    (next : ∀ {s1 s2 : Shared} {σ2 : L2.St} {b : Bool} {H2 : Hp}, tn (i + 1) s1.heap → C σ2 → L2.Inv Y (pins ++ pinsAt fp s1.heap) σ2 H2 s2 → Z σ2 b H2 → k b s2) :
    Turned (model Y.prog Y.w) Y.A Y.env tg (.ref it) fs stop k E s := by
  unfold Turned
  refine thnF (T.item Y rfl rfl rfl hc i pins s σ H (fun _ _ => False) I (free none0) st go) ?_
  rintro _ s1 ⟨u, rfl, h1⟩
  refine thnF h1 ?_
  rintro _ s2 ⟨x, H2, I2, rx, yx, st2, n2⟩
  have held := I2.pinned (free n2) (T.obj _ _ st2)
  have run1 := pg.run _ s2 _ H2 x u _ held rx (step x H2 yx)
  rw [quiet] at run1
  refine thnF run1 ?_
  rintro _ s3 ⟨σ3, H3, I3, c3, q3⟩
  have run2 := pt.run _ s3 σ3 H3 _ I3 q3
  rw [quiet] at run2
  refine thnF run2 ?_
  rintro b s4 ⟨H4, I4, q4⟩
  exact next st2 c3 I4 q4
/-- behind the turn the walk's objects stand as they did -/
theorem walk_stays {i : Nat} {h : Heap} (T : Turn Y.prog Y.w Y.K tg J fp it tn) (st : tn i h) (I : L2.Inv Y (pins ++ pinsAt fp h) σ H s) : tn i s.heap ∧ ∀ b ∈ fp, H b = none := by
  have each : ∀ b ∈ fp, ∀ o, h.get? b = some o → s.heap.get? b = some o ∧ H b = none := fun b hb o e => by
    have z := I.pin (b, o) (List.mem_append_right _ (List.mem_append_right _ (mem_pinsAt hb e)))
    exact ⟨z.1, z.2.1⟩
  refine ⟨T.keep i h s.heap st fun b hb o e => (each b hb o e).1, fun b hb => ?_⟩
  obtain ⟨o, e, _⟩ := T.obj i h st b hb
  exact (each b hb o e).2
end
section
variable {X : Cx}
/-- the second clause: its walk, in each turn of it a pair put -/
def InnD (gb : TG) (ttb : TT) (tk tv : TE) (vs1 : List Nat) (D : Addr) (σ2 : L2.St) (Nx : Hp → Prop) (J1 : It) (H4 : Hp) : Prop :=
  ∃ W1 : Nat → Nat → Hp → Prop, (∃ m, W1 0 m H4) ∧ ∀ j k H, W1 j k H → (J1.stop j H ∧ Nx H) ∨ (J1.go j H ∧ ∃ Nx1 : Hp → Prop, (∀ H', Nx1 H' → ∃ k', k' < k ∧ W1 (j + 1) k' H') ∧
    ∀ x H', J1.yld j H x H' → gb x (wipe σ2 vs1) H' fun σ3 H5 => wipe σ3 vs1 = wipe σ2 vs1 ∧ ttb σ3 H5 fun yes H6 =>
      if yes = true then tk σ3 H6 fun y H7 => tv σ3 H7 fun z H8 => ∃ kvs k, y = kV k ∧ H8 D = some (.dK kvs) ∧ kvs.length < sizeLine ∧ Nx1 (upd H8 D (.dK (putK kvs k z))) else Nx1 H6)
/-- what the comprehension asks: the first clause's walk, in each turn the second's; vs: the names of both clauses, vs1: of the second -/
def tDc2 (wa : TI) (ga : TG) (tta : TT) (wb : TI) (gb : TG) (ttb : TT) (tk tv : TE) (vs vs1 : List Nat) : TE := fun σ H Q => wa σ H fun J H1 => ∀ D, H1 D = none →
  ∃ W : Nat → Nat → Hp → Prop, (∃ m, W 0 m (upd H1 D (.dK []))) ∧ ∀ i m H, W i m H → (J.stop i H ∧ Q (.ref D) H) ∨ (J.go i H ∧ ∃ Nx : Hp → Prop, (∀ H', Nx H' → ∃ m', m' < m ∧ W (i + 1) m' H') ∧
    ∀ x H', J.yld i H x H' → ga x (wipe σ vs) H' fun σ2 H2 => wipe σ2 vs = wipe σ vs ∧ tta σ2 H2 fun yes H3 => if yes = true then wb σ2 H3 (InnD gb ttb tk tv vs1 D σ2 Nx) else Nx H3)
/-- the first clause by a walk that is known -/
theorem dc2_it {J : It} {n : Nat} {G : Hp → Prop} {Y : Nat → Hp → V → Hp → Prop} (w : L2.Walk J n G Y) {ga gb : TG} {tta ttb : TT} {wb : TI} {tk tv : TE} {vs vs1 : List Nat} {σ : L2.St} {H1 : Hp} {D : Addr} {Qd : Hp → Prop} (Pv : Nat → Hp → Prop) (h0 : Pv 0 (upd H1 D (.dK []))) (hG : ∀ i H, i ≤ n → Pv i H → G H)
    (hs : ∀ i x H H', i < n → Pv i H → Y i H x H' → ga x (wipe σ vs) H' fun σ2 H2 => wipe σ2 vs = wipe σ vs ∧ tta σ2 H2 fun yes H3 => if yes = true then wb σ2 H3 (InnD gb ttb tk tv vs1 D σ2 (Pv (i + 1))) else Pv (i + 1) H3) (hd : ∀ H, Pv n H → Qd H) :
    ∃ W : Nat → Nat → Hp → Prop, (∃ m, W 0 m (upd H1 D (.dK []))) ∧ ∀ i m H, W i m H → (J.stop i H ∧ Qd H) ∨ (J.go i H ∧ ∃ Nx : Hp → Prop, (∀ H', Nx H' → ∃ m', m' < m ∧ W (i + 1) m' H') ∧
      ∀ x H', J.yld i H x H' → ga x (wipe σ vs) H' fun σ2 H2 => wipe σ2 vs = wipe σ vs ∧ tta σ2 H2 fun yes H3 => if yes = true then wb σ2 H3 (InnD gb ttb tk tv vs1 D σ2 Nx) else Nx H3) := by
  refine ⟨fun i m H => m + i = n ∧ Pv i H, ⟨n, by simp, h0⟩, fun i m H ⟨e, p⟩ => ?_⟩
  have q := hG i H (by omega) p
  by_cases lt : i < n
  · exact .inr ⟨w.goes i H lt q, Pv (i + 1), fun H' p' => ⟨m - 1, by omega, by omega, p'⟩, fun x H' y => hs i x H H' lt p (w.yields i H x H' lt q y)⟩
  · obtain rfl : i = n := by omega
    exact .inl ⟨w.stops H q, hd H p⟩
/-- the second clause by a walk that is known -/
theorem inn_it {J1 : It} {n : Nat} {G : Hp → Prop} {Y : Nat → Hp → V → Hp → Prop} (w : L2.Walk J1 n G Y) {gb : TG} {ttb : TT} {tk tv : TE} {vs1 : List Nat} {σ2 : L2.St} {H4 : Hp} {D : Addr} {Nx : Hp → Prop} (Pv : Nat → Hp → Prop) (h0 : Pv 0 H4) (hG : ∀ i H, i ≤ n → Pv i H → G H)
    (hs : ∀ j x H H', j < n → Pv j H → Y j H x H' → gb x (wipe σ2 vs1) H' fun σ3 H5 => wipe σ3 vs1 = wipe σ2 vs1 ∧ ttb σ3 H5 fun yes H6 =>
      if yes = true then tk σ3 H6 fun y H7 => tv σ3 H7 fun z H8 => ∃ kvs k, y = kV k ∧ H8 D = some (.dK kvs) ∧ kvs.length < sizeLine ∧ Pv (j + 1) (upd H8 D (.dK (putK kvs k z))) else Pv (j + 1) H6) (hd : ∀ H, Pv n H → Nx H) :
    InnD gb ttb tk tv vs1 D σ2 Nx J1 H4 := by
  refine ⟨fun j k H => k + j = n ∧ Pv j H, ⟨n, by simp, h0⟩, fun j k H ⟨e, p⟩ => ?_⟩
  have q := hG j H (by omega) p
  by_cases lt : j < n
  · exact .inr ⟨w.goes j H lt q, Pv (j + 1), fun H' p' => ⟨k - 1, by omega, by omega, p'⟩, fun x H' y => hs j x H H' lt p (w.yields j H x H' lt q y)⟩
  · obtain rfl : j = n := by omega
    exact .inl ⟨w.stops H q, hd H p⟩
/-- a block of this scope -/
abbrev inBlk (X : Cx) (sc : Scope) (s : Shared) (H : Hp) (C : Addr) (cl : List (Str × Addr)) (fp : List Addr) : Cx := X.blk s H sc (compEnvC sc cl C X.env) fp
theorem pe_dc2 {kx vx ta ia tb ib : Expr} {fa fb : List Expr} {sc : Scope} {own : List (Str × Nat)} {vs1 : List Nat} {pos : Pos} {wa wb : TI} {ga gb : TG} {tta ttb : TT} {tk tv : TE} (hc : X.calm = true) (hN : X.N.Nodup) (hi : PI X ta ia wa) (ok : BlkOk X.N X.env.scope sc own) (hv : ∀ i ∈ vs1, i ∈ own.map (·.2))
    (hga : ∀ s H C cl fp, PG (inBlk X sc s H C cl fp) ta ga) (hta : ∀ s H C cl fp, PTs (inBlk X sc s H C cl fp) fa tta) (hib : ∀ s H C cl fp, PI (inBlk X sc s H C cl fp) tb ib wb) (hgb : ∀ s H C cl fp, PG (inBlk X sc s H C cl fp) tb gb) (htb : ∀ s H C cl fp, PTs (inBlk X sc s H C cl fp) fb ttb)
    (hk : ∀ s H C cl fp, PE (inBlk X sc s H C cl fp) kx tk) (he : ∀ s H C cl fp, PE (inBlk X sc s H C cl fp) vx tv)
    (pa : ∀ x, foldedSetIterable ia X.env x = pure x := by intro _; rfl) (pb : ∀ env x, foldedSetIterable ib env x = pure x := by intro _ _; rfl) :
    PE X (.DictComp kx vx [⟨ta, ia, fa, 0⟩, ⟨tb, ib, fb, 0⟩] sc pos) (tDc2 wa ga tta wb gb ttb tk tv (own.map (·.2)) vs1) := by
  refine ⟨fun pins s σ H Q I h => ?_⟩
  rw [arm_eval_DictComp]
  have clo : ∀ y ∈ sc.names, y.2 = .free → ∃ c, X.env.cells.lookup y.1 = some c := fun y hy e => (ok.free y hy e).elim (fun k => I.ok.has _ (.inl k)) fun k => I.ok.has _ (.inr k)
  refine wpAny_comprehension_free rfl pa (closure_ok clo) ok.kind (fun y hy e => by rw [ok.uniq y hy, e]) (thn (hi.run pins s σ H _ I h) fun _ _ h1 => thn h1 ?_)
  rintro _ s2 ⟨it, fp, tn, J, H2, rfl, I2, T, st2, f2, q⟩
  refine wpAny_newObj_type (newEnv_comp ?_)
  generalize hD : s2.heap.objs.size = D
  have newD : H2 D = none := I2.hok.fresh (Nat.le_of_eq hD)
  obtain ⟨W, ⟨m0, w0⟩, turn⟩ := q D newD
  generalize hs3 : ({ s2 with heap := s2.heap.push { cls := .type "dict", data := .dict #[] } } : Shared) = s3
  have e3 : s3.heap = s2.heap.push { cls := .type "dict", data := .dict #[] } := by rw [← hs3]
  have I3 : L2.Inv X pins σ (upd H2 D (.dK [])) s3 := by
    rw [← hs3]
    exact I2.laid (t' := s2.toks) (fun b o e => Heap.get?_push_of_some _ e) (Nat.le_of_eq hD) (hD ▸ dk_empty s2.heap I2.big)
  have f3 : ∀ b ∈ fp, FpOk X pins (upd H2 D (.dK [])) b ∧ b < s3.heap.objs.size := fun b hb => by
    obtain ⟨o, e, _⟩ := T.obj _ _ st2 b hb
    have small := Heap.lt_size e
    refine ⟨⟨?_, (f2 b hb).2⟩, ?_⟩
    · rw [upd_ne (Nat.ne_of_lt (hD ▸ small))]
      exact (f2 b hb).1
    · rw [e3, Heap.size_push]
      exact Nat.lt_succ_of_lt small
  have st3 : tn 0 s3.heap := T.keep _ _ _ st2 fun b _ o e => by
    rw [e3]
    exact Heap.get?_push_of_some _ e
  have I4 := block_start I3 ok hN f3
  generalize hcl : cellsFrom (s3.heap.objs.size + 1) sc.names (cloFrom X.env.cells sc.names []) = cl at I4
  show codeAny _ _ (.compStart (two kx vx ta ia tb ib fa fb sc pos) 0 (.ref it) (.ref D) (compEnvC sc cl s3.heap.objs.size X.env)) (compPost (model X.prog X.w) X.A X.xe none (EP X pins σ Q) (.ref D) s3.heap.objs.size) { s3 with heap := pushCells (s3.heap.push { cls := .type "dict", data := .dict #[] }) sc.names }
  have none3 : ∀ b ∈ fp, (upd H2 D (.dK [])) b = none := fun b hb => (f3 b hb).1.1
  generalize hH3 : upd H2 D (.dK []) = H3 at I3 I4 w0 none3 f3
  have jga : PG (X.blk s3 H3 sc (compEnvC sc cl s3.heap.objs.size X.env) fp) ta ga := hga s3 H3 s3.heap.objs.size cl fp
  have jta : PTs (X.blk s3 H3 sc (compEnvC sc cl s3.heap.objs.size X.env) fp) fa tta := hta s3 H3 s3.heap.objs.size cl fp
  have jib : PI (X.blk s3 H3 sc (compEnvC sc cl s3.heap.objs.size X.env) fp) tb ib wb := hib s3 H3 s3.heap.objs.size cl fp
  have jgb : PG (X.blk s3 H3 sc (compEnvC sc cl s3.heap.objs.size X.env) fp) tb gb := hgb s3 H3 s3.heap.objs.size cl fp
  have jtb : PTs (X.blk s3 H3 sc (compEnvC sc cl s3.heap.objs.size X.env) fp) fb ttb := htb s3 H3 s3.heap.objs.size cl fp
  have jk : PE (X.blk s3 H3 sc (compEnvC sc cl s3.heap.objs.size X.env) fp) kx tk := hk s3 H3 s3.heap.objs.size cl fp
  have je : PE (X.blk s3 H3 sc (compEnvC sc cl s3.heap.objs.size X.env) fp) vx tv := he s3 H3 s3.heap.objs.size cl fp
  generalize hs4 : ({ s3 with heap := pushCells (s3.heap.push { cls := .type "dict", data := .dict #[] }) sc.names } : Shared) = s4 at I4 ⊢
  have st4 : tn 0 s4.heap := T.keep _ _ _ st3 fun b _ o e => by
    rw [← hs4]
    exact pushCells_keeps _ _ _ _ (Heap.get?_push_of_some _ e)
  generalize hce : compEnvC sc cl s3.heap.objs.size X.env = ce at I4 jga jta jib jgb jtb jk je ⊢
  have cL : ce.locals = s3.heap.objs.size := by
    subst hce
    rfl
  have free0 : ∀ {H' : Hp}, (∀ b ∈ fp, H' b = none) → ∀ b ∈ fp, FpOk (X.blk s3 H3 sc ce fp) [] H' b := fun n b hb =>
    ⟨n b hb, (I4.ok.exf b hb).1, I4.ok.exfs b hb, .inl hb, (I4.ok.exf b hb).2, fun p hp => nomatch (show p ∈ ([] : List (Addr × Obj)) from hp)⟩
  have loop : codeAny (model X.prog X.w) X.A (.compLoop (two kx vx ta ia tb ib fa fb sc pos) 0 (.ref it) (.ref D) ce) (compPost (model X.prog X.w) X.A X.xe none (EP X pins σ Q) (.ref D) s3.heap.objs.size) s4 := by
    refine loopA (pb ce) (fun n s' => ∃ i H', L2.Inv (X.blk s3 H3 sc ce fp) [] (wipe σ (own.map (·.2))) H' s' ∧ tn i s'.heap ∧ (∀ b ∈ fp, H' b = none) ∧ W i n H') ?_ m0 ⟨0, H3, I4, st4, none3, w0⟩
    rintro n s5 ⟨i, H5, I5, st5, n5, w5⟩
    rcases turn i n H5 w5 with ⟨stop, qq⟩ | ⟨go, Nx, hNx, step⟩
    · unfold Turned
      refine thnF (T.done (X.blk s3 H3 sc ce fp) rfl rfl rfl hc i [] s5 _ H5 (fun _ _ => False) I5 (free0 n5) st5 stop) ?_
      rintro _ s6 ⟨rfl, I6⟩
      have I7 : L2.Inv X pins σ H5 s6 := I3.call' (ch := fp) I6.os I6.base I6.hok I6.bare fun b hb => by
        obtain ⟨⟨_, a1, _, a3, a4, a5⟩, _⟩ := f3 b hb
        exact ⟨a3, a1, a4, a5⟩
      have nC : H5 s3.heap.objs.size = none := cL ▸ (show H5 ce.locals = none from I6.free)
      obtain ⟨m, hn, _⟩ := I6.loc
      have hn : s6.heap.Ns s3.heap.objs.size m := cL ▸ (show s6.heap.Ns ce.locals m from hn)
      obtain ⟨g0, g1, _, g3, g4, g5⟩ := I3.fpOk (H' := H5) (Nat.le_refl _) nC
      exact ⟨m, hn, fun h2 sb => ⟨.ref D, H5, I7.turned (t' := s6.toks) (fun b o hb e => (sb.2 b hb).trans e) g0 g1 g3 g4 g5, rfl, qq⟩⟩
    · refine clause (Y := X.blk s3 H3 sc ce fp) rfl hc T jga jta I5 free0 n5 st5 go step ?_
      intro s6 s7 σ7 b H7 st6 w7 I7 q7
      have hl7 : (wipe σ (own.map (·.2))).length = σ7.length := by rw [← w7, wipe_length]
      have fin : ∀ {σ8 : L2.St} {s8 : Shared} {H8 : Hp}, L2.Inv (X.blk s3 H3 sc ce fp) ([] ++ pinsAt fp s6.heap) σ8 H8 s8 → (wipe σ (own.map (·.2))).length = σ8.length → (∀ (j : Nat) v, (wipe σ (own.map (·.2)))[j]? = some (some v) → σ8[j]? = some (some v)) → Nx H8 →
          ∃ m, m < n ∧ ∃ i H', L2.Inv (X.blk s3 H3 sc ce fp) [] (wipe σ (own.map (·.2))) H' s8 ∧ tn i s8.heap ∧ (∀ b ∈ fp, H' b = none) ∧ W i m H' := by
        intro σ8 s8 H8 I8 hl hk nx
        obtain ⟨m', hm, w'⟩ := hNx H8 nx
        obtain ⟨t1, t2⟩ := walk_stays (Y := X.blk s3 H3 sc ce fp) T st6 I8
        exact ⟨m', hm, i + 1, H8, (I8.unpinned (pins := [])).weak hl hk, t1, t2, w'⟩
      cases b with
      | false =>
        rw [if_neg (by decide)] at q7 ⊢
        exact fin I7 hl7 (fun j v e => (wipe_some (w7.symm ▸ e)).1) q7
      | true =>
        rw [if_pos rfl] at q7 ⊢
        refine thnF (jib.run _ s7 σ7 H7 _ I7 q7) fun _ s8 h8 => thnF h8 ?_
        rintro _ s9 ⟨it1, fp1, tn1, J1, H9, rfl, I9, T1, st9, f9, W1, ⟨m1, w1⟩, turn1⟩
        have free1 : ∀ {H' : Hp}, (∀ b ∈ fp1, H' b = none) → ∀ b ∈ fp1, FpOk (X.blk s3 H3 sc ce fp) ([] ++ pinsAt fp s6.heap) H' b := fun n b hb => ⟨n b hb, (f9 b hb).2⟩
        have loop1 : codeAny (model X.prog X.w) X.A (.compLoop (two kx vx ta ia tb ib fa fb sc pos) 1 (.ref it1) (.ref D) ce) (fun r s' => (∃ f, r = .ok f) ∧ ∃ m, m < n ∧ ∃ i H', L2.Inv (X.blk s3 H3 sc ce fp) [] (wipe σ (own.map (·.2))) H' s' ∧ tn i s'.heap ∧ (∀ b ∈ fp, H' b = none) ∧ W i m H') s9 := by
          refine loopB (fun k s' => ∃ j H', L2.Inv (X.blk s3 H3 sc ce fp) ([] ++ pinsAt fp s6.heap) (wipe σ7 vs1) H' s' ∧ tn1 j s'.heap ∧ (∀ b ∈ fp1, H' b = none) ∧ W1 j k H') ?_ m1 ⟨0, H9, I9.weak (wipe_length _ _) (fun j v e => (wipe_some e).1), st9, fun b hb => (f9 b hb).1, w1⟩
          rintro k s10 ⟨j, H10, I10, st10, n10, w10⟩
          rcases turn1 j k H10 w10 with ⟨stop1, nx1⟩ | ⟨go1, Nx1, hNx1, step1⟩
          · unfold Turned
            refine thnF (T1.done (X.blk s3 H3 sc ce fp) rfl rfl rfl hc j _ s10 (wipe σ7 vs1) H10 (fun _ _ => False) I10 (free1 n10) st10 stop1) ?_
            rintro _ s11 ⟨rfl, I11⟩
            refine ⟨⟨_, rfl⟩, fin I11 (hl7.trans (wipe_length σ7 vs1).symm) (fun j v e => ?_) nx1⟩
            obtain ⟨e1, e2⟩ := wipe_some (w7.symm ▸ e)
            rw [wipe_out fun z => e2 (hv j z)]
            exact e1
          · refine clause (Y := X.blk s3 H3 sc ce fp) rfl hc T1 jgb jtb I10 free1 n10 st10 go1 step1 ?_
            intro s11 s12 σ12 b1 H12 st11 w12 I12 q12
            have fin1 : ∀ {s' : Shared} {H' : Hp}, L2.Inv (X.blk s3 H3 sc ce fp) (([] ++ pinsAt fp s6.heap) ++ pinsAt fp1 s11.heap) σ12 H' s' → Nx1 H' → ∃ m, m < k ∧ ∃ j H', L2.Inv (X.blk s3 H3 sc ce fp) ([] ++ pinsAt fp s6.heap) (wipe σ7 vs1) H' s' ∧ tn1 j s'.heap ∧ (∀ b ∈ fp1, H' b = none) ∧ W1 j m H' := by
              intro s' H' I' nx
              obtain ⟨m', hm, w'⟩ := hNx1 H' nx
              obtain ⟨t1, t2⟩ := walk_stays (Y := X.blk s3 H3 sc ce fp) T1 st11 I'
              exact ⟨m', hm, j + 1, H', I'.unpinned.weak (by rw [← w12, wipe_length]) (fun i v e => (wipe_some (w12.symm ▸ e)).1), t1, t2, w'⟩
            cases b1 with
            | false =>
              rw [if_neg (by decide)] at q12 ⊢
              exact fin1 I12 q12
            | true =>
              rw [if_pos rfl] at q12 ⊢
              refine thnF (jk.run _ s12 σ12 H12 _ I12 q12) ?_
              rintro a s13 ⟨ya, H13, I13, ra, q13⟩
              refine thnF (je.run _ s13 σ12 H13 _ I13 q13) ?_
              rintro b s14 ⟨yb, H14, I14, rb, kvs, key, rfl, hD14, small, nx⟩
              exact d_dictSet (X := X.blk s3 H3 sc ce fp) I14 hD14 small ra rb fun s15 I15 => fin1 I15 nx
        exact startB loop1 (T1.self X.A 0 _ _ _ st9 loop1)
  exact codeAny_compStart_dict loop (T.self X.A 0 _ _ _ st4 loop)
end
end Wl

namespace Wl
open PySem PySem.Spec PyProof.Rows L2
/-- the heap keeps all but its lists -/
def Keep (H H' : Hp) : Prop := ∀ p o, (∀ xs, o ≠ .lst xs) → H p = some o → H' p = some o
theorem Keep.refl (H : Hp) : Keep H H := fun _ _ _ h => h
theorem Keep.trans {H H1 H2 : Hp} (a : Keep H H1) (b : Keep H1 H2) : Keep H H2 := fun p o n h => b p o n (a p o n h)
theorem kp_same {H H' : Hp} (s : Same H H') : Keep H H' := fun p o _ h => s p _ h
theorem kp_x {a : Addr} {H H' : Hp} {ys : List V} (s : SameX a H H') (ha : H a = some (.lst ys)) : Keep H H' := fun p o n h => s p _ (fun e => by
  subst e
  rw [ha] at h
  exact n _ (Option.some.inj h).symm) h
theorem kp_upd {a : Addr} {H : Hp} {ys : List V} {o : HO} (ha : H a = some (.lst ys)) : Keep H (upd H a o) := kp_x sameX_upd ha
theorem kp_new {p : Addr} {H : Hp} {o : HO} (hp : H p = none) : Keep H (upd H p o) := kp_same (same_new hp)
theorem Keep.tk {H H' : Hp} (k : Keep H H') : TupKeep H H' := fun p xs h => k p _ (fun ys e => by cases e) h
theorem tk_updD {a : Addr} {H : Hp} {kvs : List (Key × V)} {o : HO} (ha : H a = some (.dK kvs)) : TupKeep H (upd H a o) := fun p xs h => by
  rw [upd_ne (ne_of h ha (by intro z; cases z))]
  exact h
/-- the dict's pairs tell these spots -/
def Ent (H : Hp) (kv : Key × V) (s : Str × Nat × Nat) : Prop := kv.1 = Sum.inr s.1 ∧ ∃ t, kv.2 = .ref t ∧ H t = some (.tup [.int s.2.1, .int s.2.2])
def SpotsAt (H : Hp) (d : Addr) (sp : List (Str × Nat × Nat)) : Prop := ∃ kvs, H d = some (.dK kvs) ∧ Each (Ent H) kvs sp
theorem ent_keep {H H' : Hp} (k : TupKeep H H') {kvs : List (Key × V)} {sp : List (Str × Nat × Nat)} (h : Each (Ent H) kvs sp) : Each (Ent H') kvs sp :=
  Each.mono (fun _ _ ⟨e, t, e2, ht⟩ => ⟨e, t, e2, k _ _ ht⟩) h
theorem SpotsAt.keep {H H' : Hp} {d : Addr} {sp : List (Str × Nat × Nat)} (h : SpotsAt H d sp) (k : Keep H H') : SpotsAt H' d sp := by
  obtain ⟨kvs, h1, h2⟩ := h
  exact ⟨kvs, k _ _ (fun ys e => by cases e) h1, ent_keep k.tk h2⟩
theorem ent_none {H : Hp} {z : Str} : ∀ {kvs : List (Key × V)} {sp : List (Str × Nat × Nat)}, Each (Ent H) kvs sp → z ∉ sp.map (·.1) → valV kvs (Sum.inr z : Key) = none
  | _, _, .nil, _ => rfl
  | _, _, .cons (a := kv) (b := s) r t, h => by
    rw [List.map_cons, List.mem_cons, not_or] at h
    rw [valV_neg (fun e => h.1 (Sum.inr.inj (e.symm.trans r.1)))]
    exact ent_none t h.2
theorem ent_some {H : Hp} {z : Str} {r c : Nat} : ∀ {kvs : List (Key × V)} {sp : List (Str × Nat × Nat)}, Each (Ent H) kvs sp → (sp.map (·.1)).Nodup → (z, r, c) ∈ sp → ∃ t, valV kvs (Sum.inr z : Key) = some (.ref t) ∧ H t = some (.tup [.int r, .int c])
  | _, _, .nil, _, h => by cases h
  | _, _, .cons (a := kv) (b := s) e t, nd, h => by
    obtain ⟨n1, n2⟩ := List.nodup_cons.mp nd
    rcases List.mem_cons.mp h with h | h
    · subst h
      obtain ⟨e1, u, e2, hu⟩ := e
      exact ⟨u, by rw [valV_pos e1, e2], hu⟩
    · have ne : ¬ s.1 = z := fun q => n1 (List.mem_map.mpr ⟨_, h, q.symm⟩)
      obtain ⟨u, e2, hu⟩ := ent_some t n2 h
      exact ⟨u, by rw [valV_neg (fun q => ne (Sum.inr.inj (e.1.symm.trans q)))]; exact e2, hu⟩
theorem ent_keys {H : Hp} : ∀ {kvs : List (Key × V)} {sp : List (Str × Nat × Nat)}, Each (Ent H) kvs sp → kvs.map (fun kv => kV kv.1) = (sp.map (·.1)).map V.str
  | _, _, .nil => rfl
  | _, _, .cons e t => by
    rw [List.map_cons, List.map_cons, List.map_cons, ent_keys t, e.1]
    rfl
section
variable {P : Program} {w : World} {K : PySem.W.Frag} {mg : Str → Option Value} {base : Heap} {f : Addr} {fd : FuncData}
/-! ### wrong_spot of a good grid -/
def spWrong : Sp := fun vs H Q _ => ∃ (L : Addr) (g : Grid) (wd : Nat), vs = [.ref L] ∧ GridAt H L g ∧ Good g wd ∧ ∀ (H' : Hp), Same H H' → Q .non H'
abbrev nWrong : List Str := ["rows", "names", "at", "row", "column", "part"]
theorem scWrong : FnScope nWrong ["rows"] (defScope sWrong) := ⟨rfl, rfl, rfl, by decide +kernel, rfl, by decide +kernel, by decide +kernel⟩
theorem take_snoc {α : Type} {l : List α} {i : Nat} {x : α} (h : l[i]? = some x) : l.take (i + 1) = l.take i ++ [x] := by
  rw [List.take_add_one, h]
  rfl
theorem len_take {α : Type} {l : List α} {i : Nat} {x : α} (h : l[i]? = some x) : (l.take i).length = i := by
  have := (List.getElem?_eq_some_iff.mp h).1
  rw [List.length_take]
  omega
/-- a name isn't among those ahead of it -/
theorem ahead_new {g : Grid} {wd : Nat} (gd : Good g wd) {i j : Nat} {row : Row} {z : Str} (hrow : g[i]? = some row) (ho : row[j]? = some (some z)) : z ∉ (spG 0 (g.take i) ++ spR i 0 (row.take j)).map (·.1) := by
  have hcz : cellAt g i j = some z := cellAt_of hrow ho
  intro hm
  obtain ⟨⟨y, r', c'⟩, hm2, rfl⟩ := List.mem_map.mp hm
  have hlt : (r', c') = (i, j) := by
    have hc2 : cellAt g r' c' = some y := by
      rcases List.mem_append.mp hm2 with h | h
      · obtain ⟨k, row2, e, h1, h2⟩ := (spG_mem _ 0).mp h
        have : r' = k := by omega
        subst this
        rw [List.getElem?_take] at h1
        split at h1
        · exact cellAt_of h1 h2
        · cases h1
      · obtain ⟨e, k, e2, h1⟩ := (spR_mem i _ 0).mp h
        have : c' = k := by omega
        subst this e
        rw [List.getElem?_take] at h1
        split at h1
        · exact cellAt_of hrow h1
        · cases h1
    obtain ⟨h1, h2⟩ := cell_inj gd.nd hc2 hcz
    rw [h1, h2]
  cases hlt
  rcases List.mem_append.mp hm2 with h | h
  · obtain ⟨k, row2, e, h1, h2⟩ := (spG_mem _ 0).mp h
    rw [List.getElem?_take] at h1
    split at h1
    · omega
    · cases h1
  · obtain ⟨e, k, e2, h1⟩ := (spR_mem i _ 0).mp h
    rw [List.getElem?_take] at h1
    split at h1
    · omega
    · cases h1
theorem ahead_len {g : Grid} {wd : Nat} (gd : Good g wd) {i j : Nat} {row : Row} (hrow : g[i]? = some row) : ((spG 0 (g.take i) ++ spR i 0 (row.take j)).map (·.1)).length ≤ 42 := by
  rw [List.map_append, spG_fst, spR_fst, List.length_append]
  have a1 := len_names (g := g.take i) (wd := wd) fun r hr => gd.rows r (List.mem_of_mem_take hr)
  have a2 : (g.take i).length ≤ 6 := by rw [List.length_take]; have := gd.h6; omega
  have a3 : (g.take i).length * wd ≤ 6 * 6 := Nat.mul_le_mul a2 gd.w6
  have a4 : (rnames (row.take j)).length ≤ (row.take j).length := List.length_filterMap_le id _
  have a5 : (row.take j).length ≤ row.length := List.length_take_le' _ _
  have a6 := gd.rows row (List.mem_of_getElem? hrow)
  have a7 := gd.w6
  omega
theorem ahead_snoc {g : Grid} {i j : Nat} {row : Row} {o : Option Str} (ho : row[j]? = some o) : spG 0 (g.take i) ++ spR i 0 (row.take (j + 1)) = spG 0 (g.take i) ++ spR i 0 (row.take j) ++ (o.toList.map fun z => (z, i, j)) := by
  rw [take_snoc ho, spR_snoc, len_take ho, Nat.zero_add, List.append_assoc]
theorem ok_wrong (F : Fun K "wrong_spot" "wrong_spot" sWrong f fd) (B : Bi mg) (hI : Has P w K mg base "is_word" 1 ["thing"] spIsWord) : FnOk P w K mg base CX0 2 f fd ["rows"] spWrong := by
  refine F.ok scWrong (fun vs H Q E h => ?_) (fun cdv A outer s H vs Q E hr h => ?_)
  · obtain ⟨L, g, wd, rfl, _⟩ := h
    rfl
  · obtain ⟨L, g, wd, rfl, hG, gd, q⟩ := h
    refine ⟨_, pss_cons (ps_set (i := 1) scWrong.nd rfl (.inl rfl) (pe_lst pa_nil))
      (pss_cons (ps_for PassesOwn.never rfl (pi_enumT (by rfl) B.enum (pa_cons (pv 0) pa_nil)) (pg_tup rfl (pgs_cons (pg_name (i := 2) scWrong.nd rfl (.inl rfl)) (pgs_cons (pg_name (i := 3) scWrong.nd rfl (.inl rfl)) pgs_nil)))
        (pss_one (ps_for PassesOwn.never rfl (pi_enumT (by rfl) B.enum (pa_cons (pv 3) pa_nil)) (pg_tup rfl (pgs_cons (pg_name (i := 4) scWrong.nd rfl (.inl rfl)) (pgs_cons (pg_name (i := 5) scWrong.nd rfl (.inl rfl)) pgs_nil)))
          (pss_cons (ps_if (pt_cmp (pc_isN (pv 5))) (pss_one ps_continue) pss_nil)
          (pss_cons (ps_if (PW.pt (pw_or (pt_not (pt_val (pe_h hI hr (pa_cons (pv 5) pa_nil)))) (pw_or1 (pt_cmpR op_in_seq (pv 5) (pv 1) (by rfl))))) (pss_one ps_never) pss_nil)
          (pss_one (ps_expr (pe_bm PySem.F.plainAttrs_list PySem.F.slot_list_append PySem.F.type_list_append mt_append (pv 1) (pa_cons (pv 5) pa_nil)))))))))
      (pss_one (ps_ret pe_non))), ?_⟩
    refine ⟨lz, fun d hd => ?_⟩
    obtain ⟨as, hL, hR⟩ := id hG
    have s0 : Same H (upd H d (.lst [])) := same_new hd
    refine ⟨_, rfl, L, _, rfl, .inl (.inl (s0 _ _ hL)), for_it (walk_enumT (K := K) (a := L) (xs := as.map V.ref)) (fun i σ H' => (∃ y2 y3 y4 y5, σ = [some (.ref L), some (.ref d), y2, y3, y4, y5]) ∧ Same H H' ∧ H' d = some (.lst (((spG 0 (g.take i)).map (·.1)).map V.str)))
      ⟨⟨_, _, _, _, rfl⟩, s0, upd_same⟩ (fun i σ H' _ h => .inl (.inl (h.2.1 _ _ hL))) ?_ ?_⟩
    · rintro i x σ H1 H2 hi ⟨⟨y2, y3, y4, y5, rfl⟩, s1, hd1⟩ ⟨T, x1, x2, rfl, hT, rfl, ex1, ex2⟩
      cases ex1
      have ex2 : (as.map V.ref)[i]? = some x2 := ex2
      rw [List.getElem?_map] at ex2
      obtain ⟨p, hp, rfl⟩ := Option.map_eq_some_iff.mp ex2
      obtain ⟨row, hrow, hH⟩ := hR.get hp
      have s2 : Same H1 (upd H1 T (.tup [.int i, .ref p])) := same_new hT
      have hp2 := s2 _ _ (s1 _ _ hH)
      refine ⟨T, _, rfl, .inl (.inl upd_same), rfl, _, _, rfl, _, _, rfl, rfl, ?_⟩
      refine ⟨_, rfl, p, _, rfl, .inl (.inl hp2), for_it (walk_enumT (K := K) (a := p) (xs := row.map oV)) (fun j σ H' => (∃ y4 y5, σ = [some (.ref L), some (.ref d), some (.int i), some (.ref p), y4, y5]) ∧ Same H H' ∧ H' d = some (.lst (((spG 0 (g.take i) ++ spR i 0 (row.take j)).map (·.1)).map V.str)))
        ⟨⟨_, _, rfl⟩, s1.trans s2, by simpa [spR] using s2 _ _ hd1⟩ (fun j σ H' _ h => .inl (.inl (h.2.1 _ _ hH))) ?_ ?_⟩
      · rintro j x σ H3 H4 hj ⟨⟨z4, z5, rfl⟩, s3, hd3⟩ ⟨T2, x1, x2, rfl, hT2, rfl, ex1, ex2⟩
        cases ex1
        have ex2 : (row.map oV)[j]? = some x2 := ex2
        rw [List.getElem?_map] at ex2
        obtain ⟨o, ho, rfl⟩ := Option.map_eq_some_iff.mp ex2
        have s4 : Same H3 (upd H3 T2 (.tup [.int j, oV o])) := same_new hT2
        refine ⟨T2, _, rfl, .inl (.inl upd_same), rfl, _, _, rfl, _, _, rfl, rfl, ?_⟩
        cases o with
        | none =>
          refine ⟨_, rfl, _, rfl, iteT ?_⟩
          refine ⟨⟨_, _, rfl⟩, s3.trans s4, ?_⟩
          rw [ahead_snoc ho]
          simpa using s4 _ _ hd3
        | some z =>
          have hzw : IsWd z := gd.wd z (mem_names.mpr ⟨i, j, cellAt_of hrow ho⟩)
          refine ⟨_, rfl, _, rfl, iteF ?_⟩
          refine ⟨_, rfl, z, rfl, by have := hzw.len; omega, fun H5 s5 => ⟨_, rfl, ?_⟩⟩
          rw [show wdB z = true from hzw]
          have hd5 := s5 _ _ (s4 _ _ hd3)
          have hin : inV (.str z) (((spG 0 (g.take i) ++ spR i 0 (row.take j)).map (·.1)).map V.str) = false := by
            rw [inV_strs]
            exact decide_eq_false (ahead_new gd hrow ho)
          refine iteF ⟨_, rfl, _, rfl, d, _, rfl, .inl (.inl (.inl hd5)), rfl, flat_strs _, false, ?_, ?_⟩
          · exact congrArg V.bl hin
          refine iteF ⟨_, rfl, .inl ⟨rfl, _, .inl (.inl hd5)⟩, _, rfl, d, _, _, rfl, rfl, hd5, ?_, ?_⟩
          · rw [List.length_map]
            exact small1000 (by have := ahead_len gd hrow (j := j); omega)
          · refine ⟨⟨_, _, rfl⟩, same_mut ((s3.trans s4).trans s5) hd, ?_⟩
            rw [upd_same, ahead_snoc ho]
            simp [oV]
      · rintro σ H3 ⟨⟨z4, z5, rfl⟩, s3, hd3⟩
        refine ⟨⟨_, _, _, _, rfl⟩, s3, ?_⟩
        rw [List.length_map, List.take_length] at hd3
        rw [take_snoc hrow, spG_snoc, len_take hrow, Nat.zero_add]
        exact hd3
    · rintro σ H3 ⟨⟨y2, y3, y4, y5, rfl⟩, s3, hd3⟩
      exact q H3 s3
/-! ### spots_in of a good grid -/
def spSpotsIn : Sp := fun vs H Q _ => ∃ (L : Addr) (g : Grid) (wd : Nat), vs = [.ref L] ∧ GridAt H L g ∧ Good g wd ∧
  ∀ (d : Addr) (H' : Hp), H d = none → Same H H' → SpotsAt H' d (spG 0 g) → Q (.ref d) H'
abbrev nSpotsIn : List Str := ["rows", "at", "row", "column", "part"]
theorem scSpotsIn : FnScope nSpotsIn ["rows"] (defScope sSpotsIn) := ⟨rfl, rfl, rfl, by decide +kernel, rfl, by decide +kernel, by decide +kernel⟩
theorem ok_spotsin (F : Fun K "spots_in" "spots_in" sSpotsIn f fd) (B : Bi mg) : FnOk P w K mg base CX0 1 f fd ["rows"] spSpotsIn := by
  refine F.ok scSpotsIn (fun vs H Q E h => ?_) (fun cdv A outer s H vs Q E hr h => ?_)
  · obtain ⟨L, g, wd, rfl, _⟩ := h
    rfl
  · obtain ⟨L, g, wd, rfl, hG, gd, q⟩ := h
    refine ⟨_, pss_one (ps_ret (pe_dc2 (own := [("at", 1), ("row", 2), ("column", 3), ("part", 4)]) (vs1 := [3, 4]) (ga := gTup K 2 (gCons (gName 1) (gCons (gName 2) gNil))) (tta := tYes) (wb := iEnumT K (tCons (tVar 2) tNil)) (gb := gTup K 2 (gCons (gName 3) (gCons (gName 4) gNil))) (ttb := tB (tNotN (tVar 4))) (tk := tVar 4) (tv := tTup (tCons (tVar 1) (tCons (tVar 3) tNil))) rfl scSpotsIn.nd (pi_enumT (by rfl) B.enum (pa_cons (pv 0) pa_nil)) (blkOk_by (N := nSpotsIn) (sc := defScope sSpotsIn) (by decide +kernel)) (by decide)
      (fun _ _ _ _ _ => pg_tup rfl (pgs_cons (pg_name (i := 1) scSpotsIn.nd rfl (.inl rfl)) (pgs_cons (pg_name (i := 2) scSpotsIn.nd rfl (.inl rfl)) pgs_nil))) (fun _ _ _ _ _ => pts_nil)
      (fun _ _ _ _ _ => pi_enumT (by rfl) B.enum (pa_cons (pv 2) pa_nil)) (fun _ _ _ _ _ => pg_tup rfl (pgs_cons (pg_name (i := 3) scSpotsIn.nd rfl (.inl rfl)) (pgs_cons (pg_name (i := 4) scSpotsIn.nd rfl (.inl rfl)) pgs_nil)))
      (fun _ _ _ _ _ => pts_one (pt_cmp (pc_notN (pv 4)))) (fun _ _ _ _ _ => pv 4) (fun _ _ _ _ _ => pe_tup (pa_cons (pv 1) (pa_cons (pv 3) pa_nil))))), ?_⟩
    obtain ⟨as, hL, hR⟩ := id hG
    refine ⟨_, rfl, L, _, rfl, .inl (.inl hL), fun d hd => dc2_it (walk_enumT (K := K) (a := L) (xs := as.map V.ref)) (fun i H' => Same H H' ∧ SpotsAt H' d (spG 0 (g.take i))) ⟨same_new hd, [], upd_same, .nil⟩ (fun i H' _ h => .inl (.inl (h.1 _ _ hL))) ?_ ?_⟩
    · rintro i x H1 H2 hi ⟨s1, kvs1, hd1, e1⟩ ⟨T, x1, x2, rfl, hT, rfl, ex1, ex2⟩
      cases ex1
      have ex2 : (as.map V.ref)[i]? = some x2 := ex2
      rw [List.getElem?_map] at ex2
      obtain ⟨p, hp, rfl⟩ := Option.map_eq_some_iff.mp ex2
      obtain ⟨row, hrow, hH⟩ := hR.get hp
      have s2 : Same H1 (upd H1 T (.tup [.int i, .ref p])) := same_new hT
      have hp2 := s2 _ _ (s1 _ _ hH)
      refine ⟨T, _, rfl, .inl (.inl upd_same), rfl, _, _, rfl, _, _, rfl, rfl, rfl, yes_it ?_⟩
      refine ⟨_, rfl, p, _, rfl, .inl (.inl hp2), inn_it (walk_enumT (K := K) (a := p) (xs := row.map oV)) (fun j H' => Same H H' ∧ SpotsAt H' d (spG 0 (g.take i) ++ spR i 0 (row.take j)))
        ⟨s1.trans s2, kvs1, s2 _ _ hd1, by simpa [spR] using ent_keep (tk_same s2) e1⟩ (fun j H' _ h => .inl (.inl (h.1 _ _ hH))) ?_ ?_⟩
      · rintro j x H3 H4 hj ⟨s3, kvs3, hd3, e3⟩ ⟨T2, x1, x2, rfl, hT2, rfl, ex1, ex2⟩
        cases ex1
        have ex2 : (row.map oV)[j]? = some x2 := ex2
        rw [List.getElem?_map] at ex2
        obtain ⟨o, ho, rfl⟩ := Option.map_eq_some_iff.mp ex2
        have s4 : Same H3 (upd H3 T2 (.tup [.int j, oV o])) := same_new hT2
        refine ⟨T2, _, rfl, .inl (.inl upd_same), rfl, _, _, rfl, _, _, rfl, rfl, rfl, ?_⟩
        cases o with
        | none =>
          refine ⟨_, rfl, _, rfl, iteF ?_⟩
          refine ⟨s3.trans s4, kvs3, s4 _ _ hd3, ?_⟩
          rw [ahead_snoc ho]
          simpa using ent_keep (tk_same s4) e3
        | some z =>
          refine ⟨_, rfl, _, rfl, iteT ?_⟩
          have hd5 := s4 _ _ hd3
          have e5 := ent_keep (tk_same s4) e3
          have hv : valV kvs3 (Sum.inr z : Key) = none := ent_none e5 (ahead_new gd hrow ho)
          refine ⟨_, rfl, _, rfl, _, rfl, lz, fun T6 hT6 => ?_⟩
          have hd6 := (same_new (o := .tup [.int i, .int j]) hT6) _ _ hd5
          refine ⟨kvs3, Sum.inr z, rfl, hd6, ?_, same_mut ((s3.trans s4).trans (same_new hT6)) hd, kvs3 ++ [(Sum.inr z, .ref T6)], ?_, ?_⟩
          · have h1 := e5.length
            have h2 := ahead_len gd hrow (j := j)
            rw [List.length_map] at h2
            exact small1000 (by omega)
          · rw [putK_new _ hv, upd_same]
          · rw [ahead_snoc ho]
            refine Each.append (ent_keep (tk_updD hd6) (ent_keep (tk_new hT6) e5)) (.cons ⟨rfl, T6, rfl, ?_⟩ .nil)
            exact (tk_updD hd6) _ _ upd_same
      · rintro H3 ⟨s3, kvs3, hd3, e3⟩
        refine ⟨s3, kvs3, hd3, ?_⟩
        rw [List.length_map, List.take_length] at e3
        rw [take_snoc hrow, spG_snoc, len_take hrow, Nat.zero_add]
        exact e3
    · rintro H3 ⟨s3, kvs3, hd3, e3⟩
      have hlen : (as.map V.ref).length = g.length := by rw [List.length_map, hR.length]
      rw [hlen, List.take_length] at e3
      exact q d H3 hd s3 ⟨kvs3, hd3, e3⟩
/-! ### checked_spots of a good grid -/
def spSpots : Sp := fun vs H Q _ => ∃ (L : Addr) (g : Grid) (wd : Nat), vs = [.ref L] ∧ GridAt H L g ∧ Good g wd ∧
  ∀ (d : Addr) (H' : Hp), H d = none → Same H H' → SpotsAt H' d (spG 0 g) → Q (.ref d) H'
abbrev nSpots : List Str := ["rows", "wrong", "spots"]
theorem scSpots : FnScope nSpots ["rows"] (defScope sSpots) := ⟨rfl, rfl, rfl, by decide +kernel, rfl, by decide +kernel, by decide +kernel⟩
theorem ok_spots (F : Fun K "checked_spots" "checked_spots" sSpots f fd) (hA : Has P w K mg base "are_rows" 1 ["thing"] spAreRows) (hW : Has P w K mg base "wrong_spot" 2 ["rows"] spWrong) (hS : Has P w K mg base "spots_in" 1 ["rows"] spSpotsIn) :
    FnOk P w K mg base CX0 3 f fd ["rows"] spSpots := by
  refine F.ok scSpots (fun vs H Q E h => ?_) (fun cdv A outer s H vs Q E hr h => ?_)
  · obtain ⟨L, g, wd, rfl, _⟩ := h
    rfl
  · obtain ⟨L, g, wd, rfl, hG, gd, q⟩ := h
    refine ⟨_, pss_cons (ps_if (pt_not (pt_val (pe_h hA hr (pa_cons (pv 0) pa_nil)))) (pss_one ps_never) pss_nil)
      (pss_cons (ps_set (i := 1) scSpots.nd rfl (.inl rfl) (pe_h hW hr (pa_cons (pv 0) pa_nil)))
      (pss_cons (ps_if (pt_cmp (pc_notN (pv 1))) (pss_one ps_never) pss_nil)
      (pss_cons (ps_set (i := 2) scSpots.nd rfl (.inl rfl) (pe_h hS hr (pa_cons (pv 0) pa_nil)))
      (pss_cons (ps_if (pt_not (pt_truth (pv 2) (by intro _; rfl))) (pss_one ps_never) pss_nil)
      (pss_one (ps_ret (pv 2))))))), ?_⟩
    refine ⟨_, rfl, L, g, wd, rfl, hG, gd, true, rfl, iteF ?_⟩
    refine ⟨_, rfl, L, g, wd, rfl, hG, gd, fun H1 s1 => ⟨_, rfl, _, rfl, iteF ?_⟩⟩
    have hG1 : GridAt H1 L g := hG.keep (tk_same s1)
    refine ⟨_, rfl, L, g, wd, rfl, hG1, gd, fun d H2 hd s2 ⟨kvs, hk, he⟩ => ?_⟩
    have hne : kvs.isEmpty = false := by
      cases kvs with
      | nil =>
        have h1 := he.length
        have h2 : ((spG 0 g).map (·.1)).length = (names g).length := by rw [spG_fst]
        rw [List.length_map] at h2
        have h3 : names g = [] := List.eq_nil_of_length_eq_zero (by rw [← h2, ← h1]; rfl)
        exact absurd h3 gd.ne
      | cons a r => rfl
    refine ⟨_, rfl, _, .inr (.inr ⟨kvs, hk, rfl⟩), ?_⟩
    rw [hne]
    refine iteF ⟨_, rfl, q d H2 (s1.free hd) (s1.trans s2) ⟨kvs, hk, he⟩⟩
end
end Wl





namespace Wl
open PySem PySem.Spec PyProof.Rows L2
section
variable {J : It} {ys : List V} {G : Hp → Prop} {slot slot1 : Nat} {wi1 : TI} {tt1 : TT} {te : TE} {vs vs1 : List Nat} {σ : L2.St} {H1 : Hp} {D : Addr} {Qd : Hp → Prop}
theorem flat_take_snoc {α β : Type} {f : α → List β} {ys : List α} {i : Nat} {x : α} (h : ys[i]? = some x) : (ys.take (i + 1)).flatMap f = (ys.take i).flatMap f ++ f x := by
  rw [List.take_add_one, h, List.flatMap_append]
  simp
/-- [e for x in ys for y in inn x if t]: the heap only growing -/
theorem lc2_rel (w : L2.Walk J ys.length G (YAt ys)) (hD : H1 D = none) (inn : V → List V) (keep : V → V → Bool) (R : V → V → V → Hp → Prop) (N : Nat)
    (hG : ∀ H, Same H1 H → G H)
    (hw : ∀ x, wipe ((wipe σ vs).set slot (some x)) vs = wipe σ vs)
    (hw1 : ∀ x y, wipe ((wipe ((wipe σ vs).set slot (some x)) vs1).set slot1 (some y)) vs1 = wipe ((wipe σ vs).set slot (some x)) vs1)
    (hi : ∀ (x : V) (H : Hp) (acc : List V), x ∈ ys → Same H1 H → H D = some (.lst acc) → ∀ Rr : It → Hp → Prop,
      (∀ J1 H4 G1, Same H H4 → L2.Walk J1 (inn x).length G1 (YAt (inn x)) → (∀ H', SameX D H4 H' → G1 H') → Rr J1 H4) → wi1 ((wipe σ vs).set slot (some x)) H Rr)
    (ht : ∀ (x y : V) (H : Hp), x ∈ ys → y ∈ inn x → Same H1 H → ∀ Q : Bool → Hp → Prop, Q (keep x y) H → tt1 ((wipe ((wipe σ vs).set slot (some x)) vs1).set slot1 (some y)) H Q)
    (he : ∀ (x y : V) (H : Hp), x ∈ ys → y ∈ inn x → keep x y = true → Same H1 H → ∀ Q : VK, (∀ z H', Same H H' → R x y z H' → Q z H') → te ((wipe ((wipe σ vs).set slot (some x)) vs1).set slot1 (some y)) H Q)
    (hR : ∀ x y z H H' acc, H D = some (.lst acc) → SameX D H H' → R x y z H → R x y z H')
    (hl : ∀ x ∈ ys, (inn x).length ≤ N) (hn : ys.length * N < sizeLine)
    (hd : ∀ zs H, Same H1 H → H D = some (.lst zs) → Each (fun (xy : V × V) z => R xy.1 xy.2 z H) (ys.flatMap fun x => ((inn x).filter (keep x)).map fun y => (x, y)) zs → Qd H) :
    ∃ W : Nat → Nat → Hp → Prop, (∃ m, W 0 m (upd H1 D (.lst []))) ∧ ∀ i m H, W i m H →
      (J.stop i H ∧ Qd H) ∨ (J.go i H ∧ ∃ Nx : Hp → Prop, (∀ H', Nx H' → ∃ m', m' < m ∧ W (i + 1) m' H') ∧ ∀ x H', J.yld i H x H' → gName slot x (wipe σ vs) H' fun σ2 H2 => wipe σ2 vs = wipe σ vs ∧ tYes σ2 H2 fun b H3 =>
        if b = true then wi1 σ2 H3 fun J1 H4 => ∃ W1 : Nat → Nat → Hp → Prop, (∃ m, W1 0 m H4) ∧ ∀ j k H, W1 j k H →
          (J1.stop j H ∧ Nx H) ∨ (J1.go j H ∧ ∃ Nx1 : Hp → Prop, (∀ H', Nx1 H' → ∃ k', k' < k ∧ W1 (j + 1) k' H') ∧ ∀ x H', J1.yld j H x H' → gName slot1 x (wipe σ2 vs1) H' fun σ3 H5 => wipe σ3 vs1 = wipe σ2 vs1 ∧ tt1 σ3 H5 fun b H6 =>
            if b = true then te σ3 H6 fun y H7 => ∃ acc, H7 D = some (.lst acc) ∧ acc.length < sizeLine ∧ Nx1 (upd H7 D (.lst (acc ++ [y]))) else Nx1 H6)
        else Nx H3) := by
  have cnt : ∀ (l : List V), (∀ x ∈ l, (inn x).length ≤ N) → (l.flatMap fun x => ((inn x).filter (keep x)).map fun y => (x, y)).length ≤ l.length * N := by
    intro l
    induction l with
    | nil => intro _; simp
    | cons x r ih =>
      intro h
      rw [List.flatMap_cons, List.length_append, List.length_map, List.length_cons, Nat.succ_mul]
      have h1 : ((inn x).filter (keep x)).length ≤ (inn x).length := List.length_filter_le _ _
      have h2 := h x List.mem_cons_self
      have h3 := ih fun y hy => h y (List.mem_cons_of_mem _ hy)
      omega
  refine ⟨fun i m H => m = ys.length - i ∧ i ≤ ys.length ∧ ∃ zs, Same H1 H ∧ H D = some (.lst zs) ∧ Each (fun (xy : V × V) z => R xy.1 xy.2 z H) ((ys.take i).flatMap fun x => ((inn x).filter (keep x)).map fun y => (x, y)) zs,
    ⟨ys.length, by simp, Nat.zero_le _, [], same_new hD, upd_same, by simpa using Each.nil⟩, ?_⟩
  rintro i m H ⟨rfl, hi0, zs, s, hz, ez⟩
  by_cases hlt : i < ys.length
  · refine .inr ⟨w.goes i H hlt (hG H s), fun H' => ∃ zs, Same H1 H' ∧ H' D = some (.lst zs) ∧ Each (fun (xy : V × V) z => R xy.1 xy.2 z H') ((ys.take (i + 1)).flatMap fun x => ((inn x).filter (keep x)).map fun y => (x, y)) zs,
      fun H' h => ⟨ys.length - (i + 1), by omega, rfl, hlt, h⟩, fun x H' y => ?_⟩
    obtain ⟨rfl, hx⟩ := w.yields i H x H' hlt (hG H s) y
    have hm : x ∈ ys := List.mem_of_getElem? hx
    have hf := flat_take_snoc (f := fun x => ((inn x).filter (keep x)).map fun y => (x, y)) hx
    refine ⟨hw x, yes_it ?_⟩
    refine hi x _ zs hm s hz _ fun J1 H4 G1 s4 w1 hG1 => ?_
    have hz4 := s4 _ _ hz
    refine ⟨fun j k H => k = (inn x).length - j ∧ j ≤ (inn x).length ∧ ∃ ws, Same H1 H ∧ SameX D H4 H ∧ H D = some (.lst ws) ∧ Each (fun (xy : V × V) z => R xy.1 xy.2 z H) (((ys.take i).flatMap fun x => ((inn x).filter (keep x)).map fun y => (x, y)) ++ (((inn x).take j).filter (keep x)).map fun y => (x, y)) ws,
      ⟨(inn x).length, by simp, Nat.zero_le _, zs, s.trans s4, SameX.refl _ _, hz4, ?_⟩, ?_⟩
    · simpa using ez.mono fun a b r => hR _ _ _ _ _ _ hz (sx s4) r
    · rintro j k H5 ⟨rfl, hj0, ws, s5, x5, hz5, ez5⟩
      by_cases hjt : j < (inn x).length
      · refine .inr ⟨w1.goes j H5 hjt (hG1 H5 x5), fun H' => ∃ ws, Same H1 H' ∧ SameX D H4 H' ∧ H' D = some (.lst ws) ∧ Each (fun (xy : V × V) z => R xy.1 xy.2 z H') (((ys.take i).flatMap fun x => ((inn x).filter (keep x)).map fun y => (x, y)) ++ (((inn x).take (j + 1)).filter (keep x)).map fun y => (x, y)) ws,
          fun H' h => ⟨(inn x).length - (j + 1), by omega, rfl, hjt, h⟩, fun y H' yy => ?_⟩
        obtain ⟨rfl, hy⟩ := w1.yields j H5 y H' hjt (hG1 H5 x5) yy
        have hym : y ∈ inn x := List.mem_of_getElem? hy
        have hf2 := filter_take_snoc (p := keep x) hy
        refine ⟨hw1 x y, ht x y _ hm hym s5 _ ?_⟩
        refine ite_b (fun e => ?_) (fun e => ?_)
        · refine he x y _ hm hym e s5 _ fun z H6 s6 r6 => ⟨ws, s6 _ _ hz5, ?_, ws ++ [z], same_mut (s5.trans s6) hD, ?_, upd_same, ?_⟩
          · have h1 := ez5.length
            have h2 := cnt (ys.take i) fun x hx => hl x (List.mem_of_mem_take hx)
            have h3 : (((inn x).take j).filter (keep x)).length ≤ N := by
              have a1 : (((inn x).take j).filter (keep x)).length ≤ ((inn x).take j).length := List.length_filter_le _ _
              have a2 : ((inn x).take j).length ≤ (inn x).length := List.length_take_le' _ _
              have a3 := hl x hm
              omega
            rw [List.length_append, List.length_map] at h1
            have h4 : (ys.take i).length * N + N ≤ ys.length * N := by
              rw [← Nat.succ_mul]
              refine Nat.mul_le_mul_right N ?_
              rw [List.length_take]
              omega
            omega
          · exact (x5.trans (sx s6)).trans sameX_upd
          · rw [hf2, if_pos e, List.map_append, ← List.append_assoc]
            refine Each.append (ez5.mono fun a b r => ?_) (.cons ?_ .nil)
            · exact hR _ _ _ _ _ _ hz5 (fun b o n h => by rw [upd_ne n]; exact s6 _ _ h) r
            · exact hR _ _ _ _ _ _ (s6 _ _ hz5) sameX_upd r6
        · refine ⟨ws, s5, x5, hz5, ?_⟩
          rw [hf2, if_neg (by rw [e]; decide), List.append_nil]
          exact ez5
      · have e : j = (inn x).length := by omega
        subst e
        refine .inl ⟨w1.stops H5 (hG1 H5 x5), ws, s5, hz5, ?_⟩
        rw [List.take_length] at ez5
        rw [hf]
        exact ez5
  · have e : i = ys.length := by omega
    subst e
    rw [List.take_length] at ez
    exact .inl ⟨w.stops H (hG H s), hd zs H s hz ez⟩
end
end Wl

namespace Wl
open PySem PySem.Spec PyProof.Rows L2
abbrev sCls : Stmt := topS 43
abbrev sInit : Stmt := inClass sCls 0
abbrev sCheck : Stmt := inClass sCls 1
abbrev sLNames : Stmt := inClass sCls 2
abbrev sSpot : Stmt := inClass sCls 3
abbrev sNeigh : Stmt := inClass sCls 4
abbrev sBord : Stmt := inClass sCls 5
structure Txt (K : PySem.W.Frag) (mg : Str → Option Value) (C : Addr) : Prop where
  cl : Cls K C
  nS : NoAttr K C "spots"
  nR : NoAttr K C "rows"
  mgC : mg "Land" = some (.ref C)
theorem srne : ¬ (("spots" : Str) = "rows") := by decide +kernel
def lf (d L : Addr) : List (Str × V) := putF "rows" (.ref L) (putF "spots" (.ref d) [])
theorem lf_spots (d L : Addr) : (lf d L).lookup ("spots" : Str) = some (.ref d) := by
  unfold lf
  rw [lookup_putF, if_neg srne, lookup_putF, if_pos rfl]
theorem lf_rows (d L : Addr) : (lf d L).lookup ("rows" : Str) = some (.ref L) := by
  unfold lf
  rw [lookup_putF, if_pos rfl]
theorem lf_no (d L : Addr) {m : Str} (h1 : ¬ m = "rows") (h2 : ¬ m = "spots") : (lf d L).lookup m = none := by
  unfold lf
  rw [lookup_putF, if_neg h1, lookup_putF, if_neg h2]
  rfl
def LandAt (C : Addr) (H : Hp) (p L : Addr) (g : Grid) : Prop := ∃ d dx, H p = some (.ins C dx (lf d L)) ∧ SpotsAt H d (spG 0 g) ∧ GridAt H L g
theorem LandAt.keep {C p L : Addr} {H H' : Hp} {g : Grid} (h : LandAt C H p L g) (k : Keep H H') : LandAt C H' p L g := by
  obtain ⟨d, dx, h1, h2, h3⟩ := h
  exact ⟨d, dx, k _ _ (fun xs e => by cases e) h1, h2.keep k, h3.keep k.tk⟩
theorem tk_updI {a : Addr} {H : Hp} {C dx : Addr} {fs : List (Str × V)} {o : HO} (ha : H a = some (.ins C dx fs)) : TupKeep H (upd H a o) := fun p xs h => by
  rw [upd_ne (ne_of h ha (by intro z; cases z))]
  exact h
theorem spots_updI {a d : Addr} {H : Hp} {C dx : Addr} {fs : List (Str × V)} {o : HO} {sp : List (Str × Nat × Nat)} (ha : H a = some (.ins C dx fs)) (h : SpotsAt H d sp) : SpotsAt (upd H a o) d sp := by
  obtain ⟨kvs, h1, h2⟩ := h
  exact ⟨kvs, by rw [upd_ne (ne_of h1 ha (by intro z; cases z))]; exact h1, ent_keep (tk_updI ha) h2⟩
section
variable {P : Program} {w : World} {K : PySem.W.Frag} {mg : Str → Option Value} {base : Heap} {f C : Addr} {fd : FuncData}
def spInit (C : Addr) : Sp := fun vs H Q _ => ∃ (p dx L : Addr) (g : Grid) (wd : Nat), vs = [.ref p, .ref L] ∧ H p = some (.ins C dx []) ∧ GridAt H L g ∧ Good g wd ∧
  ∀ (H' : Hp), (∀ b o, b ≠ p → H b = some o → H' b = some o) → LandAt C H' p L g → Q .non H'
theorem scInit : FnScope ["self", "rows"] ["self", "rows"] (defScope sInit) := ⟨rfl, rfl, rfl, by decide +kernel, rfl, by decide +kernel, by decide +kernel⟩
theorem ok_init (F : Fun K "__init__" "Land.__init__" sInit f fd) (T : Txt K mg C) (hS : Has P w K mg base "checked_spots" 3 ["rows"] spSpots) : FnOk P w K mg base CX0 4 f fd ["self", "rows"] (spInit C) := by
  refine F.ok scInit (fun vs H Q E h => ?_) (fun cdv A outer s H vs Q E hr h => ?_)
  · obtain ⟨p, dx, L, g, wd, rfl, _⟩ := h
    rfl
  · obtain ⟨p, dx, L, g, wd, rfl, hp, hG, gd, q⟩ := h
    refine ⟨_, pss_cons (ps_fld (pv 0) (pe_h hS hr (pa_cons (pv 1) pa_nil)) rfl) (pss_one (ps_fld (pv 0) (pv 1) rfl)), ?_⟩
    refine ⟨_, rfl, L, g, wd, rfl, hG, gd, fun d H1 hd s1 sp1 => ?_⟩
    have hp1 := s1 _ _ hp
    refine ⟨_, rfl, p, C, dx, [], rfl, hp1, T.cl, T.nS, (by show 0 < 1000; decide), ?_⟩
    refine ⟨_, rfl, _, rfl, p, C, dx, _, rfl, upd_same, T.cl, T.nR, (by show 1 < 1000; decide), ?_⟩
    refine q _ (fun b o n e => ?_) ⟨d, dx, upd_same, spots_updI upd_same (spots_updI hp1 sp1), ((hG.keep (tk_same s1)).keep (tk_updI hp1)).keep (tk_updI upd_same)⟩
    rw [upd_ne n, upd_ne n]
    exact s1 _ _ e

/-! ### names -/
def spLNames (C : Addr) : Sp := fun vs H Q _ => ∃ (p L : Addr) (g : Grid) (wd : Nat), vs = [.ref p] ∧ LandAt C H p L g ∧ Good g wd ∧
  ∀ (t : Addr) (H' : Hp), H t = none → Same H H' → H' t = some (.tup ((sortS (names g)).map V.str)) → Q (.ref t) H'
theorem scLNames : FnScope ["self"] ["self"] (defScope sLNames) := ⟨rfl, rfl, rfl, by decide +kernel, rfl, by decide +kernel, by decide +kernel⟩
/-- sorted of a list of texts, as a reading -/
theorem sort_reads {H : Hp} {Q : VK} {a : Addr} {xs : List Str} (h : SqL K H a (xs.map V.str)) (q : ∀ p, H p = none → Q (.ref p) (upd H p (.lst ((sortS xs).map V.str)))) : rSortD K [.ref a] H Q := by
  refine ⟨a, xs.map sd, rfl, ?_, ?_, alike_strs xs, sortable_strs xs, ?_, fun p hp => ?_⟩
  · rw [List.map_map]
    exact h
  · intro b hb
    obtain ⟨x, _, rfl⟩ := List.mem_map.mp hb
    exact .str x
  · intro b hb
    obtain ⟨x, _, rfl⟩ := List.mem_map.mp hb
    show PyData.depth (.str x) ≤ 8
    simp [PyData.depth]
  · rw [sort_strs]
    exact q p hp
theorem ok_lnames (F : Fun K "names" "Land.names" sLNames f fd) (B : Bi mg) (T : Txt K mg C) : FnOk P w K mg base CX0 1 f fd ["self"] (spLNames C) := by
  refine F.ok scLNames (fun vs H Q E h => ?_) (fun cdv A outer s H vs Q E hr h => ?_)
  · obtain ⟨p, L, g, wd, rfl, _⟩ := h
    rfl
  · obtain ⟨p, L, g, wd, rfl, ⟨d, dx, hp, ⟨kvs, hd, he⟩, hG⟩, gd, q⟩ := h
    refine ⟨_, pss_one (ps_ret (pe_callTy call_tuple_of (by rfl) B.tuple (by decide +kernel) (pa_cons (pe_callB (cr_sortD hr.units) (by rfl) B.sorted (by decide +kernel) (pa_cons (pe_callTy (call_list_dK rfl) (by rfl) B.list (by decide +kernel) (pa_cons (pe_fld (pv 0) rfl) pa_nil)) pa_nil)) pa_nil))), ?_⟩
    refine ⟨_, rfl, p, C, dx, _, _, rfl, hp, T.cl, T.nS, lf_spots _ _, d, kvs, rfl, hd, fun a1 h1 => ?_⟩
    rw [ent_keys he, spG_fst]
    dsimp only [tNil]
    refine sort_reads (K := K) (.inl (.inl upd_same)) fun a2 h2 => ?_
    refine ⟨a2, _, rfl, .inl ⟨.inl (.inl upd_same), fun a3 h3 => ?_⟩⟩
    exact q a3 _ (Same.free ((same_new h1).trans (same_new h2)) h3) (((same_new h1).trans (same_new h2)).trans (same_new h3)) upd_same

/-! ### check_name, spot -/
def spCheck (C : Addr) : Sp := fun vs H Q _ => ∃ (p L : Addr) (g : Grid) (wd : Nat) (z : Str), vs = [.ref p, .str z] ∧ LandAt C H p L g ∧ Good g wd ∧ z ∈ names g ∧ ∀ (H' : Hp), Same H H' → Q .non H'
theorem scCheck : FnScope ["self", "name"] ["self", "name"] (defScope sCheck) := ⟨rfl, rfl, rfl, by decide +kernel, rfl, by decide +kernel, by decide +kernel⟩
theorem ok_check (F : Fun K "check_name" "Land.check_name" sCheck f fd) (T : Txt K mg C) (hI : Has P w K mg base "is_word" 1 ["thing"] spIsWord) : FnOk P w K mg base CX0 2 f fd ["self", "name"] (spCheck C) := by
  refine F.ok scCheck (fun vs H Q E h => ?_) (fun cdv A outer s H vs Q E hr h => ?_)
  · obtain ⟨p, L, g, wd, z, rfl, _⟩ := h
    rfl
  · obtain ⟨p, L, g, wd, z, rfl, hLa, gd, hz, q⟩ := h
    have hu := hu_of hr
    have hzw := gd.wd z hz
    refine ⟨_, pss_one (ps_if (PW.pt (pw_or (pt_not (pt_val (pe_h hI hr (pa_cons (pv 1) pa_nil)))) (pw_or1 (pt_cmp (pc_dnotin hu (pv 1) (pe_fld (pv 0) rfl)))))) (pss_one ps_never) pss_nil), ?_⟩
    refine ⟨_, rfl, z, rfl, by have := hzw.len; omega, fun H1 s1 => ⟨_, rfl, ?_⟩⟩
    rw [show wdB z = true from hzw]
    refine iteF ?_
    obtain ⟨d, dx, hp, ⟨kvs, hd, he⟩, hG⟩ := hLa.keep (kp_same s1)
    obtain ⟨r, c, hc⟩ := mem_names.mp hz
    obtain ⟨t, hv, ht⟩ := ent_some he (by rw [spG_fst]; exact gd.nd) (spG_cell.mpr hc)
    refine ⟨_, rfl, _, rfl, p, C, dx, _, _, rfl, hp, T.cl, T.nS, lf_spots _ _, d, _, rfl, DGet.k (k := Sum.inr z) hd, _, rfl, ?_⟩
    rw [hv]
    exact iteF (q H1 s1)
def spSpot (C : Addr) : Sp := fun vs H Q _ => ∃ (p L : Addr) (g : Grid) (wd : Nat) (z : Str) (r c : Nat), vs = [.ref p, .str z] ∧ LandAt C H p L g ∧ Good g wd ∧ cellAt g r c = some z ∧
  ∀ (t : Addr) (H' : Hp), Same H H' → H' t = some (.tup [.int r, .int c]) → Q (.ref t) H'
theorem scSpot : FnScope ["self", "name"] ["self", "name"] (defScope sSpot) := ⟨rfl, rfl, rfl, by decide +kernel, rfl, by decide +kernel, by decide +kernel⟩
end
end Wl





namespace Wl
open PySem PySem.Spec PyProof.Rows L2
/-- at most six rows of at most six -/
structure Sized (g : Grid) (wd : Nat) : Prop where
  h6 : g.length ≤ 6
  w6 : wd ≤ 6
  rows : ∀ r ∈ g, r.length = wd
theorem Good.sized {g : Grid} {wd : Nat} (G : Good g wd) : Sized g wd := ⟨G.h6, G.w6, G.rows⟩
section
variable {P : Program} {w : World} {K : PySem.W.Frag} {mg : Str → Option Value} {base : Heap} {f C : Addr} {fd : FuncData}
/-! ### the law's own names -/
def spNames : Sp := fun vs H Q _ => ∃ (L : Addr) (g : Grid) (wd : Nat), vs = [.ref L] ∧ GridAt H L g ∧ Sized g wd ∧
  ∀ (t : Addr) (H' : Hp), H t = none → Same H H' → H' t = some (.lst ((sortS (names g)).map V.str)) → Q (.ref t) H'
abbrev nNames : List Str := ["_law_rows", "_law_found", "_law_row", "_law_name"]
theorem scNames : FnScope nNames ["_law_rows"] (defScope sNames) := ⟨rfl, rfl, rfl, by decide +kernel, rfl, by decide +kernel, by decide +kernel⟩
theorem row_filter (row : Row) : ((row.map oV).filter fun v => !decide (v = .non)).map id = (rnames row).map V.str := by
  rw [List.map_id]
  induction row with
  | nil => rfl
  | cons o r ih =>
    cases o with
    | none => exact ih
    | some z => exact congrArg (V.str z :: ·) ih
theorem names_take {g : Grid} {i : Nat} {row : Row} (h : g[i]? = some row) : names (g.take (i + 1)) = names (g.take i) ++ rnames row := by
  rw [take_snoc h, names_snoc]
theorem ok_names (F : Fun K "_law_names" "_law_names" sNames f fd) (B : Bi mg) : FnOk P w K mg base CX0 1 f fd ["_law_rows"] spNames := by
  refine F.ok scNames (fun vs H Q E h => ?_) (fun cdv A outer s H vs Q E hr h => ?_)
  · obtain ⟨L, g, wd, rfl, _⟩ := h
    rfl
  · obtain ⟨L, g, wd, rfl, ⟨as, hL, hR⟩, gd, q⟩ := h
    refine ⟨_, pss_cons (ps_set (i := 1) scNames.nd rfl (.inl rfl) (pe_lst pa_nil))
      (pss_cons (ps_for PassesOwn.never rfl (pi_tup (pv 0)) (pg_name (i := 2) scNames.nd rfl (.inl rfl))
        (pss_one (ps_expr (pe_bm PySem.F.plainAttrs_list PySem.F.slot_list_extend PySem.F.type_list_extend mt_extend (pv 1) (pa_cons
          (pe_lc (own := [("_law_name", 3)]) (g := gName 3) (tt := tB (tNotN (tVar 3))) rfl scNames.nd (pi_tup (pv 2)) (blkOk_by (N := nNames) (sc := defScope sNames) (by decide +kernel)) (fun _ _ _ _ _ => pg_name (i := 3) scNames.nd rfl (.inl rfl))
            (fun _ _ _ _ _ => pts_one (pt_cmp (pc_notN (pv 3)))) (fun _ _ _ _ _ => pv 3)) pa_nil)))))
      (pss_one (ps_ret (pe_callB (cr_sortD hr.units) (by rfl) B.sorted (by decide +kernel) (pa_cons (pv 1) pa_nil))))), ?_⟩
    refine ⟨lz, fun fA hf => ?_⟩
    have s0 : Same H (upd H fA (.lst [])) := same_new hf
    have hlen : (as.map V.ref).length = g.length := by rw [List.length_map, hR.length]
    refine ⟨_, rfl, L, rfl, ⟨_, .inl (.inl (s0 _ _ hL))⟩, for_tup (K := K) (a := L) (xs := as.map V.ref) (fun i σ H' => (∃ y2 y3, σ = [some (.ref L), some (.ref fA), y2, y3]) ∧ Same H H' ∧ H' fA = some (.lst ((names (g.take i)).map V.str)))
      ⟨⟨_, _, rfl⟩, s0, upd_same⟩ (fun i σ H' _ h => .inl (.inl (h.2.1 _ _ hL))) ?_ ?_⟩
    · rintro i x σ H1 hx ⟨⟨y2, y3, rfl⟩, s1, hf1⟩
      rw [List.getElem?_map] at hx
      obtain ⟨p, hp, rfl⟩ := Option.map_eq_some_iff.mp hx
      obtain ⟨row, hrow, hH⟩ := hR.get hp
      have hrl := gd.rows row (List.mem_of_getElem? hrow)
      refine ⟨_, rfl, .inl ⟨rfl, _, .inl (.inl hf1)⟩, _, rfl, p, rfl, ⟨_, .inl (.inl (s1 _ _ hH))⟩, fun D hD => ?_⟩
      refine lc_map (walk_tup (K := K) (a := p) (xs := row.map oV)) hD (fun v => !decide (v = .non)) id (fun H' s' => .inl (.inl (s' _ _ (s1 _ _ hH)))) (fun _ => rfl) ?_ ?_ ?_ ?_
      · intro x H' hx s' Q' q'
        exact ⟨_, rfl, _, rfl, q'⟩
      · intro x H' hx _ _ Q' q'
        exact ⟨_, rfl, q'⟩
      · rw [List.length_map]
        exact small1000 (by have := gd.w6; omega)
      · intro H2 s2 hD2
        rw [row_filter] at hD2
        have hf2 := s2 _ _ hf1
        refine ⟨fA, D, _, _, rfl, rfl, hf2, hD2, ?_, ⟨_, _, rfl⟩, same_mut (s1.trans s2) hf, ?_⟩
        · rw [List.length_map, List.length_map]
          have a1 := len_names (g := g.take i) (wd := wd) fun r hr => gd.rows r (List.mem_of_mem_take hr)
          have a2 : (g.take i).length ≤ 6 := by rw [List.length_take]; have := gd.h6; omega
          have a3 : (g.take i).length * wd ≤ 6 * 6 := Nat.mul_le_mul a2 gd.w6
          have a4 : (rnames row).length ≤ row.length := List.length_filterMap_le id _
          have a7 := gd.w6
          exact lzl (by omega)
        · rw [upd_same, names_take hrow, List.map_append]
    · rintro σ H1 ⟨⟨y2, y3, rfl⟩, s1, hf1⟩
      rw [hlen, List.take_length] at hf1
      refine ⟨_, rfl, ?_⟩
      dsimp only [tNil]
      refine sort_reads (K := K) (.inl (.inl hf1)) fun p hp => ?_
      exact q p _ (s1.free hp) (s1.trans (same_new hp)) upd_same

theorem grid_get {H : Hp} {L : Addr} {g : Grid} {wd : Nat} (gd : Good g wd) {as : List Addr} (hL : H L = some (.tup (as.map V.ref))) (hR : RowsAt H as g) {x y : Int} (hx : 0 ≤ x ∧ x < g.length) (hy : 0 ≤ y ∧ y < wd) :
    ∃ (p : Addr) (row : Row), atI (as.map V.ref) x = some (.ref p) ∧ H p = some (.tup (row.map oV)) ∧ row.length = wd ∧ atI (row.map oV) y = some (oV (cellAt g x.toNat y.toNat)) := by
  have hx2 : x.toNat < g.length := by omega
  have hg : g[x.toNat]? = some g[x.toNat] := List.getElem?_eq_getElem hx2
  obtain ⟨p, hp, hH⟩ := hR.get2 hg
  have hw := gd.rows _ (List.mem_of_getElem? hg)
  have hy2 : y.toNat < g[x.toNat].length := by omega
  refine ⟨p, g[x.toNat], at_of (j := x.toNat) (by omega) (by rw [List.getElem?_map, hp]; rfl), hH, hw, at_of (j := y.toNat) (by omega) ?_⟩
  rw [List.getElem?_map, List.getElem?_eq_getElem hy2, cellAt_of hg (List.getElem?_eq_getElem hy2)]
  rfl
end
end Wl




/-! A land's text. -/
namespace Wl
open PySem PySem.Spec PyProof.Rows L2
def partS : Option Str → Str
  | none => "-"
  | some z => z
def lineS (row : Row) : Str := Txt.join (" " : Str) (row.map partS)
def landS (g : Grid) : Str := Txt.join ("\n" : Str) (g.map lineS)
theorem tl_dash : TL.tl ("-" : Str) = [45] := by decide +kernel
theorem tl_blank : TL.tl (" " : Str) = [32] := by decide +kernel
theorem tl_end : TL.tl ("\n" : Str) = [10] := by decide +kernel
theorem wd_tl {z : Str} (h : IsWd z) : (1 ≤ (TL.tl z).length ∧ (TL.tl z).length ≤ 8) ∧ ∀ c ∈ TL.tl z, 97 ≤ c ∧ c ≤ 122 := by
  refine ⟨by rw [← TL.len_tl]; exact h.len, ?_⟩
  unfold IsWd wdB at h
  simp only [Bool.and_eq_true, decide_eq_true_eq, List.all_eq_true] at h
  exact h.2
theorem wd_dash {z : Str} (h : IsWd z) : z ≠ "-" := fun e => by
  have := (wd_tl h).2 45 (by rw [e, tl_dash]; simp)
  omega
/-- a part of a row -/
def OkP (o : Option Str) : Prop := ∀ z, o = some z → IsWd z
theorem part_tl {o : Option Str} (h : OkP o) : (TL.tl (partS o)).length ≤ 8 ∧ ∀ c ∈ TL.tl (partS o), 45 ≤ c ∧ c ≤ 122 := by
  cases o with
  | none =>
    show (TL.tl ("-" : Str)).length ≤ 8 ∧ ∀ c ∈ TL.tl ("-" : Str), 45 ≤ c ∧ c ≤ 122
    rw [tl_dash]
    exact ⟨by decide, fun c hc => by rw [List.mem_singleton.mp hc]; decide⟩
  | some z =>
    have := wd_tl (h z rfl)
    exact ⟨this.1.2, fun c hc => ⟨by have := this.2 c hc; omega, (this.2 c hc).2⟩⟩
theorem join_mem {S : List Nat} {c : Nat} : ∀ {ps : List (List Nat)}, c ∈ TL.joinL S ps → c ∈ S ∨ ∃ p ∈ ps, c ∈ p
  | [], h => by cases h
  | [p], h => .inr ⟨p, List.mem_singleton.mpr rfl, h⟩
  | p :: q :: r, h => by
    have h : c ∈ p ++ (S ++ TL.joinL S (q :: r)) := h
    rcases List.mem_append.mp h with h | h
    · exact .inr ⟨p, List.mem_cons_self, h⟩
    · rcases List.mem_append.mp h with h | h
      · exact .inl h
      · rcases join_mem h with h | ⟨u, hu, h⟩
        · exact .inl h
        · exact .inr ⟨u, List.mem_cons_of_mem _ hu, h⟩
theorem join_size {S : List Nat} {m : Nat} : ∀ {ps : List (List Nat)}, (∀ p ∈ ps, p.length ≤ m) → (TL.joinL S ps).length ≤ ps.length * (m + S.length)
  | [], _ => by simp [TL.joinL]
  | [p], h => by
    have := h p (List.mem_singleton.mpr rfl)
    show p.length ≤ _
    simp
    omega
  | p :: q :: r, h => by
    have h1 := h p List.mem_cons_self
    have h2 := join_size (S := S) (m := m) (ps := q :: r) fun u hu => h u (List.mem_cons_of_mem _ hu)
    show (p ++ (S ++ TL.joinL S (q :: r))).length ≤ _
    rw [List.length_append, List.length_append, List.length_cons, Nat.succ_mul]
    omega
theorem line_tl (row : Row) : TL.tl (lineS row) = TL.joinL [32] (row.map fun o => TL.tl (partS o)) := by
  unfold lineS
  rw [TL.join_eq, TL.tl_join, tl_blank, List.map_map]
  rfl
theorem line_codes {row : Row} (h : ∀ o ∈ row, OkP o) {c : Nat} (hc : c ∈ TL.tl (lineS row)) : c = 32 ∨ (45 ≤ c ∧ c ≤ 122) := by
  rw [line_tl] at hc
  rcases join_mem hc with hc | ⟨p, hp, hc⟩
  · exact .inl (List.mem_singleton.mp hc)
  · obtain ⟨o, ho, rfl⟩ := List.mem_map.mp hp
    exact .inr ((part_tl (h o ho)).2 c hc)
theorem line_len {row : Row} (h : ∀ o ∈ row, OkP o) (h6 : row.length ≤ 6) : (lineS row).length ≤ 54 := by
  rw [TL.len_tl, line_tl]
  have := join_size (S := [32]) (m := 8) (ps := row.map fun o => TL.tl (partS o)) fun p hp => by
    obtain ⟨o, ho, rfl⟩ := List.mem_map.mp hp
    exact (part_tl (h o ho)).1
  rw [List.length_map] at this
  simp at this
  omega
theorem line_split {row : Row} (h : ∀ o ∈ row, OkP o) (ne : row ≠ []) : Txt.split (lineS row) (" " : Str) = row.map partS := by
  unfold lineS
  refine TL.split_join tl_blank (by decide +kernel) (fun e => ne (List.map_eq_nil_iff.mp e)) fun p hp hc => ?_
  obtain ⟨o, ho, rfl⟩ := List.mem_map.mp hp
  have := (part_tl (h o ho)).2 32 hc
  omega
theorem land_split {g : Grid} (h : ∀ r ∈ g, ∀ o ∈ r, OkP o) (ne : g ≠ []) : Txt.split (landS g) ("\n" : Str) = g.map lineS := by
  unfold landS
  refine TL.split_join tl_end (by decide +kernel) (fun e => ne (List.map_eq_nil_iff.mp e)) fun p hp hc => ?_
  obtain ⟨r, hr, rfl⟩ := List.mem_map.mp hp
  have := line_codes (h r hr) hc
  omega
theorem land_len {g : Grid} (h : ∀ r ∈ g, ∀ o ∈ r, OkP o) (hg : g.length ≤ 6) (hr : ∀ r ∈ g, r.length ≤ 6) : (landS g).length ≤ 330 := by
  unfold landS
  rw [TL.len_tl, TL.join_eq, TL.tl_join, tl_end]
  have := join_size (S := [10]) (m := 54) (ps := (g.map lineS).map TL.tl) fun p hp => by
    obtain ⟨z, hz, rfl⟩ := List.mem_map.mp hp
    obtain ⟨r, hr', rfl⟩ := List.mem_map.mp hz
    rw [← TL.len_tl]
    exact line_len (h r hr') (hr r hr')
  rw [List.length_map, List.length_map] at this
  have e : (54 + [10].length) = 55 := rfl
  rw [e] at this
  omega
theorem names_part {g : Grid} (h : ∀ z ∈ names g, IsWd z) : ∀ r ∈ g, ∀ o ∈ r, OkP o := fun r hr o ho z e => h z (by
  unfold names
  rw [List.mem_filterMap]
  exact ⟨o, List.mem_flatten.mpr ⟨r, hr, ho⟩, e⟩)
theorem Good.parts {g : Grid} {wd : Nat} (G : Good g wd) : ∀ r ∈ g, ∀ o ∈ r, OkP o := names_part G.wd
theorem Good.nn {g : Grid} {wd : Nat} (G : Good g wd) : g ≠ [] := fun e => by
  have := G.h1
  rw [e] at this
  simp at this
theorem Good.six {g : Grid} {wd : Nat} (G : Good g wd) : ∀ r ∈ g, r.length ≤ 6 := fun r hr => by
  rw [G.rows r hr]
  exact G.w6
theorem part_inj {o u : Option Str} (h : OkP o) (k : OkP u) (e : partS o = partS u) : o = u := by
  cases o with
  | none =>
    cases u with
    | none => rfl
    | some z => exact absurd e.symm (wd_dash (k z rfl))
  | some y =>
    cases u with
    | none => exact absurd e (wd_dash (h y rfl))
    | some z => exact congrArg some e
theorem map_part_inj : ∀ {r q : Row}, (∀ o ∈ r, OkP o) → (∀ o ∈ q, OkP o) → r.map partS = q.map partS → r = q
  | [], [], _, _, _ => rfl
  | [], _ :: _, _, _, e => by simp at e
  | _ :: _, [], _, _, e => by simp at e
  | o :: r, u :: q, h, k, e => by
    simp only [List.map_cons, List.cons.injEq] at e
    rw [part_inj (h o List.mem_cons_self) (k u List.mem_cons_self) e.1, map_part_inj (fun x hx => h x (List.mem_cons_of_mem _ hx)) (fun x hx => k x (List.mem_cons_of_mem _ hx)) e.2]
theorem line_inj {r q : Row} (h : ∀ o ∈ r, OkP o) (k : ∀ o ∈ q, OkP o) (nr : r ≠ []) (nq : q ≠ []) (e : lineS r = lineS q) : r = q := by
  have := congrArg (fun z => Txt.split z (" " : Str)) e
  simp only [line_split h nr, line_split k nq] at this
  exact map_part_inj h k this
/-- unlike lands have unlike texts -/
theorem land_inj {g g' : Grid} {wd wd' : Nat} (G : Good g wd) (G' : Good g' wd') (e : landS g = landS g') : g = g' := by
  have h := congrArg (fun z => Txt.split z ("\n" : Str)) e
  simp only [land_split G.parts G.nn, land_split G'.parts G'.nn] at h
  have ne : ∀ {l : Grid} {v : Nat}, Good l v → ∀ r ∈ l, r ≠ [] := fun {l v} L r hr q => by
    have h1 := L.rows r hr
    have h2 := L.w1
    rw [q] at h1
    simp at h1
    omega
  have key : ∀ {l m : Grid}, (∀ r ∈ l, r ≠ [] ∧ ∀ o ∈ r, OkP o) → (∀ r ∈ m, r ≠ [] ∧ ∀ o ∈ r, OkP o) → l.map lineS = m.map lineS → l = m := by
    intro l
    induction l with
    | nil =>
      intro m _ _ e
      cases m with
      | nil => rfl
      | cons _ _ => simp at e
    | cons r l ih =>
      intro m hl hm e
      cases m with
      | nil => simp at e
      | cons q m =>
        simp only [List.map_cons, List.cons.injEq] at e
        have a := hl r List.mem_cons_self
        have b := hm q List.mem_cons_self
        rw [line_inj a.2 b.2 a.1 b.1 e.1, ih (fun x hx => hl x (List.mem_cons_of_mem _ hx)) (fun x hx => hm x (List.mem_cons_of_mem _ hx)) e.2]
  exact key (fun r hr => ⟨ne G r hr, G.parts r hr⟩) (fun r hr => ⟨ne G' r hr, G'.parts r hr⟩) h
end Wl

/-! Rules of ours for objects of own classes: len, str, repr, ==, !=, in a list of one, each by the class's own method. -/
namespace Wl
open PySem PySem.Spec PyProof.Rows L2
section
variable {X : Cx} {n : Nat} {f : Addr} {fd : FuncData} {ps : List Str} {sp : Sp} {C : Addr}
theorem v1 (a : Addr) : Vals [V.ref a] [Value.ref a] := .cons rfl .nil
theorem v2 (a b : Addr) : Vals [V.ref a, V.ref b] [Value.ref a, Value.ref b] := .cons rfl (.cons rfl .nil)
/-- an own def called somewhere below the running body -/
theorem run_own {A : Around} {pins : List (Addr × Obj)} {s : Shared} {σ : L2.St} {H : Hp} {vs : List V} {us : List Value} {Q : VK} (F : FnOk X.prog X.w X.K X.mg X.base CX0 n f fd ps sp) (hb : Binds X.K fd ps []) (sb : Sub X n A) (I : L2.Inv X pins σ H s) (r : Vals vs us) (hsp : sp vs H Q E0) :
    wpAny (model X.prog X.w) A (call (.ref f) us) (EP X pins σ Q) X.xe s := by
  have e0 : Env0 X.prog X.w X.K X.mg X.base A X.stack s H := by
    have e := I.env0
    exact ⟨by rw [sb.fr]; exact e.frames, e.mod, e.bs, e.bsz, e.funs, e.frf, e.hok, e.bare⟩
  have hl := F.len _ _ _ _ hsp
  have hb' : BindsTo s fd ⟨us, []⟩ (ps.zip us) := by
    have := hb s us I.kIn (by rw [List.append_nil, ← r.length]; exact hl)
    rw [List.append_nil] at this
    exact this
  refine wpAny_call (codeAny_mono (F.run A X.stack s H ⟨us, []⟩ us vs _ E0 sb.room e0 hb' r hsp) fun r s' hq => ?_)
  cases r with
  | error e => exact pass0 pins σ H s e s' I hq
  | ok fl =>
    cases fl with
    | ret w => exact I.after hq
    | next => exact False.elim hq
    | brk => exact False.elim hq
    | cont => exact False.elim hq
/-- len(o) -/
def rLenO (C : Addr) (sp : Sp) : List V → Hp → VK → Prop := fun xs H Q => ∃ a dx fs, xs = [V.ref a] ∧ H a = some (.ins C dx fs) ∧ sp [.ref a] H (fun v H' => ∃ k : Nat, v = .int (k : Int) ∧ k < 2 ^ 62 ∧ Q (.int (k : Int)) H') E0
theorem cr_lenO (F : FnOk X.prog X.w X.K X.mg X.base CX0 n f fd ps sp) (hb : Binds X.K fd ps []) (m : Meth X.K C "__len__" f) (hr : Room (n + 1) X.A) : CallR X (.builtin "len") (rLenO C sp) := by
  intro pins s σ H xs us Q I r h
  obtain ⟨a, dx, fs, rfl, ha, hsp⟩ := h
  obtain ⟨u, rfl, ru⟩ := vals1 r
  obtain rfl : u = Value.ref a := ru
  obtain ⟨mA, J, _⟩ := ins_get I.hok ha
  obtain ⟨od, J, _⟩ := J.look
  obtain ⟨m', hF⟩ := I.fr
  refine PySem.W.len_K hF I.ok.mod.kin J m.at_ m.fn (wpAny_mono (run_own F hb (Sub.in1 ⟨hr, rfl⟩) I (v1 a) hsp) (fun v s' hq => ?_) fun _ _ z => z)
  obtain ⟨z, H', I', rz, k, rfl, hk, q⟩ := hq
  obtain ⟨t, rfl⟩ := rz
  exact ⟨⟨by omega, by omega⟩, .int (k : Int), H', I'.tok _, ⟨_, rfl⟩, q⟩
/-- str(o) -/
def rStrO (C : Addr) (sp : Sp) : List V → Hp → VK → Prop := fun xs H Q => ∃ a dx fs, xs = [V.ref a] ∧ H a = some (.ins C dx fs) ∧ sp [.ref a] H (fun v H' => ∃ z, v = .str z ∧ Q (.str z) H') E0
theorem room_u2 {k : Nat} {A : Around} (r : Room k A) : A.units + 2 < cLine := by have := r.un; omega
theorem cr_strO (F : FnOk X.prog X.w X.K X.mg X.base CX0 n f fd ps sp) (hb : Binds X.K fd ps []) (m : Meth X.K C "__str__" f) (hr : Room (n + 2) X.A) : CallR X (.type "str") (rStrO C sp) := by
  intro pins s σ H xs us Q I r h
  obtain ⟨a, dx, fs, rfl, ha, hsp⟩ := h
  obtain ⟨u, rfl, ru⟩ := vals1 r
  obtain rfl : u = Value.ref a := ru
  obtain ⟨mA, J, _⟩ := ins_get I.hok ha
  obtain ⟨od, J, _⟩ := J.look
  refine PySem.W.kso_call (show X.A.units + 1 + 1 < cLine from room_u2 hr) I.kIn J m.at_ m.fn (wpAny_mono (run_own F hb (Sub.in1 (Sub.in1 ⟨hr, rfl⟩)) I (v1 a) hsp) (fun v s' hq => ?_) fun _ _ z => z)
  obtain ⟨z, H', I', rz, y, rfl, q⟩ := hq
  obtain ⟨t, rfl⟩ := rz
  exact ⟨.str y, H', I', ⟨_, rfl⟩, q⟩
/-- repr(o) -/
theorem cr_reprO (F : FnOk X.prog X.w X.K X.mg X.base CX0 n f fd ps sp) (hb : Binds X.K fd ps []) (m : Meth X.K C "__repr__" f) (hr : Room (n + 1) X.A) : CallR X (.builtin "repr") (rStrO C sp) := by
  intro pins s σ H xs us Q I r h
  obtain ⟨a, dx, fs, rfl, ha, hsp⟩ := h
  obtain ⟨u, rfl, ru⟩ := vals1 r
  obtain rfl : u = Value.ref a := ru
  obtain ⟨mA, J, _⟩ := ins_get I.hok ha
  obtain ⟨od, J, _⟩ := J.look
  obtain ⟨m', hF⟩ := I.fr
  refine PySem.W.repr_K (show X.A.units + 1 < cLine from by have := room_u2 hr; omega) hF I.ok.mod.kin J m.at_ m.fn (wpAny_mono (run_own F hb (Sub.in1 ⟨hr, rfl⟩) I (v1 a) hsp) (fun v s' hq => ?_) fun _ _ z => z)
  obtain ⟨z, H', I', rz, y, rfl, q⟩ := hq
  obtain ⟨t, rfl⟩ := rz
  exact ⟨.str y, H', I', ⟨_, rfl⟩, q⟩
/-- x == y of two of one class -/
def rEqO (C : Addr) (sp : Sp) (g : Bool → Bool) : R2 := fun x y H Q => ∃ a dx fs b dy gs, x = V.ref a ∧ y = V.ref b ∧ H a = some (.ins C dx fs) ∧ H b = some (.ins C dy gs) ∧ sp [.ref a, .ref b] H (fun v H' => ∃ c, v = .bl c ∧ Q (.bl (g c)) H') E0
theorem rc_eqO {A : Around} {pins : List (Addr × Obj)} {s : Shared} {σ : L2.St} {H : Hp} {a b dx dy : Addr} {fs gs : List (Str × V)} {Q : Bool → Hp → Prop} (F : FnOk X.prog X.w X.K X.mg X.base CX0 n f fd ps sp) (hb : Binds X.K fd ps []) (m : Meth X.K C "__eq__" f) (sb : Sub X n A) (I : L2.Inv X pins σ H s)
    (ha : H a = some (.ins C dx fs)) (hb' : H b = some (.ins C dy gs)) (hsp : sp [.ref a, .ref b] H (fun v H' => ∃ c, v = .bl c ∧ Q c H') E0) :
    wpAny (model X.prog X.w) A (richCompare .Eq (.ref a) (.ref b)) (fun v s' => ∃ c, v = .bool c ∧ ∃ H', L2.Inv X pins σ H' s' ∧ Q c H') X.xe s := by
  obtain ⟨mA, J, _⟩ := ins_get I.hok ha
  obtain ⟨mB, J', _⟩ := ins_get I.hok hb'
  obtain ⟨od, J, _⟩ := J.look
  obtain ⟨od', J', _⟩ := J'.look
  obtain ⟨m', hF⟩ := I.fr
  refine PySem.W.cmp_K (op := .Eq) (tb := .ref C) sb.room.units0 hF I.ok.mod.kin J J'.type (by simp [PySem.W.notFirst]) m.at_ m.fn (wpAny_mono (run_own F hb sb I (v2 a b) hsp) (fun v s' hq => ?_) fun _ _ z => z)
  obtain ⟨z, H', I', rz, c, rfl, q⟩ := hq
  cases rz
  exact ⟨c, rfl, H', I', q⟩
theorem op_eqO (F : FnOk X.prog X.w X.K X.mg X.base CX0 n f fd ps sp) (hb : Binds X.K fd ps []) (m : Meth X.K C "__eq__" f) (hr : Room n X.A) : OpR X (compareOp .Eq) (rEqO C sp id) := by
  intro pins s σ H x y v u Q I rx ry h
  obtain ⟨a, dx, fs, b, dy, gs, rfl, rfl, ha, hb', hsp⟩ := h
  cases rx
  cases ry
  show wpAny (model X.prog X.w) X.A (richCompare .Eq (.ref a) (.ref b)) (EP X pins σ Q) X.xe s
  refine wpAny_mono (rc_eqO F hb m ⟨hr, rfl⟩ I ha hb' hsp) (fun v s' hq => ?_) fun _ _ z => z
  obtain ⟨c, rfl, H', I', q⟩ := hq
  exact ⟨.bl c, H', I', rfl, q⟩
/-- what the class says of != -/
structure NeC (K : PySem.W.Frag) (C : Addr) : Prop where
  ne : PySem.W.findIn K (.ref C) "__ne__" = some (some (.builtin "object.__ne__"))
  ob : PySem.W.mroIn K C (.type "object") = some true
theorem ifBound_B {M : Model} {A : Around} {E : Value → Shared → Prop} {s : Shared} {K : PySem.W.Frag} {x C : Addr} {ox : Obj} {od : Option Obj} {name : Str} {id : String} {args : List Value} {Q : Option Value → Shared → Prop} (X : K.In s.heap) (I : PySem.W.InstAt s.heap x ox C od) (hs : PySem.W.findIn K (.ref C) name = some (some (.builtin id)))
    (hb : ∀ self, bindSpecial (.builtin id) self = pure (.builtin id, [self])) (h : wpAny M A (call (.builtin id) (.ref x :: args)) (fun v => Q (some v)) E s) : wpAny M A (callSpecialIfBound? (.ref x) name args) Q E s := by
  simp only [callSpecialIfBound?, bindSpecialIfBound?]
  refine wpAny_holding (wpAny_bind (wpAny_bind (wpAny_bind (I.type.here ((PySem.W.looks_findIn X hs).here ?_)))))
  refine wpAny_bind (wpAny_askSetting (wpAny_ite ?_))
  have fin : wpAny M A (call (.builtin id) ([.ref x] ++ args) >>= fun v => pure (some v)) Q E s := wpAny_bind (wpAny_mono h (fun v s' h' => wpAny_pure h') fun _ _ h' => h')
  split
  · exact wpAny_bind ((PySem.W.Looks.of_pure (hb _)).here (wpAny_pure (by exact fin)))
  · exact wpAny_tryCatch (wpAny_bind ((PySem.W.Looks.of_pure (hb _)).here (wpAny_pure (by exact fin))))
theorem obj_neK {A : Around} {E : Value → Shared → Prop} {s : Shared} {prog : Program} {w : World} {K : PySem.W.Frag} {x C f : Addr} {y : Value} {ox : Obj} {od : Option Obj} {Q : Value → Shared → Prop} (hu : A.units + 1 < cLine) (X : K.In s.heap) (I : PySem.W.InstAt s.heap x ox C od) (N : NeC K C) (he : PySem.W.findIn K (.ref C) "__eq__" = some (some (.ref f))) (hf : PySem.W.isFn K (.ref f) = true)
    (h : wpAny (model prog w) A.in1 (call (.ref f) [.ref x, y]) (fun v s' => ∃ c, v = .bool c ∧ Q (.bool (!c)) s') E s) : wpAny (model prog w) A (call (.builtin "object.__ne__") [.ref x, y]) Q E s := by
  refine wpAny_call (codeAny_call_builtin PySem.F.slot_object_ne.plain PySem.F.cmpEntry_ne (PySem.W.check_slot (i := "object.__ne__") (owner := "object") (n := "__ne__") (by decide +kernel) (by decide +kernel) (I.type.andThen (PySem.W.looks_mroIn X N.ob)) (PySem.F.cmpArgs_ne _ _) ?_))
  unfold Builtin.«object.__ne__»
  refine wpAny_bind (m := slotArgs "__ne__" 1 _) (wpAny_pure ?_)
  refine wpAny_bind (m := cRoomFor _ _) (wpAny_cRoomFor (show A.in1.units < cLine from hu) ?_)
  refine wpAny_bind (m := callSpecialIfBound? (.ref x) (Str.ofString "__eq__") _) (PySem.W.ifBound_K X I he hf (wpAny_mono h (fun r s' hq => ?_) fun _ _ z => z))
  obtain ⟨c, rfl, q⟩ := hq
  exact wpAny_bind (wpAny_truthy_bool (wpAny_pure q))
end
end Wl
namespace Wl
open PySem PySem.Spec PyProof.Rows L2
theorem ne_K {A : Around} {E : Value → Shared → Prop} {s : Shared} {prog : Program} {w : World} {K : PySem.W.Frag} {x C f : Addr} {y : Addr} {ox oy : Obj} {od od' : Option Obj} {Q : Value → Shared → Prop} (hu : A.units + 2 < cLine) (X : K.In s.heap) (I : PySem.W.InstAt s.heap x ox C od) (I' : PySem.W.InstAt s.heap y oy C od') (N : NeC K C) (he : PySem.W.findIn K (.ref C) "__eq__" = some (some (.ref f))) (hf : PySem.W.isFn K (.ref f) = true)
    (h : wpAny (model prog w) A.in1 (call (.ref f) [.ref x, .ref y]) (fun v s' => ∃ c, v = .bool c ∧ Q (.bool (!c)) s') E s) : wpAny (model prog w) A (richCompare .NotEq (.ref x) (.ref y)) Q E s := by
  have one : wpAny (model prog w) A (tryCompare (.ref x) "__ne__" (.ref y)) (fun r s' => ∃ v, r = some v ∧ Q v s') E s := by
    unfold tryCompare
    refine wpAny_bind (ifBound_B X I N.ne PySem.F.slot_object_ne.bind (wpAny_mono (obj_neK (Q := fun v s' => ∃ c, v = .bool c ∧ Q v s') (by omega) X I N he hf (wpAny_mono h (fun v s' hv => ?_) fun _ _ z => z)) (fun v s' hv => ?_) fun _ _ z => z))
    · obtain ⟨c, rfl, q⟩ := hv
      exact ⟨c, rfl, _, rfl, q⟩
    · obtain ⟨c, rfl, q⟩ := hv
      exact wpAny_pure ⟨_, rfl, q⟩
  unfold richCompare
  simp only [oneThing_ref]
  refine wpAny_holding (wpAny_bind (wpAny_cRoomFor (by omega) ?_))
  refine wpAny_bind (I.type.here (wpAny_bind (I'.type.here ?_)))
  rw [show (Value.ref C != Value.ref C) = false from by simp]
  simp only [Bool.false_eq_true, if_false]
  refine wpAny_bind (wpAny_pure ?_)
  simp only [Bool.false_eq_true, if_false]
  refine wpAny_bind (wpAny_mono one (fun r s' z => ?_) fun _ _ e => e)
  obtain ⟨v, rfl, hq⟩ := z
  exact wpAny_pure hq
section
variable {X : Cx} {n : Nat} {f : Addr} {fd : FuncData} {ps : List Str} {sp : Sp} {C : Addr}
theorem op_neO (F : FnOk X.prog X.w X.K X.mg X.base CX0 n f fd ps sp) (hb : Binds X.K fd ps []) (m : Meth X.K C "__eq__" f) (N : NeC X.K C) (hr : Room (n + 1) X.A) : OpR X (compareOp .NotEq) (rEqO C sp not) := by
  intro pins s σ H x y v u Q I rx ry h
  obtain ⟨a, dx, fs, b, dy, gs, rfl, rfl, ha, hb', hsp⟩ := h
  cases rx
  cases ry
  obtain ⟨mA, J, _⟩ := ins_get I.hok ha
  obtain ⟨mB, J', _⟩ := ins_get I.hok hb'
  obtain ⟨od, J, _⟩ := J.look
  obtain ⟨od', J', _⟩ := J'.look
  show wpAny (model X.prog X.w) X.A (richCompare .NotEq (.ref a) (.ref b)) (EP X pins σ Q) X.xe s
  refine ne_K (room_u2 hr) I.kIn J J' N m.at_ m.fn (wpAny_mono (run_own F hb (Sub.in1 ⟨hr, rfl⟩) I (v2 a b) hsp) (fun v s' hq => ?_) fun _ _ z => z)
  obtain ⟨z, H', I', rz, c, rfl, q⟩ := hq
  cases rz
  exact ⟨c, rfl, .bl (!c), H', I', rfl, q⟩
/-! x in xs, x not in xs, of objects -/
open GQ MeetsSeq MeetsSeq2 MeetsSeq3 SeqRoads2 in
open AutoSeq1 (wpAny_loadPart') in
theorem contains_loopO {prog : Program} {w : World} {A : Around} {R : Result → Shared → Prop} {l : Addr} {items : Array Value} {x : Value} (P : Nat → Shared → Prop)
    (hl : ∀ i s, P i s → ∃ k, s.heap.get? l = some { cls := .type "list", data := .seq items k })
    (turn : ∀ (i : Nat) (h : i < items.size) (s : Shared), P i s → wpAny (model prog w) A.in1 (eqBool items[i] x) (fun b s' => if b = true then R (.ok (.ret (.bool true))) s' else P (i + 1) s') (fun e s' => R (.error e) s') s)
    (fin : ∀ s, P items.size s → R (.ok (.ret (.bool false))) s) (k : Nat) :
    ∀ i : Nat, items.size - i = k → i ≤ items.size → ∀ s, P i s → wpAny (model prog w) A.in1 (Builtin.«list.__contains__.loop» ⟨[.ref l, x, rawInt i], []⟩) (FinOf prog w A R) (fun e s' => R (.error e) s') s := by
  induction k with
  | zero =>
    intro i hk hi s h
    obtain ⟨k, hl1⟩ := hl i s h
    have e : i = items.size := by omega
    have q := fin s (e ▸ h)
    obtain ⟨hp, g, d, tk, os⟩ := s
    wp_walk using wpAny_loadPart' hl1
    have hi1 : items[((i : Nat) : Int).toNat]? = none := by simp; omega
    rw [hi1]
    wp_walk
    exact q
  | succ k ih =>
    intro i hk hi s h
    obtain ⟨k1, hl1⟩ := hl i s h
    have hlt : i < items.size := by omega
    have ht := turn i hlt s h
    obtain ⟨hp, g, d, tk, os⟩ := s
    wp_walk using wpAny_loadPart' hl1
    have hi1 : items[((i : Nat) : Int).toNat]? = some items[i] := by simp [hlt]
    rw [hi1]
    refine wpAny_bind (wpAny_mono ht (fun b s2 h2 => ?_) fun _ _ z => z)
    cases b with
    | true =>
      rw [if_pos rfl] at h2
      wp_walk
      exact h2
    | false =>
      rw [if_neg (by decide)] at h2
      have hrec := ih (i + 1) (by omega) (by omega) s2 h2
      obtain ⟨hp2, g2, d2, tk2, os2⟩ := s2
      have hc : ((i : Int) + 1) = ((i + 1 : Nat) : Int) := by omega
      wp_walk
      rw [hc]
      exact ⟨plainId_quiet plain_contains_loop _, codeAny_builtin entry_contains_loop (by
        rw [Around.under_plainId plain_contains_loop _]
        exact hrec)⟩
open GQ MeetsSeq MeetsSeq2 MeetsSeq3 SeqRoads2 in
open AutoSeq1 (wpAny_loadPart') in
theorem containsO {prog : Program} {w : World} {A : Around} {R : Result → Shared → Prop} {s : Shared} {l : Addr} {items : Array Value} {x : Value} (P : Nat → Shared → Prop)
    (hl : ∀ i s, P i s → ∃ k, s.heap.get? l = some { cls := .type "list", data := .seq items k })
    (turn : ∀ (i : Nat) (h : i < items.size) (s : Shared), P i s → wpAny (model prog w) A.in1 (eqBool items[i] x) (fun b s' => if b = true then R (.ok (.ret (.bool true))) s' else P (i + 1) s') (fun e s' => R (.error e) s') s)
    (fin : ∀ s, P items.size s → R (.ok (.ret (.bool false))) s) (h : P 0 s) :
    wpAny (model prog w) A.in1 (Builtin.«list.__contains__» ⟨[.ref l, x], []⟩) (FinOf prog w A R) (fun e s' => R (.error e) s') s := by
  have hrec := contains_loopO (A := A) (R := R) P hl turn fin _ 0 rfl (Nat.zero_le _) s h
  obtain ⟨k, hl1⟩ := hl 0 s h
  obtain ⟨hp, g, d, tk, os⟩ := s
  wp_walk using wpAny_loadPart' hl1
  exact ⟨plainId_quiet plain_contains_loop _, codeAny_builtin entry_contains_loop (by
    rw [Around.under_plainId plain_contains_loop _]
    exact hrec)⟩
/-- x in [y]: both of one class -/
def rInO (C : Addr) (sp : Sp) (g : Bool → Bool) : R2 := fun x y H Q => ∃ a dx fs l b dy gs, x = V.ref a ∧ y = V.ref l ∧ H l = some (.lst [.ref b]) ∧ H a = some (.ins C dx fs) ∧ H b = some (.ins C dy gs) ∧ (a = b → Q (.bl (g true)) H) ∧
  (a ≠ b → sp [.ref b, .ref a] H (fun v H' => ∃ c, v = .bl c ∧ H' l = some (.lst [.ref b]) ∧ Q (.bl (g c)) H') E0)
theorem op_inO' (F : FnOk X.prog X.w X.K X.mg X.base CX0 n f fd ps sp) (hb : Binds X.K fd ps []) (m : Meth X.K C "__eq__" f) (hr : Room (n + 1) X.A) {g : Bool → Bool} {pins : List (Addr × Obj)} {s : Shared} {σ : L2.St} {H : Hp} {x y : V} {v u : Value} {Q : VK} (I : L2.Inv X pins σ H s) (rx : RelV x v) (ry : RelV y u) (h : rInO C sp g x y H Q) :
    wpAny (model X.prog X.w) X.A (contains u v) (fun b s' => EP X pins σ Q (.bool (g b)) s') X.xe s := by
  obtain ⟨a, dx, fs, l, b, dy, gs, rfl, rfl, hl, ha, hb', q1, q2⟩ := h
  cases rx
  cases ry
  obtain ⟨z, its, k, r, ho⟩ := I.hok l _ hl
  obtain ⟨u, rfl, ru⟩ := vals1 r
  obtain rfl : u = Value.ref b := ru
  refine wpAny_contains_slot ⟨_, ho, rfl⟩ PySem.F.slot_list_contains (wpAny_mono (GQ.call_here PySem.F.slot_list_contains ⟨_, ho, rfl⟩ PySem.F.entry_list_contains (PySem.F.args_list_contains_2 _ _)
    (containsO (R := wants (fun v s' => ∃ c, v = .bool c ∧ EP X pins σ Q (.bool (g c)) s') X.xe) (items := #[.ref b]) (fun i s' => (i = 0 ∧ s' = s) ∨ (i = 1 ∧ ∃ H', L2.Inv X pins σ H' s' ∧ H' l = some (.lst [.ref b]) ∧ Q (.bl (g false)) H')) (fun i s' h => ?_) (fun i hi s' h => ?_) (fun s' h => ?_) (.inl ⟨rfl, rfl⟩))) (fun v s' hv => ?_) fun _ _ e => e)
  · rcases h with ⟨rfl, rfl⟩ | ⟨rfl, H', I', hl', _⟩
    · exact ⟨k, ho⟩
    · obtain ⟨z', its', k', r', ho'⟩ := I'.hok l _ hl'
      obtain ⟨u, rfl, ru⟩ := vals1 r'
      obtain rfl : u = Value.ref b := ru
      exact ⟨k', ho'⟩
  · have e0 : i = 0 := by simp at hi; omega
    subst e0
    rcases h with ⟨_, rfl⟩ | ⟨e, _⟩
    · show wpAny (model X.prog X.w) X.A.in1 (eqBool (.ref b) (.ref a)) _ _ _
      by_cases e : b = a
      · subst e
        refine SeqAt.EqAt.same (A := X.A.in1) (s := s') (.ref b) X.prog X.w _ _ ?_
        rw [if_pos rfl]
        exact ⟨_, rfl, .bl (g true), H, I, rfl, q1 rfl⟩
      · refine GQ.eqBool_refG e (wpAny_mono (rc_eqO F hb m (Sub.in1 ⟨hr, rfl⟩) I hb' ha (Q := fun c H' => H' l = some (.lst [.ref b]) ∧ Q (.bl (g c)) H') (q2 (Ne.symm e))) (fun v s2 hq => ?_) fun _ _ z => z)
        obtain ⟨c, rfl, H', I', hl', q⟩ := hq
        refine ⟨c, rfl, ?_⟩
        cases c with
        | true =>
          rw [if_pos rfl]
          exact ⟨_, rfl, .bl (g true), H', I', rfl, q⟩
        | false =>
          rw [if_neg (by decide)]
          exact .inr ⟨rfl, H', I', hl', q⟩
    · omega
  · rcases h with ⟨e, _⟩ | ⟨_, H', I', hl', q⟩
    · simp at e
    · exact ⟨_, rfl, .bl (g false), H', I', rfl, q⟩
  · obtain ⟨c, rfl, q⟩ := hv
    exact wpAny_truthy_bool q
theorem op_inO (F : FnOk X.prog X.w X.K X.mg X.base CX0 n f fd ps sp) (hb : Binds X.K fd ps []) (m : Meth X.K C "__eq__" f) (hr : Room (n + 1) X.A) : OpR X (compareOp .In) (rInO C sp id) := by
  intro pins s σ H x y v u Q I rx ry h
  show wpAny _ X.A (do return Value.bool (← contains u v)) _ _ s
  exact wpAny_bind (wpAny_mono (op_inO' F hb m hr I rx ry h) (fun b s' q => wpAny_pure q) fun _ _ z => z)
theorem op_notInO (F : FnOk X.prog X.w X.K X.mg X.base CX0 n f fd ps sp) (hb : Binds X.K fd ps []) (m : Meth X.K C "__eq__" f) (hr : Room (n + 1) X.A) : OpR X (compareOp .NotIn) (rInO C sp not) := by
  intro pins s σ H x y v u Q I rx ry h
  show wpAny _ X.A (do return Value.bool (!(← contains u v))) _ _ s
  exact wpAny_bind (wpAny_mono (op_inO' F hb m hr I rx ry h) (fun b s' q => wpAny_pure q) fun _ _ z => z)
end
end Wl

namespace Wl
open PySem PySem.Spec PyProof.Rows L2
def oD : Option Str → PyData
  | none => .none
  | some z => .str z
def rD (row : Row) : PyData := .tuple (row.map oD)
def gD (g : Grid) : PyData := .tuple (g.map rD)
theorem dp_row {K : PySem.W.Frag} {H : Hp} : ∀ row : Row, DpAll K H (row.map oV) (row.map oD)
  | [] => .nil
  | none :: r => .cons .non (dp_row r)
  | some z :: r => .cons (.str z) (dp_row r)
theorem dp_rows {K : PySem.W.Frag} {H : Hp} : ∀ {as : List Addr} {g : Grid}, RowsAt H as g → DpAll K H (as.map V.ref) (g.map rD)
  | _, _, .nil => .nil
  | _, _, .cons e t => .cons (.tup (.inl (.inl e)) (dp_row _)) (dp_rows t)
theorem dp_grid {K : PySem.W.Frag} {H : Hp} {L : Addr} {g : Grid} (h : GridAt H L g) : Dp K H (.ref L) (gD g) := by
  obtain ⟨as, hL, hR⟩ := h
  exact .tup (.inl (.inl hL)) (dp_rows hR)
theorem lay_row : ∀ {row : Row}, (∀ z ∈ rnames row, IsWd z) → PyData.canLayAll0 (row.map oD) = true
  | [], _ => by simp [PyData.canLayAll0]
  | none :: r, h => by simp [PyData.canLayAll0, oD, PyData.canLay0, lay_row (row := r) h]
  | some z :: r, h => by
    have h1 := wd_ok (h z (by simp [rnames]))
    have h2 := lay_row (row := r) fun y hy => h y (by simp only [rnames, List.filterMap_cons] at hy ⊢; exact List.mem_cons_of_mem _ hy)
    simp [PyData.canLayAll0, oD, PyData.canLay0, h1, h2]
theorem depth_row : ∀ row : Row, PyData.depthAll (row.map oD) = 0
  | [] => by simp [PyData.depthAll]
  | none :: r => by simp [PyData.depthAll, PyData.depth, oD, depth_row r]
  | some z :: r => by simp [PyData.depthAll, PyData.depth, oD, depth_row r]
theorem lay_grid : ∀ {g : Grid}, (∀ z ∈ names g, IsWd z) → PyData.canLayAll0 (g.map rD) = true
  | [], _ => by simp [PyData.canLayAll0]
  | r :: g, h => by
    rw [names_cons] at h
    have h1 := lay_row (row := r) fun z hz => h z (List.mem_append_left _ hz)
    have h2 := lay_grid (g := g) fun z hz => h z (List.mem_append_right _ hz)
    simp [PyData.canLayAll0, rD, PyData.canLay0, h1, h2]
theorem depth_grid : ∀ g : Grid, PyData.depthAll (g.map rD) ≤ 1
  | [] => by simp [PyData.depthAll]
  | r :: g => by
    have := depth_grid g
    have := depth_row r
    simp only [List.map_cons, PyData.depthAll, rD, PyData.depth]
    omega
theorem shaped_grid {g : Grid} {wd : Nat} (gd : Good g wd) : SeqAt.shaped (gD g) = true := shaped_tuple (lay_grid gd.wd) (by have := depth_grid g; omega)
theorem same_x {H0 H1 H2 : Hp} {a : Addr} (s : Same H0 H1) (x : SameX a H1 H2) (h : H0 a = none) : Same H0 H2 := fun b o e => x b o (ne_of_none e h) (s b o e)
theorem made_same {H1 H' : Hp} {x dx C : Addr} (nx : H1 x = none) (ndx : H1 dx = none) (h : ∀ b o, b ≠ x → (upd (upd H1 dx (.own x)) x (.ins C dx [])) b = some o → H' b = some o) : Same H1 H' := fun b o e => by
  have n1 : b ≠ x := ne_of_none e nx
  refine h b o n1 ?_
  rw [upd_ne n1, upd_ne (ne_of_none e ndx)]
  exact e

theorem o_eqv (a b : Option Str) : PyData.eqv (oD a) (oD b) = decide (a = b) := by
  cases a with
  | none => cases b <;> simp [oD, PyData.eqv]
  | some x =>
    cases b with
    | none => simp [oD, PyData.eqv]
    | some y =>
      simp only [oD, PyData.eqv, Option.some.injEq]
      by_cases h : x = y
      · subst h
        simp
      · rw [decide_eq_false h]
        exact beq_eq_false_iff_ne.mpr h
theorem row_eqv : ∀ r q : Row, PyData.eqvAll (r.map oD) (q.map oD) = decide (r = q)
  | [], [] => by simp [PyData.eqvAll]
  | [], _ :: _ => by simp [PyData.eqvAll]
  | _ :: _, [] => by simp [PyData.eqvAll]
  | o :: r, u :: q => by
    simp only [List.map_cons, PyData.eqvAll, o_eqv, row_eqv r q, List.cons.injEq]
    by_cases h1 : o = u <;> by_cases h2 : r = q <;> simp [h1, h2]
theorem rows_eqv : ∀ g g' : Grid, PyData.eqvAll (g.map rD) (g'.map rD) = decide (g = g')
  | [], [] => by simp [PyData.eqvAll]
  | [], _ :: _ => by simp [PyData.eqvAll]
  | _ :: _, [] => by simp [PyData.eqvAll]
  | r :: g, q :: g' => by
    simp only [List.map_cons, PyData.eqvAll, rD, PyData.eqv, row_eqv, rows_eqv g g', List.cons.injEq]
    by_cases h1 : r = q <;> by_cases h2 : g = g' <;> simp [h1, h2]
theorem grid_eqv (g g' : Grid) : PyData.eqv (gD g) (gD g') = decide (g = g') := by
  unfold gD
  simp only [PyData.eqv, rows_eqv]
/-- what the class says of itself, for isinstance and != -/
structure Txt2 (K : PySem.W.Frag) (mg : Str → Option Value) (C : Addr) : Prop where
  t : Txt K mg C
  ins : C8.InsC K C
  ne : NeC K C
theorem fs_no {m : Str} {d L : Addr} (h1 : ¬ m = "rows" := by decide +kernel) (h2 : ¬ m = "spots" := by decide +kernel) : (lf d L).lookup m = none := lf_no d L h1 h2
abbrev sEq : Stmt := inClass sCls 6
abbrev sLen : Stmt := inClass sCls 7
abbrev sStr : Stmt := inClass sCls 8
abbrev sRepr : Stmt := inClass sCls 9
section
variable {P : Program} {w : World} {K : PySem.W.Frag} {mg : Str → Option Value} {base : Heap} {f C : Addr} {fd : FuncData}
theorem LandAt.ins {H : Hp} {p L : Addr} {g : Grid} (h : LandAt C H p L g) : ∃ dx d, H p = some (.ins C dx (lf d L)) := by
  obtain ⟨d, dx, h1, _⟩ := h
  exact ⟨dx, d, h1⟩
theorem LandAt.grid {H : Hp} {p L : Addr} {g : Grid} (h : LandAt C H p L g) : GridAt H L g := by
  obtain ⟨d, dx, _, _, h3⟩ := h
  exact h3
theorem LandAt.same {H H' : Hp} {p L : Addr} {g : Grid} (h : LandAt C H p L g) (s : Same H H') : LandAt C H' p L g := h.keep (kp_same s)
/-! ### == -/
def spLEq (C : Addr) : Sp := fun vs H Q _ => ∃ (p L q M : Addr) (g g' : Grid) (wd wd' : Nat), vs = [.ref p, .ref q] ∧ LandAt C H p L g ∧ Good g wd ∧ LandAt C H q M g' ∧ Good g' wd' ∧ Q (.bl (decide (g = g'))) H
theorem scEq : FnScope ["self", "other"] ["self", "other"] (defScope sEq) := ⟨rfl, rfl, rfl, by decide +kernel, rfl, by decide +kernel, by decide +kernel⟩
theorem ok_leq (F : Fun K "__eq__" "Land.__eq__" sEq f fd) (B : Bi mg) (T : Txt2 K mg C) : FnOk P w K mg base CX0 1 f fd ["self", "other"] (spLEq C) := by
  refine F.ok scEq (fun vs H Q E h => ?_) (fun cdv A outer s H vs Q E hr h => ?_)
  · obtain ⟨p, L, q, M, g, g', wd, wd', rfl, _⟩ := h
    rfl
  · obtain ⟨p, L, q, M, g, g', wd, wd', rfl, h1, gd, h2, gd', qq⟩ := h
    refine ⟨_, pss_one (ps_ret (pe_and (pe_callB (C8.call_isC (C := C) T.ins) (by rfl) B.isi (by decide +kernel) (pa_cons (pv 1) (pa_cons (pe_glob (v := .ref C) rfl T.t.mgC rfl) pa_nil))) (pe_one (pe_cmpR (op_eqD hr.units) (pe_fld (pv 0) rfl) (pe_fld (pv 1) rfl) (nomark _))))), ?_⟩
    obtain ⟨dx, d, i1⟩ := h1.ins
    obtain ⟨dy, e, i2⟩ := h2.ins
    refine ⟨_, rfl, q, dy, _, rfl, i2, true, rfl, iteT ⟨_, rfl, p, C, dx, _, _, rfl, i1, T.t.cl, T.t.nR, lf_rows _ _, _, rfl, q, C, dy, _, _, rfl, i2, T.t.cl, T.t.nR, lf_rows _ _, _, _, dp_grid h1.grid, dp_grid h2.grid, shaped_grid gd, shaped_grid gd', ?_⟩⟩
    rw [grid_eqv]
    exact qq
/-! ### len -/
def spLLen (C : Addr) : Sp := fun vs H Q _ => ∃ (p L : Addr) (g : Grid), vs = [.ref p] ∧ LandAt C H p L g ∧ Q (.int (names g).length) H
theorem scLen : FnScope ["self"] ["self"] (defScope sLen) := ⟨rfl, rfl, rfl, by decide +kernel, rfl, by decide +kernel, by decide +kernel⟩
theorem ok_llen (F : Fun K "__len__" "Land.__len__" sLen f fd) (B : Bi mg) (T : Txt K mg C) : FnOk P w K mg base CX0 1 f fd ["self"] (spLLen C) := by
  refine F.ok scLen (fun vs H Q E h => ?_) (fun cdv A outer s H vs Q E hr h => ?_)
  · obtain ⟨p, L, g, rfl, _⟩ := h
    rfl
  · obtain ⟨p, L, g, rfl, ⟨d, dx, i1, ⟨kvs, hk, he⟩, _⟩, q⟩ := h
    refine ⟨_, pss_one (ps_ret (pe_callB call_lenD (by rfl) B.len PySem.boot_len (pa_cons (pe_fld (pv 0) rfl) pa_nil))), ?_⟩
    refine ⟨_, rfl, p, C, dx, _, _, rfl, i1, T.cl, T.nS, lf_spots _ _, d, kvs, rfl, hk, ?_⟩
    have : kvs.length = (names g).length := by
      rw [he.length, ← spG_fst g 0, List.length_map]
    rw [this]
    exact q
/-! ### repr -/
def reprS (n : Nat) : Str := ("Land(" : Str) ++ (toString (n : Int) : String) ++ (")" : Str)
def spLRepr (C : Addr) : Sp := fun vs H Q _ => ∃ (p L : Addr) (g : Grid), vs = [.ref p] ∧ LandAt C H p L g ∧ (names g).length ≤ 36 ∧ Q (.str (reprS (names g).length)) H
theorem scRepr : FnScope ["self"] ["self"] (defScope sRepr) := ⟨rfl, rfl, rfl, by decide +kernel, rfl, by decide +kernel, by decide +kernel⟩
theorem dig_len {n : Nat} (h : n ≤ 36) : ((toString (n : Int) : String) : Str).length ≤ 2 := by
  have : ∀ k : Fin 37, ((toString ((k.val : Nat) : Int) : String) : Str).length ≤ 2 := by decide +kernel
  exact this ⟨n, by omega⟩
theorem str_n (n : Nat) (h : n ≤ 36) : (((n : Nat) : Int).natAbs).log2 < 1920 := by
  have : ((n : Nat) : Int).natAbs = n := Int.natAbs_natCast n
  rw [this]
  have h2 : n.log2 ≤ n := Nat.log2_le_self n
  omega
theorem ok_lrepr (F : Fun K "__repr__" "Land.__repr__" sRepr f fd) (B : Bi mg) (T : Txt K mg C) : FnOk P w K mg base CX0 1 f fd ["self"] (spLRepr C) := by
  refine F.ok scRepr (fun vs H Q E h => ?_) (fun cdv A outer s H vs Q E hr h => ?_)
  · obtain ⟨p, L, g, rfl, _⟩ := h
    rfl
  · obtain ⟨p, L, g, rfl, ⟨d, dx, i1, ⟨kvs, hk, he⟩, _⟩, h36, q⟩ := h
    refine ⟨_, pss_one (ps_ret (pe_joined (.cons pe_str (.cons (pe_fmt (pe_callB call_lenD (by rfl) B.len PySem.boot_len (pa_cons (pe_fld (pv 0) rfl) pa_nil))) (.cons pe_str .nil))))), ?_⟩
    have ek : kvs.length = (names g).length := by
      rw [he.length, ← spG_fst g 0, List.length_map]
    refine ⟨_, rfl, by decide +kernel, _, rfl, p, C, dx, _, _, rfl, i1, T.cl, T.nS, lf_spots _ _, d, kvs, rfl, hk, .inr ⟨_, rfl, ?_, _, rfl, ?_, _, rfl, ?_, ?_⟩⟩
    · rw [ek]
      exact str_n _ h36
    · rw [ek]
      exact lzl (by rw [add_len, add_len]; have := dig_len h36; have : (Str.empty).length = 0 := rfl; have : ("Land(" : Str).length = 5 := (by decide +kernel); omega)
    · rw [ek]
      exact lzl (by rw [add_len, add_len, add_len]; have := dig_len h36; have : (Str.empty).length = 0 := rfl; have : ("Land(" : Str).length = 5 := (by decide +kernel); have : (")" : Str).length = 1 := (by decide +kernel); omega)
    · have e0 : (Str.empty ++ ("Land(" : Str)) = ("Land(" : Str) := by decide +kernel
      rw [ek]
      show Q (.str (Str.empty ++ ("Land(" : Str) ++ _ ++ (")" : Str))) H
      rw [e0]
      exact q
/-! ### str -/
def showV : V → V
  | .non => .str "-"
  | v => v
theorem sum_len {m : Nat} : ∀ {l : List Str}, (∀ z ∈ l, z.length ≤ m) → (l.map (·.length)).sum ≤ l.length * m
  | [], _ => by simp
  | z :: r, h => by
    have h1 := h z List.mem_cons_self
    have h2 := sum_len (m := m) (l := r) fun y hy => h y (List.mem_cons_of_mem _ hy)
    rw [List.map_cons, List.sum_cons, List.length_cons, Nat.succ_mul]
    omega
theorem oV_inj {o u : Option Str} (h : oV o = oV u) : o = u := by
  cases o with
  | none =>
    cases u with
    | none => rfl
    | some z => cases h
  | some y =>
    cases u with
    | none => cases h
    | some z =>
      cases h
      rfl
theorem map_oV_inj : ∀ {r q : Row}, r.map oV = q.map oV → r = q
  | [], [], _ => rfl
  | [], _ :: _, e => by simp at e
  | _ :: _, [], e => by simp at e
  | o :: r, u :: q, e => by
    simp only [List.map_cons, List.cons.injEq] at e
    rw [oV_inj e.1, map_oV_inj e.2]
theorem lines_of {H : Hp} : ∀ {as : List Addr} {g : Grid} {zs : List V}, RowsAt H as g → Each (fun (x z : V) => ∀ (pr : Addr) (row : Row), x = .ref pr → H pr = some (.tup (row.map oV)) → z = .str (lineS row)) (as.map V.ref) zs → zs = (g.map lineS).map V.str
  | [], [], [], _, _ => rfl
  | [], [], _ :: _, _, h => nomatch h
  | [], _ :: _, _, h, _ => nomatch h
  | _ :: _, [], _, h, _ => nomatch h
  | _ :: _, _ :: _, [], _, h => nomatch h
  | a :: as, r :: g, z :: zs, .cons e t, .cons e' t' => by
    rw [e' a r rfl e, lines_of t t']
    rfl
def spLStr (C : Addr) : Sp := fun vs H Q _ => ∃ (p L : Addr) (g : Grid) (wd : Nat), vs = [.ref p] ∧ LandAt C H p L g ∧ Good g wd ∧ ∀ (H' : Hp), Same H H' → Q (.str (landS g)) H'
abbrev nStr : List Str := ["self", "row", "part"]
theorem scStr : FnScope nStr ["self"] (defScope sStr) := ⟨rfl, rfl, rfl, by decide +kernel, rfl, by decide +kernel, by decide +kernel⟩
theorem ok_lstr (F : Fun K "__str__" "Land.__str__" sStr f fd) (T : Txt K mg C) (hlk : ∃ t, mg "LAKE" = some (.str "-" t)) : FnOk P w K mg base CX0 1 f fd ["self"] (spLStr C) := by
  obtain ⟨tl, gl⟩ := hlk
  refine F.ok scStr (fun vs H Q E h => ?_) (fun cdv A outer s H vs Q E hr h => ?_)
  · obtain ⟨p, L, g, wd, rfl, _⟩ := h
    rfl
  · obtain ⟨p, L, g, wd, rfl, ⟨d, dx, i1, _, as, hL, hR⟩, gd, q⟩ := h
    refine ⟨_, pss_one (ps_ret (pe_join pe_str (pe_lc (own := [("row", 1)]) (g := gName 1) (tt := tYes) (te := tM1 (fun x xs H Q => ∃ a p, ∃ ys : List Str, x = .str a ∧ xs = [.ref p] ∧ (SqL K H p (ys.map V.str) ∨ SqT K H p (ys.map V.str)) ∧ (ys.map (·.length)).sum + ys.length * a.length ≤ 16777216 ∧ Q (.str (Txt.join a ys)) H) (tC (.str " ")) (tLc (iTup K (tVar 1)) (gName 2) tYes (tIf (tB (tIsN (tVar 2))) (tC (.str "-")) (tVar 2)) [2])) rfl scStr.nd (pi_tup (pe_fld (pv 0) rfl)) (blkOk_by (N := nStr) (sc := defScope sStr) (by decide +kernel)) (fun _ _ _ _ _ => pg_name (i := 1) scStr.nd rfl (.inl rfl)) (fun _ _ _ _ _ => pts_nil)
      (fun _ _ _ _ _ => pe_join pe_str (pe_lc (own := [("part", 2)]) (g := gName 2) (tt := tYes) rfl scStr.nd (pi_tup (pv 1)) (blkOk_by (N := nStr) (sc := { kind := .function, names := [(".0", .local), ("row", .local)], isGenerator := false, isCoroutine := false }) (by decide +kernel)) (fun _ _ _ _ _ => pg_name (i := 2) scStr.nd rfl (.inl rfl)) (fun _ _ _ _ _ => pts_nil) (fun _ _ _ _ _ => pe_ifExp (pt_cmp (pc_isN (pv 2))) (pe_glob (v := .str "-") (by rfl) gl ⟨_, rfl⟩) (pv 2))))))), ?_⟩
    refine ⟨⟨_, rfl⟩, _, rfl, p, C, dx, _, _, rfl, i1, T.cl, T.nR, lf_rows _ _, L, rfl, ⟨_, .inl (.inl hL)⟩, fun D hD => ?_⟩
    have h6 : as.length ≤ 6 := by rw [hR.length]; exact gd.h6
    refine lc_rel (walk_tup (K := K) (a := L) (xs := as.map V.ref)) hD (fun _ => true) (fun x y _ => ∀ (pr : Addr) (row : Row), x = .ref pr → H pr = some (.tup (row.map oV)) → y = .str (lineS row)) (fun H' s' => .inl (.inl (s' _ _ hL))) (fun _ => rfl) (fun x H' _ _ Q' q' => q') ?_ (fun _ _ _ _ _ _ _ r => r) ?_ ?_
    · intro x H' hx _ s' Q' q'
      obtain ⟨pr, hpr, rfl⟩ := List.mem_map.mp hx
      obtain ⟨i, hi, ei⟩ := List.mem_iff_getElem.mp hpr
      obtain ⟨row, hrow, hH⟩ := hR.get (i := i) (a := pr) (by rw [List.getElem?_eq_getElem hi, ei])
      have hrm := List.mem_of_getElem? hrow
      have hr6 : row.length ≤ 6 := gd.six row hrm
      refine ⟨⟨_, rfl⟩, _, rfl, pr, rfl, ⟨_, .inl (.inl (s' _ _ hH))⟩, fun D2 hD2 => ?_⟩
      refine lc_map (walk_tup (K := K) (a := pr) (xs := row.map oV)) hD2 (fun _ => true) showV (fun H2 s2 => .inl (.inl (s2 _ _ (s' _ _ hH)))) (fun _ => rfl) (fun x H' _ _ Q' q' => q') ?_ ?_ ?_
      · intro x H2 hx2 _ _ Q2 q2
        obtain ⟨o, _, rfl⟩ := List.mem_map.mp hx2
        refine ⟨_, rfl, _, rfl, ?_⟩
        cases o with
        | none => exact iteT q2
        | some z => exact iteF ⟨_, rfl, q2⟩
      · rw [List.length_map]
        exact small1000 (by omega)
      · intro H2 s2 hD3
        have e1 : ((row.map oV).filter fun _ => true).map showV = (row.map partS).map V.str := by
          rw [List.filter_eq_self.mpr fun _ _ => rfl, List.map_map, List.map_map]
          refine List.map_congr_left fun o _ => ?_
          cases o <;> rfl
        rw [e1] at hD3
        refine ⟨_, D2, row.map partS, rfl, rfl, .inl (.inl (.inl hD3)), ?_, q' _ H2 s2 fun pr2 row2 e2 h2 => ?_⟩
        · have := sum_len (l := row.map partS) (m := 8) fun z hz => by
            obtain ⟨o, ho, rfl⟩ := List.mem_map.mp hz
            rw [TL.len_tl]
            exact (part_tl (gd.parts row hrm o ho)).1
          rw [List.length_map] at this ⊢
          have e : (" " : Str).length = 1 := by decide +kernel
          rw [e]
          omega
        · obtain rfl : pr = pr2 := V.ref.inj e2
          rw [hH] at h2
          have : row = row2 := map_oV_inj (HO.tup.inj (Option.some.inj h2))
          rw [← this]
          rfl
    · rw [List.length_map]
      exact small1000 (by omega)
    · intro zs H1 s1 hD1 he
      rw [List.filter_eq_self.mpr fun _ _ => rfl] at he
      have e1 : zs = (g.map lineS).map V.str := lines_of hR he
      rw [e1] at hD1
      refine ⟨_, D, g.map lineS, rfl, rfl, .inl (.inl (.inl hD1)), ?_, q H1 s1⟩
      have := sum_len (l := g.map lineS) (m := 54) fun z hz => by
        obtain ⟨r, hr', rfl⟩ := List.mem_map.mp hz
        exact line_len (gd.parts r hr') (gd.six r hr')
      rw [List.length_map] at this ⊢
      have e : ("\n" : Str).length = 1 := by decide +kernel
      have := gd.h6
      rw [e]
      omega
end
end Wl



namespace Wl
open PySem PySem.Spec PyProof.Rows L2
abbrev sIsWhole : Stmt := topS 22
abbrev sIsNum : Stmt := topS 23
abbrev sCheckW : Stmt := topS 25
abbrev sCheckA : Stmt := topS 49
abbrev sCheckS : Stmt := topS 50
abbrev sKeyOf : Stmt := topS 51
abbrev sGat : Stmt := topS 53
abbrev sGInit : Stmt := inClass sGat 0
abbrev sGPlace : Stmt := inClass sGat 1
abbrev sGPut : Stmt := inClass sGat 2
/-- what was told -/
structure Tel where
  v : Str
  th : Str
  wo : Str
  tl : Str
  age : Nat
  g : Str
  sure : Bool
deriving DecidableEq
def telV (t : Tel) : List V := [.str t.v, .str t.th, .str t.wo, .str t.tl, .int (t.age : Int), .str t.g, .bl t.sure]
def keyV (t : Tel) : List V := [.str t.v, .str t.tl, .str t.th, .str t.g]
structure OkT (t : Tel) : Prop where
  v : IsWd t.v
  th : IsWd t.th
  wo : IsWd t.wo
  tl : IsWd t.tl
  age : t.age ≤ 120
  g : IsWd t.g
def TelsAt (H : Hp) (as : List Addr) (ts : List Tel) : Prop := Each (fun (p : Addr) (t : Tel) => H p = some (.tup (telV t))) as ts
theorem TelsAt.keep {H H' : Hp} {as : List Addr} {ts : List Tel} (h : TelsAt H as ts) (k : TupKeep H H') : TelsAt H' as ts := Each.mono (fun p t e => k p _ e) h
section
variable {P : Program} {w : World} {K : PySem.W.Frag} {mg : Str → Option Value} {base : Heap} {f C : Addr} {fd : FuncData}
structure Bg (mg : Str → Option Value) : Prop where
  bool : mg "bool" = none
  oldest : ∃ t, mg "OLDEST" = some (.int 120 t)
  most : ∃ t, mg "MOST_TELLINGS" = some (.int 200 t)
  dot : ∃ t, mg "DOT" = some (.str "." t)
  doubt : ∃ t, mg "DOUBT" = some (.str "?" t)
/-! ### is_whole, is_number_from -/
def spIsWhole : Sp := fun vs H Q _ => ∃ (n : Int), vs = [.int n] ∧ Q (.bl true) H
theorem scIsWhole : FnScope ["thing"] ["thing"] (defScope sIsWhole) := ⟨rfl, rfl, rfl, by decide +kernel, rfl, by decide +kernel, by decide +kernel⟩
theorem ok_iswhole (F : Fun K "is_whole" "is_whole" sIsWhole f fd) (B : Bi mg) (B2 : Bg mg) : FnOk P w K mg base CX0 1 f fd ["thing"] spIsWhole := by
  refine F.ok scIsWhole (fun vs H Q E h => ?_) (fun cdv A outer s H vs Q E hr h => ?_)
  · obtain ⟨n, rfl, _⟩ := h
    rfl
  · obtain ⟨n, rfl, q⟩ := h
    refine ⟨_, pss_one (ps_ret (pe_and (pe_callB call_isi (by rfl) B.isi (by decide +kernel) (pa_cons (pv 0) (pa_cons (pe_bltn (v := .ty "int") (by rfl) B.int (by decide +kernel) rfl) pa_nil)))
      (pe_one (pe_not (pe_callB call_isi (by rfl) B.isi (by decide +kernel) (pa_cons (pv 0) (pa_cons (pe_bltn (v := .ty "bool") (by rfl) B2.bool (by decide +kernel) rfl) pa_nil))))))), ?_⟩
    refine ⟨_, rfl, _, _, _, _, _, rfl, .ty "int", .base (.int n), kit_ty (r := true) (by decide +kernel), true, rfl, iteT ?_⟩
    exact ⟨_, rfl, _, _, _, _, _, rfl, .ty "bool", .base (.int n), kit_ty (r := false) (by decide +kernel), false, rfl, q⟩
def spIsNum : Sp := fun vs H Q _ => ∃ (n lo hi : Int), vs = [.int n, .int lo, .int hi] ∧ lo ≤ n ∧ n ≤ hi ∧ Q (.bl true) H
theorem scIsNum : FnScope ["thing", "least", "most"] ["thing", "least", "most"] (defScope sIsNum) := ⟨rfl, rfl, rfl, by decide +kernel, rfl, by decide +kernel, by decide +kernel⟩
theorem ok_isnum (F : Fun K "is_number_from" "is_number_from" sIsNum f fd) (hI : Has P w K mg base "is_whole" 1 ["thing"] spIsWhole) : FnOk P w K mg base CX0 2 f fd ["thing", "least", "most"] spIsNum := by
  refine F.ok scIsNum (fun vs H Q E h => ?_) (fun cdv A outer s H vs Q E hr h => ?_)
  · obtain ⟨n, lo, hi, rfl, _⟩ := h
    rfl
  · obtain ⟨n, lo, hi, rfl, h1, h2, q⟩ := h
    refine ⟨_, pss_one (ps_ret (pe_and (pe_h hI hr (pa_cons (pv 0) pa_nil)) (pe_one (pe_chain op_le op_le (pv 1) (pv 0) (pv 2))))), ?_⟩
    refine ⟨_, rfl, n, rfl, true, rfl, iteT ?_⟩
    refine ⟨_, rfl, _, rfl, _, _, rfl, rfl, _, rfl, ?_⟩
    rw [decide_eq_true h1]
    refine iteT ⟨_, rfl, _, _, rfl, rfl, ?_⟩
    show Q (.bl (decide (n ≤ hi))) H
    rw [decide_eq_true h2]
    exact q
/-! ### check_word -/
/-! ### check_age -/
def spCheckA : Sp := fun vs H Q _ => ∃ (n : Nat), vs = [.int (n : Int)] ∧ n ≤ 120 ∧ Q .non H
theorem scCheckA : FnScope ["age"] ["age"] (defScope sCheckA) := ⟨rfl, rfl, rfl, by decide +kernel, rfl, by decide +kernel, by decide +kernel⟩
theorem ok_checka (F : Fun K "check_age" "check_age" sCheckA f fd) (B2 : Bg mg) (hI : Has P w K mg base "is_number_from" 2 ["thing", "least", "most"] spIsNum) : FnOk P w K mg base CX0 3 f fd ["age"] spCheckA := by
  obtain ⟨t, gt⟩ := B2.oldest
  refine F.ok scCheckA (fun vs H Q E h => ?_) (fun cdv A outer s H vs Q E hr h => ?_)
  · obtain ⟨z, rfl, _⟩ := h
    rfl
  · obtain ⟨n, rfl, hn, q⟩ := h
    refine ⟨_, pss_one (ps_if (pt_not (pt_val (pe_h hI hr (pa_cons (pv 0) (pa_cons pe_int (pa_cons (pe_glob (v := .int 120) rfl gt ⟨_, rfl⟩) pa_nil)))))) (pss_one ps_never) pss_nil), ?_⟩
    exact ⟨_, rfl, n, 0, 120, rfl, by omega, by omega, true, rfl, iteF q⟩
/-! ### check_sure -/
def spCheckS : Sp := fun vs H Q _ => ∃ (b : Bool), vs = [.bl b] ∧ Q .non H
theorem scCheckS : FnScope ["sure"] ["sure"] (defScope sCheckS) := ⟨rfl, rfl, rfl, by decide +kernel, rfl, by decide +kernel, by decide +kernel⟩
theorem ok_checks (F : Fun K "check_sure" "check_sure" sCheckS f fd) (B : Bi mg) (B2 : Bg mg) : FnOk P w K mg base CX0 1 f fd ["sure"] spCheckS := by
  refine F.ok scCheckS (fun vs H Q E h => ?_) (fun cdv A outer s H vs Q E hr h => ?_)
  · obtain ⟨z, rfl, _⟩ := h
    rfl
  · obtain ⟨b, rfl, q⟩ := h
    refine ⟨_, pss_one (ps_if (pt_not (pt_val (pe_callB call_isi (by rfl) B.isi (by decide +kernel) (pa_cons (pv 0) (pa_cons (pe_bltn (v := .ty "bool") (by rfl) B2.bool (by decide +kernel) rfl) pa_nil))))) (pss_one ps_never) pss_nil), ?_⟩
    exact ⟨_, rfl, _, _, _, _, _, rfl, .ty "bool", .base (.bl b), kit_ty (r := true) (by decide +kernel), true, rfl, iteF q⟩
/-! ### key_of -/
def spKeyOf : Sp := fun vs H Q _ => ∃ (p : Addr) (t : Tel), vs = [.ref p] ∧ H p = some (.tup (telV t)) ∧ ∀ u, H u = none → Q (.ref u) (upd H u (.tup (keyV t)))
theorem scKeyOf : FnScope ["telling"] ["telling"] (defScope sKeyOf) := ⟨rfl, rfl, rfl, by decide +kernel, rfl, by decide +kernel, by decide +kernel⟩
theorem ok_keyof (F : Fun K "key_of" "key_of" sKeyOf f fd) : FnOk P w K mg base CX0 1 f fd ["telling"] spKeyOf := by
  refine F.ok scKeyOf (fun vs H Q E h => ?_) (fun cdv A outer s H vs Q E hr h => ?_)
  · obtain ⟨p, t, rfl, _⟩ := h
    rfl
  · obtain ⟨p, t, rfl, hp, q⟩ := h
    refine ⟨_, pss_one (ps_ret (pe_tup (pa_cons (pe_ix ix_tup (pv 0) pe_int (fun _ _ => rfl)) (pa_cons (pe_ix ix_tup (pv 0) pe_int (fun _ _ => rfl)) (pa_cons (pe_ix ix_tup (pv 0) pe_int (fun _ _ => rfl)) (pa_cons (pe_ix ix_tup (pv 0) pe_int (fun _ _ => rfl)) pa_nil)))))), ?_⟩
    refine ⟨_, rfl, p, _, _, _, rfl, rfl, .inl (.inl hp), atI_nat (j := 0) rfl, _, rfl, p, _, _, _, rfl, rfl, .inl (.inl hp), atI_nat (j := 3) rfl, _, rfl, p, _, _, _, rfl, rfl, .inl (.inl hp), atI_nat (j := 1) rfl, _, rfl, p, _, _, _, rfl, rfl, .inl (.inl hp), atI_nat (j := 5) rfl, lz, fun u hu => q u hu⟩
end
end Wl





namespace Wl
open PySem PySem.Spec PyProof.Rows L2
/-! A Gathering on the heap. -/
def gf (l t d : Addr) : List (Str × V) := putF "deeds" (.ref d) (putF "told" (.ref t) (putF "land" (.ref l) []))
theorem gf_land (l t d : Addr) : (gf l t d).lookup ("land" : Str) = some (.ref l) := by
  unfold gf
  rw [lookup_putF, if_neg (by decide +kernel), lookup_putF, if_neg (by decide +kernel), lookup_putF, if_pos rfl]
theorem gf_told (l t d : Addr) : (gf l t d).lookup ("told" : Str) = some (.ref t) := by
  unfold gf
  rw [lookup_putF, if_neg (by decide +kernel), lookup_putF, if_pos rfl]
theorem gf_deeds (l t d : Addr) : (gf l t d).lookup ("deeds" : Str) = some (.ref d) := by
  unfold gf
  rw [lookup_putF, if_pos rfl]
theorem gf_no (l t d : Addr) {m : Str} (h1 : ¬ m = "deeds" := by decide +kernel) (h2 : ¬ m = "told" := by decide +kernel) (h3 : ¬ m = "land" := by decide +kernel) : (gf l t d).lookup m = none := by
  unfold gf
  rw [lookup_putF, if_neg h1, lookup_putF, if_neg h2, lookup_putF, if_neg h3]
  rfl
structure GR where
  pl : Addr
  L : Addr
  td : Addr
  dd : Addr
  g : Grid
  as : List Addr
  ts : List Tel
  ds : List V
structure GatAt (C D : Addr) (H : Hp) (p : Addr) (r : GR) : Prop where
  at_ : ∃ dx, H p = some (.ins D dx (gf r.pl r.td r.dd))
  land : LandAt C H r.pl r.L r.g
  told : H r.td = some (.lst (r.as.map V.ref))
  tels : TelsAt H r.as r.ts
  deeds : H r.dd = some (.lst r.ds)
  ne : r.td ≠ r.dd
theorem GatAt.same {C D : Addr} {H H' : Hp} {p : Addr} {r : GR} (h : GatAt C D H p r) (s : Same H H') : GatAt C D H' p r :=
  ⟨let ⟨dx, e⟩ := h.at_; ⟨dx, s _ _ e⟩, h.land.keep (kp_same s), s _ _ h.told, h.tels.keep (tk_same s), s _ _ h.deeds, h.ne⟩
/-- all but what stands at a and b is as it was -/
def Same2 (a b : Addr) (H H' : Hp) : Prop := ∀ c o, c ≠ a → c ≠ b → H c = some o → H' c = some o
theorem Same2.of {a b : Addr} {H H' : Hp} (s : Same H H') : Same2 a b H H' := fun c o _ _ h => s c o h
theorem Same2.trans {a b : Addr} {H H1 H2 : Hp} (s : Same2 a b H H1) (t : Same2 a b H1 H2) : Same2 a b H H2 := fun c o n m h => t c o n m (s c o n m h)
structure TxtG (K : PySem.W.Frag) (mg : Str → Option Value) (D : Addr) : Prop where
  cl : Cls K D
  nL : NoAttr K D "land"
  nT : NoAttr K D "told"
  nD : NoAttr K D "deeds"
  mgD : mg "Gathering" = some (.ref D)
def keyS (t : Tel) : List Str := [t.v, t.tl, t.th, t.g]
theorem keyV_eq (t : Tel) : keyV t = (keyS t).map V.str := rfl
theorem strs_eqv : ∀ a b : List Str, PyData.eqvAll (a.map PyData.str) (b.map PyData.str) = decide (a = b)
  | [], [] => by simp [PyData.eqvAll]
  | [], _ :: _ => by simp [PyData.eqvAll]
  | _ :: _, [] => by simp [PyData.eqvAll]
  | x :: a, y :: b => by
    have e : PyData.eqv (.str x) (.str y) = decide (x = y) := o_eqv (some x) (some y) |>.trans (by simp)
    simp only [List.map_cons, PyData.eqvAll, e, strs_eqv a b, List.cons.injEq]
    by_cases h1 : x = y <;> by_cases h2 : a = b <;> simp [h1, h2]
theorem tup_eqv (a b : List Str) : PyData.eqv (.tuple (a.map PyData.str)) (.tuple (b.map PyData.str)) = decide (a = b) := by
  simp only [PyData.eqv, strs_eqv]
theorem shaped_strs {a : List Str} (h : ∀ z ∈ a, IsWd z) : SeqAt.shaped (.tuple (a.map PyData.str)) = true := shaped_tuple (lay_strs h) (by rw [depth_strs]; omega)
theorem OkT.key {t : Tel} (h : OkT t) : ∀ z ∈ keyS t, IsWd z := fun z hz => by
  simp only [keyS, List.mem_cons, List.not_mem_nil, or_false] at hz
  rcases hz with rfl | rfl | rfl | rfl
  · exact h.v
  · exact h.tl
  · exact h.th
  · exact h.g
section
variable {P : Program} {w : World} {K : PySem.W.Frag} {mg : Str → Option Value} {base : Heap} {f C D : Addr} {fd : FuncData}
theorem land_but {H H' : Hp} {p pl L dx : Addr} {g : Grid} {fs : List (Str × V)} (h : LandAt C H pl L g) (hp : H p = some (.ins D dx fs)) (n : p ≠ pl) (k : ∀ b o, b ≠ p → H b = some o → H' b = some o) : LandAt C H' pl L g := by
  obtain ⟨d, dl, k1, ⟨kvs, k2, k3⟩, k4⟩ := h
  have tk : TupKeep H H' := fun b xs e => k b _ (ne_of e hp (by intro z; cases z)) e
  exact ⟨d, dl, k _ _ n.symm k1, ⟨kvs, k _ _ (ne_of k2 hp (by intro z; cases z)) k2, ent_keep tk k3⟩, k4.keep tk⟩
/-! ### a new one -/
def spGInit (C D : Addr) : Sp := fun vs H Q _ => ∃ (p dx pl L : Addr) (g : Grid), vs = [.ref p, .ref pl] ∧ H p = some (.ins D dx []) ∧ LandAt C H pl L g ∧ p ≠ pl ∧
  ∀ (td dd : Addr) (H' : Hp), H td = none → H dd = none → (∀ b o, b ≠ p → H b = some o → H' b = some o) → GatAt C D H' p ⟨pl, L, td, dd, g, [], [], []⟩ → Q .non H'
theorem scGInit : FnScope ["self", "land"] ["self", "land"] (defScope sGInit) := ⟨rfl, rfl, rfl, by decide +kernel, rfl, by decide +kernel, by decide +kernel⟩
theorem ok_ginit (F : Fun K "__init__" "Gathering.__init__" sGInit f fd) (B : Bi mg) (T : Txt2 K mg C) (TG : TxtG K mg D) : FnOk P w K mg base CX0 1 f fd ["self", "land"] (spGInit C D) := by
  refine F.ok scGInit (fun vs H Q E h => ?_) (fun cdv A outer s H vs Q E hr h => ?_)
  · obtain ⟨p, dx, pl, L, g, rfl, _⟩ := h
    rfl
  · obtain ⟨p, dx, pl, L, g, rfl, hp, hLa, npl, q⟩ := h
    refine ⟨_, pss_cons (ps_if (pt_not (pt_val (pe_callB (C8.call_isC (C := C) T.ins) (by rfl) B.isi (by decide +kernel) (pa_cons (pv 1) (pa_cons (pe_glob (v := .ref C) rfl T.t.mgC rfl) pa_nil))))) (pss_one ps_never) pss_nil)
      (pss_cons (ps_fld (pv 0) (pv 1) rfl) (pss_cons (ps_fld (pv 0) (pe_lst pa_nil) rfl) (pss_one (ps_fld (pv 0) (pe_lst pa_nil) rfl)))), ?_⟩
    obtain ⟨dl, d, i1⟩ := hLa.ins
    refine ⟨_, rfl, pl, dl, _, rfl, i1, true, rfl, iteF ?_⟩
    refine ⟨_, rfl, _, rfl, p, D, dx, [], rfl, hp, TG.cl, TG.nL, (by show 0 < 1000; decide), ?_⟩
    refine ⟨lz, fun td htd => ⟨_, rfl, p, D, dx, putF "land" (.ref pl) [], rfl, (same_new htd) _ _ upd_same, TG.cl, TG.nT, (by show 1 < 1000; decide), ?_⟩⟩
    refine ⟨lz, fun dd hdd => ⟨_, rfl, p, D, dx, putF "told" (.ref td) (putF "land" (.ref pl) []), rfl, (same_new hdd) _ _ upd_same, TG.cl, TG.nD, (by show 2 < 1000; decide), ?_⟩⟩
    have ntp : td ≠ p := fun e => by
      rw [e, upd_same] at htd
      cases htd
    have htd0 : H td = none := by
      rw [upd_ne ntp] at htd
      exact htd
    have ndp : dd ≠ p := fun e => by
      rw [e, upd_same] at hdd
      cases hdd
    have ndt : dd ≠ td := fun e => by
      rw [e, upd_ne ntp, upd_same] at hdd
      cases hdd
    have hdd0 : H dd = none := by
      rw [upd_ne ndp, upd_ne ndt, upd_ne ndp] at hdd
      exact hdd
    have all : ∀ b o, b ≠ p → H b = some o → upd (upd (upd (upd (upd H p (.ins D dx (putF "land" (.ref pl) []))) td (.lst [])) p (.ins D dx (putF "told" (.ref td) (putF "land" (.ref pl) [])))) dd (.lst [])) p (.ins D dx (gf pl td dd)) b = some o := fun b o n e => by
      rw [upd_ne n, upd_ne (ne_of_none e hdd0), upd_ne n, upd_ne (ne_of_none e htd0), upd_ne n]
      exact e
    refine q td dd _ htd0 hdd0 all ⟨⟨dx, upd_same⟩, ?_, ?_, .nil, ?_, ndt.symm⟩
    · exact land_but hLa hp npl all
    · rw [upd_ne ntp, upd_ne ndt.symm, upd_ne ntp, upd_same]
      rfl
    · rw [upd_ne ndp, upd_same]
/-! ### where a key stands -/
def plV (o : Option Nat) : V := match o with
  | some i => .int (i : Int)
  | none => .non
def spGPlace (C D : Addr) : Sp := fun vs H Q _ => ∃ (p kp : Addr) (r : GR) (ks : List Str), vs = [.ref p, .ref kp] ∧ GatAt C D H p r ∧ (∀ t ∈ r.ts, OkT t) ∧ r.ts.length ≤ 200 ∧ H kp = some (.tup (ks.map V.str)) ∧ (∀ z ∈ ks, IsWd z) ∧
  ∀ (H' : Hp), Same H H' → Q (plV (r.ts.findIdx? fun t => decide (keyS t = ks))) H'
abbrev nGPlace : List Str := ["self", "key", "place", "telling"]
theorem scGPlace : FnScope nGPlace ["self", "key"] (defScope sGPlace) := ⟨rfl, rfl, rfl, by decide +kernel, rfl, by decide +kernel, by decide +kernel⟩
theorem find_at {α : Type} {q : α → Bool} {l : List α} {i : Nat} {x : α} (h : l[i]? = some x) (hq : q x = true) (hn : ∀ j y, j < i → l[j]? = some y → q y = false) : l.findIdx? q = some i := by
  rw [List.findIdx?_eq_some_iff_getElem]
  obtain ⟨hi, e⟩ := List.getElem?_eq_some_iff.mp h
  refine ⟨hi, by rw [e]; exact hq, fun j hj => ?_⟩
  rw [hn j _ hj (List.getElem?_eq_getElem (by omega))]
  decide
theorem ok_gplace (F : Fun K "place_of" "Gathering.place_of" sGPlace f fd) (B : Bi mg) (TG : TxtG K mg D) (hK : Has P w K mg base "key_of" 1 ["telling"] spKeyOf) : FnOk P w K mg base CX0 2 f fd ["self", "key"] (spGPlace C D) := by
  refine F.ok scGPlace (fun vs H Q E h => ?_) (fun cdv A outer s H vs Q E hr h => ?_)
  · obtain ⟨p, kp, r, ks, rfl, _⟩ := h
    rfl
  · obtain ⟨p, kp, r, ks, rfl, hG, hok, h200, hk, hkw, q⟩ := h
    refine ⟨_, pss_cons (ps_for PassesOwn.never rfl (pi_enum (by rfl) B.enum (pa_cons (pe_fld (pv 0) rfl) pa_nil)) (pg_tup rfl (pgs_cons (pg_name (i := 2) scGPlace.nd rfl (.inl rfl)) (pgs_cons (pg_name (i := 3) scGPlace.nd rfl (.inl rfl)) pgs_nil)))
        (pss_one (ps_if (pt_cmpR (op_eqD hr.units) (pe_h hK hr (pa_cons (pv 3) pa_nil)) (pv 1) (nomark _)) (pss_one (ps_ret (pv 2))) pss_nil)))
      (pss_one (ps_ret pe_non)), ?_⟩
    obtain ⟨dx, hp⟩ := hG.at_
    refine ⟨_, rfl, p, D, dx, _, _, rfl, hp, TG.cl, TG.nT, gf_told _ _ _, r.td, _, rfl, .inl (.inl hG.told), for_it (walk_enum (K := K) (a := r.td) (xs := r.as.map V.ref)) (fun i σ H' => (∃ y2 y3, σ = [some (.ref p), some (.ref kp), y2, y3]) ∧ Same H H' ∧ ∀ j t, j < i → r.ts[j]? = some t → keyS t ≠ ks)
      ⟨⟨_, _, rfl⟩, Same.refl H, fun j t hj => absurd hj (Nat.not_lt_zero _)⟩ (fun i σ H' _ h => .inl (.inl (h.2.1 _ _ hG.told))) ?_ ?_⟩
    · rintro i x σ H1 H2 hi ⟨⟨y2, y3, rfl⟩, s1, hno⟩ ⟨T, x1, x2, rfl, hT, rfl, ex1, ex2⟩
      have ex1 : (some (V.int (i : Nat)) : Option V) = some x1 := ex1
      cases ex1
      have ex2 : (r.as.map V.ref)[i]? = some x2 := ex2
      rw [List.getElem?_map] at ex2
      obtain ⟨pt, hpt, rfl⟩ := Option.map_eq_some_iff.mp ex2
      obtain ⟨t, ht, hpt1⟩ := Each.get hG.tels hpt
      have okt := hok t (List.mem_of_getElem? ht)
      have sT : Same H1 (upd H1 T (.tup [V.int (i : Nat), .ref pt])) := same_new hT
      refine ⟨T, _, rfl, .inl (.inl upd_same), rfl, _, _, rfl, _, _, rfl, rfl, ?_⟩
      have s2 := s1.trans sT
      generalize upd H1 T (.tup [V.int (i : Nat), .ref pt]) = H2 at s2
      refine ⟨_, rfl, pt, t, rfl, s2 _ _ hpt1, fun u hu => ?_⟩
      have s3 := same_new (o := .tup (keyV t)) hu
      refine ⟨_, rfl, .tuple ((keyS t).map .str), .tuple (ks.map .str), .tup (.inl (.inl upd_same)) (dp_strs (keyS t)), .tup (.inl (.inl (s3 _ _ (s2 _ _ hk)))) (dp_strs ks), shaped_strs okt.key, shaped_strs hkw, _, rfl, ?_⟩
      rw [tup_eqv]
      refine ite_b (fun e => ?_) (fun e => ?_)
      · refine ⟨_, rfl, ?_⟩
        have := q _ (s2.trans s3)
        rw [find_at ht e fun j y hj hy => decide_eq_false (hno j y hj hy)] at this
        exact this
      · refine ⟨⟨_, _, rfl⟩, s2.trans s3, fun j y hj hy => ?_⟩
        by_cases c : j = i
        · subst c
          rw [ht] at hy
          cases hy
          exact of_decide_eq_false e
        · exact hno j y (by omega) hy
    · rintro σ H1 ⟨⟨y2, y3, rfl⟩, s1, hno⟩
      have e : (r.ts.findIdx? fun t => decide (keyS t = ks)) = none := by
        rw [List.findIdx?_eq_none_iff]
        intro t ht
        obtain ⟨j, hj, ej⟩ := List.mem_iff_getElem.mp ht
        refine decide_eq_false (hno j t ?_ (by rw [List.getElem?_eq_getElem hj, ej]))
        rw [List.length_map]
        have := hG.tels.length
        omega
      have := q H1 s1
      rw [e] at this
      exact this
end
end Wl





namespace Wl
open PySem PySem.Spec PyProof.Rows L2
abbrev psPut : List Str := ["self", "village", "thing", "word", "teller", "age", "gatherer", "sure"]
abbrev nPut : List Str := ["self", "village", "thing", "word", "teller", "age", "gatherer", "sure", "key"]
theorem scPut : FnScope nPut psPut (defScope sGPut) := ⟨rfl, rfl, rfl, by decide +kernel, rfl, by decide +kernel, by decide +kernel⟩
def GR.add (r : GR) (q : Addr) (t : Tel) : GR := { r with as := r.as ++ [q], ts := r.ts ++ [t], ds := r.ds ++ [.non] }
section
variable {P : Program} {w : World} {K : PySem.W.Frag} {mg : Str → Option Value} {base : Heap} {f C D : Addr} {fd : FuncData}
/-- put: the last two may be left out -/
abbrev FunP (K : PySem.W.Frag) (f : Addr) (fd : FuncData) : Prop := FunD K "put" "Gathering.put" (defArgs sGPut) (defBody sGPut) (defScope sGPut) [.str "self", .bl true] [] f fd
theorem okD {x qual : Str} {params : Arguments} {body : List Stmt} {scope : Scope} {dvs : List V} {N ps : List Str} {k : Nat} {sp : Sp} (F : FunD K x qual params body scope dvs [] f fd) (S : FnScope N ps scope) (len : ∀ vs H Q E, sp vs H Q E → vs.length = ps.length)
    (hbody : ∀ (cdv : Value) (A : Around) (outer : List Env) (s : Shared) (H : Hp) (vs : List V) (Q : VK) (E : XK), Room k (A.deeper (envOfC qual scope s.heap.objs.size f cdv)) → sp vs H Q E →
      ∃ t, PSs (cxOf CX0 P w K mg base N qual scope f cdv A outer s H E).nox body t ∧ t { nx := fun _ H' => Q .non H', rt := Q } (start N vs) H) : FnOk P w K mg base CX0 (k + 1) f fd ps sp :=
  F.ok S len fun cdv A outer s H vs Q E hr hsp => let ⟨t, h, q⟩ := hbody cdv A outer s H vs Q E hr hsp; ⟨t, h.nox, q⟩
def spPut (C D : Addr) : Sp := fun vs H Q _ => ∃ (p : Addr) (r : GR) (wd : Nat) (t : Tel), vs = .ref p :: telV t ∧ GatAt C D H p r ∧ Good r.g wd ∧ (∀ u ∈ r.ts, OkT u) ∧ OkT t ∧ t.v ∈ names r.g ∧ keyS t ∉ r.ts.map keyS ∧ r.ts.length < 200 ∧ r.ds.length < 1000 ∧
  ∀ (q : Addr) (H' : Hp), H q = none → Same2 r.td r.dd H H' → GatAt C D H' p (r.add q t) → Q .non H'
theorem find_no {l : List Tel} {t : Tel} (h : keyS t ∉ l.map keyS) : (l.findIdx? fun u => decide (keyS u = keyS t)) = none := by
  rw [List.findIdx?_eq_none_iff]
  intro u hu
  exact decide_eq_false fun e => h (List.mem_map.mpr ⟨u, hu, e⟩)
theorem ok_put (F : FunP K f fd) (B : Bi mg) (B2 : Bg mg) (T : Txt K mg C) (TG : TxtG K mg D) (hCk : HasM P w K mg base C "check_name" 2 ["self", "name"] (spCheck C)) (hW : Has P w K mg base "check_word" 2 ["word"] spCheckW)
    (hA : Has P w K mg base "check_age" 3 ["age"] spCheckA) (hS : Has P w K mg base "check_sure" 1 ["sure"] spCheckS) (hP : HasM P w K mg base D "place_of" 2 ["self", "key"] (spGPlace C D)) : FnOk P w K mg base CX0 4 f fd psPut (spPut C D) := by
  obtain ⟨t200, g200⟩ := B2.most
  refine okD F scPut (fun vs H Q E h => ?_) (fun cdv A outer s H vs Q E hr h => ?_)
  · obtain ⟨p, r, wd, t, rfl, _⟩ := h
    rfl
  · obtain ⟨p, r, wd, t, rfl, hG, gd, hok, okt, hv, hnew, h200, hds, q⟩ := h
    refine ⟨_, pss_cons (ps_expr (pe_hm hCk T.cl hr (pe_fld (pv 0) rfl) (pa_cons (pv 1) pa_nil)))
      (pss_cons (ps_expr (pe_h hW hr (pa_cons (pv 2) pa_nil)))
      (pss_cons (ps_expr (pe_h hW hr (pa_cons (pv 3) pa_nil)))
      (pss_cons (ps_expr (pe_h hW hr (pa_cons (pv 4) pa_nil)))
      (pss_cons (ps_expr (pe_h hA hr (pa_cons (pv 5) pa_nil)))
      (pss_cons (ps_expr (pe_h hW hr (pa_cons (pv 6) pa_nil)))
      (pss_cons (ps_expr (pe_h hS hr (pa_cons (pv 7) pa_nil)))
      (pss_cons (ps_set (i := 8) scPut.nd rfl (.inl rfl) (pe_tup (pa_cons (pv 1) (pa_cons (pv 4) (pa_cons (pv 2) (pa_cons (pv 6) pa_nil))))))
      (pss_cons (ps_if (pt_cmp (pc_notN (pe_hm hP TG.cl hr (pv 0) (pa_cons (pv 8) pa_nil)))) (pss_one ps_never) pss_nil)
      (pss_cons (ps_if (pt_cmpR op_ge (pe_callB call_len_seq (by rfl) B.len PySem.boot_len (pa_cons (pe_fld (pv 0) rfl) pa_nil)) (pe_glob (v := .int 200) rfl g200 ⟨_, rfl⟩) (nomark _)) (pss_one ps_never) pss_nil)
      (pss_cons (ps_expr (pe_bm PySem.F.plainAttrs_list PySem.F.slot_list_append PySem.F.type_list_append mt_append (pe_fld (pv 0) rfl) (pa_cons (pe_tup (pa_cons (pv 1) (pa_cons (pv 2) (pa_cons (pv 3) (pa_cons (pv 4) (pa_cons (pv 5) (pa_cons (pv 6) (pa_cons (pv 7) pa_nil)))))))) pa_nil)))
      (pss_one (ps_expr (pe_bm PySem.F.plainAttrs_list PySem.F.slot_list_append PySem.F.type_list_append mt_append (pe_fld (pv 0) rfl) (pa_cons pe_non pa_nil)))))))))))))), ?_⟩
    obtain ⟨dx, hp⟩ := hG.at_
    obtain ⟨dl, d, hl⟩ := hG.land.ins
    refine ⟨_, rfl, p, D, dx, _, _, rfl, hp, TG.cl, TG.nL, gf_land _ _ _, r.pl, dl, _, rfl, hl, fs_no, _, rfl, r.pl, r.L, r.g, wd, t.v, rfl, hG.land, gd, hv, fun H1 s1 => ?_⟩
    refine ⟨_, rfl, t.th, rfl, okt.th, fun H2 s2 => ?_⟩
    refine ⟨_, rfl, t.wo, rfl, okt.wo, fun H3 s3 => ?_⟩
    refine ⟨_, rfl, t.tl, rfl, okt.tl, fun H4 s4 => ?_⟩
    refine ⟨_, rfl, t.age, rfl, okt.age, ?_⟩
    refine ⟨_, rfl, t.g, rfl, okt.g, fun H5 s5 => ?_⟩
    refine ⟨_, rfl, t.sure, rfl, ?_⟩
    have s15 := ((s1.trans s2).trans (s3.trans s4)).trans s5
    refine ⟨_, rfl, _, rfl, _, rfl, _, rfl, lz, fun kp hkp => ?_⟩
    have s6 := same_new (o := .tup [V.str t.v, V.str t.tl, V.str t.th, V.str t.g]) hkp
    have hkp6 : upd H5 kp (.tup [V.str t.v, V.str t.tl, V.str t.th, V.str t.g]) kp = some (.tup ((keyS t).map V.str)) := upd_same
    have s16 := s15.trans s6
    have hG6 := hG.same s16
    generalize upd H5 kp (.tup [V.str t.v, V.str t.tl, V.str t.th, V.str t.g]) = H6 at hkp6 s16 hG6
    obtain ⟨dx6, hp6⟩ := hG6.at_
    refine ⟨_, rfl, p, dx6, _, rfl, hp6, gf_no _ _ _, _, rfl, p, kp, r, keyS t, rfl, hG6, hok, by omega, hkp6, okt.key, fun H7 s7 => ?_⟩
    rw [find_no hnew]
    refine ⟨_, rfl, iteF ?_⟩
    have hG7 := hG6.same s7
    obtain ⟨dx7, hp7⟩ := hG7.at_
    have hlen : r.as.length = r.ts.length := hG.tels.length
    refine ⟨_, rfl, p, D, dx7, _, _, rfl, hp7, TG.cl, TG.nT, gf_told _ _ _, r.td, _, rfl, .inl (.inl (.inl hG7.told)), _, _, rfl, rfl, _, rfl, ?_⟩
    have hno : decide ((200 : Int) ≤ ((r.as.map V.ref).length : Int)) = false := decide_eq_false (by rw [List.length_map]; omega)
    rw [hno]
    refine iteF ⟨_, rfl, p, D, dx7, _, _, rfl, hp7, TG.cl, TG.nT, gf_told _ _ _, .inl ⟨rfl, _, .inl (.inl hG7.told)⟩, _, rfl, _, rfl, _, rfl, _, rfl, _, rfl, _, rfl, _, rfl, lz, fun qa hqa => ?_⟩
    have s8 := same_new (o := .tup [V.str t.v, V.str t.th, V.str t.wo, V.str t.tl, V.int (t.age : Int), V.str t.g, V.bl t.sure]) hqa
    have hG8 := hG7.same s8
    have hqa8 : upd H7 qa (.tup [V.str t.v, V.str t.th, V.str t.wo, V.str t.tl, V.int (t.age : Int), V.str t.g, V.bl t.sure]) qa = some (.tup (telV t)) := upd_same
    have s18 := s16.trans (s7.trans s8)
    have hqa0 : H qa = none := (s16.trans s7).free hqa
    refine ⟨r.td, _, _, rfl, rfl, hG8.told, by rw [List.length_map]; exact small1000 (by omega), ?_⟩
    obtain ⟨dx8, hp8⟩ := hG8.at_
    have hd8 := hG8.deeds
    have ht8 := hG8.told
    generalize upd H7 qa (.tup [V.str t.v, V.str t.th, V.str t.wo, V.str t.tl, V.int (t.age : Int), V.str t.g, V.bl t.sure]) = H8 at hG8 hqa8 s18 hp8 hd8 ht8
    have k9 : Keep H8 (upd H8 r.td (.lst (r.as.map V.ref ++ [.ref qa]))) := kp_upd ht8
    have hp9 := k9 _ _ (fun xs e => by cases e) hp8
    have hd9 : upd H8 r.td (.lst (r.as.map V.ref ++ [.ref qa])) r.dd = some (.lst r.ds) := by
      rw [upd_ne hG.ne.symm]
      exact hd8
    have ht9 : upd H8 r.td (.lst (r.as.map V.ref ++ [.ref qa])) r.td = some (.lst (r.as.map V.ref ++ [.ref qa])) := upd_same
    have m9 : Same2 r.td r.dd H8 (upd H8 r.td (.lst (r.as.map V.ref ++ [.ref qa]))) := fun c o n _ e => by
      rw [upd_ne n]
      exact e
    generalize upd H8 r.td (.lst (r.as.map V.ref ++ [.ref qa])) = H9 at k9 hp9 hd9 ht9 m9
    refine ⟨_, rfl, p, D, dx8, _, _, rfl, hp9, TG.cl, TG.nD, gf_deeds _ _ _, .inl ⟨rfl, _, .inl (.inl hd9)⟩, r.dd, _, _, rfl, rfl, hd9, small1000 (by omega), ?_⟩
    have k10 : Keep H9 (upd H9 r.dd (.lst (r.ds ++ [.non]))) := kp_upd hd9
    have kk := k9.trans k10
    refine q qa _ hqa0 ?_ ⟨⟨dx8, k10 _ _ (fun xs e => by cases e) hp9⟩, hG8.land.keep kk, ?_, ?_, upd_same, hG.ne⟩
    · refine (Same2.of s18).trans (m9.trans fun c o _ n e => ?_)
      rw [upd_ne n]
      exact e
    · show upd H9 r.dd (.lst (r.ds ++ [.non])) r.td = some (.lst ((r.as ++ [qa]).map V.ref))
      rw [upd_ne hG.ne, ht9, List.map_append]
      rfl
    · exact Each.append (hG8.tels.keep kk.tk) (.cons (kk.tk _ _ hqa8) .nil)
end
end Wl





namespace Wl
open PySem PySem.Spec PyProof.Rows L2
/-! o.m(e, .., k = v, ..) of a method that may leave some out. -/
def tMethN (C : Addr) (m : Str) (n j : Nat) (sp : Sp) (gV : List V → List V → List V) (E : XK) (ta : TE) (t tk : TA) : TE := fun σ H Q => ta σ H fun x H1 =>
  ∃ a dx fs, x = .ref a ∧ H1 a = some (.ins C dx fs) ∧ fs.lookup m = none ∧ t σ H1 fun vs H2 => tk σ H2 fun zs H3 => vs.length = n ∧ zs.length = j ∧ sp (gV (.ref a :: vs) zs) H3 Q E
section
variable {X : Cx} {CX : CXT} {k n : Nat} {f C : Addr} {fd : FuncData} {ps ks : List Str} {sp : Sp} {E : XK} {m : Str} {pos apos : Pos} {o e : Expr} {es : List Expr} {kws : List Keyword} {ta : TE} {t tk : TA} {pl : Sem Bool} {g : List Value → List Value → List Value} {gV : List V → List V → List V}
theorem pe_methN0 (he : PE X o ta) (c : Cls X.K C) (hm : Meth X.K C m f) (F : FnOk X.prog X.w X.K X.mg X.base CX k f fd ps sp) (hr : Room k X.A) (hb : KBn X.K fd ps 1 ks g gV) (hx : Passes CX X E) (hkw : PK X kws tk)
    (hall : (backToKw pos (keywordEach kws X.env)).all (·.1.isSome) = true := by rfl) (hks : (backToKw pos (keywordEach kws X.env)).filterMap (·.1) = ks := by rfl)
    (hpl : ((backTo pos (starEach [] X.env)).any (·.1) || (backToKw pos (keywordEach kws X.env)).any (·.1.isNone)) = false := by rfl)
    (ht : eval (.Call (.Attribute o m apos) [] kws pos) X.env = (do
      let ov ← eval o X.env
      standAt apos.atName
      let (f, first) ← holding [ov] (getMethod ov m pl)
      callWith pos f first (backTo pos (starEach [] X.env)) (backToKw pos (keywordEach kws X.env))) := by rfl) :
    PE X (.Call (.Attribute o m apos) [] kws pos) (tMethN C m 0 ks.length sp gV E ta tNil tk) := by
  refine ⟨fun pins s σ H Q I h => ?_⟩
  refine PySem.W.methodCall_KW (pl := pl) (thn (he.run pins s σ H _ I h) fun u s1 ⟨x, H1, I1, rx, a, dx, fs, ex, ea, l, q⟩ => ?_) ht
  subst ex
  obtain rfl : u = Value.ref a := rx
  refine getmeth_ok I1 ea c hm l ?_
  refine PySem.W.callWith_KW0 (first := [.ref a]) (h₀ := X.base) I.ok.mod.kin hm.kp hall (thn (hkw.run pos pins s1 σ H1 _ I1 q) fun ws s2 ⟨zs, H2, I2, rz, _, l2, q2⟩ => ⟨I2.kIn, ?_⟩) hpl
  rw [hks]
  exact run_fnN (us := [.ref a]) (vs := [.ref a]) F hr hb hx I2 (.cons rfl .nil) rz rfl l2 q2
theorem pe_methN (he : PE X o ta) (c : Cls X.K C) (hm : Meth X.K C m f) (F : FnOk X.prog X.w X.K X.mg X.base CX k f fd ps sp) (hr : Room k X.A) (hb : KBn X.K fd ps (n + 1) ks g gV) (hx : Passes CX X E) (ha : PA X (e :: es) t) (hkw : PK X kws tk)
    (hall : (backToKw pos (keywordEach kws X.env)).all (·.1.isSome) = true := by rfl) (hks : (backToKw pos (keywordEach kws X.env)).filterMap (·.1) = ks := by rfl)
    (hst : starEach (e :: es) X.env = (false, eval e X.env) :: starEach es X.env := by rfl)
    (hpl : ((backTo pos (starEach (e :: es) X.env)).any (·.1) || (backToKw pos (keywordEach kws X.env)).any (·.1.isNone)) = false := by rfl)
    (ht : eval (.Call (.Attribute o m apos) (e :: es) kws pos) X.env = (do
      let ov ← eval o X.env
      standAt apos.atName
      let (f, first) ← holding [ov] (getMethod ov m pl)
      callWith pos f first (backTo pos (starEach (e :: es) X.env)) (backToKw pos (keywordEach kws X.env))) := by rfl) :
    PE X (.Call (.Attribute o m apos) (e :: es) kws pos) (tMethN C m n ks.length sp gV E ta t tk) := by
  refine ⟨fun pins s σ H Q I h => ?_⟩
  refine PySem.W.methodCall_KW (pl := pl) (thn (he.run pins s σ H _ I h) fun u s1 ⟨x, H1, I1, rx, a, dx, fs, ex, ea, l, q⟩ => ?_) ht
  subst ex
  obtain rfl : u = Value.ref a := rx
  refine getmeth_ok I1 ea c hm l ?_
  refine PySem.W.callWith_KW (first := [.ref a]) (h₀ := X.base) I.ok.mod.kin hm.kp hall (thn (ha.run pos pins s1 σ H1 _ I1 q) fun us s2 ⟨vs, H2, I2, r, q2⟩ => ?_) hpl hst
  refine thn (hkw.run pos pins s2 σ H2 _ I2 q2) fun ws s3 ⟨zs, H3, I3, rz, l1, l2, q3⟩ => ⟨I3.kIn, ?_⟩
  rw [hks]
  exact run_fnN (us := .ref a :: us) (vs := .ref a :: vs) F hr hb hx I3 (.cons rfl r) rz (by rw [List.length_cons, l1]) l2 q3
end
/-! the ways to call put -/
/-- age, village, gatherer, word, teller, thing; sure left out -/
def gP1 {α : Type} : List α → List α → List α → List α
  | [s], [_, b], [ag, v, g, w, tl, th] => [s, v, th, w, tl, ag, g, b]
  | _, _, _ => []
/-- five by place, sure by name -/
def gP2 {α : Type} : List α → List α → List α → List α
  | [s, v, th, w, tl, ag], [g, _], [b] => [s, v, th, w, tl, ag, g, b]
  | _, _, _ => []
/-- all by name: sure, gatherer, age, teller, word, thing, village -/
def gP3 {α : Type} : List α → List α → List α → List α
  | [s], [_, _], [b, g, ag, tl, w, th, v] => [s, v, th, w, tl, ag, g, b]
  | _, _, _ => []
theorem gP1_rel {vs ds zs : List V} {us its ws : List Value} (r1 : Vals vs us) (r2 : Vals ds its) (r3 : Vals zs ws) : Vals (gP1 vs ds zs) (gP1 us its ws) := by
  rcases r1 with _ | ⟨a1, _ | ⟨_, _⟩⟩
  · exact .nil
  · rcases r2 with _ | ⟨b1, _ | ⟨b2, _ | ⟨_, _⟩⟩⟩
    · exact .nil
    · exact .nil
    · rcases r3 with _ | ⟨c1, _ | ⟨c2, _ | ⟨c3, _ | ⟨c4, _ | ⟨c5, _ | ⟨c6, _ | ⟨_, _⟩⟩⟩⟩⟩⟩⟩
      all_goals first | exact .nil | exact .cons a1 (.cons c2 (.cons c6 (.cons c4 (.cons c5 (.cons c1 (.cons c3 (.cons b2 .nil)))))))
    · exact .nil
  · exact .nil
theorem gP2_rel {vs ds zs : List V} {us its ws : List Value} (r1 : Vals vs us) (r2 : Vals ds its) (r3 : Vals zs ws) : Vals (gP2 vs ds zs) (gP2 us its ws) := by
  rcases r1 with _ | ⟨a1, _ | ⟨a2, _ | ⟨a3, _ | ⟨a4, _ | ⟨a5, _ | ⟨a6, _ | ⟨_, _⟩⟩⟩⟩⟩⟩⟩
  all_goals first | exact .nil | skip
  rcases r2 with _ | ⟨b1, _ | ⟨b2, _ | ⟨_, _⟩⟩⟩
  all_goals first | exact .nil | skip
  rcases r3 with _ | ⟨c1, _ | ⟨_, _⟩⟩
  all_goals first | exact .nil | exact .cons a1 (.cons a2 (.cons a3 (.cons a4 (.cons a5 (.cons a6 (.cons b1 (.cons c1 .nil)))))))
theorem gP3_rel {vs ds zs : List V} {us its ws : List Value} (r1 : Vals vs us) (r2 : Vals ds its) (r3 : Vals zs ws) : Vals (gP3 vs ds zs) (gP3 us its ws) := by
  rcases r1 with _ | ⟨a1, _ | ⟨_, _⟩⟩
  all_goals first | exact .nil | skip
  rcases r2 with _ | ⟨b1, _ | ⟨b2, _ | ⟨_, _⟩⟩⟩
  all_goals first | exact .nil | skip
  rcases r3 with _ | ⟨c1, _ | ⟨c2, _ | ⟨c3, _ | ⟨c4, _ | ⟨c5, _ | ⟨c6, _ | ⟨c7, _ | ⟨_, _⟩⟩⟩⟩⟩⟩⟩⟩
  all_goals first | exact .nil | exact .cons a1 (.cons c7 (.cons c6 (.cons c5 (.cons c4 (.cons c3 (.cons c2 (.cons c1 .nil)))))))
section
variable {K : PySem.W.Frag} {f : Addr} {fd : FuncData}
theorem put_b8 (F : FunP K f fd) : Binds K fd psPut [] := by
  obtain ⟨ds, h1, h2⟩ := F.binds1 (ps := psPut) 8 2 (by simp) rfl (fun T kV doc pm an cdv ct us its l1 l2 => by
      match us, its, l1, l2 with
      | [_, _, _, _, _, _, _, _], [_, _], _, _ => exact ⟨_, rfl, rfl⟩)
  cases h1
  exact h2
theorem put_b6 (F : FunP K f fd) : ∃ ds, Vals [V.str "self", V.bl true] ds ∧ Binds K fd psPut ds :=
  F.binds1 (ps := psPut) 6 0 (by simp) rfl (fun T kV doc pm an cdv ct us its l1 l2 => by
      match us, its, l1, l2 with
      | [_, _, _, _, _, _], [_, _], _, _ => exact ⟨_, rfl, rfl⟩)
theorem put_k1 (F : FunP K f fd) : ∃ its : List Value, KBn K fd psPut 1 ["age", "village", "gatherer", "word", "teller", "thing"] (fun us ws => gP1 us its ws) (fun vs zs => gP1 vs [.str "self", .bl true] zs) :=
  F.kbindsD 1 _ gP1 (by simp) gP1_rel (fun T kV doc pm an cdv ct us its ws l1 l2 l3 => by
      match us, its, ws, l1, l2, l3 with
      | [_], [_, _], [_, _, _, _, _, _], _, _, _ => exact ⟨_, rfl, rfl⟩)
theorem put_k2 (F : FunP K f fd) : ∃ its : List Value, KBn K fd psPut 6 ["sure"] (fun us ws => gP2 us its ws) (fun vs zs => gP2 vs [.str "self", .bl true] zs) :=
  F.kbindsD 6 _ gP2 (by simp) gP2_rel (fun T kV doc pm an cdv ct us its ws l1 l2 l3 => by
      match us, its, ws, l1, l2, l3 with
      | [_, _, _, _, _, _], [_, _], [_], _, _, _ => exact ⟨_, rfl, rfl⟩)
theorem put_k3 (F : FunP K f fd) : ∃ its : List Value, KBn K fd psPut 1 ["sure", "gatherer", "age", "teller", "word", "thing", "village"] (fun us ws => gP3 us its ws) (fun vs zs => gP3 vs [.str "self", .bl true] zs) :=
  F.kbindsD 1 _ gP3 (by simp) gP3_rel (fun T kV doc pm an cdv ct us its ws l1 l2 l3 => by
      match us, its, ws, l1, l2, l3 with
      | [_], [_, _], [_, _, _, _, _, _, _], _, _, _ => exact ⟨_, rfl, rfl⟩)
end
end Wl





/-! Texts each once, as first met; dicts by texts. -/
namespace Wl
open PySem PySem.Spec PyProof.Rows L2
def addK (acc : List Str) (z : Str) : List Str := if z ∈ acc then acc else acc ++ [z]
def keysOf (l : List Str) : List Str := l.foldl addK []
theorem keysOf_snoc (l : List Str) (z : Str) : keysOf (l ++ [z]) = addK (keysOf l) z := by
  unfold keysOf
  rw [List.foldl_append]
  rfl
theorem mem_addK {acc : List Str} {z y : Str} : y ∈ addK acc z ↔ y ∈ acc ∨ y = z := by
  unfold addK
  split
  · constructor
    · exact .inl
    · rintro (h | rfl) <;> assumption
  · simp
theorem foldK_mem {y : Str} : ∀ {l acc : List Str}, y ∈ l.foldl addK acc ↔ y ∈ acc ∨ y ∈ l
  | [], acc => by simp
  | z :: l, acc => by
    rw [List.foldl_cons, foldK_mem (l := l), mem_addK, List.mem_cons]
    constructor
    · rintro ((h | h) | h)
      · exact .inl h
      · exact .inr (.inl h)
      · exact .inr (.inr h)
    · rintro (h | h | h)
      · exact .inl (.inl h)
      · exact .inl (.inr h)
      · exact .inr h
theorem mem_keysOf {l : List Str} {y : Str} : y ∈ keysOf l ↔ y ∈ l := by
  unfold keysOf
  rw [foldK_mem]
  simp
theorem addK_nodup {acc : List Str} {z : Str} (h : acc.Nodup) : (addK acc z).Nodup := by
  unfold addK
  split
  · exact h
  · rename_i n
    rw [List.nodup_append]
    exact ⟨h, by simp, fun a ha b hb e => n (by rw [List.mem_singleton.mp hb] at e; exact e ▸ ha)⟩
theorem foldK_nodup : ∀ {l acc : List Str}, acc.Nodup → (l.foldl addK acc).Nodup
  | [], _, h => h
  | _ :: l, _, h => foldK_nodup (l := l) (addK_nodup h)
theorem keysOf_nodup (l : List Str) : (keysOf l).Nodup := foldK_nodup List.nodup_nil
theorem addK_len (acc : List Str) (z : Str) : (addK acc z).length ≤ acc.length + 1 := by
  unfold addK
  split
  · omega
  · simp
theorem foldK_len : ∀ (l acc : List Str), (l.foldl addK acc).length ≤ acc.length + l.length
  | [], acc => by simp
  | z :: l, acc => by
    have h1 := foldK_len l (addK acc z)
    have h2 := addK_len acc z
    rw [List.foldl_cons, List.length_cons]
    omega
theorem keysOf_len (l : List Str) : (keysOf l).length ≤ l.length := by
  have := foldK_len l []
  simpa [keysOf] using this
/-- the pairs of a dict whose keys are these texts -/
def kvZ (ad : Str → V) (l : List Str) : List (Key × V) := l.map fun z => (Sum.inr z, ad z)
theorem valV_kvZ (ad : Str → V) (z : Str) : ∀ l : List Str, valV (kvZ ad l) (Sum.inr z : Key) = if z ∈ l then some (ad z) else none
  | [] => rfl
  | d :: r => by
    by_cases h : d = z
    · subst h
      rw [if_pos List.mem_cons_self]
      exact valV_pos rfl
    · have h1 : valV (kvZ ad (d :: r)) (Sum.inr z : Key) = valV (kvZ ad r) (Sum.inr z : Key) := valV_neg fun e => h (Sum.inr.inj e)
      rw [h1, valV_kvZ ad z r]
      have h2 : (z ∈ d :: r) = (z ∈ r) := by
        simp only [List.mem_cons, eq_iff_iff]
        constructor
        · rintro (e | e)
          · exact absurd e.symm h
          · exact e
        · exact .inr
      simp only [h2]
theorem valV_in {ad : Str → V} {z : Str} {l : List Str} (h : z ∈ l) : valV (kvZ ad l) (Sum.inr z : Key) = some (ad z) := by
  rw [valV_kvZ, if_pos h]
theorem valV_out {ad : Str → V} {z : Str} {l : List Str} (h : z ∉ l) : valV (kvZ ad l) (Sum.inr z : Key) = none := by
  rw [valV_kvZ, if_neg h]
theorem kvZ_congr {a b : Str → V} {l : List Str} (h : ∀ c ∈ l, a c = b c) : kvZ a l = kvZ b l := List.map_congr_left fun c hc => by rw [h c hc]
theorem kvZ_keys (ad : Str → V) (l : List Str) : (kvZ ad l).map (fun kv => kV kv.1) = l.map V.str := by
  unfold kvZ
  rw [List.map_map]
  rfl
theorem kvZ_len (ad : Str → V) (l : List Str) : (kvZ ad l).length = l.length := List.length_map _
theorem sortS_nodup {l : List Str} (h : l.Nodup) : (sortS l).Nodup := (List.mergeSort_perm l leB).nodup_iff.mpr h
end Wl

namespace Wl
open PySem PySem.Spec PyProof.Rows L2
abbrev sGTell : Stmt := inClass sGat 6
abbrev sCheckG : Stmt := topS 54
abbrev sSum : Stmt := topS 57
abbrev sByV : Stmt := topS 58
noncomputable def wordsIn (chs : List Chg) (ts : List Tel) : List Str := sortS (keysOf (ts.map fun t => mean chs t.wo))
theorem mem_wordsIn {chs : List Chg} {ts : List Tel} {z : Str} : z ∈ wordsIn chs ts ↔ ∃ t ∈ ts, mean chs t.wo = z := by
  unfold wordsIn
  rw [mem_sortS, mem_keysOf, List.mem_map]
/-- the ages of those who told a word -/
noncomputable def agesZ (chs : List Chg) (ts : List Tel) (z : Str) : List Int := (ts.filter fun t => decide (mean chs t.wo = z)).map fun t => (t.age : Int)
noncomputable def lowZ (chs : List Chg) (ts : List Tel) (z : Str) : Int := (agesZ chs ts z).min?.getD 0
noncomputable def highZ (chs : List Chg) (ts : List Tel) (z : Str) : Int := (agesZ chs ts z).max?.getD 0
theorem low_eq {ns : List Int} {m : Int} (h1 : m ∈ ns) (h2 : ∀ x ∈ ns, m ≤ x) : ns.min?.getD 0 = m := by
  rw [List.min?_eq_some_iff.mpr ⟨h1, h2⟩]
  rfl
theorem high_eq {ns : List Int} {m : Int} (h1 : m ∈ ns) (h2 : ∀ x ∈ ns, x ≤ m) : ns.max?.getD 0 = m := by
  rw [List.max?_eq_some_iff.mpr ⟨h1, h2⟩]
  rfl
theorem ages_snoc (chs : List Chg) {ts : List Tel} {i : Nat} {t : Tel} (ht : ts[i]? = some t) (z : Str) : agesZ chs (ts.take (i + 1)) z = agesZ chs (ts.take i) z ++ (if mean chs t.wo = z then [(t.age : Int)] else []) := by
  unfold agesZ
  rw [take_snoc ht, List.filter_append, List.map_append]
  congr 1
  by_cases c : mean chs t.wo = z
  · simp [c]
  · simp [c]
theorem ages_none {chs : List Chg} {ts : List Tel} {z : Str} (h : z ∉ keysOf (ts.map fun t => mean chs t.wo)) : agesZ chs ts z = [] := by
  unfold agesZ
  rw [List.map_eq_nil_iff, List.filter_eq_nil_iff]
  intro t ht e
  exact h (mem_keysOf.mpr (List.mem_map.mpr ⟨t, ht, of_decide_eq_true e⟩))
/-- what was told of each word: youngest, oldest, how many -/
def RowsT (H : Hp) (t : Addr) (chs : List Chg) (ts : List Tel) : Prop := ∃ as : List Addr, H t = some (.tup (as.map V.ref)) ∧ Each (fun (p : Addr) (z : Str) => H p = some (.tup [.str z, .int (lowZ chs ts z), .int (highZ chs ts z), .int ((agesZ chs ts z).length : Nat)])) as (wordsIn chs ts)
theorem RowsT.keep {H H' : Hp} {t : Addr} {chs : List Chg} {ts : List Tel} (h : RowsT H t chs ts) (k : TupKeep H H') : RowsT H' t chs ts := by
  obtain ⟨as, h1, h2⟩ := h
  exact ⟨as, k _ _ h1, h2.mono fun p z e => k _ _ e⟩
section
variable {P : Program} {w : World} {K : PySem.W.Frag} {mg : Str → Option Value} {base : Heap} {f C D : Addr} {fd : FuncData}
/-! ### tellings, as put in -/
abbrev FunT (K : PySem.W.Frag) (f : Addr) (fd : FuncData) : Prop := FunD K "tellings" "Gathering.tellings" (defArgs sGTell) (defBody sGTell) (defScope sGTell) [.non] [] f fd
def spTell (C D : Addr) : Sp := fun vs H Q _ => ∃ (p : Addr) (r : GR), vs = [.ref p, .non] ∧ GatAt C D H p r ∧ ∀ (l : Addr), H l = none → Q (.ref l) (upd H l (.lst (r.as.map V.ref)))
theorem scTell : FnScope ["self", "keying"] ["self", "keying"] (defScope sGTell) := ⟨rfl, rfl, rfl, by decide +kernel, rfl, by decide +kernel, by decide +kernel⟩
theorem tell_b1 (F : FunT K f fd) : ∃ ds, Vals [V.non] ds ∧ Binds K fd ["self", "keying"] ds :=
  F.binds1 (ps := ["self", "keying"]) 1 0 (by simp) rfl (fun T kV doc pm an cdv ct us its l1 l2 => by
      match us, its, l1, l2 with
      | [_], [_], _, _ => exact ⟨_, rfl, rfl⟩)
theorem ok_tell (F : FunT K f fd) (B : Bi mg) (TG : TxtG K mg D) : FnOk P w K mg base CX0 1 f fd ["self", "keying"] (spTell C D) := by
  refine okD F scTell (fun vs H Q E h => ?_) (fun cdv A outer s H vs Q E hr h => ?_)
  · obtain ⟨p, r, rfl, _⟩ := h
    rfl
  · obtain ⟨p, r, rfl, hG, q⟩ := h
    refine ⟨_, pss_cons (ps_if (pt_cmp (pc_isN (pv 1))) (pss_one (ps_ret (pe_callTy call_list_of (by rfl) B.list (by decide +kernel) (pa_cons (pe_fld (pv 0) rfl) pa_nil)))) pss_nil) (pss_one ps_never), ?_⟩
    obtain ⟨dx, hp⟩ := hG.at_
    exact ⟨_, rfl, _, rfl, iteT ⟨_, rfl, p, D, dx, _, _, rfl, hp, TG.cl, TG.nT, gf_told _ _ _, r.td, _, rfl, .inl (.inl (.inl hG.told)), q⟩⟩
/-! ### check_gathering -/
def spCheckG (C D : Addr) : Sp := fun vs H Q _ => ∃ (p : Addr) (r : GR), vs = [.ref p] ∧ GatAt C D H p r ∧ Q .non H
theorem scCheckG : FnScope ["thing"] ["thing"] (defScope sCheckG) := ⟨rfl, rfl, rfl, by decide +kernel, rfl, by decide +kernel, by decide +kernel⟩
theorem ok_checkg (F : Fun K "check_gathering" "check_gathering" sCheckG f fd) (B : Bi mg) (TG : TxtG K mg D) (ins : C8.InsC K D) : FnOk P w K mg base CX0 1 f fd ["thing"] (spCheckG C D) := by
  refine F.ok scCheckG (fun vs H Q E h => ?_) (fun cdv A outer s H vs Q E hr h => ?_)
  · obtain ⟨p, r, rfl, _⟩ := h
    rfl
  · obtain ⟨p, r, rfl, hG, q⟩ := h
    refine ⟨_, pss_one (ps_if (pt_not (pt_val (pe_callB (C8.call_isC (C := D) ins) (by rfl) B.isi (by decide +kernel) (pa_cons (pv 0) (pa_cons (pe_glob (v := .ref D) rfl TG.mgD rfl) pa_nil))))) (pss_one ps_never) pss_nil), ?_⟩
    obtain ⟨dx, hp⟩ := hG.at_
    exact ⟨_, rfl, p, dx, _, rfl, hp, true, rfl, iteF q⟩
/-! ### summed_up -/
structure AgesI (H0 H : Hp) (d : Addr) (ks : List Str) (ad : Str → Addr) (ag : Str → List Int) (m : Nat) : Prop where
  dict : H d = some (.dK (kvZ (fun z => .ref (ad z)) ks))
  lst : ∀ z ∈ ks, H (ad z) = some (.lst ((ag z).map V.int)) ∧ ag z ≠ [] ∧ (ag z).length ≤ m
  inj : ∀ z ∈ ks, ∀ y ∈ ks, ad z = ad y → z = y
  new : ∀ z ∈ ks, H0 (ad z) = none
theorem AgesI.same {H0 H H' : Hp} {d : Addr} {ks : List Str} {ad : Str → Addr} {ag : Str → List Int} {m : Nat} (h : AgesI H0 H d ks ad ag m) (s : Same H H') : AgesI H0 H' d ks ad ag m :=
  ⟨s _ _ h.dict, fun z hz => let ⟨e, k⟩ := h.lst z hz; ⟨s _ _ e, k⟩, h.inj, h.new⟩
def spSum : Sp := fun vs H Q _ => ∃ (l S : Addr) (as : List Addr) (ts : List Tel) (chs : List Chg), vs = [.ref l, .ref S] ∧ H l = some (.lst (as.map V.ref)) ∧ TelsAt H as ts ∧ (∀ t ∈ ts, OkT t) ∧ ts.length ≤ 200 ∧ ChAt H S chs ∧ OkCs chs ∧
  ∀ (t : Addr) (H' : Hp), Same H H' → RowsT H' t chs ts → Q (.ref t) H'
abbrev nSum : List Str := ["tellings", "changes", "ages", "telling", "word"]
theorem scSum : FnScope nSum ["tellings", "changes"] (defScope sSum) := ⟨rfl, rfl, rfl, by decide +kernel, rfl, by decide +kernel, by decide +kernel⟩
theorem ok_sum (F : Fun K "summed_up" "summed_up" sSum f fd) (B : Bi mg) (hM : HasN P w K mg base "meaning" wMean 5 ps2 spMean) : FnOk P w K mg base CX0 6 f fd ["tellings", "changes"] spSum := by
  obtain ⟨fM, fdM, FM, mM, NM⟩ := hM
  have bM := bindM2 NM
  refine F.ok scSum (fun vs H Q E h => ?_) (fun cdv A outer s H vs Q E hr h => ?_)
  · obtain ⟨l, S, as, ts, chs, rfl, _⟩ := h
    rfl
  · obtain ⟨l, S, as, ts, chs, rfl, hl, hT, hok, h200, hS, okc, q⟩ := h
    have hu := hu_of hr
    refine ⟨_, pss_cons (ps_set (i := 2) scSum.nd rfl (.inr rfl) pe_dnewK)
      (pss_cons (ps_for PassesOwn.never rfl (pi_list (pv 0)) (pg_name (i := 3) scSum.nd rfl (.inl rfl))
        (pss_cons (ps_set (i := 4) scSum.nd rfl (.inl rfl) (pe_call FM hr rfl mM NM.kp bM .nil pass0 (pa_cons (pe_ix ix_tup (pv 3) pe_int (fun _ _ => rfl)) (pa_cons (pv 1) pa_nil))))
        (pss_cons (ps_if (pt_cmp (pc_dnotin hu (pv 4) (pv 2))) (pss_one (ps_dput hu (pv 2) (pv 4) (pe_lst pa_nil) rfl)) pss_nil)
        (pss_one (ps_expr (pe_bm PySem.F.plainAttrs_list PySem.F.slot_list_append PySem.F.type_list_append mt_append (pe_dget hu (pv 2) (pv 4) (fun _ _ => rfl)) (pa_cons (pe_ix ix_tup (pv 3) pe_int (fun _ _ => rfl)) pa_nil)))))))
      (pss_one (ps_ret (pe_callTy call_tuple_of (by rfl) B.tuple (by decide +kernel) (pa_cons (pe_lc (own := [("word", 4)]) (g := gName 4) (tt := tYes)
        (te := tTup (tCons (tVar 4) (tCons (tCB (rMin K) (tCons (tDGet (tVar 2) (tVar 4)) tNil)) (tCons (tCB (rMax K) (tCons (tDGet (tVar 2) (tVar 4)) tNil)) (tCons (tCB (fun xs H Q => ∃ p ys, xs = [.ref p] ∧ ((SqL K H p ys) ∨ SqT K H p ys) ∧ Q (.int ys.length) H) (tCons (tDGet (tVar 2) (tVar 4)) tNil)) tNil)))))
        rfl scSum.nd (pi_list (pe_callB (cr_sortD hr.units) (by rfl) B.sorted (by decide +kernel) (pa_cons (pe_callTy (call_list_dK rfl) (by rfl) B.list (by decide +kernel) (pa_cons (pv 2) pa_nil)) pa_nil))) (blkOk_by (N := nSum) (sc := defScope sSum) (by decide +kernel)) (fun _ _ _ _ _ => pg_name (i := 4) scSum.nd rfl (.inl rfl)) (fun _ _ _ _ _ => pts_nil)
        (fun _ _ _ _ _ => pe_tup (pa_cons (pv 4) (pa_cons (pe_callB (cr_min rfl) (by rfl) B.min (by decide +kernel) (pa_cons (pe_dget hu (pv 2) (pv 4) (fun _ _ => rfl)) pa_nil)) (pa_cons (pe_callB (cr_max rfl) (by rfl) B.max (by decide +kernel) (pa_cons (pe_dget hu (pv 2) (pv 4) (fun _ _ => rfl)) pa_nil)) (pa_cons (pe_callB call_len_seq (by rfl) B.len PySem.boot_len (pa_cons (pe_dget hu (pv 2) (pv 4) (fun _ _ => rfl)) pa_nil)) pa_nil)))))) pa_nil))))), ?_⟩
    intro d hd
    have hlen : as.length = ts.length := hT.length
    have s0 : Same H (upd H d (.dK [])) := same_new hd
    refine ⟨_, rfl, l, rfl, ⟨_, .inl (.inl (s0 _ _ hl))⟩, for_list (K := K) (a := l) (xs := as.map V.ref) (fun i σ H' => (∃ y3 y4, σ = [some (.ref l), some (.ref S), some (.ref d), y3, y4]) ∧ Same H H' ∧ ∃ ad, AgesI H H' d (keysOf ((ts.take i).map fun t => mean chs t.wo)) ad (agesZ chs (ts.take i)) i)
      ⟨⟨_, _, rfl⟩, s0, fun _ => 0, ⟨upd_same, fun z hz => (by cases hz), fun z hz => (by cases hz), fun z hz => (by cases hz)⟩⟩ (fun i σ H' _ h => .inl (.inl (h.2.1 _ _ hl))) ?_ ?_⟩
    · rintro i x σ H1 hx ⟨⟨y3, y4, rfl⟩, s1, ad, I1⟩
      rw [List.getElem?_map] at hx
      obtain ⟨pt, hpt, rfl⟩ := Option.map_eq_some_iff.mp hx
      obtain ⟨t, ht, hH⟩ := Each.get hT hpt
      have okt := hok t (List.mem_of_getElem? ht)
      have hi200 : i < 200 := by
        have := (List.getElem?_eq_some_iff.mp ht).1
        omega
      have hpt1 := s1 _ _ hH
      refine ⟨_, rfl, pt, _, _, _, rfl, rfl, .inl (.inl hpt1), atI_nat (j := 2) rfl, _, rfl, t.wo, .ref S, chs, rfl, okt.wo, .inr ⟨S, rfl, hS.same s1⟩, okc, fun H2 s2 => ?_⟩
      have I2 := I1.same s2
      have hpt2 := s2 _ _ hpt1
      have snoc := ages_snoc chs ht
      have noneZ := @ages_none chs (ts.take i)
      generalize hz : mean chs t.wo = z at snoc
      have ek : keysOf ((ts.take (i + 1)).map fun t => mean chs t.wo) = addK (keysOf ((ts.take i).map fun t => mean chs t.wo)) z := by
        rw [take_snoc ht, List.map_append, ← hz]
        exact keysOf_snoc _ _
      have kl := keysOf_len ((ts.take i).map fun t => mean chs t.wo)
      rw [List.length_map, List.length_take] at kl
      generalize keysOf ((ts.take i).map fun t => mean chs t.wo) = ks at I2 ek kl noneZ
      generalize agesZ chs (ts.take i) = ag at I2 snoc noneZ
      generalize agesZ chs (ts.take (i + 1)) = ag2 at snoc ⊢
      have s12 := s1.trans s2
      refine ⟨_, rfl, _, rfl, d, _, rfl, DGet.k (k := Sum.inr z) I2.dict, _, rfl, ?_⟩
      by_cases hm : z ∈ ks
      · rw [valV_in hm]
        refine iteF ?_
        obtain ⟨hn, hne, hnl⟩ := I2.lst z hm
        have e1 : addK ks z = ks := if_pos hm
        have nd : d ≠ ad z := ne_of I2.dict hn (by intro q; cases q)
        refine ⟨_, rfl, _, rfl, d, .ref (ad z), rfl, ?_, .inl ⟨rfl, _, .inl (.inl hn)⟩, _, rfl, pt, _, _, _, rfl, rfl, .inl (.inl hpt2), atI_nat (j := 4) rfl, ad z, _, _, rfl, rfl, hn, ?_, ⟨_, _, rfl⟩, same_mut s12 (I2.new z hm), ad, ?_⟩
        · have := DGet.k (k := Sum.inr z) I2.dict
          rw [valV_in hm] at this
          exact this
        · rw [List.length_map]
          exact small1000 (by omega)
        · rw [ek, e1]
          refine ⟨by rw [upd_ne nd]; exact I2.dict, fun y hy => ?_, I2.inj, I2.new⟩
          by_cases c : y = z
          · subst c
            rw [snoc, if_pos rfl]
            exact ⟨by rw [upd_same, List.map_append]; rfl, by simp, by rw [List.length_append]; simp; omega⟩
          · obtain ⟨h1, h2, h3⟩ := I2.lst y hy
            rw [snoc, if_neg fun e => c e.symm, List.append_nil]
            exact ⟨by rw [upd_ne fun e => c (I2.inj y hy z hm e)]; exact h1, h2, by omega⟩
      · rw [valV_out hm]
        refine iteT ⟨lz, fun L hL => ⟨_, rfl, _, rfl, d, _, rfl, DPut.k (k := Sum.inr z) ((same_new hL) _ _ I2.dict) ?_, ?_⟩⟩
        · rw [kvZ_len]
          exact small1000 (by omega)
        have hv : valV (kvZ (fun z => V.ref (ad z)) ks) (Sum.inr z : Key) = none := valV_out hm
        have nLd : d ≠ L := ne_of_none I2.dict hL
        have s3 : Same H2 (upd H2 L (.lst [])) := same_new hL
        have hd3 := s3 _ _ I2.dict
        have hL3 : upd H2 L (.lst []) L = some (.lst []) := upd_same
        have hpt3 := s3 _ _ hpt2
        have I3 := I2.same s3
        have hL0 : H L = none := s12.free hL
        generalize upd H2 L (.lst []) = H3 at s3 hd3 hL3 hpt3 I3
        rw [putK_new _ hv]
        let ad' : Str → Addr := fun y => if y = z then L else ad y
        have eA : kvZ (fun z => V.ref (ad z)) ks ++ [(Sum.inr z, V.ref L)] = kvZ (fun y => V.ref (ad' y)) (ks ++ [z]) := by
          unfold kvZ
          rw [List.map_append]
          congr 1
          · refine List.map_congr_left fun y hy => ?_
            have : y ≠ z := fun e => hm (e ▸ hy)
            simp only [ad', if_neg this]
          · simp [ad']
        rw [eA]
        have e1 : addK ks z = ks ++ [z] := if_neg hm
        have hd4 : upd H3 d (.dK (kvZ (fun y => V.ref (ad' y)) (ks ++ [z]))) d = some (.dK (kvZ (fun y => V.ref (ad' y)) (ks ++ [z]))) := upd_same
        have hL4 : upd H3 d (.dK (kvZ (fun y => V.ref (ad' y)) (ks ++ [z]))) L = some (.lst []) := by
          rw [upd_ne nLd.symm]
          exact hL3
        have hpt4 : upd H3 d (.dK (kvZ (fun y => V.ref (ad' y)) (ks ++ [z]))) pt = some (.tup (telV t)) := by
          rw [upd_ne (ne_of hpt3 hd3 (by intro q; cases q))]
          exact hpt3
        have s14 : Same H (upd H3 d (.dK (kvZ (fun y => V.ref (ad' y)) (ks ++ [z])))) := same_mut (s12.trans s3) hd
        have old : ∀ y ∈ ks, upd H3 d (.dK (kvZ (fun y => V.ref (ad' y)) (ks ++ [z]))) (ad y) = some (.lst ((ag y).map V.int)) ∧ ag y ≠ [] ∧ (ag y).length ≤ i := fun y hy => by
          obtain ⟨h1, h2, h3⟩ := I3.lst y hy
          exact ⟨by rw [upd_ne (ne_of h1 hd3 (by intro q; cases q))]; exact h1, h2, h3⟩
        have nL : ∀ y ∈ ks, ad y ≠ L := fun y hy e => by
          obtain ⟨h1, _⟩ := I2.lst y hy
          rw [e, hL] at h1
          cases h1
        generalize upd H3 d (.dK (kvZ (fun y => V.ref (ad' y)) (ks ++ [z]))) = H4 at hd4 hL4 hpt4 s14 old
        have nLd4 : d ≠ L := nLd
        refine ⟨_, rfl, _, rfl, d, .ref L, rfl, ?_, .inl ⟨rfl, _, .inl (.inl hL4)⟩, _, rfl, pt, _, _, _, rfl, rfl, .inl (.inl hpt4), atI_nat (j := 4) rfl, L, _, _, rfl, rfl, hL4, (by show 0 < sizeLine; decide), ⟨_, _, rfl⟩, same_mut s14 hL0, ad', ?_⟩
        · have := DGet.k (k := Sum.inr z) hd4
          have eL : ad' z = L := if_pos rfl
          rw [valV_in (by simp), eL] at this
          exact this
        · rw [ek, e1]
          refine ⟨by rw [upd_ne nLd]; exact hd4, fun y hy => ?_, fun y hy x hx e => ?_, fun y hy => ?_⟩
          · by_cases c : y = z
            · subst c
              rw [snoc, if_pos rfl, noneZ hm]
              exact ⟨by simp only [ad', if_true]; rw [upd_same]; rfl, by simp, by simp⟩
            · have hy' : y ∈ ks := by
                rcases List.mem_append.mp hy with h | h
                · exact h
                · exact absurd (List.mem_singleton.mp h) c
              obtain ⟨h1, h2, h3⟩ := old y hy'
              rw [snoc, if_neg fun e => c e.symm, List.append_nil]
              refine ⟨?_, h2, by omega⟩
              simp only [ad', if_neg c]
              rw [upd_ne (nL y hy')]
              exact h1
          · have mm : ∀ u ∈ ks ++ [z], u ≠ z → u ∈ ks := fun u hu c => by
              rcases List.mem_append.mp hu with h | h
              · exact h
              · exact absurd (List.mem_singleton.mp h) c
            by_cases c1 : y = z
            · by_cases c2 : x = z
              · rw [c1, c2]
              · simp only [ad', if_pos c1, if_neg c2] at e
                exact absurd e.symm (nL x (mm x hx c2))
            · by_cases c2 : x = z
              · simp only [ad', if_neg c1, if_pos c2] at e
                exact absurd e (nL y (mm y hy c1))
              · simp only [ad', if_neg c1, if_neg c2] at e
                exact I2.inj y (mm y hy c1) x (mm x hx c2) e
          · by_cases c : y = z
            · simp only [ad', if_pos c]
              exact hL0
            · have hy' : y ∈ ks := by
                rcases List.mem_append.mp hy with h | h
                · exact h
                · exact absurd (List.mem_singleton.mp h) c
              simp only [ad', if_neg c]
              exact I2.new y hy'
    · rintro σ H1 ⟨⟨y3, y4, rfl⟩, s1, ad, I1⟩
      rw [List.length_map, hlen, List.take_length] at I1
      have kl := keysOf_len (ts.map fun t => mean chs t.wo)
      rw [List.length_map] at kl
      have kn := keysOf_nodup (ts.map fun t => mean chs t.wo)
      have ew : wordsIn chs ts = sortS (keysOf (ts.map fun t => mean chs t.wo)) := rfl
      generalize keysOf (ts.map fun t => mean chs t.wo) = ks at I1 kl kn ew
      refine ⟨_, rfl, d, _, rfl, I1.dict, fun a1 h1 => ?_⟩
      rw [kvZ_keys]
      dsimp only [tNil]
      refine sort_reads (K := K) (.inl (.inl upd_same)) fun a2 h2 => ?_
      have s3 : Same H1 (upd (upd H1 a1 (.lst (ks.map V.str))) a2 (.lst ((sortS ks).map V.str))) := (same_new h1).trans (same_new h2)
      have ha2 : upd (upd H1 a1 (.lst (ks.map V.str))) a2 (.lst ((sortS ks).map V.str)) a2 = some (.lst ((sortS ks).map V.str)) := upd_same
      generalize upd (upd H1 a1 (.lst (ks.map V.str))) a2 (.lst ((sortS ks).map V.str)) = H3 at s3 ha2
      have I3 := I1.same s3
      refine ⟨a2, rfl, ⟨_, .inl (.inl ha2)⟩, fun Dd hD => ?_⟩
      refine lc_rel (walk_list (K := K) (a := a2) (xs := (sortS ks).map V.str)) hD (fun _ => true) (fun x y H' => ∃ z p, x = .str z ∧ y = .ref p ∧ H' p = some (.tup [.str z, .int (lowZ chs ts z), .int (highZ chs ts z), .int ((agesZ chs ts z).length : Nat)])) (fun H' s' => .inl (.inl (s' _ _ ha2))) (fun _ => rfl) (fun x H' _ _ Q' q' => q') ?_ ?_ ?_ ?_
      · intro x H' hx _ s' Q' q'
        obtain ⟨z, hz, rfl⟩ := List.mem_map.mp hx
        have hzk : z ∈ ks := mem_sortS.mp hz
        obtain ⟨hn, hne, hnl⟩ := I3.lst z hzk
        obtain ⟨ns, ens⟩ : ∃ ns, ns = agesZ chs ts z := ⟨_, rfl⟩
        rw [← ens] at hn hne hnl
        have hdv : DGet H' d (.str z) (some (.ref (ad z))) := by
          have := DGet.k (k := Sum.inr z) (s' _ _ I3.dict)
          rw [valV_in hzk] at this
          exact this
        have hn' := s' _ _ hn
        have hp : 0 < ns.length := List.length_pos_iff.mpr hne
        refine ⟨_, rfl, _, rfl, _, rfl, d, _, rfl, hdv, ad z, ns, rfl, .inl (.inl hn'), hp, fun m1 k1 k2 => ⟨_, rfl, _, rfl, d, _, rfl, hdv, ad z, ns, rfl, .inl (.inl hn'), hp, fun m2 k3 k4 => ⟨_, rfl, _, rfl, d, _, rfl, hdv, ad z, _, rfl, .inl (.inl (.inl hn')), lz, fun p hp => ?_⟩⟩⟩
        refine q' _ _ (same_new hp) ⟨z, p, rfl, rfl, ?_⟩
        have e1 : lowZ chs ts z = m1 := by unfold lowZ; rw [← ens]; exact low_eq k1 k2
        have e2 : highZ chs ts z = m2 := by unfold highZ; rw [← ens]; exact high_eq k3 k4
        rw [upd_same, e1, e2, ← ens, List.length_map]
      · rintro x y H4 H5 acc hD4 x5 ⟨z, p, e1, e2, e3⟩
        exact ⟨z, p, e1, e2, x5 _ _ (ne_of e3 hD4 (by intro q; cases q)) e3⟩
      · rw [List.length_map, sortS_len]
        exact small1000 (by omega)
      · intro zs H4 s4 hD4 he
        rw [List.filter_eq_self.mpr fun _ _ => rfl] at he
        have key : ∀ {l : List Str} {zs : List V}, Each (fun (x z : V) => ∃ y p, x = .str y ∧ z = .ref p ∧ H4 p = some (.tup [.str y, .int (lowZ chs ts y), .int (highZ chs ts y), .int ((agesZ chs ts y).length : Nat)])) (l.map V.str) zs → ∃ as : List Addr, zs = as.map V.ref ∧ Each (fun (p : Addr) (z : Str) => H4 p = some (.tup [.str z, .int (lowZ chs ts z), .int (highZ chs ts z), .int ((agesZ chs ts z).length : Nat)])) as l := by
          intro l
          induction l with
          | nil =>
            intro zs h
            cases h
            exact ⟨[], rfl, .nil⟩
          | cons z r ih =>
            intro zs h
            cases h with
            | cons e t =>
              obtain ⟨y, p, e1, rfl, e3⟩ := e
              obtain ⟨as, rfl, h2⟩ := ih t
              have e1 := V.str.inj e1
              subst e1
              exact ⟨p :: as, rfl, .cons e3 h2⟩
        obtain ⟨bs, rfl, hb⟩ := key he
        refine ⟨Dd, _, rfl, .inl ⟨.inl (.inl hD4), fun t ht => ?_⟩⟩
        have s5 := same_new (o := .tup (bs.map V.ref)) ht
        refine q t _ (((s1.trans s3).trans s4).trans s5) ?_
        refine ⟨bs, upd_same, ?_⟩
        rw [ew]
        exact hb.mono fun p z e => s5 _ _ e
end
end Wl




namespace Wl
open PySem PySem.Spec PyProof.Rows L2
theorem telV_inj' {t u : Tel} (h : telV t = telV u) : t = u := by
  cases t
  cases u
  simp only [telV, List.cons.injEq, V.str.injEq, V.int.injEq, V.bl.injEq, and_true] at h
  obtain ⟨h1, h2, h3, h4, h5, h6, h7⟩ := h
  have h5 := Int.ofNat.inj h5
  subst h1 h2 h3 h4 h5 h6 h7
  rfl
/-- a test of tellings, as a test of values -/
noncomputable def keepBy (H : Hp) (pr : Tel → Bool) (x : V) : Bool := open Classical in if h : ∃ t : Tel, ∃ p, x = .ref p ∧ H p = some (.tup (telV t)) then pr h.choose else false
theorem keepBy_at {H : Hp} {pr : Tel → Bool} {p : Addr} {t : Tel} (h : H p = some (.tup (telV t))) : keepBy H pr (.ref p) = pr t := by
  unfold keepBy
  have e : ∃ t : Tel, ∃ q, V.ref p = .ref q ∧ H q = some (.tup (telV t)) := ⟨t, p, rfl, h⟩
  rw [dif_pos e]
  obtain ⟨q, e1, e2⟩ := e.choose_spec
  have e1 := V.ref.inj e1
  subst e1
  rw [h] at e2
  rw [← telV_inj' (HO.tup.inj (Option.some.inj e2))]
theorem tels_filter {H H' : Hp} {pr : Tel → Bool} : ∀ {as : List Addr} {ts : List Tel}, TelsAt H as ts → TelsAt H' as ts → ∃ bs : List Addr, ((as.map V.ref).filter (keepBy H pr)).map id = bs.map V.ref ∧ TelsAt H' bs (ts.filter pr)
  | _, _, .nil, .nil => ⟨[], rfl, .nil⟩
  | _, _, .cons (a := p) (b := t) e r, .cons e' r' => by
    obtain ⟨bs, h1, h2⟩ := tels_filter (pr := pr) r r'
    rw [List.map_cons, List.filter_cons, keepBy_at e, List.filter_cons]
    by_cases c : pr t = true
    · rw [if_pos c, if_pos c]
      exact ⟨p :: bs, by rw [List.map_cons, h1]; rfl, .cons e' h2⟩
    · rw [if_neg c, if_neg c]
      exact ⟨bs, h1, h2⟩
section
variable {P : Program} {w : World} {K : PySem.W.Frag} {mg : Str → Option Value} {base : Heap} {f C D : Addr} {fd : FuncData}
/-- [t for t in tellings if ..] -/
theorem pick_tels {H1 : Hp} {a Dd : Addr} {as : List Addr} {ts : List Tel} {tt : TT} {te : TE} {slot : Nat} {vs : List Nat} {σ : L2.St} {Qd : Hp → Prop} (hl : H1 a = some (.lst (as.map V.ref))) (hT : TelsAt H1 as ts) (hD : H1 Dd = none) (pr : Tel → Bool) (hn : ts.length ≤ 200)
    (hw : ∀ x, wipe ((wipe σ vs).set slot (some x)) vs = wipe σ vs)
    (ht : ∀ (p : Addr) (t : Tel) (H : Hp), t ∈ ts → H p = some (.tup (telV t)) → Same H1 H → ∀ Q : Bool → Hp → Prop, Q (pr t) H → tt ((wipe σ vs).set slot (some (.ref p))) H Q)
    (he : ∀ (x : V) (H : Hp) (Q : VK), Q x H → te ((wipe σ vs).set slot (some x)) H Q)
    (hd : ∀ (bs : List Addr) (H : Hp), Same H1 H → H Dd = some (.lst (bs.map V.ref)) → TelsAt H bs (ts.filter pr) → Qd H) :
    ∃ W : Nat → Nat → Hp → Prop, (∃ m, W 0 m (upd H1 Dd (.lst []))) ∧ ∀ i m H, W i m H →
      ((Itl K a).stop i H ∧ Qd H) ∨ ((Itl K a).go i H ∧ ∃ Nx : Hp → Prop, (∀ H', Nx H' → ∃ m', m' < m ∧ W (i + 1) m' H') ∧ ∀ x H', (Itl K a).yld i H x H' → gName slot x (wipe σ vs) H' fun σ2 H2 => wipe σ2 vs = wipe σ vs ∧ tt σ2 H2 fun b H3 =>
        if b = true then te σ2 H3 fun y H4 => ∃ acc, H4 Dd = some (.lst acc) ∧ acc.length < sizeLine ∧ Nx (upd H4 Dd (.lst (acc ++ [y]))) else Nx H3) := by
  have hlen := hT.length
  refine lc_map (walk_list (K := K) (a := a) (xs := as.map V.ref)) hD (keepBy H1 pr) id (fun H' s' => .inl (.inl (s' _ _ hl))) hw ?_ ?_ ?_ ?_
  · intro x H' hx s' Q' q'
    obtain ⟨p, hp, rfl⟩ := List.mem_map.mp hx
    obtain ⟨i, hi, ei⟩ := List.mem_iff_getElem.mp hp
    obtain ⟨t, htm, hH⟩ := Each.get hT (i := i) (a := p) (by rw [List.getElem?_eq_getElem hi, ei])
    rw [keepBy_at hH] at q'
    exact ht p t H' (List.mem_of_getElem? htm) (s' _ _ hH) s' Q' q'
  · intro x H' hx _ _ Q' q'
    exact he x H' Q' q'
  · rw [List.length_map]
    exact small1000 (by omega)
  · intro H2 s2 hD2
    obtain ⟨bs, e1, e2⟩ := tels_filter (pr := pr) hT (hT.keep (tk_same s2))
    rw [e1] at hD2
    exact hd bs H2 s2 hD2 e2
/-! ### by_village -/
def ByV (H : Hp) (D : Addr) (nms : List Str) (chs : List Chg) (ts : List Tel) : Prop := ∃ ad : Str → Addr, H D = some (.dK (kvZ (fun z => .ref (ad z)) nms)) ∧ ∀ z ∈ nms, RowsT H (ad z) chs (ts.filter fun t => decide (t.v = z))
def spByV : Sp := fun vs H Q _ => ∃ (tn l S : Addr) (nms : List Str) (as : List Addr) (ts : List Tel) (chs : List Chg), vs = [.ref tn, .ref l, .ref S] ∧ H tn = some (.tup (nms.map V.str)) ∧ nms.Nodup ∧ nms.length ≤ 36 ∧ H l = some (.lst (as.map V.ref)) ∧ TelsAt H as ts ∧ (∀ t ∈ ts, OkT t) ∧ ts.length ≤ 200 ∧ ChAt H S chs ∧ OkCs chs ∧
  ∀ (Dd : Addr) (H' : Hp), H Dd = none → Same H H' → ByV H' Dd nms chs ts → Q (.ref Dd) H'
abbrev nByV : List Str := ["names", "tellings", "changes", "name", "telling"]
theorem scByV : FnScope nByV ["names", "tellings", "changes"] (defScope sByV) := ⟨rfl, rfl, rfl, by decide +kernel, rfl, by decide +kernel, by decide +kernel⟩
theorem str_dec (a b : Str) : decide (V.str a = V.str b) = decide (a = b) := by
  by_cases h : a = b
  · subst h
    simp
  · rw [decide_eq_false h, decide_eq_false fun e => h (V.str.inj e)]
theorem ok_byv (F : Fun K "by_village" "by_village" sByV f fd) (hS : Has P w K mg base "summed_up" 6 ["tellings", "changes"] spSum) : FnOk P w K mg base CX0 7 f fd ["names", "tellings", "changes"] spByV := by
  refine F.ok scByV (fun vs H Q E h => ?_) (fun cdv A outer s H vs Q E hr h => ?_)
  · obtain ⟨tn, l, S, nms, as, ts, chs, rfl, _⟩ := h
    rfl
  · obtain ⟨tn, l, S, nms, as, ts, chs, rfl, hn, nd, n36, hl, hT, hok, h200, hC, okc, q⟩ := h
    refine ⟨_, pss_one (ps_ret (pe_dc (own := [("name", 3)]) (g := gName 3) (tt := tYes) (tk := tVar 3) (tv := tCall spSum [] E0 (tCons (tLc (iList K (tVar 1)) (gName 4) (tTest (tOp rEq (tOp (rIxT K) (tVar 4) (tC (.int 0))) (tVar 3))) (tVar 4) [4]) (tCons (tVar 2) tNil)))
      rfl scByV.nd (pi_tup (pv 0)) (blkOk_by (N := nByV) (sc := defScope sByV) (by decide +kernel)) (fun _ _ _ _ _ => pg_name (i := 3) scByV.nd rfl (.inr rfl)) (fun _ _ _ _ _ => pts_nil) (fun _ _ _ _ _ => pv 3)
      (fun _ _ _ _ _ => pe_h hS hr (pa_cons (pe_lc (own := [("telling", 4)]) (g := gName 4) (tt := tTest (tOp rEq (tOp (rIxT K) (tVar 4) (tC (.int 0))) (tVar 3))) (te := tVar 4) rfl scByV.nd (pi_list (pv 1)) (blkOk_by (N := nByV) (sc := { kind := .function, names := [(".0", .local), ("name", .cell), ("summed_up", .globalImplicit), ("changes", .cell), ("tellings", .cell)], isGenerator := false, isCoroutine := false }) (by decide +kernel))
        (fun _ _ _ _ _ => pg_name (i := 4) scByV.nd rfl (.inl rfl)) (fun _ _ _ _ _ => pts_one (pt_cmpR op_eq (pe_ix ix_tup (pv 4) pe_int (fun _ _ => rfl)) (pv 3) (nomark _))) (fun _ _ _ _ _ => pv 4)) (pa_cons (pv 2) pa_nil))))), ?_⟩
    refine ⟨_, rfl, tn, rfl, ⟨_, .inl (.inl hn)⟩, fun Dd hD => dc_it (walk_tup (K := K) (a := tn) (xs := nms.map V.str)) (fun i H' => Same H H' ∧ ByV H' Dd (nms.take i) chs ts) ⟨same_new hD, fun _ => 0, upd_same, fun z hz => by simp at hz⟩ (fun i H' _ h => .inl (.inl (h.1 _ _ hn))) ?_ ?_⟩
    · rintro i x H1 H2 hi ⟨s1, ad, hd1, hr1⟩ ⟨rfl, hx⟩
      rw [List.getElem?_map] at hx
      obtain ⟨z, hz, rfl⟩ := Option.map_eq_some_iff.mp hx
      have hl1 := s1 _ _ hl
      have hT1 : TelsAt H2 as ts := hT.keep (tk_same s1)
      refine ⟨rfl, yes_it ⟨_, rfl, _, rfl, l, rfl, ⟨_, .inl (.inl hl1)⟩, fun De hE => ?_⟩⟩
      refine pick_tels (K := K) hl1 hT1 hE (fun t => decide (t.v = z)) h200 (fun _ => rfl) ?_ (fun x H' Q' q' => ⟨_, rfl, q'⟩) ?_
      · intro p t H' _ hp _ Q' q'
        refine ⟨_, rfl, p, _, _, _, rfl, rfl, .inl (.inl hp), atI_nat (j := 0) rfl, _, rfl, rfl, _, rfl, ?_⟩
        rw [str_dec]
        exact q'
      · intro bs H3 s3 hE3 hb3
        refine ⟨_, rfl, De, S, bs, _, chs, rfl, hE3, hb3, fun t ht => hok t (List.mem_filter.mp ht).1, Nat.le_trans (List.length_filter_le _ _) h200, (hC.same s1).same s3, okc, fun t H4 s4 r4 => ?_⟩
        have s34 := s3.trans s4
        have hd4 := s34 _ _ hd1
        have hnew : z ∉ nms.take i := fun hm => by
          obtain ⟨j, hj, ej⟩ := List.mem_iff_getElem.mp hm
          rw [List.length_take] at hj
          rw [List.getElem_take] at ej
          obtain ⟨hi2, ei⟩ := List.getElem?_eq_some_iff.mp hz
          have := (List.getElem_inj nd).mp (ej.trans ei.symm)
          omega
        have hv : valV (kvZ (fun z => V.ref (ad z)) (nms.take i)) (Sum.inr z : Key) = none := valV_out hnew
        refine ⟨_, Sum.inr z, rfl, hd4, ?_, same_mut (s1.trans s34) hD, fun y => if y = z then t else ad y, ?_, fun y hy => ?_⟩
        · rw [kvZ_len, List.length_take]
          exact small1000 (by omega)
        · rw [putK_new _ hv, upd_same, take_snoc hz]
          unfold kvZ
          rw [List.map_append]
          congr 2
          congr 1
          · refine List.map_congr_left fun y hy => ?_
            have : y ≠ z := fun e => hnew (e ▸ hy)
            simp only [if_neg this]
          · simp
        · have tk := tk_updD (o := .dK (putK (kvZ (fun z => V.ref (ad z)) (nms.take i)) (Sum.inr z) (.ref t))) hd4
          by_cases c : y = z
          · subst c
            simp only [if_true]
            exact r4.keep tk
          · simp only [if_neg c]
            have hy' : y ∈ nms.take i := by
              rw [take_snoc hz] at hy
              rcases List.mem_append.mp hy with h | h
              · exact h
              · exact absurd (List.mem_singleton.mp h) c
            exact ((hr1 y hy').keep (tk_same s34)).keep tk
    · rintro H1 ⟨s1, h1⟩
      rw [List.length_map, List.take_length] at h1
      exact q Dd H1 hD s1 h1
end
end Wl




namespace Wl
open PySem PySem.Spec PyProof.Rows L2
abbrev sMap : Stmt := topS 59
abbrev sMInit : Stmt := inClass sMap 0
/-! A WordMap on the heap. -/
abbrev m1 (pl : Addr) : List (Str × V) := putF "land" (.ref pl) []
abbrev m2 (pl : Addr) (z : Str) : List (Str × V) := putF "thing" (.str z) (m1 pl)
abbrev m3 (pl : Addr) (z : Str) (S : Addr) : List (Str × V) := putF "changes" (.ref S) (m2 pl z)
abbrev m4 (pl : Addr) (z : Str) (S a : Addr) : List (Str × V) := putF "sure_words" (.ref a) (m3 pl z S)
abbrev m5 (pl : Addr) (z : Str) (S a b : Addr) : List (Str × V) := putF "doubtful_words" (.ref b) (m4 pl z S a)
abbrev mf (pl : Addr) (z : Str) (S a b c : Addr) : List (Str × V) := putF "said" (.ref c) (m5 pl z S a b)
theorem m3_land (pl : Addr) (z : Str) (S : Addr) : (m3 pl z S).lookup ("land" : Str) = some (.ref pl) := by
  unfold m3 m2 m1
  rw [lookup_putF, if_neg (by decide +kernel), lookup_putF, if_neg (by decide +kernel), lookup_putF, if_pos rfl]
theorem m5_sure (pl : Addr) (z : Str) (S a b : Addr) : (m5 pl z S a b).lookup ("sure_words" : Str) = some (.ref a) := by
  unfold m5 m4
  rw [lookup_putF, if_neg (by decide +kernel), lookup_putF, if_pos rfl]
theorem mf_land (pl : Addr) (z : Str) (S a b c : Addr) : (mf pl z S a b c).lookup ("land" : Str) = some (.ref pl) := by
  unfold mf m5 m4
  rw [lookup_putF, if_neg (by decide +kernel), lookup_putF, if_neg (by decide +kernel), lookup_putF, if_neg (by decide +kernel), m3_land]
theorem mf_changes (pl : Addr) (z : Str) (S a b c : Addr) : (mf pl z S a b c).lookup ("changes" : Str) = some (.ref S) := by
  unfold mf m5 m4 m3
  rw [lookup_putF, if_neg (by decide +kernel), lookup_putF, if_neg (by decide +kernel), lookup_putF, if_neg (by decide +kernel), lookup_putF, if_pos rfl]
theorem mf_said (pl : Addr) (z : Str) (S a b c : Addr) : (mf pl z S a b c).lookup ("said" : Str) = some (.ref c) := by
  unfold mf
  rw [lookup_putF, if_pos rfl]
theorem mf_no (pl : Addr) (z : Str) (S a b c : Addr) {m : Str} (h1 : ¬ m = "said" := by decide +kernel) (h2 : ¬ m = "doubtful_words" := by decide +kernel) (h3 : ¬ m = "sure_words" := by decide +kernel) (h4 : ¬ m = "changes" := by decide +kernel) (h5 : ¬ m = "thing" := by decide +kernel) (h6 : ¬ m = "land" := by decide +kernel) : (mf pl z S a b c).lookup m = none := by
  unfold mf m5 m4 m3 m2 m1
  rw [lookup_putF, if_neg h1, lookup_putF, if_neg h2, lookup_putF, if_neg h3, lookup_putF, if_neg h4, lookup_putF, if_neg h5, lookup_putF, if_neg h6]
  rfl
/-- what a map shows: of each village its words -/
def SaidAt (H : Hp) (d : Addr) (nms : List Str) (said : Str → List Str) : Prop := ∃ ad : Str → Addr, H d = some (.dK (kvZ (fun z => .ref (ad z)) nms)) ∧ ∀ z ∈ nms, H (ad z) = some (.tup ((said z).map V.str))
theorem SaidAt.keep {H H' : Hp} {d : Addr} {nms : List Str} {said : Str → List Str} (h : SaidAt H d nms said) (k : Keep H H') : SaidAt H' d nms said := by
  obtain ⟨ad, h1, h2⟩ := h
  exact ⟨ad, k _ _ (fun xs e => by cases e) h1, fun z hz => k _ _ (fun xs e => by cases e) (h2 z hz)⟩
structure MR where
  pl : Addr
  L : Addr
  S : Addr
  sd : Addr
  g : Grid
  z : Str
  chs : List Chg
  said : Str → List Str
structure MapAt (C W : Addr) (H : Hp) (p : Addr) (r : MR) : Prop where
  at_ : ∃ dx a b, H p = some (.ins W dx (mf r.pl r.z r.S a b r.sd))
  land : LandAt C H r.pl r.L r.g
  ch : ChAt H r.S r.chs
  said : SaidAt H r.sd (sortS (names r.g)) r.said
theorem MapAt.keep {C W : Addr} {H H' : Hp} {p : Addr} {r : MR} (h : MapAt C W H p r) (k : Keep H H') : MapAt C W H' p r := by
  obtain ⟨dx, a, b, e⟩ := h.at_
  exact ⟨⟨dx, a, b, k _ _ (fun xs e => by cases e) e⟩, h.land.keep k, h.ch.keep fun p xs e => k.tk p xs e, h.said.keep k⟩
theorem MapAt.same {C W : Addr} {H H' : Hp} {p : Addr} {r : MR} (h : MapAt C W H p r) (s : Same H H') : MapAt C W H' p r := h.keep (kp_same s)
/-- its tables: what sure ones and doubtful ones told -/
structure MapX (C W : Addr) (H : Hp) (p : Addr) (r : MR) (a b : Addr) (sur dou : List Tel) : Prop where
  at2 : ∃ dx, H p = some (.ins W dx (mf r.pl r.z r.S a b r.sd))
  sw : ByV H a (sortS (names r.g)) r.chs sur
  dw : ByV H b (sortS (names r.g)) r.chs dou
theorem ByV.keep {H H' : Hp} {D : Addr} {nms : List Str} {chs : List Chg} {ts : List Tel} (h : ByV H D nms chs ts) (k : Keep H H') : ByV H' D nms chs ts := by
  obtain ⟨ad, h1, h2⟩ := h
  exact ⟨ad, k _ _ (fun xs e => by cases e) h1, fun z hz => (h2 z hz).keep k.tk⟩
theorem MapX.keep {C W : Addr} {H H' : Hp} {p : Addr} {r : MR} {a b : Addr} {sur dou : List Tel} (h : MapX C W H p r a b sur dou) (k : Keep H H') : MapX C W H' p r a b sur dou := by
  obtain ⟨dx, e⟩ := h.at2
  exact ⟨⟨dx, k _ _ (fun xs e => by cases e) e⟩, h.sw.keep k, h.dw.keep k⟩
theorem MapX.same {C W : Addr} {H H' : Hp} {p : Addr} {r : MR} {a b : Addr} {sur dou : List Tel} (h : MapX C W H p r a b sur dou) (s : Same H H') : MapX C W H' p r a b sur dou := h.keep (kp_same s)
structure TxtM (K : PySem.W.Frag) (mg : Str → Option Value) (W : Addr) : Prop where
  cl : Cls K W
  nL : NoAttr K W "land"
  nT : NoAttr K W "thing"
  nC : NoAttr K W "changes"
  nS : NoAttr K W "sure_words"
  nD : NoAttr K W "doubtful_words"
  nA : NoAttr K W "said"
  mgW : mg "WordMap" = some (.ref W)
/-- the tellings that a map shows -/
def shownOf (ts : List Tel) (z : Str) (lo hi : Nat) : List Tel := ts.filter fun t => decide (t.th = z) && (decide (lo ≤ t.age) && decide (t.age ≤ hi))
noncomputable def saidOf (chs : List Chg) (ts : List Tel) (z : Str) (lo hi : Nat) (y : Str) : List Str := wordsIn chs (((shownOf ts z lo hi).filter fun t => t.sure).filter fun t => decide (t.v = y))
/-- all but what stands at p is as it was -/
def But (p : Addr) (H H' : Hp) : Prop := ∀ b o, b ≠ p → H b = some o → H' b = some o
theorem But.upd {p : Addr} {H H' : Hp} {o : HO} (h : But p H H') : But p H (L2.upd H' p o) := fun b u n e => by
  rw [upd_ne n]
  exact h b u n e
theorem But.same {p : Addr} {H H1 H2 : Hp} (h : But p H H1) (s : Same H1 H2) : But p H H2 := fun b u n e => s _ _ (h b u n e)
theorem But.tk {p dx W : Addr} {fs : List (Str × V)} {H H' : Hp} (h : But p H H') (hp : H p = some (.ins W dx fs)) : TupKeep H H' := fun b xs e => h b _ (ne_of e hp (by intro z; cases z)) e
theorem gat_but {C D W g p dx : Addr} {H H' : Hp} {r : GR} {fs : List (Str × V)} (h : GatAt C D H g r) (hp : H p = some (.ins W dx fs)) (n1 : p ≠ g) (n2 : p ≠ r.pl) (k : But p H H') : GatAt C D H' g r := by
  obtain ⟨dg, e⟩ := h.at_
  exact ⟨⟨dg, k _ _ n1.symm e⟩, land_but h.land hp n2 k, k _ _ (ne_of h.told hp (by intro z; cases z)) h.told, h.tels.keep (k.tk hp), k _ _ (ne_of h.deeds hp (by intro z; cases z)) h.deeds, h.ne⟩
section
variable {P : Program} {w : World} {K : PySem.W.Frag} {mg : Str → Option Value} {base : Heap} {f C D W : Addr} {fd : FuncData}
abbrev FunI (K : PySem.W.Frag) (f : Addr) (fd : FuncData) : Prop := FunD K "__init__" "WordMap.__init__" (defArgs sMInit) (defBody sMInit) (defScope sMInit) [.non, .int 0, .int 120] [] f fd
abbrev psMI : List Str := ["self", "gathering", "thing", "changes", "least", "most"]
abbrev nMI : List Str := ["self", "gathering", "thing", "changes", "least", "most", "known", "told", "names", "telling", "name", "row"]
theorem scMI : FnScope nMI psMI (defScope sMInit) := ⟨rfl, rfl, rfl, by decide +kernel, rfl, by decide +kernel, by decide +kernel⟩
def HasT (P : Program) (w : World) (K : PySem.W.Frag) (mg : Str → Option Value) (base : Heap) (C D : Addr) : Prop := ∃ f fd, FnOk P w K mg base CX0 1 f fd ["self", "keying"] (spTell C D) ∧ Meth K D "tellings" f ∧ FunT K f fd
def spMI (C D W : Addr) : Sp := fun vs H Q _ => ∃ (p dx g : Addr) (r : GR) (wd : Nat) (z : Str) (v : V) (chs : List Chg) (lo hi : Nat), vs = [.ref p, .ref g, .str z, v, .int (lo : Int), .int (hi : Int)] ∧ H p = some (.ins W dx []) ∧ GatAt C D H g r ∧ Good r.g wd ∧ (∀ t ∈ r.ts, OkT t) ∧ r.ts.length ≤ 200 ∧ IsWd z ∧ ChV H v chs ∧ OkCs chs ∧ lo ≤ hi ∧ hi ≤ 120 ∧
  ∀ (S d a b : Addr) (H' : Hp), But p H H' → MapAt C W H' p ⟨r.pl, r.L, S, d, r.g, z, chs, saidOf chs r.ts z lo hi⟩ → MapX C W H' p ⟨r.pl, r.L, S, d, r.g, z, chs, saidOf chs r.ts z lo hi⟩ a b ((shownOf r.ts z lo hi).filter fun t => t.sure) ((shownOf r.ts z lo hi).filter fun t => !t.sure) → Q .non H'
theorem words_rows {H : Hp} : ∀ {as : List Addr} {ws : List Str} {zs : List V}, Each (fun (p : Addr) (z : Str) => ∃ a b n : Int, H p = some (.tup [.str z, .int a, .int b, .int n])) as ws → Each (fun (x z : V) => ∀ (p : Addr) (u : Str) (a b n : Int), x = .ref p → H p = some (.tup [.str u, .int a, .int b, .int n]) → z = .str u) (as.map V.ref) zs → zs = ws.map V.str
  | [], [], [], _, _ => rfl
  | [], [], _ :: _, _, h => nomatch h
  | [], _ :: _, _, h, _ => nomatch h
  | _ :: _, [], _, h, _ => nomatch h
  | _ :: _, _ :: _, [], _, h => nomatch h
  | a :: as, r :: g, z :: zs, .cons e t, .cons e' t' => by
    obtain ⟨x, y, n, e⟩ := e
    rw [e' a r x y n rfl e, words_rows t t']
    rfl
theorem ok_minit (F : FunI K f fd) (B : Bi mg) (T : Txt K mg C) (TG : TxtG K mg D) (TM : TxtM K mg W) (hCG : Has P w K mg base "check_gathering" 1 ["thing"] (spCheckG C D)) (hW : Has P w K mg base "check_word" 2 ["word"] spCheckW)
    (hCh : Has P w K mg base "checked_changes" 4 ["changes"] spChecked) (hA : Has P w K mg base "check_age" 3 ["age"] spCheckA) (hT : HasT P w K mg base C D) (hN : HasM P w K mg base C "names" 1 ["self"] (spLNames C)) (hB : Has P w K mg base "by_village" 7 ["names", "tellings", "changes"] spByV) : FnOk P w K mg base CX0 8 f fd psMI (spMI C D W) := by
  obtain ⟨fT, fdT, FT, mT, FnT⟩ := hT
  obtain ⟨dsT, vT, bT⟩ := tell_b1 FnT
  refine okD F scMI (fun vs H Q E h => ?_) (fun cdv A outer s H vs Q E hr h => ?_)
  · obtain ⟨p, dx, g, r, wd, z, v, chs, lo, hi, rfl, _⟩ := h
    rfl
  · obtain ⟨p, dx, g, r, wd, z, v, chs, lo, hi, rfl, hp, hG, gd, hok, h200, hz, hv, okc, hlo, hhi, q⟩ := h
    have hu := hu_of hr
    refine ⟨_, pss_cons (ps_expr (pe_h hCG hr (pa_cons (pv 1) pa_nil)))
      (pss_cons (ps_expr (pe_h hW hr (pa_cons (pv 2) pa_nil)))
      (pss_cons (ps_set (i := 6) scMI.nd rfl (.inl rfl) (pe_h hCh hr (pa_cons (pv 3) pa_nil)))
      (pss_cons (ps_expr (pe_h hA hr (pa_cons (pv 4) pa_nil)))
      (pss_cons (ps_expr (pe_h hA hr (pa_cons (pv 5) pa_nil)))
      (pss_cons (ps_if (pt_cmpR op_lt (pv 5) (pv 4) (nomark _)) (pss_one ps_never) pss_nil)
      (pss_cons (ps_fld (pv 0) (pe_fld (pv 1) rfl) rfl)
      (pss_cons (ps_fld (pv 0) (pv 2) rfl)
      (pss_cons (ps_fld (pv 0) (pv 6) rfl)
      (pss_cons (ps_setLc (i := 7) (own := [("telling", 9)]) (g := gName 9) (tt := tAnd (tTest (tOp rEq (tOp (rIxT K) (tVar 9) (tC (.int 1))) (tVar 2))) (tTest (tChain (rI0 fun i j => .bl (decide (i ≤ j))) (rI0 fun i j => .bl (decide (i ≤ j))) (tVar 4) (tOp (rIxT K) (tVar 9) (tC (.int 4))) (tVar 5)))) (te := tVar 9) rfl scMI.nd rfl rfl (sw_true rfl rfl rfl (by decide +kernel)) (pi_list (pe_meth0 (pv 1) TG.cl mT FT (hr.mono (by decide)) bT vT pass0)) (blkOk_by (N := nMI) (sc := defScope sMInit) (by decide +kernel))
        (fun _ _ _ _ _ => pg_name (i := 9) scMI.nd rfl (.inl rfl)) (fun _ _ _ _ _ => pts_one (PW.pt (pw_and (pt_cmpR op_eq (pe_ix ix_tup (pv 9) pe_int (fun _ _ => rfl)) (pv 2) (nomark _)) (pw_and1 (pt_chain op_le op_le (pv 4) (pe_ix ix_tup (pv 9) pe_int (fun _ _ => rfl)) (pv 5)))))) (fun _ _ _ _ _ => pv 9))
      (pss_cons (ps_set (i := 8) scMI.nd rfl (.inl rfl) (pe_hm0 hN T.cl hr (pe_fld (pv 0) rfl)))
      (pss_cons (ps_fld (pv 0) (pe_h hB hr (pa_cons (pv 8) (pa_cons (pe_lc (own := [("telling", 9)]) (g := gName 9) (tt := tB (tOp (rIxT K) (tVar 9) (tC (.int 6)))) (te := tVar 9) rfl scMI.nd (pi_list (pv 7)) (blkOk_by (N := nMI) (sc := defScope sMInit) (by decide +kernel)) (fun _ _ _ _ _ => pg_name (i := 9) scMI.nd rfl (.inl rfl)) (fun _ _ _ _ _ => pts_one (pt_val (pe_ix ix_tup (pv 9) pe_int (fun _ _ => rfl)))) (fun _ _ _ _ _ => pv 9)) (pa_cons (pv 6) pa_nil)))) rfl)
      (pss_cons (ps_fld (pv 0) (pe_h hB hr (pa_cons (pv 8) (pa_cons (pe_lc (own := [("telling", 9)]) (g := gName 9) (tt := tNot (tB (tOp (rIxT K) (tVar 9) (tC (.int 6))))) (te := tVar 9) rfl scMI.nd (pi_list (pv 7)) (blkOk_by (N := nMI) (sc := defScope sMInit) (by decide +kernel)) (fun _ _ _ _ _ => pg_name (i := 9) scMI.nd rfl (.inl rfl)) (fun _ _ _ _ _ => pts_one (pt_not (pt_val (pe_ix ix_tup (pv 9) pe_int (fun _ _ => rfl))))) (fun _ _ _ _ _ => pv 9)) (pa_cons (pv 6) pa_nil)))) rfl)
      (pss_one (ps_fld (pv 0) (pe_dc (own := [("name", 10)]) (g := gName 10) (tt := tYes) (tk := tVar 10) (tv := tCB (fun xs H Q => ∃ p ys, xs = [.ref p] ∧ ((SqL K H p ys ∧ ∀ l, H l = none → Q (.ref l) (upd H l (.tup ys))) ∨ (SqT K H p ys ∧ Q (.ref p) H))) (tCons (tLc (iTup K (tDGet (tFld K (tVar 0) "sure_words") (tVar 10))) (gName 11) tYes (tOp (rIxT K) (tVar 11) (tC (.int 0))) [11]) tNil))
        rfl scMI.nd (pi_tup (pv 8)) (blkOk_by (N := nMI) (sc := defScope sMInit) (by decide +kernel)) (fun _ _ _ _ _ => pg_name (i := 10) scMI.nd rfl (.inl rfl)) (fun _ _ _ _ _ => pts_nil) (fun _ _ _ _ _ => pv 10)
        (fun _ _ _ _ _ => pe_callTy call_tuple_of (by rfl) B.tuple (by decide +kernel) (pa_cons (pe_lc (own := [("row", 11)]) (g := gName 11) (tt := tYes) (te := tOp (rIxT K) (tVar 11) (tC (.int 0))) rfl scMI.nd (pi_tup (pe_dget hu (pe_fld (pv 0) rfl) (pv 10) (fun _ _ => rfl))) (blkOk_by (N := nMI) (sc := { kind := .function, names := [(".0", .local), ("name", .local), ("tuple", .globalImplicit), ("self", .cell)], isGenerator := false, isCoroutine := false }) (by decide +kernel))
          (fun _ _ _ _ _ => pg_name (i := 11) scMI.nd rfl (.inl rfl)) (fun _ _ _ _ _ => pts_nil) (fun _ _ _ _ _ => pe_ix ix_tup (pv 11) pe_int (fun _ _ => rfl))) pa_nil))) rfl)))))))))))))), ?_⟩
    refine ⟨_, rfl, g, r, rfl, hG, ?_⟩
    refine ⟨_, rfl, z, rfl, hz, fun H1 s1 => ?_⟩
    refine ⟨_, rfl, v, chs, rfl, hv.same s1, okc, fun S H2 s2 hS => ?_⟩
    refine ⟨_, rfl, lo, rfl, by omega, ?_⟩
    refine ⟨_, rfl, hi, rfl, by omega, ?_⟩
    refine ⟨_, rfl, _, rfl, _, _, rfl, rfl, _, rfl, ?_⟩
    rw [decide_eq_false (show ¬ ((hi : Int) < (lo : Int)) by omega)]
    refine iteF ?_
    have s02 := s1.trans s2
    have hG2 := hG.same s02
    have hp2 := s02 _ _ hp
    have npg : p ≠ g := fun e => by
      obtain ⟨dg, eg⟩ := hG2.at_
      rw [← e, hp2] at eg
      have := (HO.ins.inj (Option.some.inj eg)).2.2
      have l := gf_land r.pl r.td r.dd
      rw [← this] at l
      cases l
    have npl : p ≠ r.pl := fun e => by
      obtain ⟨dl, d, el⟩ := hG2.land.ins
      rw [← e, hp2] at el
      have := (HO.ins.inj (Option.some.inj el)).2.2
      have l := lf_rows d r.L
      rw [← this] at l
      cases l
    obtain ⟨dg, hg2⟩ := hG2.at_
    refine ⟨_, rfl, g, D, dg, _, _, rfl, hg2, TG.cl, TG.nL, gf_land _ _ _, _, rfl, p, W, dx, [], rfl, hp2, TM.cl, TM.nL, (by show 0 < 1000; decide), ?_⟩
    refine ⟨_, rfl, _, rfl, p, W, dx, m1 r.pl, rfl, upd_same, TM.cl, TM.nT, (by show 1 < 1000; decide), ?_⟩
    refine ⟨_, rfl, _, rfl, p, W, dx, m2 r.pl z, rfl, upd_same, TM.cl, TM.nC, (by show 2 < 1000; decide), ?_⟩
    have k5 : But p H2 (L2.upd (L2.upd (L2.upd H2 p (.ins W dx (m1 r.pl))) p (.ins W dx (m2 r.pl z))) p (.ins W dx (m3 r.pl z S))) := But.upd (But.upd (But.upd fun b o _ e => e))
    have hp5 : L2.upd (L2.upd (L2.upd H2 p (.ins W dx (m1 r.pl))) p (.ins W dx (m2 r.pl z))) p (.ins W dx (m3 r.pl z S)) p = some (.ins W dx (m3 r.pl z S)) := upd_same
    generalize L2.upd (L2.upd (L2.upd H2 p (.ins W dx (m1 r.pl))) p (.ins W dx (m2 r.pl z))) p (.ins W dx (m3 r.pl z S)) = H5 at k5 hp5
    have hG5 := gat_but hG2 hp2 npg npl k5
    have hS5 : ChAt H5 S chs := hS.keep (k5.tk hp2)
    have k05 : But p H H5 := fun b o n e => k5 b o n (s02 _ _ e)
    obtain ⟨dg5, hg5⟩ := hG5.at_
    refine ⟨_, rfl, g, dg5, _, rfl, hg5, gf_no _ _ _, g, r, rfl, hG5, fun l hl => ⟨l, rfl, ⟨_, .inl (.inl upd_same)⟩, fun Dd hD => ?_⟩⟩
    have s6 := same_new (o := .lst (r.as.map V.ref)) hl
    have hl6 : L2.upd H5 l (.lst (r.as.map V.ref)) l = some (.lst (r.as.map V.ref)) := upd_same
    generalize L2.upd H5 l (.lst (r.as.map V.ref)) = H6 at s6 hl6 hD
    refine pick_tels (K := K) hl6 (hG5.tels.keep (tk_same s6)) hD (fun t => decide (t.th = z) && (decide (lo ≤ t.age) && decide (t.age ≤ hi))) h200 (fun _ => rfl) ?_ (fun x H' Q' q' => ⟨_, rfl, q'⟩) ?_
    · intro pt t H' _ hpt _ Q' q'
      refine ⟨_, rfl, pt, _, _, _, rfl, rfl, .inl (.inl hpt), atI_nat (j := 1) rfl, _, rfl, rfl, _, rfl, ?_⟩
      rw [str_dec]
      refine ite_b (fun e => ?_) (fun e => ?_)
      · rw [e, Bool.true_and] at q'
        refine ⟨_, rfl, _, rfl, pt, _, _, _, rfl, rfl, .inl (.inl hpt), atI_nat (j := 4) rfl, _, _, rfl, rfl, _, rfl, ite_b (fun e2 => ?_) (fun e2 => ?_)⟩
        · refine ⟨_, rfl, _, _, rfl, rfl, _, rfl, ?_⟩
          have e3 : decide (lo ≤ t.age) = true := decide_eq_true (by have := of_decide_eq_true e2; omega)
          have e4 : decide ((t.age : Int) ≤ (hi : Int)) = decide (t.age ≤ hi) := by
            by_cases c : t.age ≤ hi
            · rw [decide_eq_true c, decide_eq_true (by omega)]
            · rw [decide_eq_false c, decide_eq_false (by omega)]
          rw [e3, Bool.true_and] at q'
          rw [e4]
          exact q'
        · have e3 : decide (lo ≤ t.age) = false := decide_eq_false (by have := of_decide_eq_false e2; omega)
          rw [e3, Bool.false_and] at q'
          exact ⟨false, rfl, q'⟩
      · rw [e, Bool.false_and] at q'
        exact q'
    intro bs H7 s7 hD7 hb7
    have s57 := s6.trans s7
    have eT : (r.ts.filter fun t => decide (t.th = z) && (decide (lo ≤ t.age) && decide (t.age ≤ hi))) = shownOf r.ts z lo hi := rfl
    rw [eT] at hb7
    have okS : ∀ t ∈ shownOf r.ts z lo hi, OkT t := fun t ht => hok t (List.mem_filter.mp ht).1
    have lenS : (shownOf r.ts z lo hi).length ≤ 200 := Nat.le_trans (List.length_filter_le _ _) h200
    have esd : saidOf chs r.ts z lo hi = fun y => wordsIn chs (((shownOf r.ts z lo hi).filter fun t => t.sure).filter fun t => decide (t.v = y)) := rfl
    generalize shownOf r.ts z lo hi = ts at hb7 okS lenS esd q
    have hp7 := s57 _ _ hp5
    have hL7 := hG5.land.same s57
    obtain ⟨dl7, dd7, hl7⟩ := hL7.ins
    refine ⟨_, rfl, p, W, dx, _, _, rfl, hp7, TM.cl, TM.nL, m3_land _ _ _, r.pl, dl7, _, rfl, hl7, fs_no, r.pl, r.L, r.g, wd, rfl, hL7, gd, fun tn H8 ntn s8 htn => ?_⟩
    have nds : (sortS (names r.g)).Nodup := sortS_nodup gd.nd
    have n36 : (sortS (names r.g)).length ≤ 36 := by
      rw [sortS_len]
      have a1 := len_names gd.rows
      have a3 : r.g.length * wd ≤ 6 * 6 := Nat.mul_le_mul gd.h6 gd.w6
      omega
    -- the sure ones
    have hD8 := s8 _ _ hD7
    have hb8 : TelsAt H8 bs ts := hb7.keep (tk_same s8)
    refine ⟨_, rfl, _, rfl, Dd, rfl, ⟨_, .inl (.inl hD8)⟩, fun De hE => ?_⟩
    refine pick_tels (K := K) hD8 hb8 hE (fun t => t.sure) lenS (fun _ => rfl) (fun pt t H' _ hpt _ Q' q' => ⟨_, rfl, pt, _, _, _, rfl, rfl, .inl (.inl hpt), atI_nat (j := 6) rfl, _, rfl, q'⟩) (fun x H' Q' q' => ⟨_, rfl, q'⟩) ?_
    intro cs H9 s9 hE9 hc9
    have s89 := s8.trans s9
    refine ⟨_, rfl, tn, De, S, _, cs, _, chs, rfl, s9 _ _ htn, nds, n36, hE9, hc9, fun t ht => okS t (List.mem_filter.mp ht).1, Nat.le_trans (List.length_filter_le _ _) lenS, (hS5.same s57).same s89, okc, fun D1 H10 nD1 s10 bv1 => ?_⟩
    have s710 := s89.trans s10
    have hp10 := s710 _ _ hp7
    refine ⟨_, rfl, p, W, dx, m3 r.pl z S, rfl, hp10, TM.cl, TM.nS, (by show 3 < 1000; decide), ?_⟩
    have k11 : But p H5 (L2.upd H10 p (.ins W dx (m4 r.pl z S D1))) := But.upd fun b o _ e => s710 _ _ (s57 _ _ e)
    have k10 : But p H10 (L2.upd H10 p (.ins W dx (m4 r.pl z S D1))) := But.upd fun b o _ e => e
    have hp11 : L2.upd H10 p (.ins W dx (m4 r.pl z S D1)) p = some (.ins W dx (m4 r.pl z S D1)) := upd_same
    have nlst : ∀ {a : Addr} {xs : List V}, H10 a = some (.lst xs) → a ≠ p := fun e => ne_of e hp10 (by intro q; cases q)
    have hD11 := k10 _ _ (nlst (s9.trans s10 _ _ hD8)) (s9.trans s10 _ _ hD8)
    have htn11 := k10.tk hp10 _ _ (s9.trans s10 _ _ htn)
    have hb11 : TelsAt (L2.upd H10 p (.ins W dx (m4 r.pl z S D1))) bs ts := (hb8.keep (tk_same (s9.trans s10))).keep (k10.tk hp10)
    have hS11 : ChAt (L2.upd H10 p (.ins W dx (m4 r.pl z S D1))) S chs := ((hS5.same s57).same s710).keep (k10.tk hp10)
    have bv11 : ByV (L2.upd H10 p (.ins W dx (m4 r.pl z S D1))) D1 (sortS (names r.g)) chs (ts.filter fun t => t.sure) := by
      obtain ⟨ad, h1, h2⟩ := bv1
      exact ⟨ad, k10 _ _ (ne_of h1 hp10 (by intro q; cases q)) h1, fun y hy => (h2 y hy).keep (k10.tk hp10)⟩
    generalize L2.upd H10 p (.ins W dx (m4 r.pl z S D1)) = H11 at k11 hp11 hD11 htn11 hb11 hS11 bv11
    -- the doubtful ones
    refine ⟨_, rfl, _, rfl, Dd, rfl, ⟨_, .inl (.inl hD11)⟩, fun Df hF => ?_⟩
    refine pick_tels (K := K) hD11 hb11 hF (fun t => !t.sure) lenS (fun _ => rfl) (fun pt t H' _ hpt _ Q' q' => ⟨_, rfl, pt, _, _, _, rfl, rfl, .inl (.inl hpt), atI_nat (j := 6) rfl, _, rfl, q'⟩) (fun x H' Q' q' => ⟨_, rfl, q'⟩) ?_
    intro es H12 s12 hF12 hc12
    refine ⟨_, rfl, tn, Df, S, _, es, _, chs, rfl, s12 _ _ htn11, nds, n36, hF12, hc12, fun t ht => okS t (List.mem_filter.mp ht).1, Nat.le_trans (List.length_filter_le _ _) lenS, hS11.same s12, okc, fun D2 H13 nD2 s13 bv2 => ?_⟩
    have s1113 := s12.trans s13
    have hp13 := s1113 _ _ hp11
    refine ⟨_, rfl, p, W, dx, m4 r.pl z S D1, rfl, hp13, TM.cl, TM.nD, (by show 4 < 1000; decide), ?_⟩
    have k13 : But p H13 (L2.upd H13 p (.ins W dx (m5 r.pl z S D1 D2))) := But.upd fun b o _ e => e
    have k14 : But p H5 (L2.upd H13 p (.ins W dx (m5 r.pl z S D1 D2))) := But.upd fun b o n e => s1113 _ _ (k11 b o n e)
    have hp14 : L2.upd H13 p (.ins W dx (m5 r.pl z S D1 D2)) p = some (.ins W dx (m5 r.pl z S D1 D2)) := upd_same
    have htn14 := k13.tk hp13 _ _ (s1113 _ _ htn11)
    have bv14 : ByV (L2.upd H13 p (.ins W dx (m5 r.pl z S D1 D2))) D1 (sortS (names r.g)) chs (ts.filter fun t => t.sure) := by
      obtain ⟨ad, h1, h2⟩ := bv11
      have h1' := s1113 _ _ h1
      exact ⟨ad, k13 _ _ (ne_of h1' hp13 (by intro q; cases q)) h1', fun y hy => ((h2 y hy).keep (tk_same s1113)).keep (k13.tk hp13)⟩
    have bw14 : ByV (L2.upd H13 p (.ins W dx (m5 r.pl z S D1 D2))) D2 (sortS (names r.g)) chs (ts.filter fun t => !t.sure) := by
      obtain ⟨ad, h1, h2⟩ := bv2
      exact ⟨ad, k13 _ _ (ne_of h1 hp13 (by intro q; cases q)) h1, fun y hy => (h2 y hy).keep (k13.tk hp13)⟩
    generalize L2.upd H13 p (.ins W dx (m5 r.pl z S D1 D2)) = H14 at k14 hp14 htn14 bv14 bw14
    have bv15 := bv14
    obtain ⟨ad, hd14, hr14⟩ := bv14
    -- what is said
    refine ⟨_, rfl, tn, rfl, ⟨_, .inl (.inl htn14)⟩, fun Ds hDs => dc_it (walk_tup (K := K) (a := tn) (xs := (sortS (names r.g)).map V.str)) (fun i H' => Same H14 H' ∧ SaidAt H' Ds ((sortS (names r.g)).take i) (saidOf chs r.ts z lo hi)) ⟨same_new hDs, fun _ => 0, upd_same, fun z hz => by simp at hz⟩ (fun i H' _ h => .inl (.inl (h.1 _ _ htn14))) ?_ ?_⟩
    · rintro i x H15 H16 hi' ⟨s15, ad2, hd15, hr15⟩ ⟨rfl, hx⟩
      rw [List.getElem?_map] at hx
      obtain ⟨y, hy, rfl⟩ := Option.map_eq_some_iff.mp hx
      have hym := List.mem_of_getElem? hy
      obtain ⟨as2, ha2, hb2⟩ := hr14 y hym
      have hdv : DGet H16 D1 (.str y) (some (.ref (ad y))) := by
        have := DGet.k (k := Sum.inr y) (s15 _ _ hd14)
        rw [valV_in hym] at this
        exact this
      have hay := s15 _ _ ha2
      refine ⟨rfl, yes_it ⟨_, rfl, _, rfl, p, W, dx, _, _, rfl, s15 _ _ hp14, TM.cl, TM.nS, m5_sure _ _ _ _ _, _, rfl, D1, _, rfl, hdv, ad y, rfl, ⟨_, .inl (.inl hay)⟩, fun Dr hDr => ?_⟩⟩
      have hlen2 := hb2.length
      have hw2 : (wordsIn chs ((ts.filter fun t => t.sure).filter fun t => decide (t.v = y))).length ≤ 200 := by
        unfold wordsIn
        rw [sortS_len]
        refine Nat.le_trans (keysOf_len _) ?_
        rw [List.length_map]
        exact Nat.le_trans (List.length_filter_le _ _) (Nat.le_trans (List.length_filter_le _ _) lenS)
      refine lc_rel (walk_tup (K := K) (a := ad y) (xs := as2.map V.ref)) hDr (fun _ => true) (fun x u _ => ∀ (p : Addr) (v : Str) (a b n : Int), x = .ref p → H14 p = some (.tup [.str v, .int a, .int b, .int n]) → u = .str v) (fun H' s' => .inl (.inl (s' _ _ hay))) (fun _ => rfl) (fun x H' _ _ Q' q' => q') ?_ (fun _ _ _ _ _ _ _ r => r) ?_ ?_
      · intro x H' hx _ s' Q' q'
        obtain ⟨pr, hpr, rfl⟩ := List.mem_map.mp hx
        obtain ⟨k, hk, ek⟩ := List.mem_iff_getElem.mp hpr
        obtain ⟨u, hu2, hH⟩ := Each.get hb2 (i := k) (a := pr) (by rw [List.getElem?_eq_getElem hk, ek])
        refine ⟨_, rfl, pr, _, _, .str u, rfl, rfl, .inl (.inl (s' _ _ (s15 _ _ hH))), atI_nat (j := 0) rfl, ?_⟩
        refine q' _ _ (Same.refl _) fun p' v a' b' n' e1 e2 => ?_
        have e1 := V.ref.inj e1
        subst e1
        rw [hH] at e2
        have := HO.tup.inj (Option.some.inj e2)
        simp only [List.cons.injEq] at this
        exact this.1
      · rw [List.length_map]
        exact small1000 (by omega)
      · intro zs H17 s17 hD17 he
        rw [List.filter_eq_self.mpr fun _ _ => rfl] at he
        have ez := words_rows (hb2.mono fun p z e => ⟨_, _, _, e⟩) he
        rw [ez] at hD17
        refine ⟨Dr, _, rfl, .inl ⟨.inl (.inl hD17), fun tt htt => ?_⟩⟩
        have s18 := same_new (o := .tup ((wordsIn chs ((ts.filter fun t => t.sure).filter fun t => decide (t.v = y))).map V.str)) htt
        have s1518 := s17.trans s18
        have hd18 := s1518 _ _ hd15
        have htt18 : L2.upd H17 tt (.tup ((wordsIn chs ((ts.filter fun t => t.sure).filter fun t => decide (t.v = y))).map V.str)) tt = some (.tup ((saidOf chs r.ts z lo hi y).map V.str)) := by
          rw [upd_same, esd]
        generalize L2.upd H17 tt (.tup ((wordsIn chs ((ts.filter fun t => t.sure).filter fun t => decide (t.v = y))).map V.str)) = H18 at s18 s1518 hd18 htt18
        have hnew : y ∉ (sortS (names r.g)).take i := fun hm => by
          obtain ⟨j, hj, ej⟩ := List.mem_iff_getElem.mp hm
          rw [List.length_take] at hj
          rw [List.getElem_take] at ej
          obtain ⟨hi2, ei⟩ := List.getElem?_eq_some_iff.mp hy
          have := (List.getElem_inj nds).mp (ej.trans ei.symm)
          omega
        have hv : valV (kvZ (fun z => V.ref (ad2 z)) ((sortS (names r.g)).take i)) (Sum.inr y : Key) = none := valV_out hnew
        refine ⟨_, Sum.inr y, rfl, hd18, ?_, same_mut (s15.trans s1518) hDs, fun u => if u = y then tt else ad2 u, ?_, fun u hu3 => ?_⟩
        · rw [kvZ_len, List.length_take]
          exact small1000 (by omega)
        · rw [putK_new _ hv, upd_same, take_snoc hy]
          unfold kvZ
          rw [List.map_append]
          congr 2
          congr 1
          · refine List.map_congr_left fun u hu3 => ?_
            have : u ≠ y := fun e => hnew (e ▸ hu3)
            simp only [if_neg this]
          · simp
        · have tk := tk_updD (o := .dK (putK (kvZ (fun z => V.ref (ad2 z)) ((sortS (names r.g)).take i)) (Sum.inr y) (.ref tt))) hd18
          by_cases c : u = y
          · subst c
            simp only [if_true]
            exact tk _ _ htt18
          · simp only [if_neg c]
            have hu' : u ∈ (sortS (names r.g)).take i := by
              rw [take_snoc hy] at hu3
              rcases List.mem_append.mp hu3 with h | h
              · exact h
              · exact absurd (List.mem_singleton.mp h) c
            exact tk _ _ (s1518 _ _ (hr15 u hu'))
    · rintro H15 ⟨s15, sd15⟩
      rw [List.length_map, List.take_length] at sd15
      have hp15 := s15 _ _ hp14
      refine ⟨_, rfl, p, W, dx, m5 r.pl z S D1 D2, rfl, hp15, TM.cl, TM.nA, (by show 5 < 1000; decide), ?_⟩
      have k16 : But p H15 (L2.upd H15 p (.ins W dx (mf r.pl z S D1 D2 Ds))) := But.upd fun b o _ e => e
      have k516 : But p H5 (L2.upd H15 p (.ins W dx (mf r.pl z S D1 D2 Ds))) := But.upd fun b o n e => s15 _ _ (k14 b o n e)
      have kb : ∀ {D : Addr} {ts : List Tel}, ByV H14 D (sortS (names r.g)) chs ts → ByV (L2.upd H15 p (.ins W dx (mf r.pl z S D1 D2 Ds))) D (sortS (names r.g)) chs ts := fun {D ts} ⟨ad, h1, h2⟩ => ⟨ad, k16 _ _ (ne_of (s15 _ _ h1) hp15 (by intro q; cases q)) (s15 _ _ h1), fun y hy => ((h2 y hy).keep (tk_same s15)).keep (k16.tk hp15)⟩
      refine q S Ds D1 D2 _ (fun b o n e => k516 b o n (k05 b o n e)) ⟨⟨dx, D1, D2, upd_same⟩, land_but hG5.land hp5 npl k516, hS5.keep (k516.tk hp5), ?_⟩ ⟨⟨dx, upd_same⟩, kb bv15, kb bw14⟩
      obtain ⟨ad3, h1, h2⟩ := sd15
      exact ⟨ad3, k16 _ _ (ne_of h1 hp15 (by intro q; cases q)) h1, fun y hy => k16.tk hp15 _ _ (h2 y hy)⟩
end
end Wl




/-! A comprehension whose test makes objects. -/
namespace Wl
open PySem PySem.Spec PyProof.Rows L2
section
variable {J : It} {ys : List V} {G : Hp → Prop} {slot : Nat} {tt : TT} {te : TE} {vs : List Nat} {σ : L2.St} {H1 : Hp} {D : Addr} {Qd : Hp → Prop}
theorem lc_keepX (w : L2.Walk J ys.length G (YAt ys)) (hD : H1 D = none) (keep : V → Bool) (hG : ∀ H, Same H1 H → G H) (hw : ∀ x, wipe ((wipe σ vs).set slot (some x)) vs = wipe σ vs)
    (ht : ∀ (x : V) (H : Hp), x ∈ ys → Same H1 H → ∀ Q : Bool → Hp → Prop, (∀ H', Same H H' → Q (keep x) H') → tt ((wipe σ vs).set slot (some x)) H Q)
    (he : ∀ (x : V) (H : Hp) (Q : VK), Q x H → te ((wipe σ vs).set slot (some x)) H Q)
    (hn : ys.length < sizeLine)
    (hd : ∀ H, Same H1 H → H D = some (.lst (ys.filter keep)) → Qd H) :
    ∃ W : Nat → Nat → Hp → Prop, (∃ m, W 0 m (upd H1 D (.lst []))) ∧ ∀ i m H, W i m H →
      (J.stop i H ∧ Qd H) ∨ (J.go i H ∧ ∃ Nx : Hp → Prop, (∀ H', Nx H' → ∃ m', m' < m ∧ W (i + 1) m' H') ∧ ∀ x H', J.yld i H x H' → gName slot x (wipe σ vs) H' fun σ2 H2 => wipe σ2 vs = wipe σ vs ∧ tt σ2 H2 fun b H3 =>
        if b = true then te σ2 H3 fun y H4 => ∃ acc, H4 D = some (.lst acc) ∧ acc.length < sizeLine ∧ Nx (upd H4 D (.lst (acc ++ [y]))) else Nx H3) := by
  refine lc_it w (fun i H => Same H1 H ∧ H D = some (.lst ((ys.take i).filter keep))) ⟨same_new hD, upd_same⟩ (fun i H _ h => hG H h.1) ?_ ?_
  · rintro i x H H' hi ⟨s, hz⟩ ⟨rfl, hx⟩
    have hm : x ∈ ys := List.mem_of_getElem? hx
    refine ⟨hw x, ht x _ hm s _ fun H3 s3 => ?_⟩
    have hf := filter_take_snoc (p := keep) hx
    refine ite_b (fun e => ?_) (fun e => ?_)
    · refine he x _ _ ⟨_, s3 _ _ hz, ?_, same_mut (s.trans s3) hD, ?_⟩
      · have h2 : ((ys.take i).filter keep).length ≤ (ys.take i).length := List.length_filter_le _ _
        have h3 : (ys.take i).length ≤ ys.length := List.length_take_le' _ _
        omega
      · rw [upd_same, hf, if_pos e]
    · refine ⟨s.trans s3, ?_⟩
      rw [hf, if_neg (by rw [e]; decide), List.append_nil]
      exact s3 _ _ hz
  · rintro H ⟨s, hz⟩
    rw [List.take_length] at hz
    exact hd H s hz
end
end Wl

namespace Wl
open PySem PySem.Spec PyProof.Rows L2
abbrev sMHave : Stmt := inClass sMap 3
theorem Good.n36 {g : Grid} {wd : Nat} (gd : Good g wd) : (names g).length ≤ 36 := by
  have a1 := len_names gd.rows
  have a3 : g.length * wd ≤ 6 * 6 := Nat.mul_le_mul gd.h6 gd.w6
  omega
theorem pos_dec {α : Type} (l : List α) : decide ((0 : Int) < (l.length : Int)) = !l.isEmpty := by
  cases l with
  | nil => rfl
  | cons a r =>
    refine decide_eq_true ?_
    rw [List.length_cons]
    omega
theorem zero_dec {α : Type} (l : List α) : decide (V.int (l.length : Int) = V.int 0) = l.isEmpty := by
  cases l with
  | nil => rfl
  | cons a r =>
    refine decide_eq_false fun e => ?_
    have := V.int.inj e
    rw [List.length_cons] at this
    omega
section
variable {P : Program} {w : World} {K : PySem.W.Frag} {mg : Str → Option Value} {base : Heap} {f C D W : Addr} {fd : FuncData}
theorem SaidAt.get {H : Hp} {d : Addr} {nms : List Str} {said : Str → List Str} (h : SaidAt H d nms said) {z : Str} (hz : z ∈ nms) : ∃ t, DGet H d (.str z) (some (.ref t)) ∧ H t = some (.tup ((said z).map V.str)) := by
  obtain ⟨ad, h1, h2⟩ := h
  refine ⟨ad z, ?_, h2 z hz⟩
  have := DGet.k (k := Sum.inr z) h1
  rw [valV_in hz] at this
  exact this
/-! ### have -/
def spHave (C W : Addr) : Sp := fun vs H Q _ => ∃ (p : Addr) (z : Str) (r : MR) (wd : Nat), vs = [.ref p, .str z] ∧ MapAt C W H p r ∧ Good r.g wd ∧ OkCs r.chs ∧ IsWd z ∧
  ∀ (t : Addr) (H' : Hp), H t = none → Same H H' → H' t = some (.tup (((sortS (names r.g)).filter fun y => decide (mean r.chs z ∈ r.said y)).map V.str)) → Q (.ref t) H'
abbrev nHave : List Str := ["self", "word", "meant", "name"]
theorem scHave : FnScope nHave ["self", "word"] (defScope sMHave) := ⟨rfl, rfl, rfl, by decide +kernel, rfl, by decide +kernel, by decide +kernel⟩
def keepH (said : Str → List Str) (m : Str) : V → Bool
  | .str y => decide (m ∈ said y)
  | _ => false
theorem keepH_filter (said : Str → List Str) (m : Str) : ∀ l : List Str, ((l.map V.str).filter (keepH said m)).map id = (l.filter fun y => decide (m ∈ said y)).map V.str
  | [] => rfl
  | y :: l => by
    have ih := keepH_filter said m l
    rw [List.map_id] at ih ⊢
    rw [List.map_cons, List.filter_cons, List.filter_cons]
    have e : keepH said m (.str y) = decide (m ∈ said y) := rfl
    rw [e]
    by_cases c : decide (m ∈ said y) = true
    · rw [if_pos c, if_pos c, ih]
      rfl
    · rw [if_neg c, if_neg c, ih]
theorem ok_have (F : Fun K "have" "WordMap.have" sMHave f fd) (B : Bi mg) (T : Txt K mg C) (TM : TxtM K mg W) (hM : HasN P w K mg base "meaning" wMean 5 ps2 spMean) (hN : HasM P w K mg base C "names" 1 ["self"] (spLNames C)) : FnOk P w K mg base CX0 6 f fd ["self", "word"] (spHave C W) := by
  obtain ⟨fM, fdM, FM, mM, NM⟩ := hM
  have bM := bindM2 NM
  refine F.ok scHave (fun vs H Q E h => ?_) (fun cdv A outer s H vs Q E hr h => ?_)
  · obtain ⟨p, z, r, wd, rfl, _⟩ := h
    rfl
  · obtain ⟨p, z, r, wd, rfl, hM, gd, okc, hz, q⟩ := h
    have hu := hu_of hr
    refine ⟨_, pss_cons (ps_set (i := 2) scHave.nd rfl (.inr rfl) (pe_call FM hr rfl mM NM.kp bM .nil pass0 (pa_cons (pv 1) (pa_cons (pe_fld (pv 0) rfl) pa_nil))))
      (pss_one (ps_ret (pe_callTy call_tuple_of (by rfl) B.tuple (by decide +kernel) (pa_cons (pe_lc (own := [("name", 3)]) (g := gName 3) (tt := tTest (tOp (rIn K false) (tVar 2) (tDGet (tFld K (tVar 0) "said") (tVar 3)))) (te := tVar 3) rfl scHave.nd (pi_tup (pe_hm0 hN T.cl hr (pe_fld (pv 0) rfl))) (blkOk_by (N := nHave) (sc := defScope sMHave) (by decide +kernel))
        (fun _ _ _ _ _ => pg_name (i := 3) scHave.nd rfl (.inl rfl)) (fun _ _ _ _ _ => pts_one (pt_cmpR op_in_seq (pv 2) (pe_dget hu (pe_fld (pv 0) rfl) (pv 3) (fun _ _ => rfl)) (by rfl))) (fun _ _ _ _ _ => pv 3)) pa_nil)))), ?_⟩
    obtain ⟨dx, a, b, hp⟩ := hM.at_
    refine ⟨_, rfl, _, rfl, p, W, dx, _, _, rfl, hp, TM.cl, TM.nC, mf_changes _ _ _ _ _ _, z, .ref r.S, r.chs, rfl, hz, .inr ⟨r.S, rfl, hM.ch⟩, okc, fun H1 s1 => ?_⟩
    have hM1 := hM.same s1
    obtain ⟨dx1, a1, b1, hp1⟩ := hM1.at_
    obtain ⟨dl, d, hl1⟩ := hM1.land.ins
    refine ⟨_, rfl, p, W, dx1, _, _, rfl, hp1, TM.cl, TM.nL, mf_land _ _ _ _ _ _, r.pl, dl, _, rfl, hl1, fs_no, r.pl, r.L, r.g, wd, rfl, hM1.land, gd, fun tn H2 ntn s2 htn => ⟨tn, rfl, ⟨_, .inl (.inl htn)⟩, fun Dd hD => ?_⟩⟩
    have hM2 := hM1.same s2
    refine lc_map (walk_tup (K := K) (a := tn) (xs := (sortS (names r.g)).map V.str)) hD (keepH r.said (mean r.chs z)) id (fun H' s' => .inl (.inl (s' _ _ htn))) (fun _ => rfl) ?_ ?_ ?_ ?_
    · intro x H' hx s' Q' q'
      obtain ⟨y, hy, rfl⟩ := List.mem_map.mp hx
      have hM3 := hM2.same s'
      obtain ⟨dx3, a3, b3, hp3⟩ := hM3.at_
      obtain ⟨t, ht1, ht2⟩ := hM3.said.get hy
      refine ⟨_, rfl, _, rfl, p, W, dx3, _, _, rfl, hp3, TM.cl, TM.nA, mf_said _ _ _ _ _ _, _, rfl, r.sd, _, rfl, ht1, t, _, rfl, .inr (.inl (.inl ht2)), rfl, flat_strs _, _, rfl, ?_⟩
      have e : inV (.str (mean r.chs z)) ((r.said y).map V.str) = keepH r.said (mean r.chs z) (.str y) := inV_strs _ _
      rw [if_neg (by decide), e]
      exact q'
    · intro x H' hx _ _ Q' q'
      exact ⟨_, rfl, q'⟩
    · rw [List.length_map, sortS_len]
      exact small1000 (by have := gd.n36; omega)
    · intro H3 s3 hD3
      rw [keepH_filter] at hD3
      refine ⟨Dd, _, rfl, .inl ⟨.inl (.inl hD3), fun t ht => ?_⟩⟩
      exact q t _ (((s1.trans s2).trans s3).free ht) (((s1.trans s2).trans s3).trans (same_new ht)) upd_same
/-! ### check_map -/
/-! ### both_asked -/
/-! ### do_part -/
end
end Wl




/-! Sets of texts, whole: set(xs), {e for ..}, sorted(a set). -/
namespace Wl
open PySem PySem.Spec PyProof.Rows L2
open PySem.Froz (SD sObj TxOk addTx tailTx)
theorem tail_ris {ep : Nat} {es : Array (Int × Value)} {t : SetTable} {b : Bool} (r : Ris t.place.toList) : Ris (tailTx ep es t b).2.2.place.toList := by
  unfold tailTx
  split
  · exact relayAll_ris _ _ _
  · exact r
theorem tail_led {ep : Nat} {es : Array (Int × Value)} {t : SetTable} {b : Bool} : (tailTx ep es t b).2.2.led = t.led := by
  unfold tailTx
  split
  · exact relayAll_led _ _ _
  · rfl
theorem add_ris {h : Int} {v : Value} {D : SD} (r : Ris D.2.2.place.toList) : Ris (addTx h v D).2.2.place.toList := by
  unfold addTx
  refine tail_ris ?_
  split
  · exact layNew_ris _ _ _ _ r
  · exact layNew_ris _ _ _ _ r
theorem add_led {h : Int} {v : Value} {D : SD} : (addTx h v D).2.2.led = D.2.2.led := by
  unfold addTx
  rw [tail_led]
  split
  · exact layNew_led _ _ _ _
  · exact layNew_led _ _ _ _
/-- the set at a holds the texts l, each once -/
structure SetX (P : Program) (w : World) (h : Heap) (a : Addr) (l : List Str) : Prop where
  nd : l.Nodup
  ob : ∃ D : SD, h.get? a = some (sObj "set" D) ∧ TxOk P w D l ∧ Ris D.2.2.place.toList ∧ (w.params.followText "set-order" = true ∨ D.2.2.led = true)
section
variable {P : Program} {w : World} {A : Around} {E : Value → Shared → Prop} {s : Shared} {a : Addr} {l : List Str} {k : Str} {u : Tok}
theorem SetX.at {h h' : Heap} (R : SetX P w h a l) (q : ∀ o, h.get? a = some o → h'.get? a = some o) : SetX P w h' a l := by
  obtain ⟨D, h1, h2⟩ := R.ob
  exact ⟨R.nd, D, q _ h1, h2⟩
/-- a text that is there already -/
theorem add_old {T : String} {D : SD} {Q : Bool → Shared → Prop} (hob : s.heap.get? a = some (sObj T D)) (F : TxOk P w D l) (hk : k ∈ l) (hb : l.length < scanBound) (h : Q false s) : wpAny (model P w) A (setAddHashed a (.str k u) (hashStr w k)) Q E s := by
  obtain ⟨es, ep, t⟩ := D
  have hdt : (sObj T (es, ep, t)).data = .set es ep t := rfl
  have hft : t.fits es.size = true := F.fit
  have hels : ElemsOf (strKind P w) es.toList := F.el
  have hn : es.size < scanBound := by rw [show es.size = l.length from F.sz]; exact hb
  have hks : (strKind P w).is k (.str k u) = true := PySem.Froz.is_str k u
  obtain ⟨j, hj⟩ : ∃ j, List.findIdx? (fun e => (strKind P w).is k e.2) es.toList = some j := by
    obtain ⟨e, he, hq⟩ := (F.mem k).mp hk
    cases hr : List.findIdx? (fun e => (strKind P w).is k e.2) es.toList with
    | some j => exact ⟨j, rfl⟩
    | none =>
      have := List.findIdx?_eq_none_iff.mp hr e he
      rw [hq] at this
      cases this
  unfold setAddHashed setAddHashedIn
  refine wpAny_holding (wpAny_bind (wpAny_setState_of hob hdt hft ?_))
  dsimp only
  rw [byScan_of rfl hn hels]
  simp only [↓reduceIte]
  unfold setAddByScan
  refine wpAny_bind (wpAny_bind (wpAny_rule (wpAny_bind (wpAny_setScan_of (knd := strKind P w) (k := k) hks hob hdt hft hels ?_))))
  rw [hj]
  dsimp only
  exact wpAny_pure (wpAny_pure h)
/-- a text put in -/
theorem setX_put {Q : Bool → Shared → Prop} (R : SetX P w s.heap a l) (room : l.length + 1 < scanBound)
    (hQ : ∀ (b : Bool) (h' : Heap) (l' : List Str), (∀ c o, c ≠ a → s.heap.get? c = some o → h'.get? c = some o) → SetX P w h' a l' → (∀ z, z ∈ l' ↔ z ∈ l ∨ z = k) → l'.length ≤ l.length + 1 → Q b { s with heap := h', toks := s.toks + 1 }) :
    wpAny (model P w) A (setAdd a (.str k u)) Q E s := by
  obtain ⟨D, h1, F, r, hl⟩ := R.ob
  unfold setAdd
  refine wpAny_holding (wpAny_bind ((PySem.strKind P w).pyHash (k := k) (strKind_is _ _ _ _) ?_))
  by_cases hk : k ∈ l
  · refine add_old (s := { s with toks := s.toks + 1 }) h1 F hk (by omega) (hQ false s.heap l (fun _ _ _ e => e) R (fun z => ?_) (Nat.le_succ _))
    constructor
    · exact .inl
    · rintro (e | e)
      · exact e
      · rw [e]
        exact hk
  · refine PySem.Froz.add_x (s := { s with toks := s.toks + 1 }) h1 F hk room (hQ true _ (k :: l) (fun c o n e => ?_) ⟨List.nodup_cons.mpr ⟨hk, R.nd⟩, _, PySem.Froz.get_upd _ h1 rfl, PySem.Froz.add_ok u F, add_ris r, ?_⟩ (fun z => ?_) (Nat.le_refl _))
    · exact (Heap.get?_update_other _ _ (Ne.symm n)).trans e
    · rw [add_led]
      exact hl
    · rw [List.mem_cons]
      exact Or.comm
end
section
variable {P : Program} {w : World} {A : Around} {R : Result → Shared → Prop} {I S : Addr} {fp wr : List Addr} {G : Array GenState → Array GenState → Prop} {n : Nat} {Pv : Nat → Value → Prop} {St : Nat → Shared → Prop} {xs : List Str}
/-- the texts of a walk, put in one by one -/
theorem walk_setX (W : WalksS P w A.in1 I fp wr G n Pv St) (hS : S ∉ fp) (hn : n = xs.length) (hb : n + 1 < scanBound) (hv : ∀ i v, Pv i v → ∃ x t, xs[i]? = some x ∧ v = .str x t) :
    ∀ (m i : Nat) (s : Shared) (l : List Str), n - i = m → i ≤ n → St i s → SetX P w s.heap S l → (∀ z, z ∈ l ↔ z ∈ xs.take i) → l.length ≤ i →
      (∀ s' l', Moved (S :: wr) G s s' → SetX P w s'.heap S l' → (∀ z, z ∈ l' ↔ z ∈ xs) → l'.length ≤ n → R (.ok (.ret .none)) s') → codeAny (model P w) A (.builtin "set.update.loop" ⟨[.ref S, .ref I], []⟩) R s := by
  have nS : S ∉ wr := fun q => hS (W.sub _ q)
  have wide : ∀ b ∈ wr, b ∈ S :: wr := fun b q => List.mem_cons_of_mem _ q
  intro m
  induction m with
  | zero =>
    intro i s l hm hi st X hz hl fin
    have e : i = n := by omega
    subst e
    refine codeAny_builtin PyProof.Rows.F.entry_set_update_loop ((Around.under_plainId PyProof.Rows.F.plain_set_update_loop _).symm ▸ ?_)
    show wpAny _ A.in1 (pyNext (.ref I) >>= _) _ _ s
    refine wpAny_bind (W.done s _ _ st fun s' mv => wpAny_pure (fin s' l (mv.mono wide) (X.at fun o q => mv.heap S o nS q) (fun z => ?_) hl))
    rw [hz, hn, List.take_length]
  | succ m ih =>
    intro i s l hm hi st X hz hl fin
    have lt : i < n := by omega
    refine codeAny_builtin PyProof.Rows.F.entry_set_update_loop ((Around.under_plainId PyProof.Rows.F.plain_set_update_loop _).symm ▸ ?_)
    show wpAny _ A.in1 (pyNext (.ref I) >>= _) _ _ s
    refine wpAny_bind (W.item i s _ _ lt st fun v s' pv st' mv => ?_)
    obtain ⟨x, t, hx, rfl⟩ := hv i v pv
    have X1 := X.at (h' := s'.heap) fun o q => mv.heap S o nS q
    show wpAny _ A.in1 (holding [Value.str x t] (setAdd S (.str x t)) >>= _) _ _ s'
    refine wpAny_bind (wpAny_holding (setX_put X1 (by omega) fun b h' l' kp X2 hz2 hl2 => ?_))
    refine wpAny_pure ⟨plainId_quiet PyProof.Rows.F.plain_set_update_loop _, ih (i + 1) _ l' (by omega) lt (W.frame _ s' _ _ st' (Nat.le_succ _) fun c hc o q => ?_) X2 (fun z => ?_) (by omega) fun s'' l'' mv2 X3 hz3 hl3 => fin s'' l'' (Moved.trans W.gtrans ((mv.mono wide).then_heap (Nat.le_succ _) fun c o hc q => ?_) mv2) X3 hz3 hl3⟩
    · exact kp c o (fun e => hS (e ▸ hc)) q
    · rw [hz2, hz, List.take_add_one, hx, List.mem_append]
      simp
    · exact kp c o (fun e => hc (e ▸ List.mem_cons_self)) q
end
theorem texts_each : ∀ {ys : List Str} {us : List Value}, Vals (ys.map V.str) us → ∀ (i : Nat) (v : Value), us[i]? = some v → ∃ x t, ys[i]? = some x ∧ v = .str x t
  | [], [], _, i, v, h => by simp at h
  | [], _ :: _, r, _, _, _ => nomatch r
  | _ :: _, [], r, _, _, _ => nomatch r
  | y :: ys, u :: us, .cons r t, 0, v, h => by
    obtain ⟨k, rfl⟩ := r
    exact ⟨y, k, rfl, (Option.some.inj h).symm⟩
  | y :: ys, u :: us, .cons r t, i + 1, v, h => by
    obtain ⟨x, k, h1, h2⟩ := texts_each t i v (by simpa using h)
    exact ⟨x, k, by simpa using h1, h2⟩
end Wl

namespace Wl
open PySem PySem.Spec PyProof.Rows L2
open PySem.Froz (SD sObj TxOk addTx tailTx)
/-- a new set, as the world lays it -/
abbrev setN (w : World) : Obj := { cls := .type "set", dict := none, data := .set #[] 0 (.fresh 0 0 (!w.params.followText "set-order")) }
theorem setX_new {P : Program} {w : World} {h : Heap} {a : Addr} (ho : h.get? a = some (setN w)) : SetX P w h a [] := by
  refine ⟨List.nodup_nil, (#[], 0, .fresh 0 0 (!w.params.followText "set-order")), ho, PySem.Froz.TxOk.nil rfl, List.Pairwise.nil, ?_⟩
  show _ ∨ (!w.params.followText "set-order") = true
  cases w.params.followText "set-order"
  · exact .inr rfl
  · exact .inl rfl
section
variable {P : Program} {w : World} {A : Around} {E : Value → Shared → Prop} {s : Shared} {xs : List Str}
theorem make_setX {l : Addr} {items : Array Value} {Q : Value → Shared → Prop} (hh : A.handled = none) (hl : s.heap.IsList l items) (r : Vals (xs.map V.str) items.toList) (hb : xs.length + 1 < scanBound)
    (h : ∀ (h' : Heap) (tk : Nat) (ys : List Str), SetX P w h' s.heap.objs.size ys → (∀ z, z ∈ ys ↔ z ∈ xs) → ys.length ≤ xs.length → (∀ b o, b < s.heap.objs.size → s.heap.get? b = some o → h'.get? b = some o) → Q (.ref s.heap.objs.size) { s with heap := h', toks := tk }) :
    wpAny (model P w) A (call (.type "set") [.ref l]) Q E s := by
  have hsz : xs.length = items.size := by
    have := r.length
    rw [List.length_map, Array.length_toList] at this
    exact this
  obtain ⟨c, tl, hmro⟩ := PySem.F.called_set.mro
  have a1 := PySem.F.called_set.made
  have a2 := PySem.F.called_set.sub
  have a3 := PySem.F.called_set.notType
  have a4 := PySem.F.called_set.canCreate
  have a5 := PySem.F.typeCall_set_1 (.ref l)
  refine wpAny_call (codeAny_of_tree (show wpAny _ _ (callAny (.type "set") _) _ _ _ from wpAny_pure ⟨Code.quiet_builtin _ (by decide +kernel), codeAny_builtin PySem.F.entry_type_call ?_⟩))
  rw [Around.under_plain (weight_type_call_type "set" [.ref l] []) rfl]
  repeat (any_goals (first | assumption | wp_step))
  refine codeAny_mono (code_set_led1 (.ref l) (E := E) (Q₁ := fun obj s₁ => obj = .ref s.heap.objs.size ∧ s₁ = { s with heap := s.heap.push (setN w) }) ⟨rfl, rfl⟩) fun r₁ s₁ h₁ => ?_
  cases r₁ with
  | error e => exact h₁
  | ok fl =>
    cases fl with
    | ret obj =>
      obtain ⟨rfl, rfl⟩ := h₁
      have g1 : (s.heap.push (setN w)).get? s.heap.objs.size = some (setN w) := Heap.get?_push_size _ rfl
      have g2 : Shared.TypeIs { s with heap := s.heap.push (setN w) } (.ref s.heap.objs.size) "set" := ⟨_, g1, rfl⟩
      have g3 := PySem.F.called_set.init.lookup
      have g4 := PySem.F.called_set.init.bind (.ref s.heap.objs.size)
      repeat (any_goals (first | assumption | wp_step))
      refine codeAny_mono (codeAny_call_builtin (R := wants (fun v s₂ => v = .none ∧ ∃ h' tk ys, s₂ = { s with heap := h', toks := tk } ∧ SetX P w h' s.heap.objs.size ys ∧ (∀ z, z ∈ ys ↔ z ∈ xs) ∧ ys.length ≤ xs.length ∧ (∀ b o, b < s.heap.objs.size → s.heap.get? b = some o → h'.get? b = some o)) E) PySem.F.called_set.init.plain PySem.F.entry_set_init (check_set_init_1 g2 ?_)) fun r₂ s₂ h₂ => ?_
      · obtain ⟨⟨oc, odt, oda, osl⟩, e1, e2, nl, e3⟩ := hl
        simp only at e2 e3
        subst e2 e3
        have e4 : (s.heap.push (setN w)).get? l = some { cls := .type "list", dict := odt, data := .seq items nl, slots := osl } := Heap.get?_push_of_some _ e1
        have b1 := PySem.F.sub_list_set
        have b2 := PySem.F.sub_list_frozenset
        have b3 : (Value.type "list" == Value.type "dict") = false := by decide
        have il : (s.heap.push (setN w)).IsList l items := ⟨_, e4, rfl, nl, rfl⟩
        have ll : l < s.heap.objs.size := Heap.lt_size e1
        have zz : (s.heap.push (setN w)).objs.size = s.heap.objs.size + 1 := Heap.size_push ..
        unfold Builtin.«set.__init__» noKeywords Builtin.Frozenset.updateFrom
        generalize hPI : pyIter = PI
        wp_walk
        subst hPI
        refine wpAny_pyIter_list il (wpAny_bind (wpAny_runValue ?_))
        have hh3 : A.in1.in1.in1.handled = none := by simp [hh]
        refine walk_setX (S := s.heap.objs.size) (xs := xs) (n := items.size) ((Walks.list hh3 _ l (by rw [zz]; exact Nat.ne_of_lt (Nat.lt_succ_of_lt ll)) items).toS) (by rw [zz]; simp only [List.mem_cons, List.not_mem_nil, or_false, not_or]; exact ⟨Nat.ne_of_lt (Nat.lt_succ_self _), Nat.ne_of_gt ll⟩) hsz.symm (by omega) (fun i v q => texts_each r i v (by rw [Array.getElem?_toList]; exact q)) (items.size - 0) 0 _ [] (by omega) (Nat.zero_le _) ⟨⟨_, Heap.get?_push_size _ rfl, rfl, rfl⟩, il.push _⟩ (setX_new (Heap.get?_push_of_some _ g1)) (fun z => by simp) (Nat.le_refl _) ?_
        intro s' ys mv X hz hy
        obtain ⟨h', g', d', tk', os'⟩ := s'
        obtain rfl : g' = s.gens := mv.gens
        obtain rfl : d' = s.drawn := mv.drawn
        obtain rfl : os' = s.os := mv.os
        refine wpAny_pure (show wpAny _ _ (ret Value.none) _ _ _ from wpAny_pure ⟨rfl, h', tk', ys, rfl, X, hz, by rw [hsz]; exact hy, fun b' o hb' q => mv.heap b' o ?_ (Heap.get?_push_of_some _ (Heap.get?_push_of_some _ q))⟩)
        rw [zz]
        simp only [List.mem_cons, List.not_mem_nil, or_false, not_or]
        exact ⟨Nat.ne_of_lt hb', Nat.ne_of_lt (Nat.lt_succ_of_lt hb')⟩
      · cases r₂ with
        | error e => exact h₂
        | ok fl₂ =>
          cases fl₂ with
          | ret v =>
            obtain ⟨rfl, h', tk, ys, rfl, X, hz, hy, kk⟩ := h₂
            repeat (any_goals (first | assumption | wp_step))
            exact h _ _ ys X hz hy kk
          | _ => exact h₂.elim
    | _ => exact h₁.elim
end
/-! as tracked things -/
def SetXO (P : Program) (w : World) (a : Addr) (l : List Str) : HO := .ext fun h => SetX P w h a l
theorem setXO_ok {P : Program} {w : World} {H : Hp} {h : Heap} {a : Addr} {l : List Str} (R : SetX P w h a l) : ObjOk P w H h a (SetXO P w a l) := by
  obtain ⟨D, h1, _⟩ := R.ob
  exact ⟨R, ⟨_, h1⟩, fun _ _ p k => p.at k⟩
theorem same_members {ks : List Str} : ∀ {l : List Str}, l.Nodup → (∀ z ∈ l, z ∈ ks) → ks.length = l.length → ks.Perm l := by
  intro l
  induction l generalizing ks with
  | nil =>
    intro _ _ h
    rw [List.eq_nil_of_length_eq_zero h]
  | cons x l ih =>
    intro nd hs hl
    rw [List.nodup_cons] at nd
    have hx := hs x List.mem_cons_self
    have p := List.perm_cons_erase hx
    refine p.trans (List.Perm.cons x (ih nd.2 (fun z hz => ?_) ?_))
    · have hne : z ≠ x := fun e => nd.1 (e ▸ hz)
      exact (List.mem_erase_of_ne hne).mpr (hs z (List.mem_cons_of_mem _ hz))
    · have := p.length_eq
      rw [List.length_cons] at this
      rw [List.length_cons] at hl
      omega
def txtV : Value → Str
  | .str k _ => k
  | _ => ""
theorem strs_srt (ks : List Str) : ks.mergeSort (PySem.W.dataLe false PyData.str) = sortS ks := by
  unfold sortS
  congr 1
  funext a b
  exact le_data_str a b
theorem each_txt : ∀ {vs : List Value}, (∀ v ∈ vs, ∃ k t, v = .str k t) → PySem.W.EachIs (fun u z => RelV (.str z) u) vs (vs.map txtV)
  | [], _ => .nil
  | v :: vs, h => by
    obtain ⟨k, t, rfl⟩ := h v List.mem_cons_self
    exact .cons ⟨t, rfl⟩ (each_txt fun u hu => h u (List.mem_cons_of_mem _ hu))
theorem vals_txt : ∀ {out : List Value} {ks : List Str}, PySem.W.EachIs (fun u z => RelV (.str z) u) out ks → Vals (ks.map V.str) out
  | _, _, .nil => .nil
  | _, _, .cons r t => .cons r (vals_txt t)
theorem sortS_perm {a b : List Str} (nd : b.Nodup) (p : a.Perm b) : sortS a = sortS b := by
  refine sortS_eq nd (sortS_rising (p.nodup_iff.mpr nd)) fun z => ?_
  rw [mem_sortS, p.mem_iff]
section
variable {X : Cx}
/-- set(xs), xs a list of texts -/
def rSetX (K : PySem.W.Frag) (P : Program) (w : World) : List V → Hp → VK → Prop := fun xs H Q => ∃ (p : Addr) (ys : List Str), xs = [V.ref p] ∧ SqL K H p (ys.map V.str) ∧ ys.length ≤ 1000 ∧
  ∀ (a : Addr) (l : List Str), H a = none → l.Nodup → (∀ z, z ∈ l ↔ z ∈ ys) → l.length ≤ ys.length → Q (.ref a) (upd H a (SetXO P w a l))
theorem cr_setX (hc : X.calm = true) : CallR X (.type "set") (rSetX X.K X.prog X.w) := by
  intro pins s σ H xs us Q I r h
  obtain ⟨p, ys, rfl, hp, hy, q⟩ := h
  rw [Vals.ref1 r]
  obtain ⟨its, rv, pl, hz⟩ := I.list hp
  refine make_setX (P := X.prog) (w := X.w) (I.ok.hd hc) pl.isList (by simpa using rv) (by unfold scanBound; omega) fun h' tk l R hm hl k => ?_
  exact ⟨.ref s.heap.objs.size, upd H s.heap.objs.size (SetXO X.prog X.w s.heap.objs.size l), I.laid (t' := tk) (fun b o e => k b o (Heap.lt_size e) e) (Nat.le_refl _) (setXO_ok R), rfl, q _ l (I.hok.fresh (Nat.le_refl _)) R.nd hm hl⟩
/-- sorted(a set of texts) -/
def rSortX (P : Program) (w : World) : List V → Hp → VK → Prop := fun vs H Q => ∃ (a : Addr) (l : List Str), vs = [V.ref a] ∧ H a = some (SetXO P w a l) ∧ l.length ≤ 1000 ∧ ∀ p, H p = none → Q (.ref p) (upd H p (.lst ((sortS l).map V.str)))
theorem cr_sortX (hc : X.calm = true) (hu : X.A.units + 64 < cLine) : CallR X (.builtin "sorted") (rSortX X.prog X.w) := by
  intro pins s σ H vs us Q I r h
  obtain ⟨a, l, rfl, ha, hl, q⟩ := h
  have R : SetX X.prog X.w s.heap a l := (I.hok a _ ha).1
  rw [Vals.ref1 r]
  obtain ⟨⟨es, ep, t⟩, ho, F, ri, led⟩ := R.ob
  have hes : es.size = l.length := F.sz
  refine Calls.call_function_entry PyProof.Rows.kind_sorted PyProof.Rows.plain_sorted PyProof.Rows.entry_sorted (PyProof.Rows.args_sorted1 _) ?_
  unfold Builtin.«sorted»
  refine wpAny_bind (m := checkCount "sorted" 1 1 _) (wpAny_pure ?_)
  refine wpAny_bind (collect_set (A := X.A.in1) (I.ok.hd hc) ⟨_, ho, rfl, rfl⟩ F.fit (by show es.size < scanBound; unfold scanBound; omega) ri led fun s1 out k1 z1 g1 o1 pm => ?_)
  have hv : ∀ v ∈ out, ∃ k t, v = Value.str k t := fun v hv => by
    obtain ⟨e, he, rfl⟩ := List.mem_map.mp (pm.mem_iff.mp hv)
    obtain ⟨⟨k, hk, _⟩, _⟩ := F.el e he
    obtain ⟨t, ht⟩ := Value.isStrOf_shape (x := k) (v := e.2) hk
    exact ⟨k, t, ht⟩
  have hol : out.length = l.length := by
    rw [pm.length_eq, List.length_map, Array.length_toList]
    exact hes
  have pl : (out.map txtV).Perm l := by
    refine same_members R.nd (fun z hz => ?_) (by rw [List.length_map]; exact hol)
    obtain ⟨e, he, hk⟩ := (F.mem z).mp hz
    obtain ⟨t, ht⟩ := Value.isStrOf_shape (x := z) (v := e.2) hk
    refine List.mem_map.mpr ⟨e.2, pm.mem_iff.mpr (List.mem_map.mpr ⟨e, he, rfl⟩), ?_⟩
    rw [ht]
    rfl
  have hS := each_txt hv
  have hsl : (out.map txtV).length ≤ sizeLine := by
    rw [List.length_map, hol]
    exact Nat.le_trans hl (by decide)
  refine wpAny_bind (wpAny_newList ?_ (by rw [hol]; exact Nat.le_trans hl (by decide)))
  have hoL : (s1.heap.push (seqObj "list" out.toArray 0)).get? s1.heap.objs.size = some (seqObj "list" out.toArray 0) := Heap.get?_push_size _ rfl
  refine wpAny_bind (wpAny_holding (PySem.W.list_sort_data (R := fun u z => RelV (.str z) u) (enc := PyData.str) (s := { s1 with heap := s1.heap.push (seqObj "list" out.toArray 0) }) hoL hS (hS.mono fun v b r => ?_) (PySem.W.AllAlike.of fun _ _ => rfl) (PySem.W.Sortable.others fun b => ⟨(fun e => by cases e), (fun xs e => by cases e)⟩) hsl (fun b _ => ?_) fun srt hso eo => ?_))
  · obtain ⟨t, rfl⟩ := r
    exact ⟨[], .str _ _, by simp⟩
  · show X.A.units + 1 + 1 + 0 < cLine
    omega
  · rw [strs_srt, sortS_perm R.nd pl] at eo
    obtain ⟨e', he'⟩ := PyProof.Rows.sortedHeap_at (vs := out) (out := srt.toArray) hoL
    have hlen : ((sortS l).map V.str).length ≤ sizeLine := by
      rw [List.length_map, sortS_len]
      exact Nat.le_trans hl (by decide)
    have hn : H s1.heap.objs.size = none := I.hok.fresh z1
    have kp : ∀ b o, s.heap.get? b = some o → (PyProof.Rows.sortedHeap (s1.heap.push (seqObj "list" out.toArray 0)) s1.heap.objs.size out srt.toArray).get? b = some o := fun b o e => by
      have q1 := k1 b o e
      have hb := Heap.lt_size q1
      rw [PyProof.Rows.sortedHeap_old (Nat.ne_of_lt hb) (by rw [size_push']; exact Nat.lt_succ_of_lt hb)]
      exact Heap.get?_push_of_some _ q1
    have J : L2.Inv X pins σ (upd H s1.heap.objs.size (.lst ((sortS l).map V.str))) { s with heap := PyProof.Rows.sortedHeap (s1.heap.push (seqObj "list" out.toArray 0)) s1.heap.objs.size out srt.toArray, gens := s1.gens, drawn := s1.drawn, toks := s1.toks } :=
      I.call (ch := []) (Un.laid kp z1 hn) (I.hok.laid kp z1 ⟨hlen, srt, e', vals_txt eo, he'⟩) (by rw [g1]; exact I.bare) (fun _ z => nomatch z)
    have es1 : ({ s1 with heap := PyProof.Rows.sortedHeap (s1.heap.push (seqObj "list" out.toArray 0)) s1.heap.objs.size out srt.toArray } : Shared) = { s with heap := PyProof.Rows.sortedHeap (s1.heap.push (seqObj "list" out.toArray 0)) s1.heap.objs.size out srt.toArray, gens := s1.gens, drawn := s1.drawn, toks := s1.toks } := by
      cases s1
      cases s
      cases o1
      rfl
    refine wpAny_pure ⟨_, rfl, .ref s1.heap.objs.size, upd H s1.heap.objs.size (.lst ((sortS l).map V.str)), ?_, rfl, q _ hn⟩
    show L2.Inv X pins σ _ { s1 with heap := PyProof.Rows.sortedHeap (s1.heap.push (seqObj "list" out.toArray 0)) s1.heap.objs.size out srt.toArray }
    rw [es1]
    exact J
end
end Wl

/-! {e for x in xs if t}, e a text. -/
namespace Wl
open PySem PySem.Spec PyProof.Rows L2
section
variable {X : Cx}
/-- set.add of a text to a tracked set -/
theorem putX_ok {pins : List (Addr × Obj)} {σ : L2.St} {H : Hp} {s : Shared} {E : Value → Shared → Prop} {D : Addr} {l : List Str} {z : Str} {tk : Tok} {Q : Value → Shared → Prop} (I : L2.Inv X pins σ H s) (hD : H D = some (SetXO X.prog X.w D l)) (room : l.length + 1 < scanBound)
    (h : ∀ s' l', l'.Nodup → (∀ y, y ∈ l' ↔ y ∈ l ∨ y = z) → l'.length ≤ l.length + 1 → L2.Inv X pins σ (upd H D (SetXO X.prog X.w D l')) s' → Q .none s') : wpAny (model X.prog X.w) X.A (call (.builtin "set.add") [.ref D, .str z tk]) Q E s := by
  have R : SetX X.prog X.w s.heap D l := (I.hok D _ hD).1
  obtain ⟨D0, ho, _⟩ := R.ob
  refine wpAny_call_entry F.slot_set_add ⟨_, ho, rfl⟩ F.entry_set_add ?_ (F.args_set_add_2 _ _)
  unfold Builtin.«set.add» Builtin.Frozenset.oneOther
  simp only [List.isEmpty_nil, bind_assoc]
  unfold Builtin.Frozenset.addrOf
  refine wpAny_bind (wpAny_pure (wpAny_bind (wpAny_pure (wpAny_bind ?_))))
  refine setX_put R room fun b h' l' kp R' hm hl => ?_
  show wpAny _ _ (ret Value.none) _ _ _
  obtain ⟨D1, ho1, _⟩ := R'.ob
  exact wpAny_pure ⟨_, rfl, h _ l' R'.nd hm hl (I.write (e := D) (t' := s.toks + 1) (by rw [hD]; trivial) (.inl rfl) (fun c u hc hu => kp c u hc hu) ⟨_, ho1⟩ (setXO_ok R'))⟩
/-- what {e for x in xs if t} asks: D the new set, grown text by text -/
def tScX (P : Program) (w : World) (wi : TI) (g : TG) (tt : TT) (te : TE) (vs : List Nat) : TE := fun σ H Q => wi σ H fun J H1 => ∀ D, H1 D = none → ∃ W : Nat → Nat → Hp → Prop, (∃ m, W 0 m (upd H1 D (SetXO P w D []))) ∧ ∀ i m H, W i m H →
  (J.stop i H ∧ Q (.ref D) H) ∨ (J.go i H ∧ ∃ Nx : Hp → Prop, (∀ H', Nx H' → ∃ m', m' < m ∧ W (i + 1) m' H') ∧ ∀ x H', J.yld i H x H' → g x (wipe σ vs) H' fun σ2 H2 => wipe σ2 vs = wipe σ vs ∧ tt σ2 H2 fun b H3 =>
    if b = true then te σ2 H3 fun y H4 => ∃ (z : Str) (l : List Str), y = .str z ∧ H4 D = some (SetXO P w D l) ∧ l.length + 1 < scanBound ∧ ∀ l', l'.Nodup → (∀ u, u ∈ l' ↔ u ∈ l ∨ u = z) → l'.length ≤ l.length + 1 → Nx (upd H4 D (SetXO P w D l')) else Nx H3)
theorem pe_scX {elt tg iter : Expr} {ifs : List Expr} {scope : Scope} {own : List (PySem.Str × Nat)} {pos : Pos} {wi : TI} {g : TG} {tt : TT} {te : TE} (hcalm : X.calm = true) (nd : X.N.Nodup) (pit : PI X tg iter wi) (bok : BlkOk X.N X.env.scope scope own)
    (gg : ∀ (s : Shared) (H : Hp) (C : Addr) (cl : List (PySem.Str × Addr)) (fp : List Addr), PG (X.blk s H scope (compEnvC scope cl C X.env) fp) tg g) (gt : ∀ (s : Shared) (H : Hp) (C : Addr) (cl : List (PySem.Str × Addr)) (fp : List Addr), PTs (X.blk s H scope (compEnvC scope cl C X.env) fp) ifs tt)
    (ge : ∀ (s : Shared) (H : Hp) (C : Addr) (cl : List (PySem.Str × Addr)) (fp : List Addr), PE (X.blk s H scope (compEnvC scope cl C X.env) fp) elt te) (hfold : ∀ x, foldedSetIterable iter X.env x = pure x := by intro _; rfl) :
    PE X (.SetComp elt [⟨tg, iter, ifs, 0⟩] scope pos) (tScX X.prog X.w wi g tt te (own.map (·.2))) := by
  refine ⟨fun pins s σ H Q I rd => ?_⟩
  rw [PpSet.eval_SetComp]
  have frees : ∀ y ∈ scope.names, y.2 = .free → ∃ c, X.env.cells.lookup y.1 = some c := fun y hy e => by
    rcases bok.free y hy e with q | q
    · exact I.ok.has _ (.inl q)
    · exact I.ok.has _ (.inr q)
  refine wpAny_comprehension_free (use := none) rfl hfold (closure_ok frees) bok.kind (fun y hy e => by rw [bok.uniq y hy, e]) (thn (pit.run pins s σ H _ I rd) fun xv s1 hx => thn hx fun itv s2 h2 => ?_)
  obtain ⟨it, fp, tn, J, H2, e, I2, T, st2, f2, q⟩ := h2
  subst e
  refine PpSet.newSet_ok (newEnv_comp ?_)
  obtain ⟨D, hD⟩ : ∃ D, s2.heap.objs.size = D := ⟨_, rfl⟩
  obtain ⟨W, ⟨m0, w0⟩, turn⟩ := q D (I2.hok.fresh (Nat.le_of_eq hD))
  obtain ⟨s3, hs3⟩ : ∃ s3 : Shared, ({ s2 with heap := s2.heap.push (setN X.w) } : Shared) = s3 := ⟨_, rfl⟩
  obtain ⟨H3, hH3⟩ : ∃ H3, upd H2 D (SetXO X.prog X.w D []) = H3 := ⟨_, rfl⟩
  have heap3 : s3.heap = s2.heap.push (setN X.w) := by rw [← hs3]
  have I3 : L2.Inv X pins σ H3 s3 := by
    rw [← hs3, ← hH3]
    refine I2.laid (t' := s2.toks) (fun b o e => Heap.get?_push_of_some _ e) (Nat.le_of_eq hD) ?_
    rw [← hD]
    exact setXO_ok (setX_new (Heap.get?_push_size _ rfl))
  have f3 : ∀ b ∈ fp, FpOk X pins H3 b ∧ b < s3.heap.objs.size := fun b hb => by
    obtain ⟨o, e, _⟩ := T.obj _ _ st2 b hb
    have lt := Heap.lt_size e
    refine ⟨⟨?_, (f2 b hb).2⟩, by rw [heap3, Heap.size_push]; exact Nat.lt_succ_of_lt lt⟩
    rw [← hH3, upd_ne (by rw [← hD]; exact Nat.ne_of_lt lt)]
    exact (f2 b hb).1
  have none3 : ∀ b ∈ fp, H3 b = none := fun b hb => (f3 b hb).1.1
  rw [hH3] at w0
  show codeAny _ _ (.compStart (.SetComp elt [⟨tg, iter, ifs, 0⟩] scope pos) 0 (.ref it) (.ref s2.heap.objs.size) (compEnvC scope (cellsFrom ((s2.heap.push (setN X.w)).objs.size + 1) scope.names (cloFrom X.env.cells scope.names [])) (s2.heap.push (setN X.w)).objs.size X.env)) (compPost (model X.prog X.w) X.A X.xe none _ (.ref s2.heap.objs.size) (s2.heap.push (setN X.w)).objs.size) { s2 with heap := pushCells ((s2.heap.push (setN X.w)).push { cls := .type "dict", data := .dict #[] }) scope.names }
  rw [← heap3, hD]
  have st3 : tn 0 s3.heap := T.keep _ _ _ st2 fun b _ o e => by rw [heap3]; exact Heap.get?_push_of_some _ e
  have I4 := block_start I3 bok nd f3
  obtain ⟨ce, hce⟩ : ∃ ce, compEnvC scope (cellsFrom (s3.heap.objs.size + 1) scope.names (cloFrom X.env.cells scope.names [])) s3.heap.objs.size X.env = ce := ⟨_, rfl⟩
  have pg := gg s3 H3 s3.heap.objs.size (cellsFrom (s3.heap.objs.size + 1) scope.names (cloFrom X.env.cells scope.names [])) fp
  have pt := gt s3 H3 s3.heap.objs.size (cellsFrom (s3.heap.objs.size + 1) scope.names (cloFrom X.env.cells scope.names [])) fp
  have pe := ge s3 H3 s3.heap.objs.size (cellsFrom (s3.heap.objs.size + 1) scope.names (cloFrom X.env.cells scope.names [])) fp
  have locs : ce.locals = s3.heap.objs.size := by rw [← hce]; rfl
  rw [hce] at I4 pg pt pe ⊢
  obtain ⟨s4, hs4⟩ : ∃ s4 : Shared, ({ s3 with heap := pushCells (s3.heap.push { cls := .type "dict", data := .dict #[] }) scope.names } : Shared) = s4 := ⟨_, rfl⟩
  have es4 : ({ s2 with heap := pushCells (s3.heap.push { cls := .type "dict", data := .dict #[] }) scope.names } : Shared) = s4 := by
    rw [← hs4, ← hs3]
  rw [hs4] at I4
  rw [es4]
  have st4 : tn 0 s4.heap := T.keep _ _ _ st3 fun b _ o e => by rw [← hs4]; exact pushCells_keeps _ _ _ _ (Heap.get?_push_of_some _ e)
  have calmFp : ∀ {σ' : L2.St} {H' : Hp} {s' : Shared}, L2.Inv (X.blk s3 H3 scope ce fp) [] σ' H' s' → (∀ b ∈ fp, H' b = none) → ∀ b ∈ fp, FpOk (X.blk s3 H3 scope ce fp) [] H' b := fun {σ' H' s'} I' hn b hb =>
    ⟨hn b hb, (I'.ok.exf b hb).1, I'.ok.exfs b hb, .inl hb, fun x c e => (I'.ok.exf b hb).2 x c e, fun r hr => absurd (show r ∈ ([] : List (Addr × Obj)) ++ [] from hr) (by simp)⟩
  have loop : codeAny (model X.prog X.w) X.A (.compLoop (.SetComp elt [⟨tg, iter, ifs, 0⟩] scope pos) 0 (.ref it) (.ref D) ce) (compPost (model X.prog X.w) X.A X.xe none (fun v s' => ∃ x H', L2.Inv X pins σ H' s' ∧ RelV x v ∧ Q x H') (.ref D) s3.heap.objs.size) s4 := by
    refine PpSet.compLoopS_any (fun n s' => ∃ i H', L2.Inv (X.blk s3 H3 scope ce fp) [] (wipe σ (own.map (·.2))) H' s' ∧ tn i s'.heap ∧ (∀ b ∈ fp, H' b = none) ∧ W i n H') ?_ m0 ⟨0, H3, I4, st4, none3, w0⟩
    rintro n s5 ⟨i, H5, I5, st5, n5, w5⟩
    rcases turn i n H5 w5 with ⟨stop, qq⟩ | ⟨go, Nx, hNx, step⟩
    · refine thnF (T.done (X.blk s3 H3 scope ce fp) rfl rfl rfl hcalm i [] s5 _ H5 (fun _ _ => False) I5 (calmFp I5 n5) st5 stop) fun r s6 ⟨hr, I6⟩ => ?_
      subst hr
      have I7 : L2.Inv X pins σ H5 s6 := I3.call' (ch := fp) I6.os I6.base I6.hok I6.bare fun b hb => ⟨(f3 b hb).1.2.2.2.1, (f3 b hb).1.2.1, (f3 b hb).1.2.2.2.2.1, (f3 b hb).1.2.2.2.2.2⟩
      have nC : H5 s3.heap.objs.size = none := by
        have z : H5 ce.locals = none := I6.free
        rw [locs] at z
        exact z
      obtain ⟨m, hn, _⟩ := I6.loc
      have hn : s6.heap.Ns ce.locals m := hn
      rw [locs] at hn
      obtain ⟨k0, k1, k2, k3, k4, k5⟩ := I3.fpOk (Nat.le_refl _) nC
      exact ⟨m, hn, fun h'' sb => ⟨.ref D, H5, I7.turned (t' := s6.toks) (fun b o hb e => (sb.2 b hb).trans e) k0 k1 k3 k4 k5, rfl, qq⟩⟩
    · refine thnF (T.item (X.blk s3 H3 scope ce fp) rfl rfl rfl hcalm i [] s5 _ H5 (fun _ _ => False) I5 (calmFp I5 n5) st5 go) fun r s6 ⟨u, hr, h6⟩ => ?_
      subst hr
      refine thnF h6 fun _ s7 ⟨x, H7, I7, r7, y7, st7, n7⟩ => ?_
      have I7' := I7.pinned (calmFp I7 n7) (T.obj _ _ st7)
      refine thnF (pg.run _ s7 _ H7 x u _ I7' r7 (step x H7 y7)) fun _ s8 ⟨σ8, H8, I8, hw8, q8⟩ => thnF (pt.run _ s8 σ8 H8 _ I8 q8) fun b s9 ⟨H9, I9, q9⟩ => ?_
      have next : ∀ {s' : Shared} {H' : Hp}, L2.Inv (X.blk s3 H3 scope ce fp) ([] ++ pinsAt fp s7.heap) σ8 H' s' → Nx H' → ∃ m, m < n ∧ ∃ i H', L2.Inv (X.blk s3 H3 scope ce fp) [] (wipe σ (own.map (·.2))) H' s' ∧ tn i s'.heap ∧ (∀ b ∈ fp, H' b = none) ∧ W i m H' := fun {s' H'} I' nx => by
        obtain ⟨m', hm, w'⟩ := hNx H' nx
        have held : ∀ b ∈ fp, ∀ o, s7.heap.get? b = some o → s'.heap.get? b = some o ∧ H' b = none := fun b hb o e => by
          have z := I'.pin (b, o) (List.mem_append_right _ (List.mem_append_right _ (mem_pinsAt hb e)))
          exact ⟨z.1, z.2.1⟩
        have len : (wipe σ (own.map (·.2))).length = σ8.length := by rw [← hw8, wipe_length]
        refine ⟨m', hm, i + 1, H', (I'.unpinned (pins := [])).weak len (fun j v e => ?_), T.keep _ _ _ st7 fun b hb o e => (held b hb o e).1, fun b hb => ?_, w'⟩
        · rw [← hw8] at e
          exact (wipe_some e).1
        · obtain ⟨o, e, _⟩ := T.obj _ _ st7 b hb
          exact (held b hb o e).2
      cases b with
      | false =>
        simp only [Bool.false_eq_true, if_false] at q9 ⊢
        exact next I9 q9
      | true =>
        simp only [if_true] at q9 ⊢
        refine thnF (pe.run _ s9 σ8 H9 _ I9 q9) fun z s10 ⟨yv, H10, I10, r10, zt, l0, ey, hD10, hz10, nx⟩ => ?_
        subst ey
        obtain ⟨tk, rfl⟩ := r10
        exact putX_ok (X := X.blk s3 H3 scope ce fp) I10 hD10 hz10 fun s11 l' n1 n2 n3 I11 => next I11 (nx l' n1 n2 n3)
  exact PpSet.codeAny_compStart_set loop (T.self X.A 0 _ _ _ st4 loop)
end
section
variable {P : Program} {w : World} {J : It} {ys : List V} {G : Hp → Prop} {slot : Nat} {tt : TT} {te : TE} {vs : List Nat} {σ : L2.St} {H1 : Hp} {D : Addr} {Qd : Hp → Prop}
/-- {e for x in ys if t}: each e a text, the heap only growing -/
theorem sc_texts (wk : L2.Walk J ys.length G (YAt ys)) (hD : H1 D = none) (keep : V → Bool) (f : V → Str) (hG : ∀ H, Same H1 H → G H)
    (hw : ∀ x, wipe ((wipe σ vs).set slot (some x)) vs = wipe σ vs)
    (ht : ∀ (x : V) (H : Hp), x ∈ ys → Same H1 H → ∀ Q : Bool → Hp → Prop, Q (keep x) H → tt ((wipe σ vs).set slot (some x)) H Q)
    (he : ∀ (x : V) (H : Hp), x ∈ ys → keep x = true → Same H1 H → ∀ Q : VK, Q (.str (f x)) H → te ((wipe σ vs).set slot (some x)) H Q)
    (hn : ys.length ≤ 1000)
    (hd : ∀ (l : List Str) (H : Hp), Same H1 H → H D = some (SetXO P w D l) → l.Nodup → (∀ z, z ∈ l ↔ z ∈ (ys.filter keep).map f) → l.length ≤ ys.length → Qd H) :
    ∃ W : Nat → Nat → Hp → Prop, (∃ m, W 0 m (upd H1 D (SetXO P w D []))) ∧ ∀ i m H, W i m H →
      (J.stop i H ∧ Qd H) ∨ (J.go i H ∧ ∃ Nx : Hp → Prop, (∀ H', Nx H' → ∃ m', m' < m ∧ W (i + 1) m' H') ∧ ∀ x H', J.yld i H x H' → gName slot x (wipe σ vs) H' fun σ2 H2 => wipe σ2 vs = wipe σ vs ∧ tt σ2 H2 fun b H3 =>
        if b = true then te σ2 H3 fun y H4 => ∃ (z : Str) (l : List Str), y = .str z ∧ H4 D = some (SetXO P w D l) ∧ l.length + 1 < scanBound ∧ ∀ l', l'.Nodup → (∀ u, u ∈ l' ↔ u ∈ l ∨ u = z) → l'.length ≤ l.length + 1 → Nx (upd H4 D (SetXO P w D l')) else Nx H3) := by
  refine ⟨fun i m H => m = ys.length - i ∧ i ≤ ys.length ∧ Same H1 H ∧ ∃ l, H D = some (SetXO P w D l) ∧ l.Nodup ∧ (∀ z, z ∈ l ↔ z ∈ ((ys.take i).filter keep).map f) ∧ l.length ≤ i, ⟨ys.length, by simp, Nat.zero_le _, same_new hD, [], upd_same, List.nodup_nil, fun z => by simp, Nat.le_refl _⟩, ?_⟩
  rintro i m H ⟨rfl, hi, s, l, hl, nd, hm, hll⟩
  by_cases hlt : i < ys.length
  · refine .inr ⟨wk.goes i H hlt (hG H s), fun H' => i + 1 ≤ ys.length ∧ Same H1 H' ∧ ∃ l, H' D = some (SetXO P w D l) ∧ l.Nodup ∧ (∀ z, z ∈ l ↔ z ∈ ((ys.take (i + 1)).filter keep).map f) ∧ l.length ≤ i + 1, fun H' h' => ⟨ys.length - (i + 1), by omega, rfl, h'⟩, fun x H' hy => ?_⟩
    obtain ⟨rfl, hx⟩ := wk.yields i H x H' hlt (hG H s) hy
    have hxm : x ∈ ys := List.mem_of_getElem? hx
    have hf := filter_take_snoc (p := keep) hx
    refine ⟨hw x, ht x _ hxm s _ ?_⟩
    refine ite_b (fun e => ?_) (fun e => ?_)
    · refine he x _ hxm e s _ ⟨f x, l, rfl, hl, by unfold scanBound; omega, fun l' n1 n2 n3 => ⟨hlt, same_mut s hD, l', upd_same, n1, fun z => ?_, by omega⟩⟩
      rw [n2, hm, hf, if_pos e, List.map_append, List.mem_append]
      simp
    · refine ⟨hlt, s, l, hl, nd, fun z => ?_, by omega⟩
      rw [hm, hf, if_neg (by rw [e]; decide), List.append_nil]
  · have e : i = ys.length := by omega
    subst e
    rw [List.take_length] at hm
    exact .inl ⟨wk.stops H (hG H s), hd l H s hl nd hm hll⟩
end
end Wl

/-! {e for x in xs if t for y in ys if u}, e a text: two sources. -/
namespace Wl
open PySem PySem.Spec PyProof.Rows L2
/-- the tree of such a comprehension -/
abbrev sc2 (e : Expr) (a b : Comprehension) (scope : Scope) (pos : Pos) : Expr := .SetComp e [a, b] scope pos
section
variable {prog : Program} {w : World} {A : Around} {R : Result → Shared → Prop} {s : Shared} {e t0 i0 t1 i1 : Expr} {q0 q1 : List Expr} {scope : Scope} {pos : Pos} {it acc : Value} {env : Env}
theorem turnS_out : compTurn (sc2 e ⟨t0, i0, q0, 0⟩ ⟨t1, i1, q1, 0⟩ scope pos) 0 it acc env = (do
      standAt i0.pos
      match ← pyNext it with
      | none => pure (.done .next)
      | some v =>
        letOwnedTupleGo t0 it v
        assign t0 env v
        let mut ok := true
        for c in q0 do
          if ok then ok ← isTrue c env (eval c env)
        if ok then
          let x ← eval i1 env
          standAt i1.pos
          let x ← foldedSetIterable i1 env x
          let _ ← runOwn (.compStart (sc2 e ⟨t0, i0, q0, 0⟩ ⟨t1, i1, q1, 0⟩ scope pos) 1 (← holding [x] (pyIter x)) acc env) env
        again (.compLoop (sc2 e ⟨t0, i0, q0, 0⟩ ⟨t1, i1, q1, 0⟩ scope pos) 0 it acc env)) := by rfl
theorem turnS_in : compTurn (sc2 e ⟨t0, i0, q0, 0⟩ ⟨t1, i1, q1, 0⟩ scope pos) 1 it acc env = (do
      standAt i1.pos
      match ← pyNext it with
      | none => pure (.done .next)
      | some v =>
        letOwnedTupleGo t1 it v
        assign t1 env v
        let mut ok := true
        for c in q1 do
          if ok then ok ← isTrue c env (eval c env)
        if ok then
          (do let v ← eval e env; standAt e.pos; let _ ← call (.builtin "set.add") [acc, v])
        again (.compLoop (sc2 e ⟨t0, i0, q0, 0⟩ ⟨t1, i1, q1, 0⟩ scope pos) 1 it acc env)) := by rfl
/-- the outer loop, by a measure -/
theorem loopS_out (fo : ∀ x, foldedSetIterable i1 env x = pure x) (K : Nat → Shared → Prop)
    (step : ∀ n s, K n s → wpAny (model prog w) A (pyNext it) (fun r s1 => match r with
      | none => R (.ok .next) s1
      | some v => wpAny (model prog w) A (letOwnedTupleGo t0 it v) (fun _ s2 => wpAny (model prog w) A (assign t0 env v) (fun _ s3 =>
          wpAny (model prog w) A (forIn q0 true fun c r => if r = true then do let ok ← isTrue c env (eval c env); pure (ForInStep.yield ok) else pure (ForInStep.yield r)) (fun ok s4 =>
            if ok = true then wpAny (model prog w) A (eval i1 env) (fun x s5 => wpAny (model prog w) A (pyIter x) (fun j s6 =>
              codeAny (model prog w) A (.compStart (sc2 e ⟨t0, i0, q0, 0⟩ ⟨t1, i1, q1, 0⟩ scope pos) 1 j acc env) (fun r z => match r with
                | .ok _ => ∃ m, m < n ∧ K m z
                | .error _ => False) s6) (notedBy (model prog w) A env fun x z => R (.error x) z) s5) (notedBy (model prog w) A env fun x z => R (.error x) z) s4
            else ∃ m, m < n ∧ K m s4) (notedBy (model prog w) A env fun x z => R (.error x) z) s3) (notedBy (model prog w) A env fun x z => R (.error x) z) s2) (notedBy (model prog w) A env fun x z => R (.error x) z) s1) (notedBy (model prog w) A env fun x z => R (.error x) z) s)
    (n : Nat) (h : K n s) : codeAny (model prog w) A (.compLoop (sc2 e ⟨t0, i0, q0, 0⟩ ⟨t1, i1, q1, 0⟩ scope pos) 0 it acc env) R s := by
  refine codeAny_loop rfl K (fun n z hk => ?_) n h
  show wpAny _ A ((compTurn (sc2 e ⟨t0, i0, q0, 0⟩ ⟨t1, i1, q1, 0⟩ scope pos) 0 it acc env).onRaise (fun x => do noteFrame x env; theTreesLotGoes x)) _ _ z
  refine wpAny_noted ?_
  rw [turnS_out]
  refine wpAny_bind (wpAny_standAt (wpAny_bind (thn (step n z hk) fun r z1 k1 => ?_)))
  rcases r with _ | v
  · exact wpAny_pure k1
  refine wpAny_bind (thn k1 fun _ z2 k2 => wpAny_bind (thn k2 fun _ z3 k3 => wpAny_bind (thn k3 fun ok z4 k4 => ?_)))
  rcases ok with _ | _
  · exact wpAny_pure ⟨rfl, k4⟩
  refine wpAny_bind (thn k4 fun x z5 k5 => wpAny_bind (wpAny_standAt (wpAny_bind (wpAny_of_eq (fo x) (wpAny_bind (wpAny_holding (thn k5 fun j z6 k6 => wpAny_bind (wpAny_runOwn ?_))))))))
  rw [Around.mark_none]
  refine codeAny_mono k6 fun r z7 k7 => ?_
  rcases r with x | f
  · exact k7.elim
  · first
      | exact wpAny_pure ⟨rfl, k7⟩
      | exact wpAny_bind (wpAny_pure (wpAny_pure ⟨rfl, k7⟩))
/-- the inner loop -/
theorem loopS_in (K : Nat → Shared → Prop)
    (step : ∀ n s, K n s → wpAny (model prog w) A (pyNext it) (fun r s1 => match r with
      | none => R (.ok .next) s1
      | some v => wpAny (model prog w) A (letOwnedTupleGo t1 it v) (fun _ s2 => wpAny (model prog w) A (assign t1 env v) (fun _ s3 =>
          wpAny (model prog w) A (forIn q1 true fun c r => if r = true then do let ok ← isTrue c env (eval c env); pure (ForInStep.yield ok) else pure (ForInStep.yield r)) (fun ok s4 =>
            if ok = true then wpAny (model prog w) A (eval e env) (fun x s5 =>
              wpAny (model prog w) A (call (.builtin "set.add") [acc, x]) (fun _ s6 => ∃ m, m < n ∧ K m s6) (notedBy (model prog w) A env fun x z => R (.error x) z) s5) (notedBy (model prog w) A env fun x z => R (.error x) z) s4
            else ∃ m, m < n ∧ K m s4) (notedBy (model prog w) A env fun x z => R (.error x) z) s3) (notedBy (model prog w) A env fun x z => R (.error x) z) s2) (notedBy (model prog w) A env fun x z => R (.error x) z) s1) (notedBy (model prog w) A env fun x z => R (.error x) z) s)
    (n : Nat) (h : K n s) : codeAny (model prog w) A (.compLoop (sc2 e ⟨t0, i0, q0, 0⟩ ⟨t1, i1, q1, 0⟩ scope pos) 1 it acc env) R s := by
  refine codeAny_loop rfl K (fun n z hk => ?_) n h
  show wpAny _ A ((compTurn (sc2 e ⟨t0, i0, q0, 0⟩ ⟨t1, i1, q1, 0⟩ scope pos) 1 it acc env).onRaise (fun x => do noteFrame x env; theTreesLotGoes x)) _ _ z
  refine wpAny_noted ?_
  rw [turnS_in]
  refine wpAny_bind (wpAny_standAt (wpAny_bind (thn (step n z hk) fun r z1 k1 => ?_)))
  rcases r with _ | v
  · exact wpAny_pure k1
  refine wpAny_bind (thn k1 fun _ z2 k2 => wpAny_bind (thn k2 fun _ z3 k3 => wpAny_bind (thn k3 fun ok z4 k4 => ?_)))
  rcases ok with _ | _
  · exact wpAny_pure ⟨rfl, k4⟩
  · exact wpAny_bind (wpAny_bind (thn k4 fun x z5 k5 => wpAny_bind (wpAny_standAt (wpAny_bind (thn k5 fun _ z6 k6 => wpAny_pure (wpAny_pure ⟨rfl, k6⟩))))))
theorem startS_in (h0 : codeAny (model prog w) A (.compLoop (sc2 e ⟨t0, i0, q0, 0⟩ ⟨t1, i1, q1, 0⟩ scope pos) 1 it acc env) R s)
    (h : wpAny (model prog w) A (pyIter it) (fun j z => codeAny (model prog w) A (.compLoop (sc2 e ⟨t0, i0, q0, 0⟩ ⟨t1, i1, q1, 0⟩ scope pos) 1 j acc env) R z) (notedBy (model prog w) A env fun x z => R (.error x) z) s) :
    codeAny (model prog w) A (.compStart (sc2 e ⟨t0, i0, q0, 0⟩ ⟨t1, i1, q1, 0⟩ scope pos) 1 it acc env) R s := by
  refine codeAny_of_tree ?_
  show wpAny _ _ ((compStart (sc2 e ⟨t0, i0, q0, 0⟩ ⟨t1, i1, q1, 0⟩ scope pos) 1 it acc env).onRaise (fun x => do noteFrame x env; standAt theWindowsPlace)) _ _ s
  refine wpAny_notedAt ?_
  unfold compStart
  show wpAny _ _ (ask >>= _) _ _ s
  refine wpAny_bind (wpAny_askSetting (wpAny_ite ?_))
  have fin := fun (k : wpAny (model prog w) A (pyIter it) (fun j z => codeAny (model prog w) A (.compLoop (sc2 e ⟨t0, i0, q0, 0⟩ ⟨t1, i1, q1, 0⟩ scope pos) 1 j acc env) R z) (notedBy (model prog w) A env fun x z => R (.error x) z) s) => k
  split
  · first
      | exact wpAny_pure ⟨rfl, h0⟩
      | exact wpAny_bind (wpAny_pure (wpAny_pure ⟨rfl, h0⟩))
  · refine wpAny_bind (wpAny_rule ?_)
    show wpAny _ _ (standAt i1.pos >>= _) _ _ s
    exact wpAny_bind (wpAny_standAt (wpAny_bind (thn (fin h) fun j z k => wpAny_pure ⟨rfl, k⟩)))
end
section
variable {X : Cx}
/-- what it asks: Nx reached from the inner source's own loop -/
def tScX2 (P : Program) (w : World) (wi : TI) (g : TG) (tt : TT) (wj : TI) (gj : TG) (tj : TT) (te : TE) (vs us : List Nat) : TE := fun σ H Q => wi σ H fun J H1 => ∀ D, H1 D = none → ∃ W : Nat → Nat → Hp → Prop, (∃ m, W 0 m (upd H1 D (SetXO P w D []))) ∧ ∀ i m H, W i m H →
  (J.stop i H ∧ Q (.ref D) H) ∨ (J.go i H ∧ ∃ Nx : Hp → Prop, (∀ H', Nx H' → ∃ m', m' < m ∧ W (i + 1) m' H') ∧ ∀ x H', J.yld i H x H' → g x (wipe σ vs) H' fun σ2 H2 => wipe σ2 vs = wipe σ vs ∧ tt σ2 H2 fun b H3 =>
    if b = true then wj σ2 H3 fun L H4 => ∃ U : Nat → Nat → Hp → Prop, (∃ m, U 0 m H4) ∧ ∀ j k H, U j k H →
      (L.stop j H ∧ Nx H) ∨ (L.go j H ∧ ∃ Ny : Hp → Prop, (∀ H', Ny H' → ∃ k', k' < k ∧ U (j + 1) k' H') ∧ ∀ x H', L.yld j H x H' → gj x (wipe σ2 us) H' fun σ3 H5 => wipe σ3 us = wipe σ2 us ∧ tj σ3 H5 fun b H6 =>
        if b = true then te σ3 H6 fun y H7 => ∃ (z : Str) (l : List Str), y = .str z ∧ H7 D = some (SetXO P w D l) ∧ l.length + 1 < scanBound ∧ ∀ l', l'.Nodup → (∀ u, u ∈ l' ↔ u ∈ l ∨ u = z) → l'.length ≤ l.length + 1 → Ny (upd H7 D (SetXO P w D l')) else Ny H6)
    else Nx H3)
theorem pe_scX2 {elt tg iter tj' iter1 : Expr} {ifs ifs1 : List Expr} {scope : Scope} {own : List (PySem.Str × Nat)} {us : List Nat} {pos : Pos} {wi wj : TI} {g gj : TG} {tt tj : TT} {te : TE} (hcalm : X.calm = true) (nd : X.N.Nodup) (pit : PI X tg iter wi) (bok : BlkOk X.N X.env.scope scope own) (hus : ∀ i ∈ us, i ∈ own.map (·.2))
    (gg : ∀ (s : Shared) (H : Hp) (C : Addr) (cl : List (PySem.Str × Addr)) (fp : List Addr), PG (X.blk s H scope (compEnvC scope cl C X.env) fp) tg g) (gt : ∀ (s : Shared) (H : Hp) (C : Addr) (cl : List (PySem.Str × Addr)) (fp : List Addr), PTs (X.blk s H scope (compEnvC scope cl C X.env) fp) ifs tt)
    (gi : ∀ (s : Shared) (H : Hp) (C : Addr) (cl : List (PySem.Str × Addr)) (fp : List Addr), PI (X.blk s H scope (compEnvC scope cl C X.env) fp) tj' iter1 wj)
    (gh : ∀ (s : Shared) (H : Hp) (C : Addr) (cl : List (PySem.Str × Addr)) (fp : List Addr), PG (X.blk s H scope (compEnvC scope cl C X.env) fp) tj' gj) (gu : ∀ (s : Shared) (H : Hp) (C : Addr) (cl : List (PySem.Str × Addr)) (fp : List Addr), PTs (X.blk s H scope (compEnvC scope cl C X.env) fp) ifs1 tj)
    (ge : ∀ (s : Shared) (H : Hp) (C : Addr) (cl : List (PySem.Str × Addr)) (fp : List Addr), PE (X.blk s H scope (compEnvC scope cl C X.env) fp) elt te) (hfold : ∀ x, foldedSetIterable iter X.env x = pure x := by intro _; rfl) (hfold1 : ∀ env x, foldedSetIterable iter1 env x = pure x := by intro _ _; rfl) :
    PE X (.SetComp elt [⟨tg, iter, ifs, 0⟩, ⟨tj', iter1, ifs1, 0⟩] scope pos) (tScX2 X.prog X.w wi g tt wj gj tj te (own.map (·.2)) us) := by
  refine ⟨fun pins s σ H Q I rd => ?_⟩
  rw [PpSet.eval_SetComp]
  have frees : ∀ y ∈ scope.names, y.2 = .free → ∃ c, X.env.cells.lookup y.1 = some c := fun y hy e => by
    rcases bok.free y hy e with q | q
    · exact I.ok.has _ (.inl q)
    · exact I.ok.has _ (.inr q)
  refine wpAny_comprehension_free (use := none) rfl hfold (closure_ok frees) bok.kind (fun y hy e => by rw [bok.uniq y hy, e]) (thn (pit.run pins s σ H _ I rd) fun xv s1 hx => thn hx fun itv s2 h2 => ?_)
  obtain ⟨it, fp, tn, J, H2, e, I2, T, st2, f2, q⟩ := h2
  subst e
  refine PpSet.newSet_ok (newEnv_comp ?_)
  obtain ⟨D, hD⟩ : ∃ D, s2.heap.objs.size = D := ⟨_, rfl⟩
  obtain ⟨W, ⟨m0, w0⟩, turn⟩ := q D (I2.hok.fresh (Nat.le_of_eq hD))
  obtain ⟨s3, hs3⟩ : ∃ s3 : Shared, ({ s2 with heap := s2.heap.push (setN X.w) } : Shared) = s3 := ⟨_, rfl⟩
  obtain ⟨H3, hH3⟩ : ∃ H3, upd H2 D (SetXO X.prog X.w D []) = H3 := ⟨_, rfl⟩
  have heap3 : s3.heap = s2.heap.push (setN X.w) := by rw [← hs3]
  have I3 : L2.Inv X pins σ H3 s3 := by
    rw [← hs3, ← hH3]
    refine I2.laid (t' := s2.toks) (fun b o e => Heap.get?_push_of_some _ e) (Nat.le_of_eq hD) ?_
    rw [← hD]
    exact setXO_ok (setX_new (Heap.get?_push_size _ rfl))
  have f3 : ∀ b ∈ fp, FpOk X pins H3 b ∧ b < s3.heap.objs.size := fun b hb => by
    obtain ⟨o, e, _⟩ := T.obj _ _ st2 b hb
    have lt := Heap.lt_size e
    refine ⟨⟨?_, (f2 b hb).2⟩, by rw [heap3, Heap.size_push]; exact Nat.lt_succ_of_lt lt⟩
    rw [← hH3, upd_ne (by rw [← hD]; exact Nat.ne_of_lt lt)]
    exact (f2 b hb).1
  have none3 : ∀ b ∈ fp, H3 b = none := fun b hb => (f3 b hb).1.1
  rw [hH3] at w0
  show codeAny _ _ (.compStart (.SetComp elt [⟨tg, iter, ifs, 0⟩, ⟨tj', iter1, ifs1, 0⟩] scope pos) 0 (.ref it) (.ref s2.heap.objs.size) (compEnvC scope (cellsFrom ((s2.heap.push (setN X.w)).objs.size + 1) scope.names (cloFrom X.env.cells scope.names [])) (s2.heap.push (setN X.w)).objs.size X.env)) (compPost (model X.prog X.w) X.A X.xe none _ (.ref s2.heap.objs.size) (s2.heap.push (setN X.w)).objs.size) { s2 with heap := pushCells ((s2.heap.push (setN X.w)).push { cls := .type "dict", data := .dict #[] }) scope.names }
  rw [← heap3, hD]
  have st3 : tn 0 s3.heap := T.keep _ _ _ st2 fun b _ o e => by rw [heap3]; exact Heap.get?_push_of_some _ e
  have I4 := block_start I3 bok nd f3
  obtain ⟨ce, hce⟩ : ∃ ce, compEnvC scope (cellsFrom (s3.heap.objs.size + 1) scope.names (cloFrom X.env.cells scope.names [])) s3.heap.objs.size X.env = ce := ⟨_, rfl⟩
  have pg := gg s3 H3 s3.heap.objs.size (cellsFrom (s3.heap.objs.size + 1) scope.names (cloFrom X.env.cells scope.names [])) fp
  have pt := gt s3 H3 s3.heap.objs.size (cellsFrom (s3.heap.objs.size + 1) scope.names (cloFrom X.env.cells scope.names [])) fp
  have pe := ge s3 H3 s3.heap.objs.size (cellsFrom (s3.heap.objs.size + 1) scope.names (cloFrom X.env.cells scope.names [])) fp
  have pj := gi s3 H3 s3.heap.objs.size (cellsFrom (s3.heap.objs.size + 1) scope.names (cloFrom X.env.cells scope.names [])) fp
  have ph := gh s3 H3 s3.heap.objs.size (cellsFrom (s3.heap.objs.size + 1) scope.names (cloFrom X.env.cells scope.names [])) fp
  have pu := gu s3 H3 s3.heap.objs.size (cellsFrom (s3.heap.objs.size + 1) scope.names (cloFrom X.env.cells scope.names [])) fp
  have locs : ce.locals = s3.heap.objs.size := by rw [← hce]; rfl
  rw [hce] at I4 pg pt pe pj ph pu ⊢
  obtain ⟨s4, hs4⟩ : ∃ s4 : Shared, ({ s3 with heap := pushCells (s3.heap.push { cls := .type "dict", data := .dict #[] }) scope.names } : Shared) = s4 := ⟨_, rfl⟩
  have es4 : ({ s2 with heap := pushCells (s3.heap.push { cls := .type "dict", data := .dict #[] }) scope.names } : Shared) = s4 := by
    rw [← hs4, ← hs3]
  rw [hs4] at I4
  rw [es4]
  have st4 : tn 0 s4.heap := T.keep _ _ _ st3 fun b _ o e => by rw [← hs4]; exact pushCells_keeps _ _ _ _ (Heap.get?_push_of_some _ e)
  have calmFp : ∀ {σ' : L2.St} {H' : Hp} {s' : Shared}, L2.Inv (X.blk s3 H3 scope ce fp) [] σ' H' s' → (∀ b ∈ fp, H' b = none) → ∀ b ∈ fp, FpOk (X.blk s3 H3 scope ce fp) [] H' b := fun {σ' H' s'} I' hn b hb =>
    ⟨hn b hb, (I'.ok.exf b hb).1, I'.ok.exfs b hb, .inl hb, fun x c e => (I'.ok.exf b hb).2 x c e, fun r hr => absurd (show r ∈ ([] : List (Addr × Obj)) ++ [] from hr) (by simp)⟩
  have loop : codeAny (model X.prog X.w) X.A (.compLoop (.SetComp elt [⟨tg, iter, ifs, 0⟩, ⟨tj', iter1, ifs1, 0⟩] scope pos) 0 (.ref it) (.ref D) ce) (compPost (model X.prog X.w) X.A X.xe none (fun v s' => ∃ x H', L2.Inv X pins σ H' s' ∧ RelV x v ∧ Q x H') (.ref D) s3.heap.objs.size) s4 := by
    refine loopS_out (hfold1 ce) (fun n s' => ∃ i H', L2.Inv (X.blk s3 H3 scope ce fp) [] (wipe σ (own.map (·.2))) H' s' ∧ tn i s'.heap ∧ (∀ b ∈ fp, H' b = none) ∧ W i n H') ?_ m0 ⟨0, H3, I4, st4, none3, w0⟩
    rintro n s5 ⟨i, H5, I5, st5, n5, w5⟩
    rcases turn i n H5 w5 with ⟨stop, qq⟩ | ⟨go, Nx, hNx, step⟩
    · refine thnF (T.done (X.blk s3 H3 scope ce fp) rfl rfl rfl hcalm i [] s5 _ H5 (fun _ _ => False) I5 (calmFp I5 n5) st5 stop) fun r s6 ⟨hr, I6⟩ => ?_
      subst hr
      have I7 : L2.Inv X pins σ H5 s6 := I3.call' (ch := fp) I6.os I6.base I6.hok I6.bare fun b hb => ⟨(f3 b hb).1.2.2.2.1, (f3 b hb).1.2.1, (f3 b hb).1.2.2.2.2.1, (f3 b hb).1.2.2.2.2.2⟩
      have nC : H5 s3.heap.objs.size = none := by
        have z : H5 ce.locals = none := I6.free
        rw [locs] at z
        exact z
      obtain ⟨m, hn, _⟩ := I6.loc
      have hn : s6.heap.Ns ce.locals m := hn
      rw [locs] at hn
      obtain ⟨k0, k1, k2, k3, k4, k5⟩ := I3.fpOk (Nat.le_refl _) nC
      exact ⟨m, hn, fun h'' sb => ⟨.ref D, H5, I7.turned (t' := s6.toks) (fun b o hb e => (sb.2 b hb).trans e) k0 k1 k3 k4 k5, rfl, qq⟩⟩
    · refine thnF (T.item (X.blk s3 H3 scope ce fp) rfl rfl rfl hcalm i [] s5 _ H5 (fun _ _ => False) I5 (calmFp I5 n5) st5 go) fun r s6 ⟨u, hr, h6⟩ => ?_
      subst hr
      refine thnF h6 fun _ s7 ⟨x, H7, I7, r7, y7, st7, n7⟩ => ?_
      have I7' := I7.pinned (calmFp I7 n7) (T.obj _ _ st7)
      refine thnF (pg.run _ s7 _ H7 x u _ I7' r7 (step x H7 y7)) fun _ s8 ⟨σ8, H8, I8, hw8, q8⟩ => thnF (pt.run _ s8 σ8 H8 _ I8 q8) fun b s9 ⟨H9, I9, q9⟩ => ?_
      have next : ∀ {σ9 : L2.St} {s' : Shared} {H' : Hp}, L2.Inv (X.blk s3 H3 scope ce fp) ([] ++ pinsAt fp s7.heap) σ9 H' s' → (wipe σ (own.map (·.2))).length = σ9.length → (∀ (j : Nat) v, (wipe σ (own.map (·.2)))[j]? = some (some v) → σ9[j]? = some (some v)) → Nx H' → ∃ m, m < n ∧ ∃ i H', L2.Inv (X.blk s3 H3 scope ce fp) [] (wipe σ (own.map (·.2))) H' s' ∧ tn i s'.heap ∧ (∀ b ∈ fp, H' b = none) ∧ W i m H' := fun {σ9 s' H'} I' len kn nx => by
        obtain ⟨m', hm, w'⟩ := hNx H' nx
        have held : ∀ b ∈ fp, ∀ o, s7.heap.get? b = some o → s'.heap.get? b = some o ∧ H' b = none := fun b hb o e => by
          have z := I'.pin (b, o) (List.mem_append_right _ (List.mem_append_right _ (mem_pinsAt hb e)))
          exact ⟨z.1, z.2.1⟩
        refine ⟨m', hm, i + 1, H', (I'.unpinned (pins := [])).weak len kn, T.keep _ _ _ st7 fun b hb o e => (held b hb o e).1, fun b hb => ?_, w'⟩
        obtain ⟨o, e, _⟩ := T.obj _ _ st7 b hb
        exact (held b hb o e).2
      have len8 : (wipe σ (own.map (·.2))).length = σ8.length := by rw [← hw8, wipe_length]
      have kn8 : ∀ (j : Nat) v, (wipe σ (own.map (·.2)))[j]? = some (some v) → σ8[j]? = some (some v) ∧ (wipe σ8 us)[j]? = some (some v) := fun j v e => by
        rw [← hw8] at e
        have z := wipe_some e
        exact ⟨z.1, by rw [wipe_out fun y => z.2 (hus j y)]; exact z.1⟩
      cases b with
      | false =>
        simp only [Bool.false_eq_true, if_false] at q9 ⊢
        exact next I9 len8 (fun j v e => (kn8 j v e).1) q9
      | true =>
        simp only [if_true] at q9 ⊢
        refine thnF (pj.run _ s9 σ8 H9 _ I9 q9) fun xv s10 hx => thnF hx fun itv s11 h11 => ?_
        obtain ⟨jt, fj, tm, L, H11, ej, I11, T1, st11, f11, U, ⟨m1, w1⟩, turn1⟩ := h11
        subst ej
        have calm1 : ∀ {H' : Hp}, (∀ b ∈ fj, H' b = none) → ∀ b ∈ fj, FpOk (X.blk s3 H3 scope ce fp) ([] ++ pinsAt fp s7.heap) H' b := fun hn b hb => ⟨hn b hb, (f11 b hb).2⟩
        have inner : codeAny (model X.prog X.w) X.A (.compLoop (.SetComp elt [⟨tg, iter, ifs, 0⟩, ⟨tj', iter1, ifs1, 0⟩] scope pos) 1 (.ref jt) (.ref D) ce)
            (fun r s' => match r with
              | .ok _ => ∃ m, m < n ∧ ∃ i H', L2.Inv (X.blk s3 H3 scope ce fp) [] (wipe σ (own.map (·.2))) H' s' ∧ tn i s'.heap ∧ (∀ b ∈ fp, H' b = none) ∧ W i m H'
              | .error _ => False) s11 := by
          refine loopS_in (fun k s' => ∃ j H', L2.Inv (X.blk s3 H3 scope ce fp) ([] ++ pinsAt fp s7.heap) (wipe σ8 us) H' s' ∧ tm j s'.heap ∧ (∀ b ∈ fj, H' b = none) ∧ U j k H') ?_ m1 ⟨0, H11, I11.weak (wipe_length _ _) (fun j v e => (wipe_some e).1), st11, fun b hb => (f11 b hb).1, w1⟩
          rintro k s12 ⟨j, H12, I12, st12, n12, w12⟩
          rcases turn1 j k H12 w12 with ⟨stop1, nx1⟩ | ⟨go1, Ny, hNy, step1⟩
          · refine thnF (T1.done (X.blk s3 H3 scope ce fp) rfl rfl rfl hcalm j _ s12 (wipe σ8 us) H12 (fun _ _ => False) I12 (calm1 n12) st12 stop1) fun r s13 ⟨hr, I13⟩ => ?_
            subst hr
            exact next I13 (len8.trans (wipe_length σ8 us).symm) (fun j v e => (kn8 j v e).2) nx1
          · refine thnF (T1.item (X.blk s3 H3 scope ce fp) rfl rfl rfl hcalm j _ s12 (wipe σ8 us) H12 (fun _ _ => False) I12 (calm1 n12) st12 go1) fun r s13 ⟨u1, hr, h13⟩ => ?_
            subst hr
            refine thnF h13 fun _ s14 ⟨x1, H14, I14, r14, y14, st14, n14⟩ => ?_
            have I14' := I14.pinned (calm1 n14) (T1.obj _ _ st14)
            refine thnF (ph.run _ s14 (wipe σ8 us) H14 x1 u1 _ I14' r14 (step1 x1 H14 y14)) fun _ s15 ⟨σ15, H15, I15, hw15, q15⟩ => thnF (pu.run _ s15 σ15 H15 _ I15 q15) fun b1 s16 ⟨H16, I16, q16⟩ => ?_
            have next1 : ∀ {s' : Shared} {H' : Hp}, L2.Inv (X.blk s3 H3 scope ce fp) (([] ++ pinsAt fp s7.heap) ++ pinsAt fj s14.heap) σ15 H' s' → Ny H' → ∃ m, m < k ∧ ∃ j H', L2.Inv (X.blk s3 H3 scope ce fp) ([] ++ pinsAt fp s7.heap) (wipe σ8 us) H' s' ∧ tm j s'.heap ∧ (∀ b ∈ fj, H' b = none) ∧ U j m H' := fun {s' H'} I' nx => by
              obtain ⟨m', hm, w'⟩ := hNy H' nx
              have held : ∀ b ∈ fj, ∀ o, s14.heap.get? b = some o → s'.heap.get? b = some o ∧ H' b = none := fun b hb o e => by
                have z := I'.pin (b, o) (List.mem_append_right _ (List.mem_append_right _ (mem_pinsAt hb e)))
                exact ⟨z.1, z.2.1⟩
              refine ⟨m', hm, j + 1, H', I'.unpinned.weak (by rw [← hw15, wipe_length]) (fun j v e => by rw [← hw15] at e; exact (wipe_some e).1), T1.keep _ _ _ st14 fun b hb o e => (held b hb o e).1, fun b hb => ?_, w'⟩
              obtain ⟨o, e, _⟩ := T1.obj _ _ st14 b hb
              exact (held b hb o e).2
            cases b1 with
            | false =>
              simp only [Bool.false_eq_true, if_false] at q16 ⊢
              exact next1 I16 q16
            | true =>
              simp only [if_true] at q16 ⊢
              refine thnF (pe.run _ s16 σ15 H16 _ I16 q16) fun z s17 ⟨yv, H17, I17, r17, zt, l0, ey, hD17, hz17, nx⟩ => ?_
              subst ey
              obtain ⟨tk, rfl⟩ := r17
              exact putX_ok (X := X.blk s3 H3 scope ce fp) I17 hD17 hz17 fun s18 l' n1 n2 n3 I18 => next1 I18 (nx l' n1 n2 n3)
        exact startS_in inner (T1.self X.A 0 _ _ _ st11 inner)
  exact PpSet.codeAny_compStart_set loop (T.self X.A 0 _ _ _ st4 loop)
end
end Wl

/-! dicts by texts while a loop goes over their keys; sorted of what a set holds. -/
namespace Wl
open PySem PySem.Spec PyProof.Rows L2
theorem sortS_alike {l m : List Str} (h1 : l.Nodup) (h2 : m.Nodup) (hm : ∀ z, z ∈ l ↔ z ∈ m) : sortS l = sortS m := sortS_eq h2 (sortS_rising h1) fun z => by rw [mem_sortS, hm]
theorem unlock_as {H H' : Hp} {d : Addr} {u x : HO} (hd : H d = some u) (s : Same (upd H d x) H') : Same H (upd H' d u) := fun b o e => by
  by_cases c : b = d
  · subst c
    rw [upd_same, ← hd]
    exact e
  · rw [upd_ne c]
    exact s b o (by rw [upd_ne c]; exact e)
theorem lock_free {H : Hp} {d p : Addr} {x : HO} (h : upd H d x p = none) : H p = none := by
  by_cases c : p = d
  · rw [c, upd_same] at h
    cases h
  · rw [upd_ne c] at h
    exact h
theorem walk_kz {d : Addr} {o : Obj} {ad : Str → V} {nms : List Str} : L2.Walk (Itk d o (kvZ ad nms)) (nms.map V.str).length (fun H => H d = some (.frz o (.dK (kvZ ad nms)))) (YAt (nms.map V.str)) := by
  have e : (nms.map V.str).length = (kvZ ad nms).length := by rw [List.length_map, kvZ_len]
  rw [e]
  refine walk_keys.mono (fun H h => h) fun i H x H' hi hG hy => ?_
  obtain ⟨rfl, k, v, h1, h2⟩ := hy
  refine ⟨rfl, ?_⟩
  unfold kvZ at h1
  rw [List.getElem?_map] at h1
  obtain ⟨z, hz, e2⟩ := Option.map_eq_some_iff.mp h1
  rw [List.getElem?_map, hz, h2, ← (Prod.mk.inj e2).1]
  rfl
theorem dget_fz {H : Hp} {d : Addr} {o : Obj} {ad : Str → V} {nms : List Str} {z : Str} (h : H d = some (.frz o (.dK (kvZ ad nms)))) (hz : z ∈ nms) : DGet H d (.str z) (some (ad z)) := .inl ⟨_, Sum.inr z, .inr ⟨o, h⟩, rfl, (valV_in hz).symm⟩
end Wl

namespace Wl
open PySem PySem.Spec PyProof.Rows L2
abbrev sMAsked : Stmt := inClass sMap 4
abbrev sMLen : Stmt := inClass sMap 8
theorem mf_sure (pl : Addr) (z : Str) (S a b c : Addr) : (mf pl z S a b c).lookup ("sure_words" : Str) = some (.ref a) := by
  rfl
theorem mf_doubt (pl : Addr) (z : Str) (S a b c : Addr) : (mf pl z S a b c).lookup ("doubtful_words" : Str) = some (.ref b) := by
  rfl
/-- asked: some word is told there -/
def askedOf (r : MR) : List Str := (sortS (names r.g)).filter fun y => !(r.said y).isEmpty
section
variable {P : Program} {w : World} {K : PySem.W.Frag} {mg : Str → Option Value} {base : Heap} {f C D W : Addr} {fd : FuncData}
theorem ByV.get {H : Hp} {d : Addr} {nms : List Str} {chs : List Chg} {ts : List Tel} (h : ByV H d nms chs ts) {z : Str} (hz : z ∈ nms) : ∃ t, DGet H d (.str z) (some (.ref t)) ∧ RowsT H t chs (ts.filter fun t => decide (t.v = z)) := by
  obtain ⟨ad, h1, h2⟩ := h
  refine ⟨ad z, ?_, h2 z hz⟩
  have := DGet.k (k := Sum.inr z) h1
  rw [valV_in hz] at this
  exact this
/-! ### words, doubtful -/
/-! ### asked -/
def spMAsked (C W : Addr) : Sp := fun vs H Q _ => ∃ (p : Addr) (r : MR) (wd : Nat), vs = [.ref p] ∧ MapAt C W H p r ∧ Good r.g wd ∧
  ∀ (t : Addr) (H' : Hp), H t = none → Same H H' → H' t = some (.tup ((askedOf r).map V.str)) → Q (.ref t) H'
theorem scMAsked : FnScope ["self", "name"] ["self"] (defScope sMAsked) := ⟨rfl, rfl, rfl, by decide +kernel, rfl, by decide +kernel, by decide +kernel⟩
def keepA (said : Str → List Str) : V → Bool
  | .str y => !(said y).isEmpty
  | _ => false
theorem keepA_filter (said : Str → List Str) : ∀ l : List Str, ((l.map V.str).filter (keepA said)).map id = (l.filter fun y => !(said y).isEmpty).map V.str
  | [] => rfl
  | y :: l => by
    have ih := keepA_filter said l
    rw [List.map_id] at ih ⊢
    rw [List.map_cons, List.filter_cons, List.filter_cons]
    have e : keepA said (.str y) = !(said y).isEmpty := rfl
    rw [e]
    by_cases c : (!(said y).isEmpty) = true
    · rw [if_pos c, if_pos c, ih]
      rfl
    · rw [if_neg c, if_neg c, ih]
theorem ok_asked (F : Fun K "asked" "WordMap.asked" sMAsked f fd) (B : Bi mg) (T : Txt K mg C) (TM : TxtM K mg W) (hN : HasM P w K mg base C "names" 1 ["self"] (spLNames C)) : FnOk P w K mg base CX0 2 f fd ["self"] (spMAsked C W) := by
  refine F.ok scMAsked (fun vs H Q E h => ?_) (fun cdv A outer s H vs Q E hr h => ?_)
  · obtain ⟨p, r, wd, rfl, _⟩ := h
    rfl
  · obtain ⟨p, r, wd, rfl, hM, gd, q⟩ := h
    have hu := hu_of hr
    refine ⟨_, pss_one (ps_ret (pe_callTy call_tuple_of (by rfl) B.tuple (by decide +kernel) (pa_cons (pe_lc (own := [("name", 1)]) (g := gName 1) (tt := tTest (tOp (rI0 fun i j => .bl (decide (j < i))) (tCB (fun xs H Q => ∃ p ys, xs = [V.ref p] ∧ (SqL K H p ys ∨ SqT K H p ys) ∧ Q (V.int (ys.length : Int)) H) (tCons (tDGet (tFld K (tVar 0) "said") (tVar 1)) tNil)) (tC (.int 0)))) (te := tVar 1) rfl scMAsked.nd (pi_tup (pe_hm0 hN T.cl hr (pe_fld (pv 0) rfl))) (blkOk_by (N := ["self", "name"]) (sc := defScope sMAsked) (by decide +kernel))
        (fun _ _ _ _ _ => pg_name (i := 1) scMAsked.nd rfl (.inl rfl)) (fun _ _ _ _ _ => pts_one (pt_cmpR op_gt (pe_callB call_len_seq (by rfl) B.len PySem.boot_len (pa_cons (pe_dget hu (pe_fld (pv 0) rfl) (pv 1) (fun _ _ => rfl)) pa_nil)) pe_int (nomark _))) (fun _ _ _ _ _ => pv 1)) pa_nil))), ?_⟩
    obtain ⟨dx, a, b, hp⟩ := hM.at_
    obtain ⟨dl, d, hl⟩ := hM.land.ins
    refine ⟨_, rfl, p, W, dx, _, _, rfl, hp, TM.cl, TM.nL, mf_land _ _ _ _ _ _, r.pl, dl, _, rfl, hl, fs_no, r.pl, r.L, r.g, wd, rfl, hM.land, gd, fun tn H2 ntn s2 htn => ⟨tn, rfl, ⟨_, .inl (.inl htn)⟩, fun Dd hD => ?_⟩⟩
    have hM2 := hM.same s2
    refine lc_map (walk_tup (K := K) (a := tn) (xs := (sortS (names r.g)).map V.str)) hD (keepA r.said) id (fun H' s' => .inl (.inl (s' _ _ htn))) (fun _ => rfl) ?_ ?_ ?_ ?_
    · intro x H' hx s' Q' q'
      obtain ⟨y, hy, rfl⟩ := List.mem_map.mp hx
      have hM3 := hM2.same s'
      obtain ⟨dx3, a3, b3, hp3⟩ := hM3.at_
      obtain ⟨t, ht1, ht2⟩ := hM3.said.get hy
      refine ⟨_, rfl, p, W, dx3, _, _, rfl, hp3, TM.cl, TM.nA, mf_said _ _ _ _ _ _, _, rfl, r.sd, _, rfl, ht1, t, _, rfl, .inr (.inl (.inl ht2)), _, _, rfl, rfl, _, rfl, ?_⟩
      have e : decide ((0 : Int) < (((r.said y).map V.str).length : Int)) = keepA r.said (.str y) := by
        rw [List.length_map]
        exact pos_dec _
      rw [e]
      exact q'
    · intro x H' hx _ _ Q' q'
      exact ⟨_, rfl, q'⟩
    · rw [List.length_map, sortS_len]
      exact small1000 (by have := gd.n36; omega)
    · intro H3 s3 hD3
      rw [keepA_filter] at hD3
      refine ⟨Dd, _, rfl, .inl ⟨.inl (.inl hD3), fun t ht => ?_⟩⟩
      exact q t _ ((s2.trans s3).free ht) ((s2.trans s3).trans (same_new ht)) upd_same
/-! ### len -/
def spMLen (C W : Addr) : Sp := fun vs H Q _ => ∃ (p : Addr) (r : MR) (wd : Nat), vs = [.ref p] ∧ MapAt C W H p r ∧ Good r.g wd ∧
  ∀ (H' : Hp), Same H H' → Q (.int ((askedOf r).length : Nat)) H'
theorem scMLen : FnScope ["self"] ["self"] (defScope sMLen) := ⟨rfl, rfl, rfl, by decide +kernel, rfl, by decide +kernel, by decide +kernel⟩
theorem ok_mlen (F : Fun K "__len__" "WordMap.__len__" sMLen f fd) (B : Bi mg) (TM : TxtM K mg W) (hA : HasM P w K mg base W "asked" 2 ["self"] (spMAsked C W)) : FnOk P w K mg base CX0 3 f fd ["self"] (spMLen C W) := by
  refine F.ok scMLen (fun vs H Q E h => ?_) (fun cdv A outer s H vs Q E hr h => ?_)
  · obtain ⟨p, r, wd, rfl, _⟩ := h
    rfl
  · obtain ⟨p, r, wd, rfl, hM, gd, q⟩ := h
    refine ⟨_, pss_one (ps_ret (pe_callB call_len_seq (by rfl) B.len PySem.boot_len (pa_cons (pe_hm0 hA TM.cl hr (pv 0)) pa_nil))), ?_⟩
    obtain ⟨dx, a, b, hp⟩ := hM.at_
    refine ⟨_, rfl, p, dx, _, rfl, hp, mf_no _ _ _ _ _ _, p, r, wd, rfl, hM, gd, fun t H1 nt s1 ht => ⟨t, _, rfl, .inr (.inl (.inl ht)), ?_⟩⟩
    rw [List.length_map]
    exact q H1 s1
/-! ### all_words -/
end
end Wl


/-! a dict of dicts of lists of whole numbers, grown by setdefault and append. -/
namespace Wl
open PySem PySem.Spec PyProof.Rows L2
structure ShI (H0 H : Hp) (d : Addr) (ks : List Str) (bd : Str → Addr) (zs : Str → List Str) (ad : Str → Str → Addr) (ag : Str → Str → List Int) : Prop where
  same : Same H0 H
  d0 : H0 d = none
  dict : H d = some (.dK (kvZ (fun y => .ref (bd y)) ks))
  sub : ∀ y ∈ ks, H (bd y) = some (.dK (kvZ (fun z => .ref (ad y z)) (zs y)))
  lst : ∀ y ∈ ks, ∀ z ∈ zs y, H (ad y z) = some (.lst ((ag y z).map V.int))
  injB : ∀ y ∈ ks, ∀ x ∈ ks, bd y = bd x → y = x
  injA : ∀ y ∈ ks, ∀ z ∈ zs y, ∀ x ∈ ks, ∀ u ∈ zs x, ad y z = ad x u → y = x ∧ z = u
  nd : ∀ y ∈ ks, bd y ≠ d
  newB : ∀ y ∈ ks, H0 (bd y) = none
  newA : ∀ y ∈ ks, ∀ z ∈ zs y, H0 (ad y z) = none
section
variable {H0 H H' : Hp} {d q : Addr} {ks : List Str} {bd : Str → Addr} {zs zs' : Str → List Str} {ad : Str → Str → Addr} {ag ag' : Str → Str → List Int} {y0 z0 : Str} {n : Int}
theorem ShI.keep (h : ShI H0 H d ks bd zs ad ag) (s : Same H H') : ShI H0 H' d ks bd zs ad ag :=
  ⟨h.same.trans s, h.d0, s _ _ h.dict, fun y hy => s _ _ (h.sub y hy), fun y hy z hz => s _ _ (h.lst y hy z hz), h.injB, h.injA, h.nd, h.newB, h.newA⟩
theorem ShI.congr (h : ShI H0 H d ks bd zs ad ag) (e1 : ∀ y ∈ ks, zs' y = zs y) (e2 : ∀ y ∈ ks, ∀ z ∈ zs y, ag' y z = ag y z) : ShI H0 H d ks bd zs' ad ag' :=
  ⟨h.same, h.d0, h.dict, fun y hy => by rw [e1 y hy]; exact h.sub y hy, fun y hy z hz => by rw [e1 y hy] at hz; rw [e2 y hy z hz]; exact h.lst y hy z hz, h.injB,
    fun y hy z hz x hx u hu e => h.injA y hy z (by rw [← e1 y hy]; exact hz) x hx u (by rw [← e1 x hx]; exact hu) e, h.nd, h.newB, fun y hy z hz => h.newA y hy z (by rw [← e1 y hy]; exact hz)⟩
theorem ShI.start (hd : H0 d = none) : ShI H0 (upd H0 d (.dK [])) d [] (fun _ => 0) zs (fun _ _ => 0) ag :=
  ⟨same_new hd, hd, upd_same, (by intro y hy; cases hy), (by intro y hy; cases hy), (by intro y hy; cases hy), (by intro y hy; cases hy), (by intro y hy; cases hy), (by intro y hy; cases hy), (by intro y hy; cases hy)⟩
theorem mem_old {u : Str} {ks : List Str} {z : Str} (h : u ∈ ks ++ [z]) (c : u ≠ z) : u ∈ ks := by
  rcases List.mem_append.mp h with h | h
  · exact h
  · exact absurd (List.mem_singleton.mp h) c
theorem kvZ_put {bd : Str → Addr} (h : y0 ∉ ks) : putK (kvZ (fun y => V.ref (bd y)) ks) (Sum.inr y0 : Key) (V.ref q) = kvZ (fun y => V.ref (if y = y0 then q else bd y)) (ks ++ [y0]) := by
  rw [putK_new _ (valV_out h)]
  unfold kvZ
  rw [List.map_append]
  congr 1
  · refine List.map_congr_left fun y hy => ?_
    simp only [if_neg (show ¬ y = y0 from fun e => h (e ▸ hy))]
  · simp
theorem ShI.addB (h : ShI H0 H d ks bd zs ad ag) (hy : y0 ∉ ks) (hq : H q = none) :
    ShI H0 (upd (upd H q (.dK [])) d (.dK (putK (kvZ (fun y => V.ref (bd y)) ks) (Sum.inr y0 : Key) (V.ref q)))) d (ks ++ [y0]) (fun y => if y = y0 then q else bd y) (fun y => if y = y0 then [] else zs y) ad ag := by
  have nq : d ≠ q := ne_of_none h.dict hq
  have nB : ∀ y ∈ ks, bd y ≠ q := fun y hy => ne_of_none (h.sub y hy) hq
  have nA : ∀ y ∈ ks, ∀ z ∈ zs y, ad y z ≠ q := fun y hy z hz => ne_of_none (h.lst y hy z hz) hq
  have nAd : ∀ y ∈ ks, ∀ z ∈ zs y, ad y z ≠ d := fun y hy z hz => ne_of (h.lst y hy z hz) h.dict (by intro q; cases q)
  rw [kvZ_put hy]
  refine ⟨same_mut (h.same.trans (same_new hq)) h.d0, h.d0, upd_same, fun y m => ?_, fun y m z mz => ?_, fun y m x mx e => ?_, fun y m z mz x mx u mu e => ?_, fun y m => ?_, fun y m => ?_, fun y m z mz => ?_⟩
  · by_cases c : y = y0
    · simp only [if_pos c]
      rw [upd_ne nq.symm, upd_same]
      rfl
    · simp only [if_neg c]
      rw [upd_ne (h.nd y (mem_old m c)), upd_ne (nB y (mem_old m c))]
      exact h.sub y (mem_old m c)
  · by_cases c : y = y0
    · simp only [if_pos c] at mz
      cases mz
    · simp only [if_neg c] at mz
      rw [upd_ne (nAd y (mem_old m c) z mz), upd_ne (nA y (mem_old m c) z mz)]
      exact h.lst y (mem_old m c) z mz
  · by_cases c : y = y0 <;> by_cases c2 : x = y0
    · rw [c, c2]
    · simp only [if_pos c, if_neg c2] at e
      exact absurd e.symm (nB x (mem_old mx c2))
    · simp only [if_neg c, if_pos c2] at e
      exact absurd e (nB y (mem_old m c))
    · simp only [if_neg c, if_neg c2] at e
      exact h.injB y (mem_old m c) x (mem_old mx c2) e
  · by_cases c : y = y0
    · simp only [if_pos c] at mz
      cases mz
    · by_cases c2 : x = y0
      · simp only [if_pos c2] at mu
        cases mu
      · simp only [if_neg c] at mz
        simp only [if_neg c2] at mu
        exact h.injA y (mem_old m c) z mz x (mem_old mx c2) u mu e
  · by_cases c : y = y0
    · simp only [if_pos c]
      exact nq.symm
    · simp only [if_neg c]
      exact h.nd y (mem_old m c)
  · by_cases c : y = y0
    · simp only [if_pos c]
      exact h.same.free hq
    · simp only [if_neg c]
      exact h.newB y (mem_old m c)
  · by_cases c : y = y0
    · simp only [if_pos c] at mz
      cases mz
    · simp only [if_neg c] at mz
      exact h.newA y (mem_old m c) z mz
theorem ShI.addA (h : ShI H0 H d ks bd zs ad ag) (hy : y0 ∈ ks) (hz : z0 ∉ zs y0) (hq : H q = none) :
    ShI H0 (upd (upd H q (.lst [])) (bd y0) (.dK (putK (kvZ (fun z => V.ref (ad y0 z)) (zs y0)) (Sum.inr z0 : Key) (V.ref q)))) d ks bd (fun y => if y = y0 then zs y0 ++ [z0] else zs y) (fun y z => if y = y0 then (if z = z0 then q else ad y0 z) else ad y z) (fun y z => if y = y0 then (if z = z0 then [] else ag y0 z) else ag y z) := by
  have nq : d ≠ q := ne_of_none h.dict hq
  have nB : ∀ y ∈ ks, bd y ≠ q := fun y hy => ne_of_none (h.sub y hy) hq
  have nA : ∀ y ∈ ks, ∀ z ∈ zs y, ad y z ≠ q := fun y hy z hz => ne_of_none (h.lst y hy z hz) hq
  have nAB : ∀ y ∈ ks, ∀ z ∈ zs y, ad y z ≠ bd y0 := fun y m z mz => ne_of (h.lst y m z mz) (h.sub y0 hy) (by intro q; cases q)
  rw [kvZ_put hz]
  have oldz : ∀ z, z ∈ zs y0 ++ [z0] → z ≠ z0 → z ∈ zs y0 := fun z m c => mem_old m c
  refine ⟨same_mut (h.same.trans (same_new hq)) (h.newB y0 hy), h.d0, by rw [upd_ne (h.nd y0 hy).symm, upd_ne nq]; exact h.dict, fun y m => ?_, fun y m z mz => ?_, h.injB, fun y m z mz x mx u mu e => ?_, h.nd, h.newB, fun y m z mz => ?_⟩
  · by_cases c : y = y0
    · subst c
      simp only [if_true]
      exact upd_same
    · simp only [if_neg c]
      rw [upd_ne fun e => c (h.injB y m y0 hy e), upd_ne (nB y m)]
      exact h.sub y m
  · by_cases c : y = y0
    · subst c
      simp only [if_true] at mz ⊢
      by_cases c2 : z = z0
      · simp only [if_pos c2]
        rw [upd_ne (nB y hy).symm, upd_same]
        rfl
      · simp only [if_neg c2]
        have mz' := oldz z mz c2
        rw [upd_ne (nAB y m z mz'), upd_ne (nA y m z mz')]
        exact h.lst y m z mz'
    · simp only [if_neg c] at mz ⊢
      rw [upd_ne (nAB y m z mz), upd_ne (nA y m z mz)]
      exact h.lst y m z mz
  · by_cases c : y = y0 <;> by_cases c2 : x = y0
    · rw [if_pos c] at mz e
      rw [if_pos c2] at mu e
      refine ⟨by rw [c, c2], ?_⟩
      by_cases d1 : z = z0 <;> by_cases d2 : u = z0
      · rw [d1, d2]
      · rw [if_pos d1, if_neg d2] at e
        exact absurd e.symm (nA y0 hy u (oldz u mu d2))
      · rw [if_neg d1, if_pos d2] at e
        exact absurd e (nA y0 hy z (oldz z mz d1))
      · rw [if_neg d1, if_neg d2] at e
        exact (h.injA y0 hy z (oldz z mz d1) y0 hy u (oldz u mu d2) e).2
    · rw [if_pos c] at mz e
      rw [if_neg c2] at mu e
      by_cases d1 : z = z0
      · rw [if_pos d1] at e
        exact absurd e.symm (nA x mx u mu)
      · rw [if_neg d1] at e
        obtain ⟨e1, e2⟩ := h.injA y0 hy z (oldz z mz d1) x mx u mu e
        exact absurd e1.symm c2
    · rw [if_neg c] at mz e
      rw [if_pos c2] at mu e
      by_cases d2 : u = z0
      · rw [if_pos d2] at e
        exact absurd e (nA y m z mz)
      · rw [if_neg d2] at e
        obtain ⟨e1, e2⟩ := h.injA y m z mz y0 hy u (oldz u mu d2) e
        exact absurd e1 c
    · rw [if_neg c] at mz e
      rw [if_neg c2] at mu e
      exact h.injA y m z mz x mx u mu e
  · by_cases c : y = y0
    · rw [if_pos c] at mz ⊢
      by_cases d1 : z = z0
      · rw [if_pos d1]
        exact h.same.free hq
      · rw [if_neg d1]
        exact h.newA y0 hy z (oldz z mz d1)
    · rw [if_neg c] at mz ⊢
      exact h.newA y m z mz
theorem ShI.app (h : ShI H0 H d ks bd zs ad ag) (hy : y0 ∈ ks) (hz : z0 ∈ zs y0) :
    ShI H0 (upd H (ad y0 z0) (.lst ((ag y0 z0).map V.int ++ [V.int n]))) d ks bd zs ad (fun y z => ag y z ++ (if y = y0 ∧ z = z0 then [n] else [])) := by
  have e0 := h.lst y0 hy z0 hz
  refine ⟨same_mut h.same (h.newA y0 hy z0 hz), h.d0, by rw [upd_ne (ne_of h.dict e0 (by intro q; cases q))]; exact h.dict, fun y m => by rw [upd_ne (ne_of (h.sub y m) e0 (by intro q; cases q))]; exact h.sub y m, fun y m z mz => ?_, h.injB, h.injA, h.nd, h.newB, h.newA⟩
  by_cases c : y = y0 ∧ z = z0
  · obtain ⟨rfl, rfl⟩ := c
    rw [upd_same, if_pos ⟨rfl, rfl⟩, List.map_append]
    rfl
  · rw [if_neg c, List.append_nil, upd_ne fun e => c (h.injA y m z mz y0 hy z0 hz e)]
    exact h.lst y m z mz
end
end Wl

/-! sorted of a dict's texts; the first and the last of sorted whole numbers. -/
namespace Wl
open PySem PySem.Spec PyProof.Rows L2
theorem lt_leB (a b : Str) : (!ltCps b.cps.toList a.cps.toList) = leB a b := by
  rw [ltCps_eq]
  unfold leB
  rfl
theorem rise_leB : ∀ (r : List Str) (p : Str), risingS p r = true → (p :: r).Pairwise (fun a b => leB a b = true)
  | [], p, _ => List.pairwise_singleton _ _
  | x :: r, p, h => by
    unfold risingS at h
    rw [Bool.and_eq_true, lt_leB] at h
    have ih := rise_leB r x h.2
    refine List.pairwise_cons.mpr ⟨fun y hy => ?_, ih⟩
    rcases List.mem_cons.mp hy with rfl | hy
    · exact h.1
    · exact leB_trans _ _ _ h.1 (List.rel_of_pairwise_cons ih hy)
theorem sortedS_is {ys ks : List Str} (nd : ks.Nodup) (p : ys.Perm ks) (h : sortedS ys = true) : ys = sortS ks := by
  have h1 : ys.Pairwise (fun a b => leB a b = true) := by
    cases ys with
    | nil => exact List.Pairwise.nil
    | cons x r => exact rise_leB r x h
  have h2 : ys.Pairwise (· ≠ ·) := p.nodup_iff.mpr nd
  refine sortS_eq nd (List.Pairwise.imp₂ (fun a b q n => ?_) h1 h2) fun z => p.mem_iff
  simp only [leB, Bool.not_eq_true', decide_eq_false_iff_not] at q
  exact Classical.byContradiction fun c => n (ltS_tot c q)
/-- the first of sorted numbers is the lowest, the last the highest -/
theorem srt_ends {ns ms : List Int} (p : ns.Perm ms) (s : ns.Pairwise (· ≤ ·)) (ne : ms ≠ []) :
    atI (ns.map V.int) 0 = some (V.int (ms.min?.getD 0)) ∧ atI (ns.map V.int) (-1) = some (V.int (ms.max?.getD 0)) := by
  constructor
  · cases ns with
    | nil => exact absurd (List.Perm.nil_eq p).symm ne
    | cons n r =>
      have e : ms.min? = some n := List.min?_eq_some_iff.mpr ⟨p.mem_iff.mp List.mem_cons_self, fun x hx => by
        rcases List.mem_cons.mp (p.mem_iff.mpr hx) with rfl | h
        · exact Int.le_refl _
        · exact List.rel_of_pairwise_cons s h⟩
      rw [e]
      exact atI_nat (j := 0) rfl
  · rcases List.eq_nil_or_concat ns with rfl | ⟨r, n, rfl⟩
    · exact absurd (List.Perm.nil_eq p).symm ne
    · rw [List.concat_eq_append] at p s ⊢
      have e : ms.max? = some n := List.max?_eq_some_iff.mpr ⟨p.mem_iff.mp (by simp), fun x hx => by
        rcases List.mem_append.mp (p.mem_iff.mpr hx) with h | h
        · exact (List.pairwise_append.mp s).2.2 x h n (by simp)
        · rw [List.mem_singleton.mp h]
          exact Int.le_refl _⟩
      rw [e, List.map_append]
      exact atI_last _ _
end Wl

namespace Wl
open PySem PySem.Spec PyProof.Rows L2
abbrev sTellings : Stmt := topS 74
abbrev sPut : Stmt := topS 75
section
variable {P : Program} {w : World} {K : PySem.W.Frag} {mg : Str → Option Value} {base : Heap} {f C D : Addr} {fd : FuncData}
/-! ### _law_whole -/
/-! ### _law_said -/
/-! ### _law_due -/
end
end Wl



namespace Wl
open PySem PySem.Spec PyProof.Rows L2
/-- all by name: sure, age, village, gatherer, teller, word, thing -/
def gP4 {α : Type} : List α → List α → List α → List α
  | [s], [_, _], [b, ag, v, g, tl, w, th] => [s, v, th, w, tl, ag, g, b]
  | _, _, _ => []
theorem gP4_rel {vs ds zs : List V} {us its ws : List Value} (r1 : Vals vs us) (r2 : Vals ds its) (r3 : Vals zs ws) : Vals (gP4 vs ds zs) (gP4 us its ws) := by
  rcases r1 with _ | ⟨a1, _ | ⟨_, _⟩⟩
  all_goals first | exact .nil | skip
  rcases r2 with _ | ⟨b1, _ | ⟨b2, _ | ⟨_, _⟩⟩⟩
  all_goals first | exact .nil | skip
  rcases r3 with _ | ⟨c1, _ | ⟨c2, _ | ⟨c3, _ | ⟨c4, _ | ⟨c5, _ | ⟨c6, _ | ⟨c7, _ | ⟨_, _⟩⟩⟩⟩⟩⟩⟩⟩
  all_goals first | exact .nil | exact .cons a1 (.cons c3 (.cons c7 (.cons c6 (.cons c5 (.cons c2 (.cons c4 (.cons c1 .nil)))))))
section
variable {K : PySem.W.Frag} {f : Addr} {fd : FuncData}
theorem put_k4 (F : FunP K f fd) : ∃ its : List Value, KBn K fd psPut 1 ["sure", "age", "village", "gatherer", "teller", "word", "thing"] (fun us ws => gP4 us its ws) (fun vs zs => gP4 vs [.str "self", .bl true] zs) :=
  F.kbindsD 1 _ gP4 (by simp) gP4_rel (fun T kV doc pm an cdv ct us its ws l1 l2 l3 => by
      match us, its, ws, l1, l2, l3 with
      | [_], [_, _], [_, _, _, _, _, _, _], _, _, _ => exact ⟨_, rfl, rfl⟩)
theorem put_b7 (F : FunP K f fd) : ∃ ds, Vals [V.bl true] ds ∧ Binds K fd psPut ds :=
  F.binds1 (ps := psPut) 7 1 (by simp) rfl (fun T kV doc pm an cdv ct us its l1 l2 => by
      match us, its, l1, l2 with
      | [_, _, _, _, _, _, _], [_, _], _, _ => exact ⟨_, rfl, rfl⟩)
end
theorem GatAt.keep {C D : Addr} {H H' : Hp} {p : Addr} {r : GR} (h : GatAt C D H p r) (k : Keep H H') (ht : H' r.td = some (.lst (r.as.map V.ref))) (hd : H' r.dd = some (.lst r.ds)) : GatAt C D H' p r :=
  ⟨let ⟨dx, e⟩ := h.at_; ⟨dx, k _ _ (fun xs e => by cases e) e⟩, h.land.keep k, ht, h.tels.keep k.tk, hd, h.ne⟩
theorem GatAt.x {C D : Addr} {H H' : Hp} {p a : Addr} {r : GR} (h : GatAt C D H p r) (hA : PurseAt H a) (s : SameX a H H') (n1 : r.td ≠ a) (n2 : r.dd ≠ a) : GatAt C D H' p r := by
  obtain ⟨ys, hy⟩ := hA.lst
  exact h.keep (kp_x s hy) (s _ _ n1 h.told) (s _ _ n2 h.deeds)
theorem kp_2 {a b : Addr} {H H' : Hp} {xs ys : List V} (s : Same2 a b H H') (ha : H a = some (.lst xs)) (hb : H b = some (.lst ys)) : Keep H H' := fun p o n h => s p o (fun e => by
    rw [e, ha] at h
    exact n xs (Option.some.inj h).symm) (fun e => by
    rw [e, hb] at h
    exact n ys (Option.some.inj h).symm) h
theorem purse_2 {a b c : Addr} {H H' : Hp} (h : PurseAt H a) (s : Same2 b c H H') (n1 : a ≠ b) (n2 : a ≠ c) : PurseAt H' a := by
  obtain ⟨y0, y1, y2, hy, hy1⟩ := h
  exact ⟨y0, y1, y2, s _ _ n1 n2 hy, hy1⟩
theorem new_key {ts : List Tel} {i : Nat} {t : Tel} (hnd : (ts.map keyS).Nodup) (ht : ts[i]? = some t) : keyS t ∉ (ts.take i).map keyS := by
  intro hm
  obtain ⟨u, hu, e⟩ := List.mem_map.mp hm
  obtain ⟨j, hj, ej⟩ := List.mem_iff_getElem.mp hu
  rw [List.length_take] at hj
  rw [List.getElem_take] at ej
  obtain ⟨hi2, ei⟩ := List.getElem?_eq_some_iff.mp ht
  have e3 : (ts.map keyS)[j]'(by rw [List.length_map]; omega) = (ts.map keyS)[i]'(by rw [List.length_map]; omega) := by
    rw [List.getElem_map, List.getElem_map, ej, ei, e]
  have := (List.getElem_inj hnd).mp e3
  omega
section
variable {P : Program} {w : World} {K : PySem.W.Frag} {mg : Str → Option Value} {base : Heap} {f C D : Addr} {fd : FuncData}
def HasI (P : Program) (w : World) (K : PySem.W.Frag) (mg : Str → Option Value) (base : Heap) (C : Addr) : Prop :=
  ∃ f fd, Mk K C f ∧ FnOk P w K mg base CX0 4 f fd ["self", "rows"] (spInit C) ∧ Binds K fd ["self", "rows"] []
def HasG (P : Program) (w : World) (K : PySem.W.Frag) (mg : Str → Option Value) (base : Heap) (C D : Addr) : Prop :=
  ∃ f fd, Mk K D f ∧ FnOk P w K mg base CX0 1 f fd ["self", "land"] (spGInit C D) ∧ Binds K fd ["self", "land"] []
def HasP (P : Program) (w : World) (K : PySem.W.Frag) (mg : Str → Option Value) (base : Heap) (C D : Addr) : Prop := ∃ f fd, FnOk P w K mg base CX0 4 f fd psPut (spPut C D) ∧ Meth K D "put" f ∧ FunP K f fd
/-! ### a Gathering of these tellings -/
def spLPut (C D : Addr) : Sp := fun vs H Q _ => ∃ (a L l : Addr) (g : Grid) (wd : Nat) (as : List Addr) (ts : List Tel), vs = [.ref a, .ref L, .ref l] ∧ PurseAt H a ∧ GridAt H L g ∧ Good g wd ∧ H l = some (.lst (as.map V.ref)) ∧ l ≠ a ∧ TelsAt H as ts ∧ (∀ t ∈ ts, OkT t) ∧ (∀ t ∈ ts, t.v ∈ names g) ∧ (ts.map keyS).Nodup ∧ ts.length ≤ 200 ∧
  ∀ (p : Addr) (r : GR) (H' : Hp), PurseAt H' a → SameX a H H' → GatAt C D H' p r → r.ts = ts → r.g = g → r.ds.length = ts.length → H r.td = none → H r.dd = none → Q (.ref p) H'
abbrev nLPut : List Str := ["_law_purse_here", "_law_rows", "_law_some", "_law_found", "_law_town", "_law_item", "_law_term", "_law_who", "_law_years", "_law_scribe", "_law_firm", "_law_way"]
theorem scLPut : FnScope nLPut ["_law_purse_here", "_law_rows", "_law_some"] (defScope sPut) := ⟨rfl, rfl, rfl, by decide +kernel, rfl, by decide +kernel, by decide +kernel⟩
theorem ok_lput (F : Fun K "_law_put" "_law_put" sPut f fd) (T : Txt K mg C) (TG : TxtG K mg D) (hI : HasI P w K mg base C) (hGi : HasG P w K mg base C D) (hP : HasP P w K mg base C D) (hp : Has P w K mg base "_law_pick" 1 ["_law_purse_here", "_law_many"] spPick) : FnOk P w K mg base CX0 6 f fd ["_law_purse_here", "_law_rows", "_law_some"] (spLPut C D) := by
  obtain ⟨fI, fdI, MI, GI, bI⟩ := hI
  obtain ⟨fG, fdG, MG, GG, bG⟩ := hGi
  obtain ⟨fp, fdp, FP, mP, fnP⟩ := hP
  have b8 := put_b8 fnP
  obtain ⟨ds6, v6, b6⟩ := put_b6 fnP
  obtain ⟨ds7, v7, b7⟩ := put_b7 fnP
  obtain ⟨i2, k2⟩ := put_k2 fnP
  obtain ⟨i4, k4⟩ := put_k4 fnP
  refine F.ok scLPut (fun vs H Q E h => ?_) (fun cdv A outer s H vs Q E hr h => ?_)
  · obtain ⟨a, L, l, g, wd, as, ts, rfl, _⟩ := h
    rfl
  · obtain ⟨a, L, l, g, wd, as, ts, rfl, hA, hGr, gd, hl, nla, hT, hok, hv, hnd, h200, q⟩ := h
    refine ⟨_, pss_cons (ps_set (i := 3) scLPut.nd rfl (.inl rfl) (pe_make MG GG (hr.mono (by decide)) rfl TG.mgD bG .nil pass0 (pa_cons (pe_make MI GI (hr.mono (by decide)) rfl T.mgC bI .nil pass0 (pa_cons (pv 1) pa_nil)) pa_nil)))
      (pss_cons (ps_for PassesOwn.never rfl (pi_list (pv 2)) (pg_tup rfl (pgs_cons (pg_name (i := 4) scLPut.nd rfl (.inl rfl)) (pgs_cons (pg_name (i := 5) scLPut.nd rfl (.inl rfl)) (pgs_cons (pg_name (i := 6) scLPut.nd rfl (.inl rfl)) (pgs_cons (pg_name (i := 7) scLPut.nd rfl (.inl rfl)) (pgs_cons (pg_name (i := 8) scLPut.nd rfl (.inl rfl)) (pgs_cons (pg_name (i := 9) scLPut.nd rfl (.inl rfl)) (pgs_cons (pg_name (i := 10) scLPut.nd rfl (.inl rfl)) pgs_nil))))))))
        (pss_cons (ps_set (i := 11) scLPut.nd rfl (.inl rfl) (pe_h hp hr (pa_cons (pv 0) (pa_cons pe_int pa_nil))))
        (pss_one (ps_if (pt_cmpR op_eq (pv 11) pe_int (nomark _)) (pss_one (ps_expr (pe_methN0 (pv 3) TG.cl mP FP (hr.mono (by decide)) k4 pass0 (pk_cons (pv 10) (pk_cons (pv 8) (pk_cons (pv 4) (pk_cons (pv 9) (pk_cons (pv 7) (pk_cons (pv 6) (pk_cons (pv 5) pk_nil))))))))))
          (pss_one (ps_if (PW.pt (pw_and (pt_cmpR op_eq (pv 9) pe_str (nomark _)) (pw_and1 (pt_val (pv 10))))) (pss_one (ps_expr (pe_meth (pv 3) TG.cl mP FP (hr.mono (by decide)) b6 v6 pass0 (pa_cons (pv 4) (pa_cons (pv 5) (pa_cons (pv 6) (pa_cons (pv 7) (pa_cons (pv 8) pa_nil))))))))
          (pss_one (ps_if (pt_cmpR op_eq (pv 9) pe_str (nomark _)) (pss_one (ps_expr (pe_methN (n := 5) (pv 3) TG.cl mP FP (hr.mono (by decide)) k2 pass0 (pa_cons (pv 4) (pa_cons (pv 5) (pa_cons (pv 6) (pa_cons (pv 7) (pa_cons (pv 8) pa_nil))))) (pk_cons (pv 10) pk_nil))))
          (pss_one (ps_if (pt_val (pv 10)) (pss_one (ps_expr (pe_meth (pv 3) TG.cl mP FP (hr.mono (by decide)) b7 v7 pass0 (pa_cons (pv 4) (pa_cons (pv 5) (pa_cons (pv 6) (pa_cons (pv 7) (pa_cons (pv 8) (pa_cons (pv 9) pa_nil))))))))) (pss_one (ps_expr (pe_meth (pv 3) TG.cl mP FP (hr.mono (by decide)) b8 .nil pass0 (pa_cons (pv 4) (pa_cons (pv 5) (pa_cons (pv 6) (pa_cons (pv 7) (pa_cons (pv 8) (pa_cons (pv 9) (pa_cons (pv 10) pa_nil))))))))))))))))))))
      (pss_one (ps_ret (pv 3)))), ?_⟩
    refine ⟨_, rfl, fun pl dl npl ndl nel => ?_⟩
    have kp1 : TupKeep H (upd (upd H dl (.own pl)) pl (.ins C dl [])) := fun b xs h => by
      rw [upd_ne (ne_of_none h npl), upd_ne (ne_of_none h ndl)]
      exact h
    refine ⟨pl, dl, L, g, wd, rfl, upd_same, hGr.keep kp1, gd, fun H1 k1 hLa1 => ⟨rfl, ?_⟩⟩
    have s1 := made_same npl ndl k1
    intro p dp np ndp nep
    have s2 : Same H1 (upd (upd H1 dp (.own p)) p (.ins D dp [])) := fun b o e => by
      rw [upd_ne (ne_of_none e np), upd_ne (ne_of_none e ndp)]
      exact e
    have npp : p ≠ pl := fun e => by
      obtain ⟨_, _, h1⟩ := hLa1.ins
      rw [← e, np] at h1
      cases h1
    refine ⟨p, dp, pl, L, g, rfl, upd_same, hLa1.same s2, npp, fun td dd H2 htd hdd kk2 hG2 => ⟨rfl, ?_⟩⟩
    have s12 : Same H1 H2 := fun b o e => kk2 b o (ne_of_none e np) (s2 b o e)
    have s02 := s1.trans s12
    have htd0 : H td = none := s1.free (s2.free htd)
    have hdd0 : H dd = none := s1.free (s2.free hdd)
    have nta : td ≠ a := hA.ne htd0
    have nda : dd ≠ a := hA.ne hdd0
    have hlen := hT.length
    obtain ⟨ysA, hyA⟩ := hA.lst
    refine ⟨_, rfl, l, rfl, ⟨_, .inl (.inl (s02 _ _ hl))⟩, for_list (K := K) (a := l) (xs := as.map V.ref) (fun i σ H' => (∃ y4 y5 y6 y7 y8 y9 y10 y11, σ = [some (.ref a), some (.ref L), some (.ref l), some (.ref p), y4, y5, y6, y7, y8, y9, y10, y11]) ∧ PurseAt H' a ∧ SameX a H H' ∧ ∃ r : GR, GatAt C D H' p r ∧ r.ts = ts.take i ∧ r.g = g ∧ r.ds.length = i ∧ r.td = td ∧ r.dd = dd)
      ⟨⟨_, _, _, _, _, _, _, _, rfl⟩, hA.same s02, sx s02, ⟨pl, L, td, dd, g, [], [], []⟩, hG2, rfl, rfl, rfl, rfl, rfl⟩ (fun i σ H' _ h => .inl (.inl (h.2.2.1 _ _ nla hl))) ?_ ?_⟩
    · rintro i x σ H3 hx ⟨⟨y4, y5, y6, y7, y8, y9, y10, y11, rfl⟩, hA3, x3, r, hG3, ets, eg, eds, etd, edd⟩
      rw [List.getElem?_map] at hx
      obtain ⟨pt, hpt, rfl⟩ := Option.map_eq_some_iff.mp hx
      obtain ⟨t, ht, hH⟩ := Each.get hT hpt
      have htm := List.mem_of_getElem? ht
      have hi : i < ts.length := (List.getElem?_eq_some_iff.mp ht).1
      refine ⟨pt, _, rfl, .inl (.inl ((tk_x x3 hyA) _ _ hH)), rfl, _, _, rfl, _, _, rfl, _, _, rfl, _, _, rfl, _, _, rfl, _, _, rfl, _, _, rfl, rfl, ?_⟩
      refine ⟨_, rfl, a, 3, rfl, hA3, by decide, by decide, fun way H4 w0 w1 hA4 x4 _ => ?_⟩
      have hG4 := hG3.x hA3 x4 (by rw [etd]; exact nta) (by rw [edd]; exact nda)
      have x04 := x3.trans x4
      obtain ⟨dx, hp4⟩ := hG4.at_
      have okt := hok t htm
      have fin : ∀ (q1 : Addr) (H5 : Hp), Same2 r.td r.dd H4 H5 → GatAt C D H5 p (r.add q1 t) → PurseAt H5 a ∧ SameX a H H5 ∧ ∃ r : GR, GatAt C D H5 p r ∧ r.ts = ts.take (i + 1) ∧ r.g = g ∧ r.ds.length = i + 1 ∧ r.td = td ∧ r.dd = dd := fun q1 H5 m5 hG5 => by
        refine ⟨purse_2 hA4 m5 (by rw [etd]; exact nta.symm) (by rw [edd]; exact nda.symm), fun b o n e => ?_, r.add q1 t, hG5, ?_, eg, ?_, etd, edd⟩
        · refine m5 b o ?_ ?_ (x04 _ _ n e)
          · rw [etd]
            exact ne_of_none e htd0
          · rw [edd]
            exact ne_of_none e hdd0
        · show r.ts ++ [t] = _
          rw [ets, take_snoc ht]
        · show (r.ds ++ [V.non]).length = _
          rw [List.length_append, eds]
          rfl
      have go : ∀ (vs : List V) (Q : VK), vs = V.ref p :: telV t → (∀ (q1 : Addr) (H5 : Hp), Same2 r.td r.dd H4 H5 → GatAt C D H5 p (r.add q1 t) → Q .non H5) → spPut C D vs H4 Q E0 := fun vs Q e c => ⟨p, r, wd, t, e, hG4, by rw [eg]; exact gd, fun u hu => hok u (List.mem_of_mem_take (ets ▸ hu)), okt, by rw [eg]; exact hv t htm, by rw [ets]; exact new_key hnd ht, by rw [ets, List.length_take]; omega, by omega, fun q1 H5 _ m5 g5 => c q1 H5 m5 g5⟩
      have go2 : ∀ {t' : Tel} (vs : List V) (Q : VK), t' = t → vs = V.ref p :: telV t' → (∀ (q1 : Addr) (H5 : Hp), Same2 r.td r.dd H4 H5 → GatAt C D H5 p (r.add q1 t) → Q .non H5) → spPut C D vs H4 Q E0 := fun vs Q e e2 c => go vs Q (by rw [e2, e]) c
      refine ⟨_, rfl, rfl, _, rfl, ite_b (fun e0 => ?_) (fun e0 => ?_)⟩
      · exact ⟨_, rfl, p, _, _, rfl, hp4, gf_no _ _ _, _, rfl, _, rfl, _, rfl, _, rfl, _, rfl, _, rfl, _, rfl, rfl, rfl, go _ _ rfl fun q1 H5 m5 g5 => ⟨⟨_, _, _, _, _, _, _, _, rfl⟩, fin q1 H5 m5 g5⟩⟩
      refine ⟨_, rfl, rfl, _, rfl, ite_b (fun e1 => ?_) (fun e1 => ?_)⟩
      · have eg1 : t.g = "self" := V.str.inj (of_decide_eq_true e1)
        refine ⟨_, rfl, t.sure, rfl, ite_b (fun e2 => ?_) (fun e2 => ?_)⟩
        · have et : ({ t with g := "self", sure := true } : Tel) = t := by
            cases t
            simp only at eg1 e2
            simp [eg1, e2]
          refine ⟨_, rfl, p, _, _, rfl, hp4, gf_no _ _ _, _, rfl, _, rfl, _, rfl, _, rfl, _, rfl, ?_⟩
          dsimp only [tNil]
          exact go2 _ _ et rfl fun q1 H5 m5 g5 => ⟨⟨_, _, _, _, _, _, _, _, rfl⟩, fin q1 H5 m5 g5⟩
        · refine ⟨_, rfl, rfl, _, rfl, ?_⟩
          rw [e1]
          have et : ({ t with g := "self" } : Tel) = t := by
            cases t
            simp only at eg1
            simp [eg1]
          exact iteT ⟨_, rfl, p, _, _, rfl, hp4, gf_no _ _ _, _, rfl, _, rfl, _, rfl, _, rfl, _, rfl, _, rfl, rfl, rfl, go2 _ _ et rfl fun q1 H5 m5 g5 => ⟨⟨_, _, _, _, _, _, _, _, rfl⟩, fin q1 H5 m5 g5⟩⟩
      · refine ⟨_, rfl, rfl, _, rfl, ?_⟩
        rw [e1]
        refine iteF ⟨_, rfl, t.sure, rfl, ite_b (fun e2 => ?_) (fun e2 => ?_)⟩
        · have et : ({ t with sure := true } : Tel) = t := by
            cases t
            simp only at e2
            simp [e2]
          refine ⟨_, rfl, p, _, _, rfl, hp4, gf_no _ _ _, _, rfl, _, rfl, _, rfl, _, rfl, _, rfl, _, rfl, ?_⟩
          dsimp only [tNil]
          exact go2 _ _ et rfl fun q1 H5 m5 g5 => ⟨⟨_, _, _, _, _, _, _, _, rfl⟩, fin q1 H5 m5 g5⟩
        · refine ⟨_, rfl, p, _, _, rfl, hp4, gf_no _ _ _, _, rfl, _, rfl, _, rfl, _, rfl, _, rfl, _, rfl, _, rfl, ?_⟩
          dsimp only [tNil]
          exact go _ _ rfl fun q1 H5 m5 g5 => ⟨⟨_, _, _, _, _, _, _, _, rfl⟩, fin q1 H5 m5 g5⟩
    · rintro σ H3 ⟨⟨y4, y5, y6, y7, y8, y9, y10, y11, rfl⟩, hA3, x3, r, hG3, ets, eg, eds, etd, edd⟩
      rw [List.length_map, hlen] at ets eds
      rw [List.take_length] at ets
      exact ⟨_, rfl, q p r H3 hA3 x3 hG3 ets eg eds (by rw [etd]; exact htd0) (by rw [edd]; exact hdd0)⟩
end
end Wl



namespace Wl
open PySem PySem.Spec PyProof.Rows L2
def kD (t : Tel) : PyData := .tuple ((keyS t).map PyData.str)
theorem lay_keys : ∀ {ts : List Tel}, (∀ t ∈ ts, OkT t) → PyData.canLayAll0 (ts.map kD) = true
  | [], _ => by simp [PyData.canLayAll0]
  | t :: ts, h => by
    have h1 := lay_strs (h t List.mem_cons_self).key
    have h2 := lay_keys (ts := ts) fun u hu => h u (List.mem_cons_of_mem _ hu)
    simp [PyData.canLayAll0, kD, PyData.canLay0, h1, h2]
theorem depth_keys : ∀ ts : List Tel, PyData.depthAll (ts.map kD) ≤ 1
  | [] => by simp [PyData.depthAll]
  | t :: ts => by
    have h1 := depth_keys ts
    have h2 := depth_strs (keyS t)
    simp only [List.map_cons, PyData.depthAll, kD, PyData.depth]
    omega
theorem any_keys (t : Tel) : ∀ ts : List Tel, ((ts.map kD).any fun z => PyData.eqv z (.tuple ((keyS t).map PyData.str))) = decide (keyS t ∈ ts.map keyS)
  | [] => by simp
  | u :: ts => by
    rw [List.map_cons, List.any_cons, any_keys t ts, show PyData.eqv (kD u) (.tuple ((keyS t).map PyData.str)) = decide (keyS u = keyS t) from tup_eqv _ _, List.map_cons]
    by_cases c : keyS u = keyS t
    · rw [decide_eq_true c, decide_eq_true (show keyS t ∈ keyS u :: ts.map keyS by rw [c]; exact List.mem_cons_self), Bool.true_or]
    · rw [decide_eq_false c, Bool.false_or]
      by_cases d : keyS t ∈ ts.map keyS
      · rw [decide_eq_true d, decide_eq_true (List.mem_cons_of_mem _ d)]
      · rw [decide_eq_false d, decide_eq_false fun h => by
          rcases List.mem_cons.mp h with h | h
          · exact c h.symm
          · exact d h]
def KeysAt (H : Hp) (ks : List Addr) (ts : List Tel) : Prop := Each (fun (k : Addr) (t : Tel) => H k = some (.tup (keyV t))) ks ts
theorem KeysAt.keep {H H' : Hp} {ks : List Addr} {ts : List Tel} (h : KeysAt H ks ts) (k : TupKeep H H') : KeysAt H' ks ts := Each.mono (fun p t e => k p _ e) h
theorem dp_keys {K : PySem.W.Frag} {H : Hp} : ∀ {ks : List Addr} {ts : List Tel}, KeysAt H ks ts → DpAll K H (ks.map V.ref) (ts.map kD)
  | _, _, .nil => .nil
  | _, _, .cons (b := t) e r => .cons (.tup (.inl (.inl e)) (dp_strs (keyS t))) (dp_keys r)
structure TelI (ws : List Str) (H0 H : Hp) (a S Fo Ke : Addr) (sw : List Str) (as ks : List Addr) (ts : List Tel) : Prop where
  pu : PurseAt H a
  sx : SameX a H0 H
  says : H S = some (.lst (sw.map V.str))
  fo : H Fo = some (.lst (as.map V.ref))
  ke : H Ke = some (.lst (ks.map V.ref))
  tels : TelsAt H as ts
  keys : KeysAt H ks ts
  ok : ∀ t ∈ ts, OkT t
  vs : ∀ t ∈ ts, t.v ∈ ws
  tl : ∀ t ∈ ts, (t.th.length ≤ 4 ∧ t.tl.length ≤ 4)
  nd : (ts.map keyS).Nodup
theorem TelI.x {ws : List Str} {H0 H H' : Hp} {a S Fo Ke : Addr} {sw : List Str} {as ks : List Addr} {ts : List Tel} (h : TelI ws H0 H a S Fo Ke sw as ks ts) (hA : PurseAt H' a) (x : SameX a H H') (n1 : S ≠ a) (n2 : Fo ≠ a) (n3 : Ke ≠ a) : TelI ws H0 H' a S Fo Ke sw as ks ts := by
  obtain ⟨ys, hy⟩ := h.pu.lst
  exact ⟨hA, h.sx.trans x, x _ _ n1 h.says, x _ _ n2 h.fo, x _ _ n3 h.ke, h.tels.keep (tk_x x hy), h.keys.keep (tk_x x hy), h.ok, h.vs, h.tl, h.nd⟩
section
variable {P : Program} {w : World} {K : PySem.W.Frag} {mg : Str → Option Value} {base : Heap} {f C D : Addr} {fd : FuncData}
/-! ### tellings of unlike keys -/
def spTels : Sp := fun vs H Q _ => ∃ (a Tw : Addr) (n : Nat) (ws : List Str), vs = [.ref a, .ref Tw, .int (n : Int)] ∧ PurseAt H a ∧ H Tw = some (.lst (ws.map V.str)) ∧ Tw ≠ a ∧ ws ≠ [] ∧ ws.length ≤ 36 ∧ (∀ z ∈ ws, IsWd z) ∧ n ≤ 60 ∧
  ∀ (l : Addr) (as : List Addr) (ts : List Tel) (H' : Hp), PurseAt H' a → SameX a H H' → H l = none → H' l = some (.lst (as.map V.ref)) → TelsAt H' as ts → (∀ t ∈ ts, OkT t) → (∀ t ∈ ts, t.v ∈ ws) → (∀ t ∈ ts, (t.th.length ≤ 4 ∧ t.tl.length ≤ 4)) → (ts.map keyS).Nodup → ts.length ≤ n → Q (.ref l) H'
abbrev nTels : List Str := ["_law_purse_here", "_law_towns", "_law_many", "_law_says", "_law_found", "_law_keys", "_law_k", "_law_town", "_law_item", "_law_term", "_law_who", "_law_years", "_law_scribe", "_law_firm"]
theorem scTels : FnScope nTels ["_law_purse_here", "_law_towns", "_law_many"] (defScope sTellings) := ⟨rfl, rfl, rfl, by decide +kernel, rfl, by decide +kernel, by decide +kernel⟩
theorem ok_tels (F : Fun K "_law_tellings" "_law_tellings" sTellings f fd) (B : Bi mg) (hp : Has P w K mg base "_law_pick" 1 ["_law_purse_here", "_law_many"] spPick) (hW : Has P w K mg base "_law_word" 2 ["_law_purse_here"] spWord) : FnOk P w K mg base CX0 3 f fd ["_law_purse_here", "_law_towns", "_law_many"] spTels := by
  refine F.ok scTels (fun vs H Q E h => ?_) (fun cdv A outer s H vs Q E hr h => ?_)
  · obtain ⟨a, Tw, n, ws, rfl, _⟩ := h
    rfl
  · obtain ⟨a, Tw, n, ws, rfl, hA, hTw, nTw, hne, h36, hwd, h60, q⟩ := h
    have hu65 : (A.deeper (envOfC "_law_tellings" (defScope sTellings) s.heap.objs.size f cdv)).units + 65 < cLine := by have := hr.un; omega
    refine ⟨_, pss_cons (ps_set (i := 3) scTels.nd rfl (.inl rfl) (pe_lst (pa_cons pe_str (pa_cons pe_str (pa_cons pe_str (pa_cons pe_str (pa_cons pe_str (pa_cons pe_str (pa_cons pe_str (pa_cons pe_str (pa_cons pe_str (pa_cons pe_str (pa_cons (pe_h hW hr (pa_cons (pv 0) pa_nil)) (pa_cons (pe_h hW hr (pa_cons (pv 0) pa_nil)) pa_nil))))))))))))))
      (pss_cons (ps_par (i := 4) (j := 5) (by rfl) scTels.nd rfl rfl (by decide) rfl rfl (pa_cons (pe_lst pa_nil) (pa_cons (pe_lst pa_nil) pa_nil)) (by rfl))
      (pss_cons (ps_for PassesOwn.never rfl (pi_range1 rfl B.range (pa_cons (pv 2) pa_nil)) (pg_name (i := 6) scTels.nd rfl (.inl rfl))
        (pss_cons (ps_par (i := 7) (j := 8) (by rfl) scTels.nd rfl rfl (by decide) rfl rfl (pa_cons (pe_ix ix_list (pv 1) (pe_h hp hr (pa_cons (pv 0) (pa_cons (pe_callB call_len_seq (by rfl) B.len PySem.boot_len (pa_cons (pv 1) pa_nil)) pa_nil))) (fun _ _ => rfl)) (pa_cons (pe_ix ix_list (pe_lst (pa_cons pe_str (pa_cons pe_str (pa_cons pe_str (pa_cons pe_str (pa_cons pe_str pa_nil)))))) (pe_h hp hr (pa_cons (pv 0) (pa_cons pe_int pa_nil))) (fun _ _ => rfl)) pa_nil)) (by rfl))
        (pss_cons (ps_par (i := 9) (j := 10) (by rfl) scTels.nd rfl rfl (by decide) rfl rfl (pa_cons (pe_ix ix_list (pv 3) (pe_h hp hr (pa_cons (pv 0) (pa_cons pe_int pa_nil))) (fun _ _ => rfl)) (pa_cons (pe_ix ix_list (pe_lst (pa_cons pe_str (pa_cons pe_str (pa_cons pe_str (pa_cons pe_str pa_nil))))) (pe_h hp hr (pa_cons (pv 0) (pa_cons pe_int pa_nil))) (fun _ _ => rfl)) pa_nil)) (by rfl))
        (pss_cons (ps_set (i := 11) scTels.nd rfl (.inl rfl) (pe_ix ix_list (pe_lst (pa_cons pe_int (pa_cons pe_int (pa_cons pe_int (pa_cons (pe_h hp hr (pa_cons (pv 0) (pa_cons pe_int pa_nil))) (pa_cons (pe_h hp hr (pa_cons (pv 0) (pa_cons pe_int pa_nil))) pa_nil)))))) (pe_h hp hr (pa_cons (pv 0) (pa_cons pe_int pa_nil))) (fun _ _ => rfl)))
        (pss_cons (ps_par (i := 12) (j := 13) (by rfl) scTels.nd rfl rfl (by decide) rfl rfl (pa_cons (pe_ix ix_list (pe_lst (pa_cons pe_str (pa_cons pe_str (pa_cons pe_str pa_nil)))) (pe_h hp hr (pa_cons (pv 0) (pa_cons pe_int pa_nil))) (fun _ _ => rfl)) (pa_cons (pe_cmpR op_gt (pe_h hp hr (pa_cons (pv 0) (pa_cons pe_int pa_nil))) pe_int (nomark _)) pa_nil)) (by rfl))
        (pss_one (ps_if (pt_cmpR (op_notInD hu65) (pe_tup (pa_cons (pv 7) (pa_cons (pv 10) (pa_cons (pv 8) (pa_cons (pv 12) pa_nil))))) (pv 5) (by rfl)) (pss_cons (ps_expr (pe_bm PySem.F.plainAttrs_list PySem.F.slot_list_append PySem.F.type_list_append mt_append (pv 5) (pa_cons (pe_tup (pa_cons (pv 7) (pa_cons (pv 10) (pa_cons (pv 8) (pa_cons (pv 12) pa_nil))))) pa_nil))) (pss_one (ps_expr (pe_bm PySem.F.plainAttrs_list PySem.F.slot_list_append PySem.F.type_list_append mt_append (pv 4) (pa_cons (pe_tup (pa_cons (pv 7) (pa_cons (pv 8) (pa_cons (pv 9) (pa_cons (pv 10) (pa_cons (pv 11) (pa_cons (pv 12) (pa_cons (pv 13) pa_nil)))))))) pa_nil))))) pss_nil)))))))
      (pss_one (ps_ret (pv 4))))), ?_⟩
    refine ⟨_, rfl, a, rfl, hA, fun w1 H1 hw1 hA1 x1 => ⟨_, rfl, a, rfl, hA1, fun w2 H2 hw2 hA2 x2 => ⟨lz, fun S hS => ⟨lz, fun Fo hFo => ⟨lz, fun Ke hKe => ⟨_, _, rfl, ?_⟩⟩⟩⟩⟩⟩
    have hS2 : H2 S = none := hS
    have nSa : S ≠ a := hA2.ne hS
    have hS0 : H S = none := SameX.free (x1.trans x2) nSa hS
    have s3 := same_new (o := .lst [V.str "ab", V.str "bb", V.str "cb", V.str "ad", V.str "abc", V.str "abd", V.str "a", V.str "b", V.str "e", V.str "map", V.str w1, V.str w2]) hS
    have hS3 : upd H2 S (.lst [V.str "ab", V.str "bb", V.str "cb", V.str "ad", V.str "abc", V.str "abd", V.str "a", V.str "b", V.str "e", V.str "map", V.str w1, V.str w2]) S = some (.lst ((["ab", "bb", "cb", "ad", "abc", "abd", "a", "b", "e", "map", w1, w2] : List Str).map V.str)) := upd_same
    have hA3 := hA2.same s3
    have swd : ∀ z ∈ (["ab", "bb", "cb", "ad", "abc", "abd", "a", "b", "e", "map", w1, w2] : List Str), IsWd z := fun z hz => by
      simp only [List.mem_cons, List.not_mem_nil, or_false] at hz
      rcases hz with rfl | rfl | rfl | rfl | rfl | rfl | rfl | rfl | rfl | rfl | rfl | rfl
      all_goals first | exact hw1 | exact hw2 | decide +kernel
    have swl : (["ab", "bb", "cb", "ad", "abc", "abd", "a", "b", "e", "map", w1, w2] : List Str).length = 12 := rfl
    generalize upd H2 S (.lst [V.str "ab", V.str "bb", V.str "cb", V.str "ad", V.str "abc", V.str "abd", V.str "a", V.str "b", V.str "e", V.str "map", V.str w1, V.str w2]) = H3 at s3 hS3 hA3 hFo hKe
    generalize (["ab", "bb", "cb", "ad", "abc", "abd", "a", "b", "e", "map", w1, w2] : List Str) = sw at hS3 swd swl
    have x3 : SameX a H H3 := (x1.trans x2).trans (sx s3)
    have nFa : Fo ≠ a := hA3.ne hFo
    have hFo0 : H Fo = none := SameX.free x3 nFa hFo
    have nFS : S ≠ Fo := ne_of_none hS3 hFo
    have s4 := same_new (o := .lst []) hFo
    have hFo4 : upd H3 Fo (.lst []) Fo = some (.lst []) := upd_same
    generalize upd H3 Fo (.lst []) = H4 at s4 hFo4 hKe
    have hA4 := hA3.same s4
    have nKa : Ke ≠ a := hA4.ne hKe
    have x4 := x3.trans (sx s4)
    have hKe0 : H Ke = none := SameX.free x4 nKa hKe
    have nKF : Fo ≠ Ke := ne_of_none hFo4 hKe
    have nKS : S ≠ Ke := ne_of_none (s4 _ _ hS3) hKe
    have s5 := same_new (o := .lst []) hKe
    have hKe5 : upd H4 Ke (.lst []) Ke = some (.lst []) := upd_same
    generalize upd H4 Ke (.lst []) = H5 at s5 hKe5
    have I0 : TelI ws H H5 a S Fo Ke sw [] [] [] := ⟨hA4.same s5, x4.trans (sx s5), s5 _ _ (s4 _ _ hS3), s5 _ _ hFo4, hKe5, .nil, .nil, fun t ht => (List.not_mem_nil ht).elim, fun t ht => (List.not_mem_nil ht).elim, fun t ht => (List.not_mem_nil ht).elim, List.nodup_nil⟩
    refine ⟨_, rfl, (n : Int), rfl, by omega, by omega, for_range (lo := 0) (n := n) (fun i σ H' => (∃ y6 y7 y8 y9 y10 y11 y12 y13, σ = [some (.ref a), some (.ref Tw), some (.int (n : Int)), some (.ref S), some (.ref Fo), some (.ref Ke), y6, y7, y8, y9, y10, y11, y12, y13]) ∧ ∃ as ks ts, TelI ws H H' a S Fo Ke sw as ks ts ∧ ts.length ≤ i)
      ⟨⟨_, _, _, _, _, _, _, _, rfl⟩, _, _, _, I0, Nat.le_refl 0⟩ ?_ ?_⟩
    · rintro i σ H9 hi ⟨⟨y6, y7, y8, y9, y10, y11, y12, y13, rfl⟩, as, ks, ts, I, hl⟩
      have hA9 := I.pu
      have hTw9 := I.sx _ _ nTw hTw
      have lpos : 0 < ws.length := List.length_pos_iff.mpr hne
      refine ⟨_, rfl, _, rfl, _, rfl, Tw, _, rfl, .inl (.inl (.inl hTw9)), a, _, rfl, hA9, by rw [List.length_map]; omega, by rw [List.length_map]; omega, fun r10 H10 r100 r101 hA10 x10 _ => ?_⟩
      rw [List.length_map] at r101
      obtain ⟨z10, hzm10, hzi10⟩ := atI_strs (zs := ws) r100 r101
      refine ⟨Tw, _, r10, .str z10, rfl, rfl, .inl (.inl (x10 _ _ nTw hTw9)), hzi10, ?_⟩
      refine ⟨lz, fun tl11 htl11 => ?_⟩
      have sl11 := same_new (o := .lst [V.str "map", V.str "map", V.str "map", V.str "self", V.str "ab"]) htl11
      have ntl11 : tl11 ≠ a := hA10.ne htl11
      refine ⟨_, rfl, a, 5, rfl, hA10.same sl11, by decide, by decide, fun r11 H11 r110 r111 hA11 xx11 _ => ?_⟩
      have htl11' : H11 tl11 = some (.lst ((["map", "map", "map", "self", "ab"] : List Str).map V.str)) := xx11 _ _ ntl11 upd_same
      obtain ⟨z11, hzm11, hzi11⟩ := atI_strs (zs := (["map", "map", "map", "self", "ab"] : List Str)) r110 r111
      have x11 := x10.trans ((sx sl11).trans xx11)
      refine ⟨tl11, _, r11, .str z11, rfl, rfl, .inl (.inl htl11'), hzi11, ?_⟩
      refine ⟨_, _, rfl, ?_⟩
      refine ⟨_, rfl, _, rfl, a, 12, rfl, hA11, by decide, by decide, fun r12 H12 r120 r121 hA12 xx12 _ => ?_⟩
      have x12 := x11.trans xx12
      obtain ⟨z12, hzm12, hzi12⟩ := atI_strs (zs := sw) r120 (by rw [swl]; exact r121)
      refine ⟨S, _, r12, .str z12, rfl, rfl, .inl (.inl (x12 _ _ nSa I.says)), hzi12, ?_⟩
      refine ⟨lz, fun tl13 htl13 => ?_⟩
      have sl13 := same_new (o := .lst [V.str "kim", V.str "lee", V.str "self", V.str "no"]) htl13
      have ntl13 : tl13 ≠ a := hA12.ne htl13
      refine ⟨_, rfl, a, 4, rfl, hA12.same sl13, by decide, by decide, fun r13 H13 r130 r131 hA13 xx13 _ => ?_⟩
      have htl13' : H13 tl13 = some (.lst ((["kim", "lee", "self", "no"] : List Str).map V.str)) := xx13 _ _ ntl13 upd_same
      obtain ⟨z13, hzm13, hzi13⟩ := atI_strs (zs := (["kim", "lee", "self", "no"] : List Str)) r130 r131
      have x13 := x12.trans ((sx sl13).trans xx13)
      refine ⟨tl13, _, r13, .str z13, rfl, rfl, .inl (.inl htl13'), hzi13, ?_⟩
      refine ⟨_, _, rfl, ?_⟩
      refine ⟨_, rfl, a, 121, rfl, hA13, by decide, by decide, fun r14 H14 r140 r141 hA14 xx14 _ => ⟨_, rfl, a, 121, rfl, hA14, by decide, by decide, fun r15 H15 r150 r151 hA15 xx15 _ => ⟨lz, fun tl16 htl16 => ?_⟩⟩⟩
      have sl16 := same_new (o := .lst [V.int 0, V.int 120, V.int 60, V.int r14, V.int r15]) htl16
      have ntl16 : tl16 ≠ a := hA15.ne htl16
      refine ⟨_, rfl, a, 5, rfl, hA15.same sl16, by decide, by decide, fun r16 H16 r160 r161 hA16 xx16 _ => ?_⟩
      have htl16' : H16 tl16 = some (.lst (([0, 120, 60, r14, r15] : List Int).map V.int)) := xx16 _ _ ntl16 upd_same
      obtain ⟨n16, hzm16, hzi16⟩ := atI_tab (ns := ([0, 120, 60, r14, r15] : List Int)) r160 r161
      have x16 := ((x13.trans xx14).trans xx15).trans ((sx sl16).trans xx16)
      obtain ⟨ag, eag, lag⟩ : ∃ ag : Nat, n16 = (ag : Int) ∧ ag ≤ 120 := by
        refine ⟨n16.toNat, ?_, ?_⟩
        all_goals
          simp only [List.mem_cons, List.not_mem_nil, or_false] at hzm16
          omega
      subst eag
      refine ⟨tl16, _, r16, .int (ag : Int), rfl, rfl, .inl (.inl htl16'), hzi16, ?_⟩
      refine ⟨lz, fun tl17 htl17 => ?_⟩
      have sl17 := same_new (o := .lst [V.str "self", V.str "no", V.str "zed"]) htl17
      have ntl17 : tl17 ≠ a := hA16.ne htl17
      refine ⟨_, rfl, a, 3, rfl, hA16.same sl17, by decide, by decide, fun r17 H17 r170 r171 hA17 xx17 _ => ?_⟩
      have htl17' : H17 tl17 = some (.lst ((["self", "no", "zed"] : List Str).map V.str)) := xx17 _ _ ntl17 upd_same
      obtain ⟨z17, hzm17, hzi17⟩ := atI_strs (zs := (["self", "no", "zed"] : List Str)) r170 r171
      have x17 := x16.trans ((sx sl17).trans xx17)
      refine ⟨tl17, _, r17, .str z17, rfl, rfl, .inl (.inl htl17'), hzi17, ?_⟩
      refine ⟨_, rfl, a, 4, rfl, hA17, by decide, by decide, fun r18 H18 r180 r181 hA18 xx18 _ => ⟨_, _, rfl, rfl, _, _, rfl, ?_⟩⟩
      have x18 := x17.trans xx18
      have J := I.x hA18 x18 nSa nFa nKa
      have okt : OkT ⟨z10, z11, z12, z13, ag, z17, decide (r18 > 0)⟩ := ⟨hwd _ hzm10, by
          show IsWd z11
          simp only [List.mem_cons, List.not_mem_nil, or_false] at hzm11
          rcases hzm11 with rfl | rfl | rfl | rfl | rfl <;> decide +kernel, swd _ hzm12, by
          show IsWd z13
          simp only [List.mem_cons, List.not_mem_nil, or_false] at hzm13
          rcases hzm13 with rfl | rfl | rfl | rfl <;> decide +kernel, lag, by
          show IsWd z17
          simp only [List.mem_cons, List.not_mem_nil, or_false] at hzm17
          rcases hzm17 with rfl | rfl | rfl <;> decide +kernel⟩
      have ntl : z11.length ≤ 4 ∧ z13.length ≤ 4 := by
        simp only [List.mem_cons, List.not_mem_nil, or_false] at hzm13 hzm11
        refine ⟨?_, ?_⟩
        · rcases hzm11 with rfl | rfl | rfl | rfl | rfl <;> decide +kernel
        · rcases hzm13 with rfl | rfl | rfl | rfl <;> decide +kernel
      obtain ⟨t, et⟩ : ∃ t : Tel, t = ⟨z10, z11, z12, z13, ag, z17, decide (r18 > 0)⟩ := ⟨_, rfl⟩
      rw [← et] at okt
      have ekv : keyV t = [V.str z10, V.str z13, V.str z11, V.str z17] := by rw [et]; rfl
      have etv : telV t = [V.str z10, V.str z11, V.str z12, V.str z13, V.int (ag : Int), V.str z17, V.bl (decide (r18 > 0))] := by rw [et]; rfl
      refine ⟨_, rfl, _, rfl, _, rfl, _, rfl, lz, fun u hu => ?_⟩
      rw [← ekv]
      have su := same_new (o := .tup (keyV t)) hu
      have hu' : upd H18 u (.tup (keyV t)) u = some (.tup (keyV t)) := upd_same
      have Ju := J.x (J.pu.same su) (sx su) nSa nFa nKa
      generalize upd H18 u (.tup (keyV t)) = H19 at su hu' Ju
      have lks : ks.length = ts.length := J.keys.length
      have las : as.length = ts.length := J.tels.length
      refine ⟨_, rfl, .tuple ((keyS t).map .str), ts.map kD, .tup (.inl (.inl hu')) (dp_strs (keyS t)), .lst (.inl (.inl Ju.ke)) (dp_keys Ju.keys), shaped_strs okt.key, shaped_list (lay_keys I.ok) (by have := depth_keys ts; omega), _, rfl, ?_⟩
      rw [any_keys]
      refine not_b (fun e => ?_) (fun e => ?_)
      · have hnew := of_decide_eq_false e
        refine ⟨_, rfl, .inl ⟨rfl, _, .inl (.inl Ju.ke)⟩, _, rfl, _, rfl, _, rfl, _, rfl, lz, fun k hk => ?_⟩
        rw [← ekv]
        have sk := same_new (o := .tup (keyV t)) hk
        have hk' : upd H19 k (.tup (keyV t)) k = some (.tup (keyV t)) := upd_same
        have Jk := Ju.x (Ju.pu.same sk) (sx sk) nSa nFa nKa
        generalize upd H19 k (.tup (keyV t)) = H20 at sk hk' Jk
        refine ⟨Ke, _, _, rfl, rfl, Jk.ke, by rw [List.length_map]; exact small1000 (by omega), ?_⟩
        have tk1 : TupKeep H20 (upd H20 Ke (.lst (ks.map V.ref ++ [V.ref k]))) := tk_upd Jk.ke
        have hke1 : upd H20 Ke (.lst (ks.map V.ref ++ [V.ref k])) Ke = some (.lst ((ks ++ [k]).map V.ref)) := by
          rw [upd_same, List.map_append]
          rfl
        have hfo1 : upd H20 Ke (.lst (ks.map V.ref ++ [V.ref k])) Fo = some (.lst (as.map V.ref)) := by
          rw [upd_ne nKF]
          exact Jk.fo
        have hsa1 : upd H20 Ke (.lst (ks.map V.ref ++ [V.ref k])) S = some (.lst (sw.map V.str)) := by
          rw [upd_ne nKS]
          exact Jk.says
        have hpu1 : PurseAt (upd H20 Ke (.lst (ks.map V.ref ++ [V.ref k]))) a := by
          obtain ⟨y0, y1, y2, hy, hy1⟩ := Jk.pu
          exact ⟨y0, y1, y2, by rw [upd_ne nKa.symm]; exact hy, hy1⟩
        have x1' : SameX a H (upd H20 Ke (.lst (ks.map V.ref ++ [V.ref k]))) := sameX_mut Jk.sx hKe0
        have tl1 := Jk.tels.keep tk1
        have kk1 : KeysAt (upd H20 Ke (.lst (ks.map V.ref ++ [V.ref k]))) (ks ++ [k]) (ts ++ [t]) := Each.append (Jk.keys.keep tk1) (.cons (tk1 _ _ hk') .nil)
        generalize upd H20 Ke (.lst (ks.map V.ref ++ [V.ref k])) = H21 at hke1 hfo1 hsa1 hpu1 x1' tl1 kk1
        refine ⟨_, rfl, .inl ⟨rfl, _, .inl (.inl hfo1)⟩, _, rfl, _, rfl, _, rfl, _, rfl, _, rfl, _, rfl, _, rfl, lz, fun tp htp => ?_⟩
        rw [← etv]
        have st := same_new (o := .tup (telV t)) htp
        have htp' : upd H21 tp (.tup (telV t)) tp = some (.tup (telV t)) := upd_same
        generalize upd H21 tp (.tup (telV t)) = H22 at st htp'
        have hfo2 := st _ _ hfo1
        have tk2 : TupKeep H22 (upd H22 Fo (.lst (as.map V.ref ++ [V.ref tp]))) := tk_upd hfo2
        refine ⟨Fo, _, _, rfl, rfl, hfo2, by rw [List.length_map]; exact small1000 (by omega), ⟨_, _, _, _, _, _, _, _, rfl⟩, as ++ [tp], ks ++ [k], ts ++ [t], ⟨?_, ?_, ?_, ?_, ?_, ?_, ?_, ?_, ?_, ?_, ?_⟩, ?_⟩
        · obtain ⟨y0, y1, y2, hy, hy1⟩ := hpu1.same st
          exact ⟨y0, y1, y2, by rw [upd_ne nFa.symm]; exact hy, hy1⟩
        · exact sameX_mut (x1'.trans (sx st)) hFo0
        · rw [upd_ne nFS]
          exact st _ _ hsa1
        · rw [upd_same, List.map_append]
          rfl
        · rw [upd_ne nKF.symm]
          exact st _ _ hke1
        · exact Each.append ((tl1.keep (tk_same st)).keep tk2) (.cons (tk2 _ _ htp') .nil)
        · exact (kk1.keep (tk_same st)).keep tk2
        · intro z hz
          rcases List.mem_append.mp hz with hz | hz
          · exact I.ok z hz
          · rw [List.mem_singleton.mp hz]
            exact okt
        · intro z hz
          rcases List.mem_append.mp hz with hz | hz
          · exact I.vs z hz
          · rw [List.mem_singleton.mp hz, et]
            exact hzm10
        · intro z hz
          rcases List.mem_append.mp hz with hz | hz
          · exact I.tl z hz
          · rw [List.mem_singleton.mp hz, et]
            exact ntl
        · rw [List.map_append, List.nodup_append]
          refine ⟨I.nd, by simp, fun x hx y hy e => ?_⟩
          rw [List.map_singleton, List.mem_singleton] at hy
          rw [e, hy] at hx
          exact hnew hx
        · rw [List.length_append]
          simp only [List.length_cons, List.length_nil]
          omega
      · exact ⟨⟨_, _, _, _, _, _, _, _, rfl⟩, as, ks, ts, Ju, by omega⟩
    · rintro σ H9 ⟨⟨y6, y7, y8, y9, y10, y11, y12, y13, rfl⟩, as, ks, ts, I, hl⟩
      exact ⟨_, rfl, q Fo as ts H9 I.pu I.sx hFo0 I.fo I.tels I.ok I.vs I.tl I.nd hl⟩
end
end Wl



namespace Wl
open PySem PySem.Spec PyProof.Rows L2
abbrev sShown : Stmt := topS 76
/-- the tellings of a thing, by ages and sureness -/
def selOf (ts : List Tel) (z : Str) (lo hi : Nat) (b : Bool) : List Tel := ts.filter fun t => decide (t.th = z) && ((decide (lo ≤ t.age) && decide (t.age ≤ hi)) && decide (t.sure = b))
theorem sel_sure (ts : List Tel) (z : Str) (lo hi : Nat) : selOf ts z lo hi true = (shownOf ts z lo hi).filter fun t => t.sure := by
  unfold selOf shownOf
  rw [List.filter_filter]
  refine List.filter_congr fun t _ => ?_
  cases t.sure <;> simp
theorem sel_doubt (ts : List Tel) (z : Str) (lo hi : Nat) : selOf ts z lo hi false = (shownOf ts z lo hi).filter fun t => !t.sure := by
  unfold selOf shownOf
  rw [List.filter_filter]
  refine List.filter_congr fun t _ => ?_
  cases t.sure <;> simp
def vsOf (ts : List Tel) : List Str := keysOf (ts.map (·.v))
noncomputable def zsOf (chs : List Chg) (ts : List Tel) (y : Str) : List Str := keysOf ((ts.filter fun t => decide (t.v = y)).map fun t => mean chs t.wo)
noncomputable def agOf (chs : List Chg) (ts : List Tel) (y z : Str) : List Int := agesZ chs (ts.filter fun t => decide (t.v = y)) z
def TolI (H0 H : Hp) (d : Addr) (chs : List Chg) (ts : List Tel) : Prop := ∃ bd ad, ShI H0 H d (vsOf ts) bd (zsOf chs ts) ad (agOf chs ts)
theorem vs_snoc (ts : List Tel) (t : Tel) : vsOf (ts ++ [t]) = addK (vsOf ts) t.v := by
  unfold vsOf
  rw [List.map_append]
  exact keysOf_snoc _ _
theorem zs_snoc (chs : List Chg) (ts : List Tel) (t : Tel) (y : Str) : zsOf chs (ts ++ [t]) y = if y = t.v then addK (zsOf chs ts y) (mean chs t.wo) else zsOf chs ts y := by
  unfold zsOf
  rw [List.filter_append]
  by_cases c : y = t.v
  · rw [if_pos c, show ([t].filter fun t => decide (t.v = y)) = [t] by simp [c], List.map_append]
    exact keysOf_snoc _ _
  · rw [if_neg c, show ([t].filter fun t => decide (t.v = y)) = [] by simp [show ¬ t.v = y from fun e => c e.symm], List.append_nil]
theorem ag_snoc (chs : List Chg) (ts : List Tel) (t : Tel) (y z : Str) : agOf chs (ts ++ [t]) y z = agOf chs ts y z ++ (if y = t.v ∧ z = mean chs t.wo then [(t.age : Int)] else []) := by
  unfold agOf agesZ
  rw [List.filter_append, List.filter_append, List.map_append]
  congr 1
  by_cases c : y = t.v
  · by_cases c2 : z = mean chs t.wo
    · rw [if_pos ⟨c, c2⟩]
      simp [c, c2]
    · rw [if_neg fun e => c2 e.2]
      simp [c, show ¬ mean chs t.wo = z from fun e => c2 e.symm]
  · rw [if_neg fun e => c e.1]
    simp [show ¬ t.v = y from fun e => c e.symm]
theorem vs_none {chs : List Chg} {ts : List Tel} {y : Str} (h : y ∉ vsOf ts) : zsOf chs ts y = [] ∧ ∀ z, agOf chs ts y z = [] := by
  have e : (ts.filter fun t => decide (t.v = y)) = [] := by
    rw [List.filter_eq_nil_iff]
    intro t ht c
    refine h (mem_keysOf.mpr (List.mem_map.mpr ⟨t, ht, ?_⟩))
    simpa using c
  unfold zsOf agOf
  rw [e]
  exact ⟨rfl, fun z => rfl⟩
theorem zs_none {chs : List Chg} {ts : List Tel} {y z : Str} (h : z ∉ zsOf chs ts y) : agOf chs ts y z = [] := ages_none h
theorem zs_len (chs : List Chg) (ts : List Tel) (y : Str) : (zsOf chs ts y).length ≤ ts.length := by
  unfold zsOf
  refine Nat.le_trans (keysOf_len _) ?_
  rw [List.length_map]
  exact List.length_filter_le _ _
theorem ag_len (chs : List Chg) (ts : List Tel) (y z : Str) : (agOf chs ts y z).length ≤ ts.length := by
  unfold agOf agesZ
  rw [List.length_map]
  exact Nat.le_trans (List.length_filter_le _ _) (List.length_filter_le _ _)
theorem vs_len (ts : List Tel) : (vsOf ts).length ≤ ts.length := by
  unfold vsOf
  refine Nat.le_trans (keysOf_len _) ?_
  rw [List.length_map]
  exact Nat.le_refl _
/-- by_word found: the village there, its dict at b -/
def TolB (H0 H : Hp) (d b : Addr) (chs : List Chg) (ts : List Tel) (y0 : Str) : Prop := ∃ bd ad, ShI H0 H d (addK (vsOf ts) y0) bd (zsOf chs ts) ad (agOf chs ts) ∧ bd y0 = b
theorem inK (l : List Str) (y : Str) : y ∈ addK l y := by
  unfold addK
  split
  · assumption
  · simp
theorem TolI.old {H0 H : Hp} {d q : Addr} {chs : List Chg} {ts : List Tel} {y0 : Str} {bd : Str → Addr} {ad : Str → Str → Addr} (h : ShI H0 H d (vsOf ts) bd (zsOf chs ts) ad (agOf chs ts)) (hy : y0 ∈ vsOf ts) (hq : H q = none) : TolB H0 (upd H q (.dK [])) d (bd y0) chs ts y0 := by
  refine ⟨bd, ad, ?_, rfl⟩
  rw [show addK (vsOf ts) y0 = vsOf ts from if_pos hy]
  exact h.keep (same_new hq)
theorem TolI.new {H0 H : Hp} {d q : Addr} {chs : List Chg} {ts : List Tel} {y0 : Str} {bd : Str → Addr} {ad : Str → Str → Addr} (h : ShI H0 H d (vsOf ts) bd (zsOf chs ts) ad (agOf chs ts)) (hy : y0 ∉ vsOf ts) (hq : H q = none) : TolB H0 (upd (upd H q (.dK [])) d (.dK (putK (kvZ (fun y => V.ref (bd y)) (vsOf ts)) (Sum.inr y0 : Key) (V.ref q)))) d q chs ts y0 := by
  refine ⟨fun y => if y = y0 then q else bd y, ad, ?_, if_pos rfl⟩
  rw [show addK (vsOf ts) y0 = vsOf ts ++ [y0] from if_neg hy]
  refine (h.addB hy hq).congr (fun y m => ?_) fun y m z mz => rfl
  by_cases c : y = y0
  · rw [if_pos c, c]
    exact (vs_none hy).1
  · rw [if_neg c]
theorem TolB.app {H0 H : Hp} {d : Addr} {chs : List Chg} {ts : List Tel} {t : Tel} {bd : Str → Addr} {zs : Str → List Str} {ad : Str → Str → Addr} {ag : Str → Str → List Int} (h : ShI H0 H d (addK (vsOf ts) t.v) bd zs ad ag)
    (ez : ∀ y ∈ addK (vsOf ts) t.v, zs y = if y = t.v then addK (zsOf chs ts y) (mean chs t.wo) else zsOf chs ts y) (ea : ∀ y ∈ addK (vsOf ts) t.v, ∀ z ∈ zs y, ag y z = agOf chs ts y z) :
    TolI H0 (upd H (ad t.v (mean chs t.wo)) (.lst ((ag t.v (mean chs t.wo)).map V.int ++ [V.int (t.age : Int)]))) d chs (ts ++ [t]) := by
  have hy := inK (vsOf ts) t.v
  have hz : mean chs t.wo ∈ zs t.v := by
    rw [ez _ hy, if_pos rfl]
    exact inK _ _
  refine ⟨bd, ad, ?_⟩
  rw [vs_snoc]
  refine (h.app (n := (t.age : Int)) hy hz).congr (fun y m => ?_) fun y m z mz => ?_
  · rw [zs_snoc, ez y m]
  · rw [ag_snoc, ea y m z mz]
/-- a pair of a word and its sorted ages -/
def YrsAt (chs : List Chg) (ts : List Tel) (y : Str) (H : Hp) (D p : Addr) (u : Str) : Prop := ∃ (a : Addr) (ns : List Int), H p = some (.tup [V.str u, V.ref a]) ∧ H a = some (.lst (ns.map V.int)) ∧ a ≠ D ∧ ns.Perm (agOf chs ts y u) ∧ ns.Pairwise (· ≤ ·)
theorem YrsAt.same {chs : List Chg} {ts : List Tel} {y : Str} {H H' : Hp} {D p : Addr} {u : Str} (h : YrsAt chs ts y H D p u) (s : Same H H') : YrsAt chs ts y H' D p u := by
  obtain ⟨a, ns, h1, h2, h3⟩ := h
  exact ⟨a, ns, s _ _ h1, s _ _ h2, h3⟩
theorem YrsAt.upd {chs : List Chg} {ts : List Tel} {y : Str} {H : Hp} {D p : Addr} {u : Str} {xs zs : List V} (h : YrsAt chs ts y H D p u) (hD : H D = some (.lst xs)) : YrsAt chs ts y (L2.upd H D (.lst zs)) D p u := by
  obtain ⟨a, ns, h1, h2, h3, h4⟩ := h
  exact ⟨a, ns, by rw [upd_ne (ne_of h1 hD (by intro q; cases q))]; exact h1, by rw [upd_ne h3]; exact h2, h3, h4⟩
section
variable {P : Program} {w : World} {K : PySem.W.Frag} {mg : Str → Option Value} {base : Heap} {f C D W : Addr} {fd : FuncData}
abbrev psSho : List Str := ["_law_some", "_law_bends", "_law_item", "_law_low", "_law_high", "_law_firm"]
abbrev nSho : List Str := ["_law_some", "_law_bends", "_law_item", "_law_low", "_law_high", "_law_firm", "_law_found", "_law_row", "_law_by_word", "_law_told", "_law_town", "_law_rows", "_law_term", "_law_years"]
theorem scSho : FnScope nSho psSho (defScope sShown) := ⟨rfl, rfl, rfl, by decide +kernel, rfl, by decide +kernel, by decide +kernel⟩
theorem and_bb {b : Bool} {A B C : Prop} (h1 : b = true → A) (h2 : b = false → C) : if b = true then A else (if false = true then B else C) := by
  cases b
  · exact h2 rfl
  · exact h1 rfl
def spShown : Sp := fun vs H Q _ => ∃ (l S : Addr) (as : List Addr) (ts : List Tel) (chs : List Chg) (z : Str) (lo hi : Nat) (b : Bool), vs = [.ref l, .ref S, .str z, .int (lo : Int), .int (hi : Int), .bl b] ∧ H l = some (.lst (as.map V.ref)) ∧ TelsAt H as ts ∧ (∀ t ∈ ts, OkT t) ∧ ts.length ≤ 60 ∧ ChAt H S chs ∧ OkCs chs ∧
  ∀ (dd : Addr) (H' : Hp), H dd = none → Same H H' → ByV H' dd (vsOf (selOf ts z lo hi b)) chs (selOf ts z lo hi b) → Q (.ref dd) H'
theorem ok_shown (F : Fun K "_law_shown" "_law_shown" sShown f fd) (B : Bi mg) (hM : Has P w K mg base "_law_meaning" 2 ["_law_swaps", "_law_sound"] spLMean) : FnOk P w K mg base CX0 3 f fd psSho spShown := by
  refine F.ok scSho (fun vs H Q E h => ?_) (fun cdv A outer s H vs Q E hr h => ?_)
  · obtain ⟨l, S, as, ts, chs, z, lo, hi, b, rfl, _⟩ := h
    rfl
  · obtain ⟨l, S, as, ts, chs, z, lo, hi, b, rfl, hl, hT, hok, h60, hS, okc, q⟩ := h
    have hu := hu_of hr
    refine ⟨_, pss_cons (ps_set (i := 6) scSho.nd rfl (.inr rfl) pe_dnewK)
      (pss_cons (ps_for PassesOwn.never rfl (pi_list (pv 0)) (pg_name (i := 7) scSho.nd rfl (.inl rfl))
        (pss_one (ps_if (PW.pt (pw_and (pt_cmpR op_eq (pe_ix ix_tup (pv 7) pe_int (fun _ _ => rfl)) (pv 2) (nomark _)) (pw_and (pt_chain op_le op_le (pv 3) (pe_ix ix_tup (pv 7) pe_int (fun _ _ => rfl)) (pv 4)) (pw_and1 (pt_cmpR op_eq (pe_ix ix_tup (pv 7) pe_int (fun _ _ => rfl)) (pv 5) (nomark _))))))
          (C8.pss_cut (ps_set (i := 8) scSho.nd rfl (.inl rfl) (pe_dsetd (pv 6) (pe_ix ix_tup (pv 7) pe_int (fun _ _ => rfl)) pe_dnewK ⟨rfl, rfl, rfl, rfl⟩))
          (pss_one (ps_expr (pe_bm PySem.F.plainAttrs_list PySem.F.slot_list_append PySem.F.type_list_append mt_append (pe_dsetd (pv 8) (pe_h hM hr (pa_cons (pv 1) (pa_cons (pe_ix ix_tup (pv 7) pe_int (fun _ _ => rfl)) pa_nil))) (pe_lst pa_nil) ⟨rfl, rfl, rfl, rfl⟩) (pa_cons (pe_ix ix_tup (pv 7) pe_int (fun _ _ => rfl)) pa_nil))))) pss_nil)))
      (pss_cons (ps_set (i := 9) scSho.nd rfl (.inl rfl) pe_dnewK)
      (pss_cons (ps_lock (ps_for PassesOwn.never rfl (pi_keys (pv 6)) (pg_name (i := 10) scSho.nd rfl (.inr rfl))
        (pss_cons (ps_setLc (i := 11) (own := [("_law_term", 12)]) (g := gName 12) (tt := tYes) (te := tTup (tCons (tVar 12) (tCons (tCB (rSortedI K) (tCons (tDGet (tDGet (tVar 6) (tVar 10)) (tVar 12)) tNil)) tNil))) rfl scSho.nd rfl rfl (sw_true rfl rfl rfl (by decide +kernel))
          (pi_list (pe_callB (call_sortedD rfl) (by rfl) B.sorted (by decide +kernel) (pa_cons (pe_dget hu (pv 6) (pv 10) (fun _ _ => rfl)) pa_nil))) (blkOk_by (N := nSho) (sc := defScope sShown) (by decide +kernel)) (fun _ _ _ _ _ => pg_name (i := 12) scSho.nd rfl (.inl rfl)) (fun _ _ _ _ _ => pts_nil)
          (fun _ _ _ _ _ => pe_tup (pa_cons (pv 12) (pa_cons (pe_callB cr_sortedI (by rfl) B.sorted (by decide +kernel) (pa_cons (pe_dget hu (pe_dget hu (pv 6) (pv 10) (fun _ _ => rfl)) (pv 12) (fun _ _ => rfl)) pa_nil)) pa_nil))))
        (pss_one (ps_dput hu (pv 9) (pv 10) (pe_callTy call_tuple_of (by rfl) B.tuple (by decide +kernel) (pa_cons (pe_lc (own := [("_law_term", 12), ("_law_years", 13)]) (g := gTup K 2 (gCons (gName 12) (gCons (gName 13) gNil))) (tt := tYes)
          (te := tTup (tCons (tVar 12) (tCons (tOp (rIxL K) (tVar 13) (tC (.int 0))) (tCons (tOp (rIxL K) (tVar 13) (tUn (rU fun i => .int (-i)) (tC (.int 1)))) (tCons (tCB (fun xs H Q => ∃ p ys, xs = [.ref p] ∧ ((SqL K H p ys) ∨ SqT K H p ys) ∧ Q (.int ys.length) H) (tCons (tVar 13) tNil)) tNil))))) rfl scSho.nd (pi_list (pv 11)) (blkOk_by (N := nSho) (sc := defScope sShown) (by decide +kernel))
          (fun _ _ _ _ _ => pg_tup rfl (pgs_cons (pg_name (i := 12) scSho.nd rfl (.inl rfl)) (pgs_cons (pg_name (i := 13) scSho.nd rfl (.inl rfl)) pgs_nil))) (fun _ _ _ _ _ => pts_nil)
          (fun _ _ _ _ _ => pe_tup (pa_cons (pv 12) (pa_cons (pe_ix ix_list (pv 13) pe_int (fun _ _ => rfl)) (pa_cons (pe_ix ix_list (pv 13) (pe_un un_neg pe_int) (fun _ _ => rfl)) (pa_cons (pe_callB call_len_seq (by rfl) B.len PySem.boot_len (pa_cons (pv 13) pa_nil)) pa_nil)))))) pa_nil)) rfl)))))
      (pss_one (ps_ret (pv 9)))))), ?_⟩
    intro d hd
    have hlen : as.length = ts.length := hT.length
    have s0 : Same H (upd H d (.dK [])) := same_new hd
    refine ⟨_, rfl, l, rfl, ⟨_, .inl (.inl (s0 _ _ hl))⟩, for_list (K := K) (a := l) (xs := as.map V.ref) (fun i σ H' => (∃ y7 y8, σ = [some (.ref l), some (.ref S), some (.str z), some (.int (lo : Int)), some (.int (hi : Int)), some (.bl b), some (.ref d), y7, y8, none, none, none, none, none]) ∧ TolI H H' d chs (selOf (ts.take i) z lo hi b))
      ⟨⟨_, _, rfl⟩, _, _, ShI.start hd⟩ (fun i σ H' _ h => .inl (.inl (h.2.choose_spec.choose_spec.same _ _ hl))) ?_ ?_⟩
    · rintro i x σ H1 hx ⟨⟨y7, y8, rfl⟩, bd, ad, I1⟩
      rw [List.getElem?_map] at hx
      obtain ⟨pt, hpt, rfl⟩ := Option.map_eq_some_iff.mp hx
      obtain ⟨t, ht, hH⟩ := Each.get hT hpt
      have okt := hok t (List.mem_of_getElem? ht)
      have hi60 : i < 60 := by
        have := (List.getElem?_eq_some_iff.mp ht).1
        omega
      have hpt1 := I1.same _ _ hH
      have hS1 := hS.same I1.same
      have snoc : selOf (ts.take (i + 1)) z lo hi b = selOf (ts.take i) z lo hi b ++ (if decide (t.th = z) && ((decide (lo ≤ t.age) && decide (t.age ≤ hi)) && decide (t.sure = b)) then [t] else []) := filter_take_snoc ht
      have lsel : (selOf (ts.take i) z lo hi b).length < 60 := by
        have h1 := List.length_filter_le (fun t => decide (t.th = z) && ((decide (lo ≤ t.age) && decide (t.age ≤ hi)) && decide (t.sure = b))) (ts.take i)
        rw [List.length_take] at h1
        show (List.filter _ _).length < 60
        omega
      generalize selOf (ts.take i) z lo hi b = sel at I1 snoc lsel
      generalize selOf (ts.take (i + 1)) z lo hi b = sel2 at snoc ⊢
      have no : (decide (t.th = z) && ((decide (lo ≤ t.age) && decide (t.age ≤ hi)) && decide (t.sure = b))) = false → TolI H H1 d chs sel2 := fun e => by
        rw [e] at snoc
        simp only [Bool.false_eq_true, if_false, List.append_nil] at snoc
        rw [snoc]
        exact ⟨bd, ad, I1⟩
      refine ⟨_, rfl, pt, _, _, _, rfl, rfl, .inl (.inl hpt1), atI_nat (j := 1) rfl, _, rfl, rfl, _, rfl, ?_⟩
      rw [str_dec]
      refine and_bb (fun e1 => ?_) (fun e1 => ⟨⟨_, _, rfl⟩, no (by rw [e1]; rfl)⟩)
      have yes : decide (t.sure = b) = true → decide (lo ≤ t.age) = true → decide (t.age ≤ hi) = true → sel2 = sel ++ [t] := fun a1 a2 a3 => by
        rw [e1, a1, a2, a3] at snoc
        exact snoc
      refine ⟨_, rfl, _, rfl, pt, _, _, _, rfl, rfl, .inl (.inl hpt1), atI_nat (j := 4) rfl, _, _, rfl, rfl, _, rfl, ite_b (fun e2 => ?_) (fun e2 => ?_)⟩
      · refine ⟨_, rfl, _, _, rfl, rfl, _, rfl, ?_⟩
        have a2 : decide (lo ≤ t.age) = true := decide_eq_true (by have := of_decide_eq_true e2; omega)
        have e4 : decide ((t.age : Int) ≤ (hi : Int)) = decide (t.age ≤ hi) := by
          by_cases c : t.age ≤ hi
          · rw [decide_eq_true c, decide_eq_true (by omega)]
          · rw [decide_eq_false c, decide_eq_false (by omega)]
        rw [e4]
        refine and_bb (fun a3 => ?_) (fun a3 => ⟨⟨_, _, rfl⟩, no (by rw [e1, a2, a3]; rfl)⟩)
        refine ⟨_, rfl, pt, _, _, _, rfl, rfl, .inl (.inl hpt1), atI_nat (j := 6) rfl, _, rfl, rfl, _, rfl, ?_⟩
        have e5 : decide (V.bl t.sure = V.bl b) = decide (t.sure = b) := by
          cases t.sure <;> cases b <;> rfl
        rw [e5]
        refine ite_b (fun a1 => ?_) (fun a1 => ⟨⟨_, _, rfl⟩, no (by rw [e1, a2, a3, a1]; rfl)⟩)
        have yes := yes a1 a2 a3
        clear no snoc
        subst yes
        have hyl := vs_len sel
        refine ⟨fun σ H' => ∃ b0, σ = [some (.ref l), some (.ref S), some (.str z), some (.int (lo : Int)), some (.int (hi : Int)), some (.bl b), some (.ref d), some (.ref pt), some (.ref b0), none, none, none, none, none] ∧ TolB H H' d b0 chs sel t.v, ?_, ?_⟩
        · refine ⟨_, rfl, d, rfl, .inl ⟨_, .inl I1.dict⟩, ?_⟩
          refine ⟨_, rfl, pt, _, _, _, rfl, rfl, .inl (.inl hpt1), atI_nat (j := 0) rfl, fun q0 hq0 => ⟨_, Sum.inr t.v, same_new hq0 _ _ I1.dict, rfl, ?_, fun v hv => ?_, fun hn => ?_⟩⟩
          · rw [kvZ_len]
            exact small1000 (by omega)
          · by_cases m : t.v ∈ vsOf sel
            · rw [valV_in m] at hv
              cases hv
              exact ⟨_, rfl, TolI.old I1 m hq0⟩
            · rw [valV_out m] at hv
              cases hv
          · by_cases m : t.v ∈ vsOf sel
            · rw [valV_in m] at hn
              cases hn
            · exact ⟨_, rfl, TolI.new I1 m hq0⟩
        · rintro σ' H2 ⟨b0, rfl, bd2, ad2, I2, rfl⟩
          have hy := inK (vsOf sel) t.v
          have hpt2 := I2.same _ _ hH
          refine ⟨_, rfl, bd2 t.v, rfl, .inl ⟨_, .inl (I2.sub _ hy)⟩, ?_⟩
          refine ⟨_, rfl, _, rfl, pt, _, _, _, rfl, rfl, .inl (.inl hpt2), atI_nat (j := 2) rfl, S, chs, t.wo, rfl, hS.same I2.same, okc, okt.wo, fun H3 s3 => ?_⟩
          have I3 := I2.keep s3
          refine ⟨lz, fun L hL => ⟨_, Sum.inr (mean chs t.wo), same_new hL _ _ (I3.sub _ hy), rfl, ?_, fun v hv => ?_, fun hn => ?_⟩⟩
          · rw [kvZ_len]
            exact small1000 (by have := zs_len chs sel t.v; omega)
          · by_cases m : mean chs t.wo ∈ zsOf chs sel t.v
            · rw [valV_in m] at hv
              cases hv
              have I4 := I3.keep (same_new (o := .lst []) hL)
              have hag := I4.lst _ hy _ m
              refine ⟨.inl ⟨rfl, _, .inl (.inl hag)⟩, _, rfl, pt, _, _, _, rfl, rfl, .inl (.inl (I4.same _ _ hH)), atI_nat (j := 4) rfl, _, _, _, rfl, rfl, hag, ?_, ⟨_, _, rfl⟩, TolB.app I4 (fun y my => ?_) (fun y my z mz => rfl)⟩
              · rw [List.length_map]
                exact small1000 (by have := ag_len chs sel t.v (mean chs t.wo); omega)
              · by_cases c : y = t.v
                · rw [if_pos c, c]
                  exact (if_pos m).symm
                · rw [if_neg c]
            · rw [valV_out m] at hv
              cases hv
          · by_cases m : mean chs t.wo ∈ zsOf chs sel t.v
            · rw [valV_in m] at hn
              cases hn
            · have I4 := I3.addA hy m hL
              generalize upd (upd H3 L (.lst [])) (bd2 t.v) (.dK (putK (kvZ (fun z => V.ref (ad2 t.v z)) (zsOf chs sel t.v)) (Sum.inr (mean chs t.wo) : Key) (V.ref L))) = H4 at I4 ⊢
              have ez : ∀ y ∈ addK (vsOf sel) t.v, (if y = t.v then zsOf chs sel t.v ++ [mean chs t.wo] else zsOf chs sel y) = if y = t.v then addK (zsOf chs sel y) (mean chs t.wo) else zsOf chs sel y := fun y my => by
                by_cases c : y = t.v
                · rw [if_pos c, if_pos c, c]
                  exact (if_neg m).symm
                · rw [if_neg c, if_neg c]
              have ea : ∀ y z : Str, (if y = t.v then if z = mean chs t.wo then [] else agOf chs sel t.v z else agOf chs sel y z) = agOf chs sel y z := fun y z => by
                by_cases c : y = t.v
                · rw [if_pos c, c]
                  by_cases c2 : z = mean chs t.wo
                  · rw [if_pos c2, c2]
                    exact (zs_none m).symm
                  · rw [if_neg c2]
                · rw [if_neg c]
              have R := TolB.app (chs := chs) I4 ez (fun y my z mz => ea y z)
              have hz4 : mean chs t.wo ∈ (if t.v = t.v then zsOf chs sel t.v ++ [mean chs t.wo] else zsOf chs sel t.v) := by
                rw [if_pos rfl]
                simp
              have hag := I4.lst t.v hy (mean chs t.wo) hz4
              simp only [if_true] at hag R
              exact ⟨.inl ⟨rfl, _, .inl (.inl hag)⟩, _, rfl, pt, _, _, _, rfl, rfl, .inl (.inl (I4.same _ _ hH)), atI_nat (j := 4) rfl, _, _, _, rfl, rfl, hag, by show 0 < sizeLine; decide, ⟨_, _, rfl⟩, R⟩
      · have a2 : decide (lo ≤ t.age) = false := decide_eq_false (by have := of_decide_eq_false e2; omega)
        exact ⟨false, rfl, ⟨_, _, rfl⟩, no (by rw [e1, a2]; rfl)⟩
    · rintro σ H1 ⟨⟨y7, y8, rfl⟩, bd, ad, I1⟩
      rw [List.length_map, hlen, List.take_length] at I1
      have lsel : (selOf ts z lo hi b).length ≤ 60 := Nat.le_trans (List.length_filter_le _ _) h60
      generalize selOf ts z lo hi b = sel at I1 q lsel
      intro dd hdd
      have ndd : dd ≠ d := fun e => by
        rw [e, I1.dict] at hdd
        cases hdd
      refine ⟨d, _, same_new hdd _ _ I1.dict, trivial, fun od => ?_⟩
      obtain ⟨Hb, hHb⟩ : ∃ Hb, upd H1 d (.frz od (.dK (kvZ (fun y => .ref (bd y)) (vsOf sel)))) = Hb := ⟨_, rfl⟩
      have unl : ∀ H', Same Hb H' → Same H1 (upd H' d (.dK (kvZ (fun y => .ref (bd y)) (vsOf sel)))) := fun H' s' => unlock_as I1.dict (by rw [hHb]; exact s')
      have hfz : Hb d = some (.frz od (.dK (kvZ (fun y => .ref (bd y)) (vsOf sel)))) := by rw [← hHb]; exact upd_same
      have hbo : ∀ p, p ≠ d → Hb p = H1 p := fun p n => by rw [← hHb]; exact upd_ne n
      have hbd : Hb dd = none := by rw [hbo _ ndd]; exact hdd
      have hsub : ∀ y ∈ vsOf sel, Hb (bd y) = some (.dK (kvZ (fun z => .ref (ad y z)) (zsOf chs sel y))) := fun y hy => by rw [hbo _ (I1.nd y hy)]; exact I1.sub y hy
      have hlst : ∀ y ∈ vsOf sel, ∀ z ∈ zsOf chs sel y, Hb (ad y z) = some (.lst ((agOf chs sel y z).map V.int)) := fun y hy z hz => by
        rw [hbo _ (ne_of (I1.lst y hy z hz) I1.dict (by intro q; cases q))]
        exact I1.lst y hy z hz
      have s3 : Same Hb (upd (upd H1 dd (.dK [])) d (.frz od (.dK (kvZ (fun y => .ref (bd y)) (vsOf sel))))) := fun p o e => by
        by_cases c : p = d
        · rw [c, hfz] at e
          rw [c, upd_same]
          exact e
        · rw [upd_ne c]
          rw [hbo _ c] at e
          exact same_new hdd _ _ e
      have h3dd : upd (upd H1 dd (.dK [])) d (.frz od (.dK (kvZ (fun y => .ref (bd y)) (vsOf sel)))) dd = some (.dK []) := by
        rw [upd_ne ndd, upd_same]
      generalize upd (upd H1 dd (.dK [])) d (.frz od (.dK (kvZ (fun y => .ref (bd y)) (vsOf sel)))) = H3 at s3 h3dd
      refine ⟨_, rfl, d, od, rfl, .inl ⟨_, s3 _ _ hfz, for_it (walk_kz (d := d) (o := od) (ad := fun y => .ref (bd y)) (nms := vsOf sel)) (fun i σ H' => (∃ y7 y8 y10 y11, σ = [some (.ref l), some (.ref S), some (.str z), some (.int (lo : Int)), some (.int (hi : Int)), some (.bl b), some (.ref d), y7, y8, some (.ref dd), y10, y11, none, none]) ∧ Same Hb H' ∧ ByV H' dd ((vsOf sel).take i) chs sel)
        ⟨⟨_, _, _, _, rfl⟩, s3, fun _ => 0, h3dd, fun y hy => by simp at hy⟩ (fun i σ H' _ h => h.2.1 _ _ hfz) ?_ ?_⟩⟩
      · rintro i x σ H4' H4 hi ⟨⟨y7, y8, y10, y11, rfl⟩, s4, td, hd4, hR4⟩ ⟨rfl, hx⟩
        rw [List.getElem?_map] at hx
        obtain ⟨y, hy2, rfl⟩ := Option.map_eq_some_iff.mp hx
        have hy := List.mem_of_getElem? hy2
        have lz' := zs_len chs sel y
        refine ⟨_, rfl, _, rfl, d, _, rfl, dget_fz (s4 _ _ hfz) hy, bd y, _, zsOf chs sel y, rfl, .inl (s4 _ _ (hsub y hy)), ?_, by omega, fun ys p hp hs nP => ?_⟩
        · unfold kvZ
          rw [List.map_map]
          rfl
        have eys : ys = sortS (zsOf chs sel y) := sortedS_is (keysOf_nodup _) hp hs
        subst eys
        have s5 := same_new (o := .lst ((sortS (zsOf chs sel y)).map V.str)) nP
        have hp5 : upd H4 p (.lst ((sortS (zsOf chs sel y)).map V.str)) p = some (.lst ((sortS (zsOf chs sel y)).map V.str)) := upd_same
        generalize upd H4 p (.lst ((sortS (zsOf chs sel y)).map V.str)) = H5 at s5 hp5
        have lzz : (sortS (zsOf chs sel y)).length ≤ 60 := by
          rw [sortS_len]
          omega
        have mzz : ∀ u ∈ sortS (zsOf chs sel y), u ∈ zsOf chs sel y := fun u hu => mem_sortS.mp hu
        have ewd : wordsIn chs (sel.filter fun t => decide (t.v = y)) = sortS (zsOf chs sel y) := rfl
        have s45 := s4.trans s5
        refine ⟨p, rfl, ⟨_, .inl (.inl hp5)⟩, fun D hD => ?_⟩
        refine lc_it (walk_list (K := K) (a := p) (xs := (sortS (zsOf chs sel y)).map V.str)) (fun i H' => Same H5 H' ∧ ∃ as : List Addr, H' D = some (.lst (as.map V.ref)) ∧ Each (YrsAt chs sel y H' D) as ((sortS (zsOf chs sel y)).take i)) ⟨same_new hD, [], upd_same, .nil⟩ (fun i H' _ h => .inl (.inl (h.1 _ _ hp5))) ?_ ?_
        · rintro j x H6' H6 hj ⟨s6, as6, hD6, hE6⟩ ⟨rfl, hx⟩
          rw [List.getElem?_map] at hx
          obtain ⟨u, hu2, rfl⟩ := Option.map_eq_some_iff.mp hx
          have hu := mzz u (List.mem_of_getElem? hu2)
          have s06 := s45.trans s6
          refine ⟨rfl, yes_it ⟨_, rfl, _, rfl, _, rfl, d, _, rfl, dget_fz (s06 _ _ hfz) hy, _, rfl, bd y, _, rfl, ?_, ad y u, agOf chs sel y u, rfl, .inl (.inl (s06 _ _ (hlst y hy u hu))), fun ns a hpm hsr na => ⟨lz, fun tp ntp => ?_⟩⟩⟩
          · have := DGet.k (k := Sum.inr u) (s06 _ _ (hsub y hy))
            rw [valV_in hu] at this
            exact this
          · have s7 := (same_new (o := .lst (ns.map V.int)) na).trans (same_new (o := .tup [V.str u, V.ref a]) ntp)
            have naD : a ≠ D := fun e => by
              rw [e, hD6] at na
              cases na
            have nat : a ≠ tp := fun e => by
              rw [← e, upd_same] at ntp
              cases ntp
            have ha7 : upd (upd H6 a (.lst (ns.map V.int))) tp (.tup [V.str u, V.ref a]) a = some (.lst (ns.map V.int)) := by
              rw [upd_ne nat, upd_same]
            have ht7 : upd (upd H6 a (.lst (ns.map V.int))) tp (.tup [V.str u, V.ref a]) tp = some (.tup [V.str u, V.ref a]) := upd_same
            have hD7 := s7 _ _ hD6
            generalize upd (upd H6 a (.lst (ns.map V.int))) tp (.tup [V.str u, V.ref a]) = H7 at s7 ha7 ht7 hD7
            refine ⟨_, hD7, ?_, same_mut (s6.trans s7) hD, as6 ++ [tp], by rw [upd_same, List.map_append]; rfl, ?_⟩
            · rw [List.length_map, hE6.length, List.length_take]
              exact small1000 (by omega)
            · rw [take_snoc hu2]
              refine Each.append (hE6.mono fun p' u' e => (e.same s7).upd hD7) (.cons ?_ .nil)
              exact YrsAt.upd ⟨a, ns, ht7, ha7, naD, hpm, hsr⟩ hD7
        · rintro H6 ⟨s6, as6, hD6, hE6⟩
          rw [List.length_map, List.take_length] at hE6
          have s06 := s45.trans s6
          refine ⟨_, rfl, D, rfl, ⟨_, .inl (.inl hD6)⟩, fun E' hE' => ?_⟩
          refine lc_it (walk_list (K := K) (a := D) (xs := as6.map V.ref)) (fun i H' => Same H6 H' ∧ ∃ bs : List Addr, H' E' = some (.lst (bs.map V.ref)) ∧ Each (fun p u => H' p = some (.tup [.str u, .int (lowZ chs (sel.filter fun t => decide (t.v = y)) u), .int (highZ chs (sel.filter fun t => decide (t.v = y)) u), .int ((agesZ chs (sel.filter fun t => decide (t.v = y)) u).length : Nat)])) bs ((sortS (zsOf chs sel y)).take i)) ⟨same_new hE', [], upd_same, .nil⟩ (fun i H' _ h => .inl (.inl (h.1 _ _ hD6))) ?_ ?_
          · rintro j x H7' H7 hj ⟨s7, bs7, hE7, hB7⟩ ⟨rfl, hx⟩
            rw [List.getElem?_map] at hx
            obtain ⟨pu, hpu, rfl⟩ := Option.map_eq_some_iff.mp hx
            obtain ⟨u, hu2, a, ns, h1, h2, h3, h4, h5⟩ := Each.get hE6 hpu
            have hu := mzz u (List.mem_of_getElem? hu2)
            have hne : agOf chs sel y u ≠ [] := by
              intro e
              obtain ⟨t, ht, et⟩ := List.mem_map.mp (mem_keysOf.mp hu)
              have : (t.age : Int) ∈ agOf chs sel y u := List.mem_map.mpr ⟨t, List.mem_filter.mpr ⟨ht, by simpa using et⟩, rfl⟩
              rw [e] at this
              cases this
            obtain ⟨k1, k2⟩ := srt_ends h4 h5 hne
            have k3 : (ns.map V.int).length = (agOf chs sel y u).length := by rw [List.length_map, h4.length_eq]
            have h1' := s7 _ _ h1
            have h2' : SqL K H7 a (ns.map V.int) := .inl (.inl (s7 _ _ h2))
            refine ⟨pu, _, rfl, .inl (.inl h1'), rfl, _, _, rfl, _, _, rfl, rfl, rfl, yes_it ⟨_, rfl, _, rfl, a, _, _, _, rfl, rfl, h2', k1, _, rfl, 1, rfl, a, _, _, _, rfl, rfl, h2', k2, _, rfl, a, _, rfl, .inl h2', lz, fun tp ntp => ?_⟩⟩
            rw [k3]
            have s8 := same_new (o := .tup [V.str u, V.int ((agOf chs sel y u).min?.getD 0), V.int ((agOf chs sel y u).max?.getD 0), V.int ((agOf chs sel y u).length : Nat)]) ntp
            have hE8 := s8 _ _ hE7
            refine ⟨_, hE8, ?_, same_mut (s7.trans s8) hE', bs7 ++ [tp], by rw [upd_same, List.map_append]; rfl, ?_⟩
            · rw [List.length_map, hB7.length, List.length_take]
              exact small1000 (by omega)
            · rw [take_snoc hu2]
              have tk8 : ∀ {zs : List V}, TupKeep (upd H7 tp (.tup [V.str u, V.int ((agOf chs sel y u).min?.getD 0), V.int ((agOf chs sel y u).max?.getD 0), V.int ((agOf chs sel y u).length : Nat)])) (upd (upd H7 tp (.tup [V.str u, V.int ((agOf chs sel y u).min?.getD 0), V.int ((agOf chs sel y u).max?.getD 0), V.int ((agOf chs sel y u).length : Nat)])) E' (.lst zs)) := fun p' xs e => by
                rw [upd_ne (ne_of e hE8 (by intro q; cases q))]
                exact e
              exact Each.append (hB7.mono fun p' u' e => tk8 _ _ (s8 _ _ e)) (.cons (tk8 _ _ upd_same) .nil)
          · rintro H7 ⟨s7, bs7, hE7, hB7⟩
            have e60 : as6.length = (sortS (zsOf chs sel y)).length := hE6.length
            rw [List.length_map, e60, List.take_length] at hB7
            have s07 := s06.trans s7
            refine ⟨E', _, rfl, .inl ⟨.inl (.inl hE7), fun t nt => ?_⟩⟩
            have s8 := same_new (o := .tup (bs7.map V.ref)) nt
            have ht8 : upd H7 t (.tup (bs7.map V.ref)) t = some (.tup (bs7.map V.ref)) := upd_same
            have R8 : RowsT (upd H7 t (.tup (bs7.map V.ref))) t chs (sel.filter fun t => decide (t.v = y)) := ⟨bs7, ht8, by rw [ewd]; exact hB7.mono fun p' u' e => s8 _ _ e⟩
            have hd8 := s8 _ _ (s7 _ _ (s6 _ _ (s5 _ _ hd4)))
            have s48 := ((s5.trans s6).trans s7).trans s8
            generalize upd H7 t (.tup (bs7.map V.ref)) = H8 at s8 R8 hd8 s48
            refine ⟨_, rfl, _, rfl, dd, _, rfl, DPut.k (k := Sum.inr y) hd8 ?_, ⟨_, _, _, _, rfl⟩, same_mut (s4.trans s48) hbd, ?_⟩
            · rw [kvZ_len, List.length_take]
              exact small1000 (by have := vs_len sel; omega)
            · have hyn : y ∉ (vsOf sel).take i := fun hm => by
                obtain ⟨j, hj, ej⟩ := List.mem_iff_getElem.mp hm
                rw [List.length_take] at hj
                rw [List.getElem_take] at ej
                obtain ⟨hi2, ei⟩ := List.getElem?_eq_some_iff.mp hy2
                have := (List.getElem_inj (keysOf_nodup _)).mp (ej.trans ei.symm)
                omega
              have tk9 : ∀ {o : HO}, TupKeep H8 (upd H8 dd o) := tk_updD hd8
              refine ⟨fun u => if u = y then t else td u, ?_, fun u hu => ?_⟩
              · rw [take_snoc hy2, kvZ_put hyn]
                exact upd_same
              · rw [take_snoc hy2] at hu
                by_cases c : u = y
                · simp only [if_pos c]
                  rw [c]
                  exact R8.keep tk9
                · simp only [if_neg c]
                  exact ((hR4 u (mem_old hu c)).keep (tk_same s48)).keep tk9
      · rintro σ H4 ⟨⟨y7, y8, y10, y11, rfl⟩, s4, hB⟩
        refine ⟨s4 _ _ hfz, ?_⟩
        rw [List.length_map, List.take_length] at hB
        obtain ⟨td, hd4, hR4⟩ := hB
        have su := unl H4 s4
        have tku : TupKeep H4 (upd H4 d (.dK (kvZ (fun y => .ref (bd y)) (vsOf sel)))) := fun p xs e => by
          rw [upd_ne (ne_of e (s4 _ _ hfz) (by intro q; cases q))]
          exact e
        exact ⟨_, rfl, q dd _ (I1.same.free hdd) (I1.same.trans su) ⟨td, by rw [upd_ne ndd]; exact hd4, fun y hy => (hR4 y hy).keep tku⟩⟩
end
end Wl


namespace Wl
open PySem PySem.Spec PyProof.Rows L2
section
variable {K : PySem.W.Frag}
def chD (ch : Chg) : PyData := .tuple [.str (sign ch.1), .str (sign ch.2.1), .str (whS ch.2.2)]
theorem dp_chs {H : Hp} : ∀ {as : List Addr} {chs : List Chg}, Each (fun (p : Addr) (ch : Chg) => H p = some (.tup (chV ch))) as chs → DpAll K H (as.map V.ref) (chs.map chD)
  | _, _, .nil => .nil
  | _, _, .cons e r => .cons (.tup (.inl (.inl e)) (.cons (.str _) (.cons (.str _) (.cons (.str _) .nil)))) (dp_chs r)
theorem dp_changes {H : Hp} {S : Addr} {chs : List Chg} (h : ChAt H S chs) : Dp K H (.ref S) (.tuple (chs.map chD)) := by
  obtain ⟨as, h1, h2⟩ := h
  exact .tup (.inl (.inl h1)) (dp_chs h2)
theorem depth_chs : ∀ chs : List Chg, PyData.depthAll (chs.map chD) ≤ 1
  | [] => by simp [PyData.depthAll]
  | p :: r => by
    have := depth_chs r
    simp only [List.map_cons, PyData.depthAll, chD, PyData.depth]
    omega
theorem chs_nil (chs : List Chg) : PyData.eqv (.tuple (chs.map chD)) (.tuple []) = chs.isEmpty := by
  cases chs with
  | nil => simp [PyData.eqv, PyData.eqvAll]
  | cons a r => simp [PyData.eqv, PyData.eqvAll]
theorem lay_chs : ∀ {chs : List Chg}, (∀ ch ∈ chs, OkC ch) → PyData.canLayAll0 (chs.map chD) = true
  | [], _ => by simp [PyData.canLayAll0]
  | ch :: r, h => by
    obtain ⟨h1, h2, h3⟩ := h ch List.mem_cons_self
    have ih := lay_chs (chs := r) fun y hy => h y (List.mem_cons_of_mem _ hy)
    have e3 : PyData.strOk (whS ch.2.2) = true := by
      cases ch.2.2 <;> decide +kernel
    simp [PyData.canLayAll0, chD, PyData.canLay0, wd_ok (sign_wd h1), wd_ok (sign_wd h2), e3, ih]
theorem shaped_chs {chs : List Chg} (h : OkCs chs) : SeqAt.shaped (.tuple (chs.map chD)) = true := shaped_tuple (lay_chs h.2) (by have := depth_chs chs; omega)
end
/-! the five ways to make a map -/
def gMkA {α : Type} : List α → List α → List α → List α
  | [s], [_, _, _], [m, l, c, t, g] => [s, g, t, c, l, m]
  | _, _, _ => []
theorem gMkA_rel {vs ds zs : List V} {us its ws : List Value} (r1 : Vals vs us) (r2 : Vals ds its) (r3 : Vals zs ws) : Vals (gMkA vs ds zs) (gMkA us its ws) := by
  rcases r1 with _ | ⟨a1, _ | ⟨_, _⟩⟩
  all_goals first | exact .nil | skip
  rcases r2 with _ | ⟨b1, _ | ⟨b2, _ | ⟨b3, _ | ⟨_, _⟩⟩⟩⟩
  all_goals first | exact .nil | skip
  rcases r3 with _ | ⟨c1, _ | ⟨c2, _ | ⟨c3, _ | ⟨c4, _ | ⟨c5, _ | ⟨_, _⟩⟩⟩⟩⟩⟩
  all_goals first | exact .nil | exact .cons a1 (.cons c5 (.cons c4 (.cons c3 (.cons c2 (.cons c1 .nil)))))
def gMkB {α : Type} : List α → List α → List α → List α
  | [s, g, t, c], [_, l, _], [m] => [s, g, t, c, l, m]
  | _, _, _ => []
theorem gMkB_rel {vs ds zs : List V} {us its ws : List Value} (r1 : Vals vs us) (r2 : Vals ds its) (r3 : Vals zs ws) : Vals (gMkB vs ds zs) (gMkB us its ws) := by
  rcases r1 with _ | ⟨a1, _ | ⟨a2, _ | ⟨a3, _ | ⟨a4, _ | ⟨_, _⟩⟩⟩⟩⟩
  all_goals first | exact .nil | skip
  rcases r2 with _ | ⟨b1, _ | ⟨b2, _ | ⟨b3, _ | ⟨_, _⟩⟩⟩⟩
  all_goals first | exact .nil | skip
  rcases r3 with _ | ⟨c1, _ | ⟨_, _⟩⟩
  all_goals first | exact .nil | exact .cons a1 (.cons a2 (.cons a3 (.cons a4 (.cons b2 (.cons c1 .nil)))))
def gMkD {α : Type} : List α → List α → List α → List α
  | [s, g, t, c], [_, _, m], [l] => [s, g, t, c, l, m]
  | _, _, _ => []
theorem gMkD_rel {vs ds zs : List V} {us its ws : List Value} (r1 : Vals vs us) (r2 : Vals ds its) (r3 : Vals zs ws) : Vals (gMkD vs ds zs) (gMkD us its ws) := by
  rcases r1 with _ | ⟨a1, _ | ⟨a2, _ | ⟨a3, _ | ⟨a4, _ | ⟨_, _⟩⟩⟩⟩⟩
  all_goals first | exact .nil | skip
  rcases r2 with _ | ⟨b1, _ | ⟨b2, _ | ⟨b3, _ | ⟨_, _⟩⟩⟩⟩
  all_goals first | exact .nil | skip
  rcases r3 with _ | ⟨c1, _ | ⟨_, _⟩⟩
  all_goals first | exact .nil | exact .cons a1 (.cons a2 (.cons a3 (.cons a4 (.cons c1 (.cons b3 .nil)))))
def gMkE {α : Type} : List α → List α → List α → List α
  | [s, g, t], [c, _, _], [l, m] => [s, g, t, c, l, m]
  | _, _, _ => []
theorem gMkE_rel {vs ds zs : List V} {us its ws : List Value} (r1 : Vals vs us) (r2 : Vals ds its) (r3 : Vals zs ws) : Vals (gMkE vs ds zs) (gMkE us its ws) := by
  rcases r1 with _ | ⟨a1, _ | ⟨a2, _ | ⟨a3, _ | ⟨_, _⟩⟩⟩⟩
  all_goals first | exact .nil | skip
  rcases r2 with _ | ⟨b1, _ | ⟨b2, _ | ⟨b3, _ | ⟨_, _⟩⟩⟩⟩
  all_goals first | exact .nil | skip
  rcases r3 with _ | ⟨c1, _ | ⟨c2, _ | ⟨_, _⟩⟩⟩
  all_goals first | exact .nil | exact .cons a1 (.cons a2 (.cons a3 (.cons b1 (.cons c1 (.cons c2 .nil)))))
section
variable {P : Program} {w : World} {K : PySem.W.Frag} {mg : Str → Option Value} {base : Heap} {f C D W : Addr} {fd : FuncData}
theorem mi_b4 (F : FunI K f fd) : ∃ ds, Vals [V.int 0, V.int 120] ds ∧ Binds K fd psMI ds :=
  F.binds1 (ps := psMI) 4 1 (by simp) rfl (fun T kV doc pm an cdv ct us its l1 l2 => by
      match us, its, l1, l2 with
      | [_, _, _, _], [_, _, _], _, _ => exact ⟨_, rfl, rfl⟩)
theorem mi_b5 (F : FunI K f fd) : ∃ ds, Vals [V.int 120] ds ∧ Binds K fd psMI ds :=
  F.binds1 (ps := psMI) 5 2 (by simp) rfl (fun T kV doc pm an cdv ct us its l1 l2 => by
      match us, its, l1, l2 with
      | [_, _, _, _, _], [_, _, _], _, _ => exact ⟨_, rfl, rfl⟩)
theorem mi_b6 (F : FunI K f fd) : Binds K fd psMI [] := by
  obtain ⟨ds, h1, h2⟩ := F.binds1 (ps := psMI) 6 3 (by simp) rfl (fun T kV doc pm an cdv ct us its l1 l2 => by
      match us, its, l1, l2 with
      | [_, _, _, _, _, _], [_, _, _], _, _ => exact ⟨_, rfl, rfl⟩)
  cases h1
  exact h2
theorem mi_kA (F : FunI K f fd) : ∃ its : List Value, KBn K fd psMI 1 ["most", "least", "changes", "thing", "gathering"] (fun us ws => gMkA us its ws) (fun vs zs => gMkA vs [.non, .int 0, .int 120] zs) :=
  F.kbindsD 1 _ gMkA (by simp) gMkA_rel (fun T kV doc pm an cdv ct us its ws l1 l2 l3 => by
      match us, its, ws, l1, l2, l3 with
      | [_], [_, _, _], [_, _, _, _, _], _, _, _ => exact ⟨_, rfl, rfl⟩)
theorem mi_kB (F : FunI K f fd) : ∃ its : List Value, KBn K fd psMI 4 ["most"] (fun us ws => gMkB us its ws) (fun vs zs => gMkB vs [.non, .int 0, .int 120] zs) :=
  F.kbindsD 4 _ gMkB (by simp) gMkB_rel (fun T kV doc pm an cdv ct us its ws l1 l2 l3 => by
      match us, its, ws, l1, l2, l3 with
      | [_, _, _, _], [_, _, _], [_], _, _, _ => exact ⟨_, rfl, rfl⟩)
theorem mi_kD (F : FunI K f fd) : ∃ its : List Value, KBn K fd psMI 4 ["least"] (fun us ws => gMkD us its ws) (fun vs zs => gMkD vs [.non, .int 0, .int 120] zs) :=
  F.kbindsD 4 _ gMkD (by simp) gMkD_rel (fun T kV doc pm an cdv ct us its ws l1 l2 l3 => by
      match us, its, ws, l1, l2, l3 with
      | [_, _, _, _], [_, _, _], [_], _, _, _ => exact ⟨_, rfl, rfl⟩)
theorem mi_kE (F : FunI K f fd) : ∃ its : List Value, KBn K fd psMI 3 ["least", "most"] (fun us ws => gMkE us its ws) (fun vs zs => gMkE vs [.non, .int 0, .int 120] zs) :=
  F.kbindsD 3 _ gMkE (by simp) gMkE_rel (fun T kV doc pm an cdv ct us its ws l1 l2 l3 => by
      match us, its, ws, l1, l2, l3 with
      | [_, _, _], [_, _, _], [_, _], _, _, _ => exact ⟨_, rfl, rfl⟩)
def HasW (P : Program) (w : World) (K : PySem.W.Frag) (mg : Str → Option Value) (base : Heap) (C D W : Addr) : Prop := ∃ f fd, Mk K W f ∧ FnOk P w K mg base CX0 8 f fd psMI (spMI C D W) ∧ FunI K f fd
/-- a map of these tellings -/
def MapOf (C W : Addr) (H : Hp) (p : Addr) (rg : GR) (z : Str) (chs : List Chg) (lo hi : Nat) : Prop := ∃ S d a b : Addr, MapAt C W H p ⟨rg.pl, rg.L, S, d, rg.g, z, chs, saidOf chs rg.ts z lo hi⟩ ∧ MapX C W H p ⟨rg.pl, rg.L, S, d, rg.g, z, chs, saidOf chs rg.ts z lo hi⟩ a b ((shownOf rg.ts z lo hi).filter fun t => t.sure) ((shownOf rg.ts z lo hi).filter fun t => !t.sure)
theorem MapOf.keep {C W : Addr} {H H' : Hp} {p : Addr} {rg : GR} {z : Str} {chs : List Chg} {lo hi : Nat} (h : MapOf C W H p rg z chs lo hi) (k : Keep H H') : MapOf C W H' p rg z chs lo hi := by
  obtain ⟨S, d, a, b, h1, h2⟩ := h
  exact ⟨S, d, a, b, h1.keep k, h2.keep k⟩
/-- what making one asks -/
structure CanMap (C D : Addr) (H : Hp) (g : Addr) (r : GR) (wd : Nat) (S : Addr) (chs : List Chg) : Prop where
  gat : GatAt C D H g r
  gd : Good r.g wd
  ok : ∀ t ∈ r.ts, OkT t
  len : r.ts.length ≤ 200
  ch : ChAt H S chs
  okc : OkCs chs
theorem CanMap.same {C D : Addr} {H H' : Hp} {g : Addr} {r : GR} {wd : Nat} {S : Addr} {chs : List Chg} (h : CanMap C D H g r wd S chs) (s : Same H H') : CanMap C D H' g r wd S chs := ⟨h.gat.same s, h.gd, h.ok, h.len, h.ch.same s, h.okc⟩
theorem make_ok {H : Hp} {g S : Addr} {r : GR} {wd : Nat} {chs : List Chg} {z : Str} {lo hi : Nat} {v : V} {R : VK} {x dx : Addr} {vs : List V} (h : CanMap C D H g r wd S chs) (hz : IsWd z) (h1 : lo ≤ hi) (h2 : hi ≤ 120) (hv : v = .ref S ∨ (v = .non ∧ chs = []))
    (nx : H x = none) (ndx : H dx = none) (nex : dx ≠ x) (ev : vs = [V.ref x, .ref g, .str z, v, .int (lo : Int), .int (hi : Int)]) (q : ∀ (H' : Hp), Same H H' → MapOf C W H' x r z chs lo hi → R .non H') :
    spMI C D W vs (upd (upd H dx (.own x)) x (.ins W dx [])) R E0 := by
  subst ev
  have s2 : Same H (upd (upd H dx (.own x)) x (.ins W dx [])) := fun b o e => by
    rw [upd_ne (ne_of_none e nx), upd_ne (ne_of_none e ndx)]
    exact e
  have hv2 : ChV (upd (upd H dx (.own x)) x (.ins W dx [])) v chs := by
    rcases hv with rfl | ⟨rfl, rfl⟩
    · exact .inr ⟨S, rfl, h.ch.same s2⟩
    · exact .inl ⟨rfl, rfl⟩
  refine ⟨x, dx, g, r, wd, z, v, chs, lo, hi, rfl, upd_same, h.gat.same s2, h.gd, h.ok, h.len, hz, hv2, h.okc, h1, h2, fun S' d a b H' hb hM hX => q H' ?_ ⟨S', d, a, b, hM, hX⟩⟩
  exact fun b o e => hb b o (ne_of_none e nx) (s2 _ _ e)
end
end Wl


/-! Rules of ours: an object of an own class beside things of other kinds, by == and != -/
namespace Wl
open PySem PySem.Spec PyProof.Rows L2
section
variable {M : Model} {prog : Program} {w : World} {A : Around} {E : Value → Shared → Prop} {s : Shared} {K : PySem.W.Frag} {x C dx : Addr} {od : Option Obj}
theorem dec_none {Q : Fin → Shared → Prop} (hq : Q (.done (.ret .notImplemented)) s) : wpAny M A (Builtin.«NoneType.__eq__» ⟨[.none, .ref x], []⟩) Q E s := by
  unfold Builtin.«NoneType.__eq__»
  refine wpAny_bind (m := slotArgs "__eq__" 1 _) (wpAny_pure ?_)
  exact wpAny_pure hq
theorem dec_int {v : Value} {Q : Fin → Shared → Prop} (hv : (∃ n t, v = .int n t) ∨ ∃ b, v = .bool b) (ho : s.heap.get? x = some (PySem.W.instObj C dx)) (hq : Q (.done (.ret .notImplemented)) s) : wpAny M A (Builtin.«int.__eq__» ⟨[v, .ref x], []⟩) Q E s := by
  show wpAny M A (slotArgs "__eq__" 1 _ >>= _) Q E s
  refine wpAny_bind (wpAny_pure ?_)
  rcases hv with ⟨n, t, rfl⟩ | ⟨b, rfl⟩
  all_goals
    refine wpAny_bind (wpAny_pure ?_)
    refine wpAny_bind (m := asInt? (.ref x)) ?_
    unfold asInt?
    refine wpAny_bind (wpAny_load ho ?_)
    exact wpAny_pure (wpAny_bind (wpAny_rule (wpAny_pure hq)))
theorem dec_str {z : Str} {t : Tok} {Q : Fin → Shared → Prop} (ho : s.heap.get? x = some (PySem.W.instObj C dx)) (hq : Q (.done (.ret .notImplemented)) s) : wpAny M A (Builtin.«str.__eq__» ⟨[.str z t, .ref x], []⟩) Q E s := by
  unfold Builtin.«str.__eq__» Builtin.Str.strCompare
  refine wpAny_bind (wpAny_pure ?_)
  refine wpAny_bind (m := asStr? (.ref x)) ?_
  unfold asStr?
  refine wpAny_bind (wpAny_load ho ?_)
  exact wpAny_pure (wpAny_bind (wpAny_rule (wpAny_pure hq)))
theorem isin_own {T : String} (X : K.In s.heap) (I : PySem.W.InstAt s.heap x (PySem.W.instObj C dx) C od) (hm : PySem.W.mroIn K C (.type T) = some false) : PySem.W.Looks M s.heap (isInstance (.ref x) (.type T)) false := by
  unfold isInstance
  exact I.type.andThen (PySem.W.looks_mroIn X hm)
theorem dec_list {v : Value} {Q : Fin → Shared → Prop} (X : K.In s.heap) (I : PySem.W.InstAt s.heap x (PySem.W.instObj C dx) C od) (hm : PySem.W.mroIn K C (.type "list") = some false) (hq : Q (.done (.ret .notImplemented)) s) : wpAny M A (Builtin.«list.__eq__» ⟨[v, .ref x], []⟩) Q E s := by
  show wpAny M A (slotArgs "__eq__" 1 _ >>= _) Q E s
  refine wpAny_bind (wpAny_pure ?_)
  refine wpAny_bind (m := isInstance (.ref x) (.type "list")) ((isin_own X I hm).here ?_)
  exact wpAny_pure hq
theorem dec_tup {v : Value} {Q : Fin → Shared → Prop} (X : K.In s.heap) (I : PySem.W.InstAt s.heap x (PySem.W.instObj C dx) C od) (hm : PySem.W.mroIn K C (.type "tuple") = some false) (hq : Q (.done (.ret .notImplemented)) s) : wpAny M A (Builtin.«tuple.__eq__» ⟨[v, .ref x], []⟩) Q E s := by
  show wpAny M A (slotArgs "__eq__" 1 _ >>= _) Q E s
  refine wpAny_bind (wpAny_pure ?_)
  refine wpAny_bind (m := isInstance (.ref x) (.type "tuple")) ((isin_own X I hm).here ?_)
  exact wpAny_pure hq
theorem dec_dict {a : Addr} {Q : Fin → Shared → Prop} (hT : s.TypeIs (.ref a) "dict") (X : K.In s.heap) (I : PySem.W.InstAt s.heap x (PySem.W.instObj C dx) C od) (hm : PySem.W.mroIn K C (.type "dict") = some false) (hq : Q (.done (.ret .notImplemented)) s) : wpAny (model prog w) A (Builtin.«dict.__eq__» ⟨[.ref a, .ref x], []⟩) Q E s := by
  show wpAny (model prog w) A (Builtin.Dict.dictSlotArgs "__eq__" ⟨[.ref a, .ref x], []⟩ >>= _) Q E s
  refine wpAny_bind ?_
  unfold Builtin.Dict.dictSlotArgs
  refine wpAny_bind (wpAny_notOrdered_dict hT ?_)
  refine wpAny_pure ?_
  refine wpAny_bind (m := isInstance (.ref x) (.type "dict")) ((isin_own X I hm).here ?_)
  exact wpAny_bind (wpAny_rule (wpAny_pure hq))
theorem rc_back {v : Value} {T id : String} {f : Addr} {Q : Value → Shared → Prop} (hu : A.units < cLine) (X : K.In s.heap) (I : PySem.W.InstAt s.heap x (PySem.W.instObj C dx) C od) (hT : s.TypeIs v T) (hm : PySem.W.mroIn K C (.type T) = some false) (hs : Slot T (cmpInfo .Eq).2.1 id)
    (hd : ∀ Q' : Value → Shared → Prop, Q' .notImplemented s → wpAny (model prog w) A (call (.builtin id) [v, .ref x]) Q' E s)
    (he : PySem.W.findIn K (.ref C) "__eq__" = some (some (.ref f))) (hf : PySem.W.isFn K (.ref f) = true)
    (h : wpAny (model prog w) A (call (.ref f) [.ref x, v]) (fun r s' => ∃ c, r = .bool c ∧ Q r s') E s) : wpAny (model prog w) A (richCompare .Eq v (.ref x)) Q E s := by
  have one : wpAny (model prog w) A (tryCompare v "__eq__" (.ref x)) (fun r s' => r = none ∧ s' = s) E s := wpAny_tryCompare_declines hT hs (hd _ ⟨rfl, rfl, rfl⟩)
  have two : wpAny (model prog w) A (tryCompare (.ref x) "__eq__" v) (fun r s' => ∃ v, r = some v ∧ Q v s') E s := by
    unfold tryCompare
    refine wpAny_bind (PySem.W.ifBound_K X I he hf (wpAny_mono h (fun r s' hv => ?_) fun _ _ e => e))
    obtain ⟨c, rfl, q⟩ := hv
    exact wpAny_pure ⟨_, rfl, q⟩
  simp only [richCompare, cmpInfo_Eq, hT.oneThing_none]
  refine wpAny_holding (wpAny_bind (wpAny_cRoomFor hu ?_))
  refine wpAny_bind (wpAny_typeOf hT (wpAny_bind (I.type.here ?_)))
  split
  · refine wpAny_bind ((PySem.W.looks_mroIn X hm).here ?_)
    simp only [Bool.false_eq_true, if_false, Bool.not_false, if_true]
    refine wpAny_bind (m := tryCompare v _ (.ref x)) (wpAny_mono one (fun r s1 z => ?_) fun _ _ e => e)
    obtain ⟨z1, z2⟩ := z
    subst z1
    subst z2
    refine wpAny_bind (m := tryCompare (.ref x) _ v) (wpAny_mono two (fun r s2 z => ?_) fun _ _ e => e)
    obtain ⟨r2, rfl, q⟩ := z
    exact wpAny_pure q
  · rename_i q
    exact absurd (by simp) q
end
/-- x != y, x of an own class whose == is a def of its own -/
theorem ne_T {A : Around} {E : Value → Shared → Prop} {s : Shared} {prog : Program} {w : World} {K : PySem.W.Frag} {x C f : Addr} {y tb : Value} {ox : Obj} {od : Option Obj} {Q : Value → Shared → Prop} (hu : A.units + 2 < cLine) (X : K.In s.heap) (I : PySem.W.InstAt s.heap x ox C od) (hb : PySem.W.Looks (model prog w) s.heap (typeOf y) tb) (hn : PySem.W.notFirst K C tb = true) (N : NeC K C) (he : PySem.W.findIn K (.ref C) "__eq__" = some (some (.ref f))) (hf : PySem.W.isFn K (.ref f) = true)
    (h : wpAny (model prog w) A.in1 (call (.ref f) [.ref x, y]) (fun v s' => ∃ c, v = .bool c ∧ Q (.bool (!c)) s') E s) : wpAny (model prog w) A (richCompare .NotEq (.ref x) y) Q E s := by
  have one : wpAny (model prog w) A (tryCompare (.ref x) "__ne__" y) (fun r s' => ∃ v, r = some v ∧ Q v s') E s := by
    unfold tryCompare
    refine wpAny_bind (ifBound_B X I N.ne PySem.F.slot_object_ne.bind (wpAny_mono (obj_neK (Q := fun v s' => ∃ c, v = .bool c ∧ Q v s') (by omega) X I N he hf (wpAny_mono h (fun v s' hv => ?_) fun _ _ z => z)) (fun v s' hv => ?_) fun _ _ z => z))
    · obtain ⟨c, rfl, q⟩ := hv
      exact ⟨c, rfl, _, rfl, q⟩
    · obtain ⟨c, rfl, q⟩ := hv
      exact wpAny_pure ⟨_, rfl, q⟩
  unfold richCompare
  simp only [oneThing_ref]
  refine wpAny_holding (wpAny_bind (wpAny_cRoomFor (by omega) ?_))
  refine wpAny_bind (I.type.here (wpAny_bind (hb.here ?_)))
  split
  · rename_i q
    have e : PySem.W.subIn K tb (.ref C) = some false := by
      rcases Bool.or_eq_true_iff.mp hn with e | e
      · rw [beq_iff_eq.mp e] at q; simp at q
      · exact beq_iff_eq.mp e
    refine wpAny_bind ((PySem.W.looks_subIn X e).here ?_)
    simp only [Bool.false_eq_true, if_false]
    refine wpAny_bind (wpAny_mono one (fun r s' z => ?_) fun _ _ e => e)
    obtain ⟨v, rfl, hq⟩ := z
    exact wpAny_pure hq
  · refine wpAny_bind (wpAny_pure ?_)
    simp only [Bool.false_eq_true, if_false]
    refine wpAny_bind (wpAny_mono one (fun r s' z => ?_) fun _ _ e => e)
    obtain ⟨v, rfl, hq⟩ := z
    exact wpAny_pure hq
section
variable {X : Cx} {n : Nat} {f : Addr} {fd : FuncData} {ps : List Str} {sp : Sp} {C : Addr}
theorem look_ty {pins : List (Addr × Obj)} {s : Shared} {σ : L2.St} {H : Hp} {y : V} {u t : Value} (I : L2.Inv X pins σ H s) (ry : RelV y u) (ty : TyX X.K H y t) : PySem.W.Looks (model X.prog X.w) s.heap (typeOf u) t := by
  obtain ⟨Pr, k, hP, _⟩ := kit_of I ry ty
  exact k.ty _ _ I.kIn hP
/-- x == y, x of an own class -/
def rEqT (K : PySem.W.Frag) (C : Addr) (sp : Sp) (g : Bool → Bool) : R2 := fun x y H Q => ∃ a dx fs t, x = V.ref a ∧ H a = some (.ins C dx fs) ∧ TyX K H y t ∧ PySem.W.notFirst K C t = true ∧ sp [.ref a, y] H (fun v H' => ∃ c, v = .bl c ∧ Q (.bl (g c)) H') E0
theorem rc_eqT {A : Around} {pins : List (Addr × Obj)} {s : Shared} {σ : L2.St} {H : Hp} {a dx : Addr} {fs : List (Str × V)} {y : V} {u t : Value} {Q : Bool → Hp → Prop} (F : FnOk X.prog X.w X.K X.mg X.base CX0 n f fd ps sp) (hb : Binds X.K fd ps []) (m : Meth X.K C "__eq__" f) (sb : Sub X n A) (I : L2.Inv X pins σ H s)
    (ha : H a = some (.ins C dx fs)) (ry : RelV y u) (ty : TyX X.K H y t) (hn : PySem.W.notFirst X.K C t = true) (hsp : sp [.ref a, y] H (fun v H' => ∃ c, v = .bl c ∧ Q c H') E0) :
    wpAny (model X.prog X.w) A (richCompare .Eq (.ref a) u) (fun v s' => ∃ c, v = .bool c ∧ ∃ H', L2.Inv X pins σ H' s' ∧ Q c H') X.xe s := by
  obtain ⟨mA, J, _⟩ := ins_get I.hok ha
  obtain ⟨od, J, _⟩ := J.look
  obtain ⟨m', hF⟩ := I.fr
  have r2 : Vals [V.ref a, y] [Value.ref a, u] := .cons rfl (.cons ry .nil)
  refine PySem.W.cmp_K (op := .Eq) (tb := t) sb.room.units0 hF I.ok.mod.kin J (look_ty I ry ty) hn m.at_ m.fn (wpAny_mono (run_own F hb sb I r2 hsp) (fun v s' hq => ?_) fun _ _ z => z)
  obtain ⟨z, H', I', rz, c, rfl, q⟩ := hq
  cases rz
  exact ⟨c, rfl, H', I', q⟩
theorem op_eqT (F : FnOk X.prog X.w X.K X.mg X.base CX0 n f fd ps sp) (hb : Binds X.K fd ps []) (m : Meth X.K C "__eq__" f) (hr : Room n X.A) : OpR X (compareOp .Eq) (rEqT X.K C sp id) := by
  intro pins s σ H x y v u Q I rx ry h
  obtain ⟨a, dx, fs, t, rfl, ha, ty, hn, hsp⟩ := h
  cases rx
  show wpAny (model X.prog X.w) X.A (richCompare .Eq (.ref a) u) (EP X pins σ Q) X.xe s
  refine wpAny_mono (rc_eqT F hb m ⟨hr, rfl⟩ I ha ry ty hn hsp) (fun v s' hq => ?_) fun _ _ z => z
  obtain ⟨c, rfl, H', I', q⟩ := hq
  exact ⟨.bl c, H', I', rfl, q⟩
theorem op_neT (F : FnOk X.prog X.w X.K X.mg X.base CX0 n f fd ps sp) (hb : Binds X.K fd ps []) (m : Meth X.K C "__eq__" f) (N : NeC X.K C) (hr : Room (n + 1) X.A) : OpR X (compareOp .NotEq) (rEqT X.K C sp not) := by
  intro pins s σ H x y v u Q I rx ry h
  obtain ⟨a, dx, fs, t, rfl, ha, ty, hn, hsp⟩ := h
  cases rx
  obtain ⟨mA, J, _⟩ := ins_get I.hok ha
  obtain ⟨od, J, _⟩ := J.look
  have r2 : Vals [V.ref a, y] [Value.ref a, u] := .cons rfl (.cons ry .nil)
  show wpAny (model X.prog X.w) X.A (richCompare .NotEq (.ref a) u) (EP X pins σ Q) X.xe s
  refine ne_T (room_u2 hr) I.kIn J (look_ty I ry ty) hn N m.at_ m.fn (wpAny_mono (run_own F hb (Sub.in1 ⟨hr, rfl⟩) I r2 hsp) (fun v s' hq => ?_) fun _ _ z => z)
  obtain ⟨z, H', I', rz, c, rfl, q⟩ := hq
  cases rz
  exact ⟨c, rfl, .bl (!c), H', I', rfl, q⟩
/-- things that are of no own class -/
inductive OthV (H : Hp) : V → String → Prop where
  | non : OthV H .non "NoneType"
  | bl (b : Bool) : OthV H (.bl b) "bool"
  | int (i : Int) : OthV H (.int i) "int"
  | str (z : Str) : OthV H (.str z) "str"
  | lst {a : Addr} {xs : List V} (e : H a = some (.lst xs)) : OthV H (.ref a) "list"
  | tup {a : Addr} {xs : List V} (e : H a = some (.tup xs)) : OthV H (.ref a) "tuple"
  | dK {a : Addr} {kvs : List (Key × V)} (e : H a = some (.dK kvs)) : OthV H (.ref a) "dict"
theorem OthV.ty {K : PySem.W.Frag} {H : Hp} {y : V} {T : String} (h : OthV H y T) : TyX K H y (.type T) := by
  cases h with
  | non => exact .base .non
  | bl b => exact .base (.bl b)
  | int i => exact .base (.int i)
  | str z => exact .base (.str z)
  | lst e => exact .base (.lst e)
  | tup e => exact .base (.tup e)
  | dK e => exact .base (.dK e)
theorem mro7 : fastBuiltinMro "NoneType" = some [.type "NoneType", .type "object"] ∧ fastBuiltinMro "bool" = some [.type "bool", .type "int", .type "object"] ∧ fastBuiltinMro "int" = some [.type "int", .type "object"] ∧ fastBuiltinMro "str" = some [.type "str", .type "object"] ∧ fastBuiltinMro "list" = some [.type "list", .type "object"] ∧ fastBuiltinMro "tuple" = some [.type "tuple", .type "object"] ∧ fastBuiltinMro "dict" = some [.type "dict", .type "object"] := by
  refine ⟨?_, ?_, ?_, ?_, ?_, ?_, ?_⟩ <;> decide +kernel
theorem OthV.notFirst {K : PySem.W.Frag} {C : Addr} {H : Hp} {y : V} {T : String} (h : OthV H y T) : PySem.W.notFirst K C (.type T) = true := by
  have m := mro7
  have go : ∀ (T : String) (l : List Value), fastBuiltinMro T = some l → (l.contains (.ref C)) = false → PySem.W.notFirst K C (.type T) = true := fun T l e1 e2 => by
    show (Value.type T == .ref C || ((fastBuiltinMro T).map (·.contains (.ref C))) == some false) = true
    rw [e1]
    show (Value.type T == .ref C || some (l.contains (.ref C)) == some false) = true
    rw [e2]
    simp
  cases h with
  | non => exact go _ _ m.1 (by simp)
  | bl b => exact go _ _ m.2.1 (by simp)
  | int i => exact go _ _ m.2.2.1 (by simp)
  | str z => exact go _ _ m.2.2.2.1 (by simp)
  | lst e => exact go _ _ m.2.2.2.2.1 (by simp)
  | tup e => exact go _ _ m.2.2.2.2.2.1 (by simp)
  | dK e => exact go _ _ m.2.2.2.2.2.2 (by simp)
end
end Wl

/-! y == x, x of an own class, y of no own class; x in ys -/
namespace Wl
open PySem PySem.Spec PyProof.Rows L2
/-- the built-in kinds a class is no kind of -/
structure NoKind (K : PySem.W.Frag) (C : Addr) : Prop where
  non : PySem.W.mroIn K C (.type "NoneType") = some false
  bl : PySem.W.mroIn K C (.type "bool") = some false
  int : PySem.W.mroIn K C (.type "int") = some false
  str : PySem.W.mroIn K C (.type "str") = some false
  lst : PySem.W.mroIn K C (.type "list") = some false
  tup : PySem.W.mroIn K C (.type "tuple") = some false
  dK : PySem.W.mroIn K C (.type "dict") = some false
section
variable {X : Cx} {n : Nat} {f : Addr} {fd : FuncData} {ps : List Str} {sp : Sp} {C : Addr}
theorem rc_eqR {A : Around} {pins : List (Addr × Obj)} {s : Shared} {σ : L2.St} {H : Hp} {a dx : Addr} {fs : List (Str × V)} {y : V} {u : Value} {T : String} {Q : Bool → Hp → Prop} (F : FnOk X.prog X.w X.K X.mg X.base CX0 n f fd ps sp) (hb : Binds X.K fd ps []) (m : Meth X.K C "__eq__" f) (N : NoKind X.K C) (sb : Sub X n A) (I : L2.Inv X pins σ H s)
    (ha : H a = some (.ins C dx fs)) (ry : RelV y u) (o : OthV H y T) (hsp : sp [.ref a, y] H (fun v H' => ∃ c, v = .bl c ∧ Q c H') E0) :
    wpAny (model X.prog X.w) A (richCompare .Eq u (.ref a)) (fun v s' => ∃ c, v = .bool c ∧ ∃ H', L2.Inv X pins σ H' s' ∧ Q c H') X.xe s := by
  obtain ⟨mA, J, _⟩ := ins_get I.hok ha
  have hob := J.obj
  obtain ⟨od, J, _⟩ := J.look
  have r2 : Vals [V.ref a, y] [Value.ref a, u] := .cons rfl (.cons ry .nil)
  have hu := sb.room.units0
  have run : wpAny (model X.prog X.w) A (call (.ref f) [.ref a, u]) (fun r s' => ∃ c, r = .bool c ∧ ∃ c', r = .bool c' ∧ ∃ H', L2.Inv X pins σ H' s' ∧ Q c' H') X.xe s := wpAny_mono (run_own F hb sb I r2 hsp) (fun v s' hq => by
    obtain ⟨z, H', I', rz, c, rfl, q⟩ := hq
    cases rz
    exact ⟨c, rfl, c, rfl, H', I', q⟩) fun _ _ z => z
  cases o with
  | non =>
    obtain rfl : u = Value.none := ry
    exact rc_back hu I.kIn J (T := "NoneType") rfl N.non PySem.F.slot_NoneType_eq (fun Q' q => wpAny_call_entry PySem.F.slot_NoneType_eq rfl PySem.F.entry_NoneType_eq (dec_none ⟨_, rfl, q⟩) (PySem.F.args_NoneType_eq_2 _ _)) m.at_ m.fn run
  | bl b =>
    obtain rfl : u = Value.bool b := ry
    exact rc_back hu I.kIn J (T := "bool") rfl N.bl PySem.F.slot_bool_eq (fun Q' q => wpAny_call_entry PySem.F.slot_bool_eq rfl PySem.F.entry_int_eq (dec_int (.inr ⟨b, rfl⟩) hob ⟨_, rfl, q⟩) (PySem.F.args_int_eq_2 _ _)) m.at_ m.fn run
  | int i =>
    obtain ⟨t, rfl⟩ := ry
    exact rc_back hu I.kIn J (T := "int") rfl N.int PySem.F.slot_int_eq (fun Q' q => wpAny_call_entry PySem.F.slot_int_eq rfl PySem.F.entry_int_eq (dec_int (.inl ⟨i, t, rfl⟩) hob ⟨_, rfl, q⟩) (PySem.F.args_int_eq_2 _ _)) m.at_ m.fn run
  | str z =>
    obtain ⟨t, rfl⟩ := ry
    exact rc_back hu I.kIn J (T := "str") rfl N.str PySem.F.slot_str_eq (fun Q' q => wpAny_call_entry PySem.F.slot_str_eq rfl PySem.F.entry_str_eq (dec_str hob ⟨_, rfl, q⟩) (PySem.F.args_str_eq_2 _ _)) m.at_ m.fn run
  | lst e =>
    rename_i l xs
    obtain rfl : u = Value.ref l := ry
    obtain ⟨its, r, ⟨ob, k, e1, e2, _⟩, _⟩ := I.list (.inl (.inl e))
    have hT : s.TypeIs (.ref l) "list" := ⟨ob, e1, e2⟩
    exact rc_back hu I.kIn J (T := "list") hT N.lst PySem.F.slot_list_eq (fun Q' q => wpAny_call_entry PySem.F.slot_list_eq hT PySem.F.entry_list_eq (dec_list I.kIn J N.lst ⟨_, rfl, q⟩) (PySem.F.args_list_eq_2 _ _)) m.at_ m.fn run
  | tup e =>
    rename_i l xs
    obtain rfl : u = Value.ref l := ry
    obtain ⟨its, r, ⟨ob, e1, e2, _⟩, _⟩ := I.tuple (.inl (.inl e))
    have hT : s.TypeIs (.ref l) "tuple" := ⟨ob, e1, e2⟩
    exact rc_back hu I.kIn J (T := "tuple") hT N.tup PySem.F.slot_tuple_eq (fun Q' q => wpAny_call_entry PySem.F.slot_tuple_eq hT PySem.F.entry_tuple_eq (dec_tup I.kIn J N.tup ⟨_, rfl, q⟩) (PySem.F.args_tuple_eq_2 _ _)) m.at_ m.fn run
  | dK e =>
    rename_i l kvs
    obtain rfl : u = Value.ref l := ry
    obtain ⟨_, _, vs, _, d⟩ := I.hok l _ e
    have hT : s.TypeIs (.ref l) "dict" := d.typeIs
    exact rc_back hu I.kIn J (T := "dict") hT N.dK PySem.F.slot_dict_eq (fun Q' q => wpAny_call_entry PySem.F.slot_dict_eq hT PySem.F.entry_dict_eq (dec_dict hT I.kIn J N.dK ⟨_, rfl, q⟩) (PySem.F.args_dict_eq_2 _ _)) m.at_ m.fn run
/-- y == x, y of no own class, x of an own one -/
def rEqR (C : Addr) (sp : Sp) : R2 := fun y x H Q => ∃ a dx fs T, x = V.ref a ∧ H a = some (.ins C dx fs) ∧ OthV H y T ∧ sp [.ref a, y] H (fun v H' => ∃ c, v = .bl c ∧ Q (.bl c) H') E0
theorem op_eqR (F : FnOk X.prog X.w X.K X.mg X.base CX0 n f fd ps sp) (hb : Binds X.K fd ps []) (m : Meth X.K C "__eq__" f) (N : NoKind X.K C) (hr : Room n X.A) : OpR X (compareOp .Eq) (rEqR C sp) := by
  intro pins s σ H y x u v Q I ry rx h
  obtain ⟨a, dx, fs, T, rfl, ha, o, hsp⟩ := h
  cases rx
  show wpAny (model X.prog X.w) X.A (richCompare .Eq u (.ref a)) (EP X pins σ Q) X.xe s
  refine wpAny_mono (rc_eqR F hb m N ⟨hr, rfl⟩ I ha ry o hsp) (fun v s' hq => ?_) fun _ _ z => z
  obtain ⟨c, rfl, H', I', q⟩ := hq
  exact ⟨.bl c, H', I', rfl, q⟩
/-- one rule or another -/
theorem op_or {op : Value → Value → Sem Value} {r1 r2 : R2} (h1 : OpR X op r1) (h2 : OpR X op r2) : OpR X op (fun x y H Q => r1 x y H Q ∨ r2 x y H Q) := by
  intro pins s σ H x y v u Q I rx ry h
  rcases h with h | h
  · exact h1 pins s σ H x y v u Q I rx ry h
  · exact h2 pins s σ H x y v u Q I rx ry h
end
end Wl

/-! x in ys, ys a list or a tuple of things, x of an own class -/
namespace Wl
open PySem PySem.Spec PyProof.Rows L2
open GQ MeetsSeq MeetsSeq2 MeetsSeq3 SeqRoads2 in
open AutoSeq1 (wpAny_loadPart') in
theorem containsT {prog : Program} {w : World} {A : Around} {R : Result → Shared → Prop} {s : Shared} {l : Addr} {items : Array Value} {n : Nat} {dd : Option Addr} {sl : Array (Option Value)} {x : Value} (P : Nat → Shared → Prop)
    (turn : ∀ (i : Nat) (h : i < items.size) (s : Shared), P i s → wpAny (model prog w) A.in1 (eqBool items[i] x) (fun b s' => if b = true then R (.ok (.ret (.bool true))) s' else P (i + 1) s') (fun e s' => R (.error e) s') s)
    (fin : ∀ s, P items.size s → R (.ok (.ret (.bool false))) s) (hl : s.heap.get? l = some { cls := .type "tuple", dict := dd, data := .seq items n, slots := sl }) (h : P 0 s) :
    wpAny (model prog w) A.in1 (Builtin.«tuple.__contains__» ⟨[.ref l, x], []⟩) (FinOf prog w A R) (fun e s' => R (.error e) s') s := by
  have h0 := h
  obtain ⟨hp, g, d, tk, os⟩ := s
  wp_walk using wpAny_loadPart' hl, wpAny_forIn_array _ (fun rest b s' => b.1 = none ∧ ∃ i, rest = items.toList.drop i ∧ i ≤ items.size ∧ P i s') _
  case turn =>
    rintro y rest b s' ⟨hb', i, hz, hi, hI⟩
    have hlt : i < items.toList.length := by
      rcases Nat.lt_or_ge i items.toList.length with h' | h'
      · exact h'
      · rw [List.drop_of_length_le h'] at hz; cases hz
    have h1 : i < items.size := by simpa using hlt
    rw [List.drop_eq_getElem_cons hlt] at hz
    injection hz with hy hrest
    have hy : y = items[i] := by simpa using hy
    subst hy
    refine wpAny_bind (wpAny_mono (turn i h1 s' hI) (fun r s2 q2 => ?_) fun _ _ x => x)
    cases r with
    | true =>
      rw [if_pos rfl] at q2
      wp_walk
      first
        | exact q2
        | exact ⟨_, rfl, q2⟩
    | false =>
      rw [if_neg (by decide)] at q2
      wp_walk
      exact ⟨rfl, i + 1, hrest, h1, q2⟩
  case fin =>
    rintro ⟨b1, b2⟩ s' ⟨hb', i, hz, hi, hI⟩
    simp only at hb'
    subst hb'
    have hge : items.size ≤ i := by
      rcases Nat.lt_or_ge i items.toList.length with h' | h'
      · rw [List.drop_eq_getElem_cons h'] at hz; cases hz
      · simpa using h'
    have hi' : i = items.size := by omega
    have hR : R (.ok (.ret (.bool false))) s' := fin s' (hi' ▸ hI)
    wp_walk
    exact hR
  case h =>
    exact ⟨rfl, 0, rfl, Nat.zero_le _, h0⟩
open GQ MeetsSeq MeetsSeq2 MeetsSeq3 SeqRoads2 in
open AutoSeq1 (wpAny_loadPart') in
theorem contains_loopV {prog : Program} {w : World} {A : Around} {R : Result → Shared → Prop} {l : Addr} {N : Nat} {x : Value} (P : Nat → Shared → Prop)
    (hl : ∀ i s, P i s → ∃ (items : Array Value) (k : Nat), s.heap.get? l = some { cls := .type "list", data := .seq items k } ∧ items.size = N ∧ ∀ h : i < items.size, wpAny (model prog w) A.in1 (eqBool items[i] x) (fun b s' => if b = true then R (.ok (.ret (.bool true))) s' else P (i + 1) s') (fun e s' => R (.error e) s') s)
    (fin : ∀ s, P N s → R (.ok (.ret (.bool false))) s) (k : Nat) :
    ∀ i : Nat, N - i = k → i ≤ N → ∀ s, P i s → wpAny (model prog w) A.in1 (Builtin.«list.__contains__.loop» ⟨[.ref l, x, rawInt i], []⟩) (FinOf prog w A R) (fun e s' => R (.error e) s') s := by
  induction k with
  | zero =>
    intro i hk hi s h
    obtain ⟨items, k, hl1, hN, _⟩ := hl i s h
    have e : i = N := by omega
    have q := fin s (e ▸ h)
    obtain ⟨hp, g, d, tk, os⟩ := s
    wp_walk using wpAny_loadPart' hl1
    have hi1 : items[((i : Nat) : Int).toNat]? = none := by simp; omega
    rw [hi1]
    wp_walk
    exact q
  | succ k ih =>
    intro i hk hi s h
    obtain ⟨items, k1, hl1, hN, turn⟩ := hl i s h
    have hlt : i < items.size := by omega
    have ht := turn hlt
    obtain ⟨hp, g, d, tk, os⟩ := s
    wp_walk using wpAny_loadPart' hl1
    have hi1 : items[((i : Nat) : Int).toNat]? = some items[i] := by simp [hlt]
    rw [hi1]
    refine wpAny_bind (wpAny_mono ht (fun b s2 h2 => ?_) fun _ _ z => z)
    cases b with
    | true =>
      rw [if_pos rfl] at h2
      wp_walk
      exact h2
    | false =>
      rw [if_neg (by decide)] at h2
      have hrec := ih (i + 1) (by omega) (by omega) s2 h2
      obtain ⟨hp2, g2, d2, tk2, os2⟩ := s2
      have hc : ((i : Int) + 1) = ((i + 1 : Nat) : Int) := by omega
      wp_walk
      rw [hc]
      exact ⟨plainId_quiet plain_contains_loop _, codeAny_builtin entry_contains_loop (by
        rw [Around.under_plainId plain_contains_loop _]
        exact hrec)⟩
open GQ MeetsSeq MeetsSeq2 MeetsSeq3 SeqRoads2 in
open AutoSeq1 (wpAny_loadPart') in
theorem containsV {prog : Program} {w : World} {A : Around} {R : Result → Shared → Prop} {s : Shared} {l : Addr} {N : Nat} {x : Value} (P : Nat → Shared → Prop)
    (hl : ∀ i s, P i s → ∃ (items : Array Value) (k : Nat), s.heap.get? l = some { cls := .type "list", data := .seq items k } ∧ items.size = N ∧ ∀ h : i < items.size, wpAny (model prog w) A.in1 (eqBool items[i] x) (fun b s' => if b = true then R (.ok (.ret (.bool true))) s' else P (i + 1) s') (fun e s' => R (.error e) s') s)
    (fin : ∀ s, P N s → R (.ok (.ret (.bool false))) s) (h : P 0 s) :
    wpAny (model prog w) A.in1 (Builtin.«list.__contains__» ⟨[.ref l, x], []⟩) (FinOf prog w A R) (fun e s' => R (.error e) s') s := by
  have hrec := contains_loopV (A := A) (R := R) P hl fin _ 0 rfl (Nat.zero_le _) s h
  obtain ⟨items, k, hl1, _⟩ := hl 0 s h
  obtain ⟨hp, g, d, tk, os⟩ := s
  wp_walk using wpAny_loadPart' hl1
  exact ⟨plainId_quiet plain_contains_loop _, codeAny_builtin entry_contains_loop (by
    rw [Around.under_plainId plain_contains_loop _]
    exact hrec)⟩
theorem OthV.same {H H' : Hp} {y : V} {T : String} (h : OthV H y T) (s : Same H H') : OthV H' y T := by
  cases h with
  | non => exact .non
  | bl b => exact .bl b
  | int i => exact .int i
  | str z => exact .str z
  | lst e => exact .lst (s _ _ e)
  | tup e => exact .tup (s _ _ e)
  | dK e => exact .dK (s _ _ e)
/-- how an item is found beside x at a -/
def ItemOk (C a : Addr) (sp : Sp) (H : Hp) (z : V) (c : Bool) : Prop :=
  (∃ T, OthV H z T ∧ ∀ H', Same H H' → sp [.ref a, z] H' (fun v H'' => ∃ r, v = .bl r ∧ r = c ∧ Same H' H'') E0) ∨
  (z = .ref a ∧ c = true) ∨
  (∃ b dy gs, z = .ref b ∧ b ≠ a ∧ H b = some (.ins C dy gs) ∧ ∀ H', Same H H' → sp [.ref b, .ref a] H' (fun v H'' => ∃ r, v = .bl r ∧ r = c ∧ Same H' H'') E0)
section
variable {X : Cx} {n : Nat} {f : Addr} {fd : FuncData} {ps : List Str} {sp : Sp} {C : Addr}
theorem eqBool_flatG {prog : Program} {w : World} {A : Around} {E : Value → Shared → Prop} {s : Shared} {v : Value} {a : Addr} {Q : Bool → Shared → Prop} (hne : v ≠ .ref a) (h : wpAny (model prog w) A (richCompare .Eq v (.ref a)) (fun v s' => ∃ r, v = .bool r ∧ Q r s') E s) : wpAny (model prog w) A (eqBool v (.ref a)) Q E s := by
  unfold eqBool
  refine wpAny_holding ?_
  refine wpAny_ite_split (fun hab => absurd (eq_of_beq hab) hne) (fun _ => ?_)
  cases v <;>
  · refine wpAny_bind (wpAny_mono h (fun v s' hv => ?_) fun _ _ x => x)
    obtain ⟨r, rfl, q⟩ := hv
    exact wpAny_truthy_bool q
theorem eq_item {A : Around} {pins : List (Addr × Obj)} {s : Shared} {σ : L2.St} {H H' : Hp} {a dx : Addr} {fs : List (Str × V)} {z : V} {u : Value} {c : Bool} (F : FnOk X.prog X.w X.K X.mg X.base CX0 n f fd ps sp) (hb : Binds X.K fd ps []) (m : Meth X.K C "__eq__" f) (N : NoKind X.K C) (sb : Sub X n A) (I : L2.Inv X pins σ H' s)
    (s0 : Same H H') (ha : H a = some (.ins C dx fs)) (rz : RelV z u) (it : ItemOk C a sp H z c) :
    wpAny (model X.prog X.w) A (eqBool u (.ref a)) (fun b s' => b = c ∧ ∃ H'', L2.Inv X pins σ H'' s' ∧ Same H H'') X.xe s := by
  have ha' := s0 _ _ ha
  rcases it with ⟨T, o, hsp⟩ | ⟨rfl, rfl⟩ | ⟨b, dy, gs, rfl, hne, hb', hsp⟩
  · have hne : u ≠ .ref a := fun e => by
      subst e
      cases o with
      | non => cases rz
      | bl b => cases rz
      | int i => obtain ⟨t, e⟩ := rz; cases e
      | str y => obtain ⟨t, e⟩ := rz; cases e
      | lst e => cases rz; rw [ha] at e; cases e
      | tup e => cases rz; rw [ha] at e; cases e
      | dK e => cases rz; rw [ha] at e; cases e
    refine eqBool_flatG hne (wpAny_mono (rc_eqR F hb m N sb I ha' rz (o.same s0) (Q := fun r H'' => r = c ∧ Same H' H'') (hsp H' s0)) (fun v s' hq => ?_) fun _ _ x => x)
    obtain ⟨r, rfl, H'', I', rfl, s2⟩ := hq
    exact ⟨_, rfl, rfl, H'', I', s0.trans s2⟩
  · cases rz
    exact SeqAt.EqAt.same (A := A) (s := s) (.ref a) X.prog X.w X.xe _ ⟨rfl, H', I, s0⟩
  · cases rz
    refine GQ.eqBool_refG hne (wpAny_mono (rc_eqO F hb m sb I (s0 _ _ hb') ha' (Q := fun r H'' => r = c ∧ Same H' H'') (hsp H' s0)) (fun v s' hq => ?_) fun _ _ x => x)
    obtain ⟨r, rfl, H'', I', rfl, s2⟩ := hq
    exact ⟨_, rfl, rfl, H'', I', s0.trans s2⟩
/-- x in ys -/
def rInG (C : Addr) (sp : Sp) (g : Bool → Bool) : R2 := fun x y H Q => ∃ a dx fs l xs cs, x = V.ref a ∧ y = V.ref l ∧ (H l = some (.lst xs) ∨ H l = some (.tup xs)) ∧ H a = some (.ins C dx fs) ∧ Each (ItemOk C a sp H) xs cs ∧ ∀ H', Same H H' → Q (.bl (g (cs.any id))) H'
theorem Each.at {α β : Type} {R : α → β → Prop} : ∀ {xs : List α} {ys : List β} {i : Nat} (h : Each R xs ys) (hi : i < xs.length), ∃ y, ys[i]? = some y ∧ R xs[i] y
  | _, _, i, .nil, hi => by simp at hi
  | _, _, 0, .cons e r, hi => ⟨_, rfl, e⟩
  | _, _, i + 1, .cons e r, hi => by
    obtain ⟨y, h1, h2⟩ := Each.at (i := i) r (by simpa using hi)
    exact ⟨y, by simpa using h1, by simpa using h2⟩
theorem Vals.at {xs : List V} {us : List Value} {i : Nat} (r : Vals xs us) (hi : i < us.length) : ∃ x, xs[i]? = some x ∧ RelV x us[i] := by
  induction r generalizing i with
  | nil => simp at hi
  | cons e r ih =>
    cases i with
    | zero => exact ⟨_, rfl, e⟩
    | succ i =>
      obtain ⟨x, h1, h2⟩ := ih (i := i) (by simpa using hi)
      exact ⟨x, by simpa using h1, by simpa using h2⟩
theorem op_inG' (F : FnOk X.prog X.w X.K X.mg X.base CX0 n f fd ps sp) (hb : Binds X.K fd ps []) (m : Meth X.K C "__eq__" f) (N : NoKind X.K C) (hr : Room (n + 1) X.A) {g : Bool → Bool} {pins : List (Addr × Obj)} {s : Shared} {σ : L2.St} {H : Hp} {x y : V} {v u : Value} {Q : VK} (I : L2.Inv X pins σ H s) (rx : RelV x v) (ry : RelV y u) (h : rInG C sp g x y H Q) :
    wpAny (model X.prog X.w) X.A (contains u v) (fun b s' => EP X pins σ Q (.bool (g b)) s') X.xe s := by
  obtain ⟨a, dx, fs, l, xs, cs, rfl, rfl, hl, ha, hE, q⟩ := h
  cases rx
  cases ry
  have lc : xs.length = cs.length := hE.length
  -- one item
  have turn : ∀ (its : List Value) (r : Vals xs its) (i : Nat) (hi : i < its.length) (s' : Shared), (∃ H', L2.Inv X pins σ H' s' ∧ Same H H' ∧ (cs.take i).any id = false) → wpAny (model X.prog X.w) X.A.in1 (eqBool its[i] (.ref a)) (fun b s2 => if b = true then (∃ H', L2.Inv X pins σ H' s2 ∧ Same H H' ∧ cs.any id = true) else ∃ H', L2.Inv X pins σ H' s2 ∧ Same H H' ∧ (cs.take (i + 1)).any id = false) X.xe s' := fun its r i hi s' ⟨H', I', s0, ht⟩ => by
    obtain ⟨z, hz, rz⟩ := Vals.at r hi
    obtain ⟨hzl, ez⟩ := List.getElem?_eq_some_iff.mp hz
    obtain ⟨c, hc, it⟩ := Each.at hE hzl
    rw [ez] at it
    refine wpAny_mono (eq_item F hb m N (Sub.in1 ⟨hr, rfl⟩) I' s0 ha rz it) (fun b s2 hq => ?_) fun _ _ e => e
    obtain ⟨rfl, H'', I'', s2'⟩ := hq
    refine ite_b (fun e => ?_) (fun e => ?_)
    · refine ⟨H'', I'', s2', ?_⟩
      rw [List.any_eq_true]
      exact ⟨_, List.mem_of_getElem? hc, e⟩
    · refine ⟨H'', I'', s2', ?_⟩
      rw [List.take_add_one, hc, List.any_append, ht, Bool.false_or]
      simpa using e
  have fin : ∀ (s' : Shared), (∃ H', L2.Inv X pins σ H' s' ∧ Same H H' ∧ (cs.take xs.length).any id = false) → EP X pins σ Q (.bool (g false)) s' := fun s' ⟨H', I', s0, ht⟩ => by
    rw [lc, List.take_length] at ht
    have := q H' s0
    rw [ht] at this
    exact ⟨.bl (g false), H', I', rfl, this⟩
  have good : ∀ (s' : Shared), (∃ H', L2.Inv X pins σ H' s' ∧ Same H H' ∧ cs.any id = true) → EP X pins σ Q (.bool (g true)) s' := fun s' ⟨H', I', s0, ht⟩ => by
    have := q H' s0
    rw [ht] at this
    exact ⟨.bl (g true), H', I', rfl, this⟩
  rcases hl with hl | hl
  · obtain ⟨z, its, k, r, ho⟩ := I.hok l _ hl
    have ri : its.length = xs.length := r.length.symm
    refine wpAny_contains_slot ⟨_, ho, rfl⟩ PySem.F.slot_list_contains (wpAny_mono (GQ.call_here PySem.F.slot_list_contains ⟨_, ho, rfl⟩ PySem.F.entry_list_contains (PySem.F.args_list_contains_2 _ _)
      (containsV (R := wants (fun v s' => ∃ c, v = .bool c ∧ EP X pins σ Q (.bool (g c)) s') X.xe) (N := xs.length) (fun i s' => ∃ H', L2.Inv X pins σ H' s' ∧ Same H H' ∧ (cs.take i).any id = false) (fun i s' h => ?_) (fun s' h => ?_) ⟨H, I, Same.refl H, rfl⟩)) (fun v s' hv => ?_) fun _ _ e => e)
    · obtain ⟨H', I', s0, h3⟩ := id h
      obtain ⟨z', its', k', r', ho'⟩ := I'.hok l _ (s0 _ _ hl)
      refine ⟨its'.toArray, k', ho', by simpa using r'.length.symm, fun hi => ?_⟩
      have hi' : i < its'.length := by simpa using hi
      have t := turn its' r' i hi' s' h
      have e : its'.toArray[i] = its'[i] := by simp
      rw [e]
      refine wpAny_mono t (fun b s2 hq => ?_) fun _ _ e => e
      cases b with
      | true =>
        rw [if_pos rfl] at hq ⊢
        exact ⟨_, rfl, good _ hq⟩
      | false =>
        rw [if_neg (by decide)] at hq ⊢
        exact hq
    · exact ⟨_, rfl, fin _ h⟩
    · obtain ⟨c, rfl, q⟩ := hv
      exact wpAny_truthy_bool q
  · obtain ⟨its, r, ⟨⟨cls, dd, data, sl⟩, ho, hc, n', hd⟩, _⟩ := I.tuple (.inl (.inl hl))
    simp only at hc hd
    subst hc hd
    have ri : its.length = xs.length := r.length.symm
    refine wpAny_contains_slot ⟨_, ho, rfl⟩ PySem.F.slot_tuple_contains (wpAny_mono (GQ.call_here PySem.F.slot_tuple_contains ⟨_, ho, rfl⟩ PySem.F.entry_tuple_contains (PySem.F.args_tuple_contains_2 _ _)
      (containsT (R := wants (fun v s' => ∃ c, v = .bool c ∧ EP X pins σ Q (.bool (g c)) s') X.xe) (items := its.toArray) (fun i s' => ∃ H', L2.Inv X pins σ H' s' ∧ Same H H' ∧ (cs.take i).any id = false) (fun i hi s' h => ?_) (fun s' h => ?_) ho ⟨H, I, Same.refl H, rfl⟩)) (fun v s' hv => ?_) fun _ _ e => e)
    · have hi' : i < its.length := by simpa using hi
      have t := turn its r i hi' s' h
      have e : its.toArray[i] = its[i] := by simp
      rw [e]
      refine wpAny_mono t (fun b s2 hq => ?_) fun _ _ e => e
      cases b with
      | true =>
        rw [if_pos rfl] at hq ⊢
        exact ⟨_, rfl, good _ hq⟩
      | false =>
        rw [if_neg (by decide)] at hq ⊢
        exact hq
    · have e : its.toArray.size = xs.length := by simpa using ri
      rw [e] at h
      exact ⟨_, rfl, fin _ h⟩
    · obtain ⟨c, rfl, q⟩ := hv
      exact wpAny_truthy_bool q
theorem op_inG (F : FnOk X.prog X.w X.K X.mg X.base CX0 n f fd ps sp) (hb : Binds X.K fd ps []) (m : Meth X.K C "__eq__" f) (N : NoKind X.K C) (hr : Room (n + 1) X.A) : OpR X (compareOp .In) (rInG C sp id) := by
  intro pins s σ H x y v u Q I rx ry h
  show wpAny _ X.A (do return Value.bool (← contains u v)) _ _ s
  exact wpAny_bind (wpAny_mono (op_inG' F hb m N hr I rx ry h) (fun b s' q => wpAny_pure q) fun _ _ z => z)
end
end Wl

/-! bool(x), x of an own class with a __len__ of its own -/
namespace Wl
open PySem PySem.Spec PyProof.Rows L2
section
variable {prog : Program} {w : World} {A : Around} {E : Value → Shared → Prop} {s : Shared} {K : PySem.W.Frag} {x C f : Addr} {ox : Obj} {od : Option Obj}
theorem truthy_len {Q : Bool → Shared → Prop} (X : K.In s.heap) (I : PySem.W.InstAt s.heap x ox C od) (hb : PySem.W.findIn K (.ref C) "__bool__" = some none) (hs : PySem.W.findIn K (.ref C) "__len__" = some (some (.ref f))) (hf : PySem.W.isFn K (.ref f) = true)
    (h : wpAny (model prog w) A.in1 (call (.ref f) [.ref x]) (fun r s' => ∃ (n : Nat) (t : Tok), r = .int (n : Int) t ∧ n < 2 ^ 62 ∧ ∀ k, Q (n != 0) { s' with toks := k }) E s) : wpAny (model prog w) A (truthy (.ref x)) Q E s := by
  unfold truthy
  refine wpAny_bind (m := callSpecial? (.ref x) (Str.ofString "__bool__")) (wpAny_bind (wpAny_bind (I.type.here ((PySem.W.looks_findIn X hb).here (wpAny_pure ?_)))))
  refine wpAny_bind (wpAny_bind (I.type.here ((PySem.W.looks_findIn X hs).here ?_)))
  show wpAny _ _ (if (some (Value.ref f)).isNone = true then _ else _) _ _ _
  rw [if_neg (by simp)]
  refine wpAny_bind (m := runValue (.builtin "len" ⟨[.ref x], []⟩)) (wpAny_runValue (codeAny_builtin entry_len ?_))
  rw [Around.under_plainId plain_len _]
  unfold Builtin.«len»
  refine wpAny_bind (m := oneArg "len" _) (wpAny_pure ?_)
  refine wpAny_bind (m := callSpecial? (.ref x) (Str.ofString "__len__")) (PySem.W.special_fn X I hs (beq_iff_eq.mp hf) (wpAny_mono h (fun r s' hr => ?_) fun _ _ y => y))
  obtain ⟨n, t, rfl, hn, q⟩ := hr
  refine wpAny_bind (wpAny_holding (wpAny_pure ?_))
  refine wpAny_bind (wpAny_letGo ?_)
  show wpAny _ _ (if (n : Int) < 0 then _ else _) _ _ _
  rw [if_neg (by omega)]
  show wpAny _ _ (if (n : Int) ≥ 2 ^ 63 then _ else _) _ _ _
  rw [if_neg (by omega)]
  refine wpAny_bind (wpAny_mkInt (wpAny_pure ?_))
  refine wpAny_pure ?_
  have e : (((n : Int)) != 0) = (n != 0) := by
    cases n with
    | zero => rfl
    | succ k => simp; omega
  rw [e]
  exact q _
open PySem.Sem (wp) in
theorem bool_new : MeetsIn prog w (Builtin.«bool.__new__» ⟨[.type "bool", .ref x], []⟩) (fun A R s => wpAny (model prog w) A.in1 (truthy (.ref x)) (fun b s' => R (.ok (.ret (.bool b))) s') (fun e s' => R (.error e) s') s) := fun A R s h => by
  have f1 := F.conv_sub_bool
  unfold Builtin.«bool.__new__»
  refine wpAny_bind (wpAny_pure ?_)
  refine wpAny_bind (m := isSubtype (.type "bool") (.type "bool")) ?_
  rw [f1]
  refine wpAny_pure ?_
  refine wpAny_bind (m := someArgs "bool" 0 1 _) (wpAny_pure ?_)
  exact wpAny_bind (wpAny_mono h (fun b s' q => wpAny_pure q) fun _ _ e => e)
end
section
variable {X : Cx} {n : Nat} {f : Addr} {fd : FuncData} {ps : List Str} {sp : Sp} {C : Addr}
/-- bool(o) -/
def rBoolO (C : Addr) (sp : Sp) : List V → Hp → VK → Prop := fun xs H Q => ∃ a dx fs, xs = [V.ref a] ∧ H a = some (.ins C dx fs) ∧ sp [.ref a] H (fun v H' => ∃ k : Nat, v = .int (k : Int) ∧ k < 2 ^ 62 ∧ Q (.bl (k != 0)) H') E0
theorem cr_boolO (F : FnOk X.prog X.w X.K X.mg X.base CX0 n f fd ps sp) (hb : Binds X.K fd ps []) (m : Meth X.K C "__len__" f) (nb : PySem.W.findIn X.K (.ref C) "__bool__" = some none) (hr : Room (n + 3) X.A) : CallR X (.type "bool") (rBoolO C sp) := by
  intro pins s σ H xs us Q I r h
  obtain ⟨a, dx, fs, rfl, ha, hsp⟩ := h
  obtain ⟨u, rfl, ru⟩ := vals1 r
  obtain rfl : u = Value.ref a := ru
  obtain ⟨mA, J, _⟩ := ins_get I.hok ha
  obtain ⟨od, J, _⟩ := J.look
  refine callType_newIn PySem.F.called_bool PySem.F.newNe_bool (PySem.F.typeCall_bool_1 _) (PySem.F.newCall_bool_1 _) (fun obj => PySem.F.args_object_init_2 obj _) PySem.F.entry_bool_new bool_new ?_
  refine truthy_len I.kIn J nb m.at_ m.fn (wpAny_mono (run_own F hb (Sub.in1 (Sub.in1 (Sub.in1 ⟨hr, rfl⟩))) I (v1 a) hsp) (fun v s' hq => ?_) fun _ _ z => z)
  obtain ⟨z, H', I', rz, k, rfl, hk, q⟩ := hq
  obtain ⟨t, rfl⟩ := rz
  exact ⟨k, t, rfl, hk, fun tk => ⟨rfl, .bl (k != 0), H', I'.tok _, rfl, q⟩⟩
end
end Wl

/-! x in ys, where ys holds things of several own classes and others; [x] == [y] -/
namespace Wl
open PySem PySem.Spec PyProof.Rows L2
section
variable {X : Cx} {n : Nat} {f : Addr} {fd : FuncData} {ps : List Str} {sp : Sp} {C : Addr}
/-- how a thing that stands in a list or tuple is held beside x at a -/
def EqIt (X : Cx) (It : Addr → Hp → V → Bool → Prop) : Prop := ∀ (pins : List (Addr × Obj)) (s : Shared) (σ : L2.St) (H H' : Hp) (a : Addr) (z : V) (u : Value) (c : Bool), L2.Inv X pins σ H' s → Same H H' → RelV z u → It a H z c →
  wpAny (model X.prog X.w) X.A.in1 (eqBool u (.ref a)) (fun b s' => b = c ∧ ∃ H'', L2.Inv X pins σ H'' s' ∧ Same H H'') X.xe s
theorem EqIt.or {I1 I2 : Addr → Hp → V → Bool → Prop} (h1 : EqIt X I1) (h2 : EqIt X I2) : EqIt X (fun a H z c => I1 a H z c ∨ I2 a H z c) := fun pins s σ H H' a z u c I s0 rz it =>
  it.elim (h1 pins s σ H H' a z u c I s0 rz) (h2 pins s σ H H' a z u c I s0 rz)
def ItG (C : Addr) (sp : Sp) : Addr → Hp → V → Bool → Prop := fun a H z c => (∃ dx fs, H a = some (.ins C dx fs)) ∧ ItemOk C a sp H z c
theorem eqIt_G (F : FnOk X.prog X.w X.K X.mg X.base CX0 n f fd ps sp) (hb : Binds X.K fd ps []) (m : Meth X.K C "__eq__" f) (N : NoKind X.K C) (hr : Room (n + 1) X.A) : EqIt X (ItG C sp) := fun pins s σ H H' a z u c I s0 rz ⟨⟨dx, fs, ha⟩, it⟩ =>
  eq_item F hb m N (Sub.in1 ⟨hr, rfl⟩) I s0 ha rz it
/-- a thing of another own class, asked by its == -/
def ItO (K : PySem.W.Frag) (C : Addr) (sp : Sp) : Addr → Hp → V → Bool → Prop := fun a H z c => ∃ b dy gs t, z = .ref b ∧ b ≠ a ∧ H b = some (.ins C dy gs) ∧ (∀ H', Same H H' → TyX K H' (.ref a) t) ∧ PySem.W.notFirst K C t = true ∧
  ∀ H', Same H H' → sp [.ref b, .ref a] H' (fun v H'' => ∃ r, v = .bl r ∧ r = c ∧ Same H' H'') E0
theorem eqIt_O (F : FnOk X.prog X.w X.K X.mg X.base CX0 n f fd ps sp) (hb : Binds X.K fd ps []) (m : Meth X.K C "__eq__" f) (hr : Room (n + 1) X.A) : EqIt X (ItO X.K C sp) := by
  intro pins s σ H H' a z u c I s0 rz it
  obtain ⟨b, dy, gs, t, rfl, hne, hb', ty, nf, hsp⟩ := it
  cases rz
  refine GQ.eqBool_refG hne (wpAny_mono (rc_eqT F hb m (Sub.in1 ⟨hr, rfl⟩) I (s0 _ _ hb') (y := .ref a) rfl (ty H' s0) nf (Q := fun r H'' => r = c ∧ Same H' H'') (hsp H' s0)) (fun v s' hq => ?_) fun _ _ x => x)
  obtain ⟨r, rfl, H'', I', rfl, s2⟩ := hq
  exact ⟨_, rfl, rfl, H'', I', s0.trans s2⟩
/-- x in ys, item by item -/
def rInZ (It : Addr → Hp → V → Bool → Prop) (g : Bool → Bool) : R2 := fun x y H Q => ∃ a l xs cs, x = V.ref a ∧ y = V.ref l ∧ (H l = some (.lst xs) ∨ H l = some (.tup xs)) ∧ Each (It a H) xs cs ∧ ∀ H', Same H H' → Q (.bl (g (cs.any id))) H'
theorem op_inZ' {It : Addr → Hp → V → Bool → Prop} (hI : EqIt X It) {g : Bool → Bool} {pins : List (Addr × Obj)} {s : Shared} {σ : L2.St} {H : Hp} {x y : V} {v u : Value} {Q : VK} (I : L2.Inv X pins σ H s) (rx : RelV x v) (ry : RelV y u) (h : rInZ It g x y H Q) :
    wpAny (model X.prog X.w) X.A (contains u v) (fun b s' => EP X pins σ Q (.bool (g b)) s') X.xe s := by
  obtain ⟨a, l, xs, cs, rfl, rfl, hl, hE, q⟩ := h
  cases rx
  cases ry
  have lc : xs.length = cs.length := hE.length
  -- one item
  have turn : ∀ (its : List Value) (r : Vals xs its) (i : Nat) (hi : i < its.length) (s' : Shared), (∃ H', L2.Inv X pins σ H' s' ∧ Same H H' ∧ (cs.take i).any id = false) → wpAny (model X.prog X.w) X.A.in1 (eqBool its[i] (.ref a)) (fun b s2 => if b = true then (∃ H', L2.Inv X pins σ H' s2 ∧ Same H H' ∧ cs.any id = true) else ∃ H', L2.Inv X pins σ H' s2 ∧ Same H H' ∧ (cs.take (i + 1)).any id = false) X.xe s' := fun its r i hi s' ⟨H', I', s0, ht⟩ => by
    obtain ⟨z, hz, rz⟩ := Vals.at r hi
    obtain ⟨hzl, ez⟩ := List.getElem?_eq_some_iff.mp hz
    obtain ⟨c, hc, it⟩ := Each.at hE hzl
    rw [ez] at it
    refine wpAny_mono (hI pins s' σ H H' a z _ c I' s0 rz it) (fun b s2 hq => ?_) fun _ _ e => e
    obtain ⟨rfl, H'', I'', s2'⟩ := hq
    refine ite_b (fun e => ?_) (fun e => ?_)
    · refine ⟨H'', I'', s2', ?_⟩
      rw [List.any_eq_true]
      exact ⟨_, List.mem_of_getElem? hc, e⟩
    · refine ⟨H'', I'', s2', ?_⟩
      rw [List.take_add_one, hc, List.any_append, ht, Bool.false_or]
      simpa using e
  have fin : ∀ (s' : Shared), (∃ H', L2.Inv X pins σ H' s' ∧ Same H H' ∧ (cs.take xs.length).any id = false) → EP X pins σ Q (.bool (g false)) s' := fun s' ⟨H', I', s0, ht⟩ => by
    rw [lc, List.take_length] at ht
    have := q H' s0
    rw [ht] at this
    exact ⟨.bl (g false), H', I', rfl, this⟩
  have good : ∀ (s' : Shared), (∃ H', L2.Inv X pins σ H' s' ∧ Same H H' ∧ cs.any id = true) → EP X pins σ Q (.bool (g true)) s' := fun s' ⟨H', I', s0, ht⟩ => by
    have := q H' s0
    rw [ht] at this
    exact ⟨.bl (g true), H', I', rfl, this⟩
  rcases hl with hl | hl
  · obtain ⟨z, its, k, r, ho⟩ := I.hok l _ hl
    have ri : its.length = xs.length := r.length.symm
    refine wpAny_contains_slot ⟨_, ho, rfl⟩ PySem.F.slot_list_contains (wpAny_mono (GQ.call_here PySem.F.slot_list_contains ⟨_, ho, rfl⟩ PySem.F.entry_list_contains (PySem.F.args_list_contains_2 _ _)
      (containsV (R := wants (fun v s' => ∃ c, v = .bool c ∧ EP X pins σ Q (.bool (g c)) s') X.xe) (N := xs.length) (fun i s' => ∃ H', L2.Inv X pins σ H' s' ∧ Same H H' ∧ (cs.take i).any id = false) (fun i s' h => ?_) (fun s' h => ?_) ⟨H, I, Same.refl H, rfl⟩)) (fun v s' hv => ?_) fun _ _ e => e)
    · obtain ⟨H', I', s0, h3⟩ := id h
      obtain ⟨z', its', k', r', ho'⟩ := I'.hok l _ (s0 _ _ hl)
      refine ⟨its'.toArray, k', ho', by simpa using r'.length.symm, fun hi => ?_⟩
      have hi' : i < its'.length := by simpa using hi
      have t := turn its' r' i hi' s' h
      have e : its'.toArray[i] = its'[i] := by simp
      rw [e]
      refine wpAny_mono t (fun b s2 hq => ?_) fun _ _ e => e
      cases b with
      | true =>
        rw [if_pos rfl] at hq ⊢
        exact ⟨_, rfl, good _ hq⟩
      | false =>
        rw [if_neg (by decide)] at hq ⊢
        exact hq
    · exact ⟨_, rfl, fin _ h⟩
    · obtain ⟨c, rfl, q⟩ := hv
      exact wpAny_truthy_bool q
  · obtain ⟨its, r, ⟨⟨cls, dd, data, sl⟩, ho, hc, n', hd⟩, _⟩ := I.tuple (.inl (.inl hl))
    simp only at hc hd
    subst hc hd
    have ri : its.length = xs.length := r.length.symm
    refine wpAny_contains_slot ⟨_, ho, rfl⟩ PySem.F.slot_tuple_contains (wpAny_mono (GQ.call_here PySem.F.slot_tuple_contains ⟨_, ho, rfl⟩ PySem.F.entry_tuple_contains (PySem.F.args_tuple_contains_2 _ _)
      (containsT (R := wants (fun v s' => ∃ c, v = .bool c ∧ EP X pins σ Q (.bool (g c)) s') X.xe) (items := its.toArray) (fun i s' => ∃ H', L2.Inv X pins σ H' s' ∧ Same H H' ∧ (cs.take i).any id = false) (fun i hi s' h => ?_) (fun s' h => ?_) ho ⟨H, I, Same.refl H, rfl⟩)) (fun v s' hv => ?_) fun _ _ e => e)
    · have hi' : i < its.length := by simpa using hi
      have t := turn its r i hi' s' h
      have e : its.toArray[i] = its[i] := by simp
      rw [e]
      refine wpAny_mono t (fun b s2 hq => ?_) fun _ _ e => e
      cases b with
      | true =>
        rw [if_pos rfl] at hq ⊢
        exact ⟨_, rfl, good _ hq⟩
      | false =>
        rw [if_neg (by decide)] at hq ⊢
        exact hq
    · have e : its.toArray.size = xs.length := by simpa using ri
      rw [e] at h
      exact ⟨_, rfl, fin _ h⟩
    · obtain ⟨c, rfl, q⟩ := hv
      exact wpAny_truthy_bool q
theorem op_inZ {It : Addr → Hp → V → Bool → Prop} (hI : EqIt X It) : OpR X (compareOp .In) (rInZ It id) := by
  intro pins s σ H x y v u Q I rx ry h
  show wpAny _ X.A (do return Value.bool (← contains u v)) _ _ s
  exact wpAny_bind (wpAny_mono (op_inZ' hI I rx ry h) (fun b s' q => wpAny_pure q) fun _ _ z => z)
theorem op_notInZ {It : Addr → Hp → V → Bool → Prop} (hI : EqIt X It) : OpR X (compareOp .NotIn) (rInZ It not) := by
  intro pins s σ H x y v u Q I rx ry h
  show wpAny _ X.A (do return Value.bool (!(← contains u v))) _ _ s
  exact wpAny_bind (wpAny_mono (op_inZ' hI I rx ry h) (fun b s' q => wpAny_pure q) fun _ _ z => z)
open GQ MeetsSeq MeetsSeq2 MeetsSeq3 SeqRoads2 in
open AutoSeq1 (wpAny_loadPart') in
theorem rc_eqL1 {prog : Program} {w : World} {A : Around} {E : Value → Shared → Prop} {s : Shared} {l m : Addr} {x y : Value} {k k2 : Nat} {Q : Value → Shared → Prop} (hu : A.units < cLine)
    (hl : s.heap.get? l = some { cls := .type "list", data := .seq #[x] k }) (hm : s.heap.get? m = some { cls := .type "list", data := .seq #[y] k2 })
    (h : wpAny (model prog w) A.in1 (eqBool x y) (fun c s' => (∃ k, s'.heap.get? l = some { cls := .type "list", data := .seq #[x] k }) ∧ (∃ k, s'.heap.get? m = some { cls := .type "list", data := .seq #[y] k }) ∧ Q (.bool c) s') E s) :
    wpAny (model prog w) A (richCompare .Eq (.ref l) (.ref m)) Q E s := by
  refine wpAny_richCompare_same_room (op := .Eq) ⟨_, hl, rfl⟩ ⟨_, hm, rfl⟩ PySem.F.slot_list_eq (GQ.call_here PySem.F.slot_list_eq ⟨_, hl, rfl⟩ PySem.F.entry_list_eq (PySem.F.args_list_eq_2 _ _) ?_) hu
  have two : ∀ (s2 : Shared) (k k2 : Nat), s2.heap.get? l = some { cls := .type "list", data := .seq #[x] k } → s2.heap.get? m = some { cls := .type "list", data := .seq #[y] k2 } → Q (.bool true) s2 →
      wpAny (model prog w) A.in1 (Builtin.«list.__eq__.loop» ⟨[.ref l, .ref m, rawInt 1, rawInt 2], []⟩) (FinOf prog w A (wants (fun v s' => v ≠ .notImplemented ∧ Q v s') E)) (fun e s' => wants (fun v s' => v ≠ .notImplemented ∧ Q v s') E (.error e) s') s2 := by
    intro s2 k k2 h1 h2 q
    obtain ⟨hp, g, d, tk, os⟩ := s2
    wp_walk using wpAny_loadPart' h1, wpAny_loadPart' h2
    exact ⟨(fun z => nomatch z), q⟩
  have one : wpAny (model prog w) A.in1 (Builtin.«list.__eq__.loop» ⟨[.ref l, .ref m, rawInt 0, rawInt 2], []⟩) (FinOf prog w A (wants (fun v s' => v ≠ .notImplemented ∧ Q v s') E)) (fun e s' => wants (fun v s' => v ≠ .notImplemented ∧ Q v s') E (.error e) s') s := by
    obtain ⟨hp, g, d, tk, os⟩ := s
    obtain ⟨items, eI⟩ : ∃ items : Array Value, items = #[x] := ⟨_, rfl⟩
    obtain ⟨items2, eJ⟩ : ∃ items : Array Value, items = #[y] := ⟨_, rfl⟩
    have hl' := hl
    have hm' := hm
    rw [← eI] at hl'
    rw [← eJ] at hm'
    have i1 : items[(0 : Int).toNat]? = some x := by rw [eI]; rfl
    have i2 : items2[(0 : Int).toNat]? = some y := by rw [eJ]; rfl
    wp_walk using wpAny_loadPart' hl', wpAny_loadPart' hm'
    rw [i1, i2]
    refine wpAny_bind (wpAny_mono h (fun c s2 hq => ?_) fun _ _ z => z)
    obtain ⟨⟨k3, h3⟩, ⟨k4, h4⟩, q⟩ := hq
    cases c with
    | true =>
      have hrec := two s2 k3 k4 h3 h4 q
      obtain ⟨hp2, g2, d2, tk2, os2⟩ := s2
      wp_walk
      exact ⟨plainId_quiet plain_eq_loop _, codeAny_builtin entry_eq_loop (by
        rw [Around.under_plainId plain_eq_loop _]
        exact hrec)⟩
    | false =>
      obtain ⟨hp2, g2, d2, tk2, os2⟩ := s2
      wp_walk using wpAny_loadPart' h3, wpAny_loadPart' h4
      exact ⟨(fun z => nomatch z), q⟩
  obtain ⟨hp, g, d, tk, os⟩ := s
  have f3 := AutoSeq1.sub_list_list
  wp_walk using wpAny_loadPart' hl, wpAny_loadPart' hm
  exact ⟨plainId_quiet plain_eq_loop _, codeAny_builtin entry_eq_loop (by
    rw [Around.under_plainId plain_eq_loop _]
    exact one)⟩
/-- [x] == [y], both of one own class -/
def rEqL1 (C : Addr) (sp : Sp) : R2 := fun x y H Q => ∃ l m a b dx fs dy gs, x = V.ref l ∧ y = V.ref m ∧ H l = some (.lst [.ref a]) ∧ H m = some (.lst [.ref b]) ∧ H a = some (.ins C dx fs) ∧ H b = some (.ins C dy gs) ∧ (a = b → Q (.bl true) H) ∧
  (a ≠ b → sp [.ref a, .ref b] H (fun v H' => ∃ c, v = .bl c ∧ Same H H' ∧ Q (.bl c) H') E0)
theorem op_eqL1 (F : FnOk X.prog X.w X.K X.mg X.base CX0 n f fd ps sp) (hb : Binds X.K fd ps []) (m : Meth X.K C "__eq__" f) (hr : Room (n + 1) X.A) : OpR X (compareOp .Eq) (rEqL1 C sp) := by
  intro pins s σ H x y v u Q I rx ry h
  obtain ⟨l, m', a, b, dx, fs, dy, gs, rfl, rfl, hl, hm, ha, hb', q1, q2⟩ := h
  cases rx
  cases ry
  have back : ∀ (s' : Shared) (H' : Hp), L2.Inv X pins σ H' s' → Same H H' → (∃ k, s'.heap.get? l = some { cls := .type "list", data := .seq #[.ref a] k }) ∧ (∃ k, s'.heap.get? m' = some { cls := .type "list", data := .seq #[.ref b] k }) := fun s' H' I' s0 => by
    obtain ⟨_, its, k, r, ho⟩ := I'.hok l _ (s0 _ _ hl)
    obtain ⟨u, rfl, ru⟩ := vals1 r
    obtain rfl : u = Value.ref a := ru
    obtain ⟨_, its, k2, r, ho2⟩ := I'.hok m' _ (s0 _ _ hm)
    obtain ⟨u, rfl, ru⟩ := vals1 r
    obtain rfl : u = Value.ref b := ru
    exact ⟨⟨k, ho⟩, ⟨k2, ho2⟩⟩
  obtain ⟨⟨k, ho⟩, ⟨k2, ho2⟩⟩ := back s H I (Same.refl H)
  show wpAny (model X.prog X.w) X.A (richCompare .Eq (.ref l) (.ref m')) (EP X pins σ Q) X.xe s
  refine rc_eqL1 hr.units0 ho ho2 ?_
  by_cases e : a = b
  · subst e
    exact SeqAt.EqAt.same (A := X.A.in1) (s := s) (.ref a) X.prog X.w X.xe _ ⟨⟨k, ho⟩, ⟨k2, ho2⟩, .bl true, H, I, rfl, q1 rfl⟩
  · refine GQ.eqBool_refG e (wpAny_mono (rc_eqO F hb m (Sub.in1 ⟨hr, rfl⟩) I ha hb' (Q := fun c H' => Same H H' ∧ Q (.bl c) H') (q2 e)) (fun v s' hq => ?_) fun _ _ z => z)
    obtain ⟨c, rfl, H', I', s1, q⟩ := hq
    obtain ⟨b1, b2⟩ := back s' H' I' s1
    exact ⟨c, rfl, b1, b2, .bl c, H', I', rfl, q⟩
end
end Wl

namespace Wl
open PySem PySem.Spec PyProof.Rows L2
/-- one promise or another -/
def spOr (a b : Sp) : Sp := fun vs H Q E => a vs H Q E ∨ b vs H Q E
theorem FnOk.or2 {P : Program} {w : World} {K : PySem.W.Frag} {mg : Str → Option Value} {base : Heap} {CX : CXT} {k : Nat} {f : Addr} {fd : FuncData} {ps : List Str} {sp sp' : Sp} (F : FnOk P w K mg base CX k f fd ps sp) (F' : FnOk P w K mg base CX k f fd ps sp') : FnOk P w K mg base CX k f fd ps (spOr sp sp') :=
  ⟨fun vs H Q E h => h.elim (F.len vs H Q E) (F'.len vs H Q E), fun A outer s H args us vs Q E hr he hb hv hs => hs.elim (F.run A outer s H args us vs Q E hr he hb hv) (F'.run A outer s H args us vs Q E hr he hb hv)⟩
abbrev sGEq : Stmt := inClass (topS 53) 10
abbrev sMEq : Stmt := inClass (topS 59) 7
/-- things of built-in kinds are no objects of the class -/
structure KitNo (K : PySem.W.Frag) (C : Addr) : Prop where
  non : PySem.W.kitOne K (.type "NoneType") (.ref C) = some false
  bl : PySem.W.kitOne K (.type "bool") (.ref C) = some false
  int : PySem.W.kitOne K (.type "int") (.ref C) = some false
  str : PySem.W.kitOne K (.type "str") (.ref C) = some false
  lst : PySem.W.kitOne K (.type "list") (.ref C) = some false
  tup : PySem.W.kitOne K (.type "tuple") (.ref C) = some false
  dK : PySem.W.kitOne K (.type "dict") (.ref C) = some false
theorem KitNo.at {K : PySem.W.Frag} {C : Addr} {H : Hp} {y : V} {T : String} (k : KitNo K C) (o : OthV H y T) : PySem.W.kitOne K (.type T) (.ref C) = some false := by
  cases o with
  | non => exact k.non
  | bl b => exact k.bl
  | int i => exact k.int
  | str z => exact k.str
  | lst e => exact k.lst
  | tup e => exact k.tup
  | dK e => exact k.dK
section
variable {P : Program} {w : World} {K : PySem.W.Frag} {mg : Str → Option Value} {base : Heap} {f C D W : Addr} {fd : FuncData}
/-- == of a thing that is none of the class -/
def spEqX (K : PySem.W.Frag) (C : Addr) : Sp := fun vs H Q _ => ∃ (p : Addr) (y : V) (t : Value), vs = [.ref p, y] ∧ TyX K H y t ∧ PySem.W.kitOne K t (.ref C) = some false ∧ Q (.bl false) H
theorem ok_leqx (F : Fun K "__eq__" "Land.__eq__" sEq f fd) (B : Bi mg) (T : Txt2 K mg C) : FnOk P w K mg base CX0 1 f fd ["self", "other"] (spEqX K C) := by
  refine F.ok scEq (fun vs H Q E h => ?_) (fun cdv A outer s H vs Q E hr h => ?_)
  · obtain ⟨p, y, t, rfl, _⟩ := h
    rfl
  · obtain ⟨p, y, t, rfl, ty, k, q⟩ := h
    refine ⟨_, pss_one (ps_ret (pe_and (pe_callB call_isi (by rfl) B.isi (by decide +kernel) (pa_cons (pv 1) (pa_cons (pe_glob (v := .ref C) rfl T.t.mgC rfl) pa_nil))) (pe_one (pe_cmpR (op_eqD hr.units) (pe_fld (pv 0) rfl) (pe_fld (pv 1) rfl) (nomark _))))), ?_⟩
    exact ⟨_, rfl, _, _, _, _, _, rfl, .own C, ty, k, false, rfl, iteF q⟩
theorem scGEq : FnScope ["self", "other"] ["self", "other"] (defScope sGEq) := ⟨rfl, rfl, rfl, by decide +kernel, rfl, by decide +kernel, by decide +kernel⟩
theorem ok_geqx (F : Fun K "__eq__" "Gathering.__eq__" sGEq f fd) (B : Bi mg) (T : TxtG K mg D) : FnOk P w K mg base CX0 1 f fd ["self", "other"] (spEqX K D) := by
  refine F.ok scGEq (fun vs H Q E h => ?_) (fun cdv A outer s H vs Q E hr h => ?_)
  · obtain ⟨p, y, t, rfl, _⟩ := h
    rfl
  · obtain ⟨p, y, t, rfl, ty, k, q⟩ := h
    refine ⟨_, pss_one (ps_ret (pe_and (pe_callB call_isi (by rfl) B.isi (by decide +kernel) (pa_cons (pv 1) (pa_cons (pe_glob (v := .ref D) rfl T.mgD rfl) pa_nil))) (pe_and (pe_cmpR (op_eqD hr.units) (pe_fld (pv 0) rfl) (pe_fld (pv 1) rfl) (nomark _)) (pe_one (pe_cmpR (op_eqD hr.units) (pe_callB (cr_sortD hr.units) (by rfl) B.sorted (by decide +kernel) (pa_cons (pe_fld (pv 0) rfl) pa_nil)) (pe_callB (cr_sortD hr.units) (by rfl) B.sorted (by decide +kernel) (pa_cons (pe_fld (pv 1) rfl) pa_nil)) (nomark _)))))), ?_⟩
    exact ⟨_, rfl, _, _, _, _, _, rfl, .own D, ty, k, false, rfl, iteF q⟩
theorem scMEq : FnScope ["self", "other"] ["self", "other"] (defScope sMEq) := ⟨rfl, rfl, rfl, by decide +kernel, rfl, by decide +kernel, by decide +kernel⟩
theorem ok_meqx (F : Fun K "__eq__" "WordMap.__eq__" sMEq f fd) (B : Bi mg) (T : TxtM K mg W) : FnOk P w K mg base CX0 1 f fd ["self", "other"] (spEqX K W) := by
  refine F.ok scMEq (fun vs H Q E h => ?_) (fun cdv A outer s H vs Q E hr h => ?_)
  · obtain ⟨p, y, t, rfl, _⟩ := h
    rfl
  · obtain ⟨p, y, t, rfl, ty, k, q⟩ := h
    refine ⟨_, pss_one (ps_ret (pe_and (pe_callB call_isi (by rfl) B.isi (by decide +kernel) (pa_cons (pv 1) (pa_cons (pe_glob (v := .ref W) rfl T.mgW rfl) pa_nil))) (pe_and (pe_cmpR (op_eqD hr.units) (pe_fld (pv 0) rfl) (pe_fld (pv 1) rfl) (nomark _)) (pe_one (pe_cmpR (op_eqD hr.units) (pe_fld (pv 0) rfl) (pe_fld (pv 1) rfl) (nomark _)))))), ?_⟩
    exact ⟨_, rfl, _, _, _, _, _, rfl, .own W, ty, k, false, rfl, iteF q⟩
end
end Wl


namespace Wl
open PySem PySem.Spec PyProof.Rows L2
section
variable {P : Program} {w : World} {K : PySem.W.Frag} {mg : Str → Option Value} {base : Heap} {f C D W : Addr} {fd : FuncData}
/-- two classes, neither a kind of the other -/
structure Apart2 (K : PySem.W.Frag) (C D : Addr) : Prop where
  s1 : PySem.W.notFirst K C (.ref D) = true
  s2 : PySem.W.notFirst K D (.ref C) = true
  k1 : PySem.W.kitOne K (.ref D) (.ref C) = some false
  k2 : PySem.W.kitOne K (.ref C) (.ref D) = some false
theorem ins_ty {H : Hp} {a dx : Addr} {fs : List (Str × V)} (c : C8.InsC K C) (h : H a = some (.ins C dx fs)) : TyX K H (.ref a) (.ref C) := .base (.ins h c.cl c.ha c.hn c.htk c.hm)
theorem any_false {α : Type} (xs : List α) : (xs.map fun _ => false).any id = false := by
  rw [List.any_map]
  simp
end
end Wl



namespace Wl
open PySem PySem.Spec PyProof.Rows L2
theorem rows_true : ∀ {xs zs : List V}, Each (fun (x z : V) => z = V.bl true) xs zs → zs = (xs.map fun _ => true).map V.bl
  | [], [], _ => rfl
  | [], _ :: _, h => nomatch h
  | _ :: _, [], h => nomatch h
  | x :: xs, z :: zs, .cons e t => by
    rw [e, rows_true t]
    rfl
theorem all_true {α : Type} (xs : List α) : ((xs.map fun _ => true).all id) = true := by
  rw [List.all_map]
  simp
section
variable {P : Program} {w : World} {K : PySem.W.Frag} {mg : Str → Option Value} {base : Heap} {f C D W : Addr} {fd : FuncData}
/-! ### is it due -/
/-! ### two Lands -/
abbrev spLE (K : PySem.W.Frag) (C : Addr) : Sp := spOr (spLEq C) (spEqX K C)
theorem le_land {C : Addr} {H : Hp} {p L q M : Addr} {g g' : Grid} {wd wd' : Nat} {Q : VK} {E : XK} (h1 : LandAt C H p L g) (gd : Good g wd) (h2 : LandAt C H q M g') (gd' : Good g' wd') (h : Q (.bl (decide (g = g'))) H) : spLE K C [.ref p, .ref q] H Q E := .inl ⟨p, L, q, M, g, g', wd, wd', rfl, h1, gd, h2, gd', h⟩
end
end Wl



/-! d == e of two dicts of the same texts, their values told by data. -/
namespace Wl
open PySem PySem.Spec PyProof.Rows L2
def rEqDT (K : PySem.W.Frag) : R2 := fun x y H Q => ∃ (a b : Addr) (nms : List Str) (f g : Str → V) (fd gd : Str → PyData), x = .ref a ∧ y = .ref b ∧ H a = some (.dK (kvZ f nms)) ∧ H b = some (.dK (kvZ g nms)) ∧
  (∀ z ∈ nms, Dp K H (f z) (fd z) ∧ Dp K H (g z) (gd z) ∧ (fd z).canLay0 = true ∧ (gd z).canLay0 = true ∧ (fd z).depth ≤ 3) ∧ Q (.bl (nms.all fun z => PyData.eqv (fd z) (gd z))) H
theorem kv_mem {f : Str → V} : ∀ {nms : List Str} {va : List (Key × Value)}, KV (kvZ f nms) va → ∀ {k : Key} {v : Value}, (k, v) ∈ va → ∃ z ∈ nms, k = Sum.inr z ∧ RelV (f z) v
  | [], va, r, k, v, h => by
    cases r
    cases h
  | z :: nms, va, r, k, v, h => by
    have r' : Paired (fun (p : Key × V) (q : Key × Value) => p.1 = q.1 ∧ RelV p.2 q.2) ((Sum.inr z, f z) :: kvZ f nms) va := r
    cases r' with
    | cons e t =>
      rcases List.mem_cons.mp h with h1 | h1
      · obtain ⟨e1, e2⟩ := e
        rw [← h1] at e1 e2
        exact ⟨z, List.mem_cons_self, e1.symm, e2⟩
      · obtain ⟨y, hy, q⟩ := kv_mem (f := f) (nms := nms) t h1
        exact ⟨y, List.mem_cons_of_mem _ hy, q⟩
theorem kv_keys {f : Str → V} : ∀ {nms : List Str} {va : List (Key × Value)}, KV (kvZ f nms) va → va.map (·.1) = nms.map Sum.inr
  | [], va, r => by
    cases r
    rfl
  | z :: nms, va, r => by
    have r' : Paired (fun (p : Key × V) (q : Key × Value) => p.1 = q.1 ∧ RelV p.2 q.2) ((Sum.inr z, f z) :: kvZ f nms) va := r
    cases r' with
    | cons e t =>
      rw [List.map_cons, List.map_cons, kv_keys (f := f) (nms := nms) t, ← e.1]
section
variable {X : Cx}
theorem op_eqDT (hu : X.A.units + 64 < cLine) : OpR X (compareOp .Eq) (rEqDT X.K) := by
  intro pins s σ H x y v u Q I rx ry h
  obtain ⟨a, b, nms, f, g, fd, gd, rfl, rfl, ea, eb, hv, q⟩ := h
  obtain rfl : v = Value.ref a := rx
  obtain rfl : u = Value.ref b := ry
  obtain ⟨_, ya, va, ra, da⟩ := (show ObjOk X.prog X.w H s.heap a (.dK (kvZ f nms)) from I.hok a _ ea)
  obtain ⟨_, yb, vb, rb, db⟩ := (show ObjOk X.prog X.w H s.heap b (.dK (kvZ g nms)) from I.hok b _ eb)
  let e : Key → Bool := fun k => match k with
    | .inl _ => true
    | .inr z => PyData.eqv (fd z) (gd z)
  refine PySem.W.eq_dictsT (knd := mixKind X.prog X.w) (n := 3) (e := e) ya yb da db (fun k v' y' hm hva => ?_) (by omega) ?_
  · obtain ⟨z, hz, rfl, rv⟩ := kv_mem ra hm
    have rr := rb.val (Sum.inr z : Key)
    rw [valV_in hz] at rr
    obtain ⟨y2, hy2, ry2⟩ := rr.some_of
    rw [hva] at hy2
    obtain rfl := Option.some.inj hy2
    obtain ⟨d1, d2, c1, c2, dp⟩ := hv z hz
    obtain ⟨as, r1⟩ := Dp.reads I _ _ _ d1 rv
    obtain ⟨bs, r2⟩ := Dp.reads I _ _ _ d2 ry2
    exact .leaf fun A hA => SeqAt.eqAt_reads _ _ A s _ _ _ _ r1 r2 c1 c2 (by
      have := Nat.min_le_left (fd z).depth (gd z).depth
      omega)
  · have e1 : va.length = nms.length := by
      have := congrArg List.length (kv_keys ra)
      simpa using this
    have e2 : vb.length = nms.length := by
      have := congrArg List.length (kv_keys rb)
      simpa using this
    have e3 : (va.all fun p => (valueAt vb p.1).isSome && e p.1) = nms.all fun z => PyData.eqv (fd z) (gd z) := by
      have h1 : (va.all fun p => (valueAt vb p.1).isSome && e p.1) = (va.map (·.1)).all fun k => (valueAt vb k).isSome && e k := by
        rw [List.all_map]
        rfl
      rw [h1, kv_keys ra, List.all_map, Bool.eq_iff_iff, List.all_eq_true, List.all_eq_true]
      have sm : ∀ z ∈ nms, (valueAt vb (Sum.inr z : Key)).isSome = true := fun z hz => by
        have rr := rb.val (Sum.inr z : Key)
        rw [valV_in hz] at rr
        obtain ⟨y2, hy2, _⟩ := rr.some_of
        rw [hy2]
        rfl
      constructor
      · intro h z hz
        have := h z hz
        simp only [Function.comp, Bool.and_eq_true] at this
        exact this.2
      · intro h z hz
        simp only [Function.comp, Bool.and_eq_true]
        exact ⟨sm z hz, h z hz⟩
    rw [e3, e1, e2]
    refine ⟨.bl _, H, I, ?_, q⟩
    show _ = Value.bool _
    simp
end
end Wl

namespace Wl
open PySem PySem.Spec PyProof.Rows L2
/-- what two maps have alike -/
def mEqB (r r' : MR) : Bool := decide (r.g = r'.g) && (sortS (names r.g)).all fun y => decide (r.said y = r'.said y)
theorem mEqB_iff {r r' : MR} : mEqB r r' = true ↔ r.g = r'.g ∧ ∀ y ∈ names r.g, r.said y = r'.said y := by
  unfold mEqB
  rw [Bool.and_eq_true, decide_eq_true_eq, List.all_eq_true]
  exact ⟨fun ⟨a, b⟩ => ⟨a, fun y hy => of_decide_eq_true (b y (mem_sortS.mpr hy))⟩, fun ⟨a, b⟩ => ⟨a, fun y hy => decide_eq_true (b y (mem_sortS.mp hy))⟩⟩
theorem mEqB_symm (r r' : MR) : mEqB r r' = mEqB r' r := by
  rw [Bool.eq_iff_iff, mEqB_iff, mEqB_iff]
  exact ⟨fun ⟨a, b⟩ => ⟨a.symm, fun y hy => (b y (a ▸ hy)).symm⟩, fun ⟨a, b⟩ => ⟨a.symm, fun y hy => (b y (a ▸ hy)).symm⟩⟩
theorem said_data {K : PySem.W.Frag} {H : Hp} {nms : List Str} {said : Str → List Str} {ad : Str → Addr} (h : ∀ z ∈ nms, H (ad z) = some (.tup ((said z).map V.str))) (hw : ∀ y ∈ nms, ∀ z ∈ said y, IsWd z) : ∀ z ∈ nms, Dp K H (.ref (ad z)) (.tuple ((said z).map PyData.str)) ∧ (PyData.tuple ((said z).map PyData.str)).canLay0 = true ∧ (PyData.tuple ((said z).map PyData.str)).depth ≤ 3 := fun z hz => by
  refine ⟨.tup (.inl (.inl (h z hz))) (dp_strs _), ?_, ?_⟩
  · simpa [PyData.canLay0] using lay_strs (hw z hz)
  · simp only [PyData.depth]
    have := depth_strs (said z)
    omega
theorem eqv_strs (a b : List Str) : PyData.eqv (.tuple (a.map PyData.str)) (.tuple (b.map PyData.str)) = decide (a = b) := by
  simp only [PyData.eqv]
  exact strs_eqv a b
/-- a map whose words are words -/
structure MapG (C W : Addr) (H : Hp) (p : Addr) (r : MR) : Prop where
  at_ : MapAt C W H p r
  gd : ∃ wd, Good r.g wd
  wds : ∀ y ∈ names r.g, ∀ z ∈ r.said y, IsWd z
  len : ∀ y ∈ names r.g, (r.said y).length ≤ 200
theorem MapG.keep {C W : Addr} {H H' : Hp} {p : Addr} {r : MR} (h : MapG C W H p r) (k : Keep H H') : MapG C W H' p r := ⟨h.at_.keep k, h.gd, h.wds, h.len⟩
theorem MapG.same {C W : Addr} {H H' : Hp} {p : Addr} {r : MR} (h : MapG C W H p r) (s : Same H H') : MapG C W H' p r := h.keep (kp_same s)
theorem map_ref_inj : ∀ {as bs : List Addr}, as.map V.ref = bs.map V.ref → as = bs
  | [], [], _ => rfl
  | [], _ :: _, e => by simp at e
  | _ :: _, [], e => by simp at e
  | a :: as, b :: bs, e => by
    simp only [List.map_cons, List.cons.injEq, V.ref.injEq] at e
    rw [e.1, map_ref_inj e.2]
theorem map_str_inj : ∀ {as bs : List Str}, as.map V.str = bs.map V.str → as = bs
  | [], [], _ => rfl
  | [], _ :: _, e => by simp at e
  | _ :: _, [], e => by simp at e
  | a :: as, b :: bs, e => by
    simp only [List.map_cons, List.cons.injEq, V.str.injEq] at e
    rw [e.1, map_str_inj e.2]
theorem rows_uniq {H : Hp} : ∀ {as : List Addr} {g g' : Grid}, RowsAt H as g → RowsAt H as g' → g = g'
  | _, _, _, .nil, .nil => rfl
  | _, _, _, .cons r t, .cons r' t' => by
    rw [r] at r'
    rw [map_oV_inj (HO.tup.inj (Option.some.inj r')), rows_uniq t t']
theorem land_uniq {C : Addr} {H : Hp} {p L L' : Addr} {g g' : Grid} (h : LandAt C H p L g) (h' : LandAt C H p L' g') : g = g' := by
  obtain ⟨d1, x1, a1, b1, c1⟩ := h
  obtain ⟨d2, x2, a2, b2, c2⟩ := h'
  rw [a1] at a2
  have l3 := HO.ins.inj (Option.some.inj a2)
  have f3 := congrArg (fun l => l.lookup ("rows" : Str)) l3.2.2
  simp only [lf_rows, Option.some.injEq, V.ref.injEq] at f3
  obtain ⟨as, h1, r1⟩ := c1
  obtain ⟨as2, h2, r2⟩ := c2
  rw [← f3, h1] at h2
  have : as = as2 := map_ref_inj (HO.tup.inj (Option.some.inj h2))
  subst this
  exact rows_uniq r1 r2
theorem kvZ_inj {f g : Str → V} : ∀ {l : List Str}, kvZ f l = kvZ g l → ∀ z ∈ l, f z = g z
  | [], _, z, h => (List.not_mem_nil h).elim
  | y :: l, e, z, h => by
    have e' : (Sum.inr y, f y) :: kvZ f l = ((Sum.inr y, g y) :: kvZ g l : List (Key × V)) := e
    obtain ⟨e1, e2⟩ := List.cons.inj e'
    rcases List.mem_cons.mp h with rfl | h
    · exact (Prod.mk.inj e1).2
    · exact kvZ_inj e2 z h
/-- a map is alike to itself -/
theorem map_self {C W : Addr} {H : Hp} {p : Addr} {r r' : MR} (h : MapAt C W H p r) (h' : MapAt C W H p r') : mEqB r r' = true := by
  obtain ⟨x1, a1, b1, e1⟩ := h.at_
  obtain ⟨x2, a2, b2, e2⟩ := h'.at_
  rw [e1] at e2
  have l3 := (HO.ins.inj (Option.some.inj e2)).2.2
  have f1 := congrArg (fun l => l.lookup ("land" : Str)) l3
  have f2 := congrArg (fun l => l.lookup ("said" : Str)) l3
  simp only [mf_land, mf_said, Option.some.injEq, V.ref.injEq] at f1 f2
  have hl := h.land
  have hl' := h'.land
  rw [← f1] at hl'
  have eg := land_uniq hl hl'
  refine mEqB_iff.mpr ⟨eg, fun y hy => ?_⟩
  obtain ⟨ad, k1, k2⟩ := h.said
  obtain ⟨ad', k1', k2'⟩ := h'.said
  rw [← f2, ← eg, k1] at k1'
  have ek := HO.dK.inj (Option.some.inj k1')
  have ea : V.ref (ad y) = V.ref (ad' y) := kvZ_inj ek y (mem_sortS.mpr hy)
  have t1 := k2 y (mem_sortS.mpr hy)
  have t2 := k2' y (by rw [← eg]; exact mem_sortS.mpr hy)
  rw [← V.ref.inj ea, t1] at t2
  exact map_str_inj (HO.tup.inj (Option.some.inj t2))
section
variable {P : Program} {w : World} {K : PySem.W.Frag} {mg : Str → Option Value} {base : Heap} {f C D W : Addr} {fd : FuncData}
/-- == of two maps -/
def spMEq (C W : Addr) : Sp := fun vs H Q _ => ∃ (p q : Addr) (r r' : MR), vs = [.ref p, .ref q] ∧ MapG C W H p r ∧ MapG C W H q r' ∧ Q (.bl (mEqB r r')) H
theorem ok_meq (F : Fun K "__eq__" "WordMap.__eq__" sMEq f fd) (B : Bi mg) (TM : TxtM K mg W) (ins : C8.InsC K W) (hE : HasM P w K mg base C "__eq__" 1 ["self", "other"] (spLE K C)) : FnOk P w K mg base CX0 2 f fd ["self", "other"] (spMEq C W) := by
  obtain ⟨fE, fdE, FE, mE, bE⟩ := hE
  refine F.ok scMEq (fun vs H Q E h => ?_) (fun cdv A outer s H vs Q E hr h => ?_)
  · obtain ⟨p, q, r, r', rfl, _⟩ := h
    rfl
  · obtain ⟨p, q, r, r', rfl, h1, h2, qq⟩ := h
    refine ⟨_, pss_one (ps_ret (pe_and (pe_callB (C8.call_isC (C := W) ins) (by rfl) B.isi (by decide +kernel) (pa_cons (pv 1) (pa_cons (pe_glob (v := .ref W) rfl TM.mgW rfl) pa_nil))) (pe_and (pe_cmpR (op_eqO FE bE mE (hr.mono (by decide))) (pe_fld (pv 0) rfl) (pe_fld (pv 1) rfl) (nomark _)) (pe_one (pe_cmpR (op_eqDT hr.units) (pe_fld (pv 0) rfl) (pe_fld (pv 1) rfl) (nomark _)))))), ?_⟩
    obtain ⟨dx, a, b, i1⟩ := h1.at_.at_
    obtain ⟨dy, a', b', i2⟩ := h2.at_.at_
    obtain ⟨dl, d1, l1⟩ := h1.at_.land.ins
    obtain ⟨dl2, d2, l2⟩ := h2.at_.land.ins
    obtain ⟨wd, gd⟩ := h1.gd
    obtain ⟨wd', gd'⟩ := h2.gd
    refine ⟨_, rfl, q, dy, _, rfl, i2, true, rfl, iteT ⟨_, rfl, p, W, dx, _, _, rfl, i1, TM.cl, TM.nL, mf_land _ _ _ _ _ _, _, rfl, q, W, dy, _, _, rfl, i2, TM.cl, TM.nL, mf_land _ _ _ _ _ _, r.pl, dl, _, r'.pl, dl2, _, rfl, rfl, l1, l2, le_land h1.at_.land gd h2.at_.land gd' ⟨_, rfl, _, rfl, ?_⟩⟩⟩
    refine ite_b (fun e => ?_) (fun e => ?_)
    · have eg : r.g = r'.g := of_decide_eq_true e
      obtain ⟨ad, k1, k2⟩ := h1.at_.said
      obtain ⟨ad', k1', k2'⟩ := h2.at_.said
      rw [← eg] at k1' k2'
      have w1 := said_data (K := K) k2 fun y hy => h1.wds y (mem_sortS.mp hy)
      have w2 := said_data (K := K) k2' fun y hy => h2.wds y (by rw [← eg]; exact mem_sortS.mp hy)
      refine ⟨_, rfl, p, W, dx, _, _, rfl, i1, TM.cl, TM.nA, mf_said _ _ _ _ _ _, _, rfl, q, W, dy, _, _, rfl, i2, TM.cl, TM.nA, mf_said _ _ _ _ _ _, r.sd, r'.sd, sortS (names r.g), _, _, (fun z => .tuple ((r.said z).map PyData.str)), (fun z => .tuple ((r'.said z).map PyData.str)), rfl, rfl, k1, k1', fun z hz => ⟨(w1 z hz).1, (w2 z hz).1, (w1 z hz).2.1, (w2 z hz).2.1, (w1 z hz).2.2⟩, ?_⟩
      have eb : mEqB r r' = (sortS (names r.g)).all fun z => PyData.eqv (.tuple ((r.said z).map PyData.str)) (.tuple ((r'.said z).map PyData.str)) := by
        unfold mEqB
        rw [decide_eq_true eg, Bool.true_and]
        congr 1
        funext y
        exact (eqv_strs _ _).symm
      rw [← eb]
      exact qq
    · have eg : ¬ r.g = r'.g := of_decide_eq_false e
      have eb : mEqB r r' = false := by
        unfold mEqB
        rw [decide_eq_false eg, Bool.false_and]
      rw [eb] at qq
      exact qq
abbrev spME (K : PySem.W.Frag) (C W : Addr) : Sp := spOr (spMEq C W) (spEqX K W)
/-- two maps -/
structure TwoM (C W : Addr) (H : Hp) (p q : Addr) (r r' : MR) : Prop where
  g1 : MapG C W H p r
  g2 : MapG C W H q r'
theorem TwoM.symm {H : Hp} {p q : Addr} {r r' : MR} (h : TwoM C W H p q r r') : TwoM C W H q p r' r := ⟨h.g2, h.g1⟩
theorem TwoM.same {H H' : Hp} {p q : Addr} {r r' : MR} (h : TwoM C W H p q r r') (s : Same H H') : TwoM C W H' p q r r' := ⟨h.g1.same s, h.g2.same s⟩
theorem me_reads {H : Hp} {p q : Addr} {r r' : MR} {Q : VK} {E : XK} (h : TwoM C W H p q r r') (k : Q (.bl (mEqB r r')) H) : spME K C W [.ref p, .ref q] H Q E := .inl ⟨p, q, r, r', rfl, h.g1, h.g2, k⟩
end
end Wl

/-! a or b as a value, a of any kind with a truth. -/
namespace Wl
open PySem PySem.Spec PyProof.Rows L2
section
variable {X : Cx} {a b : Expr} {rest : List Expr} {pos : Pos} {ta tb : TE}
def tOrT (K : PySem.W.Frag) (ta tb : TE) : TE := fun σ H Q => ta σ H fun x H1 => ∃ k, TruV K x H1 k ∧ (if k = true then Q x H1 else tb σ H1 Q)
theorem pe_orT (ha : PE X a ta) (hb : PE X (.BoolOp .Or (b :: rest) pos) tb) : PE X (.BoolOp .Or (a :: b :: rest) pos) (tOrT X.K ta tb) := by
  refine ⟨fun pins s σ H Q I h => ?_⟩
  refine BoolOp_or (thn (ha.run pins s σ H _ I h) fun v s1 ⟨x, H1, I1, r1, k, hk, q1⟩ => ?_)
  refine wpAny_mono (tru_ok pins s1 σ H1 x v (fun c H2 => if c = true then Q x H2 else tb σ H2 Q) I1 r1 ⟨k, hk, q1⟩) (fun c s2 hq => ?_) fun _ _ z => z
  obtain ⟨H2, I2, q2⟩ := hq
  cases c with
  | true => exact ⟨x, H2, I2, r1, q2⟩
  | false => exact hb.run pins s2 σ H2 Q I2 q2
end
end Wl

namespace Wl
open PySem PySem.Spec PyProof.Rows L2
abbrev sMPart : Stmt := inClass sMap 6
abbrev sMStr : Stmt := inClass sMap 9
abbrev sMRepr : Stmt := inClass sMap 10

abbrev sDiff : Stmt := topS 61
theorem mf_thing (pl : Addr) (z : Str) (S a b c : Addr) : (mf pl z S a b c).lookup ("thing" : Str) = some (.str z) := by
  unfold mf m5 m4 m3 m2
  rw [lookup_putF, if_neg (by decide +kernel), lookup_putF, if_neg (by decide +kernel), lookup_putF, if_neg (by decide +kernel), lookup_putF, if_neg (by decide +kernel), lookup_putF, if_pos rfl]
/-- what stands in a map's text -/
def partM (said : Str → List Str) : Option Str → Str
  | none => "-"
  | some y => if (said y).isEmpty = true then "?" else Txt.join "+" (said y)
theorem partM_some (said : Str → List Str) (y : Str) : partM said (some y) = if (said y).isEmpty = true then ("?" : Str) else Txt.join "+" (said y) := rfl
def lineM (said : Str → List Str) (row : Row) : Str := Txt.join " " (row.map (partM said))
def mapS (said : Str → List Str) (g : Grid) : Str := Txt.join "\n" (g.map (lineM said))
theorem joinS_len {sep : Str} {l : List Str} {m : Nat} (h : ∀ z ∈ l, z.length ≤ m) : (Txt.join sep l).length ≤ l.length * (m + sep.length) := by
  rw [TL.len_tl, TL.join_eq, TL.tl_join]
  have := join_size (S := TL.tl sep) (m := m) (ps := l.map TL.tl) fun p hp => by
    obtain ⟨z, hz, rfl⟩ := List.mem_map.mp hp
    rw [← TL.len_tl]
    exact h z hz
  rw [List.length_map, ← TL.len_tl] at this
  exact this
theorem joinS_pos {sep : Str} {l : List Str} (h : ∀ z ∈ l, 1 ≤ z.length) (ne : l ≠ []) : 0 < (Txt.join sep l).length := by
  rw [TL.len_tl, TL.join_eq, TL.tl_join]
  match l, ne with
  | [z], _ =>
    have := h z List.mem_cons_self
    rw [TL.len_tl] at this
    exact this
  | z :: y :: r, _ =>
    have := h z List.mem_cons_self
    rw [TL.len_tl] at this
    show 0 < (TL.tl z ++ (TL.tl sep ++ TL.joinL (TL.tl sep) (TL.tl y :: r.map TL.tl))).length
    rw [List.length_append]
    omega
def OkM (said : Str → List Str) (o : Option Str) : Prop := ∀ y, o = some y → (said y).length ≤ 200 ∧ ∀ z ∈ said y, IsWd z
theorem partM_len {said : Str → List Str} {o : Option Str} (h : OkM said o) : (partM said o).length ≤ 1800 := by
  cases o with
  | none =>
    show ("-" : Str).length ≤ 1800
    decide +kernel
  | some y =>
    obtain ⟨h1, h2⟩ := h y rfl
    rw [partM_some]
    split
    · decide +kernel
    · have e : ("+" : Str).length = 1 := by decide +kernel
      have := joinS_len (sep := "+") (l := said y) (m := 8) fun z hz => (h2 z hz).len.2
      rw [e] at this
      omega
theorem lineM_len {said : Str → List Str} {row : Row} (h : ∀ o ∈ row, OkM said o) (h6 : row.length ≤ 6) : (lineM said row).length ≤ 10806 := by
  have e : (" " : Str).length = 1 := by decide +kernel
  have := joinS_len (sep := " ") (l := row.map (partM said)) (m := 1800) fun z hz => by
    obtain ⟨o, ho, rfl⟩ := List.mem_map.mp hz
    exact partM_len (h o ho)
  rw [e, List.length_map] at this
  unfold lineM
  omega
theorem part_in {g : Grid} : ∀ r ∈ g, ∀ o ∈ r, ∀ y, o = some y → y ∈ names g := fun r hr o ho y e => by
  unfold names
  rw [List.mem_filterMap]
  exact ⟨o, List.mem_flatten.mpr ⟨r, hr, ho⟩, e⟩
theorem linesM_of {said : Str → List Str} {H : Hp} : ∀ {as : List Addr} {g : Grid} {zs : List V}, RowsAt H as g → Each (fun (x z : V) => ∀ (pr : Addr) (row : Row), x = .ref pr → H pr = some (.tup (row.map oV)) → z = .str (lineM said row)) (as.map V.ref) zs → zs = (g.map (lineM said)).map V.str
  | [], [], [], _, _ => rfl
  | [], [], _ :: _, _, h => nomatch h
  | [], _ :: _, _, h, _ => nomatch h
  | _ :: _, [], _, h, _ => nomatch h
  | _ :: _, _ :: _, [], _, h => nomatch h
  | a :: as, r :: g, z :: zs, .cons e t, .cons e' t' => by
    rw [e' a r rfl e, linesM_of t t']
    rfl
def showM (said : Str → List Str) : V → V
  | .str y => .str (partM said (some y))
  | _ => .str "-"
section
variable {P : Program} {w : World} {K : PySem.W.Frag} {mg : Str → Option Value} {base : Heap} {f C D W : Addr} {fd : FuncData}
theorem MapG.ok {H : Hp} {p : Addr} {r : MR} (h : MapG C W H p r) : ∀ row ∈ r.g, ∀ o ∈ row, OkM r.said o := fun row hr o ho y e => by
  have hy := part_in row hr o ho y e
  exact ⟨h.len y hy, h.wds y hy⟩
/-! ### a part shown -/
def spPart (C W : Addr) : Sp := fun vs H Q _ => ∃ (p : Addr) (r : MR) (o : Option Str), vs = [.ref p, oV o] ∧ MapG C W H p r ∧ (∀ y, o = some y → y ∈ names r.g) ∧ Q (.str (partM r.said o)) H
theorem scPart : FnScope ["self", "part"] ["self", "part"] (defScope sMPart) := ⟨rfl, rfl, rfl, by decide +kernel, rfl, by decide +kernel, by decide +kernel⟩
theorem ok_part (F : Fun K "show_part" "WordMap.show_part" sMPart f fd) (TM : TxtM K mg W) (hlk : ∃ t, mg "LAKE" = some (.str "-" t)) (hna : ∃ t, mg "NOT_ASKED" = some (.str "?" t)) : FnOk P w K mg base CX0 1 f fd ["self", "part"] (spPart C W) := by
  obtain ⟨tl, gl⟩ := hlk
  obtain ⟨tn, gn⟩ := hna
  refine F.ok scPart (fun vs H Q E h => ?_) (fun cdv A outer s H vs Q E hr h => ?_)
  · obtain ⟨p, r, o, rfl, _⟩ := h
    rfl
  · obtain ⟨p, r, o, rfl, hM, ho, q⟩ := h
    have hu := hu_of hr
    refine ⟨_, pss_cons (ps_if (pt_cmp (pc_isN (pv 1))) (pss_one (ps_ret (pe_glob (v := .str "-") (by rfl) gl ⟨_, rfl⟩))) pss_nil)
      (pss_one (ps_ret (pe_ifExp (pt_truth (pe_dget hu (pe_fld (pv 0) rfl) (pv 1) (fun _ _ => rfl)) (fun _ => rfl)) (pe_join pe_str (pe_dget hu (pe_fld (pv 0) rfl) (pv 1) (fun _ _ => rfl))) (pe_glob (v := .str "?") (by rfl) gn ⟨_, rfl⟩)))), ?_⟩
    obtain ⟨dx, a, b, hp⟩ := hM.at_.at_
    refine ⟨_, rfl, _, rfl, ?_⟩
    cases o with
    | none => exact iteT q
    | some y =>
      have hy := ho y rfl
      obtain ⟨t, ht1, ht2⟩ := hM.at_.said.get (mem_sortS.mpr hy)
      refine iteF ⟨_, rfl, p, W, dx, _, _, rfl, hp, TM.cl, TM.nA, mf_said _ _ _ _ _ _, _, rfl, r.sd, _, rfl, ht1, !((r.said y).map V.str).isEmpty, .inr (.inl ⟨_, .inl (.inl ht2), rfl⟩), ?_⟩
      cases e : (r.said y).isEmpty with
      | true =>
        have e2 : ((r.said y).map V.str).isEmpty = true := by
          rw [List.isEmpty_iff.mp e]
          rfl
        rw [e2]
        refine iteF ?_
        have e3 : partM r.said (some y) = "?" := by
          rw [partM_some, if_pos e]
        rw [e3] at q
        exact q
      | false =>
        have e2 : ((r.said y).map V.str).isEmpty = false := by
          cases k : r.said y with
          | nil =>
            rw [k] at e
            cases e
          | cons _ _ => rfl
        rw [e2]
        refine iteT ⟨⟨_, rfl⟩, _, rfl, p, W, dx, _, _, rfl, hp, TM.cl, TM.nA, mf_said _ _ _ _ _ _, _, rfl, r.sd, _, rfl, ht1, _, t, r.said y, rfl, rfl, .inr (.inl (.inl ht2)), ?_, ?_⟩
        · have := sum_len (l := r.said y) (m := 8) fun z hz => (hM.wds y hy z hz).len.2
          have l := hM.len y hy
          have e1 : ("+" : Str).length = 1 := by decide +kernel
          rw [e1]
          omega
        · have e3 : partM r.said (some y) = Txt.join "+" (r.said y) := by
            rw [partM_some, if_neg (by rw [e]; decide)]
          rw [e3] at q
          exact q
/-! ### the text -/
def spMStr (C W : Addr) : Sp := fun vs H Q _ => ∃ (p : Addr) (r : MR), vs = [.ref p] ∧ MapG C W H p r ∧ ∀ (H' : Hp), Same H H' → Q (.str (mapS r.said r.g)) H'
abbrev nMStr : List Str := ["self", "row", "part"]
theorem scMStr : FnScope nMStr ["self"] (defScope sMStr) := ⟨rfl, rfl, rfl, by decide +kernel, rfl, by decide +kernel, by decide +kernel⟩
theorem ok_mstr (F : Fun K "__str__" "WordMap.__str__" sMStr f fd) (T : Txt K mg C) (TM : TxtM K mg W) (hP : HasM P w K mg base W "show_part" 1 ["self", "part"] (spPart C W)) : FnOk P w K mg base CX0 2 f fd ["self"] (spMStr C W) := by
  refine F.ok scMStr (fun vs H Q E h => ?_) (fun cdv A outer s H vs Q E hr h => ?_)
  · obtain ⟨p, r, rfl, _⟩ := h
    rfl
  · obtain ⟨p, r, rfl, hM, q⟩ := h
    refine ⟨_, pss_one (ps_ret (pe_join pe_str (pe_lc (own := [("row", 1)]) (g := gName 1) (tt := tYes) (te := tM1 (fun x xs H Q => ∃ a p, ∃ ys : List Str, x = .str a ∧ xs = [.ref p] ∧ (SqL K H p (ys.map V.str) ∨ SqT K H p (ys.map V.str)) ∧ (ys.map (·.length)).sum + ys.length * a.length ≤ 16777216 ∧ Q (.str (Txt.join a ys)) H) (tC (.str " ")) (tLc (iTup K (tVar 1)) (gName 2) tYes (tMeth W "show_part" (spPart C W) [] E0 (tVar 0) (tCons (tVar 2) tNil)) [2])) rfl scMStr.nd (pi_tup (pe_fld (pe_fld (pv 0) rfl) rfl)) (blkOk_by (N := nMStr) (sc := defScope sMStr) (by decide +kernel)) (fun _ _ _ _ _ => pg_name (i := 1) scMStr.nd rfl (.inl rfl)) (fun _ _ _ _ _ => pts_nil)
      (fun _ _ _ _ _ => pe_join pe_str (pe_lc (own := [("part", 2)]) (g := gName 2) (tt := tYes) (te := tMeth W "show_part" (spPart C W) [] E0 (tVar 0) (tCons (tVar 2) tNil)) rfl scMStr.nd (pi_tup (pv 1)) (blkOk_by (N := nMStr) (sc := { kind := .function, names := [(".0", .local), ("row", .local), ("self", .cell)], isGenerator := false, isCoroutine := false }) (by decide +kernel)) (fun _ _ _ _ _ => pg_name (i := 2) scMStr.nd rfl (.inl rfl)) (fun _ _ _ _ _ => pts_nil) (fun _ _ _ _ _ => pe_hm hP TM.cl hr (pv 0) (pa_cons (pv 2) pa_nil))))))), ?_⟩
    obtain ⟨dx, a, b, hp⟩ := hM.at_.at_
    obtain ⟨d, dl, i1, _, as, hL, hR⟩ := hM.at_.land
    obtain ⟨wd, gd⟩ := hM.gd
    refine ⟨⟨_, rfl⟩, _, rfl, p, W, dx, _, _, rfl, hp, TM.cl, TM.nL, mf_land _ _ _ _ _ _, r.pl, C, dl, _, _, rfl, i1, T.cl, T.nR, lf_rows _ _, r.L, rfl, ⟨_, .inl (.inl hL)⟩, fun Dd hD => ?_⟩
    have h6 : as.length ≤ 6 := by rw [hR.length]; exact gd.h6
    refine lc_rel (walk_tup (K := K) (a := r.L) (xs := as.map V.ref)) hD (fun _ => true) (fun x y _ => ∀ (pr : Addr) (row : Row), x = .ref pr → H pr = some (.tup (row.map oV)) → y = .str (lineM r.said row)) (fun H' s' => .inl (.inl (s' _ _ hL))) (fun _ => rfl) (fun x H' _ _ Q' q' => q') ?_ (fun _ _ _ _ _ _ _ r => r) ?_ ?_
    · intro x H' hx _ s' Q' q'
      obtain ⟨pr, hpr, rfl⟩ := List.mem_map.mp hx
      obtain ⟨i, hi, ei⟩ := List.mem_iff_getElem.mp hpr
      obtain ⟨row, hrow, hH⟩ := hR.get (i := i) (a := pr) (by rw [List.getElem?_eq_getElem hi, ei])
      have hrm := List.mem_of_getElem? hrow
      have hr6 : row.length ≤ 6 := gd.six row hrm
      have hM' := hM.same s'
      refine ⟨⟨_, rfl⟩, _, rfl, pr, rfl, ⟨_, .inl (.inl (s' _ _ hH))⟩, fun D2 hD2 => ?_⟩
      refine lc_map (walk_tup (K := K) (a := pr) (xs := row.map oV)) hD2 (fun _ => true) (showM r.said) (fun H2 s2 => .inl (.inl (s2 _ _ (s' _ _ hH)))) (fun _ => rfl) (fun x H' _ _ Q' q' => q') ?_ ?_ ?_
      · intro x H2 hx2 _ s2 Q2 q2
        obtain ⟨o, ho, rfl⟩ := List.mem_map.mp hx2
        have hM2 := hM'.same s2
        obtain ⟨dx2, a2, b2, hp2⟩ := hM2.at_.at_
        refine ⟨_, rfl, p, dx2, _, rfl, hp2, mf_no _ _ _ _ _ _, _, rfl, p, r, o, rfl, hM2, fun y e => part_in row hrm o ho y e, ?_⟩
        cases o with
        | none => exact q2
        | some z => exact q2
      · rw [List.length_map]
        exact small1000 (by omega)
      · intro H2 s2 hD3
        have e1 : ((row.map oV).filter fun _ => true).map (showM r.said) = (row.map (partM r.said)).map V.str := by
          rw [List.filter_eq_self.mpr fun _ _ => rfl, List.map_map, List.map_map]
          refine List.map_congr_left fun o _ => ?_
          cases o <;> rfl
        rw [e1] at hD3
        refine ⟨_, D2, row.map (partM r.said), rfl, rfl, .inl (.inl (.inl hD3)), ?_, q' _ H2 s2 fun pr2 row2 e2 h2 => ?_⟩
        · have := sum_len (l := row.map (partM r.said)) (m := 1800) fun z hz => by
            obtain ⟨o, ho, rfl⟩ := List.mem_map.mp hz
            exact partM_len (hM.ok row hrm o ho)
          rw [List.length_map] at this ⊢
          have e : (" " : Str).length = 1 := by decide +kernel
          rw [e]
          omega
        · obtain rfl : pr = pr2 := V.ref.inj e2
          rw [hH] at h2
          have : row = row2 := map_oV_inj (HO.tup.inj (Option.some.inj h2))
          rw [← this]
          rfl
    · rw [List.length_map]
      exact small1000 (by omega)
    · intro zs H1 s1 hD1 he
      rw [List.filter_eq_self.mpr fun _ _ => rfl] at he
      have e1 : zs = (r.g.map (lineM r.said)).map V.str := linesM_of hR he
      rw [e1] at hD1
      refine ⟨_, Dd, r.g.map (lineM r.said), rfl, rfl, .inl (.inl (.inl hD1)), ?_, q H1 s1⟩
      have := sum_len (l := r.g.map (lineM r.said)) (m := 10806) fun z hz => by
        obtain ⟨row, hr', rfl⟩ := List.mem_map.mp hz
        exact lineM_len (hM.ok row hr') (gd.six row hr')
      rw [List.length_map] at this ⊢
      have e : ("\n" : Str).length = 1 := by decide +kernel
      have := gd.h6
      rw [e]
      omega
/-! ### repr -/
def mreprS (z : Str) : Str := ("WordMap(" : Str) ++ z ++ (")" : Str)
def spMRepr (C W : Addr) : Sp := fun vs H Q _ => ∃ (p : Addr) (r : MR), vs = [.ref p] ∧ MapAt C W H p r ∧ r.z.length ≤ 8 ∧ Q (.str (mreprS r.z)) H
theorem scMRepr : FnScope ["self"] ["self"] (defScope sMRepr) := ⟨rfl, rfl, rfl, by decide +kernel, rfl, by decide +kernel, by decide +kernel⟩
theorem ok_mrepr (F : Fun K "__repr__" "WordMap.__repr__" sMRepr f fd) (TM : TxtM K mg W) : FnOk P w K mg base CX0 1 f fd ["self"] (spMRepr C W) := by
  refine F.ok scMRepr (fun vs H Q E h => ?_) (fun cdv A outer s H vs Q E hr h => ?_)
  · obtain ⟨p, r, rfl, _⟩ := h
    rfl
  · obtain ⟨p, r, rfl, hM, h8, q⟩ := h
    refine ⟨_, pss_one (ps_ret (pe_joined (.cons pe_str (.cons (pe_fmt (pe_fld (pv 0) rfl)) (.cons pe_str .nil))))), ?_⟩
    obtain ⟨dx, a, b, hp⟩ := hM.at_
    refine ⟨_, rfl, by decide +kernel, _, rfl, p, W, dx, _, _, rfl, hp, TM.cl, TM.nT, mf_thing _ _ _ _ _ _, .inl ⟨_, rfl, lzl (by omega), _, rfl, ?_, _, rfl, ?_, ?_⟩⟩
    · exact lzl (by rw [add_len, add_len]; have : (Str.empty).length = 0 := rfl; have : ("WordMap(" : Str).length = 8 := (by decide +kernel); omega)
    · exact lzl (by rw [add_len, add_len, add_len]; have : (Str.empty).length = 0 := rfl; have : ("WordMap(" : Str).length = 8 := (by decide +kernel); have : (")" : Str).length = 1 := (by decide +kernel); omega)
    · have e0 : (Str.empty ++ ("WordMap(" : Str)) = ("WordMap(" : Str) := by decide +kernel
      show Q (.str (Str.empty ++ ("WordMap(" : Str) ++ r.z ++ (")" : Str))) H
      rw [e0]
      exact q
end
end Wl

namespace Wl
open PySem PySem.Spec PyProof.Rows L2
abbrev sCheckM : Stmt := topS 60
section
variable {P : Program} {w : World} {K : PySem.W.Frag} {mg : Str → Option Value} {base : Heap} {f C D W : Addr} {fd : FuncData}
/-! ### have -/
/-! ### check_map -/
abbrev FunC (K : PySem.W.Frag) (f : Addr) (fd : FuncData) : Prop := FunD K "check_map" "check_map" (defArgs sCheckM) (defBody sCheckM) (defScope sCheckM) [.int 0] [] f fd
def spCheckM (C W : Addr) : Sp := fun vs H Q _ => ∃ (p : Addr) (v : V) (r : MR), vs = [.ref p, v] ∧ MapAt C W H p r ∧ Q .non H
theorem scCheckM : FnScope ["thing", "place"] ["thing", "place"] (defScope sCheckM) := ⟨rfl, rfl, rfl, by decide +kernel, rfl, by decide +kernel, by decide +kernel⟩
theorem cm_b1 (F : FunC K f fd) : ∃ ds, Vals [V.int 0] ds ∧ Binds K fd ["thing", "place"] ds :=
  F.binds1 (ps := ["thing", "place"]) 1 0 (by simp) rfl (fun T kV doc pm an cdv ct us its l1 l2 => by
      match us, its, l1, l2 with
      | [_], [_], _, _ => exact ⟨_, rfl, rfl⟩)
def HasC (P : Program) (w : World) (K : PySem.W.Frag) (mg : Str → Option Value) (base : Heap) (C W : Addr) : Prop := ∃ f fd, FnOk P w K mg base CX0 1 f fd ["thing", "place"] (spCheckM C W) ∧ mg "check_map" = some (.ref f) ∧ FunC K f fd
theorem ok_checkm (F : FunC K f fd) (B : Bi mg) (TM : TxtM K mg W) (ins : C8.InsC K W) : FnOk P w K mg base CX0 1 f fd ["thing", "place"] (spCheckM C W) := by
  refine okD F scCheckM (fun vs H Q E h => ?_) (fun cdv A outer s H vs Q E hr h => ?_)
  · obtain ⟨p, v, r, rfl, _⟩ := h
    rfl
  · obtain ⟨p, v, r, rfl, hM, q⟩ := h
    refine ⟨_, pss_one (ps_if (pt_not (pt_val (pe_callB (C8.call_isC (C := W) ins) (by rfl) B.isi (by decide +kernel) (pa_cons (pv 0) (pa_cons (pe_glob (v := .ref W) rfl TM.mgW rfl) pa_nil))))) (pss_one ps_never) pss_nil), ?_⟩
    obtain ⟨dx, a, b, hp⟩ := hM.at_
    exact ⟨_, rfl, p, dx, _, rfl, hp, true, rfl, iteF q⟩
/-! ### both_asked -/
/-! ### do_part -/
end
end Wl


namespace Wl
open PySem PySem.Spec PyProof.Rows L2
def gSw {α : Type} : List α → List α → List α
  | [], [a, b] => [b, a]
  | _, _ => []
theorem gSw_rel : ∀ {vs : List V} {us : List Value} {zs : List V} {ws : List Value}, Vals vs us → Vals zs ws → Vals (gSw vs zs) (gSw us ws)
  | _, _, _, _, .cons _ _, _ => .nil
  | _, _, _, _, .nil, .nil => .nil
  | _, _, _, _, .nil, .cons a .nil => .nil
  | _, _, _, _, .nil, .cons a (.cons b .nil) => .cons b (.cons a .nil)
  | _, _, _, _, .nil, .cons a (.cons b (.cons c d)) => .nil
def keepD (f g : Str → List Str) : V → Bool
  | .str y => !decide (f y = g y)
  | _ => false
theorem keepD_filter (f g : Str → List Str) : ∀ l : List Str, (l.map V.str).filter (keepD f g) = (l.filter fun y => !decide (f y = g y)).map V.str
  | [] => rfl
  | y :: l => by
    have ih := keepD_filter f g l
    rw [List.map_cons, List.filter_cons, List.filter_cons]
    have e : keepD f g (.str y) = !decide (f y = g y) := rfl
    rw [e]
    by_cases c : (!decide (f y = g y)) = true
    · rw [if_pos c, if_pos c, ih]
      rfl
    · rw [if_neg c, if_neg c, ih]
def diffOf (g : Grid) (f h : Str → List Str) : List Str := (sortS (names g)).filter fun y => !decide (f y = h y)
theorem diff_nil {r r' : MR} (e : r.g = r'.g) : (diffOf r.g r.said r'.said).isEmpty = mEqB r r' := by
  rw [Bool.eq_iff_iff, mEqB_iff, List.isEmpty_iff]
  unfold diffOf
  rw [List.filter_eq_nil_iff]
  constructor
  · intro h
    refine ⟨e, fun y hy => ?_⟩
    have := h y (mem_sortS.mpr hy)
    simpa using this
  · rintro ⟨_, h⟩ y hy
    simp [h y (mem_sortS.mp hy)]
section
variable {P : Program} {w : World} {K : PySem.W.Frag} {mg : Str → Option Value} {base : Heap} {f C D W : Addr} {fd : FuncData}
theorem cm_b2 (F : FunC K f fd) : Binds K fd ["thing", "place"] [] := by
  obtain ⟨ds, h1, h2⟩ := F.binds1 (ps := ["thing", "place"]) 2 1 (by simp) rfl (fun T kV doc pm an cdv ct us its l1 l2 => by
      match us, its, l1, l2 with
      | [_, _], [_], _, _ => exact ⟨_, rfl, rfl⟩)
  cases h1
  exact h2
def spDiff (C W : Addr) : Sp := fun vs H Q _ => ∃ (p q : Addr) (r r' : MR), vs = [.ref p, .ref q] ∧ MapG C W H p r ∧ MapG C W H q r' ∧ r.g = r'.g ∧
  ∀ (t : Addr) (H' : Hp), H t = none → Same H H' → H' t = some (.tup ((diffOf r.g r.said r'.said).map V.str)) → Q (.ref t) H'
abbrev nDiff : List Str := ["one", "other", "name"]
theorem scDiff : FnScope nDiff ["one", "other"] (defScope sDiff) := ⟨rfl, rfl, rfl, by decide +kernel, rfl, by decide +kernel, by decide +kernel⟩
def HasD (P : Program) (w : World) (K : PySem.W.Frag) (mg : Str → Option Value) (base : Heap) (C W : Addr) : Prop := ∃ f fd, FnOk P w K mg base CX0 3 f fd ["one", "other"] (spDiff C W) ∧ mg "differences" = some (.ref f) ∧ PySem.W.keepIn K (.ref f) = true ∧ Binds K fd ["one", "other"] [] ∧ KBn K fd ["one", "other"] 0 ["other", "one"] gSw gSw
theorem HasD.pos (h : HasD P w K mg base C W) : Has P w K mg base "differences" 3 ["one", "other"] (spDiff C W) := by
  obtain ⟨f, fd, a, b, c, d, _⟩ := h
  exact ⟨f, fd, a, b, c, d⟩
theorem ok_diff (F : Fun K "differences" "differences" sDiff f fd) (B : Bi mg) (T : Txt2 K mg C) (TM : TxtM K mg W) (hC : HasC P w K mg base C W) (hE : HasM P w K mg base C "__eq__" 1 ["self", "other"] (spLE K C)) (hN : HasM P w K mg base C "names" 1 ["self"] (spLNames C)) : FnOk P w K mg base CX0 3 f fd ["one", "other"] (spDiff C W) := by
  obtain ⟨fC, fdC, FC, mC, FnC⟩ := hC
  have bC := cm_b2 FnC
  obtain ⟨fE, fdE, FE, mE, bE⟩ := hE
  refine F.ok scDiff (fun vs H Q E h => ?_) (fun cdv A outer s H vs Q E hr h => ?_)
  · obtain ⟨p, q, r, r', rfl, _⟩ := h
    rfl
  · obtain ⟨p, q, r, r', rfl, h1, h2, eg, qq⟩ := h
    have hu := hu_of hr
    refine ⟨_, pss_cons (ps_expr (pe_call FC (hr.mono (by decide)) rfl mC FnC.kp bC .nil pass0 (pa_cons (pv 0) (pa_cons pe_int pa_nil))))
      (pss_cons (ps_expr (pe_call FC (hr.mono (by decide)) rfl mC FnC.kp bC .nil pass0 (pa_cons (pv 1) (pa_cons pe_int pa_nil))))
      (pss_cons (ps_if (pt_cmpR (op_neO FE bE mE T.ne (hr.mono (by decide))) (pe_fld (pv 0) rfl) (pe_fld (pv 1) rfl) (nomark _)) (pss_one ps_never) pss_nil)
      (pss_one (ps_ret (pe_callTy call_tuple_of (by rfl) B.tuple (by decide +kernel) (pa_cons (pe_lc (own := [("name", 2)]) (g := gName 2) (tt := tTest (tOp (rNeD K) (tDGet (tFld K (tVar 0) "said") (tVar 2)) (tDGet (tFld K (tVar 1) "said") (tVar 2)))) (te := tVar 2) rfl scDiff.nd (pi_tup (pe_hm0 hN T.t.cl hr (pe_fld (pv 0) rfl))) (blkOk_by (N := nDiff) (sc := defScope sDiff) (by decide +kernel)) (fun _ _ _ _ _ => pg_name (i := 2) scDiff.nd rfl (.inl rfl))
        (fun _ _ _ _ _ => pts_one (pt_cmpR (op_neD hr.units) (pe_dget hu (pe_fld (pv 0) rfl) (pv 2) (fun _ _ => rfl)) (pe_dget hu (pe_fld (pv 1) rfl) (pv 2) (fun _ _ => rfl)) (by rfl))) (fun _ _ _ _ _ => pv 2)) pa_nil)))))), ?_⟩
    obtain ⟨dx, a, b, i1⟩ := h1.at_.at_
    obtain ⟨dy, a', b', i2⟩ := h2.at_.at_
    obtain ⟨dl, d1, l1⟩ := h1.at_.land.ins
    obtain ⟨dl2, d2, l2⟩ := h2.at_.land.ins
    obtain ⟨wd, gd⟩ := h1.gd
    obtain ⟨wd', gd'⟩ := h2.gd
    refine ⟨_, rfl, p, _, r, rfl, h1.at_, ?_⟩
    refine ⟨_, rfl, q, _, r', rfl, h2.at_, ?_⟩
    refine ⟨_, rfl, p, W, dx, _, _, rfl, i1, TM.cl, TM.nL, mf_land _ _ _ _ _ _, _, rfl, q, W, dy, _, _, rfl, i2, TM.cl, TM.nL, mf_land _ _ _ _ _ _, r.pl, dl, _, r'.pl, dl2, _, rfl, rfl, l1, l2, le_land h1.at_.land gd h2.at_.land gd' ⟨_, rfl, _, rfl, ?_⟩⟩
    have e0 : (!decide (r.g = r'.g)) = false := by
      rw [decide_eq_true eg]
      rfl
    rw [e0]
    refine iteF ?_
    refine ⟨_, rfl, p, W, dx, _, _, rfl, i1, TM.cl, TM.nL, mf_land _ _ _ _ _ _, r.pl, dl, _, rfl, l1, fs_no, r.pl, r.L, r.g, wd, rfl, h1.at_.land, gd, fun tn H2 ntn s2 htn => ⟨tn, rfl, ⟨_, .inl (.inl htn)⟩, fun Dd hD => ?_⟩⟩
    refine lc_map (walk_tup (K := K) (a := tn) (xs := (sortS (names r.g)).map V.str)) hD (keepD r.said r'.said) id (fun H' s' => .inl (.inl (s' _ _ htn))) (fun _ => rfl) ?_ ?_ ?_ ?_
    · intro x H' hx s' Q' q'
      obtain ⟨y, hy, rfl⟩ := List.mem_map.mp hx
      have s02 := s2.trans s'
      obtain ⟨t, ht1, ht2⟩ := (h1.same s02).at_.said.get hy
      obtain ⟨u, hu1, hu2⟩ := (h2.same s02).at_.said.get (show y ∈ sortS (names r'.g) by rw [← eg]; exact hy)
      have w1 : ∀ z ∈ r.said y, IsWd z := h1.wds y (mem_sortS.mp hy)
      have w2 : ∀ z ∈ r'.said y, IsWd z := h2.wds y (by rw [← eg]; exact mem_sortS.mp hy)
      refine ⟨_, rfl, p, W, dx, _, _, rfl, s02 _ _ i1, TM.cl, TM.nA, mf_said _ _ _ _ _ _, _, rfl, r.sd, _, rfl, ht1, _, rfl, q, W, dy, _, _, rfl, s02 _ _ i2, TM.cl, TM.nA, mf_said _ _ _ _ _ _, _, rfl, r'.sd, _, rfl, hu1, _, _, .tup (.inl (.inl ht2)) (dp_strs _), .tup (.inl (.inl hu2)) (dp_strs _), shaped_tuple (lay_strs w1) (by have := depth_strs (r.said y); omega), shaped_tuple (lay_strs w2) (by have := depth_strs (r'.said y); omega), _, rfl, ?_⟩
      rw [eqv_strs]
      exact q'
    · intro x H' hx _ _ Q' q'
      exact ⟨_, rfl, q'⟩
    · rw [List.length_map, sortS_len]
      exact small1000 (by have := gd.n36; omega)
    · intro H3 s3 hD3
      rw [keepD_filter] at hD3
      rw [List.map_id] at hD3
      refine ⟨Dd, _, rfl, .inl ⟨.inl (.inl hD3), fun t ht => ?_⟩⟩
      exact qq t _ ((s2.trans s3).free ht) ((s2.trans s3).trans (same_new ht)) upd_same
end
end Wl

namespace Wl
open PySem PySem.Spec PyProof.Rows L2
section
variable {K : PySem.W.Frag} {H : Hp} {Q : VK}
end
theorem wds_in {chs : List Chg} {ts : List Tel} (okc : OkCs chs) (ok : ∀ t ∈ ts, OkT t) : ∀ z ∈ wordsIn chs ts, IsWd z := fun z hz => by
  obtain ⟨t, ht, rfl⟩ := mem_wordsIn.mp hz
  exact mean_wd okc.2 (ok t ht).wo
theorem words_len (chs : List Chg) (ts : List Tel) : (wordsIn chs ts).length ≤ ts.length := by
  unfold wordsIn
  rw [sortS_len]
  refine Nat.le_trans (keysOf_len _) ?_
  rw [List.length_map]
  exact Nat.le_refl _
section
variable {P : Program} {w : World} {K : PySem.W.Frag} {mg : Str → Option Value} {base : Heap} {f C D W : Addr} {fd : FuncData}
end
end Wl


namespace Wl
open PySem PySem.Spec PyProof.Rows L2
/-- what is right of the tellings -/
structure TelOk (g : Grid) (chs : List Chg) (ts : List Tel) : Prop where
  okc : OkCs chs
  ok : ∀ t ∈ ts, OkT t
  vs : ∀ t ∈ ts, t.v ∈ names g
  len : ts.length ≤ 24
theorem asked_is {g : Grid} {wd : Nat} {chs : List Chg} {ts : List Tel} (gd : Good g wd) (ok : TelOk g chs ts) : ((sortS (names g)).filter fun y => !(wordsIn chs (ts.filter fun t => decide (t.v = y))).isEmpty) = sortS (vsOf ts) := by
  refine sortS_eq (keysOf_nodup _) ((sortS_rising gd.nd).filter _) fun z => ?_
  unfold vsOf
  rw [List.mem_filter, mem_sortS, mem_keysOf, List.mem_map]
  constructor
  · rintro ⟨_, h⟩
    cases e : wordsIn chs (ts.filter fun t => decide (t.v = z)) with
    | nil =>
      rw [e] at h
      cases h
    | cons u us =>
      obtain ⟨t, ht, _⟩ := mem_wordsIn.mp (show u ∈ wordsIn chs (ts.filter fun t => decide (t.v = z)) by rw [e]; exact List.mem_cons_self)
      obtain ⟨h1, h2⟩ := List.mem_filter.mp ht
      exact ⟨t, h1, by simpa using h2⟩
  · rintro ⟨t, ht, rfl⟩
    refine ⟨ok.vs t ht, ?_⟩
    cases e : wordsIn chs (ts.filter fun u => decide (u.v = t.v)) with
    | nil =>
      have : mean chs t.wo ∈ wordsIn chs (ts.filter fun u => decide (u.v = t.v)) := mem_wordsIn.mpr ⟨t, List.mem_filter.mpr ⟨ht, by simp⟩, rfl⟩
      rw [e] at this
      cases this
    | cons u us => rfl
theorem no_vs {ts : List Tel} {y : Str} (h : y ∉ vsOf ts) : (ts.filter fun t => decide (t.v = y)) = [] := by
  rw [List.filter_eq_nil_iff]
  intro t ht c
  exact h (mem_keysOf.mpr (List.mem_map.mpr ⟨t, ht, by simpa using c⟩))
theorem rows_nil {H : Hp} {e : Addr} {chs : List Chg} (h : H e = some (.tup [])) : RowsT H e chs [] := by
  have e0 : wordsIn chs [] = [] := List.eq_nil_of_length_eq_zero (by have := words_len chs []; simpa using this)
  refine ⟨[], h, ?_⟩
  rw [e0]
  exact .nil
/-- d.get(y, ()) -/
theorem byv_get {H : Hp} {d e : Addr} {chs : List Chg} {ts : List Tel} {y : Str} (h : ByV H d (vsOf ts) chs ts) (he : H e = some (.tup [])) : ∃ o u, DGet H d (.str y) o ∧ o.getD (.ref e) = V.ref u ∧ RowsT H u chs (ts.filter fun t => decide (t.v = y)) := by
  by_cases m : y ∈ vsOf ts
  · obtain ⟨u, h1, h2⟩ := h.get m
    exact ⟨_, u, h1, rfl, h2⟩
  · obtain ⟨ad, h1, _⟩ := h
    have := DGet.k (k := Sum.inr y) h1
    rw [valV_out m] at this
    refine ⟨none, e, this, rfl, ?_⟩
    rw [no_vs m]
    exact rows_nil he
section
variable {P : Program} {w : World} {K : PySem.W.Frag} {mg : Str → Option Value} {base : Heap} {f C D W : Addr} {fd : FuncData}
end
end Wl


/-! d != {}. -/
namespace Wl
open PySem PySem.Spec PyProof.Rows L2
section
variable {X : Cx}
def rNeD0 : R2 := fun x y H Q => ∃ a b ks, x = .ref a ∧ y = .ref b ∧ H a = some (.dK ks) ∧ H b = some (.dK []) ∧ Q (.bl (!ks.isEmpty)) H
theorem op_neD0 (hu : X.A.units < cLine) : OpR X (compareOp .NotEq) rNeD0 := by
  intro pins s σ H x y v u Q I rx ry h
  obtain ⟨a, b, ks, rfl, rfl, ea, eb, q⟩ := h
  obtain rfl : v = Value.ref a := rx
  obtain rfl : u = Value.ref b := ry
  obtain ⟨_, ya, va, ra, da⟩ := (show ObjOk X.prog X.w H s.heap a (.dK ks) from I.hok a _ ea)
  obtain ⟨_, yb, vb, rb, db⟩ := (show ObjOk X.prog X.w H s.heap b (.dK []) from I.hok b _ eb)
  have e0 : vb.length = 0 := by rw [← rb.length]; rfl
  have e1 : ks.length = va.length := ra.length
  refine PySem.W.keq_ne (knd := mixKind X.prog X.w) (r := true) ya yb da db hu (fun e => ?_) (fin_bl I q ?_)
  · rw [e0] at e
    rw [List.eq_nil_of_length_eq_zero e]
    exact .nil
  · rw [e0, ← e1]
    cases ks <;> rfl
end
end Wl

namespace Wl
open PySem PySem.Spec PyProof.Rows L2
abbrev sText : Stmt := topS 77
abbrev sTerms : Stmt := topS 78
abbrev sShownR : Stmt := topS 80
noncomputable abbrev saidT (chs : List Chg) (ts : List Tel) : Str → List Str := fun y => wordsIn chs (ts.filter fun t => decide (t.v = y))
theorem sub_len {ts : List Tel} {p : Tel → Bool} {m : Nat} (h : ts.length ≤ m) : (ts.filter p).length ≤ m := Nat.le_trans (List.length_filter_le _ _) h
theorem okM_of {g : Grid} {chs : List Chg} {ts : List Tel} (hs : TelOk g chs ts) (o : Option Str) : OkM (saidT chs ts) o := fun y _ => by
  refine ⟨Nat.le_trans (words_len _ _) (by have := sub_len (p := fun t => decide (t.v = y)) hs.len; omega), ?_⟩
  exact wds_in hs.okc fun t ht => hs.ok t (List.mem_filter.mp ht).1
section
variable {P : Program} {w : World} {K : PySem.W.Frag} {mg : Str → Option Value} {base : Heap} {f C D W : Addr} {fd : FuncData}
/-! ### what a village says -/
def spTerms : Sp := fun vs H Q _ => ∃ (a1 : Addr) (y : Str) (chs : List Chg) (ts : List Tel), vs = [.ref a1, .str y] ∧ ByV H a1 (vsOf ts) chs ts ∧ ts.length ≤ 24 ∧ ∀ (l : Addr) (H' : Hp), H l = none → Same H H' → H' l = some (.lst ((saidT chs ts y).map V.str)) → Q (.ref l) H'
theorem scTerms : FnScope ["_law_told", "_law_town", "_law_row"] ["_law_told", "_law_town"] (defScope sTerms) := ⟨rfl, rfl, rfl, by decide +kernel, rfl, by decide +kernel, by decide +kernel⟩
/-- [row[0] for row in d.get(y, ())] -/
theorem firsts_of {H8 : Hp} {t : Addr} {chs : List Chg} {ts : List Tel} {σ : L2.St} {vs : List Nat} {slot : Nat} {G2 : Addr} {Qd : Hp → Prop} (h : RowsT H8 t chs ts) (l24 : ts.length ≤ 24) (nG2 : H8 G2 = none) (hwp : ∀ x, wipe ((wipe σ vs).set slot (some x)) vs = wipe σ vs) (hsl : ∀ x, ((wipe σ vs).set slot (some x))[slot]? = some (some x))
    (q : ∀ H9, Same H8 H9 → H9 G2 = some (.lst ((wordsIn chs ts).map V.str)) → Qd H9) :
    ∃ as : List Addr, H8 t = some (.tup (as.map V.ref)) ∧ ∃ W : Nat → Nat → Hp → Prop, (∃ m, W 0 m (upd H8 G2 (.lst []))) ∧ ∀ i m H, W i m H →
      ((Itt K t).stop i H ∧ Qd H) ∨ ((Itt K t).go i H ∧ ∃ Nx : Hp → Prop, (∀ H', Nx H' → ∃ m', m' < m ∧ W (i + 1) m' H') ∧ ∀ x H', (Itt K t).yld i H x H' → gName slot x (wipe σ vs) H' fun σ2 H2 => wipe σ2 vs = wipe σ vs ∧ tYes σ2 H2 fun b H3 =>
        if b = true then tOp (rIxT K) (tVar slot) (tC (.int 0)) σ2 H3 fun y H4 => ∃ acc, H4 G2 = some (.lst acc) ∧ acc.length < sizeLine ∧ Nx (upd H4 G2 (.lst (acc ++ [y]))) else Nx H3) := by
  obtain ⟨bs, htb, hE⟩ := h
  have lw := words_len chs ts
  generalize wordsIn chs ts = ws at hE lw q
  refine ⟨bs, htb, lc_rel (walk_tup (K := K) (a := t) (xs := bs.map V.ref)) nG2 (fun _ => true) (fun x y _ => ∀ (p : Addr) (u : Str) (a b n : Int), x = .ref p → H8 p = some (.tup [.str u, .int a, .int b, .int n]) → y = .str u) (fun H' s' => .inl (.inl (s' _ _ htb))) hwp (fun x H' _ _ Q' q' => q') ?_ (fun x y H1 H2 acc _ _ h => h) (by rw [List.length_map, hE.length]; exact small1000 (by omega)) ?_⟩
  · intro x H9 hx _ s9 Q2 q2
    obtain ⟨pp, hpp, rfl⟩ := List.mem_map.mp hx
    obtain ⟨j, hj, ej⟩ := List.mem_iff_getElem.mp hpp
    obtain ⟨z, hz, hH⟩ := Each.get hE (i := j) (a := pp) (by rw [List.getElem?_eq_getElem hj, ej])
    refine ⟨_, hsl _, pp, _, _, _, rfl, rfl, .inl (.inl (s9 _ _ hH)), atI_nat (j := 0) rfl, q2 _ _ (Same.refl _) ?_⟩
    intro p' u a b n e1 e2
    cases e1
    rw [hH] at e2
    injection e2 with e2
    injection e2 with e2
    injection e2 with e2 e3
  · intro zs H9 s9 hG9 hZ
    rw [List.filter_eq_self.mpr fun _ _ => rfl] at hZ
    have ez := words_rows (H := H8) (hE.mono fun p z e => ⟨_, _, _, e⟩) hZ
    subst ez
    exact q H9 s9 hG9
theorem ok_terms (F : Fun K "_law_terms" "_law_terms" sTerms f fd) : FnOk P w K mg base CX0 1 f fd ["_law_told", "_law_town"] spTerms := by
  refine F.ok scTerms (fun vs H Q E h => ?_) (fun cdv A outer s H vs Q E hr h => ?_)
  · obtain ⟨a1, y, chs, ts, rfl, _⟩ := h
    rfl
  · obtain ⟨a1, y, chs, ts, rfl, hB, l24, q⟩ := h
    have hu := hu_of hr
    refine ⟨_, pss_one (ps_ret (pe_lc (own := [("_law_row", 2)]) (g := gName 2) (tt := tYes) (te := tOp (rIxT K) (tVar 2) (tC (.int 0))) rfl scTerms.nd (pi_tup (pe_dget2 hu (pv 0) (pv 1) (pe_tup pa_nil) ⟨rfl, rfl, rfl, rfl⟩)) (blkOk_by (N := ["_law_told", "_law_town", "_law_row"]) (sc := defScope sTerms) (by decide +kernel)) (fun _ _ _ _ _ => pg_name (i := 2) scTerms.nd rfl (.inl rfl)) (fun _ _ _ _ _ => pts_nil)
              (fun _ _ _ _ _ => pe_ix ix_tup (pv 2) pe_int (fun _ _ => rfl)))), ?_⟩
    obtain ⟨ad7, hd7, _⟩ := id hB
    refine ⟨_, rfl, a1, rfl, .inl ⟨_, .inl hd7⟩, _, rfl, lz, fun e he => ?_⟩
    have s8 := same_new (o := .tup []) he
    have he8 : upd H e (.tup []) e = some (.tup []) := upd_same
    generalize upd H e (.tup []) = H8 at s8 he8
    obtain ⟨o, t, hg, eo, hR⟩ := byv_get (y := y) (hB.keep (kp_same s8)) he8
    refine ⟨o, hg, ?_⟩
    rw [eo]
    obtain ⟨as, htb, _⟩ := id hR
    refine ⟨t, rfl, ⟨_, .inl (.inl htb)⟩, fun G2 nG2 => ?_⟩
    obtain ⟨_, _, W', hW⟩ := firsts_of (K := K) (σ := [some (.ref a1), some (.str y), none]) (vs := [2]) (slot := 2) hR (sub_len l24) nG2 (fun _ => rfl) (fun _ => rfl) fun H9 s9 hG9 => q G2 H9 (s8.free nG2) (s8.trans s9) hG9
    exact ⟨W', hW⟩
/-! ### the text -/
def spText : Sp := fun vs H Q _ => ∃ (L a1 : Addr) (g : Grid) (wd : Nat) (chs : List Chg) (ts : List Tel), vs = [.ref L, .ref a1] ∧ GridAt H L g ∧ Good g wd ∧ ByV H a1 (vsOf ts) chs ts ∧ TelOk g chs ts ∧ ∀ (H' : Hp), Same H H' → Q (.str (mapS (saidT chs ts) g)) H'
abbrev nText : List Str := ["_law_rows", "_law_told", "_law_lines", "_law_row", "_law_parts", "_law_town", "_law_seen"]
theorem scText : FnScope nText ["_law_rows", "_law_told"] (defScope sText) := ⟨rfl, rfl, rfl, by decide +kernel, rfl, by decide +kernel, by decide +kernel⟩
theorem ok_text (F : Fun K "_law_text" "_law_text" sText f fd) : FnOk P w K mg base CX0 1 f fd ["_law_rows", "_law_told"] spText := by
  refine F.ok scText (fun vs H Q E h => ?_) (fun cdv A outer s H vs Q E hr h => ?_)
  · obtain ⟨L, a1, g, wd, chs, ts, rfl, _⟩ := h
    rfl
  · obtain ⟨L, a1, g, wd, chs, ts, rfl, ⟨as, hL, hR⟩, gd, hB, hs, q⟩ := h
    have hu := hu_of hr
    refine ⟨_, pss_cons (ps_set (i := 2) scText.nd rfl (.inl rfl) (pe_lst pa_nil))
      (pss_cons (ps_for PassesOwn.never rfl (pi_tup (pv 0)) (pg_name (i := 3) scText.nd rfl (.inl rfl))
        (pss_cons (ps_set (i := 4) scText.nd rfl (.inl rfl) (pe_lst pa_nil))
        (pss_cons (ps_for PassesOwn.never rfl (pi_tup (pv 3)) (pg_name (i := 5) scText.nd rfl (.inl rfl))
          (pss_one (ps_if (pt_cmp (pc_isN (pv 5))) (pss_one (ps_expr (pe_bm PySem.F.plainAttrs_list PySem.F.slot_list_append PySem.F.type_list_append mt_append (pv 4) (pa_cons pe_str pa_nil))))
            (pss_one (ps_expr (pe_bm PySem.F.plainAttrs_list PySem.F.slot_list_append PySem.F.type_list_append mt_append (pv 4) (pa_cons (pe_orT (pe_join pe_str (pe_lc (own := [("_law_seen", 6)]) (g := gName 6) (tt := tYes) (te := tOp (rIxT K) (tVar 6) (tC (.int 0))) rfl scText.nd (pi_tup (pe_dget2 hu (pv 1) (pv 5) (pe_tup pa_nil) ⟨rfl, rfl, rfl, rfl⟩)) (blkOk_by (N := nText) (sc := defScope sText) (by decide +kernel)) (fun _ _ _ _ _ => pg_name (i := 6) scText.nd rfl (.inl rfl)) (fun _ _ _ _ _ => pts_nil)
              (fun _ _ _ _ _ => pe_ix ix_tup (pv 6) pe_int (fun _ _ => rfl)))) (pe_one pe_str)) pa_nil)))))))
        (pss_one (ps_expr (pe_bm PySem.F.plainAttrs_list PySem.F.slot_list_append PySem.F.type_list_append mt_append (pv 2) (pa_cons (pe_join pe_str (pv 4)) pa_nil)))))))
      (pss_one (ps_ret (pe_join pe_str (pv 2))))), ?_⟩
    have h6 : as.length ≤ 6 := by rw [hR.length]; exact gd.h6
    have okm : ∀ o, OkM (saidT chs ts) o := okM_of hs
    refine ⟨lz, fun Ln nLn => ?_⟩
    have s1 := same_new (o := .lst []) nLn
    have hL1 : upd H Ln (.lst []) Ln = some (.lst (((g.take 0).map (lineM (saidT chs ts))).map V.str)) := upd_same
    generalize upd H Ln (.lst []) = H1 at s1 hL1
    refine ⟨_, rfl, L, rfl, ⟨_, .inl (.inl (s1 _ _ hL))⟩, for_tup (K := K) (a := L) (xs := as.map V.ref) (fun i σ H' => (∃ y3 y4 y5, σ = [some (.ref L), some (.ref a1), some (.ref Ln), y3, y4, y5, none]) ∧ Same H H' ∧ H' Ln = some (.lst (((g.take i).map (lineM (saidT chs ts))).map V.str))) ⟨⟨_, _, _, rfl⟩, s1, hL1⟩ (fun i σ H' _ h => .inl (.inl (h.2.1 _ _ hL))) ?_ ?_⟩
    · rintro i x σ H2 hx ⟨⟨y3, y4, y5, rfl⟩, s2, hL2⟩
      rw [List.getElem?_map] at hx
      obtain ⟨pr, hpr, rfl⟩ := Option.map_eq_some_iff.mp hx
      obtain ⟨row, hrow, hH⟩ := hR.get hpr
      have hrm := List.mem_of_getElem? hrow
      have hil : i < as.length := (List.getElem?_eq_some_iff.mp hpr).1
      have hr6 : row.length ≤ 6 := gd.six row hrm
      refine ⟨lz, fun Pt nPt => ?_⟩
      have nPL : Pt ≠ Ln := (ne_of_none hL2 nPt).symm
      have nP0 : H Pt = none := s2.free nPt
      have s3 := same_new (o := .lst []) nPt
      have hP3 : upd H2 Pt (.lst []) Pt = some (.lst (((row.take 0).map (partM (saidT chs ts))).map V.str)) := upd_same
      have hL3 := s3 _ _ hL2
      have s03 := s2.trans s3
      generalize upd H2 Pt (.lst []) = H3 at s3 hP3 hL3 s03
      refine ⟨_, rfl, pr, rfl, ⟨_, .inl (.inl (s03 _ _ hH))⟩, for_tup (K := K) (a := pr) (xs := row.map oV) (fun j σ H' => (∃ y5, σ = [some (.ref L), some (.ref a1), some (.ref Ln), some (.ref pr), some (.ref Pt), y5, none]) ∧ Same H H' ∧ H' Ln = some (.lst (((g.take i).map (lineM (saidT chs ts))).map V.str)) ∧ H' Pt = some (.lst (((row.take j).map (partM (saidT chs ts))).map V.str))) ⟨⟨_, rfl⟩, s03, hL3, hP3⟩ (fun j σ H' _ h => .inl (.inl (h.2.1 _ _ hH))) ?_ ?_⟩
      · rintro j x σ H4 hx ⟨⟨y5, rfl⟩, s4, hL4, hP4⟩
        rw [List.getElem?_map] at hx
        obtain ⟨o, ho, rfl⟩ := Option.map_eq_some_iff.mp hx
        have hjl : j < row.length := (List.getElem?_eq_some_iff.mp ho).1
        have fin : ∀ {H5 : Hp}, Same H4 H5 → (∃ y5, ([some (.ref L), some (.ref a1), some (.ref Ln), some (.ref pr), some (.ref Pt), some (oV o), none] : L2.St) = [some (.ref L), some (.ref a1), some (.ref Ln), some (.ref pr), some (.ref Pt), y5, none]) ∧ Same H (upd H5 Pt (.lst ((((row.take j).map (partM (saidT chs ts))).map V.str) ++ [V.str (partM (saidT chs ts) o)]))) ∧ upd H5 Pt (.lst ((((row.take j).map (partM (saidT chs ts))).map V.str) ++ [V.str (partM (saidT chs ts) o)])) Ln = some (.lst (((g.take i).map (lineM (saidT chs ts))).map V.str)) ∧ upd H5 Pt (.lst ((((row.take j).map (partM (saidT chs ts))).map V.str) ++ [V.str (partM (saidT chs ts) o)])) Pt = some (.lst (((row.take (j + 1)).map (partM (saidT chs ts))).map V.str)) := fun {H5} s5 => by
          refine ⟨⟨_, rfl⟩, same_mut (s4.trans s5) nP0, ?_, ?_⟩
          · rw [upd_ne nPL.symm]
            exact s5 _ _ hL4
          · rw [upd_same, take_snoc ho, List.map_append, List.map_append]
            rfl
        have bd : (((row.take j).map (partM (saidT chs ts))).map V.str).length < sizeLine := by
          rw [List.length_map, List.length_map, List.length_take]
          exact small1000 (by omega)
        refine ⟨_, rfl, _, rfl, ?_⟩
        cases o with
        | none => exact iteT ⟨_, rfl, .inl ⟨rfl, _, .inl (.inl hP4)⟩, Pt, _, _, rfl, rfl, hP4, bd, fin (Same.refl _)⟩
        | some y =>
          refine iteF ⟨_, rfl, .inl ⟨rfl, _, .inl (.inl hP4)⟩, ⟨_, rfl⟩, ?_⟩
          have hB4 := hB.keep (kp_same s4)
          obtain ⟨ad7, hd7, _⟩ := id hB4
          refine ⟨_, rfl, a1, rfl, .inl ⟨_, .inl hd7⟩, _, rfl, lz, fun e he => ?_⟩
          have s8 := same_new (o := .tup []) he
          have he8 : upd H4 e (.tup []) e = some (.tup []) := upd_same
          generalize upd H4 e (.tup []) = H8 at s8 he8
          obtain ⟨o', t, hg, eo, hRt⟩ := byv_get (y := y) (hB4.keep (kp_same s8)) he8
          refine ⟨o', hg, ?_⟩
          rw [eo]
          obtain ⟨bs, htb, _⟩ := id hRt
          refine ⟨t, rfl, ⟨_, .inl (.inl htb)⟩, fun G2 nG2 => ?_⟩
          obtain ⟨_, _, W', hW⟩ := firsts_of (K := K) (σ := [some (.ref L), some (.ref a1), some (.ref Ln), some (.ref pr), some (.ref Pt), some (.str y), none]) (vs := [6]) (slot := 6) (Qd := fun H9 => Same H8 H9 ∧ H9 G2 = some (.lst ((saidT chs ts y).map V.str))) hRt (sub_len hs.len) nG2 (fun _ => rfl) (fun _ => rfl) fun H9 s9 hG9 => ⟨s9, hG9⟩
          refine ⟨W', hW.1, fun i' m' H' hw => (hW.2 i' m' H' hw).imp (fun ⟨h1, h2⟩ => ⟨h1, ?_⟩) id⟩
          obtain ⟨s9, hG9⟩ := h2
          obtain ⟨l2, wds⟩ := okm (some y) y rfl
          have jl : (Txt.join "+" (saidT chs ts y)).length ≤ 1800 := by
            have e1 : ("+" : Str).length = 1 := by decide +kernel
            have := joinS_len (sep := "+") (l := saidT chs ts y) (m := 8) fun z hz => (wds z hz).len.2
            rw [e1] at this
            omega
          refine ⟨_, G2, saidT chs ts y, rfl, rfl, .inl (.inl (.inl hG9)), ?_, ?_⟩
          · have := sum_len (l := saidT chs ts y) (m := 8) fun z hz => (wds z hz).len.2
            have e1 : ("+" : Str).length = 1 := by decide +kernel
            rw [e1]
            omega
          · refine ⟨_, ⟨Nat.le_trans jl (by decide), rfl⟩, ?_⟩
            cases e : (saidT chs ts y).isEmpty with
            | true =>
              have e0 := List.isEmpty_iff.mp e
              have ej : (Txt.join "+" (saidT chs ts y)).length = 0 := by
                rw [e0]
                decide +kernel
              have ep : partM (saidT chs ts) (some y) = "?" := by rw [partM_some, if_pos e]
              rw [ej]
              have f0 := fin (s8.trans s9)
              rw [ep] at f0
              exact iteF ⟨Pt, _, _, rfl, rfl, (s8.trans s9) _ _ hP4, bd, f0⟩
            | false =>
              have e0 : saidT chs ts y ≠ [] := fun k => by
                rw [k] at e
                cases e
              have jp := joinS_pos (sep := "+") (fun z hz => (wds z hz).len.1) e0
              have ep : partM (saidT chs ts) (some y) = Txt.join "+" (saidT chs ts y) := by rw [partM_some, if_neg (by rw [e]; decide)]
              have ek : (((Txt.join "+" (saidT chs ts y)).length : Int) != 0) = true := by
                rw [bne_iff_ne]
                omega
              rw [ek]
              have f0 := fin (s8.trans s9)
              rw [ep] at f0
              exact iteT ⟨Pt, _, _, rfl, rfl, (s8.trans s9) _ _ hP4, bd, f0⟩
      · rintro σ H4 ⟨⟨y5, rfl⟩, s4, hL4, hP4⟩
        rw [List.length_map, List.take_length] at hP4
        refine ⟨_, rfl, .inl ⟨rfl, _, .inl (.inl hL4)⟩, ⟨_, rfl⟩, _, rfl, _, Pt, row.map (partM (saidT chs ts)), rfl, rfl, .inl (.inl (.inl hP4)), ?_, ?_⟩
        · have := sum_len (l := row.map (partM (saidT chs ts))) (m := 1800) fun z hz => by
            obtain ⟨o, ho, rfl⟩ := List.mem_map.mp hz
            exact partM_len (okm o)
          rw [List.length_map] at this ⊢
          have e : (" " : Str).length = 1 := by decide +kernel
          rw [e]
          omega
        · refine ⟨Ln, _, _, rfl, rfl, hL4, ?_, ⟨_, _, _, rfl⟩, same_mut s4 nLn, ?_⟩
          · rw [List.length_map, List.length_map, List.length_take]
            exact small1000 (by omega)
          · rw [upd_same, take_snoc hrow, List.map_append, List.map_append]
            rfl
    · rintro σ H2 ⟨⟨y3, y4, y5, rfl⟩, s2, hL2⟩
      have el : (as.map V.ref).length = g.length := by rw [List.length_map, hR.length]
      rw [el, List.take_length] at hL2
      refine ⟨⟨_, rfl⟩, _, rfl, _, Ln, g.map (lineM (saidT chs ts)), rfl, rfl, .inl (.inl (.inl hL2)), ?_, q H2 s2⟩
      have := sum_len (l := g.map (lineM (saidT chs ts))) (m := 10806) fun z hz => by
        obtain ⟨row, hr', rfl⟩ := List.mem_map.mp hz
        exact lineM_len (fun o _ => okm o) (gd.six row hr')
      rw [List.length_map] at this ⊢
      have e : ("\n" : Str).length = 1 := by decide +kernel
      have := gd.h6
      rw [e]
      omega
end
end Wl

namespace Wl
open PySem PySem.Spec PyProof.Rows L2
abbrev sAlikeR : Stmt := topS 79
/-- two maps, and whether they are alike -/
structure TwoD (C W : Addr) (H : Hp) (p q : Addr) (r r' : MR) (due : Bool) : Prop where
  g1 : MapG C W H p r
  g2 : MapG C W H q r'
  due : mEqB r r' = due
theorem TwoD.symm {C W : Addr} {H : Hp} {p q : Addr} {r r' : MR} {due : Bool} (h : TwoD C W H p q r r' due) : TwoD C W H q p r' r due := ⟨h.g2, h.g1, by rw [mEqB_symm]; exact h.due⟩
theorem TwoD.same {C W : Addr} {H H' : Hp} {p q : Addr} {r r' : MR} {due : Bool} (h : TwoD C W H p q r r' due) (s : Same H H') : TwoD C W H' p q r r' due := ⟨h.g1.same s, h.g2.same s, h.due⟩
theorem TwoD.self {C W : Addr} {H : Hp} {p : Addr} {r r' : MR} {due : Bool} (h : TwoD C W H p p r r' due) : due = true := by
  rw [← h.due]
  exact map_self h.g1.at_ h.g2.at_
section
variable {P : Program} {w : World} {K : PySem.W.Frag} {mg : Str → Option Value} {base : Heap} {f C D W : Addr} {fd : FuncData}
theorem md_reads {H : Hp} {p q : Addr} {r r' : MR} {due : Bool} {Q : VK} {E : XK} (h : TwoD C W H p q r r' due) (k : Q (.bl due) H) : spME K C W [.ref p, .ref q] H Q E := .inl ⟨p, q, r, r', rfl, h.g1, h.g2, by rw [h.due]; exact k⟩
theorem eqL1_md {H : Hp} {l m p q : Addr} {r r' : MR} {due : Bool} {Q : VK} (h : TwoD C W H p q r r' due) (hl : H l = some (.lst [.ref p])) (hm : H m = some (.lst [.ref q])) (k : ∀ H', Same H H' → Q (.bl due) H') : rEqL1 W (spME K C W) (.ref l) (.ref m) H Q := by
  obtain ⟨dx, _, _, i1⟩ := h.g1.at_.at_
  obtain ⟨dy, _, _, i2⟩ := h.g2.at_.at_
  refine ⟨l, m, p, q, dx, _, dy, _, rfl, rfl, hl, hm, i1, i2, fun e => ?_, fun _ => md_reads h ⟨_, rfl, Same.refl H, k H (Same.refl H)⟩⟩
  subst e
  have := k H (Same.refl H)
  rw [h.self] at this
  exact this
theorem itG_md {H : Hp} {p q : Addr} {r r' : MR} {due : Bool} (h : TwoD C W H p q r r' due) : ItG W (spME K C W) p H (.ref q) due := by
  obtain ⟨dx, _, _, i1⟩ := h.g1.at_.at_
  obtain ⟨dy, _, _, i2⟩ := h.g2.at_.at_
  refine ⟨⟨dx, _, i1⟩, ?_⟩
  by_cases e : q = p
  · subst e
    exact .inr (.inl ⟨rfl, h.self⟩)
  · exact .inr (.inr ⟨q, dy, _, rfl, e, i2, fun H' s' => md_reads (h.symm.same s') ⟨_, rfl, rfl, Same.refl H'⟩⟩)
def spAlikeR (C W : Addr) : Sp := fun vs H Q _ => ∃ (p q : Addr) (r r' : MR) (due : Bool), vs = [.ref p, .ref q, .bl due] ∧ TwoD C W H p q r r' due ∧ ∀ (H' : Hp), Same H H' → Q (.bl true) H'
abbrev nAlikeR : List Str := ["_law_chart", "_law_mate", "_law_alike", "_law_some", "_law_seen"]
abbrev psAlikeR : List Str := ["_law_chart", "_law_mate", "_law_alike"]
theorem scAlikeR : FnScope nAlikeR psAlikeR (defScope sAlikeR) := ⟨rfl, rfl, rfl, by decide +kernel, rfl, by decide +kernel, by decide +kernel⟩
theorem ok_aliker (F : Fun K "_law_alike_right" "_law_alike_right" sAlikeR f fd) (B : Bi mg) (hbool : mg "bool" = none) (ne : NeC K W) (N : NoKind K W) (kn : KitNo K W) (hE : HasM P w K mg base W "__eq__" 2 ["self", "other"] (spME K C W)) : FnOk P w K mg base CX0 5 f fd psAlikeR (spAlikeR C W) := by
  obtain ⟨fE, fdE, FE, mE, bE⟩ := hE
  refine F.ok scAlikeR (fun vs H Q E h => ?_) (fun cdv A outer s H vs Q E hr h => ?_)
  · obtain ⟨p, q, r, r', due, rfl, _⟩ := h
    rfl
  · obtain ⟨p, q, r, r', due, rfl, h0, qq⟩ := h
    refine ⟨_, pss_cons (ps_set (i := 3) scAlikeR.nd rfl (.inl rfl) (pe_lst (pa_cons (pe_cmpR (op_eqO FE bE mE (hr.mono (by decide))) (pv 0) (pv 1) (nomark _)) (pa_cons (pe_cmpR (op_eqO FE bE mE (hr.mono (by decide))) (pv 1) (pv 0) (nomark _)) (pa_cons (pe_not (pe_cmpR (op_neO FE bE mE ne (hr.mono (by decide))) (pv 0) (pv 1) (nomark _))) (pa_cons (pe_cmpR (op_inZ (eqIt_G FE bE mE N (hr.mono (by decide)))) (pv 0) (pe_lst (pa_cons (pv 1) pa_nil)) (by rfl)) (pa_cons (pe_cmpR (op_inZ (eqIt_G FE bE mE N (hr.mono (by decide)))) (pv 1) (pe_lst (pa_cons pe_non (pa_cons (pv 0) pa_nil))) (by rfl)) (pa_cons (pe_cmpR (op_eqL1 FE bE mE (hr.mono (by decide))) (pe_lst (pa_cons (pv 0) pa_nil)) (pe_lst (pa_cons (pv 1) pa_nil)) (nomark _)) pa_nil))))))))
      (pss_one (ps_ret (pe_callB (cr_all rfl) (by rfl) B.all (by decide +kernel) (pa_cons (pe_lc (own := [("_law_seen", 4)]) (g := gName 4) (tt := tYes) (te := tAndV (tCB (rIsi K) (tCons (tVar 4) (tCons (tC (.ty "bool")) tNil))) (tOp rEq (tVar 4) (tVar 2))) rfl scAlikeR.nd (pi_list (pv 3)) (blkOk_by (N := nAlikeR) (sc := defScope sAlikeR) (by decide +kernel))
        (fun _ _ _ _ _ => pg_name (i := 4) scAlikeR.nd rfl (.inl rfl)) (fun _ _ _ _ _ => pts_nil) (fun _ _ _ _ _ => pe_and (pe_callB call_isi (by rfl) B.isi (by decide +kernel) (pa_cons (pv 4) (pa_cons (pe_bltn (v := .ty "bool") (by rfl) hbool (by decide +kernel) rfl) pa_nil))) (pe_one (pe_cmpR op_eq (pv 4) (pv 2) (nomark _))))) pa_nil)))), ?_⟩
    obtain ⟨dx, _, _, i1⟩ := h0.g1.at_.at_
    obtain ⟨dy, _, _, i2⟩ := h0.g2.at_.at_
    refine ⟨_, rfl, _, rfl, p, dx, _, q, dy, _, rfl, rfl, i1, i2, md_reads h0 ⟨_, rfl, ?_⟩⟩
    refine ⟨_, rfl, _, rfl, q, dy, _, p, dx, _, rfl, rfl, i2, i1, md_reads h0.symm ⟨_, rfl, ?_⟩⟩
    refine ⟨_, rfl, _, rfl, p, dx, _, q, dy, _, rfl, rfl, i1, i2, md_reads h0 ⟨_, rfl, _, rfl, ?_⟩⟩
    refine ⟨_, rfl, _, rfl, lz, fun l0 hl0 => ?_⟩
    have s2 := same_new (o := .lst [V.ref q]) hl0
    have hl0' : upd H l0 (.lst [V.ref q]) l0 = some (.lst [V.ref q]) := upd_same
    generalize upd H l0 (.lst [V.ref q]) = H2 at s2 hl0' ⊢
    refine ⟨p, l0, _, [due], rfl, rfl, .inl hl0', .cons (itG_md (h0.same s2)) .nil, fun H3 s3 => ?_⟩
    have s03 := s2.trans s3
    refine ⟨_, rfl, _, rfl, lz, fun l1 hl1 => ?_⟩
    have s4 := same_new (o := .lst [V.non, V.ref p]) hl1
    have hl1' : upd H3 l1 (.lst [V.non, V.ref p]) l1 = some (.lst [V.non, V.ref p]) := upd_same
    generalize upd H3 l1 (.lst [V.non, V.ref p]) = H4 at s4 hl1' ⊢
    have s04 := s03.trans s4
    refine ⟨q, l1, _, [false, due], rfl, rfl, .inl hl1', .cons ⟨⟨dy, _, s04 _ _ i2⟩, .inl ⟨_, .non, fun H' s' => .inr ⟨q, .non, _, rfl, OthV.non.ty, kn.non, _, rfl, rfl, Same.refl H'⟩⟩⟩ (.cons (itG_md (h0.symm.same s04)) .nil), fun H5 s5 => ?_⟩
    have s05 := s04.trans s5
    refine ⟨_, rfl, lz, fun l2 hl2 => ?_⟩
    have s6 := same_new (o := .lst [V.ref p]) hl2
    have hl2' : upd H5 l2 (.lst [V.ref p]) l2 = some (.lst [V.ref p]) := upd_same
    generalize upd H5 l2 (.lst [V.ref p]) = H6 at s6 hl2' ⊢
    refine ⟨_, rfl, lz, fun l3 hl3 => ?_⟩
    have s7 := same_new (o := .lst [V.ref q]) hl3
    have hl3' : upd H6 l3 (.lst [V.ref q]) l3 = some (.lst [V.ref q]) := upd_same
    generalize upd H6 l3 (.lst [V.ref q]) = H7 at s7 hl3' ⊢
    have s07 := s05.trans (s6.trans s7)
    refine eqL1_md (h0.same s07) (s7 _ _ hl2') hl3' fun H9 s9 => ⟨lz, fun Tl hTl => ?_⟩
    have s09 := s07.trans s9
    have s10 := same_new (o := .lst [V.bl (id due), V.bl (id due), V.bl (!(not due)), V.bl (id ([due].any id)), V.bl (id ([false, due].any id)), V.bl due]) hTl
    have hTl' : upd H9 Tl (.lst [V.bl (id due), V.bl (id due), V.bl (!(not due)), V.bl (id ([due].any id)), V.bl (id ([false, due].any id)), V.bl due]) Tl = some (.lst [V.bl (id due), V.bl (id due), V.bl (!(not due)), V.bl (id ([due].any id)), V.bl (id ([false, due].any id)), V.bl due]) := upd_same
    refine ⟨_, rfl, Tl, rfl, ⟨_, .inl (.inl hTl')⟩, fun Dd hD => ?_⟩
    refine lc_rel (walk_list (K := K) (a := Tl) (xs := [V.bl (id due), V.bl (id due), V.bl (!(not due)), V.bl (id ([due].any id)), V.bl (id ([false, due].any id)), V.bl due])) hD (fun _ => true) (fun x y _ => y = .bl true) (fun H' s' => .inl (.inl (s' _ _ hTl'))) (fun _ => rfl) (fun x H' _ _ Q' q' => q') ?_ (fun _ _ _ _ _ _ _ r => r) lz ?_
    · intro x H' hx _ s' Q' q'
      obtain ⟨b, rfl, hb⟩ : ∃ b : Bool, x = .bl b ∧ b = due := by
        simp only [List.mem_cons, List.not_mem_nil, or_false] at hx
        rcases hx with rfl | rfl | rfl | rfl | rfl | rfl
        · exact ⟨_, rfl, rfl⟩
        · exact ⟨_, rfl, rfl⟩
        · exact ⟨_, rfl, by simp⟩
        · exact ⟨_, rfl, by simp⟩
        · exact ⟨_, rfl, by simp⟩
        · exact ⟨_, rfl, rfl⟩
      refine ⟨_, rfl, _, _, _, _, _, rfl, .ty "bool", .base (.bl b), kit_ty (r := true) (by decide +kernel), true, rfl, iteT ⟨_, rfl, _, rfl, rfl, q' _ H' (Same.refl H') ?_⟩⟩
      rw [hb]
      simp
    · intro zs H11 s11 hD11 he
      rw [List.filter_eq_self.mpr fun _ _ => rfl] at he
      have ez := rows_true he
      subst ez
      refine ⟨Dd, _, rfl, .inl (.inl hD11), ?_⟩
      rw [all_true]
      exact qq H11 ((s09.trans s10).trans s11)
/-! ### is it shown so -/
def spShownR (C W : Addr) : Sp := fun vs H Q _ => ∃ (p L a1 : Addr) (z : Str) (r : MR) (wd : Nat) (chs : List Chg) (ts : List Tel), vs = [.ref p, .ref L, .ref a1, .str z] ∧ MapG C W H p r ∧ r.z = z ∧ z.length ≤ 8 ∧ r.said = saidT chs ts ∧ GridAt H L r.g ∧ Good r.g wd ∧ ByV H a1 (vsOf ts) chs ts ∧ TelOk r.g chs ts ∧ ∀ (H' : Hp), Same H H' → Q (.bl true) H'
abbrev psShownR : List Str := ["_law_chart", "_law_rows", "_law_told", "_law_item"]
theorem scShownR : FnScope psShownR psShownR (defScope sShownR) := ⟨rfl, rfl, rfl, by decide +kernel, rfl, by decide +kernel, by decide +kernel⟩
theorem ok_shownr (F : Fun K "_law_shown_right" "_law_shown_right" sShownR f fd) (B : Bi mg) (hbool : mg "bool" = none) (hrep : mg "repr" = none) (nb : PySem.W.findIn K (.ref W) "__bool__" = some none) (hT : Has P w K mg base "_law_text" 1 ["_law_rows", "_law_told"] spText)
    (hS : HasM P w K mg base W "__str__" 2 ["self"] (spMStr C W)) (hR : HasM P w K mg base W "__repr__" 1 ["self"] (spMRepr C W)) (hL : HasM P w K mg base W "__len__" 3 ["self"] (spMLen C W)) : FnOk P w K mg base CX0 7 f fd psShownR (spShownR C W) := by
  obtain ⟨fS, fdS, FS, mS, bS⟩ := hS
  obtain ⟨fR, fdR, FR, mR, bR⟩ := hR
  obtain ⟨fL, fdL, FL, mL, bL⟩ := hL
  refine F.ok scShownR (fun vs H Q E h => ?_) (fun cdv A outer s H vs Q E hr h => ?_)
  · obtain ⟨p, L, a1, z, r, wd, chs, ts, rfl, _⟩ := h
    rfl
  · obtain ⟨p, L, a1, z, r, wd, chs, ts, rfl, hM, hz, z8, hsd, hG, gd, hB, hs, q⟩ := h
    have hu := hu_of hr
    refine ⟨_, pss_cons (ps_if (PW.pt (pw_or (pt_cmpR op_ne (pe_callB (cr_lenO FL bL mL (hr.mono (by decide))) (by rfl) B.len PySem.boot_len (pa_cons (pv 0) pa_nil)) (pe_callB call_lenD (by rfl) B.len PySem.boot_len (pa_cons (pv 2) pa_nil)) (nomark _)) (pw_or (pt_cmpR op_ne (pe_callTy (cr_boolO FL bL mL nb (hr.mono (by decide))) (by rfl) hbool (by decide +kernel) (pa_cons (pv 0) pa_nil)) (pe_cmpR (op_neD0 (Nat.lt_of_succ_lt hu)) (pv 2) pe_dnewK (nomark _)) (nomark _))
        (pw_or1 (pt_not (pt_val (pe_callB call_isi (by rfl) B.isi (by decide +kernel) (pa_cons (pe_callTy (cr_strO FS bS mS (hr.mono (by decide))) (by rfl) B.str (by decide +kernel) (pa_cons (pv 0) pa_nil)) (pa_cons (pe_bltn (v := .ty "str") (by rfl) B.str (by decide +kernel) rfl) pa_nil))))))))) (pss_one (ps_ret pe_bl)) pss_nil)
      (pss_one (ps_ret (pe_and (pe_cmpR op_eq (pe_callTy (cr_strO FS bS mS (hr.mono (by decide))) (by rfl) B.str (by decide +kernel) (pa_cons (pv 0) pa_nil)) (pe_h hT hr (pa_cons (pv 1) (pa_cons (pv 2) pa_nil))) (nomark _)) (pe_one (pe_cmpR op_eq (pe_callB (cr_reprO FR bR mR (hr.mono (by decide))) (by rfl) hrep (by decide +kernel) (pa_cons (pv 0) pa_nil)) (pe_op op_add_str (pe_op op_add_str pe_str (pv 3)) pe_str) (nomark _)))))), ?_⟩
    obtain ⟨dx, _, _, hp⟩ := hM.at_.at_
    have eAsk : askedOf r = sortS (vsOf ts) := by
      unfold askedOf
      rw [hsd]
      exact asked_is gd hs
    have lvs : (vsOf ts).length ≤ 24 := Nat.le_trans (vs_len ts) hs.len
    have lA : (askedOf r).length = (vsOf ts).length := by rw [eAsk, sortS_len]
    obtain ⟨ad4, hd4, _⟩ := id hB
    refine ⟨_, rfl, p, dx, _, rfl, hp, p, r, wd, rfl, hM.at_, gd, fun H5 s5 => ⟨_, rfl, by omega, ?_⟩⟩
    refine ⟨_, rfl, a1, _, rfl, s5 _ _ hd4, rfl, ?_⟩
    rw [lA, kvZ_len]
    refine ⟨_, rfl, ?_⟩
    rw [decide_eq_true rfl]
    refine iteF ?_
    refine ⟨_, rfl, p, dx, _, rfl, s5 _ _ hp, p, r, wd, rfl, hM.at_.same s5, gd, fun H6 s6 => ⟨_, rfl, by omega, ?_⟩⟩
    have s56 := s5.trans s6
    refine ⟨_, rfl, fun e ne => ?_⟩
    have s7 := same_new (o := .dK []) ne
    refine ⟨a1, e, _, rfl, rfl, s7 _ _ (s56 _ _ hd4), upd_same, rfl, _, rfl, ?_⟩
    have eb : (!decide (V.bl ((askedOf r).length != 0) = V.bl (!(kvZ (fun z => V.ref (ad4 z)) (vsOf ts)).isEmpty))) = false := by
      rw [Bool.not_eq_false', lA, decide_eq_true_eq]
      cases vsOf ts <;> rfl
    rw [eb]
    refine iteF ?_
    have s07 := s56.trans s7
    generalize upd H6 e (.dK []) = H7 at s7 s07
    refine ⟨_, rfl, p, dx, _, rfl, s07 _ _ hp, p, r, rfl, hM.same s07, fun H8 s8 => ⟨_, rfl, ?_⟩⟩
    refine ⟨_, _, _, _, _, rfl, .ty "str", .base (.str _), kit_ty (r := true) (by decide +kernel), _, rfl, iteF ?_⟩
    have s08 := s07.trans s8
    refine ⟨_, rfl, p, dx, _, rfl, s08 _ _ hp, p, r, rfl, hM.same s08, fun H9 s9 => ⟨_, rfl, ?_⟩⟩
    have s09 := s08.trans s9
    refine ⟨_, rfl, _, rfl, L, a1, r.g, wd, chs, ts, rfl, hG.keep (tk_same s09), gd, hB.keep (kp_same s09), hs, fun H10 s10 => ?_⟩
    have s010 := s09.trans s10
    rw [hsd]
    refine ⟨rfl, _, rfl, ?_⟩
    rw [decide_eq_true rfl]
    refine iteT ⟨_, rfl, p, dx, _, rfl, s010 _ _ hp, p, r, rfl, hM.at_.same s010, by rw [hz]; exact z8, _, rfl, ?_⟩
    refine ⟨_, rfl, _, _, rfl, rfl, ?_, _, _, rfl, rfl, ?_, rfl, ?_⟩
    · have : ("WordMap(" : Str).length = 8 := by decide +kernel
      exact lzl (by omega)
    · have : ("WordMap(" : Str).length = 8 := by decide +kernel
      have : (")" : Str).length = 1 := by decide +kernel
      exact lzl (by rw [add_len]; omega)
    · have : decide (V.str (mreprS r.z) = V.str (("WordMap(" : Str) ++ z ++ (")" : Str))) = true := by
        rw [hz]
        exact decide_eq_true rfl
      rw [this]
      exact q H10 s010
end
end Wl

namespace Wl
open PySem PySem.Spec PyProof.Rows L2
abbrev sKindsR : Stmt := topS 81
theorem rows_false : ∀ {xs zs : List V}, Each (fun (x z : V) => z = V.bl false) xs zs → zs = (xs.map fun _ => false).map V.bl
  | [], [], _ => rfl
  | [], _ :: _, h => nomatch h
  | _ :: _, [], h => nomatch h
  | x :: xs, z :: zs, .cons e t => by
    rw [e, rows_false t]
    rfl
section
variable {P : Program} {w : World} {K : PySem.W.Frag} {mg : Str → Option Value} {base : Heap} {f C D W : Addr} {fd : FuncData}
theorem ne_cls {H : Hp} {a b dx dy : Addr} {fs gs : List (Str × V)} (ha : H a = some (.ins W dx fs)) (hb : H b = some (.ins D dy gs)) (ap : Apart2 K D W) (me : PySem.W.kitOne K (.ref W) (.ref W) = some true) : b ≠ a := fun e => by
  subst e
  rw [ha] at hb
  have := (HO.ins.inj (Option.some.inj hb)).1
  subst this
  have k := ap.k1
  rw [me] at k
  cases k
/-- what stands beside a map here -/
def Ko (C D : Addr) (H : Hp) (x : V) : Prop := (∃ T, OthV H x T) ∨ (∃ b dx fs, x = .ref b ∧ H b = some (.ins D dx fs)) ∨ (∃ b dx fs, x = .ref b ∧ H b = some (.ins C dx fs))
theorem Ko.same {H H' : Hp} {x : V} (h : Ko C D H x) (s : Same H H') : Ko C D H' x := by
  rcases h with ⟨T, o⟩ | ⟨b, dx, fs, e, h⟩ | ⟨b, dx, fs, e, h⟩
  · exact .inl ⟨T, o.same s⟩
  · exact .inr (.inl ⟨b, dx, fs, e, s _ _ h⟩)
  · exact .inr (.inr ⟨b, dx, fs, e, s _ _ h⟩)
theorem ko_to {H : Hp} {p dx : Addr} {fs : List (Str × V)} {x : V} {g : Bool → Bool} {Q : VK} (kn : KitNo K W) (apD : Apart2 K D W) (apC : Apart2 K C W) (insC : C8.InsC K C) (insD : C8.InsC K D) (hp : H p = some (.ins W dx fs)) (h : Ko C D H x) (q : Q (.bl (g false)) H) : rEqT K W (spME K C W) g (.ref p) x H Q := by
  rcases h with ⟨T, o⟩ | ⟨b, dl, d, rfl, hl⟩ | ⟨b, dl, d, rfl, hl⟩
  · exact ⟨p, dx, fs, _, rfl, hp, o.ty, o.notFirst, .inr ⟨p, x, _, rfl, o.ty, kn.at o, false, rfl, q⟩⟩
  · have ty := ins_ty (K := K) insD hl
    exact ⟨p, dx, fs, _, rfl, hp, ty, apD.s2, .inr ⟨p, .ref b, _, rfl, ty, apD.k2, false, rfl, q⟩⟩
  · have ty := ins_ty (K := K) insC hl
    exact ⟨p, dx, fs, _, rfl, hp, ty, apC.s2, .inr ⟨p, .ref b, _, rfl, ty, apC.k2, false, rfl, q⟩⟩
theorem ko_back {H : Hp} {p dx : Addr} {fs : List (Str × V)} {x : V} {Q : VK} (kn : KitNo K W) (apD : Apart2 K D W) (apC : Apart2 K C W) (insW : C8.InsC K W) (hp : H p = some (.ins W dx fs)) (h : Ko C D H x) (q : Q (.bl false) H) : rEqR W (spME K C W) x (.ref p) H Q ∨ (rEqT K D (spEqX K D) id x (.ref p) H Q ∨ rEqT K C (spLE K C) id x (.ref p) H Q) := by
  rcases h with ⟨T, o⟩ | ⟨b, dl, d, rfl, hl⟩ | ⟨b, dl, d, rfl, hl⟩
  · exact .inl ⟨p, dx, fs, T, rfl, hp, o, .inr ⟨p, x, _, rfl, o.ty, kn.at o, false, rfl, q⟩⟩
  · have ty := ins_ty (K := K) insW hp
    exact .inr (.inl ⟨b, dl, _, _, rfl, hl, ty, apD.s1, b, .ref p, _, rfl, ty, apD.k1, false, rfl, q⟩)
  · have ty := ins_ty (K := K) insW hp
    exact .inr (.inr ⟨b, dl, _, _, rfl, hl, ty, apC.s1, .inr ⟨b, .ref p, _, rfl, ty, apC.k1, false, rfl, q⟩⟩)
abbrev ItM (K : PySem.W.Frag) (C D W : Addr) : Addr → Hp → V → Bool → Prop := fun a H z c => ItG W (spME K C W) a H z c ∨ (fun a H z c => ItO K D (spEqX K D) a H z c ∨ ItO K C (spLE K C) a H z c) a H z c
theorem ko_item {H : Hp} {p dx : Addr} {fs : List (Str × V)} {x : V} (kn : KitNo K W) (apD : Apart2 K D W) (apC : Apart2 K C W) (insW : C8.InsC K W) (hp : H p = some (.ins W dx fs)) (h : Ko C D H x) : ItM K C D W p H x false := by
  rcases h with ⟨T, o⟩ | ⟨b, dl, d, rfl, hl⟩ | ⟨b, dl, d, rfl, hl⟩
  · exact .inl ⟨⟨dx, fs, hp⟩, .inl ⟨T, o, fun H' s' => .inr ⟨p, x, _, rfl, (o.same s').ty, kn.at o, _, rfl, rfl, Same.refl H'⟩⟩⟩
  · exact .inr (.inl ⟨b, dl, _, _, rfl, ne_cls hp hl apD insW.me, hl, fun H' s' => ins_ty insW (s' _ _ hp), apD.s1, fun H' s' => ⟨b, .ref p, _, rfl, ins_ty insW (s' _ _ hp), apD.k1, _, rfl, rfl, Same.refl H'⟩⟩)
  · exact .inr (.inr ⟨b, dl, _, _, rfl, ne_cls hp hl apC insW.me, hl, fun H' s' => ins_ty insW (s' _ _ hp), apC.s1, fun H' s' => .inr ⟨b, .ref p, _, rfl, ins_ty insW (s' _ _ hp), apC.k1, _, rfl, rfl, Same.refl H'⟩⟩)
theorem ko_items {H : Hp} {p dx : Addr} {fs : List (Str × V)} (kn : KitNo K W) (apD : Apart2 K D W) (apC : Apart2 K C W) (insW : C8.InsC K W) (hp : H p = some (.ins W dx fs)) : ∀ ys : List V, (∀ x ∈ ys, Ko C D H x) → Each (ItM K C D W p H) ys (ys.map fun _ => false)
  | [], _ => .nil
  | y :: ys, h => .cons (ko_item kn apD apC insW hp (h y List.mem_cons_self)) (ko_items kn apD apC insW hp ys fun z hz => h z (List.mem_cons_of_mem _ hz))
def spKindsR (C D W : Addr) : Sp := fun vs H Q _ => ∃ (p fo : Addr) (r : MR) (rg : GR), vs = [.ref p, .ref fo] ∧ MapG C W H p r ∧ r.z.length ≤ 8 ∧ GatAt C D H fo rg ∧ ∀ (H' : Hp), Same H H' → Q (.bl true) H'
abbrev nKindsR : List Str := ["_law_chart", "_law_found", "_law_some", "_law_stuff"]
theorem scKindsR : FnScope nKindsR ["_law_chart", "_law_found"] (defScope sKindsR) := ⟨rfl, rfl, rfl, by decide +kernel, rfl, by decide +kernel, by decide +kernel⟩
theorem ok_kindsr (F : Fun K "_law_kinds_right" "_law_kinds_right" sKindsR f fd) (B : Bi mg) (hany : mg "any" = none) (hrep : mg "repr" = none) (TG : TxtG K mg D) (ne : NeC K W) (N : NoKind K W) (kn : KitNo K W) (apD : Apart2 K D W) (apC : Apart2 K C W) (insC : C8.InsC K C) (insD : C8.InsC K D) (insW : C8.InsC K W)
    (hE : HasM P w K mg base W "__eq__" 2 ["self", "other"] (spME K C W)) (hGE : HasM P w K mg base D "__eq__" 1 ["self", "other"] (spEqX K D)) (hLE : HasM P w K mg base C "__eq__" 1 ["self", "other"] (spLE K C))
    (hS : HasM P w K mg base W "__str__" 2 ["self"] (spMStr C W)) (hR : HasM P w K mg base W "__repr__" 1 ["self"] (spMRepr C W)) : FnOk P w K mg base CX0 6 f fd ["_law_chart", "_law_found"] (spKindsR C D W) := by
  obtain ⟨fE, fdE, FE, mE, bE⟩ := hE
  obtain ⟨fGE, fdGE, FGE, mGE, bGE⟩ := hGE
  obtain ⟨fLE, fdLE, FLE, mLE, bLE⟩ := hLE
  obtain ⟨fS, fdS, FS, mS, bS⟩ := hS
  obtain ⟨fR, fdR, FR, mR, bR⟩ := hR
  refine F.ok scKindsR (fun vs H Q E h => ?_) (fun cdv A outer s H vs Q E hr h => ?_)
  · obtain ⟨p, fo, r, rg, rfl, _⟩ := h
    rfl
  · obtain ⟨p, fo, r, rg, rfl, hM, z8, hG, q⟩ := h
    refine ⟨_, pss_cons (ps_set (i := 2) scKindsR.nd rfl (.inl rfl) (pe_lst (pa_cons pe_non (pa_cons pe_bl (pa_cons pe_int (pa_cons pe_int (pa_cons pe_str (pa_cons (pe_callTy (cr_strO FS bS mS (hr.mono (by decide))) (by rfl) B.str (by decide +kernel) (pa_cons (pv 0) pa_nil)) (pa_cons (pe_callB (cr_reprO FR bR mR (hr.mono (by decide))) (by rfl) hrep (by decide +kernel) (pa_cons (pv 0) pa_nil)) (pa_cons (pe_tup pa_nil) (pa_cons (pe_lst pa_nil) (pa_cons pe_dnewK (pa_cons (pv 1) (pa_cons (pe_fld (pv 1) rfl) (pa_cons (pe_lst (pa_cons (pv 0) pa_nil)) (pa_cons (pe_tup (pa_cons (pv 0) pa_nil)) pa_nil))))))))))))))))
      (pss_cons (ps_expr (pe_bm PySem.F.plainAttrs_list PySem.F.slot_list_append PySem.F.type_list_append mt_append (pv 2) (pa_cons (pe_disp (pps_cons pe_str (pv 0) pps_nil) (by rfl) (by rfl) (fun z => by cases z) (by decide)) pa_nil)))
      (pss_cons (ps_if (pt_val (pe_callB (cr_any rfl) (by rfl) hany (by decide +kernel) (pa_cons (pe_lc (own := [("_law_stuff", 3)]) (g := gName 3) (tt := tYes) (te := tOrV (tOp (rEqT K W (spME K C W) id) (tVar 0) (tVar 3)) (tOrV (tOp (fun x y H Q => rEqR W (spME K C W) x y H Q ∨ (rEqT K D (spEqX K D) id x y H Q ∨ rEqT K C (spLE K C) id x y H Q)) (tVar 3) (tVar 0)) (tNotV (tOp (rEqT K W (spME K C W) not) (tVar 0) (tVar 3))))) rfl scKindsR.nd (pi_list (pv 2)) (blkOk_by (N := nKindsR) (sc := defScope sKindsR) (by decide +kernel)) (fun _ _ _ _ _ => pg_name (i := 3) scKindsR.nd rfl (.inl rfl)) (fun _ _ _ _ _ => pts_nil)
          (fun _ _ _ _ _ => pe_or (pe_cmpR (op_eqT FE bE mE (hr.mono (by decide))) (pv 0) (pv 3) (nomark _)) (pe_or (pe_cmpR (op_or (op_eqR FE bE mE N (hr.mono (by decide))) (op_or (op_eqT FGE bGE mGE (hr.mono (by decide))) (op_eqT FLE bLE mLE (hr.mono (by decide))))) (pv 3) (pv 0) (nomark _)) (pe_one (pe_not (pe_cmpR (op_neT FE bE mE ne (hr.mono (by decide))) (pv 0) (pv 3) (nomark _))))))) pa_nil))) (pss_one (ps_ret pe_bl)) pss_nil)
      (pss_one (ps_ret (pe_and (pe_cmpR (op_notInZ (EqIt.or (eqIt_G FE bE mE N (hr.mono (by decide))) (EqIt.or (eqIt_O FGE bGE mGE (hr.mono (by decide))) (eqIt_O FLE bLE mLE (hr.mono (by decide)))))) (pv 0) (pv 2) (by rfl)) (pe_one (pe_cmpR (op_inZ (EqIt.or (eqIt_G FE bE mE N (hr.mono (by decide))) (EqIt.or (eqIt_O FGE bGE mGE (hr.mono (by decide))) (eqIt_O FLE bLE mLE (hr.mono (by decide)))))) (pv 0) (pe_op op_cat (pv 2) (pe_lst (pa_cons (pv 0) pa_nil))) (by rfl)))))))), ?_⟩
    obtain ⟨dx, _, _, hp⟩ := hM.at_.at_
    obtain ⟨dg, hg⟩ := hG.at_
    obtain ⟨dl, d0, hl⟩ := hG.land.ins
    refine ⟨_, rfl, p, dx, _, rfl, hp, p, r, rfl, hM, fun H1 s1 => ⟨_, rfl, ?_⟩⟩
    refine ⟨_, rfl, p, dx, _, rfl, s1 _ _ hp, p, r, rfl, hM.at_.same s1, z8, _, rfl, ?_⟩
    refine ⟨lz, fun t1 ht1 => ?_⟩
    have s4 := same_new (o := .tup []) ht1
    have c2 : upd H1 t1 (.tup []) t1 = some (.tup []) := upd_same
    generalize upd H1 t1 (.tup []) = H4 at s4 c2 ⊢
    refine ⟨lz, fun l2 hl2 => ?_⟩
    have s5 := same_new (o := .lst []) hl2
    have c3 : upd H4 l2 (.lst []) l2 = some (.lst []) := upd_same
    generalize upd H4 l2 (.lst []) = H5 at s5 c3 ⊢
    intro d1 hd1
    have s6 := same_new (o := .dK []) hd1
    have c4 : upd H5 d1 (.dK []) d1 = some (.dK []) := upd_same
    generalize upd H5 d1 (.dK []) = H6 at s6 c4 ⊢
    have s06 := s1.trans (s4.trans (s5.trans s6))
    refine ⟨_, rfl, _, rfl, fo, D, dg, _, _, rfl, s06 _ _ hg, TG.cl, TG.nL, gf_land _ _ _, ?_⟩
    refine ⟨_, rfl, lz, fun l3 hl3 => ?_⟩
    have s7 := same_new (o := .lst [V.ref p]) hl3
    have c5 : upd H6 l3 (.lst [V.ref p]) l3 = some (.lst [V.ref p]) := upd_same
    generalize upd H6 l3 (.lst [V.ref p]) = H7 at s7 c5 ⊢
    refine ⟨_, rfl, lz, fun t2 ht2 => ?_⟩
    have s8 := same_new (o := .tup [V.ref p]) ht2
    have c6 : upd H7 t2 (.tup [V.ref p]) t2 = some (.tup [V.ref p]) := upd_same
    generalize upd H7 t2 (.tup [V.ref p]) = H8 at s8 c6 ⊢
    refine ⟨lz, fun So hSo => ?_⟩
    have s78 := s7.trans s8
    have s08 := s06.trans s78
    have oth : ∀ x ∈ [V.non, V.bl true, V.int 0, V.int 1, V.str "", V.str (mapS r.said r.g), V.str (mreprS r.z), V.ref t1, V.ref l2, V.ref d1, V.ref fo, V.ref rg.pl, V.ref l3, V.ref t2], Ko C D H8 x := fun x hx => by
      simp only [List.mem_cons, List.not_mem_nil, or_false] at hx
      rcases hx with rfl | rfl | rfl | rfl | rfl | rfl | rfl | rfl | rfl | rfl | rfl | rfl | rfl | rfl
      · exact .inl ⟨_, .non⟩
      · exact .inl ⟨_, .bl _⟩
      · exact .inl ⟨_, .int _⟩
      · exact .inl ⟨_, .int _⟩
      · exact .inl ⟨_, .str _⟩
      · exact .inl ⟨_, .str _⟩
      · exact .inl ⟨_, .str _⟩
      · exact .inl ⟨_, .tup ((s5.trans (s6.trans s78)) _ _ c2)⟩
      · exact .inl ⟨_, .lst ((s6.trans s78) _ _ c3)⟩
      · exact .inl ⟨_, .dK (s78 _ _ c4)⟩
      · exact .inr (.inl ⟨fo, dg, _, rfl, s08 _ _ hg⟩)
      · exact .inr (.inr ⟨rg.pl, dl, _, rfl, s08 _ _ hl⟩)
      · exact .inl ⟨_, .lst (s8 _ _ c5)⟩
      · exact .inl ⟨_, .tup c6⟩
    obtain ⟨xs, exs⟩ : ∃ xs, xs = [V.non, V.bl true, V.int 0, V.int 1, V.str "", V.str (mapS r.said r.g), V.str (mreprS r.z), V.ref t1, V.ref l2, V.ref d1, V.ref fo, V.ref rg.pl, V.ref l3, V.ref t2] := ⟨_, rfl⟩
    have lxs : xs.length = 14 := by rw [exs]; rfl
    rw [← exs] at oth ⊢
    clear exs
    have s9 := same_new (o := .lst xs) hSo
    have hSo9 : upd H8 So (.lst xs) So = some (.lst xs) := upd_same
    have hSo0 : H So = none := s08.free hSo
    generalize upd H8 So (.lst xs) = H9 at s9 hSo9 ⊢
    have s09 := s08.trans s9
    -- one more: a dict
    refine ⟨_, rfl, .inl ⟨rfl, _, .inl (.inl hSo9)⟩, fun pd npd => ⟨_, rfl, upd_same, [(Sum.inr "map", V.ref p)], rfl, (show (1 : Nat) ≤ 15 by decide), ?_⟩⟩
    have npS : pd ≠ So := fun e => by
      rw [e, hSo9] at npd
      cases npd
    have s10 := (same_mut (o := .dK (mergeK [] [(Sum.inr "map", V.ref p)])) (same_new (o := .dK []) npd) npd)
    have c7 : upd (upd H9 pd (.dK [])) pd (.dK (mergeK [] [(Sum.inr "map", V.ref p)])) pd = some (.dK (mergeK [] [(Sum.inr "map", V.ref p)])) := upd_same
    generalize upd (upd H9 pd (.dK [])) pd (.dK (mergeK [] [(Sum.inr "map", V.ref p)])) = H10 at s10 c7 ⊢
    have hSo10 := s10 _ _ hSo9
    refine ⟨So, _, _, rfl, rfl, hSo10, by rw [lxs]; exact small1000 (by omega), ?_⟩
    have sF : Same H (upd H10 So (.lst (xs ++ [V.ref pd]))) := same_mut (s09.trans s10) hSo0
    have oth11 : ∀ x ∈ xs ++ [V.ref pd], Ko C D (upd H10 So (.lst (xs ++ [V.ref pd]))) x := fun x hx => by
      have kk : ∀ {b : Addr} {o : HO}, H8 b = some o → upd H10 So (.lst (xs ++ [V.ref pd])) b = some o := fun {b o} e => by
        rw [upd_ne (ne_of_none e hSo)]
        exact s10 _ _ (s9 _ _ e)
      rcases List.mem_append.mp hx with h | h
      · have s811 : Same H8 (upd H10 So (.lst (xs ++ [V.ref pd]))) := fun b o e => kk e
        exact (oth x h).same s811
      · rw [List.mem_singleton.mp h]
        refine .inl ⟨_, .dK (kvs := mergeK [] [(Sum.inr "map", V.ref p)]) ?_⟩
        rw [upd_ne npS]
        exact c7
    have hSo11 : upd H10 So (.lst (xs ++ [V.ref pd])) So = some (.lst (xs ++ [V.ref pd])) := upd_same
    have lys : (xs ++ [V.ref pd]).length = 15 := by
      rw [List.length_append, lxs]
      rfl
    generalize xs ++ [V.ref pd] = ys at oth11 hSo11 sF lys ⊢
    generalize upd H10 So (.lst ys) = H11 at oth11 hSo11 sF ⊢
    refine ⟨_, rfl, So, rfl, ⟨_, .inl (.inl hSo11)⟩, fun De hDe => ?_⟩
    refine lc_rel (walk_list (K := K) (a := So) (xs := ys)) hDe (fun _ => true) (fun x y _ => y = .bl false) (fun H' s' => .inl (.inl (s' _ _ hSo11))) (fun _ => rfl) (fun x H' _ _ Q' q' => q') ?_ (fun _ _ _ _ _ _ _ r => r) (by rw [lys]; exact small1000 (by omega)) ?_
    · intro x H' hx _ s' Q' q'
      have kx := (oth11 x hx).same s'
      have ip := (sF.trans s') _ _ hp
      refine ⟨_, rfl, _, rfl, ko_to kn apD apC insC insD ip kx ⟨false, rfl, iteF ?_⟩⟩
      refine ⟨_, rfl, _, rfl, ko_back kn apD apC insW ip kx ⟨false, rfl, iteF ?_⟩⟩
      exact ⟨_, rfl, _, rfl, ko_to kn apD apC insC insD ip kx ⟨true, rfl, q' _ H' (Same.refl H') rfl⟩⟩
    intro zs H21 s21 hD21 he
    rw [List.filter_eq_self.mpr fun _ _ => rfl] at he
    have ez := rows_false he
    subst ez
    refine ⟨De, _, rfl, .inl (.inl hD21), ?_⟩
    rw [any_false]
    refine ⟨false, rfl, iteF ?_⟩
    have s021 := sF.trans s21
    have its := ko_items (C := C) (D := D) kn apD apC insW (s021 _ _ hp) ys fun x hx => (oth11 x hx).same s21
    refine ⟨_, rfl, _, rfl, p, So, ys, _, rfl, rfl, .inl (s21 _ _ hSo11), its, fun H22 s22 => ?_⟩
    rw [any_false]
    refine ⟨true, rfl, iteT ?_⟩
    have s022 := s021.trans s22
    refine ⟨_, rfl, _, rfl, _, rfl, lz, fun l5 hl5 => ?_⟩
    have s23 := same_new (o := .lst [V.ref p]) hl5
    have c8 : upd H22 l5 (.lst [V.ref p]) l5 = some (.lst [V.ref p]) := upd_same
    generalize upd H22 l5 (.lst [V.ref p]) = H23 at s23 c8 ⊢
    refine ⟨So, l5, _, _, rfl, rfl, (s21.trans (s22.trans s23)) _ _ hSo11, c8, lzl (by rw [lys]; simp), fun Al2 hAl2 => ?_⟩
    have s24 := same_new (o := .lst (ys ++ [V.ref p])) hAl2
    have c9 : upd H23 Al2 (.lst (ys ++ [V.ref p])) Al2 = some (.lst (ys ++ [V.ref p])) := upd_same
    generalize upd H23 Al2 (.lst (ys ++ [V.ref p])) = H24 at s24 c9 ⊢
    have s1124 := s21.trans (s22.trans (s23.trans s24))
    have s024 := sF.trans s1124
    have its2 := ko_items (C := C) (D := D) kn apD apC insW (s024 _ _ hp) ys fun x hx => (oth11 x hx).same s1124
    refine ⟨p, Al2, _, (ys.map fun _ => false) ++ [true], rfl, rfl, .inl c9, Each.append its2 (.cons (.inl ⟨⟨dx, _, s024 _ _ hp⟩, .inr (.inl ⟨rfl, rfl⟩)⟩) .nil), fun H25 s25 => ?_⟩
    have ea : (((ys.map fun _ => false) ++ [true]).any id) = true := by
      rw [List.any_append]
      simp
    rw [ea]
    exact q H25 (s024.trans s25)
end
end Wl

/-! xs[::-1], xs a list; xs[:-1]. -/
namespace Wl
open PySem PySem.Spec PyProof.Rows L2
def tRevL (K : PySem.W.Frag) (te : TE) : TE := fun σ H Q => te σ H fun x H1 => ∃ a xs, x = .ref a ∧ SqL K H1 a xs ∧ ∀ p, H1 p = none → Q (.ref p) (upd H1 p (.lst xs.reverse))
theorem pe_revL {X : Cx} {e : Expr} {te : TE} {k : Nat} {p1 p2 p3 pos : Pos} (he : PE X e te) : PE X (.Subscript e (.Slice none none (some (.UnaryOp .USub (.Constant (.int 1) k p1) p2)) p3) pos) (tRevL X.K te) := by
  refine ⟨fun pins s σ H Q I h => Subscript_ (thn (he.run pins s σ H _ I h) fun v s1 ⟨x, H1, I1, r1, a, xs, ex, hx, q⟩ => ?_)⟩
  subst ex
  cases r1
  have hst : PO X (some (.UnaryOp .USub (.Constant (.int 1) k p1) p2)) (tPart (tUn (rU fun i => .int (-i)) (tC (.int 1)))) := po_some (pe_un un_neg pe_int)
  refine wpAny_Slice (thn (po_none.run pins s1 σ H1 (fun o H2 => o = none ∧ H2 = H1) I1 ⟨rfl, rfl⟩) fun vl s2 ⟨l, H2, I2, pl, el, e2⟩ => ?_)
  subst el e2
  refine thn (po_none.run pins s2 σ H2 (fun o H3 => o = none ∧ H3 = H2) I2 ⟨rfl, rfl⟩) fun vu s3 ⟨u, H3, I3, pu, eu, e3⟩ => ?_
  subst eu e3
  refine thn (hst.run pins s3 σ H3 (fun o H4 => o = some (-1) ∧ H4 = H3) I3 ⟨1, rfl, -1, rfl, rfl, rfl⟩) fun vs s4 ⟨o, H4, I4, ps, eo, e4⟩ => ?_
  subst eo e4
  have J : L2.Inv X pins σ H4 { s4 with heap := s4.heap.push { cls := .type "slice", data := .fields #[vl, vu, vs] } } := I4.kept (t' := s4.toks) fun b ob q => Heap.get?_push_of_some _ q
  obtain ⟨its, r, ht, hz⟩ := J.list hx
  have hlen := r.length
  show wpAny (model X.prog X.w) X.A (subscriptTail e (.Slice none none (some (.UnaryOp .USub (.Constant (.int 1) k p1) p2)) p3) (.ref a) (.ref s4.heap.objs.size)) _ _ _
  refine tail_any (ops := [.ref a, .ref s4.heap.objs.size]) ht.isList.typeIs (slot_list_getitem.lookup) ?_ (by with_unfolding_all rfl)
  refine wpAny_getItem_list_slice ht.isList (Heap.IsSliceOf.new _ vl vu vs) pl pu ps (by simp) ?_ (by rw [List.size_toArray]; omega)
  rw [PySem.W.krv_pick]
  refine ⟨.ref _, _, J.laid (t' := s4.toks) (o := .lst xs.reverse) (fun b ob q => Heap.get?_push_of_some _ q) (Nat.le_refl _) ?_, rfl, q _ (J.hok.fresh (Nat.le_refl _))⟩
  exact ⟨by rw [List.length_reverse]; exact hz, _, 0, r.reverse, Heap.get?_push_size _ rfl⟩
theorem cut_init (xs : List V) (v : V) : cutV (xs ++ [v]) none (some (-1)) = xs := by
  unfold cutV
  rw [HT.sIx_none, List.drop_zero, Nat.sub_zero]
  have e : HT.sIx (xs ++ [v]).length (xs ++ [v]).length (some (-1)) = xs.length := by
    show (if (-1 : Int) < 0 then ((-1 : Int) + ((xs ++ [v]).length : Int)).toNat else min (-1 : Int).toNat (xs ++ [v]).length) = _
    rw [if_pos (by decide), List.length_append]
    simp only [List.length_cons, List.length_nil]
    omega
  rw [e, List.take_left]
end Wl

namespace Wl
open PySem PySem.Spec PyProof.Rows L2
abbrev sPairsR : Stmt := topS 82
theorem eqv_lists (a b : List Str) : PyData.eqv (.list (a.map PyData.str)) (.list (b.map PyData.str)) = decide (a = b) := by
  simp only [PyData.eqv]
  exact strs_eqv a b
theorem strs_nil (l : List Str) : PyData.eqv (.tuple (l.map PyData.str)) (.tuple []) = l.isEmpty := by
  cases l with
  | nil => simp [PyData.eqv, PyData.eqvAll]
  | cons a r => simp [PyData.eqv, PyData.eqvAll]
section
variable {P : Program} {w : World} {K : PySem.W.Frag} {mg : Str → Option Value} {base : Heap} {f C D W : Addr} {fd : FuncData}
/-- [town for town in towns if terms(told, town) != terms(more, town)] -/
theorem due_lc {σ : L2.St} {vs : List Nat} {i j k : Nat} {H : Hp} {d1 d2 tn Dd : Addr} {g : Grid} {wd : Nat} {chs chs' : List Chg} {ts ts' : List Tel} {Qd : Hp → Prop} (hB : ByV H d1 (vsOf ts) chs ts) (hB' : ByV H d2 (vsOf ts') chs' ts') (hs : TelOk g chs ts) (hs' : TelOk g chs' ts') (gd : Good g wd) (htn : H tn = some (.lst ((sortS (names g)).map V.str))) (nD : H Dd = none)
    (hw : ∀ x, wipe ((wipe σ vs).set k (some x)) vs = wipe σ vs) (hi : ∀ x, ((wipe σ vs).set k (some x))[i]? = some (some (V.ref d1))) (hj : ∀ x, ((wipe σ vs).set k (some x))[j]? = some (some (V.ref d2))) (hk : ∀ x, ((wipe σ vs).set k (some x))[k]? = some (some x))
    (q : ∀ H', Same H H' → H' Dd = some (.lst ((diffOf g (saidT chs ts) (saidT chs' ts')).map V.str)) → Qd H') :
    ∃ W : Nat → Nat → Hp → Prop, (∃ m, W 0 m (upd H Dd (.lst []))) ∧ ∀ i' m H, W i' m H →
      ((Itl K tn).stop i' H ∧ Qd H) ∨ ((Itl K tn).go i' H ∧ ∃ Nx : Hp → Prop, (∀ H', Nx H' → ∃ m', m' < m ∧ W (i' + 1) m' H') ∧ ∀ x H', (Itl K tn).yld i' H x H' → gName k x (wipe σ vs) H' fun σ2 H2 => wipe σ2 vs = wipe σ vs ∧ (tTest (tOp (rNeD K) (tCall spTerms [] E0 (tCons (tVar i) (tCons (tVar k) tNil))) (tCall spTerms [] E0 (tCons (tVar j) (tCons (tVar k) tNil))))) σ2 H2 fun b H3 =>
        if b = true then tVar k σ2 H3 fun y H4 => ∃ acc, H4 Dd = some (.lst acc) ∧ acc.length < sizeLine ∧ Nx (upd H4 Dd (.lst (acc ++ [y]))) else Nx H3) := by
  refine lc_keepX (walk_list (K := K) (a := tn) (xs := (sortS (names g)).map V.str)) nD (keepD (saidT chs ts) (saidT chs' ts')) (fun H' s' => .inl (.inl (s' _ _ htn))) hw ?_ (fun x H' Q' q' => ⟨_, hk _, q'⟩) ?_ ?_
  · intro x H' hx s' Q' q'
    obtain ⟨y, hy, rfl⟩ := List.mem_map.mp hx
    refine ⟨_, hi _, _, hk _, d1, y, chs, ts, rfl, hB.keep (kp_same s'), hs.len, fun l1 H1 n1 s1 h1 => ?_⟩
    refine ⟨_, hj _, _, hk _, d2, y, chs', ts', rfl, (hB'.keep (kp_same s')).keep (kp_same s1), hs'.len, fun l2 H2 n2 s2 h2 => ?_⟩
    have w1 : ∀ z ∈ saidT chs ts y, IsWd z := wds_in hs.okc fun t ht => hs.ok t (List.mem_filter.mp ht).1
    have w2 : ∀ z ∈ saidT chs' ts' y, IsWd z := wds_in hs'.okc fun t ht => hs'.ok t (List.mem_filter.mp ht).1
    refine ⟨_, _, .lst (.inl (.inl (s2 _ _ h1))) (dp_strs _), .lst (.inl (.inl h2)) (dp_strs _), shaped_list (lay_strs w1) (by have := depth_strs (saidT chs ts y); omega), shaped_list (lay_strs w2) (by have := depth_strs (saidT chs' ts' y); omega), _, rfl, ?_⟩
    rw [eqv_lists]
    exact q' _ (s1.trans s2)
  · rw [List.length_map, sortS_len]
    exact small1000 (by have := gd.n36; omega)
  · intro H' s' hD
    rw [keepD_filter] at hD
    exact q H' s' hD
/-- a map and what its villages say -/
def ChT (C W : Addr) (H : Hp) (g : Grid) (c : Addr) : Prop := ∃ (p d : Addr) (r : MR) (chs : List Chg) (ts : List Tel), H c = some (.tup [.ref p, .ref d]) ∧ MapG C W H p r ∧ r.g = g ∧ r.said = saidT chs ts ∧ r.z.length ≤ 8 ∧ ByV H d (vsOf ts) chs ts ∧ TelOk g chs ts
theorem ChT.keep {H H' : Hp} {g : Grid} {c : Addr} (h : ChT C W H g c) (k : Keep H H') : ChT C W H' g c := by
  obtain ⟨p, d, r, chs, ts, h1, h2, h3, h4, h5, h6, h7⟩ := h
  exact ⟨p, d, r, chs, ts, k.tk _ _ h1, h2.keep k, h3, h4, h5, h6.keep k, h7⟩
theorem ChT.same {H H' : Hp} {g : Grid} {c : Addr} (h : ChT C W H g c) (s : Same H H') : ChT C W H' g c := h.keep (kp_same s)
def spPairsR (C W : Addr) : Sp := fun vs H Q _ => ∃ (Lc L : Addr) (cs : List Addr) (g : Grid) (wd : Nat), vs = [.ref Lc, .ref L] ∧ H Lc = some (.lst (cs.map V.ref)) ∧ cs ≠ [] ∧ cs.length ≤ 20 ∧ (∀ c ∈ cs, ChT C W H g c) ∧ GridAt H L g ∧ Good g wd ∧ ∀ (H' : Hp), Same H H' → Q (.bl true) H'
abbrev psPairsR : List Str := ["_law_charts", "_law_rows"]
abbrev nPairsR : List Str := ["_law_charts", "_law_rows", "_law_towns", "_law_chart", "_law_told", "_law_mate", "_law_more", "_law_due", "_law_seen", "_law_first", "_law_said", "_law_town"]
theorem scPairsR : FnScope nPairsR psPairsR (defScope sPairsR) := ⟨rfl, rfl, rfl, by decide +kernel, rfl, by decide +kernel, by decide +kernel⟩
theorem ok_pairsr (F : Fun K "_law_pairs_right" "_law_pairs_right" sPairsR f fd) (B : Bi mg) (hN : Has P w K mg base "_law_names" 1 ["_law_rows"] spNames) (hT : Has P w K mg base "_law_terms" 1 ["_law_told", "_law_town"] spTerms) (hDf : HasD P w K mg base C W) (hA : Has P w K mg base "_law_alike_right" 5 psAlikeR (spAlikeR C W)) : FnOk P w K mg base CX0 6 f fd psPairsR (spPairsR C W) := by
  have hD := hDf.pos
  obtain ⟨fD, fdD, FD, mD, kD, bD, knD⟩ := hDf
  refine F.ok scPairsR (fun vs H Q E h => ?_) (fun cdv A outer s H vs Q E hr h => ?_)
  · obtain ⟨Lc, L, cs, g, wd, rfl, _⟩ := h
    rfl
  · obtain ⟨Lc, L, cs, g, wd, rfl, hLc, cne, c20, hcs, hG, gd, q⟩ := h
    refine ⟨_, pss_cons (ps_set (i := 2) scPairsR.nd rfl (.inl rfl) (pe_h hN hr (pa_cons (pv 1) pa_nil)))
      (pss_cons (ps_for PassesOwn.never rfl (pi_list (pv 0)) (pg_tup rfl (pgs_cons (pg_name (i := 3) scPairsR.nd rfl (.inl rfl)) (pgs_cons (pg_name (i := 4) scPairsR.nd rfl (.inr rfl)) pgs_nil)))
        (pss_one (ps_for PassesOwn.never rfl (pi_list (pv 0)) (pg_tup rfl (pgs_cons (pg_name (i := 5) scPairsR.nd rfl (.inl rfl)) (pgs_cons (pg_name (i := 6) scPairsR.nd rfl (.inr rfl)) pgs_nil)))
          (pss_cons (ps_set (i := 7) scPairsR.nd rfl (.inl rfl) (pe_callTy call_tuple_of (by rfl) B.tuple (by decide +kernel) (pa_cons (pe_lc (own := [("_law_town", 11)]) (g := gName 11) (tt := tTest (tOp (rNeD K) (tCall spTerms [] E0 (tCons (tVar 4) (tCons (tVar 11) tNil))) (tCall spTerms [] E0 (tCons (tVar 6) (tCons (tVar 11) tNil))))) (te := tVar 11) rfl scPairsR.nd (pi_list (pv 2)) (blkOk_by (N := nPairsR) (sc := defScope sPairsR) (by decide +kernel)) (fun _ _ _ _ _ => pg_name (i := 11) scPairsR.nd rfl (.inl rfl))
              (fun _ _ _ _ _ => pts_one (pt_cmpR (op_neD hr.units) (pe_h hT hr (pa_cons (pv 4) (pa_cons (pv 11) pa_nil))) (pe_h hT hr (pa_cons (pv 6) (pa_cons (pv 11) pa_nil))) (by rfl))) (fun _ _ _ _ _ => pv 11)) pa_nil)))
          (pss_cons (ps_for PassesOwn.never rfl (pi_list (pe_lst (pa_cons (pe_h hD hr (pa_cons (pv 3) (pa_cons (pv 5) pa_nil))) (pa_cons (pe_callN0 FD (hr.mono (by decide)) rfl mD kD knD pass0 (pk_cons (pv 5) (pk_cons (pv 3) pk_nil))) pa_nil)))) (pg_name (i := 8) scPairsR.nd rfl (.inl rfl))
            (pss_one (ps_if (PW.pt (pw_or (pt_not (pt_val (pe_callB call_isi (by rfl) B.isi (by decide +kernel) (pa_cons (pv 8) (pa_cons (pe_bltn (v := .ty "tuple") (by rfl) B.tuple (by decide +kernel) rfl) pa_nil))))) (pw_or1 (pt_cmpR (op_neD hr.units) (pv 8) (pv 7) (nomark _))))) (pss_one (ps_ret pe_bl)) pss_nil)))
          (pss_one (ps_if (pt_not (pt_val (pe_h hA hr (pa_cons (pv 3) (pa_cons (pv 5) (pa_cons (pe_cmpR (op_eqD hr.units) (pv 7) (pe_tup pa_nil) (nomark _)) pa_nil)))))) (pss_one (ps_ret pe_bl)) pss_nil)))))))
      (pss_cons (ps_asg (pe_ix ix_list (pv 0) pe_int (fun _ _ => rfl)) (pg_tup rfl (pgs_cons (pg_name (i := 9) scPairsR.nd rfl (.inl rfl)) (pgs_cons (pg_name (i := 10) scPairsR.nd rfl (.inr rfl)) pgs_nil))))
      (pss_cons (ps_for PassesOwn.never rfl (pi_list (pe_op op_cat (pe_op op_cat (pe_revL (pv 0)) (pe_slice sl_list (pv 0) (po_some pe_int) (po_some pe_int))) (pe_slice sl_list (pv 0) po_none (po_some pe_int)))) (pg_tup rfl (pgs_cons (pg_name (i := 5) scPairsR.nd rfl (.inl rfl)) (pgs_cons (pg_name (i := 6) scPairsR.nd rfl (.inr rfl)) pgs_nil)))
        (pss_cons (ps_set (i := 7) scPairsR.nd rfl (.inl rfl) (pe_callTy call_tuple_of (by rfl) B.tuple (by decide +kernel) (pa_cons (pe_lc (own := [("_law_town", 11)]) (g := gName 11) (tt := tTest (tOp (rNeD K) (tCall spTerms [] E0 (tCons (tVar 10) (tCons (tVar 11) tNil))) (tCall spTerms [] E0 (tCons (tVar 6) (tCons (tVar 11) tNil))))) (te := tVar 11) rfl scPairsR.nd (pi_list (pv 2)) (blkOk_by (N := nPairsR) (sc := defScope sPairsR) (by decide +kernel)) (fun _ _ _ _ _ => pg_name (i := 11) scPairsR.nd rfl (.inl rfl))
              (fun _ _ _ _ _ => pts_one (pt_cmpR (op_neD hr.units) (pe_h hT hr (pa_cons (pv 10) (pa_cons (pv 11) pa_nil))) (pe_h hT hr (pa_cons (pv 6) (pa_cons (pv 11) pa_nil))) (by rfl))) (fun _ _ _ _ _ => pv 11)) pa_nil)))
        (pss_one (ps_if (pt_cmpR (op_neD hr.units) (pe_h hD hr (pa_cons (pv 9) (pa_cons (pv 5) pa_nil))) (pv 7) (nomark _)) (pss_one (ps_ret pe_bl)) pss_nil))))
      (pss_one (ps_ret pe_bl))))), ?_⟩
    refine ⟨_, rfl, L, g, wd, rfl, hG, gd.sized, fun Tn H1 nTn s1 hTn => ?_⟩
    have shD : ∀ (c c' : List Chg) (t t' : List Tel), SeqAt.shaped (.tuple ((diffOf g (saidT c t) (saidT c' t')).map PyData.str)) = true := fun c c' t t' => shaped_tuple (lay_strs fun z hz => gd.wd z (mem_sortS.mp (List.mem_filter.mp hz).1)) (by have := depth_strs (diffOf g (saidT c t) (saidT c' t')); omega)
    have hcs1 : ∀ c ∈ cs, ChT C W H1 g c := fun c hc => (hcs c hc).same s1
    refine ⟨_, rfl, Lc, rfl, ⟨_, .inl (.inl (s1 _ _ hLc))⟩, for_list (K := K) (a := Lc) (xs := cs.map V.ref) (fun i σ H' => (∃ y3 y4 y5 y6 y7 y8, σ = [some (.ref Lc), some (.ref L), some (.ref Tn), y3, y4, y5, y6, y7, y8, none, none, none]) ∧ Same H1 H') ⟨⟨_, _, _, _, _, _, rfl⟩, Same.refl _⟩ (fun i σ H' _ h => .inl (.inl (h.2 _ _ (s1 _ _ hLc)))) ?_ ?_⟩
    · rintro i x σ H2 hx ⟨⟨y3, y4, y5, y6, y7, y8, rfl⟩, s2⟩
      rw [List.getElem?_map] at hx
      obtain ⟨c, hc, rfl⟩ := Option.map_eq_some_iff.mp hx
      obtain ⟨p, d, r, chs, ts, hct, hM, hrg, hsd, hz8, hB, hs⟩ := (hcs1 c (List.mem_of_getElem? hc)).same s2
      refine ⟨c, _, rfl, .inl (.inl hct), rfl, _, _, rfl, _, _, rfl, rfl, ?_⟩
      refine ⟨_, rfl, Lc, rfl, ⟨_, .inl (.inl (s2 _ _ (s1 _ _ hLc)))⟩, for_list (K := K) (a := Lc) (xs := cs.map V.ref) (fun i σ H' => (∃ y5 y6 y7 y8, σ = [some (.ref Lc), some (.ref L), some (.ref Tn), some (.ref p), some (.ref d), y5, y6, y7, y8, none, none, none]) ∧ Same H2 H') ⟨⟨_, _, _, _, rfl⟩, Same.refl _⟩ (fun i σ H' _ h => .inl (.inl (h.2 _ _ (s2 _ _ (s1 _ _ hLc))))) ?_ ?_⟩
      · rintro j x σ H3 hx ⟨⟨y5, y6, y7, y8, rfl⟩, s3⟩
        rw [List.getElem?_map] at hx
        obtain ⟨c', hc', rfl⟩ := Option.map_eq_some_iff.mp hx
        have s23 := s2.trans s3
        obtain ⟨p', d', r', chs', ts', hct', hM', hrg', hsd', hz8', hB', hs'⟩ := (hcs1 c' (List.mem_of_getElem? hc')).same s23
        refine ⟨c', _, rfl, .inl (.inl hct'), rfl, _, _, rfl, _, _, rfl, rfl, ?_⟩
        refine ⟨_, rfl, Tn, rfl, ⟨_, .inl (.inl (s23 _ _ hTn))⟩, fun Dd nDd => ?_⟩
        refine due_lc (K := K) (hB.keep (kp_same s3)) hB' hs hs' gd (s23 _ _ hTn) nDd (fun _ => rfl) (fun _ => rfl) (fun _ => rfl) (fun _ => rfl) fun H4 s4 hD4 => ?_
        refine ⟨Dd, _, rfl, .inl ⟨.inl (.inl hD4), fun du ndu => ?_⟩⟩
        have s5 := same_new (o := .tup ((diffOf g (saidT chs ts) (saidT chs' ts')).map V.str)) ndu
        have hdu : upd H4 du (.tup ((diffOf g (saidT chs ts) (saidT chs' ts')).map V.str)) du = some (.tup ((diffOf g (saidT chs ts) (saidT chs' ts')).map V.str)) := upd_same
        generalize upd H4 du (.tup ((diffOf g (saidT chs ts) (saidT chs' ts')).map V.str)) = H5 at s5 hdu
        have s35 := s4.trans s5
        have hM5 := (hM.same s3).same s35
        have hM5' := hM'.same s35
        have egg : r.g = r'.g := hrg.trans hrg'.symm
        have eD : diffOf r.g r.said r'.said = diffOf g (saidT chs ts) (saidT chs' ts') := by rw [hrg, hsd, hsd']
        refine ⟨_, rfl, _, rfl, p, p', r, r', rfl, hM5, hM5', egg, fun t1 H6 n6 s6 ht1 => ?_⟩
        rw [eD] at ht1
        refine ⟨_, rfl, _, rfl, rfl, rfl, p, p', r, r', rfl, hM5.same s6, hM5'.same s6, egg, fun t2 H7 n7 s7 ht2 => ⟨lz, fun LL nLL => ?_⟩⟩
        rw [eD] at ht2
        have s8 := same_new (o := .lst [V.ref t1, V.ref t2]) nLL
        have hLL : upd H7 LL (.lst [V.ref t1, V.ref t2]) LL = some (.lst [V.ref t1, V.ref t2]) := upd_same
        generalize upd H7 LL (.lst [V.ref t1, V.ref t2]) = H8 at s8 hLL
        have ht1' := s8 _ _ (s7 _ _ ht1)
        have ht2' := s8 _ _ ht2
        have s58 := s6.trans (s7.trans s8)
        have hdu8 := s58 _ _ hdu
        refine ⟨LL, rfl, ⟨_, .inl (.inl hLL)⟩, for_list (K := K) (a := LL) (xs := [V.ref t1, V.ref t2]) (fun i σ H' => (∃ y8, σ = [some (.ref Lc), some (.ref L), some (.ref Tn), some (.ref p), some (.ref d), some (.ref p'), some (.ref d'), some (.ref du), y8, none, none, none]) ∧ Same H8 H') ⟨⟨_, rfl⟩, Same.refl _⟩ (fun i σ H' _ h => .inl (.inl (h.2 _ _ hLL))) ?_ ?_⟩
        · rintro m x σ H9 hx ⟨⟨y8, rfl⟩, s9⟩
          obtain ⟨tt, rfl, htt⟩ : ∃ tt : Addr, x = .ref tt ∧ H9 tt = some (.tup ((diffOf g (saidT chs ts) (saidT chs' ts')).map V.str)) := by
            match m, hx with
            | 0, e => exact ⟨t1, (Option.some.inj e).symm, s9 _ _ ht1'⟩
            | 1, e => exact ⟨t2, (Option.some.inj e).symm, s9 _ _ ht2'⟩
          refine ⟨_, rfl, _, _, _, _, _, rfl, .ty "tuple", .base (.tup htt), kit_ty (r := true) (by decide +kernel), _, rfl, iteF ?_⟩
          refine ⟨_, rfl, _, rfl, _, _, .tup (.inl (.inl htt)) (dp_strs _), .tup (.inl (.inl (s9 _ _ hdu8))) (dp_strs _), shD _ _ _ _, shD _ _ _ _, _, rfl, ?_⟩
          rw [SeqAt.eqv_refl _ (SeqAt.canLay_of_shaped (shD _ _ _ _))]
          exact iteF ⟨⟨_, rfl⟩, s9⟩
        · rintro σ H9 ⟨⟨y8, rfl⟩, s9⟩
          have s59 := s58.trans s9
          refine ⟨_, rfl, _, rfl, _, rfl, lz, fun e ne => ?_⟩
          have s10 := same_new (o := .tup []) ne
          refine ⟨_, _, .tup (.inl (.inl (s10 _ _ (s59 _ _ hdu)))) (dp_strs _), .tup (.inl (.inl upd_same)) .nil, shD _ _ _ _, by decide +kernel, ?_⟩
          rw [strs_nil]
          have eb : (diffOf g (saidT chs ts) (saidT chs' ts')).isEmpty = mEqB r r' := by rw [← eD]; exact diff_nil egg
          rw [eb]
          exact ⟨p, p', r, r', _, rfl, ⟨hM5.same (s59.trans s10), hM5'.same (s59.trans s10), rfl⟩, fun H11 s11 => ⟨_, rfl, iteF ⟨⟨_, _, _, _, rfl⟩, (s3.trans s35).trans ((s59.trans s10).trans s11)⟩⟩⟩
      · rintro σ H3 ⟨⟨y5, y6, y7, y8, rfl⟩, s3⟩
        exact ⟨⟨_, _, _, _, _, _, rfl⟩, s2.trans s3⟩
    · rintro σ H2 ⟨⟨y3, y4, y5, y6, y7, y8, rfl⟩, s2⟩
      obtain ⟨c0, cr, ecs⟩ : ∃ c r, cs = c :: r := by
        cases cs with
        | nil => exact absurd rfl cne
        | cons c r => exact ⟨c, r, rfl⟩
      have hc0 : c0 ∈ cs := by rw [ecs]; exact List.mem_cons_self
      have s02 := s1.trans s2
      obtain ⟨p, d, r, chs, ts, hct, hM, hrg, hsd, hz8, hB, hs⟩ := (hcs1 c0 hc0).same s2
      have hat : atI (cs.map V.ref) 0 = some (.ref c0) := by
        rw [ecs]
        exact atI_nat (j := 0) rfl
      refine ⟨_, rfl, Lc, _, _, _, rfl, rfl, .inl (.inl (s02 _ _ hLc)), hat, c0, _, rfl, .inl (.inl hct), rfl, _, _, rfl, _, _, rfl, rfl, ?_⟩
      refine ⟨_, rfl, Lc, _, rfl, .inl (.inl (s02 _ _ hLc)), fun l1 nl1 => ?_⟩
      have s3 := same_new (o := .lst (cs.map V.ref).reverse) nl1
      have h3 : upd H2 l1 (.lst (cs.map V.ref).reverse) l1 = some (.lst (cs.map V.ref).reverse) := upd_same
      generalize upd H2 l1 (.lst (cs.map V.ref).reverse) = H3 at s3 h3
      have s03 := s02.trans s3
      refine ⟨_, rfl, 1, rfl, 3, rfl, Lc, _, rfl, .inl (.inl (s03 _ _ hLc)), fun l2 nl2 => ?_⟩
      have s4 := same_new (o := .lst (cutV (cs.map V.ref) (some 1) (some 3))) nl2
      have h4 : upd H3 l2 (.lst (cutV (cs.map V.ref) (some 1) (some 3))) l2 = some (.lst (cutV (cs.map V.ref) (some 1) (some 3))) := upd_same
      generalize upd H3 l2 (.lst (cutV (cs.map V.ref) (some 1) (some 3))) = H4 at s4 h4
      have lc1 := cutV_length (cs.map V.ref) (some 1) (some 3)
      have lc2 := cutV_length (cs.map V.ref) none (some 2)
      rw [List.length_map] at lc1 lc2
      refine ⟨l1, l2, _, _, rfl, rfl, s4 _ _ h3, h4, by rw [List.length_reverse, List.length_map]; exact lzl (by omega), fun l3 nl3 => ?_⟩
      have s5 := same_new (o := .lst ((cs.map V.ref).reverse ++ cutV (cs.map V.ref) (some 1) (some 3))) nl3
      have h5 : upd H4 l3 (.lst ((cs.map V.ref).reverse ++ cutV (cs.map V.ref) (some 1) (some 3))) l3 = some (.lst ((cs.map V.ref).reverse ++ cutV (cs.map V.ref) (some 1) (some 3))) := upd_same
      generalize upd H4 l3 (.lst ((cs.map V.ref).reverse ++ cutV (cs.map V.ref) (some 1) (some 3))) = H5 at s5 h5
      have s05 := s03.trans (s4.trans s5)
      refine ⟨_, rfl, 2, rfl, Lc, _, rfl, .inl (.inl (s05 _ _ hLc)), fun l4 nl4 => ?_⟩
      have s6 := same_new (o := .lst (cutV (cs.map V.ref) none (some 2))) nl4
      have h6 : upd H5 l4 (.lst (cutV (cs.map V.ref) none (some 2))) l4 = some (.lst (cutV (cs.map V.ref) none (some 2))) := upd_same
      generalize upd H5 l4 (.lst (cutV (cs.map V.ref) none (some 2))) = H6 at s6 h6
      refine ⟨l3, l4, _, _, rfl, rfl, s6 _ _ h5, h6, by rw [List.length_append, List.length_reverse, List.length_map]; exact lzl (by omega), fun l5 nl5 => ?_⟩
      have allc : ∀ x ∈ (cs.map V.ref).reverse ++ cutV (cs.map V.ref) (some 1) (some 3) ++ cutV (cs.map V.ref) none (some 2), ∃ c ∈ cs, x = V.ref c := fun x hx => by
        have : x ∈ cs.map V.ref := by
          rcases List.mem_append.mp hx with h | h
          · rcases List.mem_append.mp h with h | h
            · exact List.mem_reverse.mp h
            · exact mem_cut h
          · exact mem_cut h
        obtain ⟨c, hc, e⟩ := List.mem_map.mp this
        exact ⟨c, hc, e.symm⟩
      generalize (cs.map V.ref).reverse ++ cutV (cs.map V.ref) (some 1) (some 3) ++ cutV (cs.map V.ref) none (some 2) = xs at allc
      have s7 := same_new (o := .lst xs) nl5
      have h7 : upd H6 l5 (.lst xs) l5 = some (.lst xs) := upd_same
      generalize upd H6 l5 (.lst xs) = H7 at s7 h7
      have s27 := s3.trans ((s4.trans s5).trans (s6.trans s7))
      have s17 := s2.trans s27
      refine ⟨l5, rfl, ⟨_, .inl (.inl h7)⟩, for_list (K := K) (a := l5) (xs := xs) (fun i σ H' => (∃ y3 y4 y5 y6 y7 y8, σ = [some (.ref Lc), some (.ref L), some (.ref Tn), y3, y4, y5, y6, y7, y8, some (.ref p), some (.ref d), none]) ∧ Same H7 H') ⟨⟨_, _, _, _, _, _, rfl⟩, Same.refl _⟩ (fun i σ H' _ h => .inl (.inl (h.2 _ _ h7))) ?_ ?_⟩
      · rintro i x σ H8 hx ⟨⟨y3, y4, y5, y6, y7, y8, rfl⟩, s8⟩
        obtain ⟨c', hc', rfl⟩ := allc x (List.mem_of_getElem? hx)
        have s18 := s17.trans s8
        obtain ⟨p', d', r', chs', ts', hct', hM', hrg', hsd', hz8', hB', hs'⟩ := (hcs1 c' hc').same s18
        have s28 := s27.trans s8
        refine ⟨c', _, rfl, .inl (.inl hct'), rfl, _, _, rfl, _, _, rfl, rfl, ?_⟩
        refine ⟨_, rfl, Tn, rfl, ⟨_, .inl (.inl (s18 _ _ hTn))⟩, fun Dd nDd => ?_⟩
        refine due_lc (K := K) (hB.keep (kp_same s28)) hB' hs hs' gd (s18 _ _ hTn) nDd (fun _ => rfl) (fun _ => rfl) (fun _ => rfl) (fun _ => rfl) fun H9 s9 hD9 => ?_
        refine ⟨Dd, _, rfl, .inl ⟨.inl (.inl hD9), fun du ndu => ?_⟩⟩
        have s10 := same_new (o := .tup ((diffOf g (saidT chs ts) (saidT chs' ts')).map V.str)) ndu
        have hdu : upd H9 du (.tup ((diffOf g (saidT chs ts) (saidT chs' ts')).map V.str)) du = some (.tup ((diffOf g (saidT chs ts) (saidT chs' ts')).map V.str)) := upd_same
        generalize upd H9 du (.tup ((diffOf g (saidT chs ts) (saidT chs' ts')).map V.str)) = H10 at s10 hdu
        have s810 := s9.trans s10
        have egg : r.g = r'.g := hrg.trans hrg'.symm
        have eD : diffOf r.g r.said r'.said = diffOf g (saidT chs ts) (saidT chs' ts') := by rw [hrg, hsd, hsd']
        refine ⟨_, rfl, _, rfl, p, p', r, r', rfl, (hM.same s28).same s810, hM'.same s810, egg, fun t1 H11 n11 s11 ht1 => ?_⟩
        rw [eD] at ht1
        refine ⟨_, rfl, _, _, .tup (.inl (.inl ht1)) (dp_strs _), .tup (.inl (.inl (s11 _ _ hdu))) (dp_strs _), shD _ _ _ _, shD _ _ _ _, _, rfl, ?_⟩
        rw [SeqAt.eqv_refl _ (SeqAt.canLay_of_shaped (shD _ _ _ _))]
        exact iteF ⟨⟨_, _, _, _, _, _, rfl⟩, s8.trans (s810.trans s11)⟩
      · rintro σ H8 ⟨⟨y3, y4, y5, y6, y7, y8, rfl⟩, s8⟩
        exact q _ (s1.trans (s17.trans s8))
end
end Wl

namespace Wl
open PySem PySem.Spec PyProof.Rows L2
abbrev sAgain : Stmt := topS 83
theorem cat_tl (x y : Str) : (x ++ y).cps.toList = x.cps.toList ++ y.cps.toList := by
  show (x.cps ++ y.cps).toList = _
  rw [Array.toList_append]
theorem app_l {x y z : Str} (h : z ++ x = z ++ y) : x = y := by
  have e := congrArg (fun s : Str => s.cps.toList) h
  simp only [cat_tl] at e
  exact str_ext (List.append_cancel_left e)
theorem app_r {x y z : Str} (h : x ++ z = y ++ z) : x = y := by
  have e := congrArg (fun s : Str => s.cps.toList) h
  simp only [cat_tl] at e
  exact str_ext (List.append_cancel_right e)
theorem app_xy {x y : Str} (h : x ++ ("x" : Str) = y ++ ("y" : Str)) : False := by
  have e := congrArg (fun s : Str => s.cps.toList) h
  simp only [cat_tl] at e
  have e1 : ("x" : Str).cps.toList = [120] := by decide +kernel
  have e2 : ("y" : Str).cps.toList = [121] := by decide +kernel
  rw [e1, e2] at e
  have := (List.append_inj' e rfl).2
  cases this
theorem cat_wd {z y : Str} (h : IsWd z) (k : IsWd y) (h8 : z.length + y.length ≤ 8) : IsWd (z ++ y) := by
  obtain ⟨z1, z2⟩ := wd_codes.mp h
  obtain ⟨y1, y2⟩ := wd_codes.mp k
  have e : (z ++ y).cps.toList = codes z ++ codes y := cat_tl z y
  have lz' : (codes z).length = z.length := Array.length_toList
  have ly' : (codes y).length = y.length := Array.length_toList
  refine isWd_of ?_ ?_ fun c hc => ?_
  · rw [e, List.length_append]
    have := h.len
    omega
  · rw [e, List.length_append]
    omega
  · rw [e] at hc
    rcases List.mem_append.mp hc with hc | hc
    · exact z2 c hc
    · exact y2 c hc
/-- the same told of another thing by another teller -/
def agX (t : Tel) : Tel := ⟨t.v, ("zzz" : Str) ++ t.th, t.wo, t.tl ++ ("x" : Str), 120 - t.age, t.g, t.sure⟩
def agY (t : Tel) : Tel := ⟨t.v, ("zzz" : Str) ++ t.th, t.wo, t.tl ++ ("y" : Str), 7, t.g, t.sure⟩
theorem len_zzz : ("zzz" : Str).length = 3 := by decide +kernel
theorem len_x : ("x" : Str).length = 1 := by decide +kernel
theorem len_y : ("y" : Str).length = 1 := by decide +kernel
theorem agX_ok {t : Tel} (h : OkT t) (l : t.th.length ≤ 4 ∧ t.tl.length ≤ 4) : OkT (agX t) := ⟨h.v, cat_wd (by decide +kernel) h.th (by rw [len_zzz]; omega), h.wo, cat_wd h.tl (by decide +kernel) (by rw [len_x]; omega), by show 120 - t.age ≤ 120; omega, h.g⟩
theorem agY_ok {t : Tel} (h : OkT t) (l : t.th.length ≤ 4 ∧ t.tl.length ≤ 4) : OkT (agY t) := ⟨h.v, cat_wd (by decide +kernel) h.th (by rw [len_zzz]; omega), h.wo, cat_wd h.tl (by decide +kernel) (by rw [len_y]; omega), (by decide : 7 ≤ 120), h.g⟩
theorem key_xx {t u : Tel} (h : keyS (agX t) = keyS (agX u)) : keyS t = keyS u := by
  simp only [keyS, agX, List.cons.injEq, and_true] at h ⊢
  exact ⟨h.1, app_r h.2.1, app_l h.2.2.1, h.2.2.2⟩
theorem key_yy {t u : Tel} (h : keyS (agY t) = keyS (agY u)) : keyS t = keyS u := by
  simp only [keyS, agY, List.cons.injEq, and_true] at h ⊢
  exact ⟨h.1, app_r h.2.1, app_l h.2.2.1, h.2.2.2⟩
theorem key_xy {t u : Tel} (h : keyS (agX t) = keyS (agY u)) : False := by
  simp only [keyS, agX, agY, List.cons.injEq, and_true] at h
  exact app_xy h.2.1
structure AgI (pre acc : List Tel) : Prop where
  frm : ∀ u ∈ acc, ∃ t ∈ pre, u = agX t ∨ u = agY t
  has : ∀ t ∈ pre, agX t ∈ acc
  nd : (acc.map keyS).Nodup
  len : acc.length ≤ 2 * pre.length
theorem AgI.x {pre acc : List Tel} {t : Tel} (h : AgI pre acc) (hn : keyS t ∉ pre.map keyS) : AgI (pre ++ [t]) (acc ++ [agX t]) where
  frm := fun u hu => by
    rcases List.mem_append.mp hu with hu | hu
    · obtain ⟨t', h1, h2⟩ := h.frm u hu
      exact ⟨t', List.mem_append_left _ h1, h2⟩
    · exact ⟨t, List.mem_append_right _ (List.mem_singleton.mpr rfl), .inl (List.mem_singleton.mp hu)⟩
  has := fun u hu => by
    rcases List.mem_append.mp hu with hu | hu
    · exact List.mem_append_left _ (h.has u hu)
    · rw [List.mem_singleton.mp hu]
      exact List.mem_append_right _ (List.mem_singleton.mpr rfl)
  nd := by
    rw [List.map_append]
    refine List.nodup_append.mpr ⟨h.nd, by simp, fun x hx y hy e => ?_⟩
    rw [List.map_cons, List.map_nil, List.mem_singleton] at hy
    obtain ⟨u, hu, rfl⟩ := List.mem_map.mp hx
    rw [hy] at e
    obtain ⟨t', h1, rfl | rfl⟩ := h.frm u hu
    · exact hn (List.mem_map.mpr ⟨t', h1, key_xx e⟩)
    · exact key_xy e.symm
  len := by
    have := h.len
    rw [List.length_append, List.length_append]
    simp
    omega
theorem AgI.xy {pre acc : List Tel} {t : Tel} (h : AgI pre acc) (hn : keyS t ∉ pre.map keyS) : AgI (pre ++ [t]) (acc ++ [agX t] ++ [agY t]) where
  frm := fun u hu => by
    rcases List.mem_append.mp hu with hu | hu
    · exact (h.x hn).frm u hu
    · exact ⟨t, List.mem_append_right _ (List.mem_singleton.mpr rfl), .inr (List.mem_singleton.mp hu)⟩
  has := fun u hu => List.mem_append_left _ ((h.x hn).has u hu)
  nd := by
    rw [List.map_append]
    refine List.nodup_append.mpr ⟨(h.x hn).nd, by simp, fun x hx y hy e => ?_⟩
    rw [List.map_cons, List.map_nil, List.mem_singleton] at hy
    obtain ⟨u, hu, rfl⟩ := List.mem_map.mp hx
    rw [hy] at e
    rcases List.mem_append.mp hu with hu | hu
    · obtain ⟨t', h1, rfl | rfl⟩ := h.frm u hu
      · exact key_xy e
      · exact hn (List.mem_map.mpr ⟨t', h1, key_yy e⟩)
    · rw [List.mem_singleton.mp hu] at e
      exact key_xy e
  len := by
    have := h.len
    rw [List.length_append, List.length_append, List.length_append]
    simp
    omega
/-- they say the same words of the one thing as of the other -/
theorem again_said {ts acc : List Tel} (h : AgI ts.reverse acc) (h120 : ∀ t ∈ ts, t.age ≤ 120) (chs : List Chg) (z y : Str) : saidOf chs acc (("zzz" : Str) ++ z) 0 120 y = saidOf chs ts z 0 120 y := by
  unfold saidOf wordsIn
  refine sortS_alike (keysOf_nodup _) (keysOf_nodup _) fun m => ?_
  rw [mem_keysOf, mem_keysOf, List.mem_map, List.mem_map]
  have mem : ∀ {l : List Tel} {q : Str} {t : Tel}, t ∈ ((shownOf l q 0 120).filter fun t => t.sure).filter (fun t => decide (t.v = y)) ↔ t ∈ l ∧ t.th = q ∧ t.age ≤ 120 ∧ t.sure = true ∧ t.v = y := fun {l q t} => by
    unfold shownOf
    rw [List.mem_filter, List.mem_filter, List.mem_filter]
    simp [and_assoc]
  constructor
  · rintro ⟨u, hu, e⟩
    obtain ⟨h1, h2, h3, h4, h5⟩ := mem.mp hu
    obtain ⟨t, ht, k⟩ := h.frm u h1
    have ht := List.mem_reverse.mp ht
    rcases k with rfl | rfl
    · exact ⟨t, mem.mpr ⟨ht, app_l h2, h120 t ht, h4, h5⟩, e⟩
    · exact ⟨t, mem.mpr ⟨ht, app_l h2, h120 t ht, h4, h5⟩, e⟩
  · rintro ⟨t, ht, e⟩
    obtain ⟨h1, h2, h3, h4, h5⟩ := mem.mp ht
    refine ⟨agX t, mem.mpr ⟨h.has t (List.mem_reverse.mpr h1), ?_, ?_, h4, h5⟩, e⟩
    · show ("zzz" : Str) ++ t.th = _
      rw [h2]
    · show 120 - t.age ≤ 120
      omega
section
variable {P : Program} {w : World} {K : PySem.W.Frag} {mg : Str → Option Value} {base : Heap} {f C D W : Addr} {fd : FuncData}
def spAgain : Sp := fun vs H Q _ => ∃ (a L l : Addr) (as : List Addr) (ts : List Tel), vs = [.ref a, .ref L, .ref l] ∧ PurseAt H a ∧ H l = some (.lst (as.map V.ref)) ∧ l ≠ a ∧ TelsAt H as ts ∧ (∀ t ∈ ts, OkT t) ∧ (∀ t ∈ ts, t.th.length ≤ 4 ∧ t.tl.length ≤ 4) ∧ (ts.map keyS).Nodup ∧ ts.length ≤ 24 ∧
  ∀ (l' : Addr) (as' : List Addr) (ts' : List Tel) (H' : Hp), PurseAt H' a → SameX a H H' → H l' = none → H' l' = some (.lst (as'.map V.ref)) → TelsAt H' as' ts' → AgI ts.reverse ts' → Q (.ref l') H'
abbrev psAgain : List Str := ["_law_purse_here", "_law_rows", "_law_some"]
abbrev nAgain : List Str := ["_law_purse_here", "_law_rows", "_law_some", "_law_found", "_law_town", "_law_item", "_law_term", "_law_who", "_law_years", "_law_scribe", "_law_firm"]
theorem scAgain : FnScope nAgain psAgain (defScope sAgain) := ⟨rfl, rfl, rfl, by decide +kernel, rfl, by decide +kernel, by decide +kernel⟩
theorem each_rev {α β : Type} {R : α → β → Prop} : ∀ {as : List α} {bs : List β}, Each R as bs → Each R as.reverse bs.reverse
  | _, _, .nil => .nil
  | _, _, .cons r t => by
    rw [List.reverse_cons, List.reverse_cons]
    exact Each.append (each_rev t) (.cons r .nil)
theorem ok_again (F : Fun K "_law_again" "_law_again" sAgain f fd) (hp : Has P w K mg base "_law_pick" 1 ["_law_purse_here", "_law_many"] spPick) : FnOk P w K mg base CX0 2 f fd psAgain spAgain := by
  refine F.ok scAgain (fun vs H Q E h => ?_) (fun cdv A outer s H vs Q E hr h => ?_)
  · obtain ⟨a, L, l, as, ts, rfl, _⟩ := h
    rfl
  · obtain ⟨a, L, l, as, ts, rfl, hA, hl, nla, hT, hok, hln, hnd, h24, q⟩ := h
    refine ⟨_, pss_cons (ps_set (i := 3) scAgain.nd rfl (.inl rfl) (pe_lst pa_nil))
      (pss_cons (ps_for PassesOwn.never rfl (pi_list (pe_revL (pv 2))) (pg_tup rfl (pgs_cons (pg_name (i := 4) scAgain.nd rfl (.inl rfl)) (pgs_cons (pg_name (i := 5) scAgain.nd rfl (.inl rfl)) (pgs_cons (pg_name (i := 6) scAgain.nd rfl (.inl rfl)) (pgs_cons (pg_name (i := 7) scAgain.nd rfl (.inl rfl)) (pgs_cons (pg_name (i := 8) scAgain.nd rfl (.inl rfl)) (pgs_cons (pg_name (i := 9) scAgain.nd rfl (.inl rfl)) (pgs_cons (pg_name (i := 10) scAgain.nd rfl (.inl rfl)) pgs_nil))))))))
        (pss_cons (ps_expr (pe_bm PySem.F.plainAttrs_list PySem.F.slot_list_append PySem.F.type_list_append mt_append (pv 3) (pa_cons (pe_tup (pa_cons (pv 4) (pa_cons (pe_op op_add_str pe_str (pv 5)) (pa_cons (pv 6) (pa_cons (pe_op op_add_str (pv 7) pe_str) (pa_cons (pe_op op_sub pe_int (pv 8)) (pa_cons (pv 9) (pa_cons (pv 10) pa_nil)))))))) pa_nil)))
        (pss_one (ps_if (pt_cmpR op_eq (pe_h hp hr (pa_cons (pv 0) (pa_cons pe_int pa_nil))) pe_int (nomark _)) (pss_one (ps_expr (pe_bm PySem.F.plainAttrs_list PySem.F.slot_list_append PySem.F.type_list_append mt_append (pv 3) (pa_cons (pe_tup (pa_cons (pv 4) (pa_cons (pe_op op_add_str pe_str (pv 5)) (pa_cons (pv 6) (pa_cons (pe_op op_add_str (pv 7) pe_str) (pa_cons pe_int (pa_cons (pv 9) (pa_cons (pv 10) pa_nil)))))))) pa_nil)))) pss_nil))))
      (pss_one (ps_ret (pv 3)))), ?_⟩
    obtain ⟨ya, hya⟩ := id hA.lst
    refine ⟨lz, fun Fo nFo => ?_⟩
    have nFa : Fo ≠ a := hA.ne nFo
    have s1 := same_new (o := .lst []) nFo
    have hF1 : upd H Fo (.lst []) Fo = some (.lst (([] : List Addr).map V.ref)) := upd_same
    generalize upd H Fo (.lst []) = H1 at s1 hF1
    refine ⟨_, rfl, l, _, rfl, .inl (.inl (s1 _ _ hl)), fun R nR => ?_⟩
    have nRa : R ≠ a := (hA.same s1).ne nR
    have nRF : R ≠ Fo := (ne_of_none hF1 nR).symm
    have s2 := same_new (o := .lst (as.map V.ref).reverse) nR
    have hR2 : upd H1 R (.lst (as.map V.ref).reverse) R = some (.lst (as.map V.ref).reverse) := upd_same
    have hF2 := s2 _ _ hF1
    generalize upd H1 R (.lst (as.map V.ref).reverse) = H2 at s2 hR2 hF2
    have s02 := s1.trans s2
    rw [← List.map_reverse] at hR2
    have hTr : TelsAt H as.reverse ts.reverse := each_rev hT
    have ndr : (ts.reverse.map keyS).Nodup := by
      rw [List.map_reverse]
      exact (List.reverse_perm _).nodup_iff.mpr hnd
    have lr : as.reverse.length = ts.length := by rw [List.length_reverse]; exact hT.length
    refine ⟨R, rfl, ⟨_, .inl (.inl hR2)⟩, for_list (K := K) (a := R) (xs := as.reverse.map V.ref) (fun i σ H' => (∃ y4 y5 y6 y7 y8 y9 y10, σ = [some (.ref a), some (.ref L), some (.ref l), some (.ref Fo), y4, y5, y6, y7, y8, y9, y10]) ∧ PurseAt H' a ∧ SameX a H H' ∧ H' R = some (.lst (as.reverse.map V.ref)) ∧ ∃ (as' : List Addr) (ts' : List Tel), H' Fo = some (.lst (as'.map V.ref)) ∧ TelsAt H' as' ts' ∧ AgI (ts.reverse.take i) ts')
      ⟨⟨_, _, _, _, _, _, _, rfl⟩, hA.same s02, sx s02, hR2, [], [], hF2, .nil, ⟨fun u hu => (List.not_mem_nil hu).elim, fun u hu => by simp at hu, by simp, by simp⟩⟩ (fun i σ H' _ h => .inl (.inl h.2.2.2.1)) ?_ ?_⟩
    · rintro i x σ H3 hx ⟨⟨y4, y5, y6, y7, y8, y9, y10, rfl⟩, hA3, x3, hR3, as', ts', hF3, hT3, I3⟩
      rw [List.getElem?_map] at hx
      obtain ⟨pt, hpt, rfl⟩ := Option.map_eq_some_iff.mp hx
      obtain ⟨t, ht, hH⟩ := Each.get hTr hpt
      have htm : t ∈ ts := List.mem_reverse.mp (List.mem_of_getElem? ht)
      have okt := hok t htm
      have ln := hln t htm
      have hil : i < ts.reverse.length := (List.getElem?_eq_some_iff.mp ht).1
      rw [List.length_reverse] at hil
      have lac : as'.length ≤ 2 * i := by
        have h1 : as'.length = ts'.length := hT3.length
        have h2 := I3.len
        rw [List.length_take] at h2
        omega
      have hnew : keyS t ∉ (ts.reverse.take i).map keyS := new_key ndr ht
      have vw := okt.th.len
      have tw := okt.tl.len
      have hS3 : SqT K H3 pt (telV t) := .inl (.inl ((tk_x x3 hya) _ _ hH))
      refine ⟨pt, _, rfl, hS3, rfl, _, _, rfl, _, _, rfl, _, _, rfl, _, _, rfl, _, _, rfl, _, _, rfl, _, _, rfl, rfl, ?_⟩
      refine ⟨_, rfl, .inl ⟨rfl, _, .inl (.inl hF3)⟩, _, rfl, _, rfl, ("zzz" : Str), t.th, rfl, rfl, by rw [len_zzz]; exact lzl (by omega), _, rfl, _, rfl, t.tl, ("x" : Str), rfl, rfl, by rw [len_x]; exact lzl (by omega), _, rfl, _, _, rfl, rfl, _, rfl, _, rfl, lz, fun T nT => ?_⟩
      have eX : ([V.str t.v, V.str (("zzz" : Str) ++ t.th), V.str t.wo, V.str (t.tl ++ ("x" : Str)), V.int (120 - (t.age : Int)), V.str t.g, V.bl t.sure] : List V) = telV (agX t) := by
        have e0 : (120 : Int) - (t.age : Int) = ((120 - t.age : Nat) : Int) := by
          have := okt.age
          omega
        rw [e0]
        rfl
      rw [eX]
      have nTF : T ≠ Fo := (ne_of_none hF3 nT).symm
      have nTR : T ≠ R := (ne_of_none hR3 nT).symm
      have nTa : T ≠ a := hA3.ne nT
      have s4 := same_new (o := .tup (telV (agX t))) nT
      have hT4 : upd H3 T (.tup (telV (agX t))) T = some (.tup (telV (agX t))) := upd_same
      generalize upd H3 T (.tup (telV (agX t))) = H4 at s4 hT4
      have hF4 := s4 _ _ hF3
      refine ⟨Fo, _, _, rfl, rfl, hF4, by rw [List.length_map]; exact small1000 (by omega), ?_⟩
      have k5 : TupKeep H4 (upd H4 Fo (.lst (as'.map V.ref ++ [V.ref T]))) := tk_upd hF4
      have hF5 : upd H4 Fo (.lst (as'.map V.ref ++ [V.ref T])) Fo = some (.lst ((as' ++ [T]).map V.ref)) := by
        rw [upd_same, List.map_append]
        rfl
      have hA5 : PurseAt (upd H4 Fo (.lst (as'.map V.ref ++ [V.ref T]))) a := by
        obtain ⟨y0, y1, y2, hy, hy1⟩ := hA3.same s4
        exact ⟨y0, y1, y2, by rw [upd_ne nFa.symm]; exact hy, hy1⟩
      have x5 : SameX a H (upd H4 Fo (.lst (as'.map V.ref ++ [V.ref T]))) := sameX_mut (x3.trans (sx s4)) nFo
      have hR5 : upd H4 Fo (.lst (as'.map V.ref ++ [V.ref T])) R = some (.lst (as.reverse.map V.ref)) := by
        rw [upd_ne nRF]
        exact s4 _ _ hR3
      have hT5 : TelsAt (upd H4 Fo (.lst (as'.map V.ref ++ [V.ref T]))) (as' ++ [T]) (ts' ++ [agX t]) := Each.append ((hT3.keep (tk_same s4)).keep k5) (.cons (k5 _ _ hT4) .nil)
      have hS5 := k5 _ _ (s4 _ _ ((tk_x x3 hya) _ _ hH))
      generalize upd H4 Fo (.lst (as'.map V.ref ++ [V.ref T])) = H5 at hF5 hA5 x5 hR5 hT5 hS5
      refine ⟨_, rfl, a, 3, rfl, hA5, by decide, by decide, fun w6 H6 w60 w61 hA6 x6 _ => ⟨rfl, _, rfl, ite_b (fun e => ?_) (fun e => ?_)⟩⟩
      · have hF6 := x6 _ _ nFa hF5
        refine ⟨_, rfl, .inl ⟨rfl, _, .inl (.inl hF6)⟩, _, rfl, _, rfl, ("zzz" : Str), t.th, rfl, rfl, by rw [len_zzz]; exact lzl (by omega), _, rfl, _, rfl, t.tl, ("y" : Str), rfl, rfl, by rw [len_y]; exact lzl (by omega), _, rfl, _, rfl, lz, fun T2 nT2 => ?_⟩
        have eY : ([V.str t.v, V.str (("zzz" : Str) ++ t.th), V.str t.wo, V.str (t.tl ++ ("y" : Str)), V.int 7, V.str t.g, V.bl t.sure] : List V) = telV (agY t) := rfl
        rw [eY]
        have s7 := same_new (o := .tup (telV (agY t))) nT2
        have hT7 : upd H6 T2 (.tup (telV (agY t))) T2 = some (.tup (telV (agY t))) := upd_same
        have hTa : TelsAt H6 (as' ++ [T]) (ts' ++ [agX t]) := by
          obtain ⟨yb, hyb⟩ := hA5.lst
          exact hT5.keep (tk_x x6 hyb)
        have hR6 := x6 _ _ nRa hR5
        generalize upd H6 T2 (.tup (telV (agY t))) = H7 at s7 hT7
        have hF7 := s7 _ _ hF6
        have k8 : TupKeep H7 (upd H7 Fo (.lst ((as' ++ [T]).map V.ref ++ [V.ref T2]))) := tk_upd hF7
        refine ⟨Fo, _, _, rfl, rfl, hF7, by rw [List.length_map, List.length_append]; exact small1000 (by simp; omega), ⟨_, _, _, _, _, _, _, rfl⟩, ?_, sameX_mut (x5.trans (x6.trans (sx s7))) nFo, ?_, as' ++ [T] ++ [T2], ts' ++ [agX t] ++ [agY t], ?_, Each.append ((hTa.keep (tk_same s7)).keep k8) (.cons (k8 _ _ hT7) .nil), ?_⟩
        · obtain ⟨y0, y1, y2, hy, hy1⟩ := hA6.same s7
          exact ⟨y0, y1, y2, by rw [upd_ne nFa.symm]; exact hy, hy1⟩
        · rw [upd_ne nRF]
          exact s7 _ _ hR6
        · rw [upd_same, List.map_append (l₁ := as' ++ [T])]
          rfl
        · rw [take_snoc ht]
          exact I3.xy hnew
      · obtain ⟨yb, hyb⟩ := hA5.lst
        exact ⟨⟨_, _, _, _, _, _, _, rfl⟩, hA6, x5.trans x6, x6 _ _ nRa hR5, as' ++ [T], ts' ++ [agX t], x6 _ _ nFa hF5, hT5.keep (tk_x x6 hyb), by rw [take_snoc ht]; exact I3.x hnew⟩
    · rintro σ H3 ⟨⟨y4, y5, y6, y7, y8, y9, y10, rfl⟩, hA3, x3, hR3, as', ts', hF3, hT3, I3⟩
      have el : (as.reverse.map V.ref).length = ts.reverse.length := by rw [List.length_map, lr, List.length_reverse]
      rw [el, List.take_length] at I3
      exact ⟨_, rfl, q Fo as' ts' H3 hA3 x3 nFo hF3 hT3 I3⟩
end
end Wl

/-! t * 1, t a tuple: the same tuple -/
namespace Wl
open PySem PySem.Spec PyProof.Rows L2
open AutoSeq1 (wpAny_loadPart') in
theorem tuple_mul1 (l : Addr) (items : Array Value) (n : Nat) (dd : Option Addr) (sl : Array (Option Value)) (u : Tok) :
    Meets (Builtin.«tuple.__mul__» ⟨[.ref l, .int 1 u], []⟩) (fun _ R s => s.heap.get? l = some { cls := .type "tuple", dict := dd, data := .seq items n, slots := sl } ∧ R (.ok (.ret (Value.ref l))) s) :=
  .of_wp fun prog w A R s h => by
    obtain ⟨hp, g, d, tk, os⟩ := s
    obtain ⟨hl, h⟩ := h
    have f1 := AutoSeq1.idx_int
    wp_walk using wpAny_loadPart' hl
    exact ⟨_, rfl, h⟩
section
variable {X : Cx}
def rRep1 (K : PySem.W.Frag) : R2 := fun x y H Q => ∃ l xs, x = .ref l ∧ y = .int 1 ∧ SqT K H l xs ∧ Q (.ref l) H
theorem op_rep1 : OpR X (binaryOp .Mult) (rRep1 X.K) := by
  intro pins s σ H x y v u Q I rx ry h
  obtain ⟨l, xs, rfl, rfl, hT, q⟩ := h
  cases rx
  obtain ⟨t, rfl⟩ := ry
  obtain ⟨its, r, ⟨⟨cls, dd, data, sl⟩, ho, hc, n, hd⟩, hs⟩ := I.tuple hT
  simp only at hc hd
  subst hc hd
  exact wpAny_binaryOp_repeat_ref (T := "tuple") (U := "int") (by decide) ⟨_, ho, rfl⟩ (fun s' => typeIs_int s' 1 t) noFill_tuple_mul F.fills_int_mul F.slot_int_rmul repeat_tuple F.slot_int_index.lookup
    (call_meets F.slot_int_rmul (typeIs_int s 1 t) F.entry_int_rmul (F.args_int_rmul_2 _ _) (int_rmul_tuple 1 t l its.toArray n dd sl) ⟨ho, rfl, ⟨_, ho, rfl⟩, call_meets F.slot_tuple_mul ⟨_, ho, rfl⟩ F.entry_tuple_mul (F.args_tuple_mul_2 _ _) (tuple_mul1 l its.toArray n dd sl t) ⟨ho, .ref l, H, I, rfl, q⟩⟩)
/-- (None,) * n -/
theorem op_repN : OpR X (binaryOp .Mult) (fun x y H Q => rRepT X.K x y H Q ∨ rRep1 X.K x y H Q) := op_or op_repT op_rep1
theorem rep_reads {K : PySem.W.Frag} {H : Hp} {Q : VK} {l : Addr} {v : V} {n : Nat} (h : H l = some (.tup [v])) (h1 : 1 ≤ n) (h2 : n ≤ 100) (q : ∀ p H', Same H H' → H' p = some (.tup (List.replicate n v)) → Q (.ref p) H') : rRepT K (.ref l) (.int (n : Nat)) H Q ∨ rRep1 K (.ref l) (.int (n : Nat)) H Q := by
  by_cases e : n = 1
  · subst e
    exact .inr ⟨l, [v], rfl, rfl, .inl (.inl h), q l H (Same.refl H) h⟩
  · refine .inl ⟨l, n, [v], rfl, rfl, .inl (.inl h), by simp, by omega, by omega, by simp, fun p hp => q p _ (same_new hp) ?_⟩
    rw [upd_same, Int.toNat_natCast]
    congr 2
    clear h q h1 h2 e hp
    induction n with
    | zero => rfl
    | succ n ih => rw [List.replicate_succ, List.replicate_succ, List.flatten_cons, ih]; rfl
end
end Wl

namespace Wl
open PySem PySem.Spec PyProof.Rows L2
theorem atI_last {α : Type} (l : List α) (x : α) : atI (l ++ [x]) (-1) = some x := by
  unfold atI ixN
  rw [List.length_append, List.length_singleton, if_neg (by omega), if_pos (by omega)]
  have e : ((-1 : Int) + ((l.length + 1 : Nat) : Int)).toNat = l.length := by omega
  simp only [e, Option.bind_some]
  simp
theorem atI_last2 {α : Type} (l : List α) (x y : α) : atI (l ++ [x] ++ [y]) (-2) = some x := by
  unfold atI ixN
  rw [List.length_append, List.length_append, List.length_singleton, List.length_singleton, if_neg (by omega), if_pos (by omega)]
  have e : ((-2 : Int) + ((l.length + 1 + 1 : Nat) : Int)).toNat = l.length := by omega
  simp only [e, Option.bind_some]
  simp
theorem names_cons' (r : Row) (g : Grid) : names (r :: g) = names [r] ++ names g := by
  unfold names
  simp
theorem names_app' : ∀ (a b : Grid), names (a ++ b) = names a ++ names b
  | [], b => rfl
  | r :: a, b => by rw [List.cons_append, names_cons', names_cons' r a, names_app' a b, List.append_assoc]
theorem more_good {g : Grid} {wd : Nat} (gd : Good g wd) (h : g.length < 6) : Good (g ++ [List.replicate wd none]) wd := by
  have hn : names (g ++ [List.replicate wd none]) = names g := by
    rw [names_app']
    have : names [List.replicate wd (none : Option Str)] = [] := by
      unfold names
      simp
    rw [this, List.append_nil]
  refine ⟨by simp, by simp; omega, gd.w1, gd.w6, fun q hq => ?_, by rw [hn]; exact gd.nd, by rw [hn]; exact gd.wd, by rw [hn]; exact gd.ne⟩
  rcases List.mem_append.mp hq with hq | hq
  · exact gd.rows q hq
  · rw [List.mem_singleton.mp hq]
    exact List.length_replicate
section
variable {P : Program} {w : World} {K : PySem.W.Frag} {mg : Str → Option Value} {base : Heap} {f C D W : Addr} {fd : FuncData}
theorem cat_rd {H : Hp} {Q : VK} {a b : Addr} {xs ys : List V} (ha : H a = some (.tup xs)) (hb : H b = some (.tup ys)) (hl : xs.length + ys.length ≤ sizeLine) (q : ∀ u H', Same H H' → H' u = some (.tup (xs ++ ys)) → Q (.ref u) H') : rCatA K (.ref a) (.ref b) H Q := by
  refine ⟨a, b, xs, ys, rfl, rfl, .inl (.inl ha), .inl (.inl hb), hl, fun e => ?_, fun _ e => ?_, fun _ _ p np => q p _ (same_new np) upd_same⟩
  · refine q b H (Same.refl H) ?_
    rw [e, List.nil_append]
    exact hb
  · refine q a H (Same.refl H) ?_
    rw [e, List.append_nil]
    exact ha
theorem mi_b3 (F : FunI K f fd) : ∃ ds, Vals [V.non, V.int 0, V.int 120] ds ∧ Binds K fd psMI ds :=
  F.binds1 (ps := psMI) 3 0 (by simp) rfl (fun T kV doc pm an cdv ct us its l1 l2 => by
      match us, its, l1, l2 with
      | [_, _, _], [_, _, _], _, _ => exact ⟨_, rfl, rfl⟩)
/-- a map that was made, as a map of words -/
theorem mapG_of {H : Hp} {p : Addr} {rg : GR} {wd : Nat} {z : Str} {chs : List Chg} {lo hi : Nat} (h : MapOf C W H p rg z chs lo hi) (gd : Good rg.g wd) (ok : ∀ t ∈ rg.ts, OkT t) (len : rg.ts.length ≤ 200) (okc : OkCs chs) : ∃ r : MR, MapG C W H p r ∧ r.g = rg.g ∧ r.z = z ∧ r.said = saidOf chs rg.ts z lo hi := by
  obtain ⟨S, d, a, b, hM, hX⟩ := h
  refine ⟨_, ⟨hM, ⟨wd, gd⟩, fun y hy => ?_, fun y hy => ?_⟩, rfl, rfl, rfl⟩
  · show ∀ x ∈ saidOf chs rg.ts z lo hi y, IsWd x
    unfold saidOf
    exact wds_in okc fun t ht => ok t (List.mem_filter.mp (List.mem_filter.mp (List.mem_filter.mp ht).1).1).1
  · show (saidOf chs rg.ts z lo hi y).length ≤ 200
    unfold saidOf shownOf
    exact Nat.le_trans (words_len _ _) (sub_len (sub_len (sub_len len)))
theorem said_sel (chs : List Chg) (ts : List Tel) (z : Str) (lo hi : Nat) : saidOf chs ts z lo hi = saidT chs (selOf ts z lo hi true) := by
  funext y
  unfold saidOf
  rw [sel_sure]
/-- making one with changes left out -/
theorem make_non {H : Hp} {g : Addr} {r : GR} {wd : Nat} {z : Str} {R : VK} {x dx : Addr} {vs : List V} (hG : GatAt C D H g r) (gd : Good r.g wd) (ok : ∀ t ∈ r.ts, OkT t) (len : r.ts.length ≤ 200) (hz : IsWd z)
    (nx : H x = none) (ndx : H dx = none) (nex : dx ≠ x) (ev : vs = [V.ref x, .ref g, .str z, .non, .int 0, .int 120]) (q : ∀ (H' : Hp), Same H H' → MapOf C W H' x r z [] 0 120 → R .non H') :
    spMI C D W vs (upd (upd H dx (.own x)) x (.ins W dx [])) R E0 := by
  subst ev
  have s2 : Same H (upd (upd H dx (.own x)) x (.ins W dx [])) := fun b o e => by
    rw [upd_ne (ne_of_none e nx), upd_ne (ne_of_none e ndx)]
    exact e
  refine ⟨x, dx, g, r, wd, z, .non, [], 0, 120, rfl, upd_same, hG.same s2, gd, ok, len, hz, .inl ⟨rfl, rfl⟩, ⟨by decide, fun ch h => (List.not_mem_nil h).elim⟩, by decide, by decide, fun S' d' a b H' hb hM hX => q H' ?_ ⟨S', d', a, b, hM, hX⟩⟩
  exact fun b o e => hb b o (ne_of_none e nx) (s2 _ _ e)
theorem said_nil (chs : List Chg) (z : Str) (lo hi : Nat) (y : Str) : saidOf chs [] z lo hi y = [] := by
  unfold saidOf shownOf
  exact List.eq_nil_of_length_eq_zero (by have := words_len chs []; simpa using this)
/-- a chart and its told -/
theorem chT_of {H : Hp} {c p d : Addr} {rg : GR} {wd : Nat} {z : Str} {chs : List Chg} {lo hi : Nat} (hc : H c = some (.tup [.ref p, .ref d])) (h : MapOf C W H p rg z chs lo hi) (gd : Good rg.g wd) (ok : ∀ t ∈ rg.ts, OkT t) (len : rg.ts.length ≤ 24) (okc : OkCs chs) (hv : ∀ t ∈ rg.ts, t.v ∈ names rg.g) (z8 : z.length ≤ 8) (hB : ByV H d (vsOf (selOf rg.ts z lo hi true)) chs (selOf rg.ts z lo hi true)) : ChT C W H rg.g c := by
  obtain ⟨r, hM, e1, e2, e3⟩ := mapG_of h gd ok (by omega) okc
  refine ⟨p, d, r, chs, selOf rg.ts z lo hi true, hc, hM, e1, ?_, by rw [e2]; exact z8, hB, ⟨okc, fun t ht => ok t (List.mem_filter.mp ht).1, fun t ht => hv t (List.mem_filter.mp ht).1, sub_len len⟩⟩
  rw [e3, said_sel]
end
end Wl

namespace Wl
open PySem PySem.Spec PyProof.Rows L2
abbrev sLaw : Stmt := topS 84
section
variable {P : Program} {w : World} {K : PySem.W.Frag} {mg : Str → Option Value} {base : Heap} {f C D W : Addr} {fd : FuncData}
theorem bare_of {H : Hp} {L : Addr} {g : Grid} {wd : Nat} (hG : GridAt H L g) (gd : Good g wd) {Q : Addr → Hp → Prop} (q : ∀ (gp : Addr) (r : GR) (H' : Hp), Same H H' → GatAt C D H' gp r → r.ts = [] → r.g = g → Q gp H') : ∀ pl dl, H pl = none → H dl = none → dl ≠ pl → spInit C [.ref pl, .ref L] (upd (upd H dl (.own pl)) pl (.ins C dl [])) (fun v H1 => v = .non ∧ ∀ gp dgp, H1 gp = none → H1 dgp = none → dgp ≠ gp → spGInit C D [.ref gp, .ref pl] (upd (upd H1 dgp (.own gp)) gp (.ins D dgp [])) (fun v H2 => v = .non ∧ Q gp H2) E0) E0 := fun pl dl npl ndl nel => by
  have kp1 : TupKeep H (upd (upd H dl (.own pl)) pl (.ins C dl [])) := fun b xs h => by
    rw [upd_ne (ne_of_none h npl), upd_ne (ne_of_none h ndl)]
    exact h
  refine ⟨pl, dl, L, g, wd, rfl, upd_same, hG.keep kp1, gd, fun H1 k1 hLa1 => ⟨rfl, ?_⟩⟩
  have s1 := made_same npl ndl k1
  intro p dp np ndp nep
  have s2 : Same H1 (upd (upd H1 dp (.own p)) p (.ins D dp [])) := fun b o e => by
    rw [upd_ne (ne_of_none e np), upd_ne (ne_of_none e ndp)]
    exact e
  have npp : p ≠ pl := fun e => by
    obtain ⟨_, _, h1⟩ := hLa1.ins
    rw [← e, np] at h1
    cases h1
  refine ⟨p, dp, pl, L, g, rfl, upd_same, hLa1.same s2, npp, fun td dd H2 htd hdd kk2 hG2 => ⟨rfl, ?_⟩⟩
  have s12 : Same H1 H2 := fun b o e => kk2 b o (ne_of_none e np) (s2 b o e)
  exact q p _ H2 (s1.trans s12) hG2 rfl rfl
def spLaw (K : PySem.W.Frag) : Sp := fun vs H Q _ => ∃ (a : Addr) (ns : List Int), vs = [.ref a] ∧ SqL K H a (ns.map V.int) ∧ ns.length ≤ 63 ∧ ∀ H', Q (.bl true) H'
abbrev nLaw : List Str := ["_law_script", "_law_k", "_law_purse_here", "_law_great", "_law_bends", "_law_rows", "_law_some", "_law_late", "_law_found", "_law_new", "_law_charts", "_law_item", "_law_turn", "_law_told", "_law_mate", "_law_bare", "_law_more"]
theorem scLaw : FnScope nLaw ["_law_script"] (defScope sLaw) := ⟨rfl, rfl, rfl, by decide +kernel, rfl, by decide +kernel, by decide +kernel⟩
theorem ok_law (F : Fun K "law" "law" sLaw f fd) (B : Bi mg) (T : Txt2 K mg C) (TG : TxtG K mg D) (TM : TxtM K mg W) (neW : NeC K W) (hI : HasI P w K mg base C) (hGi : HasG P w K mg base C D) (hW : HasW P w K mg base C D W) (hE : HasM P w K mg base W "__eq__" 2 ["self", "other"] (spME K C W))
    (hCell : Has P w K mg base "_law_cell" 1 ["_law_script", "_law_k"] (spCell K)) (hPurse : Has P w K mg base "_law_purse" 1 ["_law_cell_here"] spPurse) (hPick : Has P w K mg base "_law_pick" 1 ["_law_purse_here", "_law_many"] spPick)
    (hChg : Has P w K mg base "_law_changes" 2 ["_law_purse_here", "_law_top"] spChanges) (hLand : Has P w K mg base "_law_land" 4 ["_law_purse_here", "_law_top"] spLand) (hNames : Has P w K mg base "_law_names" 1 ["_law_rows"] spNames)
    (hTels : Has P w K mg base "_law_tellings" 3 ["_law_purse_here", "_law_towns", "_law_many"] spTels) (hAgain : Has P w K mg base "_law_again" 2 psAgain spAgain) (hPut : Has P w K mg base "_law_put" 6 ["_law_purse_here", "_law_rows", "_law_some"] (spLPut C D)) (hShown : Has P w K mg base "_law_shown" 3 psSho spShown)
    (hShR : Has P w K mg base "_law_shown_right" 7 psShownR (spShownR C W)) (hDf : Has P w K mg base "differences" 3 ["one", "other"] (spDiff C W)) (hPairs : Has P w K mg base "_law_pairs_right" 6 psPairsR (spPairsR C W)) (hKinds : Has P w K mg base "_law_kinds_right" 6 ["_law_chart", "_law_found"] (spKindsR C D W)) (hAlike : Has P w K mg base "_law_alike_right" 5 psAlikeR (spAlikeR C W)) : FnOk P w K mg base CX0 10 f fd ["_law_script"] (spLaw K) := by
  obtain ⟨fI, fdI, MI, GI, bI⟩ := hI
  obtain ⟨fG, fdG, MG, GG, bG⟩ := hGi
  obtain ⟨fW, fdW, MW, GW, FnW⟩ := hW
  obtain ⟨fE, fdE, FE, mE, bE⟩ := hE
  obtain ⟨ds4, v4, b4⟩ := mi_b4 FnW
  obtain ⟨ds3, v3, b3⟩ := mi_b3 FnW
  obtain ⟨itsB, kB⟩ := mi_kB FnW
  refine F.ok scLaw (fun vs H Q E h => ?_) (fun cdv A outer s H vs Q E hr h => ?_)
  · obtain ⟨a, ns, rfl, _⟩ := h
    rfl
  · obtain ⟨a, ns, rfl, hSc, hlen, q⟩ := h
    refine ⟨_, pss_cons (ps_for PassesOwn.never rfl (pi_range1 rfl B.range (pa_cons (pe_callB (call_max2 rfl) (by rfl) B.max (by decide +kernel) (pa_cons pe_int (pa_cons (pe_callB (call_min2 rfl) (by rfl) B.min (by decide +kernel) (pa_cons (pe_callB call_len_seq (by rfl) B.len PySem.boot_len (pa_cons (pv 0) pa_nil)) (pa_cons pe_int pa_nil))) pa_nil))) pa_nil)) (pg_name (i := 1) scLaw.nd rfl (.inl rfl))
        (pss_cons (ps_set (i := 2) scLaw.nd rfl (.inl rfl) (pe_h hPurse hr (pa_cons (pe_h hCell hr (pa_cons (pv 0) (pa_cons (pv 1) pa_nil))) pa_nil)))
        (C8.pss_cut (ps_set (i := 3) scLaw.nd rfl (.inl rfl) (pe_and (pe_cmpR op_eq (pv 1) pe_int (nomark _)) (pe_one (pe_cmpR op_eq (pe_h hPick hr (pa_cons (pv 2) (pa_cons pe_int pa_nil))) pe_int (nomark _)))))
        (pss_cons (ps_par (i := 4) (j := 5) (by rfl) scLaw.nd rfl rfl (by decide) rfl rfl (pa_cons (pe_h hChg hr (pa_cons (pv 2) (pa_cons pe_int pa_nil))) (pa_cons (pe_h hLand hr (pa_cons (pv 2) (pa_cons (pe_ix ix_list (pe_lst (pa_cons pe_int (pa_cons pe_int pa_nil))) (pe_callTy call_int1 (by rfl) B.int (by decide +kernel) (pa_cons (pv 3) pa_nil)) (fun _ _ => rfl)) pa_nil))) pa_nil)) (by rfl))
        (pss_cons (ps_set (i := 6) scLaw.nd rfl (.inl rfl) (pe_h hTels hr (pa_cons (pv 2) (pa_cons (pe_h hNames hr (pa_cons (pv 5) pa_nil)) (pa_cons (pe_h hPick hr (pa_cons (pv 2) (pa_cons pe_int pa_nil))) pa_nil)))))
        (pss_cons (ps_set (i := 7) scLaw.nd rfl (.inl rfl) (pe_h hAgain hr (pa_cons (pv 2) (pa_cons (pv 5) (pa_cons (pv 6) pa_nil)))))
        (pss_cons (ps_par (i := 8) (j := 9) (by rfl) scLaw.nd rfl rfl (by decide) rfl rfl (pa_cons (pe_h hPut hr (pa_cons (pv 2) (pa_cons (pv 5) (pa_cons (pv 6) pa_nil)))) (pa_cons (pe_h hPut hr (pa_cons (pv 2) (pa_cons (pv 5) (pa_cons (pv 7) pa_nil)))) pa_nil)) (by rfl))
        (pss_cons (ps_set (i := 10) scLaw.nd rfl (.inl rfl) (pe_lst pa_nil))
        (pss_cons (ps_for PassesOwn.never rfl (pi_list (pe_lst (pa_cons pe_str (pa_cons pe_str (pa_cons pe_str pa_nil))))) (pg_name (i := 11) scLaw.nd rfl (.inl rfl))
          (pss_cons (ps_for PassesOwn.never rfl (pi_list (pe_lst (pa_cons (pe_tup pa_nil) (pa_cons (pv 4) pa_nil)))) (pg_name (i := 12) scLaw.nd rfl (.inl rfl))
            (pss_cons (ps_set (i := 13) scLaw.nd rfl (.inl rfl) (pe_h hShown hr (pa_cons (pv 6) (pa_cons (pv 12) (pa_cons (pv 11) (pa_cons pe_int (pa_cons pe_int (pa_cons pe_bl pa_nil))))))))
            (pss_cons (ps_expr (pe_bm PySem.F.plainAttrs_list PySem.F.slot_list_append PySem.F.type_list_append mt_append (pv 10) (pa_cons (pe_tup (pa_cons (pe_make MW GW hr rfl TM.mgW b4 v4 pass0 (pa_cons (pv 8) (pa_cons (pv 11) (pa_cons (pv 12) pa_nil)))) (pa_cons (pv 13) pa_nil))) pa_nil)))
            (pss_one (ps_if (pt_not (pt_val (pe_h hShR hr (pa_cons (pe_ix ix_tup (pe_ix ix_list (pv 10) (pe_un un_neg pe_int) (fun _ _ => rfl)) pe_int (fun _ _ => rfl)) (pa_cons (pv 5) (pa_cons (pv 13) (pa_cons (pv 11) pa_nil))))))) (pss_one (ps_ret pe_bl)) pss_nil)))))
          (pss_cons (ps_set (i := 13) scLaw.nd rfl (.inl rfl) (pe_h hShown hr (pa_cons (pv 6) (pa_cons (pv 4) (pa_cons (pv 11) (pa_cons pe_int (pa_cons pe_int (pa_cons pe_bl pa_nil))))))))
          (pss_cons (ps_expr (pe_bm PySem.F.plainAttrs_list PySem.F.slot_list_append PySem.F.type_list_append mt_append (pv 10) (pa_cons (pe_tup (pa_cons (pe_makeK (n := 3) MW GW hr rfl TM.mgW kB pass0 (pa_cons (pv 8) (pa_cons (pv 11) (pa_cons (pv 4) pa_nil))) (pk_cons pe_int pk_nil)) (pa_cons (pv 13) pa_nil))) pa_nil)))
          (pss_cons (ps_set (i := 14) scLaw.nd rfl (.inl rfl) (pe_make MW GW hr rfl TM.mgW b4 v4 pass0 (pa_cons (pv 9) (pa_cons (pe_op op_add_str pe_str (pv 11)) (pa_cons (pv 4) pa_nil)))))
          (pss_one (ps_if (PW.pt (pw_or (pt_cmpR (op_neO FE bE mE neW (hr.mono (by decide))) (pv 14) (pe_ix ix_tup (pe_ix ix_list (pv 10) (pe_un un_neg pe_int) (fun _ _ => rfl)) pe_int (fun _ _ => rfl)) (nomark _)) (pw_or (pt_cmpR (op_neD hr.units) (pe_h hDf hr (pa_cons (pv 14) (pa_cons (pe_ix ix_tup (pe_ix ix_list (pv 10) (pe_un un_neg pe_int) (fun _ _ => rfl)) pe_int (fun _ _ => rfl)) pa_nil))) (pe_tup pa_nil) (nomark _)) (pw_or1 (pt_cmpR op_ne (pe_fld (pv 14) rfl) (pe_op op_add_str pe_str (pv 11)) (nomark _)))))) (pss_one (ps_ret pe_bl)) pss_nil)))))))
        (pss_cons (ps_if (PW.pt (pw_or (pt_not (pt_val (pe_h hPairs hr (pa_cons (pv 10) (pa_cons (pv 5) pa_nil))))) (pw_or1 (pt_not (pt_val (pe_h hKinds hr (pa_cons (pe_ix ix_tup (pe_ix ix_list (pv 10) pe_int (fun _ _ => rfl)) pe_int (fun _ _ => rfl)) (pa_cons (pv 8) pa_nil)))))))) (pss_one (ps_ret pe_bl)) pss_nil)
        (pss_cons (ps_par (i := 15) (j := 14) (by rfl) scLaw.nd rfl rfl (by decide) rfl rfl (pa_cons (pe_make MW GW hr rfl TM.mgW b3 v3 pass0 (pa_cons (pe_make MG GG (hr.mono (by decide)) rfl TG.mgD bG .nil pass0 (pa_cons (pe_make MI GI (hr.mono (by decide)) rfl T.t.mgC bI .nil pass0 (pa_cons (pv 5) pa_nil)) pa_nil)) (pa_cons pe_str pa_nil))) (pa_cons (pe_make MW GW hr rfl TM.mgW b3 v3 pass0 (pa_cons (pe_make MG GG (hr.mono (by decide)) rfl TG.mgD bG .nil pass0 (pa_cons (pe_make MI GI (hr.mono (by decide)) rfl T.t.mgC bI .nil pass0 (pa_cons (pv 5) pa_nil)) pa_nil)) (pa_cons pe_str pa_nil))) pa_nil)) (by rfl))
        (pss_cons (ps_set (i := 16) scLaw.nd rfl (.inl rfl) (pe_op op_catA (pv 5) (pe_tup (pa_cons (pe_op op_repN (pe_tup (pa_cons pe_non pa_nil)) (pe_callB call_len_seq (by rfl) B.len PySem.boot_len (pa_cons (pe_ix ix_tup (pv 5) pe_int (fun _ _ => rfl)) pa_nil))) pa_nil))))
        (C8.pss_cut (ps_if (PW.pt (pw_and (pt_cmpR op_lt (pe_callB call_len_seq (by rfl) B.len PySem.boot_len (pa_cons (pv 5) pa_nil)) pe_int (nomark _)) (pw_and1 (pt_not (pt_val (pe_h hAlike hr (pa_cons (pe_make MW GW hr rfl TM.mgW b3 v3 pass0 (pa_cons (pe_make MG GG (hr.mono (by decide)) rfl TG.mgD bG .nil pass0 (pa_cons (pe_make MI GI (hr.mono (by decide)) rfl T.t.mgC bI .nil pass0 (pa_cons (pv 16) pa_nil)) pa_nil)) (pa_cons pe_str pa_nil))) (pa_cons (pv 15) (pa_cons pe_bl pa_nil))))))))) (pss_one (ps_ret pe_bl)) pss_nil)
        (pss_one (ps_if (pt_not (pt_val (pe_h hAlike hr (pa_cons (pv 14) (pa_cons (pv 15) (pa_cons pe_bl pa_nil)))))) (pss_one (ps_ret pe_bl)) pss_nil)))))))))))))))
      (pss_one (ps_ret pe_bl)), ?_⟩
    have hln : ((ns.map V.int).length : Int) = ns.length := by rw [List.length_map]
    refine ⟨_, rfl, a, _, rfl, .inl hSc, _, _, rfl, _, _, rfl, _, rfl, ?_, ?_, ?_⟩
    · rw [hln]; split <;> split <;> omega
    · rw [hln]; split <;> split <;> omega
    rw [hln]
    refine for_range (lo := 0) (n := _) (fun i σ H' => (∃ y1 y2 y3 y4 y5 y6 y7 y8 y9 y10 y11 y12 y13 y14 y15 y16, σ = [some (.ref a), y1, y2, y3, y4, y5, y6, y7, y8, y9, y10, y11, y12, y13, y14, y15, y16]) ∧ Same H H') ⟨⟨_, _, _, _, _, _, _, _, _, _, _, _, _, _, _, _, rfl⟩, Same.refl H⟩ ?_ ?_
    · rintro i σ H1 hi ⟨⟨y1, y2, y3, y4, y5, y6, y7, y8, y9, y10, y11, y12, y13, y14, y15, y16, rfl⟩, s1⟩
      have hi5 : i < 5 := by
        have : ∀ n : Int, (if (if (4 : Int) < n then 4 else n) > 2 then (if (4 : Int) < n then 4 else n) else 2).toNat ≤ 5 := fun n => by
          split <;> split <;> omega
        exact Nat.lt_of_lt_of_le hi (this _)
      refine ⟨_, rfl, _, rfl, a, ns, 0 + i, rfl, s1.seq hSc, by omega, by omega, fun v H2 s2 => ⟨v, rfl, fun pu H3 hpu s3 hP3 => ?_⟩⟩
      have hpu0 : H pu = none := (s1.trans s2).free hpu
      have sP3 : Same H H3 := (s1.trans s2).trans s3
      refine ⟨fun σ' H' => ∃ b : Bool, σ' = [some (.ref a), some (.int (0 + i)), some (.ref pu), some (.bl b), y4, y5, y6, y7, y8, y9, y10, y11, y12, y13, y14, y15, y16] ∧ PurseAt H' pu ∧ SameX pu H3 H', ?_, ?_⟩
      · refine ⟨_, rfl, rfl, _, rfl, ite_b (fun e => ?_) (fun e => ?_)⟩
        · refine ⟨_, rfl, pu, 4, rfl, hP3, by decide, by decide, fun r4 H4 r40 r41 hP4 x4 _ => ⟨rfl, ?_⟩⟩
          exact ⟨_, rfl, hP4, x4⟩
        · exact ⟨_, rfl, hP3, SameX.refl _ _⟩
      rintro σ' H4 ⟨b, rfl, hP4, x4⟩
      -- changes, a land
      refine ⟨_, rfl, pu, 3, rfl, hP4, by decide, by decide, fun S chs H5 hP5 x5 hS5 okc => ?_⟩
      refine ⟨_, rfl, lz, fun ml hml => ⟨_, rfl, .inr ⟨_, rfl, ?_⟩⟩⟩
      have s6 := same_new (o := .lst [V.int 3, V.int 6]) hml
      have hml6 : upd H5 ml (.lst [V.int 3, V.int 6]) ml = some (.lst [V.int 3, V.int 6]) := upd_same
      generalize upd H5 ml (.lst [V.int 3, V.int 6]) = H6 at s6 hml6
      obtain ⟨mm, hmm, hmat⟩ : ∃ m : Int, (1 ≤ m ∧ m ≤ 6) ∧ atI [V.int 3, V.int 6] (if b = true then 1 else 0) = some (.int m) := by
        by_cases d : b = true
        · exact ⟨6, by omega, by rw [if_pos d]; exact atI_nat (j := 1) rfl⟩
        · exact ⟨3, by omega, by rw [if_neg d]; exact atI_nat (j := 0) rfl⟩
      refine ⟨ml, _, _, .int mm, rfl, rfl, .inl (.inl hml6), hmat, pu, mm, rfl, hP5.same s6, hmm.1, hmm.2, fun L g wd H7 gd hG7 hP7 x7 => ⟨_, _, rfl, ?_⟩⟩
      obtain ⟨pu5, hpu5⟩ := hP5.lst
      obtain ⟨pu7, hpu7⟩ := hP7.lst
      have hS7 := hS5.X hpu5 ((sx s6).trans x7)
      have nmne : sortS (names g) ≠ [] := fun e => by
        obtain ⟨z, hz⟩ := List.exists_mem_of_ne_nil _ gd.ne
        have := mem_sortS.mpr hz
        rw [e] at this
        exact (List.not_mem_nil this).elim
      -- tellings
      refine ⟨_, rfl, _, rfl, L, g, wd, rfl, hG7, gd.sized, fun Tn H8 nTn s8 hTn => ?_⟩
      have nTp : Tn ≠ pu := hP7.ne nTn
      refine ⟨_, rfl, pu, 13, rfl, hP7.same s8, by decide, by decide, fun r9 H9 r90 r91 hP9 x9 _ => ?_⟩
      obtain ⟨n, hn, rfl⟩ : ∃ n : Nat, n ≤ 12 ∧ r9 = (n : Int) := ⟨r9.toNat, by omega, by omega⟩
      refine ⟨pu, Tn, n, sortS (names g), rfl, hP9, x9 _ _ nTp hTn, nTp, nmne, by rw [sortS_len]; exact gd.len, fun z hz => gd.wd z (mem_sortS.mp hz), by omega, fun l as ts H10 hP10 x10 nl hl10 hT10 hok hvs hln4 hnd hlen2 => ?_⟩
      have nlp : l ≠ pu := hP9.ne nl
      have x710 : SameX pu H7 H10 := (sx s8).trans (x9.trans x10)
      have hG10 := hG7.keep (tk_x x710 hpu7)
      have hS10 := hS7.X hpu7 x710
      have hvs2 : ∀ t ∈ ts, t.v ∈ names g := fun t ht => mem_sortS.mp (hvs t ht)
      -- the same again
      refine ⟨_, rfl, _, rfl, _, rfl, pu, L, l, as, ts, rfl, hP10, hl10, nlp, hT10, hok, hln4, hnd, by omega, fun l2 as2 ts2 H11 hP11 x11 nl2 hl11 hT11 hAg => ?_⟩
      obtain ⟨pu10, hpu10⟩ := hP10.lst
      have nl2p : l2 ≠ pu := hP10.ne nl2
      have hG11 := hG10.keep (tk_x x11 hpu10)
      have hS11 := hS10.X hpu10 x11
      have hla11 := x11 _ _ nlp hl10
      have hTa11 := hT10.keep (tk_x x11 hpu10)
      have len2 : ts2.length ≤ 24 := by
        have h1 := hAg.len
        rw [List.length_reverse] at h1
        omega
      have ok2 : ∀ t ∈ ts2, OkT t := fun u hu => by
        obtain ⟨t, ht, e⟩ := hAg.frm u hu
        have ht := List.mem_reverse.mp ht
        rcases e with rfl | rfl
        · exact agX_ok (hok t ht) (hln4 t ht)
        · exact agY_ok (hok t ht) (hln4 t ht)
      have vs2 : ∀ t ∈ ts2, t.v ∈ names g := fun u hu => by
        obtain ⟨t, ht, e⟩ := hAg.frm u hu
        have ht := List.mem_reverse.mp ht
        rcases e with rfl | rfl
        · exact hvs2 t ht
        · exact hvs2 t ht
      -- two Gatherings
      refine ⟨_, rfl, _, rfl, _, rfl, pu, L, l, g, wd, as, ts, rfl, hP11, hG11, gd, hla11, nlp, hTa11, hok, hvs2, hnd, by omega, fun fo r1 H12 hP12 x12 hF12 rts1 rg1 rds1 ntd1 ndd1 => ?_⟩
      subst rts1
      subst rg1
      obtain ⟨pu11, hpu11⟩ := hP11.lst
      have ntp1 : r1.td ≠ pu := hP11.ne ntd1
      have ndp1 : r1.dd ≠ pu := hP11.ne ndd1
      refine ⟨_, rfl, _, rfl, _, rfl, pu, L, l2, r1.g, wd, as2, ts2, rfl, hP12, hG11.keep (tk_x x12 hpu11), gd, x12 _ _ nl2p hl11, nl2p, hT11.keep (tk_x x12 hpu11), ok2, vs2, hAg.nd, by omega, fun fn r2 H13 hP13 x13 hF13 rts2 rg2 rds2 ntd2 ndd2 => ⟨_, _, rfl, ?_⟩⟩
      subst rts2
      obtain ⟨pu12, hpu12⟩ := hP12.lst
      have x1113 : SameX pu H11 H13 := x12.trans x13
      have hF1 : GatAt C D H13 fo r1 := hF12.x hP12 x13 ntp1 ndp1
      have hG13 := hG11.keep (tk_x x1113 hpu11)
      have hS13 := hS11.X hpu11 x1113
      have hl13 := x1113 _ _ nlp hla11
      have hT13 := hTa11.keep (tk_x x1113 hpu11)
      have xH13 : SameX pu H H13 := (sx sP3).trans (x4.trans (x5.trans ((sx s6).trans (x7.trans (x710.trans (x11.trans x1113))))))
      have gd2 : Good r2.g wd := by rw [rg2]; exact gd
      -- the charts
      refine ⟨lz, fun Lc nLc => ?_⟩
      have nLcp : Lc ≠ pu := hP13.ne nLc
      have hLc0 : H Lc = none := xH13.free nLcp nLc
      have s14 := same_new (o := .lst []) nLc
      have hLc14 : upd H13 Lc (.lst []) Lc = some (.lst (([] : List Addr).map V.ref)) := upd_same
      have t1L : r1.td ≠ Lc := ne_of_none hF1.told nLc
      have d1L : r1.dd ≠ Lc := ne_of_none hF1.deeds nLc
      have t2L : r2.td ≠ Lc := ne_of_none hF13.told nLc
      have d2L : r2.dd ≠ Lc := ne_of_none hF13.deeds nLc
      have lL : l ≠ Lc := ne_of_none hl13 nLc
      generalize upd H13 Lc (.lst []) = H14 at s14 hLc14
      refine ⟨lz, fun I0 nI => ?_⟩
      have nIL : I0 ≠ Lc := (ne_of_none hLc14 nI).symm
      have s15 := same_new (o := .lst [V.str "map", V.str "self", V.str "ab"]) nI
      have hI15 : upd H14 I0 (.lst [V.str "map", V.str "self", V.str "ab"]) I0 = some (.lst ((["map", "self", "ab"] : List Str).map V.str)) := upd_same
      have hLc15 := s15 _ _ hLc14
      generalize upd H14 I0 (.lst [V.str "map", V.str "self", V.str "ab"]) = H15 at s15 hI15 hLc15
      have s1315 := s14.trans s15
      have hF1a := hF1.same s1315
      have hF2a := hF13.same s1315
      have hGa := hG13.keep (tk_same s1315)
      have hSa := hS13.same s1315
      have hla := s1315 _ _ hl13
      have hTa := hT13.keep (tk_same s1315)
      have kX : ∀ {H' : Hp}, SameX Lc H15 H' → Keep H15 H' := fun x => kp_x x hLc15
      have can1 : ∀ {H' : Hp}, SameX Lc H15 H' → ∀ {S' : Addr} {c : List Chg}, ChAt H' S' c → OkCs c → CanMap C D H' fo r1 wd S' c := fun {H'} x {S' c} h1 h2 => ⟨hF1a.keep (kX x) (x _ _ t1L hF1a.told) (x _ _ d1L hF1a.deeds), gd, hok, by omega, h1, h2⟩
      have can2 : ∀ {H' : Hp}, SameX Lc H15 H' → CanMap C D H' fn r2 wd S chs := fun {H'} x => ⟨hF2a.keep (kX x) (x _ _ t2L hF2a.told) (x _ _ d2L hF2a.deeds), gd2, ok2, by omega, hSa.keep (kX x).tk, okc⟩
      refine ⟨I0, rfl, ⟨_, .inl (.inl hI15)⟩, for_list (K := K) (a := I0) (xs := (["map", "self", "ab"] : List Str).map V.str) (fun i' σ H' => (∃ y11 y12 y13 y14, σ = [some (.ref a), some (.int (0 + i)), some (.ref pu), some (.bl b), some (.ref S), some (.ref L), some (.ref l), some (.ref l2), some (.ref fo), some (.ref fn), some (.ref Lc), y11, y12, y13, y14, y15, y16]) ∧ SameX Lc H15 H' ∧ ∃ cs : List Addr, H' Lc = some (.lst (cs.map V.ref)) ∧ (∀ c ∈ cs, ChT C W H' r1.g c) ∧ cs.length = 3 * i') ⟨⟨_, _, _, _, rfl⟩, SameX.refl _ _, [], hLc15, fun c hc => (List.not_mem_nil hc).elim, rfl⟩ (fun i' σ H' _ h => .inl (.inl (h.2.1 _ _ nIL hI15))) ?_ ?_⟩
      · rintro i' x σ H16 hx ⟨⟨y11, y12, y13, y14, rfl⟩, x16, cs, hLc16, hcs, lcs⟩
        rw [List.getElem?_map] at hx
        obtain ⟨z, hz1, rfl⟩ := Option.map_eq_some_iff.mp hx
        have hi3 : i' < 3 := (List.getElem?_eq_some_iff.mp hz1).1
        have hz : IsWd z ∧ z.length ≤ 4 := by
          have hm := List.mem_of_getElem? hz1
          simp only [List.mem_cons, List.not_mem_nil, or_false] at hm
          rcases hm with rfl | rfl | rfl <;> decide +kernel
        refine ⟨lz, fun e0 ne0 => ?_⟩
        have neL : e0 ≠ Lc := (ne_of_none hLc16 ne0).symm
        have s17 := same_new (o := .tup []) ne0
        have he17 : upd H16 e0 (.tup []) e0 = some (.tup []) := upd_same
        generalize upd H16 e0 (.tup []) = H17 at s17 he17
        have hLc17 := s17 _ _ hLc16
        refine ⟨_, rfl, lz, fun TL nTL => ?_⟩
        have nTL2 : TL ≠ Lc := (ne_of_none hLc17 nTL).symm
        have s18 := same_new (o := .lst [V.ref e0, V.ref S]) nTL
        have hTL18 : upd H17 TL (.lst [V.ref e0, V.ref S]) TL = some (.lst [V.ref e0, V.ref S]) := upd_same
        generalize upd H17 TL (.lst [V.ref e0, V.ref S]) = H18 at s18 hTL18
        have s1618 := s17.trans s18
        have x18 : SameX Lc H15 H18 := x16.trans (sx s1618)
        have he18 := s18 _ _ he17
        have hLc18 := s18 _ _ hLc17
        refine ⟨TL, rfl, ⟨_, .inl (.inl hTL18)⟩, for_list (K := K) (a := TL) (xs := [V.ref e0, V.ref S]) (fun j σ H' => (∃ y12 y13, σ = [some (.ref a), some (.int (0 + i)), some (.ref pu), some (.bl b), some (.ref S), some (.ref L), some (.ref l), some (.ref l2), some (.ref fo), some (.ref fn), some (.ref Lc), some (.str z), y12, y13, y14, y15, y16]) ∧ SameX Lc H18 H' ∧ ∃ cs' : List Addr, H' Lc = some (.lst (cs'.map V.ref)) ∧ (∀ c ∈ cs', ChT C W H' r1.g c) ∧ cs'.length = 3 * i' + j ∧ (j = 2 → ∃ cs0 c p d, cs' = cs0 ++ [c] ∧ H' c = some (.tup [.ref p, .ref d]) ∧ MapOf C W H' p r1 z chs 0 120)) ⟨⟨_, _, rfl⟩, SameX.refl _ _, cs, hLc18, fun c hc => (hcs c hc).same s1618, by omega, fun e => by omega⟩ (fun j σ H' _ h => .inl (.inl (h.2.1 _ _ nTL2 hTL18))) ?_ ?_⟩
        · rintro j x σ H19 hx ⟨⟨y12, y13, rfl⟩, x1819, cs', hLc19, hcs', lcs', _⟩
          have x19 := x18.trans x1819
          have hj2 : j < 2 := (List.getElem?_eq_some_iff.mp hx).1
          obtain ⟨Sj, chj, rfl, hSj, okj, ej⟩ : ∃ (Sj : Addr) (chj : List Chg), x = .ref Sj ∧ ChAt H19 Sj chj ∧ OkCs chj ∧ (j = 1 → chj = chs) := by
            match j, hx with
            | 0, e => exact ⟨e0, [], (Option.some.inj e).symm, ⟨[], x1819 _ _ neL he18, .nil⟩, ⟨by decide, fun ch h => (List.not_mem_nil h).elim⟩, fun e => by cases e⟩
            | 1, e => exact ⟨S, chs, (Option.some.inj e).symm, hSa.keep (kX x19).tk, okc, fun _ => rfl⟩
          refine ⟨_, rfl, _, rfl, _, rfl, l, Sj, as, r1.ts, chj, z, 0, 120, true, rfl, x19 _ _ lL hla, hTa.keep (kX x19).tk, hok, by omega, hSj, okj, fun dd H20 ndd s20 hB20 => ?_⟩
          have x20 := x19.trans (sx s20)
          have hLc20 := s20 _ _ hLc19
          refine ⟨_, rfl, .inl ⟨rfl, _, .inl (.inl hLc20)⟩, _, rfl, _, rfl, _, rfl, fun m dx nx ndx nex => make_ok (can1 x20 (hSj.same s20) okj) hz.1 (Nat.zero_le 120) (Nat.le_refl 120) (.inl rfl) nx ndx nex rfl (fun H21 s21 hm => ⟨rfl, _, rfl, lz, fun c nc => ?_⟩)⟩
          have s22 := same_new (o := .tup [V.ref m, V.ref dd]) nc
          have hc22 : upd H21 c (.tup [V.ref m, V.ref dd]) c = some (.tup [V.ref m, V.ref dd]) := upd_same
          generalize upd H21 c (.tup [V.ref m, V.ref dd]) = H22 at s22 hc22
          have s2022 := s21.trans s22
          have hLc22 := s2022 _ _ hLc20
          refine ⟨Lc, _, _, rfl, rfl, hLc22, by rw [List.length_map]; exact small1000 (by omega), ?_⟩
          have k23 := kp_upd (o := .lst (cs'.map V.ref ++ [V.ref c])) hLc22
          have x23 : SameX Lc H22 (upd H22 Lc (.lst (cs'.map V.ref ++ [V.ref c]))) := sameX_upd
          have hLc23 : upd H22 Lc (.lst (cs'.map V.ref ++ [V.ref c])) Lc = some (.lst ((cs' ++ [c]).map V.ref)) := by
            rw [upd_same, List.map_append]
            rfl
          generalize upd H22 Lc (.lst (cs'.map V.ref ++ [V.ref c])) = H23 at k23 x23 hLc23
          have x1923 : SameX Lc H19 H23 := (sx (s20.trans s2022)).trans x23
          have kk23 : Keep H19 H23 := (kp_same (s20.trans s2022)).trans k23
          have hc23 := k23.tk _ _ hc22
          have hm23 : MapOf C W H23 m r1 z chj 0 120 := (hm.keep (kp_same s22)).keep k23
          have hB23 : ByV H23 dd (vsOf (selOf r1.ts z 0 120 true)) chj (selOf r1.ts z 0 120 true) := (hB20.keep (kp_same s2022)).keep k23
          have hct := chT_of (wd := wd) hc23 hm23 gd hok (by omega) okj hvs2 (by have := hz.2; omega) hB23
          obtain ⟨rM, hMG, em1, em2, em3⟩ := mapG_of hm23 gd hok (by omega) okj
          have xx23 := x19.trans x1923
          have hTok : TelOk rM.g chj (selOf r1.ts z 0 120 true) := by
            rw [em1]
            exact ⟨okj, fun t ht => hok t (List.mem_filter.mp ht).1, fun t ht => hvs2 t (List.mem_filter.mp ht).1, sub_len (by omega)⟩
          have hlast : atI ((cs' ++ [c]).map V.ref) (-1) = some (.ref c) := by
            rw [List.map_append]
            exact atI_last _ _
          refine ⟨_, rfl, _, rfl, Lc, _, _, _, rfl, rfl, .inl (.inl hLc23), hlast, c, _, _, _, rfl, rfl, .inl (.inl hc23), atI_nat (j := 0) rfl, _, rfl, _, rfl, _, rfl, m, L, dd, z, rM, wd, chj, selOf r1.ts z 0 120 true, rfl, hMG, em2, by have := hz.2; omega, by rw [em3, said_sel], by rw [em1]; exact hGa.keep (kX xx23).tk, by rw [em1]; exact gd, hB23, hTok, fun H24 s24 => ⟨_, rfl, iteF ?_⟩⟩
          refine ⟨⟨_, _, rfl⟩, x1819.trans (x1923.trans (sx s24)), cs' ++ [c], s24 _ _ hLc23, fun c' hc' => ?_, by rw [List.length_append, List.length_singleton]; omega, fun ej2 => ⟨cs', c, m, dd, rfl, s24 _ _ hc23, ?_⟩⟩
          · rcases List.mem_append.mp hc' with h | h
            · exact ((hcs' c' h).keep kk23).same s24
            · rw [List.mem_singleton.mp h]
              exact hct.same s24
          · have := ej (by omega)
            rw [← this]
            exact hm23.keep (kp_same s24)
        · rintro σ H19 ⟨⟨y12, y13, rfl⟩, x1819, cs', hLc19, hcs', lcs', hlast2⟩
          obtain ⟨cs0, c2, p2, d2, ecs, hc2, hm2⟩ := hlast2 rfl
          have lcs2 : cs'.length = 3 * i' + 2 := lcs'
          have x19 := x18.trans x1819
          have hS19 : ChAt H19 S chs := hSa.keep (kX x19).tk
          refine ⟨_, rfl, _, rfl, _, rfl, l, S, as, r1.ts, chs, z, 0, 60, true, rfl, x19 _ _ lL hla, hTa.keep (kX x19).tk, hok, by omega, hS19, okc, fun dd H20 ndd s20 hB20 => ?_⟩
          have x20 := x19.trans (sx s20)
          have hLc20 := s20 _ _ hLc19
          refine ⟨_, rfl, .inl ⟨rfl, _, .inl (.inl hLc20)⟩, _, rfl, _, rfl, _, rfl, rfl, rfl, fun m dx nx ndx nex => make_ok (can1 x20 (hS19.same s20) okc) hz.1 (Nat.zero_le 60) (show 60 ≤ 120 by decide) (.inl rfl) nx ndx nex rfl (fun H21 s21 hm => ⟨rfl, _, rfl, lz, fun c nc => ?_⟩)⟩
          have s22 := same_new (o := .tup [V.ref m, V.ref dd]) nc
          have hc22 : upd H21 c (.tup [V.ref m, V.ref dd]) c = some (.tup [V.ref m, V.ref dd]) := upd_same
          generalize upd H21 c (.tup [V.ref m, V.ref dd]) = H22 at s22 hc22
          have s2022 := s21.trans s22
          have hLc22 := s2022 _ _ hLc20
          refine ⟨Lc, _, _, rfl, rfl, hLc22, by rw [List.length_map]; exact small1000 (by omega), ?_⟩
          have k23 := kp_upd (o := .lst (cs'.map V.ref ++ [V.ref c])) hLc22
          have x23 : SameX Lc H22 (upd H22 Lc (.lst (cs'.map V.ref ++ [V.ref c]))) := sameX_upd
          have hLc23 : upd H22 Lc (.lst (cs'.map V.ref ++ [V.ref c])) Lc = some (.lst ((cs' ++ [c]).map V.ref)) := by
            rw [upd_same, List.map_append]
            rfl
          generalize upd H22 Lc (.lst (cs'.map V.ref ++ [V.ref c])) = H23 at k23 x23 hLc23
          have x1923 : SameX Lc H19 H23 := (sx (s20.trans s2022)).trans x23
          have kk23 : Keep H19 H23 := (kp_same (s20.trans s2022)).trans k23
          have hc23 := k23.tk _ _ hc22
          have hm23 : MapOf C W H23 m r1 z chs 0 60 := (hm.keep (kp_same s22)).keep k23
          have hB23 : ByV H23 dd (vsOf (selOf r1.ts z 0 60 true)) chs (selOf r1.ts z 0 60 true) := (hB20.keep (kp_same s2022)).keep k23
          have hct := chT_of (wd := wd) hc23 hm23 gd hok (by omega) okc hvs2 (by have := hz.2; omega) hB23
          have xx23 := x19.trans x1923
          have hz3 : IsWd (("zzz" : Str) ++ z) := cat_wd (by decide +kernel) hz.1 (by rw [len_zzz]; have := hz.2; omega)
          have lzz : ("zzz" : Str).length + z.length ≤ sizeLine := by
            rw [len_zzz]
            have := hz.2
            exact lzl (by omega)
          refine ⟨_, rfl, _, rfl, ("zzz" : Str), z, rfl, rfl, lzz, _, rfl, fun mt dx nx ndx nex => make_ok (can2 xx23) hz3 (Nat.zero_le 120) (Nat.le_refl 120) (.inl rfl) nx ndx nex rfl (fun H24 s24 hmt => ⟨rfl, ?_⟩)⟩
          have hLc24 := s24 _ _ hLc23
          have hc24 := s24 _ _ (kk23.tk _ _ hc2)
          obtain ⟨rA, hMA, ea1, ea2, ea3⟩ := mapG_of hmt gd2 ok2 (by omega) okc
          obtain ⟨rC, hMC, ec1, ec2, ec3⟩ := mapG_of ((hm2.keep kk23).keep (kp_same s24)) gd hok (by omega) okc
          have h120 : ∀ t ∈ r1.ts, t.age ≤ 120 := fun t ht => (hok t ht).age
          have edue : mEqB rA rC = true := mEqB_iff.mpr ⟨by rw [ea1, ec1]; exact rg2, fun y _ => by rw [ea3, ec3]; exact again_said hAg h120 chs z y⟩
          have egg : rA.g = rC.g := by rw [ea1, ec1]; exact rg2
          obtain ⟨dxA, _, _, iA⟩ := hMA.at_.at_
          obtain ⟨dxC, _, _, iC⟩ := hMC.at_.at_
          have hlast3 : atI ((cs' ++ [c]).map V.ref) (-2) = some (.ref c2) := by
            rw [ecs, List.map_append, List.map_append]
            exact atI_last2 _ _ _
          refine ⟨_, rfl, _, rfl, _, rfl, Lc, _, _, _, rfl, rfl, .inl (.inl hLc24), hlast3, c2, _, _, _, rfl, rfl, .inl (.inl hc24), atI_nat (j := 0) rfl, mt, dxA, _, p2, dxC, _, rfl, rfl, iA, iC, md_reads ⟨hMA, hMC, edue⟩ ⟨_, rfl, _, rfl, iteF ?_⟩⟩
          refine ⟨_, rfl, _, rfl, _, rfl, Lc, _, _, _, rfl, rfl, .inl (.inl hLc24), hlast3, c2, _, _, _, rfl, rfl, .inl (.inl hc24), atI_nat (j := 0) rfl, mt, p2, rA, rC, rfl, hMA, hMC, egg, fun t25 H25 n25 s25 ht25 => ⟨lz, fun e25 ne25 => ?_⟩⟩
          have s26 := same_new (o := .tup []) ne25
          have shE : SeqAt.shaped (.tuple ((diffOf rA.g rA.said rC.said).map PyData.str)) = true := shaped_tuple (lay_strs fun z hz => by
            rw [ea1] at hz
            exact gd2.wd z (mem_sortS.mp (List.mem_filter.mp hz).1)) (by have := depth_strs (diffOf rA.g rA.said rC.said); omega)
          refine ⟨_, _, .tup (.inl (.inl (s26 _ _ ht25))) (dp_strs _), .tup (.inl (.inl upd_same)) .nil, shE, by decide +kernel, _, rfl, ?_⟩
          rw [strs_nil, diff_nil egg, edue]
          refine iteF ?_
          have s2426 := s25.trans s26
          generalize upd H25 e25 (.tup []) = H26 at s26 s2426
          refine ⟨_, rfl, mt, W, dxA, _, _, rfl, s2426 _ _ iA, TM.cl, TM.nT, mf_thing _ _ _ _ _ _, _, rfl, ("zzz" : Str), z, rfl, rfl, lzz, rfl, _, rfl, ?_⟩
          have et : (!decide (V.str rA.z = V.str (("zzz" : Str) ++ z))) = false := by
            rw [ea2, decide_eq_true rfl]
            rfl
          rw [et]
          refine iteF ⟨⟨_, _, _, _, rfl⟩, xx23.trans (sx (s24.trans s2426)), cs' ++ [c], (s24.trans s2426) _ _ hLc23, fun c' hc' => ?_, by rw [List.length_append, List.length_singleton]; omega⟩
          rcases List.mem_append.mp hc' with h | h
          · exact ((hcs' c' h).keep kk23).same (s24.trans s2426)
          · rw [List.mem_singleton.mp h]
            exact hct.same (s24.trans s2426)
      · rintro σ H16 ⟨⟨y11, y12, y13, y14, rfl⟩, x16, cs, hLc16, hcs, lcs⟩
        have lcs9 : cs.length = 9 := lcs
        obtain ⟨c0, cr, ecs⟩ : ∃ c r, cs = c :: r := by
          cases cs with
          | nil => cases lcs9
          | cons c r => exact ⟨c, r, rfl⟩
        have cne : cs ≠ [] := by rw [ecs]; simp
        have hG16 := hGa.keep (kX x16).tk
        refine ⟨_, rfl, _, rfl, Lc, L, cs, r1.g, wd, rfl, hLc16, cne, by omega, hcs, hG16, gd, fun H17 s17 => ⟨_, rfl, iteF ?_⟩⟩
        obtain ⟨p0, d0, rM, chs0, ts0, hc0, hM0, em1, em2, em3, _⟩ := (hcs c0 (by rw [ecs]; exact List.mem_cons_self)).same s17
        have hat : atI (cs.map V.ref) 0 = some (.ref c0) := by
          rw [ecs]
          exact atI_nat (j := 0) rfl
        have hF17 : GatAt C D H17 fo r1 := ((can1 x16 (hSa.keep (kX x16).tk) okc).gat).same s17
        refine ⟨_, rfl, Lc, _, _, _, rfl, rfl, .inl (.inl (s17 _ _ hLc16)), hat, c0, _, _, _, rfl, rfl, .inl (.inl hc0), atI_nat (j := 0) rfl, _, rfl, p0, fo, rM, r1, rfl, hM0, em3, hF17, fun H18 s18 => ⟨_, rfl, iteF ?_⟩⟩
        have s1618 := s17.trans s18
        have hG18 := hG16.keep (tk_same s1618)
        have hmapw : IsWd "map" := by decide +kernel
        have habw : IsWd "ab" := by decide +kernel
        have okn : OkCs ([] : List Chg) := ⟨by decide, fun ch h => (List.not_mem_nil h).elim⟩
        -- two bare maps
        refine ⟨_, rfl, bare_of hG18 gd fun gp1 b1 H19 s19 hB1 bts1 bg1 m1 dx nx ndx nex => make_non hB1 (show Good b1.g wd by rw [bg1]; exact gd) (fun t ht => by rw [bts1] at ht; exact (List.not_mem_nil ht).elim) (by rw [bts1]; exact Nat.zero_le _) hmapw nx ndx nex rfl (fun H20 s20 hm1 => ⟨rfl, ?_⟩)⟩
        have s1820 := s19.trans s20
        refine ⟨_, rfl, bare_of (hG18.keep (tk_same s1820)) gd fun gp2 b2 H21 s21 hB2 bts2 bg2 m2 dx nx ndx nex => make_non hB2 (show Good b2.g wd by rw [bg2]; exact gd) (fun t ht => by rw [bts2] at ht; exact (List.not_mem_nil ht).elim) (by rw [bts2]; exact Nat.zero_le _) habw nx ndx nex rfl (fun H22 s22 hm2 => ⟨rfl, _, _, rfl, ?_⟩)⟩
        have s2022 := s21.trans s22
        have s1822 := s1820.trans s2022
        obtain ⟨q1, hq1, eq1, _, es1⟩ := mapG_of (wd := wd) hm1 (by rw [bg1]; exact gd) (fun t ht => by rw [bts1] at ht; exact (List.not_mem_nil ht).elim) (by rw [bts1]; exact Nat.zero_le _) okn
        obtain ⟨q2, hq2, eq2, _, es2⟩ := mapG_of (wd := wd) hm2 (by rw [bg2]; exact gd) (fun t ht => by rw [bts2] at ht; exact (List.not_mem_nil ht).elim) (by rw [bts2]; exact Nat.zero_le _) okn
        have e21 : mEqB q2 q1 = true := mEqB_iff.mpr ⟨by rw [eq1, eq2, bg1, bg2], fun y _ => by rw [es1, es2, bts1, bts2, said_nil, said_nil]⟩
        -- a row of lakes more
        obtain ⟨ras, hL22, hR22⟩ := hG18.keep (tk_same s1822)
        have lra : ras.length = r1.g.length := hR22.length
        have hg1 := gd.h1
        have hra0 : ras[0]? = some ras[0] := List.getElem?_eq_getElem (by omega)
        obtain ⟨row0, hrow0, hp0⟩ := hR22.get hra0
        generalize ras[0] = pr0 at hra0 hp0
        have lrow : row0.length = wd := gd.rows row0 (List.mem_of_getElem? hrow0)
        have w1 := gd.w1
        have w6 := gd.w6
        refine ⟨_, rfl, lz, fun t1 ht1 => ?_⟩
        have s23 := same_new (o := .tup [V.non]) ht1
        have ht1' : upd H22 t1 (.tup [V.non]) t1 = some (.tup [V.non]) := upd_same
        generalize upd H22 t1 (.tup [V.non]) = H23 at s23 ht1' ⊢
        refine ⟨_, rfl, L, _, 0, .ref pr0, rfl, rfl, .inl (.inl (s23 _ _ hL22)), atI_nat (j := 0) (by rw [List.getElem?_map, hra0]; rfl), pr0, _, rfl, .inr (.inl (.inl (s23 _ _ hp0))), ?_⟩
        rw [List.length_map, lrow]
        refine rep_reads ht1' w1 (by omega) fun t2 H24 s24 ht2 => ⟨lz, fun t3 ht3 => ?_⟩
        have s25 := same_new (o := .tup [V.ref t2]) ht3
        have s2225 := s23.trans (s24.trans s25)
        refine cat_rd (s2225 _ _ hL22) upd_same (by rw [List.length_map, lra]; exact lzl (by have := gd.h6; simp; omega)) fun M H26 s26 hM => ?_
        have s2226 := s2225.trans s26
        have hGM : GridAt H26 M (r1.g ++ [List.replicate wd none]) := by
          refine ⟨ras ++ [t2], by rw [hM, List.map_append]; rfl, Each.append (hR22.keep (tk_same s2226)) (.cons ?_ .nil)⟩
          rw [List.map_replicate]
          exact (s25.trans s26) _ _ ht2
        have h6g := gd.h6
        have lenL : ((ras.map V.ref).length : Int) = (r1.g.length : Int) := by rw [List.length_map, lra]
        refine ⟨fun σ H' => σ = [some (.ref a), some (.int (0 + i)), some (.ref pu), some (.bl b), some (.ref S), some (.ref L), some (.ref l), some (.ref l2), some (.ref fo), some (.ref fn), some (.ref Lc), y11, y12, y13, some (.ref m2), some (.ref m1), some (.ref M)] ∧ Same H26 H', ?_, ?_⟩
        · refine ⟨_, rfl, L, _, rfl, .inr (.inl (.inl (s2226 _ _ hL22))), _, _, rfl, rfl, _, rfl, ite_b (fun e6 => ?_) (fun _ => iteF ⟨rfl, Same.refl _⟩)⟩
          have l6 : r1.g.length < 6 := by
            have : ((ras.map V.ref).length : Int) < 6 := of_decide_eq_true e6
            rw [lenL] at this
            omega
          have gdM := more_good gd l6
          refine ⟨_, rfl, bare_of hGM gdM fun gp3 b3 H27 s27 hB3 bts3 bg3 m3 dx nx ndx nex => make_non hB3 (show Good b3.g wd by rw [bg3]; exact gdM) (fun t ht => by rw [bts3] at ht; exact (List.not_mem_nil ht).elim) (by rw [bts3]; exact Nat.zero_le _) hmapw nx ndx nex rfl (fun H28 s28 hm3 => ⟨rfl, ?_⟩)⟩
          obtain ⟨q3, hq3, eq3, _, es3⟩ := mapG_of (wd := wd) hm3 (by rw [bg3]; exact gdM) (fun t ht => by rw [bts3] at ht; exact (List.not_mem_nil ht).elim) (by rw [bts3]; exact Nat.zero_le _) okn
          have s2628 := s27.trans s28
          have e31 : mEqB q3 q1 = false := by
            unfold mEqB
            have : ¬ q3.g = q1.g := fun e => by
              rw [eq3, eq1, bg3, bg1] at e
              have := congrArg List.length e
              rw [List.length_append, List.length_singleton] at this
              omega
            rw [decide_eq_false this, Bool.false_and]
          exact ⟨_, rfl, m3, m1, q3, q1, false, rfl, ⟨hq3, hq1.same (s2022.trans (s2226.trans s2628)), e31⟩, fun H29 s29 => ⟨_, rfl, iteF ⟨rfl, s2628.trans s29⟩⟩⟩
        rintro σ H27 ⟨rfl, s27⟩
        refine ⟨_, rfl, _, rfl, m2, m1, q2, q1, true, rfl, ⟨hq2.same (s2226.trans s27), hq1.same (s2022.trans (s2226.trans s27)), e21⟩, fun H28 s28 => ⟨_, rfl, iteF ⟨⟨_, _, _, _, _, _, _, _, _, _, _, _, _, _, _, _, rfl⟩, ?_⟩⟩⟩
        have sEnd : Same H16 H28 := s1618.trans (s1822.trans (s2226.trans (s27.trans s28)))
        exact fun u o e => sEnd _ _ (x16 u o (ne_of_none e hLc0) (s1315 _ _ (xH13 u o (ne_of_none e hpu0) e)))
    · rintro σ H1 _
      exact q H1
end
end Wl

namespace Wl
open PySem PySem.Spec PyProof.Rows L2
/-- an exception's class -/
def isExc (o : Obj) : Bool := match o.data with
  | .cls cd => cd.mro.any fun v => match v with | .type n => n == "Exception" | _ => false
  | _ => false
/-- what these objects name, exceptions left out -/
def refsL (g : Addr → Option Obj) (as : List Addr) : List Addr := as.flatMap fun a => match g a with
  | some o => if isExc o then [] else He.refsD o
  | none => []
def layK (g : Addr → Option Obj) : Nat → List Addr → List Addr
  | 0, l => l
  | n + 1, l => l ++ layK g n (refsL g l)
def frK (g : Addr → Option Obj) : PySem.W.Frag := He.frG g (layK g 4 [mainGlobals])
/-- the hook of facts over such a frame, with one more test of the frame -/
def hookK (fa : List He.Fa) (fn : List He.DefD) (ex : PySem.W.Frag → Bool) : PySem.W.Hook where
  α := He.AlD × Bool
  obs := fun s => (He.obsD fa fn (frK s.heap.get?), ex (frK s.heap.get?))
  val := fun _ => (He.valD fn, true)
  says := fun _ h => ∃ K : PySem.W.Frag, K.In h ∧ He.SaysD fa fn K ∧ ex K = true
  of := fun _ _ e => ⟨_, He.frG_in, congrArg (fun z : He.AlD × Bool => z.1) e, congrArg (fun z : He.AlD × Bool => z.2) e⟩
  keeps := fun _ _ _ ⟨K, hK, c⟩ k => ⟨K, PySem.W.Frag.In.keeps hK k, c⟩
theorem map3 {α β γ δ : Type} {o : Option α} {f : α → β} {g : α → γ} {h : α → δ} {a : β} {b : γ} {c : δ} (h1 : o.map (fun s => (f s, g s)) = some (a, b)) (h2 : o.map h = some c) : o.map (fun s => (f s, g s, h s)) = some (a, b, c) := by
  cases o with
  | none => cases h1
  | some x =>
    have e1 := Option.some.inj h1
    have e2 := Option.some.inj h2
    show some (f x, g x, h x) = _
    rw [(Prod.mk.inj e1).1, (Prod.mk.inj e1).2, e2]
theorem kb0_of {K : PySem.W.Frag} {x qual : Str} {st : Stmt} {f : Addr} {fd : FuncData} {n m : Str} (F : Fun K x qual st f fd)
    (h : ∀ (kV doc pm : Value) (an : Option Addr) (cdv ct a b : Value), bindArgs (PySem.W.fnOf x qual (defArgs st) (defBody st) (defScope st) .none kV doc pm an cdv ct) ⟨[], [(n, a), (m, b)]⟩ = pure [(m, b), (n, a)]) : KBn K fd [m, n] 0 [n, m] gSw gSw := by
  obtain ⟨oc, od, kV, doc, pm, an, cdv, ct, osl, rfl, l, c⟩ := F.ex
  refine ⟨fun s us ws _ h1 h2 => ?_, gSw_rel⟩
  match us, ws, h1, h2 with
  | [], [a, b], _, _ => exact .of_eq (h kV doc pm an cdv ct a b)
def dOf (x : Str) (st : Stmt) (ds : List He.Dv) : He.DefD := ⟨(x, none), x, x, defArgs st, defBody st, defScope st, ds, []⟩
def dMet (cl m q : Str) (st : Stmt) (ds : List He.Dv) : He.DefD := ⟨(cl, some m), m, q, defArgs st, defBody st, defScope st, ds, []⟩
/-- what else a class says: isinstance -/
def exC (K : PySem.W.Frag) (x : Str) : Bool :=
  He.eqO (PySem.W.findIn K (.ref (He.ga K x)) "__class__") (some (some (.builtin "object.__class__"))) && (decide (PySem.W.mroIn K (He.ga K x) (.type "object") = some true) && decide (PySem.W.kitOne K (.ref (He.ga K x)) (.ref (He.ga K x)) = some true))
/-- and of all classes: isinstance, !=; the tuple of places -/
def exT0 (K : PySem.W.Frag) : Bool :=
  He.eqO (PySem.W.specialIn K (.builtin "object.__class__") "__get__") (some (some (.builtin "getset_descriptor.__get__"))) && (decide (PySem.W.takesIn K (.builtin "object.__class__") = some true) && (exC K "Land" && (exC K "Gathering" && (exC K "WordMap" &&
  (He.eqO (PySem.W.findIn K (.ref (He.ga K "Land")) "__ne__") (some (some (.builtin "object.__ne__"))) && He.tupB K "WHERES" [.str "first", .str "last", .str "any"])))))
/-- what else: beside things of other kinds; no truth of its own -/
def exX (K : PySem.W.Frag) : Bool :=
  decide (PySem.W.mroIn K (He.ga K "WordMap") (.type "NoneType") = some false) && (decide (PySem.W.mroIn K (He.ga K "WordMap") (.type "bool") = some false) && (decide (PySem.W.mroIn K (He.ga K "WordMap") (.type "int") = some false) && (decide (PySem.W.mroIn K (He.ga K "WordMap") (.type "str") = some false) && (decide (PySem.W.mroIn K (He.ga K "WordMap") (.type "list") = some false) && (decide (PySem.W.mroIn K (He.ga K "WordMap") (.type "tuple") = some false) && (decide (PySem.W.mroIn K (He.ga K "WordMap") (.type "dict") = some false) && (decide (PySem.W.kitOne K (.type "NoneType") (.ref (He.ga K "WordMap")) = some false) && (decide (PySem.W.kitOne K (.type "bool") (.ref (He.ga K "WordMap")) = some false) && (decide (PySem.W.kitOne K (.type "int") (.ref (He.ga K "WordMap")) = some false) && (decide (PySem.W.kitOne K (.type "str") (.ref (He.ga K "WordMap")) = some false) && (decide (PySem.W.kitOne K (.type "list") (.ref (He.ga K "WordMap")) = some false) && (decide (PySem.W.kitOne K (.type "tuple") (.ref (He.ga K "WordMap")) = some false) && (decide (PySem.W.kitOne K (.type "dict") (.ref (He.ga K "WordMap")) = some false) && (PySem.W.notFirst K (He.ga K "Gathering") (.ref (He.ga K "WordMap")) && (PySem.W.notFirst K (He.ga K "WordMap") (.ref (He.ga K "Gathering")) && (decide (PySem.W.kitOne K (.ref (He.ga K "WordMap")) (.ref (He.ga K "Gathering")) = some false) && (decide (PySem.W.kitOne K (.ref (He.ga K "Gathering")) (.ref (He.ga K "WordMap")) = some false) && (PySem.W.notFirst K (He.ga K "Land") (.ref (He.ga K "WordMap")) && (PySem.W.notFirst K (He.ga K "WordMap") (.ref (He.ga K "Land")) && (decide (PySem.W.kitOne K (.ref (He.ga K "WordMap")) (.ref (He.ga K "Land")) = some false) && (decide (PySem.W.kitOne K (.ref (He.ga K "Land")) (.ref (He.ga K "WordMap")) = some false) && (He.eqO (PySem.W.findIn K (.ref (He.ga K "WordMap")) "__bool__") (some none) && (He.eqO (PySem.W.findIn K (.ref (He.ga K "WordMap")) "__ne__") (some (some (.builtin "object.__ne__"))))))))))))))))))))))))))
def exT (K : PySem.W.Frag) : Bool := exT0 K && exX K
def fn : List He.DefD := dOf "is_word" wIsWord [] :: dOf "is_whole" sIsWhole [] :: dOf "is_number_from" sIsNum [] :: dOf "check_word" wCheck [] :: dOf "is_letter" wIsLetter [] :: dOf "is_change" wIsChange [] :: dOf "is_tuple_up_to" wTupTo [] :: dOf "checked_changes" wChecked [] :: dOf "reaches" wReaches [] :: dOf "turned_letters" wTurned [] :: dOf "steps_toward" wSteps [] :: dOf "letters_at" wLetAt [] :: dOf "meaning" wMean [.non] :: dOf "are_rows" sAreRows [] :: dOf "wrong_spot" sWrong [] :: dOf "spots_in" sSpotsIn [] :: dOf "checked_spots" sSpots [] :: dMet "Land" "__init__" "Land.__init__" sInit [] :: dMet "Land" "names" "Land.names" sLNames [] :: dMet "Land" "check_name" "Land.check_name" sCheck [] :: dOf "check_age" sCheckA [] :: dOf "check_sure" sCheckS [] :: dOf "key_of" sKeyOf [] :: dMet "Gathering" "__init__" "Gathering.__init__" sGInit [] :: dMet "Gathering" "place_of" "Gathering.place_of" sGPlace [] :: dMet "Gathering" "put" "Gathering.put" sGPut [.str "self", .bl true] :: dMet "Gathering" "tellings" "Gathering.tellings" sGTell [.non] :: dOf "check_gathering" sCheckG [] :: dOf "summed_up" sSum [] :: dOf "by_village" sByV [] :: dMet "WordMap" "__init__" "WordMap.__init__" sMInit [.non, .int 0, .int 120] :: dMet "Land" "__eq__" "Land.__eq__" sEq [] :: dMet "Gathering" "__eq__" "Gathering.__eq__" sGEq [] :: dMet "WordMap" "asked" "WordMap.asked" sMAsked [] :: dMet "WordMap" "__len__" "WordMap.__len__" sMLen [] :: dMet "WordMap" "show_part" "WordMap.show_part" sMPart [] :: dMet "WordMap" "__eq__" "WordMap.__eq__" sMEq [] :: dMet "WordMap" "__str__" "WordMap.__str__" sMStr [] :: dMet "WordMap" "__repr__" "WordMap.__repr__" sMRepr [] :: dOf "check_map" sCheckM [.int 0] :: dOf "differences" sDiff [] :: dOf "_law_cell" sCell [] :: dOf "_law_purse" sPurse [] :: dOf "_law_pick" sPick [] :: dOf "_law_menu" sMenu [] :: dOf "_law_word" sWord [] :: dOf "_law_fresh" sFresh [] :: dOf "_law_kin" sKin [] :: dOf "_law_meaning" sMeaning [] :: dOf "_law_changes" sChanges [] :: dOf "_law_land" sLand [] :: dOf "_law_names" sNames [] :: dOf "_law_tellings" sTellings [] :: dOf "_law_put" sPut [] :: dOf "_law_shown" sShown [] :: dOf "_law_text" sText [] :: dOf "_law_terms" sTerms [] :: dOf "_law_alike_right" sAlikeR [] :: dOf "_law_shown_right" sShownR [] :: dOf "_law_kinds_right" sKindsR [] :: dOf "_law_pairs_right" sPairsR [] :: dOf "_law_again" sAgain [] :: dOf "law" sLaw [] :: []
def fa : List He.Fa := .glo "is_word" :: .glo "is_whole" :: .glo "is_number_from" :: .glo "check_word" :: .glo "is_letter" :: .glo "is_change" :: .glo "is_tuple_up_to" :: .glo "checked_changes" :: .glo "reaches" :: .glo "turned_letters" :: .glo "steps_toward" :: .glo "letters_at" :: .glo "meaning" :: .glo "are_rows" :: .glo "wrong_spot" :: .glo "spots_in" :: .glo "checked_spots" :: .glo "check_age" :: .glo "check_sure" :: .glo "key_of" :: .glo "check_gathering" :: .glo "summed_up" :: .glo "by_village" :: .glo "check_map" :: .glo "differences" :: .glo "_law_cell" :: .glo "_law_purse" :: .glo "_law_pick" :: .glo "_law_menu" :: .glo "_law_word" :: .glo "_law_fresh" :: .glo "_law_kin" :: .glo "_law_meaning" :: .glo "_law_changes" :: .glo "_law_land" :: .glo "_law_names" :: .glo "_law_tellings" :: .glo "_law_put" :: .glo "_law_shown" :: .glo "_law_text" :: .glo "_law_terms" :: .glo "_law_alike_right" :: .glo "_law_shown_right" :: .glo "_law_kinds_right" :: .glo "_law_pairs_right" :: .glo "_law_again" :: .glo "law" :: .glo "Land" :: .cls "Land" :: .mkr "Land" :: .noat "Land" "spots" :: .noat "Land" "rows" :: .glo "Gathering" :: .cls "Gathering" :: .mkr "Gathering" :: .noat "Gathering" "land" :: .noat "Gathering" "told" :: .noat "Gathering" "deeds" :: .glo "WordMap" :: .cls "WordMap" :: .mkr "WordMap" :: .noat "WordMap" "land" :: .noat "WordMap" "thing" :: .noat "WordMap" "changes" :: .noat "WordMap" "sure_words" :: .noat "WordMap" "doubtful_words" :: .noat "WordMap" "said" :: .meth "Land" "names" :: .meth "Land" "check_name" :: .meth "Gathering" "place_of" :: .meth "Gathering" "put" :: .meth "Gathering" "tellings" :: .meth "Land" "__eq__" :: .meth "Gathering" "__eq__" :: .meth "WordMap" "asked" :: .meth "WordMap" "__len__" :: .meth "WordMap" "show_part" :: .meth "WordMap" "__eq__" :: .meth "WordMap" "__str__" :: .meth "WordMap" "__repr__" :: .str "LETTERS" "abcdefghijklmnopqrstuvwxyz" :: .int "LONGEST_WORD" 8 :: .int "MOST_CHANGES" 12 :: .int "MOST_ROWS" 6 :: .int "MOST_COLUMNS" 6 :: .int "OLDEST" 120 :: .int "MOST_TELLINGS" 200 :: .str "DOT" "." :: .str "DOUBT" "?" :: .str "LAKE" "-" :: .str "NOT_ASKED" "?" :: .glo "WHERES" :: .free "len" :: .free "range" :: .free "isinstance" :: .free "tuple" :: .free "list" :: .free "sorted" :: .free "all" :: .free "int" :: .free "max" :: .free "min" :: .free "enumerate" :: .free "str" :: .free "bool" :: .free "repr" :: .free "any" :: []
abbrev R : PySem.W.OpenRow := PySem.W.OpenLaw.row PySem.Challenge.rw_wordlines_k18_maps_alike_and_shown
abbrev hk : PySem.W.Hook := hookK fa fn exT
def ob (s : PySem.W.SharedT) : He.AlD × Bool := (He.obsD fa fn (frK (HandSHeadRun.getT s)), exT (frK (HandSHeadRun.getT s)))
theorem ob_eq (s : PySem.W.SharedT) : ob s = hk.obs s.abs := by
  have e : HandSHeadRun.getT s = s.abs.heap.get? := funext (HandSHeadRun.getT_eq s)
  unfold ob
  rw [e]
  rfl
def others : List PySem.Str := "_wall" :: "WordError" :: "LandError" :: "JoinError" :: "NoWord" :: "NoChanges" :: "NoAge" :: "NoSure" :: "NoLand" :: "NoName" :: "NoGathering" :: "NoMap" :: "NoTelling" :: "NoBack" :: "Told" :: "Full" :: "LETTERS" :: "WHERES" :: "LONGEST_WORD" :: "MOST_CHANGES" :: "is_whole" :: "is_number_from" :: "is_word" :: "check_word" :: "is_letter" :: "is_change" :: "is_tuple_up_to" :: "checked_changes" :: "reaches" :: "turned_letters" :: "steps_toward" :: "letters_at" :: "meaning" :: "MOST_ROWS" :: "MOST_COLUMNS" :: "LAKE" :: "are_rows" :: "wrong_spot" :: "spots_in" :: "checked_spots" :: "Land" :: "MOST_TELLINGS" :: "OLDEST" :: "DOT" :: "DOUBT" :: "check_age" :: "check_sure" :: "key_of" :: "telling_row" :: "Gathering" :: "check_gathering" :: "NOT_ASKED" :: "summed_up" :: "by_village" :: "WordMap" :: "check_map" :: "differences" :: "_law_cell" :: "_law_purse" :: "_law_pick" :: "_law_menu" :: "_law_word" :: "_law_fresh" :: "_law_changes" :: "_law_kin" :: "_law_meaning" :: "_law_land" :: "_law_names" :: "_law_tellings" :: "_law_put" :: "_law_shown" :: "_law_text" :: "_law_terms" :: "_law_alike_right" :: "_law_shown_right" :: "_law_kinds_right" :: "_law_pairs_right" :: "_law_again" :: []
theorem facts {P : Program} {w : World} {K : PySem.W.Frag} {h : Heap} {mg : Str → Option Value} {f : Addr} (X : K.In h) (G : h.Ns mainGlobals mg) (hfa : mg ("law" : Str) = some (.ref f)) (c : He.SaysD fa fn K) (cx : exT K = true) :
    ∃ fd : FuncData, (∀ (s : Shared) (v : Value), BindsTo s fd ⟨[v], []⟩ [("_law_script", v)]) ∧ ∀ base : Heap, K.In base → base.Ns mainGlobals mg → FnOk P w K mg base CX0 10 f fd ["_law_script"] (spLaw K) := by
  have B : Bi mg := ⟨He.free_ok X G (c.fact 92 (f := .free "len") rfl), He.free_ok X G (c.fact 93 (f := .free "range") rfl), He.free_ok X G (c.fact 94 (f := .free "isinstance") rfl), He.free_ok X G (c.fact 95 (f := .free "tuple") rfl), He.free_ok X G (c.fact 96 (f := .free "list") rfl), He.free_ok X G (c.fact 97 (f := .free "sorted") rfl), He.free_ok X G (c.fact 98 (f := .free "all") rfl), He.free_ok X G (c.fact 99 (f := .free "int") rfl), He.free_ok X G (c.fact 100 (f := .free "max") rfl), He.free_ok X G (c.fact 101 (f := .free "min") rfl), He.free_ok X G (c.fact 102 (f := .free "enumerate") rfl), He.free_ok X G (c.fact 103 (f := .free "str") rfl)⟩
  have hrepr : mg "repr" = none := He.free_ok X G (c.fact 105 (f := .free "repr") rfl)
  have hany : mg "any" = none := He.free_ok X G (c.fact 106 (f := .free "any") rfl)
  have hbool : mg "bool" = none := He.free_ok X G (c.fact 104 (f := .free "bool") rfl)
  have hlk : ∃ t, mg "LAKE" = some (.str "-" t) := He.str_ok X G (c.fact 89 (f := .str "LAKE" "-") rfl)
  have hna : ∃ t, mg "NOT_ASKED" = some (.str "?" t) := He.str_ok X G (c.fact 90 (f := .str "NOT_ASKED" "?") rfl)
  have B2 : Bg mg := ⟨He.free_ok X G (c.fact 104 (f := .free "bool") rfl), He.int_ok X G (c.fact 85 (f := .int "OLDEST" 120) rfl), He.int_ok X G (c.fact 86 (f := .int "MOST_TELLINGS" 200) rfl), He.str_ok X G (c.fact 87 (f := .str "DOT" ".") rfl), He.str_ok X G (c.fact 88 (f := .str "DOUBT" "?") rfl)⟩
  have Gk' : Gk mg := ⟨He.str_ok X G (c.fact 80 (f := .str "LETTERS" "abcdefghijklmnopqrstuvwxyz") rfl), He.int_ok X G (c.fact 81 (f := .int "LONGEST_WORD" 8) rfl), He.int_ok X G (c.fact 83 (f := .int "MOST_ROWS" 6) rfl), He.int_ok X G (c.fact 84 (f := .int "MOST_COLUMNS" 6) rfl)⟩
  have T : Txt K mg (He.ga K "Land") := ⟨He.cls_ok (c.fact 48 (f := .cls "Land") rfl), He.noat_ok (c.fact 50 (f := .noat "Land" "spots") rfl), He.noat_ok (c.fact 51 (f := .noat "Land" "rows") rfl), He.glo_ok X G (c.fact 47 (f := .glo "Land") rfl)⟩
  have TG : TxtG K mg (He.ga K "Gathering") := ⟨He.cls_ok (c.fact 53 (f := .cls "Gathering") rfl), He.noat_ok (c.fact 55 (f := .noat "Gathering" "land") rfl), He.noat_ok (c.fact 56 (f := .noat "Gathering" "told") rfl), He.noat_ok (c.fact 57 (f := .noat "Gathering" "deeds") rfl), He.glo_ok X G (c.fact 52 (f := .glo "Gathering") rfl)⟩
  have TM : TxtM K mg (He.ga K "WordMap") := ⟨He.cls_ok (c.fact 59 (f := .cls "WordMap") rfl), He.noat_ok (c.fact 61 (f := .noat "WordMap" "land") rfl), He.noat_ok (c.fact 62 (f := .noat "WordMap" "thing") rfl), He.noat_ok (c.fact 63 (f := .noat "WordMap" "changes") rfl), He.noat_ok (c.fact 64 (f := .noat "WordMap" "sure_words") rfl), He.noat_ok (c.fact 65 (f := .noat "WordMap" "doubtful_words") rfl), He.noat_ok (c.fact 66 (f := .noat "WordMap" "said") rfl), He.glo_ok X G (c.fact 58 (f := .glo "WordMap") rfl)⟩
  unfold exT at cx
  rw [Bool.and_eq_true] at cx
  obtain ⟨cx, cz⟩ := cx
  unfold exT0 exC at cx
  simp only [Bool.and_eq_true] at cx
  obtain ⟨e2, e3, ⟨a1, a2, a3⟩, ⟨b1, b2, b3⟩, ⟨c1, c2, c3⟩, e6, e7⟩ := cx
  have T2 : Txt2 K mg (He.ga K "Land") := ⟨T, ⟨T.cl, He.eqO_ok a1, He.eqO_ok e2, of_decide_eq_true e3, of_decide_eq_true a2, of_decide_eq_true a3⟩, ⟨He.eqO_ok e6, of_decide_eq_true a2⟩⟩
  have insD : C8.InsC K (He.ga K "Gathering") := ⟨TG.cl, He.eqO_ok b1, He.eqO_ok e2, of_decide_eq_true e3, of_decide_eq_true b2, of_decide_eq_true b3⟩
  have insW : C8.InsC K (He.ga K "WordMap") := ⟨TM.cl, He.eqO_ok c1, He.eqO_ok e2, of_decide_eq_true e3, of_decide_eq_true c2, of_decide_eq_true c3⟩
  have Gw' : Gw K mg := ⟨He.str_ok X G (c.fact 80 (f := .str "LETTERS" "abcdefghijklmnopqrstuvwxyz") rfl), He.int_ok X G (c.fact 81 (f := .int "LONGEST_WORD" 8) rfl), He.int_ok X G (c.fact 82 (f := .int "MOST_CHANGES" 12) rfl), _, He.glo_ok X G (c.fact 91 (f := .glo "WHERES") rfl), fun H => He.tupB_ok e7 H⟩
  unfold exX at cz
  simp only [Bool.and_eq_true] at cz
  obtain ⟨z0, z1, z2, z3, z4, z5, z6, z7, z8, z9, z10, z11, z12, z13, z14, z15, z16, z17, z18, z19, z20, z21, z22, z23⟩ := cz
  have NK : NoKind K (He.ga K "WordMap") := ⟨of_decide_eq_true z0, of_decide_eq_true z1, of_decide_eq_true z2, of_decide_eq_true z3, of_decide_eq_true z4, of_decide_eq_true z5, of_decide_eq_true z6⟩
  have KN : KitNo K (He.ga K "WordMap") := ⟨of_decide_eq_true z7, of_decide_eq_true z8, of_decide_eq_true z9, of_decide_eq_true z10, of_decide_eq_true z11, of_decide_eq_true z12, of_decide_eq_true z13⟩
  have ApD : Apart2 K (He.ga K "Gathering") (He.ga K "WordMap") := ⟨z14, z15, of_decide_eq_true z16, of_decide_eq_true z17⟩
  have ApC : Apart2 K (He.ga K "Land") (He.ga K "WordMap") := ⟨z18, z19, of_decide_eq_true z20, of_decide_eq_true z21⟩
  have nb : PySem.W.findIn K (.ref (He.ga K "WordMap")) "__bool__" = some none := He.eqO_ok z22
  have NeW : NeC K (He.ga K "WordMap") := ⟨He.eqO_ok z23, of_decide_eq_true c2⟩
  obtain ⟨fd0, F0⟩ := c.def_ 0 (d := dOf "is_word" wIsWord []) rfl
  obtain ⟨fd1, F1⟩ := c.def_ 1 (d := dOf "is_whole" sIsWhole []) rfl
  obtain ⟨fd2, F2⟩ := c.def_ 2 (d := dOf "is_number_from" sIsNum []) rfl
  obtain ⟨fd3, F3⟩ := c.def_ 3 (d := dOf "check_word" wCheck []) rfl
  obtain ⟨fd4, F4⟩ := c.def_ 4 (d := dOf "is_letter" wIsLetter []) rfl
  obtain ⟨fd5, F5⟩ := c.def_ 5 (d := dOf "is_change" wIsChange []) rfl
  obtain ⟨fd6, F6⟩ := c.def_ 6 (d := dOf "is_tuple_up_to" wTupTo []) rfl
  obtain ⟨fd7, F7⟩ := c.def_ 7 (d := dOf "checked_changes" wChecked []) rfl
  obtain ⟨fd8, F8⟩ := c.def_ 8 (d := dOf "reaches" wReaches []) rfl
  obtain ⟨fd9, F9⟩ := c.def_ 9 (d := dOf "turned_letters" wTurned []) rfl
  obtain ⟨fd10, F10⟩ := c.def_ 10 (d := dOf "steps_toward" wSteps []) rfl
  obtain ⟨fd11, F11⟩ := c.def_ 11 (d := dOf "letters_at" wLetAt []) rfl
  obtain ⟨fd12, F12⟩ := c.def_ 12 (d := dOf "meaning" wMean [.non]) rfl
  obtain ⟨fd13, F13⟩ := c.def_ 13 (d := dOf "are_rows" sAreRows []) rfl
  obtain ⟨fd14, F14⟩ := c.def_ 14 (d := dOf "wrong_spot" sWrong []) rfl
  obtain ⟨fd15, F15⟩ := c.def_ 15 (d := dOf "spots_in" sSpotsIn []) rfl
  obtain ⟨fd16, F16⟩ := c.def_ 16 (d := dOf "checked_spots" sSpots []) rfl
  obtain ⟨fd17, F17⟩ := c.def_ 17 (d := dMet "Land" "__init__" "Land.__init__" sInit []) rfl
  obtain ⟨fd18, F18⟩ := c.def_ 18 (d := dMet "Land" "names" "Land.names" sLNames []) rfl
  obtain ⟨fd19, F19⟩ := c.def_ 19 (d := dMet "Land" "check_name" "Land.check_name" sCheck []) rfl
  obtain ⟨fd20, F20⟩ := c.def_ 20 (d := dOf "check_age" sCheckA []) rfl
  obtain ⟨fd21, F21⟩ := c.def_ 21 (d := dOf "check_sure" sCheckS []) rfl
  obtain ⟨fd22, F22⟩ := c.def_ 22 (d := dOf "key_of" sKeyOf []) rfl
  obtain ⟨fd23, F23⟩ := c.def_ 23 (d := dMet "Gathering" "__init__" "Gathering.__init__" sGInit []) rfl
  obtain ⟨fd24, F24⟩ := c.def_ 24 (d := dMet "Gathering" "place_of" "Gathering.place_of" sGPlace []) rfl
  obtain ⟨fd25, F25⟩ := c.def_ 25 (d := dMet "Gathering" "put" "Gathering.put" sGPut [.str "self", .bl true]) rfl
  obtain ⟨fd26, F26⟩ := c.def_ 26 (d := dMet "Gathering" "tellings" "Gathering.tellings" sGTell [.non]) rfl
  obtain ⟨fd27, F27⟩ := c.def_ 27 (d := dOf "check_gathering" sCheckG []) rfl
  obtain ⟨fd28, F28⟩ := c.def_ 28 (d := dOf "summed_up" sSum []) rfl
  obtain ⟨fd29, F29⟩ := c.def_ 29 (d := dOf "by_village" sByV []) rfl
  obtain ⟨fd30, F30⟩ := c.def_ 30 (d := dMet "WordMap" "__init__" "WordMap.__init__" sMInit [.non, .int 0, .int 120]) rfl
  obtain ⟨fd31, F31⟩ := c.def_ 31 (d := dMet "Land" "__eq__" "Land.__eq__" sEq []) rfl
  obtain ⟨fd32, F32⟩ := c.def_ 32 (d := dMet "Gathering" "__eq__" "Gathering.__eq__" sGEq []) rfl
  obtain ⟨fd33, F33⟩ := c.def_ 33 (d := dMet "WordMap" "asked" "WordMap.asked" sMAsked []) rfl
  obtain ⟨fd34, F34⟩ := c.def_ 34 (d := dMet "WordMap" "__len__" "WordMap.__len__" sMLen []) rfl
  obtain ⟨fd35, F35⟩ := c.def_ 35 (d := dMet "WordMap" "show_part" "WordMap.show_part" sMPart []) rfl
  obtain ⟨fd36, F36⟩ := c.def_ 36 (d := dMet "WordMap" "__eq__" "WordMap.__eq__" sMEq []) rfl
  obtain ⟨fd37, F37⟩ := c.def_ 37 (d := dMet "WordMap" "__str__" "WordMap.__str__" sMStr []) rfl
  obtain ⟨fd38, F38⟩ := c.def_ 38 (d := dMet "WordMap" "__repr__" "WordMap.__repr__" sMRepr []) rfl
  obtain ⟨fd39, F39⟩ := c.def_ 39 (d := dOf "check_map" sCheckM [.int 0]) rfl
  obtain ⟨fd40, F40⟩ := c.def_ 40 (d := dOf "differences" sDiff []) rfl
  obtain ⟨fd41, F41⟩ := c.def_ 41 (d := dOf "_law_cell" sCell []) rfl
  obtain ⟨fd42, F42⟩ := c.def_ 42 (d := dOf "_law_purse" sPurse []) rfl
  obtain ⟨fd43, F43⟩ := c.def_ 43 (d := dOf "_law_pick" sPick []) rfl
  obtain ⟨fd44, F44⟩ := c.def_ 44 (d := dOf "_law_menu" sMenu []) rfl
  obtain ⟨fd45, F45⟩ := c.def_ 45 (d := dOf "_law_word" sWord []) rfl
  obtain ⟨fd46, F46⟩ := c.def_ 46 (d := dOf "_law_fresh" sFresh []) rfl
  obtain ⟨fd47, F47⟩ := c.def_ 47 (d := dOf "_law_kin" sKin []) rfl
  obtain ⟨fd48, F48⟩ := c.def_ 48 (d := dOf "_law_meaning" sMeaning []) rfl
  obtain ⟨fd49, F49⟩ := c.def_ 49 (d := dOf "_law_changes" sChanges []) rfl
  obtain ⟨fd50, F50⟩ := c.def_ 50 (d := dOf "_law_land" sLand []) rfl
  obtain ⟨fd51, F51⟩ := c.def_ 51 (d := dOf "_law_names" sNames []) rfl
  obtain ⟨fd52, F52⟩ := c.def_ 52 (d := dOf "_law_tellings" sTellings []) rfl
  obtain ⟨fd53, F53⟩ := c.def_ 53 (d := dOf "_law_put" sPut []) rfl
  obtain ⟨fd54, F54⟩ := c.def_ 54 (d := dOf "_law_shown" sShown []) rfl
  obtain ⟨fd55, F55⟩ := c.def_ 55 (d := dOf "_law_text" sText []) rfl
  obtain ⟨fd56, F56⟩ := c.def_ 56 (d := dOf "_law_terms" sTerms []) rfl
  obtain ⟨fd57, F57⟩ := c.def_ 57 (d := dOf "_law_alike_right" sAlikeR []) rfl
  obtain ⟨fd58, F58⟩ := c.def_ 58 (d := dOf "_law_shown_right" sShownR []) rfl
  obtain ⟨fd59, F59⟩ := c.def_ 59 (d := dOf "_law_kinds_right" sKindsR []) rfl
  obtain ⟨fd60, F60⟩ := c.def_ 60 (d := dOf "_law_pairs_right" sPairsR []) rfl
  obtain ⟨fd61, F61⟩ := c.def_ 61 (d := dOf "_law_again" sAgain []) rfl
  obtain ⟨fd62, F62⟩ := c.def_ 62 (d := dOf "law" sLaw []) rfl
  have e := hfa.symm.trans (He.glo_ok X G (c.fact 46 (f := .glo "law") rfl))
  cases e
  have f0 : Fun K "is_word" "is_word" wIsWord _ fd0 := He5.fun_of F0
  have f1 : Fun K "is_whole" "is_whole" sIsWhole _ fd1 := He5.fun_of F1
  have f2 : Fun K "is_number_from" "is_number_from" sIsNum _ fd2 := He5.fun_of F2
  have f3 : Fun K "check_word" "check_word" wCheck _ fd3 := He5.fun_of F3
  have f4 : Fun K "is_letter" "is_letter" wIsLetter _ fd4 := He5.fun_of F4
  have f5 : Fun K "is_change" "is_change" wIsChange _ fd5 := He5.fun_of F5
  have f6 : Fun K "is_tuple_up_to" "is_tuple_up_to" wTupTo _ fd6 := He5.fun_of F6
  have f7 : Fun K "checked_changes" "checked_changes" wChecked _ fd7 := He5.fun_of F7
  have f8 : Fun K "reaches" "reaches" wReaches _ fd8 := He5.fun_of F8
  have f9 : Fun K "turned_letters" "turned_letters" wTurned _ fd9 := He5.fun_of F9
  have f10 : Fun K "steps_toward" "steps_toward" wSteps _ fd10 := He5.fun_of F10
  have f11 : Fun K "letters_at" "letters_at" wLetAt _ fd11 := He5.fun_of F11
  have f12 : FunN K "meaning" wMean _ fd12 := F12
  have f13 : Fun K "are_rows" "are_rows" sAreRows _ fd13 := He5.fun_of F13
  have f14 : Fun K "wrong_spot" "wrong_spot" sWrong _ fd14 := He5.fun_of F14
  have f15 : Fun K "spots_in" "spots_in" sSpotsIn _ fd15 := He5.fun_of F15
  have f16 : Fun K "checked_spots" "checked_spots" sSpots _ fd16 := He5.fun_of F16
  have f17 : Fun K "__init__" "Land.__init__" sInit _ fd17 := He5.fun_of F17
  have f18 : Fun K "names" "Land.names" sLNames _ fd18 := He5.fun_of F18
  have f19 : Fun K "check_name" "Land.check_name" sCheck _ fd19 := He5.fun_of F19
  have f20 : Fun K "check_age" "check_age" sCheckA _ fd20 := He5.fun_of F20
  have f21 : Fun K "check_sure" "check_sure" sCheckS _ fd21 := He5.fun_of F21
  have f22 : Fun K "key_of" "key_of" sKeyOf _ fd22 := He5.fun_of F22
  have f23 : Fun K "__init__" "Gathering.__init__" sGInit _ fd23 := He5.fun_of F23
  have f24 : Fun K "place_of" "Gathering.place_of" sGPlace _ fd24 := He5.fun_of F24
  have f25 : FunP K _ fd25 := F25
  have f26 : FunT K _ fd26 := F26
  have f27 : Fun K "check_gathering" "check_gathering" sCheckG _ fd27 := He5.fun_of F27
  have f28 : Fun K "summed_up" "summed_up" sSum _ fd28 := He5.fun_of F28
  have f29 : Fun K "by_village" "by_village" sByV _ fd29 := He5.fun_of F29
  have f30 : FunI K _ fd30 := F30
  have f31 : Fun K "__eq__" "Land.__eq__" sEq _ fd31 := He5.fun_of F31
  have f32 : Fun K "__eq__" "Gathering.__eq__" sGEq _ fd32 := He5.fun_of F32
  have f33 : Fun K "asked" "WordMap.asked" sMAsked _ fd33 := He5.fun_of F33
  have f34 : Fun K "__len__" "WordMap.__len__" sMLen _ fd34 := He5.fun_of F34
  have f35 : Fun K "show_part" "WordMap.show_part" sMPart _ fd35 := He5.fun_of F35
  have f36 : Fun K "__eq__" "WordMap.__eq__" sMEq _ fd36 := He5.fun_of F36
  have f37 : Fun K "__str__" "WordMap.__str__" sMStr _ fd37 := He5.fun_of F37
  have f38 : Fun K "__repr__" "WordMap.__repr__" sMRepr _ fd38 := He5.fun_of F38
  have f39 : FunC K _ fd39 := F39
  have f40 : Fun K "differences" "differences" sDiff _ fd40 := He5.fun_of F40
  have f41 : Fun K "_law_cell" "_law_cell" sCell _ fd41 := He5.fun_of F41
  have f42 : Fun K "_law_purse" "_law_purse" sPurse _ fd42 := He5.fun_of F42
  have f43 : Fun K "_law_pick" "_law_pick" sPick _ fd43 := He5.fun_of F43
  have f44 : Fun K "_law_menu" "_law_menu" sMenu _ fd44 := He5.fun_of F44
  have f45 : Fun K "_law_word" "_law_word" sWord _ fd45 := He5.fun_of F45
  have f46 : Fun K "_law_fresh" "_law_fresh" sFresh _ fd46 := He5.fun_of F46
  have f47 : Fun K "_law_kin" "_law_kin" sKin _ fd47 := He5.fun_of F47
  have f48 : Fun K "_law_meaning" "_law_meaning" sMeaning _ fd48 := He5.fun_of F48
  have f49 : Fun K "_law_changes" "_law_changes" sChanges _ fd49 := He5.fun_of F49
  have f50 : Fun K "_law_land" "_law_land" sLand _ fd50 := He5.fun_of F50
  have f51 : Fun K "_law_names" "_law_names" sNames _ fd51 := He5.fun_of F51
  have f52 : Fun K "_law_tellings" "_law_tellings" sTellings _ fd52 := He5.fun_of F52
  have f53 : Fun K "_law_put" "_law_put" sPut _ fd53 := He5.fun_of F53
  have f54 : Fun K "_law_shown" "_law_shown" sShown _ fd54 := He5.fun_of F54
  have f55 : Fun K "_law_text" "_law_text" sText _ fd55 := He5.fun_of F55
  have f56 : Fun K "_law_terms" "_law_terms" sTerms _ fd56 := He5.fun_of F56
  have f57 : Fun K "_law_alike_right" "_law_alike_right" sAlikeR _ fd57 := He5.fun_of F57
  have f58 : Fun K "_law_shown_right" "_law_shown_right" sShownR _ fd58 := He5.fun_of F58
  have f59 : Fun K "_law_kinds_right" "_law_kinds_right" sKindsR _ fd59 := He5.fun_of F59
  have f60 : Fun K "_law_pairs_right" "_law_pairs_right" sPairsR _ fd60 := He5.fun_of F60
  have f61 : Fun K "_law_again" "_law_again" sAgain _ fd61 := He5.fun_of F61
  have f62 : Fun K "law" "law" sLaw _ fd62 := He5.fun_of F62
  refine ⟨fd62, fun s v => ?_, fun base _ _ => ?_⟩
  · obtain ⟨oc, od, kV, doc, pm, an, cdv, ct, osl, e, l, c⟩ := f62.ex
    subst e
    exact .of_eq rfl
  have h_is_word : Has P w K mg base "is_word" 1 ["thing"] (spIsW K) := ⟨_, fd0, ok_isw f0 B Gw', He.glo_ok X G (c.fact 0 (f := .glo "is_word") rfl), f0.kp, f0.binds fun _ _ _ _ _ _ us hl => match us, hl with | [_], _ => rfl⟩
  have h_is_wordL : Has P w K mg base "is_word" 1 ["thing"] spIsWord := ⟨_, fd0, FnOk.imp (ok_isw f0 B Gw') (fun vs H Q E ⟨z, e, hz, q⟩ => ⟨.str z, wdB z, e, .inl ⟨z, rfl, hz, rfl⟩, q⟩), He.glo_ok X G (c.fact 0 (f := .glo "is_word") rfl), f0.kp, f0.binds fun _ _ _ _ _ _ us hl => match us, hl with | [_], _ => rfl⟩
  have h_is_whole : Has P w K mg base "is_whole" 1 ["thing"] spIsWhole := ⟨_, fd1, ok_iswhole f1 B B2, He.glo_ok X G (c.fact 1 (f := .glo "is_whole") rfl), f1.kp, f1.binds fun _ _ _ _ _ _ us hl => match us, hl with | [_], _ => rfl⟩
  have h_is_number_from : Has P w K mg base "is_number_from" 2 ["thing", "least", "most"] spIsNum := ⟨_, fd2, ok_isnum f2 h_is_whole, He.glo_ok X G (c.fact 2 (f := .glo "is_number_from") rfl), f2.kp, f2.binds fun _ _ _ _ _ _ us hl => match us, hl with | [_, _, _], _ => rfl⟩
  have h_check_word : Has P w K mg base "check_word" 2 ["word"] spCheckW := ⟨_, fd3, ok_checkw f3 h_is_word, He.glo_ok X G (c.fact 3 (f := .glo "check_word") rfl), f3.kp, f3.binds fun _ _ _ _ _ _ us hl => match us, hl with | [_], _ => rfl⟩
  have h_is_letter : Has P w K mg base "is_letter" 2 ["thing"] spIsLet := ⟨_, fd4, ok_islet f4 B h_is_word, He.glo_ok X G (c.fact 4 (f := .glo "is_letter") rfl), f4.kp, f4.binds fun _ _ _ _ _ _ us hl => match us, hl with | [_], _ => rfl⟩
  have h_is_change : Has P w K mg base "is_change" 3 ["thing"] spIsCh := ⟨_, fd5, ok_isch f5 B Gw' h_is_letter, He.glo_ok X G (c.fact 5 (f := .glo "is_change") rfl), f5.kp, f5.binds fun _ _ _ _ _ _ us hl => match us, hl with | [_], _ => rfl⟩
  have h_is_tuple_up_to : Has P w K mg base "is_tuple_up_to" 1 ["thing", "most"] spTupTo := ⟨_, fd6, ok_tupto f6 B, He.glo_ok X G (c.fact 6 (f := .glo "is_tuple_up_to") rfl), f6.kp, f6.binds fun _ _ _ _ _ _ us hl => match us, hl with | [_, _], _ => rfl⟩
  have h_checked_changes : Has P w K mg base "checked_changes" 4 ["changes"] spChecked := ⟨_, fd7, ok_checked f7 B Gw' h_is_tuple_up_to h_is_change, He.glo_ok X G (c.fact 7 (f := .glo "checked_changes") rfl), f7.kp, f7.binds fun _ _ _ _ _ _ us hl => match us, hl with | [_], _ => rfl⟩
  have h_reaches : Has P w K mg base "reaches" 1 ["where", "place", "length"] spReaches := ⟨_, fd8, ok_reaches f8, He.glo_ok X G (c.fact 8 (f := .glo "reaches") rfl), f8.kp, f8.binds fun _ _ _ _ _ _ us hl => match us, hl with | [_, _, _], _ => rfl⟩
  have h_turned_letters : Has P w K mg base "turned_letters" 2 ["changes", "place", "length"] spTurned := ⟨_, fd9, ok_turned f9 Gw' h_reaches, He.glo_ok X G (c.fact 9 (f := .glo "turned_letters") rfl), f9.kp, f9.binds fun _ _ _ _ _ _ us hl => match us, hl with | [_, _, _], _ => rfl⟩
  have h_steps_toward : Has P w K mg base "steps_toward" 1 ["goal", "turned"] spSteps := ⟨_, fd10, ok_steps f10 B, He.glo_ok X G (c.fact 10 (f := .glo "steps_toward") rfl), f10.kp, f10.binds fun _ _ _ _ _ _ us hl => match us, hl with | [_, _], _ => rfl⟩
  have h_letters_at : Has P w K mg base "letters_at" 3 ["word", "place", "changes"] spLetAt := ⟨_, fd11, ok_letat f11 B h_steps_toward h_turned_letters, He.glo_ok X G (c.fact 11 (f := .glo "letters_at") rfl), f11.kp, f11.binds fun _ _ _ _ _ _ us hl => match us, hl with | [_, _, _], _ => rfl⟩
  have h_meaning : HasN P w K mg base "meaning" wMean 5 ["word", "changes"] spMean := ⟨_, fd12, ok_mean f12 B h_check_word h_checked_changes h_letters_at, He.glo_ok X G (c.fact 12 (f := .glo "meaning") rfl), f12⟩
  have h_are_rows : Has P w K mg base "are_rows" 1 ["thing"] spAreRows := ⟨_, fd13, ok_arerows f13 B Gk', He.glo_ok X G (c.fact 13 (f := .glo "are_rows") rfl), f13.kp, f13.binds fun _ _ _ _ _ _ us hl => match us, hl with | [_], _ => rfl⟩
  have h_wrong_spot : Has P w K mg base "wrong_spot" 2 ["rows"] spWrong := ⟨_, fd14, ok_wrong f14 B h_is_wordL, He.glo_ok X G (c.fact 14 (f := .glo "wrong_spot") rfl), f14.kp, f14.binds fun _ _ _ _ _ _ us hl => match us, hl with | [_], _ => rfl⟩
  have h_spots_in : Has P w K mg base "spots_in" 1 ["rows"] spSpotsIn := ⟨_, fd15, ok_spotsin f15 B, He.glo_ok X G (c.fact 15 (f := .glo "spots_in") rfl), f15.kp, f15.binds fun _ _ _ _ _ _ us hl => match us, hl with | [_], _ => rfl⟩
  have h_checked_spots : Has P w K mg base "checked_spots" 3 ["rows"] spSpots := ⟨_, fd16, ok_spots f16 h_are_rows h_wrong_spot h_spots_in, He.glo_ok X G (c.fact 16 (f := .glo "checked_spots") rfl), f16.kp, f16.binds fun _ _ _ _ _ _ us hl => match us, hl with | [_], _ => rfl⟩
  have h_Land__init__ : HasI P w K mg base (He.ga K "Land") := ⟨_, fd17, He.mkr_ok (c.fact 49 (f := .mkr "Land") rfl), ok_init f17 T h_checked_spots, f17.binds fun _ _ _ _ _ _ us hl => match us, hl with | [_, _], _ => rfl⟩
  have h_names : HasM P w K mg base (He.ga K "Land") "names" 1 ["self"] (spLNames (He.ga K "Land")) := ⟨_, fd18, ok_lnames f18 B T, He.meth_ok (c.fact 67 (f := .meth "Land" "names") rfl), f18.binds fun _ _ _ _ _ _ us hl => match us, hl with | [_], _ => rfl⟩
  have h_check_name : HasM P w K mg base (He.ga K "Land") "check_name" 2 ["self", "name"] (spCheck (He.ga K "Land")) := ⟨_, fd19, ok_check f19 T h_is_wordL, He.meth_ok (c.fact 68 (f := .meth "Land" "check_name") rfl), f19.binds fun _ _ _ _ _ _ us hl => match us, hl with | [_, _], _ => rfl⟩
  have h_check_age : Has P w K mg base "check_age" 3 ["age"] spCheckA := ⟨_, fd20, ok_checka f20 B2 h_is_number_from, He.glo_ok X G (c.fact 17 (f := .glo "check_age") rfl), f20.kp, f20.binds fun _ _ _ _ _ _ us hl => match us, hl with | [_], _ => rfl⟩
  have h_check_sure : Has P w K mg base "check_sure" 1 ["sure"] spCheckS := ⟨_, fd21, ok_checks f21 B B2, He.glo_ok X G (c.fact 18 (f := .glo "check_sure") rfl), f21.kp, f21.binds fun _ _ _ _ _ _ us hl => match us, hl with | [_], _ => rfl⟩
  have h_key_of : Has P w K mg base "key_of" 1 ["telling"] spKeyOf := ⟨_, fd22, ok_keyof f22, He.glo_ok X G (c.fact 19 (f := .glo "key_of") rfl), f22.kp, f22.binds fun _ _ _ _ _ _ us hl => match us, hl with | [_], _ => rfl⟩
  have h_Gathering__init__ : HasG P w K mg base (He.ga K "Land") (He.ga K "Gathering") := ⟨_, fd23, He.mkr_ok (c.fact 54 (f := .mkr "Gathering") rfl), ok_ginit f23 B T2 TG, f23.binds fun _ _ _ _ _ _ us hl => match us, hl with | [_, _], _ => rfl⟩
  have h_place_of : HasM P w K mg base (He.ga K "Gathering") "place_of" 2 ["self", "key"] (spGPlace (He.ga K "Land") (He.ga K "Gathering")) := ⟨_, fd24, ok_gplace f24 B TG h_key_of, He.meth_ok (c.fact 69 (f := .meth "Gathering" "place_of") rfl), f24.binds fun _ _ _ _ _ _ us hl => match us, hl with | [_, _], _ => rfl⟩
  have h_put : HasP P w K mg base (He.ga K "Land") (He.ga K "Gathering") := ⟨_, fd25, ok_put f25 B B2 T TG h_check_name h_check_word h_check_age h_check_sure h_place_of, He.meth_ok (c.fact 70 (f := .meth "Gathering" "put") rfl), f25⟩
  have h_tellings : HasT P w K mg base (He.ga K "Land") (He.ga K "Gathering") := ⟨_, fd26, ok_tell f26 B TG, He.meth_ok (c.fact 71 (f := .meth "Gathering" "tellings") rfl), f26⟩
  have h_check_gathering : Has P w K mg base "check_gathering" 1 ["thing"] (spCheckG (He.ga K "Land") (He.ga K "Gathering")) := ⟨_, fd27, ok_checkg f27 B TG insD, He.glo_ok X G (c.fact 20 (f := .glo "check_gathering") rfl), f27.kp, f27.binds fun _ _ _ _ _ _ us hl => match us, hl with | [_], _ => rfl⟩
  have h_summed_up : Has P w K mg base "summed_up" 6 ["tellings", "changes"] spSum := ⟨_, fd28, ok_sum f28 B h_meaning, He.glo_ok X G (c.fact 21 (f := .glo "summed_up") rfl), f28.kp, f28.binds fun _ _ _ _ _ _ us hl => match us, hl with | [_, _], _ => rfl⟩
  have h_by_village : Has P w K mg base "by_village" 7 ["names", "tellings", "changes"] spByV := ⟨_, fd29, ok_byv f29 h_summed_up, He.glo_ok X G (c.fact 22 (f := .glo "by_village") rfl), f29.kp, f29.binds fun _ _ _ _ _ _ us hl => match us, hl with | [_, _, _], _ => rfl⟩
  have h_WordMap__init__ : HasW P w K mg base (He.ga K "Land") (He.ga K "Gathering") (He.ga K "WordMap") := ⟨_, fd30, He.mkr_ok (c.fact 60 (f := .mkr "WordMap") rfl), ok_minit f30 B T TG TM h_check_gathering h_check_word h_checked_changes h_check_age h_tellings h_names h_by_village, f30⟩
  have h_Land__eq__ : HasM P w K mg base (He.ga K "Land") "__eq__" 1 ["self", "other"] (spLE K (He.ga K "Land")) := ⟨_, fd31, FnOk.or2 (ok_leq f31 B T2) (ok_leqx f31 B T2), He.meth_ok (c.fact 72 (f := .meth "Land" "__eq__") rfl), f31.binds fun _ _ _ _ _ _ us hl => match us, hl with | [_, _], _ => rfl⟩
  have h_Gathering__eq__ : HasM P w K mg base (He.ga K "Gathering") "__eq__" 1 ["self", "other"] (spEqX K (He.ga K "Gathering")) := ⟨_, fd32, ok_geqx f32 B TG, He.meth_ok (c.fact 73 (f := .meth "Gathering" "__eq__") rfl), f32.binds fun _ _ _ _ _ _ us hl => match us, hl with | [_, _], _ => rfl⟩
  have h_asked : HasM P w K mg base (He.ga K "WordMap") "asked" 2 ["self"] (spMAsked (He.ga K "Land") (He.ga K "WordMap")) := ⟨_, fd33, ok_asked f33 B T TM h_names, He.meth_ok (c.fact 74 (f := .meth "WordMap" "asked") rfl), f33.binds fun _ _ _ _ _ _ us hl => match us, hl with | [_], _ => rfl⟩
  have h_WordMap__len__ : HasM P w K mg base (He.ga K "WordMap") "__len__" 3 ["self"] (spMLen (He.ga K "Land") (He.ga K "WordMap")) := ⟨_, fd34, ok_mlen f34 B TM h_asked, He.meth_ok (c.fact 75 (f := .meth "WordMap" "__len__") rfl), f34.binds fun _ _ _ _ _ _ us hl => match us, hl with | [_], _ => rfl⟩
  have h_show_part : HasM P w K mg base (He.ga K "WordMap") "show_part" 1 ["self", "part"] (spPart (He.ga K "Land") (He.ga K "WordMap")) := ⟨_, fd35, ok_part f35 TM hlk hna, He.meth_ok (c.fact 76 (f := .meth "WordMap" "show_part") rfl), f35.binds fun _ _ _ _ _ _ us hl => match us, hl with | [_, _], _ => rfl⟩
  have h_WordMap__eq__ : HasM P w K mg base (He.ga K "WordMap") "__eq__" 2 ["self", "other"] (spME K (He.ga K "Land") (He.ga K "WordMap")) := ⟨_, fd36, FnOk.or2 (ok_meq f36 B TM insW h_Land__eq__) ((ok_meqx f36 B TM).mono (by decide)), He.meth_ok (c.fact 77 (f := .meth "WordMap" "__eq__") rfl), f36.binds fun _ _ _ _ _ _ us hl => match us, hl with | [_, _], _ => rfl⟩
  have h_WordMap__str__ : HasM P w K mg base (He.ga K "WordMap") "__str__" 2 ["self"] (spMStr (He.ga K "Land") (He.ga K "WordMap")) := ⟨_, fd37, ok_mstr f37 T TM h_show_part, He.meth_ok (c.fact 78 (f := .meth "WordMap" "__str__") rfl), f37.binds fun _ _ _ _ _ _ us hl => match us, hl with | [_], _ => rfl⟩
  have h_WordMap__repr__ : HasM P w K mg base (He.ga K "WordMap") "__repr__" 1 ["self"] (spMRepr (He.ga K "Land") (He.ga K "WordMap")) := ⟨_, fd38, ok_mrepr f38 TM, He.meth_ok (c.fact 79 (f := .meth "WordMap" "__repr__") rfl), f38.binds fun _ _ _ _ _ _ us hl => match us, hl with | [_], _ => rfl⟩
  have h_check_map : HasC P w K mg base (He.ga K "Land") (He.ga K "WordMap") := ⟨_, fd39, ok_checkm f39 B TM insW, He.glo_ok X G (c.fact 23 (f := .glo "check_map") rfl), f39⟩
  have h_differences : HasD P w K mg base (He.ga K "Land") (He.ga K "WordMap") := ⟨_, fd40, ok_diff f40 B T2 TM h_check_map h_Land__eq__ h_names, He.glo_ok X G (c.fact 24 (f := .glo "differences") rfl), f40.kp, f40.binds fun _ _ _ _ _ _ us hl => match us, hl with | [_, _], _ => rfl, kb0_of f40 fun _ _ _ _ _ _ _ _ => rfl⟩
  have h__law_cell : Has P w K mg base "_law_cell" 1 ["_law_script", "_law_k"] (spCell K) := ⟨_, fd41, ok_cell f41 B, He.glo_ok X G (c.fact 25 (f := .glo "_law_cell") rfl), f41.kp, f41.binds fun _ _ _ _ _ _ us hl => match us, hl with | [_, _], _ => rfl⟩
  have h__law_purse : Has P w K mg base "_law_purse" 1 ["_law_cell_here"] spPurse := ⟨_, fd42, ok_purse f42 B, He.glo_ok X G (c.fact 26 (f := .glo "_law_purse") rfl), f42.kp, f42.binds fun _ _ _ _ _ _ us hl => match us, hl with | [_], _ => rfl⟩
  have h__law_pick : Has P w K mg base "_law_pick" 1 ["_law_purse_here", "_law_many"] spPick := ⟨_, fd43, ok_pick f43, He.glo_ok X G (c.fact 27 (f := .glo "_law_pick") rfl), f43.kp, f43.binds fun _ _ _ _ _ _ us hl => match us, hl with | [_, _], _ => rfl⟩
  have h__law_menu : Has P w K mg base "_law_menu" 1 [] spMenu := ⟨_, fd44, ok_menu f44, He.glo_ok X G (c.fact 28 (f := .glo "_law_menu") rfl), f44.kp, f44.binds fun _ _ _ _ _ _ us hl => match us, hl with | [], _ => rfl⟩
  have h__law_word : Has P w K mg base "_law_word" 2 ["_law_purse_here"] spWord := ⟨_, fd45, ok_word f45 B h__law_pick h__law_menu, He.glo_ok X G (c.fact 29 (f := .glo "_law_word") rfl), f45.kp, f45.binds fun _ _ _ _ _ _ us hl => match us, hl with | [_], _ => rfl⟩
  have h__law_fresh : Has P w K mg base "_law_fresh" 3 ["_law_purse_here", "_law_used"] spFresh := ⟨_, fd46, ok_fresh f46 B h__law_word, He.glo_ok X G (c.fact 30 (f := .glo "_law_fresh") rfl), f46.kp, f46.binds fun _ _ _ _ _ _ us hl => match us, hl with | [_, _], _ => rfl⟩
  have h__law_kin : Has P w K mg base "_law_kin" 1 ["_law_swaps", "_law_letter", "_law_first", "_law_last"] spKin := ⟨_, fd47, ok_kin f47 B, He.glo_ok X G (c.fact 31 (f := .glo "_law_kin") rfl), f47.kp, f47.binds fun _ _ _ _ _ _ us hl => match us, hl with | [_, _, _, _], _ => rfl⟩
  have h__law_meaning : Has P w K mg base "_law_meaning" 2 ["_law_swaps", "_law_sound"] spLMean := ⟨_, fd48, ok_lmean f48 B h__law_kin, He.glo_ok X G (c.fact 32 (f := .glo "_law_meaning") rfl), f48.kp, f48.binds fun _ _ _ _ _ _ us hl => match us, hl with | [_, _], _ => rfl⟩
  have h__law_changes : Has P w K mg base "_law_changes" 2 ["_law_purse_here", "_law_top"] spChanges := ⟨_, fd49, ok_changes f49 B h__law_pick, He.glo_ok X G (c.fact 33 (f := .glo "_law_changes") rfl), f49.kp, f49.binds fun _ _ _ _ _ _ us hl => match us, hl with | [_, _], _ => rfl⟩
  have h__law_land : Has P w K mg base "_law_land" 4 ["_law_purse_here", "_law_top"] spLand := ⟨_, fd50, ok_land f50 B h__law_pick h__law_fresh, He.glo_ok X G (c.fact 34 (f := .glo "_law_land") rfl), f50.kp, f50.binds fun _ _ _ _ _ _ us hl => match us, hl with | [_, _], _ => rfl⟩
  have h__law_names : Has P w K mg base "_law_names" 1 ["_law_rows"] spNames := ⟨_, fd51, ok_names f51 B, He.glo_ok X G (c.fact 35 (f := .glo "_law_names") rfl), f51.kp, f51.binds fun _ _ _ _ _ _ us hl => match us, hl with | [_], _ => rfl⟩
  have h__law_tellings : Has P w K mg base "_law_tellings" 3 ["_law_purse_here", "_law_towns", "_law_many"] spTels := ⟨_, fd52, ok_tels f52 B h__law_pick h__law_word, He.glo_ok X G (c.fact 36 (f := .glo "_law_tellings") rfl), f52.kp, f52.binds fun _ _ _ _ _ _ us hl => match us, hl with | [_, _, _], _ => rfl⟩
  have h__law_put : Has P w K mg base "_law_put" 6 ["_law_purse_here", "_law_rows", "_law_some"] (spLPut (He.ga K "Land") (He.ga K "Gathering")) := ⟨_, fd53, ok_lput f53 T TG h_Land__init__ h_Gathering__init__ h_put h__law_pick, He.glo_ok X G (c.fact 37 (f := .glo "_law_put") rfl), f53.kp, f53.binds fun _ _ _ _ _ _ us hl => match us, hl with | [_, _, _], _ => rfl⟩
  have h__law_shown : Has P w K mg base "_law_shown" 3 ["_law_some", "_law_bends", "_law_item", "_law_low", "_law_high", "_law_firm"] spShown := ⟨_, fd54, ok_shown f54 B h__law_meaning, He.glo_ok X G (c.fact 38 (f := .glo "_law_shown") rfl), f54.kp, f54.binds fun _ _ _ _ _ _ us hl => match us, hl with | [_, _, _, _, _, _], _ => rfl⟩
  have h__law_text : Has P w K mg base "_law_text" 1 ["_law_rows", "_law_told"] spText := ⟨_, fd55, ok_text f55, He.glo_ok X G (c.fact 39 (f := .glo "_law_text") rfl), f55.kp, f55.binds fun _ _ _ _ _ _ us hl => match us, hl with | [_, _], _ => rfl⟩
  have h__law_terms : Has P w K mg base "_law_terms" 1 ["_law_told", "_law_town"] spTerms := ⟨_, fd56, ok_terms f56, He.glo_ok X G (c.fact 40 (f := .glo "_law_terms") rfl), f56.kp, f56.binds fun _ _ _ _ _ _ us hl => match us, hl with | [_, _], _ => rfl⟩
  have h__law_alike_right : Has P w K mg base "_law_alike_right" 5 ["_law_chart", "_law_mate", "_law_alike"] (spAlikeR (He.ga K "Land") (He.ga K "WordMap")) := ⟨_, fd57, ok_aliker f57 B hbool NeW NK KN h_WordMap__eq__, He.glo_ok X G (c.fact 41 (f := .glo "_law_alike_right") rfl), f57.kp, f57.binds fun _ _ _ _ _ _ us hl => match us, hl with | [_, _, _], _ => rfl⟩
  have h__law_shown_right : Has P w K mg base "_law_shown_right" 7 ["_law_chart", "_law_rows", "_law_told", "_law_item"] (spShownR (He.ga K "Land") (He.ga K "WordMap")) := ⟨_, fd58, ok_shownr f58 B hbool hrepr nb h__law_text h_WordMap__str__ h_WordMap__repr__ h_WordMap__len__, He.glo_ok X G (c.fact 42 (f := .glo "_law_shown_right") rfl), f58.kp, f58.binds fun _ _ _ _ _ _ us hl => match us, hl with | [_, _, _, _], _ => rfl⟩
  have h__law_kinds_right : Has P w K mg base "_law_kinds_right" 6 ["_law_chart", "_law_found"] (spKindsR (He.ga K "Land") (He.ga K "Gathering") (He.ga K "WordMap")) := ⟨_, fd59, ok_kindsr f59 B hany hrepr TG NeW NK KN ApD ApC T2.ins insD insW h_WordMap__eq__ h_Gathering__eq__ h_Land__eq__ h_WordMap__str__ h_WordMap__repr__, He.glo_ok X G (c.fact 43 (f := .glo "_law_kinds_right") rfl), f59.kp, f59.binds fun _ _ _ _ _ _ us hl => match us, hl with | [_, _], _ => rfl⟩
  have h__law_pairs_right : Has P w K mg base "_law_pairs_right" 6 ["_law_charts", "_law_rows"] (spPairsR (He.ga K "Land") (He.ga K "WordMap")) := ⟨_, fd60, ok_pairsr f60 B h__law_names h__law_terms h_differences h__law_alike_right, He.glo_ok X G (c.fact 44 (f := .glo "_law_pairs_right") rfl), f60.kp, f60.binds fun _ _ _ _ _ _ us hl => match us, hl with | [_, _], _ => rfl⟩
  have h__law_again : Has P w K mg base "_law_again" 2 ["_law_purse_here", "_law_rows", "_law_some"] spAgain := ⟨_, fd61, ok_again f61 h__law_pick, He.glo_ok X G (c.fact 45 (f := .glo "_law_again") rfl), f61.kp, f61.binds fun _ _ _ _ _ _ us hl => match us, hl with | [_, _, _], _ => rfl⟩
  exact ok_law f62 B T2 TG TM NeW h_Land__init__ h_Gathering__init__ h_WordMap__init__ h_WordMap__eq__ h__law_cell h__law_purse h__law_pick h__law_changes h__law_land h__law_names h__law_tellings h__law_again h__law_put h__law_shown h__law_shown_right h_differences.pos h__law_pairs_right h__law_kinds_right h__law_alike_right
end Wl

namespace Wl
open PySem PySem.Spec PyProof.Rows L2
noncomputable abbrev atEnd (w : World) (os : OsState) : Option PySem.W.SharedT := HandSHeadRun.endF (HandSHeadRun.stepQ (HandSHeadRun.denQ HandSHeadRun.tabQ) R.prog w) 12000 R.prog w os
theorem runA (w : World) (os : OsState) : (atEnd w os).map (fun s => (HandSHeadRun.looksF R.prog (PySem.W.boot_heap w.params) s.abs, HandSHeadRun.seenQ (PySem.W.view R.prog [84]) others (importedModules R.prog.main.body) (fun s => PySem.W.xlAt (PySem.W.view R.prog [84]) [] s && PySem.W.recOk R.toRowW.records s) s.abs)) = some (true, PySem.W.openGood (PySem.W.view R.prog [84]) others) := by
  kernel_rfl
theorem runB (w : World) (os : OsState) : (atEnd w os).map ob = some (He.valD fn, true) := by
  kernel_rfl
theorem run (w : World) : HandSHeadRun.RunEq R (PySem.W.view R.prog [84]) hk ob 12000 others w := fun os => map3 (runA w os) (runB w os)
end Wl

open PySem PySem.W PySem.Calls PyProof.Rows
theorem PySem.Challenge.cw_wordlines_k18_maps_alike_and_shown_holds : PySem.Challenge.rw_wordlines_k18_maps_alike_and_shown.Holds := by
  w_on; o_law
  refine HandSHeadRun.head_any (r := OpenLaw.row PySem.Challenge.rw_wordlines_k18_maps_alike_and_shown) (q := view (OpenLaw.row PySem.Challenge.rw_wordlines_k18_maps_alike_and_shown).prog [84]) (H := Wl.hk) (ob := Wl.ob) (M := 12000) (loose := Wl.others) (d := HandSHeadRun.topDef (OpenLaw.row PySem.Challenge.rw_wordlines_k18_maps_alike_and_shown).prog 84) (kwd := []) Wl.ob_eq
    (by kernel_rfl) (fun s => by kernel_rfl) Wl.run (by kernel_rfl) (by kernel_rfl) (by kernel_rfl) (by rfl) (by first | assumption | decide +kernel) (by decide +kernel) ⟨rfl, rfl, rfl, rfl, rfl, by decide +kernel⟩ ?hw ?hc
  case hw => w_witness2
  case hc =>
    refine L2.walk_ofE (l := PySem.Challenge.rw_wordlines_k18_maps_alike_and_shown) (n := 63) (k := 10) (x := "_law_script") (CX := L2.CX0) rfl (by decide) (by kernel_rfl) ⟨rfl, by decide, by decide⟩ ?F (fun _ _ _ _ z => z)
    intro w mg fa h Y G hmg0
    obtain ⟨K, KX, c, cx⟩ := Y
    have hmg : mg ("law" : PySem.Str) = some (.ref fa) := by
      have e : (HandSHeadRun.topDef (OpenLaw.row PySem.Challenge.rw_wordlines_k18_maps_alike_and_shown).prog 84).name = ("law" : PySem.Str) := by kernel_rfl
      rw [← e]
      exact hmg0
    obtain ⟨fd, hb, hF⟩ := Wl.facts (P := (PySem.Challenge.rw_wordlines_k18_maps_alike_and_shown).prog) (w := w) KX G hmg c cx
    exact ⟨K, fd, Wl.spLaw K, KX, hb, fun H a ns hl _ hS => ⟨a, ns, rfl, hS, hl, fun _ => rfl⟩, hF⟩

