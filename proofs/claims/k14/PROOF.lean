import PyProof.Rows.All
import Wide.All
import OpenK.AllK
import Wide.FinOn
import HandS.ForMost
import HandS.Defaults
import HandS.MakeKwOnly
import HandS.Conv
import HandS.IsInst
import HandS.Walk
import HandS.Flow
import KE.SortData
import KE.DataMinMax
import KE.GoesMore
import KE.KExcIs
import HandS.HotCalls
import HandS.ExcField
import KE.KExcInit
import HandS.Ends
import HandS.Words
import HandS.Comp
import HandS.WordsExc
import PyProof.EqAt
import HandS.List
import HandS.More
import HandS.Head0
import HandS.HeadHook1
import HandS.HeadHook2
import HandS.HeadNt
import KE.KStateDown
import Lean
import HandS.Head1
import HandS.Head2
import HandS.HeadEnd
import HandS.Strs
import HandS.SetFor
import HandS.SetTxt0
import HandS.SetBool
import HandS.TupSets
import HandS.Style
import HandS.DictComp
import HandS.OwnEq
import KE.KCallOwn
import KE.KFmtOwn
import HandS.Codes
import HandS.FStr
import HandS.MakeKw
import HandS.Deep
import HandS.Replace
import KE.KEqNest
import HandS.TupAny
import HandS.TryOnly
import HandS.New
import HandS.RaiseMore
import PyProof.ReprRoads
import PyProof.Rows.RegFStrParts
import HandS.DictEq
import PySem.Challenge.RW_wordlines_k14_gatherings_as_texts
set_option Elab.async false
set_option linter.all false
set_option maxRecDepth 100000
set_option maxHeartbeats 0
/-! Rules of ours beside the layer: sorted of data, min and max of two texts, in of nested tuples, methods by keyword, enumerate of a tuple. -/
namespace Wl
open PySem PySem.Spec PyProof.Rows L2

/-! sorted(list of data) -/
def rSortD (K : PySem.W.Frag) : List V → Hp → VK → Prop := fun vs H Q =>
  ∃ (a : Addr) (bs : List (V × PyData)), vs = [V.ref a] ∧ SqL K H a (bs.map (·.1)) ∧ (∀ b ∈ bs, Dp K H b.1 b.2) ∧
    PySem.W.AllAlike (bs.map (·.2)) ∧ PySem.W.Sortable (bs.map (·.2)) ∧ (∀ b ∈ bs, b.2.depth ≤ 8) ∧
    ∀ p, H p = none → Q (.ref p) (upd H p (.lst ((bs.mergeSort (PySem.W.dataLe false (·.2))).map (·.1))))
theorem each_of_vals : ∀ {bs : List (V × PyData)} {its : List Value}, Vals (bs.map (·.1)) its → PySem.W.EachIs (fun u b => RelV b.1 u) its bs
  | [], [], _ => .nil
  | [], _ :: _, h => nomatch h
  | _ :: _, [], h => nomatch h
  | b :: bs, u :: us, h => by
    cases h with
    | cons r t => exact .cons r (each_of_vals t)
theorem vals_of_each : ∀ {bs : List (V × PyData)} {its : List Value}, PySem.W.EachIs (fun u b => RelV b.1 u) its bs → Vals (bs.map (·.1)) its
  | _, _, .nil => .nil
  | _, _, .cons r t => .cons r (vals_of_each t)
theorem each_reads {X : Cx} {pins : List (Addr × Obj)} {σ : L2.St} {H : Hp} {s : Shared} (I : Inv X pins σ H s) :
    ∀ {bs : List (V × PyData)} {its : List Value}, (∀ b ∈ bs, Dp X.K H b.1 b.2) → PySem.W.EachIs (fun u b => RelV b.1 u) its bs →
      PySem.W.EachIs (fun v b => ∃ as, Reads s.heap v b.2 as) its bs
  | _, _, _, .nil => .nil
  | _, _, hd, .cons r t => .cons (Dp.reads I _ _ _ (hd _ List.mem_cons_self) r) (each_reads I (fun b m => hd b (List.mem_cons_of_mem _ m)) t)
theorem cr_sortD {X : Cx} (hu : X.A.units + 64 < cLine) : CallR X (.builtin "sorted") (rSortD X.K) := by
  intro pins s σ H vs us Q I r h
  obtain ⟨a, bs, rfl, hs, hd, ha, hk, hz, q⟩ := h
  obtain ⟨its, rv, hl, hn⟩ := I.list hs
  obtain ⟨u, rfl, ru⟩ := vals1 r
  obtain rfl : u = Value.ref a := ru
  have e := each_of_vals rv
  have hbn : bs.length ≤ sizeLine := by
    rw [List.length_map] at hn
    exact hn
  refine PySem.W.sorted_data (R := fun u b => RelV b.1 u) (enc := (·.2)) hl.isList e (each_reads I hd e) ha hk hbn (fun b hb => ?_) fun out ho eo => ?_
  · have := hz b hb
    omega
  · have rv2 := vals_of_each eo
    obtain ⟨n, hn2⟩ := sortedAll_at s.heap its out.toArray
    have hlen : ((bs.mergeSort (PySem.W.dataLe false (·.2))).map (·.1)).length ≤ sizeLine := by
      rw [List.length_map, List.length_mergeSort]
      exact hbn
    exact ⟨.ref (s.heap.objs.size + 1), _, I.laid (t' := s.toks) (o := .lst ((bs.mergeSort (PySem.W.dataLe false (·.2))).map (·.1))) (fun b o e => sortedAll_old e) (Nat.le_succ _) ⟨hlen, out, n, rv2, hn2⟩, rfl, q _ (I.hok.fresh (Nat.le_succ _))⟩

/-! min, max of a tuple of two texts -/
def rTwo (K : PySem.W.Frag) (f : Str → Str → Str) : List V → Hp → VK → Prop := fun vs H Q =>
  ∃ (a : Addr) (x y : Str), vs = [V.ref a] ∧ SqT K H a [.str x, .str y] ∧ Q (.str (f x y)) H
def lessOf (x y : Str) : Str := if y.cps.toList < x.cps.toList then y else x
def moreOf (x y : Str) : Str := if x.cps.toList < y.cps.toList then y else x
theorem alike2 (x y : Str) : PySem.W.AlikeAll [PyData.str x, .str y] := by
  refine ⟨fun a ha b hb => ?_, fun a ha => ?_⟩
  · simp only [List.mem_cons, List.not_mem_nil, or_false] at ha hb
    rcases ha with rfl | rfl <;> rcases hb with rfl | rfl <;> rfl
  · simp only [List.mem_cons, List.not_mem_nil, or_false] at ha
    rcases ha with rfl | rfl <;> exact fun z => by cases z
theorem dp2 {K : PySem.W.Frag} {H : Hp} (x y : Str) : DpAll K H [.str x, .str y] [PyData.str x, .str y] := .cons (.str x) (.cons (.str y) .nil)
theorem cr_minT {X : Cx} (hc : X.calm = true) (hu : X.A.units + 64 < cLine) : CallR X (.builtin "min") (rTwo X.K lessOf) := by
  intro pins s σ H vs us Q I r h
  obtain ⟨a, x, y, rfl, hs, q⟩ := h
  obtain ⟨its, rv, hl, hn⟩ := I.tuple hs
  obtain ⟨u, rfl, ru⟩ := vals1 r
  obtain rfl : u = Value.ref a := ru
  obtain ⟨as, hr⟩ := Dp.readsAll I _ _ its (dp2 x y) rv
  refine PySem.W.min_tuple_data (I.ok.hd hc) (show s.heap.IsTuple a its.toArray from hl) (by simpa using hr) (alike2 x y) (by
    have : PyData.depthAll [PyData.str x, .str y] = 0 := rfl
    omega) fun i v h' tk bs hv hR hk => ?_
  have e : PySem.W.minD (.str x) [.str y] = .str (lessOf x y) := by
    unfold PySem.W.minD lessOf
    simp only [List.foldl_cons, List.foldl_nil, PySem.W.dataLt_str]
    by_cases c : y.cps.toList < x.cps.toList <;> simp [c]
  rw [e] at hR
  cases hR with
  | str z t => exact ⟨.str _, H, I.kept (t' := tk) hk, ⟨_, rfl⟩, q⟩
theorem cr_maxT {X : Cx} (hc : X.calm = true) (hu : X.A.units + 64 < cLine) : CallR X (.builtin "max") (rTwo X.K moreOf) := by
  intro pins s σ H vs us Q I r h
  obtain ⟨a, x, y, rfl, hs, q⟩ := h
  obtain ⟨its, rv, hl, hn⟩ := I.tuple hs
  obtain ⟨u, rfl, ru⟩ := vals1 r
  obtain rfl : u = Value.ref a := ru
  obtain ⟨as, hr⟩ := Dp.readsAll I _ _ its (dp2 x y) rv
  refine PySem.W.max_tuple_data (I.ok.hd hc) (show s.heap.IsTuple a its.toArray from hl) (by simpa using hr) (alike2 x y) (by
    have : PyData.depthAll [PyData.str x, .str y] = 0 := rfl
    omega) fun i v h' tk bs hv hR hk => ?_
  have e : PySem.W.maxD (.str x) [.str y] = .str (moreOf x y) := by
    unfold PySem.W.maxD moreOf
    simp only [List.foldl_cons, List.foldl_nil, PySem.W.dataLt_str]
    by_cases c : x.cps.toList < y.cps.toList <;> simp [c]
  rw [e] at hR
  cases hR with
  | str z t => exact ⟨.str _, H, I.kept (t' := tk) hk, ⟨_, rfl⟩, q⟩

/-! x in a tuple of data -/
def rInDT (K : PySem.W.Frag) : R2 := fun x y H Q => ∃ d ds, Dp K H x d ∧ Dp K H y (.tuple ds) ∧ SeqAt.shaped d = true ∧
  SeqAt.shaped (.tuple ds) = true ∧ Q (.bl (ds.any fun z => PyData.eqv z d)) H
theorem op_inDT {X : Cx} (hu : X.A.units + 65 < cLine) : OpR X (compareOp .In) (rInDT X.K) := by
  intro pins s σ H x y v u Q I rx ry h
  obtain ⟨d, ds, hd, he, sd, se, q⟩ := h
  obtain ⟨as, r1⟩ := Dp.reads I d x v hd rx
  obtain ⟨bs, r2⟩ := Dp.reads I (.tuple ds) y u he ry
  exact SeqAt.in_tuple_reads r2 r1 (SeqAt.canLay_of_shaped se) (SeqAt.canLay_of_shaped sd) (room_in_shaped sd hu) ⟨.bl _, H, I, rfl, q⟩

/-! o.m(k = e): one argument by its name -/
def g2 {α : Type} : List α → List α → List α
  | [a], [b] => [a, b]
  | _, _ => []
theorem g2_rel : ∀ {vs : List V} {us : List Value} {zs : List V} {ws : List Value}, Vals vs us → Vals zs ws → Vals (g2 vs zs) (g2 us ws)
  | _, _, _, _, .nil, _ => .nil
  | _, _, _, _, .cons a (.cons b c), _ => .nil
  | _, _, _, _, .cons a .nil, .nil => .nil
  | _, _, _, _, .cons a .nil, .cons b .nil => .cons a (.cons b .nil)
  | _, _, _, _, .cons a .nil, .cons b (.cons c d) => .nil
def tMethK (C : Addr) (m : Str) (sp : Sp) (E : XK) (ta : TE) (tk : TA) : TE := fun σ H Q => ta σ H fun x H1 =>
  ∃ a dx fs, x = .ref a ∧ H1 a = some (.ins C dx fs) ∧ fs.lookup m = none ∧ tk σ H1 fun zs H2 => sp (g2 [.ref a] zs) H2 Q E
theorem pe_methK {X : Cx} {CX : CXT} {k : Nat} {f C : Addr} {fd : FuncData} {ps ks : List Str} {sp : Sp} {E : XK} {m : Str} {pos apos : Pos} {o : Expr} {kws : List Keyword} {ta : TE} {tk : TA} {pl : Sem Bool}
    (he : PE X o ta) (c : Cls X.K C) (hm : Meth X.K C m f) (F : FnOk X.prog X.w X.K X.mg X.base CX k f fd ps sp) (hr : Room k X.A) (hb : KBinds X.K fd ps ks g2 g2) (hx : Passes CX X E) (hkw : PK X kws tk)
    (hall : (backToKw pos (keywordEach kws X.env)).all (·.1.isSome) = true := by rfl) (hks : (backToKw pos (keywordEach kws X.env)).filterMap (·.1) = ks := by rfl)
    (hpl : ((backTo pos (starEach [] X.env)).any (·.1) || (backToKw pos (keywordEach kws X.env)).any (·.1.isNone)) = false := by rfl)
    (ht : eval (.Call (.Attribute o m apos) [] kws pos) X.env = (do
      let ov ← eval o X.env
      standAt apos.atName
      let (f, first) ← holding [ov] (getMethod ov m pl)
      callWith pos f first (backTo pos (starEach [] X.env)) (backToKw pos (keywordEach kws X.env))) := by rfl) :
    PE X (.Call (.Attribute o m apos) [] kws pos) (tMethK C m sp E ta tk) := by
  refine ⟨fun pins s σ H Q I h => ?_⟩
  refine PySem.W.methodCall_KW (pl := pl) (thn (he.run pins s σ H _ I h) fun u s1 ⟨x, H1, I1, rx, a, dx, fs, ex, ea, l, q⟩ => ?_) ht
  subst ex
  obtain rfl : u = Value.ref a := rx
  refine getmeth_ok I1 ea c hm l ?_
  refine PySem.W.callWith_KW0 (first := [.ref a]) (h₀ := X.base) I.ok.mod.kin hm.kp hall (thn (hkw.run pos pins s1 σ H1 _ I1 q) fun ws s2 ⟨zs, H2, I2, rz, q2⟩ => ⟨I2.kIn, ?_⟩) hpl
  rw [hks]
  exact run_fnk (us := [.ref a]) (vs := [.ref a]) F hr hb hx I2 (.cons rfl .nil) rz q2

/-! enumerate(a tuple) -/
open AutoSeq1 (wpAny_loadPart') in
theorem new_enumT (l : Addr) (items : Array Value) (n : Nat) (dct : Option Addr) (sl : Array (Option Value)) :
    Meets (Builtin.«enumerate.__new__» ⟨[.type "enumerate", .ref l], []⟩) (fun _ R s =>
      s.heap.get? l = some { cls := .type "tuple", dict := dct, data := .seq items n, slots := sl } ∧
      R (.ok (.ret (.ref (s.heap.push { cls := .type "tuple_iterator", data := .fields #[.ref l, .int 0 0] }).objs.size)))
        { s with heap := (s.heap.push { cls := .type "tuple_iterator", data := .fields #[.ref l, .int 0 0] }).push { cls := .type "enumerate", data := .fields #[.none, .bool false, .ref s.heap.objs.size, rawInt 0, .none, .none] } }) :=
  .of_wp fun prog w A R s h => by
    obtain ⟨hp, g, d, tk, os⟩ := s
    obtain ⟨hl, h⟩ := h
    have hsub := sub_enumerate
    have hT : Heap.IsTuple (Shared.heap ⟨hp, g, d, tk, os⟩) l items := ⟨_, hl, rfl, n, rfl⟩
    wp_walk using wpAny_loadPart' hl
    refine wpAny_stack_any fun st => wpAny_pure ?_
    split
    · rename_i c _ _ _ _ _
      cases (c == Value.type "enumerate") <;> (wp_walk using wpAny_loadPart' hl, wpAny_pyIter_tuple hT; exact ⟨_, rfl, h⟩)
    · (wp_walk using wpAny_loadPart' hl, wpAny_pyIter_tuple hT); exact ⟨_, rfl, h⟩
section
variable {prog : Program} {w : World} {A : Around} {E : Value → Shared → Prop} {s : Shared}
theorem make_enumT {l : Addr} {items : Array Value} {Q : Value → Shared → Prop} (hL : s.heap.IsTuple l items)
    (h : ∀ h', IsEnum h' (s.heap.objs.size + 1) s.heap.objs.size 0 .none → h'.IsTupleIter s.heap.objs.size l 0 →
      (∀ b o, s.heap.get? b = some o → h'.get? b = some o) → Q (.ref (s.heap.objs.size + 1)) { s with heap := h' }) :
    wpAny (model prog w) A (call (.type "enumerate") [.ref l]) Q E s := by
  obtain ⟨⟨c, dct, dt, sl⟩, hl, hc, n, hd⟩ := hL
  obtain rfl : c = .type "tuple" := hc
  obtain rfl : dt = .seq items n := hd
  refine callType_new F.called_enumerate (by decide) (F.typeCall_enumerate_1 _) (F.newCall_enumerate_1 _) (fun obj => F.args_object_init_2 obj _) F.entry_enumerate_new (new_enumT l items n dct sl) ⟨hl, ?_⟩
  have hz : (s.heap.push { cls := .type "tuple_iterator", data := .fields #[.ref l, .int 0 0] }).objs.size = s.heap.objs.size + 1 := Heap.size_push ..
  rw [hz]
  have he : IsEnum ((s.heap.push { cls := .type "tuple_iterator", data := .fields #[.ref l, .int 0 0] }).push { cls := .type "enumerate", data := .fields #[.none, .bool false, .ref s.heap.objs.size, rawInt 0, .none, .none] })
      (s.heap.objs.size + 1) s.heap.objs.size 0 .none := hz ▸ Heap.get?_push_size (s.heap.push { cls := .type "tuple_iterator", data := .fields #[.ref l, .int 0 0] }) rfl
  exact ⟨⟨_, he, rfl⟩, h _ he ⟨_, Heap.get?_push_of_some _ (Heap.get?_push_size _ rfl), rfl, rfl⟩ fun b o x => Heap.get?_push_of_some _ (Heap.get?_push_of_some _ x)⟩
end
def IteT (K : PySem.W.Frag) (a : Addr) : It where
  go := fun i H => ∃ (xs : List V) (x : V), SqT K H a xs ∧ xs[i]? = some x
  yld := fun i H v H' => ∃ T x, v = .ref T ∧ H T = none ∧ H' = upd H T (.tup [.int (i : Nat), x]) ∧ ∀ xs, SqT K H a xs → xs[i]? = some x
  stop := fun i H => ∃ xs : List V, SqT K H a xs ∧ xs.length ≤ i
theorem apart_of {h : Heap} {a b : Addr} {o u : Obj} (ha : h.get? a = some o) (hb : h.get? b = some u) (hc : o.cls ≠ u.cls) : a ≠ b := fun e => by
  subst e
  rw [ha] at hb
  exact hc (congrArg Obj.cls (Option.some.inj hb))
theorem turn_enumT {P : Program} {w : World} {K : PySem.W.Frag} {elts : List Expr} {kk : Nat} {tpos : Pos} (a e it : Addr) :
    Turn P w K (.Tuple elts kk tpos) (IteT K a) [e, it] e (fun i h => (∃ old, IsEnum h e it ((i : Nat) : Int) old) ∧ h.IsTupleIter it a i ∧ e ≠ it) where
  mem := by simp
  obj := fun i h st b hb => by
    obtain ⟨⟨old, he⟩, ⟨o, ho, hc, hd⟩, _⟩ := st
    rcases (show b = e ∨ b = it by simpa using hb) with z | z
    · subst z; exact ⟨_, he, fun v q => nomatch q⟩
    · subst z; exact ⟨o, ho, fun v q => by rw [hd] at q; cases q⟩
  keep := fun i h h' st k => let ⟨⟨old, he⟩, hi, hne⟩ := st; ⟨⟨old, k e (by simp) _ he⟩, hi.at fun o q => k it (by simp) o q, hne⟩
  item := by
    intro X hP hw hK hc i pins s σ H E I hf st hg
    subst hP hw hK
    obtain ⟨⟨old, he⟩, hit, hne⟩ := st
    obtain ⟨xs, x, hq, hx⟩ := hg
    obtain ⟨its, rv, p, hz⟩ := I.tuple hq
    obtain ⟨u, hu, ru⟩ := rv.get hx
    have hT : s.heap.IsTuple a its.toArray := p
    obtain ⟨oi, hoi, hci, _⟩ := id hit
    obtain ⟨oa, hoa, hca, _⟩ := id hT
    have hel : e < s.heap.objs.size := Heap.lt_size he
    have hil : it < s.heap.objs.size := Heap.lt_size hoi
    have nai : a ≠ it := apart_of hoa hoi (by rw [hca, hci]; decide)
    have nea : e ≠ a := apart_of he hoa (by rw [hca]; show Value.type "enumerate" ≠ Value.type "tuple"; decide)
    have hi : i < its.toArray.size := by
      have := (List.getElem?_eq_some_iff.mp hu).1
      simpa using this
    refine wpAny_pyNext_enum_itemD (Draws.tuple (prog := X.prog) (w := X.w) (A := X.A.in1) (I.ok.hd hc) it a nai its.toArray) he ⟨hit, hT⟩ hi hne (by simp [hne, nea]) fun y h' tk hy ho hst hTp hsz hk => ?_
    obtain rfl : u = y := by
      have q : its.toArray[i]? = some u := by simpa using hu
      exact Option.some.inj (q.symm.trans hy)
    refine ⟨_, rfl, wpAny_letOwnedTupleGo_enum (s := { s with heap := h', toks := tk + 1 }) ho fun h'' he' sb => ?_⟩
    have hT2 : h''.get? s.heap.objs.size = some { cls := .type "tuple", data := .seq #[.int i tk, u] } := (sb.2 _ (Nat.ne_of_gt hel)).trans hTp
    have new : ObjOk X.prog X.w (upd H s.heap.objs.size (.tup [.int (i : Nat), x])) h'' s.heap.objs.size (.tup [.int (i : Nat), x]) :=
      ⟨by show 2 ≤ sizeLine; decide, [.int i tk, u], .cons ⟨_, rfl⟩ (.cons ru .nil), ⟨_, hT2, rfl, _, rfl⟩⟩
    have I1 : L2.Inv X pins σ (upd H s.heap.objs.size (.tup [.int (i : Nat), x])) { s with heap := h'', toks := tk + 1 } :=
      I.turnedNew (ch := [e, it]) (fun b ob hb q => by
        simp only [List.mem_cons, List.not_mem_nil, or_false, not_or] at hb
        exact (sb.2 b hb.1).trans (hk b ob hb.1 hb.2 q)) hf (Nat.le_refl _) new
    have e1 : ((i + 1 : Nat) : Int) = (i : Int) + 1 := by omega
    refine ⟨.ref s.heap.objs.size, _, I1, rfl, ⟨_, x, rfl, I.hok.fresh (Nat.le_refl _), rfl, fun ys hy => by rw [I.tuple_inj hy hq]; exact hx⟩,
      ⟨⟨u, by rw [e1]; exact he'⟩, hst.1.at fun o q => (sb.2 it (Ne.symm hne)).trans q, hne⟩, fun b hb => ?_⟩
    have hb' : b < s.heap.objs.size := by
      rcases (show b = e ∨ b = it by simpa using hb) with z | z <;> subst z <;> assumption
    rw [upd_ne (Nat.ne_of_lt hb')]
    exact (hf b hb).1
  done := by
    intro X hP hw hK hc i pins s σ H E I hf st hg
    subst hP hw hK
    obtain ⟨⟨old, he⟩, hit, hne⟩ := st
    obtain ⟨xs, hq, hx⟩ := hg
    obtain ⟨its, rv, p, hz⟩ := I.tuple hq
    obtain ⟨f0, f1, f2, f3, f4, f5⟩ := hf it (by simp)
    have hT : s.heap.IsTuple a its.toArray := p
    have hl : xs.length = its.length := rv.length
    have hT2 : ¬ (i < its.toArray.size) := by simp; omega
    show wpAny _ _ (pyNext (.ref e)) _ _ s
    have hTy : s.TypeIs (.ref e) "enumerate" := ⟨_, he, rfl⟩
    unfold pyNext
    refine wpAny_bind (wpAny_attempt (wpAny_callSpecial?_slot (name := Str.ofString "__next__") hTy F.slot_enumerate_next (wpAny_call_entry F.slot_enumerate_next hTy F.entry_enumerate_next ?_ (F.args_enumerate_next_1 _))))
    show wpAny _ _ (field (.ref e) 2 >>= _) _ _ _
    refine wpAny_bind (wpAny_field he rfl (x := .ref it) rfl (wpAny_bind (wpAny_nextOf_tuple_end (I.ok.hd hc) hit hT (Array.getElem?_eq_none (by omega)) fun h' x he' hx' => ?_)))
    obtain ⟨o, ho, hcc⟩ := hx'
    exact wpAny_bind (wpAny_isInstance (T := "StopIteration") (b := true) ⟨o, ho, hcc⟩ isSubtype_stop (wpAny_pure ⟨rfl, I.turned (t' := s.toks) (fun b o hb q => he' b o hb q) f0 f1 f3 f4 f5⟩))
  self := fun A i s Q E st h => let ⟨⟨_, he⟩, _⟩ := st; wpAny_pyIter_enum he h
def iEnumT (K : PySem.W.Frag) (ta : TA) : TI := fun σ H R => ta σ H fun vs H1 => ∃ a xs, vs = [.ref a] ∧ SqT K H1 a xs ∧ R (IteT K a) H1
theorem pi_enumT {X : Cx} {e : Expr} {ta : TA} {p pos tpos : Pos} {elts : List Expr} {kk : Nat} (hg : Gl X "enumerate") (hm : X.mg "enumerate" = none) (ha : PA X [e] ta) (hs : starEach [e] X.env = [(false, eval e X.env)] := by rfl) :
    PI X (.Tuple elts kk tpos) (.Call (.Name "enumerate" p) [e] [] pos) (iEnumT X.K ta) := by
  refine ⟨fun pins s σ H R I h => ?_⟩
  refine Call_ (ld_blt I hg hm boot_enumerate (PyProof.Rows.callWith_type1 (thn (ha.run pos pins s σ H _ I h) fun us s1 ⟨vs, H1, I1, r1, q1⟩ => ?_) hs rfl))
  obtain ⟨a, xs, rfl, hq, q⟩ := q1
  obtain ⟨u, rfl, ru⟩ := vals1 r1
  obtain rfl : u = Value.ref a := ru
  obtain ⟨its, rv, p', hz⟩ := I1.tuple hq
  refine make_enumT (show s1.heap.IsTuple a its.toArray from p') fun h' he hit hk => wpAny_pyIter_enum he ?_
  refine ⟨s1.heap.objs.size + 1, [s1.heap.objs.size + 1, s1.heap.objs.size], _, _, H1, rfl, I1.kept (t' := s1.toks) hk, turn_enumT a (s1.heap.objs.size + 1) s1.heap.objs.size, ⟨⟨.none, he⟩, hit, Nat.succ_ne_self _⟩, fun b hb => ?_, q⟩
  have hle : s1.heap.objs.size ≤ b := by
    rcases (show b = s1.heap.objs.size + 1 ∨ b = s1.heap.objs.size by simpa using hb) with z | z <;> rw [z]
    · exact Nat.le_add_right _ _
    · exact Nat.le_refl _
  exact I1.fpOk hle (I1.hok.fresh hle)
theorem walk_enumT {K : PySem.W.Frag} {a : Addr} {xs : List V} : Walk (IteT K a) xs.length (fun H => SqT K H a xs) (YPair (fun i => some (.int (i : Nat))) (fun i => xs[i]?)) := by
  refine ⟨fun i _ hi q => ⟨xs, xs[i], q, by simp [hi]⟩, fun _ q => ⟨xs, q, Nat.le_refl _⟩, ?_⟩
  rintro i H v H' _ q ⟨T, x, h1, h2, h3, h4⟩
  exact ⟨T, .int (i : Nat), x, h1, h2, h3, rfl, h4 xs q⟩
end Wl

namespace Wl
open PySem

/-! ### strictly rising lists -/
theorem rising_ext {α : Type} {lt : α → α → Prop} (ir : ∀ a, ¬ lt a a) (tr : ∀ a b c, lt a b → lt b c → lt a c) :
    ∀ {l m : List α}, l.Pairwise lt → m.Pairwise lt → (∀ x, x ∈ l ↔ x ∈ m) → l = m
  | [], [], _, _, _ => rfl
  | [], y :: m, _, _, h => absurd ((h y).mpr List.mem_cons_self) (by simp)
  | x :: l, [], _, _, h => absurd ((h x).mp List.mem_cons_self) (by simp)
  | x :: l, y :: m, hl, hm, h => by
    obtain ⟨hx, hl'⟩ := List.pairwise_cons.mp hl
    obtain ⟨hy, hm'⟩ := List.pairwise_cons.mp hm
    have e : x = y := by
      rcases List.mem_cons.mp ((h x).mp List.mem_cons_self) with e | h1
      · exact e
      · rcases List.mem_cons.mp ((h y).mpr List.mem_cons_self) with e | h2
        · exact e.symm
        · exact absurd (tr _ _ _ (hx y h2) (hy x h1)) (ir x)
    subst e
    have : l = m := rising_ext ir tr hl' hm' fun z => by
      constructor
      · intro hz
        rcases List.mem_cons.mp ((h z).mp (List.mem_cons_of_mem _ hz)) with e | q
        · exact absurd (hx z hz) (by rw [e]; exact ir x)
        · exact q
      · intro hz
        rcases List.mem_cons.mp ((h z).mpr (List.mem_cons_of_mem _ hz)) with e | q
        · exact absurd (hy z hz) (by rw [e]; exact ir x)
        · exact q
    rw [this]

/-! ### texts by their codes -/
theorem str_ext {a b : Str} (h : a.cps.toList = b.cps.toList) : a = b := by
  cases a; cases b
  exact congrArg Str.mk (Array.ext' h)
abbrev ltS (a b : Str) : Prop := a.cps.toList < b.cps.toList
theorem ltS_irr (a : Str) : ¬ ltS a a := List.lt_irrefl _
theorem ltS_tr (a b c : Str) (h : ltS a b) (k : ltS b c) : ltS a c := List.lt_trans h k
theorem ltS_tot {a b : Str} (h : ¬ ltS a b) (k : ¬ ltS b a) : a = b :=
  str_ext (List.le_antisymm (List.not_lt.mp k) (List.not_lt.mp h))
def leB (a b : Str) : Bool := !decide (ltS b a)
theorem leB_trans (a b c : Str) (h : leB a b = true) (k : leB b c = true) : leB a c = true := by
  simp only [leB, Bool.not_eq_true', decide_eq_false_iff_not] at h k ⊢
  exact fun q => by
    by_cases e : ltS a b
    · exact k (ltS_tr _ _ _ q e)
    · have := ltS_tot e h
      subst this
      exact k q
theorem leB_total (a b : Str) : (leB a b || leB b a) = true := by
  simp only [leB, Bool.or_eq_true, Bool.not_eq_true', decide_eq_false_iff_not]
  by_cases h : ltS b a
  · exact .inr fun q => ltS_irr _ (ltS_tr _ _ _ h q)
  · exact .inl h
def sortS (xs : List Str) : List Str := xs.mergeSort leB
theorem mem_sortS {xs : List Str} {z : Str} : z ∈ sortS xs ↔ z ∈ xs := List.mem_mergeSort
theorem sortS_len (xs : List Str) : (sortS xs).length = xs.length := List.length_mergeSort _
theorem sortS_rising {xs : List Str} (h : xs.Nodup) : (sortS xs).Pairwise ltS := by
  have h1 : (sortS xs).Pairwise (fun a b => leB a b = true) := List.pairwise_mergeSort leB_trans leB_total xs
  have h2 : (sortS xs).Pairwise (· ≠ ·) := (List.mergeSort_perm xs leB).nodup_iff.mpr h
  refine List.Pairwise.imp₂ ?_ h1 h2
  intro a b q n
  simp only [leB, Bool.not_eq_true', decide_eq_false_iff_not] at q
  exact Classical.byContradiction fun c => n (ltS_tot c q)
/-- what is strictly rising with the same members is the sorted list -/
theorem sortS_eq {xs l : List Str} (h : xs.Nodup) (hl : l.Pairwise ltS) (hm : ∀ z, z ∈ l ↔ z ∈ xs) : l = sortS xs :=
  rising_ext ltS_irr ltS_tr hl (sortS_rising h) fun z => (hm z).trans mem_sortS.symm

/-! ### pairs of texts -/
abbrev Two := Str × Str
def ltP (p q : Two) : Prop := ltS p.1 q.1 ∨ (p.1 = q.1 ∧ ltS p.2 q.2)
instance (p q : Two) : Decidable (ltP p q) := by unfold ltP; infer_instance
theorem ltP_irr (p : Two) : ¬ ltP p p := by
  rintro (h | ⟨_, h⟩) <;> exact ltS_irr _ h
theorem ltP_tr (p q r : Two) (h : ltP p q) (k : ltP q r) : ltP p r := by
  obtain ⟨p1, p2⟩ := p
  obtain ⟨q1, q2⟩ := q
  obtain ⟨r1, r2⟩ := r
  rcases h with h | ⟨e, h⟩ <;> rcases k with k | ⟨f, k⟩
  · exact .inl (ltS_tr _ _ _ h k)
  · simp only at f; subst f; exact .inl h
  · simp only at e; subst e; exact .inl k
  · simp only at e f; subst e f; exact .inr ⟨rfl, ltS_tr _ _ _ h k⟩
theorem ltP_tot {p q : Two} (h : ¬ ltP p q) (k : ¬ ltP q p) : p = q := by
  obtain ⟨p1, p2⟩ := p
  obtain ⟨q1, q2⟩ := q
  simp only [ltP, not_or, not_and] at h k
  have e : p1 = q1 := ltS_tot h.1 k.1
  subst e
  rw [ltS_tot (h.2 rfl) (k.2 rfl)]
def lePB (a b : Two) : Bool := !decide (ltP b a)
theorem lePB_trans (a b c : Two) (h : lePB a b = true) (k : lePB b c = true) : lePB a c = true := by
  simp only [lePB, Bool.not_eq_true', decide_eq_false_iff_not] at h k ⊢
  exact fun q => by
    by_cases e : ltP a b
    · exact k (ltP_tr _ _ _ q e)
    · have := ltP_tot e h
      subst this
      exact k q
theorem lePB_total (a b : Two) : (lePB a b || lePB b a) = true := by
  simp only [lePB, Bool.or_eq_true, Bool.not_eq_true', decide_eq_false_iff_not]
  by_cases h : ltP b a
  · exact .inr fun q => ltP_irr _ (ltP_tr _ _ _ h q)
  · exact .inl h
def sortP (xs : List Two) : List Two := xs.mergeSort lePB
theorem mem_sortP {xs : List Two} {z : Two} : z ∈ sortP xs ↔ z ∈ xs := List.mem_mergeSort
theorem sortP_len (xs : List Two) : (sortP xs).length = xs.length := List.length_mergeSort _
theorem sortP_rising {xs : List Two} (h : xs.Nodup) : (sortP xs).Pairwise ltP := by
  have h1 : (sortP xs).Pairwise (fun a b => lePB a b = true) := List.pairwise_mergeSort lePB_trans lePB_total xs
  have h2 : (sortP xs).Pairwise (· ≠ ·) := (List.mergeSort_perm xs lePB).nodup_iff.mpr h
  refine List.Pairwise.imp₂ ?_ h1 h2
  intro a b q n
  simp only [lePB, Bool.not_eq_true', decide_eq_false_iff_not] at q
  exact Classical.byContradiction fun c => n (ltP_tot c q)
theorem sortP_eq {xs l : List Two} (h : xs.Nodup) (hl : l.Pairwise ltP) (hm : ∀ z, z ∈ l ↔ z ∈ xs) : l = sortP xs :=
  rising_ext ltP_irr ltP_tr hl (sortP_rising h) fun z => (hm z).trans mem_sortP.symm

/-! ### the machine's order is ours -/
theorem le_data_str (a b : Str) : (!PySem.W.dataLt (.str b) (.str a)) = leB a b := by
  rw [PySem.W.dataLt_str]
  rfl
theorem le_data_two (a b : Two) : (!PySem.W.dataLt (.tuple [.str b.1, .str b.2]) (.tuple [.str a.1, .str a.2])) = lePB a b := by
  rw [PySem.W.dataLt_pair rfl rfl, PySem.W.dataLt_str, PySem.W.dataLt_str]
  unfold lePB
  congr 1
  have q : ∀ x y : Str, (PyData.eqv (.str x) (.str y) = true) = (x = y) := fun x y => by simp [PyData.eqv]
  simp only [q]
  by_cases h : b.1 = a.1
  · by_cases k : b.2 = a.2
    · have e : b = a := Prod.ext h k
      subst e
      simp [ltP_irr]
    · simp only [h, k, if_true, if_false, ltP]
      by_cases z : ltS b.2 a.2
      · simp [z]
      · simp [z, ltS_irr]
  · simp only [h, if_false, ltP]
    by_cases z : ltS b.1 a.1 <;> simp [z, h]
end Wl

namespace Wl
open PySem PySem.Spec PyProof.Rows L2

/-! ### defs that keep promises, by name -/
def Has (P : Program) (w : World) (K : PySem.W.Frag) (mg : Str → Option Value) (base : Heap) (x : Str) (k : Nat) (ps : List Str) (sp : Sp) : Prop :=
  ∃ f fd, FnOk P w K mg base CX0 k f fd ps sp ∧ mg x = some (.ref f) ∧ PySem.W.keepIn K (.ref f) = true ∧ Binds K fd ps []
def HasM (P : Program) (w : World) (K : PySem.W.Frag) (mg : Str → Option Value) (base : Heap) (C : Addr) (m : Str) (k : Nat) (ps : List Str) (sp : Sp) : Prop :=
  ∃ f fd, FnOk P w K mg base CX0 k f fd ps sp ∧ Meth K C m f ∧ Binds K fd ps []
section
variable {X : Cx} {k j : Nat} {C : Addr} {ps ks : List Str} {sp : Sp} {x m : Str} {p pos apos : Pos} {e o : Expr} {es : List Expr} {kws : List Keyword} {ta : TE} {t tk : TA}
theorem pe_h (h : Has X.prog X.w X.K X.mg X.base x k ps sp) (hr : Room j X.A) (ha : PA X (e :: es) t) (hkj : k ≤ j := by decide) (hg : Gl X x := by rfl) (hdb : (x == ("__debug__" : Str)) = false := by decide)
    (he : starEach (e :: es) X.env = (false, eval e X.env) :: starEach es X.env := by rfl) (hpl : (backTo pos (starEach es X.env)).any (·.1) = false := by rfl) :
    PE X (.Call (.Name x p) (e :: es) [] pos) (tCall sp [] E0 t) := by
  obtain ⟨f, fd, F, g, kp, b⟩ := h
  exact pe_call F (hr.mono hkj) hg g kp b .nil pass0 ha hdb he hpl
theorem pe_h0 (h : Has X.prog X.w X.K X.mg X.base x k ps sp) (hr : Room j X.A) (hkj : k ≤ j := by decide) (hg : Gl X x := by rfl) (hdb : (x == ("__debug__" : Str)) = false := by decide) :
    PE X (.Call (.Name x p) [] [] pos) (tCall sp [] E0 tNil) := by
  obtain ⟨f, fd, F, g, kp, b⟩ := h
  exact pe_call0 F (hr.mono hkj) hg g kp b .nil pass0 hdb
theorem pe_hm {pl : Sem Bool} (h : HasM X.prog X.w X.K X.mg X.base C m k ps sp) (c : Cls X.K C) (hr : Room j X.A) (ho : PE X o ta) (ha : PA X (e :: es) t) (hkj : k ≤ j := by decide)
    (hst : starEach (e :: es) X.env = (false, eval e X.env) :: starEach es X.env := by rfl) (hpl : (backTo pos (starEach es X.env)).any (·.1) = false := by rfl)
    (ht : eval (.Call (.Attribute o m apos) (e :: es) [] pos) X.env = (do
      let ov ← eval o X.env
      standAt apos.atName
      let (f, first) ← holding [ov] (getMethod ov m pl)
      callWith pos f first (backTo pos (starEach (e :: es) X.env)) (backToKw pos (keywordEach [] X.env))) := by rfl) :
    PE X (.Call (.Attribute o m apos) (e :: es) [] pos) (tMeth C m sp [] E0 ta t) := by
  obtain ⟨f, fd, F, g, b⟩ := h
  exact pe_meth ho c g F (hr.mono hkj) b .nil pass0 ha hst hpl ht
theorem pe_hm0 {pl : Sem Bool} (h : HasM X.prog X.w X.K X.mg X.base C m k ps sp) (c : Cls X.K C) (hr : Room j X.A) (ho : PE X o ta) (hkj : k ≤ j := by decide)
    (ht : eval (.Call (.Attribute o m apos) [] [] pos) X.env = (do
      let ov ← eval o X.env
      standAt apos.atName
      let (f, first) ← holding [ov] (getMethod ov m pl)
      callWith pos f first (backTo pos (starEach [] X.env)) (backToKw pos (keywordEach [] X.env))) := by rfl) :
    PE X (.Call (.Attribute o m apos) [] [] pos) (tMeth C m sp [] E0 ta tNil) := by
  obtain ⟨f, fd, F, g, b⟩ := h
  exact pe_meth0 ho c g F (hr.mono hkj) b .nil pass0 ht
end

/-! ### heaps -/
theorem same_new {H : Hp} {p : Addr} {o : HO} (h : H p = none) : Same H (upd H p o) := fun b x e => by
  rw [upd_ne (ne_of_none e h)]
  exact e
theorem same_mut {H H' : Hp} {p : Addr} {o : HO} (s : Same H H') (h : H p = none) : Same H (upd H' p o) := fun b x e => by
  rw [upd_ne (ne_of_none e h)]
  exact s b x e
theorem tup_same {K : PySem.W.Frag} {H H' : Hp} {a : Addr} {xs : List V} (e : Same H H') (h : SqT K H a xs) : SqT K H' a xs := by
  rcases h with (h | ⟨o, h⟩) | h
  · exact .inl (.inl (e _ _ h))
  · exact .inl (.inr ⟨o, e _ _ h⟩)
  · exact .inr h
/-- all but what stands at a is as it was -/
def SameX (a : Addr) (H H' : Hp) : Prop := ∀ b o, b ≠ a → H b = some o → H' b = some o
theorem SameX.refl (a : Addr) (H : Hp) : SameX a H H := fun _ _ _ h => h
theorem SameX.trans {a : Addr} {H H1 H2 : Hp} (s : SameX a H H1) (t : SameX a H1 H2) : SameX a H H2 := fun b o n h => t b o n (s b o n h)
theorem sx {a : Addr} {H H' : Hp} (s : Same H H') : SameX a H H' := fun b o _ h => s b o h
theorem sameX_upd {a : Addr} {H : Hp} {o : HO} : SameX a H (upd H a o) := fun b u n h => by rw [upd_ne n]; exact h
/-- an object that H does not know may change -/
theorem sameX_mut {a : Addr} {H H' : Hp} {p : Addr} {o : HO} (s : SameX a H H') (h : H p = none) : SameX a H (upd H' p o) := fun b u n e => by
  rw [upd_ne (ne_of_none e h)]
  exact s b u n e
theorem SameX.free {a l : Addr} {H H' : Hp} (e : SameX a H H') (n : l ≠ a) (h : H' l = none) : H l = none := by
  cases q : H l with
  | none => rfl
  | some o =>
    rw [e l o n q] at h
    cases h
theorem SameX.tup {K : PySem.W.Frag} {a p : Addr} {H H' : Hp} {xs ys : List V} (e : SameX a H H') (ha : H a = some (.lst ys)) (h : SqT K H p xs) : SqT K H' p xs := by
  rcases h with (h | ⟨o, h⟩) | h
  · exact .inl (.inl (e _ _ (ne_of h ha (by intro z; cases z)) h))
  · exact .inl (.inr ⟨o, e _ _ (ne_of h ha (by intro z; cases z)) h⟩)
  · exact .inr h

/-! ### tests whose answer is known -/
theorem ite_b {b : Bool} {A B : Prop} (h1 : b = true → A) (h2 : b = false → B) : if b = true then A else B := by
  cases b with
  | true => exact iteT (h1 rfl)
  | false => exact iteF (h2 rfl)
theorem not_b {b : Bool} {A B : Prop} (h1 : b = false → A) (h2 : b = true → B) : if (!b) = true then A else B := by
  cases b with
  | true => exact iteF (h2 rfl)
  | false => exact iteT (h1 rfl)

theorem yes_it {σ : L2.St} {H : Hp} {A B : Hp → Prop} (h : A H) : tYes σ H (fun b H' => if b = true then A H' else B H') := by
  show if true = true then A H else B H
  rw [if_pos rfl]
  exact h
theorem lz {n : Nat} (h : Nat.ble n 1000 = true := by rfl) : n ≤ sizeLine := Nat.le_trans (Nat.le_of_ble_eq_true h) (by decide)
theorem lzl {n : Nat} (h : n ≤ 1000) : n ≤ sizeLine := Nat.le_trans h (by decide)

/-! ### words -/
def wdB (z : Str) : Bool := decide (1 ≤ z.length) && decide (z.length ≤ 8) && z.cps.toList.all fun c => decide (97 ≤ c) && decide (c ≤ 122)
def IsWd (z : Str) : Prop := wdB z = true
instance (z : Str) : Decidable (IsWd z) := inferInstanceAs (Decidable (wdB z = true))
def oV : Option Str → V
  | none => .non
  | some z => .str z

/-! ### the built-ins that the text leaves as they are -/
structure Bi (mg : Str → Option Value) : Prop where
  len : mg "len" = none
  range : mg "range" = none
  isi : mg "isinstance" = none
  tuple : mg "tuple" = none
  list : mg "list" = none
  sorted : mg "sorted" = none
  all : mg "all" = none
  int : mg "int" = none
  max : mg "max" = none
  min : mg "min" = none
  enum : mg "enumerate" = none
  str : mg "str" = none
end Wl
namespace Wl
open PySem PySem.Spec PyProof.Rows L2
theorem atI_tab {ns : List Int} {r : Int} (h0 : 0 ≤ r) (h : r < ns.length) : ∃ n ∈ ns, atI (ns.map V.int) r = some (.int n) := by
  have hr : r.toNat < ns.length := by omega
  refine ⟨ns[r.toNat], List.getElem_mem hr, at_of (j := r.toNat) (by omega) ?_⟩
  rw [List.getElem?_map, List.getElem?_eq_getElem hr]
  rfl
theorem atI_strs {zs : List Str} {r : Int} (h0 : 0 ≤ r) (h : r < zs.length) : ∃ z ∈ zs, atI (zs.map V.str) r = some (.str z) := by
  have hr : r.toNat < zs.length := by omega
  refine ⟨zs[r.toNat], List.getElem_mem hr, at_of (j := r.toNat) (by omega) ?_⟩
  rw [List.getElem?_map, List.getElem?_eq_getElem hr]
  rfl
theorem letters_eq : ("abcdefghijklmnopqrstuvwxyz" : Str).cps.toList = List.range' 97 26 := by decide +kernel
theorem letter_at {r : Int} (h0 : 0 ≤ r) (h : r < 26) : atI ("abcdefghijklmnopqrstuvwxyz" : Str).cps.toList r = some (97 + r.toNat) := by
  rw [letters_eq]
  refine at_of' (j := r.toNat) (by omega) ?_
  rw [List.getElem?_range' (by omega)]
  congr 1
  omega
where
  at_of' {xs : List Nat} {z : Int} {j : Nat} {v : Nat} (e : z = (j : Int)) (h : xs[j]? = some v) : atI xs z = some v := by
    rw [e]
    exact atI_nat h
def sign (c : Nat) : Str := ⟨#[c]⟩
theorem joinL_flat : ∀ ps : List (List Nat), TL.joinL [] ps = ps.flatten
  | [] => rfl
  | [p] => by simp [TL.joinL]
  | p :: q :: r => by
    show p ++ ([] ++ TL.joinL [] (q :: r)) = _
    rw [joinL_flat (q :: r)]
    simp
theorem join_codes (ys : List Str) : (Txt.join ("" : Str) ys).cps.toList = (ys.map fun y => y.cps.toList).flatten := by
  have h := TL.tl_join ("" : Str) ys
  rw [show TL.tl ("" : Str) = [] by decide +kernel, joinL_flat] at h
  rw [TL.join_eq]
  exact h
theorem join_signs (cs : List Nat) : (Txt.join ("" : Str) (cs.map sign)).cps.toList = cs := by
  rw [join_codes, List.map_map]
  induction cs with
  | nil => rfl
  | cons c r ih => exact congrArg (c :: ·) ih
theorem isWd_of {z : Str} (h1 : 1 ≤ z.cps.toList.length) (h8 : z.cps.toList.length ≤ 8) (hc : ∀ c ∈ z.cps.toList, 97 ≤ c ∧ c ≤ 122) : IsWd z := by
  unfold IsWd wdB Str.length
  rw [Array.length_toList] at h1 h8
  simp only [Bool.and_eq_true, decide_eq_true_eq, List.all_eq_true]
  exact ⟨⟨h1, h8⟩, hc⟩
theorem IsWd.len {z : Str} (h : IsWd z) : 1 ≤ z.length ∧ z.length ≤ 8 := by
  unfold IsWd wdB at h
  simp only [Bool.and_eq_true, decide_eq_true_eq] at h
  exact h.1
end Wl

namespace Wl
open PySem PySem.Spec PyProof.Rows L2
def topS (i : Nat) : Stmt := PySem.Challenge.pw_wordlines_k14_gatherings_as_texts.main.body.getD i (.Pass ⟨0, 0, 0, 0⟩)
end Wl
namespace Wl
open PySem PySem.Spec PyProof.Rows L2
end Wl
namespace Wl
open PySem PySem.Spec PyProof.Rows L2
end Wl
namespace Wl
open PySem PySem.Spec PyProof.Rows L2
end Wl
namespace Wl
open PySem PySem.Spec PyProof.Rows L2

/-! ### the text by places -/
abbrev sCell : Stmt := topS 56
abbrev sPurse : Stmt := topS 57
abbrev sPick : Stmt := topS 58
abbrev sMenu : Stmt := topS 59
abbrev sWord : Stmt := topS 60

section
variable {P : Program} {w : World} {K : PySem.W.Frag} {mg : Str → Option Value} {base : Heap} {f : Addr} {fd : FuncData}

/-! ### a cell of the script: some int -/
def spCell (K : PySem.W.Frag) : Sp := fun vs H Q _ => ∃ (a : Addr) (ns : List Int) (k : Int), vs = [.ref a, .int k] ∧ SqL K H a (ns.map V.int) ∧ 0 ≤ k ∧ k ≤ 63 ∧
  ∀ (v : Int) (H' : Hp), Same H H' → Q (.int v) H'
theorem scCell : FnScope ["_law_script", "_law_k", "_law_state", "_law_cell_here"] ["_law_script", "_law_k"] (defScope sCell) :=
  ⟨rfl, rfl, rfl, by decide +kernel, rfl, by decide +kernel, by decide +kernel⟩
theorem mem_cut {xs : List V} {lo hi : Option Int} {v : V} (h : v ∈ cutV xs lo hi) : v ∈ xs := List.mem_of_mem_drop (List.mem_of_mem_take h)
theorem ok_cell (F : Fun K "_law_cell" "_law_cell" sCell f fd) (B : Bi mg) : FnOk P w K mg base CX0 1 f fd ["_law_script", "_law_k"] (spCell K) := by
  refine F.ok scCell (fun vs H Q E h => ?_) (fun cdv A outer s H vs Q E hr h => ?_)
  · obtain ⟨a, ns, k, rfl, _⟩ := h
    rfl
  · obtain ⟨a, ns, k, rfl, hS, k0, k1, q⟩ := h
    refine ⟨_, pss_cons (ps_if (pt_cmpR op_lt (pv 1) (pe_callB call_len_seq (by rfl) B.len PySem.boot_len (pa_cons (pv 0) pa_nil)) (nomark _)) (pss_one (ps_ret (pe_ix ix_list (pv 0) (pv 1) (fun _ _ => rfl)))) pss_nil)
      (pss_cons (ps_set (i := 2) scCell.nd rfl (.inl rfl) (pe_op op_mod (pe_op op_mul pe_int (pe_op op_add (pe_op op_add (pe_op op_mul (pv 1) (pv 1)) (pe_op op_mul pe_int (pv 1))) pe_int)) pe_int))
      (pss_cons (ps_for PassesOwn.never rfl (pi_list (pe_slice sl_list (pv 0) po_none (po_some pe_int))) (pg_name (i := 3) scCell.nd rfl (.inl rfl))
        (pss_one (ps_set (i := 2) scCell.nd rfl (.inl rfl) (pe_op op_mod (pe_op op_add (pe_op op_mul (pv 2) pe_int) (pv 3)) pe_int))))
      (pss_one (ps_ret (pv 2))))), ?_⟩
    refine ⟨_, rfl, .ref a, rfl, a, _, rfl, .inl hS, _, _, rfl, rfl, _, rfl, ite_b (fun e => ?_) (fun e => ?_)⟩
    · have hk : k < ((ns.map V.int).length : Int) := of_decide_eq_true e
      rw [List.length_map] at hk
      have hk2 : k.toNat < ns.length := by omega
      refine ⟨_, rfl, _, rfl, a, _, k, .int ns[k.toNat], rfl, rfl, hS, at_of (j := k.toNat) (by omega) ?_, q _ H (Same.refl H)⟩
      rw [List.getElem?_map, List.getElem?_eq_getElem hk2]
      rfl
    · refine ⟨_, rfl, _, rfl, k, k, rfl, rfl, .inl ⟨by omega, by omega⟩, _, rfl, 5, k, rfl, rfl, .inl ⟨by decide, by decide⟩, _, _, rfl, rfl, _, _, rfl, rfl, _, _, rfl, rfl, .inl ⟨by decide, by decide⟩, _, _, rfl, rfl, (show (0 : Int) < 1000000033 by decide), ?_⟩
      refine ⟨_, rfl, 4, rfl, a, _, rfl, hS, fun p hp => ?_⟩
      have hc : SqL K (upd H p (.lst (cutV (ns.map V.int) none (some 4)))) p (cutV (ns.map V.int) none (some 4)) := .inl (.inl upd_same)
      refine ⟨p, rfl, ⟨_, hc⟩, for_list (K := K) (a := p) (xs := cutV (ns.map V.int) none (some 4)) (fun i σ H' => (∃ (z : Int) (y : Option V), σ = [some (.ref a), some (.int k), some (.int z), y]) ∧ H' = upd H p (.lst (cutV (ns.map V.int) none (some 4))))
        ⟨⟨_, _, rfl⟩, rfl⟩ (fun i σ H' _ h => by rw [h.2]; exact hc) ?_ ?_⟩
      · rintro i x σ H' hx ⟨⟨z, y, rfl⟩, rfl⟩
        obtain ⟨n, rfl⟩ : ∃ n, x = V.int n := by
          obtain ⟨n, _, e⟩ := List.mem_map.mp (mem_cut (List.mem_of_getElem? hx))
          exact ⟨n, e.symm⟩
        refine ⟨_, rfl, z, 30029, rfl, rfl, .inr ⟨by decide, by decide⟩, _, rfl, _, _, rfl, rfl, _, _, rfl, rfl, (show (0 : Int) < 1000000033 by decide), ⟨⟨_, _, rfl⟩, rfl⟩⟩
      · rintro σ H' ⟨⟨z, y, rfl⟩, rfl⟩
        exact ⟨_, rfl, q _ _ (same_new hp)⟩

/-! ### the purse -/
def PurseAt (H : Hp) (a : Addr) : Prop := ∃ s b c : Int, H a = some (.lst [.int s, .int b, .int c]) ∧ 0 ≤ b
theorem PurseAt.same {H H' : Hp} {a : Addr} (h : PurseAt H a) (s : Same H H') : PurseAt H' a := by
  obtain ⟨s0, b, c, ha, hb⟩ := h
  exact ⟨s0, b, c, s _ _ ha, hb⟩
theorem PurseAt.ne {H : Hp} {a p : Addr} (h : PurseAt H a) (hp : H p = none) : p ≠ a := by
  obtain ⟨s0, b, c, ha, hb⟩ := h
  exact (ne_of_none ha hp).symm
theorem PurseAt.lst {H : Hp} {a : Addr} (h : PurseAt H a) : ∃ ys, H a = some (.lst ys) := by
  obtain ⟨s0, b, c, ha, hb⟩ := h
  exact ⟨_, ha⟩
def spPurse : Sp := fun vs H Q _ => ∃ (n : Int), vs = [.int n] ∧ ∀ (a : Addr) (H' : Hp), H a = none → Same H H' → PurseAt H' a → Q (.ref a) H'
theorem scPurse : FnScope ["_law_cell_here"] ["_law_cell_here"] (defScope sPurse) :=
  ⟨rfl, rfl, rfl, by decide +kernel, rfl, by decide +kernel, by decide +kernel⟩
theorem ok_purse (F : Fun K "_law_purse" "_law_purse" sPurse f fd) (B : Bi mg) : FnOk P w K mg base CX0 1 f fd ["_law_cell_here"] spPurse := by
  refine F.ok scPurse (fun vs H Q E h => ?_) (fun cdv A outer s H vs Q E hr h => ?_)
  · obtain ⟨n, rfl, _⟩ := h
    rfl
  · obtain ⟨n, rfl, q⟩ := h
    refine ⟨_, pss_one (ps_ret (pe_lst (pa_cons (pe_op op_add (pe_op op_mul (pe_op op_mod (pv 0) pe_int) pe_int) pe_int)
      (pa_cons (pe_ix ix_list (pe_lst (pa_cons pe_int (pa_cons (pv 0) pa_nil))) (pe_callTy call_int1 (by rfl) B.int (by decide +kernel) (pa_cons (pe_cmpR op_ge (pv 0) (pe_op op_pow pe_int pe_int) (nomark _)) pa_nil)) (fun _ _ => rfl))
      (pa_cons pe_int pa_nil))))), ?_⟩
    refine ⟨_, rfl, _, _, rfl, rfl, (show (0 : Int) < 1000000033 by decide), _, _, rfl, rfl, .inr ⟨by decide, by decide⟩, _, _, rfl, rfl, _, rfl, lz, fun p hp => ?_⟩
    have e18 : (10 : Int) ^ (18 : Int).toNat = 1000000000000000000 := by decide
    refine ⟨_, rfl, 10, 18, rfl, rfl, ⟨by decide, by decide, by decide⟩, _, _, rfl, rfl, .inr ⟨_, rfl, ?_⟩⟩
    refine ⟨p, [.int 0, .int n], _, .int (if decide ((10 : Int) ^ (18 : Int).toNat ≤ n) = true then n else 0), rfl, rfl, .inl (.inl upd_same), ?_, lz, fun a ha => ?_⟩
    · by_cases c : (10 : Int) ^ (18 : Int).toNat ≤ n
      · simp only [decide_eq_true c, if_true]
        exact atI_nat (j := 1) rfl
      · simp only [decide_eq_false c]
        exact atI_nat (j := 0) rfl
    · have hp2 : Same H (upd H p (.lst [.int 0, .int n])) := same_new hp
      refine q a _ (hp2.free ha) (hp2.trans (same_new ha)) ⟨_, _, _, upd_same, ?_⟩
      by_cases c : (10 : Int) ^ (18 : Int).toNat ≤ n
      · simp only [decide_eq_true c, if_true]
        rw [e18] at c
        omega
      · simp only [decide_eq_false c]
        exact Int.le_refl 0
/-! ### a pick: some number below many -/
def spPick : Sp := fun vs H Q _ => ∃ (a : Addr) (m : Int), vs = [.ref a, .int m] ∧ PurseAt H a ∧ 0 < m ∧ m < 1073741824 ∧
  ∀ (r : Int) (H' : Hp), 0 ≤ r → r < m → PurseAt H' a → SameX a H H' → (∀ p, H p = none → H' p = none) → Q (.int r) H'
theorem scPick : FnScope ["_law_purse_here", "_law_many", "_law_state", "_law_taken"] ["_law_purse_here", "_law_many"] (defScope sPick) :=
  ⟨rfl, rfl, rfl, by decide +kernel, rfl, by decide +kernel, by decide +kernel⟩
theorem none_upd {H : Hp} {a : Addr} {o u : HO} (h : H a = some o) : ∀ p, H p = none → upd H a u p = none := fun p hp => by
  rw [upd_ne (ne_of_none h hp).symm]
  exact hp
theorem ok_pick (F : Fun K "_law_pick" "_law_pick" sPick f fd) : FnOk P w K mg base CX0 1 f fd ["_law_purse_here", "_law_many"] spPick := by
  refine F.ok scPick (fun vs H Q E h => ?_) (fun cdv A outer s H vs Q E hr h => ?_)
  · obtain ⟨a, m, rfl, _⟩ := h
    rfl
  · obtain ⟨a, m, rfl, ⟨s0, b, c, ha, hb⟩, m0, m1, q⟩ := h
    refine ⟨_, pss_cons (ps_asg (pe_op op_add (pe_ix ix_list (pv 0) pe_int (fun _ _ => rfl)) pe_int) (pg_sub (pv 0) pe_int set_list))
      (pss_cons (ps_set (i := 2) scPick.nd rfl (.inl rfl) (pe_op op_mod (pe_ix ix_list (pv 0) pe_int (fun _ _ => rfl)) pe_int))
      (pss_cons (ps_asg (pe_op op_add (pe_op op_mul (pv 2) (pe_op op_add (pe_op op_mod (pv 2) pe_int) pe_int)) (pe_op op_mul pe_int (pe_ix ix_list (pv 0) pe_int (fun _ _ => rfl)))) (pg_sub (pv 0) pe_int set_list))
      (pss_cons (ps_if (pt_cmpR op_gt (pe_ix ix_list (pv 0) pe_int (fun _ _ => rfl)) pe_int (nomark _))
        (pss_cons (ps_set (i := 3) scPick.nd rfl (.inl rfl) (pe_op op_mod (pe_ix ix_list (pv 0) pe_int (fun _ _ => rfl)) (pv 1)))
        (pss_cons (ps_asg (pe_op op_fdiv (pe_ix ix_list (pv 0) pe_int (fun _ _ => rfl)) (pv 1)) (pg_sub (pv 0) pe_int set_list))
        (pss_one (ps_ret (pv 3))))) pss_nil)
      (pss_one (ps_ret (pe_op op_mod (pe_op op_fdiv (pe_op op_mod (pe_ix ix_list (pv 0) pe_int (fun _ _ => rfl)) pe_int) pe_int) (pv 1))))))), ?_⟩
    have hmod : ∀ x : Int, 0 ≤ x % 1000000033 ∧ x % 1000000033 < 1000000033 := fun x => by omega
    refine ⟨_, rfl, a, _, 2, .int c, rfl, rfl, .inl (.inl ha), atI_nat (j := 2) rfl, _, _, rfl, rfl, _, rfl, a, _, 2, 2, rfl, rfl, ha, rfl, ?_⟩
    refine ⟨_, rfl, a, _, 0, .int s0, rfl, rfl, .inl (.inl upd_same), atI_nat (j := 0) rfl, _, _, rfl, rfl, (show (0 : Int) < 1000000033 by decide), ?_⟩
    refine ⟨_, rfl, _, rfl, _, _, rfl, rfl, (show (0 : Int) < 60013 by decide), _, _, rfl, rfl, _, _, rfl, rfl, .inl ⟨by have := hmod s0; omega, by have := hmod s0; omega⟩,
      _, rfl, a, _, 2, _, rfl, rfl, .inl (.inl upd_same), atI_nat (j := 2) rfl, _, _, rfl, rfl, .inl ⟨by decide, by decide⟩, _, _, rfl, rfl, _, rfl, a, _, 0, 0, rfl, rfl, upd_same, rfl, ?_⟩
    refine ⟨_, rfl, a, _, 1, .int b, rfl, rfl, .inl (.inl upd_same), atI_nat (j := 1) rfl, _, _, rfl, rfl, _, rfl, ite_b (fun e => ?_) (fun e => ?_)⟩
    · refine ⟨_, rfl, a, _, 1, .int b, rfl, rfl, .inl (.inl upd_same), atI_nat (j := 1) rfl, _, rfl, b, m, rfl, rfl, m0, ?_⟩
      refine ⟨_, rfl, a, _, 1, .int b, rfl, rfl, .inl (.inl upd_same), atI_nat (j := 1) rfl, _, rfl, b, m, rfl, rfl, ⟨m0, m1⟩, _, rfl, a, _, 1, 1, rfl, rfl, upd_same, rfl, ?_⟩
      refine ⟨_, rfl, q _ _ (Int.emod_nonneg _ (by omega)) (Int.emod_lt_of_pos _ m0) ⟨_, _, _, upd_same, ?_⟩ (((sameX_upd).trans sameX_upd).trans sameX_upd) fun p hp => ?_⟩
      · exact Int.ediv_nonneg hb (by omega)
      · exact none_upd upd_same p (none_upd upd_same p (none_upd ha p hp))
    · refine ⟨_, rfl, a, _, 0, _, rfl, rfl, .inl (.inl upd_same), atI_nat (j := 0) rfl, _, _, rfl, rfl, (show (0 : Int) < 1000000033 by decide), _, _, rfl, rfl, ⟨by decide, by decide⟩, _, rfl, _, m, rfl, rfl, m0, ?_⟩
      exact q _ _ (Int.emod_nonneg _ (by omega)) (Int.emod_lt_of_pos _ m0) ⟨_, _, _, upd_same, hb⟩ ((sameX_upd).trans sameX_upd) fun p hp => none_upd upd_same p (none_upd ha p hp)

/-! ### the menu, a word -/
def menuW : List Str := ["put", "doubt", "strike", "back", "change", "one", "map", "words", "parted", "line", "rings", "thin", "fate", "asks", "habit", "apart", "near", "paper", "ok", "no", "none", "self", "may", "not", "has", "any"]
theorem menu_wd : ∀ z ∈ menuW, IsWd z := by decide +kernel
theorem menu_len : menuW.length = 26 := by decide +kernel
def spMenu : Sp := fun vs H Q _ => vs = [] ∧ ∀ (p : Addr) (H' : Hp), H p = none → Same H H' → H' p = some (.lst (menuW.map V.str)) → Q (.ref p) H'
theorem scMenu : FnScope ["_law_some"] [] (defScope sMenu) := ⟨rfl, rfl, rfl, by decide +kernel, rfl, by decide +kernel, by decide +kernel⟩
theorem ok_menu (F : Fun K "_law_menu" "_law_menu" sMenu f fd) : FnOk P w K mg base CX0 1 f fd [] spMenu := by
  refine F.ok scMenu (fun vs H Q E h => ?_) (fun cdv A outer s H vs Q E hr h => ?_)
  · obtain ⟨rfl, _⟩ := h
    rfl
  · obtain ⟨rfl, q⟩ := h
    refine ⟨_, pss_cons (ps_set (i := 0) scMenu.nd rfl (.inl rfl) (pe_lst (pa_cons pe_str (pa_cons pe_str (pa_cons pe_str (pa_cons pe_str (pa_cons pe_str (pa_cons pe_str (pa_cons pe_str (pa_cons pe_str (pa_cons pe_str (pa_cons pe_str (pa_cons pe_str (pa_cons pe_str pa_nil))))))))))))))
      (pss_cons (ps_set (i := 0) scMenu.nd rfl (.inl rfl) (pe_op op_cat (pv 0) (pe_lst (pa_cons pe_str (pa_cons pe_str (pa_cons pe_str (pa_cons pe_str (pa_cons pe_str (pa_cons pe_str (pa_cons pe_str (pa_cons pe_str (pa_cons pe_str (pa_cons pe_str (pa_cons pe_str (pa_cons pe_str pa_nil)))))))))))))))
      (pss_one (ps_ret (pe_op op_cat (pv 0) (pe_lst (pa_cons pe_str (pa_cons pe_str pa_nil))))))), ?_⟩
    refine ⟨lz, fun p1 h1 => ?_⟩
    refine ⟨_, rfl, lz, fun p2 h2 => ⟨p1, p2, _, _, rfl, rfl, (same_new h2) _ _ upd_same, upd_same, lz, fun p3 h3 => ?_⟩⟩
    refine ⟨_, rfl, lz, fun p4 h4 => ⟨p3, p4, _, _, rfl, rfl, (same_new h4) _ _ upd_same, upd_same, lz, fun p5 h5 => ?_⟩⟩
    exact q p5 _ (Same.free (((same_new h1).trans (same_new h2)).trans ((same_new h3).trans (same_new h4))) h5) ((((same_new h1).trans (same_new h2)).trans ((same_new h3).trans (same_new h4))).trans (same_new h5)) upd_same

def spWord : Sp := fun vs H Q _ => ∃ (a : Addr), vs = [.ref a] ∧ PurseAt H a ∧ ∀ (z : Str) (H' : Hp), IsWd z → PurseAt H' a → SameX a H H' → Q (.str z) H'
abbrev nWord : List Str := ["_law_purse_here", "_law_way", "_law_wide", "_law_size", "_law_k"]
theorem scWord : FnScope nWord ["_law_purse_here"] (defScope sWord) :=
  ⟨rfl, rfl, rfl, by decide +kernel, rfl, by decide +kernel, by decide +kernel⟩
theorem ok_word (F : Fun K "_law_word" "_law_word" sWord f fd) (B : Bi mg) (hp : Has P w K mg base "_law_pick" 1 ["_law_purse_here", "_law_many"] spPick) (hm : Has P w K mg base "_law_menu" 1 [] spMenu) :
    FnOk P w K mg base CX0 2 f fd ["_law_purse_here"] spWord := by
  refine F.ok scWord (fun vs H Q E h => ?_) (fun cdv A outer s H vs Q E hr h => ?_)
  · obtain ⟨a, rfl, _⟩ := h
    rfl
  · obtain ⟨a, rfl, hA, q⟩ := h
    refine ⟨_, pss_cons (ps_asg (pe_tup (pa_cons (pe_h hp hr (pa_cons (pv 0) (pa_cons pe_int pa_nil))) (pa_cons (pe_ix ix_list (pe_lst (pa_cons pe_int (pa_cons pe_int (pa_cons pe_int pa_nil)))) (pe_h hp hr (pa_cons (pv 0) (pa_cons pe_int pa_nil))) (fun _ _ => rfl)) pa_nil)))
        (pg_tup rfl (pgs_cons (pg_name (i := 1) scWord.nd rfl (.inl rfl)) (pgs_cons (pg_name (i := 2) scWord.nd rfl (.inr rfl)) pgs_nil))))
      (pss_cons (ps_if (pt_cmpR op_eq (pv 1) pe_int (nomark _)) (pss_one (ps_ret (pe_ix ix_list (pe_h0 hm hr) (pe_h hp hr (pa_cons (pv 0) (pa_cons pe_int pa_nil))) (fun _ _ => rfl)))) pss_nil)
      (pss_cons (ps_set (i := 3) scWord.nd rfl (.inl rfl) (pe_ix ix_list (pe_lst (pa_cons pe_int (pa_cons pe_int (pa_cons pe_int (pa_cons pe_int (pa_cons (pe_op op_add pe_int (pe_h hp hr (pa_cons (pv 0) (pa_cons pe_int pa_nil)))) pa_nil)))))) (pe_h hp hr (pa_cons (pv 0) (pa_cons pe_int pa_nil))) (fun _ _ => rfl)))
      (pss_one (ps_ret (pe_join pe_str (pe_lc (own := [("_law_k", 4)]) (g := gName 4) (tt := tYes) rfl scWord.nd (pi_range1 (by rfl) B.range (pa_cons (pv 3) pa_nil)) (blkOk_by (N := nWord) (sc := defScope sWord) (by decide +kernel))
        (fun _ _ _ _ _ => pg_name (i := 4) scWord.nd rfl (.inl rfl)) (fun _ _ _ _ _ => pts_nil) (fun _ _ _ _ _ => pe_ix ix_str pe_str (pe_h hp hr (pa_cons (pv 0) (pa_cons (pv 2) pa_nil))) (fun _ _ => rfl)))))))), ?_⟩
    -- way, wide
    refine ⟨_, rfl, a, 4, rfl, hA, by decide, by decide, fun r1 H1 r10 r11 hA1 s1 n1 => ?_⟩
    refine ⟨lz, fun p hp => ⟨_, rfl, a, 3, rfl, hA1.same (same_new hp), by decide, by decide, fun r2 H2 r20 r21 hA2 s2 n2 => ?_⟩⟩
    have npa := hA1.ne hp
    obtain ⟨wd, hwm, hwd⟩ := atI_tab (ns := [3, 5, 26]) r20 r21
    have hw : 0 < wd ∧ wd ≤ 26 := by
      simp only [List.mem_cons, List.not_mem_nil, or_false] at hwm
      omega
    have s2' : SameX a H H2 := (s1.trans (sx (same_new hp))).trans s2
    refine ⟨p, _, r2, .int wd, rfl, rfl, .inl (.inl (s2 _ _ npa upd_same)), hwd, lz, fun t ht => ?_⟩
    refine ⟨t, _, rfl, .inl (.inl upd_same), rfl, _, _, rfl, _, _, rfl, rfl, ?_⟩
    have hA3 := hA2.same (same_new (o := .tup [.int r1, .int wd]) ht)
    have s3 : SameX a H _ := s2'.trans (sx (same_new (o := .tup [.int r1, .int wd]) ht))
    generalize upd H2 t (.tup [.int r1, .int wd]) = H3 at hA3 s3
    refine ⟨_, rfl, rfl, _, rfl, ite_b (fun e => ?_) (fun e => ?_)⟩
    · -- menu()[..]
      refine ⟨rfl, fun p4 H4 hp4 s4 h4 => ⟨_, rfl, a, 26, rfl, hA3.same s4, by decide, by decide, fun r5 H5 r50 r51 hA5 s5 n5 => ?_⟩⟩
      obtain ⟨z, hz, hzi⟩ := atI_strs (zs := menuW) r50 (by rw [menu_len]; exact r51)
      exact ⟨p4, _, r5, .str z, rfl, rfl, .inl (.inl (s5 _ _ (hA3.ne hp4) h4)), hzi, q z H5 (menu_wd z hz) hA5 ((s3.trans (sx s4)).trans s5)⟩
    · -- size
      refine ⟨_, rfl, a, 8, rfl, hA3, by decide, by decide, fun r4 H4 r40 r41 hA4 s4 n4 => ⟨_, _, rfl, rfl, lz, fun p5 hp5 => ⟨_, rfl, a, 5, rfl, hA4.same (same_new hp5), by decide, by decide, fun r6 H6 r60 r61 hA6 s6 n6 => ?_⟩⟩⟩
      have np5 := hA4.ne hp5
      obtain ⟨sz, hsm, hsz⟩ := atI_tab (ns := [1, 2, 3, 4, 1 + r4]) r60 r61
      have hs8 : 1 ≤ sz ∧ sz ≤ 8 := by
        simp only [List.mem_cons, List.not_mem_nil, or_false] at hsm
        omega
      refine ⟨p5, _, r6, .int sz, rfl, rfl, .inl (.inl (s6 _ _ np5 upd_same)), hsz, ?_⟩
      have s6' : SameX a H H6 := ((s3.trans s4).trans (sx (same_new hp5))).trans s6
      -- join of the signs
      refine ⟨⟨_, rfl⟩, _, rfl, sz, rfl, by omega, by omega, fun D hD => lc_range (lo := 0) (n := sz.toNat)
        (fun i H' => ∃ cs : List Nat, cs.length = i ∧ (∀ c ∈ cs, 97 ≤ c ∧ c ≤ 122) ∧ H' D = some (.lst ((cs.map sign).map V.str)) ∧ PurseAt H' a ∧ SameX a H6 H')
        ⟨[], rfl, fun c hc => by simp at hc, upd_same, hA6.same (same_new hD), sx (same_new hD)⟩ ?_ ?_⟩
      · rintro i H7 hi ⟨cs, hcl, hcs, hDl, hA7, s7⟩
        refine ⟨rfl, yes_it ⟨_, rfl, _, rfl, a, wd, rfl, hA7, hw.1, by omega, fun r8 H8 r80 r81 hA8 s8 n8 => ?_⟩⟩
        have nD := hA6.ne hD
        refine ⟨_, r8, _, rfl, rfl, lz, letter_at r80 (by omega), _, s8 _ _ nD hDl, ?_, ?_⟩
        · rw [List.length_map, List.length_map]
          exact small1000 (by omega)
        · refine ⟨cs ++ [97 + r8.toNat], by simp [hcl], fun c hc => ?_, ?_, ?_, sameX_mut (s7.trans s8) hD⟩
          · rcases List.mem_append.mp hc with hc | hc
            · exact hcs c hc
            · rw [List.mem_singleton.mp hc]
              omega
          · rw [upd_same, List.map_append, List.map_append]
            rfl
          · obtain ⟨x0, x1, x2, hx, hx1⟩ := hA8
            exact ⟨x0, x1, x2, by rw [upd_ne nD.symm]; exact hx, hx1⟩
      · rintro H7 ⟨cs, hcl, hcs, hDl, hA7, s7⟩
        refine ⟨_, D, cs.map sign, rfl, rfl, .inl (.inl (.inl hDl)), ?_, ?_⟩
        · have e0 : ("" : Str).length = 0 := by decide +kernel
          have e1 : (cs.map sign).map (·.length) = cs.map fun _ => 1 := by
            rw [List.map_map]
            rfl
          rw [e0, e1, Nat.mul_zero]
          have e2 : ∀ l : List Nat, (l.map fun _ => 1).sum = l.length := fun l => by
            induction l with
            | nil => rfl
            | cons x r ih => rw [List.map_cons, List.sum_cons, ih, List.length_cons]; omega
          rw [e2]
          omega
        · refine q _ H7 (isWd_of ?_ ?_ ?_) hA7 (s6'.trans s7)
          · rw [join_signs]; omega
          · rw [join_signs]; omega
          · rw [join_signs]; exact hcs
end
end Wl





/-! An exception that was caught, as a tracked object: isinstance of it, its fields. -/
namespace Wl
open PySem PySem.Spec PyProof.Rows L2
/-- at a: a caught exception, its class, its own dict; its context is None -/
def exH (a : Addr) (cls : Value) (d : Option Addr) : HO := .ext fun h => ∃ (vs : Array Value) (sl : Array (Option Value)), h.get? a = some ⟨cls, d, .fields vs, sl⟩ ∧ vs[2]? = some .none
section
variable {P : Program} {w : World} {H : Hp} {h : Heap} {a : Addr} {cls : Value} {d : Option Addr}
theorem exH_ok {oe : Obj} {vs : Array Value} (he : h.get? a = some oe) (hz : L2N.Zn cls d oe) (hd : oe.data = .fields vs) : ObjOk P w H h a (exH a cls d) := by
  obtain ⟨c0, d0, dt, sl⟩ := oe
  obtain ⟨e1, e2, e3⟩ := hz
  obtain rfl : c0 = cls := e1
  obtain rfl : d0 = d := e2
  obtain rfl : dt = .fields vs := hd
  refine ⟨⟨vs, sl, he, e3 vs rfl⟩, ⟨_, he⟩, fun h1 h2 z k => ?_⟩
  obtain ⟨vs', sl', q, c⟩ := z
  exact ⟨vs', sl', k _ q, c⟩
theorem exH_at (hok : HOk P w H h) (e : H a = some (exH a cls d)) : ∃ (vs : Array Value) (sl : Array (Option Value)), h.get? a = some ⟨cls, d, .fields vs, sl⟩ ∧ vs[2]? = some .none := by
  have x : ObjOk P w H h a (exH a cls d) := hok a _ e
  exact x.1
theorem exH_hot {A : Around} (hok : HOk P w H h) (e : H a = some (exH a cls d)) (hh : A.handled = some (.ref a)) : HotX.HotAt A a h := by
  obtain ⟨vs, sl, q, c⟩ := exH_at hok e
  exact ⟨hh, _, vs, q, rfl, c⟩
theorem exH_tup {xs : List V} : exH a cls d ≠ .tup xs := fun z => by
  have z' : HO.ext _ = HO.tup xs := z
  cases z'
theorem exH_ne {o : HO} (hn : ∀ φ, o ≠ .ext φ) : exH a cls d ≠ o := fun z => hn _ z.symm
end
/-- what isinstance asks of an exception's class, and of its own dict -/
structure ExK (K : PySem.W.Frag) (C : Addr) : Prop where
  cl : (PySem.W.clsIn K C).isSome = true
  ga : PySem.W.findIn K (.ref C) "__getattribute__" = some (some (.builtin "BaseException.__getattribute__"))
  gg : PySem.W.findIn K (.ref C) "__getattr__" = some none
  sub : PySem.W.subIn K (.ref C) (.type "BaseException") = some true
  ca : PySem.W.findIn K (.ref C) "__class__" = some (some (.builtin "object.__class__"))
  gn : PySem.W.specialIn K (.builtin "object.__class__") "__get__" = some (some (.builtin "getset_descriptor.__get__"))
  tk : PySem.W.takesIn K (.builtin "object.__class__") = some true
  mo : PySem.W.mroIn K C (.type "object") = some true
/-- its own dict, if it has one, is tracked -/
def DxOk (H : Hp) (d : Option Addr) : Prop := ∀ dd, d = some dd → ∃ fs, H dd = some (.xd fs)
section
variable {X : Cx}
theorem inst_of {pins : List (Addr × Obj)} {σ : L2.St} {H : Hp} {s : Shared} {a C : Addr} {d : Option Addr} (I : Inv X pins σ H s) (e : H a = some (exH a (.ref C) d)) (hd : DxOk H d) : ∃ ox od, PySem.W.InstAt s.heap a ox C od := by
  obtain ⟨vs, sl, q, _⟩ := exH_at I.hok e
  cases d with
  | none => exact ⟨_, none, q, rfl, rfl, trivial⟩
  | some dd =>
    obtain ⟨fs, hf⟩ := hd dd rfl
    have hx : ObjOk X.prog X.w H s.heap dd (.xd fs) := I.hok dd _ hf
    obtain ⟨mA, hns, _⟩ := hx
    obtain ⟨od, ho, _⟩ := lookIn_ns hns
    exact ⟨_, some od, q, rfl, rfl, ho⟩
theorem kit_exc {C a : Addr} {ox : Obj} {od : Option Obj} {K : PySem.W.Frag} (E : ExK K C) : PySem.W.KitX K (.ref a) (.ref C) (fun h => PySem.W.InstAt h a ox C od) :=
  PySem.W.kitx_exc E.cl E.ga E.gg E.sub E.ca E.gn E.tk E.mo
/-- isinstance(e, c) -/
def rIsX (K : PySem.W.Frag) : List V → Hp → VK → Prop := fun xs H Q => ∃ (a C : Addr) (d : Option Addr) (c : V) (cv : Value) (b : Bool), xs = [.ref a, c] ∧ H a = some (exH a (.ref C) d) ∧ DxOk H d ∧ ExK K C ∧ ClsV c cv ∧ PySem.W.kitOne K (.ref C) cv = some b ∧ Q (.bl b) H
theorem call_isX : CallR X (.builtin "isinstance") (rIsX X.K) := by
  intro pins s σ H xs us Q I r h
  obtain ⟨a, C, d, c, cv, b, rfl, ea, hd, E, hc, hk, q⟩ := h
  cases r with
  | cons rx rr =>
    cases rr with
    | cons rt rr =>
      cases rr
      cases rx
      obtain rfl := hc.eq rt
      obtain ⟨ox, od, J⟩ := inst_of I ea hd
      exact PySem.W.kia_one (kit_exc E) I.kIn J hk (fun z => nomatch z) fun tk => ⟨.bl b, H, I.kept (t' := tk) fun _ _ z => z, rfl, q⟩
/-- isinstance(e, (c, ..)) -/
def rIsXT (K : PySem.W.Frag) : List V → Hp → VK → Prop := fun xs H Q => ∃ (a C : Addr) (d : Option Addr) (tp : Addr) (cs : List V) (us : List Value) (b : Bool), xs = [.ref a, .ref tp] ∧ H a = some (exH a (.ref C) d) ∧ DxOk H d ∧ ExK K C ∧
  H tp = some (.tup cs) ∧ Paired ClsV cs us ∧ PySem.W.kitAny K (.ref C) us = some b ∧ Q (.bl b) H
theorem call_isXT : CallR X (.builtin "isinstance") (rIsXT X.K) := by
  intro pins s σ H xs us Q I r h
  obtain ⟨a, C, d, tp, cs, uc, b, rfl, ea, hd, E, ht, hp, hk, q⟩ := h
  cases r with
  | cons rx rr =>
    cases rr with
    | cons rt rr =>
      cases rr
      cases rx
      cases rt
      obtain ⟨ox, od, J⟩ := inst_of I ea hd
      obtain ⟨z, its, rv, ⟨o, ho, hc, n, hdat⟩⟩ := I.hok tp _ ht
      obtain rfl := ClsV.all hp rv
      obtain ⟨c0, d0, dt, sl⟩ := o
      obtain rfl : c0 = .type "tuple" := hc
      obtain rfl : dt = .seq its.toArray n := hdat
      exact PySem.W.kia_tup (kit_exc E) I.kIn J ho hk (fun z => nomatch z) fun tk => ⟨.bl b, H, I.kept (t' := tk) fun _ _ z => z, rfl, q⟩
/-- e.f -/
def tXf (K : PySem.W.Frag) (f : Str) (te : TE) : TE := fun σ H Q => te σ H fun x H1 => ∃ (a C dd : Addr) (fs : List (Str × V)) (v : V), x = .ref a ∧ H1 a = some (exH a (.ref C) (some dd)) ∧ H1 dd = some (.xd fs) ∧ XfC K C ∧
  PySem.W.findIn K (.ref C) f = some none ∧ fs.lookup f = some v ∧ Q v H1
theorem pe_xf {e : Expr} {te : TE} {pos : Pos} {n : Str} (he : PE X e te) (hb : attributeBase e n X.env (eval e X.env) = eval e X.env := by rfl) : PE X (.Attribute e n pos) (tXf X.K n te) := by
  refine ⟨fun pins s σ H Q I h => ?_⟩
  refine attr_of hb (thn (he.run pins s σ H _ I h) fun u s1 hh => ?_)
  obtain ⟨x, H1, I1, rx, a, C, dd, fs, v, rfl, ea, ed, T, hno, hl, q⟩ := hh
  obtain rfl : u = Value.ref a := rx
  obtain ⟨vs, sl, hobj, _⟩ := exH_at I1.hok ea
  have hx : ObjOk X.prog X.w H1 s1.heap dd (.xd fs) := I1.hok dd _ ed
  obtain ⟨mA, hns, hr⟩ := hx
  obtain ⟨od, ho, hlk⟩ := lookIn_ns hns
  obtain ⟨u, hu, ru⟩ := RelO.some_of (v := v) (o := mA n) (by rw [← hl]; exact hr n)
  have J : PySem.W.InstAt s1.heap a _ C (some od) := ⟨hobj, rfl, rfl, ho⟩
  exact HandSPX.exc_get I1.kIn J T.ga T.gg T.exC (PySem.W.findObj_own T.hdC hno rfl (by rw [hlk, hu])) (handed_of ru) ⟨v, H1, I1.tok _, ru, q⟩
end
/-! a new object of the state is tracked -/
theorem Inv_track {X : Cx} {pins : List (Addr × Obj)} {σ : L2.St} {H : Hp} {s : Shared} {a : Addr} {o : HO} (I : Inv X pins σ H s) (na : H a = none) (h0 : X.s_0.heap.get? a = none) (hL : a ≠ X.env.locals) (hc : ∀ x c, X.env.cells.lookup x = some c → c ≠ a)
    (hp : ∀ p ∈ X.pn ++ pins, p.1 ≠ a) (ok : ObjOk X.prog X.w (upd H a o) s.heap a o) : Inv X pins σ (upd H a o) s := by
  have ne : ∀ {b u}, H b = some u → b ≠ a := fun {b u} e z => by
    rw [z, na] at e
    cases e
  refine ⟨I.ok, I.os, I.bare, ⟨I.base.keep, I.base.slot, fun b u e n hx => ?_, I.base.there, fun b xs e => ?_, fun b u v e => ?_, fun b ps e => ?_⟩, I.loc, I.cell, ?_, fun x c e => ?_, fun p h => ?_, fun b u e => ?_, I.len⟩
  · rw [upd_ne fun z => by rw [z, h0] at e; cases e]
    exact I.base.free b u e n hx
  · have q := I.base.tups b xs e
    rw [upd_ne (ne q)]
    exact q
  · have q := I.base.frzs b u v e
    rw [upd_ne (ne q)]
    exact q
  · obtain ⟨more, q⟩ := I.base.tbls b ps e
    exact ⟨more, by rw [upd_ne (ne q)]; exact q⟩
  · rw [upd_ne (Ne.symm hL)]
    exact I.free
  · rw [upd_ne (hc x c e)]
    exact I.freeC x c e
  · obtain ⟨q1, q2, q3, q4, q5⟩ := I.pin p h
    exact ⟨q1, by rw [upd_ne (hp p h)]; exact q2, q3, q4, q5⟩
  · by_cases hb : b = a
    · subst hb
      rw [upd_same] at e
      cases e
      exact ok
    · rw [upd_ne hb] at e
      exact (I.hok b u e).stay (fun c v _ q => q) (fun c hc => by rw [upd_ne (ne hc)]; exact hc) (fun c xs hc => by rw [upd_ne (ne hc)]; exact hc)
end Wl

/-! try .. except (A, B, C) as e, several clauses; the exception that was caught is tracked. -/
namespace Wl
open PySem PySem.Spec PyProof.Rows L2
theorem flying_keeps {B h h' : Heap} {l : List Env} {a : Addr} {Z : Obj → Prop} (fl : HandSPX.FlyingZ B l a Z h) (k : ∀ b o, h.get? b = some o → h'.get? b = some o) : HandSPX.FlyingZ B l a Z h' := by
  obtain ⟨f1, f2, f3, oe, vs, T, oT, ts, he, hz, hd, h1, hnT, hTe, hT, hdT, h3⟩ := fl
  exact ⟨fun b o e => k b o (f1 b o e), f2, f3.of_keeps fun b o e _ => ⟨o, k b o e, rfl⟩, oe, vs, T, oT, ts, k _ _ he, hz, hd, h1, hnT, hTe, k _ _ hT, hdT, h3⟩
theorem up_keeps {h h' : Heap} (k : ∀ b o, h.get? b = some o → h'.get? b = some o) : h.UpToSlots h' := Heap.UpToSlots.of_keeps k
/-- a clause's test: m tells of a class whether it is asked for -/
structure TestOk (X : Cx) (t : Expr) (m : Value → Option Bool) : Prop where
  run : ∀ (a : Addr) (pn pins : List (Addr × Obj)) (σ : L2.St) (H : Hp) (s : Shared) (cls : Value) (b : Bool) (Q : Bool → Shared → Prop) (E : Value → Shared → Prop), Inv (X.suite a pn) pins σ H s → m cls = some b →
    PySem.W.Looks (model X.prog X.w) s.heap (typeOf (.ref a)) cls → (∀ h' t', (∀ c o, s.heap.get? c = some o → h'.get? c = some o) → Q b { s with heap := h', toks := t' }) →
    wpAny (model X.prog X.w) (X.A.mark (some (.ref a))) (eval t X.env) (fun c s1 => wpAny (model X.prog X.w) (X.A.mark (some (.ref a))) (excMatches (.ref a) c) Q E s1) E s
theorem test_one {X : Cx} {x : Str} {c : Value} {np : Pos} (hc : Names X x c) : TestOk X (.Name x np) (fun cls => PySem.W.exmOne X.K cls c) := by
  refine ⟨fun a pn pins σ H s cls b Q E I hm LT q => ?_⟩
  have LM := PySem.W.exm_one (M := model X.prog X.w) I.kIn LT hm
  have go : wpAny (model X.prog X.w) (X.A.mark (some (.ref a))) (excMatches (.ref a) c) Q E s := LM.here (q s.heap s.toks fun _ _ z => z)
  obtain ⟨hg, hdbg, hg1 | ⟨hg1, hv, hnn⟩⟩ := hc
  · exact ld_glob (X := X.suite a pn) I hg hg1 go hdbg
  · exact ld_blt (X := X.suite a pn) I hg hg1 hv go hnn hdbg
theorem test_tup3 {X : Cx} {x1 x2 x3 : Str} {c1 c2 c3 : Value} {p1 p2 p3 tp : Pos} {k : Nat} (g1 : Gl X x1) (m1 : X.mg x1 = some c1) (g2 : Gl X x2) (m2 : X.mg x2 = some c2) (g3 : Gl X x3) (m3 : X.mg x3 = some c3)
    (d1 : (x1 == ("__debug__" : Str)) = false := by decide) (d2 : (x2 == ("__debug__" : Str)) = false := by decide) (d3 : (x3 == ("__debug__" : Str)) = false := by decide) :
    TestOk X (.Tuple [.Name x1 p1, .Name x2 p2, .Name x3 p3] k tp) (fun cls => PySem.W.exmAny X.K cls [c1, c2, c3]) := by
  refine ⟨fun a pn pins σ H s cls b Q E I hm LT q => ?_⟩
  refine wpAny_Tuple_spliced ?_
  show wpAny _ _ (spliced [(false, eval (.Name x1 p1) X.env), (false, eval (.Name x2 p2) X.env), (false, eval (.Name x3 p3) X.env)]) _ _ s
  refine Calls.spliced_cons (ld_glob (X := X.suite a pn) I g1 m1 ?_ d1)
  refine Calls.spliced_cons (ld_glob (X := X.suite a pn) I g2 m2 ?_ d2)
  refine Calls.spliced_cons (ld_glob (X := X.suite a pn) I g3 m3 ?_ d3)
  refine Calls.spliced_nil ⟨by show 3 ≤ sizeLine; decide, ?_⟩
  have kp : ∀ c o, s.heap.get? c = some o → (s.heap.push { cls := .type "tuple", data := .seq [c1, c2, c3].toArray }).get? c = some o := fun c o e => Heap.get?_push_of_some _ e
  have LM := PySem.W.exm_tup3 (M := model X.prog X.w) (I.kIn.keeps kp) (LT.keeps kp) (Heap.get?_push_size s.heap (o := { cls := .type "tuple", data := .seq [c1, c2, c3].toArray }) rfl) hm
  exact LM.here (q _ s.toks kp)
/-- what a suite does, the caught exception's address first -/
abbrev ClT := Addr → TS
/-- the clauses, one after the other; Wout: none of them asks for it -/
def wCls (Wout : WX) (D : Ends) : List ((Value → Option Bool) × ClT) → WX
  | [] => Wout
  | (m, ts) :: r => fun cls d σ H => ∃ b, m cls = some b ∧ (b = true → ∀ a, H a = none → ts a D σ (upd H a (exH a cls d))) ∧ (b = false → wCls Wout D r cls d σ H)
/-- .. as n, n in slot i: the name goes behind the suite -/
def tAs (i : Nat) (ts : ClT) : ClT := fun a D σ H => ts a { nx := fun σ' H' => D.nx (σ'.set i none) H', rt := D.rt, bk := fun σ' H' => D.bk (σ'.set i none) H', ct := fun σ' H' => D.ct (σ'.set i none) H' } (σ.set i (some (.ref a))) H
inductive HdsE (X : Cx) : List ExceptHandler → List ((Value → Option Bool) × ClT) → Prop
  | nil : HdsE X [] []
  | one {t : Expr} {m : Value → Option Bool} {ts : ClT} {b₀ : Stmt} {suite : List Stmt} {pos' : Pos} {hds : List ExceptHandler} {l : List ((Value → Option Bool) × ClT)} (ht : TestOk X t m)
      (hsu : ∀ (a : Addr) (pn : List (Addr × Obj)), PSs (X.suite a pn) (b₀ :: suite) (ts a)) (r : HdsE X hds l) : HdsE X (.ExceptHandler (some t) none (b₀ :: suite) pos' :: hds) ((m, ts) :: l)
  | as {t : Expr} {m : Value → Option Bool} {ts : ClT} {i : Nat} {n : Str} {b₀ : Stmt} {suite : List Stmt} {pos' : Pos} {hds : List ExceptHandler} {l : List ((Value → Option Bool) × ClT)} (hi : X.N[i]? = some n) (hln : X.env.kindOf n = some .local) (ht : TestOk X t m)
      (hsu : ∀ (a : Addr) (pn : List (Addr × Obj)), PSs (X.suite a pn) (b₀ :: suite) (ts a)) (r : HdsE X hds l) : HdsE X (.ExceptHandler (some t) (some n) (b₀ :: suite) pos' :: hds) ((m, tAs i ts) :: l)
section
variable {X : Cx} {pins : List (Addr × Obj)} {σ : L2.St} {H : Hp} {s : Shared}
theorem inv_suite {a : Addr} (I : Inv X pins σ H s) : Inv (X.suite a (X.pn ++ pins)) [] σ H s :=
  ⟨I.ok.suite _ _, I.os, I.bare, I.base, I.loc, I.cell, I.free, I.freeC, fun p hp => I.pin p (by rw [List.append_nil] at hp; exact hp), I.hok, I.len⟩
theorem inv_unsuite {a : Addr} {q : List (Addr × Obj)} (I : Inv (X.suite a (X.pn ++ pins)) q σ H s) (ok : X.Ok) : Inv X pins σ H s :=
  ⟨ok, I.os, I.bare, I.base, I.loc, I.cell, I.free, I.freeC, fun p hp => I.pin p (List.mem_append_left _ hp), I.hok, I.len⟩
end
section
variable {X : Cx} {body : List Stmt} {h₀ : ExceptHandler} {hds : List ExceptHandler} {l : List ((Value → Option Bool) × ClT)} {pos : Pos} {tb : WX → TS} {Wout : WX}
theorem ps_tryE (hs : X.stack = X.env :: X.outer) (hf : X.env.frame = some X.env.locals) (hex : X.ex = []) (hN : X.N.Nodup) (tk : L2N.Takes X Wout)
    (hb : ∀ (W : WX) (pn : List (Addr × Obj)) (xe : Value → Shared → Prop), L2N.Takes (X.tr pn xe) W → PassesOwn (model X.prog X.w) X.A X.env xe → PSs (X.tr pn xe) body (tb W))
    (hh : HdsE X (h₀ :: hds) l) : PS X (.Try body (h₀ :: hds) [] [] pos) (fun D σ H => tb (wCls Wout D l) D σ H) := by
  constructor
  intro pins s σ H D I h
  have ok := I.ok
  have hfr : X.A.frames = some (X.env :: X.outer) := by rw [ok.frames, hs]
  refine wpAny_Try_except ?_
  refine wpAny_mono ((hb (wCls Wout D l) (X.pn ++ pins) (fun e sa => wpAny (model X.prog X.w) X.A (noteFrame e X.env) (fun _ sb => wpAny (model X.prog X.w) X.A (setFlight e none) (fun _ sc =>
    wpAny (model X.prog X.w) X.A (handleBy e X.env (h₀ :: hds)) (SP X pins D) X.xe sc) X.xe sb) X.xe sa) (fun u s' xx => ?_) PassesOwn.looking).run [] s σ H D (I.toTry _) h) (fun f s1 hsp => ?_) (fun e s1 he => he)
  · obtain ⟨a, B, sI, pq, σ1, H1, cls, d, rfl, J', nb, up, sky, na, os, ag, wq⟩ := xx
    have J : Inv X pins σ1 H1 sI := J'.ofTry ok
    have sky' : Sky B (X.env :: X.outer) a (L2N.Zn cls d) X.env.locals s'.heap := by rw [← hs]; exact sky
    show wpAny (model X.prog X.w) X.A (noteFrame (.ref a) X.env) _ _ _
    refine L2N.Sky.land L2N.Zn.steady hfr hf sky' fun h3 fl3 up3 => ?_
    -- what holds of any state behind the landing
    have nfr : ∀ {hx : Heap}, HandSPX.FlyingZ B (X.env :: X.outer) a (L2N.Zn cls d) hx → a ∉ frs (X.env :: X.outer) := fun {hx} fl hm => by
      obtain ⟨oe, vs, he, _, hd⟩ := fl.there
      obtain ⟨_, o', e', hnf⟩ := fl.2.2.1.mem hm
      rw [he] at e'
      cases e'
      exact hnf _ hd
    have naI : sI.heap.get? a = none := by
      cases q : sI.heap.get? a with
      | none => rfl
      | some o =>
        have z := nb a o q (by rw [hs]; exact nfr fl3)
        rw [fl3.2.1] at z
        cases z
    have na0 : X.s_0.heap.get? a = none := by
      cases q : X.s_0.heap.get? a with
      | none => rfl
      | some o =>
        obtain ⟨o', z⟩ := J.base.there a o q (by rw [hex]; simp)
        rw [naI] at z
        cases z
    have nL : a ≠ X.env.locals := fun z => nfr fl3 (List.mem_filterMap.mpr ⟨X.env, List.mem_cons_self, by rw [hf, z]⟩)
    -- the clauses, one by one, over a heap that holds the landed one
    have go : ∀ {hds' : List ExceptHandler} {l' : List ((Value → Option Bool) × ClT)}, HdsE X hds' l' → wCls Wout D l' cls d σ1 H1 → ∀ (h5 : Heap) (t5 : Nat), (∀ b o, h3.get? b = some o → h5.get? b = some o) →
        wpAny (model X.prog X.w) X.A (handleBy (.ref a) X.env hds') (SP X pins D) X.xe { s' with heap := h5, toks := t5 } := by
      intro hds' l' hk
      induction hk with
      | nil =>
        intro wq h5 t5 k5
        have fl5 := flying_keeps fl3 k5
        refine wpAny_handleBy_nil ?_
        obtain ⟨k1, k2, k3, oe, vs, T, oT, ts', he, hz, hd, h1, hr⟩ := id fl5
        unfold PySem.passOn
        refine wpAny_bind (wpAny_field he hd h1 ?_)
        rw [if_neg (show ¬ ((Value.ref T == Value.none) = true) from by simp)]
        have fin : wpAny (model X.prog X.w) X.A (setFlight (.ref a) X.env.frame) (fun _ s4 => wpAny (model X.prog X.w) X.A (throw (.ref a) : Sem Flow) (SP X pins D) X.xe s4) X.xe { s' with heap := h5, toks := t5 } := by
          rw [hf]
          refine HandSPX.setFlight_upZ fl5 fun h4 hh4 up4 => wpAny_throw (tk _ _ ?_)
          exact ⟨a, B, sI, pins, σ1, H1, cls, d, rfl, J, nb, ((up.trans up3).trans (up_keeps k5)).trans up4, .inr (.inr (by rw [hs]; exact hh4)), na, os, ag, wq⟩
        first
          | exact wpAny_bind (wpAny_pure (wpAny_bind fin))
          | exact wpAny_bind fin
      | @one t m ts b₀ suite pos' hds2 l2 ht hsu r ih =>
        intro wq h5 t5 k5
        obtain ⟨b, hb1, hyes, hno⟩ := wq
        have fl5 := flying_keeps fl3 k5
        have J5 : Inv X pins σ1 H1 { s' with heap := h5, toks := t5 } := (J.landed (s' := { s' with heap := h5, toks := t5 }) nb fl5.1 ((up.trans up3).trans (up_keeps k5)) os ag)
        obtain ⟨oe5, vs5, he5, hz5, hd5⟩ := fl5.there
        have LT : PySem.W.Looks (model X.prog X.w) h5 (typeOf (.ref a)) cls := fun A Q E s k q => wpAny_typeOf_ref (k _ _ he5) (by rw [hz5.1]; exact q)
        refine wpAny_handleBy_cons (codeAny_handlers_test (ht.run a (X.pn ++ pins) [] σ1 H1 { s' with heap := h5, toks := t5 } cls b _ _ (inv_suite J5) hb1 LT fun h6 t6 k6 => ?_)) (by intro q; cases q)
        cases b with
        | false =>
          show wpAny _ X.A (handleBy (.ref a) X.env hds2) _ _ _
          exact ih (hno rfl) h6 t6 fun c o e => k6 c o (k5 c o e)
        | true =>
          have fl6 := flying_keeps fl5 k6
          refine codeAny_handlers_suite ?_
          refine HandSPX.lands_againZ fl6 fun h7 fl7 up7 => ?_
          have J7 : Inv X pins σ1 H1 { s' with heap := h7, toks := t6 } := J.landed (s' := { s' with heap := h7, toks := t6 }) nb fl7.1 ((((up.trans up3).trans (up_keeps k5)).trans (up_keeps k6)).trans up7) os ag
          obtain ⟨oe7, vs7, he7, hz7, hd7⟩ := fl7.there
          have T7 : Inv X pins σ1 (upd H1 a (exH a cls d)) { s' with heap := h7, toks := t6 } := Inv_track J7 na na0 nL (fun x c e z => by
              obtain ⟨v, o, ho, hdat⟩ := J7.cell x c e
              have ho : h7.get? c = some o := ho
              rw [z, he7] at ho
              cases ho
              rw [hd7] at hdat
              cases hdat) (fun p hp z => by
              have q := (J.pin p hp).1
              rw [z, naI] at q
              cases q) (exH_ok he7 hz7 hd7)
          refine wpAny_mono ((hsu a (X.pn ++ pins)).run [] _ _ _ D (inv_suite T7) (hyes rfl a na)) (fun f s8 hsp => ?_) (fun _ _ z => False.elim z)
          cases f with
          | next =>
            obtain ⟨σ8, H8, S8, q8⟩ := hsp
            exact ⟨_, _, inv_unsuite S8 ok, q8⟩
          | brk =>
            obtain ⟨σ8, H8, S8, q8⟩ := hsp
            exact ⟨_, _, inv_unsuite S8 ok, q8⟩
          | cont =>
            obtain ⟨σ8, H8, S8, q8⟩ := hsp
            exact ⟨_, _, inv_unsuite S8 ok, q8⟩
          | ret u =>
            obtain ⟨v8, σ8, H8, S8, r8, q8⟩ := hsp
            exact ⟨_, _, _, inv_unsuite S8 ok, r8, q8⟩
      | @as t m ts i n b₀ suite pos' hds2 l2 hi hln ht hsu r ih =>
        intro wq h5 t5 k5
        obtain ⟨b, hb1, hyes, hno⟩ := wq
        have fl5 := flying_keeps fl3 k5
        have J5 : Inv X pins σ1 H1 { s' with heap := h5, toks := t5 } := (J.landed (s' := { s' with heap := h5, toks := t5 }) nb fl5.1 ((up.trans up3).trans (up_keeps k5)) os ag)
        obtain ⟨oe5, vs5, he5, hz5, hd5⟩ := fl5.there
        have LT : PySem.W.Looks (model X.prog X.w) h5 (typeOf (.ref a)) cls := fun A Q E s k q => wpAny_typeOf_ref (k _ _ he5) (by rw [hz5.1]; exact q)
        refine wpAny_handleBy_cons (codeAny_handlers_test (ht.run a (X.pn ++ pins) [] σ1 H1 { s' with heap := h5, toks := t5 } cls b _ _ (inv_suite J5) hb1 LT fun h6 t6 k6 => ?_)) (by intro q; cases q)
        cases b with
        | false =>
          show wpAny _ X.A (handleBy (.ref a) X.env hds2) _ _ _
          exact ih (hno rfl) h6 t6 fun c o e => k6 c o (k5 c o e)
        | true =>
          have fl6 := flying_keeps fl5 k6
          refine codeAny_handlers_suite_as ?_
          refine HandSPX.lands_againZ fl6 fun h7 fl7 up7 => ?_
          have J7 : Inv X pins σ1 H1 { s' with heap := h7, toks := t6 } := J.landed (s' := { s' with heap := h7, toks := t6 }) nb fl7.1 ((((up.trans up3).trans (up_keeps k5)).trans (up_keeps k6)).trans up7) os ag
          obtain ⟨oe7, vs7, he7, hz7, hd7⟩ := fl7.there
          have T7 : Inv X pins σ1 (upd H1 a (exH a cls d)) { s' with heap := h7, toks := t6 } := Inv_track J7 na na0 nL (fun x c e z => by
              obtain ⟨v, o, ho, hdat⟩ := J7.cell x c e
              have ho : h7.get? c = some o := ho
              rw [z, he7] at ho
              cases ho
              rw [hd7] at hdat
              cases hdat) (fun p hp z => by
              have q := (J.pin p hp).1
              rw [z, naI] at q
              cases q) (exH_ok he7 hz7 hd7)
          refine store_ok (X := X.suite a (X.pn ++ pins)) (v := .ref a) (inv_suite T7) hN hi (.inl hln) rfl (fun s5 S5 => ?_) (.inr hln)
          refine wpAny_mono ((hsu a (X.pn ++ pins)).run [] s5 _ _ _ S5 (hyes rfl a na)) (fun f s8 hsp => ?_) (fun _ _ z => False.elim z)
          have end_ : ∀ {σ6 : L2.St} {H6 : Hp} {Q : Shared → Prop}, Inv (X.suite a (X.pn ++ pins)) [] σ6 H6 s8 → (∀ s7, Inv X pins (σ6.set i none) H6 s7 → Q s7) →
              wpAny (model X.prog X.w) X.A (do bindName X.env n .none; unbindBehindTheSuite X.env n pos') (fun _ s7 => Q s7) X.xe s8 := fun {σ6 H6 Q} S6 hq => gone_ok (inv_unsuite S6 ok) hN hi hln hq
          cases f with
          | next =>
            obtain ⟨σ8, H8, S8, q8⟩ := hsp
            exact end_ S8 fun s9 J9 => ⟨_, _, J9, q8⟩
          | brk =>
            obtain ⟨σ8, H8, S8, q8⟩ := hsp
            exact end_ S8 fun s9 J9 => ⟨_, _, J9, q8⟩
          | cont =>
            obtain ⟨σ8, H8, S8, q8⟩ := hsp
            exact end_ S8 fun s9 J9 => ⟨_, _, J9, q8⟩
          | ret u =>
            obtain ⟨v8, σ8, H8, S8, r8, q8⟩ := hsp
            exact end_ S8 fun s9 J9 => ⟨_, _, _, J9, r8, q8⟩
    exact go hh wq h3 s'.toks fun _ _ z => z
  · cases f with
    | next =>
      obtain ⟨σ', H', J', q⟩ := hsp
      exact wpAny_execs_nil ⟨σ', H', J'.ofTry ok, q⟩
    | brk =>
      obtain ⟨σ', H', J', q⟩ := hsp
      exact ⟨σ', H', J'.ofTry ok, q⟩
    | cont =>
      obtain ⟨σ', H', J', q⟩ := hsp
      exact ⟨σ', H', J'.ofTry ok, q⟩
    | ret u =>
      obtain ⟨v, σ', H', J', r, q⟩ := hsp
      exact ⟨v, σ', H', J'.ofTry ok, r, q⟩
theorem takes_noN {X : Cx} : L2N.Takes X (fun _ _ _ _ => False) := fun _ _ ⟨_, _, _, _, _, _, _, _, _, _, _, _, _, _, _, _, z⟩ => z.elim
end
end Wl

/-! Own exceptions over ValueError, LookupError or ArithmeticError, whose __init__ stores its one argument under its own name; raised. -/
namespace Wl
open PySem PySem.Spec PyProof.Rows L2
/-- a built-in base of an own exception -/
structure BaseX (B newId initId : String) (bm : List Value) : Prop where
  base : ExcBaseFacts B newId initId bm
  store : StoreFacts B bm "object.__setattr__" "object"
theorem baseVE : BaseX "ValueError" "ValueError.__new__" "ValueError.__init__" [.type "ValueError", .type "Exception", .type "BaseException", .type "object"] := ⟨F.excBase_ValueError, F.store_ValueError⟩
theorem baseLE : BaseX "LookupError" "LookupError.__new__" "LookupError.__init__" [.type "LookupError", .type "Exception", .type "BaseException", .type "object"] := ⟨F.excBase_LookupError, F.store_LookupError⟩
theorem baseAE : BaseX "ArithmeticError" "ArithmeticError.__new__" "ArithmeticError.__init__" [.type "ArithmeticError", .type "Exception", .type "BaseException", .type "object"] := ⟨F.excBase_ArithmeticError, F.store_ArithmeticError⟩
/-- the first store into an exception -/
theorem osa_first {prog : Program} {w : World} {A : Around} {R : Result → Shared → Prop} {hp : Heap} {g : Array GenState} {d : Drawn} {t : Nat} {os : OsState} {K : PySem.W.Frag} {name : Str} {tk : Tok} {v : Value} {x C : Addr} {fv : Array Value} {B newId initId : String} {bm : List Value}
    (BX : BaseX B newId initId bm) (X : K.In hp) (hx : hp.get? x = some { cls := .ref C, data := .fields fv }) (ho : PySem.W.excOver K C bm = true) (hh : PySem.W.hasDictIn K C = true) (ht : PySem.W.takerIn K C name = some none)
    (hq : ∀ h' tk' dx, (∀ b o, b ≠ x → hp.get? b = some o → h'.get? b = some o) → hp.objs.size ≤ dx → dx ≠ x → h'.get? x = some { cls := .ref C, dict := some dx, data := .fields fv } →
      h'.Ns1 dx (fun y => if y = name then some v else none) → R (.ok (.ret .none)) ⟨h', g, d, tk', os⟩) :
    codeAny (model prog w) A (.call (.builtin "object.__setattr__") ⟨[.ref x, .str name tk, v], []⟩) R ⟨hp, g, d, t, os⟩ := by
  have hxs : x ≠ hp.objs.size := Nat.ne_of_lt (Heap.lt_size hx)
  obtain ⟨cd, hc, hd⟩ := PySem.W.any_some hh
  have hcls : PySem.W.Looks (model prog w) hp (classData C) cd := PySem.W.looks_clsIn X hc
  refine PySem.W.osa_openX (s := ⟨hp, g, d, t, os⟩) (od := none) BX.store X ⟨hx, rfl, rfl, trivial⟩ ho ht fun b => ?_
  show wpAny _ _ (Builtin.ObjectAttr.storeInOwnDict (.ref x) (.ref C) (.str name tk) name v b) _ _ _
  obtain ⟨nm, bs, mro, ns, qn, hdd, sn, sb, ab, col, del⟩ := cd
  dsimp only at hd
  subst hd
  unfold Builtin.ObjectAttr.storeInOwnDict Builtin.ObjectAttr.ownDictForStores
  repeat (first | with_reducible refine PySem.HandSPX.store_in_new ?_ ?_ | with_reducible refine wpAny_loadPart_at hx ?_ | with_reducible refine hcls.at ?_ | wp_step)
  · exact ⟨_, #[], _, (Heap.get?_update_ne _ _ _ _ hxs.symm).trans (Heap.get?_push_at rfl rfl), rfl, fun e he => absurd he (by simp), fun _ => rfl⟩
  · intro h' tk' hn' hs
    have h1 : (hp.push { cls := .type "dict", data := .dict #[] }).get? x = some { cls := .ref C, data := .fields fv } := Heap.get?_push_of_some _ hx
    refine hq h' tk' hp.objs.size (fun b o hb ho => ?_) (Nat.le_refl _) hxs.symm ?_ hn'
    · exact (hs.2 b (Nat.ne_of_lt (Heap.lt_size ho))).trans ((Heap.get?_update_ne _ _ _ _ hb).trans (Heap.get?_push_of_some _ ho))
    · exact (hs.2 x hxs).trans (Heap.get?_update_self _ h1 rfl)
/-- what the written part says of the own exception class x, at C, whose __init__ (self, f) stores f -/
structure OwnX (K : PySem.W.Frag) (mg : Str → Option Value) (x f : Str) (C : Addr) : Prop where
  gC : mg x = some (.ref C)
  kC : PySem.W.keepIn K (.ref C) = true
  bas : ∃ B newId initId bm, BaseX B newId initId bm ∧ PySem.W.excInitIn K C bm newId = true ∧ PySem.W.excOver K C bm = true
  sa : PySem.W.findIn K (.ref C) "__setattr__" = some (some (.builtin "object.__setattr__"))
  tk : PySem.W.takerIn K C f = some none
  no : PySem.W.findIn K (.ref C) f = some none
  exC : PySem.W.subIn K (.ref C) (.type "BaseException") = some true
  tyC : PySem.W.typeIn K (.ref C) = some (.type "type")
  hdC : PySem.W.hasDictIn K C = true
  ini : ∃ (fI : Addr) (fd : FuncData) (q : Str) (st : Stmt) (q1 q2 q3 q4 : Pos), PySem.W.findIn K (.ref C) "__init__" = some (some (.ref fI)) ∧ PySem.W.typeIn K (.ref fI) = some (.type "function") ∧ Fun K "__init__" q st fI fd ∧
    Binds K fd ["self", f] [] ∧ FnScope ["self", f] ["self", f] (defScope st) ∧ (∀ y ∈ (["self", f] : List Str), (defScope st).names.lookup y = some .local) ∧ defBody st = [.Assign [.Attribute (.Name "self" q1) f q2] (.Name f q3) q4]
/-- what __init__ leaves of a fresh exception at x -/
structure InitDone (h h' : Heap) (x C dx t1 : Addr) (f : Str) (v : Value) : Prop where
  keep : ∀ b o, b ≠ x → h.get? b = some o → h'.get? b = some o
  obj : h'.get? x = some { cls := .ref C, dict := some dx, data := .fields #[.ref t1, .none, .none, .none, .bool false, .none] }
  dbig : h.objs.size ≤ dx
  dne : dx ≠ x
  ns : h'.Ns1 dx (fun y => if y = f then some v else none)
/-- a made one -/
structure MadeX (h h' : Heap) (e C d : Addr) (f : Str) (v : Value) : Prop where
  keep : ∀ b o, h.get? b = some o → h'.get? b = some o
  new : h.objs.size ≤ e
  obj : ∃ vs, h'.get? e = some { cls := .ref C, dict := some d, data := .fields vs } ∧ vs[1]? = some .none ∧ vs[2]? = some .none
  dbig : h.objs.size ≤ d
  dne : d ≠ e
  ns : h'.Ns1 d (fun y => if y = f then some v else none)
theorem one_line (v : Value) : [v].length ≤ sizeLine := by
  show 1 ≤ sizeLine
  decide
section
variable {prog : Program} {w : World} {A : Around} {R : Result → Shared → Prop} {s : Shared} {K : PySem.W.Frag} {mg : Str → Option Value} {x f : Str} {C : Addr}
theorem own_init (T : OwnX K mg x f C) (nf : f ≠ "self") (ndb : (f == ("__debug__" : Str)) = false) {e t0 fI : Addr} {v : Value} (hfI : PySem.W.findIn K (.ref C) "__init__" = some (some (.ref fI))) (X : K.In s.heap) (hlim : s.heap.NoLimit) (hx : s.heap.get? e = some (HandSPX.excO C t0)) (hnx : K.lookup e = none) (hroom : A.depth < recursionLimit)
    (hq : ∀ h' tk dx, InitDone s.heap h' e C dx t0 f v → R (.ok (.ret .none)) { s with heap := h', toks := tk }) : codeAny (model prog w) A (.call (.ref fI) ⟨[.ref e, v], []⟩) R s := by
  obtain ⟨f2, fd, q, st, q1, q2, q3, q4, hf2, tI, hF, hB, hS, hL, hbody⟩ := T.ini
  obtain rfl : f2 = fI := by
    rw [hfI] at hf2
    cases hf2
    rfl
  obtain ⟨oc, od, kV, doc, pm, an, cdv, ct, osl, rfl, lk, hcd⟩ := hF.ex
  obtain ⟨B, newId, initId, bm, BX, _, hov⟩ := T.bas
  have hb := hB s [.ref e, v] X rfl
  have hb : BindsTo s (PySem.W.fnOf "__init__" q (defArgs st) (defBody st) (defScope st) .none kV doc pm an cdv ct) ⟨[.ref e, v], []⟩ [("self", .ref e), (f, v)] := hb
  refine Att.call_fn (binds := [("self", .ref e), (f, v)]) X hlim lk hcd hroom hb ?_ (fun s₁ IC => ?_) hS.co hS.gen hS.kind
  · simp only [List.all_cons, List.all_nil, Bool.and_true]
    rw [hL "self" (by simp), hL f (by simp)]
    rfl
  obtain ⟨h₁, tk₁, rfl⟩ := IC.toInCall.same
  have k : ∀ b o, s.heap.get? b = some o → h₁.get? b = some o := IC.toInCall.keep
  have hn := IC.toInCall.ns
  have X₁ : K.In h₁ := X.keeps k
  have hx₁ := k _ _ hx
  have kself : (envOfC q (defScope st) s.heap.objs.size f2 cdv).kindOf "self" = some .local := hL "self" (by simp)
  have kf : (envOfC q (defScope st) s.heap.objs.size f2 cdv).kindOf f = some .local := hL f (by simp)
  have m1 : bindL (envOfC q (defScope st) s.heap.objs.size f2 cdv).kindOf [("self", .ref e), (f, v)] (fun _ => none) "self" = some (.ref e) := bindL_get (P := ["self", f]) (vs := [.ref e, v]) (i := 0) hS.nd rfl rfl kself
  have m2 : bindL (envOfC q (defScope st) s.heap.objs.size f2 cdv).kindOf [("self", .ref e), (f, v)] (fun _ => none) f = some v := bindL_get (P := ["self", f]) (vs := [.ref e, v]) (i := 1) hS.nd rfl rfl kf
  rw [hbody]
  show wpAny _ _ (execs _ _) _ _ _
  refine wpAny_execs_cons (plainObj_wpAny_Assign_Attribute ?_)
  refine wpAny_Name (wpAny_loadName_local hS.kind kf hn m2 ?_) ndb
  refine wpAny_Name (wpAny_loadName_local hS.kind kself hn m1 ?_) (by decide)
  refine PySem.W.set_plain X₁ (ox := HandSPX.excO C t0) (od := none) ⟨hx₁, rfl, rfl, trivial⟩ T.sa ?_
  refine osa_first BX X₁ hx₁ hov T.hdC T.tk (fun h₃ tk₃ dx k₃ dn dne hx₃ hn₃ => ?_)
  show wpAny _ _ (execs _ _) _ _ _
  have z : s.heap.objs.size < h₁.objs.size := hn.lt
  exact wpAny_execs_nil (hq h₃ tk₃ dx ⟨fun b o hb e => k₃ b o hb (k b o e), hx₃, Nat.le_of_lt (Nat.lt_of_lt_of_le z dn), dne, hn₃⟩)
theorem own_made (T : OwnX K mg x f C) (nf : f ≠ "self") (ndb : (f == ("__debug__" : Str)) = false) {v : Value} (X : K.In s.heap) (hlim : s.heap.NoLimit) (hroom : A.depth + 1 < recursionLimit)
    (hq : ∀ h' tk e d, MadeX s.heap h' e C d f v → R (.ok (.ret (.ref e))) { s with heap := h', toks := tk }) : codeAny (model prog w) A (.call (.ref C) ⟨[v], []⟩) R s := by
  obtain ⟨B, newId, initId, bm, BX, hini, hov⟩ := T.bas
  obtain ⟨nm, N', qn, bs, bmC, hdct, sn, sub, ab, col, dd, k0, k1, k2, k3, k5, hC, hT⟩ := PySem.W.excInit_of X hini
  obtain ⟨fI, _, _, _, _, _, _, _, hfI, tI, _⟩ := T.ini
  obtain ⟨hp, g, dr, tk, os⟩ := s
  have k : ∀ b o, hp.get? b = some o → ((hp.push (PySem.W.kdv_tup [v])).push (HandSPX.excO C hp.objs.size)).get? b = some o := fun b o e => Heap.get?_push_of_some _ (Heap.get?_push_of_some _ e)
  have hget : ((hp.push (PySem.W.kdv_tup [v])).push (HandSPX.excO C hp.objs.size)).get? (hp.objs.size + 1) = some (HandSPX.excO C hp.objs.size) := by heap_get
  have hnx : K.lookup (hp.objs.size + 1) = none := by
    cases e : K.lookup (hp.objs.size + 1) with
    | none => rfl
    | some o =>
      have z : hp.get? (hp.objs.size + 1) = some o := X _ _ e
      exact absurd (Nat.lt_of_succ_lt (Heap.lt_size z)) (Nat.lt_irrefl _)
  refine HandSPX.call_own BX.base hT hC (PySem.W.looks_findIn X hfI) (fun self => PySem.W.bind_fn X self tI) (one_line v) ?_
  refine own_init (s := ⟨(hp.push (PySem.W.kdv_tup [v])).push (HandSPX.excO C hp.objs.size), g, dr, tk, os⟩) T nf ndb hfI (X.keeps k) (hlim.keeps k) hget hnx ?_ fun h' tk' dx hD => ?_
  · show A.depth + 1 < recursionLimit
    exact hroom
  · obtain ⟨k', hx, dn, dne, hns⟩ := hD
    have old : ∀ b o, hp.get? b = some o → h'.get? b = some o := fun b o e => k' b o (Nat.ne_of_lt (Nat.lt_succ_of_lt (Heap.lt_size e))) (k b o e)
    have z : hp.objs.size + 1 + 1 ≤ dx := by
      have q := dn
      rw [Heap.size_push, Heap.size_push] at q
      exact q
    exact ⟨rfl, hq h' tk' (hp.objs.size + 1) dx ⟨old, Nat.le_succ _, ⟨_, hx, rfl, rfl⟩, Nat.le_trans (Nat.le_trans (Nat.le_succ _) (Nat.le_succ _)) z, dne, hns⟩⟩
end
theorem relO_one {v : V} {u : Value} (r : RelV v u) (f g : Str) : RelO (List.lookup g [(f, v)]) (if g = f then some u else none) := by
  by_cases h : g = f
  · subst h
    rw [if_pos rfl]
    have q : List.lookup g [(g, v)] = some v := by simp [List.lookup]
    rw [q]
    exact r
  · rw [if_neg h]
    have qw : (g == f) = false := by simpa using h
    have q : List.lookup g [(f, v)] = none := by simp [List.lookup, qw]
    rw [q]
    trivial
section
variable {X : Cx} {C : Addr}
/-- x(e) -/
def tMkX (C : Addr) (f : Str) (ta : TA) : L2.St → Hp → XK → Prop := fun σ H Q => ta σ H fun vs H1 => ∃ v, vs = [v] ∧ ∀ d, H1 d = none → Q (.ref C) (some d) (upd H1 d (.xd [(f, v)]))
theorem pmk_x {x f : Str} {a : Expr} {ta : TA} {p pos : Pos} {k : Nat} (T : OwnX X.K X.mg x f C) (hr : Room k X.A) (ha : PA X [a] ta) (nf : f ≠ "self" := by decide) (ndb : (f == ("__debug__" : Str)) = false := by decide) (hg : Gl X x := by rfl) (hdb : (x == ("__debug__" : Str)) = false := by decide)
    (he : starEach (a :: []) X.env = (false, eval a X.env) :: starEach [] X.env := by rfl) (hpl : (backTo pos (starEach [] X.env)).any (·.1) = false := by rfl) :
    L2N.PMk X (.Call (.Name x p) [a] [] pos) (tMkX C f ta) := by
  intro pins s σ H Q I h
  refine wpAny_Call_Name_kw (ld_glob I hg T.gC ?_ hdb)
  refine PySem.W.callWith_K (h₀ := X.base) I.ok.mod.kin T.kC (thn (ha.run pos pins s σ H _ I h) fun us s1 hh => ?_) he hpl
  obtain ⟨vs, H1, I1, r1, v, ev, q1⟩ := hh
  subst ev
  refine ⟨I1.kIn, ?_⟩
  cases r1 with
  | cons rv rn =>
    rename_i v' us'
    cases rn
    show wpAny _ _ (call (.ref C) [v']) _ _ _
    have hlim := I1.nolimit
    obtain ⟨hp, g, dr, tk, os⟩ := s1
    refine wpAny_call (own_made T nf ndb I1.kIn hlim (by have := hr.dp; omega) fun h' tk' e d M => ?_)
    show L2N.MkP X pins σ Q (.ref e) ⟨h', g, dr, tk', os⟩
    obtain ⟨fv, hoe, h1, h2⟩ := M.obj
    have hns := M.ns
    obtain ⟨G', g1, g2⟩ := restrict h' fun b => decide (b ≠ e)
    have gk : ∀ b, b ≠ e → G'.get? b = h'.get? b := fun b hb => g1 b (decide_eq_true hb)
    have ge : G'.get? e = none := g2 e (by simp)
    have old : ∀ b o, hp.get? b = some o → G'.get? b = some o := fun b o q => (gk b (Nat.ne_of_lt (Nat.lt_of_lt_of_le (Heap.lt_size q) M.new))).trans (M.keep b o q)
    have ob : ObjOk X.prog X.w (upd H1 d (.xd [(f, v)])) G' d (.xd [(f, v)]) := ⟨_, hns.at (fun o q => (gk d M.dne).trans q), fun y => relO_one rv f y⟩
    have J : Inv X pins σ (upd H1 d (.xd [(f, v)])) ⟨G', g, dr, tk', os⟩ := I1.laid (t' := tk') old M.dbig ob
    refine ⟨e, _, fv, ⟨G', g, dr, tk', os⟩, _, .ref C, some d, rfl, J, fun b o q => ?_, ge, hoe, ⟨rfl, rfl, fun vs q => ?_⟩, rfl, h1, ?_, rfl, I1.bare, raises_own T.exC T.tyC, q1 d (I1.hok.fresh M.dbig)⟩
    · by_cases hb : b = e
      · have q' : G'.get? b = some o := q
        rw [hb, ge] at q'
        cases q'
      · exact (gk b hb).symm.trans q
    · obtain rfl : fv = vs := Data.fields.inj q
      exact h2
    · rw [upd_ne (Ne.symm M.dne)]
      exact I1.hok.fresh M.new
theorem ps_raiseX {x f : Str} {a : Expr} {ta : TA} {W : WX} {p pos pos2 : Pos} {k : Nat} (hc : X.calm = true) (T : OwnX X.K X.mg x f C) (hr : Room k X.A) (tk : L2N.Takes X W) (ha : PA X [a] ta) (nf : f ≠ "self" := by decide) (ndb : (f == ("__debug__" : Str)) = false := by decide) (hg : Gl X x := by rfl)
    (hdb : (x == ("__debug__" : Str)) = false := by decide) (he : starEach (a :: []) X.env = (false, eval a X.env) :: starEach [] X.env := by rfl) (hpl : (backTo pos (starEach [] X.env)).any (·.1) = false := by rfl) :
    PS X (.Raise (some (.Call (.Name x p) [a] [] pos)) none pos2) (fun _ σ H => tMkX C f ta σ H fun cls d H' => W cls d σ H') := L2N.ps_raise hc tk (pmk_x T hr ha nf ndb hg hdb he hpl)
end
end Wl

/-! Where an exception is being handled: defs called, comprehensions over range. -/
namespace Wl
open PySem PySem.Spec PyProof.Rows L2
/-- what is handled stands at a, tracked -/
def HotH (a : Addr) (H : Hp) : Prop := ∃ cls d, H a = some (exH a cls d)
theorem HotH.same {a : Addr} {H H' : Hp} (h : HotH a H) (s : Same H H') : HotH a H' := by
  obtain ⟨cls, d, e⟩ := h
  exact ⟨cls, d, s _ _ e⟩
/-- a def called there, its promise -/
structure FnT (P : Program) (w : World) (K : PySem.W.Frag) (mg : Str → Option Value) (base : Heap) (CX : CXT) (k : Nat) (f : Addr) (fd : FuncData) (ps : List Str) (sp : Addr → Sp) : Prop where
  len : ∀ a vs H Q E, sp a vs H Q E → vs.length = ps.length
  run : ∀ (A : Around) (outer : List Env) (s : Shared) (H : Hp) (args : Args) (us : List Value) (vs : List V) (Q : VK) (E : XK) (a : Addr), L2H.RoomH k A → A.handled = some (.ref a) → HotH a H → Env0 P w K mg base A outer s H → BindsTo s fd args (ps.zip us) → Vals vs us → sp a vs H Q E →
    codeAny (model P w) A (.call (.ref f) args) (CR CX outer P w H s Q E) s
/-- the body's context -/
def cxT (CX : CXT) (P : Program) (w : World) (K : PySem.W.Frag) (mg : Str → Option Value) (base : Heap) (N : List Str) (qual : Str) (scope : Scope) (f : Addr) (cd : Value) (A : Around) (outer : List Env) (s : Shared) (H : Hp) (E : XK) : Cx :=
  { cxOf CX P w K mg base N qual scope f cd A outer s H E with calm := false }
section
variable {P : Program} {w : World} {K : PySem.W.Frag} {mg : Str → Option Value} {base : Heap} {CX : CXT}
theorem inv_startT {N ps : List Str} {qual : Str} {scope : Scope} {f : Addr} {cd : Value} {A : Around} {outer : List Env} {s s1 : Shared} {H : Hp} {E : XK} {us : List Value} {vs : List V} (S : FnScope N ps scope) (e0 : Env0 P w K mg base A outer s H) (hl : vs.length = ps.length) (r : Vals vs us)
    (x : InCallC s s.heap.objs.size (bindL (envOfC qual scope s.heap.objs.size f cd).kindOf (ps.zip us) fun _ => none) (cellsFrom (s.heap.objs.size + 1) scope.names []) (bindC (envOfC qual scope s.heap.objs.size f cd).kindOf (ps.zip us) fun _ => none) s1) :
    Inv (cxT CX P w K mg base N qual scope f cd A outer s H E) [] (L2.start N vs) H s1 := by
  obtain ⟨oG, es, ep, hG, hd, _⟩ := e0.mod.glob
  have b0 := e0.bs _ _ hG
  have pin : L2H.PinOk outer H s (mainGlobals, oG) := ⟨b0.1, b0.2, fun hm => (by
    have z := (e0.funs.mem hm).1
    rw [hG] at z
    cases z), fun v z => (by
    have z : oG.data = .cell v := z
    rw [hd] at z
    cases z)⟩
  have I := L2H.inv_startH (CX := CX) (E := E) S pin e0 hl r x
  refine ⟨(Cx.Ok.toTry I.ok [] (cxT CX P w K mg base N qual scope f cd A outer s H E).xe), I.os, I.bare, I.base, I.loc, I.cell, I.free, I.freeC, fun p hp => ?_, I.hok, I.len⟩
  exact absurd (show p ∈ ([] : List (Addr × Obj)) ++ [] from hp) (by simp)
theorem fn_ofT {k : Nat} {f : Addr} {name qual : Str} {params : Arguments} {body : List Stmt} {scope : Scope} {dV kV doc pm cdv ct oc : Value} {an od : Option Addr} {osl : Array (Option Value)} {N ps : List Str} {sp : Addr → Sp}
    (lk : K.lookup f = some ⟨oc, od, .func (PySem.W.fnOf name qual params body scope dV kV doc pm an cdv ct), osl⟩) (hcd : PySem.W.codeIn K cdv qual = true) (S : FnScope N ps scope) (len : ∀ a vs H Q E, sp a vs H Q E → vs.length = ps.length)
    (hbody : ∀ (A : Around) (outer : List Env) (s : Shared) (H : Hp) (vs : List V) (Q : VK) (E : XK) (a : Addr), A.handled = some (.ref a) → HotH a H → L2H.RoomH k (A.deeper (envOfC qual scope s.heap.objs.size f cdv)) → sp a vs H Q E →
      ∃ t, PSs (cxT CX P w K mg base N qual scope f cdv A outer s H E) body t ∧ t { nx := fun _ H' => Q .non H', rt := Q } (L2.start N vs) H) :
    FnT P w K mg base CX (k + 1) f (PySem.W.fnOf name qual params body scope dV kV doc pm an cdv ct) ps sp := by
  refine ⟨len, ?_⟩
  intro A outer s H args us vs Q E a hr hot hh e0 hb r hsp
  have hl := len _ _ _ _ _ hsp
  have KX : K.In s.heap := e0.mod.kin.keeps fun b o e => (e0.bs b o e).1
  have lim : s.heap.NoLimit := e0.mod.nolimit.keeps fun b o e => (e0.bs b o e).1
  refine codeAny_call_function hr.depth (KX _ _ lk) rfl S.co S.gen rfl (PySem.W.codeRec_of KX hcd) (hb _ _ _ _ ?_)
  refine wpAny_newFunctionEnv_cells S.kind (fun ⟨n, v⟩ hy => ?_) fun env he s1 x => ?_
  · rcases S.par n (List.of_mem_zip hy).1 with q | q
    · exact .inl q
    · exact .inr ⟨q, PySem.W.cellsFrom_some _ _ _ (.inl q)⟩
  subst he
  refine ⟨lim.keeps x.toInCall.keep, codeAny_func ?_⟩
  obtain ⟨t, ht, hq⟩ := hbody A outer s H vs Q E a hot hh (hr.deeper _) hsp
  refine wpAny_mono (ht.run [] s1 (L2.start N vs) H _ (inv_startT S e0 hl r x) hq) (fun fl s' hs => ?_) fun e s' hs => hs
  have fin : ∀ {σ' : L2.St} {H' : Hp} {v : V} {u : Value}, Inv (cxT CX P w K mg base N qual scope f cdv A outer s H E) [] σ' H' s' → RelV v u → Q v H' → CE outer P w H s Q u s' := by
    intro σ' H' v u J rv q
    exact ⟨v, H', J.os, J.bare, J.base, J.hok, rv, q⟩
  cases fl with
  | ret u =>
    obtain ⟨v, σ', H', J, rv, q⟩ := hs
    exact fin J rv q
  | next =>
    obtain ⟨σ', H', J, q⟩ := hs
    exact fin (v := V.non) (u := Value.none) J rfl q
  | brk =>
    obtain ⟨_, _, _, q⟩ := hs
    exact False.elim q
  | cont =>
    obtain ⟨_, _, _, q⟩ := hs
    exact False.elim q
theorem FunT_ok {x qual : Str} {st : Stmt} {f : Addr} {fd : FuncData} {N ps : List Str} {k : Nat} {sp : Addr → Sp} (F : Fun K x qual st f fd) (S : FnScope N ps (defScope st)) (len : ∀ a vs H Q E, sp a vs H Q E → vs.length = ps.length)
    (hbody : ∀ (cdv : Value) (A : Around) (outer : List Env) (s : Shared) (H : Hp) (vs : List V) (Q : VK) (E : XK) (a : Addr), A.handled = some (.ref a) → HotH a H → L2H.RoomH k (A.deeper (envOfC qual (defScope st) s.heap.objs.size f cdv)) → sp a vs H Q E →
      ∃ t, PSs (cxT CX P w K mg base N qual (defScope st) f cdv A outer s H E) (defBody st) t ∧ t { nx := fun _ H' => Q .non H', rt := Q } (L2.start N vs) H) : FnT P w K mg base CX (k + 1) f fd ps sp := by
  obtain ⟨oc, od, kV, doc, pm, an, cdv, ct, osl, rfl, lk, hcd⟩ := F.ex
  exact fn_ofT lk hcd S len fun A outer s H vs Q E a hot hh hr hsp => hbody cdv A outer s H vs Q E a hot hh hr hsp
/-- defs that keep promises there, by name -/
def HasT (P : Program) (w : World) (K : PySem.W.Frag) (mg : Str → Option Value) (base : Heap) (x : Str) (k : Nat) (ps : List Str) (sp : Addr → Sp) : Prop :=
  ∃ f fd, FnT P w K mg base CX0 k f fd ps sp ∧ mg x = some (.ref f) ∧ PySem.W.keepIn K (.ref f) = true ∧ Binds K fd ps []
end
section
variable {X : Cx} {k j : Nat} {ps : List Str} {sp : Addr → Sp} {x : Str} {p pos : Pos} {e : Expr} {es : List Expr} {t : TA} {hd : Addr}
/-- f(..), where what stands at hd is being handled -/
def tCallT (hd : Addr) (sp : Addr → Sp) (t : TA) : TE := fun σ H Q => t σ H fun vs H1 => HotH hd H1 ∧ sp hd vs H1 Q E0
theorem pe_ht (h : HasT X.prog X.w X.K X.mg X.base x k ps sp) (hr : L2H.RoomH j X.A) (hot : X.A.handled = some (.ref hd)) (ha : PA X (e :: es) t) (hkj : k ≤ j := by decide) (hg : Gl X x := by rfl) (hdb : (x == ("__debug__" : Str)) = false := by decide)
    (he : starEach (e :: es) X.env = (false, eval e X.env) :: starEach es X.env := by rfl) (hpl : (backTo pos (starEach es X.env)).any (·.1) = false := by rfl) :
    PE X (.Call (.Name x p) (e :: es) [] pos) (tCallT hd sp t) := by
  obtain ⟨f, fd, F, g, kp, b⟩ := h
  refine ⟨fun pins s σ H Q I h => ?_⟩
  refine wpAny_Call_Name_kw (ld_glob I hg g ?_ hdb)
  refine PySem.W.callWith_K (h₀ := X.base) I.ok.mod.kin kp (thn (ha.run pos pins s σ H _ I h) fun us s1 ⟨vs, H1, I1, r, hh, q⟩ => ⟨I1.kIn, ?_⟩) he hpl
  have hl : us.length = ps.length := by
    rw [← r.length]
    exact F.len _ _ _ _ _ q
  have bb := b s1 us I1.kIn (by rw [List.append_nil]; exact hl)
  rw [List.append_nil] at bb
  refine wpAny_call (codeAny_mono (F.run X.A X.stack s1 H1 ⟨us, []⟩ us vs Q E0 hd (hr.mono hkj) hot hh I1.env0 bb r q) fun r s' hq => ?_)
  cases r with
  | error e => exact False.elim hq
  | ok fl =>
    cases fl with
    | ret u => exact I1.after hq
    | next => exact False.elim hq
    | brk => exact False.elim hq
    | cont => exact False.elim hq
end
/-! ### comprehensions -/
/-- an iterator's turns, there: its end asks for what is handled -/
def ItHot (hd : Addr) (J : It) : It := { go := J.go, yld := J.yld, stop := fun i H => J.stop i H ∧ HotH hd H }
structure TurnT (P : Program) (w : World) (K : PySem.W.Frag) (hd : Addr) (tg : Expr) (J : It) (fp : List Addr) (it : Addr) (tn : Nat → Heap → Prop) : Prop where
  mem : it ∈ fp
  obj : ∀ i h, tn i h → ∀ b ∈ fp, ∃ o, h.get? b = some o ∧ ∀ v, o.data ≠ .cell v
  keep : ∀ i h h', tn i h → (∀ b ∈ fp, ∀ o, h.get? b = some o → h'.get? b = some o) → tn i h'
  item : ∀ (X : Cx), X.prog = P → X.w = w → X.K = K → X.A.handled = some (.ref hd) → ∀ (i : Nat) (pins : List (Addr × Obj)) (s : Shared) (σ : L2.St) (H : Hp) (E : Value → Shared → Prop), Inv X pins σ H s → (∀ b ∈ fp, FpOk X pins H b) → tn i s.heap → J.go i H →
    wpAny (model P w) X.A (pyNext (.ref it)) (fun r s1 => ∃ u, r = some u ∧
      wpAny (model P w) X.A (letOwnedTupleGo tg (.ref it) u) (fun _ s2 => ∃ x H', Inv X pins σ H' s2 ∧ RelV x u ∧ J.yld i H x H' ∧ tn (i + 1) s2.heap ∧ ∀ b ∈ fp, H' b = none) E s1) E s
  done : ∀ (X : Cx), X.prog = P → X.w = w → X.K = K → X.A.handled = some (.ref hd) → ∀ (i : Nat) (pins : List (Addr × Obj)) (s : Shared) (σ : L2.St) (H : Hp) (E : Value → Shared → Prop), Inv X pins σ H s → (∀ b ∈ fp, FpOk X pins H b) → tn i s.heap → J.stop i H → HotH hd H →
    wpAny (model P w) X.A (pyNext (.ref it)) (fun r s1 => r = none ∧ Inv X pins σ H s1) E s
  self : ∀ (A : Around) (i : Nat) (s : Shared) (Q : Value → Shared → Prop) (E : Value → Shared → Prop), tn i s.heap → Q (.ref it) s → wpAny (model P w) A (pyIter (.ref it)) Q E s
theorem turn_rangeT {P : Program} {w : World} {K : PySem.W.Frag} {hd : Addr} {tg : Expr} (it : Addr) (lo : Int) (n : Nat) : TurnT P w K hd tg (Itr lo n) [it] it (fun i h => IsRangeIter h it (lo + (i : Nat) * 1) ((n : Int) - (i : Nat)) 1) where
  mem := by simp
  obj := by
    intro i h st b hb
    obtain rfl : b = it := by simpa using hb
    refine ⟨_, st, fun v z => ?_⟩
    have z' : Data.fields _ = Data.cell v := z
    cases z'
  keep := fun i h h' st k => k it (by simp) _ st
  item := by
    intro X hP hw hK hc i pins s σ H E I hf st hg
    subst hP hw hK
    obtain ⟨f0, f1, f2, f3, f4, f5⟩ := hf it (by simp)
    have hlt : i < n := hg
    refine wpAny_pyNext_range_item st (by omega) fun h' st' sb => ?_
    have e1 : lo + ((i : Nat) : Int) * 1 + 1 = lo + ((i + 1 : Nat) : Int) * 1 := by omega
    have e2 : (n : Int) - ((i : Nat) : Int) - 1 = (n : Int) - ((i + 1 : Nat) : Int) := by omega
    rw [e1, e2] at st'
    have J1 : Inv X pins σ H { s with heap := h', toks := s.toks + 1 } := I.turned (fun b o hb e => (sb.2 b hb).trans e) f0 f1 f3 f4 f5
    refine ⟨_, rfl, go_of (s := { s with heap := h', toks := s.toks + 1 }) (n := "range_iterator") st' rfl rfl (by decide) ⟨.int (lo + i), H, J1, ⟨s.toks, ?_⟩, ⟨rfl, rfl⟩, st', fun b hb => (hf b hb).1⟩⟩
    rw [Int.mul_one]
  done := by
    intro X hP hw hK hc i pins s σ H E I hf st hg hh
    subst hP hw hK
    obtain ⟨f0, f1, f2, f3, f4, f5⟩ := hf it (by simp)
    obtain ⟨cls, d, ea⟩ := hh
    exact HotX.pyNext_range_end_hot (exH_hot I.hok ea hc) st (by have : n ≤ i := hg; omega) fun h' eb => ⟨rfl, I.turned (t' := s.toks) (fun b o _ e => eb b o e) f0 f1 f3 f4 f5⟩
  self := fun _ _ _ _ _ st h => wpAny_pyIter_rangeiter st h
def PIET (X : Cx) (hd : Addr) (pins : List (Addr × Obj)) (σ : L2.St) (tg : Expr) (R : It → Hp → Prop) (itv : Value) (s2 : Shared) : Prop :=
  ∃ (it : Addr) (fp : List Addr) (tn : Nat → Heap → Prop) (J : It) (H' : Hp), itv = .ref it ∧ Inv X pins σ H' s2 ∧ TurnT X.prog X.w X.K hd tg J fp it tn ∧ tn 0 s2.heap ∧ (∀ b ∈ fp, FpOk X pins H' b) ∧ R (ItHot hd J) H'
structure PIT (X : Cx) (hd : Addr) (tg iter : Expr) (wi : TI) : Prop where
  run : ∀ (pins : List (Addr × Obj)) (s : Shared) (σ : L2.St) (H : Hp) (R : It → Hp → Prop), Inv X pins σ H s → wi σ H R →
    wpAny (model X.prog X.w) X.A (eval iter X.env) (fun v s1 => wpAny (model X.prog X.w) X.A (pyIter v) (PIET X hd pins σ tg R) X.xe s1) X.xe s
/-- range(n) there -/
def iRngT (hd : Addr) (ta : TA) : TI := fun σ H R => ta σ H fun vs H1 => ∃ n : Nat, vs = [.int n] ∧ n ≤ 1000 ∧ R (ItHot hd (Itr 0 n)) H1
theorem pi_rangeT {X : Cx} {hd : Addr} {tg : Expr} {a : Expr} {ta : TA} {p pos : Pos} (hg : Gl X "range") (hm : X.mg "range" = none) (ha : PA X [a] ta) (hs : starEach [a] X.env = [(false, eval a X.env)] := by rfl) : PIT X hd tg (.Call (.Name "range" p) [a] [] pos) (iRngT hd ta) := by
  refine ⟨fun pins s σ H R I h => ?_⟩
  refine Call_ (ld_blt I hg hm boot_range (PyProof.Rows.callWith_type1 (thn (ha.run pos pins s σ H _ I h) fun us s1 hh => ?_) hs rfl))
  obtain ⟨vs, H1, J1, r1, n, e, hn, q⟩ := hh
  subst e
  obtain ⟨u, rfl, t, rfl⟩ := vals1 r1
  refine call_range_1 ?_
  refine wpAny_pyIter_range (IsRange.new ..) (small_one (by omega) (by omega) (by omega) (by omega)) ?_
  have J2 : Inv X pins σ H1 { s1 with heap := s1.heap.push { cls := .type "range", data := .fields #[.int 0 s1.toks, .int n t, .int 1 (s1.toks + 1)] }, toks := s1.toks + 2 } := J1.kept fun b o e => Heap.get?_push_of_some _ e
  refine ⟨_, [_], _, _, H1, rfl, J2.kept (t' := s1.toks + 2) fun b o e => Heap.get?_push_of_some _ e, turn_rangeT _ 0 n, ?_, fun b hb => ?_, q⟩
  · have e2 : ((n : Int)) - ((0 : Nat) : Int) = Builtin.Range.rangeSize 0 n 1 := by rw [rangeSize_one]; split <;> omega
    show IsRangeIter _ _ ((0 : Int) + ((0 : Nat) : Int) * 1) ((n : Int) - ((0 : Nat) : Int)) 1
    rw [e2]
    exact Heap.get?_push_size _ rfl
  · obtain rfl := List.mem_singleton.mp hb
    exact J2.fpOk (Nat.le_refl _) (J2.hok.fresh (Nat.le_refl _))
end Wl

/-! [e for x in it if ..] where an exception is being handled. -/
namespace Wl
open PySem PySem.Spec PyProof.Rows L2
section
variable {X : Cx} {hd : Addr}
theorem lcT_core {pins : List (Addr × Obj)} {s : Shared} {σ : L2.St} {H : Hp} {Q : VK} {elt tg iter : Expr} {ifs : List Expr} {scope : Scope} {own : List (Str × Nat)} {pos pos' : Pos} {wi : TI} {g : TG} {tt : TT} {te : TE} {use : Option (Value → Sem Unit)} {Qf : Value → Shared → Prop}
    (hot : X.A.handled = some (.ref hd)) (hN : X.N.Nodup) (I : Inv X pins σ H s) (hi : PIT X hd tg iter wi) (ok : BlkOk X.N X.env.scope scope own)
    (hg : ∀ (s : Shared) (H : Hp) (C : Addr) (cl : List (Str × Addr)) (fp : List Addr), PG (X.blk s H scope (compEnvC scope cl C X.env) fp) tg g)
    (ht : ∀ (s : Shared) (H : Hp) (C : Addr) (cl : List (Str × Addr)) (fp : List Addr), PTs (X.blk s H scope (compEnvC scope cl C X.env) fp) ifs tt)
    (he : ∀ (s : Shared) (H : Hp) (C : Addr) (cl : List (Str × Addr)) (fp : List Addr), PE (X.blk s H scope (compEnvC scope cl C X.env) fp) elt te) (hs : ∀ x, foldedSetIterable iter X.env x = pure x) (h : tLc wi g tt te (own.map (·.2)) σ H Q)
    (hEnd : ∀ L C s' m H', Inv X pins σ H' s' → Q (.ref L) H' → s'.heap.Ns C m → FpOk X pins H' C → compPost (model X.prog X.w) X.A X.xe use Qf (.ref L) C (.ok .next) s') :
    wpAny (model X.prog X.w) X.A (comprehension (.ListComp elt [⟨tg, iter, ifs, 0⟩] scope pos) scope X.env pos' (newList []) false (eval iter X.env) use) Qf X.xe s := by
  refine wpAny_comprehension_free (use := use) rfl hs (closure_ok fun y hy e => ?_) ok.kind (fun y hy e => by rw [ok.uniq y hy, e]) (thn (hi.run pins s σ H _ I h) fun xv sA hx => thn hx fun itv sB hB => ?_)
  · exact (ok.free y hy e).elim (fun k => I.ok.has _ (.inl k)) (fun k => I.ok.has _ (.inr k))
  obtain ⟨it, fp, tn, J, HB, ei, IB, T, stB, fB, q⟩ := hB
  subst ei
  refine wpAny_newObj_type (newEnv_comp ?_) (by show 0 ≤ sizeLine; decide)
  generalize hL : sB.heap.objs.size = L
  have hLn : HB L = none := IB.hok.fresh (Nat.le_of_eq hL)
  obtain ⟨W, ⟨m0, w0⟩, turn⟩ := q L hLn
  generalize hsC : ({ sB with heap := sB.heap.push { cls := .type "list", data := .seq ([] : List Value).toArray } } : Shared) = sC
  have IC : Inv X pins σ (upd HB L (.lst [])) sC := by
    subst hsC
    refine IB.laid (t' := sB.toks) (fun b o e => Heap.get?_push_of_some _ e) (Nat.le_of_eq hL) ⟨Nat.zero_le _, [], 0, .nil, ?_⟩
    subst hL
    exact Heap.get?_push_size _ rfl
  have eC : sC.heap = sB.heap.push { cls := .type "list", data := .seq ([] : List Value).toArray } := by rw [← hsC]
  have fC : ∀ b ∈ fp, FpOk X pins (upd HB L (.lst [])) b ∧ b < sC.heap.objs.size := by
    intro b hb
    obtain ⟨o, e, _⟩ := T.obj _ _ stB b hb
    have hlt : b < sB.heap.objs.size := Heap.lt_size e
    refine ⟨⟨?_, (fB b hb).2⟩, by rw [eC, Heap.size_push]; exact Nat.lt_succ_of_lt hlt⟩
    rw [upd_ne (by rw [← hL]; exact Nat.ne_of_lt hlt)]
    exact (fB b hb).1
  have stC : tn 0 sC.heap := T.keep _ _ _ stB fun b _ o e => by rw [eC]; exact Heap.get?_push_of_some _ e
  have ID := block_start IC ok hN fC
  have pg := hg sC (upd HB L (.lst [])) sC.heap.objs.size (cellsFrom (sC.heap.objs.size + 1) scope.names (cloFrom X.env.cells scope.names [])) fp
  have pt := ht sC (upd HB L (.lst [])) sC.heap.objs.size (cellsFrom (sC.heap.objs.size + 1) scope.names (cloFrom X.env.cells scope.names [])) fp
  have pe := he sC (upd HB L (.lst [])) sC.heap.objs.size (cellsFrom (sC.heap.objs.size + 1) scope.names (cloFrom X.env.cells scope.names [])) fp
  show codeAny _ _ (.compStart (.ListComp elt [⟨tg, iter, ifs, 0⟩] scope pos) 0 (.ref it) (.ref L) (compEnvC scope (cellsFrom (sC.heap.objs.size + 1) scope.names (cloFrom X.env.cells scope.names [])) sC.heap.objs.size X.env)) (compPost (model X.prog X.w) X.A X.xe use Qf (.ref L) sC.heap.objs.size) { sC with heap := pushCells (sC.heap.push { cls := .type "dict", data := .dict #[] }) scope.names }
  have nfp : ∀ b ∈ fp, (upd HB L (.lst [])) b = none := fun b hb => (fC b hb).1.1
  generalize hce : compEnvC scope (cellsFrom (sC.heap.objs.size + 1) scope.names (cloFrom X.env.cells scope.names [])) sC.heap.objs.size X.env = ce at ID pg pt pe ⊢
  have cL : ce.locals = sC.heap.objs.size := by subst hce; rfl
  generalize hHC : upd HB L (.lst []) = HC at IC ID pg pt pe w0 nfp fC
  generalize hsD : ({ sC with heap := pushCells (sC.heap.push { cls := .type "dict", data := .dict #[] }) scope.names } : Shared) = sD at ID ⊢
  have stD : tn 0 sD.heap := T.keep _ _ _ stC fun b _ o e => by rw [← hsD]; exact pushCells_keeps _ _ _ _ (Heap.get?_push_of_some _ e)
  have stat : ∀ {σ' : L2.St} {H' : Hp} {s' : Shared}, Inv (X.blk sC HC scope ce fp) [] σ' H' s' → (∀ b ∈ fp, H' b = none) → ∀ b ∈ fp, FpOk (X.blk sC HC scope ce fp) [] H' b := by
    intro σ' H' s' I' hn b hb
    exact ⟨hn b hb, (I'.ok.exf b hb).1, I'.ok.exfs b hb, .inl hb, fun x c e => (I'.ok.exf b hb).2 x c e, fun p hp => absurd (show p ∈ ([] : List (Addr × Obj)) ++ [] from hp) (by simp)⟩
  have loop : codeAny (model X.prog X.w) X.A (.compLoop (.ListComp elt [⟨tg, iter, ifs, 0⟩] scope pos) 0 (.ref it) (.ref L) ce) (compPost (model X.prog X.w) X.A X.xe use Qf (.ref L) sC.heap.objs.size) sD := by
    refine compLoop_any (fun n s' => ∃ i H', Inv (X.blk sC HC scope ce fp) [] (wipe σ (own.map (·.2))) H' s' ∧ tn i s'.heap ∧ (∀ b ∈ fp, H' b = none) ∧ W i n H') ?_ m0 ⟨0, HC, ID, stD, nfp, w0⟩
    rintro n sE ⟨i, HE, IE, stE, nE, wE⟩
    rcases turn i n HE wE with ⟨stop, qq⟩ | ⟨go, Nx, hNx, step⟩
    · have td := T.done (X.blk sC HC scope ce fp) rfl rfl rfl hot i [] sE _ HE (fun _ _ => False) IE (stat IE nE) stE stop.1 stop.2
      refine thnF td fun r sF ⟨hr, IF⟩ => ?_
      subst hr
      have IG : Inv X pins σ HE sF := IC.call' (ch := fp) IF.os IF.base IF.hok IF.bare fun b hb => ⟨(fC b hb).1.2.2.2.1, (fC b hb).1.2.1, (fC b hb).1.2.2.2.2.1, (fC b hb).1.2.2.2.2.2⟩
      have nC : HE sC.heap.objs.size = none := by
        have z : HE ce.locals = none := IF.free
        rw [cL] at z
        exact z
      obtain ⟨m, hn, _⟩ := IF.loc
      have hn : sF.heap.Ns ce.locals m := hn
      rw [cL] at hn
      exact hEnd L sC.heap.objs.size sF m HE IG qq hn (IC.fpOk (Nat.le_refl _) nC)
    · have ti := T.item (X.blk sC HC scope ce fp) rfl rfl rfl hot i [] sE _ HE (fun _ _ => False) IE (stat IE nE) stE go
      refine thnF ti fun r sF ⟨u, hr, hF⟩ => ?_
      subst hr
      refine thnF hF fun _ sG ⟨x, HG, IG, rG, yG, stG, nG⟩ => ?_
      have IG' := IG.pinned (stat IG nG) (T.obj _ _ stG)
      refine thnF (pg.run _ sG _ HG x u _ IG' rG (step x HG yG)) fun _ sK ⟨σK, HK, IK, hwK, qK⟩ => ?_
      refine thnF (pt.run _ sK σK HK _ IK qK) fun b sM ⟨HM, IM, qM⟩ => ?_
      have fin : ∀ {s' : Shared} {H' : Hp}, Inv (X.blk sC HC scope ce fp) ([] ++ pinsAt fp sG.heap) σK H' s' → Nx H' → ∃ m, m < n ∧ ∃ i H', Inv (X.blk sC HC scope ce fp) [] (wipe σ (own.map (·.2))) H' s' ∧ tn i s'.heap ∧ (∀ b ∈ fp, H' b = none) ∧ W i m H' := by
        intro s' H' I' nx
        obtain ⟨m', hm, w'⟩ := hNx H' nx
        have pin' : ∀ b ∈ fp, ∀ o, sG.heap.get? b = some o → s'.heap.get? b = some o ∧ H' b = none := fun b hb o e =>
          have z := I'.pin (b, o) (List.mem_append_right _ (List.mem_append_right _ (mem_pinsAt hb e)))
          ⟨z.1, z.2.1⟩
        have hl : (wipe σ (own.map (·.2))).length = σK.length := by rw [← hwK, wipe_length]
        refine ⟨m', hm, i + 1, H', (I'.unpinned (pins := [])).weak hl (fun j v e => ?_), T.keep _ _ _ stG fun b hb o e => (pin' b hb o e).1, fun b hb => ?_, w'⟩
        · rw [← hwK] at e
          exact (wipe_some e).1
        · obtain ⟨o, e, _⟩ := T.obj _ _ stG b hb
          exact (pin' b hb o e).2
      cases b with
      | false =>
        simp only [Bool.false_eq_true, if_false] at qM ⊢
        exact fin IM qM
      | true =>
        simp only [if_true] at qM ⊢
        refine thnF (pe.run _ sM σK HM _ IM qM) fun z sO ⟨yv, HO1, IO, rO, acc, hDO, hzO, nx⟩ => ?_
        exact app_ok (X := X.blk sC HC scope ce fp) IO hDO hzO rO fun sP IP => fin IP nx
  exact codeAny_compStart_list loop (T.self X.A 0 _ _ _ stD loop)
theorem pe_lcT {elt tg iter : Expr} {ifs : List Expr} {scope : Scope} {own : List (Str × Nat)} {pos : Pos} {wi : TI} {g : TG} {tt : TT} {te : TE} (hot : X.A.handled = some (.ref hd)) (hN : X.N.Nodup) (hi : PIT X hd tg iter wi) (ok : BlkOk X.N X.env.scope scope own)
    (hg : ∀ (s : Shared) (H : Hp) (C : Addr) (cl : List (Str × Addr)) (fp : List Addr), PG (X.blk s H scope (compEnvC scope cl C X.env) fp) tg g)
    (ht : ∀ (s : Shared) (H : Hp) (C : Addr) (cl : List (Str × Addr)) (fp : List Addr), PTs (X.blk s H scope (compEnvC scope cl C X.env) fp) ifs tt)
    (he : ∀ (s : Shared) (H : Hp) (C : Addr) (cl : List (Str × Addr)) (fp : List Addr), PE (X.blk s H scope (compEnvC scope cl C X.env) fp) elt te) (hs : ∀ x, foldedSetIterable iter X.env x = pure x := by intro _; rfl) :
    PE X (.ListComp elt [⟨tg, iter, ifs, 0⟩] scope pos) (tLc wi g tt te (own.map (·.2))) := by
  refine ⟨fun pins s σ H Q I h => ?_⟩
  rw [eval_ListComp]
  refine lcT_core hot hN I hi ok hg ht he hs h fun L C s' m H' I' q hn f => ⟨m, hn, fun h'' sb => ?_⟩
  obtain ⟨u0, u1, u2, u3, u4, u5⟩ := f
  exact ⟨.ref L, H', I'.turned (t' := s'.toks) (fun b o hb e => (sb.2 b hb).trans e) u0 u1 u3 u4 u5, rfl, q⟩
end
theorem walk_rangeT {a : Addr} {n : Nat} : L2.Walk (ItHot a (Itr 0 n)) n (HotH a) (YFn fun i => .int ((0 : Int) + i)) :=
  ⟨fun _ _ hi _ => hi, fun _ h => ⟨Nat.le_refl _, h⟩, fun _ _ _ _ _ _ y => y⟩
section
variable {a : Addr} {n slot : Nat} {te : TE} {vs : List Nat} {σ : L2.St} {H1 : Hp} {D : Addr} {Qd : Hp → Prop}
theorem lc_rangeT (hD : H1 D = none) (hot : HotH a H1) (f : Nat → V) (hw : ∀ x, wipe ((wipe σ vs).set slot (some x)) vs = wipe σ vs)
    (he : ∀ (k : Nat) (H : Hp), k < n → Same H1 H → ∀ Q : VK, Q (f k) H → te ((wipe σ vs).set slot (some (.int ((0 : Int) + k)))) H Q) (hn : n ≤ 1000)
    (hd : ∀ H, Same H1 H → H D = some (.lst ((List.range n).map f)) → Qd H) :
    ∃ W : Nat → Nat → Hp → Prop, (∃ m, W 0 m (upd H1 D (.lst []))) ∧ ∀ i m H, W i m H →
      ((ItHot a (Itr 0 n)).stop i H ∧ Qd H) ∨ ((ItHot a (Itr 0 n)).go i H ∧ ∃ Nx : Hp → Prop, (∀ H', Nx H' → ∃ m', m' < m ∧ W (i + 1) m' H') ∧ ∀ x H', (ItHot a (Itr 0 n)).yld i H x H' → gName slot x (wipe σ vs) H' fun σ2 H2 => wipe σ2 vs = wipe σ vs ∧ tYes σ2 H2 fun b H3 =>
        if b = true then te σ2 H3 fun y H4 => ∃ acc, H4 D = some (.lst acc) ∧ acc.length < sizeLine ∧ Nx (upd H4 D (.lst (acc ++ [y]))) else Nx H3) := by
  refine lc_it walk_rangeT (fun i H => Same H1 H ∧ H D = some (.lst ((List.range i).map f))) ⟨same_new hD, upd_same⟩ (fun i H _ h => hot.same h.1) ?_ (fun H h => hd H h.1 h.2)
  rintro i x H H' hi ⟨s, hz⟩ ⟨rfl, rfl⟩
  refine ⟨hw _, yes_it (he i _ hi s _ ⟨_, hz, ?_, same_mut s hD, ?_⟩)⟩
  · rw [List.length_map, List.length_range]
    exact small1000 (by omega)
  · rw [upd_same, List.range_succ, List.map_append]
    rfl
end
end Wl

/-! Defs that may raise: promises put together, called by name, the wishes. -/
namespace Wl
open PySem PySem.Spec PyProof.Rows L2
section
variable {P : Program} {w : World} {K : PySem.W.Frag} {mg : Str → Option Value} {base : Heap} {f : Addr} {fd : FuncData} {ps : List Str} {k j : Nat} {sp sp' : Sp} {CX : CXT}
/-- a def that lets nothing out, where exceptions are told -/
theorem FnOk_x (F : FnOk P w K mg base CX0 k f fd ps sp) : FnOk P w K mg base (L2N.CX P w) k f fd ps sp :=
  ⟨F.len, fun A outer s H args us vs Q E hr e0 hb r h => codeAny_mono (F.run A outer s H args us vs Q E hr e0 hb r h) fun r s' z => by
    cases r with
    | error e => exact False.elim z
    | ok fl => cases fl <;> exact z⟩
/-- two promises of one def -/
theorem FnOk_or (F : FnOk P w K mg base CX k f fd ps sp) (G : FnOk P w K mg base CX j f fd ps sp') : FnOk P w K mg base CX (max k j) f fd ps (fun vs H Q E => sp vs H Q E ∨ sp' vs H Q E) := by
  refine ⟨fun vs H Q E h => h.elim (F.len vs H Q E) (G.len vs H Q E), fun A outer s H args us vs Q E hr e0 hb r h => ?_⟩
  rcases h with h | h
  · exact F.run A outer s H args us vs Q E (hr.mono (Nat.le_max_left _ _)) e0 hb r h
  · exact G.run A outer s H args us vs Q E (hr.mono (Nat.le_max_right _ _)) e0 hb r h
theorem FnOk_xor (F : FnOk P w K mg base CX0 k f fd ps sp) (G : FnOk P w K mg base (L2N.CX P w) k f fd ps sp') : FnOk P w K mg base (L2N.CX P w) k f fd ps (fun vs H Q E => sp vs H Q E ∨ sp' vs H Q E) := by
  have z := FnOk_or (FnOk_x F) G
  rwa [Nat.max_self] at z
/-- as Fun.ok, for a def that may raise; what it raises has no context -/
theorem Fun_okN {x qual : Str} {st : Stmt} {N : List Str} (F : Fun K x qual st f fd) (S : FnScope N ps (defScope st)) (len : ∀ vs H Q E, sp vs H Q E → vs.length = ps.length)
    (hbody : ∀ (cdv : Value) (A : Around) (outer : List Env) (s : Shared) (H : Hp) (vs : List V) (Q : VK) (E : XK), Room k (A.deeper (envOfC qual (defScope st) s.heap.objs.size f cdv)) → sp vs H Q E →
      ∃ t, PSs (cxOf (L2N.CX P w) P w K mg base N qual (defScope st) f cdv A outer s H E) (defBody st) t ∧ t { nx := fun _ H' => Q .non H', rt := Q } (L2.start N vs) H) : FnOk P w K mg base (L2N.CX P w) (k + 1) f fd ps sp := by
  obtain ⟨oc, od, kV, doc, pm, an, cdv, ct, osl, rfl, lk, hcd⟩ := F.ex
  exact fn_of lk hcd S len fun A outer s H vs Q E hr hsp => hbody cdv A outer s H vs Q E hr hsp
def HasX (P : Program) (w : World) (K : PySem.W.Frag) (mg : Str → Option Value) (base : Heap) (x : Str) (k : Nat) (ps : List Str) (sp : Sp) : Prop :=
  ∃ f fd, FnOk P w K mg base (L2N.CX P w) k f fd ps sp ∧ mg x = some (.ref f) ∧ PySem.W.keepIn K (.ref f) = true ∧ Binds K fd ps []
def HasMX (P : Program) (w : World) (K : PySem.W.Frag) (mg : Str → Option Value) (base : Heap) (C : Addr) (m : Str) (k : Nat) (ps : List Str) (sp : Sp) : Prop :=
  ∃ f fd, FnOk P w K mg base (L2N.CX P w) k f fd ps sp ∧ Meth K C m f ∧ Binds K fd ps []
end
section
variable {X : Cx} {k j : Nat} {C : Addr} {ps : List Str} {sp : Sp} {x m : Str} {p pos apos : Pos} {e o : Expr} {es : List Expr} {ta : TE} {t : TA} {W : WX} {E : XK}
/-- what is wished, whatever the slots hold -/
def EW (n : Nat) (W : WX) : XK := fun cls d H => ∀ σ : L2.St, σ.length = n → W cls d σ H
theorem passU {n : Nat} (tk : L2N.Takes X W) (hn : X.N.length = n) : Passes (L2N.CX X.prog X.w) X (EW n W) := fun _ σ _ _ e s' I c => tk e s' (L2N.XE.of_call I (fun _ _ _ h => h σ (I.len.trans hn)) c)
theorem passE (tk : L2N.Takes X (fun cls d _ H => E cls d H)) : Passes (L2N.CX X.prog X.w) X E := fun _ _ _ _ e s' I c => tk e s' (L2N.XE.of_call (W := fun cls d _ H => E cls d H) I (fun _ _ _ h => h) c)
theorem pe_hx (h : HasX X.prog X.w X.K X.mg X.base x k ps sp) (hr : Room j X.A) (hx : Passes (L2N.CX X.prog X.w) X E) (ha : PA X (e :: es) t) (hkj : k ≤ j := by decide) (hg : Gl X x := by rfl) (hdb : (x == ("__debug__" : Str)) = false := by decide)
    (he : starEach (e :: es) X.env = (false, eval e X.env) :: starEach es X.env := by rfl) (hpl : (backTo pos (starEach es X.env)).any (·.1) = false := by rfl) :
    PE X (.Call (.Name x p) (e :: es) [] pos) (tCall sp [] E t) := by
  obtain ⟨f, fd, F, g, kp, b⟩ := h
  exact pe_call F (hr.mono hkj) hg g kp b .nil hx ha hdb he hpl
theorem pe_hmx {pl : Sem Bool} (h : HasMX X.prog X.w X.K X.mg X.base C m k ps sp) (c : Cls X.K C) (hr : Room j X.A) (hx : Passes (L2N.CX X.prog X.w) X E) (ho : PE X o ta) (ha : PA X (e :: es) t) (hkj : k ≤ j := by decide)
    (hst : starEach (e :: es) X.env = (false, eval e X.env) :: starEach es X.env := by rfl) (hpl : (backTo pos (starEach es X.env)).any (·.1) = false := by rfl)
    (ht : eval (.Call (.Attribute o m apos) (e :: es) [] pos) X.env = (do
      let ov ← eval o X.env
      standAt apos.atName
      let (f, first) ← holding [ov] (getMethod ov m pl)
      callWith pos f first (backTo pos (starEach (e :: es) X.env)) (backToKw pos (keywordEach [] X.env))) := by rfl) :
    PE X (.Call (.Attribute o m apos) (e :: es) [] pos) (tMeth C m sp [] E ta t) := by
  obtain ⟨f, fd, F, g, b⟩ := h
  exact pe_meth ho c g F (hr.mono hkj) b .nil hx ha hst hpl ht
theorem pe_hmx0 {pl : Sem Bool} (h : HasMX X.prog X.w X.K X.mg X.base C m k ps sp) (c : Cls X.K C) (hr : Room j X.A) (hx : Passes (L2N.CX X.prog X.w) X E) (ho : PE X o ta) (hkj : k ≤ j := by decide)
    (ht : eval (.Call (.Attribute o m apos) [] [] pos) X.env = (do
      let ov ← eval o X.env
      standAt apos.atName
      let (f, first) ← holding [ov] (getMethod ov m pl)
      callWith pos f first (backTo pos (starEach [] X.env)) (backToKw pos (keywordEach [] X.env))) := by rfl) :
    PE X (.Call (.Attribute o m apos) [] [] pos) (tMeth C m sp [] E ta tNil) := by
  obtain ⟨f, fd, F, g, b⟩ := h
  exact pe_meth0 ho c g F (hr.mono hkj) b .nil hx ht
end
end Wl

/-! xs.count(y), items and y flat. -/
namespace Wl
open PySem PySem.Spec PyProof.Rows L2
theorem countP_vals {y : V} {uy : Value} : ∀ {ys : List V} {its : List Value}, Vals ys its → ys.all flatV = true → (∀ z u, RelV z u → flatV z = true → eqU y u = eqV z y) → its.countP (eqU y) = ys.countP fun z => eqV z y
  | _, _, .nil, _, _ => rfl
  | _, _, .cons r t, f, k => by
    rw [List.all_cons, Bool.and_eq_true] at f
    rw [List.countP_cons, List.countP_cons, countP_vals (uy := uy) t f.2 k, k _ _ r f.1]
def rCntF (K : PySem.W.Frag) : V → List V → Hp → VK → Prop := fun x xs H Q => ∃ (a : Addr) (ys : List V) (y : V), x = V.ref a ∧ xs = [y] ∧ SqL K H a ys ∧ flatV y = true ∧ ys.all flatV = true ∧ Q (.int ((ys.countP fun z => eqV z y : Nat) : Int)) H
theorem mt_countF {X : Cx} : MtR X "list.count" (rCntF X.K) := by
  intro pins s σ H x xs v us Q I rx rxs h
  obtain ⟨a, ys, y, rfl, rfl, hs, fy, fys, q⟩ := h
  cases rx
  obtain ⟨uy, rfl, ry⟩ := rxs.one
  obtain ⟨its, rv, ⟨⟨cls, dd, data, sl⟩, n, ho, hc, hdn, hd⟩, hlen⟩ := I.list hs
  simp only at hc hd
  subst hc hd
  refine call_meets PySem.F.slot_list_count ⟨_, ho, rfl⟩ PySem.F.entry_list_count (PySem.F.args_list_count_2 _ _)
    (SeqAt.list_countAt a its.toArray n dd sl uy (eqU y)) ⟨ho, fun u' hu' => mem_eqAt ry fy rv fys u' (by simpa using hu'), ?_⟩
  have ec : its.toArray.toList.countP (eqU y) = ys.countP fun z => eqV z y := countP_vals (uy := uy) rv fys fun z u r f => eqU_of r f
  refine ⟨.int ((ys.countP fun z => eqV z y : Nat) : Int), H, I.tok _, ⟨s.toks, ?_⟩, q⟩
  rw [ec]
end Wl

/-! Of which class a caught exception is: what the laws' own sorting asks. -/
namespace Wl
open PySem PySem.Spec PyProof.Rows L2
/-- the program's exceptions, in their order -/
def exL : List Str := ["NoWord", "NoChanges", "NoText", "NoAge", "NoSure", "NoRings", "NoThings", "NoCount", "NoRow", "NoLand", "NoName", "NoGathering", "NoMap", "NoTelling", "NoBack", "Told", "Full", "Clash", "TooMany"]
def exN (i : Nat) : Str := exL.getD i ""
def baL : List Str := ["WordError", "LandError", "JoinError"]
def baN (i : Nat) : Str := baL.getD i ""
/-- which base the n-th has -/
def baOf (n : Nat) : Nat := if n ≤ 8 then 0 else if n ≤ 14 then 1 else 2
/-- the globals that hold the classes -/
structure SortG (mg : Str → Option Value) (ad bd : Nat → Addr) : Prop where
  own : ∀ i, i < 19 → mg (exN i) = some (.ref (ad i))
  bas : ∀ i, i < 3 → mg (baN i) = some (.ref (bd i))
  ve : mg "ValueError" = none
  le : mg "LookupError" = none
  ae : mg "ArithmeticError" = none
/-- C is the n-th class, as isinstance answers -/
structure SortC (K : PySem.W.Frag) (ad bd : Nat → Addr) (C : Addr) (n : Nat) : Prop where
  ex : ExK K C
  lt : n < 19
  own : ∀ i, i < 19 → PySem.W.kitOne K (.ref C) (.ref (ad i)) = some (decide (i = n))
  bas : ∀ i, i < 3 → PySem.W.kitOne K (.ref C) (.ref (bd i)) = some (decide (i = baOf n))
  ve : PySem.W.kitOne K (.ref C) (.type "ValueError") = some (decide (0 = baOf n))
  le : PySem.W.kitOne K (.ref C) (.type "LookupError") = some (decide (1 = baOf n))
  ae : PySem.W.kitOne K (.ref C) (.type "ArithmeticError") = some (decide (2 = baOf n))
/-- at e: a caught exception, the n-th -/
structure ExcAt (K : PySem.W.Frag) (ad bd : Nat → Addr) (H : Hp) (e : Addr) (n : Nat) : Prop where
  ex : ∃ (C : Addr) (d : Option Addr), H e = some (exH e (.ref C) d) ∧ DxOk H d ∧ SortC K ad bd C n
theorem ExcAt.same {K : PySem.W.Frag} {ad bd : Nat → Addr} {H H' : Hp} {e : Addr} {n : Nat} (h : ExcAt K ad bd H e n) (s : Same H H') : ExcAt K ad bd H' e n := by
  obtain ⟨C, d, h1, h2, h3⟩ := h.ex
  refine ⟨C, d, s _ _ h1, fun dd e => ?_, h3⟩
  obtain ⟨fs, q⟩ := h2 dd e
  exact ⟨fs, s _ _ q⟩
theorem ExcAt.hot {K : PySem.W.Frag} {ad bd : Nat → Addr} {H : Hp} {e : Addr} {n : Nat} (h : ExcAt K ad bd H e n) : HotH e H := by
  obtain ⟨C, d, h1, _⟩ := h.ex
  exact ⟨_, _, h1⟩
/-- isinstance(e, c) of it -/
abbrev tIs (K : PySem.W.Frag) (i : Nat) (c : V) : TE := tCB (rIsX K) (tCons (tVar i) (tCons (tC c) tNil))
section
variable {K : PySem.W.Frag} {ad bd : Nat → Addr} {H : Hp} {e : Addr} {n j : Nat} {σ : L2.St} {R : VK}
theorem is_own (i : Nat) (h : ExcAt K ad bd H e n) (h0 : σ[j]? = some (some (.ref e))) (hi : i < 19) (q : R (.bl (decide (i = n))) H) : tIs K j (.ref (ad i)) σ H R := by
  obtain ⟨C, d, h1, h2, h3⟩ := h.ex
  exact ⟨_, h0, e, C, d, _, _, _, rfl, h1, h2, h3.ex, .own _, h3.own i hi, q⟩
theorem is_bas (i : Nat) (h : ExcAt K ad bd H e n) (h0 : σ[j]? = some (some (.ref e))) (hi : i < 3) (q : R (.bl (decide (i = baOf n))) H) : tIs K j (.ref (bd i)) σ H R := by
  obtain ⟨C, d, h1, h2, h3⟩ := h.ex
  exact ⟨_, h0, e, C, d, _, _, _, rfl, h1, h2, h3.ex, .own _, h3.bas i hi, q⟩
theorem is_ve (h : ExcAt K ad bd H e n) (h0 : σ[j]? = some (some (.ref e))) (q : R (.bl (decide (0 = baOf n))) H) : tIs K j (.ty "ValueError") σ H R := by
  obtain ⟨C, d, h1, h2, h3⟩ := h.ex
  exact ⟨_, h0, e, C, d, _, _, _, rfl, h1, h2, h3.ex, .ty _, h3.ve, q⟩
theorem is_le (h : ExcAt K ad bd H e n) (h0 : σ[j]? = some (some (.ref e))) (q : R (.bl (decide (1 = baOf n))) H) : tIs K j (.ty "LookupError") σ H R := by
  obtain ⟨C, d, h1, h2, h3⟩ := h.ex
  exact ⟨_, h0, e, C, d, _, _, _, rfl, h1, h2, h3.ex, .ty _, h3.le, q⟩
theorem is_ae (h : ExcAt K ad bd H e n) (h0 : σ[j]? = some (some (.ref e))) (q : R (.bl (decide (2 = baOf n))) H) : tIs K j (.ty "ArithmeticError") σ H R := by
  obtain ⟨C, d, h1, h2, h3⟩ := h.ex
  exact ⟨_, h0, e, C, d, _, _, _, rfl, h1, h2, h3.ex, .ty _, h3.ae, q⟩
end
section
variable {X : Cx} {ad bd : Nat → Addr} {j : Nat} {x y z : Str} {p q r s pos : Pos}
/-- the terms of isinstance(e, ..) -/
theorem pe_own (i : Nat) (B : X.mg "isinstance" = none) (G : SortG X.mg ad bd) (hi : i < 19) (hg : Gl X (exN i)) (hN : X.N[j]? = some y) (hv : Vis X.env.scope y) (g1 : Gl X "isinstance" := by rfl) (h1 : (y == ("__debug__" : Str)) = false := by decide) (h2 : (y == ("__classdict__" : Str)) = false := by decide)
    (h3 : (exN i == ("__debug__" : Str)) = false := by decide)
    (he : starEach [.Name y q, .Name (exN i) r] X.env = [(false, eval (.Name y q) X.env), (false, eval (.Name (exN i) r) X.env)] := by rfl) : PE X (.Call (.Name "isinstance" p) [.Name y q, .Name (exN i) r] [] pos) (tIs X.K j (.ref (ad i))) :=
  pe_callB call_isX g1 B (by decide +kernel) (pa_cons (pe_var hN hv h1 h2) (pa_cons (pe_glob (v := .ref (ad i)) hg (G.own i hi) rfl h3) pa_nil) he)
end
def kinds (n : Nat) : List V := (List.range 19).map fun i => .bl (decide (i = n))
theorem kinds_flat (n : Nat) (h : n < 19) : (kinds n).all flatV = true := by
  have : ∀ m : Fin 19, (kinds m.1).all flatV = true := by decide +kernel
  exact this ⟨n, h⟩
theorem kinds_count (n : Nat) (h : n < 19) : (kinds n).countP (fun z => eqV z (.bl true)) = 1 := by
  have : ∀ m : Fin 19, (kinds m.1).countP (fun z => eqV z (.bl true)) = 1 := by decide +kernel
  exact this ⟨n, h⟩
theorem kinds_at (n : Nat) (h : n < 19) : (kinds n)[n]? = some (.bl true) := by
  unfold kinds
  rw [List.getElem?_map, List.getElem?_range h]
  simp
theorem kinds_none (n : Nat) (h : n < 19) (m : Nat) (z : V) (hm : m < n) (hz : (kinds n)[m]? = some z) : eqV z (.bl true) = false := by
  unfold kinds at hz
  rw [List.getElem?_map, List.getElem?_range (by omega)] at hz
  have e : z = .bl (decide (m = n)) := (Option.some.inj hz).symm
  rw [e, decide_eq_false (by omega)]
  decide +kernel
end Wl

/-! What the head reads off the frame of an own exception's class. -/
namespace Wl
open PySem PySem.Spec PyProof.Rows L2
/-- an exception's class: which it is, its field read, caught by its base -/
structure ErrC (K : PySem.W.Frag) (ad bd : Nat → Addr) (C : Addr) (n : Nat) : Prop where
  sort : SortC K ad bd C n
  xf : XfC K C
  all : PySem.W.exmAny K (.ref C) [.ref (bd 0), .ref (bd 1), .ref (bd 2)] = some true
def adK (K : PySem.W.Frag) (i : Nat) : Addr := He.ga K (exN i)
def bdK (K : PySem.W.Frag) (i : Nat) : Addr := He.ga K (baN i)
/-- what is asked of the n-th exception's class, at C; bm: its built-in bases -/
def errB (K : PySem.W.Frag) (C : Addr) (f : Str) (n : Nat) (bm : List Value) (newId : String) : Bool :=
  PySem.W.excInitIn K C bm newId && (PySem.W.excOver K C bm && (He.eqO (PySem.W.findIn K (.ref C) "__setattr__") (some (some (.builtin "object.__setattr__"))) && (He.eqO (PySem.W.takerIn K C f) (some none) &&
  (He.eqO (PySem.W.findIn K (.ref C) f) (some none) && (decide (PySem.W.subIn K (.ref C) (.type "BaseException") = some true) && (decide (PySem.W.typeIn K (.ref C) = some (.type "type")) && (PySem.W.hasDictIn K C && (PySem.W.keepIn K (.ref C) &&
  ((PySem.W.clsIn K C).isSome && (He.eqO (PySem.W.findIn K (.ref C) "__getattribute__") (some (some (.builtin "BaseException.__getattribute__"))) && (He.eqO (PySem.W.findIn K (.ref C) "__getattr__") (some none) &&
  (He.eqO (PySem.W.findIn K (.ref C) "__class__") (some (some (.builtin "object.__class__"))) && (He.eqO (PySem.W.specialIn K (.builtin "object.__class__") "__get__") (some (some (.builtin "getset_descriptor.__get__"))) &&
  (decide (PySem.W.takesIn K (.builtin "object.__class__") = some true) && (decide (PySem.W.mroIn K C (.type "object") = some true) && (((List.range 19).all fun i => decide (PySem.W.kitOne K (.ref C) (.ref (adK K i)) = some (decide (i = n)))) &&
  (((List.range 3).all fun i => decide (PySem.W.kitOne K (.ref C) (.ref (bdK K i)) = some (decide (i = baOf n)))) && (decide (PySem.W.kitOne K (.ref C) (.type "ValueError") = some (decide (0 = baOf n))) &&
  (decide (PySem.W.kitOne K (.ref C) (.type "LookupError") = some (decide (1 = baOf n))) && (decide (PySem.W.kitOne K (.ref C) (.type "ArithmeticError") = some (decide (2 = baOf n))) &&
  (decide (PySem.W.exmAny K (.ref C) [.ref (bdK K 0), .ref (bdK K 1), .ref (bdK K 2)] = some true) && decide (n < 19))))))))))))))))))))))
def bmOf (n : Nat) : List Value := if n ≤ 8 then [.type "ValueError", .type "Exception", .type "BaseException", .type "object"] else if n ≤ 14 then [.type "LookupError", .type "Exception", .type "BaseException", .type "object"] else [.type "ArithmeticError", .type "Exception", .type "BaseException", .type "object"]
def newOf (n : Nat) : String := if n ≤ 8 then "ValueError.__new__" else if n ≤ 14 then "LookupError.__new__" else "ArithmeticError.__new__"
theorem base_of (n : Nat) : ∃ B initId, BaseX B (newOf n) initId (bmOf n) := by
  unfold newOf bmOf
  by_cases h : n ≤ 8
  · rw [if_pos h, if_pos h]
    exact ⟨_, _, baseVE⟩
  · rw [if_neg h, if_neg h]
    by_cases h2 : n ≤ 14
    · rw [if_pos h2, if_pos h2]
      exact ⟨_, _, baseLE⟩
    · rw [if_neg h2, if_neg h2]
      exact ⟨_, _, baseAE⟩
section
variable {K : PySem.W.Frag} {mg : Str → Option Value} {C : Addr} {f x : Str} {n : Nat}
def errOf (K : PySem.W.Frag) (n : Nat) (f : Str) : Bool := errB K (adK K n) f n (bmOf n) (newOf n)
theorem err_ok (h : errB K C f n (bmOf n) (newOf n) = true) : ErrC K (adK K) (bdK K) C n ∧
    ∀ {q : Str} {st : Stmt} {fI : Addr} {fd : FuncData} {x : Str} {q1 q2 q3 q4 : Pos}, mg x = some (.ref C) → Meth K C "__init__" fI → Fun K "__init__" q st fI fd → Binds K fd ["self", f] [] → FnScope ["self", f] ["self", f] (defScope st) → ((["self", f] : List Str).all fun y => decide ((defScope st).names.lookup y = some .local)) = true →
      defBody st = [.Assign [.Attribute (.Name "self" q1) f q2] (.Name f q3) q4] → OwnX K mg x f C := by
  unfold errB at h
  simp only [Bool.and_eq_true] at h
  obtain ⟨h1, h2, h3, h4, h5, h6, h7, h8, h9, h10, h11, h12, h13, h14, h15, h16, h17, h18, h19, h20, h21, h22, h23⟩ := h
  have hsub := of_decide_eq_true h6
  refine ⟨⟨⟨⟨h10, He.eqO_ok h11, He.eqO_ok h12, hsub, He.eqO_ok h13, He.eqO_ok h14, of_decide_eq_true h15, of_decide_eq_true h16⟩, of_decide_eq_true h23, fun i hi => of_decide_eq_true (List.all_eq_true.mp h17 i (List.mem_range.mpr hi)), fun i hi => of_decide_eq_true (List.all_eq_true.mp h18 i (List.mem_range.mpr hi)),
    of_decide_eq_true h19, of_decide_eq_true h20, of_decide_eq_true h21⟩, ⟨He.eqO_ok h11, He.eqO_ok h12, hsub, h8⟩, of_decide_eq_true h22⟩, ?_⟩
  intro q st fI fd x q1 q2 q3 q4 hg hm hF hB hS hL hb
  obtain ⟨B, ini, BX⟩ := base_of n
  refine ⟨hg, h9, ⟨B, newOf n, ini, bmOf n, BX, h1, h2⟩, He.eqO_ok h3, He.eqO_ok h4, He.eqO_ok h5, hsub, of_decide_eq_true h7, h8, ⟨fI, fd, q, st, q1, q2, q3, q4, hm.at_, ?_, hF, hB, hS, fun y hy => of_decide_eq_true (List.all_eq_true.mp hL y hy), hb⟩⟩
  have z : (PySem.W.typeIn K (.ref fI) == some (.type "function")) = true := hm.fn
  exact beq_iff_eq.mp z
/-- the globals -/
def sortB (K : PySem.W.Frag) : Bool := ((List.range 19).all fun i => (He.Fa.glo (exN i)).ok K) && (((List.range 3).all fun i => (He.Fa.glo (baN i)).ok K) && ((He.Fa.free "ValueError").ok K && ((He.Fa.free "LookupError").ok K && (He.Fa.free "ArithmeticError").ok K)))
theorem sort_ok {h : Heap} (X : K.In h) (G : h.Ns mainGlobals mg) (c : sortB K = true) : SortG mg (adK K) (bdK K) := by
  unfold sortB at c
  simp only [Bool.and_eq_true] at c
  obtain ⟨c1, c2, c3, c4, c5⟩ := c
  exact ⟨fun i hi => He.glo_ok X G (List.all_eq_true.mp c1 i (List.mem_range.mpr hi)), fun i hi => He.glo_ok X G (List.all_eq_true.mp c2 i (List.mem_range.mpr hi)), He.free_ok X G c3, He.free_ok X G c4, He.free_ok X G c5⟩
end
end Wl

/-! An own exception class without own __init__, raised with a text: no own dict. -/
namespace Wl
open PySem PySem.Spec PyProof.Rows L2
structure OwnN (K : PySem.W.Frag) (mg : Str → Option Value) (x : Str) (C : Addr) : Prop where
  gC : mg x = some (.ref C)
  kC : PySem.W.keepIn K (.ref C) = true
  bas : ∃ B newId initId bm, BaseX B newId initId bm ∧ PySem.W.excIn K C bm newId = true
  exC : PySem.W.subIn K (.ref C) (.type "BaseException") = some true
  tyC : PySem.W.typeIn K (.ref C) = some (.type "type")
section
variable {X : Cx} {C : Addr}
theorem ps_raiseN {x m : Str} {j : Nat} {W : WX} {p p2 pos pos2 : Pos} (hc : X.calm = true) (T : OwnN X.K X.mg x C) (tk : L2N.Takes X W) (hg : Gl X x := by rfl) (hdb : (x == ("__debug__" : Str)) = false := by decide) :
    PS X (.Raise (some (.Call (.Name x p) [.Constant (.str m) j p2] [] pos)) none pos2) (fun _ σ H => W (.ref C) none σ H) := by
  obtain ⟨B, nI, iI, bm, BX, q⟩ := T.bas
  exact L2N.ps_raise hc tk (L2N.pmk_own BX.base q T.gC T.kC (raises_own T.exC T.tyC) hg hdb)
end
end Wl

/-! What the head reads off the frame of an own exception's class, without the laws' own sorting. -/
namespace Wl
open PySem PySem.Spec PyProof.Rows L2
def exkB (K : PySem.W.Frag) (C : Addr) : Bool :=
  (PySem.W.clsIn K C).isSome && (He.eqO (PySem.W.findIn K (.ref C) "__getattribute__") (some (some (.builtin "BaseException.__getattribute__"))) && (He.eqO (PySem.W.findIn K (.ref C) "__getattr__") (some none) &&
  (He.eqO (PySem.W.findIn K (.ref C) "__class__") (some (some (.builtin "object.__class__"))) && (He.eqO (PySem.W.specialIn K (.builtin "object.__class__") "__get__") (some (some (.builtin "getset_descriptor.__get__"))) &&
  (decide (PySem.W.takesIn K (.builtin "object.__class__") = some true) && (decide (PySem.W.mroIn K C (.type "object") = some true) && (decide (PySem.W.subIn K (.ref C) (.type "BaseException") = some true) && (decide (PySem.W.typeIn K (.ref C) = some (.type "type")) && PySem.W.keepIn K (.ref C)))))))))
def errS (K : PySem.W.Frag) (C : Addr) (f : Str) (n : Nat) : Bool :=
  exkB K C && (PySem.W.excInitIn K C (bmOf n) (newOf n) && (PySem.W.excOver K C (bmOf n) && (He.eqO (PySem.W.findIn K (.ref C) "__setattr__") (some (some (.builtin "object.__setattr__"))) && (He.eqO (PySem.W.takerIn K C f) (some none) &&
  (He.eqO (PySem.W.findIn K (.ref C) f) (some none) && PySem.W.hasDictIn K C)))))
def errSN (K : PySem.W.Frag) (C : Addr) (n : Nat) : Bool := exkB K C && PySem.W.excIn K C (bmOf n) (newOf n)
section
variable {K : PySem.W.Frag} {mg : Str → Option Value} {C : Addr} {f : Str} {n : Nat}
theorem exk_ok (h : exkB K C = true) : ExK K C ∧ PySem.W.typeIn K (.ref C) = some (.type "type") ∧ PySem.W.keepIn K (.ref C) = true := by
  unfold exkB at h
  simp only [Bool.and_eq_true] at h
  obtain ⟨h10, h11, h12, h13, h14, h15, h16, h6, h7, h9⟩ := h
  exact ⟨⟨h10, He.eqO_ok h11, He.eqO_ok h12, of_decide_eq_true h6, He.eqO_ok h13, He.eqO_ok h14, of_decide_eq_true h15, of_decide_eq_true h16⟩, of_decide_eq_true h7, h9⟩
theorem errS_ok (h : errS K C f n = true) : (ExK K C ∧ XfC K C) ∧
    ∀ {q : Str} {st : Stmt} {fI : Addr} {fd : FuncData} {x : Str} {q1 q2 q3 q4 : Pos}, mg x = some (.ref C) → Meth K C "__init__" fI → Fun K "__init__" q st fI fd → Binds K fd ["self", f] [] → FnScope ["self", f] ["self", f] (defScope st) → ((["self", f] : List Str).all fun y => decide ((defScope st).names.lookup y = some .local)) = true →
      defBody st = [.Assign [.Attribute (.Name "self" q1) f q2] (.Name f q3) q4] → OwnX K mg x f C := by
  unfold errS at h
  simp only [Bool.and_eq_true] at h
  obtain ⟨h0, h1, h2, h3, h4, h5, h8⟩ := h
  obtain ⟨eK, h7, h9⟩ := exk_ok h0
  refine ⟨⟨eK, ⟨eK.ga, eK.gg, eK.sub, h8⟩⟩, ?_⟩
  intro q st fI fd x q1 q2 q3 q4 hg hm hF hB hS hL hb
  obtain ⟨B, ini, BX⟩ := base_of n
  refine ⟨hg, h9, ⟨B, newOf n, ini, bmOf n, BX, h1, h2⟩, He.eqO_ok h3, He.eqO_ok h4, He.eqO_ok h5, eK.sub, h7, h8, ⟨fI, fd, q, st, q1, q2, q3, q4, hm.at_, ?_, hF, hB, hS, fun y hy => of_decide_eq_true (List.all_eq_true.mp hL y hy), hb⟩⟩
  have z : (PySem.W.typeIn K (.ref fI) == some (.type "function")) = true := hm.fn
  exact beq_iff_eq.mp z
theorem errSN_ok (h : errSN K C n = true) : ExK K C ∧ ∀ {x : Str}, mg x = some (.ref C) → OwnN K mg x C := by
  unfold errSN at h
  rw [Bool.and_eq_true] at h
  obtain ⟨eK, h7, h9⟩ := exk_ok h.1
  obtain ⟨B, ini, BX⟩ := base_of n
  exact ⟨eK, fun hg => ⟨hg, h9, ⟨B, newOf n, ini, bmOf n, BX, h.2⟩, eK.sub, h7⟩⟩
end
end Wl

namespace Wl
open PySem PySem.Spec PyProof.Rows L2
/-- an exception's class that is not followed -/
def isExc (o : Obj) : Bool := match o.data with
  | .cls cd => (cd.mro.any fun v => match v with | .type n => n == "Exception" | _ => false) && !(decide (cd.name = "NoWord") || decide (cd.name = "NoAge") || decide (cd.name = "NoSure") || decide (cd.name = "NoName") || decide (cd.name = "NoBack") || decide (cd.name = "Told") || decide (cd.name = "Full") || decide (cd.name = "WordError") || decide (cd.name = "LandError") || decide (cd.name = "JoinError"))
  | _ => false
/-- what these objects name, exceptions left out -/
def refsL (g : Addr → Option Obj) (as : List Addr) : List Addr := as.flatMap fun a => match g a with
  | some o => if isExc o then [] else He.refsD o
  | none => []
def layK (g : Addr → Option Obj) : Nat → List Addr → List Addr
  | 0, l => l
  | n + 1, l => l ++ layK g n (refsL g l)
def frK (g : Addr → Option Obj) : PySem.W.Frag := He.frG g (layK g 4 [mainGlobals])
/-- the hook of facts over such a frame, with one more test of the frame -/
def hookK (fa : List He.Fa) (fn : List He.DefD) (ex : PySem.W.Frag → Bool) : PySem.W.Hook where
  α := He.AlD × Bool
  obs := fun s => (He.obsD fa fn (frK s.heap.get?), ex (frK s.heap.get?))
  val := fun _ => (He.valD fn, true)
  says := fun _ h => ∃ K : PySem.W.Frag, K.In h ∧ He.SaysD fa fn K ∧ ex K = true
  of := fun _ _ e => ⟨_, He.frG_in, congrArg (fun z : He.AlD × Bool => z.1) e, congrArg (fun z : He.AlD × Bool => z.2) e⟩
  keeps := fun _ _ _ ⟨K, hK, c⟩ k => ⟨K, PySem.W.Frag.In.keeps hK k, c⟩
theorem map3 {α β γ δ : Type} {o : Option α} {f : α → β} {g : α → γ} {h : α → δ} {a : β} {b : γ} {c : δ} (h1 : o.map (fun s => (f s, g s)) = some (a, b)) (h2 : o.map h = some c) : o.map (fun s => (f s, g s, h s)) = some (a, b, c) := by
  cases o with
  | none => cases h1
  | some x =>
    have e1 := Option.some.inj h1
    have e2 := Option.some.inj h2
    show some (f x, g x, h x) = _
    rw [(Prod.mk.inj e1).1, (Prod.mk.inj e1).2, e2]
/-- what else a class says: isinstance -/
def exC (K : PySem.W.Frag) (x : Str) : Bool :=
  He.eqO (PySem.W.findIn K (.ref (He.ga K x)) "__class__") (some (some (.builtin "object.__class__"))) && (decide (PySem.W.mroIn K (He.ga K x) (.type "object") = some true) && decide (PySem.W.kitOne K (.ref (He.ga K x)) (.ref (He.ga K x)) = some true))
def exT0 (K : PySem.W.Frag) : Bool :=
  He.eqO (PySem.W.specialIn K (.builtin "object.__class__") "__get__") (some (some (.builtin "getset_descriptor.__get__"))) && (decide (PySem.W.takesIn K (.builtin "object.__class__") = some true) && (exC K "Land" && (exC K "Gathering" &&
  (He.eqO (PySem.W.findIn K (.ref (He.ga K "Land")) "__ne__") (some (some (.builtin "object.__ne__"))) && He.eqO (PySem.W.findIn K (.ref (He.ga K "Gathering")) "__ne__") (some (some (.builtin "object.__ne__")))))))
def exX (K : PySem.W.Frag) : Bool := errS K (He.ga K "NoWord") "word" 0 && (errS K (He.ga K "NoAge") "age" 3 && (errS K (He.ga K "NoSure") "sure" 4 && (errS K (He.ga K "NoName") "name" 10 && (errS K (He.ga K "Told") "key" 15 && (errS K (He.ga K "Full") "many" 16 && (errSN K (He.ga K "NoBack") 14 && (decide (PySem.W.mroIn K (He.ga K "Gathering") (.type "NoneType") = some false) && (decide (PySem.W.mroIn K (He.ga K "Gathering") (.type "bool") = some false) && (decide (PySem.W.mroIn K (He.ga K "Gathering") (.type "int") = some false) && (decide (PySem.W.mroIn K (He.ga K "Gathering") (.type "str") = some false) && (decide (PySem.W.mroIn K (He.ga K "Gathering") (.type "list") = some false) && (decide (PySem.W.mroIn K (He.ga K "Gathering") (.type "tuple") = some false) && (decide (PySem.W.mroIn K (He.ga K "Gathering") (.type "dict") = some false))))))))))))))
def dOf (x : Str) (st : Stmt) (ds : List He.Dv) : He.DefD := ⟨(x, none), x, x, defArgs st, defBody st, defScope st, ds, []⟩
def dMet (cl m q : Str) (st : Stmt) (ds : List He.Dv) : He.DefD := ⟨(cl, some m), m, q, defArgs st, defBody st, defScope st, ds, []⟩
def exT (K : PySem.W.Frag) : Bool := exT0 K && exX K
def fn : List He.DefD := dMet "NoWord" "__init__" "NoWord.__init__" (inClass (topS 5) 0) [] :: dMet "NoAge" "__init__" "NoAge.__init__" (inClass (topS 7) 0) [] :: dMet "NoSure" "__init__" "NoSure.__init__" (inClass (topS 8) 0) [] :: dMet "NoName" "__init__" "NoName.__init__" (inClass (topS 10) 0) [] :: dMet "Told" "__init__" "Told.__init__" (inClass (topS 14) 0) [] :: dMet "Full" "__init__" "Full.__init__" (inClass (topS 15) 0) [] :: dOf "is_whole" (topS 19) [] :: dOf "is_number_from" (topS 20) [] :: dOf "is_word" (topS 21) [] :: dOf "check_word" (topS 22) [] :: dOf "are_rows" (topS 27) [] :: dOf "wrong_spot" (topS 28) [] :: dOf "spots_in" (topS 29) [] :: dOf "checked_spots" (topS 30) [] :: dMet "Land" "__init__" "Land.__init__" (inClass (topS 31) 0) [] :: dMet "Land" "check_name" "Land.check_name" (inClass (topS 31) 1) [] :: dMet "Land" "__eq__" "Land.__eq__" (inClass (topS 31) 6) [] :: dMet "Land" "__str__" "Land.__str__" (inClass (topS 31) 8) [] :: dOf "check_age" (topS 37) [] :: dOf "check_sure" (topS 38) [] :: dOf "key_of" (topS 39) [] :: dOf "telling_row" (topS 40) [] :: dMet "Gathering" "__init__" "Gathering.__init__" (inClass (topS 41) 0) [] :: dMet "Gathering" "place_of" "Gathering.place_of" (inClass (topS 41) 1) [] :: dMet "Gathering" "put" "Gathering.put" (inClass (topS 41) 2) [.str "self", .bl true] :: dMet "Gathering" "strike" "Gathering.strike" (inClass (topS 41) 3) [.str "self"] :: dMet "Gathering" "back" "Gathering.back" (inClass (topS 41) 4) [] :: dMet "Gathering" "settle" "Gathering.settle" (inClass (topS 41) 5) [] :: dMet "Gathering" "tellings" "Gathering.tellings" (inClass (topS 41) 6) [.non] :: dMet "Gathering" "things" "Gathering.things" (inClass (topS 41) 8) [] :: dMet "Gathering" "gatherers" "Gathering.gatherers" (inClass (topS 41) 9) [] :: dMet "Gathering" "__eq__" "Gathering.__eq__" (inClass (topS 41) 10) [] :: dMet "Gathering" "__len__" "Gathering.__len__" (inClass (topS 41) 11) [] :: dMet "Gathering" "__str__" "Gathering.__str__" (inClass (topS 41) 12) [] :: dMet "Gathering" "__repr__" "Gathering.__repr__" (inClass (topS 41) 13) [] :: dOf "check_gathering" (topS 42) [] :: dOf "text_rows" (topS 44) [] :: dOf "read_parts" (topS 45) [] :: dOf "fits_behind" (topS 46) [] :: dOf "land_of_rows" (topS 47) [] :: dOf "show_gathering" (topS 51) [] :: dOf "is_number" (topS 52) [] :: dOf "put_row" (topS 53) [] :: dOf "read_gathering" (topS 54) [] :: dOf "_law_cell" (topS 56) [] :: dOf "_law_purse" (topS 57) [] :: dOf "_law_pick" (topS 58) [] :: dOf "_law_menu" (topS 59) [] :: dOf "_law_word" (topS 60) [] :: dOf "_law_fresh" (topS 61) [] :: dOf "_law_land" (topS 62) [] :: dOf "_law_names" (topS 63) [] :: dOf "_law_told_row" (topS 64) [] :: dOf "_law_told_rows" (topS 65) [] :: dOf "_law_land_text" (topS 66) [] :: dOf "_law_row_text" (topS 67) [] :: dOf "_law_text" (topS 68) [] :: dOf "_law_put" (topS 69) [] :: dOf "_law_moved" (topS 70) [] :: dOf "_law_no_back" (topS 71) [] :: dOf "_law_put_told" (topS 72) [] :: dOf "_law_is" (topS 74) [] :: dOf "_law_goes_on" (topS 73) [] :: dOf "law" (topS 75) [] :: []
def fa : List He.Fa := .glo "NoWord" :: .meth "NoWord" "__init__" :: .glo "NoAge" :: .meth "NoAge" "__init__" :: .glo "NoSure" :: .meth "NoSure" "__init__" :: .glo "NoName" :: .meth "NoName" "__init__" :: .glo "Told" :: .meth "Told" "__init__" :: .glo "Full" :: .meth "Full" "__init__" :: .glo "is_whole" :: .glo "is_number_from" :: .glo "is_word" :: .glo "check_word" :: .glo "are_rows" :: .glo "wrong_spot" :: .glo "spots_in" :: .glo "checked_spots" :: .glo "Land" :: .meth "Land" "check_name" :: .meth "Land" "__eq__" :: .meth "Land" "__str__" :: .glo "check_age" :: .glo "check_sure" :: .glo "key_of" :: .glo "telling_row" :: .glo "Gathering" :: .meth "Gathering" "place_of" :: .meth "Gathering" "put" :: .meth "Gathering" "strike" :: .meth "Gathering" "back" :: .meth "Gathering" "settle" :: .meth "Gathering" "tellings" :: .meth "Gathering" "things" :: .meth "Gathering" "gatherers" :: .meth "Gathering" "__eq__" :: .meth "Gathering" "__len__" :: .meth "Gathering" "__str__" :: .meth "Gathering" "__repr__" :: .glo "check_gathering" :: .glo "text_rows" :: .glo "read_parts" :: .glo "fits_behind" :: .glo "land_of_rows" :: .glo "show_gathering" :: .glo "is_number" :: .glo "put_row" :: .glo "read_gathering" :: .glo "_law_cell" :: .glo "_law_purse" :: .glo "_law_pick" :: .glo "_law_menu" :: .glo "_law_word" :: .glo "_law_fresh" :: .glo "_law_land" :: .glo "_law_names" :: .glo "_law_told_row" :: .glo "_law_told_rows" :: .glo "_law_land_text" :: .glo "_law_row_text" :: .glo "_law_text" :: .glo "_law_put" :: .glo "_law_moved" :: .glo "_law_no_back" :: .glo "_law_put_told" :: .glo "_law_is" :: .glo "_law_goes_on" :: .glo "law" :: .str "LETTERS" "abcdefghijklmnopqrstuvwxyz" :: .int "LONGEST_WORD" 8 :: .int "MOST_ROWS" 6 :: .int "MOST_COLUMNS" 6 :: .int "OLDEST" 120 :: .int "MOST_TELLINGS" 200 :: .str "DOT" "." :: .str "DOUBT" "?" :: .str "LAKE" "-" :: .str "FIGURES" "0123456789" :: .int "MOST_FIGURES" 9 :: .free "bool" :: .free "repr" :: .free "set" :: .glo "NoBack" :: .cls "Land" :: .mkr "Land" :: .noat "Land" "spots" :: .noat "Land" "rows" :: .cls "Gathering" :: .mkr "Gathering" :: .noat "Gathering" "land" :: .noat "Gathering" "told" :: .noat "Gathering" "deeds" :: .exm "NoBack" "NoBack" true :: .exm "Told" "Told" true :: .exm "Full" "Told" false :: .exm "Full" "Full" true :: .free "len" :: .free "range" :: .free "isinstance" :: .free "tuple" :: .free "list" :: .free "sorted" :: .free "all" :: .free "int" :: .free "max" :: .free "min" :: .free "enumerate" :: .free "str" :: []
abbrev R : PySem.W.OpenRow := PySem.W.OpenLaw.row PySem.Challenge.rw_wordlines_k14_gatherings_as_texts
abbrev hk : PySem.W.Hook := hookK fa fn exT
def ob (s : PySem.W.SharedT) : He.AlD × Bool := (He.obsD fa fn (frK (HandSHeadRun.getT s)), exT (frK (HandSHeadRun.getT s)))
theorem ob_eq (s : PySem.W.SharedT) : ob s = hk.obs s.abs := by
  have e : HandSHeadRun.getT s = s.abs.heap.get? := funext (HandSHeadRun.getT_eq s)
  unfold ob
  rw [e]
  rfl
def others : List PySem.Str := "_wall" :: "WordError" :: "LandError" :: "JoinError" :: "NoWord" :: "NoText" :: "NoAge" :: "NoSure" :: "NoLand" :: "NoName" :: "NoGathering" :: "NoTelling" :: "NoBack" :: "Told" :: "Full" :: "LETTERS" :: "LONGEST_WORD" :: "is_whole" :: "is_number_from" :: "is_word" :: "check_word" :: "MOST_ROWS" :: "MOST_COLUMNS" :: "LAKE" :: "are_rows" :: "wrong_spot" :: "spots_in" :: "checked_spots" :: "Land" :: "MOST_TELLINGS" :: "OLDEST" :: "DOT" :: "DOUBT" :: "check_age" :: "check_sure" :: "key_of" :: "telling_row" :: "Gathering" :: "check_gathering" :: "text_rows" :: "read_parts" :: "fits_behind" :: "land_of_rows" :: "FIGURES" :: "MOST_FIGURES" :: "show_gathering" :: "is_number" :: "put_row" :: "read_gathering" :: "_law_cell" :: "_law_purse" :: "_law_pick" :: "_law_menu" :: "_law_word" :: "_law_fresh" :: "_law_land" :: "_law_names" :: "_law_told_row" :: "_law_told_rows" :: "_law_land_text" :: "_law_row_text" :: "_law_text" :: "_law_put" :: "_law_moved" :: "_law_no_back" :: "_law_put_told" :: "_law_goes_on" :: "_law_is" :: []
end Wl

namespace Wl
open PySem PySem.Spec PyProof.Rows L2
noncomputable abbrev atEnd (w : World) (os : OsState) : Option PySem.W.SharedT := HandSHeadRun.endF (HandSHeadRun.stepQ (HandSHeadRun.denQ HandSHeadRun.tabQ) R.prog w) 12000 R.prog w os
theorem runA (w : World) (os : OsState) : (atEnd w os).map (fun s => (HandSHeadRun.looksF R.prog (PySem.W.boot_heap w.params) s.abs, HandSHeadRun.seenQ (PySem.W.view R.prog [75]) others (importedModules R.prog.main.body) (fun s => PySem.W.xlAt (PySem.W.view R.prog [75]) [] s && PySem.W.recOk R.toRowW.records s) s.abs)) = some (true, PySem.W.openGood (PySem.W.view R.prog [75]) others) := by
  kernel_rfl
theorem runB (w : World) (os : OsState) : (atEnd w os).map ob = some (He.valD fn, true) := by
  kernel_rfl
theorem run (w : World) : HandSHeadRun.RunEq R (PySem.W.view R.prog [75]) hk ob 12000 others w := fun os => map3 (runA w os) (runB w os)
end Wl

/-! Sets of texts, whole: set(xs), {e for ..}, sorted(a set). -/
namespace Wl
open PySem PySem.Spec PyProof.Rows L2
open PySem.Froz (SD sObj TxOk addTx tailTx)
theorem tail_ris {ep : Nat} {es : Array (Int × Value)} {t : SetTable} {b : Bool} (r : Ris t.place.toList) : Ris (tailTx ep es t b).2.2.place.toList := by
  unfold tailTx
  split
  · exact relayAll_ris _ _ _
  · exact r
theorem tail_led {ep : Nat} {es : Array (Int × Value)} {t : SetTable} {b : Bool} : (tailTx ep es t b).2.2.led = t.led := by
  unfold tailTx
  split
  · exact relayAll_led _ _ _
  · rfl
theorem add_ris {h : Int} {v : Value} {D : SD} (r : Ris D.2.2.place.toList) : Ris (addTx h v D).2.2.place.toList := by
  unfold addTx
  refine tail_ris ?_
  split
  · exact layNew_ris _ _ _ _ r
  · exact layNew_ris _ _ _ _ r
theorem add_led {h : Int} {v : Value} {D : SD} : (addTx h v D).2.2.led = D.2.2.led := by
  unfold addTx
  rw [tail_led]
  split
  · exact layNew_led _ _ _ _
  · exact layNew_led _ _ _ _
/-- the set at a holds the texts l, each once -/
structure SetX (P : Program) (w : World) (h : Heap) (a : Addr) (l : List Str) : Prop where
  nd : l.Nodup
  ob : ∃ D : SD, h.get? a = some (sObj "set" D) ∧ TxOk P w D l ∧ Ris D.2.2.place.toList ∧ (w.params.followText "set-order" = true ∨ D.2.2.led = true)
section
variable {P : Program} {w : World} {A : Around} {E : Value → Shared → Prop} {s : Shared} {a : Addr} {l : List Str} {k : Str} {u : Tok}
theorem SetX.at {h h' : Heap} (R : SetX P w h a l) (q : ∀ o, h.get? a = some o → h'.get? a = some o) : SetX P w h' a l := by
  obtain ⟨D, h1, h2⟩ := R.ob
  exact ⟨R.nd, D, q _ h1, h2⟩
/-- a text that is there already -/
theorem add_old {T : String} {D : SD} {Q : Bool → Shared → Prop} (hob : s.heap.get? a = some (sObj T D)) (F : TxOk P w D l) (hk : k ∈ l) (hb : l.length < scanBound) (h : Q false s) : wpAny (model P w) A (setAddHashed a (.str k u) (hashStr w k)) Q E s := by
  obtain ⟨es, ep, t⟩ := D
  have hdt : (sObj T (es, ep, t)).data = .set es ep t := rfl
  have hft : t.fits es.size = true := F.fit
  have hels : ElemsOf (strKind P w) es.toList := F.el
  have hn : es.size < scanBound := by rw [show es.size = l.length from F.sz]; exact hb
  have hks : (strKind P w).is k (.str k u) = true := PySem.Froz.is_str k u
  obtain ⟨j, hj⟩ : ∃ j, List.findIdx? (fun e => (strKind P w).is k e.2) es.toList = some j := by
    obtain ⟨e, he, hq⟩ := (F.mem k).mp hk
    cases hr : List.findIdx? (fun e => (strKind P w).is k e.2) es.toList with
    | some j => exact ⟨j, rfl⟩
    | none =>
      have := List.findIdx?_eq_none_iff.mp hr e he
      rw [hq] at this
      cases this
  unfold setAddHashed setAddHashedIn
  refine wpAny_holding (wpAny_bind (wpAny_setState_of hob hdt hft ?_))
  dsimp only
  rw [byScan_of rfl hn hels]
  simp only [↓reduceIte]
  unfold setAddByScan
  refine wpAny_bind (wpAny_bind (wpAny_rule (wpAny_bind (wpAny_setScan_of (knd := strKind P w) (k := k) hks hob hdt hft hels ?_))))
  rw [hj]
  dsimp only
  exact wpAny_pure (wpAny_pure h)
/-- a text put in -/
theorem setX_put {Q : Bool → Shared → Prop} (R : SetX P w s.heap a l) (room : l.length + 1 < scanBound)
    (hQ : ∀ (b : Bool) (h' : Heap) (l' : List Str), (∀ c o, c ≠ a → s.heap.get? c = some o → h'.get? c = some o) → SetX P w h' a l' → (∀ z, z ∈ l' ↔ z ∈ l ∨ z = k) → l'.length ≤ l.length + 1 → Q b { s with heap := h', toks := s.toks + 1 }) :
    wpAny (model P w) A (setAdd a (.str k u)) Q E s := by
  obtain ⟨D, h1, F, r, hl⟩ := R.ob
  unfold setAdd
  refine wpAny_holding (wpAny_bind ((PySem.strKind P w).pyHash (k := k) (strKind_is _ _ _ _) ?_))
  by_cases hk : k ∈ l
  · refine add_old (s := { s with toks := s.toks + 1 }) h1 F hk (by omega) (hQ false s.heap l (fun _ _ _ e => e) R (fun z => ?_) (Nat.le_succ _))
    constructor
    · exact .inl
    · rintro (e | e)
      · exact e
      · rw [e]
        exact hk
  · refine PySem.Froz.add_x (s := { s with toks := s.toks + 1 }) h1 F hk room (hQ true _ (k :: l) (fun c o n e => ?_) ⟨List.nodup_cons.mpr ⟨hk, R.nd⟩, _, PySem.Froz.get_upd _ h1 rfl, PySem.Froz.add_ok u F, add_ris r, ?_⟩ (fun z => ?_) (Nat.le_refl _))
    · exact (Heap.get?_update_other _ _ (Ne.symm n)).trans e
    · rw [add_led]
      exact hl
    · rw [List.mem_cons]
      exact Or.comm
end
section
variable {P : Program} {w : World} {A : Around} {R : Result → Shared → Prop} {I S : Addr} {fp wr : List Addr} {G : Array GenState → Array GenState → Prop} {n : Nat} {Pv : Nat → Value → Prop} {St : Nat → Shared → Prop} {xs : List Str}
/-- the texts of a walk, put in one by one -/
theorem walk_setX (W : WalksS P w A.in1 I fp wr G n Pv St) (hS : S ∉ fp) (hn : n = xs.length) (hb : n + 1 < scanBound) (hv : ∀ i v, Pv i v → ∃ x t, xs[i]? = some x ∧ v = .str x t) :
    ∀ (m i : Nat) (s : Shared) (l : List Str), n - i = m → i ≤ n → St i s → SetX P w s.heap S l → (∀ z, z ∈ l ↔ z ∈ xs.take i) → l.length ≤ i →
      (∀ s' l', Moved (S :: wr) G s s' → SetX P w s'.heap S l' → (∀ z, z ∈ l' ↔ z ∈ xs) → l'.length ≤ n → R (.ok (.ret .none)) s') → codeAny (model P w) A (.builtin "set.update.loop" ⟨[.ref S, .ref I], []⟩) R s := by
  have nS : S ∉ wr := fun q => hS (W.sub _ q)
  have wide : ∀ b ∈ wr, b ∈ S :: wr := fun b q => List.mem_cons_of_mem _ q
  intro m
  induction m with
  | zero =>
    intro i s l hm hi st X hz hl fin
    have e : i = n := by omega
    subst e
    refine codeAny_builtin PyProof.Rows.F.entry_set_update_loop ((Around.under_plainId PyProof.Rows.F.plain_set_update_loop _).symm ▸ ?_)
    show wpAny _ A.in1 (pyNext (.ref I) >>= _) _ _ s
    refine wpAny_bind (W.done s _ _ st fun s' mv => wpAny_pure (fin s' l (mv.mono wide) (X.at fun o q => mv.heap S o nS q) (fun z => ?_) hl))
    rw [hz, hn, List.take_length]
  | succ m ih =>
    intro i s l hm hi st X hz hl fin
    have lt : i < n := by omega
    refine codeAny_builtin PyProof.Rows.F.entry_set_update_loop ((Around.under_plainId PyProof.Rows.F.plain_set_update_loop _).symm ▸ ?_)
    show wpAny _ A.in1 (pyNext (.ref I) >>= _) _ _ s
    refine wpAny_bind (W.item i s _ _ lt st fun v s' pv st' mv => ?_)
    obtain ⟨x, t, hx, rfl⟩ := hv i v pv
    have X1 := X.at (h' := s'.heap) fun o q => mv.heap S o nS q
    show wpAny _ A.in1 (holding [Value.str x t] (setAdd S (.str x t)) >>= _) _ _ s'
    refine wpAny_bind (wpAny_holding (setX_put X1 (by omega) fun b h' l' kp X2 hz2 hl2 => ?_))
    refine wpAny_pure ⟨plainId_quiet PyProof.Rows.F.plain_set_update_loop _, ih (i + 1) _ l' (by omega) lt (W.frame _ s' _ _ st' (Nat.le_succ _) fun c hc o q => ?_) X2 (fun z => ?_) (by omega) fun s'' l'' mv2 X3 hz3 hl3 => fin s'' l'' (Moved.trans W.gtrans ((mv.mono wide).then_heap (Nat.le_succ _) fun c o hc q => ?_) mv2) X3 hz3 hl3⟩
    · exact kp c o (fun e => hS (e ▸ hc)) q
    · rw [hz2, hz, List.take_add_one, hx, List.mem_append]
      simp
    · exact kp c o (fun e => hc (e ▸ List.mem_cons_self)) q
end
theorem texts_each : ∀ {ys : List Str} {us : List Value}, Vals (ys.map V.str) us → ∀ (i : Nat) (v : Value), us[i]? = some v → ∃ x t, ys[i]? = some x ∧ v = .str x t
  | [], [], _, i, v, h => by simp at h
  | [], _ :: _, r, _, _, _ => nomatch r
  | _ :: _, [], r, _, _, _ => nomatch r
  | y :: ys, u :: us, .cons r t, 0, v, h => by
    obtain ⟨k, rfl⟩ := r
    exact ⟨y, k, rfl, (Option.some.inj h).symm⟩
  | y :: ys, u :: us, .cons r t, i + 1, v, h => by
    obtain ⟨x, k, h1, h2⟩ := texts_each t i v (by simpa using h)
    exact ⟨x, k, by simpa using h1, h2⟩
end Wl

namespace Wl
open PySem PySem.Spec PyProof.Rows L2
open PySem.Froz (SD sObj TxOk addTx tailTx)
/-- a new set, as the world lays it -/
abbrev setN (w : World) : Obj := { cls := .type "set", dict := none, data := .set #[] 0 (.fresh 0 0 (!w.params.followText "set-order")) }
theorem setX_new {P : Program} {w : World} {h : Heap} {a : Addr} (ho : h.get? a = some (setN w)) : SetX P w h a [] := by
  refine ⟨List.nodup_nil, (#[], 0, .fresh 0 0 (!w.params.followText "set-order")), ho, PySem.Froz.TxOk.nil rfl, List.Pairwise.nil, ?_⟩
  show _ ∨ (!w.params.followText "set-order") = true
  cases w.params.followText "set-order"
  · exact .inr rfl
  · exact .inl rfl
section
variable {P : Program} {w : World} {A : Around} {E : Value → Shared → Prop} {s : Shared} {xs : List Str}
theorem make_setX {l : Addr} {items : Array Value} {Q : Value → Shared → Prop} (hh : A.handled = none) (hl : s.heap.IsList l items) (r : Vals (xs.map V.str) items.toList) (hb : xs.length + 1 < scanBound)
    (h : ∀ (h' : Heap) (tk : Nat) (ys : List Str), SetX P w h' s.heap.objs.size ys → (∀ z, z ∈ ys ↔ z ∈ xs) → ys.length ≤ xs.length → (∀ b o, b < s.heap.objs.size → s.heap.get? b = some o → h'.get? b = some o) → Q (.ref s.heap.objs.size) { s with heap := h', toks := tk }) :
    wpAny (model P w) A (call (.type "set") [.ref l]) Q E s := by
  have hsz : xs.length = items.size := by
    have := r.length
    rw [List.length_map, Array.length_toList] at this
    exact this
  obtain ⟨c, tl, hmro⟩ := PySem.F.called_set.mro
  have a1 := PySem.F.called_set.made
  have a2 := PySem.F.called_set.sub
  have a3 := PySem.F.called_set.notType
  have a4 := PySem.F.called_set.canCreate
  have a5 := PySem.F.typeCall_set_1 (.ref l)
  refine wpAny_call (codeAny_of_tree (show wpAny _ _ (callAny (.type "set") _) _ _ _ from wpAny_pure ⟨Code.quiet_builtin _ (by decide +kernel), codeAny_builtin PySem.F.entry_type_call ?_⟩))
  rw [Around.under_plain (weight_type_call_type "set" [.ref l] []) rfl]
  repeat (any_goals (first | assumption | wp_step))
  refine codeAny_mono (code_set_led1 (.ref l) (E := E) (Q₁ := fun obj s₁ => obj = .ref s.heap.objs.size ∧ s₁ = { s with heap := s.heap.push (setN w) }) ⟨rfl, rfl⟩) fun r₁ s₁ h₁ => ?_
  cases r₁ with
  | error e => exact h₁
  | ok fl =>
    cases fl with
    | ret obj =>
      obtain ⟨rfl, rfl⟩ := h₁
      have g1 : (s.heap.push (setN w)).get? s.heap.objs.size = some (setN w) := Heap.get?_push_size _ rfl
      have g2 : Shared.TypeIs { s with heap := s.heap.push (setN w) } (.ref s.heap.objs.size) "set" := ⟨_, g1, rfl⟩
      have g3 := PySem.F.called_set.init.lookup
      have g4 := PySem.F.called_set.init.bind (.ref s.heap.objs.size)
      repeat (any_goals (first | assumption | wp_step))
      refine codeAny_mono (codeAny_call_builtin (R := wants (fun v s₂ => v = .none ∧ ∃ h' tk ys, s₂ = { s with heap := h', toks := tk } ∧ SetX P w h' s.heap.objs.size ys ∧ (∀ z, z ∈ ys ↔ z ∈ xs) ∧ ys.length ≤ xs.length ∧ (∀ b o, b < s.heap.objs.size → s.heap.get? b = some o → h'.get? b = some o)) E) PySem.F.called_set.init.plain PySem.F.entry_set_init (check_set_init_1 g2 ?_)) fun r₂ s₂ h₂ => ?_
      · obtain ⟨⟨oc, odt, oda, osl⟩, e1, e2, nl, e3⟩ := hl
        simp only at e2 e3
        subst e2 e3
        have e4 : (s.heap.push (setN w)).get? l = some { cls := .type "list", dict := odt, data := .seq items nl, slots := osl } := Heap.get?_push_of_some _ e1
        have b1 := PySem.F.sub_list_set
        have b2 := PySem.F.sub_list_frozenset
        have b3 : (Value.type "list" == Value.type "dict") = false := by decide
        have il : (s.heap.push (setN w)).IsList l items := ⟨_, e4, rfl, nl, rfl⟩
        have ll : l < s.heap.objs.size := Heap.lt_size e1
        have zz : (s.heap.push (setN w)).objs.size = s.heap.objs.size + 1 := Heap.size_push ..
        unfold Builtin.«set.__init__» noKeywords Builtin.Frozenset.updateFrom
        generalize hPI : pyIter = PI
        wp_walk
        subst hPI
        refine wpAny_pyIter_list il (wpAny_bind (wpAny_runValue ?_))
        have hh3 : A.in1.in1.in1.handled = none := by simp [hh]
        refine walk_setX (S := s.heap.objs.size) (xs := xs) (n := items.size) ((Walks.list hh3 _ l (by rw [zz]; exact Nat.ne_of_lt (Nat.lt_succ_of_lt ll)) items).toS) (by rw [zz]; simp only [List.mem_cons, List.not_mem_nil, or_false, not_or]; exact ⟨Nat.ne_of_lt (Nat.lt_succ_self _), Nat.ne_of_gt ll⟩) hsz.symm (by omega) (fun i v q => texts_each r i v (by rw [Array.getElem?_toList]; exact q)) (items.size - 0) 0 _ [] (by omega) (Nat.zero_le _) ⟨⟨_, Heap.get?_push_size _ rfl, rfl, rfl⟩, il.push _⟩ (setX_new (Heap.get?_push_of_some _ g1)) (fun z => by simp) (Nat.le_refl _) ?_
        intro s' ys mv X hz hy
        obtain ⟨h', g', d', tk', os'⟩ := s'
        obtain rfl : g' = s.gens := mv.gens
        obtain rfl : d' = s.drawn := mv.drawn
        obtain rfl : os' = s.os := mv.os
        refine wpAny_pure (show wpAny _ _ (ret Value.none) _ _ _ from wpAny_pure ⟨rfl, h', tk', ys, rfl, X, hz, by rw [hsz]; exact hy, fun b' o hb' q => mv.heap b' o ?_ (Heap.get?_push_of_some _ (Heap.get?_push_of_some _ q))⟩)
        rw [zz]
        simp only [List.mem_cons, List.not_mem_nil, or_false, not_or]
        exact ⟨Nat.ne_of_lt hb', Nat.ne_of_lt (Nat.lt_succ_of_lt hb')⟩
      · cases r₂ with
        | error e => exact h₂
        | ok fl₂ =>
          cases fl₂ with
          | ret v =>
            obtain ⟨rfl, h', tk, ys, rfl, X, hz, hy, kk⟩ := h₂
            repeat (any_goals (first | assumption | wp_step))
            exact h _ _ ys X hz hy kk
          | _ => exact h₂.elim
    | _ => exact h₁.elim
end
/-! as tracked things -/
def SetXO (P : Program) (w : World) (a : Addr) (l : List Str) : HO := .ext fun h => SetX P w h a l
theorem setXO_ok {P : Program} {w : World} {H : Hp} {h : Heap} {a : Addr} {l : List Str} (R : SetX P w h a l) : ObjOk P w H h a (SetXO P w a l) := by
  obtain ⟨D, h1, _⟩ := R.ob
  exact ⟨R, ⟨_, h1⟩, fun _ _ p k => p.at k⟩
theorem same_members {ks : List Str} : ∀ {l : List Str}, l.Nodup → (∀ z ∈ l, z ∈ ks) → ks.length = l.length → ks.Perm l := by
  intro l
  induction l generalizing ks with
  | nil =>
    intro _ _ h
    rw [List.eq_nil_of_length_eq_zero h]
  | cons x l ih =>
    intro nd hs hl
    rw [List.nodup_cons] at nd
    have hx := hs x List.mem_cons_self
    have p := List.perm_cons_erase hx
    refine p.trans (List.Perm.cons x (ih nd.2 (fun z hz => ?_) ?_))
    · have hne : z ≠ x := fun e => nd.1 (e ▸ hz)
      exact (List.mem_erase_of_ne hne).mpr (hs z (List.mem_cons_of_mem _ hz))
    · have := p.length_eq
      rw [List.length_cons] at this
      rw [List.length_cons] at hl
      omega
def txtV : Value → Str
  | .str k _ => k
  | _ => ""
theorem strs_srt (ks : List Str) : ks.mergeSort (PySem.W.dataLe false PyData.str) = sortS ks := by
  unfold sortS
  congr 1
  funext a b
  exact le_data_str a b
theorem each_txt : ∀ {vs : List Value}, (∀ v ∈ vs, ∃ k t, v = .str k t) → PySem.W.EachIs (fun u z => RelV (.str z) u) vs (vs.map txtV)
  | [], _ => .nil
  | v :: vs, h => by
    obtain ⟨k, t, rfl⟩ := h v List.mem_cons_self
    exact .cons ⟨t, rfl⟩ (each_txt fun u hu => h u (List.mem_cons_of_mem _ hu))
theorem vals_txt : ∀ {out : List Value} {ks : List Str}, PySem.W.EachIs (fun u z => RelV (.str z) u) out ks → Vals (ks.map V.str) out
  | _, _, .nil => .nil
  | _, _, .cons r t => .cons r (vals_txt t)
theorem sortS_perm {a b : List Str} (nd : b.Nodup) (p : a.Perm b) : sortS a = sortS b := by
  refine sortS_eq nd (sortS_rising (p.nodup_iff.mpr nd)) fun z => ?_
  rw [mem_sortS, p.mem_iff]
section
variable {X : Cx}
/-- set(xs), xs a list of texts -/
def rSetX (K : PySem.W.Frag) (P : Program) (w : World) : List V → Hp → VK → Prop := fun xs H Q => ∃ (p : Addr) (ys : List Str), xs = [V.ref p] ∧ SqL K H p (ys.map V.str) ∧ ys.length ≤ 1000 ∧
  ∀ (a : Addr) (l : List Str), H a = none → l.Nodup → (∀ z, z ∈ l ↔ z ∈ ys) → l.length ≤ ys.length → Q (.ref a) (upd H a (SetXO P w a l))
theorem cr_setX (hc : X.calm = true) : CallR X (.type "set") (rSetX X.K X.prog X.w) := by
  intro pins s σ H xs us Q I r h
  obtain ⟨p, ys, rfl, hp, hy, q⟩ := h
  rw [Vals.ref1 r]
  obtain ⟨its, rv, pl, hz⟩ := I.list hp
  refine make_setX (P := X.prog) (w := X.w) (I.ok.hd hc) pl.isList (by simpa using rv) (by unfold scanBound; omega) fun h' tk l R hm hl k => ?_
  exact ⟨.ref s.heap.objs.size, upd H s.heap.objs.size (SetXO X.prog X.w s.heap.objs.size l), I.laid (t' := tk) (fun b o e => k b o (Heap.lt_size e) e) (Nat.le_refl _) (setXO_ok R), rfl, q _ l (I.hok.fresh (Nat.le_refl _)) R.nd hm hl⟩
/-- sorted(a set of texts) -/
def rSortX (P : Program) (w : World) : List V → Hp → VK → Prop := fun vs H Q => ∃ (a : Addr) (l : List Str), vs = [V.ref a] ∧ H a = some (SetXO P w a l) ∧ l.length ≤ 1000 ∧ ∀ p, H p = none → Q (.ref p) (upd H p (.lst ((sortS l).map V.str)))
theorem cr_sortX (hc : X.calm = true) (hu : X.A.units + 64 < cLine) : CallR X (.builtin "sorted") (rSortX X.prog X.w) := by
  intro pins s σ H vs us Q I r h
  obtain ⟨a, l, rfl, ha, hl, q⟩ := h
  have R : SetX X.prog X.w s.heap a l := (I.hok a _ ha).1
  rw [Vals.ref1 r]
  obtain ⟨⟨es, ep, t⟩, ho, F, ri, led⟩ := R.ob
  have hes : es.size = l.length := F.sz
  refine Calls.call_function_entry PyProof.Rows.kind_sorted PyProof.Rows.plain_sorted PyProof.Rows.entry_sorted (PyProof.Rows.args_sorted1 _) ?_
  unfold Builtin.«sorted»
  refine wpAny_bind (m := checkCount "sorted" 1 1 _) (wpAny_pure ?_)
  refine wpAny_bind (collect_set (A := X.A.in1) (I.ok.hd hc) ⟨_, ho, rfl, rfl⟩ F.fit (by show es.size < scanBound; unfold scanBound; omega) ri led fun s1 out k1 z1 g1 o1 pm => ?_)
  have hv : ∀ v ∈ out, ∃ k t, v = Value.str k t := fun v hv => by
    obtain ⟨e, he, rfl⟩ := List.mem_map.mp (pm.mem_iff.mp hv)
    obtain ⟨⟨k, hk, _⟩, _⟩ := F.el e he
    obtain ⟨t, ht⟩ := Value.isStrOf_shape (x := k) (v := e.2) hk
    exact ⟨k, t, ht⟩
  have hol : out.length = l.length := by
    rw [pm.length_eq, List.length_map, Array.length_toList]
    exact hes
  have pl : (out.map txtV).Perm l := by
    refine same_members R.nd (fun z hz => ?_) (by rw [List.length_map]; exact hol)
    obtain ⟨e, he, hk⟩ := (F.mem z).mp hz
    obtain ⟨t, ht⟩ := Value.isStrOf_shape (x := z) (v := e.2) hk
    refine List.mem_map.mpr ⟨e.2, pm.mem_iff.mpr (List.mem_map.mpr ⟨e, he, rfl⟩), ?_⟩
    rw [ht]
    rfl
  have hS := each_txt hv
  have hsl : (out.map txtV).length ≤ sizeLine := by
    rw [List.length_map, hol]
    exact Nat.le_trans hl (by decide)
  refine wpAny_bind (wpAny_newList ?_ (by rw [hol]; exact Nat.le_trans hl (by decide)))
  have hoL : (s1.heap.push (seqObj "list" out.toArray 0)).get? s1.heap.objs.size = some (seqObj "list" out.toArray 0) := Heap.get?_push_size _ rfl
  refine wpAny_bind (wpAny_holding (PySem.W.list_sort_data (R := fun u z => RelV (.str z) u) (enc := PyData.str) (s := { s1 with heap := s1.heap.push (seqObj "list" out.toArray 0) }) hoL hS (hS.mono fun v b r => ?_) (PySem.W.AllAlike.of fun _ _ => rfl) (PySem.W.Sortable.others fun b => ⟨(fun e => by cases e), (fun xs e => by cases e)⟩) hsl (fun b _ => ?_) fun srt hso eo => ?_))
  · obtain ⟨t, rfl⟩ := r
    exact ⟨[], .str _ _, by simp⟩
  · show X.A.units + 1 + 1 + 0 < cLine
    omega
  · rw [strs_srt, sortS_perm R.nd pl] at eo
    obtain ⟨e', he'⟩ := PyProof.Rows.sortedHeap_at (vs := out) (out := srt.toArray) hoL
    have hlen : ((sortS l).map V.str).length ≤ sizeLine := by
      rw [List.length_map, sortS_len]
      exact Nat.le_trans hl (by decide)
    have hn : H s1.heap.objs.size = none := I.hok.fresh z1
    have kp : ∀ b o, s.heap.get? b = some o → (PyProof.Rows.sortedHeap (s1.heap.push (seqObj "list" out.toArray 0)) s1.heap.objs.size out srt.toArray).get? b = some o := fun b o e => by
      have q1 := k1 b o e
      have hb := Heap.lt_size q1
      rw [PyProof.Rows.sortedHeap_old (Nat.ne_of_lt hb) (by rw [size_push']; exact Nat.lt_succ_of_lt hb)]
      exact Heap.get?_push_of_some _ q1
    have J : L2.Inv X pins σ (upd H s1.heap.objs.size (.lst ((sortS l).map V.str))) { s with heap := PyProof.Rows.sortedHeap (s1.heap.push (seqObj "list" out.toArray 0)) s1.heap.objs.size out srt.toArray, gens := s1.gens, drawn := s1.drawn, toks := s1.toks } :=
      I.call (ch := []) (Un.laid kp z1 hn) (I.hok.laid kp z1 ⟨hlen, srt, e', vals_txt eo, he'⟩) (by rw [g1]; exact I.bare) (fun _ z => nomatch z)
    have es1 : ({ s1 with heap := PyProof.Rows.sortedHeap (s1.heap.push (seqObj "list" out.toArray 0)) s1.heap.objs.size out srt.toArray } : Shared) = { s with heap := PyProof.Rows.sortedHeap (s1.heap.push (seqObj "list" out.toArray 0)) s1.heap.objs.size out srt.toArray, gens := s1.gens, drawn := s1.drawn, toks := s1.toks } := by
      cases s1
      cases s
      cases o1
      rfl
    refine wpAny_pure ⟨_, rfl, .ref s1.heap.objs.size, upd H s1.heap.objs.size (.lst ((sortS l).map V.str)), ?_, rfl, q _ hn⟩
    show L2.Inv X pins σ _ { s1 with heap := PyProof.Rows.sortedHeap (s1.heap.push (seqObj "list" out.toArray 0)) s1.heap.objs.size out srt.toArray }
    rw [es1]
    exact J
end
end Wl

namespace Wl
open PySem PySem.Spec PyProof.Rows L2

inductive Each {α β : Type} (R : α → β → Prop) : List α → List β → Prop
  | nil : Each R [] []
  | cons {a : α} {b : β} {as : List α} {bs : List β} : R a b → Each R as bs → Each R (a :: as) (b :: bs)
section
variable {α β : Type} {R S : α → β → Prop}
theorem Each.length : ∀ {as : List α} {bs : List β}, Each R as bs → as.length = bs.length
  | _, _, .nil => rfl
  | _, _, .cons _ t => congrArg (· + 1) t.length
theorem Each.mono (h : ∀ a b, R a b → S a b) : ∀ {as : List α} {bs : List β}, Each R as bs → Each S as bs
  | _, _, .nil => .nil
  | _, _, .cons r t => .cons (h _ _ r) (t.mono h)
theorem Each.append : ∀ {as : List α} {bs : List β} {cs : List α} {ds : List β}, Each R as bs → Each R cs ds → Each R (as ++ cs) (bs ++ ds)
  | _, _, _, _, .nil, s => s
  | _, _, _, _, .cons r t, s => .cons r (t.append s)
theorem Each.get : ∀ {as : List α} {bs : List β} {i : Nat} {a : α}, Each R as bs → as[i]? = some a → ∃ b, bs[i]? = some b ∧ R a b
  | _, _, _, _, .nil, e => by simp at e
  | _, _, 0, _, .cons r _, e => by simp at e; subst e; exact ⟨_, rfl, r⟩
  | _, _, i + 1, x, .cons _ t, e => by
    obtain ⟨u, h1, h2⟩ := t.get (i := i) (a := x) (by simpa using e)
    exact ⟨u, by simpa using h1, h2⟩
theorem Each.get2 : ∀ {as : List α} {bs : List β} {i : Nat} {b : β}, Each R as bs → bs[i]? = some b → ∃ a, as[i]? = some a ∧ R a b
  | _, _, _, _, .nil, e => by simp at e
  | _, _, 0, _, .cons r _, e => by simp at e; subst e; exact ⟨_, rfl, r⟩
  | _, _, i + 1, x, .cons _ t, e => by
    obtain ⟨u, h1, h2⟩ := t.get2 (i := i) (b := x) (by simpa using e)
    exact ⟨u, by simpa using h1, h2⟩
theorem Each.mem2 : ∀ {as : List α} {bs : List β} {b : β}, Each R as bs → b ∈ bs → ∃ a ∈ as, R a b
  | _, _, _, .nil, h => by simp at h
  | _, _, _, .cons r t, h => by
    rcases List.mem_cons.mp h with rfl | h
    · exact ⟨_, List.mem_cons_self, r⟩
    · obtain ⟨a, ha, hr⟩ := t.mem2 h
      exact ⟨a, List.mem_cons_of_mem _ ha, hr⟩
theorem each_fn {f : α → β} : ∀ {as : List α} {bs : List β}, Each (fun a b => b = f a) as bs → bs = as.map f
  | _, _, .nil => rfl
  | _, _, .cons r t => by rw [List.map_cons, ← each_fn t, r]
theorem each_map_l {γ : Type} {g : γ → α} : ∀ {cs : List γ} {bs : List β}, Each R (cs.map g) bs → Each (fun c b => R (g c) b) cs bs
  | [], [], _ => .nil
  | [], _ :: _, h => nomatch h
  | _ :: _, [], h => nomatch h
  | _ :: _, _ :: _, .cons r t => .cons r (each_map_l t)
theorem each_map_r {γ : Type} {g : γ → α} : ∀ {cs : List γ} {bs : List β}, Each (fun c b => R (g c) b) cs bs → Each R (cs.map g) bs
  | _, _, .nil => .nil
  | _, _, .cons r t => .cons r (each_map_r t)
end

theorem filter_take_snoc {α : Type} {p : α → Bool} {ys : List α} {i : Nat} {x : α} (h : ys[i]? = some x) : (ys.take (i + 1)).filter p = (ys.take i).filter p ++ (if p x then [x] else []) := by
  rw [List.take_add_one, h, List.filter_append]
  congr 1
  by_cases c : p x = true
  · simp [c]
  · simp [c]

section
variable {J : It} {ys : List V} {G : Hp → Prop} {slot : Nat} {tt : TT} {te : TE} {vs : List Nat} {σ : L2.St} {H1 : Hp} {D : Addr} {Qd : Hp → Prop}
/-- a comprehension [e for x in ys if t]: each e a value that R tells of, the heap only growing -/
theorem lc_rel (w : L2.Walk J ys.length G (YAt ys)) (hD : H1 D = none) (keep : V → Bool) (R : V → V → Hp → Prop)
    (hG : ∀ H, Same H1 H → G H)
    (hw : ∀ x, wipe ((wipe σ vs).set slot (some x)) vs = wipe σ vs)
    (ht : ∀ (x : V) (H : Hp), x ∈ ys → Same H1 H → ∀ Q : Bool → Hp → Prop, Q (keep x) H → tt ((wipe σ vs).set slot (some x)) H Q)
    (he : ∀ (x : V) (H : Hp), x ∈ ys → keep x = true → Same H1 H → ∀ Q : VK, (∀ y H', Same H H' → R x y H' → Q y H') → te ((wipe σ vs).set slot (some x)) H Q)
    (hR : ∀ x y H H' acc, H D = some (.lst acc) → SameX D H H' → R x y H → R x y H')
    (hn : ys.length < sizeLine)
    (hd : ∀ zs H, Same H1 H → H D = some (.lst zs) → Each (fun x z => R x z H) (ys.filter keep) zs → Qd H) :
    ∃ W : Nat → Nat → Hp → Prop, (∃ m, W 0 m (upd H1 D (.lst []))) ∧ ∀ i m H, W i m H →
      (J.stop i H ∧ Qd H) ∨ (J.go i H ∧ ∃ Nx : Hp → Prop, (∀ H', Nx H' → ∃ m', m' < m ∧ W (i + 1) m' H') ∧ ∀ x H', J.yld i H x H' → gName slot x (wipe σ vs) H' fun σ2 H2 => wipe σ2 vs = wipe σ vs ∧ tt σ2 H2 fun b H3 =>
        if b = true then te σ2 H3 fun y H4 => ∃ acc, H4 D = some (.lst acc) ∧ acc.length < sizeLine ∧ Nx (upd H4 D (.lst (acc ++ [y]))) else Nx H3) := by
  refine lc_it w (fun i H => ∃ zs, Same H1 H ∧ H D = some (.lst zs) ∧ Each (fun x z => R x z H) ((ys.take i).filter keep) zs) ⟨[], same_new hD, upd_same, by simpa using Each.nil⟩ (fun i H _ h => ?_) ?_ ?_
  · obtain ⟨zs, s, _⟩ := h
    exact hG H s
  · rintro i x H H' hi ⟨zs, s, hz, ez⟩ ⟨rfl, hx⟩
    have hm : x ∈ ys := List.mem_of_getElem? hx
    refine ⟨hw x, ht x _ hm s _ ?_⟩
    have hf := filter_take_snoc (p := keep) hx
    refine ite_b (fun e => ?_) (fun e => ?_)
    · refine he x _ hm e s _ fun y H4 s4 r4 => ⟨zs, s4 _ _ hz, ?_, zs ++ [y], same_mut (s.trans s4) hD, upd_same, ?_⟩
      · have h1 := ez.length
        have h2 : ((ys.take i).filter keep).length ≤ (ys.take i).length := List.length_filter_le _ _
        have h3 : (ys.take i).length ≤ ys.length := List.length_take_le' _ _
        omega
      · rw [hf, if_pos e]
        have hD4 : H4 D = some (.lst zs) := s4 _ _ hz
        refine Each.append (ez.mono fun a b r => ?_) (.cons ?_ .nil)
        · exact hR _ _ _ _ _ hz (fun b o n h => by rw [upd_ne n]; exact s4 _ _ h) r
        · exact hR _ _ _ _ _ hD4 sameX_upd r4
    · refine ⟨zs, s, hz, ?_⟩
      rw [hf, if_neg (by rw [e]; decide), List.append_nil]
      exact ez
  · rintro H ⟨zs, s, hz, ez⟩
    rw [List.take_length] at ez
    exact hd zs H s hz ez
/-- the same, each e a plain value, the heap as it was -/
theorem lc_map (w : L2.Walk J ys.length G (YAt ys)) (hD : H1 D = none) (keep : V → Bool) (f : V → V)
    (hG : ∀ H, Same H1 H → G H)
    (hw : ∀ x, wipe ((wipe σ vs).set slot (some x)) vs = wipe σ vs)
    (ht : ∀ (x : V) (H : Hp), x ∈ ys → Same H1 H → ∀ Q : Bool → Hp → Prop, Q (keep x) H → tt ((wipe σ vs).set slot (some x)) H Q)
    (he : ∀ (x : V) (H : Hp), x ∈ ys → keep x = true → Same H1 H → ∀ Q : VK, Q (f x) H → te ((wipe σ vs).set slot (some x)) H Q)
    (hn : ys.length < sizeLine)
    (hd : ∀ H, Same H1 H → H D = some (.lst ((ys.filter keep).map f)) → Qd H) :
    ∃ W : Nat → Nat → Hp → Prop, (∃ m, W 0 m (upd H1 D (.lst []))) ∧ ∀ i m H, W i m H →
      (J.stop i H ∧ Qd H) ∨ (J.go i H ∧ ∃ Nx : Hp → Prop, (∀ H', Nx H' → ∃ m', m' < m ∧ W (i + 1) m' H') ∧ ∀ x H', J.yld i H x H' → gName slot x (wipe σ vs) H' fun σ2 H2 => wipe σ2 vs = wipe σ vs ∧ tt σ2 H2 fun b H3 =>
        if b = true then te σ2 H3 fun y H4 => ∃ acc, H4 D = some (.lst acc) ∧ acc.length < sizeLine ∧ Nx (upd H4 D (.lst (acc ++ [y]))) else Nx H3) :=
  lc_rel w hD keep (fun x y _ => y = f x) hG hw ht (fun x H hx hk s Q q => he x H hx hk s Q (q _ H (Same.refl H) rfl)) (fun _ _ _ _ _ _ _ r => r) hn fun zs H s hz ez => hd H s (by rw [hz, each_fn ez])
end
/-- a text's signs as a list -/
def signsOf (z : Str) : List V := z.cps.toList.map fun c => .str (sign c)
theorem walk_signs {z : Str} : L2.Walk (Its z) (signsOf z).length (fun _ => True) (YAt (signsOf z)) := by
  have e : (signsOf z).length = z.cps.size := by simp [signsOf]
  rw [e]
  refine ⟨fun _ _ hi _ => hi, fun _ _ => Nat.le_refl _, ?_⟩
  rintro i H x H' _ _ ⟨rfl, c, hc, rfl⟩
  refine ⟨rfl, ?_⟩
  have : z.cps.toList[i]? = some c := by simpa using hc
  simp only [signsOf, List.getElem?_map, this]
  rfl
theorem yes_pure {σ : L2.St} {H : Hp} {Q : Bool → Hp → Prop} (h : Q true H) : tYes σ H Q := h
theorem inV_strs (z : Str) (ws : List Str) : inV (.str z) (ws.map V.str) = decide (z ∈ ws) := by
  unfold inV
  induction ws with
  | nil => rfl
  | cons x r ih =>
    rw [List.map_cons, List.any_cons, ih]
    by_cases h : x = z
    · subst h
      simp [eqV]
    · have h2 : ¬ z = x := fun e => h e.symm
      simp [eqV, h, h2]
theorem flat_strs (ws : List Str) : (ws.map V.str).all flatV = true := by
  rw [List.all_eq_true]
  intro v hv
  obtain ⟨x, _, rfl⟩ := List.mem_map.mp hv
  rfl
theorem dp_strs {K : PySem.W.Frag} {H : Hp} : ∀ ws : List Str, DpAll K H (ws.map V.str) (ws.map PyData.str)
  | [] => .nil
  | z :: r => .cons (.str z) (dp_strs r)
theorem wd_ok {z : Str} (h : IsWd z) : PyData.strOk z = true := by
  unfold PyData.strOk
  rw [← Array.all_toList, List.all_eq_true]
  intro c hc
  unfold IsWd wdB at h
  simp only [Bool.and_eq_true, decide_eq_true_eq, List.all_eq_true] at h
  have := h.2 c hc
  exact decide_eq_true (by omega)
theorem lay_strs : ∀ {ws : List Str}, (∀ z ∈ ws, IsWd z) → PyData.canLayAll0 (ws.map PyData.str) = true
  | [], _ => by simp [PyData.canLayAll0]
  | z :: r, h => by
    have h1 := wd_ok (h z List.mem_cons_self)
    have h2 := lay_strs (ws := r) fun y hy => h y (List.mem_cons_of_mem _ hy)
    simp [PyData.canLayAll0, PyData.canLay0, h1, h2]
theorem depth_strs : ∀ ws : List Str, PyData.depthAll (ws.map PyData.str) = 0
  | [] => by simp [PyData.depthAll]
  | z :: r => by simp [PyData.depthAll, PyData.depth, depth_strs r]
theorem shaped_list {ds : List PyData} (h : PyData.canLayAll0 ds = true) (d : PyData.depthAll ds ≤ 60) : SeqAt.shaped (.list ds) = true := by
  unfold SeqAt.shaped
  rw [Bool.and_eq_true]
  refine ⟨by simpa [PyData.canLay0] using h, decide_eq_true ?_⟩
  simp only [PyData.depth]
  omega
theorem shaped_tuple {ds : List PyData} (h : PyData.canLayAll0 ds = true) (d : PyData.depthAll ds ≤ 60) : SeqAt.shaped (.tuple ds) = true := by
  unfold SeqAt.shaped
  rw [Bool.and_eq_true]
  refine ⟨by simpa [PyData.canLay0] using h, decide_eq_true ?_⟩
  simp only [PyData.depth]
  omega
theorem cut_hi (z : Str) (k : Nat) : (cutS z none (some (k : Int))).cps.toList = z.cps.toList.take k := by
  show ((z.cps.toList.drop (HT.sIx z.length 0 none)).take (HT.sIx z.length z.length (some (k : Int)) - HT.sIx z.length 0 none)) = _
  rw [HT.sIx_none, HT.sIx_nat, Nat.sub_zero, List.drop_zero]
  have : z.length = z.cps.toList.length := by simp [Str.length]
  rw [this]
  by_cases h : k ≤ z.cps.toList.length
  · rw [Nat.min_eq_left h]
  · rw [Nat.min_eq_right (by omega), List.take_length, List.take_of_length_le (by omega)]
end Wl

/-! {e for x in xs if t}, e a text. -/
namespace Wl
open PySem PySem.Spec PyProof.Rows L2
section
variable {X : Cx}
/-- set.add of a text to a tracked set -/
theorem putX_ok {pins : List (Addr × Obj)} {σ : L2.St} {H : Hp} {s : Shared} {E : Value → Shared → Prop} {D : Addr} {l : List Str} {z : Str} {tk : Tok} {Q : Value → Shared → Prop} (I : L2.Inv X pins σ H s) (hD : H D = some (SetXO X.prog X.w D l)) (room : l.length + 1 < scanBound)
    (h : ∀ s' l', l'.Nodup → (∀ y, y ∈ l' ↔ y ∈ l ∨ y = z) → l'.length ≤ l.length + 1 → L2.Inv X pins σ (upd H D (SetXO X.prog X.w D l')) s' → Q .none s') : wpAny (model X.prog X.w) X.A (call (.builtin "set.add") [.ref D, .str z tk]) Q E s := by
  have R : SetX X.prog X.w s.heap D l := (I.hok D _ hD).1
  obtain ⟨D0, ho, _⟩ := R.ob
  refine wpAny_call_entry F.slot_set_add ⟨_, ho, rfl⟩ F.entry_set_add ?_ (F.args_set_add_2 _ _)
  unfold Builtin.«set.add» Builtin.Frozenset.oneOther
  simp only [List.isEmpty_nil, bind_assoc]
  unfold Builtin.Frozenset.addrOf
  refine wpAny_bind (wpAny_pure (wpAny_bind (wpAny_pure (wpAny_bind ?_))))
  refine setX_put R room fun b h' l' kp R' hm hl => ?_
  show wpAny _ _ (ret Value.none) _ _ _
  obtain ⟨D1, ho1, _⟩ := R'.ob
  exact wpAny_pure ⟨_, rfl, h _ l' R'.nd hm hl (I.write (e := D) (t' := s.toks + 1) (by rw [hD]; trivial) (.inl rfl) (fun c u hc hu => kp c u hc hu) ⟨_, ho1⟩ (setXO_ok R'))⟩
/-- what {e for x in xs if t} asks: D the new set, grown text by text -/
def tScX (P : Program) (w : World) (wi : TI) (g : TG) (tt : TT) (te : TE) (vs : List Nat) : TE := fun σ H Q => wi σ H fun J H1 => ∀ D, H1 D = none → ∃ W : Nat → Nat → Hp → Prop, (∃ m, W 0 m (upd H1 D (SetXO P w D []))) ∧ ∀ i m H, W i m H →
  (J.stop i H ∧ Q (.ref D) H) ∨ (J.go i H ∧ ∃ Nx : Hp → Prop, (∀ H', Nx H' → ∃ m', m' < m ∧ W (i + 1) m' H') ∧ ∀ x H', J.yld i H x H' → g x (wipe σ vs) H' fun σ2 H2 => wipe σ2 vs = wipe σ vs ∧ tt σ2 H2 fun b H3 =>
    if b = true then te σ2 H3 fun y H4 => ∃ (z : Str) (l : List Str), y = .str z ∧ H4 D = some (SetXO P w D l) ∧ l.length + 1 < scanBound ∧ ∀ l', l'.Nodup → (∀ u, u ∈ l' ↔ u ∈ l ∨ u = z) → l'.length ≤ l.length + 1 → Nx (upd H4 D (SetXO P w D l')) else Nx H3)
theorem pe_scX {elt tg iter : Expr} {ifs : List Expr} {scope : Scope} {own : List (PySem.Str × Nat)} {pos : Pos} {wi : TI} {g : TG} {tt : TT} {te : TE} (hcalm : X.calm = true) (nd : X.N.Nodup) (pit : PI X tg iter wi) (bok : BlkOk X.N X.env.scope scope own)
    (gg : ∀ (s : Shared) (H : Hp) (C : Addr) (cl : List (PySem.Str × Addr)) (fp : List Addr), PG (X.blk s H scope (compEnvC scope cl C X.env) fp) tg g) (gt : ∀ (s : Shared) (H : Hp) (C : Addr) (cl : List (PySem.Str × Addr)) (fp : List Addr), PTs (X.blk s H scope (compEnvC scope cl C X.env) fp) ifs tt)
    (ge : ∀ (s : Shared) (H : Hp) (C : Addr) (cl : List (PySem.Str × Addr)) (fp : List Addr), PE (X.blk s H scope (compEnvC scope cl C X.env) fp) elt te) (hfold : ∀ x, foldedSetIterable iter X.env x = pure x := by intro _; rfl) :
    PE X (.SetComp elt [⟨tg, iter, ifs, 0⟩] scope pos) (tScX X.prog X.w wi g tt te (own.map (·.2))) := by
  refine ⟨fun pins s σ H Q I rd => ?_⟩
  rw [PpSet.eval_SetComp]
  have frees : ∀ y ∈ scope.names, y.2 = .free → ∃ c, X.env.cells.lookup y.1 = some c := fun y hy e => by
    rcases bok.free y hy e with q | q
    · exact I.ok.has _ (.inl q)
    · exact I.ok.has _ (.inr q)
  refine wpAny_comprehension_free (use := none) rfl hfold (closure_ok frees) bok.kind (fun y hy e => by rw [bok.uniq y hy, e]) (thn (pit.run pins s σ H _ I rd) fun xv s1 hx => thn hx fun itv s2 h2 => ?_)
  obtain ⟨it, fp, tn, J, H2, e, I2, T, st2, f2, q⟩ := h2
  subst e
  refine PpSet.newSet_ok (newEnv_comp ?_)
  obtain ⟨D, hD⟩ : ∃ D, s2.heap.objs.size = D := ⟨_, rfl⟩
  obtain ⟨W, ⟨m0, w0⟩, turn⟩ := q D (I2.hok.fresh (Nat.le_of_eq hD))
  obtain ⟨s3, hs3⟩ : ∃ s3 : Shared, ({ s2 with heap := s2.heap.push (setN X.w) } : Shared) = s3 := ⟨_, rfl⟩
  obtain ⟨H3, hH3⟩ : ∃ H3, upd H2 D (SetXO X.prog X.w D []) = H3 := ⟨_, rfl⟩
  have heap3 : s3.heap = s2.heap.push (setN X.w) := by rw [← hs3]
  have I3 : L2.Inv X pins σ H3 s3 := by
    rw [← hs3, ← hH3]
    refine I2.laid (t' := s2.toks) (fun b o e => Heap.get?_push_of_some _ e) (Nat.le_of_eq hD) ?_
    rw [← hD]
    exact setXO_ok (setX_new (Heap.get?_push_size _ rfl))
  have f3 : ∀ b ∈ fp, FpOk X pins H3 b ∧ b < s3.heap.objs.size := fun b hb => by
    obtain ⟨o, e, _⟩ := T.obj _ _ st2 b hb
    have lt := Heap.lt_size e
    refine ⟨⟨?_, (f2 b hb).2⟩, by rw [heap3, Heap.size_push]; exact Nat.lt_succ_of_lt lt⟩
    rw [← hH3, upd_ne (by rw [← hD]; exact Nat.ne_of_lt lt)]
    exact (f2 b hb).1
  have none3 : ∀ b ∈ fp, H3 b = none := fun b hb => (f3 b hb).1.1
  rw [hH3] at w0
  show codeAny _ _ (.compStart (.SetComp elt [⟨tg, iter, ifs, 0⟩] scope pos) 0 (.ref it) (.ref s2.heap.objs.size) (compEnvC scope (cellsFrom ((s2.heap.push (setN X.w)).objs.size + 1) scope.names (cloFrom X.env.cells scope.names [])) (s2.heap.push (setN X.w)).objs.size X.env)) (compPost (model X.prog X.w) X.A X.xe none _ (.ref s2.heap.objs.size) (s2.heap.push (setN X.w)).objs.size) { s2 with heap := pushCells ((s2.heap.push (setN X.w)).push { cls := .type "dict", data := .dict #[] }) scope.names }
  rw [← heap3, hD]
  have st3 : tn 0 s3.heap := T.keep _ _ _ st2 fun b _ o e => by rw [heap3]; exact Heap.get?_push_of_some _ e
  have I4 := block_start I3 bok nd f3
  obtain ⟨ce, hce⟩ : ∃ ce, compEnvC scope (cellsFrom (s3.heap.objs.size + 1) scope.names (cloFrom X.env.cells scope.names [])) s3.heap.objs.size X.env = ce := ⟨_, rfl⟩
  have pg := gg s3 H3 s3.heap.objs.size (cellsFrom (s3.heap.objs.size + 1) scope.names (cloFrom X.env.cells scope.names [])) fp
  have pt := gt s3 H3 s3.heap.objs.size (cellsFrom (s3.heap.objs.size + 1) scope.names (cloFrom X.env.cells scope.names [])) fp
  have pe := ge s3 H3 s3.heap.objs.size (cellsFrom (s3.heap.objs.size + 1) scope.names (cloFrom X.env.cells scope.names [])) fp
  have locs : ce.locals = s3.heap.objs.size := by rw [← hce]; rfl
  rw [hce] at I4 pg pt pe ⊢
  obtain ⟨s4, hs4⟩ : ∃ s4 : Shared, ({ s3 with heap := pushCells (s3.heap.push { cls := .type "dict", data := .dict #[] }) scope.names } : Shared) = s4 := ⟨_, rfl⟩
  have es4 : ({ s2 with heap := pushCells (s3.heap.push { cls := .type "dict", data := .dict #[] }) scope.names } : Shared) = s4 := by
    rw [← hs4, ← hs3]
  rw [hs4] at I4
  rw [es4]
  have st4 : tn 0 s4.heap := T.keep _ _ _ st3 fun b _ o e => by rw [← hs4]; exact pushCells_keeps _ _ _ _ (Heap.get?_push_of_some _ e)
  have calmFp : ∀ {σ' : L2.St} {H' : Hp} {s' : Shared}, L2.Inv (X.blk s3 H3 scope ce fp) [] σ' H' s' → (∀ b ∈ fp, H' b = none) → ∀ b ∈ fp, FpOk (X.blk s3 H3 scope ce fp) [] H' b := fun {σ' H' s'} I' hn b hb =>
    ⟨hn b hb, (I'.ok.exf b hb).1, I'.ok.exfs b hb, .inl hb, fun x c e => (I'.ok.exf b hb).2 x c e, fun r hr => absurd (show r ∈ ([] : List (Addr × Obj)) ++ [] from hr) (by simp)⟩
  have loop : codeAny (model X.prog X.w) X.A (.compLoop (.SetComp elt [⟨tg, iter, ifs, 0⟩] scope pos) 0 (.ref it) (.ref D) ce) (compPost (model X.prog X.w) X.A X.xe none (fun v s' => ∃ x H', L2.Inv X pins σ H' s' ∧ RelV x v ∧ Q x H') (.ref D) s3.heap.objs.size) s4 := by
    refine PpSet.compLoopS_any (fun n s' => ∃ i H', L2.Inv (X.blk s3 H3 scope ce fp) [] (wipe σ (own.map (·.2))) H' s' ∧ tn i s'.heap ∧ (∀ b ∈ fp, H' b = none) ∧ W i n H') ?_ m0 ⟨0, H3, I4, st4, none3, w0⟩
    rintro n s5 ⟨i, H5, I5, st5, n5, w5⟩
    rcases turn i n H5 w5 with ⟨stop, qq⟩ | ⟨go, Nx, hNx, step⟩
    · refine thnF (T.done (X.blk s3 H3 scope ce fp) rfl rfl rfl hcalm i [] s5 _ H5 (fun _ _ => False) I5 (calmFp I5 n5) st5 stop) fun r s6 ⟨hr, I6⟩ => ?_
      subst hr
      have I7 : L2.Inv X pins σ H5 s6 := I3.call' (ch := fp) I6.os I6.base I6.hok I6.bare fun b hb => ⟨(f3 b hb).1.2.2.2.1, (f3 b hb).1.2.1, (f3 b hb).1.2.2.2.2.1, (f3 b hb).1.2.2.2.2.2⟩
      have nC : H5 s3.heap.objs.size = none := by
        have z : H5 ce.locals = none := I6.free
        rw [locs] at z
        exact z
      obtain ⟨m, hn, _⟩ := I6.loc
      have hn : s6.heap.Ns ce.locals m := hn
      rw [locs] at hn
      obtain ⟨k0, k1, k2, k3, k4, k5⟩ := I3.fpOk (Nat.le_refl _) nC
      exact ⟨m, hn, fun h'' sb => ⟨.ref D, H5, I7.turned (t' := s6.toks) (fun b o hb e => (sb.2 b hb).trans e) k0 k1 k3 k4 k5, rfl, qq⟩⟩
    · refine thnF (T.item (X.blk s3 H3 scope ce fp) rfl rfl rfl hcalm i [] s5 _ H5 (fun _ _ => False) I5 (calmFp I5 n5) st5 go) fun r s6 ⟨u, hr, h6⟩ => ?_
      subst hr
      refine thnF h6 fun _ s7 ⟨x, H7, I7, r7, y7, st7, n7⟩ => ?_
      have I7' := I7.pinned (calmFp I7 n7) (T.obj _ _ st7)
      refine thnF (pg.run _ s7 _ H7 x u _ I7' r7 (step x H7 y7)) fun _ s8 ⟨σ8, H8, I8, hw8, q8⟩ => thnF (pt.run _ s8 σ8 H8 _ I8 q8) fun b s9 ⟨H9, I9, q9⟩ => ?_
      have next : ∀ {s' : Shared} {H' : Hp}, L2.Inv (X.blk s3 H3 scope ce fp) ([] ++ pinsAt fp s7.heap) σ8 H' s' → Nx H' → ∃ m, m < n ∧ ∃ i H', L2.Inv (X.blk s3 H3 scope ce fp) [] (wipe σ (own.map (·.2))) H' s' ∧ tn i s'.heap ∧ (∀ b ∈ fp, H' b = none) ∧ W i m H' := fun {s' H'} I' nx => by
        obtain ⟨m', hm, w'⟩ := hNx H' nx
        have held : ∀ b ∈ fp, ∀ o, s7.heap.get? b = some o → s'.heap.get? b = some o ∧ H' b = none := fun b hb o e => by
          have z := I'.pin (b, o) (List.mem_append_right _ (List.mem_append_right _ (mem_pinsAt hb e)))
          exact ⟨z.1, z.2.1⟩
        have len : (wipe σ (own.map (·.2))).length = σ8.length := by rw [← hw8, wipe_length]
        refine ⟨m', hm, i + 1, H', (I'.unpinned (pins := [])).weak len (fun j v e => ?_), T.keep _ _ _ st7 fun b hb o e => (held b hb o e).1, fun b hb => ?_, w'⟩
        · rw [← hw8] at e
          exact (wipe_some e).1
        · obtain ⟨o, e, _⟩ := T.obj _ _ st7 b hb
          exact (held b hb o e).2
      cases b with
      | false =>
        simp only [Bool.false_eq_true, if_false] at q9 ⊢
        exact next I9 q9
      | true =>
        simp only [if_true] at q9 ⊢
        refine thnF (pe.run _ s9 σ8 H9 _ I9 q9) fun z s10 ⟨yv, H10, I10, r10, zt, l0, ey, hD10, hz10, nx⟩ => ?_
        subst ey
        obtain ⟨tk, rfl⟩ := r10
        exact putX_ok (X := X.blk s3 H3 scope ce fp) I10 hD10 hz10 fun s11 l' n1 n2 n3 I11 => next I11 (nx l' n1 n2 n3)
  exact PpSet.codeAny_compStart_set loop (T.self X.A 0 _ _ _ st4 loop)
end
section
variable {P : Program} {w : World} {J : It} {ys : List V} {G : Hp → Prop} {slot : Nat} {tt : TT} {te : TE} {vs : List Nat} {σ : L2.St} {H1 : Hp} {D : Addr} {Qd : Hp → Prop}
/-- {e for x in ys if t}: each e a text, the heap only growing -/
theorem sc_texts (wk : L2.Walk J ys.length G (YAt ys)) (hD : H1 D = none) (keep : V → Bool) (f : V → Str) (hG : ∀ H, Same H1 H → G H)
    (hw : ∀ x, wipe ((wipe σ vs).set slot (some x)) vs = wipe σ vs)
    (ht : ∀ (x : V) (H : Hp), x ∈ ys → Same H1 H → ∀ Q : Bool → Hp → Prop, Q (keep x) H → tt ((wipe σ vs).set slot (some x)) H Q)
    (he : ∀ (x : V) (H : Hp), x ∈ ys → keep x = true → Same H1 H → ∀ Q : VK, Q (.str (f x)) H → te ((wipe σ vs).set slot (some x)) H Q)
    (hn : ys.length ≤ 1000)
    (hd : ∀ (l : List Str) (H : Hp), Same H1 H → H D = some (SetXO P w D l) → l.Nodup → (∀ z, z ∈ l ↔ z ∈ (ys.filter keep).map f) → l.length ≤ ys.length → Qd H) :
    ∃ W : Nat → Nat → Hp → Prop, (∃ m, W 0 m (upd H1 D (SetXO P w D []))) ∧ ∀ i m H, W i m H →
      (J.stop i H ∧ Qd H) ∨ (J.go i H ∧ ∃ Nx : Hp → Prop, (∀ H', Nx H' → ∃ m', m' < m ∧ W (i + 1) m' H') ∧ ∀ x H', J.yld i H x H' → gName slot x (wipe σ vs) H' fun σ2 H2 => wipe σ2 vs = wipe σ vs ∧ tt σ2 H2 fun b H3 =>
        if b = true then te σ2 H3 fun y H4 => ∃ (z : Str) (l : List Str), y = .str z ∧ H4 D = some (SetXO P w D l) ∧ l.length + 1 < scanBound ∧ ∀ l', l'.Nodup → (∀ u, u ∈ l' ↔ u ∈ l ∨ u = z) → l'.length ≤ l.length + 1 → Nx (upd H4 D (SetXO P w D l')) else Nx H3) := by
  refine ⟨fun i m H => m = ys.length - i ∧ i ≤ ys.length ∧ Same H1 H ∧ ∃ l, H D = some (SetXO P w D l) ∧ l.Nodup ∧ (∀ z, z ∈ l ↔ z ∈ ((ys.take i).filter keep).map f) ∧ l.length ≤ i, ⟨ys.length, by simp, Nat.zero_le _, same_new hD, [], upd_same, List.nodup_nil, fun z => by simp, Nat.le_refl _⟩, ?_⟩
  rintro i m H ⟨rfl, hi, s, l, hl, nd, hm, hll⟩
  by_cases hlt : i < ys.length
  · refine .inr ⟨wk.goes i H hlt (hG H s), fun H' => i + 1 ≤ ys.length ∧ Same H1 H' ∧ ∃ l, H' D = some (SetXO P w D l) ∧ l.Nodup ∧ (∀ z, z ∈ l ↔ z ∈ ((ys.take (i + 1)).filter keep).map f) ∧ l.length ≤ i + 1, fun H' h' => ⟨ys.length - (i + 1), by omega, rfl, h'⟩, fun x H' hy => ?_⟩
    obtain ⟨rfl, hx⟩ := wk.yields i H x H' hlt (hG H s) hy
    have hxm : x ∈ ys := List.mem_of_getElem? hx
    have hf := filter_take_snoc (p := keep) hx
    refine ⟨hw x, ht x _ hxm s _ ?_⟩
    refine ite_b (fun e => ?_) (fun e => ?_)
    · refine he x _ hxm e s _ ⟨f x, l, rfl, hl, by unfold scanBound; omega, fun l' n1 n2 n3 => ⟨hlt, same_mut s hD, l', upd_same, n1, fun z => ?_, by omega⟩⟩
      rw [n2, hm, hf, if_pos e, List.map_append, List.mem_append]
      simp
    · refine ⟨hlt, s, l, hl, nd, fun z => ?_, by omega⟩
      rw [hm, hf, if_neg (by rw [e]; decide), List.append_nil]
  · have e : i = ys.length := by omega
    subst e
    rw [List.take_length] at hm
    exact .inl ⟨wk.stops H (hG H s), hd l H s hl nd hm hll⟩
end
end Wl

/-! Texts each once, as first met; dicts by texts. -/
namespace Wl
open PySem PySem.Spec PyProof.Rows L2
def addK (acc : List Str) (z : Str) : List Str := if z ∈ acc then acc else acc ++ [z]
def keysOf (l : List Str) : List Str := l.foldl addK []
theorem keysOf_snoc (l : List Str) (z : Str) : keysOf (l ++ [z]) = addK (keysOf l) z := by
  unfold keysOf
  rw [List.foldl_append]
  rfl
theorem mem_addK {acc : List Str} {z y : Str} : y ∈ addK acc z ↔ y ∈ acc ∨ y = z := by
  unfold addK
  split
  · constructor
    · exact .inl
    · rintro (h | rfl) <;> assumption
  · simp
theorem foldK_mem {y : Str} : ∀ {l acc : List Str}, y ∈ l.foldl addK acc ↔ y ∈ acc ∨ y ∈ l
  | [], acc => by simp
  | z :: l, acc => by
    rw [List.foldl_cons, foldK_mem (l := l), mem_addK, List.mem_cons]
    constructor
    · rintro ((h | h) | h)
      · exact .inl h
      · exact .inr (.inl h)
      · exact .inr (.inr h)
    · rintro (h | h | h)
      · exact .inl (.inl h)
      · exact .inl (.inr h)
      · exact .inr h
theorem mem_keysOf {l : List Str} {y : Str} : y ∈ keysOf l ↔ y ∈ l := by
  unfold keysOf
  rw [foldK_mem]
  simp
theorem addK_nodup {acc : List Str} {z : Str} (h : acc.Nodup) : (addK acc z).Nodup := by
  unfold addK
  split
  · exact h
  · rename_i n
    rw [List.nodup_append]
    exact ⟨h, by simp, fun a ha b hb e => n (by rw [List.mem_singleton.mp hb] at e; exact e ▸ ha)⟩
theorem foldK_nodup : ∀ {l acc : List Str}, acc.Nodup → (l.foldl addK acc).Nodup
  | [], _, h => h
  | _ :: l, _, h => foldK_nodup (l := l) (addK_nodup h)
theorem keysOf_nodup (l : List Str) : (keysOf l).Nodup := foldK_nodup List.nodup_nil
theorem addK_len (acc : List Str) (z : Str) : (addK acc z).length ≤ acc.length + 1 := by
  unfold addK
  split
  · omega
  · simp
theorem foldK_len : ∀ (l acc : List Str), (l.foldl addK acc).length ≤ acc.length + l.length
  | [], acc => by simp
  | z :: l, acc => by
    have h1 := foldK_len l (addK acc z)
    have h2 := addK_len acc z
    rw [List.foldl_cons, List.length_cons]
    omega
theorem keysOf_len (l : List Str) : (keysOf l).length ≤ l.length := by
  have := foldK_len l []
  simpa [keysOf] using this
/-- the pairs of a dict whose keys are these texts -/
def kvZ (ad : Str → V) (l : List Str) : List (Key × V) := l.map fun z => (Sum.inr z, ad z)
theorem valV_kvZ (ad : Str → V) (z : Str) : ∀ l : List Str, valV (kvZ ad l) (Sum.inr z : Key) = if z ∈ l then some (ad z) else none
  | [] => rfl
  | d :: r => by
    by_cases h : d = z
    · subst h
      rw [if_pos List.mem_cons_self]
      exact valV_pos rfl
    · have h1 : valV (kvZ ad (d :: r)) (Sum.inr z : Key) = valV (kvZ ad r) (Sum.inr z : Key) := valV_neg fun e => h (Sum.inr.inj e)
      rw [h1, valV_kvZ ad z r]
      have h2 : (z ∈ d :: r) = (z ∈ r) := by
        simp only [List.mem_cons, eq_iff_iff]
        constructor
        · rintro (e | e)
          · exact absurd e.symm h
          · exact e
        · exact .inr
      simp only [h2]
theorem valV_in {ad : Str → V} {z : Str} {l : List Str} (h : z ∈ l) : valV (kvZ ad l) (Sum.inr z : Key) = some (ad z) := by
  rw [valV_kvZ, if_pos h]
theorem valV_out {ad : Str → V} {z : Str} {l : List Str} (h : z ∉ l) : valV (kvZ ad l) (Sum.inr z : Key) = none := by
  rw [valV_kvZ, if_neg h]
theorem kvZ_congr {a b : Str → V} {l : List Str} (h : ∀ c ∈ l, a c = b c) : kvZ a l = kvZ b l := List.map_congr_left fun c hc => by rw [h c hc]
theorem kvZ_keys (ad : Str → V) (l : List Str) : (kvZ ad l).map (fun kv => kV kv.1) = l.map V.str := by
  unfold kvZ
  rw [List.map_map]
  rfl
theorem kvZ_len (ad : Str → V) (l : List Str) : (kvZ ad l).length = l.length := List.length_map _
theorem sortS_nodup {l : List Str} (h : l.Nodup) : (sortS l).Nodup := (List.mergeSort_perm l leB).nodup_iff.mpr h
end Wl

namespace Wl
open PySem PySem.Spec PyProof.Rows L2
abbrev sFresh : Stmt := topS 61
abbrev sLand : Stmt := topS 62
abbrev sNames : Stmt := topS 63

/-! ### a word that is not in use -/
def spareS (A B : Str) : List Str := ((List.range' 97 26).map fun c => A ++ sign c) ++ (List.range' 97 13).map fun c => B ++ sign c ++ ("z" : Str)
theorem codes_add (x y : Str) : (x ++ y).cps.toList = x.cps.toList ++ y.cps.toList := TL.tl_append x y
theorem spare_free (A B : Str) (ws : List Str) (h : ws.length ≤ 35) : ∃ z ∈ spareS A B, z ∉ ws := by
  refine Classical.byContradiction fun no => ?_
  have all : ∀ z ∈ spareS A B, z ∈ ws := fun z hz => Classical.byContradiction fun k => no ⟨z, hz, k⟩
  have nd : (((List.range' 97 25).map fun c => A ++ sign c) ++ (List.range' 97 13).map fun c => B ++ sign c ++ ("z" : Str)).Nodup := by
    have zc : ("z" : Str).cps.toList = [122] := by decide +kernel
    have c1 : ∀ c, (A ++ sign c).cps.toList = A.cps.toList ++ [c] := fun c => codes_add A (sign c)
    have c2 : ∀ c, (B ++ sign c ++ ("z" : Str)).cps.toList = B.cps.toList ++ [c] ++ [122] := fun c => by
      rw [codes_add, codes_add, zc]
      rfl
    rw [List.nodup_append]
    refine ⟨?_, ?_, ?_⟩
    · refine List.pairwise_map.mpr ((List.nodup_range' (s := 97) (n := 25) (step := 1)).imp fun {a b} ne e => ne ?_)
      have := congrArg (fun z : Str => z.cps.toList) e
      simp only [c1] at this
      simpa using this
    · refine List.pairwise_map.mpr ((List.nodup_range' (s := 97) (n := 13) (step := 1)).imp fun {a b} ne e => ne ?_)
      have := congrArg (fun z : Str => z.cps.toList) e
      simp only [c2] at this
      simpa using this
    · intro x hx y hy e
      obtain ⟨c, hc, rfl⟩ := List.mem_map.mp hx
      obtain ⟨d, hd, rfl⟩ := List.mem_map.mp hy
      have := congrArg (fun z : Str => z.cps.toList.getLast?) e
      simp only [c1, c2, List.getLast?_append, List.getLast?_singleton, Option.some_or, Option.some.injEq] at this
      rw [List.mem_range'_1] at hc
      omega
  have sub : (((List.range' 97 25).map fun c => A ++ sign c) ++ (List.range' 97 13).map fun c => B ++ sign c ++ ("z" : Str)) ⊆ ws := by
    intro z hz
    refine all z ?_
    rcases List.mem_append.mp hz with hz | hz
    · obtain ⟨c, hc, rfl⟩ := List.mem_map.mp hz
      refine List.mem_append.mpr (.inl (List.mem_map.mpr ⟨c, ?_, rfl⟩))
      rw [List.mem_range'_1] at hc ⊢
      omega
    · exact List.mem_append.mpr (.inr hz)
  have := nd.length_le_of_subset sub
  simp at this
  omega
theorem spare_wd {z : Str} (h : IsWd z) : ∀ y ∈ spareS (cutS z none (some 7)) (cutS z none (some 6)), IsWd y := by
  have hl := h.len
  have hz : z.length = z.cps.toList.length := by simp [Str.length]
  have hc : ∀ c ∈ z.cps.toList, 97 ≤ c ∧ c ≤ 122 := by
    unfold IsWd wdB at h
    simp only [Bool.and_eq_true, decide_eq_true_eq, List.all_eq_true] at h
    exact h.2
  have zc : ("z" : Str).cps.toList = [122] := by decide +kernel
  intro y hy
  rcases List.mem_append.mp hy with hy | hy
  · obtain ⟨c, hcm, rfl⟩ := List.mem_map.mp hy
    rw [List.mem_range'_1] at hcm
    have e : (cutS z none (some 7) ++ sign c).cps.toList = z.cps.toList.take 7 ++ [c] := by
      rw [codes_add, show ((7 : Int)) = ((7 : Nat) : Int) from rfl, cut_hi]
      rfl
    refine isWd_of ?_ ?_ ?_
    · rw [e]; simp
    · rw [e]; simp; omega
    · rw [e]
      intro d hd
      rcases List.mem_append.mp hd with hd | hd
      · exact hc d (List.mem_of_mem_take hd)
      · rw [List.mem_singleton.mp hd]; omega
  · obtain ⟨c, hcm, rfl⟩ := List.mem_map.mp hy
    rw [List.mem_range'_1] at hcm
    have e : (cutS z none (some 6) ++ sign c ++ ("z" : Str)).cps.toList = z.cps.toList.take 6 ++ [c] ++ [122] := by
      rw [codes_add, codes_add, show ((6 : Int)) = ((6 : Nat) : Int) from rfl, cut_hi, zc]
      rfl
    refine isWd_of ?_ ?_ ?_
    · rw [e]; simp
    · rw [e]; simp; omega
    · rw [e]
      intro d hd
      rcases List.mem_append.mp hd with hd | hd
      · rcases List.mem_append.mp hd with hd | hd
        · exact hc d (List.mem_of_mem_take hd)
        · rw [List.mem_singleton.mp hd]; omega
      · rw [List.mem_singleton.mp hd]; omega

section
variable {P : Program} {w : World} {K : PySem.W.Frag} {mg : Str → Option Value} {base : Heap} {f : Addr} {fd : FuncData}
def spFresh : Sp := fun vs H Q _ => ∃ (a u : Addr) (ws : List Str), vs = [.ref a, .ref u] ∧ PurseAt H a ∧ H u = some (.lst (ws.map V.str)) ∧ u ≠ a ∧ ws.length ≤ 35 ∧
  ∀ (z : Str) (H' : Hp), IsWd z → z ∉ ws → PurseAt H' a → SameX a H H' → Q (.str z) H'
abbrev nFresh : List Str := ["_law_purse_here", "_law_used", "_law_sound", "_law_spare", "_law_sign", "_law_one"]
theorem scFresh : FnScope nFresh ["_law_purse_here", "_law_used"] (defScope sFresh) :=
  ⟨rfl, rfl, rfl, by decide +kernel, rfl, by decide +kernel, by decide +kernel⟩
def addS (A : Str) (B : Str) : V → V
  | .str s => .str (A ++ s ++ B)
  | v => v
theorem wd_line {z : Str} (h : IsWd z) : z.length ≤ sizeLine := lzl (by have := h.len; omega)
theorem ok_fresh (F : Fun K "_law_fresh" "_law_fresh" sFresh f fd) (B : Bi mg) (hW : Has P w K mg base "_law_word" 2 ["_law_purse_here"] spWord) :
    FnOk P w K mg base CX0 3 f fd ["_law_purse_here", "_law_used"] spFresh := by
  refine F.ok scFresh (fun vs H Q E h => ?_) (fun cdv A outer s H vs Q E hr h => ?_)
  · obtain ⟨a, u, ws, rfl, _⟩ := h
    rfl
  · obtain ⟨a, u, ws, rfl, hA, hu, nua, hl, q⟩ := h
    refine ⟨_, pss_cons (ps_set (i := 2) scFresh.nd rfl (.inr rfl) (pe_h hW hr (pa_cons (pv 0) pa_nil)))
      (pss_cons (ps_if (pt_cmpR op_notIn_seq (pv 2) (pv 1) (by rfl)) (pss_one (ps_ret (pv 2))) pss_nil)
      (pss_cons (ps_setLc (i := 3) (own := [("_law_sign", 4)]) (g := gName 4) (tt := tYes) rfl scFresh.nd rfl rfl (sw_true rfl rfl rfl (by decide +kernel)) (pi_str pe_str) (blkOk_by (N := nFresh) (sc := defScope sFresh) (by decide +kernel))
        (fun _ _ _ _ _ => pg_name (i := 4) scFresh.nd rfl (.inl rfl)) (fun _ _ _ _ _ => pts_nil) (fun _ _ _ _ _ => pe_op op_add_str (pe_slice sl_str (pv 2) po_none (po_some pe_int)) (pv 4)))
      (pss_cons (ps_set (i := 3) scFresh.nd rfl (.inl rfl) (pe_op op_cat (pv 3) (pe_lc (own := [("_law_sign", 4)]) (g := gName 4) (tt := tYes) rfl scFresh.nd (pi_str pe_str) (blkOk_by (N := nFresh) (sc := defScope sFresh) (by decide +kernel))
        (fun _ _ _ _ _ => pg_name (i := 4) scFresh.nd rfl (.inl rfl)) (fun _ _ _ _ _ => pts_nil) (fun _ _ _ _ _ => pe_op op_add_str (pe_op op_add_str (pe_slice sl_str (pv 2) po_none (po_some pe_int)) (pv 4)) pe_str))))
      (pss_one (ps_ret (pe_ix ix_list (pe_lc (own := [("_law_one", 5)]) (g := gName 5) (tt := tTest (tOp (rIn K true) (tVar 5) (tVar 1))) rfl scFresh.nd (pi_list (pv 3)) (blkOk_by (N := nFresh) (sc := defScope sFresh) (by decide +kernel))
        (fun _ _ _ _ _ => pg_name (i := 5) scFresh.nd rfl (.inl rfl)) (fun _ _ _ _ _ => pts_one (pt_cmpR op_notIn_seq (pv 5) (pv 1) (by rfl))) (fun _ _ _ _ _ => pv 5)) pe_int (fun _ _ => rfl))))))), ?_⟩
    refine ⟨_, rfl, a, rfl, hA, fun z H1 hz hA1 s1 => ?_⟩
    have hu1 : H1 u = some (.lst (ws.map V.str)) := s1 _ _ nua hu
    refine ⟨_, rfl, _, rfl, u, ws.map V.str, rfl, .inl (.inl (.inl hu1)), rfl, flat_strs ws, _, rfl, ite_b (fun e => ?_) (fun e => ?_)⟩
    · rw [if_pos rfl, inV_strs, Bool.not_eq_true', decide_eq_false_iff_not] at e
      exact ⟨_, rfl, q z H1 hz e hA1 s1⟩
    · refine ⟨_, rfl, fun D hD => lc_map walk_signs hD (fun _ => true) (addS (cutS z none (some 7)) ⟨#[]⟩) (fun _ _ => trivial) (fun _ => rfl) (fun x H' _ _ Q' q' => q') ?_ lz ?_⟩
      · intro x H' hx _ _ Q' q'
        obtain ⟨c, hc, rfl⟩ := List.mem_map.mp hx
        refine ⟨_, rfl, 7, rfl, z, rfl, wd_line hz, _, rfl, _, _, rfl, rfl, ?_, ?_⟩
        · have := cutS_length z none (some 7)
          have := hz.len
          exact lzl (by show (cutS z none (some 7)).length + 1 ≤ 1000; omega)
        · have e0 : addS (cutS z none (some 7)) ⟨#[]⟩ (.str (sign c)) = .str (cutS z none (some 7) ++ sign c) := by
            refine congrArg V.str (str_ext ?_)
            rw [codes_add]
            simp
          rw [e0] at q'
          exact q'
      · intro H2 s2 hD2
        have hu2 := s2 _ _ hu1
        have hA2 := hA1.same s2
        refine ⟨_, rfl, _, rfl, fun D3 hD3 => lc_map walk_signs hD3 (fun _ => true) (addS (cutS z none (some 6)) "z") (fun _ _ => trivial) (fun _ => rfl) (fun x H' _ _ Q' q' => q') ?_ lz ?_⟩
        · intro x H' hx _ _ Q' q'
          obtain ⟨c, hc, rfl⟩ := List.mem_map.mp hx
          have h6 := cutS_length z none (some 6)
          have hl8 := hz.len
          have hz1 : ("z" : Str).length = 1 := by decide +kernel
          have hadd : (cutS z none (some 6) ++ sign c).length = (cutS z none (some 6)).length + 1 := by
            rw [TL.len_tl, TL.tl_append, List.length_append, ← TL.len_tl]
            rfl
          refine ⟨_, rfl, 6, rfl, z, rfl, wd_line hz, _, rfl, _, _, rfl, rfl, ?_, _, _, rfl, rfl, ?_, q'⟩
          · exact lzl (by show (cutS z none (some 6)).length + 1 ≤ 1000; omega)
          · exact lzl (by rw [hz1]; show (cutS z none (some 6) ++ sign c).length + 1 ≤ 1000; omega)
        · intro H4 s4 hD4
          have e26 : (signsOf ("abcdefghijklmnopqrstuvwxyz" : Str)).filter (fun _ => true) = signsOf ("abcdefghijklmnopqrstuvwxyz" : Str) := List.filter_eq_self.mpr fun _ _ => rfl
          have e13 : (signsOf ("abcdefghijklm" : Str)).filter (fun _ => true) = signsOf ("abcdefghijklm" : Str) := List.filter_eq_self.mpr fun _ _ => rfl
          have c13 : ("abcdefghijklm" : Str).cps.toList = List.range' 97 13 := by decide +kernel
          have eall : ((signsOf ("abcdefghijklmnopqrstuvwxyz" : Str)).filter (fun _ => true)).map (addS (cutS z none (some 7)) ⟨#[]⟩) ++ ((signsOf ("abcdefghijklm" : Str)).filter (fun _ => true)).map (addS (cutS z none (some 6)) "z")
              = (spareS (cutS z none (some 7)) (cutS z none (some 6))).map V.str := by
            rw [e26, e13]
            unfold signsOf spareS
            rw [letters_eq, c13, List.map_append, List.map_map, List.map_map, List.map_map, List.map_map]
            congr 1
          refine ⟨D, D3, _, _, rfl, rfl, s4 _ _ hD2, hD4, lz, fun p5 hp5 => ?_⟩
          rw [eall]
          have s5 : Same H1 (upd H4 p5 (.lst ((spareS (cutS z none (some 7)) (cutS z none (some 6))).map V.str))) := (s2.trans s4).trans (same_new hp5)
          refine ⟨_, rfl, p5, rfl, ⟨_, .inl (.inl upd_same)⟩, fun D6 hD6 => lc_map (walk_list (K := K) (a := p5) (xs := (spareS (cutS z none (some 7)) (cutS z none (some 6))).map V.str)) hD6 (fun v => !inV v (ws.map V.str)) id (fun H' s' => .inl (.inl (s' _ _ upd_same))) (fun _ => rfl) ?_ ?_ lz ?_⟩
          · intro x H' hx s' Q' q'
            obtain ⟨y, hy, rfl⟩ := List.mem_map.mp hx
            exact ⟨_, rfl, _, rfl, u, _, rfl, .inl (.inl (.inl (s' _ _ (s5 _ _ hu1)))), rfl, flat_strs ws, _, rfl, q'⟩
          · intro x H' hx _ _ Q' q'
            exact ⟨_, rfl, q'⟩
          · intro H7 s7 hD7
            obtain ⟨y0, hy0, hn0⟩ := spare_free (cutS z none (some 7)) (cutS z none (some 6)) ws hl
            have hf : ((spareS (cutS z none (some 7)) (cutS z none (some 6))).map V.str).filter (fun v => !inV v (ws.map V.str)) = ((spareS (cutS z none (some 7)) (cutS z none (some 6))).filter fun y => decide (y ∉ ws)).map V.str := by
              rw [List.filter_map]
              congr 1
              refine List.filter_congr fun y _ => ?_
              simp only [Function.comp, inV_strs]
              by_cases c : y ∈ ws <;> simp [c]
            rw [List.map_id, hf] at hD7
            have hm0 : y0 ∈ (spareS (cutS z none (some 7)) (cutS z none (some 6))).filter fun y => decide (y ∉ ws) := List.mem_filter.mpr ⟨hy0, decide_eq_true hn0⟩
            cases hcl : (spareS (cutS z none (some 7)) (cutS z none (some 6))).filter fun y => decide (y ∉ ws) with
            | nil =>
              rw [hcl] at hm0
              cases hm0
            | cons y r =>
              have hym : y ∈ (spareS (cutS z none (some 7)) (cutS z none (some 6))).filter fun y => decide (y ∉ ws) := by
                rw [hcl]
                exact List.mem_cons_self
              obtain ⟨hy1, hy2⟩ := List.mem_filter.mp hym
              refine ⟨D6, _, 0, .str y, rfl, rfl, .inl (.inl hD7), atI_nat (j := 0) (by rw [hcl]; rfl), ?_⟩
              exact q y H7 (spare_wd hz y hy1) (of_decide_eq_true hy2) (hA1.same (s5.trans s7)) (s1.trans (sx (s5.trans s7)))
end
end Wl





namespace Wl
open PySem PySem.Spec PyProof.Rows L2
abbrev Row := List (Option Str)
abbrev Grid := List Row
def rnames (r : Row) : List Str := r.filterMap id
def names (g : Grid) : List Str := g.flatten.filterMap id
theorem names_nil : names [] = [] := rfl
theorem names_snoc (g : Grid) (r : Row) : names (g ++ [r]) = names g ++ rnames r := by
  unfold names rnames
  rw [List.flatten_append, List.filterMap_append]
  simp
theorem names_cons (r : Row) (g : Grid) : names (r :: g) = rnames r ++ names g := by
  unfold names rnames
  rw [List.flatten_cons, List.filterMap_append]
theorem rnames_snoc (r : Row) (o : Option Str) : rnames (r ++ [o]) = rnames r ++ o.toList := by
  unfold rnames
  rw [List.filterMap_append]
  cases o <;> rfl
structure Good (g : Grid) (wd : Nat) : Prop where
  h1 : 1 ≤ g.length
  h6 : g.length ≤ 6
  w1 : 1 ≤ wd
  w6 : wd ≤ 6
  rows : ∀ r ∈ g, r.length = wd
  nd : (names g).Nodup
  wd : ∀ z ∈ names g, IsWd z
  ne : names g ≠ []
/-- the heap keeps its tuples -/
def TupKeep (H H' : Hp) : Prop := ∀ p xs, H p = some (.tup xs) → H' p = some (.tup xs)
theorem TupKeep.refl (H : Hp) : TupKeep H H := fun _ _ h => h
theorem TupKeep.trans {H H1 H2 : Hp} (a : TupKeep H H1) (b : TupKeep H1 H2) : TupKeep H H2 := fun p xs h => b p xs (a p xs h)
theorem tk_same {H H' : Hp} (s : Same H H') : TupKeep H H' := fun p xs h => s p _ h
theorem tk_x {a : Addr} {H H' : Hp} {ys : List V} (s : SameX a H H') (ha : H a = some (.lst ys)) : TupKeep H H' := fun p xs h => s p _ (ne_of h ha (by intro z; cases z)) h
theorem tk_upd {a : Addr} {H : Hp} {ys : List V} {o : HO} (ha : H a = some (.lst ys)) : TupKeep H (upd H a o) := tk_x sameX_upd ha
theorem tk_new {p : Addr} {H : Hp} {o : HO} (hp : H p = none) : TupKeep H (upd H p o) := tk_same (same_new hp)
/-- rows of a grid as tuples -/
def RowsAt (H : Hp) (as : List Addr) (g : Grid) : Prop := Each (fun (p : Addr) (row : Row) => H p = some (.tup (row.map oV))) as g
theorem RowsAt.keep {H H' : Hp} {as : List Addr} {g : Grid} (h : RowsAt H as g) (k : TupKeep H H') : RowsAt H' as g := Each.mono (fun p row e => k p _ e) h
def GridAt (H : Hp) (L : Addr) (g : Grid) : Prop := ∃ as : List Addr, H L = some (.tup (as.map V.ref)) ∧ RowsAt H as g
theorem GridAt.keep {H H' : Hp} {L : Addr} {g : Grid} (h : GridAt H L g) (k : TupKeep H H') : GridAt H' L g := by
  obtain ⟨as, h1, h2⟩ := h
  exact ⟨as, k _ _ h1, h2.keep k⟩
/-- the part at a row and a column, none where there is none -/
def cellAt (g : Grid) (r c : Nat) : Option Str := match g[r]? with
  | some row => (row[c]?).getD none
  | none => none
theorem cellAt_some {g : Grid} {r c : Nat} {z : Str} (h : cellAt g r c = some z) : ∃ row, g[r]? = some row ∧ row[c]? = some (some z) := by
  unfold cellAt at h
  cases e : g[r]? with
  | none => rw [e] at h; cases h
  | some row =>
    rw [e] at h
    refine ⟨row, rfl, ?_⟩
    cases e2 : row[c]? with
    | none => simp only [e2] at h; cases h
    | some o => simp only [e2, Option.getD_some] at h; rw [h]
theorem cellAt_of {g : Grid} {r c : Nat} {row : Row} {o : Option Str} (h : g[r]? = some row) (k : row[c]? = some o) : cellAt g r c = o := by
  unfold cellAt
  rw [h]
  simp [k]
/-! ### the spots -/
def spR (i j : Nat) : Row → List (Str × Nat × Nat)
  | [] => []
  | none :: r => spR i (j + 1) r
  | some z :: r => (z, i, j) :: spR i (j + 1) r
def spG (i : Nat) : Grid → List (Str × Nat × Nat)
  | [] => []
  | row :: g => spR i 0 row ++ spG (i + 1) g
theorem spR_snoc (i : Nat) : ∀ (r : Row) (j : Nat) (o : Option Str), spR i j (r ++ [o]) = spR i j r ++ (o.toList.map fun z => (z, i, j + r.length))
  | [], j, none => rfl
  | [], j, some z => rfl
  | none :: r, j, o => by
    show spR i (j + 1) (r ++ [o]) = spR i (j + 1) r ++ _
    rw [spR_snoc i r (j + 1) o, List.length_cons]
    congr 2
    funext z
    rw [Nat.add_right_comm, Nat.add_assoc]
  | some y :: r, j, o => by
    show (y, i, j) :: spR i (j + 1) (r ++ [o]) = (y, i, j) :: spR i (j + 1) r ++ _
    rw [spR_snoc i r (j + 1) o, List.length_cons, List.cons_append]
    congr 3
    funext z
    rw [Nat.add_right_comm, Nat.add_assoc]
theorem spG_snoc : ∀ (g : Grid) (i : Nat) (r : Row), spG i (g ++ [r]) = spG i g ++ spR (i + g.length) 0 r
  | [], i, r => by simp [spG]
  | x :: g, i, r => by
    show spR i 0 x ++ spG (i + 1) (g ++ [r]) = spR i 0 x ++ spG (i + 1) g ++ _
    rw [spG_snoc g (i + 1) r, List.length_cons, List.append_assoc]
    congr 3
    omega
theorem spR_fst (i : Nat) : ∀ (r : Row) (j : Nat), (spR i j r).map (·.1) = rnames r
  | [], _ => rfl
  | none :: r, j => spR_fst i r (j + 1)
  | some z :: r, j => congrArg (z :: ·) (spR_fst i r (j + 1))
theorem spG_fst : ∀ (g : Grid) (i : Nat), (spG i g).map (·.1) = names g
  | [], _ => rfl
  | r :: g, i => by
    show (spR i 0 r ++ spG (i + 1) g).map (·.1) = _
    rw [List.map_append, spR_fst, spG_fst g (i + 1), names_cons]
theorem spR_mem (i : Nat) {z : Str} {a b : Nat} : ∀ (r : Row) (j : Nat), (z, a, b) ∈ spR i j r ↔ a = i ∧ ∃ k, b = j + k ∧ r[k]? = some (some z)
  | [], j => by simp [spR]
  | none :: r, j => by
    show (z, a, b) ∈ spR i (j + 1) r ↔ _
    rw [spR_mem i r (j + 1)]
    constructor
    · rintro ⟨h, k, e, q⟩
      exact ⟨h, k + 1, by omega, by simpa using q⟩
    · rintro ⟨h, k, e, q⟩
      cases k with
      | zero => simp at q
      | succ k => exact ⟨h, k, by omega, by simpa using q⟩
  | some y :: r, j => by
    show (z, a, b) ∈ (y, i, j) :: spR i (j + 1) r ↔ _
    rw [List.mem_cons, spR_mem i r (j + 1)]
    constructor
    · rintro (h | ⟨h, k, e, q⟩)
      · cases h
        exact ⟨rfl, 0, rfl, rfl⟩
      · exact ⟨h, k + 1, by omega, by simpa using q⟩
    · rintro ⟨h, k, e, q⟩
      cases k with
      | zero =>
        simp at q
        subst q h
        exact .inl (by rw [e, Nat.add_zero])
      | succ k => exact .inr ⟨h, k, by omega, by simpa using q⟩
theorem spG_mem {z : Str} {a b : Nat} : ∀ (g : Grid) (i : Nat), (z, a, b) ∈ spG i g ↔ ∃ k row, a = i + k ∧ g[k]? = some row ∧ row[b]? = some (some z)
  | [], i => by simp [spG]
  | r :: g, i => by
    show (z, a, b) ∈ spR i 0 r ++ spG (i + 1) g ↔ _
    rw [List.mem_append, spR_mem, spG_mem g (i + 1)]
    constructor
    · rintro (⟨h, k, e, q⟩ | ⟨k, row, e, q, t⟩)
      · exact ⟨0, r, by omega, rfl, by rw [e, Nat.zero_add]; exact q⟩
      · exact ⟨k + 1, row, by omega, by simpa using q, t⟩
    · rintro ⟨k, row, e, q, t⟩
      cases k with
      | zero =>
        simp at q
        subst q
        exact .inl ⟨by omega, b, by omega, t⟩
      | succ k => exact .inr ⟨k, row, by omega, by simpa using q, t⟩
theorem spG_cell {g : Grid} {z : Str} {r c : Nat} : (z, r, c) ∈ spG 0 g ↔ cellAt g r c = some z := by
  rw [spG_mem]
  constructor
  · rintro ⟨k, row, e, q, t⟩
    have : r = k := by omega
    subst this
    exact cellAt_of q t
  · intro h
    obtain ⟨row, q, t⟩ := cellAt_some h
    exact ⟨r, row, by omega, q, t⟩
theorem mem_names {g : Grid} {z : Str} : z ∈ names g ↔ ∃ r c, cellAt g r c = some z := by
  rw [← spG_fst g 0]
  constructor
  · intro h
    obtain ⟨⟨y, r, c⟩, hm, rfl⟩ := List.mem_map.mp h
    exact ⟨r, c, spG_cell.mp hm⟩
  · rintro ⟨r, c, h⟩
    exact List.mem_map.mpr ⟨_, spG_cell.mpr h, rfl⟩
theorem nodup_fst {α β : Type} : ∀ {l : List (α × β)}, (l.map (·.1)).Nodup → ∀ {a : α} {b b' : β}, (a, b) ∈ l → (a, b') ∈ l → b = b'
  | [], _, _, _, _, h, _ => by cases h
  | x :: l, nd, a, b, b', h, k => by
    obtain ⟨h1, h2⟩ := List.nodup_cons.mp nd
    rcases List.mem_cons.mp h with e | h <;> rcases List.mem_cons.mp k with e' | k
    · rw [← e] at e'
      exact (Prod.mk.inj e').2.symm
    · exact absurd (List.mem_map.mpr ⟨_, k, by rw [← e]⟩) h1
    · exact absurd (List.mem_map.mpr ⟨_, h, by rw [← e']⟩) h1
    · exact nodup_fst h2 h k
theorem cell_inj {g : Grid} (nd : (names g).Nodup) {z : Str} {r c r' c' : Nat} (h : cellAt g r c = some z) (k : cellAt g r' c' = some z) : r = r' ∧ c = c' := by
  have := nodup_fst (l := spG 0 g) (by rw [spG_fst]; exact nd) (spG_cell.mpr h) (spG_cell.mpr k)
  exact Prod.mk.inj this
theorem Good.cell {g : Grid} {wd : Nat} (G : Good g wd) {r c : Nat} {z : Str} (h : cellAt g r c = some z) : r < g.length ∧ c < wd := by
  obtain ⟨row, h1, h2⟩ := cellAt_some h
  obtain ⟨a, e⟩ := List.getElem?_eq_some_iff.mp h1
  obtain ⟨b, _⟩ := List.getElem?_eq_some_iff.mp h2
  have := G.rows row (List.mem_of_getElem? h1)
  exact ⟨a, by omega⟩
theorem Good.len {g : Grid} {wd : Nat} (G : Good g wd) : (names g).length ≤ 36 := by
  have h : ∀ l : Grid, (∀ r ∈ l, r.length = wd) → (names l).length ≤ l.length * wd := by
    intro l
    induction l with
    | nil => intro _; simp [names]
    | cons r l ih =>
      intro h
      rw [names_cons, List.length_append, List.length_cons]
      have h1 : (rnames r).length ≤ wd := by
        have := List.length_filterMap_le id r
        have := h r List.mem_cons_self
        unfold rnames
        omega
      have h2 := ih fun r hr => h r (List.mem_cons_of_mem _ hr)
      rw [Nat.succ_mul]
      omega
  have h1 := h g G.rows
  have h2 : g.length * wd ≤ 6 * 6 := Nat.mul_le_mul G.h6 G.w6
  omega
end Wl

namespace Wl
open PySem PySem.Spec PyProof.Rows L2
section
variable {P : Program} {w : World} {K : PySem.W.Frag} {mg : Str → Option Value} {base : Heap} {f : Addr} {fd : FuncData}
def spLand : Sp := fun vs H Q _ => ∃ (a : Addr) (m : Int), vs = [.ref a, .int m] ∧ PurseAt H a ∧ 1 ≤ m ∧ m ≤ 6 ∧
  ∀ (L : Addr) (g : Grid) (wd : Nat) (H' : Hp), Good g wd → (g.length : Int) ≤ m → (wd : Int) ≤ m → GridAt H' L g → PurseAt H' a → SameX a H H' → Q (.ref L) H'
abbrev nLand : List Str := ["_law_purse_here", "_law_most", "_law_high", "_law_wide", "_law_names_here", "_law_rows", "_law_row", "_law_parts", "_law_column", "_law_lake", "_law_name"]
theorem scLand : FnScope nLand ["_law_purse_here", "_law_most"] (defScope sLand) :=
  ⟨rfl, rfl, rfl, by decide +kernel, rfl, by decide +kernel, by decide +kernel⟩
/-- what holds of the heap while the land is laid: the rows laid so far, the parts of this one -/
structure Laying (H0 H : Hp) (a tA lA : Addr) (g : Grid) (wd : Nat) (ps : Row) : Prop where
  purse : PurseAt H a
  same : SameX a H0 H
  towns : H tA = some (.lst ((names g ++ rnames ps).map V.str))
  laid : ∃ as, H lA = some (.lst (as.map V.ref)) ∧ RowsAt H as g
  rows : ∀ r ∈ g, r.length = wd
  nd : (names g ++ rnames ps).Nodup
  wds : ∀ z ∈ names g ++ rnames ps, IsWd z
theorem len_names {g : Grid} {wd : Nat} (h : ∀ r ∈ g, r.length = wd) : (names g).length ≤ g.length * wd := by
  induction g with
  | nil => simp [names]
  | cons r l ih =>
    rw [names_cons, List.length_append, List.length_cons]
    have h1 : (rnames r).length ≤ wd := by
      have := List.length_filterMap_le id r
      have := h r List.mem_cons_self
      unfold rnames
      omega
    have h2 := ih fun r hr => h r (List.mem_cons_of_mem _ hr)
    rw [Nat.succ_mul]
    omega
theorem lake_reads {σ : L2.St} {H : Hp} {Q : VK} {a tA : Addr} {ws : List Str} {x y hi wd : Int} (e0 : σ[0]? = some (some (.ref a))) (e4 : σ[4]? = some (some (.ref tA))) (e6 : σ[6]? = some (some (.int x))) (e8 : σ[8]? = some (some (.int y)))
    (e2 : σ[2]? = some (some (.int hi))) (e3 : σ[3]? = some (some (.int wd))) (hA : PurseAt H a) (ht : H tA = some (.lst (ws.map V.str))) (nta : tA ≠ a) (hws : ∀ z ∈ ws, IsWd z)
    (q : ∀ (b : Bool) (H' : Hp), PurseAt H' a → SameX a H H' → (b = true → ws ≠ [] ∨ x + y + 2 < hi + wd) → Q (.bl b) H') :
    tAndV (tOp rEq (tCall spPick [] E0 (tCons (tVar 0) (tCons (tC (.int 6)) tNil))) (tC (.int 5)))
      (tOrV (tOp (rNeD K) (tVar 4) (tLst tNil)) (tOp (rI0 fun i j => .bl (decide (i < j))) (tOp (rI0 fun i j => .int (i + j)) (tOp (rI0 fun i j => .int (i + j)) (tVar 6) (tVar 8)) (tC (.int 2))) (tOp (rI0 fun i j => .int (i + j)) (tVar 2) (tVar 3)))) σ H Q := by
  refine ⟨_, e0, a, 6, rfl, hA, by decide, by decide, fun r H1 r0 r1 hA1 s1 n1 => ⟨rfl, _, rfl, ite_b (fun e => ?_) (fun e => ?_)⟩⟩
  · refine ⟨_, e4, lz, fun p hp => ⟨.list (ws.map .str), .list [], .lst (.inl (.inl ((same_new hp) _ _ (s1 _ _ nta ht)))) (dp_strs ws), .lst (.inl (.inl upd_same)) .nil, shaped_list (lay_strs hws) (by rw [depth_strs]; decide), rfl, _, rfl, ite_b (fun e => ?_) (fun e => ?_)⟩⟩
    · refine q true _ (hA1.same (same_new hp)) (s1.trans (sx (same_new hp))) fun _ => .inl fun z => ?_
      subst z
      cases e
    · refine ⟨_, e6, _, e8, _, _, rfl, rfl, _, _, rfl, rfl, _, e2, _, e3, _, _, rfl, rfl, _, _, rfl, rfl, ?_⟩
      exact q _ _ (hA1.same (same_new hp)) (s1.trans (sx (same_new hp))) fun z => .inr (of_decide_eq_true z)
  · exact q false _ hA1 s1 fun z => by cases z
theorem Laying.go {H0 H H' : Hp} {a tA lA : Addr} {g : Grid} {wd : Nat} {ps : Row} (h : Laying H0 H a tA lA g wd ps) (nt : tA ≠ a) (nl : lA ≠ a) (hp : PurseAt H' a) (s : SameX a H H') : Laying H0 H' a tA lA g wd ps := by
  obtain ⟨as, hl, hR⟩ := h.laid
  obtain ⟨ys, ha⟩ := h.purse.lst
  exact ⟨hp, h.same.trans s, s _ _ nt h.towns, ⟨as, s _ _ nl hl, hR.keep (tk_x s ha)⟩, h.rows, h.nd, h.wds⟩
theorem ok_land (F : Fun K "_law_land" "_law_land" sLand f fd) (B : Bi mg) (hp : Has P w K mg base "_law_pick" 1 ["_law_purse_here", "_law_many"] spPick) (hF : Has P w K mg base "_law_fresh" 3 ["_law_purse_here", "_law_used"] spFresh) :
    FnOk P w K mg base CX0 4 f fd ["_law_purse_here", "_law_most"] spLand := by
  refine F.ok scLand (fun vs H Q E h => ?_) (fun cdv A outer s H vs Q E hr h => ?_)
  · obtain ⟨a, m, rfl, _⟩ := h
    rfl
  · obtain ⟨a, m, rfl, hA, m1, m6, q⟩ := h
    refine ⟨_, pss_cons (ps_par3 (i := 2) (j := 3) (l := 4) (by rfl) scLand.nd rfl rfl rfl (by decide) (by decide) (by decide) rfl rfl rfl (pa_cons (pe_op op_add pe_int (pe_h hp hr (pa_cons (pv 0) (pa_cons (pv 1) pa_nil)))) (pa_cons (pe_op op_add pe_int (pe_h hp hr (pa_cons (pv 0) (pa_cons (pv 1) pa_nil)))) (pa_cons (pe_lst pa_nil) pa_nil))) (by rfl))
      (pss_cons (ps_set (i := 5) scLand.nd rfl (.inl rfl) (pe_lst pa_nil))
      (pss_cons (ps_for PassesOwn.never rfl (pi_range1 rfl B.range (pa_cons (pv 2) pa_nil)) (pg_name (i := 6) scLand.nd rfl (.inl rfl))
        (pss_cons (ps_set (i := 7) scLand.nd rfl (.inl rfl) (pe_lst pa_nil))
        (pss_cons (ps_for PassesOwn.never rfl (pi_range1 rfl B.range (pa_cons (pv 3) pa_nil)) (pg_name (i := 8) scLand.nd rfl (.inl rfl))
          (pss_cons (ps_set (i := 9) scLand.nd rfl (.inl rfl) (pe_and (pe_cmpR op_eq (pe_h hp hr (pa_cons (pv 0) (pa_cons pe_int pa_nil))) pe_int (nomark _)) (pe_one (pe_or (pe_cmpR (op_neD hr.units) (pv 4) (pe_lst pa_nil) (nomark _)) (pe_one (pe_cmpR op_lt (pe_op op_add (pe_op op_add (pv 6) (pv 8)) pe_int) (pe_op op_add (pv 2) (pv 3)) (nomark _)))))))
          (pss_cons (ps_set (i := 10) scLand.nd rfl (.inl rfl) (pe_h hF hr (pa_cons (pv 0) (pa_cons (pv 4) pa_nil))))
          (pss_cons (ps_if (pt_truth (pv 9) (by intro _; rfl)) (pss_one (ps_set (i := 10) scLand.nd rfl (.inl rfl) pe_non)) (pss_one (ps_expr (pe_bm PySem.F.plainAttrs_list PySem.F.slot_list_append PySem.F.type_list_append mt_append (pv 4) (pa_cons (pv 10) pa_nil)))))
          (pss_one (ps_expr (pe_bm PySem.F.plainAttrs_list PySem.F.slot_list_append PySem.F.type_list_append mt_append (pv 7) (pa_cons (pv 10) pa_nil))))))))
        (pss_one (ps_expr (pe_bm PySem.F.plainAttrs_list PySem.F.slot_list_append PySem.F.type_list_append mt_append (pv 5) (pa_cons (pe_callTy call_tuple_of (by rfl) B.tuple (by decide +kernel) (pa_cons (pv 7) pa_nil)) pa_nil)))))))
      (pss_one (ps_ret (pe_callTy call_tuple_of (by rfl) B.tuple (by decide +kernel) (pa_cons (pv 5) pa_nil)))))), ?_⟩
    refine ⟨_, rfl, _, rfl, a, m, rfl, hA, by omega, by omega, fun r1 H1 r10 r11 hA1 s1 n1 => ⟨_, _, rfl, rfl, ?_⟩⟩
    refine ⟨_, rfl, _, rfl, a, m, rfl, hA1, by omega, by omega, fun r2 H2 r20 r21 hA2 s2 n2 => ⟨_, _, rfl, rfl, ?_⟩⟩
    refine ⟨lz, fun tA htA => ⟨_, _, _, rfl, lz, fun lA hlA => ?_⟩⟩
    have nta : tA ≠ a := hA2.ne htA
    have nla : lA ≠ a := (hA2.same (same_new htA)).ne hlA
    have nlt : lA ≠ tA := (ne_of_none upd_same hlA).symm
    have htA0 : H tA = none := SameX.free (s1.trans s2) nta htA
    have hlA0 : H lA = none := SameX.free ((s1.trans s2).trans (sx (same_new htA))) nla hlA
    obtain ⟨hi, ehi⟩ : ∃ hi : Nat, 1 + r1 = (hi : Int) := ⟨(1 + r1).toNat, by omega⟩
    obtain ⟨wd, ewd⟩ : ∃ wd : Nat, 1 + r2 = (wd : Int) := ⟨(1 + r2).toNat, by omega⟩
    have n1 : (1 + r1).toNat = hi := by omega
    have n2 : (1 + r2).toNat = wd := by omega
    have hhi : 1 ≤ hi ∧ hi ≤ 6 := by omega
    have hwd : 1 ≤ wd ∧ wd ≤ 6 := by omega
    have L0 : Laying H (upd (upd H2 tA (.lst [])) lA (.lst [])) a tA lA [] wd [] := by
      refine ⟨(hA2.same (same_new htA)).same (same_new hlA), sameX_mut (sameX_mut (s1.trans s2) htA0) hlA0, ?_, ⟨[], upd_same, .nil⟩, (fun r hr => nomatch hr), List.nodup_nil, (fun z hz => nomatch hz)⟩
      rw [upd_ne nlt.symm, upd_same]
      rfl
    generalize upd (upd H2 tA (.lst [])) lA (.lst []) = H3 at L0
    refine ⟨_, rfl, 1 + r1, rfl, by omega, by omega, ?_⟩
    rw [n1]
    refine for_range (lo := 0) (n := hi) (fun i σ H' => ∃ (g : Grid) (y6 y7 y8 y9 y10 : Option V), σ = [some (.ref a), some (.int m), some (.int (1 + r1)), some (.int (1 + r2)), some (.ref tA), some (.ref lA), y6, y7, y8, y9, y10] ∧ g.length = i ∧ Laying H H' a tA lA g wd [] ∧ (i = hi → names g ≠ []))
      ⟨[], none, none, none, none, none, rfl, rfl, L0, fun e => by omega⟩ ?_ ?_
    · rintro i σ H4 hi4 ⟨g, y6, y7, y8, y9, y10, rfl, hgl, L4, _⟩
      refine ⟨lz, fun pA hpA => ?_⟩
      have npa : pA ≠ a := L4.purse.ne hpA
      have npt : pA ≠ tA := (ne_of_none L4.towns hpA).symm
      obtain ⟨as4, hl4, hR4⟩ := L4.laid
      have npl : pA ≠ lA := (ne_of_none hl4 hpA).symm
      have L5 := L4.go nta nla (L4.purse.same (same_new (o := .lst []) hpA)) (sx (same_new hpA))
      refine ⟨_, rfl, 1 + r2, rfl, by omega, by omega, ?_⟩
      rw [n2]
      refine for_range (lo := 0) (n := wd) (fun j σ H' => ∃ (ps : Row) (y8 y9 y10 : Option V), σ = [some (.ref a), some (.int m), some (.int (1 + r1)), some (.int (1 + r2)), some (.ref tA), some (.ref lA), some (.int (0 + i)), some (.ref pA), y8, y9, y10] ∧ ps.length = j ∧ Laying H H' a tA lA g wd ps ∧ H' pA = some (.lst (ps.map oV)) ∧ (i + 1 = hi → j = wd → names g ++ rnames ps ≠ []))
        ⟨[], _, _, _, rfl, rfl, L5, upd_same, fun _ e => by omega⟩ ?_ ?_
      · rintro j σ H6 hj ⟨ps, z8, z9, z10, rfl, hpl, L6, hp6, _⟩
        refine lake_reads (a := a) (tA := tA) (x := 0 + i) (y := 0 + j) (hi := 1 + r1) (wd := 1 + r2) rfl rfl rfl rfl rfl rfl L6.purse L6.towns nta L6.wds fun b H7 hA7 s7 hb => ?_
        have L7 := L6.go nta nla hA7 s7
        have hp7 := s7 _ _ npa hp6
        have hlen : (names g ++ rnames ps).length ≤ 35 := by
          have h1 := len_names L6.rows
          have h2 : (rnames ps).length ≤ ps.length := List.length_filterMap_le id ps
          rw [List.length_append]
          have h3 : g.length * wd ≤ 5 * wd := Nat.mul_le_mul_right _ (by omega)
          omega
        refine ⟨_, rfl, _, rfl, a, tA, names g ++ rnames ps, rfl, L7.purse, L7.towns, nta, hlen, fun z H8 hz hzn hA8 s8 => ?_⟩
        have L8 := L7.go nta nla hA8 s8
        have hp8 := s8 _ _ npa hp7
        have hlt : ((names g ++ rnames ps).map V.str).length < sizeLine := by
          rw [List.length_map]
          exact small1000 (by omega)
        have hpl2 : (ps.map oV).length < sizeLine := by
          rw [List.length_map]
          exact small1000 (by omega)
        refine ⟨_, rfl, b, rfl, ite_b (fun e => ?_) (fun e => ?_)⟩
        · -- a lake
          refine ⟨_, rfl, .inl ⟨rfl, _, .inl (.inl hp8)⟩, _, rfl, pA, _, _, rfl, rfl, hp8, hpl2, ?_⟩
          obtain ⟨as8, hl8, hR8⟩ := L8.laid
          refine ⟨ps ++ [none], _, _, _, rfl, by simp [hpl], ⟨?_, ?_, ?_, ⟨as8, ?_, hR8.keep (tk_upd hp8)⟩, L8.rows, ?_, ?_⟩, ?_, ?_⟩
          · obtain ⟨x0, x1, x2, hx, hx1⟩ := L8.purse
            exact ⟨x0, x1, x2, by rw [upd_ne npa.symm]; exact hx, hx1⟩
          · exact sameX_mut L8.same (SameX.free L4.same npa hpA)
          · rw [upd_ne npt.symm, rnames_snoc]
            simpa using L8.towns
          · rw [upd_ne npl.symm]
            exact hl8
          · rw [rnames_snoc]
            simpa using L8.nd
          · rw [rnames_snoc]
            simpa using L8.wds
          · rw [upd_same, List.map_append]
            rfl
          · intro e1 e2
            rw [rnames_snoc]
            rcases hb e with h | h
            · simpa using h
            · omega
        · -- a village
          refine ⟨_, rfl, .inl ⟨rfl, _, .inl (.inl L8.towns)⟩, _, rfl, tA, _, _, rfl, rfl, L8.towns, hlt, ?_⟩
          have hp9 : upd H8 tA (.lst ((names g ++ rnames ps).map V.str ++ [.str z])) pA = some (.lst (ps.map oV)) := by
            rw [upd_ne npt]
            exact hp8
          refine ⟨_, rfl, .inl ⟨rfl, _, .inl (.inl hp9)⟩, _, rfl, pA, _, _, rfl, rfl, hp9, hpl2, ?_⟩
          obtain ⟨as8, hl8, hR8⟩ := L8.laid
          have en : names g ++ rnames (ps ++ [some z]) = (names g ++ rnames ps) ++ [z] := by
            rw [rnames_snoc, List.append_assoc]
            rfl
          refine ⟨ps ++ [some z], _, _, _, rfl, by simp [hpl], ⟨?_, ?_, ?_, ⟨as8, ?_, (hR8.keep (tk_upd L8.towns)).keep (tk_upd hp9)⟩, L8.rows, ?_, ?_⟩, ?_, ?_⟩
          · obtain ⟨x0, x1, x2, hx, hx1⟩ := L8.purse
            exact ⟨x0, x1, x2, by rw [upd_ne npa.symm, upd_ne nta.symm]; exact hx, hx1⟩
          · exact sameX_mut (sameX_mut L8.same htA0) (SameX.free L4.same npa hpA)
          · rw [upd_ne npt.symm, upd_same, en]
            simp
          · rw [upd_ne npl.symm, upd_ne nlt]
            exact hl8
          · rw [en, List.nodup_append]
            refine ⟨L8.nd, by simp, fun x hx y hy e => ?_⟩
            rw [List.mem_singleton.mp hy] at e
            rw [e] at hx
            exact hzn hx
          · rw [en]
            intro y hy
            rcases List.mem_append.mp hy with hy | hy
            · exact L8.wds y hy
            · rw [List.mem_singleton.mp hy]
              exact hz
          · rw [upd_same, List.map_append]
            rfl
          · intro _ _
            rw [en]
            simp
      · rintro σ H6 ⟨ps, z8, z9, z10, rfl, hpl, L6, hp6, hne⟩
        obtain ⟨as6, hl6, hR6⟩ := L6.laid
        refine ⟨_, rfl, .inl ⟨rfl, _, .inl (.inl hl6)⟩, _, rfl, pA, _, rfl, .inl ⟨.inl (.inl hp6), fun t ht => ?_⟩⟩
        have nlt6 : lA ≠ t := ne_of_none hl6 ht
        refine ⟨lA, _, _, rfl, rfl, (same_new ht) _ _ hl6, ?_, ?_⟩
        · rw [List.length_map, hR6.length]
          exact small1000 (by omega)
        · refine ⟨g ++ [ps], _, _, _, _, _, rfl, by simp [hgl], ⟨?_, ?_, ?_, ⟨as6 ++ [t], ?_, ?_⟩, ?_, ?_, ?_⟩, ?_⟩
          · obtain ⟨x0, x1, x2, hx, hx1⟩ := L6.purse.same (same_new (o := .tup (ps.map oV)) ht)
            exact ⟨x0, x1, x2, by rw [upd_ne nla.symm]; exact hx, hx1⟩
          · exact sameX_mut (L6.same.trans (sx (same_new ht))) hlA0
          · rw [upd_ne nlt.symm, (same_new ht) _ _ L6.towns, names_snoc]
            simp [rnames]
          · rw [upd_same, List.map_append]
            rfl
          · refine Each.append ((hR6.keep (tk_new ht)).keep (tk_upd ((same_new ht) _ _ hl6))) (.cons ?_ .nil)
            rw [upd_ne nlt6.symm, upd_same]
          · intro r hr
            rcases List.mem_append.mp hr with hr | hr
            · exact L6.rows r hr
            · rw [List.mem_singleton.mp hr]
              exact hpl
          · rw [names_snoc]
            simpa [rnames] using L6.nd
          · rw [names_snoc]
            simpa [rnames] using L6.wds
          · intro e
            rw [names_snoc]
            exact hne e rfl
    · rintro σ H4 ⟨g, y6, y7, y8, y9, y10, rfl, hgl, L4, hne⟩
      obtain ⟨as4, hl4, hR4⟩ := L4.laid
      refine ⟨_, rfl, lA, _, rfl, .inl ⟨.inl (.inl hl4), fun t ht => ?_⟩⟩
      refine q t g wd _ ⟨by omega, by omega, hwd.1, hwd.2, L4.rows, ?_, ?_, hne rfl⟩ (by omega) (by omega) ⟨as4, upd_same, hR4.keep (tk_new ht)⟩ (L4.purse.same (same_new ht)) (L4.same.trans (sx (same_new ht)))
      · simpa [rnames] using L4.nd
      · simpa [rnames] using L4.wds
end
end Wl





namespace Wl
open PySem PySem.Spec PyProof.Rows L2
abbrev sIsWord : Stmt := topS 21
abbrev sAreRows : Stmt := topS 27
abbrev sWrong : Stmt := topS 28
abbrev sSpotsIn : Stmt := topS 29
abbrev sSpots : Stmt := topS 30
structure Gk (mg : Str → Option Value) : Prop where
  letters : ∃ t, mg "LETTERS" = some (.str "abcdefghijklmnopqrstuvwxyz" t)
  longest : ∃ t, mg "LONGEST_WORD" = some (.int 8 t)
  mrows : ∃ t, mg "MOST_ROWS" = some (.int 6 t)
  mcols : ∃ t, mg "MOST_COLUMNS" = some (.int 6 t)
section
variable {P : Program} {w : World} {K : PySem.W.Frag} {mg : Str → Option Value} {base : Heap} {f : Addr} {fd : FuncData}

/-! ### is_word of a text -/
def spIsWord : Sp := fun vs H Q _ => ∃ (z : Str), vs = [.str z] ∧ z.length ≤ 1000 ∧ ∀ (H' : Hp), Same H H' → Q (.bl (wdB z)) H'
abbrev nIsWord : List Str := ["thing", "letter"]
theorem scIsWord : FnScope nIsWord ["thing"] (defScope sIsWord) := ⟨rfl, rfl, rfl, by decide +kernel, rfl, by decide +kernel, by decide +kernel⟩
def letB (c : Nat) : Bool := decide (97 ≤ c) && decide (c ≤ 122)
def letV : V → V
  | .str s => .bl (s.cps.toList.all letB)
  | v => v
theorem letB_mem (c : Nat) : decide (c ∈ ("abcdefghijklmnopqrstuvwxyz" : Str).cps.toList) = letB c := by
  rw [letters_eq]
  unfold letB
  by_cases h : c ∈ List.range' 97 26
  · rw [decide_eq_true h]
    rw [List.mem_range'_1] at h
    simp
    omega
  · rw [decide_eq_false h]
    rw [List.mem_range'_1] at h
    symm
    rw [Bool.and_eq_false_iff, decide_eq_false_iff_not, decide_eq_false_iff_not]
    omega
theorem ok_isword (F : Fun K "is_word" "is_word" sIsWord f fd) (B : Bi mg) (G : Gk mg) : FnOk P w K mg base CX0 1 f fd ["thing"] spIsWord := by
  obtain ⟨t1, g1⟩ := G.letters
  obtain ⟨t2, g2⟩ := G.longest
  refine F.ok scIsWord (fun vs H Q E h => ?_) (fun cdv A outer s H vs Q E hr h => ?_)
  · obtain ⟨z, rfl, _⟩ := h
    rfl
  · obtain ⟨z, rfl, hz, q⟩ := h
    refine ⟨_, pss_cons (ps_if (PW.pt (pw_or (pt_not (pt_val (pe_callB call_isi (by rfl) B.isi (by decide +kernel) (pa_cons (pv 0) (pa_cons (pe_bltn (v := .ty "str") (by rfl) B.str (by decide +kernel) rfl) pa_nil)))))
        (pw_or1 (pt_not (pt_chain op_le op_le pe_int (pe_callB call_len_str (by rfl) B.len PySem.boot_len (pa_cons (pv 0) pa_nil)) (pe_glob (v := .int 8) rfl g2 ⟨_, rfl⟩)))))) (pss_one (ps_ret pe_bl)) pss_nil)
      (pss_one (ps_ret (pe_callB (cr_all rfl) (by rfl) B.all (by decide +kernel) (pa_cons (pe_lc (own := [("letter", 1)]) (g := gName 1) (tt := tYes) rfl scIsWord.nd (pi_str (pv 0)) (blkOk_by (N := nIsWord) (sc := defScope sIsWord) (by decide +kernel))
        (fun _ _ _ _ _ => pg_name (i := 1) scIsWord.nd rfl (.inl rfl)) (fun _ _ _ _ _ => pts_nil) (fun _ _ _ _ _ => pe_cmpR op_in_sign (pv 1) (pe_glob (v := .str "abcdefghijklmnopqrstuvwxyz") rfl g1 ⟨_, rfl⟩) rfl)) pa_nil)))), ?_⟩
    refine ⟨_, rfl, _, _, _, _, _, rfl, .ty "str", .base (.str z), kit_ty (r := true) (by decide +kernel), true, rfl, ?_⟩
    refine iteF ⟨_, rfl, _, rfl, lzl hz, _, _, rfl, rfl, _, rfl, ite_b (fun e1 => ?_) (fun e1 => ?_)⟩
    · refine ⟨_, _, rfl, rfl, _, rfl, not_b (fun e2 => ?_) (fun e2 => ?_)⟩
      · have e2' : ¬ ((z.length : Int) ≤ 8) := of_decide_eq_false e2
        have : wdB z = false := by
          unfold wdB
          rw [decide_eq_false (show ¬ z.length ≤ 8 by omega)]
          simp
        rw [← this]
        exact q H (Same.refl H)
      · have h1 : 1 ≤ z.length := by
          have := of_decide_eq_true e1
          omega
        have h8 : z.length ≤ 8 := by
          have := of_decide_eq_true e2
          omega
        refine ⟨_, rfl, _, rfl, fun D hD => lc_map walk_signs hD (fun _ => true) letV (fun _ _ => trivial) (fun _ => rfl) (fun x H' _ _ Q' q' => q') ?_ ?_ ?_⟩
        · intro x H' hx _ _ Q' q'
          obtain ⟨c, hc, rfl⟩ := List.mem_map.mp hx
          refine ⟨_, rfl, c, _, rfl, rfl, ?_⟩
          rw [letB_mem]
          have : letV (.str (sign c)) = .bl (letB c) := by
            show V.bl ([c].all letB) = _
            simp
          rw [this] at q'
          exact q'
        · unfold signsOf
          rw [List.length_map, Array.length_toList]
          exact small1000 (by have : z.length = z.cps.size := rfl; omega)
        · intro H' s' hD'
          have e0 : ((signsOf z).filter fun _ => true).map letV = (z.cps.toList.map letB).map V.bl := by
            rw [List.filter_eq_self.mpr fun _ _ => rfl]
            unfold signsOf
            rw [List.map_map, List.map_map]
            refine List.map_congr_left fun c _ => ?_
            show V.bl ([c].all letB) = _
            simp
          refine ⟨D, z.cps.toList.map letB, rfl, .inl (.inl (by rw [hD', e0])), ?_⟩
          have : (z.cps.toList.map letB).all id = wdB z := by
            unfold wdB
            rw [decide_eq_true h1, decide_eq_true h8, List.all_map]
            rfl
          rw [this]
          exact q H' s'
    · refine ⟨false, rfl, iteT ?_⟩
      have : wdB z = false := by
        have e1' : ¬ ((1 : Int) ≤ z.length) := of_decide_eq_false e1
        unfold wdB
        rw [decide_eq_false (show ¬ 1 ≤ z.length by omega)]
        simp
      rw [← this]
      exact q H (Same.refl H)
end
end Wl





namespace Wl
open PySem PySem.Spec PyProof.Rows L2
section
variable {P : Program} {w : World} {K : PySem.W.Frag} {mg : Str → Option Value} {base : Heap} {f : Addr} {fd : FuncData}

/-! ### are_rows of a good grid -/
def spAreRows : Sp := fun vs H Q _ => ∃ (L : Addr) (g : Grid) (wd : Nat), vs = [.ref L] ∧ GridAt H L g ∧ Good g wd ∧ Q (.bl true) H
abbrev nAreRows : List Str := ["thing", "row"]
theorem scAreRows : FnScope nAreRows ["thing"] (defScope sAreRows) := ⟨rfl, rfl, rfl, by decide +kernel, rfl, by decide +kernel, by decide +kernel⟩
theorem ok_arerows (F : Fun K "are_rows" "are_rows" sAreRows f fd) (B : Bi mg) (G : Gk mg) : FnOk P w K mg base CX0 1 f fd ["thing"] spAreRows := by
  obtain ⟨t1, g1⟩ := G.mrows
  obtain ⟨t2, g2⟩ := G.mcols
  refine F.ok scAreRows (fun vs H Q E h => ?_) (fun cdv A outer s H vs Q E hr h => ?_)
  · obtain ⟨L, g, wd, rfl, _⟩ := h
    rfl
  · obtain ⟨L, g, wd, rfl, ⟨as, hL, hR⟩, gd, q⟩ := h
    refine ⟨_, pss_cons (ps_if (PW.pt (pw_or (pt_not (pt_val (pe_callB call_isi (by rfl) B.isi (by decide +kernel) (pa_cons (pv 0) (pa_cons (pe_bltn (v := .ty "tuple") (by rfl) B.tuple (by decide +kernel) rfl) pa_nil)))))
        (pw_or1 (pt_not (pt_chain op_le op_le pe_int (pe_callB call_len_seq (by rfl) B.len PySem.boot_len (pa_cons (pv 0) pa_nil)) (pe_glob (v := .int 6) rfl g1 ⟨_, rfl⟩)))))) (pss_one (ps_ret pe_bl)) pss_nil)
      (pss_cons (ps_for PassesOwn.never rfl (pi_tup (pv 0)) (pg_name (i := 1) scAreRows.nd rfl (.inl rfl))
        (pss_one (ps_if (PW.pt (pw_or (pt_not (pt_val (pe_callB call_isi (by rfl) B.isi (by decide +kernel) (pa_cons (pv 1) (pa_cons (pe_bltn (v := .ty "tuple") (by rfl) B.tuple (by decide +kernel) rfl) pa_nil)))))
          (pw_or (pt_not (pt_chain op_le op_le pe_int (pe_callB call_len_seq (by rfl) B.len PySem.boot_len (pa_cons (pv 1) pa_nil)) (pe_glob (v := .int 6) rfl g2 ⟨_, rfl⟩)))
          (pw_or1 (pt_cmpR op_ne (pe_callB call_len_seq (by rfl) B.len PySem.boot_len (pa_cons (pv 1) pa_nil)) (pe_callB call_len_seq (by rfl) B.len PySem.boot_len (pa_cons (pe_ix ix_tup (pv 0) pe_int (fun _ _ => rfl)) pa_nil)) (nomark _)))))) (pss_one (ps_ret pe_bl)) pss_nil)))
      (pss_one (ps_ret pe_bl))), ?_⟩
    have hlen : (as.map V.ref).length = g.length := by rw [List.length_map, hR.length]
    have hST : SqT K H L (as.map V.ref) := .inl (.inl hL)
    have h16 : 1 ≤ g.length ∧ g.length ≤ 6 := ⟨gd.h1, gd.h6⟩
    have w16 : 1 ≤ wd ∧ wd ≤ 6 := ⟨gd.w1, gd.w6⟩
    refine ⟨_, rfl, _, _, _, _, _, rfl, .ty "tuple", .base (.tup hL), kit_ty (r := true) (by decide +kernel), true, rfl, ?_⟩
    refine iteF ⟨_, rfl, L, _, rfl, .inr hST, _, _, rfl, rfl, _, rfl, ite_b (fun e1 => ?_) (fun e1 => ?_)⟩
    · refine ⟨_, _, rfl, rfl, _, rfl, not_b (fun e2 => ?_) (fun e2 => ?_)⟩
      · have := of_decide_eq_false e2
        omega
      · refine ⟨_, rfl, L, rfl, ⟨_, hST⟩, for_tup (K := K) (a := L) (xs := as.map V.ref) (fun i σ H' => (∃ y, σ = [some (.ref L), y]) ∧ H' = H) ⟨⟨_, rfl⟩, rfl⟩ (fun i σ H' _ h => by rw [h.2]; exact hST) ?_ ?_⟩
        · rintro i x σ H' hx ⟨⟨y, rfl⟩, rfl⟩
          rw [List.getElem?_map] at hx
          obtain ⟨p, hp, rfl⟩ := Option.map_eq_some_iff.mp hx
          obtain ⟨row, hrow, hH⟩ := hR.get hp
          have hrl : (row.map oV).length = wd := by rw [List.length_map]; exact gd.rows row (List.mem_of_getElem? hrow)
          have hrT : SqT K H' p (row.map oV) := .inl (.inl hH)
          obtain ⟨p0, hp0⟩ : ∃ p0, as[0]? = some p0 := by
            cases as with
            | nil =>
              have := hR.length
              simp at this
              omega
            | cons a0 r => exact ⟨a0, rfl⟩
          obtain ⟨row0, hrow0, hH0⟩ := hR.get hp0
          have hr0l : (row0.map oV).length = wd := by rw [List.length_map]; exact gd.rows row0 (List.mem_of_getElem? hrow0)
          refine ⟨_, rfl, _, _, _, _, _, rfl, .ty "tuple", .base (.tup hH), kit_ty (r := true) (by decide +kernel), true, rfl, ?_⟩
          refine iteF ⟨_, rfl, p, _, rfl, .inr hrT, _, _, rfl, rfl, _, rfl, ite_b (fun e3 => ?_) (fun e3 => ?_)⟩
          · refine ⟨_, _, rfl, rfl, _, rfl, not_b (fun e4 => ?_) (fun e4 => ?_)⟩
            · have := of_decide_eq_false e4
              omega
            · refine ⟨_, rfl, p, _, rfl, .inr hrT, _, rfl, L, _, 0, .ref p0, rfl, rfl, hST, atI_nat (j := 0) (by rw [List.getElem?_map, hp0]; rfl), p0, _, rfl, .inr (.inl (.inl hH0)), rfl, _, rfl, ?_⟩
              refine iteNS (by rw [hrl, hr0l]) ?_
              exact ⟨⟨_, rfl⟩, rfl⟩
          · have := of_decide_eq_false e3
            omega
        · rintro σ H' ⟨⟨y, rfl⟩, rfl⟩
          exact q
    · have := of_decide_eq_false e1
      omega
end
end Wl





/-! A dict comprehension of two clauses: {k: v for a in .. if .. for b in .. if ..}. -/
namespace Wl
open PySem PySem.Spec PyProof.Rows L2
/-- the whole of it -/
abbrev two (kx vx ta ia tb ib : Expr) (fa fb : List Expr) (sc : Scope) (pos : Pos) : Expr := .DictComp kx vx [⟨ta, ia, fa, 0⟩, ⟨tb, ib, fb, 0⟩] sc pos
/-- a clause's tests -/
abbrev testsOf (fs : List Expr) (env : Env) : Sem Bool :=
  forIn fs true fun c r => if r = true then (do let y ← isTrue c env (eval c env); pure (ForInStep.yield y)) else pure (ForInStep.yield r)
/-- a turn of a clause: no item is left, or one comes, is stored and tested -/
def Turned (M : Model) (A : Around) (env : Env) (tg : Expr) (it : Value) (fs : List Expr) (stop : Shared → Prop) (k : Bool → Shared → Prop) (E : Value → Shared → Prop) (s : Shared) : Prop :=
  wpAny M A (pyNext it) (fun r s1 => match r with
    | none => stop s1
    | some u => wpAny M A (letOwnedTupleGo tg it u) (fun _ s2 => wpAny M A (assign tg env u) (fun _ s3 => wpAny M A (testsOf fs env) k E s3) E s2) E s1) E s
section
variable {kx vx ta ia tb ib : Expr} {fa fb : List Expr} {sc : Scope} {pos : Pos} {it : Value} {D : Addr} {env : Env}
theorem turnA : compTurn (two kx vx ta ia tb ib fa fb sc pos) 0 it (.ref D) env = (do
    standAt ia.pos
    match ← pyNext it with
    | none => pure (.done .next)
    | some u =>
      letOwnedTupleGo ta it u
      assign ta env u
      let yes ← testsOf fa env
      if yes = true then
        let x ← eval ib env
        standAt ib.pos
        let z ← foldedSetIterable ib env x
        let _ ← runOwn (.compStart (two kx vx ta ia tb ib fa fb sc pos) 1 (← holding [z] (pyIter z)) (.ref D) env) env
      again (.compLoop (two kx vx ta ia tb ib fa fb sc pos) 0 it (.ref D) env)) := rfl
theorem turnB : compTurn (two kx vx ta ia tb ib fa fb sc pos) 1 it (.ref D) env = (do
    standAt ib.pos
    match ← pyNext it with
    | none => pure (.done .next)
    | some u =>
      letOwnedTupleGo tb it u
      assign tb env u
      let yes ← testsOf fb env
      if yes = true then
        (do
          let a ← eval kx env
          let b ← holding [a] (eval vx env)
          standAt { kx.pos with endLine := vx.pos.endLine, endCol := vx.pos.endCol }
          holding [a, b] (dictSet D a b))
      again (.compLoop (two kx vx ta ia tb ib fa fb sc pos) 1 it (.ref D) env)) := rfl
variable {prog : Program} {w : World} {A : Around} {R : Result → Shared → Prop} {s : Shared}
/-- what an error leaves behind it -/
abbrev errs (prog : Program) (w : World) (A : Around) (env : Env) (R : Result → Shared → Prop) : Value → Shared → Prop := notedBy (model prog w) A env fun e s' => R (.error e) s'
theorem loopA (plain : ∀ x, foldedSetIterable ib env x = pure x) (I : Nat → Shared → Prop)
    (turn : ∀ n s, I n s → Turned (model prog w) A env ta it fa (R (.ok .next)) (fun yes s1 => if yes = true then
        wpAny (model prog w) A (eval ib env) (fun x s2 => wpAny (model prog w) A (pyIter x) (fun j s3 => codeAny (model prog w) A (.compStart (two kx vx ta ia tb ib fa fb sc pos) 1 j (.ref D) env) (fun r s4 => (∃ f, r = .ok f) ∧ ∃ m, m < n ∧ I m s4) s3) (errs prog w A env R) s2) (errs prog w A env R) s1
      else ∃ m, m < n ∧ I m s1) (errs prog w A env R) s)
    (n : Nat) (h : I n s) : codeAny (model prog w) A (.compLoop (two kx vx ta ia tb ib fa fb sc pos) 0 it (.ref D) env) R s := by
  refine codeAny_loop rfl I (fun n s hI => wpAny_noted ?_) n h
  have key := turn n s hI
  unfold Turned at key
  show wpAny _ A (compTurn (two kx vx ta ia tb ib fa fb sc pos) 0 it (.ref D) env) _ _ s
  rw [turnA]
  refine wpAny_bind (wpAny_standAt (wpAny_bind (wpAny_mono key ?_ fun _ _ z => z)))
  rintro (_ | u) s1 k1
  · exact wpAny_pure k1
  · refine wpAny_bind (wpAny_mono k1 (fun _ s2 k2 => wpAny_bind (wpAny_mono k2 (fun _ s3 k3 => wpAny_bind (wpAny_mono k3 ?_ fun _ _ z => z)) fun _ _ z => z)) fun _ _ z => z)
    rintro (_ | _) s4 k4
    · exact wpAny_pure ⟨rfl, k4⟩
    · refine wpAny_bind (wpAny_mono k4 (fun x s5 k5 => wpAny_bind (wpAny_standAt (wpAny_bind (wpAny_of_eq (plain x) (wpAny_bind (wpAny_holding (wpAny_mono k5 (fun j s6 k6 => ?_) fun _ _ z => z))))))) fun _ _ z => z)
      refine wpAny_bind (wpAny_runOwn ?_)
      rw [Around.mark_none]
      refine codeAny_mono k6 ?_
      rintro (e | f) s7 ⟨⟨g, eg⟩, k7⟩
      · cases eg
      · first
          | exact wpAny_pure ⟨rfl, k7⟩
          | exact wpAny_bind (wpAny_pure (wpAny_pure ⟨rfl, k7⟩))
theorem loopB (I : Nat → Shared → Prop)
    (turn : ∀ n s, I n s → Turned (model prog w) A env tb it fb (R (.ok .next)) (fun yes s1 => if yes = true then
        wpAny (model prog w) A (eval kx env) (fun a s2 => wpAny (model prog w) A (eval vx env) (fun b s3 => wpAny (model prog w) A (dictSet D a b) (fun _ s4 => ∃ m, m < n ∧ I m s4) (errs prog w A env R) s3) (errs prog w A env R) s2) (errs prog w A env R) s1
      else ∃ m, m < n ∧ I m s1) (errs prog w A env R) s)
    (n : Nat) (h : I n s) : codeAny (model prog w) A (.compLoop (two kx vx ta ia tb ib fa fb sc pos) 1 it (.ref D) env) R s := by
  refine codeAny_loop rfl I (fun n s hI => wpAny_noted ?_) n h
  have key := turn n s hI
  unfold Turned at key
  show wpAny _ A (compTurn (two kx vx ta ia tb ib fa fb sc pos) 1 it (.ref D) env) _ _ s
  rw [turnB]
  refine wpAny_bind (wpAny_standAt (wpAny_bind (wpAny_mono key ?_ fun _ _ z => z)))
  rintro (_ | u) s1 k1
  · exact wpAny_pure k1
  · refine wpAny_bind (wpAny_mono k1 (fun _ s2 k2 => wpAny_bind (wpAny_mono k2 (fun _ s3 k3 => wpAny_bind (wpAny_mono k3 ?_ fun _ _ z => z)) fun _ _ z => z)) fun _ _ z => z)
    rintro (_ | _) s4 k4
    · exact wpAny_pure ⟨rfl, k4⟩
    · refine wpAny_bind (wpAny_bind (wpAny_mono k4 (fun a s5 k5 => ?_) fun _ _ z => z))
      refine wpAny_bind (wpAny_holding (wpAny_mono k5 (fun b s6 k6 => ?_) fun _ _ z => z))
      exact wpAny_bind (wpAny_standAt (wpAny_holding (wpAny_mono k6 (fun _ s7 k7 => wpAny_pure ⟨rfl, k7⟩) fun _ _ z => z)))
theorem startB (h0 : codeAny (model prog w) A (.compLoop (two kx vx ta ia tb ib fa fb sc pos) 1 it (.ref D) env) R s)
    (h1 : wpAny (model prog w) A (pyIter it) (fun j s' => codeAny (model prog w) A (.compLoop (two kx vx ta ia tb ib fa fb sc pos) 1 j (.ref D) env) R s') (errs prog w A env R) s) :
    codeAny (model prog w) A (.compStart (two kx vx ta ia tb ib fa fb sc pos) 1 it (.ref D) env) R s := by
  refine codeAny_of_tree (wpAny_notedAt (?_ : wpAny _ _ (compStart (two kx vx ta ia tb ib fa fb sc pos) 1 it (.ref D) env) _ _ s))
  unfold compStart
  show wpAny _ _ (ask >>= _) _ _ s
  refine wpAny_bind (wpAny_askSetting (wpAny_ite ?_))
  split
  · first
      | exact wpAny_pure ⟨rfl, h0⟩
      | exact wpAny_bind (wpAny_pure (wpAny_pure ⟨rfl, h0⟩))
  · refine wpAny_bind (wpAny_rule ?_)
    show wpAny _ _ (standAt ib.pos >>= _) _ _ s
    exact wpAny_bind (wpAny_standAt (wpAny_bind (wpAny_mono h1 (fun j s' h' => wpAny_pure ⟨rfl, h'⟩) fun _ _ z => z)))
end
section
variable {Y : Cx} {pins : List (Addr × Obj)} {σ : L2.St} {H : Hp} {s : Shared} {tg : Expr} {J : It} {fp : List Addr} {it : Addr} {tn : Nat → Heap → Prop}
/-- an item comes: stored and tested, the walk's objects held meanwhile -/
theorem clause {g : TG} {tt : TT} {fs : List Expr} {i : Nat} {C : L2.St → Prop} {Z : L2.St → Bool → Hp → Prop} {stop : Shared → Prop} {k : Bool → Shared → Prop} {E : Value → Shared → Prop}
    (quiet : Y.xe = fun _ _ => False) (hc : Y.calm = true) (T : Turn Y.prog Y.w Y.K tg J fp it tn) (pg : PG Y tg g) (pt : PTs Y fs tt) (I : L2.Inv Y pins σ H s)
    (free : ∀ {H' : Hp}, (∀ b ∈ fp, H' b = none) → ∀ b ∈ fp, FpOk Y pins H' b) (none0 : ∀ b ∈ fp, H b = none) (st : tn i s.heap) (go : J.go i H)
    (step : ∀ x H', J.yld i H x H' → g x σ H' fun σ2 H2 => C σ2 ∧ tt σ2 H2 (Z σ2))
    (next : ∀ {s1 s2 : Shared} {σ2 : L2.St} {b : Bool} {H2 : Hp}, tn (i + 1) s1.heap → C σ2 → L2.Inv Y (pins ++ pinsAt fp s1.heap) σ2 H2 s2 → Z σ2 b H2 → k b s2) :
    Turned (model Y.prog Y.w) Y.A Y.env tg (.ref it) fs stop k E s := by
  unfold Turned
  refine thnF (T.item Y rfl rfl rfl hc i pins s σ H (fun _ _ => False) I (free none0) st go) ?_
  rintro _ s1 ⟨u, rfl, h1⟩
  refine thnF h1 ?_
  rintro _ s2 ⟨x, H2, I2, rx, yx, st2, n2⟩
  have held := I2.pinned (free n2) (T.obj _ _ st2)
  have run1 := pg.run _ s2 _ H2 x u _ held rx (step x H2 yx)
  rw [quiet] at run1
  refine thnF run1 ?_
  rintro _ s3 ⟨σ3, H3, I3, c3, q3⟩
  have run2 := pt.run _ s3 σ3 H3 _ I3 q3
  rw [quiet] at run2
  refine thnF run2 ?_
  rintro b s4 ⟨H4, I4, q4⟩
  exact next st2 c3 I4 q4
/-- behind the turn the walk's objects stand as they did -/
theorem walk_stays {i : Nat} {h : Heap} (T : Turn Y.prog Y.w Y.K tg J fp it tn) (st : tn i h) (I : L2.Inv Y (pins ++ pinsAt fp h) σ H s) : tn i s.heap ∧ ∀ b ∈ fp, H b = none := by
  have each : ∀ b ∈ fp, ∀ o, h.get? b = some o → s.heap.get? b = some o ∧ H b = none := fun b hb o e => by
    have z := I.pin (b, o) (List.mem_append_right _ (List.mem_append_right _ (mem_pinsAt hb e)))
    exact ⟨z.1, z.2.1⟩
  refine ⟨T.keep i h s.heap st fun b hb o e => (each b hb o e).1, fun b hb => ?_⟩
  obtain ⟨o, e, _⟩ := T.obj i h st b hb
  exact (each b hb o e).2
end
section
variable {X : Cx}
/-- the second clause: its walk, in each turn of it a pair put -/
def InnD (gb : TG) (ttb : TT) (tk tv : TE) (vs1 : List Nat) (D : Addr) (σ2 : L2.St) (Nx : Hp → Prop) (J1 : It) (H4 : Hp) : Prop :=
  ∃ W1 : Nat → Nat → Hp → Prop, (∃ m, W1 0 m H4) ∧ ∀ j k H, W1 j k H → (J1.stop j H ∧ Nx H) ∨ (J1.go j H ∧ ∃ Nx1 : Hp → Prop, (∀ H', Nx1 H' → ∃ k', k' < k ∧ W1 (j + 1) k' H') ∧
    ∀ x H', J1.yld j H x H' → gb x (wipe σ2 vs1) H' fun σ3 H5 => wipe σ3 vs1 = wipe σ2 vs1 ∧ ttb σ3 H5 fun yes H6 =>
      if yes = true then tk σ3 H6 fun y H7 => tv σ3 H7 fun z H8 => ∃ kvs k, y = kV k ∧ H8 D = some (.dK kvs) ∧ kvs.length < sizeLine ∧ Nx1 (upd H8 D (.dK (putK kvs k z))) else Nx1 H6)
/-- what the comprehension asks: the first clause's walk, in each turn the second's; vs: the names of both clauses, vs1: of the second -/
def tDc2 (wa : TI) (ga : TG) (tta : TT) (wb : TI) (gb : TG) (ttb : TT) (tk tv : TE) (vs vs1 : List Nat) : TE := fun σ H Q => wa σ H fun J H1 => ∀ D, H1 D = none →
  ∃ W : Nat → Nat → Hp → Prop, (∃ m, W 0 m (upd H1 D (.dK []))) ∧ ∀ i m H, W i m H → (J.stop i H ∧ Q (.ref D) H) ∨ (J.go i H ∧ ∃ Nx : Hp → Prop, (∀ H', Nx H' → ∃ m', m' < m ∧ W (i + 1) m' H') ∧
    ∀ x H', J.yld i H x H' → ga x (wipe σ vs) H' fun σ2 H2 => wipe σ2 vs = wipe σ vs ∧ tta σ2 H2 fun yes H3 => if yes = true then wb σ2 H3 (InnD gb ttb tk tv vs1 D σ2 Nx) else Nx H3)
/-- the first clause by a walk that is known -/
theorem dc2_it {J : It} {n : Nat} {G : Hp → Prop} {Y : Nat → Hp → V → Hp → Prop} (w : L2.Walk J n G Y) {ga gb : TG} {tta ttb : TT} {wb : TI} {tk tv : TE} {vs vs1 : List Nat} {σ : L2.St} {H1 : Hp} {D : Addr} {Qd : Hp → Prop} (Pv : Nat → Hp → Prop) (h0 : Pv 0 (upd H1 D (.dK []))) (hG : ∀ i H, i ≤ n → Pv i H → G H)
    (hs : ∀ i x H H', i < n → Pv i H → Y i H x H' → ga x (wipe σ vs) H' fun σ2 H2 => wipe σ2 vs = wipe σ vs ∧ tta σ2 H2 fun yes H3 => if yes = true then wb σ2 H3 (InnD gb ttb tk tv vs1 D σ2 (Pv (i + 1))) else Pv (i + 1) H3) (hd : ∀ H, Pv n H → Qd H) :
    ∃ W : Nat → Nat → Hp → Prop, (∃ m, W 0 m (upd H1 D (.dK []))) ∧ ∀ i m H, W i m H → (J.stop i H ∧ Qd H) ∨ (J.go i H ∧ ∃ Nx : Hp → Prop, (∀ H', Nx H' → ∃ m', m' < m ∧ W (i + 1) m' H') ∧
      ∀ x H', J.yld i H x H' → ga x (wipe σ vs) H' fun σ2 H2 => wipe σ2 vs = wipe σ vs ∧ tta σ2 H2 fun yes H3 => if yes = true then wb σ2 H3 (InnD gb ttb tk tv vs1 D σ2 Nx) else Nx H3) := by
  refine ⟨fun i m H => m + i = n ∧ Pv i H, ⟨n, by simp, h0⟩, fun i m H ⟨e, p⟩ => ?_⟩
  have q := hG i H (by omega) p
  by_cases lt : i < n
  · exact .inr ⟨w.goes i H lt q, Pv (i + 1), fun H' p' => ⟨m - 1, by omega, by omega, p'⟩, fun x H' y => hs i x H H' lt p (w.yields i H x H' lt q y)⟩
  · obtain rfl : i = n := by omega
    exact .inl ⟨w.stops H q, hd H p⟩
/-- the second clause by a walk that is known -/
theorem inn_it {J1 : It} {n : Nat} {G : Hp → Prop} {Y : Nat → Hp → V → Hp → Prop} (w : L2.Walk J1 n G Y) {gb : TG} {ttb : TT} {tk tv : TE} {vs1 : List Nat} {σ2 : L2.St} {H4 : Hp} {D : Addr} {Nx : Hp → Prop} (Pv : Nat → Hp → Prop) (h0 : Pv 0 H4) (hG : ∀ i H, i ≤ n → Pv i H → G H)
    (hs : ∀ j x H H', j < n → Pv j H → Y j H x H' → gb x (wipe σ2 vs1) H' fun σ3 H5 => wipe σ3 vs1 = wipe σ2 vs1 ∧ ttb σ3 H5 fun yes H6 =>
      if yes = true then tk σ3 H6 fun y H7 => tv σ3 H7 fun z H8 => ∃ kvs k, y = kV k ∧ H8 D = some (.dK kvs) ∧ kvs.length < sizeLine ∧ Pv (j + 1) (upd H8 D (.dK (putK kvs k z))) else Pv (j + 1) H6) (hd : ∀ H, Pv n H → Nx H) :
    InnD gb ttb tk tv vs1 D σ2 Nx J1 H4 := by
  refine ⟨fun j k H => k + j = n ∧ Pv j H, ⟨n, by simp, h0⟩, fun j k H ⟨e, p⟩ => ?_⟩
  have q := hG j H (by omega) p
  by_cases lt : j < n
  · exact .inr ⟨w.goes j H lt q, Pv (j + 1), fun H' p' => ⟨k - 1, by omega, by omega, p'⟩, fun x H' y => hs j x H H' lt p (w.yields j H x H' lt q y)⟩
  · obtain rfl : j = n := by omega
    exact .inl ⟨w.stops H q, hd H p⟩
/-- a block of this scope -/
abbrev inBlk (X : Cx) (sc : Scope) (s : Shared) (H : Hp) (C : Addr) (cl : List (Str × Addr)) (fp : List Addr) : Cx := X.blk s H sc (compEnvC sc cl C X.env) fp
theorem pe_dc2 {kx vx ta ia tb ib : Expr} {fa fb : List Expr} {sc : Scope} {own : List (Str × Nat)} {vs1 : List Nat} {pos : Pos} {wa wb : TI} {ga gb : TG} {tta ttb : TT} {tk tv : TE} (hc : X.calm = true) (hN : X.N.Nodup) (hi : PI X ta ia wa) (ok : BlkOk X.N X.env.scope sc own) (hv : ∀ i ∈ vs1, i ∈ own.map (·.2))
    (hga : ∀ s H C cl fp, PG (inBlk X sc s H C cl fp) ta ga) (hta : ∀ s H C cl fp, PTs (inBlk X sc s H C cl fp) fa tta) (hib : ∀ s H C cl fp, PI (inBlk X sc s H C cl fp) tb ib wb) (hgb : ∀ s H C cl fp, PG (inBlk X sc s H C cl fp) tb gb) (htb : ∀ s H C cl fp, PTs (inBlk X sc s H C cl fp) fb ttb)
    (hk : ∀ s H C cl fp, PE (inBlk X sc s H C cl fp) kx tk) (he : ∀ s H C cl fp, PE (inBlk X sc s H C cl fp) vx tv)
    (pa : ∀ x, foldedSetIterable ia X.env x = pure x := by intro _; rfl) (pb : ∀ env x, foldedSetIterable ib env x = pure x := by intro _ _; rfl) :
    PE X (.DictComp kx vx [⟨ta, ia, fa, 0⟩, ⟨tb, ib, fb, 0⟩] sc pos) (tDc2 wa ga tta wb gb ttb tk tv (own.map (·.2)) vs1) := by
  refine ⟨fun pins s σ H Q I h => ?_⟩
  rw [arm_eval_DictComp]
  have clo : ∀ y ∈ sc.names, y.2 = .free → ∃ c, X.env.cells.lookup y.1 = some c := fun y hy e => (ok.free y hy e).elim (fun k => I.ok.has _ (.inl k)) fun k => I.ok.has _ (.inr k)
  refine wpAny_comprehension_free rfl pa (closure_ok clo) ok.kind (fun y hy e => by rw [ok.uniq y hy, e]) (thn (hi.run pins s σ H _ I h) fun _ _ h1 => thn h1 ?_)
  rintro _ s2 ⟨it, fp, tn, J, H2, rfl, I2, T, st2, f2, q⟩
  refine wpAny_newObj_type (newEnv_comp ?_)
  generalize hD : s2.heap.objs.size = D
  have newD : H2 D = none := I2.hok.fresh (Nat.le_of_eq hD)
  obtain ⟨W, ⟨m0, w0⟩, turn⟩ := q D newD
  generalize hs3 : ({ s2 with heap := s2.heap.push { cls := .type "dict", data := .dict #[] } } : Shared) = s3
  have e3 : s3.heap = s2.heap.push { cls := .type "dict", data := .dict #[] } := by rw [← hs3]
  have I3 : L2.Inv X pins σ (upd H2 D (.dK [])) s3 := by
    rw [← hs3]
    exact I2.laid (t' := s2.toks) (fun b o e => Heap.get?_push_of_some _ e) (Nat.le_of_eq hD) (hD ▸ dk_empty s2.heap I2.big)
  have f3 : ∀ b ∈ fp, FpOk X pins (upd H2 D (.dK [])) b ∧ b < s3.heap.objs.size := fun b hb => by
    obtain ⟨o, e, _⟩ := T.obj _ _ st2 b hb
    have small := Heap.lt_size e
    refine ⟨⟨?_, (f2 b hb).2⟩, ?_⟩
    · rw [upd_ne (Nat.ne_of_lt (hD ▸ small))]
      exact (f2 b hb).1
    · rw [e3, Heap.size_push]
      exact Nat.lt_succ_of_lt small
  have st3 : tn 0 s3.heap := T.keep _ _ _ st2 fun b _ o e => by
    rw [e3]
    exact Heap.get?_push_of_some _ e
  have I4 := block_start I3 ok hN f3
  generalize hcl : cellsFrom (s3.heap.objs.size + 1) sc.names (cloFrom X.env.cells sc.names []) = cl at I4
  show codeAny _ _ (.compStart (two kx vx ta ia tb ib fa fb sc pos) 0 (.ref it) (.ref D) (compEnvC sc cl s3.heap.objs.size X.env)) (compPost (model X.prog X.w) X.A X.xe none (EP X pins σ Q) (.ref D) s3.heap.objs.size) { s3 with heap := pushCells (s3.heap.push { cls := .type "dict", data := .dict #[] }) sc.names }
  have none3 : ∀ b ∈ fp, (upd H2 D (.dK [])) b = none := fun b hb => (f3 b hb).1.1
  generalize hH3 : upd H2 D (.dK []) = H3 at I3 I4 w0 none3 f3
  have jga : PG (X.blk s3 H3 sc (compEnvC sc cl s3.heap.objs.size X.env) fp) ta ga := hga s3 H3 s3.heap.objs.size cl fp
  have jta : PTs (X.blk s3 H3 sc (compEnvC sc cl s3.heap.objs.size X.env) fp) fa tta := hta s3 H3 s3.heap.objs.size cl fp
  have jib : PI (X.blk s3 H3 sc (compEnvC sc cl s3.heap.objs.size X.env) fp) tb ib wb := hib s3 H3 s3.heap.objs.size cl fp
  have jgb : PG (X.blk s3 H3 sc (compEnvC sc cl s3.heap.objs.size X.env) fp) tb gb := hgb s3 H3 s3.heap.objs.size cl fp
  have jtb : PTs (X.blk s3 H3 sc (compEnvC sc cl s3.heap.objs.size X.env) fp) fb ttb := htb s3 H3 s3.heap.objs.size cl fp
  have jk : PE (X.blk s3 H3 sc (compEnvC sc cl s3.heap.objs.size X.env) fp) kx tk := hk s3 H3 s3.heap.objs.size cl fp
  have je : PE (X.blk s3 H3 sc (compEnvC sc cl s3.heap.objs.size X.env) fp) vx tv := he s3 H3 s3.heap.objs.size cl fp
  generalize hs4 : ({ s3 with heap := pushCells (s3.heap.push { cls := .type "dict", data := .dict #[] }) sc.names } : Shared) = s4 at I4 ⊢
  have st4 : tn 0 s4.heap := T.keep _ _ _ st3 fun b _ o e => by
    rw [← hs4]
    exact pushCells_keeps _ _ _ _ (Heap.get?_push_of_some _ e)
  generalize hce : compEnvC sc cl s3.heap.objs.size X.env = ce at I4 jga jta jib jgb jtb jk je ⊢
  have cL : ce.locals = s3.heap.objs.size := by
    subst hce
    rfl
  have free0 : ∀ {H' : Hp}, (∀ b ∈ fp, H' b = none) → ∀ b ∈ fp, FpOk (X.blk s3 H3 sc ce fp) [] H' b := fun n b hb =>
    ⟨n b hb, (I4.ok.exf b hb).1, I4.ok.exfs b hb, .inl hb, (I4.ok.exf b hb).2, fun p hp => nomatch (show p ∈ ([] : List (Addr × Obj)) from hp)⟩
  have loop : codeAny (model X.prog X.w) X.A (.compLoop (two kx vx ta ia tb ib fa fb sc pos) 0 (.ref it) (.ref D) ce) (compPost (model X.prog X.w) X.A X.xe none (EP X pins σ Q) (.ref D) s3.heap.objs.size) s4 := by
    refine loopA (pb ce) (fun n s' => ∃ i H', L2.Inv (X.blk s3 H3 sc ce fp) [] (wipe σ (own.map (·.2))) H' s' ∧ tn i s'.heap ∧ (∀ b ∈ fp, H' b = none) ∧ W i n H') ?_ m0 ⟨0, H3, I4, st4, none3, w0⟩
    rintro n s5 ⟨i, H5, I5, st5, n5, w5⟩
    rcases turn i n H5 w5 with ⟨stop, qq⟩ | ⟨go, Nx, hNx, step⟩
    · unfold Turned
      refine thnF (T.done (X.blk s3 H3 sc ce fp) rfl rfl rfl hc i [] s5 _ H5 (fun _ _ => False) I5 (free0 n5) st5 stop) ?_
      rintro _ s6 ⟨rfl, I6⟩
      have I7 : L2.Inv X pins σ H5 s6 := I3.call' (ch := fp) I6.os I6.base I6.hok I6.bare fun b hb => by
        obtain ⟨⟨_, a1, _, a3, a4, a5⟩, _⟩ := f3 b hb
        exact ⟨a3, a1, a4, a5⟩
      have nC : H5 s3.heap.objs.size = none := cL ▸ (show H5 ce.locals = none from I6.free)
      obtain ⟨m, hn, _⟩ := I6.loc
      have hn : s6.heap.Ns s3.heap.objs.size m := cL ▸ (show s6.heap.Ns ce.locals m from hn)
      obtain ⟨g0, g1, _, g3, g4, g5⟩ := I3.fpOk (H' := H5) (Nat.le_refl _) nC
      exact ⟨m, hn, fun h2 sb => ⟨.ref D, H5, I7.turned (t' := s6.toks) (fun b o hb e => (sb.2 b hb).trans e) g0 g1 g3 g4 g5, rfl, qq⟩⟩
    · refine clause (Y := X.blk s3 H3 sc ce fp) rfl hc T jga jta I5 free0 n5 st5 go step ?_
      intro s6 s7 σ7 b H7 st6 w7 I7 q7
      have hl7 : (wipe σ (own.map (·.2))).length = σ7.length := by rw [← w7, wipe_length]
      have fin : ∀ {σ8 : L2.St} {s8 : Shared} {H8 : Hp}, L2.Inv (X.blk s3 H3 sc ce fp) ([] ++ pinsAt fp s6.heap) σ8 H8 s8 → (wipe σ (own.map (·.2))).length = σ8.length → (∀ (j : Nat) v, (wipe σ (own.map (·.2)))[j]? = some (some v) → σ8[j]? = some (some v)) → Nx H8 →
          ∃ m, m < n ∧ ∃ i H', L2.Inv (X.blk s3 H3 sc ce fp) [] (wipe σ (own.map (·.2))) H' s8 ∧ tn i s8.heap ∧ (∀ b ∈ fp, H' b = none) ∧ W i m H' := by
        intro σ8 s8 H8 I8 hl hk nx
        obtain ⟨m', hm, w'⟩ := hNx H8 nx
        obtain ⟨t1, t2⟩ := walk_stays (Y := X.blk s3 H3 sc ce fp) T st6 I8
        exact ⟨m', hm, i + 1, H8, (I8.unpinned (pins := [])).weak hl hk, t1, t2, w'⟩
      cases b with
      | false =>
        rw [if_neg (by decide)] at q7 ⊢
        exact fin I7 hl7 (fun j v e => (wipe_some (w7.symm ▸ e)).1) q7
      | true =>
        rw [if_pos rfl] at q7 ⊢
        refine thnF (jib.run _ s7 σ7 H7 _ I7 q7) fun _ s8 h8 => thnF h8 ?_
        rintro _ s9 ⟨it1, fp1, tn1, J1, H9, rfl, I9, T1, st9, f9, W1, ⟨m1, w1⟩, turn1⟩
        have free1 : ∀ {H' : Hp}, (∀ b ∈ fp1, H' b = none) → ∀ b ∈ fp1, FpOk (X.blk s3 H3 sc ce fp) ([] ++ pinsAt fp s6.heap) H' b := fun n b hb => ⟨n b hb, (f9 b hb).2⟩
        have loop1 : codeAny (model X.prog X.w) X.A (.compLoop (two kx vx ta ia tb ib fa fb sc pos) 1 (.ref it1) (.ref D) ce) (fun r s' => (∃ f, r = .ok f) ∧ ∃ m, m < n ∧ ∃ i H', L2.Inv (X.blk s3 H3 sc ce fp) [] (wipe σ (own.map (·.2))) H' s' ∧ tn i s'.heap ∧ (∀ b ∈ fp, H' b = none) ∧ W i m H') s9 := by
          refine loopB (fun k s' => ∃ j H', L2.Inv (X.blk s3 H3 sc ce fp) ([] ++ pinsAt fp s6.heap) (wipe σ7 vs1) H' s' ∧ tn1 j s'.heap ∧ (∀ b ∈ fp1, H' b = none) ∧ W1 j k H') ?_ m1 ⟨0, H9, I9.weak (wipe_length _ _) (fun j v e => (wipe_some e).1), st9, fun b hb => (f9 b hb).1, w1⟩
          rintro k s10 ⟨j, H10, I10, st10, n10, w10⟩
          rcases turn1 j k H10 w10 with ⟨stop1, nx1⟩ | ⟨go1, Nx1, hNx1, step1⟩
          · unfold Turned
            refine thnF (T1.done (X.blk s3 H3 sc ce fp) rfl rfl rfl hc j _ s10 (wipe σ7 vs1) H10 (fun _ _ => False) I10 (free1 n10) st10 stop1) ?_
            rintro _ s11 ⟨rfl, I11⟩
            refine ⟨⟨_, rfl⟩, fin I11 (hl7.trans (wipe_length σ7 vs1).symm) (fun j v e => ?_) nx1⟩
            obtain ⟨e1, e2⟩ := wipe_some (w7.symm ▸ e)
            rw [wipe_out fun z => e2 (hv j z)]
            exact e1
          · refine clause (Y := X.blk s3 H3 sc ce fp) rfl hc T1 jgb jtb I10 free1 n10 st10 go1 step1 ?_
            intro s11 s12 σ12 b1 H12 st11 w12 I12 q12
            have fin1 : ∀ {s' : Shared} {H' : Hp}, L2.Inv (X.blk s3 H3 sc ce fp) (([] ++ pinsAt fp s6.heap) ++ pinsAt fp1 s11.heap) σ12 H' s' → Nx1 H' → ∃ m, m < k ∧ ∃ j H', L2.Inv (X.blk s3 H3 sc ce fp) ([] ++ pinsAt fp s6.heap) (wipe σ7 vs1) H' s' ∧ tn1 j s'.heap ∧ (∀ b ∈ fp1, H' b = none) ∧ W1 j m H' := by
              intro s' H' I' nx
              obtain ⟨m', hm, w'⟩ := hNx1 H' nx
              obtain ⟨t1, t2⟩ := walk_stays (Y := X.blk s3 H3 sc ce fp) T1 st11 I'
              exact ⟨m', hm, j + 1, H', I'.unpinned.weak (by rw [← w12, wipe_length]) (fun i v e => (wipe_some (w12.symm ▸ e)).1), t1, t2, w'⟩
            cases b1 with
            | false =>
              rw [if_neg (by decide)] at q12 ⊢
              exact fin1 I12 q12
            | true =>
              rw [if_pos rfl] at q12 ⊢
              refine thnF (jk.run _ s12 σ12 H12 _ I12 q12) ?_
              rintro a s13 ⟨ya, H13, I13, ra, q13⟩
              refine thnF (je.run _ s13 σ12 H13 _ I13 q13) ?_
              rintro b s14 ⟨yb, H14, I14, rb, kvs, key, rfl, hD14, small, nx⟩
              exact d_dictSet (X := X.blk s3 H3 sc ce fp) I14 hD14 small ra rb fun s15 I15 => fin1 I15 nx
        exact startB loop1 (T1.self X.A 0 _ _ _ st9 loop1)
  exact codeAny_compStart_dict loop (T.self X.A 0 _ _ _ st4 loop)
end
end Wl

namespace Wl
open PySem PySem.Spec PyProof.Rows L2
/-- the heap keeps all but its lists -/
def Keep (H H' : Hp) : Prop := ∀ p o, (∀ xs, o ≠ .lst xs) → H p = some o → H' p = some o
theorem Keep.refl (H : Hp) : Keep H H := fun _ _ _ h => h
theorem Keep.trans {H H1 H2 : Hp} (a : Keep H H1) (b : Keep H1 H2) : Keep H H2 := fun p o n h => b p o n (a p o n h)
theorem kp_same {H H' : Hp} (s : Same H H') : Keep H H' := fun p o _ h => s p _ h
theorem kp_x {a : Addr} {H H' : Hp} {ys : List V} (s : SameX a H H') (ha : H a = some (.lst ys)) : Keep H H' := fun p o n h => s p _ (fun e => by
  subst e
  rw [ha] at h
  exact n _ (Option.some.inj h).symm) h
theorem kp_upd {a : Addr} {H : Hp} {ys : List V} {o : HO} (ha : H a = some (.lst ys)) : Keep H (upd H a o) := kp_x sameX_upd ha
theorem kp_new {p : Addr} {H : Hp} {o : HO} (hp : H p = none) : Keep H (upd H p o) := kp_same (same_new hp)
theorem Keep.tk {H H' : Hp} (k : Keep H H') : TupKeep H H' := fun p xs h => k p _ (fun ys e => by cases e) h
theorem tk_updD {a : Addr} {H : Hp} {kvs : List (Key × V)} {o : HO} (ha : H a = some (.dK kvs)) : TupKeep H (upd H a o) := fun p xs h => by
  rw [upd_ne (ne_of h ha (by intro z; cases z))]
  exact h
/-- the dict's pairs tell these spots -/
def Ent (H : Hp) (kv : Key × V) (s : Str × Nat × Nat) : Prop := kv.1 = Sum.inr s.1 ∧ ∃ t, kv.2 = .ref t ∧ H t = some (.tup [.int s.2.1, .int s.2.2])
def SpotsAt (H : Hp) (d : Addr) (sp : List (Str × Nat × Nat)) : Prop := ∃ kvs, H d = some (.dK kvs) ∧ Each (Ent H) kvs sp
theorem ent_keep {H H' : Hp} (k : TupKeep H H') {kvs : List (Key × V)} {sp : List (Str × Nat × Nat)} (h : Each (Ent H) kvs sp) : Each (Ent H') kvs sp :=
  Each.mono (fun _ _ ⟨e, t, e2, ht⟩ => ⟨e, t, e2, k _ _ ht⟩) h
theorem SpotsAt.keep {H H' : Hp} {d : Addr} {sp : List (Str × Nat × Nat)} (h : SpotsAt H d sp) (k : Keep H H') : SpotsAt H' d sp := by
  obtain ⟨kvs, h1, h2⟩ := h
  exact ⟨kvs, k _ _ (fun ys e => by cases e) h1, ent_keep k.tk h2⟩
theorem ent_none {H : Hp} {z : Str} : ∀ {kvs : List (Key × V)} {sp : List (Str × Nat × Nat)}, Each (Ent H) kvs sp → z ∉ sp.map (·.1) → valV kvs (Sum.inr z : Key) = none
  | _, _, .nil, _ => rfl
  | _, _, .cons (a := kv) (b := s) r t, h => by
    rw [List.map_cons, List.mem_cons, not_or] at h
    rw [valV_neg (fun e => h.1 (Sum.inr.inj (e.symm.trans r.1)))]
    exact ent_none t h.2
theorem ent_some {H : Hp} {z : Str} {r c : Nat} : ∀ {kvs : List (Key × V)} {sp : List (Str × Nat × Nat)}, Each (Ent H) kvs sp → (sp.map (·.1)).Nodup → (z, r, c) ∈ sp → ∃ t, valV kvs (Sum.inr z : Key) = some (.ref t) ∧ H t = some (.tup [.int r, .int c])
  | _, _, .nil, _, h => by cases h
  | _, _, .cons (a := kv) (b := s) e t, nd, h => by
    obtain ⟨n1, n2⟩ := List.nodup_cons.mp nd
    rcases List.mem_cons.mp h with h | h
    · subst h
      obtain ⟨e1, u, e2, hu⟩ := e
      exact ⟨u, by rw [valV_pos e1, e2], hu⟩
    · have ne : ¬ s.1 = z := fun q => n1 (List.mem_map.mpr ⟨_, h, q.symm⟩)
      obtain ⟨u, e2, hu⟩ := ent_some t n2 h
      exact ⟨u, by rw [valV_neg (fun q => ne (Sum.inr.inj (e.1.symm.trans q)))]; exact e2, hu⟩
theorem ent_keys {H : Hp} : ∀ {kvs : List (Key × V)} {sp : List (Str × Nat × Nat)}, Each (Ent H) kvs sp → kvs.map (fun kv => kV kv.1) = (sp.map (·.1)).map V.str
  | _, _, .nil => rfl
  | _, _, .cons e t => by
    rw [List.map_cons, List.map_cons, List.map_cons, ent_keys t, e.1]
    rfl
section
variable {P : Program} {w : World} {K : PySem.W.Frag} {mg : Str → Option Value} {base : Heap} {f : Addr} {fd : FuncData}
/-! ### wrong_spot of a good grid -/
def spWrong : Sp := fun vs H Q _ => ∃ (L : Addr) (g : Grid) (wd : Nat), vs = [.ref L] ∧ GridAt H L g ∧ Good g wd ∧ ∀ (H' : Hp), Same H H' → Q .non H'
abbrev nWrong : List Str := ["rows", "names", "at", "row", "column", "part"]
theorem scWrong : FnScope nWrong ["rows"] (defScope sWrong) := ⟨rfl, rfl, rfl, by decide +kernel, rfl, by decide +kernel, by decide +kernel⟩
theorem take_snoc {α : Type} {l : List α} {i : Nat} {x : α} (h : l[i]? = some x) : l.take (i + 1) = l.take i ++ [x] := by
  rw [List.take_add_one, h]
  rfl
theorem len_take {α : Type} {l : List α} {i : Nat} {x : α} (h : l[i]? = some x) : (l.take i).length = i := by
  have := (List.getElem?_eq_some_iff.mp h).1
  rw [List.length_take]
  omega
/-- a name isn't among those ahead of it -/
theorem ahead_new {g : Grid} {wd : Nat} (gd : Good g wd) {i j : Nat} {row : Row} {z : Str} (hrow : g[i]? = some row) (ho : row[j]? = some (some z)) : z ∉ (spG 0 (g.take i) ++ spR i 0 (row.take j)).map (·.1) := by
  have hcz : cellAt g i j = some z := cellAt_of hrow ho
  intro hm
  obtain ⟨⟨y, r', c'⟩, hm2, rfl⟩ := List.mem_map.mp hm
  have hlt : (r', c') = (i, j) := by
    have hc2 : cellAt g r' c' = some y := by
      rcases List.mem_append.mp hm2 with h | h
      · obtain ⟨k, row2, e, h1, h2⟩ := (spG_mem _ 0).mp h
        have : r' = k := by omega
        subst this
        rw [List.getElem?_take] at h1
        split at h1
        · exact cellAt_of h1 h2
        · cases h1
      · obtain ⟨e, k, e2, h1⟩ := (spR_mem i _ 0).mp h
        have : c' = k := by omega
        subst this e
        rw [List.getElem?_take] at h1
        split at h1
        · exact cellAt_of hrow h1
        · cases h1
    obtain ⟨h1, h2⟩ := cell_inj gd.nd hc2 hcz
    rw [h1, h2]
  cases hlt
  rcases List.mem_append.mp hm2 with h | h
  · obtain ⟨k, row2, e, h1, h2⟩ := (spG_mem _ 0).mp h
    rw [List.getElem?_take] at h1
    split at h1
    · omega
    · cases h1
  · obtain ⟨e, k, e2, h1⟩ := (spR_mem i _ 0).mp h
    rw [List.getElem?_take] at h1
    split at h1
    · omega
    · cases h1
theorem ahead_len {g : Grid} {wd : Nat} (gd : Good g wd) {i j : Nat} {row : Row} (hrow : g[i]? = some row) : ((spG 0 (g.take i) ++ spR i 0 (row.take j)).map (·.1)).length ≤ 42 := by
  rw [List.map_append, spG_fst, spR_fst, List.length_append]
  have a1 := len_names (g := g.take i) (wd := wd) fun r hr => gd.rows r (List.mem_of_mem_take hr)
  have a2 : (g.take i).length ≤ 6 := by rw [List.length_take]; have := gd.h6; omega
  have a3 : (g.take i).length * wd ≤ 6 * 6 := Nat.mul_le_mul a2 gd.w6
  have a4 : (rnames (row.take j)).length ≤ (row.take j).length := List.length_filterMap_le id _
  have a5 : (row.take j).length ≤ row.length := List.length_take_le' _ _
  have a6 := gd.rows row (List.mem_of_getElem? hrow)
  have a7 := gd.w6
  omega
theorem ahead_snoc {g : Grid} {i j : Nat} {row : Row} {o : Option Str} (ho : row[j]? = some o) : spG 0 (g.take i) ++ spR i 0 (row.take (j + 1)) = spG 0 (g.take i) ++ spR i 0 (row.take j) ++ (o.toList.map fun z => (z, i, j)) := by
  rw [take_snoc ho, spR_snoc, len_take ho, Nat.zero_add, List.append_assoc]
theorem ok_wrong (F : Fun K "wrong_spot" "wrong_spot" sWrong f fd) (B : Bi mg) (hI : Has P w K mg base "is_word" 1 ["thing"] spIsWord) : FnOk P w K mg base CX0 2 f fd ["rows"] spWrong := by
  refine F.ok scWrong (fun vs H Q E h => ?_) (fun cdv A outer s H vs Q E hr h => ?_)
  · obtain ⟨L, g, wd, rfl, _⟩ := h
    rfl
  · obtain ⟨L, g, wd, rfl, hG, gd, q⟩ := h
    refine ⟨_, pss_cons (ps_set (i := 1) scWrong.nd rfl (.inl rfl) (pe_lst pa_nil))
      (pss_cons (ps_for PassesOwn.never rfl (pi_enumT (by rfl) B.enum (pa_cons (pv 0) pa_nil)) (pg_tup rfl (pgs_cons (pg_name (i := 2) scWrong.nd rfl (.inl rfl)) (pgs_cons (pg_name (i := 3) scWrong.nd rfl (.inl rfl)) pgs_nil)))
        (pss_one (ps_for PassesOwn.never rfl (pi_enumT (by rfl) B.enum (pa_cons (pv 3) pa_nil)) (pg_tup rfl (pgs_cons (pg_name (i := 4) scWrong.nd rfl (.inl rfl)) (pgs_cons (pg_name (i := 5) scWrong.nd rfl (.inl rfl)) pgs_nil)))
          (pss_cons (ps_if (pt_cmp (pc_isN (pv 5))) (pss_one ps_continue) pss_nil)
          (pss_cons (ps_if (PW.pt (pw_or (pt_not (pt_val (pe_h hI hr (pa_cons (pv 5) pa_nil)))) (pw_or1 (pt_cmpR op_in_seq (pv 5) (pv 1) (by rfl))))) (pss_one ps_never) pss_nil)
          (pss_one (ps_expr (pe_bm PySem.F.plainAttrs_list PySem.F.slot_list_append PySem.F.type_list_append mt_append (pv 1) (pa_cons (pv 5) pa_nil)))))))))
      (pss_one (ps_ret pe_non))), ?_⟩
    refine ⟨lz, fun d hd => ?_⟩
    obtain ⟨as, hL, hR⟩ := id hG
    have s0 : Same H (upd H d (.lst [])) := same_new hd
    refine ⟨_, rfl, L, _, rfl, .inl (.inl (s0 _ _ hL)), for_it (walk_enumT (K := K) (a := L) (xs := as.map V.ref)) (fun i σ H' => (∃ y2 y3 y4 y5, σ = [some (.ref L), some (.ref d), y2, y3, y4, y5]) ∧ Same H H' ∧ H' d = some (.lst (((spG 0 (g.take i)).map (·.1)).map V.str)))
      ⟨⟨_, _, _, _, rfl⟩, s0, upd_same⟩ (fun i σ H' _ h => .inl (.inl (h.2.1 _ _ hL))) ?_ ?_⟩
    · rintro i x σ H1 H2 hi ⟨⟨y2, y3, y4, y5, rfl⟩, s1, hd1⟩ ⟨T, x1, x2, rfl, hT, rfl, ex1, ex2⟩
      cases ex1
      have ex2 : (as.map V.ref)[i]? = some x2 := ex2
      rw [List.getElem?_map] at ex2
      obtain ⟨p, hp, rfl⟩ := Option.map_eq_some_iff.mp ex2
      obtain ⟨row, hrow, hH⟩ := hR.get hp
      have s2 : Same H1 (upd H1 T (.tup [.int i, .ref p])) := same_new hT
      have hp2 := s2 _ _ (s1 _ _ hH)
      refine ⟨T, _, rfl, .inl (.inl upd_same), rfl, _, _, rfl, _, _, rfl, rfl, ?_⟩
      refine ⟨_, rfl, p, _, rfl, .inl (.inl hp2), for_it (walk_enumT (K := K) (a := p) (xs := row.map oV)) (fun j σ H' => (∃ y4 y5, σ = [some (.ref L), some (.ref d), some (.int i), some (.ref p), y4, y5]) ∧ Same H H' ∧ H' d = some (.lst (((spG 0 (g.take i) ++ spR i 0 (row.take j)).map (·.1)).map V.str)))
        ⟨⟨_, _, rfl⟩, s1.trans s2, by simpa [spR] using s2 _ _ hd1⟩ (fun j σ H' _ h => .inl (.inl (h.2.1 _ _ hH))) ?_ ?_⟩
      · rintro j x σ H3 H4 hj ⟨⟨z4, z5, rfl⟩, s3, hd3⟩ ⟨T2, x1, x2, rfl, hT2, rfl, ex1, ex2⟩
        cases ex1
        have ex2 : (row.map oV)[j]? = some x2 := ex2
        rw [List.getElem?_map] at ex2
        obtain ⟨o, ho, rfl⟩ := Option.map_eq_some_iff.mp ex2
        have s4 : Same H3 (upd H3 T2 (.tup [.int j, oV o])) := same_new hT2
        refine ⟨T2, _, rfl, .inl (.inl upd_same), rfl, _, _, rfl, _, _, rfl, rfl, ?_⟩
        cases o with
        | none =>
          refine ⟨_, rfl, _, rfl, iteT ?_⟩
          refine ⟨⟨_, _, rfl⟩, s3.trans s4, ?_⟩
          rw [ahead_snoc ho]
          simpa using s4 _ _ hd3
        | some z =>
          have hzw : IsWd z := gd.wd z (mem_names.mpr ⟨i, j, cellAt_of hrow ho⟩)
          refine ⟨_, rfl, _, rfl, iteF ?_⟩
          refine ⟨_, rfl, z, rfl, by have := hzw.len; omega, fun H5 s5 => ⟨_, rfl, ?_⟩⟩
          rw [show wdB z = true from hzw]
          have hd5 := s5 _ _ (s4 _ _ hd3)
          have hin : inV (.str z) (((spG 0 (g.take i) ++ spR i 0 (row.take j)).map (·.1)).map V.str) = false := by
            rw [inV_strs]
            exact decide_eq_false (ahead_new gd hrow ho)
          refine iteF ⟨_, rfl, _, rfl, d, _, rfl, .inl (.inl (.inl hd5)), rfl, flat_strs _, false, ?_, ?_⟩
          · exact congrArg V.bl hin
          refine iteF ⟨_, rfl, .inl ⟨rfl, _, .inl (.inl hd5)⟩, _, rfl, d, _, _, rfl, rfl, hd5, ?_, ?_⟩
          · rw [List.length_map]
            exact small1000 (by have := ahead_len gd hrow (j := j); omega)
          · refine ⟨⟨_, _, rfl⟩, same_mut ((s3.trans s4).trans s5) hd, ?_⟩
            rw [upd_same, ahead_snoc ho]
            simp [oV]
      · rintro σ H3 ⟨⟨z4, z5, rfl⟩, s3, hd3⟩
        refine ⟨⟨_, _, _, _, rfl⟩, s3, ?_⟩
        rw [List.length_map, List.take_length] at hd3
        rw [take_snoc hrow, spG_snoc, len_take hrow, Nat.zero_add]
        exact hd3
    · rintro σ H3 ⟨⟨y2, y3, y4, y5, rfl⟩, s3, hd3⟩
      exact q H3 s3
/-! ### spots_in of a good grid -/
def spSpotsIn : Sp := fun vs H Q _ => ∃ (L : Addr) (g : Grid) (wd : Nat), vs = [.ref L] ∧ GridAt H L g ∧ Good g wd ∧
  ∀ (d : Addr) (H' : Hp), H d = none → Same H H' → SpotsAt H' d (spG 0 g) → Q (.ref d) H'
abbrev nSpotsIn : List Str := ["rows", "at", "row", "column", "part"]
theorem scSpotsIn : FnScope nSpotsIn ["rows"] (defScope sSpotsIn) := ⟨rfl, rfl, rfl, by decide +kernel, rfl, by decide +kernel, by decide +kernel⟩
theorem ok_spotsin (F : Fun K "spots_in" "spots_in" sSpotsIn f fd) (B : Bi mg) : FnOk P w K mg base CX0 1 f fd ["rows"] spSpotsIn := by
  refine F.ok scSpotsIn (fun vs H Q E h => ?_) (fun cdv A outer s H vs Q E hr h => ?_)
  · obtain ⟨L, g, wd, rfl, _⟩ := h
    rfl
  · obtain ⟨L, g, wd, rfl, hG, gd, q⟩ := h
    refine ⟨_, pss_one (ps_ret (pe_dc2 (own := [("at", 1), ("row", 2), ("column", 3), ("part", 4)]) (vs1 := [3, 4]) (ga := gTup K 2 (gCons (gName 1) (gCons (gName 2) gNil))) (tta := tYes) (wb := iEnumT K (tCons (tVar 2) tNil)) (gb := gTup K 2 (gCons (gName 3) (gCons (gName 4) gNil))) (ttb := tB (tNotN (tVar 4))) (tk := tVar 4) (tv := tTup (tCons (tVar 1) (tCons (tVar 3) tNil))) rfl scSpotsIn.nd (pi_enumT (by rfl) B.enum (pa_cons (pv 0) pa_nil)) (blkOk_by (N := nSpotsIn) (sc := defScope sSpotsIn) (by decide +kernel)) (by decide)
      (fun _ _ _ _ _ => pg_tup rfl (pgs_cons (pg_name (i := 1) scSpotsIn.nd rfl (.inl rfl)) (pgs_cons (pg_name (i := 2) scSpotsIn.nd rfl (.inl rfl)) pgs_nil))) (fun _ _ _ _ _ => pts_nil)
      (fun _ _ _ _ _ => pi_enumT (by rfl) B.enum (pa_cons (pv 2) pa_nil)) (fun _ _ _ _ _ => pg_tup rfl (pgs_cons (pg_name (i := 3) scSpotsIn.nd rfl (.inl rfl)) (pgs_cons (pg_name (i := 4) scSpotsIn.nd rfl (.inl rfl)) pgs_nil)))
      (fun _ _ _ _ _ => pts_one (pt_cmp (pc_notN (pv 4)))) (fun _ _ _ _ _ => pv 4) (fun _ _ _ _ _ => pe_tup (pa_cons (pv 1) (pa_cons (pv 3) pa_nil))))), ?_⟩
    obtain ⟨as, hL, hR⟩ := id hG
    refine ⟨_, rfl, L, _, rfl, .inl (.inl hL), fun d hd => dc2_it (walk_enumT (K := K) (a := L) (xs := as.map V.ref)) (fun i H' => Same H H' ∧ SpotsAt H' d (spG 0 (g.take i))) ⟨same_new hd, [], upd_same, .nil⟩ (fun i H' _ h => .inl (.inl (h.1 _ _ hL))) ?_ ?_⟩
    · rintro i x H1 H2 hi ⟨s1, kvs1, hd1, e1⟩ ⟨T, x1, x2, rfl, hT, rfl, ex1, ex2⟩
      cases ex1
      have ex2 : (as.map V.ref)[i]? = some x2 := ex2
      rw [List.getElem?_map] at ex2
      obtain ⟨p, hp, rfl⟩ := Option.map_eq_some_iff.mp ex2
      obtain ⟨row, hrow, hH⟩ := hR.get hp
      have s2 : Same H1 (upd H1 T (.tup [.int i, .ref p])) := same_new hT
      have hp2 := s2 _ _ (s1 _ _ hH)
      refine ⟨T, _, rfl, .inl (.inl upd_same), rfl, _, _, rfl, _, _, rfl, rfl, rfl, yes_it ?_⟩
      refine ⟨_, rfl, p, _, rfl, .inl (.inl hp2), inn_it (walk_enumT (K := K) (a := p) (xs := row.map oV)) (fun j H' => Same H H' ∧ SpotsAt H' d (spG 0 (g.take i) ++ spR i 0 (row.take j)))
        ⟨s1.trans s2, kvs1, s2 _ _ hd1, by simpa [spR] using ent_keep (tk_same s2) e1⟩ (fun j H' _ h => .inl (.inl (h.1 _ _ hH))) ?_ ?_⟩
      · rintro j x H3 H4 hj ⟨s3, kvs3, hd3, e3⟩ ⟨T2, x1, x2, rfl, hT2, rfl, ex1, ex2⟩
        cases ex1
        have ex2 : (row.map oV)[j]? = some x2 := ex2
        rw [List.getElem?_map] at ex2
        obtain ⟨o, ho, rfl⟩ := Option.map_eq_some_iff.mp ex2
        have s4 : Same H3 (upd H3 T2 (.tup [.int j, oV o])) := same_new hT2
        refine ⟨T2, _, rfl, .inl (.inl upd_same), rfl, _, _, rfl, _, _, rfl, rfl, rfl, ?_⟩
        cases o with
        | none =>
          refine ⟨_, rfl, _, rfl, iteF ?_⟩
          refine ⟨s3.trans s4, kvs3, s4 _ _ hd3, ?_⟩
          rw [ahead_snoc ho]
          simpa using ent_keep (tk_same s4) e3
        | some z =>
          refine ⟨_, rfl, _, rfl, iteT ?_⟩
          have hd5 := s4 _ _ hd3
          have e5 := ent_keep (tk_same s4) e3
          have hv : valV kvs3 (Sum.inr z : Key) = none := ent_none e5 (ahead_new gd hrow ho)
          refine ⟨_, rfl, _, rfl, _, rfl, lz, fun T6 hT6 => ?_⟩
          have hd6 := (same_new (o := .tup [.int i, .int j]) hT6) _ _ hd5
          refine ⟨kvs3, Sum.inr z, rfl, hd6, ?_, same_mut ((s3.trans s4).trans (same_new hT6)) hd, kvs3 ++ [(Sum.inr z, .ref T6)], ?_, ?_⟩
          · have h1 := e5.length
            have h2 := ahead_len gd hrow (j := j)
            rw [List.length_map] at h2
            exact small1000 (by omega)
          · rw [putK_new _ hv, upd_same]
          · rw [ahead_snoc ho]
            refine Each.append (ent_keep (tk_updD hd6) (ent_keep (tk_new hT6) e5)) (.cons ⟨rfl, T6, rfl, ?_⟩ .nil)
            exact (tk_updD hd6) _ _ upd_same
      · rintro H3 ⟨s3, kvs3, hd3, e3⟩
        refine ⟨s3, kvs3, hd3, ?_⟩
        rw [List.length_map, List.take_length] at e3
        rw [take_snoc hrow, spG_snoc, len_take hrow, Nat.zero_add]
        exact e3
    · rintro H3 ⟨s3, kvs3, hd3, e3⟩
      have hlen : (as.map V.ref).length = g.length := by rw [List.length_map, hR.length]
      rw [hlen, List.take_length] at e3
      exact q d H3 hd s3 ⟨kvs3, hd3, e3⟩
/-! ### checked_spots of a good grid -/
def spSpots : Sp := fun vs H Q _ => ∃ (L : Addr) (g : Grid) (wd : Nat), vs = [.ref L] ∧ GridAt H L g ∧ Good g wd ∧
  ∀ (d : Addr) (H' : Hp), H d = none → Same H H' → SpotsAt H' d (spG 0 g) → Q (.ref d) H'
abbrev nSpots : List Str := ["rows", "wrong", "spots"]
theorem scSpots : FnScope nSpots ["rows"] (defScope sSpots) := ⟨rfl, rfl, rfl, by decide +kernel, rfl, by decide +kernel, by decide +kernel⟩
theorem ok_spots (F : Fun K "checked_spots" "checked_spots" sSpots f fd) (hA : Has P w K mg base "are_rows" 1 ["thing"] spAreRows) (hW : Has P w K mg base "wrong_spot" 2 ["rows"] spWrong) (hS : Has P w K mg base "spots_in" 1 ["rows"] spSpotsIn) :
    FnOk P w K mg base CX0 3 f fd ["rows"] spSpots := by
  refine F.ok scSpots (fun vs H Q E h => ?_) (fun cdv A outer s H vs Q E hr h => ?_)
  · obtain ⟨L, g, wd, rfl, _⟩ := h
    rfl
  · obtain ⟨L, g, wd, rfl, hG, gd, q⟩ := h
    refine ⟨_, pss_cons (ps_if (pt_not (pt_val (pe_h hA hr (pa_cons (pv 0) pa_nil)))) (pss_one ps_never) pss_nil)
      (pss_cons (ps_set (i := 1) scSpots.nd rfl (.inl rfl) (pe_h hW hr (pa_cons (pv 0) pa_nil)))
      (pss_cons (ps_if (pt_cmp (pc_notN (pv 1))) (pss_one ps_never) pss_nil)
      (pss_cons (ps_set (i := 2) scSpots.nd rfl (.inl rfl) (pe_h hS hr (pa_cons (pv 0) pa_nil)))
      (pss_cons (ps_if (pt_not (pt_truth (pv 2) (by intro _; rfl))) (pss_one ps_never) pss_nil)
      (pss_one (ps_ret (pv 2))))))), ?_⟩
    refine ⟨_, rfl, L, g, wd, rfl, hG, gd, true, rfl, iteF ?_⟩
    refine ⟨_, rfl, L, g, wd, rfl, hG, gd, fun H1 s1 => ⟨_, rfl, _, rfl, iteF ?_⟩⟩
    have hG1 : GridAt H1 L g := hG.keep (tk_same s1)
    refine ⟨_, rfl, L, g, wd, rfl, hG1, gd, fun d H2 hd s2 ⟨kvs, hk, he⟩ => ?_⟩
    have hne : kvs.isEmpty = false := by
      cases kvs with
      | nil =>
        have h1 := he.length
        have h2 : ((spG 0 g).map (·.1)).length = (names g).length := by rw [spG_fst]
        rw [List.length_map] at h2
        have h3 : names g = [] := List.eq_nil_of_length_eq_zero (by rw [← h2, ← h1]; rfl)
        exact absurd h3 gd.ne
      | cons a r => rfl
    refine ⟨_, rfl, _, .inr (.inr ⟨kvs, hk, rfl⟩), ?_⟩
    rw [hne]
    refine iteF ⟨_, rfl, q d H2 (s1.free hd) (s1.trans s2) ⟨kvs, hk, he⟩⟩
end
end Wl





namespace Wl
open PySem PySem.Spec PyProof.Rows L2
section
variable {J : It} {ys : List V} {G : Hp → Prop} {slot slot1 : Nat} {wi1 : TI} {tt1 : TT} {te : TE} {vs vs1 : List Nat} {σ : L2.St} {H1 : Hp} {D : Addr} {Qd : Hp → Prop}
theorem flat_take_snoc {α β : Type} {f : α → List β} {ys : List α} {i : Nat} {x : α} (h : ys[i]? = some x) : (ys.take (i + 1)).flatMap f = (ys.take i).flatMap f ++ f x := by
  rw [List.take_add_one, h, List.flatMap_append]
  simp
/-- [e for x in ys for y in inn x if t]: the heap only growing -/
theorem lc2_rel (w : L2.Walk J ys.length G (YAt ys)) (hD : H1 D = none) (inn : V → List V) (keep : V → V → Bool) (R : V → V → V → Hp → Prop) (N : Nat)
    (hG : ∀ H, Same H1 H → G H)
    (hw : ∀ x, wipe ((wipe σ vs).set slot (some x)) vs = wipe σ vs)
    (hw1 : ∀ x y, wipe ((wipe ((wipe σ vs).set slot (some x)) vs1).set slot1 (some y)) vs1 = wipe ((wipe σ vs).set slot (some x)) vs1)
    (hi : ∀ (x : V) (H : Hp) (acc : List V), x ∈ ys → Same H1 H → H D = some (.lst acc) → ∀ Rr : It → Hp → Prop,
      (∀ J1 H4 G1, Same H H4 → L2.Walk J1 (inn x).length G1 (YAt (inn x)) → (∀ H', SameX D H4 H' → G1 H') → Rr J1 H4) → wi1 ((wipe σ vs).set slot (some x)) H Rr)
    (ht : ∀ (x y : V) (H : Hp), x ∈ ys → y ∈ inn x → Same H1 H → ∀ Q : Bool → Hp → Prop, Q (keep x y) H → tt1 ((wipe ((wipe σ vs).set slot (some x)) vs1).set slot1 (some y)) H Q)
    (he : ∀ (x y : V) (H : Hp), x ∈ ys → y ∈ inn x → keep x y = true → Same H1 H → ∀ Q : VK, (∀ z H', Same H H' → R x y z H' → Q z H') → te ((wipe ((wipe σ vs).set slot (some x)) vs1).set slot1 (some y)) H Q)
    (hR : ∀ x y z H H' acc, H D = some (.lst acc) → SameX D H H' → R x y z H → R x y z H')
    (hl : ∀ x ∈ ys, (inn x).length ≤ N) (hn : ys.length * N < sizeLine)
    (hd : ∀ zs H, Same H1 H → H D = some (.lst zs) → Each (fun (xy : V × V) z => R xy.1 xy.2 z H) (ys.flatMap fun x => ((inn x).filter (keep x)).map fun y => (x, y)) zs → Qd H) :
    ∃ W : Nat → Nat → Hp → Prop, (∃ m, W 0 m (upd H1 D (.lst []))) ∧ ∀ i m H, W i m H →
      (J.stop i H ∧ Qd H) ∨ (J.go i H ∧ ∃ Nx : Hp → Prop, (∀ H', Nx H' → ∃ m', m' < m ∧ W (i + 1) m' H') ∧ ∀ x H', J.yld i H x H' → gName slot x (wipe σ vs) H' fun σ2 H2 => wipe σ2 vs = wipe σ vs ∧ tYes σ2 H2 fun b H3 =>
        if b = true then wi1 σ2 H3 fun J1 H4 => ∃ W1 : Nat → Nat → Hp → Prop, (∃ m, W1 0 m H4) ∧ ∀ j k H, W1 j k H →
          (J1.stop j H ∧ Nx H) ∨ (J1.go j H ∧ ∃ Nx1 : Hp → Prop, (∀ H', Nx1 H' → ∃ k', k' < k ∧ W1 (j + 1) k' H') ∧ ∀ x H', J1.yld j H x H' → gName slot1 x (wipe σ2 vs1) H' fun σ3 H5 => wipe σ3 vs1 = wipe σ2 vs1 ∧ tt1 σ3 H5 fun b H6 =>
            if b = true then te σ3 H6 fun y H7 => ∃ acc, H7 D = some (.lst acc) ∧ acc.length < sizeLine ∧ Nx1 (upd H7 D (.lst (acc ++ [y]))) else Nx1 H6)
        else Nx H3) := by
  have cnt : ∀ (l : List V), (∀ x ∈ l, (inn x).length ≤ N) → (l.flatMap fun x => ((inn x).filter (keep x)).map fun y => (x, y)).length ≤ l.length * N := by
    intro l
    induction l with
    | nil => intro _; simp
    | cons x r ih =>
      intro h
      rw [List.flatMap_cons, List.length_append, List.length_map, List.length_cons, Nat.succ_mul]
      have h1 : ((inn x).filter (keep x)).length ≤ (inn x).length := List.length_filter_le _ _
      have h2 := h x List.mem_cons_self
      have h3 := ih fun y hy => h y (List.mem_cons_of_mem _ hy)
      omega
  refine ⟨fun i m H => m = ys.length - i ∧ i ≤ ys.length ∧ ∃ zs, Same H1 H ∧ H D = some (.lst zs) ∧ Each (fun (xy : V × V) z => R xy.1 xy.2 z H) ((ys.take i).flatMap fun x => ((inn x).filter (keep x)).map fun y => (x, y)) zs,
    ⟨ys.length, by simp, Nat.zero_le _, [], same_new hD, upd_same, by simpa using Each.nil⟩, ?_⟩
  rintro i m H ⟨rfl, hi0, zs, s, hz, ez⟩
  by_cases hlt : i < ys.length
  · refine .inr ⟨w.goes i H hlt (hG H s), fun H' => ∃ zs, Same H1 H' ∧ H' D = some (.lst zs) ∧ Each (fun (xy : V × V) z => R xy.1 xy.2 z H') ((ys.take (i + 1)).flatMap fun x => ((inn x).filter (keep x)).map fun y => (x, y)) zs,
      fun H' h => ⟨ys.length - (i + 1), by omega, rfl, hlt, h⟩, fun x H' y => ?_⟩
    obtain ⟨rfl, hx⟩ := w.yields i H x H' hlt (hG H s) y
    have hm : x ∈ ys := List.mem_of_getElem? hx
    have hf := flat_take_snoc (f := fun x => ((inn x).filter (keep x)).map fun y => (x, y)) hx
    refine ⟨hw x, yes_it ?_⟩
    refine hi x _ zs hm s hz _ fun J1 H4 G1 s4 w1 hG1 => ?_
    have hz4 := s4 _ _ hz
    refine ⟨fun j k H => k = (inn x).length - j ∧ j ≤ (inn x).length ∧ ∃ ws, Same H1 H ∧ SameX D H4 H ∧ H D = some (.lst ws) ∧ Each (fun (xy : V × V) z => R xy.1 xy.2 z H) (((ys.take i).flatMap fun x => ((inn x).filter (keep x)).map fun y => (x, y)) ++ (((inn x).take j).filter (keep x)).map fun y => (x, y)) ws,
      ⟨(inn x).length, by simp, Nat.zero_le _, zs, s.trans s4, SameX.refl _ _, hz4, ?_⟩, ?_⟩
    · simpa using ez.mono fun a b r => hR _ _ _ _ _ _ hz (sx s4) r
    · rintro j k H5 ⟨rfl, hj0, ws, s5, x5, hz5, ez5⟩
      by_cases hjt : j < (inn x).length
      · refine .inr ⟨w1.goes j H5 hjt (hG1 H5 x5), fun H' => ∃ ws, Same H1 H' ∧ SameX D H4 H' ∧ H' D = some (.lst ws) ∧ Each (fun (xy : V × V) z => R xy.1 xy.2 z H') (((ys.take i).flatMap fun x => ((inn x).filter (keep x)).map fun y => (x, y)) ++ (((inn x).take (j + 1)).filter (keep x)).map fun y => (x, y)) ws,
          fun H' h => ⟨(inn x).length - (j + 1), by omega, rfl, hjt, h⟩, fun y H' yy => ?_⟩
        obtain ⟨rfl, hy⟩ := w1.yields j H5 y H' hjt (hG1 H5 x5) yy
        have hym : y ∈ inn x := List.mem_of_getElem? hy
        have hf2 := filter_take_snoc (p := keep x) hy
        refine ⟨hw1 x y, ht x y _ hm hym s5 _ ?_⟩
        refine ite_b (fun e => ?_) (fun e => ?_)
        · refine he x y _ hm hym e s5 _ fun z H6 s6 r6 => ⟨ws, s6 _ _ hz5, ?_, ws ++ [z], same_mut (s5.trans s6) hD, ?_, upd_same, ?_⟩
          · have h1 := ez5.length
            have h2 := cnt (ys.take i) fun x hx => hl x (List.mem_of_mem_take hx)
            have h3 : (((inn x).take j).filter (keep x)).length ≤ N := by
              have a1 : (((inn x).take j).filter (keep x)).length ≤ ((inn x).take j).length := List.length_filter_le _ _
              have a2 : ((inn x).take j).length ≤ (inn x).length := List.length_take_le' _ _
              have a3 := hl x hm
              omega
            rw [List.length_append, List.length_map] at h1
            have h4 : (ys.take i).length * N + N ≤ ys.length * N := by
              rw [← Nat.succ_mul]
              refine Nat.mul_le_mul_right N ?_
              rw [List.length_take]
              omega
            omega
          · exact (x5.trans (sx s6)).trans sameX_upd
          · rw [hf2, if_pos e, List.map_append, ← List.append_assoc]
            refine Each.append (ez5.mono fun a b r => ?_) (.cons ?_ .nil)
            · exact hR _ _ _ _ _ _ hz5 (fun b o n h => by rw [upd_ne n]; exact s6 _ _ h) r
            · exact hR _ _ _ _ _ _ (s6 _ _ hz5) sameX_upd r6
        · refine ⟨ws, s5, x5, hz5, ?_⟩
          rw [hf2, if_neg (by rw [e]; decide), List.append_nil]
          exact ez5
      · have e : j = (inn x).length := by omega
        subst e
        refine .inl ⟨w1.stops H5 (hG1 H5 x5), ws, s5, hz5, ?_⟩
        rw [List.take_length] at ez5
        rw [hf]
        exact ez5
  · have e : i = ys.length := by omega
    subst e
    rw [List.take_length] at ez
    exact .inl ⟨w.stops H (hG H s), hd zs H s hz ez⟩
end
end Wl

namespace Wl
open PySem PySem.Spec PyProof.Rows L2
abbrev sCls : Stmt := topS 31
abbrev sInit : Stmt := inClass sCls 0
abbrev sCheck : Stmt := inClass sCls 1
structure Txt (K : PySem.W.Frag) (mg : Str → Option Value) (C : Addr) : Prop where
  cl : Cls K C
  nS : NoAttr K C "spots"
  nR : NoAttr K C "rows"
  mgC : mg "Land" = some (.ref C)
theorem srne : ¬ (("spots" : Str) = "rows") := by decide +kernel
def lf (d L : Addr) : List (Str × V) := putF "rows" (.ref L) (putF "spots" (.ref d) [])
theorem lf_spots (d L : Addr) : (lf d L).lookup ("spots" : Str) = some (.ref d) := by
  unfold lf
  rw [lookup_putF, if_neg srne, lookup_putF, if_pos rfl]
theorem lf_rows (d L : Addr) : (lf d L).lookup ("rows" : Str) = some (.ref L) := by
  unfold lf
  rw [lookup_putF, if_pos rfl]
theorem lf_no (d L : Addr) {m : Str} (h1 : ¬ m = "rows") (h2 : ¬ m = "spots") : (lf d L).lookup m = none := by
  unfold lf
  rw [lookup_putF, if_neg h1, lookup_putF, if_neg h2]
  rfl
def LandAt (C : Addr) (H : Hp) (p L : Addr) (g : Grid) : Prop := ∃ d dx, H p = some (.ins C dx (lf d L)) ∧ SpotsAt H d (spG 0 g) ∧ GridAt H L g
theorem LandAt.keep {C p L : Addr} {H H' : Hp} {g : Grid} (h : LandAt C H p L g) (k : Keep H H') : LandAt C H' p L g := by
  obtain ⟨d, dx, h1, h2, h3⟩ := h
  exact ⟨d, dx, k _ _ (fun xs e => by cases e) h1, h2.keep k, h3.keep k.tk⟩
theorem tk_updI {a : Addr} {H : Hp} {C dx : Addr} {fs : List (Str × V)} {o : HO} (ha : H a = some (.ins C dx fs)) : TupKeep H (upd H a o) := fun p xs h => by
  rw [upd_ne (ne_of h ha (by intro z; cases z))]
  exact h
theorem spots_updI {a d : Addr} {H : Hp} {C dx : Addr} {fs : List (Str × V)} {o : HO} {sp : List (Str × Nat × Nat)} (ha : H a = some (.ins C dx fs)) (h : SpotsAt H d sp) : SpotsAt (upd H a o) d sp := by
  obtain ⟨kvs, h1, h2⟩ := h
  exact ⟨kvs, by rw [upd_ne (ne_of h1 ha (by intro z; cases z))]; exact h1, ent_keep (tk_updI ha) h2⟩
section
variable {P : Program} {w : World} {K : PySem.W.Frag} {mg : Str → Option Value} {base : Heap} {f C : Addr} {fd : FuncData}
def spInit (C : Addr) : Sp := fun vs H Q _ => ∃ (p dx L : Addr) (g : Grid) (wd : Nat), vs = [.ref p, .ref L] ∧ H p = some (.ins C dx []) ∧ GridAt H L g ∧ Good g wd ∧
  ∀ (H' : Hp), (∀ b o, b ≠ p → H b = some o → H' b = some o) → LandAt C H' p L g → Q .non H'
theorem scInit : FnScope ["self", "rows"] ["self", "rows"] (defScope sInit) := ⟨rfl, rfl, rfl, by decide +kernel, rfl, by decide +kernel, by decide +kernel⟩
theorem ok_init (F : Fun K "__init__" "Land.__init__" sInit f fd) (T : Txt K mg C) (hS : Has P w K mg base "checked_spots" 3 ["rows"] spSpots) : FnOk P w K mg base CX0 4 f fd ["self", "rows"] (spInit C) := by
  refine F.ok scInit (fun vs H Q E h => ?_) (fun cdv A outer s H vs Q E hr h => ?_)
  · obtain ⟨p, dx, L, g, wd, rfl, _⟩ := h
    rfl
  · obtain ⟨p, dx, L, g, wd, rfl, hp, hG, gd, q⟩ := h
    refine ⟨_, pss_cons (ps_fld (pv 0) (pe_h hS hr (pa_cons (pv 1) pa_nil)) rfl) (pss_one (ps_fld (pv 0) (pv 1) rfl)), ?_⟩
    refine ⟨_, rfl, L, g, wd, rfl, hG, gd, fun d H1 hd s1 sp1 => ?_⟩
    have hp1 := s1 _ _ hp
    refine ⟨_, rfl, p, C, dx, [], rfl, hp1, T.cl, T.nS, (by show 0 < 1000; decide), ?_⟩
    refine ⟨_, rfl, _, rfl, p, C, dx, _, rfl, upd_same, T.cl, T.nR, (by show 1 < 1000; decide), ?_⟩
    refine q _ (fun b o n e => ?_) ⟨d, dx, upd_same, spots_updI upd_same (spots_updI hp1 sp1), ((hG.keep (tk_same s1)).keep (tk_updI hp1)).keep (tk_updI upd_same)⟩
    rw [upd_ne n, upd_ne n]
    exact s1 _ _ e

/-! ### names -/
def sd (z : Str) : V × PyData := (.str z, .str z)
theorem sort_strs (xs : List Str) : ((xs.map sd).mergeSort (PySem.W.dataLe false (·.2))).map (·.1) = (sortS xs).map V.str := by
  have h : (sortS xs).map sd = (xs.map sd).mergeSort (PySem.W.dataLe false (·.2)) := List.map_mergeSort fun a _ b _ => by
    rw [PySem.W.dataLe_eq]
    exact (le_data_str a b).symm
  rw [← h, List.map_map]
  rfl
theorem alike_strs (xs : List Str) : PySem.W.AllAlike ((xs.map sd).map (·.2)) := by
  intro d hd e he
  obtain ⟨b, hb, rfl⟩ := List.mem_map.mp hd
  obtain ⟨x, _, rfl⟩ := List.mem_map.mp hb
  obtain ⟨c, hc, rfl⟩ := List.mem_map.mp he
  obtain ⟨y, _, rfl⟩ := List.mem_map.mp hc
  rfl
theorem sortable_strs (xs : List Str) : PySem.W.Sortable ((xs.map sd).map (·.2)) := .inr fun d hd => by
  obtain ⟨b, hb, rfl⟩ := List.mem_map.mp hd
  obtain ⟨x, _, rfl⟩ := List.mem_map.mp hb
  exact ⟨(fun e => by cases e), (fun ys e => by cases e)⟩
/-- sorted of a list of texts, as a reading -/
theorem sort_reads {H : Hp} {Q : VK} {a : Addr} {xs : List Str} (h : SqL K H a (xs.map V.str)) (q : ∀ p, H p = none → Q (.ref p) (upd H p (.lst ((sortS xs).map V.str)))) : rSortD K [.ref a] H Q := by
  refine ⟨a, xs.map sd, rfl, ?_, ?_, alike_strs xs, sortable_strs xs, ?_, fun p hp => ?_⟩
  · rw [List.map_map]
    exact h
  · intro b hb
    obtain ⟨x, _, rfl⟩ := List.mem_map.mp hb
    exact .str x
  · intro b hb
    obtain ⟨x, _, rfl⟩ := List.mem_map.mp hb
    show PyData.depth (.str x) ≤ 8
    simp [PyData.depth]
  · rw [sort_strs]
    exact q p hp
def spCheck (C : Addr) : Sp := fun vs H Q _ => ∃ (p L : Addr) (g : Grid) (wd : Nat) (z : Str), vs = [.ref p, .str z] ∧ LandAt C H p L g ∧ Good g wd ∧ z ∈ names g ∧ ∀ (H' : Hp), Same H H' → Q .non H'
theorem scCheck : FnScope ["self", "name"] ["self", "name"] (defScope sCheck) := ⟨rfl, rfl, rfl, by decide +kernel, rfl, by decide +kernel, by decide +kernel⟩
theorem ok_check (F : Fun K "check_name" "Land.check_name" sCheck f fd) (T : Txt K mg C) (hI : Has P w K mg base "is_word" 1 ["thing"] spIsWord) : FnOk P w K mg base CX0 2 f fd ["self", "name"] (spCheck C) := by
  refine F.ok scCheck (fun vs H Q E h => ?_) (fun cdv A outer s H vs Q E hr h => ?_)
  · obtain ⟨p, L, g, wd, z, rfl, _⟩ := h
    rfl
  · obtain ⟨p, L, g, wd, z, rfl, hLa, gd, hz, q⟩ := h
    have hu := hu_of hr
    have hzw := gd.wd z hz
    refine ⟨_, pss_one (ps_if (PW.pt (pw_or (pt_not (pt_val (pe_h hI hr (pa_cons (pv 1) pa_nil)))) (pw_or1 (pt_cmp (pc_dnotin hu (pv 1) (pe_fld (pv 0) rfl)))))) (pss_one ps_never) pss_nil), ?_⟩
    refine ⟨_, rfl, z, rfl, by have := hzw.len; omega, fun H1 s1 => ⟨_, rfl, ?_⟩⟩
    rw [show wdB z = true from hzw]
    refine iteF ?_
    obtain ⟨d, dx, hp, ⟨kvs, hd, he⟩, hG⟩ := hLa.keep (kp_same s1)
    obtain ⟨r, c, hc⟩ := mem_names.mp hz
    obtain ⟨t, hv, ht⟩ := ent_some he (by rw [spG_fst]; exact gd.nd) (spG_cell.mpr hc)
    refine ⟨_, rfl, _, rfl, p, C, dx, _, _, rfl, hp, T.cl, T.nS, lf_spots _ _, d, _, rfl, DGet.k (k := Sum.inr z) hd, _, rfl, ?_⟩
    rw [hv]
    exact iteF (q H1 s1)
end
end Wl





namespace Wl
open PySem PySem.Spec PyProof.Rows L2
/-- at most six rows of at most six -/
structure Sized (g : Grid) (wd : Nat) : Prop where
  h6 : g.length ≤ 6
  w6 : wd ≤ 6
  rows : ∀ r ∈ g, r.length = wd
theorem Good.sized {g : Grid} {wd : Nat} (G : Good g wd) : Sized g wd := ⟨G.h6, G.w6, G.rows⟩
section
variable {P : Program} {w : World} {K : PySem.W.Frag} {mg : Str → Option Value} {base : Heap} {f C : Addr} {fd : FuncData}
/-! ### the law's own names -/
def spNames : Sp := fun vs H Q _ => ∃ (L : Addr) (g : Grid) (wd : Nat), vs = [.ref L] ∧ GridAt H L g ∧ Sized g wd ∧
  ∀ (t : Addr) (H' : Hp), H t = none → Same H H' → H' t = some (.lst ((sortS (names g)).map V.str)) → Q (.ref t) H'
abbrev nNames : List Str := ["_law_rows", "_law_found", "_law_row", "_law_name"]
theorem scNames : FnScope nNames ["_law_rows"] (defScope sNames) := ⟨rfl, rfl, rfl, by decide +kernel, rfl, by decide +kernel, by decide +kernel⟩
theorem row_filter (row : Row) : ((row.map oV).filter fun v => !decide (v = .non)).map id = (rnames row).map V.str := by
  rw [List.map_id]
  induction row with
  | nil => rfl
  | cons o r ih =>
    cases o with
    | none => exact ih
    | some z => exact congrArg (V.str z :: ·) ih
theorem names_take {g : Grid} {i : Nat} {row : Row} (h : g[i]? = some row) : names (g.take (i + 1)) = names (g.take i) ++ rnames row := by
  rw [take_snoc h, names_snoc]
theorem ok_names (F : Fun K "_law_names" "_law_names" sNames f fd) (B : Bi mg) : FnOk P w K mg base CX0 1 f fd ["_law_rows"] spNames := by
  refine F.ok scNames (fun vs H Q E h => ?_) (fun cdv A outer s H vs Q E hr h => ?_)
  · obtain ⟨L, g, wd, rfl, _⟩ := h
    rfl
  · obtain ⟨L, g, wd, rfl, ⟨as, hL, hR⟩, gd, q⟩ := h
    refine ⟨_, pss_cons (ps_set (i := 1) scNames.nd rfl (.inl rfl) (pe_lst pa_nil))
      (pss_cons (ps_for PassesOwn.never rfl (pi_tup (pv 0)) (pg_name (i := 2) scNames.nd rfl (.inl rfl))
        (pss_one (ps_expr (pe_bm PySem.F.plainAttrs_list PySem.F.slot_list_extend PySem.F.type_list_extend mt_extend (pv 1) (pa_cons
          (pe_lc (own := [("_law_name", 3)]) (g := gName 3) (tt := tB (tNotN (tVar 3))) rfl scNames.nd (pi_tup (pv 2)) (blkOk_by (N := nNames) (sc := defScope sNames) (by decide +kernel)) (fun _ _ _ _ _ => pg_name (i := 3) scNames.nd rfl (.inl rfl))
            (fun _ _ _ _ _ => pts_one (pt_cmp (pc_notN (pv 3)))) (fun _ _ _ _ _ => pv 3)) pa_nil)))))
      (pss_one (ps_ret (pe_callB (cr_sortD hr.units) (by rfl) B.sorted (by decide +kernel) (pa_cons (pv 1) pa_nil))))), ?_⟩
    refine ⟨lz, fun fA hf => ?_⟩
    have s0 : Same H (upd H fA (.lst [])) := same_new hf
    have hlen : (as.map V.ref).length = g.length := by rw [List.length_map, hR.length]
    refine ⟨_, rfl, L, rfl, ⟨_, .inl (.inl (s0 _ _ hL))⟩, for_tup (K := K) (a := L) (xs := as.map V.ref) (fun i σ H' => (∃ y2 y3, σ = [some (.ref L), some (.ref fA), y2, y3]) ∧ Same H H' ∧ H' fA = some (.lst ((names (g.take i)).map V.str)))
      ⟨⟨_, _, rfl⟩, s0, upd_same⟩ (fun i σ H' _ h => .inl (.inl (h.2.1 _ _ hL))) ?_ ?_⟩
    · rintro i x σ H1 hx ⟨⟨y2, y3, rfl⟩, s1, hf1⟩
      rw [List.getElem?_map] at hx
      obtain ⟨p, hp, rfl⟩ := Option.map_eq_some_iff.mp hx
      obtain ⟨row, hrow, hH⟩ := hR.get hp
      have hrl := gd.rows row (List.mem_of_getElem? hrow)
      refine ⟨_, rfl, .inl ⟨rfl, _, .inl (.inl hf1)⟩, _, rfl, p, rfl, ⟨_, .inl (.inl (s1 _ _ hH))⟩, fun D hD => ?_⟩
      refine lc_map (walk_tup (K := K) (a := p) (xs := row.map oV)) hD (fun v => !decide (v = .non)) id (fun H' s' => .inl (.inl (s' _ _ (s1 _ _ hH)))) (fun _ => rfl) ?_ ?_ ?_ ?_
      · intro x H' hx s' Q' q'
        exact ⟨_, rfl, _, rfl, q'⟩
      · intro x H' hx _ _ Q' q'
        exact ⟨_, rfl, q'⟩
      · rw [List.length_map]
        exact small1000 (by have := gd.w6; omega)
      · intro H2 s2 hD2
        rw [row_filter] at hD2
        have hf2 := s2 _ _ hf1
        refine ⟨fA, D, _, _, rfl, rfl, hf2, hD2, ?_, ⟨_, _, rfl⟩, same_mut (s1.trans s2) hf, ?_⟩
        · rw [List.length_map, List.length_map]
          have a1 := len_names (g := g.take i) (wd := wd) fun r hr => gd.rows r (List.mem_of_mem_take hr)
          have a2 : (g.take i).length ≤ 6 := by rw [List.length_take]; have := gd.h6; omega
          have a3 : (g.take i).length * wd ≤ 6 * 6 := Nat.mul_le_mul a2 gd.w6
          have a4 : (rnames row).length ≤ row.length := List.length_filterMap_le id _
          have a7 := gd.w6
          exact lzl (by omega)
        · rw [upd_same, names_take hrow, List.map_append]
    · rintro σ H1 ⟨⟨y2, y3, rfl⟩, s1, hf1⟩
      rw [hlen, List.take_length] at hf1
      refine ⟨_, rfl, ?_⟩
      dsimp only [tNil]
      refine sort_reads (K := K) (.inl (.inl hf1)) fun p hp => ?_
      exact q p _ (s1.free hp) (s1.trans (same_new hp)) upd_same

theorem grid_get {H : Hp} {L : Addr} {g : Grid} {wd : Nat} (gd : Good g wd) {as : List Addr} (hL : H L = some (.tup (as.map V.ref))) (hR : RowsAt H as g) {x y : Int} (hx : 0 ≤ x ∧ x < g.length) (hy : 0 ≤ y ∧ y < wd) :
    ∃ (p : Addr) (row : Row), atI (as.map V.ref) x = some (.ref p) ∧ H p = some (.tup (row.map oV)) ∧ row.length = wd ∧ atI (row.map oV) y = some (oV (cellAt g x.toNat y.toNat)) := by
  have hx2 : x.toNat < g.length := by omega
  have hg : g[x.toNat]? = some g[x.toNat] := List.getElem?_eq_getElem hx2
  obtain ⟨p, hp, hH⟩ := hR.get2 hg
  have hw := gd.rows _ (List.mem_of_getElem? hg)
  have hy2 : y.toNat < g[x.toNat].length := by omega
  refine ⟨p, g[x.toNat], at_of (j := x.toNat) (by omega) (by rw [List.getElem?_map, hp]; rfl), hH, hw, at_of (j := y.toNat) (by omega) ?_⟩
  rw [List.getElem?_map, List.getElem?_eq_getElem hy2, cellAt_of hg (List.getElem?_eq_getElem hy2)]
  rfl
end
end Wl





/-! A land's text. -/
namespace Wl
open PySem PySem.Spec PyProof.Rows L2
def partS : Option Str → Str
  | none => "-"
  | some z => z
def lineS (row : Row) : Str := Txt.join (" " : Str) (row.map partS)
def landS (g : Grid) : Str := Txt.join ("\n" : Str) (g.map lineS)
theorem tl_dash : TL.tl ("-" : Str) = [45] := by decide +kernel
theorem tl_blank : TL.tl (" " : Str) = [32] := by decide +kernel
theorem tl_end : TL.tl ("\n" : Str) = [10] := by decide +kernel
theorem wd_tl {z : Str} (h : IsWd z) : (1 ≤ (TL.tl z).length ∧ (TL.tl z).length ≤ 8) ∧ ∀ c ∈ TL.tl z, 97 ≤ c ∧ c ≤ 122 := by
  refine ⟨by rw [← TL.len_tl]; exact h.len, ?_⟩
  unfold IsWd wdB at h
  simp only [Bool.and_eq_true, decide_eq_true_eq, List.all_eq_true] at h
  exact h.2
theorem wd_dash {z : Str} (h : IsWd z) : z ≠ "-" := fun e => by
  have := (wd_tl h).2 45 (by rw [e, tl_dash]; simp)
  omega
/-- a part of a row -/
def OkP (o : Option Str) : Prop := ∀ z, o = some z → IsWd z
theorem part_tl {o : Option Str} (h : OkP o) : (TL.tl (partS o)).length ≤ 8 ∧ ∀ c ∈ TL.tl (partS o), 45 ≤ c ∧ c ≤ 122 := by
  cases o with
  | none =>
    show (TL.tl ("-" : Str)).length ≤ 8 ∧ ∀ c ∈ TL.tl ("-" : Str), 45 ≤ c ∧ c ≤ 122
    rw [tl_dash]
    exact ⟨by decide, fun c hc => by rw [List.mem_singleton.mp hc]; decide⟩
  | some z =>
    have := wd_tl (h z rfl)
    exact ⟨this.1.2, fun c hc => ⟨by have := this.2 c hc; omega, (this.2 c hc).2⟩⟩
theorem join_mem {S : List Nat} {c : Nat} : ∀ {ps : List (List Nat)}, c ∈ TL.joinL S ps → c ∈ S ∨ ∃ p ∈ ps, c ∈ p
  | [], h => by cases h
  | [p], h => .inr ⟨p, List.mem_singleton.mpr rfl, h⟩
  | p :: q :: r, h => by
    have h : c ∈ p ++ (S ++ TL.joinL S (q :: r)) := h
    rcases List.mem_append.mp h with h | h
    · exact .inr ⟨p, List.mem_cons_self, h⟩
    · rcases List.mem_append.mp h with h | h
      · exact .inl h
      · rcases join_mem h with h | ⟨u, hu, h⟩
        · exact .inl h
        · exact .inr ⟨u, List.mem_cons_of_mem _ hu, h⟩
theorem join_size {S : List Nat} {m : Nat} : ∀ {ps : List (List Nat)}, (∀ p ∈ ps, p.length ≤ m) → (TL.joinL S ps).length ≤ ps.length * (m + S.length)
  | [], _ => by simp [TL.joinL]
  | [p], h => by
    have := h p (List.mem_singleton.mpr rfl)
    show p.length ≤ _
    simp
    omega
  | p :: q :: r, h => by
    have h1 := h p List.mem_cons_self
    have h2 := join_size (S := S) (m := m) (ps := q :: r) fun u hu => h u (List.mem_cons_of_mem _ hu)
    show (p ++ (S ++ TL.joinL S (q :: r))).length ≤ _
    rw [List.length_append, List.length_append, List.length_cons, Nat.succ_mul]
    omega
theorem line_tl (row : Row) : TL.tl (lineS row) = TL.joinL [32] (row.map fun o => TL.tl (partS o)) := by
  unfold lineS
  rw [TL.join_eq, TL.tl_join, tl_blank, List.map_map]
  rfl
theorem line_codes {row : Row} (h : ∀ o ∈ row, OkP o) {c : Nat} (hc : c ∈ TL.tl (lineS row)) : c = 32 ∨ (45 ≤ c ∧ c ≤ 122) := by
  rw [line_tl] at hc
  rcases join_mem hc with hc | ⟨p, hp, hc⟩
  · exact .inl (List.mem_singleton.mp hc)
  · obtain ⟨o, ho, rfl⟩ := List.mem_map.mp hp
    exact .inr ((part_tl (h o ho)).2 c hc)
theorem line_len {row : Row} (h : ∀ o ∈ row, OkP o) (h6 : row.length ≤ 6) : (lineS row).length ≤ 54 := by
  rw [TL.len_tl, line_tl]
  have := join_size (S := [32]) (m := 8) (ps := row.map fun o => TL.tl (partS o)) fun p hp => by
    obtain ⟨o, ho, rfl⟩ := List.mem_map.mp hp
    exact (part_tl (h o ho)).1
  rw [List.length_map] at this
  simp at this
  omega
theorem line_split {row : Row} (h : ∀ o ∈ row, OkP o) (ne : row ≠ []) : Txt.split (lineS row) (" " : Str) = row.map partS := by
  unfold lineS
  refine TL.split_join tl_blank (by decide +kernel) (fun e => ne (List.map_eq_nil_iff.mp e)) fun p hp hc => ?_
  obtain ⟨o, ho, rfl⟩ := List.mem_map.mp hp
  have := (part_tl (h o ho)).2 32 hc
  omega
theorem land_split {g : Grid} (h : ∀ r ∈ g, ∀ o ∈ r, OkP o) (ne : g ≠ []) : Txt.split (landS g) ("\n" : Str) = g.map lineS := by
  unfold landS
  refine TL.split_join tl_end (by decide +kernel) (fun e => ne (List.map_eq_nil_iff.mp e)) fun p hp hc => ?_
  obtain ⟨r, hr, rfl⟩ := List.mem_map.mp hp
  have := line_codes (h r hr) hc
  omega
theorem land_len {g : Grid} (h : ∀ r ∈ g, ∀ o ∈ r, OkP o) (hg : g.length ≤ 6) (hr : ∀ r ∈ g, r.length ≤ 6) : (landS g).length ≤ 330 := by
  unfold landS
  rw [TL.len_tl, TL.join_eq, TL.tl_join, tl_end]
  have := join_size (S := [10]) (m := 54) (ps := (g.map lineS).map TL.tl) fun p hp => by
    obtain ⟨z, hz, rfl⟩ := List.mem_map.mp hp
    obtain ⟨r, hr', rfl⟩ := List.mem_map.mp hz
    rw [← TL.len_tl]
    exact line_len (h r hr') (hr r hr')
  rw [List.length_map, List.length_map] at this
  have e : (54 + [10].length) = 55 := rfl
  rw [e] at this
  omega
theorem names_part {g : Grid} (h : ∀ z ∈ names g, IsWd z) : ∀ r ∈ g, ∀ o ∈ r, OkP o := fun r hr o ho z e => h z (by
  unfold names
  rw [List.mem_filterMap]
  exact ⟨o, List.mem_flatten.mpr ⟨r, hr, ho⟩, e⟩)
theorem Good.parts {g : Grid} {wd : Nat} (G : Good g wd) : ∀ r ∈ g, ∀ o ∈ r, OkP o := names_part G.wd
theorem Good.nn {g : Grid} {wd : Nat} (G : Good g wd) : g ≠ [] := fun e => by
  have := G.h1
  rw [e] at this
  simp at this
theorem Good.six {g : Grid} {wd : Nat} (G : Good g wd) : ∀ r ∈ g, r.length ≤ 6 := fun r hr => by
  rw [G.rows r hr]
  exact G.w6
theorem part_inj {o u : Option Str} (h : OkP o) (k : OkP u) (e : partS o = partS u) : o = u := by
  cases o with
  | none =>
    cases u with
    | none => rfl
    | some z => exact absurd e.symm (wd_dash (k z rfl))
  | some y =>
    cases u with
    | none => exact absurd e (wd_dash (h y rfl))
    | some z => exact congrArg some e
theorem map_part_inj : ∀ {r q : Row}, (∀ o ∈ r, OkP o) → (∀ o ∈ q, OkP o) → r.map partS = q.map partS → r = q
  | [], [], _, _, _ => rfl
  | [], _ :: _, _, _, e => by simp at e
  | _ :: _, [], _, _, e => by simp at e
  | o :: r, u :: q, h, k, e => by
    simp only [List.map_cons, List.cons.injEq] at e
    rw [part_inj (h o List.mem_cons_self) (k u List.mem_cons_self) e.1, map_part_inj (fun x hx => h x (List.mem_cons_of_mem _ hx)) (fun x hx => k x (List.mem_cons_of_mem _ hx)) e.2]
theorem line_inj {r q : Row} (h : ∀ o ∈ r, OkP o) (k : ∀ o ∈ q, OkP o) (nr : r ≠ []) (nq : q ≠ []) (e : lineS r = lineS q) : r = q := by
  have := congrArg (fun z => Txt.split z (" " : Str)) e
  simp only [line_split h nr, line_split k nq] at this
  exact map_part_inj h k this
/-- unlike lands have unlike texts -/
theorem land_inj {g g' : Grid} {wd wd' : Nat} (G : Good g wd) (G' : Good g' wd') (e : landS g = landS g') : g = g' := by
  have h := congrArg (fun z => Txt.split z ("\n" : Str)) e
  simp only [land_split G.parts G.nn, land_split G'.parts G'.nn] at h
  have ne : ∀ {l : Grid} {v : Nat}, Good l v → ∀ r ∈ l, r ≠ [] := fun {l v} L r hr q => by
    have h1 := L.rows r hr
    have h2 := L.w1
    rw [q] at h1
    simp at h1
    omega
  have key : ∀ {l m : Grid}, (∀ r ∈ l, r ≠ [] ∧ ∀ o ∈ r, OkP o) → (∀ r ∈ m, r ≠ [] ∧ ∀ o ∈ r, OkP o) → l.map lineS = m.map lineS → l = m := by
    intro l
    induction l with
    | nil =>
      intro m _ _ e
      cases m with
      | nil => rfl
      | cons _ _ => simp at e
    | cons r l ih =>
      intro m hl hm e
      cases m with
      | nil => simp at e
      | cons q m =>
        simp only [List.map_cons, List.cons.injEq] at e
        have a := hl r List.mem_cons_self
        have b := hm q List.mem_cons_self
        rw [line_inj a.2 b.2 a.1 b.1 e.1, ih (fun x hx => hl x (List.mem_cons_of_mem _ hx)) (fun x hx => hm x (List.mem_cons_of_mem _ hx)) e.2]
  exact key (fun r hr => ⟨ne G r hr, G.parts r hr⟩) (fun r hr => ⟨ne G' r hr, G'.parts r hr⟩) h
end Wl

/-! Rules of ours for objects of own classes: len, str, repr, ==, !=, in a list of one, each by the class's own method. -/
namespace Wl
open PySem PySem.Spec PyProof.Rows L2
section
variable {X : Cx} {n : Nat} {f : Addr} {fd : FuncData} {ps : List Str} {sp : Sp} {C : Addr}
theorem v1 (a : Addr) : Vals [V.ref a] [Value.ref a] := .cons rfl .nil
theorem v2 (a b : Addr) : Vals [V.ref a, V.ref b] [Value.ref a, Value.ref b] := .cons rfl (.cons rfl .nil)
/-- an own def called somewhere below the running body -/
theorem run_own {A : Around} {pins : List (Addr × Obj)} {s : Shared} {σ : L2.St} {H : Hp} {vs : List V} {us : List Value} {Q : VK} (F : FnOk X.prog X.w X.K X.mg X.base CX0 n f fd ps sp) (hb : Binds X.K fd ps []) (sb : Sub X n A) (I : L2.Inv X pins σ H s) (r : Vals vs us) (hsp : sp vs H Q E0) :
    wpAny (model X.prog X.w) A (call (.ref f) us) (EP X pins σ Q) X.xe s := by
  have e0 : Env0 X.prog X.w X.K X.mg X.base A X.stack s H := by
    have e := I.env0
    exact ⟨by rw [sb.fr]; exact e.frames, e.mod, e.bs, e.bsz, e.funs, e.frf, e.hok, e.bare⟩
  have hl := F.len _ _ _ _ hsp
  have hb' : BindsTo s fd ⟨us, []⟩ (ps.zip us) := by
    have := hb s us I.kIn (by rw [List.append_nil, ← r.length]; exact hl)
    rw [List.append_nil] at this
    exact this
  refine wpAny_call (codeAny_mono (F.run A X.stack s H ⟨us, []⟩ us vs _ E0 sb.room e0 hb' r hsp) fun r s' hq => ?_)
  cases r with
  | error e => exact pass0 pins σ H s e s' I hq
  | ok fl =>
    cases fl with
    | ret w => exact I.after hq
    | next => exact False.elim hq
    | brk => exact False.elim hq
    | cont => exact False.elim hq
/-- len(o) -/
def rLenO (C : Addr) (sp : Sp) : List V → Hp → VK → Prop := fun xs H Q => ∃ a dx fs, xs = [V.ref a] ∧ H a = some (.ins C dx fs) ∧ sp [.ref a] H (fun v H' => ∃ k : Nat, v = .int (k : Int) ∧ k < 2 ^ 62 ∧ Q (.int (k : Int)) H') E0
theorem cr_lenO (F : FnOk X.prog X.w X.K X.mg X.base CX0 n f fd ps sp) (hb : Binds X.K fd ps []) (m : Meth X.K C "__len__" f) (hr : Room (n + 1) X.A) : CallR X (.builtin "len") (rLenO C sp) := by
  intro pins s σ H xs us Q I r h
  obtain ⟨a, dx, fs, rfl, ha, hsp⟩ := h
  obtain ⟨u, rfl, ru⟩ := vals1 r
  obtain rfl : u = Value.ref a := ru
  obtain ⟨mA, J, _⟩ := ins_get I.hok ha
  obtain ⟨od, J, _⟩ := J.look
  obtain ⟨m', hF⟩ := I.fr
  refine PySem.W.len_K hF I.ok.mod.kin J m.at_ m.fn (wpAny_mono (run_own F hb (Sub.in1 ⟨hr, rfl⟩) I (v1 a) hsp) (fun v s' hq => ?_) fun _ _ z => z)
  obtain ⟨z, H', I', rz, k, rfl, hk, q⟩ := hq
  obtain ⟨t, rfl⟩ := rz
  exact ⟨⟨by omega, by omega⟩, .int (k : Int), H', I'.tok _, ⟨_, rfl⟩, q⟩
/-- str(o) -/
def rStrO (C : Addr) (sp : Sp) : List V → Hp → VK → Prop := fun xs H Q => ∃ a dx fs, xs = [V.ref a] ∧ H a = some (.ins C dx fs) ∧ sp [.ref a] H (fun v H' => ∃ z, v = .str z ∧ Q (.str z) H') E0
theorem room_u2 {k : Nat} {A : Around} (r : Room k A) : A.units + 2 < cLine := by have := r.un; omega
theorem cr_strO (F : FnOk X.prog X.w X.K X.mg X.base CX0 n f fd ps sp) (hb : Binds X.K fd ps []) (m : Meth X.K C "__str__" f) (hr : Room (n + 2) X.A) : CallR X (.type "str") (rStrO C sp) := by
  intro pins s σ H xs us Q I r h
  obtain ⟨a, dx, fs, rfl, ha, hsp⟩ := h
  obtain ⟨u, rfl, ru⟩ := vals1 r
  obtain rfl : u = Value.ref a := ru
  obtain ⟨mA, J, _⟩ := ins_get I.hok ha
  obtain ⟨od, J, _⟩ := J.look
  refine PySem.W.kso_call (show X.A.units + 1 + 1 < cLine from room_u2 hr) I.kIn J m.at_ m.fn (wpAny_mono (run_own F hb (Sub.in1 (Sub.in1 ⟨hr, rfl⟩)) I (v1 a) hsp) (fun v s' hq => ?_) fun _ _ z => z)
  obtain ⟨z, H', I', rz, y, rfl, q⟩ := hq
  obtain ⟨t, rfl⟩ := rz
  exact ⟨.str y, H', I', ⟨_, rfl⟩, q⟩
/-- repr(o) -/
theorem cr_reprO (F : FnOk X.prog X.w X.K X.mg X.base CX0 n f fd ps sp) (hb : Binds X.K fd ps []) (m : Meth X.K C "__repr__" f) (hr : Room (n + 1) X.A) : CallR X (.builtin "repr") (rStrO C sp) := by
  intro pins s σ H xs us Q I r h
  obtain ⟨a, dx, fs, rfl, ha, hsp⟩ := h
  obtain ⟨u, rfl, ru⟩ := vals1 r
  obtain rfl : u = Value.ref a := ru
  obtain ⟨mA, J, _⟩ := ins_get I.hok ha
  obtain ⟨od, J, _⟩ := J.look
  obtain ⟨m', hF⟩ := I.fr
  refine PySem.W.repr_K (show X.A.units + 1 < cLine from by have := room_u2 hr; omega) hF I.ok.mod.kin J m.at_ m.fn (wpAny_mono (run_own F hb (Sub.in1 ⟨hr, rfl⟩) I (v1 a) hsp) (fun v s' hq => ?_) fun _ _ z => z)
  obtain ⟨z, H', I', rz, y, rfl, q⟩ := hq
  obtain ⟨t, rfl⟩ := rz
  exact ⟨.str y, H', I', ⟨_, rfl⟩, q⟩
/-- x == y of two of one class -/
def rEqO (C : Addr) (sp : Sp) (g : Bool → Bool) : R2 := fun x y H Q => ∃ a dx fs b dy gs, x = V.ref a ∧ y = V.ref b ∧ H a = some (.ins C dx fs) ∧ H b = some (.ins C dy gs) ∧ sp [.ref a, .ref b] H (fun v H' => ∃ c, v = .bl c ∧ Q (.bl (g c)) H') E0
theorem rc_eqO {A : Around} {pins : List (Addr × Obj)} {s : Shared} {σ : L2.St} {H : Hp} {a b dx dy : Addr} {fs gs : List (Str × V)} {Q : Bool → Hp → Prop} (F : FnOk X.prog X.w X.K X.mg X.base CX0 n f fd ps sp) (hb : Binds X.K fd ps []) (m : Meth X.K C "__eq__" f) (sb : Sub X n A) (I : L2.Inv X pins σ H s)
    (ha : H a = some (.ins C dx fs)) (hb' : H b = some (.ins C dy gs)) (hsp : sp [.ref a, .ref b] H (fun v H' => ∃ c, v = .bl c ∧ Q c H') E0) :
    wpAny (model X.prog X.w) A (richCompare .Eq (.ref a) (.ref b)) (fun v s' => ∃ c, v = .bool c ∧ ∃ H', L2.Inv X pins σ H' s' ∧ Q c H') X.xe s := by
  obtain ⟨mA, J, _⟩ := ins_get I.hok ha
  obtain ⟨mB, J', _⟩ := ins_get I.hok hb'
  obtain ⟨od, J, _⟩ := J.look
  obtain ⟨od', J', _⟩ := J'.look
  obtain ⟨m', hF⟩ := I.fr
  refine PySem.W.cmp_K (op := .Eq) (tb := .ref C) sb.room.units0 hF I.ok.mod.kin J J'.type (by simp [PySem.W.notFirst]) m.at_ m.fn (wpAny_mono (run_own F hb sb I (v2 a b) hsp) (fun v s' hq => ?_) fun _ _ z => z)
  obtain ⟨z, H', I', rz, c, rfl, q⟩ := hq
  cases rz
  exact ⟨c, rfl, H', I', q⟩
theorem op_eqO (F : FnOk X.prog X.w X.K X.mg X.base CX0 n f fd ps sp) (hb : Binds X.K fd ps []) (m : Meth X.K C "__eq__" f) (hr : Room n X.A) : OpR X (compareOp .Eq) (rEqO C sp id) := by
  intro pins s σ H x y v u Q I rx ry h
  obtain ⟨a, dx, fs, b, dy, gs, rfl, rfl, ha, hb', hsp⟩ := h
  cases rx
  cases ry
  show wpAny (model X.prog X.w) X.A (richCompare .Eq (.ref a) (.ref b)) (EP X pins σ Q) X.xe s
  refine wpAny_mono (rc_eqO F hb m ⟨hr, rfl⟩ I ha hb' hsp) (fun v s' hq => ?_) fun _ _ z => z
  obtain ⟨c, rfl, H', I', q⟩ := hq
  exact ⟨.bl c, H', I', rfl, q⟩
/-- what the class says of != -/
structure NeC (K : PySem.W.Frag) (C : Addr) : Prop where
  ne : PySem.W.findIn K (.ref C) "__ne__" = some (some (.builtin "object.__ne__"))
  ob : PySem.W.mroIn K C (.type "object") = some true
theorem ifBound_B {M : Model} {A : Around} {E : Value → Shared → Prop} {s : Shared} {K : PySem.W.Frag} {x C : Addr} {ox : Obj} {od : Option Obj} {name : Str} {id : String} {args : List Value} {Q : Option Value → Shared → Prop} (X : K.In s.heap) (I : PySem.W.InstAt s.heap x ox C od) (hs : PySem.W.findIn K (.ref C) name = some (some (.builtin id)))
    (hb : ∀ self, bindSpecial (.builtin id) self = pure (.builtin id, [self])) (h : wpAny M A (call (.builtin id) (.ref x :: args)) (fun v => Q (some v)) E s) : wpAny M A (callSpecialIfBound? (.ref x) name args) Q E s := by
  simp only [callSpecialIfBound?, bindSpecialIfBound?]
  refine wpAny_holding (wpAny_bind (wpAny_bind (wpAny_bind (I.type.here ((PySem.W.looks_findIn X hs).here ?_)))))
  refine wpAny_bind (wpAny_askSetting (wpAny_ite ?_))
  have fin : wpAny M A (call (.builtin id) ([.ref x] ++ args) >>= fun v => pure (some v)) Q E s := wpAny_bind (wpAny_mono h (fun v s' h' => wpAny_pure h') fun _ _ h' => h')
  split
  · exact wpAny_bind ((PySem.W.Looks.of_pure (hb _)).here (wpAny_pure (by exact fin)))
  · exact wpAny_tryCatch (wpAny_bind ((PySem.W.Looks.of_pure (hb _)).here (wpAny_pure (by exact fin))))
theorem obj_neK {A : Around} {E : Value → Shared → Prop} {s : Shared} {prog : Program} {w : World} {K : PySem.W.Frag} {x C f : Addr} {y : Value} {ox : Obj} {od : Option Obj} {Q : Value → Shared → Prop} (hu : A.units + 1 < cLine) (X : K.In s.heap) (I : PySem.W.InstAt s.heap x ox C od) (N : NeC K C) (he : PySem.W.findIn K (.ref C) "__eq__" = some (some (.ref f))) (hf : PySem.W.isFn K (.ref f) = true)
    (h : wpAny (model prog w) A.in1 (call (.ref f) [.ref x, y]) (fun v s' => ∃ c, v = .bool c ∧ Q (.bool (!c)) s') E s) : wpAny (model prog w) A (call (.builtin "object.__ne__") [.ref x, y]) Q E s := by
  refine wpAny_call (codeAny_call_builtin PySem.F.slot_object_ne.plain PySem.F.cmpEntry_ne (PySem.W.check_slot (i := "object.__ne__") (owner := "object") (n := "__ne__") (by decide +kernel) (by decide +kernel) (I.type.andThen (PySem.W.looks_mroIn X N.ob)) (PySem.F.cmpArgs_ne _ _) ?_))
  unfold Builtin.«object.__ne__»
  refine wpAny_bind (m := slotArgs "__ne__" 1 _) (wpAny_pure ?_)
  refine wpAny_bind (m := cRoomFor _ _) (wpAny_cRoomFor (show A.in1.units < cLine from hu) ?_)
  refine wpAny_bind (m := callSpecialIfBound? (.ref x) (Str.ofString "__eq__") _) (PySem.W.ifBound_K X I he hf (wpAny_mono h (fun r s' hq => ?_) fun _ _ z => z))
  obtain ⟨c, rfl, q⟩ := hq
  exact wpAny_bind (wpAny_truthy_bool (wpAny_pure q))
end
end Wl
namespace Wl
open PySem PySem.Spec PyProof.Rows L2
theorem ne_K {A : Around} {E : Value → Shared → Prop} {s : Shared} {prog : Program} {w : World} {K : PySem.W.Frag} {x C f : Addr} {y : Addr} {ox oy : Obj} {od od' : Option Obj} {Q : Value → Shared → Prop} (hu : A.units + 2 < cLine) (X : K.In s.heap) (I : PySem.W.InstAt s.heap x ox C od) (I' : PySem.W.InstAt s.heap y oy C od') (N : NeC K C) (he : PySem.W.findIn K (.ref C) "__eq__" = some (some (.ref f))) (hf : PySem.W.isFn K (.ref f) = true)
    (h : wpAny (model prog w) A.in1 (call (.ref f) [.ref x, .ref y]) (fun v s' => ∃ c, v = .bool c ∧ Q (.bool (!c)) s') E s) : wpAny (model prog w) A (richCompare .NotEq (.ref x) (.ref y)) Q E s := by
  have one : wpAny (model prog w) A (tryCompare (.ref x) "__ne__" (.ref y)) (fun r s' => ∃ v, r = some v ∧ Q v s') E s := by
    unfold tryCompare
    refine wpAny_bind (ifBound_B X I N.ne PySem.F.slot_object_ne.bind (wpAny_mono (obj_neK (Q := fun v s' => ∃ c, v = .bool c ∧ Q v s') (by omega) X I N he hf (wpAny_mono h (fun v s' hv => ?_) fun _ _ z => z)) (fun v s' hv => ?_) fun _ _ z => z))
    · obtain ⟨c, rfl, q⟩ := hv
      exact ⟨c, rfl, _, rfl, q⟩
    · obtain ⟨c, rfl, q⟩ := hv
      exact wpAny_pure ⟨_, rfl, q⟩
  unfold richCompare
  simp only [oneThing_ref]
  refine wpAny_holding (wpAny_bind (wpAny_cRoomFor (by omega) ?_))
  refine wpAny_bind (I.type.here (wpAny_bind (I'.type.here ?_)))
  rw [show (Value.ref C != Value.ref C) = false from by simp]
  simp only [Bool.false_eq_true, if_false]
  refine wpAny_bind (wpAny_pure ?_)
  simp only [Bool.false_eq_true, if_false]
  refine wpAny_bind (wpAny_mono one (fun r s' z => ?_) fun _ _ e => e)
  obtain ⟨v, rfl, hq⟩ := z
  exact wpAny_pure hq
section
variable {X : Cx} {n : Nat} {f : Addr} {fd : FuncData} {ps : List Str} {sp : Sp} {C : Addr}
theorem op_neO (F : FnOk X.prog X.w X.K X.mg X.base CX0 n f fd ps sp) (hb : Binds X.K fd ps []) (m : Meth X.K C "__eq__" f) (N : NeC X.K C) (hr : Room (n + 1) X.A) : OpR X (compareOp .NotEq) (rEqO C sp not) := by
  intro pins s σ H x y v u Q I rx ry h
  obtain ⟨a, dx, fs, b, dy, gs, rfl, rfl, ha, hb', hsp⟩ := h
  cases rx
  cases ry
  obtain ⟨mA, J, _⟩ := ins_get I.hok ha
  obtain ⟨mB, J', _⟩ := ins_get I.hok hb'
  obtain ⟨od, J, _⟩ := J.look
  obtain ⟨od', J', _⟩ := J'.look
  show wpAny (model X.prog X.w) X.A (richCompare .NotEq (.ref a) (.ref b)) (EP X pins σ Q) X.xe s
  refine ne_K (room_u2 hr) I.kIn J J' N m.at_ m.fn (wpAny_mono (run_own F hb (Sub.in1 ⟨hr, rfl⟩) I (v2 a b) hsp) (fun v s' hq => ?_) fun _ _ z => z)
  obtain ⟨z, H', I', rz, c, rfl, q⟩ := hq
  cases rz
  exact ⟨c, rfl, .bl (!c), H', I', rfl, q⟩
/-! x in xs, x not in xs, of objects -/
open GQ MeetsSeq MeetsSeq2 MeetsSeq3 SeqRoads2 in
open AutoSeq1 (wpAny_loadPart') in
theorem contains_loopO {prog : Program} {w : World} {A : Around} {R : Result → Shared → Prop} {l : Addr} {items : Array Value} {x : Value} (P : Nat → Shared → Prop)
    (hl : ∀ i s, P i s → ∃ k, s.heap.get? l = some { cls := .type "list", data := .seq items k })
    (turn : ∀ (i : Nat) (h : i < items.size) (s : Shared), P i s → wpAny (model prog w) A.in1 (eqBool items[i] x) (fun b s' => if b = true then R (.ok (.ret (.bool true))) s' else P (i + 1) s') (fun e s' => R (.error e) s') s)
    (fin : ∀ s, P items.size s → R (.ok (.ret (.bool false))) s) (k : Nat) :
    ∀ i : Nat, items.size - i = k → i ≤ items.size → ∀ s, P i s → wpAny (model prog w) A.in1 (Builtin.«list.__contains__.loop» ⟨[.ref l, x, rawInt i], []⟩) (FinOf prog w A R) (fun e s' => R (.error e) s') s := by
  induction k with
  | zero =>
    intro i hk hi s h
    obtain ⟨k, hl1⟩ := hl i s h
    have e : i = items.size := by omega
    have q := fin s (e ▸ h)
    obtain ⟨hp, g, d, tk, os⟩ := s
    wp_walk using wpAny_loadPart' hl1
    have hi1 : items[((i : Nat) : Int).toNat]? = none := by simp; omega
    rw [hi1]
    wp_walk
    exact q
  | succ k ih =>
    intro i hk hi s h
    obtain ⟨k1, hl1⟩ := hl i s h
    have hlt : i < items.size := by omega
    have ht := turn i hlt s h
    obtain ⟨hp, g, d, tk, os⟩ := s
    wp_walk using wpAny_loadPart' hl1
    have hi1 : items[((i : Nat) : Int).toNat]? = some items[i] := by simp [hlt]
    rw [hi1]
    refine wpAny_bind (wpAny_mono ht (fun b s2 h2 => ?_) fun _ _ z => z)
    cases b with
    | true =>
      rw [if_pos rfl] at h2
      wp_walk
      exact h2
    | false =>
      rw [if_neg (by decide)] at h2
      have hrec := ih (i + 1) (by omega) (by omega) s2 h2
      obtain ⟨hp2, g2, d2, tk2, os2⟩ := s2
      have hc : ((i : Int) + 1) = ((i + 1 : Nat) : Int) := by omega
      wp_walk
      rw [hc]
      exact ⟨plainId_quiet plain_contains_loop _, codeAny_builtin entry_contains_loop (by
        rw [Around.under_plainId plain_contains_loop _]
        exact hrec)⟩
open GQ MeetsSeq MeetsSeq2 MeetsSeq3 SeqRoads2 in
open AutoSeq1 (wpAny_loadPart') in
theorem containsO {prog : Program} {w : World} {A : Around} {R : Result → Shared → Prop} {s : Shared} {l : Addr} {items : Array Value} {x : Value} (P : Nat → Shared → Prop)
    (hl : ∀ i s, P i s → ∃ k, s.heap.get? l = some { cls := .type "list", data := .seq items k })
    (turn : ∀ (i : Nat) (h : i < items.size) (s : Shared), P i s → wpAny (model prog w) A.in1 (eqBool items[i] x) (fun b s' => if b = true then R (.ok (.ret (.bool true))) s' else P (i + 1) s') (fun e s' => R (.error e) s') s)
    (fin : ∀ s, P items.size s → R (.ok (.ret (.bool false))) s) (h : P 0 s) :
    wpAny (model prog w) A.in1 (Builtin.«list.__contains__» ⟨[.ref l, x], []⟩) (FinOf prog w A R) (fun e s' => R (.error e) s') s := by
  have hrec := contains_loopO (A := A) (R := R) P hl turn fin _ 0 rfl (Nat.zero_le _) s h
  obtain ⟨k, hl1⟩ := hl 0 s h
  obtain ⟨hp, g, d, tk, os⟩ := s
  wp_walk using wpAny_loadPart' hl1
  exact ⟨plainId_quiet plain_contains_loop _, codeAny_builtin entry_contains_loop (by
    rw [Around.under_plainId plain_contains_loop _]
    exact hrec)⟩
/-- x in [y]: both of one class -/
def rInO (C : Addr) (sp : Sp) (g : Bool → Bool) : R2 := fun x y H Q => ∃ a dx fs l b dy gs, x = V.ref a ∧ y = V.ref l ∧ H l = some (.lst [.ref b]) ∧ H a = some (.ins C dx fs) ∧ H b = some (.ins C dy gs) ∧ (a = b → Q (.bl (g true)) H) ∧
  (a ≠ b → sp [.ref b, .ref a] H (fun v H' => ∃ c, v = .bl c ∧ H' l = some (.lst [.ref b]) ∧ Q (.bl (g c)) H') E0)
theorem op_inO' (F : FnOk X.prog X.w X.K X.mg X.base CX0 n f fd ps sp) (hb : Binds X.K fd ps []) (m : Meth X.K C "__eq__" f) (hr : Room (n + 1) X.A) {g : Bool → Bool} {pins : List (Addr × Obj)} {s : Shared} {σ : L2.St} {H : Hp} {x y : V} {v u : Value} {Q : VK} (I : L2.Inv X pins σ H s) (rx : RelV x v) (ry : RelV y u) (h : rInO C sp g x y H Q) :
    wpAny (model X.prog X.w) X.A (contains u v) (fun b s' => EP X pins σ Q (.bool (g b)) s') X.xe s := by
  obtain ⟨a, dx, fs, l, b, dy, gs, rfl, rfl, hl, ha, hb', q1, q2⟩ := h
  cases rx
  cases ry
  obtain ⟨z, its, k, r, ho⟩ := I.hok l _ hl
  obtain ⟨u, rfl, ru⟩ := vals1 r
  obtain rfl : u = Value.ref b := ru
  refine wpAny_contains_slot ⟨_, ho, rfl⟩ PySem.F.slot_list_contains (wpAny_mono (GQ.call_here PySem.F.slot_list_contains ⟨_, ho, rfl⟩ PySem.F.entry_list_contains (PySem.F.args_list_contains_2 _ _)
    (containsO (R := wants (fun v s' => ∃ c, v = .bool c ∧ EP X pins σ Q (.bool (g c)) s') X.xe) (items := #[.ref b]) (fun i s' => (i = 0 ∧ s' = s) ∨ (i = 1 ∧ ∃ H', L2.Inv X pins σ H' s' ∧ H' l = some (.lst [.ref b]) ∧ Q (.bl (g false)) H')) (fun i s' h => ?_) (fun i hi s' h => ?_) (fun s' h => ?_) (.inl ⟨rfl, rfl⟩))) (fun v s' hv => ?_) fun _ _ e => e)
  · rcases h with ⟨rfl, rfl⟩ | ⟨rfl, H', I', hl', _⟩
    · exact ⟨k, ho⟩
    · obtain ⟨z', its', k', r', ho'⟩ := I'.hok l _ hl'
      obtain ⟨u, rfl, ru⟩ := vals1 r'
      obtain rfl : u = Value.ref b := ru
      exact ⟨k', ho'⟩
  · have e0 : i = 0 := by simp at hi; omega
    subst e0
    rcases h with ⟨_, rfl⟩ | ⟨e, _⟩
    · show wpAny (model X.prog X.w) X.A.in1 (eqBool (.ref b) (.ref a)) _ _ _
      by_cases e : b = a
      · subst e
        refine SeqAt.EqAt.same (A := X.A.in1) (s := s') (.ref b) X.prog X.w _ _ ?_
        rw [if_pos rfl]
        exact ⟨_, rfl, .bl (g true), H, I, rfl, q1 rfl⟩
      · refine GQ.eqBool_refG e (wpAny_mono (rc_eqO F hb m (Sub.in1 ⟨hr, rfl⟩) I hb' ha (Q := fun c H' => H' l = some (.lst [.ref b]) ∧ Q (.bl (g c)) H') (q2 (Ne.symm e))) (fun v s2 hq => ?_) fun _ _ z => z)
        obtain ⟨c, rfl, H', I', hl', q⟩ := hq
        refine ⟨c, rfl, ?_⟩
        cases c with
        | true =>
          rw [if_pos rfl]
          exact ⟨_, rfl, .bl (g true), H', I', rfl, q⟩
        | false =>
          rw [if_neg (by decide)]
          exact .inr ⟨rfl, H', I', hl', q⟩
    · omega
  · rcases h with ⟨e, _⟩ | ⟨_, H', I', hl', q⟩
    · simp at e
    · exact ⟨_, rfl, .bl (g false), H', I', rfl, q⟩
  · obtain ⟨c, rfl, q⟩ := hv
    exact wpAny_truthy_bool q
theorem op_inO (F : FnOk X.prog X.w X.K X.mg X.base CX0 n f fd ps sp) (hb : Binds X.K fd ps []) (m : Meth X.K C "__eq__" f) (hr : Room (n + 1) X.A) : OpR X (compareOp .In) (rInO C sp id) := by
  intro pins s σ H x y v u Q I rx ry h
  show wpAny _ X.A (do return Value.bool (← contains u v)) _ _ s
  exact wpAny_bind (wpAny_mono (op_inO' F hb m hr I rx ry h) (fun b s' q => wpAny_pure q) fun _ _ z => z)
theorem op_notInO (F : FnOk X.prog X.w X.K X.mg X.base CX0 n f fd ps sp) (hb : Binds X.K fd ps []) (m : Meth X.K C "__eq__" f) (hr : Room (n + 1) X.A) : OpR X (compareOp .NotIn) (rInO C sp not) := by
  intro pins s σ H x y v u Q I rx ry h
  show wpAny _ X.A (do return Value.bool (!(← contains u v))) _ _ s
  exact wpAny_bind (wpAny_mono (op_inO' F hb m hr I rx ry h) (fun b s' q => wpAny_pure q) fun _ _ z => z)
end
end Wl

namespace Wl
open PySem PySem.Spec PyProof.Rows L2
def oD : Option Str → PyData
  | none => .none
  | some z => .str z
def rD (row : Row) : PyData := .tuple (row.map oD)
def gD (g : Grid) : PyData := .tuple (g.map rD)
theorem dp_row {K : PySem.W.Frag} {H : Hp} : ∀ row : Row, DpAll K H (row.map oV) (row.map oD)
  | [] => .nil
  | none :: r => .cons .non (dp_row r)
  | some z :: r => .cons (.str z) (dp_row r)
theorem dp_rows {K : PySem.W.Frag} {H : Hp} : ∀ {as : List Addr} {g : Grid}, RowsAt H as g → DpAll K H (as.map V.ref) (g.map rD)
  | _, _, .nil => .nil
  | _, _, .cons e t => .cons (.tup (.inl (.inl e)) (dp_row _)) (dp_rows t)
theorem dp_grid {K : PySem.W.Frag} {H : Hp} {L : Addr} {g : Grid} (h : GridAt H L g) : Dp K H (.ref L) (gD g) := by
  obtain ⟨as, hL, hR⟩ := h
  exact .tup (.inl (.inl hL)) (dp_rows hR)
theorem lay_row : ∀ {row : Row}, (∀ z ∈ rnames row, IsWd z) → PyData.canLayAll0 (row.map oD) = true
  | [], _ => by simp [PyData.canLayAll0]
  | none :: r, h => by simp [PyData.canLayAll0, oD, PyData.canLay0, lay_row (row := r) h]
  | some z :: r, h => by
    have h1 := wd_ok (h z (by simp [rnames]))
    have h2 := lay_row (row := r) fun y hy => h y (by simp only [rnames, List.filterMap_cons] at hy ⊢; exact List.mem_cons_of_mem _ hy)
    simp [PyData.canLayAll0, oD, PyData.canLay0, h1, h2]
theorem depth_row : ∀ row : Row, PyData.depthAll (row.map oD) = 0
  | [] => by simp [PyData.depthAll]
  | none :: r => by simp [PyData.depthAll, PyData.depth, oD, depth_row r]
  | some z :: r => by simp [PyData.depthAll, PyData.depth, oD, depth_row r]
theorem lay_grid : ∀ {g : Grid}, (∀ z ∈ names g, IsWd z) → PyData.canLayAll0 (g.map rD) = true
  | [], _ => by simp [PyData.canLayAll0]
  | r :: g, h => by
    rw [names_cons] at h
    have h1 := lay_row (row := r) fun z hz => h z (List.mem_append_left _ hz)
    have h2 := lay_grid (g := g) fun z hz => h z (List.mem_append_right _ hz)
    simp [PyData.canLayAll0, rD, PyData.canLay0, h1, h2]
theorem depth_grid : ∀ g : Grid, PyData.depthAll (g.map rD) ≤ 1
  | [] => by simp [PyData.depthAll]
  | r :: g => by
    have := depth_grid g
    have := depth_row r
    simp only [List.map_cons, PyData.depthAll, rD, PyData.depth]
    omega
theorem shaped_grid {g : Grid} {wd : Nat} (gd : Good g wd) : SeqAt.shaped (gD g) = true := shaped_tuple (lay_grid gd.wd) (by have := depth_grid g; omega)
theorem same_x {H0 H1 H2 : Hp} {a : Addr} (s : Same H0 H1) (x : SameX a H1 H2) (h : H0 a = none) : Same H0 H2 := fun b o e => x b o (ne_of_none e h) (s b o e)
theorem made_same {H1 H' : Hp} {x dx C : Addr} (nx : H1 x = none) (ndx : H1 dx = none) (h : ∀ b o, b ≠ x → (upd (upd H1 dx (.own x)) x (.ins C dx [])) b = some o → H' b = some o) : Same H1 H' := fun b o e => by
  have n1 : b ≠ x := ne_of_none e nx
  refine h b o n1 ?_
  rw [upd_ne n1, upd_ne (ne_of_none e ndx)]
  exact e

theorem o_eqv (a b : Option Str) : PyData.eqv (oD a) (oD b) = decide (a = b) := by
  cases a with
  | none => cases b <;> simp [oD, PyData.eqv]
  | some x =>
    cases b with
    | none => simp [oD, PyData.eqv]
    | some y =>
      simp only [oD, PyData.eqv, Option.some.injEq]
      by_cases h : x = y
      · subst h
        simp
      · rw [decide_eq_false h]
        exact beq_eq_false_iff_ne.mpr h
theorem row_eqv : ∀ r q : Row, PyData.eqvAll (r.map oD) (q.map oD) = decide (r = q)
  | [], [] => by simp [PyData.eqvAll]
  | [], _ :: _ => by simp [PyData.eqvAll]
  | _ :: _, [] => by simp [PyData.eqvAll]
  | o :: r, u :: q => by
    simp only [List.map_cons, PyData.eqvAll, o_eqv, row_eqv r q, List.cons.injEq]
    by_cases h1 : o = u <;> by_cases h2 : r = q <;> simp [h1, h2]
theorem rows_eqv : ∀ g g' : Grid, PyData.eqvAll (g.map rD) (g'.map rD) = decide (g = g')
  | [], [] => by simp [PyData.eqvAll]
  | [], _ :: _ => by simp [PyData.eqvAll]
  | _ :: _, [] => by simp [PyData.eqvAll]
  | r :: g, q :: g' => by
    simp only [List.map_cons, PyData.eqvAll, rD, PyData.eqv, row_eqv, rows_eqv g g', List.cons.injEq]
    by_cases h1 : r = q <;> by_cases h2 : g = g' <;> simp [h1, h2]
theorem grid_eqv (g g' : Grid) : PyData.eqv (gD g) (gD g') = decide (g = g') := by
  unfold gD
  simp only [PyData.eqv, rows_eqv]
/-- what the class says of itself, for isinstance and != -/
structure Txt2 (K : PySem.W.Frag) (mg : Str → Option Value) (C : Addr) : Prop where
  t : Txt K mg C
  ins : C8.InsC K C
  ne : NeC K C
theorem fs_no {m : Str} {d L : Addr} (h1 : ¬ m = "rows" := by decide +kernel) (h2 : ¬ m = "spots" := by decide +kernel) : (lf d L).lookup m = none := lf_no d L h1 h2
abbrev sEq : Stmt := inClass sCls 6
abbrev sLen : Stmt := inClass sCls 7
abbrev sStr : Stmt := inClass sCls 8
abbrev sRepr : Stmt := inClass sCls 9
section
variable {P : Program} {w : World} {K : PySem.W.Frag} {mg : Str → Option Value} {base : Heap} {f C : Addr} {fd : FuncData}
theorem LandAt.ins {H : Hp} {p L : Addr} {g : Grid} (h : LandAt C H p L g) : ∃ dx d, H p = some (.ins C dx (lf d L)) := by
  obtain ⟨d, dx, h1, _⟩ := h
  exact ⟨dx, d, h1⟩
theorem LandAt.grid {H : Hp} {p L : Addr} {g : Grid} (h : LandAt C H p L g) : GridAt H L g := by
  obtain ⟨d, dx, _, _, h3⟩ := h
  exact h3
theorem LandAt.same {H H' : Hp} {p L : Addr} {g : Grid} (h : LandAt C H p L g) (s : Same H H') : LandAt C H' p L g := h.keep (kp_same s)
/-! ### == -/
def spLEq (C : Addr) : Sp := fun vs H Q _ => ∃ (p L q M : Addr) (g g' : Grid) (wd wd' : Nat), vs = [.ref p, .ref q] ∧ LandAt C H p L g ∧ Good g wd ∧ LandAt C H q M g' ∧ Good g' wd' ∧ Q (.bl (decide (g = g'))) H
theorem scEq : FnScope ["self", "other"] ["self", "other"] (defScope sEq) := ⟨rfl, rfl, rfl, by decide +kernel, rfl, by decide +kernel, by decide +kernel⟩
theorem ok_leq (F : Fun K "__eq__" "Land.__eq__" sEq f fd) (B : Bi mg) (T : Txt2 K mg C) : FnOk P w K mg base CX0 1 f fd ["self", "other"] (spLEq C) := by
  refine F.ok scEq (fun vs H Q E h => ?_) (fun cdv A outer s H vs Q E hr h => ?_)
  · obtain ⟨p, L, q, M, g, g', wd, wd', rfl, _⟩ := h
    rfl
  · obtain ⟨p, L, q, M, g, g', wd, wd', rfl, h1, gd, h2, gd', qq⟩ := h
    refine ⟨_, pss_one (ps_ret (pe_and (pe_callB (C8.call_isC (C := C) T.ins) (by rfl) B.isi (by decide +kernel) (pa_cons (pv 1) (pa_cons (pe_glob (v := .ref C) rfl T.t.mgC rfl) pa_nil))) (pe_one (pe_cmpR (op_eqD hr.units) (pe_fld (pv 0) rfl) (pe_fld (pv 1) rfl) (nomark _))))), ?_⟩
    obtain ⟨dx, d, i1⟩ := h1.ins
    obtain ⟨dy, e, i2⟩ := h2.ins
    refine ⟨_, rfl, q, dy, _, rfl, i2, true, rfl, iteT ⟨_, rfl, p, C, dx, _, _, rfl, i1, T.t.cl, T.t.nR, lf_rows _ _, _, rfl, q, C, dy, _, _, rfl, i2, T.t.cl, T.t.nR, lf_rows _ _, _, _, dp_grid h1.grid, dp_grid h2.grid, shaped_grid gd, shaped_grid gd', ?_⟩⟩
    rw [grid_eqv]
    exact qq
/-! ### len -/
def spLLen (C : Addr) : Sp := fun vs H Q _ => ∃ (p L : Addr) (g : Grid), vs = [.ref p] ∧ LandAt C H p L g ∧ Q (.int (names g).length) H
theorem scLen : FnScope ["self"] ["self"] (defScope sLen) := ⟨rfl, rfl, rfl, by decide +kernel, rfl, by decide +kernel, by decide +kernel⟩
theorem ok_llen (F : Fun K "__len__" "Land.__len__" sLen f fd) (B : Bi mg) (T : Txt K mg C) : FnOk P w K mg base CX0 1 f fd ["self"] (spLLen C) := by
  refine F.ok scLen (fun vs H Q E h => ?_) (fun cdv A outer s H vs Q E hr h => ?_)
  · obtain ⟨p, L, g, rfl, _⟩ := h
    rfl
  · obtain ⟨p, L, g, rfl, ⟨d, dx, i1, ⟨kvs, hk, he⟩, _⟩, q⟩ := h
    refine ⟨_, pss_one (ps_ret (pe_callB call_lenD (by rfl) B.len PySem.boot_len (pa_cons (pe_fld (pv 0) rfl) pa_nil))), ?_⟩
    refine ⟨_, rfl, p, C, dx, _, _, rfl, i1, T.cl, T.nS, lf_spots _ _, d, kvs, rfl, hk, ?_⟩
    have : kvs.length = (names g).length := by
      rw [he.length, ← spG_fst g 0, List.length_map]
    rw [this]
    exact q
/-! ### repr -/
def reprS (n : Nat) : Str := ("Land(" : Str) ++ (toString (n : Int) : String) ++ (")" : Str)
def spLRepr (C : Addr) : Sp := fun vs H Q _ => ∃ (p L : Addr) (g : Grid), vs = [.ref p] ∧ LandAt C H p L g ∧ (names g).length ≤ 36 ∧ Q (.str (reprS (names g).length)) H
theorem scRepr : FnScope ["self"] ["self"] (defScope sRepr) := ⟨rfl, rfl, rfl, by decide +kernel, rfl, by decide +kernel, by decide +kernel⟩
theorem add_len (x y : Str) : (x ++ y).length = x.length + y.length := by
  rw [TL.len_tl, TL.tl_append, List.length_append, ← TL.len_tl, ← TL.len_tl]
theorem dig_len {n : Nat} (h : n ≤ 36) : ((toString (n : Int) : String) : Str).length ≤ 2 := by
  have : ∀ k : Fin 37, ((toString ((k.val : Nat) : Int) : String) : Str).length ≤ 2 := by decide +kernel
  exact this ⟨n, by omega⟩
theorem str_n (n : Nat) (h : n ≤ 36) : (((n : Nat) : Int).natAbs).log2 < 1920 := by
  have : ((n : Nat) : Int).natAbs = n := Int.natAbs_natCast n
  rw [this]
  have h2 : n.log2 ≤ n := Nat.log2_le_self n
  omega
theorem ok_lrepr (F : Fun K "__repr__" "Land.__repr__" sRepr f fd) (B : Bi mg) (T : Txt K mg C) : FnOk P w K mg base CX0 1 f fd ["self"] (spLRepr C) := by
  refine F.ok scRepr (fun vs H Q E h => ?_) (fun cdv A outer s H vs Q E hr h => ?_)
  · obtain ⟨p, L, g, rfl, _⟩ := h
    rfl
  · obtain ⟨p, L, g, rfl, ⟨d, dx, i1, ⟨kvs, hk, he⟩, _⟩, h36, q⟩ := h
    refine ⟨_, pss_one (ps_ret (pe_joined (.cons pe_str (.cons (pe_fmt (pe_callB call_lenD (by rfl) B.len PySem.boot_len (pa_cons (pe_fld (pv 0) rfl) pa_nil))) (.cons pe_str .nil))))), ?_⟩
    have ek : kvs.length = (names g).length := by
      rw [he.length, ← spG_fst g 0, List.length_map]
    refine ⟨_, rfl, by decide +kernel, _, rfl, p, C, dx, _, _, rfl, i1, T.cl, T.nS, lf_spots _ _, d, kvs, rfl, hk, .inr ⟨_, rfl, ?_, _, rfl, ?_, _, rfl, ?_, ?_⟩⟩
    · rw [ek]
      exact str_n _ h36
    · rw [ek]
      exact lzl (by rw [add_len, add_len]; have := dig_len h36; have : (Str.empty).length = 0 := rfl; have : ("Land(" : Str).length = 5 := (by decide +kernel); omega)
    · rw [ek]
      exact lzl (by rw [add_len, add_len, add_len]; have := dig_len h36; have : (Str.empty).length = 0 := rfl; have : ("Land(" : Str).length = 5 := (by decide +kernel); have : (")" : Str).length = 1 := (by decide +kernel); omega)
    · have e0 : (Str.empty ++ ("Land(" : Str)) = ("Land(" : Str) := by decide +kernel
      rw [ek]
      show Q (.str (Str.empty ++ ("Land(" : Str) ++ _ ++ (")" : Str))) H
      rw [e0]
      exact q
/-! ### str -/
def showV : V → V
  | .non => .str "-"
  | v => v
theorem sum_len {m : Nat} : ∀ {l : List Str}, (∀ z ∈ l, z.length ≤ m) → (l.map (·.length)).sum ≤ l.length * m
  | [], _ => by simp
  | z :: r, h => by
    have h1 := h z List.mem_cons_self
    have h2 := sum_len (m := m) (l := r) fun y hy => h y (List.mem_cons_of_mem _ hy)
    rw [List.map_cons, List.sum_cons, List.length_cons, Nat.succ_mul]
    omega
theorem oV_inj {o u : Option Str} (h : oV o = oV u) : o = u := by
  cases o with
  | none =>
    cases u with
    | none => rfl
    | some z => cases h
  | some y =>
    cases u with
    | none => cases h
    | some z =>
      cases h
      rfl
theorem map_oV_inj : ∀ {r q : Row}, r.map oV = q.map oV → r = q
  | [], [], _ => rfl
  | [], _ :: _, e => by simp at e
  | _ :: _, [], e => by simp at e
  | o :: r, u :: q, e => by
    simp only [List.map_cons, List.cons.injEq] at e
    rw [oV_inj e.1, map_oV_inj e.2]
theorem lines_of {H : Hp} : ∀ {as : List Addr} {g : Grid} {zs : List V}, RowsAt H as g → Each (fun (x z : V) => ∀ (pr : Addr) (row : Row), x = .ref pr → H pr = some (.tup (row.map oV)) → z = .str (lineS row)) (as.map V.ref) zs → zs = (g.map lineS).map V.str
  | [], [], [], _, _ => rfl
  | [], [], _ :: _, _, h => nomatch h
  | [], _ :: _, _, h, _ => nomatch h
  | _ :: _, [], _, h, _ => nomatch h
  | _ :: _, _ :: _, [], _, h => nomatch h
  | a :: as, r :: g, z :: zs, .cons e t, .cons e' t' => by
    rw [e' a r rfl e, lines_of t t']
    rfl
def spLStr (C : Addr) : Sp := fun vs H Q _ => ∃ (p L : Addr) (g : Grid) (wd : Nat), vs = [.ref p] ∧ LandAt C H p L g ∧ Good g wd ∧ ∀ (H' : Hp), Same H H' → Q (.str (landS g)) H'
abbrev nStr : List Str := ["self", "row", "part"]
theorem scStr : FnScope nStr ["self"] (defScope sStr) := ⟨rfl, rfl, rfl, by decide +kernel, rfl, by decide +kernel, by decide +kernel⟩
theorem ok_lstr (F : Fun K "__str__" "Land.__str__" sStr f fd) (T : Txt K mg C) (hlk : ∃ t, mg "LAKE" = some (.str "-" t)) : FnOk P w K mg base CX0 1 f fd ["self"] (spLStr C) := by
  obtain ⟨tl, gl⟩ := hlk
  refine F.ok scStr (fun vs H Q E h => ?_) (fun cdv A outer s H vs Q E hr h => ?_)
  · obtain ⟨p, L, g, wd, rfl, _⟩ := h
    rfl
  · obtain ⟨p, L, g, wd, rfl, ⟨d, dx, i1, _, as, hL, hR⟩, gd, q⟩ := h
    refine ⟨_, pss_one (ps_ret (pe_join pe_str (pe_lc (own := [("row", 1)]) (g := gName 1) (tt := tYes) (te := tM1 (fun x xs H Q => ∃ a p, ∃ ys : List Str, x = .str a ∧ xs = [.ref p] ∧ (SqL K H p (ys.map V.str) ∨ SqT K H p (ys.map V.str)) ∧ (ys.map (·.length)).sum + ys.length * a.length ≤ 16777216 ∧ Q (.str (Txt.join a ys)) H) (tC (.str " ")) (tLc (iTup K (tVar 1)) (gName 2) tYes (tIf (tB (tIsN (tVar 2))) (tC (.str "-")) (tVar 2)) [2])) rfl scStr.nd (pi_tup (pe_fld (pv 0) rfl)) (blkOk_by (N := nStr) (sc := defScope sStr) (by decide +kernel)) (fun _ _ _ _ _ => pg_name (i := 1) scStr.nd rfl (.inl rfl)) (fun _ _ _ _ _ => pts_nil)
      (fun _ _ _ _ _ => pe_join pe_str (pe_lc (own := [("part", 2)]) (g := gName 2) (tt := tYes) rfl scStr.nd (pi_tup (pv 1)) (blkOk_by (N := nStr) (sc := { kind := .function, names := [(".0", .local), ("row", .local)], isGenerator := false, isCoroutine := false }) (by decide +kernel)) (fun _ _ _ _ _ => pg_name (i := 2) scStr.nd rfl (.inl rfl)) (fun _ _ _ _ _ => pts_nil) (fun _ _ _ _ _ => pe_ifExp (pt_cmp (pc_isN (pv 2))) (pe_glob (v := .str "-") (by rfl) gl ⟨_, rfl⟩) (pv 2))))))), ?_⟩
    refine ⟨⟨_, rfl⟩, _, rfl, p, C, dx, _, _, rfl, i1, T.cl, T.nR, lf_rows _ _, L, rfl, ⟨_, .inl (.inl hL)⟩, fun D hD => ?_⟩
    have h6 : as.length ≤ 6 := by rw [hR.length]; exact gd.h6
    refine lc_rel (walk_tup (K := K) (a := L) (xs := as.map V.ref)) hD (fun _ => true) (fun x y _ => ∀ (pr : Addr) (row : Row), x = .ref pr → H pr = some (.tup (row.map oV)) → y = .str (lineS row)) (fun H' s' => .inl (.inl (s' _ _ hL))) (fun _ => rfl) (fun x H' _ _ Q' q' => q') ?_ (fun _ _ _ _ _ _ _ r => r) ?_ ?_
    · intro x H' hx _ s' Q' q'
      obtain ⟨pr, hpr, rfl⟩ := List.mem_map.mp hx
      obtain ⟨i, hi, ei⟩ := List.mem_iff_getElem.mp hpr
      obtain ⟨row, hrow, hH⟩ := hR.get (i := i) (a := pr) (by rw [List.getElem?_eq_getElem hi, ei])
      have hrm := List.mem_of_getElem? hrow
      have hr6 : row.length ≤ 6 := gd.six row hrm
      refine ⟨⟨_, rfl⟩, _, rfl, pr, rfl, ⟨_, .inl (.inl (s' _ _ hH))⟩, fun D2 hD2 => ?_⟩
      refine lc_map (walk_tup (K := K) (a := pr) (xs := row.map oV)) hD2 (fun _ => true) showV (fun H2 s2 => .inl (.inl (s2 _ _ (s' _ _ hH)))) (fun _ => rfl) (fun x H' _ _ Q' q' => q') ?_ ?_ ?_
      · intro x H2 hx2 _ _ Q2 q2
        obtain ⟨o, _, rfl⟩ := List.mem_map.mp hx2
        refine ⟨_, rfl, _, rfl, ?_⟩
        cases o with
        | none => exact iteT q2
        | some z => exact iteF ⟨_, rfl, q2⟩
      · rw [List.length_map]
        exact small1000 (by omega)
      · intro H2 s2 hD3
        have e1 : ((row.map oV).filter fun _ => true).map showV = (row.map partS).map V.str := by
          rw [List.filter_eq_self.mpr fun _ _ => rfl, List.map_map, List.map_map]
          refine List.map_congr_left fun o _ => ?_
          cases o <;> rfl
        rw [e1] at hD3
        refine ⟨_, D2, row.map partS, rfl, rfl, .inl (.inl (.inl hD3)), ?_, q' _ H2 s2 fun pr2 row2 e2 h2 => ?_⟩
        · have := sum_len (l := row.map partS) (m := 8) fun z hz => by
            obtain ⟨o, ho, rfl⟩ := List.mem_map.mp hz
            rw [TL.len_tl]
            exact (part_tl (gd.parts row hrm o ho)).1
          rw [List.length_map] at this ⊢
          have e : (" " : Str).length = 1 := by decide +kernel
          rw [e]
          omega
        · obtain rfl : pr = pr2 := V.ref.inj e2
          rw [hH] at h2
          have : row = row2 := map_oV_inj (HO.tup.inj (Option.some.inj h2))
          rw [← this]
          rfl
    · rw [List.length_map]
      exact small1000 (by omega)
    · intro zs H1 s1 hD1 he
      rw [List.filter_eq_self.mpr fun _ _ => rfl] at he
      have e1 : zs = (g.map lineS).map V.str := lines_of hR he
      rw [e1] at hD1
      refine ⟨_, D, g.map lineS, rfl, rfl, .inl (.inl (.inl hD1)), ?_, q H1 s1⟩
      have := sum_len (l := g.map lineS) (m := 54) fun z hz => by
        obtain ⟨r, hr', rfl⟩ := List.mem_map.mp hz
        exact line_len (gd.parts r hr') (gd.six r hr')
      rw [List.length_map] at this ⊢
      have e : ("\n" : Str).length = 1 := by decide +kernel
      have := gd.h6
      rw [e]
      omega
end
end Wl





namespace Wl
open PySem PySem.Spec PyProof.Rows L2
abbrev sIsWhole : Stmt := topS 19
abbrev sIsNum : Stmt := topS 20
abbrev sCheckW : Stmt := topS 22
abbrev sCheckA : Stmt := topS 37
abbrev sCheckS : Stmt := topS 38
abbrev sKeyOf : Stmt := topS 39
abbrev sGat : Stmt := topS 41
abbrev sGInit : Stmt := inClass sGat 0
abbrev sGPlace : Stmt := inClass sGat 1
abbrev sGPut : Stmt := inClass sGat 2
/-- what was told -/
structure Tel where
  v : Str
  th : Str
  wo : Str
  tl : Str
  age : Nat
  g : Str
  sure : Bool
deriving DecidableEq
def telV (t : Tel) : List V := [.str t.v, .str t.th, .str t.wo, .str t.tl, .int (t.age : Int), .str t.g, .bl t.sure]
def keyV (t : Tel) : List V := [.str t.v, .str t.tl, .str t.th, .str t.g]
structure OkT (t : Tel) : Prop where
  v : IsWd t.v
  th : IsWd t.th
  wo : IsWd t.wo
  tl : IsWd t.tl
  age : t.age ≤ 120
  g : IsWd t.g
def TelsAt (H : Hp) (as : List Addr) (ts : List Tel) : Prop := Each (fun (p : Addr) (t : Tel) => H p = some (.tup (telV t))) as ts
theorem TelsAt.keep {H H' : Hp} {as : List Addr} {ts : List Tel} (h : TelsAt H as ts) (k : TupKeep H H') : TelsAt H' as ts := Each.mono (fun p t e => k p _ e) h
section
variable {P : Program} {w : World} {K : PySem.W.Frag} {mg : Str → Option Value} {base : Heap} {f C : Addr} {fd : FuncData}
structure Bg (mg : Str → Option Value) : Prop where
  bool : mg "bool" = none
  oldest : ∃ t, mg "OLDEST" = some (.int 120 t)
  most : ∃ t, mg "MOST_TELLINGS" = some (.int 200 t)
  dot : ∃ t, mg "DOT" = some (.str "." t)
  doubt : ∃ t, mg "DOUBT" = some (.str "?" t)
/-! ### is_whole, is_number_from -/
def spIsWhole : Sp := fun vs H Q _ => ∃ (n : Int), vs = [.int n] ∧ Q (.bl true) H
theorem scIsWhole : FnScope ["thing"] ["thing"] (defScope sIsWhole) := ⟨rfl, rfl, rfl, by decide +kernel, rfl, by decide +kernel, by decide +kernel⟩
theorem ok_iswhole (F : Fun K "is_whole" "is_whole" sIsWhole f fd) (B : Bi mg) (B2 : Bg mg) : FnOk P w K mg base CX0 1 f fd ["thing"] spIsWhole := by
  refine F.ok scIsWhole (fun vs H Q E h => ?_) (fun cdv A outer s H vs Q E hr h => ?_)
  · obtain ⟨n, rfl, _⟩ := h
    rfl
  · obtain ⟨n, rfl, q⟩ := h
    refine ⟨_, pss_one (ps_ret (pe_and (pe_callB call_isi (by rfl) B.isi (by decide +kernel) (pa_cons (pv 0) (pa_cons (pe_bltn (v := .ty "int") (by rfl) B.int (by decide +kernel) rfl) pa_nil)))
      (pe_one (pe_not (pe_callB call_isi (by rfl) B.isi (by decide +kernel) (pa_cons (pv 0) (pa_cons (pe_bltn (v := .ty "bool") (by rfl) B2.bool (by decide +kernel) rfl) pa_nil))))))), ?_⟩
    refine ⟨_, rfl, _, _, _, _, _, rfl, .ty "int", .base (.int n), kit_ty (r := true) (by decide +kernel), true, rfl, iteT ?_⟩
    exact ⟨_, rfl, _, _, _, _, _, rfl, .ty "bool", .base (.int n), kit_ty (r := false) (by decide +kernel), false, rfl, q⟩
def spIsNum : Sp := fun vs H Q _ => ∃ (n lo hi : Int), vs = [.int n, .int lo, .int hi] ∧ lo ≤ n ∧ n ≤ hi ∧ Q (.bl true) H
theorem scIsNum : FnScope ["thing", "least", "most"] ["thing", "least", "most"] (defScope sIsNum) := ⟨rfl, rfl, rfl, by decide +kernel, rfl, by decide +kernel, by decide +kernel⟩
theorem ok_isnum (F : Fun K "is_number_from" "is_number_from" sIsNum f fd) (hI : Has P w K mg base "is_whole" 1 ["thing"] spIsWhole) : FnOk P w K mg base CX0 2 f fd ["thing", "least", "most"] spIsNum := by
  refine F.ok scIsNum (fun vs H Q E h => ?_) (fun cdv A outer s H vs Q E hr h => ?_)
  · obtain ⟨n, lo, hi, rfl, _⟩ := h
    rfl
  · obtain ⟨n, lo, hi, rfl, h1, h2, q⟩ := h
    refine ⟨_, pss_one (ps_ret (pe_and (pe_h hI hr (pa_cons (pv 0) pa_nil)) (pe_one (pe_chain op_le op_le (pv 1) (pv 0) (pv 2))))), ?_⟩
    refine ⟨_, rfl, n, rfl, true, rfl, iteT ?_⟩
    refine ⟨_, rfl, _, rfl, _, _, rfl, rfl, _, rfl, ?_⟩
    rw [decide_eq_true h1]
    refine iteT ⟨_, rfl, _, _, rfl, rfl, ?_⟩
    show Q (.bl (decide (n ≤ hi))) H
    rw [decide_eq_true h2]
    exact q
/-! ### check_word -/
def spCheckW : Sp := fun vs H Q _ => ∃ (z : Str), vs = [.str z] ∧ IsWd z ∧ ∀ (H' : Hp), Same H H' → Q .non H'
theorem scCheckW : FnScope ["word"] ["word"] (defScope sCheckW) := ⟨rfl, rfl, rfl, by decide +kernel, rfl, by decide +kernel, by decide +kernel⟩
theorem ok_checkw (F : Fun K "check_word" "check_word" sCheckW f fd) (hI : Has P w K mg base "is_word" 1 ["thing"] spIsWord) : FnOk P w K mg base CX0 2 f fd ["word"] spCheckW := by
  refine F.ok scCheckW (fun vs H Q E h => ?_) (fun cdv A outer s H vs Q E hr h => ?_)
  · obtain ⟨z, rfl, _⟩ := h
    rfl
  · obtain ⟨z, rfl, hz, q⟩ := h
    refine ⟨_, pss_one (ps_if (pt_not (pt_val (pe_h hI hr (pa_cons (pv 0) pa_nil)))) (pss_one ps_never) pss_nil), ?_⟩
    refine ⟨_, rfl, z, rfl, by have := hz.len; omega, fun H1 s1 => ⟨_, rfl, ?_⟩⟩
    rw [show wdB z = true from hz]
    exact iteF (q H1 s1)
/-! ### check_age -/
def spCheckA : Sp := fun vs H Q _ => ∃ (n : Nat), vs = [.int (n : Int)] ∧ n ≤ 120 ∧ Q .non H
theorem scCheckA : FnScope ["age"] ["age"] (defScope sCheckA) := ⟨rfl, rfl, rfl, by decide +kernel, rfl, by decide +kernel, by decide +kernel⟩
theorem ok_checka (F : Fun K "check_age" "check_age" sCheckA f fd) (B2 : Bg mg) (hI : Has P w K mg base "is_number_from" 2 ["thing", "least", "most"] spIsNum) : FnOk P w K mg base CX0 3 f fd ["age"] spCheckA := by
  obtain ⟨t, gt⟩ := B2.oldest
  refine F.ok scCheckA (fun vs H Q E h => ?_) (fun cdv A outer s H vs Q E hr h => ?_)
  · obtain ⟨z, rfl, _⟩ := h
    rfl
  · obtain ⟨n, rfl, hn, q⟩ := h
    refine ⟨_, pss_one (ps_if (pt_not (pt_val (pe_h hI hr (pa_cons (pv 0) (pa_cons pe_int (pa_cons (pe_glob (v := .int 120) rfl gt ⟨_, rfl⟩) pa_nil)))))) (pss_one ps_never) pss_nil), ?_⟩
    exact ⟨_, rfl, n, 0, 120, rfl, by omega, by omega, true, rfl, iteF q⟩
/-! ### check_sure -/
def spCheckS : Sp := fun vs H Q _ => ∃ (b : Bool), vs = [.bl b] ∧ Q .non H
theorem scCheckS : FnScope ["sure"] ["sure"] (defScope sCheckS) := ⟨rfl, rfl, rfl, by decide +kernel, rfl, by decide +kernel, by decide +kernel⟩
theorem ok_checks (F : Fun K "check_sure" "check_sure" sCheckS f fd) (B : Bi mg) (B2 : Bg mg) : FnOk P w K mg base CX0 1 f fd ["sure"] spCheckS := by
  refine F.ok scCheckS (fun vs H Q E h => ?_) (fun cdv A outer s H vs Q E hr h => ?_)
  · obtain ⟨z, rfl, _⟩ := h
    rfl
  · obtain ⟨b, rfl, q⟩ := h
    refine ⟨_, pss_one (ps_if (pt_not (pt_val (pe_callB call_isi (by rfl) B.isi (by decide +kernel) (pa_cons (pv 0) (pa_cons (pe_bltn (v := .ty "bool") (by rfl) B2.bool (by decide +kernel) rfl) pa_nil))))) (pss_one ps_never) pss_nil), ?_⟩
    exact ⟨_, rfl, _, _, _, _, _, rfl, .ty "bool", .base (.bl b), kit_ty (r := true) (by decide +kernel), true, rfl, iteF q⟩
/-! ### key_of -/
def spKeyOf : Sp := fun vs H Q _ => ∃ (p : Addr) (t : Tel), vs = [.ref p] ∧ H p = some (.tup (telV t)) ∧ ∀ u, H u = none → Q (.ref u) (upd H u (.tup (keyV t)))
theorem scKeyOf : FnScope ["telling"] ["telling"] (defScope sKeyOf) := ⟨rfl, rfl, rfl, by decide +kernel, rfl, by decide +kernel, by decide +kernel⟩
theorem ok_keyof (F : Fun K "key_of" "key_of" sKeyOf f fd) : FnOk P w K mg base CX0 1 f fd ["telling"] spKeyOf := by
  refine F.ok scKeyOf (fun vs H Q E h => ?_) (fun cdv A outer s H vs Q E hr h => ?_)
  · obtain ⟨p, t, rfl, _⟩ := h
    rfl
  · obtain ⟨p, t, rfl, hp, q⟩ := h
    refine ⟨_, pss_one (ps_ret (pe_tup (pa_cons (pe_ix ix_tup (pv 0) pe_int (fun _ _ => rfl)) (pa_cons (pe_ix ix_tup (pv 0) pe_int (fun _ _ => rfl)) (pa_cons (pe_ix ix_tup (pv 0) pe_int (fun _ _ => rfl)) (pa_cons (pe_ix ix_tup (pv 0) pe_int (fun _ _ => rfl)) pa_nil)))))), ?_⟩
    refine ⟨_, rfl, p, _, _, _, rfl, rfl, .inl (.inl hp), atI_nat (j := 0) rfl, _, rfl, p, _, _, _, rfl, rfl, .inl (.inl hp), atI_nat (j := 3) rfl, _, rfl, p, _, _, _, rfl, rfl, .inl (.inl hp), atI_nat (j := 1) rfl, _, rfl, p, _, _, _, rfl, rfl, .inl (.inl hp), atI_nat (j := 5) rfl, lz, fun u hu => q u hu⟩
end
end Wl





namespace Wl
open PySem PySem.Spec PyProof.Rows L2
/-! A Gathering on the heap. -/
def gf (l t d : Addr) : List (Str × V) := putF "deeds" (.ref d) (putF "told" (.ref t) (putF "land" (.ref l) []))
theorem gf_land (l t d : Addr) : (gf l t d).lookup ("land" : Str) = some (.ref l) := by
  unfold gf
  rw [lookup_putF, if_neg (by decide +kernel), lookup_putF, if_neg (by decide +kernel), lookup_putF, if_pos rfl]
theorem gf_told (l t d : Addr) : (gf l t d).lookup ("told" : Str) = some (.ref t) := by
  unfold gf
  rw [lookup_putF, if_neg (by decide +kernel), lookup_putF, if_pos rfl]
theorem gf_deeds (l t d : Addr) : (gf l t d).lookup ("deeds" : Str) = some (.ref d) := by
  unfold gf
  rw [lookup_putF, if_pos rfl]
theorem gf_no (l t d : Addr) {m : Str} (h1 : ¬ m = "deeds" := by decide +kernel) (h2 : ¬ m = "told" := by decide +kernel) (h3 : ¬ m = "land" := by decide +kernel) : (gf l t d).lookup m = none := by
  unfold gf
  rw [lookup_putF, if_neg h1, lookup_putF, if_neg h2, lookup_putF, if_neg h3]
  rfl
structure GR where
  pl : Addr
  L : Addr
  td : Addr
  dd : Addr
  g : Grid
  as : List Addr
  ts : List Tel
  ds : List V
structure GatAt (C D : Addr) (H : Hp) (p : Addr) (r : GR) : Prop where
  at_ : ∃ dx, H p = some (.ins D dx (gf r.pl r.td r.dd))
  land : LandAt C H r.pl r.L r.g
  told : H r.td = some (.lst (r.as.map V.ref))
  tels : TelsAt H r.as r.ts
  deeds : H r.dd = some (.lst r.ds)
  ne : r.td ≠ r.dd
theorem GatAt.same {C D : Addr} {H H' : Hp} {p : Addr} {r : GR} (h : GatAt C D H p r) (s : Same H H') : GatAt C D H' p r :=
  ⟨let ⟨dx, e⟩ := h.at_; ⟨dx, s _ _ e⟩, h.land.keep (kp_same s), s _ _ h.told, h.tels.keep (tk_same s), s _ _ h.deeds, h.ne⟩
/-- all but what stands at a and b is as it was -/
def Same2 (a b : Addr) (H H' : Hp) : Prop := ∀ c o, c ≠ a → c ≠ b → H c = some o → H' c = some o
theorem Same2.of {a b : Addr} {H H' : Hp} (s : Same H H') : Same2 a b H H' := fun c o _ _ h => s c o h
theorem Same2.trans {a b : Addr} {H H1 H2 : Hp} (s : Same2 a b H H1) (t : Same2 a b H1 H2) : Same2 a b H H2 := fun c o n m h => t c o n m (s c o n m h)
structure TxtG (K : PySem.W.Frag) (mg : Str → Option Value) (D : Addr) : Prop where
  cl : Cls K D
  nL : NoAttr K D "land"
  nT : NoAttr K D "told"
  nD : NoAttr K D "deeds"
  mgD : mg "Gathering" = some (.ref D)
def keyS (t : Tel) : List Str := [t.v, t.tl, t.th, t.g]
theorem keyV_eq (t : Tel) : keyV t = (keyS t).map V.str := rfl
theorem strs_eqv : ∀ a b : List Str, PyData.eqvAll (a.map PyData.str) (b.map PyData.str) = decide (a = b)
  | [], [] => by simp [PyData.eqvAll]
  | [], _ :: _ => by simp [PyData.eqvAll]
  | _ :: _, [] => by simp [PyData.eqvAll]
  | x :: a, y :: b => by
    have e : PyData.eqv (.str x) (.str y) = decide (x = y) := o_eqv (some x) (some y) |>.trans (by simp)
    simp only [List.map_cons, PyData.eqvAll, e, strs_eqv a b, List.cons.injEq]
    by_cases h1 : x = y <;> by_cases h2 : a = b <;> simp [h1, h2]
theorem tup_eqv (a b : List Str) : PyData.eqv (.tuple (a.map PyData.str)) (.tuple (b.map PyData.str)) = decide (a = b) := by
  simp only [PyData.eqv, strs_eqv]
theorem shaped_strs {a : List Str} (h : ∀ z ∈ a, IsWd z) : SeqAt.shaped (.tuple (a.map PyData.str)) = true := shaped_tuple (lay_strs h) (by rw [depth_strs]; omega)
theorem OkT.key {t : Tel} (h : OkT t) : ∀ z ∈ keyS t, IsWd z := fun z hz => by
  simp only [keyS, List.mem_cons, List.not_mem_nil, or_false] at hz
  rcases hz with rfl | rfl | rfl | rfl
  · exact h.v
  · exact h.tl
  · exact h.th
  · exact h.g
section
variable {P : Program} {w : World} {K : PySem.W.Frag} {mg : Str → Option Value} {base : Heap} {f C D : Addr} {fd : FuncData}
theorem land_but {H H' : Hp} {p pl L dx : Addr} {g : Grid} {fs : List (Str × V)} (h : LandAt C H pl L g) (hp : H p = some (.ins D dx fs)) (n : p ≠ pl) (k : ∀ b o, b ≠ p → H b = some o → H' b = some o) : LandAt C H' pl L g := by
  obtain ⟨d, dl, k1, ⟨kvs, k2, k3⟩, k4⟩ := h
  have tk : TupKeep H H' := fun b xs e => k b _ (ne_of e hp (by intro z; cases z)) e
  exact ⟨d, dl, k _ _ n.symm k1, ⟨kvs, k _ _ (ne_of k2 hp (by intro z; cases z)) k2, ent_keep tk k3⟩, k4.keep tk⟩
/-! ### a new one -/
def spGInit (C D : Addr) : Sp := fun vs H Q _ => ∃ (p dx pl L : Addr) (g : Grid), vs = [.ref p, .ref pl] ∧ H p = some (.ins D dx []) ∧ LandAt C H pl L g ∧ p ≠ pl ∧
  ∀ (td dd : Addr) (H' : Hp), H td = none → H dd = none → (∀ b o, b ≠ p → H b = some o → H' b = some o) → GatAt C D H' p ⟨pl, L, td, dd, g, [], [], []⟩ → Q .non H'
theorem scGInit : FnScope ["self", "land"] ["self", "land"] (defScope sGInit) := ⟨rfl, rfl, rfl, by decide +kernel, rfl, by decide +kernel, by decide +kernel⟩
theorem ok_ginit (F : Fun K "__init__" "Gathering.__init__" sGInit f fd) (B : Bi mg) (T : Txt2 K mg C) (TG : TxtG K mg D) : FnOk P w K mg base CX0 1 f fd ["self", "land"] (spGInit C D) := by
  refine F.ok scGInit (fun vs H Q E h => ?_) (fun cdv A outer s H vs Q E hr h => ?_)
  · obtain ⟨p, dx, pl, L, g, rfl, _⟩ := h
    rfl
  · obtain ⟨p, dx, pl, L, g, rfl, hp, hLa, npl, q⟩ := h
    refine ⟨_, pss_cons (ps_if (pt_not (pt_val (pe_callB (C8.call_isC (C := C) T.ins) (by rfl) B.isi (by decide +kernel) (pa_cons (pv 1) (pa_cons (pe_glob (v := .ref C) rfl T.t.mgC rfl) pa_nil))))) (pss_one ps_never) pss_nil)
      (pss_cons (ps_fld (pv 0) (pv 1) rfl) (pss_cons (ps_fld (pv 0) (pe_lst pa_nil) rfl) (pss_one (ps_fld (pv 0) (pe_lst pa_nil) rfl)))), ?_⟩
    obtain ⟨dl, d, i1⟩ := hLa.ins
    refine ⟨_, rfl, pl, dl, _, rfl, i1, true, rfl, iteF ?_⟩
    refine ⟨_, rfl, _, rfl, p, D, dx, [], rfl, hp, TG.cl, TG.nL, (by show 0 < 1000; decide), ?_⟩
    refine ⟨lz, fun td htd => ⟨_, rfl, p, D, dx, putF "land" (.ref pl) [], rfl, (same_new htd) _ _ upd_same, TG.cl, TG.nT, (by show 1 < 1000; decide), ?_⟩⟩
    refine ⟨lz, fun dd hdd => ⟨_, rfl, p, D, dx, putF "told" (.ref td) (putF "land" (.ref pl) []), rfl, (same_new hdd) _ _ upd_same, TG.cl, TG.nD, (by show 2 < 1000; decide), ?_⟩⟩
    have ntp : td ≠ p := fun e => by
      rw [e, upd_same] at htd
      cases htd
    have htd0 : H td = none := by
      rw [upd_ne ntp] at htd
      exact htd
    have ndp : dd ≠ p := fun e => by
      rw [e, upd_same] at hdd
      cases hdd
    have ndt : dd ≠ td := fun e => by
      rw [e, upd_ne ntp, upd_same] at hdd
      cases hdd
    have hdd0 : H dd = none := by
      rw [upd_ne ndp, upd_ne ndt, upd_ne ndp] at hdd
      exact hdd
    have all : ∀ b o, b ≠ p → H b = some o → upd (upd (upd (upd (upd H p (.ins D dx (putF "land" (.ref pl) []))) td (.lst [])) p (.ins D dx (putF "told" (.ref td) (putF "land" (.ref pl) [])))) dd (.lst [])) p (.ins D dx (gf pl td dd)) b = some o := fun b o n e => by
      rw [upd_ne n, upd_ne (ne_of_none e hdd0), upd_ne n, upd_ne (ne_of_none e htd0), upd_ne n]
      exact e
    refine q td dd _ htd0 hdd0 all ⟨⟨dx, upd_same⟩, ?_, ?_, .nil, ?_, ndt.symm⟩
    · exact land_but hLa hp npl all
    · rw [upd_ne ntp, upd_ne ndt.symm, upd_ne ntp, upd_same]
      rfl
    · rw [upd_ne ndp, upd_same]
/-! ### where a key stands -/
def plV (o : Option Nat) : V := match o with
  | some i => .int (i : Int)
  | none => .non
def spGPlace (C D : Addr) : Sp := fun vs H Q _ => ∃ (p kp : Addr) (r : GR) (ks : List Str), vs = [.ref p, .ref kp] ∧ GatAt C D H p r ∧ (∀ t ∈ r.ts, OkT t) ∧ r.ts.length ≤ 200 ∧ H kp = some (.tup (ks.map V.str)) ∧ (∀ z ∈ ks, IsWd z) ∧
  ∀ (H' : Hp), Same H H' → Q (plV (r.ts.findIdx? fun t => decide (keyS t = ks))) H'
abbrev nGPlace : List Str := ["self", "key", "place", "telling"]
theorem scGPlace : FnScope nGPlace ["self", "key"] (defScope sGPlace) := ⟨rfl, rfl, rfl, by decide +kernel, rfl, by decide +kernel, by decide +kernel⟩
theorem find_at {α : Type} {q : α → Bool} {l : List α} {i : Nat} {x : α} (h : l[i]? = some x) (hq : q x = true) (hn : ∀ j y, j < i → l[j]? = some y → q y = false) : l.findIdx? q = some i := by
  rw [List.findIdx?_eq_some_iff_getElem]
  obtain ⟨hi, e⟩ := List.getElem?_eq_some_iff.mp h
  refine ⟨hi, by rw [e]; exact hq, fun j hj => ?_⟩
  rw [hn j _ hj (List.getElem?_eq_getElem (by omega))]
  decide
theorem ok_gplace (F : Fun K "place_of" "Gathering.place_of" sGPlace f fd) (B : Bi mg) (TG : TxtG K mg D) (hK : Has P w K mg base "key_of" 1 ["telling"] spKeyOf) : FnOk P w K mg base CX0 2 f fd ["self", "key"] (spGPlace C D) := by
  refine F.ok scGPlace (fun vs H Q E h => ?_) (fun cdv A outer s H vs Q E hr h => ?_)
  · obtain ⟨p, kp, r, ks, rfl, _⟩ := h
    rfl
  · obtain ⟨p, kp, r, ks, rfl, hG, hok, h200, hk, hkw, q⟩ := h
    refine ⟨_, pss_cons (ps_for PassesOwn.never rfl (pi_enum (by rfl) B.enum (pa_cons (pe_fld (pv 0) rfl) pa_nil)) (pg_tup rfl (pgs_cons (pg_name (i := 2) scGPlace.nd rfl (.inl rfl)) (pgs_cons (pg_name (i := 3) scGPlace.nd rfl (.inl rfl)) pgs_nil)))
        (pss_one (ps_if (pt_cmpR (op_eqD hr.units) (pe_h hK hr (pa_cons (pv 3) pa_nil)) (pv 1) (nomark _)) (pss_one (ps_ret (pv 2))) pss_nil)))
      (pss_one (ps_ret pe_non)), ?_⟩
    obtain ⟨dx, hp⟩ := hG.at_
    refine ⟨_, rfl, p, D, dx, _, _, rfl, hp, TG.cl, TG.nT, gf_told _ _ _, r.td, _, rfl, .inl (.inl hG.told), for_it (walk_enum (K := K) (a := r.td) (xs := r.as.map V.ref)) (fun i σ H' => (∃ y2 y3, σ = [some (.ref p), some (.ref kp), y2, y3]) ∧ Same H H' ∧ ∀ j t, j < i → r.ts[j]? = some t → keyS t ≠ ks)
      ⟨⟨_, _, rfl⟩, Same.refl H, fun j t hj => absurd hj (Nat.not_lt_zero _)⟩ (fun i σ H' _ h => .inl (.inl (h.2.1 _ _ hG.told))) ?_ ?_⟩
    · rintro i x σ H1 H2 hi ⟨⟨y2, y3, rfl⟩, s1, hno⟩ ⟨T, x1, x2, rfl, hT, rfl, ex1, ex2⟩
      have ex1 : (some (V.int (i : Nat)) : Option V) = some x1 := ex1
      cases ex1
      have ex2 : (r.as.map V.ref)[i]? = some x2 := ex2
      rw [List.getElem?_map] at ex2
      obtain ⟨pt, hpt, rfl⟩ := Option.map_eq_some_iff.mp ex2
      obtain ⟨t, ht, hpt1⟩ := Each.get hG.tels hpt
      have okt := hok t (List.mem_of_getElem? ht)
      have sT : Same H1 (upd H1 T (.tup [V.int (i : Nat), .ref pt])) := same_new hT
      refine ⟨T, _, rfl, .inl (.inl upd_same), rfl, _, _, rfl, _, _, rfl, rfl, ?_⟩
      have s2 := s1.trans sT
      generalize upd H1 T (.tup [V.int (i : Nat), .ref pt]) = H2 at s2
      refine ⟨_, rfl, pt, t, rfl, s2 _ _ hpt1, fun u hu => ?_⟩
      have s3 := same_new (o := .tup (keyV t)) hu
      refine ⟨_, rfl, .tuple ((keyS t).map .str), .tuple (ks.map .str), .tup (.inl (.inl upd_same)) (dp_strs (keyS t)), .tup (.inl (.inl (s3 _ _ (s2 _ _ hk)))) (dp_strs ks), shaped_strs okt.key, shaped_strs hkw, _, rfl, ?_⟩
      rw [tup_eqv]
      refine ite_b (fun e => ?_) (fun e => ?_)
      · refine ⟨_, rfl, ?_⟩
        have := q _ (s2.trans s3)
        rw [find_at ht e fun j y hj hy => decide_eq_false (hno j y hj hy)] at this
        exact this
      · refine ⟨⟨_, _, rfl⟩, s2.trans s3, fun j y hj hy => ?_⟩
        by_cases c : j = i
        · subst c
          rw [ht] at hy
          cases hy
          exact of_decide_eq_false e
        · exact hno j y (by omega) hy
    · rintro σ H1 ⟨⟨y2, y3, rfl⟩, s1, hno⟩
      have e : (r.ts.findIdx? fun t => decide (keyS t = ks)) = none := by
        rw [List.findIdx?_eq_none_iff]
        intro t ht
        obtain ⟨j, hj, ej⟩ := List.mem_iff_getElem.mp ht
        refine decide_eq_false (hno j t ?_ (by rw [List.getElem?_eq_getElem hj, ej]))
        rw [List.length_map]
        have := hG.tels.length
        omega
      have := q H1 s1
      rw [e] at this
      exact this
end
end Wl





namespace Wl
open PySem PySem.Spec PyProof.Rows L2
abbrev psPut : List Str := ["self", "village", "thing", "word", "teller", "age", "gatherer", "sure"]
abbrev nPut : List Str := ["self", "village", "thing", "word", "teller", "age", "gatherer", "sure", "key"]
theorem scPut : FnScope nPut psPut (defScope sGPut) := ⟨rfl, rfl, rfl, by decide +kernel, rfl, by decide +kernel, by decide +kernel⟩
def GR.add (r : GR) (q : Addr) (t : Tel) : GR := { r with as := r.as ++ [q], ts := r.ts ++ [t], ds := r.ds ++ [.non] }
section
variable {P : Program} {w : World} {K : PySem.W.Frag} {mg : Str → Option Value} {base : Heap} {f C D : Addr} {fd : FuncData}
/-- put: the last two may be left out -/
abbrev FunP (K : PySem.W.Frag) (f : Addr) (fd : FuncData) : Prop := FunD K "put" "Gathering.put" (defArgs sGPut) (defBody sGPut) (defScope sGPut) [.str "self", .bl true] [] f fd
theorem okD {x qual : Str} {params : Arguments} {body : List Stmt} {scope : Scope} {dvs : List V} {N ps : List Str} {k : Nat} {sp : Sp} (F : FunD K x qual params body scope dvs [] f fd) (S : FnScope N ps scope) (len : ∀ vs H Q E, sp vs H Q E → vs.length = ps.length)
    (hbody : ∀ (cdv : Value) (A : Around) (outer : List Env) (s : Shared) (H : Hp) (vs : List V) (Q : VK) (E : XK), Room k (A.deeper (envOfC qual scope s.heap.objs.size f cdv)) → sp vs H Q E →
      ∃ t, PSs (cxOf CX0 P w K mg base N qual scope f cdv A outer s H E).nox body t ∧ t { nx := fun _ H' => Q .non H', rt := Q } (start N vs) H) : FnOk P w K mg base CX0 (k + 1) f fd ps sp :=
  F.ok S len fun cdv A outer s H vs Q E hr hsp => let ⟨t, h, q⟩ := hbody cdv A outer s H vs Q E hr hsp; ⟨t, h.nox, q⟩
def spPut (C D : Addr) : Sp := fun vs H Q _ => ∃ (p : Addr) (r : GR) (wd : Nat) (t : Tel), vs = .ref p :: telV t ∧ GatAt C D H p r ∧ Good r.g wd ∧ (∀ u ∈ r.ts, OkT u) ∧ OkT t ∧ t.v ∈ names r.g ∧ keyS t ∉ r.ts.map keyS ∧ r.ts.length < 200 ∧ r.ds.length < 1000 ∧
  ∀ (q : Addr) (H' : Hp), H q = none → Same2 r.td r.dd H H' → GatAt C D H' p (r.add q t) → Q .non H'
theorem find_no {l : List Tel} {t : Tel} (h : keyS t ∉ l.map keyS) : (l.findIdx? fun u => decide (keyS u = keyS t)) = none := by
  rw [List.findIdx?_eq_none_iff]
  intro u hu
  exact decide_eq_false fun e => h (List.mem_map.mpr ⟨u, hu, e⟩)
theorem ok_put (F : FunP K f fd) (B : Bi mg) (B2 : Bg mg) (T : Txt K mg C) (TG : TxtG K mg D) (hCk : HasM P w K mg base C "check_name" 2 ["self", "name"] (spCheck C)) (hW : Has P w K mg base "check_word" 2 ["word"] spCheckW)
    (hA : Has P w K mg base "check_age" 3 ["age"] spCheckA) (hS : Has P w K mg base "check_sure" 1 ["sure"] spCheckS) (hP : HasM P w K mg base D "place_of" 2 ["self", "key"] (spGPlace C D)) : FnOk P w K mg base CX0 4 f fd psPut (spPut C D) := by
  obtain ⟨t200, g200⟩ := B2.most
  refine okD F scPut (fun vs H Q E h => ?_) (fun cdv A outer s H vs Q E hr h => ?_)
  · obtain ⟨p, r, wd, t, rfl, _⟩ := h
    rfl
  · obtain ⟨p, r, wd, t, rfl, hG, gd, hok, okt, hv, hnew, h200, hds, q⟩ := h
    refine ⟨_, pss_cons (ps_expr (pe_hm hCk T.cl hr (pe_fld (pv 0) rfl) (pa_cons (pv 1) pa_nil)))
      (pss_cons (ps_expr (pe_h hW hr (pa_cons (pv 2) pa_nil)))
      (pss_cons (ps_expr (pe_h hW hr (pa_cons (pv 3) pa_nil)))
      (pss_cons (ps_expr (pe_h hW hr (pa_cons (pv 4) pa_nil)))
      (pss_cons (ps_expr (pe_h hA hr (pa_cons (pv 5) pa_nil)))
      (pss_cons (ps_expr (pe_h hW hr (pa_cons (pv 6) pa_nil)))
      (pss_cons (ps_expr (pe_h hS hr (pa_cons (pv 7) pa_nil)))
      (pss_cons (ps_set (i := 8) scPut.nd rfl (.inl rfl) (pe_tup (pa_cons (pv 1) (pa_cons (pv 4) (pa_cons (pv 2) (pa_cons (pv 6) pa_nil))))))
      (pss_cons (ps_if (pt_cmp (pc_notN (pe_hm hP TG.cl hr (pv 0) (pa_cons (pv 8) pa_nil)))) (pss_one ps_never) pss_nil)
      (pss_cons (ps_if (pt_cmpR op_ge (pe_callB call_len_seq (by rfl) B.len PySem.boot_len (pa_cons (pe_fld (pv 0) rfl) pa_nil)) (pe_glob (v := .int 200) rfl g200 ⟨_, rfl⟩) (nomark _)) (pss_one ps_never) pss_nil)
      (pss_cons (ps_expr (pe_bm PySem.F.plainAttrs_list PySem.F.slot_list_append PySem.F.type_list_append mt_append (pe_fld (pv 0) rfl) (pa_cons (pe_tup (pa_cons (pv 1) (pa_cons (pv 2) (pa_cons (pv 3) (pa_cons (pv 4) (pa_cons (pv 5) (pa_cons (pv 6) (pa_cons (pv 7) pa_nil)))))))) pa_nil)))
      (pss_one (ps_expr (pe_bm PySem.F.plainAttrs_list PySem.F.slot_list_append PySem.F.type_list_append mt_append (pe_fld (pv 0) rfl) (pa_cons pe_non pa_nil)))))))))))))), ?_⟩
    obtain ⟨dx, hp⟩ := hG.at_
    obtain ⟨dl, d, hl⟩ := hG.land.ins
    refine ⟨_, rfl, p, D, dx, _, _, rfl, hp, TG.cl, TG.nL, gf_land _ _ _, r.pl, dl, _, rfl, hl, fs_no, _, rfl, r.pl, r.L, r.g, wd, t.v, rfl, hG.land, gd, hv, fun H1 s1 => ?_⟩
    refine ⟨_, rfl, t.th, rfl, okt.th, fun H2 s2 => ?_⟩
    refine ⟨_, rfl, t.wo, rfl, okt.wo, fun H3 s3 => ?_⟩
    refine ⟨_, rfl, t.tl, rfl, okt.tl, fun H4 s4 => ?_⟩
    refine ⟨_, rfl, t.age, rfl, okt.age, ?_⟩
    refine ⟨_, rfl, t.g, rfl, okt.g, fun H5 s5 => ?_⟩
    refine ⟨_, rfl, t.sure, rfl, ?_⟩
    have s15 := ((s1.trans s2).trans (s3.trans s4)).trans s5
    refine ⟨_, rfl, _, rfl, _, rfl, _, rfl, lz, fun kp hkp => ?_⟩
    have s6 := same_new (o := .tup [V.str t.v, V.str t.tl, V.str t.th, V.str t.g]) hkp
    have hkp6 : upd H5 kp (.tup [V.str t.v, V.str t.tl, V.str t.th, V.str t.g]) kp = some (.tup ((keyS t).map V.str)) := upd_same
    have s16 := s15.trans s6
    have hG6 := hG.same s16
    generalize upd H5 kp (.tup [V.str t.v, V.str t.tl, V.str t.th, V.str t.g]) = H6 at hkp6 s16 hG6
    obtain ⟨dx6, hp6⟩ := hG6.at_
    refine ⟨_, rfl, p, dx6, _, rfl, hp6, gf_no _ _ _, _, rfl, p, kp, r, keyS t, rfl, hG6, hok, by omega, hkp6, okt.key, fun H7 s7 => ?_⟩
    rw [find_no hnew]
    refine ⟨_, rfl, iteF ?_⟩
    have hG7 := hG6.same s7
    obtain ⟨dx7, hp7⟩ := hG7.at_
    have hlen : r.as.length = r.ts.length := hG.tels.length
    refine ⟨_, rfl, p, D, dx7, _, _, rfl, hp7, TG.cl, TG.nT, gf_told _ _ _, r.td, _, rfl, .inl (.inl (.inl hG7.told)), _, _, rfl, rfl, _, rfl, ?_⟩
    have hno : decide ((200 : Int) ≤ ((r.as.map V.ref).length : Int)) = false := decide_eq_false (by rw [List.length_map]; omega)
    rw [hno]
    refine iteF ⟨_, rfl, p, D, dx7, _, _, rfl, hp7, TG.cl, TG.nT, gf_told _ _ _, .inl ⟨rfl, _, .inl (.inl hG7.told)⟩, _, rfl, _, rfl, _, rfl, _, rfl, _, rfl, _, rfl, _, rfl, lz, fun qa hqa => ?_⟩
    have s8 := same_new (o := .tup [V.str t.v, V.str t.th, V.str t.wo, V.str t.tl, V.int (t.age : Int), V.str t.g, V.bl t.sure]) hqa
    have hG8 := hG7.same s8
    have hqa8 : upd H7 qa (.tup [V.str t.v, V.str t.th, V.str t.wo, V.str t.tl, V.int (t.age : Int), V.str t.g, V.bl t.sure]) qa = some (.tup (telV t)) := upd_same
    have s18 := s16.trans (s7.trans s8)
    have hqa0 : H qa = none := (s16.trans s7).free hqa
    refine ⟨r.td, _, _, rfl, rfl, hG8.told, by rw [List.length_map]; exact small1000 (by omega), ?_⟩
    obtain ⟨dx8, hp8⟩ := hG8.at_
    have hd8 := hG8.deeds
    have ht8 := hG8.told
    generalize upd H7 qa (.tup [V.str t.v, V.str t.th, V.str t.wo, V.str t.tl, V.int (t.age : Int), V.str t.g, V.bl t.sure]) = H8 at hG8 hqa8 s18 hp8 hd8 ht8
    have k9 : Keep H8 (upd H8 r.td (.lst (r.as.map V.ref ++ [.ref qa]))) := kp_upd ht8
    have hp9 := k9 _ _ (fun xs e => by cases e) hp8
    have hd9 : upd H8 r.td (.lst (r.as.map V.ref ++ [.ref qa])) r.dd = some (.lst r.ds) := by
      rw [upd_ne hG.ne.symm]
      exact hd8
    have ht9 : upd H8 r.td (.lst (r.as.map V.ref ++ [.ref qa])) r.td = some (.lst (r.as.map V.ref ++ [.ref qa])) := upd_same
    have m9 : Same2 r.td r.dd H8 (upd H8 r.td (.lst (r.as.map V.ref ++ [.ref qa]))) := fun c o n _ e => by
      rw [upd_ne n]
      exact e
    generalize upd H8 r.td (.lst (r.as.map V.ref ++ [.ref qa])) = H9 at k9 hp9 hd9 ht9 m9
    refine ⟨_, rfl, p, D, dx8, _, _, rfl, hp9, TG.cl, TG.nD, gf_deeds _ _ _, .inl ⟨rfl, _, .inl (.inl hd9)⟩, r.dd, _, _, rfl, rfl, hd9, small1000 (by omega), ?_⟩
    have k10 : Keep H9 (upd H9 r.dd (.lst (r.ds ++ [.non]))) := kp_upd hd9
    have kk := k9.trans k10
    refine q qa _ hqa0 ?_ ⟨⟨dx8, k10 _ _ (fun xs e => by cases e) hp9⟩, hG8.land.keep kk, ?_, ?_, upd_same, hG.ne⟩
    · refine (Same2.of s18).trans (m9.trans fun c o _ n e => ?_)
      rw [upd_ne n]
      exact e
    · show upd H9 r.dd (.lst (r.ds ++ [.non])) r.td = some (.lst ((r.as ++ [qa]).map V.ref))
      rw [upd_ne hG.ne, ht9, List.map_append]
      rfl
    · exact Each.append (hG8.tels.keep kk.tk) (.cons (kk.tk _ _ hqa8) .nil)
end
end Wl





namespace Wl
open PySem PySem.Spec PyProof.Rows L2
/-! o.m(e, .., k = v, ..) of a method that may leave some out. -/
def tMethN (C : Addr) (m : Str) (n j : Nat) (sp : Sp) (gV : List V → List V → List V) (E : XK) (ta : TE) (t tk : TA) : TE := fun σ H Q => ta σ H fun x H1 =>
  ∃ a dx fs, x = .ref a ∧ H1 a = some (.ins C dx fs) ∧ fs.lookup m = none ∧ t σ H1 fun vs H2 => tk σ H2 fun zs H3 => vs.length = n ∧ zs.length = j ∧ sp (gV (.ref a :: vs) zs) H3 Q E
section
variable {X : Cx} {CX : CXT} {k n : Nat} {f C : Addr} {fd : FuncData} {ps ks : List Str} {sp : Sp} {E : XK} {m : Str} {pos apos : Pos} {o e : Expr} {es : List Expr} {kws : List Keyword} {ta : TE} {t tk : TA} {pl : Sem Bool} {g : List Value → List Value → List Value} {gV : List V → List V → List V}
theorem pe_methN0 (he : PE X o ta) (c : Cls X.K C) (hm : Meth X.K C m f) (F : FnOk X.prog X.w X.K X.mg X.base CX k f fd ps sp) (hr : Room k X.A) (hb : KBn X.K fd ps 1 ks g gV) (hx : Passes CX X E) (hkw : PK X kws tk)
    (hall : (backToKw pos (keywordEach kws X.env)).all (·.1.isSome) = true := by rfl) (hks : (backToKw pos (keywordEach kws X.env)).filterMap (·.1) = ks := by rfl)
    (hpl : ((backTo pos (starEach [] X.env)).any (·.1) || (backToKw pos (keywordEach kws X.env)).any (·.1.isNone)) = false := by rfl)
    (ht : eval (.Call (.Attribute o m apos) [] kws pos) X.env = (do
      let ov ← eval o X.env
      standAt apos.atName
      let (f, first) ← holding [ov] (getMethod ov m pl)
      callWith pos f first (backTo pos (starEach [] X.env)) (backToKw pos (keywordEach kws X.env))) := by rfl) :
    PE X (.Call (.Attribute o m apos) [] kws pos) (tMethN C m 0 ks.length sp gV E ta tNil tk) := by
  refine ⟨fun pins s σ H Q I h => ?_⟩
  refine PySem.W.methodCall_KW (pl := pl) (thn (he.run pins s σ H _ I h) fun u s1 ⟨x, H1, I1, rx, a, dx, fs, ex, ea, l, q⟩ => ?_) ht
  subst ex
  obtain rfl : u = Value.ref a := rx
  refine getmeth_ok I1 ea c hm l ?_
  refine PySem.W.callWith_KW0 (first := [.ref a]) (h₀ := X.base) I.ok.mod.kin hm.kp hall (thn (hkw.run pos pins s1 σ H1 _ I1 q) fun ws s2 ⟨zs, H2, I2, rz, _, l2, q2⟩ => ⟨I2.kIn, ?_⟩) hpl
  rw [hks]
  exact run_fnN (us := [.ref a]) (vs := [.ref a]) F hr hb hx I2 (.cons rfl .nil) rz rfl l2 q2
theorem pe_methN (he : PE X o ta) (c : Cls X.K C) (hm : Meth X.K C m f) (F : FnOk X.prog X.w X.K X.mg X.base CX k f fd ps sp) (hr : Room k X.A) (hb : KBn X.K fd ps (n + 1) ks g gV) (hx : Passes CX X E) (ha : PA X (e :: es) t) (hkw : PK X kws tk)
    (hall : (backToKw pos (keywordEach kws X.env)).all (·.1.isSome) = true := by rfl) (hks : (backToKw pos (keywordEach kws X.env)).filterMap (·.1) = ks := by rfl)
    (hst : starEach (e :: es) X.env = (false, eval e X.env) :: starEach es X.env := by rfl)
    (hpl : ((backTo pos (starEach (e :: es) X.env)).any (·.1) || (backToKw pos (keywordEach kws X.env)).any (·.1.isNone)) = false := by rfl)
    (ht : eval (.Call (.Attribute o m apos) (e :: es) kws pos) X.env = (do
      let ov ← eval o X.env
      standAt apos.atName
      let (f, first) ← holding [ov] (getMethod ov m pl)
      callWith pos f first (backTo pos (starEach (e :: es) X.env)) (backToKw pos (keywordEach kws X.env))) := by rfl) :
    PE X (.Call (.Attribute o m apos) (e :: es) kws pos) (tMethN C m n ks.length sp gV E ta t tk) := by
  refine ⟨fun pins s σ H Q I h => ?_⟩
  refine PySem.W.methodCall_KW (pl := pl) (thn (he.run pins s σ H _ I h) fun u s1 ⟨x, H1, I1, rx, a, dx, fs, ex, ea, l, q⟩ => ?_) ht
  subst ex
  obtain rfl : u = Value.ref a := rx
  refine getmeth_ok I1 ea c hm l ?_
  refine PySem.W.callWith_KW (first := [.ref a]) (h₀ := X.base) I.ok.mod.kin hm.kp hall (thn (ha.run pos pins s1 σ H1 _ I1 q) fun us s2 ⟨vs, H2, I2, r, q2⟩ => ?_) hpl hst
  refine thn (hkw.run pos pins s2 σ H2 _ I2 q2) fun ws s3 ⟨zs, H3, I3, rz, l1, l2, q3⟩ => ⟨I3.kIn, ?_⟩
  rw [hks]
  exact run_fnN (us := .ref a :: us) (vs := .ref a :: vs) F hr hb hx I3 (.cons rfl r) rz (by rw [List.length_cons, l1]) l2 q3
end
/-! the ways to call put -/
/-- age, village, gatherer, word, teller, thing; sure left out -/
def gP1 {α : Type} : List α → List α → List α → List α
  | [s], [_, b], [ag, v, g, w, tl, th] => [s, v, th, w, tl, ag, g, b]
  | _, _, _ => []
/-- five by place, sure by name -/
def gP2 {α : Type} : List α → List α → List α → List α
  | [s, v, th, w, tl, ag], [g, _], [b] => [s, v, th, w, tl, ag, g, b]
  | _, _, _ => []
/-- all by name: sure, gatherer, age, teller, word, thing, village -/
def gP3 {α : Type} : List α → List α → List α → List α
  | [s], [_, _], [b, g, ag, tl, w, th, v] => [s, v, th, w, tl, ag, g, b]
  | _, _, _ => []
theorem gP1_rel {vs ds zs : List V} {us its ws : List Value} (r1 : Vals vs us) (r2 : Vals ds its) (r3 : Vals zs ws) : Vals (gP1 vs ds zs) (gP1 us its ws) := by
  rcases r1 with _ | ⟨a1, _ | ⟨_, _⟩⟩
  · exact .nil
  · rcases r2 with _ | ⟨b1, _ | ⟨b2, _ | ⟨_, _⟩⟩⟩
    · exact .nil
    · exact .nil
    · rcases r3 with _ | ⟨c1, _ | ⟨c2, _ | ⟨c3, _ | ⟨c4, _ | ⟨c5, _ | ⟨c6, _ | ⟨_, _⟩⟩⟩⟩⟩⟩⟩
      all_goals first | exact .nil | exact .cons a1 (.cons c2 (.cons c6 (.cons c4 (.cons c5 (.cons c1 (.cons c3 (.cons b2 .nil)))))))
    · exact .nil
  · exact .nil
theorem gP2_rel {vs ds zs : List V} {us its ws : List Value} (r1 : Vals vs us) (r2 : Vals ds its) (r3 : Vals zs ws) : Vals (gP2 vs ds zs) (gP2 us its ws) := by
  rcases r1 with _ | ⟨a1, _ | ⟨a2, _ | ⟨a3, _ | ⟨a4, _ | ⟨a5, _ | ⟨a6, _ | ⟨_, _⟩⟩⟩⟩⟩⟩⟩
  all_goals first | exact .nil | skip
  rcases r2 with _ | ⟨b1, _ | ⟨b2, _ | ⟨_, _⟩⟩⟩
  all_goals first | exact .nil | skip
  rcases r3 with _ | ⟨c1, _ | ⟨_, _⟩⟩
  all_goals first | exact .nil | exact .cons a1 (.cons a2 (.cons a3 (.cons a4 (.cons a5 (.cons a6 (.cons b1 (.cons c1 .nil)))))))
theorem gP3_rel {vs ds zs : List V} {us its ws : List Value} (r1 : Vals vs us) (r2 : Vals ds its) (r3 : Vals zs ws) : Vals (gP3 vs ds zs) (gP3 us its ws) := by
  rcases r1 with _ | ⟨a1, _ | ⟨_, _⟩⟩
  all_goals first | exact .nil | skip
  rcases r2 with _ | ⟨b1, _ | ⟨b2, _ | ⟨_, _⟩⟩⟩
  all_goals first | exact .nil | skip
  rcases r3 with _ | ⟨c1, _ | ⟨c2, _ | ⟨c3, _ | ⟨c4, _ | ⟨c5, _ | ⟨c6, _ | ⟨c7, _ | ⟨_, _⟩⟩⟩⟩⟩⟩⟩⟩
  all_goals first | exact .nil | exact .cons a1 (.cons c7 (.cons c6 (.cons c5 (.cons c4 (.cons c3 (.cons c2 (.cons c1 .nil)))))))
section
variable {K : PySem.W.Frag} {f : Addr} {fd : FuncData}
theorem put_b8 (F : FunP K f fd) : Binds K fd psPut [] := by
  obtain ⟨ds, h1, h2⟩ := F.binds1 (ps := psPut) 8 2 (by simp) rfl (fun T kV doc pm an cdv ct us its l1 l2 => by
      match us, its, l1, l2 with
      | [_, _, _, _, _, _, _, _], [_, _], _, _ => exact ⟨_, rfl, rfl⟩)
  cases h1
  exact h2
theorem put_b6 (F : FunP K f fd) : ∃ ds, Vals [V.str "self", V.bl true] ds ∧ Binds K fd psPut ds :=
  F.binds1 (ps := psPut) 6 0 (by simp) rfl (fun T kV doc pm an cdv ct us its l1 l2 => by
      match us, its, l1, l2 with
      | [_, _, _, _, _, _], [_, _], _, _ => exact ⟨_, rfl, rfl⟩)
theorem put_k1 (F : FunP K f fd) : ∃ its : List Value, KBn K fd psPut 1 ["age", "village", "gatherer", "word", "teller", "thing"] (fun us ws => gP1 us its ws) (fun vs zs => gP1 vs [.str "self", .bl true] zs) :=
  F.kbindsD 1 _ gP1 (by simp) gP1_rel (fun T kV doc pm an cdv ct us its ws l1 l2 l3 => by
      match us, its, ws, l1, l2, l3 with
      | [_], [_, _], [_, _, _, _, _, _], _, _, _ => exact ⟨_, rfl, rfl⟩)
theorem put_k2 (F : FunP K f fd) : ∃ its : List Value, KBn K fd psPut 6 ["sure"] (fun us ws => gP2 us its ws) (fun vs zs => gP2 vs [.str "self", .bl true] zs) :=
  F.kbindsD 6 _ gP2 (by simp) gP2_rel (fun T kV doc pm an cdv ct us its ws l1 l2 l3 => by
      match us, its, ws, l1, l2, l3 with
      | [_, _, _, _, _, _], [_, _], [_], _, _, _ => exact ⟨_, rfl, rfl⟩)
theorem put_k3 (F : FunP K f fd) : ∃ its : List Value, KBn K fd psPut 1 ["sure", "gatherer", "age", "teller", "word", "thing", "village"] (fun us ws => gP3 us its ws) (fun vs zs => gP3 vs [.str "self", .bl true] zs) :=
  F.kbindsD 1 _ gP3 (by simp) gP3_rel (fun T kV doc pm an cdv ct us its ws l1 l2 l3 => by
      match us, its, ws, l1, l2, l3 with
      | [_], [_, _], [_, _, _, _, _, _, _], _, _, _ => exact ⟨_, rfl, rfl⟩)
end
end Wl





namespace Wl
open PySem PySem.Spec PyProof.Rows L2
abbrev sTelRow : Stmt := topS 40
abbrev sGLen : Stmt := inClass sGat 11
abbrev sGStr : Stmt := inClass sGat 12
abbrev sGRepr : Stmt := inClass sGat 13
def ageS (n : Nat) : Str := (toString (n : Int) : String)
def partsS (t : Tel) : List Str := [t.v, t.th, t.wo, t.tl, ageS t.age, t.g]
def rowS (t : Tel) : Str := Txt.join (" " : Str) (if t.sure = true then partsS t else partsS t ++ [("?" : Str)])
theorem age_len {n : Nat} (h : n ≤ 120) : (ageS n).length ≤ 3 := by
  have : ∀ k : Fin 121, (ageS k.val).length ≤ 3 := by decide +kernel
  exact this ⟨n, by omega⟩
theorem age_log {n : Nat} (h : n ≤ 120) : (((n : Nat) : Int).natAbs).log2 < 1920 := by
  have : ((n : Nat) : Int).natAbs = n := Int.natAbs_natCast n
  rw [this]
  have h2 : n.log2 ≤ n := Nat.log2_le_self n
  omega
theorem parts_len {t : Tel} (h : OkT t) : ∀ z ∈ partsS t ++ [("?" : Str)], z.length ≤ 8 := fun z hz => by
  simp only [partsS, List.cons_append, List.nil_append, List.mem_cons, List.not_mem_nil, or_false] at hz
  rcases hz with rfl | rfl | rfl | rfl | rfl | rfl | rfl
  · exact h.v.len.2
  · exact h.th.len.2
  · exact h.wo.len.2
  · exact h.tl.len.2
  · have := age_len h.age
    omega
  · exact h.g.len.2
  · decide +kernel
section
variable {P : Program} {w : World} {K : PySem.W.Frag} {mg : Str → Option Value} {base : Heap} {f C D : Addr} {fd : FuncData}
/-! ### len -/
def spGLen (C D : Addr) : Sp := fun vs H Q _ => ∃ (p : Addr) (r : GR), vs = [.ref p] ∧ GatAt C D H p r ∧ Q (.int r.ts.length) H
theorem scGLen : FnScope ["self"] ["self"] (defScope sGLen) := ⟨rfl, rfl, rfl, by decide +kernel, rfl, by decide +kernel, by decide +kernel⟩
theorem ok_glen (F : Fun K "__len__" "Gathering.__len__" sGLen f fd) (B : Bi mg) (TG : TxtG K mg D) : FnOk P w K mg base CX0 1 f fd ["self"] (spGLen C D) := by
  refine F.ok scGLen (fun vs H Q E h => ?_) (fun cdv A outer s H vs Q E hr h => ?_)
  · obtain ⟨p, r, rfl, _⟩ := h
    rfl
  · obtain ⟨p, r, rfl, hG, q⟩ := h
    refine ⟨_, pss_one (ps_ret (pe_callB call_len_seq (by rfl) B.len PySem.boot_len (pa_cons (pe_fld (pv 0) rfl) pa_nil))), ?_⟩
    obtain ⟨dx, hp⟩ := hG.at_
    refine ⟨_, rfl, p, D, dx, _, _, rfl, hp, TG.cl, TG.nT, gf_told _ _ _, r.td, _, rfl, .inl (.inl (.inl hG.told)), ?_⟩
    rw [List.length_map, hG.tels.length]
    exact q
/-! ### a telling's row -/
def spTelRow : Sp := fun vs H Q _ => ∃ (p : Addr) (t : Tel), vs = [.ref p] ∧ H p = some (.tup (telV t)) ∧ OkT t ∧ ∀ (H' : Hp), Same H H' → Q (.str (rowS t)) H'
abbrev nTelRow : List Str := ["telling", "village", "thing", "word", "teller", "age", "gatherer", "sure", "parts"]
theorem scTelRow : FnScope nTelRow ["telling"] (defScope sTelRow) := ⟨rfl, rfl, rfl, by decide +kernel, rfl, by decide +kernel, by decide +kernel⟩
theorem ok_telrow (F : Fun K "telling_row" "telling_row" sTelRow f fd) (B : Bi mg) (B2 : Bg mg) : FnOk P w K mg base CX0 1 f fd ["telling"] spTelRow := by
  obtain ⟨tq, gq⟩ := B2.doubt
  refine F.ok scTelRow (fun vs H Q E h => ?_) (fun cdv A outer s H vs Q E hr h => ?_)
  · obtain ⟨p, t, rfl, _⟩ := h
    rfl
  · obtain ⟨p, t, rfl, hp, ok, q⟩ := h
    refine ⟨_, pss_cons (ps_asg (pv 0) (pg_tup rfl (pgs_cons (pg_name (i := 1) scTelRow.nd rfl (.inl rfl)) (pgs_cons (pg_name (i := 2) scTelRow.nd rfl (.inl rfl)) (pgs_cons (pg_name (i := 3) scTelRow.nd rfl (.inl rfl)) (pgs_cons (pg_name (i := 4) scTelRow.nd rfl (.inl rfl)) (pgs_cons (pg_name (i := 5) scTelRow.nd rfl (.inl rfl)) (pgs_cons (pg_name (i := 6) scTelRow.nd rfl (.inl rfl)) (pgs_cons (pg_name (i := 7) scTelRow.nd rfl (.inl rfl)) pgs_nil)))))))))
      (pss_cons (ps_set (i := 8) scTelRow.nd rfl (.inl rfl) (pe_lst (pa_cons (pv 1) (pa_cons (pv 2) (pa_cons (pv 3) (pa_cons (pv 4) (pa_cons (pe_callTy call_str_int (by rfl) B.str (by decide +kernel) (pa_cons (pv 5) pa_nil)) (pa_cons (pv 6) pa_nil))))))))
      (pss_one (ps_ret (pe_join pe_str (pe_ifExp (pt_val (pv 7)) (pv 8) (pe_op op_cat (pv 8) (pe_lst (pa_cons (pe_glob (v := .str "?") rfl gq ⟨_, rfl⟩) pa_nil)))))))), ?_⟩
    refine ⟨_, rfl, p, _, rfl, .inl (.inl hp), rfl, _, _, rfl, _, _, rfl, _, _, rfl, _, _, rfl, _, _, rfl, _, _, rfl, _, _, rfl, rfl, ?_⟩
    refine ⟨_, rfl, _, rfl, _, rfl, _, rfl, _, rfl, _, rfl, age_log ok.age, _, rfl, lz, fun u hu => ?_⟩
    have s1 := same_new (o := .lst ((partsS t).map V.str)) hu
    have hu1 : upd H u (.lst ((partsS t).map V.str)) u = some (.lst ((partsS t).map V.str)) := upd_same
    have pl := parts_len ok
    have e1 : (" " : Str).length = 1 := by decide +kernel
    have fin : ∀ (l : List Str), (∀ z ∈ l, z.length ≤ 8) → l.length ≤ 7 → (l.map (·.length)).sum + l.length * (" " : Str).length ≤ 16777216 := fun l h hl => by
      have := sum_len (l := l) (m := 8) h
      rw [e1]
      omega
    refine ⟨⟨_, rfl⟩, _, rfl, _, rfl, ite_b (fun e => ?_) (fun e => ?_)⟩
    · refine ⟨_, rfl, _, u, partsS t, rfl, rfl, .inl (.inl (.inl hu1)), fin _ (fun z hz => pl z (List.mem_append_left _ hz)) (by show 6 ≤ 7; decide), ?_⟩
      have := q _ s1
      unfold rowS at this
      rw [if_pos e] at this
      exact this
    · refine ⟨_, rfl, lz, fun v hv => ?_⟩
      have s2 := same_new (o := .lst [V.str ("?" : Str)]) hv
      refine ⟨u, v, (partsS t).map V.str, _, rfl, rfl, s2 _ _ hu1, upd_same, lz, fun x hx => ?_⟩
      refine ⟨_, x, partsS t ++ [("?" : Str)], rfl, rfl, .inl (.inl (.inl upd_same)), fin _ pl (by show 7 ≤ 7; decide), ?_⟩
      have := q _ ((s1.trans s2).trans (same_new (o := .lst ((partsS t).map V.str ++ [V.str ("?" : Str)])) hx))
      unfold rowS at this
      rw [if_neg (by rw [e]; decide)] at this
      exact this
/-! ### repr -/
def grS (n : Nat) : Str := ("Gathering(" : Str) ++ (toString (n : Int) : String) ++ (")" : Str)
def spGRepr (C D : Addr) : Sp := fun vs H Q _ => ∃ (p : Addr) (r : GR), vs = [.ref p] ∧ GatAt C D H p r ∧ r.ts.length ≤ 200 ∧ Q (.str (grS r.ts.length)) H
theorem scGRepr : FnScope ["self"] ["self"] (defScope sGRepr) := ⟨rfl, rfl, rfl, by decide +kernel, rfl, by decide +kernel, by decide +kernel⟩
theorem dig3_len {n : Nat} (h : n ≤ 200) : ((toString (n : Int) : String) : Str).length ≤ 3 := by
  have : ∀ k : Fin 201, ((toString ((k.val : Nat) : Int) : String) : Str).length ≤ 3 := by decide +kernel
  exact this ⟨n, by omega⟩
theorem log200 {n : Nat} (h : n ≤ 200) : (((n : Nat) : Int).natAbs).log2 < 1920 := by
  have : ((n : Nat) : Int).natAbs = n := Int.natAbs_natCast n
  rw [this]
  have h2 : n.log2 ≤ n := Nat.log2_le_self n
  omega
theorem ok_grepr (F : Fun K "__repr__" "Gathering.__repr__" sGRepr f fd) (B : Bi mg) (TG : TxtG K mg D) : FnOk P w K mg base CX0 1 f fd ["self"] (spGRepr C D) := by
  refine F.ok scGRepr (fun vs H Q E h => ?_) (fun cdv A outer s H vs Q E hr h => ?_)
  · obtain ⟨p, r, rfl, _⟩ := h
    rfl
  · obtain ⟨p, r, rfl, hG, h200, q⟩ := h
    refine ⟨_, pss_one (ps_ret (pe_joined (.cons pe_str (.cons (pe_fmt (pe_callB call_len_seq (by rfl) B.len PySem.boot_len (pa_cons (pe_fld (pv 0) rfl) pa_nil))) (.cons pe_str .nil))))), ?_⟩
    obtain ⟨dx, hp⟩ := hG.at_
    have ek : (r.as.map V.ref).length = r.ts.length := by rw [List.length_map, hG.tels.length]
    refine ⟨_, rfl, by decide +kernel, _, rfl, p, D, dx, _, _, rfl, hp, TG.cl, TG.nT, gf_told _ _ _, r.td, _, rfl, .inl (.inl (.inl hG.told)), .inr ⟨_, rfl, ?_, _, rfl, ?_, _, rfl, ?_, ?_⟩⟩
    · rw [ek]
      exact log200 h200
    · rw [ek]
      exact lzl (by rw [add_len, add_len]; have := dig3_len h200; have : (Str.empty).length = 0 := rfl; have : ("Gathering(" : Str).length = 10 := (by decide +kernel); omega)
    · rw [ek]
      exact lzl (by rw [add_len, add_len, add_len]; have := dig3_len h200; have : (Str.empty).length = 0 := rfl; have : ("Gathering(" : Str).length = 10 := (by decide +kernel); have : (")" : Str).length = 1 := (by decide +kernel); omega)
    · have e0 : (Str.empty ++ ("Gathering(" : Str)) = ("Gathering(" : Str) := by decide +kernel
      rw [ek]
      show Q (.str (Str.empty ++ ("Gathering(" : Str) ++ _ ++ (")" : Str))) H
      rw [e0]
      exact q
/-! ### str -/
def gatS (g : Grid) (ts : List Tel) : Str := Txt.join ("\n" : Str) ([landS g, ("." : Str)] ++ ts.map rowS)
theorem telV_inj {t u : Tel} (h : telV t = telV u) : t = u := by
  cases t
  cases u
  simp only [telV, List.cons.injEq, V.str.injEq, V.int.injEq, V.bl.injEq, and_true] at h
  obtain ⟨h1, h2, h3, h4, h5, h6, h7⟩ := h
  have h5 := Int.ofNat.inj h5
  subst h1 h2 h3 h4 h5 h6 h7
  rfl
theorem told_rows {H : Hp} : ∀ {as : List Addr} {ts : List Tel} {zs : List V}, TelsAt H as ts → Each (fun (x z : V) => ∀ (pt : Addr) (t : Tel), x = .ref pt → H pt = some (.tup (telV t)) → z = .str (rowS t)) (as.map V.ref) zs → zs = (ts.map rowS).map V.str
  | [], [], [], _, _ => rfl
  | [], [], _ :: _, _, h => nomatch h
  | [], _ :: _, _, h, _ => nomatch h
  | _ :: _, [], _, h, _ => nomatch h
  | _ :: _, _ :: _, [], _, h => nomatch h
  | a :: as, r :: g, z :: zs, .cons e t, .cons e' t' => by
    rw [e' a r rfl e, told_rows t t']
    rfl
def spGStr (C D : Addr) : Sp := fun vs H Q _ => ∃ (p : Addr) (r : GR) (wd : Nat), vs = [.ref p] ∧ GatAt C D H p r ∧ Good r.g wd ∧ r.ts.length ≤ 200 ∧ (∀ t ∈ r.ts, OkT t) ∧ ∀ (H' : Hp), Same H H' → Q (.str (gatS r.g r.ts)) H'
abbrev nGStr : List Str := ["self", "telling"]
theorem scGStr : FnScope nGStr ["self"] (defScope sGStr) := ⟨rfl, rfl, rfl, by decide +kernel, rfl, by decide +kernel, by decide +kernel⟩
theorem row_len {t : Tel} (h : OkT t) : (rowS t).length ≤ 63 := by
  have key : ∀ l : List Str, (∀ z ∈ l, z.length ≤ 8) → l.length ≤ 7 → (Txt.join (" " : Str) l).length ≤ 63 := fun l hl h7 => by
    rw [TL.len_tl, TL.join_eq, TL.tl_join, tl_blank]
    have := join_size (S := [32]) (m := 8) (ps := l.map TL.tl) fun p hp => by
      obtain ⟨z, hz, rfl⟩ := List.mem_map.mp hp
      rw [← TL.len_tl]
      exact hl z hz
    rw [List.length_map] at this
    simp at this
    omega
  unfold rowS
  split
  · exact key _ (fun z hz => parts_len h z (List.mem_append_left _ hz)) (by show 6 ≤ 7; decide)
  · exact key _ (parts_len h) (by show 7 ≤ 7; decide)
theorem ok_gstr (F : Fun K "__str__" "Gathering.__str__" sGStr f fd) (B : Bi mg) (B2 : Bg mg) (TG : TxtG K mg D) (hS : HasM P w K mg base C "__str__" 1 ["self"] (spLStr C)) (hT : Has P w K mg base "telling_row" 1 ["telling"] spTelRow) : FnOk P w K mg base CX0 4 f fd ["self"] (spGStr C D) := by
  obtain ⟨td, gd⟩ := B2.dot
  obtain ⟨fS, fdS, FS, mS, bS⟩ := hS
  refine F.ok scGStr (fun vs H Q E h => ?_) (fun cdv A outer s H vs Q E hr h => ?_)
  · obtain ⟨p, r, wd, rfl, _⟩ := h
    rfl
  · obtain ⟨p, r, wd, rfl, hG, gg, h200, hok, q⟩ := h
    refine ⟨_, pss_one (ps_ret (pe_join pe_str (pe_op op_cat (pe_lst (pa_cons (pe_callTy (cr_strO FS bS mS (hr.mono (by decide))) (by rfl) B.str (by decide +kernel) (pa_cons (pe_fld (pv 0) rfl) pa_nil)) (pa_cons (pe_glob (v := .str ".") rfl gd ⟨_, rfl⟩) pa_nil)))
      (pe_lc (own := [("telling", 1)]) (g := gName 1) (tt := tYes) (te := tCall spTelRow [] E0 (tCons (tVar 1) tNil)) rfl scGStr.nd (pi_list (pe_fld (pv 0) rfl)) (blkOk_by (N := nGStr) (sc := defScope sGStr) (by decide +kernel)) (fun _ _ _ _ _ => pg_name (i := 1) scGStr.nd rfl (.inl rfl)) (fun _ _ _ _ _ => pts_nil) (fun _ _ _ _ _ => pe_h hT hr (pa_cons (pv 1) pa_nil)))))), ?_⟩
    obtain ⟨dx, hp⟩ := hG.at_
    obtain ⟨dl, d, hl⟩ := hG.land.ins
    refine ⟨⟨_, rfl⟩, _, rfl, p, D, dx, _, _, rfl, hp, TG.cl, TG.nL, gf_land _ _ _, r.pl, dl, _, rfl, hl, r.pl, r.L, r.g, wd, rfl, hG.land, gg, fun H1 s1 => ⟨_, rfl, lz, fun u hu => ?_⟩⟩
    have s2 := same_new (o := .lst [V.str (landS r.g), V.str ("." : Str)]) hu
    have hu2 : upd H1 u (.lst [V.str (landS r.g), V.str ("." : Str)]) u = some (.lst [V.str (landS r.g), V.str ("." : Str)]) := upd_same
    have s02 := s1.trans s2
    have hG2 := hG.same s02
    generalize upd H1 u (.lst [V.str (landS r.g), V.str ("." : Str)]) = H2 at hu2 s02 hG2
    obtain ⟨dx2, hp2⟩ := hG2.at_
    refine ⟨_, rfl, p, D, dx2, _, _, rfl, hp2, TG.cl, TG.nT, gf_told _ _ _, r.td, rfl, ⟨_, .inl (.inl hG2.told)⟩, fun Dd hD => ?_⟩
    have hlen : r.as.length = r.ts.length := hG.tels.length
    refine lc_rel (walk_list (K := K) (a := r.td) (xs := r.as.map V.ref)) hD (fun _ => true) (fun x y _ => ∀ (pt : Addr) (t : Tel), x = .ref pt → H2 pt = some (.tup (telV t)) → y = .str (rowS t)) (fun H' s' => .inl (.inl (s' _ _ hG2.told))) (fun _ => rfl) (fun x H' _ _ Q' q' => q') ?_ (fun _ _ _ _ _ _ _ r => r) ?_ ?_
    · intro x H' hx _ s' Q' q'
      obtain ⟨pt, hpt, rfl⟩ := List.mem_map.mp hx
      obtain ⟨i, hi, ei⟩ := List.mem_iff_getElem.mp hpt
      obtain ⟨t, ht, hH⟩ := Each.get hG2.tels (i := i) (a := pt) (by rw [List.getElem?_eq_getElem hi, ei])
      refine ⟨_, rfl, pt, t, rfl, s' _ _ hH, hok t (List.mem_of_getElem? ht), fun H3 s3 => q' _ H3 s3 fun pt2 t2 e2 h2 => ?_⟩
      obtain rfl : pt = pt2 := V.ref.inj e2
      rw [hH] at h2
      rw [telV_inj (HO.tup.inj (Option.some.inj h2))]
    · rw [List.length_map]
      exact small1000 (by omega)
    · intro zs H3 s3 hD3 he
      rw [List.filter_eq_self.mpr fun _ _ => rfl] at he
      have e1 : zs = (r.ts.map rowS).map V.str := told_rows hG2.tels he
      rw [e1] at hD3
      refine ⟨u, Dd, _, _, rfl, rfl, s3 _ _ hu2, hD3, ?_, fun x hx => ?_⟩
      · rw [List.length_map, List.length_map]
        exact lzl (by simp only [List.length_cons, List.length_nil]; omega)
      refine ⟨_, x, [landS r.g, ("." : Str)] ++ r.ts.map rowS, rfl, rfl, .inl (.inl (.inl (by rw [upd_same, List.map_append]; rfl))), ?_, q _ ((s02.trans s3).trans (same_new hx))⟩
      have hll := land_len gg.parts gg.h6 gg.six
      have hdot : ("." : Str).length = 1 := by decide +kernel
      have := sum_len (l := [landS r.g, ("." : Str)] ++ r.ts.map rowS) (m := 330) fun z hz => by
        rcases List.mem_append.mp hz with hz | hz
        · simp only [List.mem_cons, List.not_mem_nil, or_false] at hz
          rcases hz with rfl | rfl
          · exact hll
          · omega
        · obtain ⟨t, ht, rfl⟩ := List.mem_map.mp hz
          have := row_len (hok t ht)
          omega
      have e : ("\n" : Str).length = 1 := by decide +kernel
      have hl2 : ([landS r.g, ("." : Str)] ++ r.ts.map rowS).length ≤ 202 := by
        rw [List.length_append, List.length_map]
        simp only [List.length_cons, List.length_nil]
        omega
      rw [e]
      omega
end
end Wl





namespace Wl
open PySem PySem.Spec PyProof.Rows L2
abbrev sGStrike : Stmt := inClass sGat 3
abbrev psStrike : List Str := ["self", "village", "teller", "thing", "gatherer"]
abbrev nStrike : List Str := ["self", "village", "teller", "thing", "gatherer", "key", "place", "part"]
theorem scStrike : FnScope nStrike psStrike (defScope sGStrike) := ⟨rfl, rfl, rfl, by decide +kernel, rfl, by decide +kernel, by decide +kernel⟩
def GR.cut (r : GR) (i : Nat) (q : Addr) : GR := { r with as := r.as.eraseIdx i, ts := r.ts.eraseIdx i, ds := r.ds ++ [.ref q] }
theorem each_erase {α β : Type} {R : α → β → Prop} : ∀ {as : List α} {bs : List β} (n : Nat), Each R as bs → Each R (as.eraseIdx n) (bs.eraseIdx n)
  | _, _, n, .nil => by simpa using Each.nil
  | _, _, 0, .cons r t => by simpa using t
  | _, _, n + 1, .cons r t => .cons r (each_erase n t)
theorem map_erase {α β : Type} (f : α → β) : ∀ (l : List α) (n : Nat), (l.map f).eraseIdx n = (l.eraseIdx n).map f
  | [], n => by simp
  | a :: l, 0 => by simp
  | a :: l, n + 1 => by simp [map_erase f l n]
theorem seq_idx {i n : Nat} (h : i < n) : seqIndex? (i : Int) n = some i := by
  unfold seqIndex?
  have e1 : ¬ ((i : Int) < 0) := by omega
  simp only [e1, if_false]
  have e2 : (decide (0 ≤ (i : Int)) && decide ((i : Int) < (n : Int))) = true := by simp; omega
  rw [if_pos e2, Int.toNat_natCast]
section
variable {P : Program} {w : World} {K : PySem.W.Frag} {mg : Str → Option Value} {base : Heap} {f C D : Addr} {fd : FuncData}
abbrev FunS (K : PySem.W.Frag) (f : Addr) (fd : FuncData) : Prop := FunD K "strike" "Gathering.strike" (defArgs sGStrike) (defBody sGStrike) (defScope sGStrike) [.str "self"] [] f fd
def spStrike (C D : Addr) : Sp := fun vs H Q _ => ∃ (p : Addr) (r : GR) (t : Tel) (i : Nat), vs = .ref p :: keyV t ∧ GatAt C D H p r ∧ (∀ u ∈ r.ts, OkT u) ∧ r.ts.length ≤ 200 ∧ r.ds.length < 1000 ∧ (r.ts.findIdx? fun u => decide (keyS u = keyS t)) = some i ∧ OkT t ∧
  ∀ (q pa : Addr) (H' : Hp), H q = none → r.as[i]? = some pa → Same2 r.td r.dd H H' → GatAt C D H' p (r.cut i q) → H' q = some (.tup [.int (i : Int), .ref pa]) → Q .non H'
theorem ok_strike (F : FunS K f fd) (B : Bi mg) (TG : TxtG K mg D) (hW : Has P w K mg base "is_word" 1 ["thing"] spIsWord) (hP : HasM P w K mg base D "place_of" 2 ["self", "key"] (spGPlace C D)) : FnOk P w K mg base CX0 3 f fd psStrike (spStrike C D) := by
  refine okD F scStrike (fun vs H Q E h => ?_) (fun cdv A outer s H vs Q E hr h => ?_)
  · obtain ⟨p, r, t, i, rfl, _⟩ := h
    rfl
  · obtain ⟨p, r, t, i, rfl, hG, hok, h200, hds, hi, okt, q⟩ := h
    refine ⟨_, pss_cons (ps_set (i := 5) scStrike.nd rfl (.inl rfl) (pe_tup (pa_cons (pv 1) (pa_cons (pv 2) (pa_cons (pv 3) (pa_cons (pv 4) pa_nil))))))
      (pss_cons (ps_set (i := 6) scStrike.nd rfl (.inl rfl) (pe_ifExp (pt_val (pe_callB (cr_all rfl) (by rfl) B.all (by decide +kernel) (pa_cons (pe_lc (own := [("part", 7)]) (g := gName 7) (tt := tYes) (te := tCall spIsWord [] E0 (tCons (tVar 7) tNil)) rfl scStrike.nd (pi_tup (pv 5)) (blkOk_by (N := nStrike) (sc := defScope sGStrike) (by decide +kernel)) (fun _ _ _ _ _ => pg_name (i := 7) scStrike.nd rfl (.inl rfl)) (fun _ _ _ _ _ => pts_nil) (fun _ _ _ _ _ => pe_h hW hr (pa_cons (pv 7) pa_nil))) pa_nil))) (pe_hm hP TG.cl hr (pv 0) (pa_cons (pv 5) pa_nil)) pe_non))
      (pss_cons (ps_if (pt_cmp (pc_isN (pv 6))) (pss_one ps_never) pss_nil)
      (pss_one (ps_expr (pe_bm PySem.F.plainAttrs_list PySem.F.slot_list_append PySem.F.type_list_append mt_append (pe_fld (pv 0) rfl) (pa_cons (pe_tup (pa_cons (pv 6) (pa_cons (pe_bm PySem.F.plainAttrs_list PySem.F.slot_list_pop PySem.F.type_list_pop mt_popAt (pe_fld (pv 0) rfl) (pa_cons (pv 6) pa_nil)) pa_nil))) pa_nil)))))), ?_⟩
    refine ⟨_, rfl, _, rfl, _, rfl, _, rfl, lz, fun kp hkp => ?_⟩
    have s1 := same_new (o := .tup [V.str t.v, V.str t.tl, V.str t.th, V.str t.g]) hkp
    have hk1 : upd H kp (.tup [V.str t.v, V.str t.tl, V.str t.th, V.str t.g]) kp = some (.tup [V.str t.v, V.str t.tl, V.str t.th, V.str t.g]) := upd_same
    generalize upd H kp (.tup [V.str t.v, V.str t.tl, V.str t.th, V.str t.g]) = H1 at s1 hk1
    refine ⟨_, rfl, kp, rfl, ⟨_, .inl (.inl hk1)⟩, fun Dd hD => ?_⟩
    refine lc_rel (walk_tup (K := K) (a := kp) (xs := [V.str t.v, V.str t.tl, V.str t.th, V.str t.g])) hD (fun _ => true) (fun x y _ => y = .bl true) (fun H' s' => .inl (.inl (s' _ _ hk1))) (fun _ => rfl) (fun x H' _ _ Q' q' => q') ?_ (fun _ _ _ _ _ _ _ r => r) lz ?_
    · intro x H' hx _ s' Q' q'
      obtain ⟨z, hz, rfl⟩ : ∃ z, z ∈ keyS t ∧ x = .str z := by
        simp only [List.mem_cons, List.not_mem_nil, or_false] at hx
        rcases hx with rfl | rfl | rfl | rfl
        · exact ⟨_, by simp [keyS], rfl⟩
        · exact ⟨_, by simp [keyS], rfl⟩
        · exact ⟨_, by simp [keyS], rfl⟩
        · exact ⟨_, by simp [keyS], rfl⟩
      have hzw := okt.key z hz
      refine ⟨_, rfl, z, rfl, by have := hzw.len; omega, fun H2 s2 => q' _ H2 s2 ?_⟩
      rw [show wdB z = true from hzw]
    · intro zs H2 s2 hD2 he
      have ez := each_fn (f := fun _ : V => V.bl true) he
      have ez2 : zs = [true, true, true, true].map V.bl := ez
      rw [ez2] at hD2
      refine ⟨Dd, [true, true, true, true], rfl, .inl (.inl hD2), true, rfl, iteT ?_⟩
      have s02 := s1.trans s2
      have hG2 := hG.same s02
      obtain ⟨dx2, hp2⟩ := hG2.at_
      refine ⟨_, rfl, p, dx2, _, rfl, hp2, gf_no _ _ _, _, rfl, p, kp, r, keyS t, rfl, hG2, hok, h200, s2 _ _ hk1, okt.key, fun H3 s3 => ?_⟩
      rw [hi]
      obtain ⟨hil, _⟩ := List.findIdx?_eq_some_iff_getElem.mp hi
      have hla : r.as.length = r.ts.length := hG.tels.length
      have hia : i < r.as.length := by omega
      have hpa : r.as[i]? = some r.as[i] := List.getElem?_eq_getElem hia
      generalize r.as[i] = pa at hpa
      have hG3 := hG2.same s3
      obtain ⟨dx3, hp3⟩ := hG3.at_
      have s03 := s02.trans s3
      refine ⟨_, rfl, _, rfl, iteF ?_⟩
      refine ⟨_, rfl, p, D, dx3, _, _, rfl, hp3, TG.cl, TG.nD, gf_deeds _ _ _, .inl ⟨rfl, _, .inl (.inl hG3.deeds)⟩, _, rfl, _, rfl, p, D, dx3, _, _, rfl, hp3, TG.cl, TG.nT, gf_told _ _ _, .inl ⟨rfl, _, .inl (.inl hG3.told)⟩, _, rfl, r.td, _, (i : Int), i, .ref pa, rfl, rfl, hG3.told, by omega, by omega, ?_, ?_, lz, fun q1 hq1 => ?_⟩
      · rw [List.length_map]
        exact seq_idx hia
      · rw [List.getElem?_map, hpa]
        rfl
      have k4 : Keep H3 (upd H3 r.td (.lst ((r.as.map V.ref).eraseIdx i))) := kp_upd hG3.told
      have hp4 := k4 _ _ (fun xs e => by cases e) hp3
      have hd4 : upd H3 r.td (.lst ((r.as.map V.ref).eraseIdx i)) r.dd = some (.lst r.ds) := by
        rw [upd_ne hG.ne.symm]
        exact hG3.deeds
      have ht4 : upd H3 r.td (.lst ((r.as.map V.ref).eraseIdx i)) r.td = some (.lst ((r.as.eraseIdx i).map V.ref)) := by
        rw [upd_same, map_erase]
      have m4 : Same2 r.td r.dd H3 (upd H3 r.td (.lst ((r.as.map V.ref).eraseIdx i))) := fun c o n _ e => by
        rw [upd_ne n]
        exact e
      have hq3 : H3 q1 = none := by
        by_cases c : q1 = r.td
        · rw [c, ht4] at hq1
          cases hq1
        · rw [upd_ne c] at hq1
          exact hq1
      generalize upd H3 r.td (.lst ((r.as.map V.ref).eraseIdx i)) = H4 at k4 hp4 hd4 ht4 m4 hq1
      have s5 := same_new (o := .tup [V.int (i : Int), V.ref pa]) hq1
      have hq5 : upd H4 q1 (.tup [V.int (i : Int), V.ref pa]) q1 = some (.tup [V.int (i : Int), V.ref pa]) := upd_same
      have hd5 := s5 _ _ hd4
      have ht5 := s5 _ _ ht4
      have hp5 := s5 _ _ hp4
      refine ⟨r.dd, _, _, rfl, rfl, hd5, small1000 (by omega), ?_⟩
      have k6 := kp_upd (o := .lst (r.ds ++ [V.ref q1])) hd5
      have kk := (k4.trans (kp_same s5)).trans k6
      refine q q1 pa _ (s03.free hq3) hpa ?_ ⟨⟨dx3, k6 _ _ (fun xs e => by cases e) hp5⟩, hG3.land.keep kk, ?_, ?_, upd_same, hG.ne⟩ (k6 _ _ (fun xs e => by cases e) hq5)
      · refine (Same2.of s03).trans (m4.trans ((Same2.of s5).trans fun c o _ n e => ?_))
        rw [upd_ne n]
        exact e
      · show upd _ r.dd _ r.td = some (.lst ((r.as.eraseIdx i).map V.ref))
        rw [upd_ne hG.ne]
        exact ht5
      · exact each_erase i (hG3.tels.keep kk.tk)
end
end Wl





namespace Wl
open PySem PySem.Spec PyProof.Rows L2
abbrev sGBack : Stmt := inClass sGat 4
abbrev nBack : List Str := ["self", "struck", "place", "telling"]
theorem scBack : FnScope nBack ["self"] (defScope sGBack) := ⟨rfl, rfl, rfl, by decide +kernel, rfl, by decide +kernel, by decide +kernel⟩
theorem last_snoc {α : Type} (l : List α) (x : α) : (l ++ [x])[(l ++ [x]).length - 1]? = some x := by
  rw [List.length_append]
  simp
theorem each_take {α β : Type} {R : α → β → Prop} : ∀ {as : List α} {bs : List β} (n : Nat), Each R as bs → Each R (as.take n) (bs.take n)
  | _, _, 0, _ => by simpa using Each.nil
  | _, _, n + 1, .nil => by simpa using Each.nil
  | _, _, n + 1, .cons r t => .cons r (each_take n t)
theorem each_drop {α β : Type} {R : α → β → Prop} : ∀ {as : List α} {bs : List β} (n : Nat), Each R as bs → Each R (as.drop n) (bs.drop n)
  | _, _, 0, h => by simpa using h
  | _, _, n + 1, .nil => by simpa using Each.nil
  | _, _, n + 1, .cons r t => each_drop n t
section
variable {P : Program} {w : World} {K : PySem.W.Frag} {mg : Str → Option Value} {base : Heap} {f C D : Addr} {fd : FuncData}
def spBack (C D : Addr) : Sp := fun vs H Q _ => ∃ (p : Addr) (r : GR), vs = [.ref p] ∧ GatAt C D H p r ∧ r.ts.length ≤ 200 ∧
  ((∃ (as : List Addr) (pa : Addr) (ts : List Tel) (t : Tel) (ds : List V), r.as = as ++ [pa] ∧ r.ts = ts ++ [t] ∧ r.ds = ds ++ [.non] ∧
      ∀ (H' : Hp), Same2 r.td r.dd H H' → GatAt C D H' p { r with as := as, ts := ts, ds := ds } → Q .non H') ∨
   (∃ (i : Nat) (q pa : Addr) (t : Tel) (ds : List V), r.ds = ds ++ [.ref q] ∧ H q = some (.tup [.int (i : Int), .ref pa]) ∧ H pa = some (.tup (telV t)) ∧ i ≤ 200 ∧
      ∀ (H' : Hp), Same2 r.td r.dd H H' → GatAt C D H' p { r with as := r.as.take i ++ [pa] ++ r.as.drop i, ts := r.ts.take i ++ [t] ++ r.ts.drop i, ds := ds } → Q .non H'))
theorem ok_back (F : Fun K "back" "Gathering.back" sGBack f fd) (TG : TxtG K mg D) : FnOk P w K mg base CX0 1 f fd ["self"] (spBack C D) := by
  refine F.ok scBack (fun vs H Q E h => ?_) (fun cdv A outer s H vs Q E hr h => ?_)
  · obtain ⟨p, r, rfl, _⟩ := h
    rfl
  · obtain ⟨p, r, rfl, hG, h200, hh⟩ := h
    refine ⟨_, pss_cons (ps_if (pt_not (pt_truth (pe_fld (pv 0) rfl) (fun _ => rfl))) (pss_one ps_never) pss_nil)
      (pss_cons (ps_set (i := 1) scBack.nd rfl (.inl rfl) (pe_bm0 PySem.F.plainAttrs_list PySem.F.slot_list_pop PySem.F.type_list_pop mt_pop (pe_fld (pv 0) rfl)))
      (pss_one (ps_if (pt_cmp (pc_isN (pv 1))) (pss_one (ps_expr (pe_bm0 PySem.F.plainAttrs_list PySem.F.slot_list_pop PySem.F.type_list_pop mt_pop (pe_fld (pv 0) rfl))))
        (pss_cons (ps_asg (pv 1) (pg_tup rfl (pgs_cons (pg_name (i := 2) scBack.nd rfl (.inl rfl)) (pgs_cons (pg_name (i := 3) scBack.nd rfl (.inl rfl)) pgs_nil))))
        (pss_one (ps_expr (pe_bm PySem.F.plainAttrs_list PySem.F.slot_list_insert PySem.F.type_list_insert mt_insert (pe_fld (pv 0) rfl) (pa_cons (pv 2) (pa_cons (pv 3) pa_nil))))))))), ?_⟩
    obtain ⟨dx, hp⟩ := hG.at_
    have hds : r.ds ≠ [] := by
      rcases hh with ⟨_, _, _, _, _, _, _, e, _⟩ | ⟨_, _, _, _, _, e, _⟩
      · rw [e]
        simp
      · rw [e]
        simp
    refine ⟨_, rfl, p, D, dx, _, _, rfl, hp, TG.cl, TG.nD, gf_deeds _ _ _, !r.ds.isEmpty, .inl ⟨_, .inl (.inl hG.deeds), rfl⟩, ?_⟩
    have e0 : r.ds.isEmpty = false := by
      cases hq : r.ds with
      | nil => exact absurd hq hds
      | cons _ _ => rfl
    rw [e0]
    refine iteF ?_
    have kd : ∀ o, Keep H (upd H r.dd o) := fun o => kp_upd hG.deeds
    rcases hh with ⟨as, pa, ts, t, ds, ea, et, ed, q⟩ | ⟨i, q0, pa, t, ds, ed, hq0, hpa, hi, q⟩
    · have hdd := hG.deeds
      rw [ed] at hdd
      refine ⟨_, rfl, p, D, dx, _, _, rfl, hp, TG.cl, TG.nD, gf_deeds _ _ _, .inl ⟨rfl, _, .inl (.inl hdd)⟩, r.dd, _, .non, rfl, rfl, hdd, last_snoc _ _, ?_⟩
      rw [List.dropLast_concat]
      have k1 := kd (.lst ds)
      have ht1 : upd H r.dd (.lst ds) r.td = some (.lst ((as ++ [pa]).map V.ref)) := by
        rw [upd_ne hG.ne, ← ea]
        exact hG.told
      have hp1 := k1 _ _ (fun xs e => by cases e) hp
      have hd1 : upd H r.dd (.lst ds) r.dd = some (.lst ds) := upd_same
      have m1 : Same2 r.td r.dd H (upd H r.dd (.lst ds)) := fun c o _ n e => by
        rw [upd_ne n]
        exact e
      generalize upd H r.dd (.lst ds) = H1 at k1 ht1 hp1 hd1 m1
      rw [List.map_append] at ht1
      refine ⟨_, rfl, _, rfl, iteT ⟨_, rfl, p, D, dx, _, _, rfl, hp1, TG.cl, TG.nT, gf_told _ _ _, .inl ⟨rfl, _, .inl (.inl ht1)⟩, r.td, _, .ref pa, rfl, rfl, ht1, last_snoc _ _, ?_⟩⟩
      rw [show (as.map V.ref ++ [pa].map V.ref).dropLast = as.map V.ref from List.dropLast_concat]
      have k2 := kp_upd (o := .lst (as.map V.ref)) ht1
      have kk := k1.trans k2
      refine q _ ?_ ⟨⟨dx, k2 _ _ (fun xs e => by cases e) hp1⟩, hG.land.keep kk, upd_same, ?_, ?_, hG.ne⟩
      · exact m1.trans fun c o n _ e => by
          rw [upd_ne n]
          exact e
      · have h1 := hG.tels.keep kk.tk
        rw [ea, et] at h1
        have la : as.length = ts.length := by
          have := h1.length
          simpa using this
        have h2 := each_take as.length h1
        rw [List.take_left, la, List.take_left] at h2
        exact h2
      · show upd H1 r.td _ r.dd = some (.lst ds)
        rw [upd_ne hG.ne.symm]
        exact hd1
    · have hdd := hG.deeds
      rw [ed] at hdd
      refine ⟨_, rfl, p, D, dx, _, _, rfl, hp, TG.cl, TG.nD, gf_deeds _ _ _, .inl ⟨rfl, _, .inl (.inl hdd)⟩, r.dd, _, .ref q0, rfl, rfl, hdd, last_snoc _ _, ?_⟩
      rw [List.dropLast_concat]
      have k1 := kd (.lst ds)
      have ht1 : upd H r.dd (.lst ds) r.td = some (.lst (r.as.map V.ref)) := by
        rw [upd_ne hG.ne]
        exact hG.told
      have hp1 := k1 _ _ (fun xs e => by cases e) hp
      have hq1 := k1 _ _ (fun xs e => by cases e) hq0
      have hd1 : upd H r.dd (.lst ds) r.dd = some (.lst ds) := upd_same
      have m1 : Same2 r.td r.dd H (upd H r.dd (.lst ds)) := fun c o _ n e => by
        rw [upd_ne n]
        exact e
      generalize upd H r.dd (.lst ds) = H1 at k1 ht1 hp1 hd1 m1 hq1
      have hla : r.as.length = r.ts.length := hG.tels.length
      refine ⟨_, rfl, _, rfl, iteF ⟨_, rfl, q0, _, rfl, .inl (.inl hq1), rfl, _, _, rfl, _, _, rfl, rfl, ?_⟩⟩
      refine ⟨_, rfl, p, D, dx, _, _, rfl, hp1, TG.cl, TG.nT, gf_told _ _ _, .inl ⟨rfl, _, .inl (.inl ht1)⟩, _, rfl, _, rfl, r.td, _, (i : Int), .ref pa, rfl, rfl, ht1, by rw [List.length_map]; exact small1000 (by omega), by omega, by omega, ?_⟩
      rw [Int.toNat_natCast]
      have k2 := kp_upd (o := .lst ((r.as.map V.ref).take i ++ [.ref pa] ++ (r.as.map V.ref).drop i)) ht1
      have kk := k1.trans k2
      refine q _ ?_ ⟨⟨dx, k2 _ _ (fun xs e => by cases e) hp1⟩, hG.land.keep kk, ?_, ?_, ?_, hG.ne⟩
      · exact m1.trans fun c o n _ e => by
          rw [upd_ne n]
          exact e
      · show upd H1 r.td _ r.td = some (.lst ((r.as.take i ++ [pa] ++ r.as.drop i).map V.ref))
        rw [upd_same, List.map_append, List.map_append, List.map_take, List.map_drop]
        rfl
      · have h1 := hG.tels.keep kk.tk
        exact Each.append (Each.append (each_take i h1) (.cons (kk.tk _ _ hpa) .nil)) (each_drop i h1)
      · show upd H1 r.td _ r.dd = some (.lst ds)
        rw [upd_ne hG.ne.symm]
        exact hd1
end
end Wl





namespace Wl
open PySem PySem.Spec PyProof.Rows L2
/-- what the law keeps beside the Gathering -/
structure KeptAt (H : Hp) (kp : Addr) (bs : List Addr) (ts : List Tel) : Prop where
  at_ : H kp = some (.lst (bs.map V.ref))
  tels : TelsAt H bs ts
theorem GatAt.keep {C D : Addr} {H H' : Hp} {p : Addr} {r : GR} (h : GatAt C D H p r) (k : Keep H H') (ht : H' r.td = some (.lst (r.as.map V.ref))) (hd : H' r.dd = some (.lst r.ds)) : GatAt C D H' p r :=
  ⟨let ⟨dx, e⟩ := h.at_; ⟨dx, k _ _ (fun xs e => by cases e) e⟩, h.land.keep k, ht, h.tels.keep k.tk, hd, h.ne⟩
theorem GatAt.x {C D : Addr} {H H' : Hp} {p a : Addr} {r : GR} (h : GatAt C D H p r) (hA : PurseAt H a) (s : SameX a H H') (n1 : r.td ≠ a) (n2 : r.dd ≠ a) : GatAt C D H' p r := by
  obtain ⟨ys, ha⟩ := hA.lst
  exact h.keep (kp_x s ha) (s _ _ n1 h.told) (s _ _ n2 h.deeds)
theorem kp_2 {a b : Addr} {H H' : Hp} {xs ys : List V} (s : Same2 a b H H') (ha : H a = some (.lst xs)) (hb : H b = some (.lst ys)) : Keep H H' := fun p o n h => s p o (fun e => by
  subst e
  rw [ha] at h
  exact n _ (Option.some.inj h).symm) (fun e => by
  subst e
  rw [hb] at h
  exact n _ (Option.some.inj h).symm) h
def kD (t : Tel) : PyData := .tuple ((keyS t).map PyData.str)
theorem lay_keys : ∀ {ts : List Tel}, (∀ t ∈ ts, OkT t) → PyData.canLayAll0 (ts.map kD) = true
  | [], _ => by simp [PyData.canLayAll0]
  | t :: ts, h => by
    have h1 := lay_strs (h t List.mem_cons_self).key
    have h2 := lay_keys (ts := ts) fun u hu => h u (List.mem_cons_of_mem _ hu)
    simp [PyData.canLayAll0, kD, PyData.canLay0, h1, h2]
theorem depth_keys : ∀ ts : List Tel, PyData.depthAll (ts.map kD) ≤ 1
  | [] => by simp [PyData.depthAll]
  | t :: ts => by
    have h1 := depth_keys ts
    have h2 := depth_strs (keyS t)
    simp only [List.map_cons, PyData.depthAll, kD, PyData.depth]
    omega
theorem any_keys (t : Tel) : ∀ ts : List Tel, ((ts.map kD).any fun z => PyData.eqv z (.tuple ((keyS t).map PyData.str))) = decide (keyS t ∈ ts.map keyS)
  | [] => by simp
  | u :: ts => by
    rw [List.map_cons, List.any_cons, any_keys t ts, show PyData.eqv (kD u) (.tuple ((keyS t).map PyData.str)) = decide (keyS u = keyS t) from tup_eqv _ _, List.map_cons]
    by_cases c : keyS u = keyS t
    · rw [decide_eq_true c, decide_eq_true (show keyS t ∈ keyS u :: ts.map keyS by rw [c]; exact List.mem_cons_self), Bool.true_or]
    · rw [decide_eq_false c, Bool.false_or]
      by_cases d : keyS t ∈ ts.map keyS
      · rw [decide_eq_true d, decide_eq_true (List.mem_cons_of_mem _ d)]
      · rw [decide_eq_false d, decide_eq_false fun h => by
          rcases List.mem_cons.mp h with h | h
          · exact c h.symm
          · exact d h]
theorem keys_dp {K : PySem.W.Frag} {H H' : Hp} : ∀ {bs : List Addr} {ts : List Tel} {zs : List V}, TelsAt H bs ts → Each (fun (x z : V) => ∀ (pt : Addr) (t : Tel), x = .ref pt → H pt = some (.tup (telV t)) → ∃ k, z = .ref k ∧ H' k = some (.tup (keyV t))) (bs.map V.ref) zs → DpAll K H' zs (ts.map kD)
  | [], [], [], _, _ => .nil
  | [], [], _ :: _, _, h => nomatch h
  | [], _ :: _, _, h, _ => nomatch h
  | _ :: _, [], _, h, _ => nomatch h
  | _ :: _, _ :: _, [], _, h => nomatch h
  | b :: bs, t :: ts, z :: zs, .cons e r, .cons e' r' => by
    obtain ⟨k, rfl, hk⟩ := e' b t rfl e
    exact .cons (.tup (.inl (.inl hk)) (dp_strs (keyS t))) (keys_dp r r')
section
variable {P : Program} {w : World} {K : PySem.W.Frag} {mg : Str → Option Value} {base : Heap} {f C D : Addr} {fd : FuncData}
def HasI (P : Program) (w : World) (K : PySem.W.Frag) (mg : Str → Option Value) (base : Heap) (C : Addr) : Prop :=
  ∃ f fd, Mk K C f ∧ FnOk P w K mg base CX0 4 f fd ["self", "rows"] (spInit C) ∧ Binds K fd ["self", "rows"] []
def HasG (P : Program) (w : World) (K : PySem.W.Frag) (mg : Str → Option Value) (base : Heap) (C D : Addr) : Prop :=
  ∃ f fd, Mk K D f ∧ FnOk P w K mg base CX0 1 f fd ["self", "land"] (spGInit C D) ∧ Binds K fd ["self", "land"] []
end
end Wl





namespace Wl
open PySem PySem.Spec PyProof.Rows L2
abbrev sGTell : Stmt := inClass sGat 6
section
variable {P : Program} {w : World} {K : PySem.W.Frag} {mg : Str → Option Value} {base : Heap} {f C D : Addr} {fd : FuncData}
/-! ### tellings, as put in -/
abbrev FunT (K : PySem.W.Frag) (f : Addr) (fd : FuncData) : Prop := FunD K "tellings" "Gathering.tellings" (defArgs sGTell) (defBody sGTell) (defScope sGTell) [.non] [] f fd
def spTell (C D : Addr) : Sp := fun vs H Q _ => ∃ (p : Addr) (r : GR), vs = [.ref p, .non] ∧ GatAt C D H p r ∧ ∀ (l : Addr), H l = none → Q (.ref l) (upd H l (.lst (r.as.map V.ref)))
theorem scTell : FnScope ["self", "keying"] ["self", "keying"] (defScope sGTell) := ⟨rfl, rfl, rfl, by decide +kernel, rfl, by decide +kernel, by decide +kernel⟩
theorem tell_b1 (F : FunT K f fd) : ∃ ds, Vals [V.non] ds ∧ Binds K fd ["self", "keying"] ds :=
  F.binds1 (ps := ["self", "keying"]) 1 0 (by simp) rfl (fun T kV doc pm an cdv ct us its l1 l2 => by
      match us, its, l1, l2 with
      | [_], [_], _, _ => exact ⟨_, rfl, rfl⟩)
theorem ok_tell (F : FunT K f fd) (B : Bi mg) (TG : TxtG K mg D) : FnOk P w K mg base CX0 1 f fd ["self", "keying"] (spTell C D) := by
  refine okD F scTell (fun vs H Q E h => ?_) (fun cdv A outer s H vs Q E hr h => ?_)
  · obtain ⟨p, r, rfl, _⟩ := h
    rfl
  · obtain ⟨p, r, rfl, hG, q⟩ := h
    refine ⟨_, pss_cons (ps_if (pt_cmp (pc_isN (pv 1))) (pss_one (ps_ret (pe_callTy call_list_of (by rfl) B.list (by decide +kernel) (pa_cons (pe_fld (pv 0) rfl) pa_nil)))) pss_nil) (pss_one ps_never), ?_⟩
    obtain ⟨dx, hp⟩ := hG.at_
    exact ⟨_, rfl, _, rfl, iteT ⟨_, rfl, p, D, dx, _, _, rfl, hp, TG.cl, TG.nT, gf_told _ _ _, r.td, _, rfl, .inl (.inl (.inl hG.told)), q⟩⟩
/-! ### check_gathering -/
/-! ### summed_up -/
end
end Wl







namespace Wl
open PySem PySem.Spec PyProof.Rows L2
section
variable {P : Program} {w : World} {K : PySem.W.Frag} {mg : Str → Option Value} {base : Heap} {f C D : Addr} {fd : FuncData}
def HasTl (P : Program) (w : World) (K : PySem.W.Frag) (mg : Str → Option Value) (base : Heap) (C D : Addr) : Prop := ∃ f fd, FnOk P w K mg base CX0 1 f fd ["self", "keying"] (spTell C D) ∧ Meth K D "tellings" f ∧ FunT K f fd
/-! ### struck by place -/
/-! ### a Gathering of these -/
end
end Wl





namespace Wl
open PySem PySem.Spec PyProof.Rows L2
/-! tellings as data -/
def telD (t : Tel) : PyData := .tuple [.str t.v, .str t.th, .str t.wo, .str t.tl, .int (t.age : Int), .str t.g, .bool t.sure]
theorem dp_tel {K : PySem.W.Frag} {H : Hp} {p : Addr} {t : Tel} (h : H p = some (.tup (telV t))) : Dp K H (.ref p) (telD t) :=
  .tup (.inl (.inl h)) (.cons (.str _) (.cons (.str _) (.cons (.str _) (.cons (.str _) (.cons (.int _) (.cons (.str _) (.cons (.bl _) .nil)))))))
theorem dp_tels {K : PySem.W.Frag} {H : Hp} : ∀ {as : List Addr} {ts : List Tel}, TelsAt H as ts → DpAll K H (as.map V.ref) (ts.map telD)
  | _, _, .nil => .nil
  | _, _, .cons e r => .cons (dp_tel e) (dp_tels r)
theorem tel_eqv (t u : Tel) : PyData.eqv (telD t) (telD u) = decide (t = u) := by
  rw [Bool.eq_iff_iff, decide_eq_true_eq]
  simp only [telD, PyData.eqv, PyData.eqvAll, Bool.and_eq_true, Bool.and_true, beq_iff_eq]
  cases t
  cases u
  simp
  intros
  exact Int.ofNat_inj
theorem lay_tel {t : Tel} (h : OkT t) : PyData.canLay0 (telD t) = true := by
  simp [telD, PyData.canLayAll0, PyData.canLay0, wd_ok h.v, wd_ok h.th, wd_ok h.wo, wd_ok h.tl, wd_ok h.g]
theorem shaped_tel {t : Tel} (h : OkT t) : SeqAt.shaped (telD t) = true := shaped_tuple (by simpa [telD, PyData.canLay0] using lay_tel h) (by simp [PyData.depthAll, PyData.depth])
theorem lay_tels : ∀ {ts : List Tel}, (∀ t ∈ ts, OkT t) → PyData.canLayAll0 (ts.map telD) = true
  | [], _ => by simp [PyData.canLayAll0]
  | t :: r, h => by
    have h1 := lay_tel (h t List.mem_cons_self)
    have h2 := lay_tels (ts := r) fun u hu => h u (List.mem_cons_of_mem _ hu)
    simp [PyData.canLayAll0, h1, h2]
theorem depth_tels : ∀ ts : List Tel, PyData.depthAll (ts.map telD) ≤ 1
  | [] => by simp [PyData.depthAll]
  | t :: r => by
    have h1 := depth_tels r
    simp only [List.map_cons, PyData.depthAll, telD, PyData.depth]
    omega
theorem shaped_tels {ts : List Tel} (h : ∀ t ∈ ts, OkT t) : SeqAt.shaped (.list (ts.map telD)) = true := shaped_list (lay_tels h) (by have := depth_tels ts; omega)
theorem tels_nil (ts : List Tel) : PyData.eqv (.list (ts.map telD)) (.list []) = ts.isEmpty := by
  cases ts with
  | nil => simp [PyData.eqv, PyData.eqvAll]
  | cons a r => simp [PyData.eqv, PyData.eqvAll]
/-! one taken out -/
theorem put_back {α : Type} : ∀ {l : List α} {i : Nat} {x : α}, l[i]? = some x → (l.eraseIdx i).take i ++ [x] ++ (l.eraseIdx i).drop i = l
  | [], _, _, h => by simp at h
  | y :: l, 0, x, h => by
    simp at h
    subst h
    simp
  | y :: l, i + 1, x, h => by
    have := put_back (l := l) (i := i) (x := x) (by simpa using h)
    simp only [List.eraseIdx_cons_succ, List.take_succ_cons, List.drop_succ_cons, List.cons_append]
    rw [this]
end Wl




namespace Wl
open PySem PySem.Spec PyProof.Rows L2
abbrev sGThings : Stmt := inClass sGat 8
abbrev sGGathers : Stmt := inClass sGat 9
noncomputable def telBy (H : Hp) (g : Tel → Str) (x : V) : Str := open Classical in if h : ∃ t : Tel, ∃ p, x = .ref p ∧ H p = some (.tup (telV t)) then g h.choose else ""
theorem telBy_at {H : Hp} {g : Tel → Str} {p : Addr} {t : Tel} (h : H p = some (.tup (telV t))) : telBy H g (.ref p) = g t := by
  unfold telBy
  have hx : ∃ t : Tel, ∃ q, V.ref p = .ref q ∧ H q = some (.tup (telV t)) := ⟨t, p, rfl, h⟩
  rw [dif_pos hx]
  obtain ⟨q, e1, e2⟩ := hx.choose_spec
  obtain rfl : p = q := V.ref.inj e1
  rw [h] at e2
  rw [← telV_inj (HO.tup.inj (Option.some.inj e2))]
theorem tels_by {H : Hp} {g : Tel → Str} : ∀ {as : List Addr} {ts : List Tel}, TelsAt H as ts → (as.map V.ref).map (telBy H g) = ts.map g
  | _, _, .nil => rfl
  | _, _, .cons e r => by
    rw [List.map_cons, List.map_cons, List.map_cons, telBy_at e, tels_by r]
/-- the things, rising -/
def thingsOf (ts : List Tel) : List Str := sortS (keysOf (ts.map (·.th)))
theorem mem_things {ts : List Tel} {z : Str} : z ∈ thingsOf ts ↔ ∃ t ∈ ts, t.th = z := by
  unfold thingsOf
  rw [mem_sortS, mem_keysOf, List.mem_map]
theorem things_nodup (ts : List Tel) : (thingsOf ts).Nodup := sortS_nodup (keysOf_nodup _)
theorem things_len (ts : List Tel) : (thingsOf ts).length ≤ ts.length := by
  unfold thingsOf
  rw [sortS_len]
  exact Nat.le_trans (keysOf_len _) (by rw [List.length_map]; exact Nat.le_refl _)
theorem sortS_same {l m : List Str} (h1 : l.Nodup) (h2 : m.Nodup) (hm : ∀ z, z ∈ l ↔ z ∈ m) : sortS l = sortS m := sortS_eq h2 (sortS_rising h1) fun z => by rw [mem_sortS, hm]
/-- the gathers, rising -/
def gathersOf (ts : List Tel) : List Str := sortS (keysOf (ts.map (·.g)))
theorem mem_gathers {ts : List Tel} {z : Str} : z ∈ gathersOf ts ↔ ∃ t ∈ ts, t.g = z := by
  unfold gathersOf
  rw [mem_sortS, mem_keysOf, List.mem_map]
theorem gathers_nodup (ts : List Tel) : (gathersOf ts).Nodup := sortS_nodup (keysOf_nodup _)
theorem gathers_len (ts : List Tel) : (gathersOf ts).length ≤ ts.length := by
  unfold gathersOf
  rw [sortS_len]
  exact Nat.le_trans (keysOf_len _) (by rw [List.length_map]; exact Nat.le_refl _)
/-- keying -/
def gT1 {α : Type} : List α → List α → List α → List α
  | [s], [_], [k] => [s, k]
  | _, _, _ => []
theorem gT1_rel {vs ds zs : List V} {us its ws : List Value} (r1 : Vals vs us) (r2 : Vals ds its) (r3 : Vals zs ws) : Vals (gT1 vs ds zs) (gT1 us its ws) := by
  rcases r1 with _ | ⟨a1, _ | ⟨_, _⟩⟩
  all_goals first | exact .nil | skip
  rcases r2 with _ | ⟨b1, _ | ⟨_, _⟩⟩
  all_goals first | exact .nil | skip
  rcases r3 with _ | ⟨c1, _ | ⟨_, _⟩⟩
  all_goals first | exact .nil | exact .cons a1 (.cons c1 .nil)
section
variable {P : Program} {w : World} {K : PySem.W.Frag} {mg : Str → Option Value} {base : Heap} {f C D : Addr} {fd : FuncData}
/-! ### things -/
def spThings (C D : Addr) : Sp := fun vs H Q _ => ∃ (p : Addr) (r : GR), vs = [.ref p] ∧ GatAt C D H p r ∧ r.ts.length ≤ 200 ∧ ∀ (t : Addr) (H' : Hp), H t = none → Same H H' → H' t = some (.tup ((thingsOf r.ts).map V.str)) → Q (.ref t) H'
theorem scThings : FnScope ["self", "telling"] ["self"] (defScope sGThings) := ⟨rfl, rfl, rfl, by decide +kernel, rfl, by decide +kernel, by decide +kernel⟩
theorem ok_things (F : Fun K "things" "Gathering.things" sGThings f fd) (B : Bi mg) (TG : TxtG K mg D) : FnOk P w K mg base CX0 1 f fd ["self"] (spThings C D) := by
  refine F.ok scThings (fun vs H Q E h => ?_) (fun cdv A outer s H vs Q E hr h => ?_)
  · obtain ⟨p, r, rfl, _⟩ := h
    rfl
  · obtain ⟨p, r, rfl, hG, h200, q⟩ := h
    refine ⟨_, pss_one (ps_ret (pe_callTy call_tuple_of (by rfl) B.tuple (by decide +kernel) (pa_cons (pe_callB (cr_sortX rfl hr.units) (by rfl) B.sorted (by decide +kernel) (pa_cons (pe_scX (own := [("telling", 1)]) (g := gName 1) (tt := tYes) (te := tOp (rIxT K) (tVar 1) (tC (.int 1))) rfl scThings.nd (pi_list (pe_fld (pv 0) rfl)) (blkOk_by (N := ["self", "telling"]) (sc := defScope sGThings) (by decide +kernel))
      (fun _ _ _ _ _ => pg_name (i := 1) scThings.nd rfl (.inl rfl)) (fun _ _ _ _ _ => pts_nil) (fun _ _ _ _ _ => pe_ix ix_tup (pv 1) pe_int (fun _ _ => rfl))) pa_nil)) pa_nil))), ?_⟩
    obtain ⟨dx, hp⟩ := hG.at_
    have hla : r.as.length = r.ts.length := hG.tels.length
    refine ⟨_, rfl, p, D, dx, _, _, rfl, hp, TG.cl, TG.nT, gf_told _ _ _, r.td, rfl, ⟨_, .inl (.inl hG.told)⟩, fun Dd hD => ?_⟩
    refine sc_texts (walk_list (K := K) (a := r.td) (xs := r.as.map V.ref)) hD (fun _ => true) (telBy H (·.th)) (fun H' s' => .inl (.inl (s' _ _ hG.told))) (fun _ => rfl) (fun x H' _ _ Q' q' => q') ?_ ?_ ?_
    · intro x H' hx _ s' Q' q'
      obtain ⟨pt, hpt, rfl⟩ := List.mem_map.mp hx
      obtain ⟨j, hj, ej⟩ := List.mem_iff_getElem.mp hpt
      obtain ⟨t, ht, hH⟩ := Each.get hG.tels (i := j) (a := pt) (by rw [List.getElem?_eq_getElem hj, ej])
      rw [telBy_at hH] at q'
      exact ⟨_, rfl, pt, _, _, _, rfl, rfl, .inl (.inl (s' _ _ hH)), atI_nat (j := 1) rfl, q'⟩
    · rw [List.length_map]
      omega
    · intro l H2 s2 hD2 nd hm hl
      rw [List.length_map] at hl
      have e : sortS l = thingsOf r.ts := by
        refine sortS_same nd (keysOf_nodup _) fun z => ?_
        rw [hm, List.filter_eq_self.mpr fun _ _ => rfl, tels_by hG.tels, mem_keysOf]
      refine ⟨Dd, l, rfl, hD2, by omega, fun q1 hq1 => ⟨q1, _, rfl, .inl ⟨.inl (.inl upd_same), fun t ht => ?_⟩⟩⟩
      rw [e]
      have s3 := same_new (o := .lst ((sortS l).map V.str)) hq1
      rw [e] at s3 ht
      exact q t _ ((s2.trans s3).free ht) ((s2.trans s3).trans (same_new ht)) upd_same
/-! ### gatherers -/
def spGathers (C D : Addr) : Sp := fun vs H Q _ => ∃ (p : Addr) (r : GR), vs = [.ref p] ∧ GatAt C D H p r ∧ r.ts.length ≤ 200 ∧ ∀ (t : Addr) (H' : Hp), H t = none → Same H H' → H' t = some (.tup ((gathersOf r.ts).map V.str)) → Q (.ref t) H'
theorem scGathers : FnScope ["self", "telling"] ["self"] (defScope sGGathers) := ⟨rfl, rfl, rfl, by decide +kernel, rfl, by decide +kernel, by decide +kernel⟩
theorem ok_gatherers (F : Fun K "gatherers" "Gathering.gatherers" sGGathers f fd) (B : Bi mg) (TG : TxtG K mg D) : FnOk P w K mg base CX0 1 f fd ["self"] (spGathers C D) := by
  refine F.ok scGathers (fun vs H Q E h => ?_) (fun cdv A outer s H vs Q E hr h => ?_)
  · obtain ⟨p, r, rfl, _⟩ := h
    rfl
  · obtain ⟨p, r, rfl, hG, h200, q⟩ := h
    refine ⟨_, pss_one (ps_ret (pe_callTy call_tuple_of (by rfl) B.tuple (by decide +kernel) (pa_cons (pe_callB (cr_sortX rfl hr.units) (by rfl) B.sorted (by decide +kernel) (pa_cons (pe_scX (own := [("telling", 1)]) (g := gName 1) (tt := tYes) (te := tOp (rIxT K) (tVar 1) (tC (.int 5))) rfl scGathers.nd (pi_list (pe_fld (pv 0) rfl)) (blkOk_by (N := ["self", "telling"]) (sc := defScope sGGathers) (by decide +kernel))
      (fun _ _ _ _ _ => pg_name (i := 1) scGathers.nd rfl (.inl rfl)) (fun _ _ _ _ _ => pts_nil) (fun _ _ _ _ _ => pe_ix ix_tup (pv 1) pe_int (fun _ _ => rfl))) pa_nil)) pa_nil))), ?_⟩
    obtain ⟨dx, hp⟩ := hG.at_
    have hla : r.as.length = r.ts.length := hG.tels.length
    refine ⟨_, rfl, p, D, dx, _, _, rfl, hp, TG.cl, TG.nT, gf_told _ _ _, r.td, rfl, ⟨_, .inl (.inl hG.told)⟩, fun Dd hD => ?_⟩
    refine sc_texts (walk_list (K := K) (a := r.td) (xs := r.as.map V.ref)) hD (fun _ => true) (telBy H (·.g)) (fun H' s' => .inl (.inl (s' _ _ hG.told))) (fun _ => rfl) (fun x H' _ _ Q' q' => q') ?_ ?_ ?_
    · intro x H' hx _ s' Q' q'
      obtain ⟨pt, hpt, rfl⟩ := List.mem_map.mp hx
      obtain ⟨j, hj, ej⟩ := List.mem_iff_getElem.mp hpt
      obtain ⟨t, ht, hH⟩ := Each.get hG.tels (i := j) (a := pt) (by rw [List.getElem?_eq_getElem hj, ej])
      rw [telBy_at hH] at q'
      exact ⟨_, rfl, pt, _, _, _, rfl, rfl, .inl (.inl (s' _ _ hH)), atI_nat (j := 5) rfl, q'⟩
    · rw [List.length_map]
      omega
    · intro l H2 s2 hD2 nd hm hl
      rw [List.length_map] at hl
      have e : sortS l = gathersOf r.ts := by
        refine sortS_same nd (keysOf_nodup _) fun z => ?_
        rw [hm, List.filter_eq_self.mpr fun _ _ => rfl, tels_by hG.tels, mem_keysOf]
      refine ⟨Dd, l, rfl, hD2, by omega, fun q1 hq1 => ⟨q1, _, rfl, .inl ⟨.inl (.inl upd_same), fun t ht => ?_⟩⟩⟩
      rw [e]
      have s3 := same_new (o := .lst ((sortS l).map V.str)) hq1
      rw [e] at s3 ht
      exact q t _ ((s2.trans s3).free ht) ((s2.trans s3).trans (same_new ht)) upd_same
/-! ### tellings(keying=None) -/
theorem tell_b2 (F : FunT K f fd) : ∃ its : List Value, KBn K fd ["self", "keying"] 1 ["keying"] (fun us ws => gT1 us its ws) (fun vs zs => gT1 vs [.non] zs) :=
  F.kbindsD 1 _ gT1 (by simp) gT1_rel (fun T kV doc pm an cdv ct us its ws l1 l2 l3 => by
      match us, its, ws, l1, l2, l3 with
      | [_], [_], [_], _, _, _ => exact ⟨_, rfl, rfl⟩)
end
end Wl




namespace Wl
open PySem PySem.Spec PyProof.Rows L2
def KeysAt (H : Hp) (ks : List Addr) (ts : List Tel) : Prop := Each (fun (k : Addr) (t : Tel) => H k = some (.tup (keyV t))) ks ts
theorem KeysAt.keep {H H' : Hp} {ks : List Addr} {ts : List Tel} (h : KeysAt H ks ts) (k : TupKeep H H') : KeysAt H' ks ts := Each.mono (fun p t e => k p _ e) h
theorem dp_keys {K : PySem.W.Frag} {H : Hp} : ∀ {ks : List Addr} {ts : List Tel}, KeysAt H ks ts → DpAll K H (ks.map V.ref) (ts.map kD)
  | _, _, .nil => .nil
  | _, _, .cons (b := t) e r => .cons (.tup (.inl (.inl e)) (dp_strs (keyS t))) (dp_keys r)
section
variable {P : Program} {w : World} {K : PySem.W.Frag} {mg : Str → Option Value} {base : Heap} {f C D : Addr} {fd : FuncData}
/-! ### tellings of unlike keys -/
end
end Wl



/-! len(set(xs)), xs a list of texts, however many. -/
namespace Wl
open PySem PySem.Spec PyProof.Rows L2
/-- how many unlike ones -/
def unl : List Str → Nat
  | [] => 0
  | x :: r => if x ∈ r then unl r else unl r + 1
def unlR (xs : List Str) (i : Nat) : Nat := unl (xs.take i).reverse
theorem unl_le : ∀ l : List Str, unl l ≤ l.length
  | [] => Nat.le_refl _
  | x :: r => by
    have := unl_le r
    unfold unl
    split <;> simp <;> omega
theorem unlR_succ {xs : List Str} {i : Nat} {x : Str} (h : xs[i]? = some x) : unlR xs (i + 1) = if x ∈ xs.take i then unlR xs i else unlR xs i + 1 := by
  unfold unlR
  rw [List.take_add_one, h, List.reverse_append]
  show unl (x :: (xs.take i).reverse) = _
  unfold unl
  by_cases m : x ∈ xs.take i
  · rw [if_pos (List.mem_reverse.mpr m), if_pos m]
    cases (xs.take i).reverse <;> rfl
  · rw [if_neg (fun q => m (List.mem_reverse.mp q)), if_neg m]
    cases (xs.take i).reverse <;> rfl
theorem unl_nodup : ∀ {l : List Str}, l.Nodup → unl l = l.length
  | [], _ => rfl
  | x :: r, h => by
    rw [List.nodup_cons] at h
    unfold unl
    rw [if_neg h.1, unl_nodup h.2, List.length_cons]
theorem unl_dup : ∀ {l : List Str}, ¬ l.Nodup → unl l < l.length
  | [], h => absurd List.nodup_nil h
  | x :: r, h => by
    unfold unl
    by_cases m : x ∈ r
    · rw [if_pos m, List.length_cons]
      have := unl_le r
      omega
    · rw [if_neg m, List.length_cons]
      have := unl_dup (l := r) fun q => h (List.nodup_cons.mpr ⟨m, q⟩)
      omega
section
variable {prog : Program} {w : World} {A : Around} {R : Result → Shared → Prop} {I S : Addr} {fp wr : List Addr} {G : Array GenState → Array GenState → Prop} {n : Nat} {P : Nat → Value → Prop} {St : Nat → Shared → Prop} {xs : List Str}
theorem set_stays {h h' : Heap} {M : Str → Bool} {c : Nat} (k : ∀ o, h.get? S = some o → h'.get? S = some o) (x : h.SetOf (PySem.strKind prog w) S M c) : h'.SetOf (PySem.strKind prog w) S M c := by
  obtain ⟨o, es, ep, t, ho, rest⟩ := x
  exact ⟨o, es, ep, t, k _ ho, rest⟩
theorem walk_set (W : WalksS prog w A.in1 I fp wr G n P St) (hS : S ∉ fp) (hl : xs.length = n) (hn : n + 1 < scanBound) (hv : ∀ i v, P i v → ∃ x t, xs[i]? = some x ∧ v = .str x t) :
    ∀ (k i : Nat) (s : Shared), n - i = k → i ≤ n → St i s → s.heap.SetOf (PySem.strKind prog w) S (fun y => decide (y ∈ xs.take i)) (unlR xs i) →
      (∀ s', Moved (S :: wr) G s s' → s'.heap.SetOf (PySem.strKind prog w) S (fun y => decide (y ∈ xs)) (unlR xs n) → R (.ok (.ret .none)) s') → codeAny (model prog w) A (.builtin "set.update.loop" ⟨[.ref S, .ref I], []⟩) R s := by
  have nw : S ∉ wr := fun q => hS (W.sub _ q)
  have more : ∀ b ∈ wr, b ∈ S :: wr := fun b q => List.mem_cons_of_mem _ q
  intro k
  induction k with
  | zero =>
    intro i s hk hi st hset fin
    obtain rfl : i = n := by omega
    refine codeAny_builtin PyProof.Rows.F.entry_set_update_loop ((Around.under_plainId PyProof.Rows.F.plain_set_update_loop _).symm ▸ ?_)
    show wpAny _ A.in1 (pyNext (.ref I) >>= _) _ _ s
    refine wpAny_bind (W.done s _ _ st fun s' mv => wpAny_pure (fin s' (mv.mono more) (set_stays (fun o q => mv.heap S o nw q) ?_)))
    rw [← hl, List.take_length] at hset
    rw [← hl]
    exact hset
  | succ k ih =>
    intro i s hk hi st hset fin
    have lt : i < n := by omega
    refine codeAny_builtin PyProof.Rows.F.entry_set_update_loop ((Around.under_plainId PyProof.Rows.F.plain_set_update_loop _).symm ▸ ?_)
    show wpAny _ A.in1 (pyNext (.ref I) >>= _) _ _ s
    refine wpAny_bind (W.item i s _ _ lt st fun v s' pv st' mv => ?_)
    obtain ⟨x, t, hx, rfl⟩ := hv i v pv
    have set1 := set_stays (S := S) (fun o q => mv.heap S o nw q) hset
    have un1 : unlR xs i ≤ i := Nat.le_trans (unl_le _) (by rw [List.length_reverse]; exact List.length_take_le _ _)
    show wpAny _ A.in1 (holding [Value.str x t] (setAdd S (.str x t)) >>= _) _ _ s'
    refine wpAny_bind (wpAny_holding ?_)
    unfold setAdd
    refine wpAny_holding (wpAny_bind ((PySem.strKind prog w).pyHash (k := x) (strKind_is _ _ _ _) ?_))
    refine wpAny_setAddHashed_of (knd := PySem.strKind prog w) (s := { s' with toks := s'.toks + 1 }) (strKind_is _ _ _ _) rfl set1 (by omega) fun h' sb set2 => ?_
    have set3 : h'.SetOf (PySem.strKind prog w) S (fun y => decide (y ∈ xs.take (i + 1))) (unlR xs (i + 1)) := by
      refine PyProof.Rows.SetOf_congr set2 (fun y => ?_) ?_
      · show (decide (y ∈ xs.take i) || decide (y = x)) = decide (y ∈ xs.take (i + 1))
        have e : y ∈ xs.take (i + 1) ↔ y ∈ xs.take i ∨ y = x := by
          rw [List.take_add_one, hx]
          simp
        rw [Bool.eq_iff_iff, Bool.or_eq_true, decide_eq_true_eq, decide_eq_true_eq, decide_eq_true_eq, e]
      · rw [unlR_succ hx]
        by_cases q : x ∈ xs.take i <;> simp [q]
    refine wpAny_pure ⟨plainId_quiet PyProof.Rows.F.plain_set_update_loop _, ih (i + 1) _ (by omega) lt (W.frame _ s' _ _ st' (Nat.le_succ _) fun b hb o q => ?_) set3 fun s'' mv2 set4 => fin s'' (Moved.trans W.gtrans ((mv.mono more).then_heap (Nat.le_succ _) fun b o hb q => ?_) mv2) set4⟩
    · exact (sb.2 b fun z => hS (z ▸ hb)).trans q
    · exact (sb.2 b fun z => hb (z ▸ List.mem_cons_self)).trans q
theorem strs_each : ∀ {ys : List Str} {us : List Value}, Vals (ys.map V.str) us → ∀ (i : Nat) (v : Value), us[i]? = some v → ∃ x t, ys[i]? = some x ∧ v = .str x t
  | [], [], _, i, v, h => by simp at h
  | [], _ :: _, r, _, _, _ => nomatch r
  | _ :: _, [], r, _, _, _ => nomatch r
  | y :: ys, u :: us, .cons r t, 0, v, h => by
    obtain ⟨k, rfl⟩ := r
    have e : Value.str y k = v := Option.some.inj h
    exact ⟨y, k, rfl, e.symm⟩
  | y :: ys, u :: us, .cons r t, i + 1, v, h => by
    obtain ⟨x, k, h1, h2⟩ := strs_each t i v (by simpa using h)
    exact ⟨x, k, by simpa using h1, h2⟩
section
variable {E : Value → Shared → Prop} {s : Shared}
/-- a set that is new and empty -/
abbrev set0 (b : Bool) : Obj := { cls := .type "set", dict := none, data := .set #[] 0 (.fresh 0 0 b) }
set_option maxHeartbeats 3200000 in
theorem make_set {l : Addr} {items : Array Value} {Q : Value → Shared → Prop} (hh : A.handled = none) (hl : s.heap.IsList l items) (r : Vals (xs.map V.str) items.toList) (hb : xs.length + 1 < scanBound)
    (h : ∀ (h' : Heap) (tk : Nat), h'.SetOf (PySem.strKind prog w) s.heap.objs.size (fun y => decide (y ∈ xs)) (unlR xs xs.length) → (∀ b o, b < s.heap.objs.size → s.heap.get? b = some o → h'.get? b = some o) → Q (.ref s.heap.objs.size) { s with heap := h', toks := tk }) :
    wpAny (model prog w) A (call (.type "set") [.ref l]) Q E s := by
  have hsz : xs.length = items.size := by
    have := r.length
    rw [List.length_map, Array.length_toList] at this
    exact this
  obtain ⟨c, tl, hmro⟩ := PySem.F.called_set.mro
  have a1 := PySem.F.called_set.made
  have a2 := PySem.F.called_set.sub
  have a3 := PySem.F.called_set.notType
  have a4 := PySem.F.called_set.canCreate
  have a5 := PySem.F.typeCall_set_1 (.ref l)
  refine wpAny_call (codeAny_of_tree (show wpAny _ _ (callAny (.type "set") _) _ _ _ from wpAny_pure ⟨Code.quiet_builtin _ (by decide +kernel), codeAny_builtin PySem.F.entry_type_call ?_⟩))
  rw [Around.under_plain (weight_type_call_type "set" [.ref l] []) rfl]
  repeat (any_goals (first | assumption | wp_step))
  refine codeAny_mono (code_set_new_1 (.ref l) (E := E) (Q₁ := fun obj s₁ => ∃ b : Bool, obj = .ref s.heap.objs.size ∧ s₁ = { s with heap := s.heap.push (set0 b) }) fun b => ⟨b, rfl, rfl⟩) fun r₁ s₁ h₁ => ?_
  cases r₁ with
  | error e => exact h₁
  | ok fl =>
    cases fl with
    | ret obj =>
      obtain ⟨b, rfl, rfl⟩ := h₁
      have g1 : (s.heap.push (set0 b)).get? s.heap.objs.size = some (set0 b) := Heap.get?_push_size _ rfl
      have g2 : Shared.TypeIs { s with heap := s.heap.push (set0 b) } (.ref s.heap.objs.size) "set" := ⟨_, g1, rfl⟩
      have g3 := PySem.F.called_set.init.lookup
      have g4 := PySem.F.called_set.init.bind (.ref s.heap.objs.size)
      repeat (any_goals (first | assumption | wp_step))
      refine codeAny_mono (codeAny_call_builtin (R := wants (fun v s₂ => v = .none ∧ ∃ h' tk, s₂ = { s with heap := h', toks := tk } ∧ h'.SetOf (PySem.strKind prog w) s.heap.objs.size (fun y => decide (y ∈ xs)) (unlR xs xs.length) ∧ (∀ b o, b < s.heap.objs.size → s.heap.get? b = some o → h'.get? b = some o)) E) PySem.F.called_set.init.plain PySem.F.entry_set_init (check_set_init_1 g2 ?_)) fun r₂ s₂ h₂ => ?_
      · obtain ⟨⟨oc, odt, oda, osl⟩, e1, e2, nl, e3⟩ := hl
        simp only at e2 e3
        subst e2 e3
        have e4 : (s.heap.push (set0 b)).get? l = some { cls := .type "list", dict := odt, data := .seq items nl, slots := osl } := Heap.get?_push_of_some _ e1
        have b1 := PySem.F.sub_list_set
        have b2 := PySem.F.sub_list_frozenset
        have b3 : (Value.type "list" == Value.type "dict") = false := by decide
        have il : (s.heap.push (set0 b)).IsList l items := ⟨_, e4, rfl, nl, rfl⟩
        have ll : l < s.heap.objs.size := Heap.lt_size e1
        have zz : (s.heap.push (set0 b)).objs.size = s.heap.objs.size + 1 := Heap.size_push ..
        unfold Builtin.«set.__init__» noKeywords Builtin.Frozenset.updateFrom
        generalize hPI : pyIter = PI
        wp_walk
        subst hPI
        refine wpAny_pyIter_list il (wpAny_bind (wpAny_runValue ?_))
        have hh3 : A.in1.in1.in1.handled = none := by simp [hh]
        refine walk_set (S := s.heap.objs.size) (xs := xs) ((Walks.list hh3 _ l (by rw [zz]; exact Nat.ne_of_lt (Nat.lt_succ_of_lt ll)) items).toS) (by rw [zz]; simp only [List.mem_cons, List.not_mem_nil, or_false, not_or]; exact ⟨Nat.ne_of_lt (Nat.lt_succ_self _), Nat.ne_of_gt ll⟩) hsz (by omega) (fun i v q => strs_each r i v (by rw [Array.getElem?_toList]; exact q)) (items.size - 0) 0 _ (by omega) (Nat.zero_le _) ⟨⟨_, Heap.get?_push_size _ rfl, rfl, rfl⟩, il.push _⟩ ?_ ?_
        · have g5 := Heap.get?_push_of_some { cls := .type "list_iterator", data := .fields #[.ref l, .int 0 0] } g1
          exact PyProof.Rows.SetOf_congr ((PyProof.Rows.setObjOf_fresh (knd := PySem.strKind prog w) b).setOf g5 (by unfold scanBound; omega)) (fun y => by simp) rfl
        · intro s' mv st
          obtain ⟨h', g', d', tk', os'⟩ := s'
          obtain rfl : g' = s.gens := mv.gens
          obtain rfl : d' = s.drawn := mv.drawn
          obtain rfl : os' = s.os := mv.os
          rw [← hsz] at st
          refine wpAny_pure (show wpAny _ _ (ret Value.none) _ _ _ from wpAny_pure ⟨rfl, h', tk', rfl, st, fun b' o hb' q => mv.heap b' o ?_ (Heap.get?_push_of_some _ (Heap.get?_push_of_some _ q))⟩)
          rw [zz]
          simp only [List.mem_cons, List.not_mem_nil, or_false, not_or]
          exact ⟨Nat.ne_of_lt hb', Nat.ne_of_lt (Nat.lt_succ_of_lt hb')⟩
      · cases r₂ with
        | error e => exact h₂
        | ok fl₂ =>
          cases fl₂ with
          | ret v =>
            obtain ⟨rfl, h', tk, rfl, st, kk⟩ := h₂
            repeat (any_goals (first | assumption | wp_step))
            exact h _ _ st kk
          | _ => exact h₂.elim
    | _ => exact h₁.elim
end
end
/-- len(set(xs)), xs a list of texts -/
def tLenSetT (K : PySem.W.Frag) (ta : TE) : TE := fun σ H Q => ta σ H fun x H1 => ∃ (l : Addr) (xs : List Str), x = .ref l ∧ SqL K H1 l (xs.map V.str) ∧ xs.length ≤ 1000 ∧ Q (.int (unlR xs xs.length)) H1
theorem pe_lenSetT {X : Cx} {a : Expr} {ta : TE} {p p2 q pos : Pos} (hc : X.calm = true) (hg : Gl X "len") (hm : X.mg "len" = none) (hg2 : Gl X "set") (hm2 : X.mg "set" = none) (ha : PE X a ta)
    (na : starEach [a] X.env = (false, eval a X.env) :: starEach [] X.env := by rfl) : PE X (.Call (.Name "len" p) [.Call (.Name "set" p2) [a] [] q] [] pos) (tLenSetT X.K ta) := by
  refine ⟨fun pins s σ H Q I h => Call_ (ld_blt I hg hm boot_len (PyProof.Rows.callWith_builtin1 (PyProof.Rows.args_cons (Call_ (ld_blt I hg2 hm2 boot_set ?_)) rfl) rfl rfl))⟩
  refine PyProof.Rows.callWith_type1 (PyProof.Rows.args_cons (thn (ha.run pins s σ H _ I h) fun v s1 ⟨x, H1, I1, r1, q1⟩ => PyProof.Rows.args_nil ?_) na) na rfl
  obtain ⟨l, xs, rfl, hq, h1, q1⟩ := q1
  cases r1
  obtain ⟨its, r, pl, hz⟩ := I1.list hq
  refine make_set (I1.ok.hd hc) pl.isList (by simpa using r) (by unfold scanBound; omega) fun h' tk st kk => PyProof.Rows.args_nil ?_
  obtain ⟨o, es, ep, t, ho, hex, hd, _, _, _, hf, hn⟩ := st
  have un1 : unlR xs xs.length ≤ xs.length := Nat.le_trans (unl_le _) (by rw [List.length_reverse]; exact List.length_take_le' _ _)
  have I2 : L2.Inv X pins σ H1 { s1 with heap := h', toks := tk } := I1.kept fun b o e => kk b o (Heap.lt_size e) e
  refine call_len_set ho hex hd hf (by rw [hn]; omega) ⟨.int (unlR xs xs.length), H1, I2.tok _, ⟨_, by rw [hn]⟩, q1⟩
end Wl

namespace Wl
open PySem PySem.Spec PyProof.Rows L2
abbrev sTextRows : Stmt := topS 44
abbrev sReadParts : Stmt := topS 45
abbrev sFits : Stmt := topS 46
abbrev sLandOf : Stmt := topS 47
theorem wd_part {o : Option Str} (h : OkP o) : partS o = "-" ∨ IsWd (partS o) := by
  cases o with
  | none => exact .inl rfl
  | some z => exact .inr (h z rfl)
def unV : V → V
  | .str z => if z = "-" then .non else .str z
  | v => v
theorem un_part {o : Option Str} (h : OkP o) : unV (.str (partS o)) = oV o := by
  cases o with
  | none => rfl
  | some z =>
    show (if z = "-" then V.non else .str z) = .str z
    rw [if_neg (wd_dash (h z rfl))]
theorem int_decT (a b : Int) : decide (V.int a = V.int b) = decide (a = b) := by
  by_cases h : a = b
  · subst h
    simp
  · rw [decide_eq_false h, decide_eq_false fun e => h (V.int.inj e)]
section
variable {P : Program} {w : World} {K : PySem.W.Frag} {mg : Str → Option Value} {base : Heap} {f C : Addr} {fd : FuncData}
/-! ### the rows of a text -/
def spTextRows : Sp := fun vs H Q _ => ∃ (z : Str), vs = [.str z] ∧ z.length ≤ 900 ∧ ∀ (L : Addr), H L = none → Q (.ref L) (upd H L (.lst ((Txt.split z ("\n" : Str)).map V.str)))
theorem scTextRows : FnScope ["text"] ["text"] (defScope sTextRows) := ⟨rfl, rfl, rfl, by decide +kernel, rfl, by decide +kernel, by decide +kernel⟩
theorem ok_textrows (F : Fun K "text_rows" "text_rows" sTextRows f fd) (B : Bi mg) : FnOk P w K mg base CX0 1 f fd ["text"] spTextRows := by
  refine F.ok scTextRows (fun vs H Q E h => ?_) (fun cdv A outer s H vs Q E hr h => ?_)
  · obtain ⟨z, rfl, _⟩ := h
    rfl
  · obtain ⟨z, rfl, hz, q⟩ := h
    refine ⟨_, pss_cons (ps_if (pt_not (pt_val (pe_callB call_isi (by rfl) B.isi (by decide +kernel) (pa_cons (pv 0) (pa_cons (pe_bltn (v := .ty "str") (by rfl) B.str (by decide +kernel) rfl) pa_nil))))) (pss_one ps_never) pss_nil) (pss_one (ps_ret (pe_split (pv 0) pe_str))), ?_⟩
    refine ⟨_, rfl, _, _, _, _, _, rfl, .ty "str", .base (.str z), kit_ty (r := true) (by decide +kernel), true, rfl, iteF ?_⟩
    exact ⟨_, rfl, ⟨_, rfl⟩, z, _, rfl, rfl, by decide +kernel, lzl (by omega), fun L hL => q L hL⟩
/-! ### the parts of a row -/
def spReadParts : Sp := fun vs H Q _ => ∃ (row : Row), vs = [.str (lineS row)] ∧ (∀ o ∈ row, OkP o) ∧ 1 ≤ row.length ∧ row.length ≤ 6 ∧ ∀ (T : Addr) (H' : Hp), H T = none → Same H H' → H' T = some (.tup (row.map oV)) → Q (.ref T) H'
abbrev nReadParts : List Str := ["row", "parts", "part"]
theorem scReadParts : FnScope nReadParts ["row"] (defScope sReadParts) := ⟨rfl, rfl, rfl, by decide +kernel, rfl, by decide +kernel, by decide +kernel⟩
theorem ok_readparts (F : Fun K "read_parts" "read_parts" sReadParts f fd) (B : Bi mg) (G : Gk mg) (hlk : ∃ t, mg "LAKE" = some (.str "-" t)) (hI : Has P w K mg base "is_word" 1 ["thing"] spIsWord) : FnOk P w K mg base CX0 2 f fd ["row"] spReadParts := by
  obtain ⟨tl, gl⟩ := hlk
  obtain ⟨t2, g2⟩ := G.mcols
  refine F.ok scReadParts (fun vs H Q E h => ?_) (fun cdv A outer s H vs Q E hr h => ?_)
  · obtain ⟨row, rfl, _⟩ := h
    rfl
  · obtain ⟨row, rfl, hp, h1, h6, q⟩ := h
    refine ⟨_, pss_cons (ps_set (i := 1) scReadParts.nd rfl (.inl rfl) (pe_split (pv 0) pe_str))
      (pss_cons (ps_if (PW.pt (pw_or (pt_cmpR op_gt (pe_callB call_len_seq (by rfl) B.len PySem.boot_len (pa_cons (pv 1) pa_nil)) (pe_glob (v := .int 6) rfl g2 ⟨_, rfl⟩) (nomark _))
          (pw_or1 (pt_not (pt_val (pe_callB (cr_all rfl) (by rfl) B.all (by decide +kernel) (pa_cons (pe_lc (own := [("part", 2)]) (g := gName 2) (tt := tYes) rfl scReadParts.nd (pi_list (pv 1)) (blkOk_by (N := nReadParts) (sc := defScope sReadParts) (by decide +kernel))
            (fun _ _ _ _ _ => pg_name (i := 2) scReadParts.nd rfl (.inl rfl)) (fun _ _ _ _ _ => pts_nil) (fun _ _ _ _ _ => pe_or (pe_cmpR op_eq (pv 2) (pe_glob (v := .str "-") rfl gl ⟨_, rfl⟩) (nomark _)) (pe_one (pe_h hI hr (pa_cons (pv 2) pa_nil))))) pa_nil))))))) (pss_one (ps_ret pe_non)) pss_nil)
      (pss_one (ps_ret (pe_callTy call_tuple_of (by rfl) B.tuple (by decide +kernel) (pa_cons (pe_lc (own := [("part", 2)]) (g := gName 2) (tt := tYes) rfl scReadParts.nd (pi_list (pv 1)) (blkOk_by (N := nReadParts) (sc := defScope sReadParts) (by decide +kernel))
            (fun _ _ _ _ _ => pg_name (i := 2) scReadParts.nd rfl (.inl rfl)) (fun _ _ _ _ _ => pts_nil) (fun _ _ _ _ _ => pe_ifExp (pt_cmpR op_eq (pv 2) (pe_glob (v := .str "-") rfl gl ⟨_, rfl⟩) (nomark _)) pe_non (pv 2))) pa_nil))))), ?_⟩
    have ll := line_len hp h6
    have ne : row ≠ [] := fun e => by rw [e] at h1; simp at h1
    refine ⟨_, rfl, ⟨_, rfl⟩, lineS row, _, rfl, rfl, by decide +kernel, lzl (by omega), fun A1 hA1 => ?_⟩
    rw [line_split hp ne]
    have sA : Same H (upd H A1 (.lst ((row.map partS).map V.str))) := same_new hA1
    have hA : (upd H A1 (.lst ((row.map partS).map V.str))) A1 = some (.lst ((row.map partS).map V.str)) := upd_same
    generalize upd H A1 (.lst ((row.map partS).map V.str)) = H1 at sA hA
    refine ⟨_, rfl, A1, _, rfl, .inl (.inl (.inl hA)), _, _, rfl, rfl, _, rfl, ?_⟩
    rw [List.length_map, List.length_map, decide_eq_false (by omega)]
    refine iteF ⟨_, rfl, A1, rfl, ⟨_, .inl (.inl hA)⟩, fun D hD => ?_⟩
    refine lc_rel (walk_list (K := K) (a := A1) (xs := (row.map partS).map V.str)) hD (fun _ => true) (fun x y _ => y = .bl true) (fun H' s' => .inl (.inl (s' _ _ hA))) (fun _ => rfl) (fun x H' _ _ Q' q' => q') ?_ (fun _ _ _ _ _ _ _ r => r) ?_ ?_
    · intro x H' hx _ s' Q' q'
      obtain ⟨z, hz, rfl⟩ := List.mem_map.mp hx
      obtain ⟨o, ho, rfl⟩ := List.mem_map.mp hz
      refine ⟨_, rfl, rfl, _, rfl, ?_⟩
      rcases wd_part (hp o ho) with e | e
      · rw [e, decide_eq_true rfl]
        exact iteT (q' _ H' (Same.refl _) rfl)
      · rw [decide_eq_false (fun q => wd_dash e (V.str.inj q))]
        refine iteF ⟨_, rfl, partS o, rfl, by have := e.len; omega, fun H2 s2 => ?_⟩
        rw [show wdB (partS o) = true from e]
        exact q' _ H2 s2 rfl
    · rw [List.length_map, List.length_map]
      exact small1000 (by omega)
    · intro zs H2 s2 hD2 he
      have ez : zs = ((row.map partS).map fun _ => true).map V.bl := by
        rw [List.filter_eq_self.mpr fun _ _ => rfl] at he
        have := each_fn (f := fun _ => V.bl true) he
        rw [this]
        simp
      refine ⟨D, (row.map partS).map fun _ => true, rfl, .inl (.inl (by rw [hD2, ez])), true, ?_, ?_⟩
      · simp
      · have hA2 := s2 _ _ hA
        refine iteF ⟨_, rfl, A1, rfl, ⟨_, .inl (.inl hA2)⟩, fun D2 hD2' => ?_⟩
        refine lc_map (walk_list (K := K) (a := A1) (xs := (row.map partS).map V.str)) hD2' (fun _ => true) unV (fun H' s' => .inl (.inl (s' _ _ hA2))) (fun _ => rfl) (fun x H' _ _ Q' q' => q') ?_ ?_ ?_
        · intro x H' hx _ _ Q' q'
          obtain ⟨z, hz, rfl⟩ := List.mem_map.mp hx
          refine ⟨_, rfl, rfl, _, rfl, ?_⟩
          by_cases e : z = "-"
          · rw [e, decide_eq_true rfl]
            rw [e] at q'
            exact iteT q'
          · rw [decide_eq_false (fun q => e (V.str.inj q))]
            have eu : unV (.str z) = .str z := if_neg e
            rw [eu] at q'
            exact iteF ⟨_, rfl, q'⟩
        · rw [List.length_map, List.length_map]
          exact small1000 (by omega)
        · intro H3 s3 hD3
          have e1 : (((row.map partS).map V.str).filter fun _ => true).map unV = row.map oV := by
            rw [List.filter_eq_self.mpr fun _ _ => rfl, List.map_map, List.map_map]
            refine List.map_congr_left fun o ho => ?_
            exact un_part (hp o ho)
          rw [e1] at hD3
          have s03 := (sA.trans s2).trans s3
          refine ⟨D2, _, rfl, .inl ⟨.inl (.inl hD3), fun T hT => ?_⟩⟩
          exact q T _ (s03.free hT) (s03.trans (same_new hT)) upd_same
/-! ### whether a row fits -/
def innR (H : Hp) : V → List V
  | .ref p => match H p with
    | some (.tup xs) => xs
    | _ => []
  | _ => []
def notN (v : V) : Bool := !decide (v = .non)
theorem rows_flat {H : Hp} : ∀ {as : List Addr} {g : Grid}, RowsAt H as g → (((as.map V.ref).flatMap fun x => ((innR H x).filter notN).map fun y => (x, y)).map fun xy => xy.2) = (names g).map V.str
  | [], [], _ => rfl
  | [], _ :: _, h => nomatch h
  | _ :: _, [], h => nomatch h
  | a :: as, r :: g, .cons e t => by
    have h1 := rows_flat t
    have h2 : innR H (.ref a) = r.map oV := by
      show (match H a with | some (.tup xs) => xs | _ => []) = _
      rw [e]
    rw [List.map_cons, List.flatMap_cons, List.map_append, h1, names_cons, List.map_append, h2]
    congr 1
    rw [List.map_map]
    have := row_filter r
    rw [List.map_id] at this
    rw [← this]
    show ((r.map oV).filter notN).map (fun y => y) = _
    rw [List.map_id']
    rfl
/-- rows that can be laid one behind another -/
structure Fit (g : Grid) (wd : Nat) : Prop where
  h6 : g.length ≤ 6
  w1 : 1 ≤ wd
  w6 : wd ≤ 6
  rows : ∀ r ∈ g, r.length = wd
  nd : (names g).Nodup
theorem Fit.names36 {g : Grid} {wd : Nat} (F : Fit g wd) : (names g).length ≤ 36 := by
  have h1 := len_names (g := g) (wd := wd) F.rows
  have h2 : g.length * wd ≤ 6 * 6 := Nat.mul_le_mul F.h6 F.w6
  omega
def spFits : Sp := fun vs H Q _ => ∃ (T A : Addr) (row : Row) (as : List Addr) (g : Grid) (wd : Nat), vs = [.ref T, .ref A] ∧ H T = some (.tup (row.map oV)) ∧ H A = some (.lst (as.map V.ref)) ∧ RowsAt H as g ∧ Fit (g ++ [row]) wd ∧ ∀ (H' : Hp), Same H H' → Q (.bl true) H'
abbrev nFits : List Str := ["parts", "ahead", "together", "names", "row", "part"]
theorem scFits : FnScope nFits ["parts", "ahead"] (defScope sFits) := ⟨rfl, rfl, rfl, by decide +kernel, rfl, by decide +kernel, by decide +kernel⟩
theorem ok_fits (F : Fun K "fits_behind" "fits_behind" sFits f fd) (B : Bi mg) (G : Gk mg) (hset : mg "set" = none) : FnOk P w K mg base CX0 1 f fd ["parts", "ahead"] spFits := by
  obtain ⟨t1, g1⟩ := G.mrows
  refine F.ok scFits (fun vs H Q E h => ?_) (fun cdv A outer s H vs Q E hr h => ?_)
  · obtain ⟨T, A, row, as, g, wd, rfl, _⟩ := h
    rfl
  · obtain ⟨T, Aa, row, as, g, wd, rfl, hT, hAa, hR, ft, q⟩ := h
    refine ⟨_, pss_cons (ps_set (i := 2) scFits.nd rfl (.inl rfl) (pe_op op_cat (pv 1) (pe_lst (pa_cons (pv 0) pa_nil))))
      (pss_cons (ps_if (PW.pt (pw_or (pt_cmpR op_gt (pe_callB call_len_seq (by rfl) B.len PySem.boot_len (pa_cons (pv 2) pa_nil)) (pe_glob (v := .int 6) rfl g1 ⟨_, rfl⟩) (nomark _))
          (pw_or1 (pt_cmpR op_ne (pe_callB call_len_seq (by rfl) B.len PySem.boot_len (pa_cons (pv 0) pa_nil)) (pe_callB call_len_seq (by rfl) B.len PySem.boot_len (pa_cons (pe_ix ix_list (pv 2) pe_int (fun _ _ => rfl)) pa_nil)) (nomark _))))) (pss_one (ps_ret pe_bl)) pss_nil)
      (pss_cons (ps_setLc2 (i := 3) (own := [("row", 4), ("part", 5)]) (vs1 := [5]) (g := gName 4) (tt := tYes) (g1 := gName 5) (wi1 := iTup K (tVar 4)) (tt1 := tB (tNotN (tVar 5))) (te := tVar 5) rfl scFits.nd rfl rfl (sw_true rfl rfl rfl (by decide +kernel)) (pi_list (pv 2)) (blkOk_by (N := nFits) (sc := defScope sFits) (by decide +kernel)) (by decide)
          (fun _ _ _ _ _ => pg_name (i := 4) scFits.nd rfl (.inl rfl)) (fun _ _ _ _ _ => pts_nil) (fun _ _ _ _ _ => pi_tup (pv 4)) (fun _ _ _ _ _ => pg_name (i := 5) scFits.nd rfl (.inl rfl)) (fun _ _ _ _ _ => pts_one (pt_cmp (pc_notN (pv 5)))) (fun _ _ _ _ _ => pv 5))
      (pss_one (ps_ret (pe_cmpR op_eq (pe_lenSetT rfl (by rfl) B.len (by rfl) hset (pv 3)) (pe_callB call_len_seq (by rfl) B.len PySem.boot_len (pa_cons (pv 3) pa_nil)) (nomark _)))))), ?_⟩
    have l6 := ft.h6
    rw [List.length_append, List.length_singleton] at l6
    have la : as.length = g.length := hR.length
    refine ⟨_, rfl, _, rfl, lz, fun p1 hp1 => ⟨Aa, p1, _, _, rfl, rfl, (same_new hp1) _ _ hAa, upd_same, lzl (by rw [List.length_map]; show as.length + 1 ≤ 1000; omega), fun p2 hp2 => ?_⟩⟩
    have e12 : as.map V.ref ++ [V.ref T] = (as ++ [T]).map V.ref := by rw [List.map_append]; rfl
    rw [e12]
    have s2 : Same H (upd (upd H p1 (.lst [.ref T])) p2 (.lst ((as ++ [T]).map V.ref))) := (same_new hp1).trans (same_new hp2)
    have h2 : (upd (upd H p1 (.lst [.ref T])) p2 (.lst ((as ++ [T]).map V.ref))) p2 = some (.lst ((as ++ [T]).map V.ref)) := upd_same
    generalize upd (upd H p1 (.lst [.ref T])) p2 (.lst ((as ++ [T]).map V.ref)) = H2 at s2 h2
    have hR2 : RowsAt H2 (as ++ [T]) (g ++ [row]) := Each.append (hR.keep (tk_same s2)) (.cons (s2 _ _ hT) .nil)
    have hT2 := s2 _ _ hT
    refine ⟨_, rfl, p2, _, rfl, .inl (.inl (.inl h2)), _, _, rfl, rfl, _, rfl, ?_⟩
    rw [List.length_map, List.length_append, List.length_singleton, decide_eq_false (by omega)]
    obtain ⟨T0, r0, hT0, hr0, hH0⟩ : ∃ T0 r0, (as ++ [T])[0]? = some T0 ∧ (g ++ [row])[0]? = some r0 ∧ H2 T0 = some (.tup (r0.map oV)) := by
      have h0 : 0 < (as ++ [T]).length := by simp
      obtain ⟨r0, a, b⟩ := hR2.get (List.getElem?_eq_getElem h0)
      exact ⟨_, r0, List.getElem?_eq_getElem h0, a, b⟩
    refine iteF ⟨_, rfl, T, _, rfl, .inr (.inl (.inl hT2)), _, rfl, p2, _, 0, .ref T0, rfl, rfl, .inl (.inl h2), atI_nat (j := 0) (by rw [List.getElem?_map, hT0]; rfl), T0, _, rfl, .inr (.inl (.inl hH0)), rfl, _, rfl, ?_⟩
    have w1 := ft.rows row (by simp)
    have w2 := ft.rows r0 (List.mem_of_getElem? hr0)
    rw [int_decT, List.length_map, List.length_map, w1, w2, decide_eq_true rfl]
    refine iteF ⟨_, rfl, p2, rfl, ⟨_, .inl (.inl h2)⟩, fun D hD => ?_⟩
    refine lc2_rel (walk_list (K := K) (a := p2) (xs := (as ++ [T]).map V.ref)) hD (innR H2) (fun _ => notN) (fun x y z H => z = y) 6 (fun H' s' => .inl (.inl (s' _ _ h2))) (fun _ => rfl) (fun _ _ => rfl) ?_ ?_ ?_ ?_ ?_ ?_ ?_
    · intro x H' acc hx s' hD' Rr rr
      obtain ⟨pr, hpr, rfl⟩ := List.mem_map.mp hx
      obtain ⟨i, hi, ei⟩ := List.mem_iff_getElem.mp hpr
      obtain ⟨r, hr, hH⟩ := hR2.get (i := i) (a := pr) (by rw [List.getElem?_eq_getElem hi, ei])
      have e2 : innR H2 (.ref pr) = r.map oV := by
        show (match H2 pr with | some (.tup xs) => xs | _ => []) = _
        rw [hH]
      have hH' := s' _ _ hH
      refine ⟨_, rfl, pr, rfl, ⟨_, .inl (.inl hH')⟩, ?_⟩
      rw [e2] at rr
      exact rr (Itt K pr) H' (fun H => SqT K H pr (r.map oV)) (Same.refl _) (walk_tup (K := K) (a := pr) (xs := r.map oV)) fun H3 x3 => .inl (.inl (x3 _ _ (ne_of hH' hD' (by intro z; cases z)) hH'))
    · intro x y H' hx hy s' Q' q'
      exact ⟨_, rfl, _, rfl, q'⟩
    · intro x y H' hx hy _ s' Q' q'
      exact ⟨_, rfl, q' y H' (Same.refl _) rfl⟩
    · intro x y z H' H'' acc _ _ r
      exact r
    · intro x hx
      obtain ⟨pr, hpr, rfl⟩ := List.mem_map.mp hx
      obtain ⟨i, hi, ei⟩ := List.mem_iff_getElem.mp hpr
      obtain ⟨r, hr, hH⟩ := hR2.get (i := i) (a := pr) (by rw [List.getElem?_eq_getElem hi, ei])
      have e2 : innR H2 (.ref pr) = r.map oV := by
        show (match H2 pr with | some (.tup xs) => xs | _ => []) = _
        rw [hH]
      rw [e2, List.length_map, ft.rows r (List.mem_of_getElem? hr)]
      exact ft.w6
    · rw [List.length_map, List.length_append, List.length_singleton]
      exact Nat.lt_of_le_of_lt (Nat.mul_le_mul_right 6 (show as.length + 1 ≤ 6 by omega)) (by decide)
    · intro zs H3 s3 hD3 he
      have ez : zs = (names (g ++ [row])).map V.str := by
        have := each_fn (f := fun xy : V × V => xy.2) he
        rw [this]
        exact rows_flat hR2
      rw [ez] at hD3
      have l36 := ft.names36
      refine ⟨_, rfl, D, names (g ++ [row]), rfl, .inl (.inl hD3), by omega, _, rfl, D, _, rfl, .inl (.inl (.inl hD3)), rfl, ?_⟩
      have eu : unlR (names (g ++ [row])) (names (g ++ [row])).length = (names (g ++ [row])).length := by
        unfold unlR
        rw [List.take_length, unl_nodup ((List.reverse_perm _).nodup_iff.mpr ft.nd), List.length_reverse]
      rw [eu, List.length_map, int_decT, decide_eq_true rfl]
      exact q H3 (s2.trans s3)
end
end Wl


namespace Wl
open PySem PySem.Spec PyProof.Rows L2
theorem Good.fit {g : Grid} {wd i : Nat} (G : Good g wd) : Fit (g.take i) wd := by
  refine ⟨Nat.le_trans (List.length_take_le' _ _) G.h6, G.w1, G.w6, fun r hr => G.rows r (List.mem_of_mem_take hr), ?_⟩
  have h := G.nd
  have e : names g = names (g.take i) ++ names (g.drop i) := by
    have q : g.take i ++ g.drop i = g := List.take_append_drop i g
    have : ∀ a b : Grid, names (a ++ b) = names a ++ names b := fun a b => by
      induction a with
      | nil => rfl
      | cons r a ih => rw [List.cons_append, names_cons, names_cons, ih, List.append_assoc]
    rw [← this, q]
  rw [e, List.nodup_append] at h
  exact h.1
section
variable {P : Program} {w : World} {K : PySem.W.Frag} {mg : Str → Option Value} {base : Heap} {f C : Addr} {fd : FuncData}
theorem make_land {σ : L2.St} {H : Hp} {Q : VK} {L : Addr} {g : Grid} {wd : Nat} {ta : TA} (hta : ∀ R : List V → Hp → Prop, (∀ H1 L, Same H H1 → GridAt H1 L g → R [.ref L] H1) → ta σ H R) (gd : Good g wd) (q : ∀ (x L : Addr) (H' : Hp), H x = none → Same H H' → LandAt C H' x L g → Q (.ref x) H') :
    tMake C (spInit C) [] E0 ta σ H Q := by
  refine hta _ fun H1 L s1 hG x dx nx ndx ne => ?_
  have kp : TupKeep H1 (upd (upd H1 dx (.own x)) x (.ins C dx [])) := fun p xs h => by
    rw [upd_ne (ne_of_none h nx), upd_ne (ne_of_none h ndx)]
    exact h
  exact ⟨x, dx, L, g, wd, rfl, upd_same, hG.keep kp, gd, fun H' k hLa => ⟨rfl, q x L H' (s1.free nx) (s1.trans (made_same nx ndx k)) hLa⟩⟩
/-! ### a land of its rows -/
def spLandOf (C : Addr) : Sp := fun vs H Q _ => ∃ (A : Addr) (g : Grid) (wd : Nat), vs = [.ref A] ∧ H A = some (.lst ((g.map lineS).map V.str)) ∧ Good g wd ∧ ∀ (x L : Addr) (H' : Hp), H x = none → Same H H' → LandAt C H' x L g → Q (.ref x) H'
abbrev nLandOf : List Str := ["rows", "read", "at", "row", "parts", "part"]
theorem scLandOf : FnScope nLandOf ["rows"] (defScope sLandOf) := ⟨rfl, rfl, rfl, by decide +kernel, rfl, by decide +kernel, by decide +kernel⟩
def isNV (v : V) : Bool := decide (v = .non)
theorem all_lake {H : Hp} : ∀ {as : List Addr} {g : Grid}, RowsAt H as g → names g ≠ [] → ((((as.map V.ref).flatMap fun x => ((innR H x).filter fun _ => true).map fun y => (x, y)).map fun xy => isNV xy.2).all id) = false
  | [], [], _, h => absurd rfl h
  | [], _ :: _, h, _ => nomatch h
  | _ :: _, [], h, _ => nomatch h
  | a :: as, r :: g, .cons e t, h => by
    have h2 : innR H (.ref a) = r.map oV := by
      show (match H a with | some (.tup xs) => xs | _ => []) = _
      rw [e]
    rw [List.map_cons, List.flatMap_cons, List.map_append, List.all_append, h2, Bool.and_eq_false_iff]
    rw [names_cons] at h
    by_cases q : rnames r = []
    · exact .inr (all_lake t fun e2 => h (by rw [q, e2]; rfl))
    · refine .inl ?_
      rw [List.filter_eq_self.mpr fun _ _ => rfl, List.map_map, List.map_map]
      clear h t e h2
      induction r with
      | nil => exact absurd rfl q
      | cons o r ih =>
        cases o with
        | none =>
          rw [List.map_cons, List.all_cons, ih q]
          simp
        | some z => rfl
theorem rows_keep {H H' : Hp} {as : List Addr} {g : Grid} (h : RowsAt H as g) (s : Same H H') : RowsAt H' as g := h.keep (tk_same s)
theorem ok_landof (F : Fun K "land_of_rows" "land_of_rows" sLandOf f fd) (B : Bi mg) (T : Txt K mg C) (hP : Has P w K mg base "read_parts" 2 ["row"] spReadParts) (hF : Has P w K mg base "fits_behind" 1 ["parts", "ahead"] spFits) (hI : HasI P w K mg base C) : FnOk P w K mg base CX0 6 f fd ["rows"] (spLandOf C) := by
  obtain ⟨fi, fdi, mk, FI, bI⟩ := hI
  refine F.ok scLandOf (fun vs H Q E h => ?_) (fun cdv A outer s H vs Q E hr h => ?_)
  · obtain ⟨A, g, wd, rfl, _⟩ := h
    rfl
  · obtain ⟨Aa, g, wd, rfl, hAa, gd, q⟩ := h
    refine ⟨_, pss_cons (ps_set (i := 1) scLandOf.nd rfl (.inl rfl) (pe_lst pa_nil))
      (pss_cons (ps_for PassesOwn.never rfl (pi_enum (by rfl) B.enum (pa_cons (pv 0) pa_nil)) (pg_tup rfl (pgs_cons (pg_name (i := 2) scLandOf.nd rfl (.inl rfl)) (pgs_cons (pg_name (i := 3) scLandOf.nd rfl (.inl rfl)) pgs_nil)))
        (pss_cons (ps_set (i := 4) scLandOf.nd rfl (.inl rfl) (pe_h hP hr (pa_cons (pv 3) pa_nil)))
        (pss_cons (ps_if (PW.pt (pw_or (pt_cmp (pc_isN (pv 4))) (pw_or1 (pt_not (pt_val (pe_h hF hr (pa_cons (pv 4) (pa_cons (pv 1) pa_nil)))))))) (pss_one ps_never) pss_nil)
        (pss_one (ps_expr (pe_bm PySem.F.plainAttrs_list PySem.F.slot_list_append PySem.F.type_list_append mt_append (pv 1) (pa_cons (pv 4) pa_nil)))))))
      (pss_cons (ps_if (pt_val (pe_callB (cr_all rfl) (by rfl) B.all (by decide +kernel) (pa_cons (pe_lc2 (own := [("parts", 4), ("part", 5)]) (vs1 := [5]) (g := gName 4) (tt := tYes) (g1 := gName 5) (wi1 := iTup K (tVar 4)) (tt1 := tYes) (te := tIsN (tVar 5)) rfl scLandOf.nd (pi_list (pv 1)) (blkOk_by (N := nLandOf) (sc := defScope sLandOf) (by decide +kernel)) (by decide)
          (fun _ _ _ _ _ => pg_name (i := 4) scLandOf.nd rfl (.inl rfl)) (fun _ _ _ _ _ => pts_nil) (fun _ _ _ _ _ => pi_tup (pv 4)) (fun _ _ _ _ _ => pg_name (i := 5) scLandOf.nd rfl (.inl rfl)) (fun _ _ _ _ _ => pts_nil) (fun _ _ _ _ _ => pe_cmp (pc_isN (pv 5)) rfl)) pa_nil))) (pss_one ps_never) pss_nil)
      (pss_one (ps_ret (pe_make mk FI hr (by rfl) T.mgC bI .nil pass0 (pa_cons (pe_callTy call_tuple_of (by rfl) B.tuple (by decide +kernel) (pa_cons (pv 1) pa_nil)) pa_nil)))))), ?_⟩
    have g6 := gd.h6
    refine ⟨lz, fun R hR => ?_⟩
    have s0 : Same H (upd H R (.lst [])) := same_new hR
    have hAa0 := s0 _ _ hAa
    refine ⟨_, rfl, Aa, _, rfl, .inl (.inl hAa0), for_it (walk_enum (K := K) (a := Aa) (xs := (g.map lineS).map V.str)) (fun i σ H' => (∃ y2 y3 y4 y5, σ = [some (.ref Aa), some (.ref R), y2, y3, y4, y5]) ∧ Same H H' ∧ ∃ as : List Addr, H' R = some (.lst (as.map V.ref)) ∧ RowsAt H' as (g.take i))
      ⟨⟨_, _, _, _, rfl⟩, s0, [], upd_same, .nil⟩ (fun i σ H' _ h => .inl (.inl (h.2.1 _ _ hAa))) ?_ ?_⟩
    · rintro i x σ H1 H2 hi ⟨⟨y2, y3, y4, y5, rfl⟩, s1, as, hR1, hRo1⟩ ⟨T, x1, x2, rfl, hT, rfl, ex1, ex2⟩
      have ex2 : ((g.map lineS).map V.str)[i]? = some x2 := ex2
      rw [List.getElem?_map] at ex2
      obtain ⟨z0, hz0, rfl⟩ := Option.map_eq_some_iff.mp ex2
      rw [List.getElem?_map] at hz0
      obtain ⟨row, hrow, rfl⟩ := Option.map_eq_some_iff.mp hz0
      have hrm := List.mem_of_getElem? hrow
      have sT : Same H1 (upd H1 T (.tup [x1, .str (lineS row)])) := same_new hT
      have hT1 : (upd H1 T (.tup [x1, .str (lineS row)])) T = some (.tup [x1, .str (lineS row)]) := upd_same
      refine ⟨T, _, rfl, .inl (.inl upd_same), rfl, _, _, rfl, _, _, rfl, rfl, ?_⟩
      have s12 := s1.trans sT
      have hR2 := sT _ _ hR1
      have hRo2 := rows_keep hRo1 sT
      generalize upd H1 T (.tup [x1, .str (lineS row)]) = H2 at s12 hR2 hRo2
      refine ⟨_, rfl, row, rfl, gd.parts row hrm, by rw [gd.rows row hrm]; exact gd.w1, gd.six row hrm, fun Tp H3 hTp s3 hT3 => ?_⟩
      have etk : g.take i ++ [row] = g.take (i + 1) := (take_snoc hrow).symm
      have hR3 := s3 _ _ hR2
      have hRo3 := rows_keep hRo2 s3
      refine ⟨_, rfl, _, rfl, iteF ⟨_, rfl, _, rfl, Tp, R, row, as, g.take i, wd, rfl, hT3, hR3, hRo3, by rw [etk]; exact gd.fit, fun H4 s4 => ⟨true, rfl, iteF ?_⟩⟩⟩
      have hR4 := s4 _ _ hR3
      have la : as.length ≤ 6 := by
        rw [hRo1.length]
        exact Nat.le_trans (List.length_take_le' _ _) g6
      refine ⟨_, rfl, .inl ⟨rfl, _, .inl (.inl hR4)⟩, _, rfl, R, _, _, rfl, rfl, hR4, ?_, ⟨_, _, _, _, rfl⟩, same_mut (s12.trans (s3.trans s4)) hR, as ++ [Tp], ?_, ?_⟩
      · rw [List.length_map]
        exact small1000 (by omega)
      · rw [upd_same, List.map_append]
        rfl
      · rw [← etk]
        exact Each.append ((rows_keep hRo3 s4).keep (tk_upd hR4)) (.cons (tk_upd hR4 _ _ (s4 _ _ hT3)) .nil)
    · rintro σ H1 ⟨⟨y2, y3, y4, y5, rfl⟩, s1, as, hR1, hRo1⟩
      rw [List.length_map, List.length_map, List.take_length] at hRo1
      have la : as.length = g.length := hRo1.length
      refine ⟨_, rfl, R, rfl, ⟨_, .inl (.inl hR1)⟩, fun D hD => ?_⟩
      refine lc2_rel (walk_list (K := K) (a := R) (xs := as.map V.ref)) hD (innR H1) (fun _ _ => true) (fun x y z H => z = .bl (isNV y)) 6 (fun H' s' => .inl (.inl (s' _ _ hR1))) (fun _ => rfl) (fun _ _ => rfl) ?_ ?_ ?_ ?_ ?_ ?_ ?_
      · intro x H' acc hx s' hD' Rr rr
        obtain ⟨pr, hpr, rfl⟩ := List.mem_map.mp hx
        obtain ⟨i, hi, ei⟩ := List.mem_iff_getElem.mp hpr
        obtain ⟨r, hr', hH⟩ := hRo1.get (i := i) (a := pr) (by rw [List.getElem?_eq_getElem hi, ei])
        have e2 : innR H1 (.ref pr) = r.map oV := by
          show (match H1 pr with | some (.tup xs) => xs | _ => []) = _
          rw [hH]
        have hH' := s' _ _ hH
        refine ⟨_, rfl, pr, rfl, ⟨_, .inl (.inl hH')⟩, ?_⟩
        rw [e2] at rr
        exact rr (Itt K pr) H' (fun H => SqT K H pr (r.map oV)) (Same.refl _) (walk_tup (K := K) (a := pr) (xs := r.map oV)) fun H3 x3 => .inl (.inl (x3 _ _ (ne_of hH' hD' (by intro z; cases z)) hH'))
      · intro x y H' hx hy s' Q' q'
        exact q'
      · intro x y H' hx hy _ s' Q' q'
        exact ⟨_, rfl, q' _ H' (Same.refl _) rfl⟩
      · intro x y z H' H'' acc _ _ r
        exact r
      · intro x hx
        obtain ⟨pr, hpr, rfl⟩ := List.mem_map.mp hx
        obtain ⟨i, hi, ei⟩ := List.mem_iff_getElem.mp hpr
        obtain ⟨r, hr', hH⟩ := hRo1.get (i := i) (a := pr) (by rw [List.getElem?_eq_getElem hi, ei])
        have e2 : innR H1 (.ref pr) = r.map oV := by
          show (match H1 pr with | some (.tup xs) => xs | _ => []) = _
          rw [hH]
        rw [e2, List.length_map]
        exact gd.six r (List.mem_of_getElem? hr')
      · rw [List.length_map]
        exact Nat.lt_of_le_of_lt (Nat.mul_le_mul_right 6 (show as.length ≤ 6 by omega)) (by decide)
      · intro zs H2 s2 hD2 he
        have ez : zs = ((((as.map V.ref).flatMap fun x => ((innR H1 x).filter fun _ => true).map fun y => (x, y)).map fun xy => isNV xy.2)).map V.bl := by
          have := each_fn (f := fun xy : V × V => V.bl (isNV xy.2)) he
          rw [this, List.map_map]
          rfl
        refine ⟨D, _, rfl, .inl (.inl (by rw [hD2, ez])), _, rfl, ?_⟩
        rw [all_lake hRo1 gd.ne]
        refine iteF ?_
        have hR2 := s2 _ _ hR1
        refine ⟨_, rfl, R, _, rfl, .inl ⟨.inl (.inl hR2), fun l hl x dx nx ndx ne => ?_⟩⟩
        have hG : GridAt (upd H2 l (.tup (as.map V.ref))) l g := ⟨as, upd_same, (rows_keep hRo1 s2).keep (tk_new hl)⟩
        have s3 : Same H (upd H2 l (.tup (as.map V.ref))) := (s1.trans s2).trans (same_new hl)
        generalize upd H2 l (.tup (as.map V.ref)) = H3 at hG s3 nx ndx
        have kp : TupKeep H3 (upd (upd H3 dx (.own x)) x (.ins C dx [])) := fun p xs h => by
          rw [upd_ne (ne_of_none h nx), upd_ne (ne_of_none h ndx)]
          exact h
        exact ⟨x, dx, l, g, wd, rfl, upd_same, hG.keep kp, gd, fun H' k hLa => ⟨rfl, q x l H' (s3.free nx) (s3.trans (made_same nx ndx k)) hLa⟩⟩
/-! ### a land of its text -/
end
end Wl


namespace Wl
open PySem PySem.Spec PyProof.Rows L2
abbrev sText : Stmt := topS 66
section
variable {P : Program} {w : World} {K : PySem.W.Frag} {mg : Str → Option Value} {base : Heap} {f C : Addr} {fd : FuncData}
/-! ### a land's text by the law -/
def spText : Sp := fun vs H Q _ => ∃ (L : Addr) (g : Grid), vs = [.ref L] ∧ GridAt H L g ∧ (∀ r ∈ g, ∀ o ∈ r, OkP o) ∧ g.length ≤ 6 ∧ (∀ r ∈ g, r.length ≤ 6) ∧ ∀ (H' : Hp), Same H H' → Q (.str (landS g)) H'
abbrev nText : List Str := ["_law_rows", "_law_row", "_law_name"]
theorem scText : FnScope nText ["_law_rows"] (defScope sText) := ⟨rfl, rfl, rfl, by decide +kernel, rfl, by decide +kernel, by decide +kernel⟩
theorem wd_long {z : Str} (h : IsWd z) : ((z.length : Int) != 0) = true := by
  have := h.len
  simp
  omega
theorem ok_text (F : Fun K "_law_land_text" "_law_land_text" sText f fd) : FnOk P w K mg base CX0 1 f fd ["_law_rows"] spText := by
  refine F.ok scText (fun vs H Q E h => ?_) (fun cdv A outer s H vs Q E hr h => ?_)
  · obtain ⟨L, g, rfl, _⟩ := h
    rfl
  · obtain ⟨L, g, rfl, ⟨as, hL, hR⟩, hp, g6, r6, q⟩ := h
    refine ⟨_, pss_one (ps_ret (pe_join pe_str (pe_lc (own := [("_law_row", 1)]) (g := gName 1) (tt := tYes) (te := tM1 (fun x xs H Q => ∃ a p, ∃ ys : List Str, x = .str a ∧ xs = [.ref p] ∧ (SqL K H p (ys.map V.str) ∨ SqT K H p (ys.map V.str)) ∧ (ys.map (·.length)).sum + ys.length * a.length ≤ 16777216 ∧ Q (.str (Txt.join a ys)) H) (tC (.str " ")) (tLc (iTup K (tVar 1)) (gName 2) tYes (tOrT K (tVar 2) (tC (.str "-"))) [2])) rfl scText.nd (pi_tup (pv 0)) (blkOk_by (N := nText) (sc := defScope sText) (by decide +kernel)) (fun _ _ _ _ _ => pg_name (i := 1) scText.nd rfl (.inl rfl)) (fun _ _ _ _ _ => pts_nil)
      (fun _ _ _ _ _ => pe_join pe_str (pe_lc (own := [("_law_name", 2)]) (g := gName 2) (tt := tYes) rfl scText.nd (pi_tup (pv 1)) (blkOk_by (N := nText) (sc := { kind := .function, names := [(".0", .local), ("_law_row", .local)], isGenerator := false, isCoroutine := false }) (by decide +kernel)) (fun _ _ _ _ _ => pg_name (i := 2) scText.nd rfl (.inl rfl)) (fun _ _ _ _ _ => pts_nil) (fun _ _ _ _ _ => pe_orT (pv 2) (pe_one pe_str))))))), ?_⟩
    refine ⟨⟨_, rfl⟩, _, rfl, L, rfl, ⟨_, .inl (.inl hL)⟩, fun D hD => ?_⟩
    have h6 : as.length ≤ 6 := by rw [hR.length]; exact g6
    refine lc_rel (walk_tup (K := K) (a := L) (xs := as.map V.ref)) hD (fun _ => true) (fun x y _ => ∀ (pr : Addr) (row : Row), x = .ref pr → H pr = some (.tup (row.map oV)) → y = .str (lineS row)) (fun H' s' => .inl (.inl (s' _ _ hL))) (fun _ => rfl) (fun x H' _ _ Q' q' => q') ?_ (fun _ _ _ _ _ _ _ r => r) ?_ ?_
    · intro x H' hx _ s' Q' q'
      obtain ⟨pr, hpr, rfl⟩ := List.mem_map.mp hx
      obtain ⟨i, hi, ei⟩ := List.mem_iff_getElem.mp hpr
      obtain ⟨row, hrow, hH⟩ := hR.get (i := i) (a := pr) (by rw [List.getElem?_eq_getElem hi, ei])
      have hrm := List.mem_of_getElem? hrow
      have hr6 : row.length ≤ 6 := r6 row hrm
      refine ⟨⟨_, rfl⟩, _, rfl, pr, rfl, ⟨_, .inl (.inl (s' _ _ hH))⟩, fun D2 hD2 => ?_⟩
      refine lc_map (walk_tup (K := K) (a := pr) (xs := row.map oV)) hD2 (fun _ => true) showV (fun H2 s2 => .inl (.inl (s2 _ _ (s' _ _ hH)))) (fun _ => rfl) (fun x H' _ _ Q' q' => q') ?_ ?_ ?_
      · intro x H2 hx2 _ _ Q2 q2
        obtain ⟨o, ho, rfl⟩ := List.mem_map.mp hx2
        refine ⟨_, rfl, ?_⟩
        cases o with
        | none => exact ⟨false, rfl, iteF q2⟩
        | some z =>
          have hz := hp row hrm _ ho z rfl
          exact ⟨true, ⟨wd_line hz, (wd_long hz).symm⟩, iteT q2⟩
      · rw [List.length_map]
        exact small1000 (by omega)
      · intro H2 s2 hD3
        have e1 : ((row.map oV).filter fun _ => true).map showV = (row.map partS).map V.str := by
          rw [List.filter_eq_self.mpr fun _ _ => rfl, List.map_map, List.map_map]
          refine List.map_congr_left fun o _ => ?_
          cases o <;> rfl
        rw [e1] at hD3
        refine ⟨_, D2, row.map partS, rfl, rfl, .inl (.inl (.inl hD3)), ?_, q' _ H2 s2 fun pr2 row2 e2 h2 => ?_⟩
        · have := sum_len (l := row.map partS) (m := 8) fun z hz => by
            obtain ⟨o, ho, rfl⟩ := List.mem_map.mp hz
            rw [TL.len_tl]
            exact (part_tl (hp row hrm o ho)).1
          rw [List.length_map] at this ⊢
          have e : (" " : Str).length = 1 := by decide +kernel
          rw [e]
          omega
        · obtain rfl : pr = pr2 := V.ref.inj e2
          rw [hH] at h2
          have : row = row2 := map_oV_inj (HO.tup.inj (Option.some.inj h2))
          rw [← this]
          rfl
    · rw [List.length_map]
      exact small1000 (by omega)
    · intro zs H1 s1 hD1 he
      rw [List.filter_eq_self.mpr fun _ _ => rfl] at he
      have e1 : zs = (g.map lineS).map V.str := lines_of hR he
      rw [e1] at hD1
      refine ⟨_, D, g.map lineS, rfl, rfl, .inl (.inl (.inl hD1)), ?_, q H1 s1⟩
      have := sum_len (l := g.map lineS) (m := 54) fun z hz => by
        obtain ⟨r, hr', rfl⟩ := List.mem_map.mp hz
        exact line_len (hp r hr') (r6 r hr')
      rw [List.length_map] at this ⊢
      have e : ("\n" : Str).length = 1 := by decide +kernel
      rw [e]
      omega
/-! ### is it the land of these rows -/
end
end Wl


namespace Wl
open PySem PySem.Spec PyProof.Rows L2
inductive Wh where
  | first | last | any
  deriving DecidableEq
def whS : Wh → Str
  | .first => "first"
  | .last => "last"
  | .any => "any"
abbrev Chg := Nat × Nat × Wh
def isLet (c : Nat) : Prop := 97 ≤ c ∧ c ≤ 122
instance (c : Nat) : Decidable (isLet c) := by unfold isLet; infer_instance
def OkC (ch : Chg) : Prop := isLet ch.1 ∧ isLet ch.2.1 ∧ ch.1 ≠ ch.2.1
def acts (wh : Wh) (i n : Nat) : Bool := match wh with
  | .first => decide (i = 0)
  | .last => decide (i + 1 = n)
  | .any => true
abbrev Edges := List (Nat × Nat)
def es (chs : List Chg) (i n : Nat) : Edges := (chs.filter fun ch => acts ch.2.2 i n).map fun ch => (ch.1, ch.2.1)
def nbE (c : Nat) (e : Nat × Nat) : List Nat := (if e.1 = c then [e.2] else []) ++ (if e.2 = c then [e.1] else [])
def nbrs (E : Edges) (c : Nat) : List Nat := E.flatMap (nbE c)
theorem mem_nbrs {E : Edges} {c d : Nat} : d ∈ nbrs E c ↔ (c, d) ∈ E ∨ (d, c) ∈ E := by
  unfold nbrs nbE
  rw [List.mem_flatMap]
  constructor
  · rintro ⟨⟨x, y⟩, he, h⟩
    rcases List.mem_append.mp h with k | k
    · by_cases q : x = c
      · rw [if_pos q, List.mem_singleton] at k
        rw [k, ← q]
        exact .inl he
      · rw [if_neg q] at k
        cases k
    · by_cases q : y = c
      · rw [if_pos q, List.mem_singleton] at k
        rw [k, ← q]
        exact .inr he
      · rw [if_neg q] at k
        cases k
  · rintro (h | h)
    · exact ⟨(c, d), h, List.mem_append_left _ (by simp)⟩
    · exact ⟨(d, c), h, List.mem_append_right _ (by simp)⟩
theorem nbrs_symm {E : Edges} {c d : Nat} (h : d ∈ nbrs E c) : c ∈ nbrs E d := mem_nbrs.mpr ((mem_nbrs.mp h).symm)
theorem nbrs_snoc (E : Edges) (x y c : Nat) : nbrs (E ++ [(x, y)]) c = nbrs E c ++ ((if x = c then [y] else []) ++ (if y = c then [x] else [])) := by
  unfold nbrs
  rw [List.flatMap_append]
  simp [nbE]
inductive Conn (E : Edges) : Nat → Nat → Prop
  | refl (a : Nat) : Conn E a a
  | step {a b c : Nat} : Conn E a b → c ∈ nbrs E b → Conn E a c
theorem Conn.trans {E : Edges} {a b c : Nat} (h : Conn E a b) (k : Conn E b c) : Conn E a c := by
  induction k with
  | refl => exact h
  | step _ m ih => exact .step ih m
theorem Conn.symm {E : Edges} {a b : Nat} (h : Conn E a b) : Conn E b a := by
  induction h with
  | refl => exact .refl _
  | step _ m ih => exact (Conn.step (.refl _) (nbrs_symm m)).trans ih
def OkE (E : Edges) : Prop := ∀ e ∈ E, isLet e.1 ∧ isLet e.2
theorem conn_let {E : Edges} (ok : OkE E) {a b : Nat} (h : Conn E a b) (ha : isLet a) : isLet b := by
  induction h with
  | refl => exact ha
  | step _ m _ =>
    rcases mem_nbrs.mp m with m | m
    · exact (ok _ m).2
    · exact (ok _ m).1
theorem es_ok {chs : List Chg} (h : ∀ ch ∈ chs, OkC ch) (i n : Nat) : OkE (es chs i n) := fun e he => by
  obtain ⟨ch, hc, rfl⟩ := List.mem_map.mp he
  have := h ch (List.mem_filter.mp hc).1
  exact ⟨this.1, this.2.1⟩
theorem least_of (p : Nat → Prop) : ∀ n, p n → ∃ m, p m ∧ ∀ d, p d → m ≤ d := by
  intro n
  induction n using Nat.strongRecOn with
  | _ n ih =>
    intro hn
    by_cases h : ∃ k, k < n ∧ p k
    · obtain ⟨k, hk, pk⟩ := h
      exact ih k hk pk
    · exact ⟨n, hn, fun d hd => Nat.le_of_not_lt fun q => h ⟨d, q, hd⟩⟩
noncomputable def lo (E : Edges) (c : Nat) : Nat := Classical.choose (least_of (Conn E c) c (.refl c))
theorem lo_conn (E : Edges) (c : Nat) : Conn E c (lo E c) := (Classical.choose_spec (least_of (Conn E c) c (.refl c))).1
theorem lo_le {E : Edges} {c d : Nat} (h : Conn E c d) : lo E c ≤ d := (Classical.choose_spec (least_of (Conn E c) c (.refl c))).2 d h
theorem lo_self (E : Edges) (c : Nat) : lo E c ≤ c := lo_le (.refl c)
theorem lo_eq {E : Edges} {c d : Nat} : lo E c = lo E d ↔ Conn E c d := by
  constructor
  · intro e
    have h1 := lo_conn E c
    have h2 := lo_conn E d
    rw [← e] at h2
    exact h1.trans h2.symm
  · intro h
    exact Nat.le_antisymm (lo_le (h.trans (lo_conn E d))) (lo_le (h.symm.trans (lo_conn E c)))
theorem lo_of {E : Edges} {c m : Nat} (h : Conn E c m) (k : ∀ d, Conn E c d → m ≤ d) : lo E c = m := Nat.le_antisymm (lo_le h) (k _ (lo_conn E c))
/-! ### words -/
abbrev codes (z : Str) : List Nat := z.cps.toList
def ofC (l : List Nat) : Str := ⟨l.toArray⟩
theorem codes_ofC (l : List Nat) : codes (ofC l) = l := rfl
noncomputable def mean (chs : List Chg) (z : Str) : Str := ofC ((codes z).mapIdx fun i c => lo (es chs i (codes z).length) c)
theorem mean_len (chs : List Chg) (z : Str) : (codes (mean chs z)).length = (codes z).length := by
  unfold mean
  rw [codes_ofC, List.length_mapIdx]
theorem mean_at (chs : List Chg) (z : Str) {i c : Nat} (h : (codes z)[i]? = some c) : (codes (mean chs z))[i]? = some (lo (es chs i (codes z).length) c) := by
  unfold mean
  rw [codes_ofC, List.getElem?_mapIdx, h]
  rfl
/-- they are one: as long, and at each place the letters hang together -/
def OneP (chs : List Chg) (z y : Str) : Prop := (codes z).length = (codes y).length ∧ ∀ i a b, (codes z)[i]? = some a → (codes y)[i]? = some b → Conn (es chs i (codes z).length) b a
theorem one_iff {chs : List Chg} {z y : Str} : OneP chs z y ↔ (codes z).length = (codes y).length ∧ mean chs z = mean chs y := by
  constructor
  · rintro ⟨hl, h⟩
    refine ⟨hl, str_ext ?_⟩
    refine List.ext_getElem? fun i => ?_
    by_cases hi : i < (codes z).length
    · have h1 : (codes z)[i]? = some (codes z)[i] := List.getElem?_eq_getElem hi
      have h2 : (codes y)[i]? = some ((codes y)[i]'(by omega)) := List.getElem?_eq_getElem (by omega)
      have e1 := mean_at chs z h1
      have e2 := mean_at chs y h2
      rw [e1, e2, hl]
      rw [hl] at h
      exact congrArg some (lo_eq.mpr (h i _ _ h1 h2).symm)
    · have q1 : (codes (mean chs z))[i]? = none := List.getElem?_eq_none (by rw [mean_len]; omega)
      have q2 : (codes (mean chs y))[i]? = none := List.getElem?_eq_none (by rw [mean_len]; omega)
      exact q1.trans q2.symm
  · rintro ⟨hl, e⟩
    refine ⟨hl, fun i a b ha hb => ?_⟩
    have e1 := mean_at chs z ha
    have e2 := mean_at chs y hb
    rw [e, e2, ← hl] at e1
    exact lo_eq.mp (Option.some.inj e1)
theorem mean_mean {chs : List Chg} (z : Str) : mean chs (mean chs z) = mean chs z := by
  refine str_ext (List.ext_getElem? fun i => ?_)
  have l1 := mean_len chs z
  have l2 := mean_len chs (mean chs z)
  by_cases hi : i < (codes z).length
  · have h1 : (codes z)[i]? = some (codes z)[i] := List.getElem?_eq_getElem hi
    have e1 := mean_at chs z h1
    have e2 := mean_at chs (mean chs z) e1
    rw [e2, e1, l1]
    exact congrArg some (lo_eq.mpr (lo_conn _ _).symm)
  · have q1 : (codes (mean chs (mean chs z)))[i]? = none := List.getElem?_eq_none (by rw [mean_len, mean_len]; omega)
    have q2 : (codes (mean chs z))[i]? = none := List.getElem?_eq_none (by rw [mean_len]; omega)
    exact q1.trans q2.symm
theorem one_mean (chs : List Chg) (z : Str) : OneP chs (mean chs z) z := one_iff.mpr ⟨mean_len chs z, mean_mean z⟩
theorem one_symm {chs : List Chg} {z y : Str} : OneP chs z y ↔ OneP chs y z := by
  rw [one_iff, one_iff]
  constructor <;> rintro ⟨a, b⟩ <;> exact ⟨a.symm, b.symm⟩
theorem lt_no : ∀ {l m : List Nat}, l.length = m.length → (∀ (i a b : Nat), l[i]? = some a → m[i]? = some b → a ≤ b) → ¬ m < l
  | [], [], _, _ => List.lt_irrefl _
  | a :: l, b :: m, hl, h => by
    have h0 : a ≤ b := h 0 a b rfl rfl
    have ih := lt_no (l := l) (m := m) (by simpa using hl) fun i x y hx hy => h (i + 1) x y (by simpa using hx) (by simpa using hy)
    intro q
    rcases List.cons_lt_cons_iff.mp q with q | ⟨e, q⟩
    · omega
    · exact ih q
  | [], b :: m, hl, _ => by simp at hl
  | a :: l, [], hl, _ => by simp at hl
theorem mean_le (chs : List Chg) (z : Str) : ¬ ltS z (mean chs z) := by
  refine lt_no (mean_len chs z) fun i a b ha hb => ?_
  rw [mean_at chs z hb] at ha
  cases ha
  exact lo_self _ _
theorem es_nil (i n : Nat) : es [] i n = [] := rfl
theorem conn_nil {a b : Nat} (h : Conn [] a b) : a = b := by
  induction h with
  | refl => rfl
  | step _ m _ => cases m
theorem one_plain {z y : Str} : OneP [] z y ↔ z = y := by
  constructor
  · rintro ⟨hl, h⟩
    refine str_ext (List.ext_getElem? fun i => ?_)
    by_cases hi : i < (codes z).length
    · have h1 : (codes z)[i]? = some (codes z)[i] := List.getElem?_eq_getElem hi
      have h2 : (codes y)[i]? = some ((codes y)[i]'(by omega)) := List.getElem?_eq_getElem (by omega)
      exact h1.trans ((congrArg some (conn_nil (h i _ _ h1 h2)).symm).trans h2.symm)
    · have q1 : (codes z)[i]? = none := List.getElem?_eq_none (by omega)
      have q2 : (codes y)[i]? = none := List.getElem?_eq_none (by omega)
      exact q1.trans q2.symm
  · rintro rfl
    refine ⟨rfl, fun i a b h1 h2 => ?_⟩
    rw [h1] at h2
    cases h2
    exact .refl _
theorem mean_plain (z : Str) : mean [] z = z := by
  refine str_ext (List.ext_getElem? fun i => ?_)
  have l1 := mean_len [] z
  by_cases hi : i < (codes z).length
  · have h1 : (codes z)[i]? = some (codes z)[i] := List.getElem?_eq_getElem hi
    exact (mean_at [] z h1).trans ((congrArg some (conn_nil (lo_conn _ _)).symm).trans h1.symm)
  · have q1 : (codes (mean [] z))[i]? = none := List.getElem?_eq_none (by rw [mean_len]; omega)
    have q2 : (codes z)[i]? = none := List.getElem?_eq_none (by omega)
    exact q1.trans q2.symm
theorem wd_codes {z : Str} : IsWd z ↔ (1 ≤ (codes z).length ∧ (codes z).length ≤ 8) ∧ ∀ c ∈ codes z, isLet c := by
  unfold IsWd wdB isLet Str.length codes
  rw [Array.length_toList]
  simp only [Bool.and_eq_true, decide_eq_true_eq, List.all_eq_true]
theorem mean_wd {chs : List Chg} (h : ∀ ch ∈ chs, OkC ch) {z : Str} (hz : IsWd z) : IsWd (mean chs z) := by
  obtain ⟨h1, h2⟩ := wd_codes.mp hz
  refine wd_codes.mpr ⟨by rw [mean_len]; exact h1, fun c hc => ?_⟩
  obtain ⟨i, hi, rfl⟩ := List.mem_iff_getElem.mp hc
  have hi2 : i < (codes z).length := by rw [mean_len] at hi; exact hi
  have e := mean_at chs z (List.getElem?_eq_getElem hi2)
  rw [List.getElem?_eq_getElem hi] at e
  rw [Option.some.inj e]
  exact conn_let (es_ok h _ _) (lo_conn _ _) (h2 _ (List.getElem_mem hi2))
/-! ### the walk over letters, by breadth -/
structure Bfs (E : Edges) (goal : Nat) (tw : List (Nat × Option Nat)) (at' : Nat) : Prop where
  nd : (tw.map (·.1)).Nodup
  lets : ∀ x ∈ tw.map (·.1), isLet x
  conn : ∀ x ∈ tw.map (·.1), Conn E goal x
  head : tw[0]? = some (goal, none)
  par : ∀ (i c d : Nat), tw[i]? = some (c, some d) → ∃ j o, j < i ∧ tw[j]? = some (d, o)
  non : ∀ (i c : Nat), tw[i]? = some (c, none) → i = 0
  closed : ∀ (j x : Nat) (o : Option Nat), j < at' → tw[j]? = some (x, o) → ∀ y ∈ nbrs E x, y ∈ tw.map (·.1)
theorem Bfs.start {E : Edges} {goal : Nat} (h : isLet goal) : Bfs E goal [(goal, none)] 0 := by
  refine ⟨by simp, ?_, ?_, rfl, ?_, ?_, fun j x o hj => by omega⟩
  · intro x hx
    simp at hx
    subst hx
    exact h
  · intro x hx
    simp at hx
    subst hx
    exact .refl _
  · intro i c d hi
    match i, hi with
    | 0, e => cases e
    | n + 1, e => simp at e
  · intro i c hi
    match i, hi with
    | 0, _ => rfl
    | n + 1, e => simp at e
theorem Bfs.len {E : Edges} {goal : Nat} {tw : List (Nat × Option Nat)} {a : Nat} (b : Bfs E goal tw a) : tw.length ≤ 26 := by
  have h := b.nd.length_le_of_subset (l₂ := List.range' 97 26) fun x hx => by
    have := b.lets x hx
    rw [List.mem_range'_1]
    unfold isLet at this
    omega
  simpa using h
theorem Bfs.push {E : Edges} {goal x y : Nat} {tw : List (Nat × Option Nat)} {a : Nat} {o : Option Nat} (b : Bfs E goal tw a) (hx : tw[a]? = some (x, o)) (hy : y ∈ nbrs E x) (hl : isLet y) (hn : y ∉ tw.map (·.1)) : Bfs E goal (tw ++ [(y, some x)]) a := by
  have ha : a < tw.length := (List.getElem?_eq_some_iff.mp hx).1
  have old : ∀ {i : Nat} {p : Nat × Option Nat}, tw[i]? = some p → (tw ++ [(y, some x)])[i]? = some p := fun {i p} h => by
    rw [List.getElem?_append_left (List.getElem?_eq_some_iff.mp h).1]
    exact h
  have back : ∀ {i : Nat} {p : Nat × Option Nat}, (tw ++ [(y, some x)])[i]? = some p → tw[i]? = some p ∨ (i = tw.length ∧ p = (y, some x)) := fun {i p} h => by
    by_cases q : i < tw.length
    · rw [List.getElem?_append_left q] at h
      exact .inl h
    · rw [List.getElem?_append_right (by omega)] at h
      have : i - tw.length = 0 := by
        have := (List.getElem?_eq_some_iff.mp h).1
        simp at this
        omega
      rw [this] at h
      simp at h
      exact .inr ⟨by omega, h.symm⟩
  refine ⟨?_, ?_, ?_, old b.head, ?_, ?_, ?_⟩
  · rw [List.map_append, List.nodup_append]
    refine ⟨b.nd, by simp, fun u hu v hv e => ?_⟩
    simp at hv
    subst hv e
    exact hn hu
  · intro u hu
    rw [List.map_append] at hu
    rcases List.mem_append.mp hu with hu | hu
    · exact b.lets u hu
    · simp at hu
      subst hu
      exact hl
  · intro u hu
    rw [List.map_append] at hu
    rcases List.mem_append.mp hu with hu | hu
    · exact b.conn u hu
    · simp at hu
      subst hu
      exact .step (b.conn x (List.mem_map.mpr ⟨_, List.mem_of_getElem? hx, rfl⟩)) hy
  · intro i c d hi
    rcases back hi with h | ⟨e, h⟩
    · obtain ⟨j, o', hj, h'⟩ := b.par i c d h
      exact ⟨j, o', hj, old h'⟩
    · cases h
      exact ⟨a, o, by omega, old hx⟩
  · intro i c hi
    rcases back hi with h | ⟨e, h⟩
    · exact b.non i c h
    · cases h
  · intro j u o' hj h v hv
    rcases back h with h | ⟨e, h⟩
    · rw [List.map_append]
      exact List.mem_append_left _ (b.closed j u o' hj h v hv)
    · omega
theorem Bfs.next {E : Edges} {goal x : Nat} {tw : List (Nat × Option Nat)} {a : Nat} {o : Option Nat} (b : Bfs E goal tw a) (hx : tw[a]? = some (x, o)) (h : ∀ y ∈ nbrs E x, y ∈ tw.map (·.1)) : Bfs E goal tw (a + 1) := by
  refine ⟨b.nd, b.lets, b.conn, b.head, b.par, b.non, fun j u o' hj hu => ?_⟩
  by_cases q : j < a
  · exact b.closed j u o' q hu
  · have : j = a := by omega
    subst this
    rw [hx] at hu
    cases hu
    exact h
theorem Bfs.done {E : Edges} {goal : Nat} {tw : List (Nat × Option Nat)} {a : Nat} (b : Bfs E goal tw a) (ha : tw.length ≤ a) {c : Nat} : c ∈ tw.map (·.1) ↔ Conn E goal c := by
  refine ⟨b.conn c, fun h => ?_⟩
  induction h with
  | refl => exact List.mem_map.mpr ⟨_, List.mem_of_getElem? b.head, rfl⟩
  | step _ m ih =>
    obtain ⟨⟨u, o⟩, hu, rfl⟩ := List.mem_map.mp ih
    obtain ⟨j, hj, e⟩ := List.mem_iff_getElem.mp hu
    exact b.closed j u o (by omega) (by rw [List.getElem?_eq_getElem hj, e]) _ m
end Wl

namespace Wl
open PySem PySem.Spec PyProof.Rows L2
/-! enumerate(a text) -/
def IteS (z : Str) : It where
  go := fun i _ => i < z.cps.size
  yld := fun i H v H' => ∃ T c, v = .ref T ∧ H T = none ∧ z.cps[i]? = some c ∧ H' = upd H T (.tup [.int (i : Nat), .str (sign c)])
  stop := fun i _ => z.cps.size ≤ i
theorem turn_enumS {P : Program} {w : World} {K : PySem.W.Frag} {elts : List Expr} {kk : Nat} {tpos : Pos} (z : Str) (t : Tok) (e it : Addr) :
    Turn P w K (.Tuple elts kk tpos) (IteS z) [e, it] e (fun i h => (∃ old, IsEnum h e it ((i : Nat) : Int) old) ∧ h.IsStrIter it (strIterType z) z t i ∧ e ≠ it) where
  mem := by simp
  obj := fun i h st b hb => by
    obtain ⟨⟨old, he⟩, ⟨o, ho, hc, hd⟩, _⟩ := st
    rcases (show b = e ∨ b = it by simpa using hb) with q | q
    · subst q; exact ⟨_, he, fun v q => nomatch q⟩
    · subst q; exact ⟨o, ho, fun v q => by rw [hd] at q; cases q⟩
  keep := fun i h h' st k => let ⟨⟨old, he⟩, ⟨o, ho, r⟩, hne⟩ := st; ⟨⟨old, k e (by simp) _ he⟩, ⟨o, k it (by simp) o ho, r⟩, hne⟩
  item := by
    intro X hP hw hK hc i pins s σ H E I hf st hg
    subst hP hw hK
    obtain ⟨⟨old, he⟩, hit, hne⟩ := st
    have hi : i < z.cps.size := hg
    obtain ⟨oi, hoi, _⟩ := id hit
    have hel : e < s.heap.objs.size := Heap.lt_size he
    have hil : it < s.heap.objs.size := Heap.lt_size hoi
    refine wpAny_pyNext_enum_itemD (Draws.text (prog := X.prog) (w := X.w) (A := X.A.in1) (I.ok.hd hc) it z t) he hit hi hne (by simp [hne]) fun y h' tk hy ho hst hTp hsz hk => ?_
    obtain ⟨c, tu, hcz, rfl⟩ := hy
    refine ⟨_, rfl, wpAny_letOwnedTupleGo_enum (s := { s with heap := h', toks := tk + 1 }) ho fun h'' he' sb => ?_⟩
    have hT2 : h''.get? s.heap.objs.size = some { cls := .type "tuple", data := .seq #[.int i tk, .str ⟨#[c]⟩ tu] } := (sb.2 _ (Nat.ne_of_gt hel)).trans hTp
    have new : ObjOk X.prog X.w (upd H s.heap.objs.size (.tup [.int (i : Nat), .str (sign c)])) h'' s.heap.objs.size (.tup [.int (i : Nat), .str (sign c)]) :=
      ⟨by show 2 ≤ sizeLine; decide, [.int i tk, .str ⟨#[c]⟩ tu], .cons ⟨_, rfl⟩ (.cons ⟨_, rfl⟩ .nil), ⟨_, hT2, rfl, _, rfl⟩⟩
    have I1 : L2.Inv X pins σ (upd H s.heap.objs.size (.tup [.int (i : Nat), .str (sign c)])) { s with heap := h'', toks := tk + 1 } :=
      I.turnedNew (ch := [e, it]) (fun b ob hb q => by
        simp only [List.mem_cons, List.not_mem_nil, or_false, not_or] at hb
        exact (sb.2 b hb.1).trans (hk b ob hb.1 hb.2 q)) hf (Nat.le_refl _) new
    have e1 : ((i + 1 : Nat) : Int) = (i : Int) + 1 := by omega
    obtain ⟨o2, ho2, r2⟩ := hst
    refine ⟨.ref s.heap.objs.size, _, I1, rfl, ⟨_, c, rfl, I.hok.fresh (Nat.le_refl _), hcz, rfl⟩, ⟨⟨.str ⟨#[c]⟩ tu, by rw [e1]; exact he'⟩, ⟨o2, (sb.2 it (Ne.symm hne)).trans ho2, r2⟩, hne⟩, fun b hb => ?_⟩
    have hb' : b < s.heap.objs.size := by
      rcases (show b = e ∨ b = it by simpa using hb) with q | q <;> subst q <;> assumption
    rw [upd_ne (Nat.ne_of_lt hb')]
    exact (hf b hb).1
  done := by
    intro X hP hw hK hc i pins s σ H E I hf st hg
    subst hP hw hK
    obtain ⟨⟨old, he⟩, hit, hne⟩ := st
    have hi : z.cps.size ≤ i := hg
    obtain ⟨f0, f1, f2, f3, f4, f5⟩ := hf it (by simp)
    have hTy : s.TypeIs (.ref e) "enumerate" := ⟨_, he, rfl⟩
    show wpAny _ _ (pyNext (.ref e)) _ _ s
    unfold pyNext
    refine wpAny_bind (wpAny_attempt (wpAny_callSpecial?_slot (name := Str.ofString "__next__") hTy F.slot_enumerate_next (wpAny_call_entry F.slot_enumerate_next hTy F.entry_enumerate_next ?_ (F.args_enumerate_next_1 _))))
    show wpAny _ _ (field (.ref e) 2 >>= _) _ _ _
    refine wpAny_bind (wpAny_field he rfl (x := .ref it) rfl (wpAny_bind ?_))
    have hx : z.cps[i]? = none := Array.getElem?_eq_none hi
    cases ha : z.cps.all (· < 128)
    · simp only [strIterType, ha, Bool.false_eq_true, if_false] at hit
      refine wpAny_nextOf_wide_end (I.ok.hd hc) hit hx fun h' x he' hx' => ?_
      obtain ⟨o, ho, hcc⟩ := hx'
      exact wpAny_bind (wpAny_isInstance (T := "StopIteration") (b := true) ⟨o, ho, hcc⟩ isSubtype_stop (wpAny_pure ⟨rfl, I.turned (t' := s.toks) (fun b o hb q => he' b o hb q) f0 f1 f3 f4 f5⟩))
    · simp only [strIterType, ha, if_true] at hit
      refine wpAny_nextOf_ascii_end (I.ok.hd hc) hit hx fun h' x he' hx' => ?_
      obtain ⟨o, ho, hcc⟩ := hx'
      exact wpAny_bind (wpAny_isInstance (T := "StopIteration") (b := true) ⟨o, ho, hcc⟩ isSubtype_stop (wpAny_pure ⟨rfl, I.turned (t' := s.toks) (fun b o hb q => he' b o hb q) f0 f1 f3 f4 f5⟩))
  self := fun A i s Q E st h => let ⟨⟨_, he⟩, _⟩ := st; wpAny_pyIter_enum he h
def iEnumS (ta : TA) : TI := fun σ H R => ta σ H fun vs H1 => ∃ z, vs = [.str z] ∧ R (IteS z) H1
theorem pi_enumS {X : Cx} {e : Expr} {ta : TA} {p pos tpos : Pos} {elts : List Expr} {kk : Nat} (hg : Gl X "enumerate") (hm : X.mg "enumerate" = none) (ha : PA X [e] ta) (hs : starEach [e] X.env = [(false, eval e X.env)] := by rfl) :
    PI X (.Tuple elts kk tpos) (.Call (.Name "enumerate" p) [e] [] pos) (iEnumS ta) := by
  refine ⟨fun pins s σ H R I h => ?_⟩
  refine Call_ (ld_blt I hg hm boot_enumerate (PyProof.Rows.callWith_type1 (thn (ha.run pos pins s σ H _ I h) fun us s1 ⟨vs, H1, I1, r1, q1⟩ => ?_) hs rfl))
  obtain ⟨z, rfl, q⟩ := q1
  obtain ⟨u, rfl, ru⟩ := vals1 r1
  obtain ⟨t, rfl⟩ := ru
  refine call_enumerate_str fun h' he hit hsz hk => wpAny_pyIter_enum he ?_
  refine ⟨s1.heap.objs.size + 1, [s1.heap.objs.size + 1, s1.heap.objs.size], _, _, H1, rfl, I1.kept (t' := s1.toks) hk, turn_enumS z t (s1.heap.objs.size + 1) s1.heap.objs.size, ⟨⟨.none, he⟩, hit, Nat.succ_ne_self _⟩, fun b hb => ?_, q⟩
  have hle : s1.heap.objs.size ≤ b := by
    rcases (show b = s1.heap.objs.size + 1 ∨ b = s1.heap.objs.size by simpa using hb) with q | q <;> rw [q]
    · exact Nat.le_add_right _ _
    · exact Nat.le_refl _
  exact I1.fpOk hle (I1.hok.fresh hle)
theorem walk_enumS {z : Str} : L2.Walk (IteS z) (codes z).length (fun _ => True) (fun i H v H' => ∃ T c, v = .ref T ∧ H T = none ∧ (codes z)[i]? = some c ∧ H' = upd H T (.tup [.int (i : Nat), .str (sign c)])) := by
  have e : (codes z).length = z.cps.size := by simp [codes]
  rw [e]
  refine ⟨fun _ _ hi _ => hi, fun _ _ => Nat.le_refl _, ?_⟩
  rintro i H v H' _ _ ⟨T, c, h1, h2, h3, h4⟩
  exact ⟨T, c, h1, h2, by simpa [codes] using h3, h4⟩
/-! f(k = v, ..) with no place -/
theorem pe_callN0 {X : Cx} {CX : CXT} {k : Nat} {f : Addr} {fd : FuncData} {ps ks : List Str} {sp : Sp} {E : XK} {x : Str} {p pos : Pos} {kws : List Keyword} {tk : TA} {g : List Value → List Value → List Value} {gV : List V → List V → List V}
    (F : FnOk X.prog X.w X.K X.mg X.base CX k f fd ps sp) (hr : Room k X.A) (hg : Gl X x) (hm : X.mg x = some (.ref f)) (hk : PySem.W.keepIn X.K (.ref f) = true) (hb : KBn X.K fd ps 0 ks g gV) (hx : Passes CX X E) (hkw : PK X kws tk)
    (hall : (backToKw pos (keywordEach kws X.env)).all (·.1.isSome) = true := by rfl) (hks : (backToKw pos (keywordEach kws X.env)).filterMap (·.1) = ks := by rfl) (hdb : (x == ("__debug__" : Str)) = false := by decide)
    (hpl : ((backTo pos (starEach [] X.env)).any (·.1) || (backToKw pos (keywordEach kws X.env)).any (·.1.isNone)) = false := by rfl) :
    PE X (.Call (.Name x p) [] kws pos) (L2.tCallN 0 ks.length sp gV E tNil tk) := by
  refine ⟨fun pins s σ H Q I h => ?_⟩
  refine wpAny_Call_Name_kw (ld_glob I hg hm ?_ hdb)
  refine PySem.W.callWith_KW0 (h₀ := X.base) I.ok.mod.kin hk hall ?_ hpl
  refine thn (hkw.run pos pins s σ H _ I h) fun ws s2 ⟨zs, H2, I2, rz, l1, l2, q2⟩ => ⟨I2.kIn, ?_⟩
  rw [hks]
  exact run_fnN (us := []) (vs := []) F hr hb hx I2 .nil rz rfl l2 q2
/-! min of a list of signs -/
def sgV (c : Nat) : V := .str (sign c)
def rMinL (K : PySem.W.Frag) : List V → Hp → VK → Prop := fun vs H Q => ∃ (a : Addr) (cs : List Nat), vs = [V.ref a] ∧ SqL K H a (cs.map sgV) ∧ cs ≠ [] ∧ cs.length ≤ 1000 ∧ ∀ m ∈ cs, (∀ c ∈ cs, m ≤ c) → Q (sgV m) H
theorem dp_signs {K : PySem.W.Frag} {H : Hp} : ∀ cs : List Nat, DpAll K H (cs.map sgV) (cs.map fun c => PyData.str (sign c))
  | [] => .nil
  | c :: r => .cons (.str _) (dp_signs r)
theorem sign_lt (a b : Nat) : ((sign a).cps.toList < (sign b).cps.toList) ↔ a < b := by
  show ([a] < [b]) ↔ _
  constructor
  · intro h
    rcases List.cons_lt_cons_iff.mp h with h | ⟨_, h⟩
    · exact h
    · exact absurd h (List.lt_irrefl _)
  · intro h
    exact List.cons_lt_cons_iff.mpr (.inl h)
theorem minD_signs : ∀ (c : Nat) (cs : List Nat), ∃ m, m ∈ c :: cs ∧ (∀ d ∈ c :: cs, m ≤ d) ∧ PySem.W.minD (.str (sign c)) (cs.map fun c => PyData.str (sign c)) = .str (sign m)
  | c, [] => ⟨c, List.mem_cons_self, fun d hd => by simp at hd; omega, rfl⟩
  | c, d :: r => by
    by_cases h : d < c
    · obtain ⟨m, h1, h2, h3⟩ := minD_signs d r
      refine ⟨m, List.mem_cons_of_mem _ h1, fun x hx => ?_, ?_⟩
      · rcases List.mem_cons.mp hx with rfl | hx
        · have := h2 d List.mem_cons_self
          omega
        · exact h2 x hx
      · rw [← h3]
        unfold PySem.W.minD
        rw [List.map_cons, List.foldl_cons, PySem.W.dataLt_str, decide_eq_true ((sign_lt d c).mpr h)]
        rfl
    · obtain ⟨m, h1, h2, h3⟩ := minD_signs c r
      refine ⟨m, ?_, fun x hx => ?_, ?_⟩
      · rcases List.mem_cons.mp h1 with rfl | h1
        · exact List.mem_cons_self
        · exact List.mem_cons_of_mem _ (List.mem_cons_of_mem _ h1)
      · rcases List.mem_cons.mp hx with rfl | hx
        · exact h2 x List.mem_cons_self
        · rcases List.mem_cons.mp hx with rfl | hx
          · have := h2 c List.mem_cons_self
            omega
          · exact h2 x (List.mem_cons_of_mem _ hx)
      · rw [← h3]
        unfold PySem.W.minD
        rw [List.map_cons, List.foldl_cons, PySem.W.dataLt_str, decide_eq_false (fun q => h ((sign_lt d c).mp q))]
        rfl
theorem cr_minL {X : Cx} (hc : X.calm = true) (hu : X.A.units + 64 < cLine) : CallR X (.builtin "min") (rMinL X.K) := by
  intro pins s σ H vs us Q I r h
  obtain ⟨a, cs, rfl, hs, hne, hlen, q⟩ := h
  obtain ⟨its, rv, hl, hn⟩ := I.list hs
  obtain ⟨u, rfl, ru⟩ := vals1 r
  obtain rfl : u = Value.ref a := ru
  obtain ⟨as, hr⟩ := Dp.readsAll I _ _ its (dp_signs cs) rv
  cases cs with
  | nil => exact absurd rfl hne
  | cons c cs =>
    have al : PySem.W.AlikeAll (((c :: cs)).map fun c => PyData.str (sign c)) := by
      refine ⟨fun x hx y hy => ?_, fun x hx => ?_⟩
      · obtain ⟨i, _, rfl⟩ := List.mem_map.mp hx
        obtain ⟨j, _, rfl⟩ := List.mem_map.mp hy
        rfl
      · obtain ⟨i, _, rfl⟩ := List.mem_map.mp hx
        exact fun q => by cases q
    have dp : ∀ l : List Nat, PyData.depthAll (l.map fun c => PyData.str (sign c)) = 0 := fun l => by
      induction l with
      | nil => rfl
      | cons x r ih => simp [PyData.depthAll, PyData.depth, ih]
    refine PySem.W.min_list_data (x := .str (sign c)) (xs := cs.map fun c => PyData.str (sign c)) (I.ok.hd hc) hl.isList (by simpa using hr) al (by
      have := dp (c :: cs)
      rw [List.map_cons] at this
      omega) fun i v h' tk bs hv hR hk => ?_
    obtain ⟨m, h1, h2, h3⟩ := minD_signs c cs
    rw [h3] at hR
    cases hR with
    | str z t => exact ⟨.str _, H, I.kept (t' := tk) hk, ⟨_, rfl⟩, q m h1 h2⟩
/-! 'a' * 8 -/
def rMulA : R2 := fun x y H Q => x = .str "a" ∧ y = .int 8 ∧ Q (.str "aaaaaaaa") H
theorem op_mulA {X : Cx} : OpR X (binaryOp .Mult) rMulA := by
  intro pins s σ H x y v u Q I rx ry h
  obtain ⟨rfl, rfl, q⟩ := h
  obtain ⟨t, rfl⟩ := rx
  obtain ⟨t', rfl⟩ := ry
  refine P.mul_str (by decide) (fun _ _ => by decide +kernel) (fun _ _ => by decide +kernel) ?_
  have e1 : ((8 : Int) == 1 || ("a" : Str).length == 0) = false := by decide +kernel
  rw [if_neg (by decide), e1]
  have e2 : (⟨(List.replicate (8 : Int).toNat ("a" : Str).cps).foldl (· ++ ·) #[]⟩ : Str) = "aaaaaaaa" := by decide +kernel
  show Made.post (Made.str (⟨(List.replicate (8 : Int).toNat ("a" : Str).cps).foldl (· ++ ·) #[]⟩ : Str)) _ _
  rw [e2]
  exact ⟨by decide +kernel, .str _, H, I.tok _, ⟨_, rfl⟩, q⟩
end Wl

/-! sorted of a list of texts, as a reading; the least of sorted letters stands first. -/
namespace Wl
open PySem PySem.Spec PyProof.Rows L2
def dz (z : Str) : V × PyData := (.str z, .str z)
theorem srt_strs (xs : List Str) : ((xs.map dz).mergeSort (PySem.W.dataLe false (·.2))).map (·.1) = (sortS xs).map V.str := by
  have h : (sortS xs).map dz = (xs.map dz).mergeSort (PySem.W.dataLe false (·.2)) := List.map_mergeSort fun a _ b _ => by
    rw [PySem.W.dataLe_eq]
    exact (le_data_str a b).symm
  rw [← h, List.map_map]
  rfl
theorem srt_reads {K : PySem.W.Frag} {H : Hp} {Q : VK} {a : Addr} {xs : List Str} (h : SqL K H a (xs.map V.str)) (q : ∀ p, H p = none → Q (.ref p) (upd H p (.lst ((sortS xs).map V.str)))) : rSortD K [.ref a] H Q := by
  refine ⟨a, xs.map dz, rfl, ?_, ?_, ?_, ?_, ?_, fun p hp => ?_⟩
  · rw [List.map_map]
    exact h
  · intro b hb
    obtain ⟨x, _, rfl⟩ := List.mem_map.mp hb
    exact .str x
  · intro d hd e he
    obtain ⟨b, hb, rfl⟩ := List.mem_map.mp hd
    obtain ⟨x, _, rfl⟩ := List.mem_map.mp hb
    obtain ⟨c, hc, rfl⟩ := List.mem_map.mp he
    obtain ⟨y, _, rfl⟩ := List.mem_map.mp hc
    rfl
  · refine .inr fun d hd => ?_
    obtain ⟨b, hb, rfl⟩ := List.mem_map.mp hd
    obtain ⟨x, _, rfl⟩ := List.mem_map.mp hb
    exact ⟨(fun e => by cases e), (fun ys e => by cases e)⟩
  · intro b hb
    obtain ⟨x, _, rfl⟩ := List.mem_map.mp hb
    show PyData.depth (.str x) ≤ 8
    simp [PyData.depth]
  · rw [srt_strs]
    exact q p hp
theorem ltS_sign {c d : Nat} : ltS (sign c) (sign d) ↔ c < d := by
  show [c] < [d] ↔ c < d
  constructor
  · intro h
    cases h with
    | rel h => exact h
    | cons h => cases h
  · exact fun h => .rel h
theorem sg_inj1 {c d : Nat} (h : sign c = sign d) : c = d := by
  have e := congrArg (fun z : Str => z.cps.toList) h
  simpa [sign] using e
theorem head_sortS {cs : List Nat} {m : Nat} (hm : m ∈ cs) (hmin : ∀ d ∈ cs, m ≤ d) : (sortS (cs.map sign))[0]? = some (sign m) := by
  have h1 : (sortS (cs.map sign)).Pairwise (fun a b => leB a b = true) := List.pairwise_mergeSort leB_trans leB_total _
  have h2 : sign m ∈ sortS (cs.map sign) := mem_sortS.mpr (List.mem_map.mpr ⟨m, hm, rfl⟩)
  have h3 : ∀ x ∈ sortS (cs.map sign), ∃ c ∈ cs, sign c = x := fun x hx => List.mem_map.mp (mem_sortS.mp hx)
  cases e : sortS (cs.map sign) with
  | nil =>
    rw [e] at h2
    cases h2
  | cons x r =>
    rw [e] at h1 h2 h3
    obtain ⟨c, hc, rfl⟩ := h3 x List.mem_cons_self
    have e2 : c = m := by
      rcases List.mem_cons.mp h2 with h | h
      · exact (sg_inj1 h).symm
      · have q := (List.pairwise_cons.mp h1).1 _ h
        unfold leB at q
        rw [Bool.not_eq_true', decide_eq_false_iff_not, ltS_sign] at q
        have := hmin c hc
        omega
    rw [e2]
    rfl
end Wl

namespace Wl
open PySem PySem.Spec PyProof.Rows L2
end Wl
namespace Wl
open PySem PySem.Spec PyProof.Rows L2
end Wl
namespace Wl
open PySem PySem.Spec PyProof.Rows L2
end Wl
namespace Wl
open PySem PySem.Spec PyProof.Rows L2
abbrev wIsWord : Stmt := topS 21
/-! y = {k: v for x in ..} -/
/-- whether a thing of any kind is a word -/
def Wv (K : PySem.W.Frag) (H : Hp) (v : V) (b : Bool) : Prop := (∃ z, v = .str z ∧ z.length ≤ 1000 ∧ b = wdB z) ∨ (∃ t, TyX K H v t ∧ PySem.W.kitOne K t (.type "str") = some false ∧ b = false)
section
variable {P : Program} {w : World} {K : PySem.W.Frag} {mg : Str → Option Value} {base : Heap} {f : Addr} {fd : FuncData}
def spIsW (K : PySem.W.Frag) : Sp := fun vs H Q _ => ∃ (v : V) (b : Bool), vs = [v] ∧ Wv K H v b ∧ ∀ (H' : Hp), Same H H' → Q (.bl b) H'
theorem scIsW : FnScope nIsWord ["thing"] (defScope wIsWord) := ⟨rfl, rfl, rfl, by decide +kernel, rfl, by decide +kernel, by decide +kernel⟩
theorem ok_isw (F : Fun K "is_word" "is_word" wIsWord f fd) (B : Bi mg) (G : Gk mg) : FnOk P w K mg base CX0 1 f fd ["thing"] (spIsW K) := by
  obtain ⟨t1, g1⟩ := G.letters
  obtain ⟨t2, g2⟩ := G.longest
  refine F.ok scIsW (fun vs H Q E h => ?_) (fun cdv A outer s H vs Q E hr h => ?_)
  · obtain ⟨v, b, rfl, _⟩ := h
    rfl
  · obtain ⟨v, b, rfl, hw, q⟩ := h
    refine ⟨_, pss_cons (ps_if (PW.pt (pw_or (pt_not (pt_val (pe_callB call_isi (by rfl) B.isi (by decide +kernel) (pa_cons (pv 0) (pa_cons (pe_bltn (v := .ty "str") (by rfl) B.str (by decide +kernel) rfl) pa_nil)))))
        (pw_or1 (pt_not (pt_chain op_le op_le pe_int (pe_callB call_len_str (by rfl) B.len PySem.boot_len (pa_cons (pv 0) pa_nil)) (pe_glob (v := .int 8) rfl g2 ⟨_, rfl⟩)))))) (pss_one (ps_ret pe_bl)) pss_nil)
      (pss_one (ps_ret (pe_callB (cr_all rfl) (by rfl) B.all (by decide +kernel) (pa_cons (pe_lc (own := [("letter", 1)]) (g := gName 1) (tt := tYes) rfl scIsW.nd (pi_str (pv 0)) (blkOk_by (N := nIsWord) (sc := defScope wIsWord) (by decide +kernel))
        (fun _ _ _ _ _ => pg_name (i := 1) scIsW.nd rfl (.inl rfl)) (fun _ _ _ _ _ => pts_nil) (fun _ _ _ _ _ => pe_cmpR op_in_sign (pv 1) (pe_glob (v := .str "abcdefghijklmnopqrstuvwxyz") rfl g1 ⟨_, rfl⟩) rfl)) pa_nil)))), ?_⟩
    rcases hw with ⟨z, rfl, hz, rfl⟩ | ⟨t, ty, hk, rfl⟩
    · refine ⟨_, rfl, _, _, _, _, _, rfl, .ty "str", .base (.str z), kit_ty (r := true) (by decide +kernel), true, rfl, ?_⟩
      refine iteF ⟨_, rfl, _, rfl, lzl hz, _, _, rfl, rfl, _, rfl, ite_b (fun e1 => ?_) (fun e1 => ?_)⟩
      · refine ⟨_, _, rfl, rfl, _, rfl, not_b (fun e2 => ?_) (fun e2 => ?_)⟩
        · have e2' : ¬ ((z.length : Int) ≤ 8) := of_decide_eq_false e2
          have : wdB z = false := by
            unfold wdB
            rw [decide_eq_false (show ¬ z.length ≤ 8 by omega)]
            simp
          rw [← this]
          exact q H (Same.refl H)
        · have h1 : 1 ≤ z.length := by
            have := of_decide_eq_true e1
            omega
          have h8 : z.length ≤ 8 := by
            have := of_decide_eq_true e2
            omega
          refine ⟨_, rfl, _, rfl, fun D hD => lc_map walk_signs hD (fun _ => true) letV (fun _ _ => trivial) (fun _ => rfl) (fun x H' _ _ Q' q' => q') ?_ ?_ ?_⟩
          · intro x H' hx _ _ Q' q'
            obtain ⟨c, hc, rfl⟩ := List.mem_map.mp hx
            refine ⟨_, rfl, c, _, rfl, rfl, ?_⟩
            rw [letB_mem]
            have : letV (.str (sign c)) = .bl (letB c) := by
              show V.bl ([c].all letB) = _
              simp
            rw [this] at q'
            exact q'
          · unfold signsOf
            rw [List.length_map, Array.length_toList]
            exact small1000 (by have : z.length = z.cps.size := rfl; omega)
          · intro H' s' hD'
            have e0 : ((signsOf z).filter fun _ => true).map letV = (z.cps.toList.map letB).map V.bl := by
              rw [List.filter_eq_self.mpr fun _ _ => rfl]
              unfold signsOf
              rw [List.map_map, List.map_map]
              refine List.map_congr_left fun c _ => ?_
              show V.bl ([c].all letB) = _
              simp
            refine ⟨D, z.cps.toList.map letB, rfl, .inl (.inl (by rw [hD', e0])), ?_⟩
            have : (z.cps.toList.map letB).all id = wdB z := by
              unfold wdB
              rw [decide_eq_true h1, decide_eq_true h8, List.all_map]
              rfl
            rw [this]
            exact q H' s'
      · refine ⟨false, rfl, iteT ?_⟩
        have : wdB z = false := by
          have e1' : ¬ ((1 : Int) ≤ z.length) := of_decide_eq_false e1
          unfold wdB
          rw [decide_eq_false (show ¬ 1 ≤ z.length by omega)]
          simp
        rw [← this]
        exact q H (Same.refl H)
    · exact ⟨_, rfl, _, _, _, _, _, rfl, .ty "str", ty, hk, false, rfl, iteT (q H (Same.refl H))⟩
/-! ### check_word, is_letter -/
/-! ### changes -/
/-! ### is_tuple_up_to -/
/-! ### reaches -/
end
end Wl








/-! What the words' functions refuse. -/
namespace Wl
open PySem PySem.Spec PyProof.Rows L2
/-- an error of the class at C whose field f holds v -/
def Refuses (C : Addr) (f : Str) (v : V) (H : Hp) (E : XK) : Prop := ∀ (d : Addr) (H' : Hp), Same H H' → H' d = some (.xd [(f, v)]) → E (.ref C) (some d) H'
theorem Refuses.same {C : Addr} {f : Str} {v : V} {H H' : Hp} {E : XK} (h : Refuses C f v H E) (s : Same H H') : Refuses C f v H' E := fun d H2 s2 e => h d H2 (s.trans s2) e
theorem Refuses.new {C : Addr} {f : Str} {v : V} {H H' : Hp} {E : XK} (h : Refuses C f v H E) (s : Same H H') : ∀ d, H' d = none → E (.ref C) (some d) (upd H' d (.xd [(f, v)])) := fun d hd => h d _ (s.trans (same_new hd)) upd_same
/-- a thing of some kind -/
def OddV (H : Hp) (v : V) : Prop := (∃ z, v = .str z ∧ z.length ≤ 1000) ∨ v = .non ∨ (∃ b, v = .bl b) ∨ (∃ i, v = .int i) ∨ ∃ p, v = .ref p ∧ ((∃ xs, H p = some (.tup xs)) ∨ (∃ xs, H p = some (.lst xs)) ∨ ∃ kvs, H p = some (.dK kvs))
theorem OddV.same {H H' : Hp} {v : V} (h : OddV H v) (s : Same H H') : OddV H' v := by
  rcases h with h | h | h | h | ⟨p, e, ⟨xs, h⟩ | ⟨xs, h⟩ | ⟨xs, h⟩⟩
  · exact .inl h
  · exact .inr (.inl h)
  · exact .inr (.inr (.inl h))
  · exact .inr (.inr (.inr (.inl h)))
  · exact .inr (.inr (.inr (.inr ⟨p, e, .inl ⟨xs, s _ _ h⟩⟩)))
  · exact .inr (.inr (.inr (.inr ⟨p, e, .inr (.inl ⟨xs, s _ _ h⟩)⟩)))
  · exact .inr (.inr (.inr (.inr ⟨p, e, .inr (.inr ⟨xs, s _ _ h⟩)⟩)))
def wvB : V → Bool
  | .str z => wdB z
  | _ => false
theorem OddV.wv {K : PySem.W.Frag} {H : Hp} {v : V} (h : OddV H v) : Wv K H v (wvB v) := by
  rcases h with ⟨z, e, h⟩ | h | ⟨b, h⟩ | ⟨i, h⟩ | ⟨p, e, ⟨xs, h⟩ | ⟨xs, h⟩ | ⟨xs, h⟩⟩
  · subst e
    exact .inl ⟨z, rfl, h, rfl⟩
  · subst h
    exact .inr ⟨_, .base .non, kit_ty (r := false) (by decide +kernel), rfl⟩
  · subst h
    exact .inr ⟨_, .base (.bl b), kit_ty (r := false) (by decide +kernel), rfl⟩
  · subst h
    exact .inr ⟨_, .base (.int i), kit_ty (r := false) (by decide +kernel), rfl⟩
  · subst e
    exact .inr ⟨_, .base (.tup h), kit_ty (r := false) (by decide +kernel), rfl⟩
  · subst e
    exact .inr ⟨_, .base (.lst h), kit_ty (r := false) (by decide +kernel), rfl⟩
  · subst e
    exact .inr ⟨_, .base (.dK h), kit_ty (r := false) (by decide +kernel), rfl⟩
/-- is it a tuple, and of what; is it a text -/
theorem OddV.tupQ {K : PySem.W.Frag} {H : Hp} {v : V} (h : OddV H v) : (∃ p xs, v = .ref p ∧ H p = some (.tup xs)) ∨ ∃ t, TyX K H v t ∧ PySem.W.kitOne K t (.type "tuple") = some false := by
  rcases h with ⟨z, e, h⟩ | h | ⟨b, h⟩ | ⟨i, h⟩ | ⟨p, e, ⟨xs, h⟩ | ⟨xs, h⟩ | ⟨xs, h⟩⟩
  · subst e
    exact .inr ⟨_, .base (.str z), kit_ty (r := false) (by decide +kernel)⟩
  · subst h
    exact .inr ⟨_, .base .non, kit_ty (r := false) (by decide +kernel)⟩
  · subst h
    exact .inr ⟨_, .base (.bl b), kit_ty (r := false) (by decide +kernel)⟩
  · subst h
    exact .inr ⟨_, .base (.int i), kit_ty (r := false) (by decide +kernel)⟩
  · subst e
    exact .inl ⟨p, xs, rfl, h⟩
  · subst e
    exact .inr ⟨_, .base (.lst h), kit_ty (r := false) (by decide +kernel)⟩
  · subst e
    exact .inr ⟨_, .base (.dK h), kit_ty (r := false) (by decide +kernel)⟩
theorem OddV.strQ {K : PySem.W.Frag} {H : Hp} {v : V} (h : OddV H v) : (∃ z, v = .str z ∧ z.length ≤ 1000) ∨ ∃ t, TyX K H v t ∧ PySem.W.kitOne K t (.type "str") = some false ∧ wvB v = false := by
  rcases h.wv (K := K) with ⟨z, e, l, _⟩ | ⟨t, ty, k, e⟩
  · exact .inl ⟨z, e, l⟩
  · exact .inr ⟨t, ty, k, e⟩
section
variable {P : Program} {w : World} {K : PySem.W.Frag} {mg : Str → Option Value} {base : Heap} {f : Addr} {fd : FuncData} {cW cC : Addr}
/-! ### check_word -/
/-! ### is_letter, is_change of things of any kind -/
end
end Wl





namespace Wl
open PySem PySem.Spec PyProof.Rows L2
section
variable {P : Program} {w : World} {K : PySem.W.Frag} {mg : Str → Option Value} {base : Heap} {f cW cS : Addr} {fd : FuncData}
/-! ### check_sure, check_word of what is none -/
def spCheckSR (K : PySem.W.Frag) (cS : Addr) : Sp := fun vs H Q E => ∃ v t, vs = [v] ∧ TyX K H v t ∧ PySem.W.kitOne K t (.type "bool") = some false ∧ Refuses cS "sure" v H E
theorem ok_checksR (F : Fun K "check_sure" "check_sure" sCheckS f fd) (B : Bi mg) (B2 : Bg mg) (T : OwnX K mg "NoSure" "sure" cS) : FnOk P w K mg base (L2N.CX P w) 1 f fd ["sure"] (spCheckSR K cS) := by
  refine Fun_okN F scCheckS (fun vs H Q E h => ?_) (fun cdv A outer s H vs Q E hr h => ?_)
  · obtain ⟨v, t, rfl, _⟩ := h
    rfl
  · obtain ⟨v, t, rfl, ty, k, q⟩ := h
    refine ⟨_, pss_one (ps_if (pt_not (pt_val (pe_callB call_isi (by rfl) B.isi (by decide +kernel) (pa_cons (pv 0) (pa_cons (pe_bltn (v := .ty "bool") (by rfl) B2.bool (by decide +kernel) rfl) pa_nil))))) (pss_one (ps_raiseX rfl T hr (L2N.takes_of rfl rfl rfl rfl) (pa_cons (pv 0) pa_nil))) pss_nil), ?_⟩
    exact ⟨_, rfl, _, _, _, _, _, rfl, .ty "bool", ty, k, false, rfl, iteT ⟨_, rfl, v, rfl, fun d hd => q.new (Same.refl H) d hd⟩⟩
def spCheckWR (cW : Addr) : Sp := fun vs H Q E => ∃ v, vs = [v] ∧ OddV H v ∧ wvB v = false ∧ Refuses cW "word" v H E
theorem ok_checkwR (F : Fun K "check_word" "check_word" sCheckW f fd) (T : OwnX K mg "NoWord" "word" cW) (hI : Has P w K mg base "is_word" 1 ["thing"] (spIsW K)) : FnOk P w K mg base (L2N.CX P w) 2 f fd ["word"] (spCheckWR cW) := by
  refine Fun_okN F scCheckW (fun vs H Q E h => ?_) (fun cdv A outer s H vs Q E hr h => ?_)
  · obtain ⟨v, rfl, _⟩ := h
    rfl
  · obtain ⟨v, rfl, ho, hb, q⟩ := h
    refine ⟨_, pss_one (ps_if (pt_not (pt_val (pe_h hI hr (pa_cons (pv 0) pa_nil)))) (pss_one (ps_raiseX rfl T hr (L2N.takes_of rfl rfl rfl rfl) (pa_cons (pv 0) pa_nil))) pss_nil), ?_⟩
    refine ⟨_, rfl, v, false, rfl, hb ▸ ho.wv, fun H1 s1 => ⟨false, rfl, iteT ⟨_, rfl, v, rfl, fun d hd => ?_⟩⟩⟩
    exact q.new s1 d hd
end
end Wl




/-! d == e of two dicts of the same texts, their values told by data. -/
namespace Wl
open PySem PySem.Spec PyProof.Rows L2
def rEqDT (K : PySem.W.Frag) : R2 := fun x y H Q => ∃ (a b : Addr) (nms : List Str) (f g : Str → V) (fd gd : Str → PyData), x = .ref a ∧ y = .ref b ∧ H a = some (.dK (kvZ f nms)) ∧ H b = some (.dK (kvZ g nms)) ∧
  (∀ z ∈ nms, Dp K H (f z) (fd z) ∧ Dp K H (g z) (gd z) ∧ (fd z).canLay0 = true ∧ (gd z).canLay0 = true ∧ (fd z).depth ≤ 3) ∧ Q (.bl (nms.all fun z => PyData.eqv (fd z) (gd z))) H
theorem kv_mem {f : Str → V} : ∀ {nms : List Str} {va : List (Key × Value)}, KV (kvZ f nms) va → ∀ {k : Key} {v : Value}, (k, v) ∈ va → ∃ z ∈ nms, k = Sum.inr z ∧ RelV (f z) v
  | [], va, r, k, v, h => by
    cases r
    cases h
  | z :: nms, va, r, k, v, h => by
    have r' : Paired (fun (p : Key × V) (q : Key × Value) => p.1 = q.1 ∧ RelV p.2 q.2) ((Sum.inr z, f z) :: kvZ f nms) va := r
    cases r' with
    | cons e t =>
      rcases List.mem_cons.mp h with h1 | h1
      · obtain ⟨e1, e2⟩ := e
        rw [← h1] at e1 e2
        exact ⟨z, List.mem_cons_self, e1.symm, e2⟩
      · obtain ⟨y, hy, q⟩ := kv_mem (f := f) (nms := nms) t h1
        exact ⟨y, List.mem_cons_of_mem _ hy, q⟩
theorem kv_keys {f : Str → V} : ∀ {nms : List Str} {va : List (Key × Value)}, KV (kvZ f nms) va → va.map (·.1) = nms.map Sum.inr
  | [], va, r => by
    cases r
    rfl
  | z :: nms, va, r => by
    have r' : Paired (fun (p : Key × V) (q : Key × Value) => p.1 = q.1 ∧ RelV p.2 q.2) ((Sum.inr z, f z) :: kvZ f nms) va := r
    cases r' with
    | cons e t =>
      rw [List.map_cons, List.map_cons, kv_keys (f := f) (nms := nms) t, ← e.1]
section
variable {X : Cx}
theorem op_eqDT (hu : X.A.units + 64 < cLine) : OpR X (compareOp .Eq) (rEqDT X.K) := by
  intro pins s σ H x y v u Q I rx ry h
  obtain ⟨a, b, nms, f, g, fd, gd, rfl, rfl, ea, eb, hv, q⟩ := h
  obtain rfl : v = Value.ref a := rx
  obtain rfl : u = Value.ref b := ry
  obtain ⟨_, ya, va, ra, da⟩ := (show ObjOk X.prog X.w H s.heap a (.dK (kvZ f nms)) from I.hok a _ ea)
  obtain ⟨_, yb, vb, rb, db⟩ := (show ObjOk X.prog X.w H s.heap b (.dK (kvZ g nms)) from I.hok b _ eb)
  let e : Key → Bool := fun k => match k with
    | .inl _ => true
    | .inr z => PyData.eqv (fd z) (gd z)
  refine PySem.W.eq_dictsT (knd := mixKind X.prog X.w) (n := 3) (e := e) ya yb da db (fun k v' y' hm hva => ?_) (by omega) ?_
  · obtain ⟨z, hz, rfl, rv⟩ := kv_mem ra hm
    have rr := rb.val (Sum.inr z : Key)
    rw [valV_in hz] at rr
    obtain ⟨y2, hy2, ry2⟩ := rr.some_of
    rw [hva] at hy2
    obtain rfl := Option.some.inj hy2
    obtain ⟨d1, d2, c1, c2, dp⟩ := hv z hz
    obtain ⟨as, r1⟩ := Dp.reads I _ _ _ d1 rv
    obtain ⟨bs, r2⟩ := Dp.reads I _ _ _ d2 ry2
    exact .leaf fun A hA => SeqAt.eqAt_reads _ _ A s _ _ _ _ r1 r2 c1 c2 (by
      have := Nat.min_le_left (fd z).depth (gd z).depth
      omega)
  · have e1 : va.length = nms.length := by
      have := congrArg List.length (kv_keys ra)
      simpa using this
    have e2 : vb.length = nms.length := by
      have := congrArg List.length (kv_keys rb)
      simpa using this
    have e3 : (va.all fun p => (valueAt vb p.1).isSome && e p.1) = nms.all fun z => PyData.eqv (fd z) (gd z) := by
      have h1 : (va.all fun p => (valueAt vb p.1).isSome && e p.1) = (va.map (·.1)).all fun k => (valueAt vb k).isSome && e k := by
        rw [List.all_map]
        rfl
      rw [h1, kv_keys ra, List.all_map, Bool.eq_iff_iff, List.all_eq_true, List.all_eq_true]
      have sm : ∀ z ∈ nms, (valueAt vb (Sum.inr z : Key)).isSome = true := fun z hz => by
        have rr := rb.val (Sum.inr z : Key)
        rw [valV_in hz] at rr
        obtain ⟨y2, hy2, _⟩ := rr.some_of
        rw [hy2]
        rfl
      constructor
      · intro h z hz
        have := h z hz
        simp only [Function.comp, Bool.and_eq_true] at this
        exact this.2
      · intro h z hz
        simp only [Function.comp, Bool.and_eq_true]
        exact ⟨sm z hz, h z hz⟩
    rw [e3, e1, e2]
    refine ⟨.bl _, H, I, ?_, q⟩
    show _ = Value.bool _
    simp
end
end Wl

/-! v == v: a thing beside itself, data or a dict of texts with data. -/
namespace Wl
open PySem PySem.Spec PyProof.Rows L2
def SelfV (K : PySem.W.Frag) (H : Hp) (v : V) : Prop := (∃ d, Dp K H v d ∧ SeqAt.shaped d = true) ∨
  ∃ (p : Addr) (nms : List Str) (g : Str → V) (gd : Str → PyData), v = .ref p ∧ H p = some (.dK (kvZ g nms)) ∧ ∀ z ∈ nms, Dp K H (g z) (gd z) ∧ (gd z).canLay0 = true ∧ (gd z).depth ≤ 3
def rEqSelf (K : PySem.W.Frag) : R2 := fun x y H Q => x = y ∧ SelfV K H x ∧ Q (.bl true) H
theorem op_eqSelf {X : Cx} (hu : X.A.units + 64 < cLine) : OpR X (compareOp .Eq) (rEqSelf X.K) := by
  intro pins s σ H x y v u Q I rx ry h
  obtain ⟨rfl, h | h, q⟩ := h
  · obtain ⟨d, hd, sd⟩ := h
    refine op_eqD hu pins s σ H x x v u Q I rx ry ⟨d, d, hd, hd, sd, sd, ?_⟩
    rw [SeqAt.eqv_refl _ (SeqAt.canLay_of_shaped sd)]
    exact q
  · obtain ⟨p, nms, g, gd, rfl, hp, hz⟩ := h
    refine op_eqDT hu pins s σ H _ _ v u Q I rx ry ⟨p, p, nms, g, g, gd, gd, rfl, rfl, hp, hp, fun z hm => ?_, ?_⟩
    · obtain ⟨h1, h2, h3⟩ := hz z hm
      exact ⟨h1, h1, h2, h2, h3⟩
    · have : (nms.all fun z => PyData.eqv (gd z) (gd z)) = true := List.all_eq_true.mpr fun z hm => SeqAt.eqv_refl _ (hz z hm).2.1
      rw [this]
      exact q
end Wl

/-! Data of any depth under a heap that grows; a heap with one object left out. -/
namespace Wl
open PySem PySem.Spec PyProof.Rows L2
mutual
theorem dp_same {K : PySem.W.Frag} {H H' : Hp} (s : Same H H') : ∀ {v : V} {d : PyData}, Dp K H v d → Dp K H' v d
  | _, _, .non => .non
  | _, _, .bl b => .bl b
  | _, _, .int i => .int i
  | _, _, .str x => .str x
  | _, _, .lst h t => .lst (s.seq h) (dpAll_same s t)
  | _, _, .tup h t => .tup (tup_same s h) (dpAll_same s t)
theorem dpAll_same {K : PySem.W.Frag} {H H' : Hp} (s : Same H H') : ∀ {vs : List V} {ds : List PyData}, DpAll K H vs ds → DpAll K H' vs ds
  | _, _, .nil => .nil
  | _, _, .cons r t => .cons (dp_same s r) (dpAll_same s t)
end
theorem SelfV.same {K : PySem.W.Frag} {H H' : Hp} {v : V} (h : SelfV K H v) (s : Same H H') : SelfV K H' v := by
  rcases h with ⟨d, h1, h2⟩ | ⟨p, nms, g, gd, e, hp, hz⟩
  · exact .inl ⟨d, dp_same s h1, h2⟩
  · exact .inr ⟨p, nms, g, gd, e, s _ _ hp, fun z hm => ⟨dp_same s (hz z hm).1, (hz z hm).2⟩⟩
/-- new behind, new ahead -/
theorem hq_of {H H' : Hp} {p : Addr} (s : Same H H') (h : H' p = none) : H p = none := by
  cases q : H p with
  | none => rfl
  | some o =>
    rw [s p o q] at h
    cases h
/-- H without what stands at a -/
def hid (a : Addr) (H : Hp) : Hp := fun b => if b = a then none else H b
theorem hid_same {a : Addr} {H : Hp} : Same (hid a H) H := fun b o e => by
  unfold hid at e
  by_cases h : b = a
  · rw [if_pos h] at e
    cases e
  · rw [if_neg h] at e
    exact e
theorem hid_x {a : Addr} {H H' : Hp} (s : SameX a H H') : Same (hid a H) (hid a H') := fun b o e => by
  unfold hid at e ⊢
  by_cases h : b = a
  · rw [if_pos h] at e
    cases e
  · rw [if_neg h] at e ⊢
    exact s b o h e
theorem hid_at {a p : Addr} {H : Hp} {o : HO} (h : H p = some o) (hne : p ≠ a) : hid a H p = some o := by
  unfold hid
  rw [if_neg hne]
  exact h
/-- what H' has that H has not -/
def newH (H H' : Hp) : Hp := fun p => match H p with
  | none => H' p
  | some _ => none
theorem new_at {H H' : Hp} {p : Addr} {o : HO} (hn : H p = none) (h : H' p = some o) : newH H H' p = some o := by
  unfold newH
  rw [hn]
  exact h
theorem new_hid {H H' : Hp} {a : Addr} {o : HO} (h : H a = some o) : Same (newH H H') (hid a H') := fun p u e => by
  unfold newH at e
  cases q : H p with
  | some _ =>
    rw [q] at e
    cases e
  | none =>
    rw [q] at e
    exact hid_at e fun z => by
      rw [z, h] at q
      cases q
end Wl

/-! Displays of things that G tells of, whatever they are, while I stands. -/
namespace Wl
open PySem PySem.Spec PyProof.Rows L2
/-- G and I bear a growing heap -/
def Grows (G : Hp → V → Prop) : Prop := ∀ (H H' : Hp) (v : V), G H v → Same H H' → G H' v
def GrowsH (I : Hp → Prop) : Prop := ∀ (H H' : Hp), I H → Same H H' → I H'
def Bld (σ : L2.St) (I : Hp → Prop) (G : Hp → V → Prop) (te : TE) : Prop := ∀ (H : Hp) (Q : VK), I H → (∀ v H', Same H H' → G H' v → Q v H') → te σ H Q
def BldA (σ : L2.St) (I : Hp → Prop) (G : Hp → V → Prop) (n : Nat) (ta : TA) : Prop := ∀ (H : Hp) (Q : List V → Hp → Prop), I H → (∀ vs H', Same H H' → vs.length = n → (∀ v ∈ vs, G H' v) → Q vs H') → ta σ H Q
section
variable {σ : L2.St} {I : Hp → Prop} {G : Hp → V → Prop} {te : TE} {ta : TA} {n : Nat}
theorem bld_nil : BldA σ I G 0 tNil := fun H Q _ q => q [] H (Same.refl H) rfl (fun v hv => by cases hv)
theorem bld_cons (gI : GrowsH I) (gG : Grows G) (h : Bld σ I G te) (k : BldA σ I G n ta) : BldA σ I G (n + 1) (tCons te ta) := fun H Q i q => h H _ i fun v H1 s1 g1 => k H1 _ (gI _ _ i s1) fun vs H2 s2 l2 g2 => q (v :: vs) H2 (s1.trans s2) (by rw [List.length_cons, l2]) (fun u hu => by
  rcases List.mem_cons.mp hu with rfl | hu
  · exact gG _ _ _ g1 s2
  · exact g2 u hu)
/-- a constant -/
theorem bld_c {v : V} (h : ∀ H, I H → G H v) : Bld σ I G (tC v) := fun H Q i q => q v H (Same.refl H) (h H i)
/-- a display of such, as a new list -/
theorem bld_lst (gG : Grows G) (h : BldA σ I G n ta) (hn : n ≤ 1000) {H : Hp} {Q : VK} (i : I H) (q : ∀ p vs H', Same H H' → H p = none → H' p = some (.lst vs) → vs.length = n → (∀ v ∈ vs, G H' v) → Q (.ref p) H') : tLst ta σ H Q :=
  h H _ i fun vs H1 s1 l1 g1 => ⟨lzl (by omega), fun p hp => q p vs _ (s1.trans (same_new hp)) (hq_of s1 hp) upd_same l1 fun v hv => gG _ _ _ (g1 v hv) (same_new hp)⟩
/-- xs + [..] -/
theorem bld_cat (gI : GrowsH I) (gG : Grows G) {i0 m : Nat} (h : BldA σ I G n ta) (hn : n + m ≤ 1000) {H : Hp} {Q : VK} {p : Addr} {xs : List V} (i : I H) (hσ : σ[i0]? = some (some (.ref p))) (hp : H p = some (.lst xs)) (hm : xs.length = m) (hg : ∀ v ∈ xs, G H v)
    (q : ∀ r vs H', Same H H' → H r = none → H' r = some (.lst vs) → vs.length = m + n → (∀ v ∈ vs, G H' v) → Q (.ref r) H') : tOp rCat (tVar i0) (tLst ta) σ H Q := by
  refine ⟨_, hσ, bld_lst (n := n) gG h (by omega) i fun r vs H1 s1 n1 e1 l1 g1 => ⟨p, r, xs, vs, rfl, rfl, s1 _ _ hp, e1, lzl (by omega), fun t ht => ?_⟩⟩
  refine q t (xs ++ vs) _ (s1.trans (same_new ht)) (hq_of s1 ht) upd_same (by rw [List.length_append, hm, l1]) fun v hv => ?_
  rcases List.mem_append.mp hv with hv | hv
  · exact gG _ _ _ (hg v hv) (s1.trans (same_new ht))
  · exact gG _ _ _ (g1 v hv) (same_new ht)
/-- what a display's parts are, all at once -/
def BldX (σ : L2.St) (I : Hp → Prop) (R : Hp → List V → Prop) (ta : TA) : Prop := ∀ (H : Hp) (Q : List V → Hp → Prop), I H → (∀ xs H', Same H H' → I H' → R H' xs → Q xs H') → ta σ H Q
theorem bldx_c {xs : List V} (h : ∀ (H : Hp) (Q : List V → Hp → Prop), Q xs H → ta σ H Q) : BldX σ I (fun _ ys => ys = xs) ta := fun H Q i q => h H Q (q xs H (Same.refl H) i rfl)
theorem bld_tup {R : Hp → List V → Prop} (ht : BldX σ I R ta) (hl : ∀ H xs, R H xs → xs.length ≤ 1000) (g : ∀ (H : Hp) (p : Addr) (xs : List V), I H → R H xs → H p = none → G (upd H p (.tup xs)) (.ref p)) : Bld σ I G (tTup ta) := fun H Q i q =>
  ht H _ i fun xs H1 s1 i1 r1 => ⟨lzl (hl _ _ r1), fun p hp => q (.ref p) _ (s1.trans (same_new hp)) (g H1 p xs i1 r1 hp)⟩
theorem bld_lstX {R : Hp → List V → Prop} (ht : BldX σ I R ta) (hl : ∀ H xs, R H xs → xs.length ≤ 1000) (g : ∀ (H : Hp) (p : Addr) (xs : List V), I H → R H xs → H p = none → G (upd H p (.lst xs)) (.ref p)) : Bld σ I G (tLst ta) := fun H Q i q =>
  ht H _ i fun xs H1 s1 i1 r1 => ⟨lzl (hl _ _ r1), fun p hp => q (.ref p) _ (s1.trans (same_new hp)) (g H1 p xs i1 r1 hp)⟩
end
end Wl

/-! Single steps of a reading, so that the kernel need not unfold what stands in it. -/
namespace Wl
open PySem PySem.Spec PyProof.Rows L2
section
variable {te ta tb : TE} {i : Nat} {B : TS} {D : Ends} {σ : L2.St} {H : Hp} {Q : VK} {r : R2}
theorem st_asg (h : te σ H fun x H1 => B D (σ.set i (some x)) H1) : tSeq (tAsg te (gName i)) B D σ H := h
theorem st_ret (h : te σ H D.rt) : tRet te D σ H := h
theorem st_next (h : D.nx σ H) : tNext D σ H := h
theorem st_nextR {rt : VK} {bk ct : L2.St → Hp → Prop} (h : te σ H D.rt) : tNext { nx := tRet te D, rt := rt, bk := bk, ct := ct } σ H := h
theorem st_op (h : ta σ H fun x H1 => tb σ H1 fun y H2 => r x y H2 Q) : tOp r ta tb σ H Q := h
/-- behind branches: what J says -/
theorem st_join {A : TS} (J : L2.St → Hp → Prop) (h2 : ∀ σ' H', J σ' H' → B D σ' H') (h1 : ∀ D' : Ends, (∀ σ' H', J σ' H' → D'.nx σ' H') → D'.rt = D.rt → A D' σ H) : tSeq A B D σ H := h1 _ (fun σ' H' j => h2 σ' H' j) rfl
end
end Wl

/-! The checks of a telling's parts, of things of any kind: let, or refused. -/
namespace Wl
open PySem PySem.Spec PyProof.Rows L2
def wholeB : V → Bool
  | .int _ => true
  | _ => false
def truB : V → Bool
  | .bl _ => true
  | _ => false
def numB (lo hi : Int) : V → Bool
  | .int n => decide (lo ≤ n) && decide (n ≤ hi)
  | _ => false
abbrev ageB : V → Bool := numB 0 120
def nameB (g : Grid) : V → Bool
  | .str z => wdB z && decide (z ∈ names g)
  | _ => false
theorem OddV.kinds {K : PySem.W.Frag} {H : Hp} {v : V} (h : OddV H v) : ∃ t, TyX K H v t ∧ PySem.W.kitOne K t (.type "int") = some (wholeB v || truB v) ∧ PySem.W.kitOne K t (.type "bool") = some (truB v) := by
  rcases h with ⟨z, e, h⟩ | h | ⟨b, h⟩ | ⟨i, h⟩ | ⟨p, e, ⟨xs, h⟩ | ⟨xs, h⟩ | ⟨xs, h⟩⟩
  · subst e
    exact ⟨_, .base (.str z), kit_ty (r := false) (by decide +kernel), kit_ty (r := false) (by decide +kernel)⟩
  · subst h
    exact ⟨_, .base .non, kit_ty (r := false) (by decide +kernel), kit_ty (r := false) (by decide +kernel)⟩
  · subst h
    exact ⟨_, .base (.bl b), kit_ty (r := true) (by decide +kernel), kit_ty (r := true) (by decide +kernel)⟩
  · subst h
    exact ⟨_, .base (.int i), kit_ty (r := true) (by decide +kernel), kit_ty (r := false) (by decide +kernel)⟩
  · subst e
    exact ⟨_, .base (.tup h), kit_ty (r := false) (by decide +kernel), kit_ty (r := false) (by decide +kernel)⟩
  · subst e
    exact ⟨_, .base (.lst h), kit_ty (r := false) (by decide +kernel), kit_ty (r := false) (by decide +kernel)⟩
  · subst e
    exact ⟨_, .base (.dK h), kit_ty (r := false) (by decide +kernel), kit_ty (r := false) (by decide +kernel)⟩
theorem wv_str {v : V} (h : wvB v = true) : ∃ z, v = .str z ∧ IsWd z := by
  cases v with
  | str z => exact ⟨z, rfl, h⟩
  | _ => cases h
theorem age_int {v : V} (h : ageB v = true) : ∃ n : Nat, v = .int (n : Int) ∧ n ≤ 120 := by
  cases v with
  | int i =>
    have h' : (decide ((0 : Int) ≤ i) && decide (i ≤ 120)) = true := h
    rw [Bool.and_eq_true, decide_eq_true_eq, decide_eq_true_eq] at h'
    exact ⟨i.toNat, by rw [Int.toNat_of_nonneg h'.1], by omega⟩
  | _ => cases h
theorem tru_bl {v : V} (h : truB v = true) : ∃ b, v = .bl b := by
  cases v with
  | bl b => exact ⟨b, rfl⟩
  | _ => cases h
theorem name_str {g : Grid} {v : V} (h : nameB g v = true) : ∃ z, v = .str z ∧ IsWd z ∧ z ∈ names g := by
  cases v with
  | str z =>
    have h' : (wdB z && decide (z ∈ names g)) = true := h
    rw [Bool.and_eq_true, decide_eq_true_eq] at h'
    exact ⟨z, rfl, h'.1, h'.2⟩
  | _ => cases h
section
variable {P : Program} {w : World} {K : PySem.W.Frag} {mg : Str → Option Value} {base : Heap} {f C D cN cW cA cS : Addr} {fd : FuncData}
def spIsWholeO : Sp := fun vs H Q _ => ∃ v, vs = [v] ∧ OddV H v ∧ Q (.bl (wholeB v)) H
theorem ok_iswholeO (F : Fun K "is_whole" "is_whole" sIsWhole f fd) (B : Bi mg) (B2 : Bg mg) : FnOk P w K mg base CX0 1 f fd ["thing"] spIsWholeO := by
  refine F.ok scIsWhole (fun vs H Q E h => ?_) (fun cdv A outer s H vs Q E hr h => ?_)
  · obtain ⟨n, rfl, _⟩ := h
    rfl
  · obtain ⟨v, rfl, ho, q⟩ := h
    obtain ⟨t, ty, k1, k2⟩ := ho.kinds (K := K)
    refine ⟨_, pss_one (ps_ret (pe_and (pe_callB call_isi (by rfl) B.isi (by decide +kernel) (pa_cons (pv 0) (pa_cons (pe_bltn (v := .ty "int") (by rfl) B.int (by decide +kernel) rfl) pa_nil)))
      (pe_one (pe_not (pe_callB call_isi (by rfl) B.isi (by decide +kernel) (pa_cons (pv 0) (pa_cons (pe_bltn (v := .ty "bool") (by rfl) B2.bool (by decide +kernel) rfl) pa_nil))))))), ?_⟩
    refine ⟨_, rfl, _, _, _, _, _, rfl, .ty "int", ty, k1, _, rfl, ite_b (fun e => ?_) (fun e => ?_)⟩
    · refine ⟨_, rfl, _, _, _, _, _, rfl, .ty "bool", ty, k2, _, rfl, ?_⟩
      have e2 : wholeB v = !truB v := by
        cases v <;> first | rfl | cases e
      rw [e2] at q
      exact q
    · have e2 : wholeB v = false := by
        cases v <;> first | rfl | cases e
      rw [e2] at q
      exact q
def spIsNumO : Sp := fun vs H Q _ => ∃ (v : V) (lo hi : Int), vs = [v, .int lo, .int hi] ∧ OddV H v ∧ Q (.bl (numB lo hi v)) H
theorem ok_isnumO (F : Fun K "is_number_from" "is_number_from" sIsNum f fd) (hI : Has P w K mg base "is_whole" 1 ["thing"] spIsWholeO) : FnOk P w K mg base CX0 2 f fd ["thing", "least", "most"] spIsNumO := by
  refine F.ok scIsNum (fun vs H Q E h => ?_) (fun cdv A outer s H vs Q E hr h => ?_)
  · obtain ⟨n, lo, hi, rfl, _⟩ := h
    rfl
  · obtain ⟨v, lo, hi, rfl, ho, q⟩ := h
    refine ⟨_, pss_one (ps_ret (pe_and (pe_h hI hr (pa_cons (pv 0) pa_nil)) (pe_one (pe_chain op_le op_le (pv 1) (pv 0) (pv 2))))), ?_⟩
    refine ⟨_, rfl, v, rfl, ho, _, rfl, ite_b (fun e => ?_) (fun e => ?_)⟩
    · obtain ⟨n, rfl⟩ : ∃ n, v = .int n := by
        cases v with
        | int n => exact ⟨n, rfl⟩
        | _ => cases e
      have q' : Q (.bl (decide (lo ≤ n) && decide (n ≤ hi))) H := q
      refine ⟨_, rfl, _, rfl, _, _, rfl, rfl, _, rfl, ite_b (fun e1 => ⟨_, rfl, _, _, rfl, rfl, ?_⟩) (fun e1 => ?_)⟩
      · rw [e1, Bool.true_and] at q'
        exact q'
      · rw [e1, Bool.false_and] at q'
        exact q'
    · have e2 : numB lo hi v = false := by
        cases v <;> first | rfl | cases e
      rw [e2] at q
      exact q
/-! ### let, or refused -/
def spWordA (cW : Addr) : Sp := fun vs H Q E => ∃ v, vs = [v] ∧ OddV H v ∧ (wvB v = true → ∀ H', Same H H' → Q .non H') ∧ (wvB v = false → Refuses cW "word" v H E)
theorem ok_wordA (F : Fun K "check_word" "check_word" sCheckW f fd) (T : OwnX K mg "NoWord" "word" cW) (hI : Has P w K mg base "is_word" 1 ["thing"] (spIsW K)) : FnOk P w K mg base (L2N.CX P w) 2 f fd ["word"] (spWordA cW) := by
  refine Fun_okN F scCheckW (fun vs H Q E h => ?_) (fun cdv A outer s H vs Q E hr h => ?_)
  · obtain ⟨v, rfl, _⟩ := h
    rfl
  · obtain ⟨v, rfl, ho, q1, q2⟩ := h
    refine ⟨_, pss_one (ps_if (pt_not (pt_val (pe_h hI hr (pa_cons (pv 0) pa_nil)))) (pss_one (ps_raiseX rfl T hr (L2N.takes_of rfl rfl rfl rfl) (pa_cons (pv 0) pa_nil))) pss_nil), ?_⟩
    refine ⟨_, rfl, v, wvB v, rfl, ho.wv, fun H1 s1 => ⟨_, rfl, not_b (fun e => ?_) (fun e => ?_)⟩⟩
    · exact ⟨_, rfl, v, rfl, fun d hd => (q2 e).new s1 d hd⟩
    · exact q1 e H1 s1
def spAgeA (cA : Addr) : Sp := fun vs H Q E => ∃ v, vs = [v] ∧ OddV H v ∧ (ageB v = true → Q .non H) ∧ (ageB v = false → Refuses cA "age" v H E)
theorem ok_ageA (F : Fun K "check_age" "check_age" sCheckA f fd) (T : OwnX K mg "NoAge" "age" cA) (B2 : Bg mg) (hI : Has P w K mg base "is_number_from" 2 ["thing", "least", "most"] spIsNumO) : FnOk P w K mg base (L2N.CX P w) 3 f fd ["age"] (spAgeA cA) := by
  obtain ⟨t, gt⟩ := B2.oldest
  refine Fun_okN F scCheckA (fun vs H Q E h => ?_) (fun cdv A outer s H vs Q E hr h => ?_)
  · obtain ⟨v, rfl, _⟩ := h
    rfl
  · obtain ⟨v, rfl, ho, q1, q2⟩ := h
    refine ⟨_, pss_one (ps_if (pt_not (pt_val (pe_h hI hr (pa_cons (pv 0) (pa_cons pe_int (pa_cons (pe_glob (v := .int 120) rfl gt ⟨_, rfl⟩) pa_nil)))))) (pss_one (ps_raiseX rfl T hr (L2N.takes_of rfl rfl rfl rfl) (pa_cons (pv 0) pa_nil))) pss_nil), ?_⟩
    refine ⟨_, rfl, v, 0, 120, rfl, ho, _, rfl, not_b (fun e => ?_) (fun e => ?_)⟩
    · exact ⟨_, rfl, v, rfl, fun d hd => (q2 e).new (Same.refl H) d hd⟩
    · exact q1 e
def spSureA (cS : Addr) : Sp := fun vs H Q E => ∃ v, vs = [v] ∧ OddV H v ∧ (truB v = true → Q .non H) ∧ (truB v = false → Refuses cS "sure" v H E)
theorem ok_sureA (F : Fun K "check_sure" "check_sure" sCheckS f fd) (B : Bi mg) (B2 : Bg mg) (T : OwnX K mg "NoSure" "sure" cS) : FnOk P w K mg base (L2N.CX P w) 1 f fd ["sure"] (spSureA cS) := by
  refine Fun_okN F scCheckS (fun vs H Q E h => ?_) (fun cdv A outer s H vs Q E hr h => ?_)
  · obtain ⟨v, rfl, _⟩ := h
    rfl
  · obtain ⟨v, rfl, ho, q1, q2⟩ := h
    obtain ⟨t, ty, _, k⟩ := ho.kinds (K := K)
    refine ⟨_, pss_one (ps_if (pt_not (pt_val (pe_callB call_isi (by rfl) B.isi (by decide +kernel) (pa_cons (pv 0) (pa_cons (pe_bltn (v := .ty "bool") (by rfl) B2.bool (by decide +kernel) rfl) pa_nil))))) (pss_one (ps_raiseX rfl T hr (L2N.takes_of rfl rfl rfl rfl) (pa_cons (pv 0) pa_nil))) pss_nil), ?_⟩
    refine ⟨_, rfl, _, _, _, _, _, rfl, .ty "bool", ty, k, _, rfl, not_b (fun e => ?_) (fun e => ?_)⟩
    · exact ⟨_, rfl, v, rfl, fun d hd => (q2 e).new (Same.refl H) d hd⟩
    · exact q1 e
def spNameA (C cN : Addr) : Sp := fun vs H Q E => ∃ (p L : Addr) (g : Grid) (wd : Nat) (v : V), vs = [.ref p, v] ∧ LandAt C H p L g ∧ Good g wd ∧ OddV H v ∧ (nameB g v = true → ∀ (H' : Hp), Same H H' → Q .non H') ∧ (nameB g v = false → Refuses cN "name" v H E)
theorem ok_nameA (F : Fun K "check_name" "Land.check_name" sCheck f fd) (T : Txt K mg C) (TN : OwnX K mg "NoName" "name" cN) (hI : Has P w K mg base "is_word" 1 ["thing"] (spIsW K)) : FnOk P w K mg base (L2N.CX P w) 2 f fd ["self", "name"] (spNameA C cN) := by
  refine Fun_okN F scCheck (fun vs H Q E h => ?_) (fun cdv A outer s H vs Q E hr h => ?_)
  · obtain ⟨p, L, g, wd, v, rfl, _⟩ := h
    rfl
  · obtain ⟨p, L, g, wd, v, rfl, hLa, gd, ho, q1, q2⟩ := h
    have hu := hu_of hr
    refine ⟨_, pss_one (ps_if (PW.pt (pw_or (pt_not (pt_val (pe_h hI hr (pa_cons (pv 1) pa_nil)))) (pw_or1 (pt_cmp (pc_dnotin hu (pv 1) (pe_fld (pv 0) rfl)))))) (pss_one (ps_raiseX rfl TN hr (L2N.takes_of rfl rfl rfl rfl) (pa_cons (pv 1) pa_nil))) pss_nil), ?_⟩
    refine ⟨_, rfl, v, wvB v, rfl, ho.wv, fun H1 s1 => ⟨_, rfl, not_b (fun e => ?_) (fun e => ?_)⟩⟩
    · have en : nameB g v = false := by
        cases v with
        | str z =>
          show (wdB z && decide (z ∈ names g)) = false
          rw [show wdB z = false from e, Bool.false_and]
        | _ => rfl
      exact ⟨_, rfl, v, rfl, fun d hd => (q2 en).new s1 d hd⟩
    · obtain ⟨z, rfl, hz⟩ := wv_str e
      obtain ⟨d, dx, hp, ⟨kvs, hd, he⟩, hG⟩ := hLa.keep (kp_same s1)
      have hn : nameB g (.str z) = decide (z ∈ names g) := by
        show (wdB z && decide (z ∈ names g)) = _
        rw [show wdB z = true from hz, Bool.true_and]
      refine ⟨_, rfl, _, rfl, p, C, dx, _, _, rfl, hp, T.cl, T.nS, lf_spots _ _, d, _, rfl, DGet.k (k := Sum.inr z) hd, _, rfl, ?_⟩
      by_cases hm : z ∈ names g
      · obtain ⟨r, c, hc⟩ := mem_names.mp hm
        obtain ⟨t, hv, ht⟩ := ent_some he (by rw [spG_fst]; exact gd.nd) (spG_cell.mpr hc)
        rw [hv]
        exact iteF (q1 (by rw [hn, decide_eq_true hm]) H1 s1)
      · rw [ent_none he (by rw [spG_fst]; exact hm)]
        exact iteT ⟨_, rfl, _, rfl, fun d2 hd2 => (q2 (by rw [hn, decide_eq_false hm])).new s1 d2 hd2⟩
end
end Wl




namespace Wl
open PySem PySem.Spec PyProof.Rows L2
section
variable {K : PySem.W.Frag} {H : Hp} {Q : VK}
theorem cat_reads {a b : Addr} {xs ys : List V} (ha : H a = some (.tup xs)) (hb : H b = some (.tup ys)) (hz : xs.length + ys.length ≤ 1000) (q : ∀ u H', Same H H' → H' u = some (.tup (xs ++ ys)) → Q (.ref u) H') : rCatA K (.ref a) (.ref b) H Q := by
  refine ⟨a, b, xs, ys, rfl, rfl, .inl (.inl ha), .inl (.inl hb), lzl hz, fun e => ?_, fun _ e => ?_, fun _ _ p hp => ?_⟩
  · subst e
    exact q b H (Same.refl H) hb
  · subst e
    refine q a H (Same.refl H) ?_
    rw [List.append_nil]
    exact ha
  · exact q p _ (same_new hp) upd_same
theorem sl_reads {a : Addr} {xs : List V} {lo hi : Option Int} (ha : H a = some (.tup xs)) (q : ∀ u H', Same H H' → H' u = some (.tup (cutV xs lo hi)) → Q (.ref u) H') : rSlA K (.ref a) lo hi H Q := by
  refine ⟨a, xs, rfl, .inl (.inl ha), fun ⟨e1, e2⟩ => ?_, fun _ p hp => q p _ (same_new hp) upd_same⟩
  refine q a H (Same.refl H) ?_
  unfold cutV
  rw [e1, e2, List.drop_zero, Nat.sub_zero, List.take_length]
  exact ha
end
theorem cut_to (xs : List V) (c : Nat) : cutV xs none (some (c : Int)) = xs.take c := by
  unfold cutV
  rw [HT.sIx_none, HT.sIx_nat, List.drop_zero, Nat.sub_zero]
  by_cases h : c ≤ xs.length
  · rw [Nat.min_eq_left h]
  · rw [Nat.min_eq_right (by omega), List.take_length, List.take_of_length_le (by omega)]
theorem cut_from (xs : List V) (c : Nat) : cutV xs (some (c : Int)) none = xs.drop c := by
  unfold cutV
  rw [HT.sIx_none, HT.sIx_nat]
  by_cases h : c ≤ xs.length
  · rw [Nat.min_eq_left h, ← List.length_drop, List.take_length]
  · rw [Nat.min_eq_right (by omega), List.drop_length, List.drop_eq_nil_of_le (by omega), List.take_nil]
section
variable {P : Program} {w : World} {K : PySem.W.Frag} {mg : Str → Option Value} {base : Heap} {f C D : Addr} {fd : FuncData}
/-! ### a telling put, one way or another -/
end
end Wl





/-! put, of things of any kind: let, or what is due is refused. -/
namespace Wl
open PySem PySem.Spec PyProof.Rows L2
inductive PR
  | name (x : V)
  | word (x : V)
  | age (x : V)
  | sure (x : V)
  | told (t : Tel)
  | full
structure XA where
  cN : Addr
  cW : Addr
  cA : Addr
  cS : Addr
  cT : Addr
  cF : Addr
def PutE (x : XA) (H : Hp) (E : XK) : PR → Prop
  | .name u => Refuses x.cN "name" u H E
  | .word u => Refuses x.cW "word" u H E
  | .age u => Refuses x.cA "age" u H E
  | .sure u => Refuses x.cS "sure" u H E
  | .told t => ∀ kp d H', Same H H' → H' kp = some (.tup (keyV t)) → H' d = some (.xd [("key", .ref kp)]) → E (.ref x.cT) (some d) H'
  | .full => Refuses x.cF "many" (.int 200) H E
def telOf : V → V → V → V → V → V → V → Option Tel
  | .str v, .str th, .str wo, .str tl, .int a, .str g, .bl s => some ⟨v, th, wo, tl, a.toNat, g, s⟩
  | _, _, _, _, _, _, _ => none
/-- what of a telling's parts is due -/
def duePt (g : Grid) (x0 x1 x2 x3 x4 x5 x6 : V) : Option PR :=
  if nameB g x0 = false then some (.name x0) else if wvB x1 = false then some (.word x1) else if wvB x2 = false then some (.word x2) else if wvB x3 = false then some (.word x3) else if ageB x4 = false then some (.age x4) else if wvB x5 = false then some (.word x5) else if truB x6 = false then some (.sure x6) else none
def dueP (g : Grid) (ts : List Tel) (x0 x1 x2 x3 x4 x5 x6 : V) : Option PR :=
  match duePt g x0 x1 x2 x3 x4 x5 x6 with
  | some n => some n
  | none => match telOf x0 x1 x2 x3 x4 x5 x6 with
    | some t => if keyS t ∈ ts.map keyS then some (.told t) else if 200 ≤ ts.length then some .full else none
    | none => none
theorem nf_true {b : Bool} (h : ¬ b = false) : b = true := by cases b <;> simp at h ⊢
theorem due_none {g : Grid} {x0 x1 x2 x3 x4 x5 x6 : V} (h : duePt g x0 x1 x2 x3 x4 x5 x6 = none) : ∃ t, telOf x0 x1 x2 x3 x4 x5 x6 = some t ∧ [x0, x1, x2, x3, x4, x5, x6] = telV t ∧ OkT t ∧ t.v ∈ names g := by
  unfold duePt at h
  by_cases h0 : nameB g x0 = false
  · rw [if_pos h0] at h; cases h
  by_cases h1 : wvB x1 = false
  · rw [if_neg h0, if_pos h1] at h; cases h
  by_cases h2 : wvB x2 = false
  · rw [if_neg h0, if_neg h1, if_pos h2] at h; cases h
  by_cases h3 : wvB x3 = false
  · rw [if_neg h0, if_neg h1, if_neg h2, if_pos h3] at h; cases h
  by_cases h4 : ageB x4 = false
  · rw [if_neg h0, if_neg h1, if_neg h2, if_neg h3, if_pos h4] at h; cases h
  by_cases h5 : wvB x5 = false
  · rw [if_neg h0, if_neg h1, if_neg h2, if_neg h3, if_neg h4, if_pos h5] at h; cases h
  by_cases h6 : truB x6 = false
  · rw [if_neg h0, if_neg h1, if_neg h2, if_neg h3, if_neg h4, if_neg h5, if_pos h6] at h; cases h
  obtain ⟨z0, rfl, w0, m0⟩ := name_str (nf_true h0)
  obtain ⟨z1, rfl, w1⟩ := wv_str (nf_true h1)
  obtain ⟨z2, rfl, w2⟩ := wv_str (nf_true h2)
  obtain ⟨z3, rfl, w3⟩ := wv_str (nf_true h3)
  obtain ⟨n, rfl, w4⟩ := age_int (nf_true h4)
  obtain ⟨z5, rfl, w5⟩ := wv_str (nf_true h5)
  obtain ⟨b, rfl⟩ := tru_bl (nf_true h6)
  exact ⟨⟨z0, z1, z2, z3, n, z5, b⟩, rfl, rfl, ⟨w0, w1, w2, w3, w4, w5⟩, m0⟩
structure Odd7 (H : Hp) (x0 x1 x2 x3 x4 x5 x6 : V) : Prop where
  o0 : OddV H x0
  o1 : OddV H x1
  o2 : OddV H x2
  o3 : OddV H x3
  o4 : OddV H x4
  o5 : OddV H x5
  o6 : OddV H x6
theorem Odd7.same {H H' : Hp} {x0 x1 x2 x3 x4 x5 x6 : V} (h : Odd7 H x0 x1 x2 x3 x4 x5 x6) (s : Same H H') : Odd7 H' x0 x1 x2 x3 x4 x5 x6 := ⟨h.o0.same s, h.o1.same s, h.o2.same s, h.o3.same s, h.o4.same s, h.o5.same s, h.o6.same s⟩
/-- what follows a put of such parts -/
def PutsTo (x : XA) (C D : Addr) (p : Addr) (r : GR) (x0 x1 x2 x3 x4 x5 x6 : V) (H : Hp) (Q : VK) (E : XK) : Prop :=
  (∀ n, dueP r.g r.ts x0 x1 x2 x3 x4 x5 x6 = some n → PutE x H E n) ∧
  (dueP r.g r.ts x0 x1 x2 x3 x4 x5 x6 = none → ∀ (t : Tel) (q : Addr) (H' : Hp), [x0, x1, x2, x3, x4, x5, x6] = telV t → H q = none → Same2 r.td r.dd H H' → GatAt C D H' p (r.add q t) → Q .non H')
section
variable {P : Program} {w : World} {K : PySem.W.Frag} {mg : Str → Option Value} {base : Heap} {f C D : Addr} {x : XA} {fd : FuncData}
theorem PutE.same {H H' : Hp} {E : XK} {n : PR} (h : PutE x H E n) (s : Same H H') : PutE x H' E n := by
  cases n with
  | name u => exact Refuses.same h s
  | word u => exact Refuses.same h s
  | age u => exact Refuses.same h s
  | sure u => exact Refuses.same h s
  | told t => exact fun kp d H2 s2 => h kp d H2 (s.trans s2)
  | full => exact Refuses.same h s
theorem PutsTo.same {p : Addr} {r : GR} {x0 x1 x2 x3 x4 x5 x6 : V} {H H' : Hp} {Q : VK} {E : XK} (h : PutsTo x C D p r x0 x1 x2 x3 x4 x5 x6 H Q E) (s : Same H H') : PutsTo x C D p r x0 x1 x2 x3 x4 x5 x6 H' Q E :=
  ⟨fun n e => (h.1 n e).same s, fun e t q H2 et n m g => h.2 e t q H2 et (s.free n) ((Same2.of s).trans m) g⟩
def spPutA (x : XA) (C D : Addr) : Sp := fun vs H Q E => ∃ (p : Addr) (r : GR) (wd : Nat) (x0 x1 x2 x3 x4 x5 x6 : V), vs = [.ref p, x0, x1, x2, x3, x4, x5, x6] ∧ GatAt C D H p r ∧ Good r.g wd ∧ (∀ u ∈ r.ts, OkT u) ∧ r.ts.length ≤ 200 ∧ r.ds.length < 1000 ∧ Odd7 H x0 x1 x2 x3 x4 x5 x6 ∧ PutsTo x C D p r x0 x1 x2 x3 x4 x5 x6 H Q E
theorem find_in {l : List Tel} {t : Tel} (h : keyS t ∈ l.map keyS) : ∃ i, (l.findIdx? fun u => decide (keyS u = keyS t)) = some i := by
  obtain ⟨u, hu, e⟩ := List.mem_map.mp h
  cases q : l.findIdx? fun u => decide (keyS u = keyS t) with
  | some i => exact ⟨i, rfl⟩
  | none =>
    rw [List.findIdx?_eq_none_iff] at q
    have := q u hu
    rw [decide_eq_true e] at this
    cases this
theorem ok_putA (F : FunP K f fd) (B : Bi mg) (B2 : Bg mg) (T : Txt K mg C) (TG : TxtG K mg D) (TT : OwnX K mg "Told" "key" x.cT) (TF : OwnX K mg "Full" "many" x.cF) (hCk : HasMX P w K mg base C "check_name" 2 ["self", "name"] (spNameA C x.cN)) (hW : HasX P w K mg base "check_word" 2 ["word"] (spWordA x.cW))
    (hA : HasX P w K mg base "check_age" 3 ["age"] (spAgeA x.cA)) (hS : HasX P w K mg base "check_sure" 1 ["sure"] (spSureA x.cS)) (hP : HasM P w K mg base D "place_of" 2 ["self", "key"] (spGPlace C D)) : FnOk P w K mg base (L2N.CX P w) 4 f fd psPut (spPutA x C D) := by
  obtain ⟨t200, g200⟩ := B2.most
  refine F.ok scPut (fun vs H Q E h => ?_) (fun cdv A outer s H vs Q E hr h => ?_)
  · obtain ⟨p, r, wd, x0, x1, x2, x3, x4, x5, x6, rfl, _⟩ := h
    rfl
  · obtain ⟨p, r, wd, x0, x1, x2, x3, x4, x5, x6, rfl, hG, gd, hok, h200, hds, ho, q⟩ := h
    have px : Passes (L2N.CX P w) (cxOf (L2N.CX P w) P w K mg base nPut "Gathering.put" (defScope sGPut) f cdv A outer s H E) E := passE (L2N.takes_of rfl rfl rfl rfl)
    refine ⟨_, pss_cons (ps_expr (pe_hmx hCk T.cl hr px (pe_fld (pv 0) rfl) (pa_cons (pv 1) pa_nil)))
      (pss_cons (ps_expr (pe_hx hW hr px (pa_cons (pv 2) pa_nil)))
      (pss_cons (ps_expr (pe_hx hW hr px (pa_cons (pv 3) pa_nil)))
      (pss_cons (ps_expr (pe_hx hW hr px (pa_cons (pv 4) pa_nil)))
      (pss_cons (ps_expr (pe_hx hA hr px (pa_cons (pv 5) pa_nil)))
      (pss_cons (ps_expr (pe_hx hW hr px (pa_cons (pv 6) pa_nil)))
      (pss_cons (ps_expr (pe_hx hS hr px (pa_cons (pv 7) pa_nil)))
      (pss_cons (ps_set (i := 8) scPut.nd rfl (.inl rfl) (pe_tup (pa_cons (pv 1) (pa_cons (pv 4) (pa_cons (pv 2) (pa_cons (pv 6) pa_nil))))))
      (pss_cons (ps_if (pt_cmp (pc_notN (pe_hm hP TG.cl hr (pv 0) (pa_cons (pv 8) pa_nil)))) (pss_one (ps_raiseX rfl TT hr (L2N.takes_of rfl rfl rfl rfl) (pa_cons (pv 8) pa_nil))) pss_nil)
      (pss_cons (ps_if (pt_cmpR op_ge (pe_callB call_len_seq (by rfl) B.len PySem.boot_len (pa_cons (pe_fld (pv 0) rfl) pa_nil)) (pe_glob (v := .int 200) rfl g200 ⟨_, rfl⟩) (nomark _)) (pss_one (ps_raiseX rfl TF hr (L2N.takes_of rfl rfl rfl rfl) (pa_cons (pe_glob (v := .int 200) rfl g200 ⟨_, rfl⟩) pa_nil))) pss_nil)
      (pss_cons (ps_expr (pe_bm PySem.F.plainAttrs_list PySem.F.slot_list_append PySem.F.type_list_append mt_append (pe_fld (pv 0) rfl) (pa_cons (pe_tup (pa_cons (pv 1) (pa_cons (pv 2) (pa_cons (pv 3) (pa_cons (pv 4) (pa_cons (pv 5) (pa_cons (pv 6) (pa_cons (pv 7) pa_nil)))))))) pa_nil)))
      (pss_one (ps_expr (pe_bm PySem.F.plainAttrs_list PySem.F.slot_list_append PySem.F.type_list_append mt_append (pe_fld (pv 0) rfl) (pa_cons pe_non pa_nil)))))))))))))), ?_⟩
    obtain ⟨dx, hp⟩ := hG.at_
    obtain ⟨dl, d, hl⟩ := hG.land.ins
    have dp : ∀ {n : PR}, duePt r.g x0 x1 x2 x3 x4 x5 x6 = some n → dueP r.g r.ts x0 x1 x2 x3 x4 x5 x6 = some n := fun {n} e => by
      unfold dueP
      rw [e]
    refine ⟨_, rfl, p, D, dx, _, _, rfl, hp, TG.cl, TG.nL, gf_land _ _ _, r.pl, dl, _, rfl, hl, fs_no, _, rfl, r.pl, r.L, r.g, wd, x0, rfl, hG.land, gd, ho.o0, fun e0 H1 s1 => ?_, fun e => ?_⟩
    case refine_2 => exact q.1 (.name x0) (dp (by unfold duePt; rw [if_pos e]))
    have f0 : ¬ nameB r.g x0 = false := by rw [e0]; decide
    have q1 := q.same s1
    refine ⟨_, rfl, x1, rfl, ho.o1.same s1, fun e1 H2 s2 => ?_, fun e => ?_⟩
    case refine_2 => exact q1.1 (.word x1) (dp (by unfold duePt; rw [if_neg f0, if_pos e]))
    have f1 : ¬ wvB x1 = false := by rw [e1]; decide
    have q2 := q1.same s2
    refine ⟨_, rfl, x2, rfl, ho.o2.same (s1.trans s2), fun e2 H3 s3 => ?_, fun e => ?_⟩
    case refine_2 => exact q2.1 (.word x2) (dp (by unfold duePt; rw [if_neg f0, if_neg f1, if_pos e]))
    have f2 : ¬ wvB x2 = false := by rw [e2]; decide
    have q3 := q2.same s3
    have s13 := (s1.trans s2).trans s3
    refine ⟨_, rfl, x3, rfl, ho.o3.same s13, fun e3 H4 s4 => ?_, fun e => ?_⟩
    case refine_2 => exact q3.1 (.word x3) (dp (by unfold duePt; rw [if_neg f0, if_neg f1, if_neg f2, if_pos e]))
    have f3 : ¬ wvB x3 = false := by rw [e3]; decide
    have q4 := q3.same s4
    have s14 := s13.trans s4
    refine ⟨_, rfl, x4, rfl, ho.o4.same s14, fun e4 => ?_, fun e => ?_⟩
    case refine_2 => exact q4.1 (.age x4) (dp (by unfold duePt; rw [if_neg f0, if_neg f1, if_neg f2, if_neg f3, if_pos e]))
    have f4 : ¬ ageB x4 = false := by rw [e4]; decide
    refine ⟨_, rfl, x5, rfl, ho.o5.same s14, fun e5 H5 s5 => ?_, fun e => ?_⟩
    case refine_2 => exact q4.1 (.word x5) (dp (by unfold duePt; rw [if_neg f0, if_neg f1, if_neg f2, if_neg f3, if_neg f4, if_pos e]))
    have f5 : ¬ wvB x5 = false := by rw [e5]; decide
    have q5 := q4.same s5
    have s15 := s14.trans s5
    refine ⟨_, rfl, x6, rfl, ho.o6.same s15, fun e6 => ?_, fun e => ?_⟩
    case refine_2 => exact q5.1 (.sure x6) (dp (by unfold duePt; rw [if_neg f0, if_neg f1, if_neg f2, if_neg f3, if_neg f4, if_neg f5, if_pos e]))
    have f6 : ¬ truB x6 = false := by rw [e6]; decide
    have hd0 : duePt r.g x0 x1 x2 x3 x4 x5 x6 = none := by
      unfold duePt
      rw [if_neg f0, if_neg f1, if_neg f2, if_neg f3, if_neg f4, if_neg f5, if_neg f6]
    obtain ⟨t, et, ex, okt, hv⟩ := due_none hd0
    have ed : dueP r.g r.ts x0 x1 x2 x3 x4 x5 x6 = (if keyS t ∈ r.ts.map keyS then some (.told t) else if 200 ≤ r.ts.length then some .full else none) := by
      unfold dueP
      rw [hd0, et]
    unfold PutsTo at q5
    rw [ed] at q5
    have ex' := ex
    unfold telV at ex'
    simp only [List.cons.injEq, and_true] at ex'
    obtain ⟨rfl, rfl, rfl, rfl, rfl, rfl, rfl⟩ := ex'
    refine ⟨_, rfl, _, rfl, _, rfl, _, rfl, lz, fun kp hkp => ?_⟩
    have s6 := same_new (o := .tup [V.str t.v, V.str t.tl, V.str t.th, V.str t.g]) hkp
    have hkp6 : upd H5 kp (.tup [V.str t.v, V.str t.tl, V.str t.th, V.str t.g]) kp = some (.tup ((keyS t).map V.str)) := upd_same
    have s16 := s15.trans s6
    have hG6 := hG.same s16
    have q6 : PutsTo x C D p r (.str t.v) (.str t.th) (.str t.wo) (.str t.tl) (.int (t.age : Int)) (.str t.g) (.bl t.sure) H5 Q E := by
      unfold PutsTo
      rw [ed]
      exact q5
    have q6 := q6.same s6
    unfold PutsTo at q6
    rw [ed] at q6
    generalize upd H5 kp (.tup [V.str t.v, V.str t.tl, V.str t.th, V.str t.g]) = H6 at hkp6 s16 hG6 q6
    obtain ⟨dx6, hp6⟩ := hG6.at_
    refine ⟨_, rfl, p, dx6, _, rfl, hp6, gf_no _ _ _, _, rfl, p, kp, r, keyS t, rfl, hG6, hok, h200, hkp6, okt.key, fun H7 s7 => ?_⟩
    by_cases hk : keyS t ∈ r.ts.map keyS
    · obtain ⟨i, hi⟩ := find_in hk
      rw [hi]
      refine ⟨_, rfl, iteT ⟨_, rfl, _, rfl, fun de hde => ?_⟩⟩
      have := q6.1 (.told t) (by rw [if_pos hk])
      exact this kp de _ (s7.trans (same_new hde)) ((same_new hde) _ _ (s7 _ _ hkp6)) upd_same
    rw [find_no hk]
    rw [if_neg hk] at q6
    refine ⟨_, rfl, iteF ?_⟩
    have hG7 := hG6.same s7
    obtain ⟨dx7, hp7⟩ := hG7.at_
    have hlen : r.as.length = r.ts.length := hG.tels.length
    refine ⟨_, rfl, p, D, dx7, _, _, rfl, hp7, TG.cl, TG.nT, gf_told _ _ _, r.td, _, rfl, .inl (.inl (.inl hG7.told)), _, _, rfl, rfl, _, rfl, ?_⟩
    by_cases h2 : 200 ≤ r.ts.length
    · have hno : decide ((200 : Int) ≤ ((r.as.map V.ref).length : Int)) = true := decide_eq_true (by rw [List.length_map]; omega)
      rw [hno]
      have := q6.1 .full (by rw [if_pos h2])
      exact iteT ⟨_, rfl, fun de hde => Refuses.new this s7 de hde⟩
    have hno : decide ((200 : Int) ≤ ((r.as.map V.ref).length : Int)) = false := decide_eq_false (by rw [List.length_map]; omega)
    rw [hno]
    rw [if_neg h2] at q6
    have q := q6.2 rfl t
    refine iteF ⟨_, rfl, p, D, dx7, _, _, rfl, hp7, TG.cl, TG.nT, gf_told _ _ _, .inl ⟨rfl, _, .inl (.inl hG7.told)⟩, _, rfl, _, rfl, _, rfl, _, rfl, _, rfl, _, rfl, _, rfl, lz, fun qa hqa => ?_⟩
    have s8 := same_new (o := .tup [V.str t.v, V.str t.th, V.str t.wo, V.str t.tl, V.int (t.age : Int), V.str t.g, V.bl t.sure]) hqa
    have hG8 := hG7.same s8
    have hqa8 : upd H7 qa (.tup [V.str t.v, V.str t.th, V.str t.wo, V.str t.tl, V.int (t.age : Int), V.str t.g, V.bl t.sure]) qa = some (.tup (telV t)) := upd_same
    have s68 := s7.trans s8
    have hqa0 : H6 qa = none := s7.free hqa
    refine ⟨r.td, _, _, rfl, rfl, hG8.told, by rw [List.length_map]; exact small1000 (by omega), ?_⟩
    obtain ⟨dx8, hp8⟩ := hG8.at_
    have hd8 := hG8.deeds
    have ht8 := hG8.told
    generalize upd H7 qa (.tup [V.str t.v, V.str t.th, V.str t.wo, V.str t.tl, V.int (t.age : Int), V.str t.g, V.bl t.sure]) = H8 at hG8 hqa8 s68 hp8 hd8 ht8
    have k9 : Keep H8 (upd H8 r.td (.lst (r.as.map V.ref ++ [.ref qa]))) := kp_upd ht8
    have hp9 := k9 _ _ (fun xs e => by cases e) hp8
    have hd9 : upd H8 r.td (.lst (r.as.map V.ref ++ [.ref qa])) r.dd = some (.lst r.ds) := by
      rw [upd_ne hG.ne.symm]
      exact hd8
    have ht9 : upd H8 r.td (.lst (r.as.map V.ref ++ [.ref qa])) r.td = some (.lst (r.as.map V.ref ++ [.ref qa])) := upd_same
    have m9 : Same2 r.td r.dd H8 (upd H8 r.td (.lst (r.as.map V.ref ++ [.ref qa]))) := fun c o n _ e => by
      rw [upd_ne n]
      exact e
    generalize upd H8 r.td (.lst (r.as.map V.ref ++ [.ref qa])) = H9 at k9 hp9 hd9 ht9 m9
    refine ⟨_, rfl, p, D, dx8, _, _, rfl, hp9, TG.cl, TG.nD, gf_deeds _ _ _, .inl ⟨rfl, _, .inl (.inl hd9)⟩, r.dd, _, _, rfl, rfl, hd9, small1000 (by omega), ?_⟩
    have k10 : Keep H9 (upd H9 r.dd (.lst (r.ds ++ [.non]))) := kp_upd hd9
    have kk := k9.trans k10
    refine q qa _ rfl hqa0 ?_ ⟨⟨dx8, k10 _ _ (fun xs e => by cases e) hp9⟩, hG8.land.keep kk, ?_, ?_, upd_same, hG.ne⟩
    · refine (Same2.of s68).trans (m9.trans fun c o _ n e => ?_)
      rw [upd_ne n]
      exact e
    · show upd H9 r.dd (.lst (r.ds ++ [.non])) r.td = some (.lst ((r.as ++ [qa]).map V.ref))
      rw [upd_ne hG.ne, ht9, List.map_append]
      rfl
    · exact Each.append (hG8.tels.keep kk.tk) (.cons (kk.tk _ _ hqa8) .nil)
/-! ### the law's own put, ways 3 and 4 -/
def HasPA (P : Program) (w : World) (K : PySem.W.Frag) (mg : Str → Option Value) (base : Heap) (x : XA) (C D : Addr) : Prop := ∃ f fd, FnOk P w K mg base (L2N.CX P w) 4 f fd psPut (spPutA x C D) ∧ Meth K D "put" f ∧ FunP K f fd
end
end Wl




/-! a Gathering read from its text: the row of a telling. -/
namespace Wl
open PySem PySem.Spec PyProof.Rows L2
abbrev sIsN : Stmt := topS 52
abbrev sPutRow : Stmt := topS 53
def figB (c : Nat) : Bool := decide (c ∈ TL.tl ("0123456789" : Str))
theorem age_facts {n : Nat} (h : n ≤ 120) : ((TL.tl (ageS n)).all figB = true ∧ 1 ≤ (ageS n).length ∧ (ageS n).length ≤ 3) ∧ (ageS n = "0" ∨ (decide (ageS n = "0") = false ∧ ∃ c : Nat, (TL.tl (ageS n))[0]? = some c ∧ decide ((⟨#[c]⟩ : Str) = "0") = false)) ∧ PySem.intText? (ageS n) = some (n : Int) := by
  have k1 : ∀ k : Fin 121, ((TL.tl (ageS k.1)).all figB = true ∧ 1 ≤ (ageS k.1).length ∧ (ageS k.1).length ≤ 3) ∧ (ageS k.1 = "0" ∨ (decide (ageS k.1 = "0") = false ∧ decide ((⟨#[(TL.tl (ageS k.1)).headD 0]⟩ : Str) = "0") = false)) := by decide +kernel
  obtain ⟨a, b⟩ := k1 ⟨n, by omega⟩
  refine ⟨a, ?_, ?_⟩
  · rcases b with b | ⟨b, c⟩
    · exact .inl b
    · refine .inr ⟨b, _, ?_, c⟩
      have := a.2.1
      rw [TL.len_tl] at this
      show (TL.tl (ageS n))[0]? = some ((TL.tl (ageS n)).headD 0)
      cases q : TL.tl (ageS n) with
      | nil => rw [q] at this; exact absurd this (by decide)
      | cons x l => rfl
  · refine TL.int_num (n := n) ?_
    exact Nat.le_trans (TL.numL_len (k := 3) (by decide) (by omega)) (by decide)
section
variable {P : Program} {w : World} {K : PySem.W.Frag} {mg : Str → Option Value} {base : Heap} {f C D : Addr} {fd : FuncData}
def spIsN : Sp := fun vs H Q _ => ∃ n : Nat, vs = [.str (ageS n)] ∧ n ≤ 120 ∧ ∀ H', Same H H' → Q (.bl true) H'
abbrev nIsN : List Str := ["text", "sign"]
theorem scIsN : FnScope nIsN ["text"] (defScope sIsN) := ⟨rfl, rfl, rfl, by decide +kernel, rfl, by decide +kernel, by decide +kernel⟩
def figV : V → V
  | .str z => .bl ((TL.tl z).all figB)
  | _ => .bl false
theorem ok_isn (F : Fun K "is_number" "is_number" sIsN f fd) (B : Bi mg) (h1 : ∃ t, mg "FIGURES" = some (.str "0123456789" t)) (h2 : ∃ t, mg "MOST_FIGURES" = some (.int 9 t)) : FnOk P w K mg base CX0 1 f fd ["text"] spIsN := by
  obtain ⟨t1, g1⟩ := h1
  obtain ⟨t2, g2⟩ := h2
  refine F.ok scIsN (fun vs H Q E h => ?_) (fun cdv A outer s H vs Q E hr h => ?_)
  · obtain ⟨n, rfl, _⟩ := h
    rfl
  · obtain ⟨n, rfl, hn, q⟩ := h
    obtain ⟨⟨a1, a2, a3⟩, b, -⟩ := age_facts hn
    refine ⟨_, pss_cons (ps_if (PW.pt (pw_or (pt_not (pt_chain op_le op_le pe_int (pe_callB call_len_str (by rfl) B.len PySem.boot_len (pa_cons (pv 0) pa_nil)) (pe_glob (v := .int 9) rfl g2 ⟨_, rfl⟩)))
        (pw_or1 (pt_not (pt_val (pe_callB (cr_all rfl) (by rfl) B.all (by decide +kernel) (pa_cons (pe_lc (own := [("sign", 1)]) (g := gName 1) (tt := tYes) rfl scIsN.nd (pi_str (pv 0)) (blkOk_by (N := nIsN) (sc := defScope sIsN) (by decide +kernel))
        (fun _ _ _ _ _ => pg_name (i := 1) scIsN.nd rfl (.inl rfl)) (fun _ _ _ _ _ => pts_nil) (fun _ _ _ _ _ => pe_cmpR op_in_sign (pv 1) (pe_glob (v := .str "0123456789") rfl g1 ⟨_, rfl⟩) rfl)) pa_nil))))))) (pss_one ps_never) pss_nil)
      (pss_one (ps_ret (pe_or (pe_cmpR op_eq (pv 0) pe_str (nomark _)) (pe_one (pe_cmpR op_ne (pe_ix ix_str (pv 0) pe_int (fun _ _ => rfl)) pe_str (nomark _)))))), ?_⟩
    refine ⟨_, rfl, _, rfl, lzl (by omega), _, _, rfl, rfl, _, rfl, ite_b (fun e1 => ?_) (fun e1 => ?_)⟩
    · refine ⟨_, _, rfl, rfl, _, rfl, not_b (fun e2 => ?_) (fun e2 => ?_)⟩
      · have := of_decide_eq_false e2
        omega
      · refine ⟨_, rfl, _, rfl, fun Dd hD => lc_map walk_signs hD (fun _ => true) figV (fun _ _ => trivial) (fun _ => rfl) (fun x H' _ _ Q' q' => q') ?_ ?_ ?_⟩
        · intro x H' hx _ _ Q' q'
          obtain ⟨c, hc, rfl⟩ := List.mem_map.mp hx
          refine ⟨_, rfl, c, _, rfl, rfl, ?_⟩
          have : figV (.str (sign c)) = .bl (figB c) := by
            show V.bl ([c].all figB) = _
            simp
          rw [this] at q'
          exact q'
        · unfold signsOf
          rw [List.length_map, Array.length_toList]
          exact small1000 (by have : (ageS n).length = (ageS n).cps.size := rfl; omega)
        · intro H' s' hD'
          have e0 : ((signsOf (ageS n)).filter fun _ => true).map figV = ((TL.tl (ageS n)).map figB).map V.bl := by
            rw [List.filter_eq_self.mpr fun _ _ => rfl]
            unfold signsOf
            rw [List.map_map, List.map_map]
            refine List.map_congr_left fun c _ => ?_
            show V.bl ([c].all figB) = _
            simp
          refine ⟨Dd, (TL.tl (ageS n)).map figB, rfl, .inl (.inl (by rw [hD', e0])), ?_⟩
          have : ((TL.tl (ageS n)).map figB).all id = true := by
            rw [List.all_map]
            exact a1
          rw [this]
          refine ⟨_, rfl, iteF ⟨_, rfl, rfl, ?_⟩⟩
          rcases b with b | ⟨b, c, b1, b2⟩
          · rw [b]
            exact ⟨true, rfl, iteT (q H' s')⟩
          · rw [show decide (V.str (ageS n) = V.str "0") = decide (ageS n = "0") by simp, b]
            refine ⟨false, rfl, iteF ⟨_, rfl, _, _, c, rfl, rfl, lzl (by omega), atI_nat (j := 0) b1, ?_⟩⟩
            refine ⟨rfl, ?_⟩
            rw [show decide (V.str (⟨#[c]⟩ : Str) = V.str "0") = decide ((⟨#[c]⟩ : Str) = "0") by simp, b2]
            exact q H' s'
    · have := of_decide_eq_false e1
      omega
/-! ### the row of a telling -/
theorem row_split {t : Tel} (h : OkT t) : Txt.split (rowS t) (" " : Str) = if t.sure = true then partsS t else partsS t ++ [("?" : Str)] := by
  have no : ∀ z ∈ partsS t ++ [("?" : Str)], 32 ∉ TL.tl z := fun z hz hc => by
    have wd : ∀ {y : Str}, IsWd y → 32 ∈ TL.tl y → False := fun hy hc => by
      have := (wd_tl hy).2 32 hc
      omega
    unfold partsS at hz
    simp only [List.cons_append, List.nil_append, List.mem_cons, List.not_mem_nil, or_false] at hz
    rcases hz with rfl | rfl | rfl | rfl | rfl | rfl | rfl
    · exact wd h.v hc
    · exact wd h.th hc
    · exact wd h.wo hc
    · exact wd h.tl hc
    · have := List.all_eq_true.mp (age_facts h.age).1.1 32 hc
      exact absurd this (by decide +kernel)
    · exact wd h.g hc
    · exact absurd hc (by decide +kernel)
  unfold rowS
  refine TL.split_join tl_blank (by decide +kernel) (fun e => ?_) fun p hp => no p ?_
  · split at e <;> cases e
  · split at hp
    · exact List.mem_append_left _ hp
    · exact hp
/-- a telling put by its row -/
def spPutRow (C D : Addr) : Sp := fun vs H Q _ => ∃ (p : Addr) (r : GR) (wd : Nat) (t : Tel) (n : Int), vs = [.ref p, .str (rowS t), .int n] ∧ GatAt C D H p r ∧ Good r.g wd ∧ (∀ u ∈ r.ts, OkT u) ∧ OkT t ∧ t.v ∈ names r.g ∧ keyS t ∉ r.ts.map keyS ∧ r.ts.length < 200 ∧ r.ds.length < 1000 ∧
  ∀ (q : Addr) (H' : Hp), H q = none → Same2 r.td r.dd H H' → GatAt C D H' p (r.add q t) → Q .non H'
abbrev nPutRow : List Str := ["gathering", "row", "at", "words", "sure", "told", "village", "thing", "word", "teller", "age", "gatherer", "years"]
theorem scPutRow : FnScope nPutRow ["gathering", "row", "at"] (defScope sPutRow) := ⟨rfl, rfl, rfl, by decide +kernel, rfl, by decide +kernel, by decide +kernel⟩
theorem atI_lastE {α : Type} (l : List α) (x : α) : atI (l ++ [x]) (-1) = some x := by
  unfold atI ixN
  rw [List.length_append, List.length_singleton, if_neg (by omega), if_pos (by omega)]
  have e : ((-1 : Int) + ((l.length + 1 : Nat) : Int)).toNat = l.length := by omega
  simp only [e, Option.bind_some]
  simp
/-- the words of a row -/
def wordsR (t : Tel) : List Str := if t.sure = true then partsS t else partsS t ++ [("?" : Str)]
theorem words_last {t : Tel} (h : OkT t) : ∃ y : Str, atI ((wordsR t).map V.str) (-1) = some (.str y) ∧ (!decide (V.str y = V.str "?")) = t.sure := by
  unfold wordsR
  cases hs : t.sure with
  | true =>
    refine ⟨t.g, ?_, ?_⟩
    · rw [if_pos rfl]
      exact atI_lastE ([t.v, t.th, t.wo, t.tl, ageS t.age].map V.str) (.str t.g)
    · rw [decide_eq_false fun e => ?_]
      · rfl
      · have := (wd_tl h.g).2 63 (by rw [V.str.inj e]; decide +kernel)
        omega
  | false =>
    refine ⟨"?", ?_, by rw [decide_eq_true rfl]; rfl⟩
    rw [if_neg (by decide), List.map_append]
    exact atI_lastE _ _
theorem cut_last (l : List V) (x : V) : cutV (l ++ [x]) none (some (-1)) = l := by
  unfold cutV
  rw [HT.sIx_none]
  have e : HT.sIx (l ++ [x]).length (l ++ [x]).length (some (-1)) = l.length := by
    show (if (-1 : Int) < 0 then ((-1 : Int) + ((l ++ [x]).length : Int)).toNat else min (-1 : Int).toNat (l ++ [x]).length) = l.length
    rw [if_pos (by decide), List.length_append, List.length_singleton]
    omega
  rw [e, List.drop_zero, Nat.sub_zero, List.take_left]
theorem told_reads {K : PySem.W.Frag} {σ : L2.St} {H : Hp} {Q : VK} {L : Addr} {t : Tel} (h3 : σ[3]? = some (some (.ref L))) (h4 : σ[4]? = some (some (.bl t.sure))) (hL : H L = some (.lst ((wordsR t).map V.str))) (q : ∀ T H', Same H H' → H' T = some (.lst ((partsS t).map V.str)) → Q (.ref T) H') : tIf (tB (tVar 4)) (tVar 3) (L2.tSl (rSlL K) (tVar 3) tNoPart (tPart (tUn (rU fun i => .int (-i)) (tC (.int 1))))) σ H Q := by
  refine ⟨_, h4, _, rfl, ?_⟩
  unfold wordsR at hL
  cases hs : t.sure with
  | true =>
    rw [hs, if_pos rfl] at hL
    exact iteT ⟨_, h3, q L H (Same.refl H) hL⟩
  | false =>
    rw [hs, if_neg (by decide), List.map_append] at hL
    refine iteF ⟨_, h3, 1, rfl, _, rfl, L, _, rfl, .inl (.inl hL), fun p hp => q p _ (same_new hp) ?_⟩
    rw [upd_same]
    exact congrArg (fun z => some (HO.lst z)) (cut_last _ _)
def HasPe (P : Program) (w : World) (K : PySem.W.Frag) (mg : Str → Option Value) (base : Heap) (C D : Addr) : Prop := ∃ f fd, FnOk P w K mg base CX0 4 f fd psPut (spPut C D) ∧ Meth K D "put" f ∧ FunP K f fd
theorem ok_putrow (F : Fun K "put_row" "put_row" sPutRow f fd) (B : Bi mg) (B2 : Bg mg) (TG : TxtG K mg D) (hN : Has P w K mg base "is_number" 1 ["text"] spIsN) (hP : HasPe P w K mg base C D) : FnOk P w K mg base CX0 5 f fd ["gathering", "row", "at"] (spPutRow C D) := by
  obtain ⟨fp, fdp, FP, mP, fnP⟩ := hP
  have b8 := put_b8 fnP
  obtain ⟨tq, gq⟩ := B2.doubt
  refine F.ok scPutRow (fun vs H Q E h => ?_) (fun cdv A outer s H vs Q E hr h => ?_)
  · obtain ⟨p, r, wd, t, n, rfl, _⟩ := h
    rfl
  · obtain ⟨p, r, wd, t, n, rfl, hG, gd, hok, okt, hv, hnew, h200, hds, q⟩ := h
    refine ⟨_, pss_cons (ps_set (i := 3) scPutRow.nd rfl (.inl rfl) (pe_split (pv 1) pe_str))
      (pss_cons (ps_set (i := 4) scPutRow.nd rfl (.inl rfl) (pe_cmpR op_ne (pe_ix ix_list (pv 3) (pe_un un_neg pe_int) (fun _ _ => rfl)) (pe_glob (v := .str "?") rfl gq ⟨_, rfl⟩) (nomark _)))
      (pss_cons (ps_set (i := 5) scPutRow.nd rfl (.inl rfl) (pe_ifExp (pt_val (pv 4)) (pv 3) (pe_slice sl_list (pv 3) po_none (po_some (pe_un un_neg pe_int)))))
      (pss_cons (ps_if (PW.pt (pw_or (pt_cmpR op_ne (pe_callB call_len_seq (by rfl) B.len PySem.boot_len (pa_cons (pv 5) pa_nil)) pe_int (nomark _)) (pw_or1 (pt_not (pt_val (pe_h hN hr (pa_cons (pe_ix ix_list (pv 5) pe_int (fun _ _ => rfl)) pa_nil))))))) (pss_one ps_never) pss_nil)
      (pss_cons (ps_asg (pv 5) (pg_lst rfl (pgs_cons (pg_name (i := 6) scPutRow.nd rfl (.inl rfl)) (pgs_cons (pg_name (i := 7) scPutRow.nd rfl (.inl rfl)) (pgs_cons (pg_name (i := 8) scPutRow.nd rfl (.inl rfl)) (pgs_cons (pg_name (i := 9) scPutRow.nd rfl (.inl rfl)) (pgs_cons (pg_name (i := 10) scPutRow.nd rfl (.inl rfl)) (pgs_cons (pg_name (i := 11) scPutRow.nd rfl (.inl rfl)) pgs_nil))))))))
      (pss_cons (ps_set (i := 12) scPutRow.nd rfl (.inl rfl) (pe_callTy call_int_str (by rfl) B.int (by decide +kernel) (pa_cons (pv 10) pa_nil)))
      (pss_one (ps_try_thru0 (pss_one (ps_expr (pe_meth (pv 0) TG.cl mP FP hr b8 .nil pass0 (pa_cons (pv 6) (pa_cons (pv 7) (pa_cons (pv 8) (pa_cons (pv 9) (pa_cons (pv 12) (pa_cons (pv 11) (pa_cons (pv 4) pa_nil))))))))))))))))), ?_⟩
    have hl := row_len okt
    refine ⟨_, rfl, ⟨_, rfl⟩, _, _, rfl, rfl, by decide +kernel, lzl (by omega), fun L hL => ?_⟩
    rw [row_split okt]
    have s1 := same_new (o := .lst ((wordsR t).map V.str)) hL
    have hL1 : upd H L (.lst ((wordsR t).map V.str)) L = some (.lst ((wordsR t).map V.str)) := upd_same
    show tSeq _ _ _ _ (upd H L (.lst ((wordsR t).map V.str)))
    generalize upd H L (.lst ((wordsR t).map V.str)) = H1 at s1 hL1
    obtain ⟨y, hy, ey⟩ := words_last okt
    refine ⟨_, rfl, 1, rfl, L, _, -1, _, rfl, rfl, .inl (.inl hL1), hy, rfl, ?_⟩
    rw [ey]
    refine st_asg (told_reads rfl rfl hL1 fun T H2 s2 hT => ?_)
    have s12 := s1.trans s2
    refine ⟨_, rfl, T, _, rfl, .inl (.inl (.inl hT)), rfl, _, rfl, iteF ?_⟩
    refine ⟨_, rfl, T, _, 4, _, rfl, rfl, .inl (.inl hT), atI_nat (j := 4) rfl, t.age, rfl, okt.age, fun H3 s3 => ⟨_, rfl, iteF ?_⟩⟩
    have s13 := s12.trans s3
    refine ⟨_, rfl, T, _, rfl, .inl (.inl (s3 _ _ hT)), rfl, _, _, rfl, _, _, rfl, _, _, rfl, _, _, rfl, _, _, rfl, _, _, rfl, rfl, ?_⟩
    refine ⟨_, rfl, _, _, rfl, (age_facts okt.age).2.2, by have := (age_facts okt.age).1.2.2; omega, ?_⟩
    obtain ⟨dx, hp⟩ := (hG.same s13).at_
    refine ⟨_, rfl, p, _, _, rfl, hp, gf_no _ _ _, _, rfl, _, rfl, _, rfl, _, rfl, _, rfl, _, rfl, _, rfl, ?_⟩
    exact ⟨p, r, wd, t, rfl, hG.same s13, gd, hok, okt, hv, hnew, h200, hds, fun q' H' n m g => q q' H' (s13.free n) ((Same2.of s13).trans m) g⟩
end
end Wl

/-! settle. -/
namespace Wl
open PySem PySem.Spec PyProof.Rows L2
abbrev sSettle : Stmt := inClass sGat 5
theorem put_deeds {pl td dd d2 : Addr} : putF "deeds" (.ref d2) (gf pl td dd) = gf pl td d2 := by
  unfold gf putF
  rfl
section
variable {P : Program} {w : World} {K : PySem.W.Frag} {mg : Str → Option Value} {base : Heap} {f C D : Addr} {fd : FuncData}
def spSettle (C D : Addr) : Sp := fun vs H Q _ => ∃ (p : Addr) (r : GR), vs = [.ref p] ∧ GatAt C D H p r ∧ ∀ (dd : Addr) (H' : Hp), H dd = none → (∀ b o, b ≠ p → H b = some o → H' b = some o) → GatAt C D H' p { r with dd := dd, ds := [] } → Q .non H'
theorem scSettle : FnScope ["self"] ["self"] (defScope sSettle) := ⟨rfl, rfl, rfl, by decide +kernel, rfl, by decide +kernel, by decide +kernel⟩
theorem ok_settle (F : Fun K "settle" "Gathering.settle" sSettle f fd) (TG : TxtG K mg D) : FnOk P w K mg base CX0 1 f fd ["self"] (spSettle C D) := by
  refine F.ok scSettle (fun vs H Q E h => ?_) (fun cdv A outer s H vs Q E hr h => ?_)
  · obtain ⟨p, r, rfl, _⟩ := h
    rfl
  · obtain ⟨p, r, rfl, hG, q⟩ := h
    refine ⟨_, pss_one (ps_fld (pv 0) (pe_lst pa_nil) rfl), ?_⟩
    obtain ⟨dx, hp⟩ := hG.at_
    refine ⟨lz, fun dd hdd => ⟨_, rfl, p, D, dx, gf r.pl r.td r.dd, rfl, (same_new hdd) _ _ hp, TG.cl, TG.nD, (by show 3 < 1000; decide), ?_⟩⟩
    rw [put_deeds]
    have ndp : dd ≠ p := fun e => by
      rw [e, hp] at hdd
      cases hdd
    have all : ∀ b o, b ≠ p → H b = some o → upd (upd H dd (.lst [])) p (.ins D dx (gf r.pl r.td dd)) b = some o := fun b o n e => by
      rw [upd_ne n, upd_ne (ne_of_none e hdd)]
      exact e
    have ntp : r.td ≠ p := fun e => by
      have := hG.told
      rw [e, hp] at this
      cases this
    obtain ⟨dl, d0, hl⟩ := hG.land.ins
    have nlp : p ≠ r.pl := fun e => by
      rw [← e, hp] at hl
      have e3 : gf r.pl r.td r.dd = _ := (HO.ins.inj (Option.some.inj hl)).2.2
      have h1 := gf_land r.pl r.td r.dd
      rw [e3, lf_no _ _ (by decide +kernel) (by decide +kernel)] at h1
      cases h1
    refine q dd _ hdd all ⟨⟨dx, upd_same⟩, land_but hG.land hp nlp all, all _ _ ntp hG.told, ?_, ?_, ?_⟩
    · exact hG.tels.keep fun b xs e => all b _ (fun z => by rw [z, hp] at e; cases e) e
    · rw [upd_ne ndp, upd_same]
    · exact fun e => by
        have := hG.told
        rw [show r.td = dd from e, hdd] at this
        cases this
end
end Wl



namespace Wl
open PySem PySem.Spec PyProof.Rows L2
abbrev sCheckG : Stmt := topS 42
section
variable {P : Program} {w : World} {K : PySem.W.Frag} {mg : Str → Option Value} {base : Heap} {f C D : Addr} {fd : FuncData}
/-! ### tellings, as put in -/
/-! ### check_gathering -/
def spCheckG (C D : Addr) : Sp := fun vs H Q _ => ∃ (p : Addr) (r : GR), vs = [.ref p] ∧ GatAt C D H p r ∧ Q .non H
theorem scCheckG : FnScope ["thing"] ["thing"] (defScope sCheckG) := ⟨rfl, rfl, rfl, by decide +kernel, rfl, by decide +kernel, by decide +kernel⟩
theorem ok_checkg (F : Fun K "check_gathering" "check_gathering" sCheckG f fd) (B : Bi mg) (TG : TxtG K mg D) (ins : C8.InsC K D) : FnOk P w K mg base CX0 1 f fd ["thing"] (spCheckG C D) := by
  refine F.ok scCheckG (fun vs H Q E h => ?_) (fun cdv A outer s H vs Q E hr h => ?_)
  · obtain ⟨p, r, rfl, _⟩ := h
    rfl
  · obtain ⟨p, r, rfl, hG, q⟩ := h
    refine ⟨_, pss_one (ps_if (pt_not (pt_val (pe_callB (C8.call_isC (C := D) ins) (by rfl) B.isi (by decide +kernel) (pa_cons (pv 0) (pa_cons (pe_glob (v := .ref D) rfl TG.mgD rfl) pa_nil))))) (pss_one ps_never) pss_nil), ?_⟩
    obtain ⟨dx, hp⟩ := hG.at_
    exact ⟨_, rfl, p, dx, _, rfl, hp, true, rfl, iteF q⟩
/-! ### summed_up -/
end
end Wl




/-! a Gathering read from its text. -/
namespace Wl
open PySem PySem.Spec PyProof.Rows L2
abbrev sShowG : Stmt := topS 51
abbrev sRead : Stmt := topS 54
/-! ### the rows of a gathering's text -/
theorem joinL_app {S : List Nat} : ∀ {ps qs : List (List Nat)}, ps ≠ [] → TL.joinL S (TL.joinL S ps :: qs) = TL.joinL S (ps ++ qs)
  | [], _, h => absurd rfl h
  | [p], qs, _ => rfl
  | p :: q :: r, [], _ => by rw [List.append_nil]; rfl
  | p :: q :: r, x :: xs, _ => by
    have ih := joinL_app (S := S) (ps := q :: r) (qs := x :: xs) (by simp)
    show p ++ (S ++ TL.joinL S (q :: r)) ++ (S ++ TL.joinL S (x :: xs)) = p ++ (S ++ TL.joinL S (q :: (r ++ (x :: xs))))
    have e : TL.joinL S (TL.joinL S (q :: r) :: x :: xs) = TL.joinL S (q :: r) ++ (S ++ TL.joinL S (x :: xs)) := rfl
    rw [e] at ih
    have ih : TL.joinL S (q :: r) ++ (S ++ TL.joinL S (x :: xs)) = TL.joinL S (q :: (r ++ (x :: xs))) := ih
    rw [← ih]
    simp only [List.append_assoc]
def rowsG (g : Grid) (ts : List Tel) : List Str := g.map lineS ++ (("." : Str) :: ts.map rowS)
theorem gat_join {g : Grid} {ts : List Tel} (ne : g ≠ []) : gatS g ts = Txt.join ("\n" : Str) (rowsG g ts) := by
  refine TL.ext_tl ?_
  unfold gatS rowsG
  rw [TL.join_eq, TL.tl_join, TL.join_eq, TL.tl_join, tl_end, List.map_append, List.map_append]
  have e : TL.tl (landS g) = TL.joinL [10] ((g.map lineS).map TL.tl) := by
    unfold landS
    rw [TL.join_eq, TL.tl_join, tl_end]
  show TL.joinL [10] (TL.tl (landS g) :: TL.tl ("." : Str) :: (ts.map rowS).map TL.tl) = _
  rw [e, joinL_app (fun z => ne (List.map_eq_nil_iff.mp (List.map_eq_nil_iff.mp z)))]
  rfl
theorem row_no {t : Tel} (h : OkT t) : 10 ∉ TL.tl (rowS t) := fun hc => by
  have key : ∀ l : List Str, (∀ z ∈ l, 10 ∉ TL.tl z) → 10 ∈ TL.tl (Txt.join (" " : Str) l) → False := fun l hl hc => by
    rw [TL.join_eq, TL.tl_join, tl_blank] at hc
    rcases join_mem hc with hc | ⟨p, hp, hc⟩
    · exact absurd (List.mem_singleton.mp hc) (by decide)
    · obtain ⟨z, hz, rfl⟩ := List.mem_map.mp hp
      exact hl z hz hc
  have no : ∀ z ∈ partsS t ++ [("?" : Str)], 10 ∉ TL.tl z := fun z hz hc => by
    have wd : ∀ {y : Str}, IsWd y → 10 ∈ TL.tl y → False := fun hy hc => by
      have := (wd_tl hy).2 10 hc
      omega
    unfold partsS at hz
    simp only [List.cons_append, List.nil_append, List.mem_cons, List.not_mem_nil, or_false] at hz
    rcases hz with rfl | rfl | rfl | rfl | rfl | rfl | rfl
    · exact wd h.v hc
    · exact wd h.th hc
    · exact wd h.wo hc
    · exact wd h.tl hc
    · have := List.all_eq_true.mp (age_facts h.age).1.1 10 hc
      exact absurd this (by decide +kernel)
    · exact wd h.g hc
    · exact absurd hc (by decide +kernel)
  unfold rowS at hc
  split at hc
  · exact key _ (fun z hz => no z (List.mem_append_left _ hz)) hc
  · exact key _ no hc
theorem line_fine {row : Row} (h : ∀ o ∈ row, OkP o) {c : Nat} (hc : c ∈ TL.tl (lineS row)) : c = 32 ∨ c = 45 ∨ 97 ≤ c := by
  rw [line_tl] at hc
  rcases join_mem hc with hc | ⟨p, hp, hc⟩
  · exact .inl (List.mem_singleton.mp hc)
  · obtain ⟨o, ho, rfl⟩ := List.mem_map.mp hp
    cases o with
    | none =>
      have hc : c ∈ TL.tl ("-" : Str) := hc
      rw [tl_dash] at hc
      exact .inr (.inl (List.mem_singleton.mp hc))
    | some z => exact .inr (.inr ((wd_tl (h _ ho z rfl)).2 c hc).1)
theorem line_dot {row : Row} (h : ∀ o ∈ row, OkP o) : lineS row ≠ "." := fun e => by
  have := line_fine h (c := 46) (by rw [e]; decide +kernel)
  omega
theorem gat_split {g : Grid} {wd : Nat} {ts : List Tel} (gd : Good g wd) (ok : ∀ t ∈ ts, OkT t) : Txt.split (gatS g ts) ("\n" : Str) = rowsG g ts := by
  rw [gat_join gd.nn]
  refine TL.split_join tl_end (by decide +kernel) (fun e => ?_) fun p hp hc => ?_
  · unfold rowsG at e
    simp at e
  · unfold rowsG at hp
    rcases List.mem_append.mp hp with hp | hp
    · obtain ⟨r, hr, rfl⟩ := List.mem_map.mp hp
      have := line_codes (gd.parts r hr) hc
      omega
    · rcases List.mem_cons.mp hp with rfl | hp
      · exact absurd hc (by decide +kernel)
      · obtain ⟨t, ht, rfl⟩ := List.mem_map.mp hp
        exact row_no (ok t ht) hc
theorem rows_dot {g : Grid} {wd : Nat} (gd : Good g wd) {m : Nat} {z : Str} (hm : m < g.length) (h : (g.map lineS)[m]? = some z) : z ≠ "." := by
  obtain ⟨r, hr, rfl⟩ := List.mem_map.mp (List.mem_of_getElem? h)
  exact line_dot (gd.parts r hr)
theorem len_join {l : List Str} {m : Nat} (h : ∀ z ∈ l, z.length ≤ m) : (Txt.join ("\n" : Str) l).length ≤ l.length * (m + 1) := by
  rw [TL.len_tl, TL.join_eq, TL.tl_join, tl_end]
  have := join_size (S := [10]) (m := m) (ps := l.map TL.tl) fun p hp => by
    obtain ⟨z, hz, rfl⟩ := List.mem_map.mp hp
    rw [← TL.len_tl]
    exact h z hz
  rw [List.length_map] at this
  exact this
theorem gat_small {g : Grid} {wd : Nat} {ts : List Tel} (gd : Good g wd) (ok : ∀ t ∈ ts, OkT t) (h : ts.length ≤ 200) : (gatS g ts).length ≤ 100000 := by
  rw [gat_join gd.nn]
  have := len_join (l := rowsG g ts) (m := 63) fun z hz => by
    unfold rowsG at hz
    rcases List.mem_append.mp hz with hz | hz
    · obtain ⟨r, hr, rfl⟩ := List.mem_map.mp hz
      have := line_len (gd.parts r hr) (gd.six r hr)
      omega
    · rcases List.mem_cons.mp hz with rfl | hz
      · decide +kernel
      · obtain ⟨t, ht, rfl⟩ := List.mem_map.mp hz
        exact row_len (ok t ht)
  have e : (rowsG g ts).length = g.length + (ts.length + 1) := by
    unfold rowsG
    rw [List.length_append, List.length_map, List.length_cons, List.length_map]
  have h6 := gd.h6
  rw [e] at this
  have h2 : (g.length + (ts.length + 1)) * (63 + 1) ≤ 207 * 64 := Nat.mul_le_mul_right _ (by omega)
  omega
section
variable {P : Program} {w : World} {K : PySem.W.Frag} {mg : Str → Option Value} {base : Heap} {f C D : Addr} {fd : FuncData}
def spTextRowsB : Sp := fun vs H Q _ => ∃ (z : Str), vs = [.str z] ∧ z.length ≤ 100000 ∧ ∀ (L : Addr), H L = none → Q (.ref L) (upd H L (.lst ((Txt.split z ("\n" : Str)).map V.str)))
theorem ok_textrowsB (F : Fun K "text_rows" "text_rows" sTextRows f fd) (B : Bi mg) : FnOk P w K mg base CX0 1 f fd ["text"] spTextRowsB := by
  refine F.ok scTextRows (fun vs H Q E h => ?_) (fun cdv A outer s H vs Q E hr h => ?_)
  · obtain ⟨z, rfl, _⟩ := h
    rfl
  · obtain ⟨z, rfl, hz, q⟩ := h
    refine ⟨_, pss_cons (ps_if (pt_not (pt_val (pe_callB call_isi (by rfl) B.isi (by decide +kernel) (pa_cons (pv 0) (pa_cons (pe_bltn (v := .ty "str") (by rfl) B.str (by decide +kernel) rfl) pa_nil))))) (pss_one ps_never) pss_nil) (pss_one (ps_ret (pe_split (pv 0) pe_str))), ?_⟩
    refine ⟨_, rfl, _, _, _, _, _, rfl, .ty "str", .base (.str z), kit_ty (r := true) (by decide +kernel), true, rfl, iteF ?_⟩
    exact ⟨_, rfl, ⟨_, rfl⟩, z, _, rfl, rfl, by decide +kernel, by rw [sizeLine_eq]; omega, fun L hL => q L hL⟩
/-! ### shown -/
def spShowG (C D : Addr) : Sp := fun vs H Q _ => ∃ (p : Addr) (r : GR) (wd : Nat), vs = [.ref p] ∧ GatAt C D H p r ∧ Good r.g wd ∧ r.ts.length ≤ 200 ∧ (∀ t ∈ r.ts, OkT t) ∧ ∀ (H' : Hp), Same H H' → Q (.str (gatS r.g r.ts)) H'
theorem scShowG : FnScope ["gathering"] ["gathering"] (defScope sShowG) := ⟨rfl, rfl, rfl, by decide +kernel, rfl, by decide +kernel, by decide +kernel⟩
theorem ok_showg (F : Fun K "show_gathering" "show_gathering" sShowG f fd) (B : Bi mg) (hC : Has P w K mg base "check_gathering" 1 ["thing"] (spCheckG C D)) (hS : HasM P w K mg base D "__str__" 4 ["self"] (spGStr C D)) : FnOk P w K mg base CX0 7 f fd ["gathering"] (spShowG C D) := by
  obtain ⟨fS, fdS, FS, mS, bS⟩ := hS
  refine F.ok scShowG (fun vs H Q E h => ?_) (fun cdv A outer s H vs Q E hr h => ?_)
  · obtain ⟨p, r, wd, rfl, _⟩ := h
    rfl
  · obtain ⟨p, r, wd, rfl, hG, gd, h200, hok, q⟩ := h
    refine ⟨_, pss_cons (ps_expr (pe_h hC hr (pa_cons (pv 0) pa_nil))) (pss_one (ps_ret (pe_callTy (cr_strO FS bS mS (hr.mono (by decide))) (by rfl) B.str (by decide +kernel) (pa_cons (pv 0) pa_nil)))), ?_⟩
    obtain ⟨dx, hp⟩ := hG.at_
    exact ⟨_, rfl, p, r, rfl, hG, _, rfl, p, dx, _, rfl, hp, p, r, wd, rfl, hG, gd, h200, hok, fun H' s' => ⟨_, rfl, q H' s'⟩⟩
/-! ### read -/
def spRead (C D : Addr) : Sp := fun vs H Q _ => ∃ (g : Grid) (wd : Nat) (ts : List Tel), vs = [.str (gatS g ts)] ∧ Good g wd ∧ (∀ t ∈ ts, OkT t) ∧ (∀ t ∈ ts, t.v ∈ names g) ∧ (ts.map keyS).Nodup ∧ ts.length ≤ 200 ∧
  ∀ (p : Addr) (r : GR) (H' : Hp), H p = none → H r.td = none → H r.dd = none → H r.pl = none → Same H H' → GatAt C D H' p r → r.g = g → r.ts = ts → r.ds = [] → Q (.ref p) H'
abbrev nRead : List Str := ["text", "rows", "dot", "gathering", "at"]
theorem scRead : FnScope nRead ["text"] (defScope sRead) := ⟨rfl, rfl, rfl, by decide +kernel, rfl, by decide +kernel, by decide +kernel⟩
theorem ok_read (F : Fun K "read_gathering" "read_gathering" sRead f fd) (B : Bi mg) (B2 : Bg mg) (TG : TxtG K mg D) (hT : Has P w K mg base "text_rows" 1 ["text"] spTextRowsB) (hO : Has P w K mg base "land_of_rows" 6 ["rows"] (spLandOf C)) (hGi : HasG P w K mg base C D) (hPr : Has P w K mg base "put_row" 5 ["gathering", "row", "at"] (spPutRow C D)) (hSe : HasM P w K mg base D "settle" 1 ["self"] (spSettle C D)) :
    FnOk P w K mg base CX0 7 f fd ["text"] (spRead C D) := by
  obtain ⟨td, gdot⟩ := B2.dot
  obtain ⟨fG, fdG, MG, GG, bG⟩ := hGi
  refine F.ok scRead (fun vs H Q E h => ?_) (fun cdv A outer s H vs Q E hr h => ?_)
  · obtain ⟨g, wd, ts, rfl, _⟩ := h
    rfl
  · obtain ⟨g, wd, ts, rfl, gd, hok, hv, hnd, h200, q⟩ := h
    refine ⟨_, pss_cons (ps_set (i := 1) scRead.nd rfl (.inl rfl) (pe_h hT hr (pa_cons (pv 0) pa_nil)))
      (pss_cons (ps_if (pt_cmpR op_notIn_seq (pe_glob (v := .str ".") rfl gdot ⟨_, rfl⟩) (pv 1) (by rfl)) pss_never pss_nil)
      (pss_cons (ps_set (i := 2) scRead.nd rfl (.inl rfl) (pe_bm PySem.F.plainAttrs_list PySem.F.slot_list_index PySem.F.type_list_index mt_index (pv 1) (pa_cons (pe_glob (v := .str ".") rfl gdot ⟨_, rfl⟩) pa_nil)))
      (pss_cons (ps_set (i := 3) scRead.nd rfl (.inl rfl) (pe_make MG GG (hr.mono (by decide)) rfl TG.mgD bG .nil pass0 (pa_cons (pe_h hO hr (pa_cons (pe_slice sl_list (pv 1) po_none (po_some (pv 2))) pa_nil)) pa_nil)))
      (pss_cons (ps_for PassesOwn.never rfl (pi_range2 rfl B.range (pa_cons (pe_op op_add (pv 2) pe_int) (pa_cons (pe_callB call_len_seq (by rfl) B.len PySem.boot_len (pa_cons (pv 1) pa_nil)) pa_nil))) (pg_name (i := 4) scRead.nd rfl (.inl rfl))
        (pss_one (ps_expr (pe_h hPr hr (pa_cons (pv 3) (pa_cons (pe_ix ix_list (pv 1) (pv 4) (fun _ _ => rfl)) (pa_cons (pv 4) pa_nil)))))))
      (pss_cons (ps_expr (pe_hm0 hSe TG.cl hr (pv 3)))
      (pss_one (ps_ret (pv 3)))))))), ?_⟩
    have lR : (rowsG g ts).length = g.length + (ts.length + 1) := by
      unfold rowsG
      rw [List.length_append, List.length_map, List.length_cons, List.length_map]
    have h6 := gd.h6
    refine ⟨_, rfl, gatS g ts, rfl, gat_small gd hok h200, fun L hL => ?_⟩
    rw [gat_split gd hok]
    have s1 := same_new (o := .lst ((rowsG g ts).map V.str)) hL
    have hL1 : upd H L (.lst ((rowsG g ts).map V.str)) L = some (.lst ((rowsG g ts).map V.str)) := upd_same
    generalize upd H L (.lst ((rowsG g ts).map V.str)) = H1 at s1 hL1
    have fl : ((rowsG g ts).map V.str).all flatV = true := by
      rw [List.all_map]
      exact List.all_eq_true.mpr fun _ _ => rfl
    have hdot : ((rowsG g ts).map V.str)[g.length]? = some (.str ".") := by
      unfold rowsG
      rw [List.map_append, List.getElem?_append_right (by rw [List.length_map, List.length_map]; exact Nat.le_refl _), List.length_map, List.length_map, Nat.sub_self]
      rfl
    have hin : inV (.str ".") ((rowsG g ts).map V.str) = true := List.any_eq_true.mpr ⟨_, List.mem_of_getElem? hdot, rfl⟩
    refine ⟨_, rfl, L, _, rfl, .inl (.inl (.inl hL1)), rfl, fl, ?_⟩
    rw [hin]
    refine ⟨_, rfl, iteF ?_⟩
    refine ⟨_, rfl, .inl ⟨rfl, _, .inl (.inl hL1)⟩, L, _, .str ".", g.length, .str ".", rfl, rfl, .inl (.inl hL1), rfl, fl, hdot, rfl, fun m z' hm hz => ?_, ?_⟩
    · have e : ((g.map lineS).map V.str)[m]? = some z' := by
        unfold rowsG at hz
        rw [List.map_append, List.getElem?_append_left (by rw [List.length_map, List.length_map]; exact hm)] at hz
        exact hz
      rw [List.getElem?_map] at e
      obtain ⟨z, hz2, rfl⟩ := Option.map_eq_some_iff.mp e
      show (z == ".") = false
      rw [beq_eq_false_iff_ne]
      exact rows_dot gd hm hz2
    -- the land, a new Gathering
    refine ⟨_, rfl, _, rfl, _, rfl, L, _, rfl, .inl (.inl hL1), fun A hA => ?_⟩
    have ecut : cutV ((rowsG g ts).map V.str) none (some ((g.length : Nat) : Int)) = (g.map lineS).map V.str := by
      rw [cut_to]
      unfold rowsG
      rw [List.map_append, List.take_left' (by rw [List.length_map, List.length_map])]
    rw [ecut]
    have s2 := same_new (o := .lst ((g.map lineS).map V.str)) hA
    have hA2 : upd H1 A (.lst ((g.map lineS).map V.str)) A = some (.lst ((g.map lineS).map V.str)) := upd_same
    generalize upd H1 A (.lst ((g.map lineS).map V.str)) = H2 at s2 hA2
    refine ⟨A, g, wd, rfl, hA2, gd, fun pl M H3 npl s3 hLA => ?_⟩
    have s13 := s1.trans (s2.trans s3)
    intro p dp np ndp nep
    have s4 : Same H3 (upd (upd H3 dp (.own p)) p (.ins D dp [])) := fun b o e => by
      rw [upd_ne (ne_of_none e np), upd_ne (ne_of_none e ndp)]
      exact e
    have npp : p ≠ pl := fun e => by
      obtain ⟨_, _, h1⟩ := hLA.ins
      rw [← e, np] at h1
      cases h1
    refine ⟨p, dp, pl, M, g, rfl, upd_same, hLA.same s4, npp, fun td dd H5 htd hdd k5 hG5 => ⟨rfl, ?_⟩⟩
    have s35 : Same H3 H5 := fun b o e => k5 b o (ne_of_none e np) (s4 b o e)
    have hL5 := (s2.trans (s3.trans s35)) _ _ hL1
    have s05 : Same H H5 := s13.trans s35
    have ntd : H td = none := (s13.trans s4).free htd
    have ndd : H dd = none := (s13.trans s4).free hdd
    have np0 : H p = none := s13.free np
    have npl0 : H pl = none := (s1.trans s2).free npl
    refine ⟨_, rfl, _, _, rfl, rfl, _, rfl, L, _, rfl, .inl (.inl (.inl hL5)), _, _, rfl, ?_, ?_⟩
    · rw [List.length_map, lR]
      refine ⟨by omega, by omega, by omega, by omega⟩
    rw [List.length_map, lR]
    have en : (((g.length + (ts.length + 1) : Nat) : Int) - ((g.length : Int) + 1)).toNat = ts.length := by omega
    rw [en]
    have nLp : L ≠ p := ne_of_none ((s2.trans s3) _ _ hL1) np
    have nLt : L ≠ td := ne_of_none (s4 _ _ ((s2.trans s3) _ _ hL1)) htd
    have nLd : L ≠ dd := ne_of_none (s4 _ _ ((s2.trans s3) _ _ hL1)) hdd
    refine for_range (lo := (g.length : Int) + 1) (n := ts.length) (fun i σ H' => ∃ (r : GR) (y4 : Option V), σ = [some (.str (gatS g ts)), some (.ref L), some (.int (g.length : Int)), some (.ref p), y4] ∧ GatAt C D H' p r ∧ r.g = g ∧ r.ts = ts.take i ∧ r.ds.length = i ∧ r.td = td ∧ r.dd = dd ∧ r.pl = pl ∧ Same H H' ∧ H' L = some (.lst ((rowsG g ts).map V.str)))
      ⟨_, _, rfl, hG5, rfl, rfl, rfl, rfl, rfl, rfl, s05, hL5⟩ ?_ ?_
    · rintro i σ H6 hi ⟨r, y4, rfl, hG6, rg, rts, rds, rtd, rdd, rpl, s6, hL6⟩
      obtain ⟨at_, hat⟩ : ∃ n : Int, (g.length : Int) + 1 + (i : Int) = n := ⟨_, rfl⟩
      rw [hat]
      have ht : ts[i]? = some ts[i] := List.getElem?_eq_getElem hi
      generalize ts[i] = t at ht
      have htm := List.mem_of_getElem? ht
      have hrow : atI ((rowsG g ts).map V.str) at_ = some (.str (rowS t)) := by
        rw [← hat, show (g.length : Int) + 1 + (i : Int) = ((g.length + (1 + i) : Nat) : Int) by omega]
        refine atI_nat ?_
        unfold rowsG
        rw [List.map_append, List.getElem?_append_right (by rw [List.length_map, List.length_map]; omega), List.length_map, List.length_map, show g.length + (1 + i) - g.length = i + 1 by omega]
        show ((ts.map rowS).map V.str)[i]? = _
        rw [List.getElem?_map, List.getElem?_map, ht]
        rfl
      have enx : ts.take (i + 1) = ts.take i ++ [t] := by rw [List.take_add_one, ht]; rfl
      have hnew : keyS t ∉ (ts.take i).map keyS := fun hm => by
        have e : (ts.take (i + 1)).map keyS = (ts.take i).map keyS ++ [keyS t] := by rw [enx, List.map_append]; rfl
        have h1 : ((ts.take (i + 1)).map keyS).Nodup := hnd.sublist ((List.take_sublist _ _).map _)
        rw [e, List.nodup_append] at h1
        exact h1.2.2 _ hm _ List.mem_cons_self rfl
      have lt : (ts.take i).length ≤ i := List.length_take_le _ _
      refine ⟨_, rfl, _, rfl, _, rfl, L, _, _, _, rfl, rfl, .inl (.inl hL6), hrow, _, rfl, p, r, wd, t, _, rfl, hG6, by rw [rg]; exact gd, fun u hu => ?_, hok t htm, by rw [rg]; exact hv t htm, by rw [rts]; exact hnew, by rw [rts]; omega, by omega, fun q' H7 hq' m7 hG7 => ?_⟩
      · rw [rts] at hu
        exact hok u (List.mem_of_mem_take hu)
      · refine ⟨_, _, rfl, hG7, rg, ?_, ?_, rtd, rdd, rpl, fun b o e => ?_, ?_⟩
        · show r.ts ++ [t] = _
          rw [rts, enx]
        · show (r.ds ++ [V.non]).length = _
          rw [List.length_append, rds]
          rfl
        · exact m7 b o (by rw [rtd]; exact ne_of_none e ntd) (by rw [rdd]; exact ne_of_none e ndd) (s6 b o e)
        · exact m7 L _ (by rw [rtd]; exact nLt) (by rw [rdd]; exact nLd) hL6
    · rintro σ H6 ⟨r, y4, rfl, hG6, rg, rts, rds, rtd, rdd, rpl, s6, hL6⟩
      rw [List.take_length] at rts
      obtain ⟨dx, hp⟩ := hG6.at_
      refine ⟨_, rfl, p, dx, _, rfl, hp, gf_no _ _ _, p, r, rfl, hG6, fun d2 H7 hd2 k7 hG7 => ⟨_, rfl, ?_⟩⟩
      exact q p _ H7 np0 (by show H r.td = none; rw [rtd]; exact ntd) (s6.free hd2) (by show H r.pl = none; rw [rpl]; exact npl0) (fun b o e => k7 b o (ne_of_none e np0) (s6 b o e)) hG7 rg rts rfl
end
end Wl

/-! the law's tellings. -/
namespace Wl
open PySem PySem.Spec PyProof.Rows L2
abbrev sToldRow : Stmt := topS 64
abbrev sToldRows : Stmt := topS 65
/-- the same state, said slot by slot -/
theorem st_nm {A B : TS} {D : Ends} {σ σ' : L2.St} {H : Hp} (e : σ = σ') (h : tSeq A B D σ' H) : tSeq A B D σ H := by
  rw [e]
  exact h
section
variable {P : Program} {w : World} {K : PySem.W.Frag} {mg : Str → Option Value} {base : Heap} {f C D : Addr} {fd : FuncData}
def spToldRow : Sp := fun vs H Q _ => ∃ (a Tw Kn : Addr) (ws : List Str) (ks : List Addr) (ts : List Tel), vs = [.ref a, .ref Tw, .ref Kn] ∧ PurseAt H a ∧ H Tw = some (.lst (ws.map V.str)) ∧ Tw ≠ a ∧ ws ≠ [] ∧ ws.length ≤ 36 ∧ (∀ z ∈ ws, IsWd z) ∧ H Kn = some (.lst (ks.map V.ref)) ∧ Kn ≠ a ∧ KeysAt H ks ts ∧ (∀ t ∈ ts, OkT t) ∧ ts.length ≤ 60 ∧
  (∀ H', PurseAt H' a → SameX a H H' → Q .non H') ∧ ∀ (p : Addr) (t : Tel) (H' : Hp), PurseAt H' a → SameX a H H' → H p = none → H' p = some (.tup (telV t)) → OkT t → t.v ∈ ws → keyS t ∉ ts.map keyS → Q (.ref p) H'
abbrev psToldRow : List Str := ["_law_purse_here", "_law_names_here", "_law_known"]
abbrev nToldRow : List Str := ["_law_purse_here", "_law_names_here", "_law_known", "_law_home", "_law_menu_here", "_law_speaker", "_law_writer", "_law_matter", "_law_years"]
theorem scToldRow : FnScope nToldRow psToldRow (defScope sToldRow) := ⟨rfl, rfl, rfl, by decide +kernel, rfl, by decide +kernel, by decide +kernel⟩
theorem ok_toldrow (F : Fun K "_law_told_row" "_law_told_row" sToldRow f fd) (B : Bi mg) (hp : Has P w K mg base "_law_pick" 1 ["_law_purse_here", "_law_many"] spPick) (hW : Has P w K mg base "_law_word" 2 ["_law_purse_here"] spWord) : FnOk P w K mg base CX0 3 f fd psToldRow spToldRow := by
  refine F.ok scToldRow (fun vs H Q E h => ?_) (fun cdv A outer s H vs Q E hr h => ?_)
  · obtain ⟨a, Tw, Kn, ws, ks, ts, rfl, _⟩ := h
    rfl
  · obtain ⟨a, Tw, Kn, ws, ks, ts, rfl, hA, hTw, nTw, hne, h36, hwd, hKn, nKn, hks, hok, h60, q0, q⟩ := h
    have hu65 : (A.deeper (envOfC "_law_told_row" (defScope sToldRow) s.heap.objs.size f cdv)).units + 65 < cLine := by have := hr.un; omega
    refine ⟨_, pss_cons (ps_set (i := 3) scToldRow.nd rfl (.inl rfl) (pe_ix ix_list (pv 1) (pe_h hp hr (pa_cons (pv 0) (pa_cons (pe_callB call_len_seq (by rfl) B.len PySem.boot_len (pa_cons (pv 1) pa_nil)) pa_nil))) (fun _ _ => rfl)))
      (pss_cons (ps_set (i := 4) scToldRow.nd rfl (.inl rfl) (pe_lst (pa_cons pe_str (pa_cons pe_str (pa_cons pe_str (pa_cons pe_str (pa_cons (pe_h hW hr (pa_cons (pv 0) pa_nil)) pa_nil)))))))
      (pss_cons (ps_par (i := 5) (j := 6) (by rfl) scToldRow.nd rfl rfl (by decide) rfl rfl (pa_cons (pe_ix ix_list (pv 4) (pe_h hp hr (pa_cons (pv 0) (pa_cons pe_int pa_nil))) (fun _ _ => rfl)) (pa_cons (pe_ix ix_list (pe_lst (pa_cons (pe_ix ix_list (pv 4) pe_int (fun _ _ => rfl)) (pa_cons pe_str (pa_cons (pe_ix ix_list (pv 4) pe_int (fun _ _ => rfl)) (pa_cons (pe_ix ix_list (pv 4) pe_int (fun _ _ => rfl)) pa_nil))))) (pe_h hp hr (pa_cons (pv 0) (pa_cons pe_int pa_nil))) (fun _ _ => rfl)) pa_nil)) (by rfl))
      (pss_cons (ps_set (i := 7) scToldRow.nd rfl (.inl rfl) (pe_ix ix_list (pe_lst (pa_cons pe_str (pa_cons pe_str (pa_cons pe_str (pa_cons pe_str (pa_cons (pe_ix ix_list (pv 4) pe_int (fun _ _ => rfl)) pa_nil)))))) (pe_h hp hr (pa_cons (pv 0) (pa_cons pe_int pa_nil))) (fun _ _ => rfl)))
      (pss_cons (ps_set (i := 8) scToldRow.nd rfl (.inl rfl) (pe_ix ix_list (pe_lst (pa_cons pe_int (pa_cons pe_int (pa_cons (pe_h hp hr (pa_cons (pv 0) (pa_cons pe_int pa_nil))) pa_nil)))) (pe_h hp hr (pa_cons (pv 0) (pa_cons pe_int pa_nil))) (fun _ _ => rfl)))
      (pss_cons (ps_if (pt_cmpR (op_inD hu65) (pe_tup (pa_cons (pv 3) (pa_cons (pv 5) (pa_cons (pv 7) (pa_cons (pv 6) pa_nil))))) (pv 2) (by rfl)) (pss_one (ps_ret pe_non)) pss_nil)
      (pss_one (ps_ret (pe_tup (pa_cons (pv 3) (pa_cons (pv 7) (pa_cons (pe_h hW hr (pa_cons (pv 0) pa_nil)) (pa_cons (pv 5) (pa_cons (pv 8) (pa_cons (pv 6) (pa_cons (pe_cmpR op_gt (pe_h hp hr (pa_cons (pv 0) (pa_cons pe_int pa_nil))) pe_int (nomark _)) pa_nil))))))))))))))), ?_⟩
    have lpos : 0 < ws.length := List.length_pos_iff.mpr hne
    refine ⟨_, rfl, _, rfl, _, rfl, Tw, _, rfl, .inl (.inl (.inl hTw)), a, _, rfl, hA, by rw [List.length_map]; omega, by rw [List.length_map]; omega, fun r1 H1 r10 r11 hA1 x1 _ => ?_⟩
    rw [List.length_map] at r11
    obtain ⟨zv, hzv, hiv⟩ := atI_strs (zs := ws) r10 r11
    refine ⟨Tw, _, r1, .str zv, rfl, rfl, .inl (.inl (x1 _ _ nTw hTw)), hiv, ?_⟩
    -- the menu
    refine ⟨_, rfl, a, rfl, hA1, fun zw H2 hzw hA2 x2 => ⟨lz, fun S hS => ?_⟩⟩
    have x02 := x1.trans x2
    have s3 := same_new (o := .lst [V.str "ann", V.str "bo", V.str "self", V.str "put", V.str zw]) hS
    have hS3 : upd H2 S (.lst [V.str "ann", V.str "bo", V.str "self", V.str "put", V.str zw]) S = some (.lst ((["ann", "bo", "self", "put", zw] : List Str).map V.str)) := upd_same
    have hA3 := hA2.same s3
    have nSa : S ≠ a := hA2.ne hS
    have x03 := x02.trans (sx s3)
    have mwd : ∀ z ∈ (["ann", "bo", "self", "put", zw] : List Str), IsWd z := fun z hz => by
      simp only [List.mem_cons, List.not_mem_nil, or_false] at hz
      rcases hz with rfl | rfl | rfl | rfl | rfl
      all_goals first | exact hzw | decide +kernel
    show tSeq _ _ _ _ (upd H2 S (.lst [V.str "ann", V.str "bo", V.str "self", V.str "put", V.str zw]))
    generalize upd H2 S (.lst [V.str "ann", V.str "bo", V.str "self", V.str "put", V.str zw]) = H3 at s3 hS3 hA3 x03
    refine st_nm (σ' := [some (.ref a), some (.ref Tw), some (.ref Kn), some (.str zv), some (.ref S), none, none, none, none]) rfl ?_
    refine ⟨_, rfl, _, rfl, a, 5, rfl, hA3, by decide, by decide, fun r4 H4 r40 r41 hA4 x4 _ => ?_⟩
    obtain ⟨zs, hzs, his⟩ := atI_strs (zs := (["ann", "bo", "self", "put", zw] : List Str)) r40 r41
    have hS4 := x4 _ _ nSa hS3
    refine ⟨S, _, r4, .str zs, rfl, rfl, .inl (.inl hS4), his, ?_⟩
    refine ⟨_, rfl, S, _, 1, _, rfl, rfl, .inl (.inl hS4), atI_nat (j := 1) rfl, _, rfl, S, _, 2, _, rfl, rfl, .inl (.inl hS4), atI_nat (j := 2) rfl, _, rfl, S, _, 4, _, rfl, rfl, .inl (.inl hS4), atI_nat (j := 4) rfl, lz, fun l5 hl5 => ?_⟩
    have s5 := same_new (o := .lst [V.str "bo", V.str "self", V.str "self", V.str zw]) hl5
    have n5 : l5 ≠ a := hA4.ne hl5
    refine ⟨_, rfl, a, 4, rfl, hA4.same s5, by decide, by decide, fun r6 H6 r60 r61 hA6 x6 _ => ?_⟩
    have hl6 : H6 l5 = some (.lst ((["bo", "self", "self", zw] : List Str).map V.str)) := x6 _ _ n5 upd_same
    obtain ⟨zg, hzg, hig⟩ := atI_strs (zs := (["bo", "self", "self", zw] : List Str)) r60 r61
    refine ⟨l5, _, r6, .str zg, rfl, rfl, .inl (.inl hl6), hig, ?_⟩
    have x06 := x03.trans (x4.trans ((sx s5).trans x6))
    have hS6 := x6 _ _ nSa (s5 _ _ hS4)
    refine ⟨_, _, rfl, ?_⟩
    refine st_nm (σ' := [some (.ref a), some (.ref Tw), some (.ref Kn), some (.str zv), some (.ref S), some (.str zs), some (.str zg), none, none]) rfl ?_
    -- what for
    refine ⟨_, rfl, S, _, 4, _, rfl, rfl, .inl (.inl hS6), atI_nat (j := 4) rfl, lz, fun l7 hl7 => ?_⟩
    have s7 := same_new (o := .lst [V.str "cat", V.str "map", V.str "none", V.str "house", V.str zw]) hl7
    have n7 : l7 ≠ a := hA6.ne hl7
    refine ⟨_, rfl, a, 5, rfl, hA6.same s7, by decide, by decide, fun r8 H8 r80 r81 hA8 x8 _ => ?_⟩
    have hl8 : H8 l7 = some (.lst ((["cat", "map", "none", "house", zw] : List Str).map V.str)) := x8 _ _ n7 upd_same
    obtain ⟨zt, hzt, hit⟩ := atI_strs (zs := (["cat", "map", "none", "house", zw] : List Str)) r80 r81
    refine ⟨l7, _, r8, .str zt, rfl, rfl, .inl (.inl hl8), hit, ?_⟩
    have x08 := x06.trans ((sx s7).trans x8)
    -- how old
    refine ⟨_, rfl, a, 121, rfl, hA8, by decide, by decide, fun r9 H9 r90 r91 hA9 x9 _ => ⟨lz, fun l10 hl10 => ?_⟩⟩
    have s10 := same_new (o := .lst [V.int 0, V.int 120, V.int r9]) hl10
    have n10 : l10 ≠ a := hA9.ne hl10
    refine ⟨_, rfl, a, 3, rfl, hA9.same s10, by decide, by decide, fun ra Ha ra0 ra1 hAa xa _ => ?_⟩
    have hla : Ha l10 = some (.lst (([0, 120, r9] : List Int).map V.int)) := xa _ _ n10 upd_same
    obtain ⟨na, hna, hia⟩ := atI_tab (ns := ([0, 120, r9] : List Int)) ra0 ra1
    have x0a := x08.trans (x9.trans ((sx s10).trans xa))
    obtain ⟨ag, eag, lag⟩ : ∃ ag : Nat, na = (ag : Int) ∧ ag ≤ 120 := by
      refine ⟨na.toNat, ?_, ?_⟩
      all_goals
        simp only [List.mem_cons, List.not_mem_nil, or_false] at hna
        omega
    subst eag
    refine ⟨l10, _, ra, .int (ag : Int), rfl, rfl, .inl (.inl hla), hia, ?_⟩
    refine st_nm (σ' := [some (.ref a), some (.ref Tw), some (.ref Kn), some (.str zv), some (.ref S), some (.str zs), some (.str zg), some (.str zt), some (.int (ag : Int))]) rfl ?_
    have wg : IsWd zg := by
      simp only [List.mem_cons, List.not_mem_nil, or_false] at hzg
      rcases hzg with rfl | rfl | rfl | rfl
      all_goals first | exact hzw | decide +kernel
    have wt : IsWd zt := by
      simp only [List.mem_cons, List.not_mem_nil, or_false] at hzt
      rcases hzt with rfl | rfl | rfl | rfl | rfl
      all_goals first | exact hzw | decide +kernel
    have okk : ∀ (y : Str) (b : Bool), IsWd y → OkT ⟨zv, zt, y, zs, ag, zg, b⟩ := fun y b hy => ⟨hwd _ hzv, wt, hy, mwd _ hzs, lag, wg⟩
    obtain ⟨ysA, hyA⟩ := hA.lst
    refine ⟨_, rfl, _, rfl, _, rfl, _, rfl, lz, fun u hu => ?_⟩
    have su := same_new (o := .tup [V.str zv, V.str zs, V.str zt, V.str zg]) hu
    have hu' : upd Ha u (.tup [V.str zv, V.str zs, V.str zt, V.str zg]) u = some (.tup ((keyS ⟨zv, zt, zv, zs, ag, zg, true⟩).map V.str)) := upd_same
    have hAu := hAa.same su
    have x0u := x0a.trans (sx su)
    generalize upd Ha u (.tup [V.str zv, V.str zs, V.str zt, V.str zg]) = Hu at su hu' hAu x0u
    have okz := okk zv true (hwd _ hzv)
    refine ⟨_, rfl, .tuple ((keyS ⟨zv, zt, zv, zs, ag, zg, true⟩).map .str), ts.map kD, .tup (.inl (.inl hu')) (dp_strs _), .lst (.inl (.inl (x0u _ _ nKn hKn))) (dp_keys (hks.keep (tk_x x0u hyA))), shaped_strs okz.key, shaped_list (lay_keys hok) (by have := depth_keys ts; omega), _, rfl, ?_⟩
    rw [any_keys]
    refine ite_b (fun e => ?_) (fun e => ?_)
    · exact q0 Hu hAu x0u
    · have hnew := of_decide_eq_false e
      refine ⟨_, rfl, _, rfl, _, rfl, a, rfl, hAu, fun zo Hv hzo hAv xv => ?_⟩
      refine ⟨_, rfl, _, rfl, _, rfl, _, rfl, a, 4, rfl, hAv, by decide, by decide, fun rb Hb rb0 rb1 hAb xb _ => ⟨_, _, rfl, rfl, lz, fun p np => ?_⟩⟩
      have x0b := x0u.trans (xv.trans xb)
      have npa : p ≠ a := hAb.ne np
      exact q p ⟨zv, zt, zo, zs, ag, zg, decide (rb > 0)⟩ _ (hAb.same (same_new np)) (x0b.trans (sx (same_new np))) (SameX.free x0b npa np) upd_same (okk zo _ hzo) hzv hnew
end
end Wl

namespace Wl
open PySem PySem.Spec PyProof.Rows L2
structure TelJ (ws : List Str) (H0 H : Hp) (a Fo Ke : Addr) (as ks : List Addr) (ts : List Tel) : Prop where
  pu : PurseAt H a
  sx : SameX a H0 H
  fo : H Fo = some (.lst (as.map V.ref))
  ke : H Ke = some (.lst (ks.map V.ref))
  tels : TelsAt H as ts
  keys : KeysAt H ks ts
  ok : ∀ t ∈ ts, OkT t
  vs : ∀ t ∈ ts, t.v ∈ ws
  nd : (ts.map keyS).Nodup
theorem TelJ.x {ws : List Str} {H0 H H' : Hp} {a Fo Ke : Addr} {as ks : List Addr} {ts : List Tel} (h : TelJ ws H0 H a Fo Ke as ks ts) (hA : PurseAt H' a) (x : SameX a H H') (n2 : Fo ≠ a) (n3 : Ke ≠ a) : TelJ ws H0 H' a Fo Ke as ks ts := by
  obtain ⟨ys, hy⟩ := h.pu.lst
  exact ⟨hA, h.sx.trans x, x _ _ n2 h.fo, x _ _ n3 h.ke, h.tels.keep (tk_x x hy), h.keys.keep (tk_x x hy), h.ok, h.vs, h.nd⟩
section
variable {P : Program} {w : World} {K : PySem.W.Frag} {mg : Str → Option Value} {base : Heap} {f C D : Addr} {fd : FuncData}
def spToldRows : Sp := fun vs H Q _ => ∃ (a Tw : Addr) (n : Nat) (ws : List Str), vs = [.ref a, .ref Tw, .int (n : Int)] ∧ PurseAt H a ∧ H Tw = some (.lst (ws.map V.str)) ∧ Tw ≠ a ∧ ws ≠ [] ∧ ws.length ≤ 36 ∧ (∀ z ∈ ws, IsWd z) ∧ n ≤ 60 ∧
  ∀ (l : Addr) (as : List Addr) (ts : List Tel) (H' : Hp), PurseAt H' a → SameX a H H' → H l = none → H' l = some (.lst (as.map V.ref)) → TelsAt H' as ts → (∀ t ∈ ts, OkT t) → (∀ t ∈ ts, t.v ∈ ws) → (ts.map keyS).Nodup → ts.length ≤ n → Q (.ref l) H'
abbrev psToldRows : List Str := ["_law_purse_here", "_law_names_here", "_law_many"]
abbrev nToldRows : List Str := ["_law_purse_here", "_law_names_here", "_law_many", "_law_found", "_law_known", "_law_k", "_law_row"]
theorem scToldRows : FnScope nToldRows psToldRows (defScope sToldRows) := ⟨rfl, rfl, rfl, by decide +kernel, rfl, by decide +kernel, by decide +kernel⟩
theorem ok_toldrows (F : Fun K "_law_told_rows" "_law_told_rows" sToldRows f fd) (B : Bi mg) (hT : Has P w K mg base "_law_told_row" 3 psToldRow spToldRow) : FnOk P w K mg base CX0 4 f fd psToldRows spToldRows := by
  refine F.ok scToldRows (fun vs H Q E h => ?_) (fun cdv A outer s H vs Q E hr h => ?_)
  · obtain ⟨a, Tw, n, ws, rfl, _⟩ := h
    rfl
  · obtain ⟨a, Tw, n, ws, rfl, hA, hTw, nTw, hne, h36, hwd, h60, q⟩ := h
    refine ⟨_, pss_cons (ps_par (i := 3) (j := 4) (by rfl) scToldRows.nd rfl rfl (by decide) rfl rfl (pa_cons (pe_lst pa_nil) (pa_cons (pe_lst pa_nil) pa_nil)) (by rfl))
      (pss_cons (ps_for PassesOwn.never rfl (pi_range1 rfl B.range (pa_cons (pv 2) pa_nil)) (pg_name (i := 5) scToldRows.nd rfl (.inl rfl))
        (pss_cons (ps_set (i := 6) scToldRows.nd rfl (.inl rfl) (pe_h hT hr (pa_cons (pv 0) (pa_cons (pv 1) (pa_cons (pv 4) pa_nil)))))
        (pss_one (ps_if (pt_cmp (pc_notN (pv 6))) (pss_cons (ps_expr (pe_bm PySem.F.plainAttrs_list PySem.F.slot_list_append PySem.F.type_list_append mt_append (pv 3) (pa_cons (pv 6) pa_nil)))
          (pss_one (ps_expr (pe_bm PySem.F.plainAttrs_list PySem.F.slot_list_append PySem.F.type_list_append mt_append (pv 4) (pa_cons (pe_tup (pa_cons (pe_ix ix_tup (pv 6) pe_int (fun _ _ => rfl)) (pa_cons (pe_ix ix_tup (pv 6) pe_int (fun _ _ => rfl)) (pa_cons (pe_ix ix_tup (pv 6) pe_int (fun _ _ => rfl)) (pa_cons (pe_ix ix_tup (pv 6) pe_int (fun _ _ => rfl)) pa_nil))))) pa_nil))))) pss_nil))))
      (pss_one (ps_ret (pv 3)))), ?_⟩
    refine ⟨lz, fun Fo hFo => ⟨lz, fun Ke hKe => ⟨_, _, rfl, ?_⟩⟩⟩
    have s1 := same_new (o := .lst []) hFo
    have hFo1 : upd H Fo (.lst []) Fo = some (.lst []) := upd_same
    have hA1 := hA.same s1
    have nFa : Fo ≠ a := hA.ne hFo
    have nKa : Ke ≠ a := hA1.ne hKe
    have nKF : Fo ≠ Ke := ne_of_none hFo1 hKe
    have hKe0 : H Ke = none := s1.free hKe
    have s2 := same_new (o := .lst []) hKe
    have hKe2 : upd (upd H Fo (.lst [])) Ke (.lst []) Ke = some (.lst []) := upd_same
    have I0 : TelJ ws H (upd (upd H Fo (.lst [])) Ke (.lst [])) a Fo Ke [] [] [] := ⟨hA1.same s2, (sx s1).trans (sx s2), s2 _ _ hFo1, hKe2, .nil, .nil, fun t ht => (List.not_mem_nil ht).elim, fun t ht => (List.not_mem_nil ht).elim, List.nodup_nil⟩
    refine st_nm (σ' := [some (.ref a), some (.ref Tw), some (.int (n : Int)), some (.ref Fo), some (.ref Ke), none, none]) rfl ?_
    refine ⟨_, rfl, (n : Int), rfl, by omega, by omega, for_range (lo := 0) (n := n) (fun i σ H' => (∃ y5 y6, σ = [some (.ref a), some (.ref Tw), some (.int (n : Int)), some (.ref Fo), some (.ref Ke), y5, y6]) ∧ ∃ as ks ts, TelJ ws H H' a Fo Ke as ks ts ∧ ts.length ≤ i)
      ⟨⟨_, _, rfl⟩, _, _, _, I0, Nat.le_refl 0⟩ ?_ ?_⟩
    · rintro i σ H3 hi ⟨⟨y5, y6, rfl⟩, as, ks, ts, I, hl⟩
      have lks : ks.length = ts.length := I.keys.length
      have las : as.length = ts.length := I.tels.length
      refine ⟨_, rfl, _, rfl, _, rfl, a, Tw, Ke, ws, ks, ts, rfl, I.pu, I.sx _ _ nTw hTw, nTw, hne, h36, hwd, I.ke, nKa, I.keys, I.ok, by omega, fun H4 hA4 x4 => ?_, fun p t H4 hA4 x4 np hp okt hv hnew => ?_⟩
      · exact ⟨_, rfl, _, rfl, iteF ⟨⟨_, _, rfl⟩, as, ks, ts, I.x hA4 x4 nFa nKa, by omega⟩⟩
      · have J := I.x hA4 x4 nFa nKa
        refine ⟨_, rfl, _, rfl, iteT ?_⟩
        refine ⟨_, rfl, .inl ⟨rfl, _, .inl (.inl J.fo)⟩, _, rfl, Fo, _, _, rfl, rfl, J.fo, by rw [List.length_map]; exact small1000 (by omega), ?_⟩
        have tk1 : TupKeep H4 (upd H4 Fo (.lst (as.map V.ref ++ [V.ref p]))) := tk_upd J.fo
        have hfo1 : upd H4 Fo (.lst (as.map V.ref ++ [V.ref p])) Fo = some (.lst ((as ++ [p]).map V.ref)) := by
          rw [upd_same, List.map_append]
          rfl
        have hke1 : upd H4 Fo (.lst (as.map V.ref ++ [V.ref p])) Ke = some (.lst (ks.map V.ref)) := by
          rw [upd_ne nKF.symm]
          exact J.ke
        have hpu1 : PurseAt (upd H4 Fo (.lst (as.map V.ref ++ [V.ref p]))) a := by
          obtain ⟨y0, y1, y2, hy, hy1⟩ := J.pu
          exact ⟨y0, y1, y2, by rw [upd_ne nFa.symm]; exact hy, hy1⟩
        have x1' : SameX a H (upd H4 Fo (.lst (as.map V.ref ++ [V.ref p]))) := sameX_mut J.sx hFo
        have tl1 : TelsAt (upd H4 Fo (.lst (as.map V.ref ++ [V.ref p]))) (as ++ [p]) (ts ++ [t]) := Each.append (J.tels.keep tk1) (.cons (tk1 _ _ hp) .nil)
        have kk1 := J.keys.keep tk1
        have hp1 := tk1 _ _ hp
        generalize upd H4 Fo (.lst (as.map V.ref ++ [V.ref p])) = H5 at hfo1 hke1 hpu1 x1' tl1 kk1 hp1
        refine ⟨_, rfl, .inl ⟨rfl, _, .inl (.inl hke1)⟩, _, rfl, p, _, 0, _, rfl, rfl, .inl (.inl hp1), atI_nat (j := 0) rfl, _, rfl, p, _, 3, _, rfl, rfl, .inl (.inl hp1), atI_nat (j := 3) rfl, _, rfl, p, _, 1, _, rfl, rfl, .inl (.inl hp1), atI_nat (j := 1) rfl, _, rfl, p, _, 5, _, rfl, rfl, .inl (.inl hp1), atI_nat (j := 5) rfl, lz, fun k hk => ?_⟩
        have sk := same_new (o := .tup (keyV t)) hk
        have hk' : upd H5 k (.tup (keyV t)) k = some (.tup (keyV t)) := upd_same
        show ∃ _, _
        have hke2 := sk _ _ hke1
        have tk2 : TupKeep (upd H5 k (.tup (keyV t))) (upd (upd H5 k (.tup (keyV t))) Ke (.lst (ks.map V.ref ++ [V.ref k]))) := tk_upd hke2
        refine ⟨Ke, _, _, rfl, rfl, hke2, by rw [List.length_map]; exact small1000 (by omega), ⟨_, _, rfl⟩, as ++ [p], ks ++ [k], ts ++ [t], ⟨?_, ?_, ?_, ?_, ?_, ?_, ?_, ?_, ?_⟩, ?_⟩
        · obtain ⟨y0, y1, y2, hy, hy1⟩ := hpu1.same sk
          exact ⟨y0, y1, y2, by rw [upd_ne nKa.symm]; exact hy, hy1⟩
        · exact sameX_mut (x1'.trans (sx sk)) hKe0
        · rw [upd_ne nKF]
          exact sk _ _ hfo1
        · rw [upd_same, List.map_append]
          rfl
        · exact (tl1.keep (tk_same sk)).keep tk2
        · exact Each.append ((kk1.keep (tk_same sk)).keep tk2) (.cons (tk2 _ _ hk') .nil)
        · intro z hz
          rcases List.mem_append.mp hz with hz | hz
          · exact I.ok z hz
          · rw [List.mem_singleton.mp hz]
            exact okt
        · intro z hz
          rcases List.mem_append.mp hz with hz | hz
          · exact I.vs z hz
          · rw [List.mem_singleton.mp hz]
            exact hv
        · rw [List.map_append, List.nodup_append]
          refine ⟨I.nd, by simp, fun x hx y hy e => ?_⟩
          rw [List.map_singleton, List.mem_singleton] at hy
          rw [e, hy] at hx
          exact hnew hx
        · rw [List.length_append, List.length_singleton]
          omega
    · rintro σ H9 ⟨⟨y5, y6, rfl⟩, as, ks, ts, I, hl⟩
      exact ⟨_, rfl, q Fo as ts H9 I.pu I.sx hFo I.fo I.tels I.ok I.vs I.nd hl⟩
end
end Wl

/-! the law's text of a Gathering. -/
namespace Wl
open PySem PySem.Spec PyProof.Rows L2
abbrev sRowText : Stmt := topS 67
abbrev sGText : Stmt := topS 68
section
variable {P : Program} {w : World} {K : PySem.W.Frag} {mg : Str → Option Value} {base : Heap} {f C D : Addr} {fd : FuncData}
theorem cr_or {X : Cx} {v : Value} {r1 r2 : List V → Hp → VK → Prop} (h1 : CallR X v r1) (h2 : CallR X v r2) : CallR X v (fun vs H Q => r1 vs H Q ∨ r2 vs H Q) := by
  intro pins s σ H vs us Q I r h
  exact h.elim (h1 pins s σ H vs us Q I r) (h2 pins s σ H vs us Q I r)
def strV : V → V
  | .str z => .str z
  | .int i => .str (toString i : String)
  | v => v
def spRowText : Sp := fun vs H Q _ => ∃ (p : Addr) (t : Tel), vs = [.ref p] ∧ H p = some (.tup (telV t)) ∧ OkT t ∧ ∀ (H' : Hp), Same H H' → Q (.str (rowS t)) H'
abbrev nRowText : List Str := ["_law_row", "_law_part"]
theorem scRowText : FnScope nRowText ["_law_row"] (defScope sRowText) := ⟨rfl, rfl, rfl, by decide +kernel, rfl, by decide +kernel, by decide +kernel⟩
theorem ok_rowtext (F : Fun K "_law_row_text" "_law_row_text" sRowText f fd) (B : Bi mg) : FnOk P w K mg base CX0 1 f fd ["_law_row"] spRowText := by
  refine F.ok scRowText (fun vs H Q E h => ?_) (fun cdv A outer s H vs Q E hr h => ?_)
  · obtain ⟨p, t, rfl, _⟩ := h
    rfl
  · obtain ⟨p, t, rfl, hp, okt, q⟩ := h
    refine ⟨_, pss_one (ps_ret (pe_join pe_str (pe_op op_cat (pe_lc (own := [("_law_part", 1)]) (g := gName 1) (tt := tYes) rfl scRowText.nd (pi_tup (pe_slice sl_tupA (pv 0) po_none (po_some pe_int))) (blkOk_by (N := nRowText) (sc := defScope sRowText) (by decide +kernel)) (fun _ _ _ _ _ => pg_name (i := 1) scRowText.nd rfl (.inl rfl)) (fun _ _ _ _ _ => pts_nil) (fun _ _ _ _ _ => pe_callTy (cr_or SkE.call_str_str call_str_int) (by rfl) B.str (by decide +kernel) (pa_cons (pv 1) pa_nil)))
      (pe_slice sl_list (pe_lst (pa_cons pe_str pa_nil)) po_none (po_some (pe_callTy call_int1 (by rfl) B.int (by decide +kernel) (pa_cons (pe_not (pe_ix ix_tup (pv 0) pe_int (fun _ _ => rfl))) pa_nil))))))), ?_⟩
    have ecut : cutV (telV t) none (some (6 : Int)) = [V.str t.v, .str t.th, .str t.wo, .str t.tl, .int (t.age : Int), .str t.g] := by
      rw [show (6 : Int) = ((6 : Nat) : Int) from rfl, cut_to]
      rfl
    refine ⟨⟨_, rfl⟩, _, rfl, (6 : Int), rfl, ?_⟩
    refine sl_reads hp fun u H1 s1 hu => ⟨u, rfl, ⟨_, .inl (.inl hu)⟩, fun Dd nDd => ?_⟩
    rw [ecut] at hu
    have hla : ((t.age : Nat) : Int).natAbs.log2 < 1920 := age_log okt.age
    refine lc_map (walk_tup (K := K) (a := u) (xs := cutV (telV t) none (some (6 : Int)))) nDd (fun _ => true) strV (fun H2 s2 => .inl (.inl (s2 _ _ (by rw [ecut]; exact hu)))) (fun _ => rfl) (fun x H' _ _ Q' q' => q') ?_ ?_ ?_
    · intro x H2 hx _ _ Q2 q2
      rw [ecut] at hx
      simp only [List.mem_cons, List.not_mem_nil, or_false] at hx
      rcases hx with rfl | rfl | rfl | rfl | rfl | rfl
      · exact ⟨_, rfl, .inl ⟨_, rfl, q2⟩⟩
      · exact ⟨_, rfl, .inl ⟨_, rfl, q2⟩⟩
      · exact ⟨_, rfl, .inl ⟨_, rfl, q2⟩⟩
      · exact ⟨_, rfl, .inl ⟨_, rfl, q2⟩⟩
      · exact ⟨_, rfl, .inr ⟨_, rfl, hla, q2⟩⟩
      · exact ⟨_, rfl, .inl ⟨_, rfl, q2⟩⟩
    · rw [ecut]
      exact small1000 (by show 6 ≤ 1000; decide)
    · intro H2 s2 hD
      rw [ecut] at hD
      have hD : H2 Dd = some (.lst ((partsS t).map V.str)) := hD
      refine ⟨lz, fun l nl => ?_⟩
      have s3 := same_new (o := .lst [V.str "?"]) nl
      have hl3 : upd H2 l (.lst [V.str "?"]) l = some (.lst [V.str "?"]) := upd_same
      have hp3 := s3 _ _ (s2 _ _ (s1 _ _ hp))
      have hD3 := s3 _ _ hD
      generalize upd H2 l (.lst [V.str "?"]) = H3 at s3 hl3 hp3 hD3
      refine ⟨_, rfl, p, _, 6, _, rfl, rfl, .inl (.inl hp3), atI_nat (j := 6) rfl, t.sure, rfl, .inr ⟨_, rfl, _, rfl, l, _, rfl, .inl (.inl hl3), fun l4 nl4 => ?_⟩⟩
      have s4 := same_new (o := .lst (cutV [V.str "?"] none (some (if (!t.sure) = true then 1 else 0)))) nl4
      have hl4 : upd H3 l4 (.lst (cutV [V.str "?"] none (some (if (!t.sure) = true then 1 else 0)))) l4 = some (.lst (((if t.sure = true then [] else [("?" : Str)]) : List Str).map V.str)) := by
        rw [upd_same]
        cases t.sure <;> rfl
      have hD4 := s4 _ _ hD3
      generalize upd H3 l4 (.lst (cutV [V.str "?"] none (some (if (!t.sure) = true then 1 else 0)))) = H4 at s4 hl4 hD4
      refine ⟨Dd, l4, _, _, rfl, rfl, hD4, hl4, lzl (by cases t.sure <;> exact Nat.le_of_ble_eq_true rfl), fun l5 nl5 => ?_⟩
      have s5 := same_new (o := .lst ((partsS t).map V.str ++ ((if t.sure = true then [] else [("?" : Str)]) : List Str).map V.str)) nl5
      refine ⟨_, l5, partsS t ++ (if t.sure = true then [] else [("?" : Str)]), rfl, rfl, .inl (.inl (.inl (by rw [upd_same, List.map_append]))), ?_, ?_⟩
      · have h1 := sum_len (l := partsS t ++ (if t.sure = true then [] else [("?" : Str)])) (m := 8) fun z hz => by
          refine parts_len okt z ?_
          rcases List.mem_append.mp hz with hz | hz
          · exact List.mem_append_left _ hz
          · split at hz
            · cases hz
            · exact List.mem_append_right _ hz
        have h2 : (partsS t ++ (if t.sure = true then [] else [("?" : Str)])).length ≤ 7 := by cases t.sure <;> exact Nat.le_of_ble_eq_true rfl
        have h3 : (" " : Str).length = 1 := by decide +kernel
        rw [h3]
        omega
      · have e : Txt.join (" " : Str) (partsS t ++ (if t.sure = true then [] else [("?" : Str)])) = rowS t := by
          unfold rowS
          cases t.sure with
          | true => rw [if_pos rfl, if_pos rfl, List.append_nil]
          | false => rw [if_neg (by decide), if_neg (by decide)]
        rw [e]
        exact q _ ((s1.trans s2).trans (s3.trans (s4.trans s5)))
/-! ### the whole text -/
def spGText : Sp := fun vs H Q _ => ∃ (L l : Addr) (g : Grid) (wd : Nat) (as : List Addr) (ts : List Tel), vs = [.ref L, .ref l] ∧ GridAt H L g ∧ Good g wd ∧ H l = some (.lst (as.map V.ref)) ∧ TelsAt H as ts ∧ (∀ t ∈ ts, OkT t) ∧ ts.length ≤ 200 ∧ ∀ (H' : Hp), Same H H' → Q (.str (gatS g ts)) H'
abbrev nGText : List Str := ["_law_rows", "_law_lot", "_law_row"]
theorem scGText : FnScope nGText ["_law_rows", "_law_lot"] (defScope sGText) := ⟨rfl, rfl, rfl, by decide +kernel, rfl, by decide +kernel, by decide +kernel⟩
theorem ok_gtext (F : Fun K "_law_text" "_law_text" sGText f fd) (hL : Has P w K mg base "_law_land_text" 1 ["_law_rows"] spText) (hR : Has P w K mg base "_law_row_text" 1 ["_law_row"] spRowText) : FnOk P w K mg base CX0 2 f fd ["_law_rows", "_law_lot"] spGText := by
  refine F.ok scGText (fun vs H Q E h => ?_) (fun cdv A outer s H vs Q E hr h => ?_)
  · obtain ⟨L, l, g, wd, as, ts, rfl, _⟩ := h
    rfl
  · obtain ⟨L, l, g, wd, as, ts, rfl, hG, gd, hl, hT, hok, h200, q⟩ := h
    refine ⟨_, pss_one (ps_ret (pe_join pe_str (pe_op op_cat (pe_lst (pa_cons (pe_h hL hr (pa_cons (pv 0) pa_nil)) (pa_cons pe_str pa_nil)))
      (pe_lc (own := [("_law_row", 2)]) (g := gName 2) (tt := tYes) (te := tCall spRowText [] E0 (tCons (tVar 2) tNil)) rfl scGText.nd (pi_list (pv 1)) (blkOk_by (N := nGText) (sc := defScope sGText) (by decide +kernel)) (fun _ _ _ _ _ => pg_name (i := 2) scGText.nd rfl (.inl rfl)) (fun _ _ _ _ _ => pts_nil) (fun _ _ _ _ _ => pe_h hR hr (pa_cons (pv 2) pa_nil)))))), ?_⟩
    refine ⟨⟨_, rfl⟩, _, rfl, L, g, rfl, hG, gd.parts, gd.h6, gd.six, fun H1 s1 => ⟨lz, fun u hu => ?_⟩⟩
    have s2 := same_new (o := .lst [V.str (landS g), V.str ("." : Str)]) hu
    have hu2 : upd H1 u (.lst [V.str (landS g), V.str ("." : Str)]) u = some (.lst [V.str (landS g), V.str ("." : Str)]) := upd_same
    have s02 := s1.trans s2
    generalize upd H1 u (.lst [V.str (landS g), V.str ("." : Str)]) = H2 at hu2 s02
    have hT2 := hT.keep (tk_same s02)
    refine ⟨_, rfl, l, rfl, ⟨_, .inl (.inl (s02 _ _ hl))⟩, fun Dd hD => ?_⟩
    have hlen : as.length = ts.length := hT.length
    refine lc_rel (walk_list (K := K) (a := l) (xs := as.map V.ref)) hD (fun _ => true) (fun x y _ => ∀ (pt : Addr) (t : Tel), x = .ref pt → H2 pt = some (.tup (telV t)) → y = .str (rowS t)) (fun H' s' => .inl (.inl (s' _ _ (s02 _ _ hl)))) (fun _ => rfl) (fun x H' _ _ Q' q' => q') ?_ (fun _ _ _ _ _ _ _ r => r) ?_ ?_
    · intro x H' hx _ s' Q' q'
      obtain ⟨pt, hpt, rfl⟩ := List.mem_map.mp hx
      obtain ⟨i, hi, ei⟩ := List.mem_iff_getElem.mp hpt
      obtain ⟨t, ht, hH⟩ := Each.get hT2 (i := i) (a := pt) (by rw [List.getElem?_eq_getElem hi, ei])
      refine ⟨_, rfl, pt, t, rfl, s' _ _ hH, hok t (List.mem_of_getElem? ht), fun H3 s3 => q' _ H3 s3 fun pt2 t2 e2 h2 => ?_⟩
      obtain rfl : pt = pt2 := V.ref.inj e2
      rw [hH] at h2
      rw [telV_inj (HO.tup.inj (Option.some.inj h2))]
    · rw [List.length_map]
      exact small1000 (by omega)
    · intro zs H3 s3 hD3 he
      rw [List.filter_eq_self.mpr fun _ _ => rfl] at he
      have e1 : zs = (ts.map rowS).map V.str := told_rows hT2 he
      rw [e1] at hD3
      refine ⟨u, Dd, _, _, rfl, rfl, s3 _ _ hu2, hD3, ?_, fun x hx => ?_⟩
      · rw [List.length_map, List.length_map]
        exact lzl (by simp only [List.length_cons, List.length_nil]; omega)
      refine ⟨_, x, [landS g, ("." : Str)] ++ ts.map rowS, rfl, rfl, .inl (.inl (.inl (by rw [upd_same, List.map_append]; rfl))), ?_, q _ ((s02.trans s3).trans (same_new hx))⟩
      have hll := land_len gd.parts gd.h6 gd.six
      have hdot : ("." : Str).length = 1 := by decide +kernel
      have := sum_len (l := [landS g, ("." : Str)] ++ ts.map rowS) (m := 330) fun z hz => by
        rcases List.mem_append.mp hz with hz | hz
        · simp only [List.mem_cons, List.not_mem_nil, or_false] at hz
          rcases hz with rfl | rfl
          · exact hll
          · omega
        · obtain ⟨t, ht, rfl⟩ := List.mem_map.mp hz
          have := row_len (hok t ht)
          omega
      have e : ("\n" : Str).length = 1 := by decide +kernel
      have hl2 : ([landS g, ("." : Str)] ++ ts.map rowS).length ≤ 202 := by
        rw [List.length_append, List.length_map]
        simp only [List.length_cons, List.length_nil]
        omega
      rw [e]
      omega
end
end Wl

/-! the law's own put. -/
namespace Wl
open PySem PySem.Spec PyProof.Rows L2
abbrev sPutL : Stmt := topS 69
/-- village, word, thing, age, teller, gatherer by name; sure left out -/
def gP4 {α : Type} : List α → List α → List α → List α
  | [s], [_, b], [v, w, th, ag, tl, g] => [s, v, th, w, tl, ag, g, b]
  | _, _, _ => []
/-- six by place, sure by name -/
def gP5 {α : Type} : List α → List α → List α → List α
  | [s, v, th, w, tl, ag, g], [_, _], [b] => [s, v, th, w, tl, ag, g, b]
  | _, _, _ => []
theorem gP4_rel {vs ds zs : List V} {us its ws : List Value} (r1 : Vals vs us) (r2 : Vals ds its) (r3 : Vals zs ws) : Vals (gP4 vs ds zs) (gP4 us its ws) := by
  rcases r1 with _ | ⟨a1, _ | ⟨_, _⟩⟩
  all_goals first | exact .nil | skip
  rcases r2 with _ | ⟨b1, _ | ⟨b2, _ | ⟨_, _⟩⟩⟩
  all_goals first | exact .nil | skip
  rcases r3 with _ | ⟨c1, _ | ⟨c2, _ | ⟨c3, _ | ⟨c4, _ | ⟨c5, _ | ⟨c6, _ | ⟨_, _⟩⟩⟩⟩⟩⟩⟩
  all_goals first | exact .nil | exact .cons a1 (.cons c1 (.cons c3 (.cons c2 (.cons c5 (.cons c4 (.cons c6 (.cons b2 .nil)))))))
theorem gP5_rel {vs ds zs : List V} {us its ws : List Value} (r1 : Vals vs us) (r2 : Vals ds its) (r3 : Vals zs ws) : Vals (gP5 vs ds zs) (gP5 us its ws) := by
  rcases r1 with _ | ⟨a1, _ | ⟨a2, _ | ⟨a3, _ | ⟨a4, _ | ⟨a5, _ | ⟨a6, _ | ⟨a7, _ | ⟨_, _⟩⟩⟩⟩⟩⟩⟩⟩
  all_goals first | exact .nil | skip
  rcases r2 with _ | ⟨b1, _ | ⟨b2, _ | ⟨_, _⟩⟩⟩
  all_goals first | exact .nil | skip
  rcases r3 with _ | ⟨c1, _ | ⟨_, _⟩⟩
  all_goals first | exact .nil | exact .cons a1 (.cons a2 (.cons a3 (.cons a4 (.cons a5 (.cons a6 (.cons a7 (.cons c1 .nil)))))))
section
variable {P : Program} {w : World} {K : PySem.W.Frag} {mg : Str → Option Value} {base : Heap} {f C D : Addr} {fd : FuncData}
theorem put_k4 (F : FunP K f fd) : ∃ its : List Value, KBn K fd psPut 1 ["village", "word", "thing", "age", "teller", "gatherer"] (fun us ws => gP4 us its ws) (fun vs zs => gP4 vs [.str "self", .bl true] zs) :=
  F.kbindsD 1 _ gP4 (by simp) gP4_rel (fun T kV doc pm an cdv ct us its ws l1 l2 l3 => by
      match us, its, ws, l1, l2, l3 with
      | [_], [_, _], [_, _, _, _, _, _], _, _, _ => exact ⟨_, rfl, rfl⟩)
theorem put_k5 (F : FunP K f fd) : ∃ its : List Value, KBn K fd psPut 7 ["sure"] (fun us ws => gP5 us its ws) (fun vs zs => gP5 vs [.str "self", .bl true] zs) :=
  F.kbindsD 7 _ gP5 (by simp) gP5_rel (fun T kV doc pm an cdv ct us its ws l1 l2 l3 => by
      match us, its, ws, l1, l2, l3 with
      | [_, _, _, _, _, _, _], [_, _], [_], _, _, _ => exact ⟨_, rfl, rfl⟩)
def spPutL (C D : Addr) : Sp := fun vs H Q _ => ∃ (p rp : Addr) (r : GR) (wd : Nat) (t : Tel), vs = [.ref p, .ref rp] ∧ H rp = some (.tup (telV t)) ∧ GatAt C D H p r ∧ Good r.g wd ∧ (∀ u ∈ r.ts, OkT u) ∧ OkT t ∧ t.v ∈ names r.g ∧ keyS t ∉ r.ts.map keyS ∧ r.ts.length < 200 ∧ r.ds.length < 1000 ∧
  ∀ (q : Addr) (H' : Hp), H q = none → Same2 r.td r.dd H H' → GatAt C D H' p (r.add q t) → Q .non H'
theorem scPutL : FnScope ["_law_kept", "_law_row"] ["_law_kept", "_law_row"] (defScope sPutL) := ⟨rfl, rfl, rfl, by decide +kernel, rfl, by decide +kernel, by decide +kernel⟩
theorem ok_putl (F : Fun K "_law_put" "_law_put" sPutL f fd) (TG : TxtG K mg D) (hP : HasPe P w K mg base C D) : FnOk P w K mg base CX0 5 f fd ["_law_kept", "_law_row"] (spPutL C D) := by
  obtain ⟨fp, fdp, FP, mP, fnP⟩ := hP
  obtain ⟨ds6, v6, b6⟩ := put_b6 fnP
  obtain ⟨i4, k4⟩ := put_k4 fnP
  obtain ⟨i5, k5⟩ := put_k5 fnP
  refine F.ok scPutL (fun vs H Q E h => ?_) (fun cdv A outer s H vs Q E hr h => ?_)
  · obtain ⟨p, rp, r, wd, t, rfl, _⟩ := h
    rfl
  · obtain ⟨p, rp, r, wd, t, rfl, hrp, hG, gd, hok, okt, hv, hnew, h200, hds, q⟩ := h
    refine ⟨_, pss_one (ps_if (PW.pt (pw_and (pt_cmpR op_eq (pe_ix ix_tup (pv 1) pe_int (fun _ _ => rfl)) pe_str (nomark _)) (pw_and1 (pt_val (pe_ix ix_tup (pv 1) pe_int (fun _ _ => rfl))))))
        (pss_one (ps_expr (pe_meth (pv 0) TG.cl mP FP hr b6 v6 pass0 (pa_cons (pe_ix ix_tup (pv 1) pe_int (fun _ _ => rfl)) (pa_cons (pe_ix ix_tup (pv 1) pe_int (fun _ _ => rfl)) (pa_cons (pe_ix ix_tup (pv 1) pe_int (fun _ _ => rfl)) (pa_cons (pe_ix ix_tup (pv 1) pe_int (fun _ _ => rfl)) (pa_cons (pe_ix ix_tup (pv 1) pe_int (fun _ _ => rfl)) pa_nil))))))))
      (pss_one (ps_if (pt_val (pe_ix ix_tup (pv 1) pe_int (fun _ _ => rfl)))
        (pss_one (ps_expr (pe_methN0 (pv 0) TG.cl mP FP hr k4 pass0 (pk_cons (pe_ix ix_tup (pv 1) pe_int (fun _ _ => rfl)) (pk_cons (pe_ix ix_tup (pv 1) pe_int (fun _ _ => rfl)) (pk_cons (pe_ix ix_tup (pv 1) pe_int (fun _ _ => rfl)) (pk_cons (pe_ix ix_tup (pv 1) pe_int (fun _ _ => rfl)) (pk_cons (pe_ix ix_tup (pv 1) pe_int (fun _ _ => rfl)) (pk_cons (pe_ix ix_tup (pv 1) pe_int (fun _ _ => rfl)) pk_nil)))))))))
      (pss_one (ps_expr (pe_methN (n := 6) (pv 0) TG.cl mP FP hr k5 pass0 (pa_cons (pe_ix ix_tup (pv 1) pe_int (fun _ _ => rfl)) (pa_cons (pe_ix ix_tup (pv 1) pe_int (fun _ _ => rfl)) (pa_cons (pe_ix ix_tup (pv 1) pe_int (fun _ _ => rfl)) (pa_cons (pe_ix ix_tup (pv 1) pe_int (fun _ _ => rfl)) (pa_cons (pe_ix ix_tup (pv 1) pe_int (fun _ _ => rfl)) (pa_cons (pe_ix ix_tup (pv 1) pe_int (fun _ _ => rfl)) pa_nil)))))) (pk_cons pe_bl pk_nil))))))), ?_⟩
    obtain ⟨dx, hp⟩ := hG.at_
    have go : ∀ {t' : Tel}, t' = t → ∀ vs, vs = V.ref p :: telV t' → spPut C D vs H (fun _ H' => Q .non H') E0 := fun {t'} e vs e2 => ⟨p, r, wd, t, by rw [e2, e], hG, gd, hok, okt, hv, hnew, h200, hds, fun q' H' n m g => q q' H' n m g⟩
    have placed : ∀ {tt : Tel}, tt = t → spPut C D (V.ref p :: telV tt) H (fun _ H' => Q .non H') E0 := fun e => go e _ rfl
    refine ⟨_, rfl, rp, _, _, _, rfl, rfl, .inl (.inl hrp), atI_nat (j := 5) rfl, rfl, _, rfl, ite_b (fun e1 => ?_) (fun e1 => ?_)⟩
    · have eg : t.g = "self" := V.str.inj (of_decide_eq_true e1)
      refine ⟨_, rfl, rp, _, _, _, rfl, rfl, .inl (.inl hrp), atI_nat (j := 6) rfl, _, rfl, ite_b (fun e2 => ?_) (fun e2 => ?_)⟩
      · refine ⟨_, rfl, p, _, _, rfl, hp, gf_no _ _ _, _, rfl, rp, _, _, _, rfl, rfl, .inl (.inl hrp), atI_nat (j := 0) rfl, _, rfl, rp, _, _, _, rfl, rfl, .inl (.inl hrp), atI_nat (j := 1) rfl, _, rfl, rp, _, _, _, rfl, rfl, .inl (.inl hrp), atI_nat (j := 2) rfl, _, rfl, rp, _, _, _, rfl, rfl, .inl (.inl hrp), atI_nat (j := 3) rfl, _, rfl, rp, _, _, _, rfl, rfl, .inl (.inl hrp), atI_nat (j := 4) rfl, placed (tt := { t with g := "self", sure := true }) ?_⟩
        cases t
        simp only at eg e2
        simp [eg, e2]
      · refine ⟨_, rfl, rp, _, _, _, rfl, rfl, .inl (.inl hrp), atI_nat (j := 6) rfl, _, rfl, ?_⟩
        rw [e2]
        refine iteF ⟨_, rfl, p, _, _, rfl, hp, gf_no _ _ _, _, rfl, rp, _, _, _, rfl, rfl, .inl (.inl hrp), atI_nat (j := 0) rfl, _, rfl, rp, _, _, _, rfl, rfl, .inl (.inl hrp), atI_nat (j := 1) rfl, _, rfl, rp, _, _, _, rfl, rfl, .inl (.inl hrp), atI_nat (j := 2) rfl, _, rfl, rp, _, _, _, rfl, rfl, .inl (.inl hrp), atI_nat (j := 3) rfl, _, rfl, rp, _, _, _, rfl, rfl, .inl (.inl hrp), atI_nat (j := 4) rfl, _, rfl, rp, _, _, _, rfl, rfl, .inl (.inl hrp), atI_nat (j := 5) rfl, rfl, rfl, placed (tt := { t with sure := false }) ?_⟩
        cases t
        simp only at e2
        simp [e2]
    · refine ⟨_, rfl, rp, _, _, _, rfl, rfl, .inl (.inl hrp), atI_nat (j := 6) rfl, _, rfl, ite_b (fun e2 => ?_) (fun e2 => ?_)⟩
      · refine ⟨_, rfl, p, _, _, rfl, hp, gf_no _ _ _, _, rfl, rp, _, _, _, rfl, rfl, .inl (.inl hrp), atI_nat (j := 0) rfl, _, rfl, rp, _, _, _, rfl, rfl, .inl (.inl hrp), atI_nat (j := 2) rfl, _, rfl, rp, _, _, _, rfl, rfl, .inl (.inl hrp), atI_nat (j := 1) rfl, _, rfl, rp, _, _, _, rfl, rfl, .inl (.inl hrp), atI_nat (j := 4) rfl, _, rfl, rp, _, _, _, rfl, rfl, .inl (.inl hrp), atI_nat (j := 3) rfl, _, rfl, rp, _, _, _, rfl, rfl, .inl (.inl hrp), atI_nat (j := 5) rfl, rfl, rfl, placed (tt := { t with sure := true }) ?_⟩
        cases t
        simp only at e2
        simp [e2]
      · refine ⟨_, rfl, p, _, _, rfl, hp, gf_no _ _ _, _, rfl, rp, _, _, _, rfl, rfl, .inl (.inl hrp), atI_nat (j := 0) rfl, _, rfl, rp, _, _, _, rfl, rfl, .inl (.inl hrp), atI_nat (j := 1) rfl, _, rfl, rp, _, _, _, rfl, rfl, .inl (.inl hrp), atI_nat (j := 2) rfl, _, rfl, rp, _, _, _, rfl, rfl, .inl (.inl hrp), atI_nat (j := 3) rfl, _, rfl, rp, _, _, _, rfl, rfl, .inl (.inl hrp), atI_nat (j := 4) rfl, _, rfl, rp, _, _, _, rfl, rfl, .inl (.inl hrp), atI_nat (j := 5) rfl, rfl, rfl, placed (tt := { t with sure := false }) ?_⟩
        cases t
        simp only at e2
        simp [e2]
end
end Wl

/-! A deed tried: what it does, or what refuses it. -/
namespace Wl
open PySem PySem.Spec PyProof.Rows L2
/-- what the deeds that stand left: the tellings, the Gathering's own deeds, the tellings ahead of each -/
inductive Hist (H : Hp) : List Tel → List V → List (List Tel) → Prop
  | nil : Hist H [] [] []
  | put {ts : List Tel} {ds : List V} {past : List (List Tel)} (t : Tel) (h : Hist H ts ds past) : Hist H (ts ++ [t]) (ds ++ [.non]) (past ++ [ts])
  | cut {ts : List Tel} {ds : List V} {past : List (List Tel)} {i : Nat} {t : Tel} {q pa : Addr} (h : Hist H ts ds past) (e : ts[i]? = some t) (hq : H q = some (.tup [.int (i : Int), .ref pa])) (hp : H pa = some (.tup (telV t))) : Hist H (ts.eraseIdx i) (ds ++ [.ref q]) (past ++ [ts])
theorem Hist.keep {H H' : Hp} {ts : List Tel} {ds : List V} {past : List (List Tel)} (h : Hist H ts ds past) (k : TupKeep H H') : Hist H' ts ds past := by
  induction h with
  | nil => exact .nil
  | put t _ ih => exact .put t ih
  | cut _ e hq hp ih => exact .cut ih e (k _ _ hq) (k _ _ hp)
theorem Hist.len {H : Hp} {ts : List Tel} {ds : List V} {past : List (List Tel)} (h : Hist H ts ds past) : ds.length = past.length := by
  induction h with
  | nil => rfl
  | put t _ ih => rw [List.length_append, List.length_append, ih]; rfl
  | cut _ e hq hp ih => rw [List.length_append, List.length_append, ih]; rfl
theorem Hist.inv {H : Hp} {ts : List Tel} {ds : List V} {past : List (List Tel)} (h : Hist H ts ds past) : (ds = [] ∧ past = []) ∨ ∃ ts0 ds0 past0, Hist H ts0 ds0 past0 ∧ past = past0 ++ [ts0] ∧
    ((∃ t, ts = ts0 ++ [t] ∧ ds = ds0 ++ [.non]) ∨ ∃ (i : Nat) (t : Tel) (q pa : Addr), ts0[i]? = some t ∧ ts = ts0.eraseIdx i ∧ ds = ds0 ++ [.ref q] ∧ H q = some (.tup [.int (i : Int), .ref pa]) ∧ H pa = some (.tup (telV t))) := by
  cases h with
  | nil => exact .inl ⟨rfl, rfl⟩
  | put t h => exact .inr ⟨_, _, _, h, rfl, .inl ⟨t, rfl, rfl⟩⟩
  | cut h e hq hp => exact .inr ⟨_, _, _, h, rfl, .inr ⟨_, _, _, _, e, rfl, rfl, hq, hp⟩⟩
/-- tellings as they may stand -/
structure Fine (g : Grid) (ts : List Tel) : Prop where
  ok : ∀ t ∈ ts, OkT t
  vs : ∀ t ∈ ts, t.v ∈ names g
  nd : (ts.map keyS).Nodup
def notKey (t : Tel) (u : Tel) : Bool := decide (keyS u ≠ keyS t)
theorem cut_filter {t : Tel} : ∀ {l : List Tel} {i : Nat}, (l.map keyS).Nodup → (l.findIdx? fun u => decide (keyS u = keyS t)) = some i → l.eraseIdx i = l.filter (notKey t)
  | [], i, _, h => by simp at h
  | u :: l, i, nd, h => by
    rw [List.map_cons, List.nodup_cons] at nd
    rw [List.findIdx?_cons] at h
    by_cases e : keyS u = keyS t
    · rw [decide_eq_true e, if_pos rfl] at h
      cases h
      rw [List.eraseIdx_zero, List.tail_cons, List.filter_cons_of_neg (by unfold notKey; simp [e]), List.filter_eq_self.mpr fun v hv => ?_]
      unfold notKey
      exact decide_eq_true fun e2 => nd.1 (by rw [e, ← e2]; exact List.mem_map.mpr ⟨v, hv, rfl⟩)
    · rw [decide_eq_false e, if_neg (by decide)] at h
      obtain ⟨j, hj, rfl⟩ := Option.map_eq_some_iff.mp h
      rw [List.eraseIdx_cons_succ, List.filter_cons_of_pos (by unfold notKey; simp [e]), cut_filter nd.2 hj]
section
variable {P : Program} {w : World} {K : PySem.W.Frag} {mg : Str → Option Value} {base : Heap} {f C D cT cX cB cJ cL : Addr} {fd : FuncData}
/-- the Gathering behind a deed that is let -/
structure Went (C D : Addr) (p : Addr) (r r' : GR) (past' : List (List Tel)) (H' : Hp) : Prop where
  gat : GatAt C D H' p r'
  td : r'.td = r.td
  dd : r'.dd = r.dd
  g : r'.g = r.g
  pl : r'.pl = r.pl
  hist : Hist H' r'.ts r'.ds past'
end
end Wl




/-! one telling struck, or struck and taken back, or nothing. -/
namespace Wl
open PySem PySem.Spec PyProof.Rows L2
abbrev sMoved : Stmt := topS 70
/-- all but the purse and a Gathering's own lists is as it was -/
def SameG (a td dd : Addr) (H H' : Hp) : Prop := ∀ b o, b ≠ a → b ≠ td → b ≠ dd → H b = some o → H' b = some o
theorem SameG.trans {a td dd : Addr} {H H1 H2 : Hp} (s : SameG a td dd H H1) (t : SameG a td dd H1 H2) : SameG a td dd H H2 := fun b o n1 n2 n3 e => t b o n1 n2 n3 (s b o n1 n2 n3 e)
theorem sg_x {a td dd : Addr} {H H' : Hp} (x : SameX a H H') : SameG a td dd H H' := fun b o n1 _ _ e => x b o n1 e
theorem sg_2 {a td dd : Addr} {H H' : Hp} (x : Same2 td dd H H') : SameG a td dd H H' := fun b o _ n2 n3 e => x b o n2 n3 e
theorem sg_s {a td dd : Addr} {H H' : Hp} (x : Same H H') : SameG a td dd H H' := fun b o _ _ _ e => x b o e
theorem gat_x {C D : Addr} {H H' : Hp} {a p : Addr} {r : GR} (hP : PurseAt H a) (x : SameX a H H') (h : GatAt C D H p r) (n1 : r.td ≠ a) (n2 : r.dd ≠ a) : GatAt C D H' p r := by
  have k : Keep H H' := fun b o n e => x b o (fun z => by
    obtain ⟨_, _, _, hh, _⟩ := hP
    rw [z, hh] at e
    cases e
    exact n _ rfl) e
  obtain ⟨dx, e⟩ := h.at_
  exact ⟨⟨dx, k _ _ (fun xs z => by cases z) e⟩, h.land.keep k, x _ _ n1 h.told, h.tels.keep k.tk, x _ _ n2 h.deeds, h.ne⟩
theorem purse_2 {H H' : Hp} {a td dd : Addr} (hP : PurseAt H a) (x : Same2 td dd H H') (n1 : td ≠ a) (n2 : dd ≠ a) : PurseAt H' a := by
  obtain ⟨y0, y1, y2, h, h1⟩ := hP
  exact ⟨y0, y1, y2, x _ _ n1.symm n2.symm h, h1⟩
theorem tels_2 {C D : Addr} {H H' : Hp} {p : Addr} {r : GR} {as : List Addr} {ts : List Tel} (h : TelsAt H as ts) (hG : GatAt C D H p r) (x : Same2 r.td r.dd H H') : TelsAt H' as ts := h.keep fun b xs e => x _ _ (fun z => by rw [z, hG.told] at e; cases e) (fun z => by rw [z, hG.deeds] at e; cases e) e
theorem find_atN {l : List Tel} {t : Tel} {j : Nat} (nd : (l.map keyS).Nodup) (h : l[j]? = some t) : (l.findIdx? fun u => decide (keyS u = keyS t)) = some j := by
  obtain ⟨hj, e⟩ := List.getElem?_eq_some_iff.mp h
  rw [List.findIdx?_eq_some_iff_getElem]
  refine ⟨hj, by rw [e]; exact decide_eq_true rfl, fun i hi => ?_⟩
  have hil : i < l.length := by omega
  intro z
  have z := of_decide_eq_true z
  have e1 : (l.map keyS)[i]'(by rw [List.length_map]; exact hil) = (l.map keyS)[j]'(by rw [List.length_map]; exact hj) := by
    rw [List.getElem_map, List.getElem_map, z, e]
  have := (List.getElem_inj nd).mp e1
  omega
section
variable {P : Program} {w : World} {K : PySem.W.Frag} {mg : Str → Option Value} {base : Heap} {f C D : Addr} {fd : FuncData}
theorem strike_b5 (F : FunS K f fd) : Binds K fd psStrike [] := by
  obtain ⟨ds, h1, h2⟩ := F.binds1 (ps := psStrike) 5 1 (by simp) rfl (fun T kV doc pm an cdv ct us its l1 l2 => by
      match us, its, l1, l2 with
      | [_, _, _, _, _], [_], _, _ => exact ⟨_, rfl, rfl⟩)
  cases h1
  exact h2
def HasSe (P : Program) (w : World) (K : PySem.W.Frag) (mg : Str → Option Value) (base : Heap) (C D : Addr) : Prop := ∃ f fd, FnOk P w K mg base CX0 3 f fd psStrike (spStrike C D) ∧ Meth K D "strike" f ∧ FunS K f fd
def spMoved (C D : Addr) : Sp := fun vs H Q _ => ∃ (a p l : Addr) (r : GR) (wd : Nat) (as : List Addr), vs = [.ref a, .ref p, .ref l] ∧ PurseAt H a ∧ GatAt C D H p r ∧ Good r.g wd ∧ r.td ≠ a ∧ r.dd ≠ a ∧ (∀ t ∈ r.ts, OkT t) ∧ (r.ts.map keyS).Nodup ∧ r.ts.length ≤ 200 ∧ r.ds.length < 900 ∧ H l = some (.lst (as.map V.ref)) ∧ TelsAt H as r.ts ∧ l ≠ a ∧ l ≠ r.td ∧ l ≠ r.dd ∧
  ∀ (l' : Addr) (as' : List Addr) (r' : GR) (H' : Hp), PurseAt H' a → SameG a r.td r.dd H H' → GatAt C D H' p r' → r'.td = r.td → r'.dd = r.dd → r'.pl = r.pl → r'.g = r.g → (∀ t ∈ r'.ts, t ∈ r.ts) → (r'.ts.map keyS).Nodup → r'.ts.length ≤ r.ts.length → r'.ds.length ≤ r.ds.length + 1 → H' l' = some (.lst (as'.map V.ref)) → TelsAt H' as' r'.ts → l' ≠ r.td → l' ≠ r.dd → l' ≠ a → Q (.ref l') H'
abbrev psMoved : List Str := ["_law_purse_here", "_law_kept", "_law_lot"]
abbrev nMoved : List Str := ["_law_purse_here", "_law_kept", "_law_lot", "_law_way", "_law_at", "_law_row"]
theorem scMoved : FnScope nMoved psMoved (defScope sMoved) := ⟨rfl, rfl, rfl, by decide +kernel, rfl, by decide +kernel, by decide +kernel⟩
theorem ok_moved (F : Fun K "_law_moved" "_law_moved" sMoved f fd) (B : Bi mg) (TG : TxtG K mg D) (hp : Has P w K mg base "_law_pick" 1 ["_law_purse_here", "_law_many"] spPick) (hS : HasSe P w K mg base C D) (hB : HasM P w K mg base D "back" 1 ["self"] (spBack C D)) : FnOk P w K mg base CX0 4 f fd psMoved (spMoved C D) := by
  obtain ⟨fs, fds, FS, mS, fnS⟩ := hS
  have b5 := strike_b5 fnS
  refine F.ok scMoved (fun vs H Q E h => ?_) (fun cdv A outer s H vs Q E hr h => ?_)
  · obtain ⟨a, p, l, r, wd, as, rfl, _⟩ := h
    rfl
  · obtain ⟨a, p, l, r, wd, as, rfl, hA, hG, gd, nta, nda, hok, hnd, h200, hds, hl, hT, nla, nlt, nld, q⟩ := h
    refine ⟨_, pss_cons (ps_par (i := 3) (j := 4) (by rfl) scMoved.nd rfl rfl (by decide) rfl rfl (pa_cons (pe_h hp hr (pa_cons (pv 0) (pa_cons pe_int pa_nil))) (pa_cons (pe_h hp hr (pa_cons (pv 0) (pa_cons (pe_callB (call_max2 rfl) (by rfl) B.max (by decide +kernel) (pa_cons pe_int (pa_cons (pe_callB call_len_seq (by rfl) B.len PySem.boot_len (pa_cons (pv 2) pa_nil)) pa_nil))) pa_nil))) pa_nil)) (by rfl))
      (pss_cons (ps_if (PW.pt (pw_or (pt_cmpR (op_eqD hr.units) (pv 2) (pe_lst pa_nil) (nomark _)) (pw_or1 (pt_cmpR op_gt (pv 3) pe_int (nomark _))))) (pss_one (ps_ret (pv 2))) pss_nil)
      (pss_cons (ps_set (i := 5) scMoved.nd rfl (.inl rfl) (pe_ix ix_list (pv 2) (pv 4) (fun _ _ => rfl)))
      (pss_cons (ps_expr (pe_meth (pv 1) TG.cl mS FS hr b5 .nil pass0 (pa_cons (pe_ix ix_tup (pv 5) pe_int (fun _ _ => rfl)) (pa_cons (pe_ix ix_tup (pv 5) pe_int (fun _ _ => rfl)) (pa_cons (pe_ix ix_tup (pv 5) pe_int (fun _ _ => rfl)) (pa_cons (pe_ix ix_tup (pv 5) pe_int (fun _ _ => rfl)) pa_nil))))))
      (pss_cons (ps_if (pt_cmpR op_eq (pv 3) pe_int (nomark _)) (pss_one (ps_ret (pe_op op_cat (pe_slice sl_list (pv 2) po_none (po_some (pv 4))) (pe_slice sl_list (pv 2) (po_some (pe_op op_add (pv 4) pe_int)) po_none)))) pss_nil)
      (pss_cons (ps_expr (pe_hm0 hB TG.cl hr (pv 1)))
      (pss_one (ps_ret (pv 2)))))))), ?_⟩
    have las : as.length = r.ts.length := hT.length
    refine ⟨_, rfl, a, 4, rfl, hA, by decide, by decide, fun r1 H1 r10 r11 hA1 x1 _ => ?_⟩
    have hl1 := x1 _ _ nla hl
    have hG1 := gat_x hA x1 hG nta nda
    refine ⟨_, rfl, _, rfl, l, _, rfl, .inl (.inl (.inl hl1)), _, _, rfl, a, _, rfl, hA1, by rw [List.length_map]; split <;> omega, by rw [List.length_map]; split <;> omega, fun r2 H2 r20 r21 hA2 x2 _ => ⟨_, _, rfl, ?_⟩⟩
    obtain ⟨ysA, hyA⟩ := hA.lst
    have x02 := x1.trans x2
    have hl2 := x2 _ _ nla hl1
    have hG2 := gat_x hA1 x2 hG1 nta nda
    have hT2 := hT.keep (tk_x x02 hyA)
    refine st_nm (σ' := [some (.ref a), some (.ref p), some (.ref l), some (.int r1), some (.int r2), none]) rfl ?_
    have stay : ∀ H3, Same H2 H3 → Q (.ref l) H3 := fun H3 s3 => q l as r H3 (hA2.same s3) (sg_x (x02.trans (sx s3))) (hG2.same s3) rfl rfl rfl rfl (fun t h => h) hnd (Nat.le_refl _) (by omega) (s3 _ _ hl2) (hT2.keep (tk_same s3)) nlt nld nla
    refine ⟨_, rfl, lz, fun e1 ne1 => ?_⟩
    have s3 := same_new (o := .lst []) ne1
    have he1 : upd H2 e1 (.lst []) e1 = some (.lst []) := upd_same
    generalize upd H2 e1 (.lst []) = H3 at s3 he1
    refine ⟨.list (r.ts.map telD), .list [], .lst (.inl (.inl (s3 _ _ hl2))) (dp_tels (hT2.keep (tk_same s3))), .lst (.inl (.inl he1)) .nil, shaped_tels hok, rfl, _, rfl, ?_⟩
    rw [tels_nil]
    by_cases hem : r.ts = []
    · rw [hem]
      exact iteT ⟨_, rfl, stay _ s3⟩
    rw [show r.ts.isEmpty = false from by cases q : r.ts with | nil => exact absurd q hem | cons x l => rfl]
    have hpos : 0 < r.ts.length := List.length_pos_iff.mpr hem
    refine iteF ⟨_, rfl, _, _, rfl, rfl, _, rfl, ite_b (fun c1 => ⟨_, rfl, stay _ s3⟩) (fun c1 => ?_)⟩
    have c1 := of_decide_eq_false c1
    -- one of them
    rw [List.length_map] at r21
    obtain ⟨i, hi⟩ : ∃ i : Nat, r2 = (i : Int) := ⟨r2.toNat, by omega⟩
    subst hi
    have hil : i < r.ts.length := by
      have : (i : Int) < (if ((as.length : Nat) : Int) > 1 then ((as.length : Nat) : Int) else 1) := r21
      split at this <;> omega
    have ht : r.ts[i]? = some r.ts[i] := List.getElem?_eq_getElem hil
    generalize r.ts[i] = t at ht
    have has : as[i]? = some as[i] := List.getElem?_eq_getElem (by omega)
    generalize as[i] = pt at has
    have hG3 := hG2.same s3
    have hT3 := hT2.keep (tk_same s3)
    obtain ⟨t', ht', hpt⟩ := Each.get hT3 has
    rw [ht] at ht'
    cases ht'
    have hl3 := s3 _ _ hl2
    have okt := hok t (List.mem_of_getElem? ht)
    refine ⟨_, rfl, _, rfl, l, _, (i : Int), .ref pt, rfl, rfl, .inl (.inl hl3), atI_nat (by rw [List.getElem?_map, has]; rfl), ?_⟩
    refine st_nm (σ' := [some (.ref a), some (.ref p), some (.ref l), some (.int r1), some (.int (i : Int)), some (.ref pt)]) rfl ?_
    obtain ⟨dx, hp3⟩ := hG3.at_
    have hA3 := hA2.same s3
    refine ⟨_, rfl, p, _, _, rfl, hp3, gf_no _ _ _, _, rfl, pt, _, 0, _, rfl, rfl, .inl (.inl hpt), atI_nat (j := 0) rfl, _, rfl, pt, _, 3, _, rfl, rfl, .inl (.inl hpt), atI_nat (j := 3) rfl, _, rfl, pt, _, 1, _, rfl, rfl, .inl (.inl hpt), atI_nat (j := 1) rfl, _, rfl, pt, _, 5, _, rfl, rfl, .inl (.inl hpt), atI_nat (j := 5) rfl, ?_⟩
    refine ⟨p, r, t, i, rfl, hG3, hok, h200, by omega, find_atN hnd ht, okt, fun qa pa H4 nq hpa m4 hG4 hqa => ?_⟩
    have hA4 := purse_2 hA3 m4 nta nda
    have hl4 := m4 _ _ nlt nld hl3
    have hT4 := tels_2 hT3 hG3 m4
    have x03 := x02.trans (sx s3)
    refine ⟨_, rfl, rfl, _, rfl, ite_b (fun c2 => ?_) (fun c2 => ?_)⟩
    · -- what is left
      refine ⟨_, rfl, _, rfl, _, rfl, l, _, rfl, .inl (.inl hl4), fun u1 nu1 => ?_⟩
      rw [cut_to]
      have s5 := same_new (o := .lst ((as.map V.ref).take i)) nu1
      have hu1 : upd H4 u1 (.lst ((as.map V.ref).take i)) u1 = some (.lst ((as.map V.ref).take i)) := upd_same
      have hl5 := s5 _ _ hl4
      generalize upd H4 u1 (.lst ((as.map V.ref).take i)) = H5 at s5 hu1 hl5
      refine ⟨_, rfl, _, rfl, _, _, rfl, rfl, _, rfl, l, _, rfl, .inl (.inl hl5), fun u2 nu2 => ?_⟩
      rw [show (i : Int) + 1 = ((i + 1 : Nat) : Int) by omega, cut_from]
      have s6 := same_new (o := .lst ((as.map V.ref).drop (i + 1))) nu2
      have hu2 : upd H5 u2 (.lst ((as.map V.ref).drop (i + 1))) u2 = some (.lst ((as.map V.ref).drop (i + 1))) := upd_same
      have hu16 := s6 _ _ hu1
      generalize upd H5 u2 (.lst ((as.map V.ref).drop (i + 1))) = H6 at s6 hu2 hu16
      refine ⟨u1, u2, _, _, rfl, rfl, hu16, hu2, lzl (by rw [List.length_take, List.length_drop, List.length_map]; omega), fun u3 nu3 => ?_⟩
      have s7 := same_new (o := .lst ((as.map V.ref).take i ++ (as.map V.ref).drop (i + 1))) nu3
      have e : (as.map V.ref).take i ++ (as.map V.ref).drop (i + 1) = (as.eraseIdx i).map V.ref := by
        rw [← List.map_take, ← List.map_drop, ← List.map_append, List.eraseIdx_eq_take_drop_succ]
      have s47 := s5.trans (s6.trans s7)
      have hG7 := hG4.same s47
      have n7 : u3 ≠ r.td ∧ u3 ≠ r.dd := by
        have h1 := (hG4.same (s5.trans s6)).told
        have h2 := (hG4.same (s5.trans s6)).deeds
        exact ⟨(ne_of_none h1 nu3).symm, (ne_of_none h2 nu3).symm⟩
      refine q u3 (as.eraseIdx i) (r.cut i qa) _ (hA4.same s47) ((sg_x x03).trans ((sg_2 m4).trans (sg_s s47))) hG7 rfl rfl rfl rfl (fun z hz => List.mem_of_mem_eraseIdx hz) (hnd.sublist ((List.eraseIdx_sublist r.ts i).map keyS)) (by show (r.ts.eraseIdx i).length ≤ _; rw [List.length_eraseIdx]; split <;> omega) (by show (r.ds ++ [V.ref qa]).length ≤ _; rw [List.length_append]; exact Nat.le_refl _) (by rw [upd_same, e]) ?_ n7.1 n7.2 (((hA4.same s5).same s6).ne nu3)
      exact each_erase i (hT4.keep (tk_same s47))
    · -- taken back
      have hpas : TelsAt H4 r.as r.ts := tels_2 hG3.tels hG3 m4
      obtain ⟨t', ht', hpa4⟩ := Each.get hpas hpa
      rw [ht] at ht'
      cases ht'
      obtain ⟨dx4, hp4⟩ := hG4.at_
      refine ⟨_, rfl, p, dx4, _, rfl, hp4, gf_no _ _ _, p, r.cut i qa, rfl, hG4, by show (r.ts.eraseIdx i).length ≤ 200; rw [List.length_eraseIdx]; split <;> omega, .inr ⟨i, qa, pa, t, r.ds, rfl, hqa, hpa4, by omega, fun H5 m5 hG5 => ⟨_, rfl, ?_⟩⟩⟩
      have m5 : Same2 r.td r.dd H4 H5 := m5
      have ets : (r.ts.eraseIdx i).take i ++ [t] ++ (r.ts.eraseIdx i).drop i = r.ts := put_back ht
      have hT5 : TelsAt H5 as r.ts := by
        refine hT4.keep fun b xs e => m5 b _ (fun z => ?_) (fun z => ?_) e
        · have := hG4.told
          rw [show (r.cut i qa).td = r.td from rfl, ← z, e] at this
          cases this
        · have := hG4.deeds
          rw [show (r.cut i qa).dd = r.dd from rfl, ← z, e] at this
          cases this
      refine q l as _ H5 (purse_2 hA4 m5 nta nda) ((sg_x x03).trans ((sg_2 m4).trans (sg_2 m5))) hG5 rfl rfl rfl rfl (fun z hz => ?_) ?_ ?_ (by show r.ds.length ≤ _; omega) (m5 _ _ nlt nld hl4) ?_ nlt nld nla
      · have hz : z ∈ (r.ts.eraseIdx i).take i ++ [t] ++ (r.ts.eraseIdx i).drop i := hz
        rw [ets] at hz
        exact hz
      · show (((r.ts.eraseIdx i).take i ++ [t] ++ (r.ts.eraseIdx i).drop i).map keyS).Nodup
        rw [ets]
        exact hnd
      · show ((r.ts.eraseIdx i).take i ++ [t] ++ (r.ts.eraseIdx i).drop i).length ≤ _
        rw [ets]
        exact Nat.le_refl _
      · show TelsAt H5 as ((r.ts.eraseIdx i).take i ++ [t] ++ (r.ts.eraseIdx i).drop i)
        rw [ets]
        exact hT5
end
end Wl

namespace Wl
open PySem PySem.Spec PyProof.Rows L2
section
variable {g : Grid} {ts : List Tel} {t : Tel} {n : PR} {x0 x1 x2 x3 x4 x5 x6 : V}
theorem dueP_some (h : duePt g x0 x1 x2 x3 x4 x5 x6 = some n) : dueP g ts x0 x1 x2 x3 x4 x5 x6 = some n := by
  unfold dueP
  rw [h]
theorem name_good {z : Str} (h : IsWd z) (hv : z ∈ names g) : nameB g (.str z) = true := by
  show (wdB z && decide (z ∈ names g)) = true
  rw [show wdB z = true from h, decide_eq_true hv]
  rfl
theorem age_good {n : Nat} (h : n ≤ 120) : ageB (.int (n : Int)) = true := by
  show (decide ((0 : Int) ≤ (n : Int)) && decide ((n : Int) ≤ 120)) = true
  rw [decide_eq_true (by omega), decide_eq_true (by omega)]
  rfl
theorem duePt_good (h : OkT t) (hv : t.v ∈ names g) : duePt g (.str t.v) (.str t.th) (.str t.wo) (.str t.tl) (.int (t.age : Int)) (.str t.g) (.bl t.sure) = none := by
  unfold duePt
  rw [name_good h.v hv, show wvB (.str t.th) = true from h.th, show wvB (.str t.wo) = true from h.wo, show wvB (.str t.tl) = true from h.tl, age_good h.age, show wvB (.str t.g) = true from h.g, show truB (.bl t.sure) = true from rfl]
  rfl
end
section
variable {P : Program} {w : World} {K : PySem.W.Frag} {mg : Str → Option Value} {base : Heap} {f C D : Addr} {fd : FuncData}
end
end Wl




/-! joined. -/
namespace Wl
open PySem PySem.Spec PyProof.Rows L2
theorem telOf_good (t : Tel) : telOf (.str t.v) (.str t.th) (.str t.wo) (.str t.tl) (.int (t.age : Int)) (.str t.g) (.bl t.sure) = some t := by
  cases t
  simp [telOf]
theorem due_good {g : Grid} {ts : List Tel} {t : Tel} (h : OkT t) (hv : t.v ∈ names g) : dueP g ts (.str t.v) (.str t.th) (.str t.wo) (.str t.tl) (.int (t.age : Int)) (.str t.g) (.bl t.sure) = if keyS t ∈ ts.map keyS then some (.told t) else if 200 ≤ ts.length then some .full else none := by
  unfold dueP
  rw [duePt_good h hv, telOf_good]
theorem odd_tel {H : Hp} {t : Tel} (h : OkT t) : Odd7 H (.str t.v) (.str t.th) (.str t.wo) (.str t.tl) (.int (t.age : Int)) (.str t.g) (.bl t.sure) :=
  ⟨.inl ⟨_, rfl, by have := h.v.len; omega⟩, .inl ⟨_, rfl, by have := h.th.len; omega⟩, .inl ⟨_, rfl, by have := h.wo.len; omega⟩, .inl ⟨_, rfl, by have := h.tl.len; omega⟩, .inr (.inr (.inr (.inl ⟨_, rfl⟩))), .inl ⟨_, rfl, by have := h.g.len; omega⟩, .inr (.inr (.inl ⟨_, rfl⟩))⟩
section
variable {P : Program} {w : World} {K : PySem.W.Frag} {mg : Str → Option Value} {base : Heap} {f C D cM cL : Addr} {x : XA} {fd : FuncData}
end
end Wl



/-! Calls that may raise, where the clause that catches reads locals: what is wished of the exception knows the slots. -/
namespace Wl
open PySem PySem.Spec PyProof.Rows L2
section
variable {X : Cx} {k j : Nat} {f C : Addr} {fd : FuncData} {ps : List Str} {sp : Sp} {x m : Str} {p pos apos : Pos} {e o : Expr} {es : List Expr} {ta : TE} {t : TA} {W : WX}
theorem run_fnS {pins : List (Addr × Obj)} {σ : L2.St} {H : Hp} {s : Shared} {Q : VK} {us : List Value} {vs : List V} (F : FnOk X.prog X.w X.K X.mg X.base (L2N.CX X.prog X.w) k f fd ps sp) (hr : Room k X.A) (hb : Binds X.K fd ps []) (tk : L2N.Takes X W)
    (I : Inv X pins σ H s) (r : Vals vs us) (h : sp vs H Q (fun cls d H => W cls d σ H)) : wpAny (model X.prog X.w) X.A (call (.ref f) us) (EP X pins σ Q) X.xe s := by
  have hl : us.length = ps.length := by rw [← r.length]; exact F.len _ _ _ _ h
  have bb : BindsTo s fd ⟨us, []⟩ (ps.zip us) := by
    have b0 := hb s us I.kIn (by rw [List.append_nil]; exact hl)
    rw [List.append_nil] at b0
    exact b0
  refine wpAny_call (codeAny_mono (F.run X.A X.stack s H ⟨us, []⟩ us vs Q _ hr I.env0 bb r h) fun r s' hq => ?_)
  cases r with
  | error e => exact tk e s' (L2N.XE.of_call I (fun _ _ _ h => h) hq)
  | ok fl =>
    cases fl with
    | ret u => exact I.after hq
    | next => exact False.elim hq
    | brk => exact False.elim hq
    | cont => exact False.elim hq
def tCallS (sp : Sp) (W : WX) (t : TA) : TE := fun σ H Q => t σ H fun vs H1 => sp vs H1 Q (fun cls d H => W cls d σ H)
def tMethS (C : Addr) (m : Str) (sp : Sp) (W : WX) (ta : TE) (t : TA) : TE := fun σ H Q => ta σ H fun x H1 => ∃ a dx fs, x = .ref a ∧ H1 a = some (.ins C dx fs) ∧ fs.lookup m = none ∧ t σ H1 fun vs H2 => sp (x :: vs) H2 Q (fun cls d H => W cls d σ H)
theorem pe_hxS (h : HasX X.prog X.w X.K X.mg X.base x k ps sp) (hr : Room j X.A) (tk : L2N.Takes X W) (ha : PA X (e :: es) t) (hkj : k ≤ j := by decide) (hg : Gl X x := by rfl) (hdb : (x == ("__debug__" : Str)) = false := by decide)
    (he : starEach (e :: es) X.env = (false, eval e X.env) :: starEach es X.env := by rfl) (hpl : (backTo pos (starEach es X.env)).any (·.1) = false := by rfl) :
    PE X (.Call (.Name x p) (e :: es) [] pos) (tCallS sp W t) := by
  obtain ⟨f, fd, F, g, kp, b⟩ := h
  refine ⟨fun pins s σ H Q I h => ?_⟩
  refine wpAny_Call_Name_kw (ld_glob I hg g ?_ hdb)
  refine PySem.W.callWith_K (h₀ := X.base) I.ok.mod.kin kp (thn (ha.run pos pins s σ H _ I h) fun us s1 ⟨vs, H1, I1, r, q⟩ => ⟨I1.kIn, ?_⟩) he hpl
  exact run_fnS F (hr.mono hkj) b tk I1 r q
theorem pe_hmxS {pl : Sem Bool} (h : HasMX X.prog X.w X.K X.mg X.base C m k ps sp) (c : Cls X.K C) (hr : Room j X.A) (tk : L2N.Takes X W) (ho : PE X o ta) (ha : PA X (e :: es) t) (hkj : k ≤ j := by decide)
    (hst : starEach (e :: es) X.env = (false, eval e X.env) :: starEach es X.env := by rfl) (hpl : (backTo pos (starEach es X.env)).any (·.1) = false := by rfl)
    (ht : eval (.Call (.Attribute o m apos) (e :: es) [] pos) X.env = (do
      let ov ← eval o X.env
      standAt apos.atName
      let (f, first) ← holding [ov] (getMethod ov m pl)
      callWith pos f first (backTo pos (starEach (e :: es) X.env)) (backToKw pos (keywordEach [] X.env))) := by rfl) :
    PE X (.Call (.Attribute o m apos) (e :: es) [] pos) (tMethS C m sp W ta t) := by
  obtain ⟨f, fd, F, g, b⟩ := h
  refine ⟨fun pins s σ H Q I h => ?_⟩
  refine PySem.W.methodCall_KW (pl := pl) (thn (ho.run pins s σ H _ I h) fun u s1 ⟨x, H1, I1, rx, a, dx, fs, ex, ea, l, q⟩ => ?_) ht
  subst ex
  obtain rfl : u = Value.ref a := rx
  refine getmeth_ok I1 ea c g l ?_
  refine PySem.W.callWith_K (first := [.ref a]) (h₀ := X.base) I.ok.mod.kin g.kp (thn (ha.run pos pins s1 σ H1 _ I1 q) fun us s2 ⟨vs, H2, I2, r, q2⟩ => ⟨I2.kIn, ?_⟩) hst hpl
  exact run_fnS (us := .ref a :: us) (vs := .ref a :: vs) F (hr.mono hkj) b tk I2 (.cons rfl r) q2
theorem pe_hmx0S {pl : Sem Bool} (h : HasMX X.prog X.w X.K X.mg X.base C m k ps sp) (c : Cls X.K C) (hr : Room j X.A) (tk : L2N.Takes X W) (ho : PE X o ta) (hkj : k ≤ j := by decide)
    (ht : eval (.Call (.Attribute o m apos) [] [] pos) X.env = (do
      let ov ← eval o X.env
      standAt apos.atName
      let (f, first) ← holding [ov] (getMethod ov m pl)
      callWith pos f first (backTo pos (starEach [] X.env)) (backToKw pos (keywordEach [] X.env))) := by rfl) :
    PE X (.Call (.Attribute o m apos) [] [] pos) (tMethS C m sp W ta tNil) := by
  obtain ⟨f, fd, F, g, b⟩ := h
  refine ⟨fun pins s σ H Q I h => ?_⟩
  refine PySem.W.methodCall_KW (pl := pl) (thn (ho.run pins s σ H _ I h) fun u s1 ⟨x, H1, I1, rx, a, dx, fs, ex, ea, l, q⟩ => ?_) ht
  subst ex
  obtain rfl : u = Value.ref a := rx
  refine getmeth_ok I1 ea c g l ?_
  exact PySem.W.callWith_K0 (first := [.ref a]) I1.kIn g.kp (run_fnS (us := [.ref a]) (vs := [.ref a]) F (hr.mono hkj) b tk I1 (.cons rfl .nil) q)
end
end Wl

/-! Promises of defs that are kept where no text of a list, tuple or dict is being made around them: what repr of a list needs. -/
namespace Wl
open PySem PySem.Spec PyProof.Rows L2
structure FnOkG (P : Program) (w : World) (K : PySem.W.Frag) (mg : Str → Option Value) (base : Heap) (k : Nat) (f : Addr) (fd : FuncData) (ps : List Str) (sp : Sp) : Prop where
  len : ∀ vs H Q E, sp vs H Q E → vs.length = ps.length
  run : ∀ (A : Around) (outer : List Env) (s : Shared) (H : Hp) (args : Args) (us : List Value) (vs : List V) (Q : VK) (E : XK), A.guards = some [] → Room k A →
    Env0 P w K mg base A outer s H → BindsTo s fd args (ps.zip us) → Vals vs us → sp vs H Q E → codeAny (model P w) A (.call (.ref f) args) (CR CX0 outer P w H s Q E) s
section
variable {P : Program} {w : World} {K : PySem.W.Frag} {mg : Str → Option Value} {base : Heap} {k : Nat} {f : Addr} {fd : FuncData} {ps N : List Str} {sp : Sp}
theorem FnOkG.of (F : FnOk P w K mg base CX0 k f fd ps sp) : FnOkG P w K mg base k f fd ps sp := ⟨F.len, fun A o s H ar us vs Q E _ => F.run A o s H ar us vs Q E⟩
/-- a def's promise by its body, no such text being made -/
theorem okG {x qual : Str} {st : Stmt} (F : Fun K x qual st f fd) (S : FnScope N ps (defScope st)) (ln : ∀ vs H Q E, sp vs H Q E → vs.length = ps.length)
    (bd : ∀ (cdv : Value) (A : Around) (outer : List Env) (s : Shared) (H : Hp) (vs : List V) (Q : VK) (E : XK), A.guards = some [] → Room k (A.deeper (envOfC qual (defScope st) s.heap.objs.size f cdv)) → sp vs H Q E →
      ∃ t, PSs (cxOf CX0 P w K mg base N qual (defScope st) f cdv A outer s H E).nox (defBody st) t ∧ t { nx := fun _ H' => Q .non H', rt := Q } (start N vs) H) : FnOkG P w K mg base (k + 1) f fd ps sp := by
  obtain ⟨oc, od, kV, doc, pm, an, cd, ct, sl, rfl, at_, hc⟩ := F.ex
  refine ⟨ln, fun A ou s H ar us vs Q E hg room ev bnd rel pr => ?_⟩
  have lv := ln _ _ _ _ pr
  have inK : K.In s.heap := ev.mod.kin.keeps fun b o q => (ev.bs b o q).1
  have nol : s.heap.NoLimit := ev.mod.nolimit.keeps fun b o q => (ev.bs b o q).1
  refine codeAny_call_function room.depth (inK _ _ at_) rfl S.co S.gen rfl (PySem.W.codeRec_of inK hc) (bnd _ _ _ _ ?_)
  refine wpAny_newFunctionEnv_cells S.kind (fun y hy => ?_) fun env ee s1 ic => ?_
  · rcases S.par y.1 (List.of_mem_zip hy).1 with q | q
    · exact .inl q
    · exact .inr ⟨q, PySem.W.cellsFrom_some _ _ _ (.inl q)⟩
  · subst ee
    refine ⟨nol.keeps ic.toInCall.keep, codeAny_func ?_⟩
    obtain ⟨t, der, rd⟩ := bd cd A ou s H vs Q E hg (room.deeper _) pr
    have J0 : L2.Inv (cxOf CX0 P w K mg base N qual (defScope st) f cd A ou s H E) [] (start N vs) H s1 := inv_start S room.hd ev lv rel ic
    refine wpAny_mono (der.nox.run [] s1 (start N vs) H _ J0 rd) (fun fl s2 z => ?_) fun _ _ z => z
    cases fl with
    | ret u => exact let ⟨v, _, H2, J, rv, q⟩ := z; ⟨v, H2, J.os, J.bare, J.base, J.hok, rv, q⟩
    | next => exact let ⟨_, H2, J, q⟩ := z; ⟨V.non, H2, J.os, J.bare, J.base, J.hok, rfl, q⟩
    | brk => exact let ⟨_, _, _, q⟩ := z; q.elim
    | cont => exact let ⟨_, _, _, q⟩ := z; q.elim
/-- such a def by its name -/
def HasQ (P : Program) (w : World) (K : PySem.W.Frag) (mg : Str → Option Value) (base : Heap) (x : Str) (k : Nat) (ps : List Str) (sp : Sp) : Prop :=
  ∃ f fd, FnOkG P w K mg base k f fd ps sp ∧ mg x = some (.ref f) ∧ PySem.W.keepIn K (.ref f) = true ∧ Binds K fd ps []
end
section
variable {X : Cx} {k j : Nat} {ps : List Str} {sp : Sp} {x : Str} {p pos : Pos} {e : Expr} {es : List Expr} {t : TA}
theorem pe_hQ (h : HasQ X.prog X.w X.K X.mg X.base x k ps sp) (hgd : X.A.guards = some []) (hr : Room j X.A) (ha : PA X (e :: es) t) (hkj : k ≤ j := by decide) (hg : Gl X x := by rfl) (hdb : (x == ("__debug__" : Str)) = false := by decide)
    (he : starEach (e :: es) X.env = (false, eval e X.env) :: starEach es X.env := by rfl) (hpl : (backTo pos (starEach es X.env)).any (·.1) = false := by rfl) :
    PE X (.Call (.Name x p) (e :: es) [] pos) (tCall sp [] E0 t) := by
  obtain ⟨f, fd, F, g, kp, b⟩ := h
  refine ⟨fun pins s σ H Q I hh => ?_⟩
  refine wpAny_Call_Name_kw (ld_glob I hg g ?_ hdb)
  refine PySem.W.callWith_K (h₀ := X.base) I.ok.mod.kin kp (thn (ha.run pos pins s σ H _ I hh) fun us s1 ⟨vs, H1, I1, r, q⟩ => ⟨I1.kIn, ?_⟩) he hpl
  have q' : sp vs H1 Q E0 := by
    have z : sp (vs ++ []) H1 Q E0 := q
    rw [List.append_nil] at z
    exact z
  have hl := F.len _ _ _ _ q'
  have hb' : BindsTo s1 fd ⟨us, []⟩ (ps.zip us) := by
    have z := b s1 us I1.kIn (by rw [List.append_nil, ← r.length]; exact hl)
    rw [List.append_nil] at z
    exact z
  refine wpAny_call (codeAny_mono (F.run X.A X.stack s1 H1 ⟨us, []⟩ us vs _ E0 hgd (hr.mono hkj) I1.env0 hb' r q') fun r s' hq => ?_)
  cases r with
  | error e => exact pass0 pins σ H1 s1 e s' I1 hq
  | ok fl =>
    cases fl with
    | ret w => exact I1.after hq
    | next => exact hq.elim
    | brk => exact hq.elim
    | cont => exact hq.elim
end
/-- the law's own call, by such a promise -/
theorem law_callG {P : Program} {w : World} {K : PySem.W.Frag} {mg mb : Str → Option Value} {k : Nat} {fa a : Addr} {fd : FuncData} {x : Str} {sp : Sp} {s₁ : Shared} {vs : List Value} {ns : List Int}
    (KX : K.In s₁.heap) (hns : s₁.heap.Ns mainGlobals mg) (hb : s₁.heap.Ns builtinsNs mb) (hbb : ∀ x : Str, x ≠ "__name__" → mb x = bootBuiltins x) (lim : s₁.heap.NoLimit) (gens : s₁.gens = #[])
    (ha : s₁.heap.get? a = some { cls := .type "list", data := .seq vs.toArray }) (hi : IntsAre vs ns) (hl : ns.length ≤ sizeLine) (room : Room k callerA)
    (F : ∀ base : Heap, K.In base → base.Ns mainGlobals mg → FnOkG P w K mg base k fa fd [x] sp) (bnd : ∀ (s : Shared) (u : Value), BindsTo s fd ⟨[u], []⟩ [(x, u)])
    (pr : ∀ H : Hp, Only H → SqL K H a (ns.map V.int) → sp [.ref a] H (fun v _ => v = .bl true) E0) :
    codeAny (model P w) callerA (.call (.ref fa) ⟨[.ref a], []⟩) (fun r s' => r = .ok (.ret (.bool true)) ∧ OldK s₁.heap s'.heap ∧ s'.os = s₁.os ∧ AllBare s'.gens) s₁ := by
  have rv := vals_ints hi
  have main : ∀ H : Hp, Only H → SqL K H a (ns.map V.int) → HOk P w H s₁.heap → (∀ b u, H b = some u → b = a ∧ K.lookup a = none) →
      codeAny (model P w) callerA (.call (.ref fa) ⟨[.ref a], []⟩) (fun r s' => r = .ok (.ret (.bool true)) ∧ OldK s₁.heap s'.heap ∧ s'.os = s₁.os ∧ AllBare s'.gens) s₁ := by
    intro H only sq hok own
    have free : ∀ b, (b = a → K.lookup a ≠ none) → H b = none := fun b hn => by
      cases q : H b with
      | none => rfl
      | some u => exact absurd (own b u q).2 (hn (own b u q).1)
    have dictN : ∀ {b : Addr} {o : Obj} {es : Array DictEntry} {ep : Nat}, s₁.heap.get? b = some o → o.data = .dict es ep → H b = none := fun {b o es ep} e d => by
      cases q : H b with
      | none => rfl
      | some u =>
        obtain ⟨rfl, _⟩ := own b u q
        rw [ha] at e
        cases e
        cases d
    have nsB : ∀ {b : Addr} {m : Str → Option Value}, s₁.heap.Ns b m → (hidT s₁.heap H).Ns b m := fun {b m} ⟨o, es, ep, e, d, r⟩ => ⟨o, es, ep, hidT_get e (dictN e d), d, r⟩
    have kB : K.In (hidT s₁.heap H) := fun b o e => hidT_get (KX b o e) (free b fun z q => by rw [z, q] at e; cases e)
    have md : Mod K mg (hidT s₁.heap H) := ⟨kB, nsB hns, ⟨mb, nsB hb, hbb⟩, let ⟨mc, h1, h2⟩ := lim; ⟨mc, nsB h1, h2⟩⟩
    have ev : Env0 P w K mg (hidT s₁.heap H) callerA [] s₁ H := ⟨rfl, md, fun _ _ e => of_hidT e, Nat.le_of_eq (hidT_size _ _), trivial, fun b z => absurd (show b ∈ ([] : List Addr) from z) (by simp), hok, .of_eq gens⟩
    refine codeAny_mono ((F _ kB (nsB hns)).run callerA [] s₁ H ⟨[.ref a], []⟩ [.ref a] [.ref a] _ _ rfl room ev (bnd s₁ (.ref a)) (.cons rfl .nil) (pr H only sq)) fun r s' h => ?_
    match r, h with
    | .error e, h => exact (show False from h).elim
    | .ok .next, h => exact h.elim
    | .ok .brk, h => exact h.elim
    | .ok .cont, h => exact h.elim
    | .ok (.ret u), ⟨v, H', os, bare, un, hok', r', q⟩ =>
      obtain rfl : v = .bl true := q
      obtain rfl : u = Value.bool true := r'
      refine ⟨rfl, OldK.of_keep fun b o e => ?_, os, bare⟩
      rcases only b with z | ⟨ob, xs, z⟩
      · exact un.keep b o e z (fun y => absurd (show b ∈ ([] : List Addr) from y) (by simp)) (by simp)
      · have e1 := (hok b _ z).1
        rw [e] at e1
        cases e1
        exact (hok' b _ (un.frzs b _ _ z)).1
  cases hk : K.lookup a with
  | some o =>
    have e := KX a o hk
    rw [ha] at e
    cases e
    refine main (fun _ => none) (fun _ => .inl rfl) (.inr ⟨_, vs.toArray, _, hk, rfl, rfl, rfl, ?_, by simpa using rv⟩) (fun b u z => nomatch z) fun b u z => nomatch z
    rw [List.size_toArray, hi.length]
    exact hl
  | none =>
    have at_ : ∀ b u, (if b = a then some (HO.frz { cls := .type "list", data := .seq vs.toArray } (.lst (ns.map V.int))) else none) = some u → b = a ∧ u = HO.frz { cls := .type "list", data := .seq vs.toArray } (.lst (ns.map V.int)) := fun b u z => by
      by_cases c : b = a
      · rw [if_pos c] at z
        exact ⟨c, (Option.some.inj z).symm⟩
      · rw [if_neg c] at z
        cases z
    refine main (fun b => if b = a then some (.frz { cls := .type "list", data := .seq vs.toArray } (.lst (ns.map V.int))) else none) (fun b => ?_) (.inl (.inr ⟨_, if_pos rfl⟩)) (fun b u z => ?_) fun b u z => ⟨(at_ b u z).1, hk⟩
    · by_cases c : b = a
      · exact .inr ⟨_, _, if_pos c⟩
      · exact .inl (if_neg c)
    · obtain ⟨rfl, rfl⟩ := at_ b u z
      exact ⟨ha, by rw [List.length_map]; exact hl, vs, _, rv, ha⟩
theorem walk_ofG {l : PySem.W.OpenLaw} {n k : Nat} {q : Program} {loose : List Str} {XP : (Str → Option Value) → Heap → Prop} {YP : World → Heap → Prop} {d : DefRec} {x : Str}
    (hn : l.most = some n) (hn2 : n ≤ sizeLine) (hdf : d.params.defaults = []) (hr : Room k callerA)
    (F : ∀ (w : World) (mg : Str → Option Value) (fa : Addr) (h : Heap), YP w h → h.Ns mainGlobals mg → mg d.name = some (.ref fa) →
      ∃ (K : PySem.W.Frag) (fd : FuncData) (sp : Sp), K.In h ∧ (∀ (s : Shared) (u : Value), BindsTo s fd ⟨[u], []⟩ [(x, u)]) ∧ (∀ (H : Hp) (a : Addr) (ns : List Int), ns.length ≤ n → Only H → SqL K H a (ns.map V.int) → sp [.ref a] H (fun v _ => v = .bl true) E0) ∧
        ∀ base : Heap, K.In base → base.Ns mainGlobals mg → FnOkG l.prog w K mg base k fa fd [x] sp) :
    PySem.W.WalkO q loose XP YP l.row.toRowW d [] (fun f vs => PySem.call f vs) := by
  refine Att.attach_call hn hdf fun w s₀ s₁ mg mb fa o pm cd doc a vs ns G Y ho hd hcd hmg hobj hints hlen hg => ?_
  obtain ⟨K, fd, sp, inK, bnd, pr, keeps⟩ := F w mg fa _ Y G.T.g hmg
  exact law_callG inK G.T.g G.T.b G.T.builtins G.T.nolimit hg hobj hints (Nat.le_trans hlen hn2) hr keeps bnd fun H only sq => pr H a ns hlen only sq
end Wl

namespace Wl
open PySem PySem.Spec PyProof.Rows L2
section
variable {P : Program} {w : World} {K : PySem.W.Frag} {mg : Str → Option Value} {base : Heap} {f C D cB : Addr} {fd : FuncData}
/-! ### back where nothing is left to take back -/
def spBackR (cB C D : Addr) : Sp := fun vs H Q E => ∃ (p : Addr) (r : GR), vs = [.ref p] ∧ GatAt C D H p r ∧ r.ds = [] ∧ E (.ref cB) none H
theorem ok_backR (F : Fun K "back" "Gathering.back" sGBack f fd) (TG : TxtG K mg D) (TB : OwnN K mg "NoBack" cB) : FnOk P w K mg base (L2N.CX P w) 1 f fd ["self"] (spBackR cB C D) := by
  refine Fun_okN F scBack (fun vs H Q E h => ?_) (fun cdv A outer s H vs Q E hr h => ?_)
  · obtain ⟨p, r, rfl, _⟩ := h
    rfl
  · obtain ⟨p, r, rfl, hG, hds, q⟩ := h
    refine ⟨_, pss_cons (ps_if (pt_not (pt_truth (pe_fld (pv 0) rfl) (fun _ => rfl))) (pss_one (ps_raiseN rfl TB (L2N.takes_of rfl rfl rfl rfl))) pss_nil) pss_never, ?_⟩
    obtain ⟨dx, hp⟩ := hG.at_
    refine ⟨_, rfl, p, D, dx, _, _, rfl, hp, TG.cl, TG.nD, gf_deeds _ _ _, !r.ds.isEmpty, .inl ⟨_, .inl (.inl hG.deeds), rfl⟩, ?_⟩
    rw [hds]
    exact iteT q
def spBackX (cB C D : Addr) : Sp := fun vs H Q E => spBack C D vs H Q E ∨ spBackR cB C D vs H Q E
theorem w_hit {Wout : WX} {D : Ends} {m : Value → Option Bool} {ts : ClT} {r : List ((Value → Option Bool) × ClT)} {cls : Value} {d : Option Addr} {σ : L2.St} {H : Hp} (h : m cls = some true) (k : ∀ a, H a = none → ts a D σ (upd H a (exH a cls d))) : wCls Wout D ((m, ts) :: r) cls d σ H :=
  ⟨true, h, fun _ => k, fun z => by cases z⟩
end
end Wl



/-! nothing is left to take back. -/
namespace Wl
open PySem PySem.Spec PyProof.Rows L2
abbrev sNoBack : Stmt := topS 71
section
variable {P : Program} {w : World} {K : PySem.W.Frag} {mg : Str → Option Value} {base : Heap} {f C D cB : Addr} {fd : FuncData}
def spNoBack (C D : Addr) : Sp := fun vs H Q _ => ∃ (p : Addr) (r : GR), vs = [.ref p] ∧ GatAt C D H p r ∧ r.ds = [] ∧ ∀ H', Same H H' → Q (.bl true) H'
theorem scNoBack : FnScope ["_law_kept"] ["_law_kept"] (defScope sNoBack) := ⟨rfl, rfl, rfl, by decide +kernel, rfl, by decide +kernel, by decide +kernel⟩
theorem ok_noback (F : Fun K "_law_no_back" "_law_no_back" sNoBack f fd) (TG : TxtG K mg D) (TB : OwnN K mg "NoBack" cB) (mBB : PySem.W.exmOne K (.ref cB) (.ref cB) = some true) (hBk : HasMX P w K mg base D "back" 1 ["self"] (spBackX cB C D)) : FnOk P w K mg base CX0 2 f fd ["_law_kept"] (spNoBack C D) := by
  refine F.ok scNoBack (fun vs H Q E h => ?_) (fun cdv A outer s H vs Q E hr h => ?_)
  · obtain ⟨p, r, rfl, _⟩ := h
    rfl
  · obtain ⟨p, r, rfl, hG, hds, q⟩ := h
    refine ⟨_, pss_cons (ps_tryE (l := [(fun cls => PySem.W.exmOne K cls (.ref cB), fun _ => tRet (tC (.bl true)))]) rfl rfl rfl scNoBack.nd takes_noN
        (fun W pn xe tk po => pss_one (ps_expr (pe_hmx0S hBk TG.cl hr tk (pv 0))))
        (.one (test_one ⟨by rfl, by decide, .inl TB.gC⟩) (fun a pn => pss_one (ps_ret pe_bl)) .nil))
      (pss_one (ps_ret pe_bl)), ?_⟩
    obtain ⟨dx, hp⟩ := hG.at_
    refine ⟨_, rfl, p, dx, _, rfl, hp, gf_no _ _ _, .inr ⟨p, r, rfl, hG, hds, w_hit mBB fun ea hea => ?_⟩⟩
    exact q _ (same_new hea)
end
end Wl


/-! A method with values left out, called where it may raise and where the clause that catches reads or sets locals. -/
namespace Wl
open PySem PySem.Spec PyProof.Rows L2
section
variable {X : Cx} {k j : Nat} {f C : Addr} {fd : FuncData} {ps : List Str} {sp : Sp} {x m : Str} {p pos apos : Pos} {e o : Expr} {es : List Expr} {ta : TE} {t : TA} {W : WX} {ds : List Value} {dvs : List V}
theorem run_fnSD {pins : List (Addr × Obj)} {σ : L2.St} {H : Hp} {s : Shared} {Q : VK} {us : List Value} {vs : List V} (F : FnOk X.prog X.w X.K X.mg X.base (L2N.CX X.prog X.w) k f fd ps sp) (hr : Room k X.A) (hb : Binds X.K fd ps ds) (hd : Vals dvs ds) (tk : L2N.Takes X W)
    (I : Inv X pins σ H s) (r : Vals vs us) (h : sp (vs ++ dvs) H Q (fun cls d H => W cls d σ H)) : wpAny (model X.prog X.w) X.A (call (.ref f) us) (EP X pins σ Q) X.xe s := by
  have r2 : Vals (vs ++ dvs) (us ++ ds) := r.append hd
  have hl : (us ++ ds).length = ps.length := by rw [← r2.length]; exact F.len _ _ _ _ h
  have bb : BindsTo s fd ⟨us, []⟩ (ps.zip (us ++ ds)) := hb s us I.kIn hl
  refine wpAny_call (codeAny_mono (F.run X.A X.stack s H ⟨us, []⟩ (us ++ ds) (vs ++ dvs) Q _ hr I.env0 bb r2 h) fun r s' hq => ?_)
  cases r with
  | error e => exact tk e s' (L2N.XE.of_call I (fun _ _ _ h => h) hq)
  | ok fl =>
    cases fl with
    | ret u => exact I.after hq
    | next => exact False.elim hq
    | brk => exact False.elim hq
    | cont => exact False.elim hq
def tMethSD (C : Addr) (m : Str) (sp : Sp) (dvs : List V) (W : WX) (ta : TE) (t : TA) : TE := fun σ H Q => ta σ H fun x H1 => ∃ a dx fs, x = .ref a ∧ H1 a = some (.ins C dx fs) ∧ fs.lookup m = none ∧ t σ H1 fun vs H2 => sp (x :: vs ++ dvs) H2 Q (fun cls d H => W cls d σ H)
theorem pe_methSD {pl : Sem Bool} (ho : PE X o ta) (c : Cls X.K C) (g : Meth X.K C m f) (F : FnOk X.prog X.w X.K X.mg X.base (L2N.CX X.prog X.w) k f fd ps sp) (hr : Room k X.A) (b : Binds X.K fd ps ds) (hd : Vals dvs ds) (tk : L2N.Takes X W) (ha : PA X (e :: es) t)
    (hst : starEach (e :: es) X.env = (false, eval e X.env) :: starEach es X.env := by rfl) (hpl : (backTo pos (starEach es X.env)).any (·.1) = false := by rfl)
    (ht : eval (.Call (.Attribute o m apos) (e :: es) [] pos) X.env = (do
      let ov ← eval o X.env
      standAt apos.atName
      let (f, first) ← holding [ov] (getMethod ov m pl)
      callWith pos f first (backTo pos (starEach (e :: es) X.env)) (backToKw pos (keywordEach [] X.env))) := by rfl) :
    PE X (.Call (.Attribute o m apos) (e :: es) [] pos) (tMethSD C m sp dvs W ta t) := by
  refine ⟨fun pins s σ H Q I h => ?_⟩
  refine PySem.W.methodCall_KW (pl := pl) (thn (ho.run pins s σ H _ I h) fun u s1 ⟨x, H1, I1, rx, a, dx, fs, ex, ea, l, q⟩ => ?_) ht
  subst ex
  obtain rfl : u = Value.ref a := rx
  refine getmeth_ok I1 ea c g l ?_
  refine PySem.W.callWith_K (first := [.ref a]) (h₀ := X.base) I.ok.mod.kin g.kp (thn (ha.run pos pins s1 σ H1 _ I1 q) fun us s2 ⟨vs, H2, I2, r, q2⟩ => ⟨I2.kIn, ?_⟩) hst hpl
  exact run_fnSD (us := .ref a :: us) (vs := .ref a :: vs) F hr b hd tk I2 (.cons rfl r) q2
end
end Wl

/-! what a telling put in by place does. -/
namespace Wl
open PySem PySem.Spec PyProof.Rows L2
abbrev sPutTold : Stmt := topS 72
theorem w_skip {Wout : WX} {D : Ends} {m : Value → Option Bool} {ts : ClT} {r : List ((Value → Option Bool) × ClT)} {cls : Value} {d : Option Addr} {σ : L2.St} {H : Hp} (h : m cls = some false) (k : wCls Wout D r cls d σ H) : wCls Wout D ((m, ts) :: r) cls d σ H :=
  ⟨false, h, fun z => (by cases z), fun _ => k⟩
section
variable {P : Program} {w : World} {K : PySem.W.Frag} {mg : Str → Option Value} {base : Heap} {f C D : Addr} {x : XA} {fd : FuncData}
def spPutT (C D : Addr) : Sp := fun vs H Q _ => ∃ (p rp : Addr) (r : GR) (wd : Nat) (t : Tel), vs = [.ref p, .ref rp] ∧ H rp = some (.tup (telV t)) ∧ GatAt C D H p r ∧ Good r.g wd ∧ (∀ u ∈ r.ts, OkT u) ∧ OkT t ∧ t.v ∈ names r.g ∧ r.ts.length ≤ 200 ∧ r.ds.length < 1000 ∧
  (keyS t ∈ r.ts.map keyS → ∀ (u kq : Addr) (H' : Hp), Same H H' → H' kq = some (.tup (keyV t)) → H' u = some (.tup [.str "told", .ref kq]) → Q (.ref u) H') ∧
  (keyS t ∉ r.ts.map keyS → r.ts.length = 200 → ∀ (u : Addr) (H' : Hp), Same H H' → H' u = some (.tup [.str "full", .int 200]) → Q (.ref u) H') ∧
  (keyS t ∉ r.ts.map keyS → r.ts.length < 200 → ∀ (u q : Addr) (H' : Hp), H q = none → Same2 r.td r.dd H H' → GatAt C D H' p (r.add q t) → H' u = some (.tup [.str "put", .non]) → Q (.ref u) H')
abbrev nPutT : List Str := ["_law_kept", "_law_row", "e"]
theorem scPutT : FnScope nPutT ["_law_kept", "_law_row"] (defScope sPutTold) := ⟨rfl, rfl, rfl, by decide +kernel, rfl, by decide +kernel, by decide +kernel⟩
def clT (K : PySem.W.Frag) (c : Addr) (z f : Str) : (Value → Option Bool) × ClT := (fun cls => PySem.W.exmOne K cls (.ref c), tAs 2 (fun _ => tRet (tTup (tCons (tC (.str z)) (tCons (tXf K f (tVar 2)) tNil)))))
theorem ok_putt (F : Fun K "_law_put_told" "_law_put_told" sPutTold f fd) (TG : TxtG K mg D) (TT : OwnX K mg "Told" "key" x.cT) (TF : OwnX K mg "Full" "many" x.cF) (xfT : XfC K x.cT) (xfF : XfC K x.cF) (mTT : PySem.W.exmOne K (.ref x.cT) (.ref x.cT) = some true) (mFT : PySem.W.exmOne K (.ref x.cF) (.ref x.cT) = some false) (mFF : PySem.W.exmOne K (.ref x.cF) (.ref x.cF) = some true)
    (hPA : HasPA P w K mg base x C D) : FnOk P w K mg base CX0 5 f fd ["_law_kept", "_law_row"] (spPutT C D) := by
  obtain ⟨fP, fdP, FP, mP, fnP⟩ := hPA
  have b8 := put_b8 fnP
  refine F.ok scPutT (fun vs H Q E h => ?_) (fun cdv A outer s H vs Q E hr h => ?_)
  · obtain ⟨p, rp, r, wd, t, rfl, _⟩ := h
    rfl
  · obtain ⟨p, rp, r, wd, t, rfl, hrp, hG, gd, hok, okt, hv, h200, hds, q1, q2, q3⟩ := h
    refine ⟨_, pss_cons (ps_tryE (l := [clT K x.cT "told" "key", clT K x.cF "full" "many"]) rfl rfl rfl scPutT.nd takes_noN
          (fun W pn xe tk po => pss_one (ps_expr (pe_methSD (pv 0) TG.cl mP FP (hr.mono (by decide)) b8 .nil tk (pa_cons (pe_ix (ix_tup : IxR _ (rIxT K)) (pv 1) pe_int (fun _ _ => rfl)) (pa_cons (pe_ix (ix_tup : IxR _ (rIxT K)) (pv 1) pe_int (fun _ _ => rfl)) (pa_cons (pe_ix (ix_tup : IxR _ (rIxT K)) (pv 1) pe_int (fun _ _ => rfl)) (pa_cons (pe_ix (ix_tup : IxR _ (rIxT K)) (pv 1) pe_int (fun _ _ => rfl)) (pa_cons (pe_ix (ix_tup : IxR _ (rIxT K)) (pv 1) pe_int (fun _ _ => rfl)) (pa_cons (pe_ix (ix_tup : IxR _ (rIxT K)) (pv 1) pe_int (fun _ _ => rfl)) (pa_cons (pe_ix (ix_tup : IxR _ (rIxT K)) (pv 1) pe_int (fun _ _ => rfl)) pa_nil))))))))))
          (.as (i := 2) rfl rfl (test_one ⟨by rfl, by decide, .inl TT.gC⟩) (fun a pn => pss_one (ps_ret (pe_tup (pa_cons pe_str (pa_cons (Wl.pe_xf (pv 2)) pa_nil)))))
          (.as (i := 2) rfl rfl (test_one ⟨by rfl, by decide, .inl TF.gC⟩) (fun a pn => pss_one (ps_ret (pe_tup (pa_cons pe_str (pa_cons (Wl.pe_xf (pv 2)) pa_nil))))) .nil)))
      (pss_one (ps_ret (pe_tup (pa_cons pe_str (pa_cons pe_non pa_nil))))), ?_⟩
    obtain ⟨dx, hp⟩ := hG.at_
    have od := odd_tel (H := H) okt
    have hd := due_good (g := r.g) (ts := r.ts) okt hv
    refine ⟨_, rfl, p, dx, _, rfl, hp, gf_no _ _ _, _, rfl, rp, _, _, _, rfl, rfl, .inl (.inl hrp), atI_nat (j := 0) rfl, _, rfl, rp, _, _, _, rfl, rfl, .inl (.inl hrp), atI_nat (j := 1) rfl, _, rfl, rp, _, _, _, rfl, rfl, .inl (.inl hrp), atI_nat (j := 2) rfl, _, rfl, rp, _, _, _, rfl, rfl, .inl (.inl hrp), atI_nat (j := 3) rfl, _, rfl, rp, _, _, _, rfl, rfl, .inl (.inl hrp), atI_nat (j := 4) rfl, _, rfl, rp, _, _, _, rfl, rfl, .inl (.inl hrp), atI_nat (j := 5) rfl, _, rfl, rp, _, _, _, rfl, rfl, .inl (.inl hrp), atI_nat (j := 6) rfl, ?_⟩
    refine ⟨p, r, wd, _, _, _, _, _, _, _, rfl, hG, gd, hok, h200, hds, od, fun n e => ?_, fun e t' q' H' et nq m2 g2 => ?_⟩
    · have en := hd.symm.trans e
      by_cases hk : keyS t ∈ r.ts.map keyS
      · rw [if_pos hk] at en
        cases en
        intro kq d H1 s1 hkq hd1
        refine w_hit mTT fun ea hea => ?_
        have s2 := same_new (o := exH ea (.ref x.cT) (some d)) hea
        have hea1 : upd H1 ea (exH ea (.ref x.cT) (some d)) ea = some (exH ea (.ref x.cT) (some d)) := upd_same
        have hkq2 := s2 _ _ hkq
        have hd2 := s2 _ _ hd1
        generalize upd H1 ea (exH ea (.ref x.cT) (some d)) = H2 at s2 hea1 hkq2 hd2
        refine ⟨_, rfl, ea, x.cT, d, _, .ref kq, rfl, hea1, hd2, xfT, TT.no, rfl, lz, fun u nu => ?_⟩
        exact q1 hk u kq _ (s1.trans (s2.trans (same_new nu))) ((same_new nu) _ _ hkq2) upd_same
      · rw [if_neg hk] at en
        by_cases h2 : 200 ≤ r.ts.length
        · rw [if_pos h2] at en
          cases en
          intro d H1 s1 hd1
          refine w_skip mFT (w_hit mFF fun ea hea => ?_)
          have s2 := same_new (o := exH ea (.ref x.cF) (some d)) hea
          have hea1 : upd H1 ea (exH ea (.ref x.cF) (some d)) ea = some (exH ea (.ref x.cF) (some d)) := upd_same
          have hd2 := s2 _ _ hd1
          generalize upd H1 ea (exH ea (.ref x.cF) (some d)) = H2 at s2 hea1 hd2
          refine ⟨_, rfl, ea, x.cF, d, _, .int 200, rfl, hea1, hd2, xfF, TF.no, rfl, lz, fun u nu => ?_⟩
          exact q2 hk (by omega) u _ (s1.trans (s2.trans (same_new nu))) upd_same
        · rw [if_neg h2] at en
          cases en
    · have et : telV t = telV t' := et
      obtain rfl := telV_inj et
      have en := hd.symm.trans e
      by_cases hk : keyS t ∈ r.ts.map keyS
      · rw [if_pos hk] at en
        cases en
      · rw [if_neg hk] at en
        by_cases h2 : 200 ≤ r.ts.length
        · rw [if_pos h2] at en
          cases en
        · refine ⟨lz, fun u nu => ?_⟩
          exact q3 hk (by omega) u q' _ nq (m2.trans (Same2.of (same_new nu))) (g2.same (same_new nu)) upd_same
end
end Wl

/-! repr of data of any depth: a text that the data alone says. -/
namespace Wl
open PySem PySem.Spec PyProof.Rows L2
/-- data that can be shown -/
structure Shows (d : PyData) : Prop where
  lay : PyData.canLay0 d = true
  deep : d.depth ≤ 8
  wgt : d.weight ≤ 2 ^ 20
  sh : d.showable = true
  ish : d.intsShort 13 = true
theorem Shows.size {d : PyData} (h : Shows d) : d.shown.length ≤ sizeLine := by
  have h1 : PyData.layable0 d = true := by
    show (PyData.canLay0 d && decide (PyData.depth d ≤ 64) && decide (PyData.weight d ≤ 2 ^ 20)) = true
    rw [h.lay, decide_eq_true (Nat.le_trans h.deep (by decide)), decide_eq_true h.wgt]
    rfl
  exact Nat.le_trans (shown_le13 h1 h.ish) (by decide)
section
variable {X : Cx}
def rReprD (K : PySem.W.Frag) : List V → Hp → VK → Prop := fun xs H Q => ∃ (a : Addr) (d : PyData), xs = [V.ref a] ∧ Dp K H (.ref a) d ∧ Shows d ∧ Q (.str d.shown) H
theorem cr_reprD (hg : X.A.guards = some []) (hu : X.A.units + 64 < cLine) : CallR X (.builtin "repr") (rReprD X.K) := by
  intro pins s σ H xs us Q I r h
  obtain ⟨a, d, rfl, hd, hs, q⟩ := h
  rw [Vals.ref1 r]
  obtain ⟨as, r1⟩ := Dp.reads I d (.ref a) (.ref a) hd rfl
  have := hs.deep
  refine repr_of_reads' r1 hs.sh (PyData.noDict_hsm (PyData.hasDict_of_canLay d hs.lay)) hg (by omega) (fun _ _ e => e) (fun h' u tk hk => ?_) hs.size
  exact ⟨.str _, H, I.kept hk, ⟨u, rfl⟩, q⟩
end
end Wl

/-! What a Gathering tells, held against what was kept. -/
namespace Wl
open PySem PySem.Spec PyProof.Rows L2
theorem wgt_strs : ∀ {ws : List Str}, (∀ z ∈ ws, IsWd z) → PyData.weightAll (ws.map PyData.str) ≤ 9 * ws.length
  | [], _ => by simp [PyData.weightAll]
  | z :: ws, h => by
    have h1 := wgt_strs (ws := ws) fun y hy => h y (List.mem_cons_of_mem _ hy)
    have h2 := (h z List.mem_cons_self).len
    have h3 : z.cps.size ≤ 8 := h2.2
    simp only [List.map_cons, PyData.weightAll, PyData.weight, List.length_cons]
    omega
theorem show_strs : ∀ ws : List Str, PyData.showableAll (ws.map PyData.str) = true
  | [] => by simp [PyData.showableAll]
  | z :: ws => by simp [PyData.showableAll, PyData.showable, show_strs ws]
theorem short_strs : ∀ ws : List Str, PyData.intsShortAll 13 (ws.map PyData.str) = true
  | [] => by simp [PyData.intsShortAll]
  | z :: ws => by simp [PyData.intsShortAll, PyData.intsShort, short_strs ws]
theorem shows_strs {ws : List Str} (h : ∀ z ∈ ws, IsWd z) (hl : ws.length ≤ 200) : Shows (.tuple (ws.map PyData.str)) := by
  refine ⟨by simpa [PyData.canLay0] using lay_strs h, ?_, ?_, by simpa [PyData.showable] using show_strs ws, by simpa [PyData.intsShort] using short_strs ws⟩
  · simp only [PyData.depth, depth_strs]
    omega
  · have := wgt_strs h
    simp only [PyData.weight]
    omega
theorem tel_shows {t : Tel} (h : OkT t) : PyData.canLay0 (telD t) = true ∧ (telD t).depth = 1 ∧ (telD t).weight ≤ 60 ∧ (telD t).showable = true ∧ (telD t).intsShort 13 = true := by
  have la : PyData.canLay0 (telD t) = true := lay_tel h
  have len8 : ∀ {z : Str}, IsWd z → z.cps.size ≤ 8 := fun h => h.len.2
  have w1 := len8 h.v
  have w2 := len8 h.th
  have w3 := len8 h.wo
  have w4 := len8 h.tl
  have w5 := len8 h.g
  have ag := h.age
  have key : ∀ n : Nat, n ≤ 120 → PyData.weight (.int (n : Int)) ≤ 8 ∧ PyData.showable (.int (n : Int)) = true ∧ PyData.intsShort 13 (.int (n : Int)) = true := by decide +kernel
  obtain ⟨k1, k2, k3⟩ := key t.age ag
  refine ⟨la, by simp [telD, PyData.depth, PyData.depthAll], ?_, ?_, ?_⟩
  · show PyData.weightAll [.str t.v, .str t.th, .str t.wo, .str t.tl, .int (t.age : Int), .str t.g, .bool t.sure] ≤ 60
    simp only [PyData.weightAll]
    have e : ∀ z : Str, PyData.weight (.str z) = z.cps.size := fun z => by simp only [PyData.weight]
    have eb : PyData.weight (.bool t.sure) = 0 := by simp only [PyData.weight]
    rw [e, e, e, e, e, eb]
    omega
  · show PyData.showableAll [.str t.v, .str t.th, .str t.wo, .str t.tl, .int (t.age : Int), .str t.g, .bool t.sure] = true
    simp only [PyData.showableAll, k2]
    simp [PyData.showable]
  · show PyData.intsShortAll 13 [.str t.v, .str t.th, .str t.wo, .str t.tl, .int (t.age : Int), .str t.g, .bool t.sure] = true
    simp only [PyData.intsShortAll, k3]
    simp [PyData.intsShort]
theorem tels_shows {ts : List Tel} (h : ∀ t ∈ ts, OkT t) (hl : ts.length ≤ 200) : Shows (.list (ts.map telD)) := by
  have key : ∀ {ts : List Tel}, (∀ t ∈ ts, OkT t) → PyData.weightAll (ts.map telD) ≤ 61 * ts.length ∧ PyData.showableAll (ts.map telD) = true ∧ PyData.intsShortAll 13 (ts.map telD) = true := by
    intro ts
    induction ts with
    | nil => exact fun _ => ⟨by simp [PyData.weightAll], by simp [PyData.showableAll], by simp [PyData.intsShortAll]⟩
    | cons t ts ih =>
      intro h
      obtain ⟨i1, i2, i3⟩ := ih fun u hu => h u (List.mem_cons_of_mem _ hu)
      obtain ⟨_, _, t1, t2, t3⟩ := tel_shows (h t List.mem_cons_self)
      refine ⟨?_, ?_, ?_⟩
      · simp only [List.map_cons, PyData.weightAll, List.length_cons]
        omega
      · rw [List.map_cons, PyData.showableAll, t2, i2]
        rfl
      · rw [List.map_cons, PyData.intsShortAll, t3, i3]
        rfl
  obtain ⟨k1, k2, k3⟩ := key h
  refine ⟨by simpa [PyData.canLay0] using lay_tels h, ?_, ?_, by simpa [PyData.showable] using k2, by simpa [PyData.intsShort] using k3⟩
  · have := depth_tels ts
    simp only [PyData.depth]
    omega
  · simp only [PyData.weight]
    omega
theorem tels_byV {H : Hp} {g : Tel → Str} {as : List Addr} {ts : List Tel} (h : TelsAt H as ts) : (as.map V.ref).map (fun x => V.str (telBy H g x)) = (ts.map g).map V.str := by
  rw [← tels_by h (g := g), List.map_map, List.map_map, List.map_map]
  rfl
theorem le_land {C : Addr} {H : Hp} {p L q M : Addr} {g g' : Grid} {wd wd' : Nat} {Q : VK} (h1 : LandAt C H p L g) (gd : Good g wd) (h2 : LandAt C H q M g') (gd' : Good g' wd') (k : Q (.bl (decide (g = g'))) H) : spLEq C [.ref p, .ref q] H Q E0 := ⟨p, L, q, M, g, g', wd, wd', rfl, h1, gd, h2, gd', k⟩
section
variable {P : Program} {w : World} {K : PySem.W.Frag} {mg : Str → Option Value} {base : Heap} {f C D : Addr} {fd : FuncData}
end
end Wl




/-! A comprehension whose test makes objects. -/
namespace Wl
open PySem PySem.Spec PyProof.Rows L2
section
variable {J : It} {ys : List V} {G : Hp → Prop} {slot : Nat} {tt : TT} {te : TE} {vs : List Nat} {σ : L2.St} {H1 : Hp} {D : Addr} {Qd : Hp → Prop}
theorem lc_keepX (w : L2.Walk J ys.length G (YAt ys)) (hD : H1 D = none) (keep : V → Bool) (hG : ∀ H, Same H1 H → G H) (hw : ∀ x, wipe ((wipe σ vs).set slot (some x)) vs = wipe σ vs)
    (ht : ∀ (x : V) (H : Hp), x ∈ ys → Same H1 H → ∀ Q : Bool → Hp → Prop, (∀ H', Same H H' → Q (keep x) H') → tt ((wipe σ vs).set slot (some x)) H Q)
    (he : ∀ (x : V) (H : Hp) (Q : VK), Q x H → te ((wipe σ vs).set slot (some x)) H Q)
    (hn : ys.length < sizeLine)
    (hd : ∀ H, Same H1 H → H D = some (.lst (ys.filter keep)) → Qd H) :
    ∃ W : Nat → Nat → Hp → Prop, (∃ m, W 0 m (upd H1 D (.lst []))) ∧ ∀ i m H, W i m H →
      (J.stop i H ∧ Qd H) ∨ (J.go i H ∧ ∃ Nx : Hp → Prop, (∀ H', Nx H' → ∃ m', m' < m ∧ W (i + 1) m' H') ∧ ∀ x H', J.yld i H x H' → gName slot x (wipe σ vs) H' fun σ2 H2 => wipe σ2 vs = wipe σ vs ∧ tt σ2 H2 fun b H3 =>
        if b = true then te σ2 H3 fun y H4 => ∃ acc, H4 D = some (.lst acc) ∧ acc.length < sizeLine ∧ Nx (upd H4 D (.lst (acc ++ [y]))) else Nx H3) := by
  refine lc_it w (fun i H => Same H1 H ∧ H D = some (.lst ((ys.take i).filter keep))) ⟨same_new hD, upd_same⟩ (fun i H _ h => hG H h.1) ?_ ?_
  · rintro i x H H' hi ⟨s, hz⟩ ⟨rfl, hx⟩
    have hm : x ∈ ys := List.mem_of_getElem? hx
    refine ⟨hw x, ht x _ hm s _ fun H3 s3 => ?_⟩
    have hf := filter_take_snoc (p := keep) hx
    refine ite_b (fun e => ?_) (fun e => ?_)
    · refine he x _ _ ⟨_, s3 _ _ hz, ?_, same_mut (s.trans s3) hD, ?_⟩
      · have h2 : ((ys.take i).filter keep).length ≤ (ys.take i).length := List.length_filter_le _ _
        have h3 : (ys.take i).length ≤ ys.length := List.length_take_le' _ _
        omega
      · rw [upd_same, hf, if_pos e]
    · refine ⟨s.trans s3, ?_⟩
      rw [hf, if_neg (by rw [e]; decide), List.append_nil]
      exact s3 _ _ hz
  · rintro H ⟨s, hz⟩
    rw [List.take_length] at hz
    exact hd H s hz
end
end Wl

namespace Wl
open PySem PySem.Spec PyProof.Rows L2
/-! what is meant: village, thing, meaning -/
/-! lists of tuples, one field of each, some of them -/
section
variable {α : Type} {val : α → List V}
end
section
variable {J : It} {ys : List V} {G : Hp → Prop} {slot : Nat} {tt : TT} {te : TE} {vs : List Nat} {σ : L2.St} {H1 : Hp} {D : Addr} {Qd : Hp → Prop}
/-- [e for x in ys if t]: the test makes objects, e is told by R -/
theorem lc_relX (wk : L2.Walk J ys.length G (YAt ys)) (hD : H1 D = none) (keep : V → Bool) (R : V → V → Hp → Prop) (hG : ∀ H, Same H1 H → G H)
    (hw : ∀ x, wipe ((wipe σ vs).set slot (some x)) vs = wipe σ vs)
    (ht : ∀ (x : V) (H : Hp), x ∈ ys → Same H1 H → ∀ Q : Bool → Hp → Prop, (∀ H', Same H H' → Q (keep x) H') → tt ((wipe σ vs).set slot (some x)) H Q)
    (he : ∀ (x : V) (H : Hp), x ∈ ys → keep x = true → Same H1 H → ∀ Q : VK, (∀ y H', Same H H' → R x y H' → Q y H') → te ((wipe σ vs).set slot (some x)) H Q)
    (hR : ∀ x y H H' acc, H D = some (.lst acc) → SameX D H H' → R x y H → R x y H')
    (hn : ys.length < sizeLine)
    (hd : ∀ zs H, Same H1 H → H D = some (.lst zs) → Each (fun x z => R x z H) (ys.filter keep) zs → Qd H) :
    ∃ W : Nat → Nat → Hp → Prop, (∃ m, W 0 m (upd H1 D (.lst []))) ∧ ∀ i m H, W i m H →
      (J.stop i H ∧ Qd H) ∨ (J.go i H ∧ ∃ Nx : Hp → Prop, (∀ H', Nx H' → ∃ m', m' < m ∧ W (i + 1) m' H') ∧ ∀ x H', J.yld i H x H' → gName slot x (wipe σ vs) H' fun σ2 H2 => wipe σ2 vs = wipe σ vs ∧ tt σ2 H2 fun b H3 =>
        if b = true then te σ2 H3 fun y H4 => ∃ acc, H4 D = some (.lst acc) ∧ acc.length < sizeLine ∧ Nx (upd H4 D (.lst (acc ++ [y]))) else Nx H3) := by
  refine lc_it wk (fun i H => ∃ zs, Same H1 H ∧ H D = some (.lst zs) ∧ Each (fun x z => R x z H) ((ys.take i).filter keep) zs) ⟨[], same_new hD, upd_same, by simpa using Each.nil⟩ (fun i H _ h => ?_) ?_ ?_
  · obtain ⟨zs, s, _⟩ := h
    exact hG H s
  · rintro i x H H' hi ⟨zs, s, hz, ez⟩ ⟨rfl, hx⟩
    have hm : x ∈ ys := List.mem_of_getElem? hx
    refine ⟨hw x, ht x _ hm s _ fun H3 s3 => ?_⟩
    have hf := filter_take_snoc (p := keep) hx
    have hz3 := s3 _ _ hz
    have ez3 : Each (fun x z => R x z H3) ((ys.take i).filter keep) zs := ez.mono fun a b r => hR _ _ _ _ _ hz (sx s3) r
    refine ite_b (fun e => ?_) (fun e => ?_)
    · refine he x _ hm e (s.trans s3) _ fun y H4 s4 r4 => ⟨zs, s4 _ _ hz3, ?_, zs ++ [y], same_mut ((s.trans s3).trans s4) hD, upd_same, ?_⟩
      · have h1 := ez.length
        have h2 : ((ys.take i).filter keep).length ≤ (ys.take i).length := List.length_filter_le _ _
        have h3 : (ys.take i).length ≤ ys.length := List.length_take_le' _ _
        omega
      · rw [hf, if_pos e]
        have hD4 := s4 _ _ hz3
        refine Each.append (ez3.mono fun a b r => ?_) (.cons ?_ .nil)
        · exact hR _ _ _ _ _ hz3 (fun b o n h => by rw [upd_ne n]; exact s4 _ _ h) r
        · exact hR _ _ _ _ _ hD4 sameX_upd r4
    · refine ⟨zs, s.trans s3, hz3, ?_⟩
      rw [hf, if_neg (by rw [e]; decide), List.append_nil]
      exact ez3
  · rintro H ⟨zs, s, hz, ez⟩
    rw [List.take_length] at ez
    exact hd zs H s hz ez
end
end Wl




/-! what a Gathering is. -/
namespace Wl
open PySem PySem.Spec PyProof.Rows L2
abbrev sIs : Stmt := topS 74
def gO {α : Type} : List α → List α → List α
  | [], [b] => [b]
  | _, _ => []
theorem gO_rel {vs zs : List V} {us ws : List Value} (r1 : Vals vs us) (r2 : Vals zs ws) : Vals (gO vs zs) (gO us ws) := by
  cases r1 with
  | nil =>
    cases r2 with
    | nil => exact .nil
    | cons a t =>
      cases t with
      | nil => exact .cons a .nil
      | cons b t => exact .nil
  | cons a t => exact .nil
theorem tels_self : ∀ ts : List Tel, PyData.eqv (.list (ts.map telD)) (.list (ts.map telD)) = true := fun ts => by
  show PyData.eqvAll (ts.map telD) (ts.map telD) = true
  induction ts with
  | nil => rfl
  | cons t l ih =>
    show (PyData.eqv (telD t) (telD t) && PyData.eqvAll (l.map telD) (l.map telD)) = true
    rw [tel_eqv, decide_eq_true rfl, ih]
    rfl
section
variable {P : Program} {w : World} {K : PySem.W.Frag} {mg : Str → Option Value} {base : Heap} {f C D : Addr} {fd : FuncData}
theorem sh_k (F : Fun K "show_gathering" "show_gathering" sShowG f fd) : KBn K fd ["gathering"] 0 ["gathering"] (fun us ws => gO us ws) (fun vs zs => gO vs zs) := by
  obtain ⟨oc, od, kV, doc, pm, an, cdv, ct, osl, rfl, lk, hcd⟩ := F.ex
  refine ⟨fun s us ws X l1 l2 => BindsTo.of_looks fun M => .of_pure ?_, fun r1 r2 => gO_rel r1 r2⟩
  match us, ws, l1, l2 with
  | [], [_], _, _ => rfl
def HasSh (P : Program) (w : World) (K : PySem.W.Frag) (mg : Str → Option Value) (base : Heap) (C D : Addr) : Prop := ∃ f fd, FnOk P w K mg base CX0 7 f fd ["gathering"] (spShowG C D) ∧ mg "show_gathering" = some (.ref f) ∧ Fun K "show_gathering" "show_gathering" sShowG f fd ∧ Binds K fd ["gathering"] []
def spIs (C D : Addr) : Sp := fun vs H Q _ => ∃ (p L l : Addr) (r : GR) (wd : Nat) (as : List Addr), vs = [.ref p, .ref L, .ref l] ∧ GatAt C D H p r ∧ GridAt H L r.g ∧ Good r.g wd ∧ H l = some (.lst (as.map V.ref)) ∧ TelsAt H as r.ts ∧ (∀ t ∈ r.ts, OkT t) ∧ r.ts.length ≤ 200 ∧ ∀ (H' : Hp), Same H H' → Q (.bl true) H'
abbrev psIs : List Str := ["_law_kept", "_law_rows", "_law_lot"]
abbrev nIs : List Str := ["_law_kept", "_law_rows", "_law_lot", "_law_told", "_law_written", "_law_row"]
theorem scIs : FnScope nIs psIs (defScope sIs) := ⟨rfl, rfl, rfl, by decide +kernel, rfl, by decide +kernel, by decide +kernel⟩
theorem ok_is (F : Fun K "_law_is" "_law_is" sIs f fd) (B : Bi mg) (B2 : Bg mg) (hrep : mg "repr" = none) (hset : mg "set" = none) (T : Txt2 K mg C) (TG : TxtG K mg D) (insD : C8.InsC K D) (hI : HasI P w K mg base C) (hE : HasM P w K mg base C "__eq__" 1 ["self", "other"] (spLEq C)) (hTl : HasTl P w K mg base C D) (hTh : HasM P w K mg base D "things" 1 ["self"] (spThings C D)) (hGa : HasM P w K mg base D "gatherers" 1 ["self"] (spGathers C D))
    (hS : HasM P w K mg base D "__str__" 4 ["self"] (spGStr C D)) (hR : HasM P w K mg base D "__repr__" 1 ["self"] (spGRepr C D)) (hL : HasM P w K mg base D "__len__" 1 ["self"] (spGLen C D)) (hSh : HasSh P w K mg base C D) (hX : Has P w K mg base "_law_text" 2 ["_law_rows", "_law_lot"] spGText) : FnOk P w K mg base CX0 8 f fd psIs (spIs C D) := by
  obtain ⟨fS, fdS, FS, mS, bS⟩ := hS
  obtain ⟨fR, fdR, FR, mR, bR⟩ := hR
  obtain ⟨fL, fdL, FL, mL, bL⟩ := hL
  obtain ⟨fT, fdT, FT, mT, FnT⟩ := hTl
  obtain ⟨dsT, vT, bT⟩ := tell_b1 FnT
  obtain ⟨fE, fdE, FE, mE, bE⟩ := hE
  obtain ⟨fI, fdI, MI, GI, bI⟩ := hI
  obtain ⟨fH, fdH, FH, gH, NH, bH⟩ := hSh
  have kH := sh_k NH
  refine F.ok scIs (fun vs H Q E h => ?_) (fun cdv A outer s H vs Q E hr h => ?_)
  · obtain ⟨p, L, l, r, wd, as, rfl, _⟩ := h
    rfl
  · obtain ⟨p, L, l, r, wd, as, rfl, hG, hGr, gd, hl, hTs, hok, h200, q⟩ := h
    refine ⟨_, pss_cons (ps_if (PW.pt (pw_or (pt_not (pt_val (pe_callB (C8.call_isC (C := D) insD) (by rfl) B.isi (by decide +kernel) (pa_cons (pv 0) (pa_cons (pe_glob (v := .ref D) rfl TG.mgD rfl) pa_nil)))))
          (pw_or (pt_cmpR (op_neO FE bE mE T.ne (hr.mono (by decide))) (pe_fld (pv 0) rfl) (pe_make MI GI (hr.mono (by decide)) rfl T.t.mgC bI .nil pass0 (pa_cons (pv 1) pa_nil)) (nomark _))
          (pw_or (pt_cmpR (op_neD hr.units) (pe_fld (pe_fld (pv 0) rfl) rfl) (pv 1) (nomark _))
          (pw_or1 (pt_cmpR op_ne (pe_callB (cr_lenO FL bL mL (hr.mono (by decide))) (by rfl) B.len PySem.boot_len (pa_cons (pv 0) pa_nil)) (pe_callB call_len_seq (by rfl) B.len PySem.boot_len (pa_cons (pv 2) pa_nil)) (nomark _))))))) (pss_one ps_never) pss_nil)
      (pss_cons (ps_set (i := 3) scIs.nd rfl (.inl rfl) (pe_meth0 (pv 0) TG.cl mT FT (hr.mono (by decide)) bT vT pass0))
      (pss_cons (ps_if (PW.pt (pw_or (pt_not (pt_val (pe_callB call_isi (by rfl) B.isi (by decide +kernel) (pa_cons (pv 3) (pa_cons (pe_bltn (v := .ty "list") (by rfl) B.list (by decide +kernel) rfl) pa_nil)))))
          (pw_or (pt_cmpR (op_neD hr.units) (pv 3) (pv 2) (nomark _))
          (pw_or1 (pt_not (pt_val (pe_callB (cr_all rfl) (by rfl) B.all (by decide +kernel) (pa_cons (pe_lc (own := [("_law_row", 5)]) (g := gName 5) (tt := tYes) (te := tCB (rIsi K) (tCons (tVar 5) (tCons (tC (.ty "tuple")) tNil))) rfl scIs.nd (pi_list (pv 3)) (blkOk_by (N := nIs) (sc := defScope sIs) (by decide +kernel)) (fun _ _ _ _ _ => pg_name (i := 5) scIs.nd rfl (.inl rfl)) (fun _ _ _ _ _ => pts_nil) (fun _ _ _ _ _ => pe_callB call_isi (by rfl) B.isi (by decide +kernel) (pa_cons (pv 5) (pa_cons (pe_bltn (v := .ty "tuple") (by rfl) B.tuple (by decide +kernel) rfl) pa_nil)))) pa_nil)))))))) (pss_one ps_never) pss_nil)
      (pss_cons (ps_if (pt_not (pt_val (pe_callB (cr_all rfl) (by rfl) B.all (by decide +kernel) (pa_cons (pe_lc (own := [("_law_row", 5)]) (g := gName 5) (tt := tYes) (te := tAndV (tCB (rIsi K) (tCons (tOp (rIxT K) (tVar 5) (tC (.int 6))) (tCons (tC (.ty "bool")) tNil))) (tNotV (tCB (rIsi K) (tCons (tOp (rIxT K) (tVar 5) (tC (.int 4))) (tCons (tC (.ty "bool")) tNil))))) rfl scIs.nd (pi_list (pv 3)) (blkOk_by (N := nIs) (sc := defScope sIs) (by decide +kernel)) (fun _ _ _ _ _ => pg_name (i := 5) scIs.nd rfl (.inl rfl)) (fun _ _ _ _ _ => pts_nil) (fun _ _ _ _ _ => pe_and (pe_callB call_isi (by rfl) B.isi (by decide +kernel) (pa_cons (pe_ix ix_tup (pv 5) pe_int (fun _ _ => rfl)) (pa_cons (pe_bltn (v := .ty "bool") (by rfl) B2.bool (by decide +kernel) rfl) pa_nil))) (pe_one (pe_not (pe_callB call_isi (by rfl) B.isi (by decide +kernel) (pa_cons (pe_ix ix_tup (pv 5) pe_int (fun _ _ => rfl)) (pa_cons (pe_bltn (v := .ty "bool") (by rfl) B2.bool (by decide +kernel) rfl) pa_nil))))))) pa_nil)))) (pss_one ps_never) pss_nil)
      (pss_cons (ps_if (pt_cmpR (op_neD hr.units) (pe_hm0 hTh TG.cl hr (pv 0)) (pe_callTy call_tuple_of (by rfl) B.tuple (by decide +kernel) (pa_cons (pe_callB (cr_sortX rfl hr.units) (by rfl) B.sorted (by decide +kernel) (pa_cons (pe_callTy (cr_setX rfl) (by rfl) hset (by decide +kernel) (pa_cons (pe_lc (own := [("_law_row", 5)]) (g := gName 5) (tt := tYes) (te := tOp (rIxT K) (tVar 5) (tC (.int 1))) rfl scIs.nd (pi_list (pv 2)) (blkOk_by (N := nIs) (sc := defScope sIs) (by decide +kernel)) (fun _ _ _ _ _ => pg_name (i := 5) scIs.nd rfl (.inl rfl)) (fun _ _ _ _ _ => pts_nil) (fun _ _ _ _ _ => pe_ix ix_tup (pv 5) pe_int (fun _ _ => rfl))) pa_nil)) pa_nil)) pa_nil)) (nomark _)) (pss_one ps_never) pss_nil)
      (pss_cons (ps_if (pt_cmpR (op_neD hr.units) (pe_hm0 hGa TG.cl hr (pv 0)) (pe_callTy call_tuple_of (by rfl) B.tuple (by decide +kernel) (pa_cons (pe_callB (cr_sortX rfl hr.units) (by rfl) B.sorted (by decide +kernel) (pa_cons (pe_callTy (cr_setX rfl) (by rfl) hset (by decide +kernel) (pa_cons (pe_lc (own := [("_law_row", 5)]) (g := gName 5) (tt := tYes) (te := tOp (rIxT K) (tVar 5) (tC (.int 5))) rfl scIs.nd (pi_list (pv 2)) (blkOk_by (N := nIs) (sc := defScope sIs) (by decide +kernel)) (fun _ _ _ _ _ => pg_name (i := 5) scIs.nd rfl (.inl rfl)) (fun _ _ _ _ _ => pts_nil) (fun _ _ _ _ _ => pe_ix ix_tup (pv 5) pe_int (fun _ _ => rfl))) pa_nil)) pa_nil)) pa_nil)) (nomark _)) (pss_one ps_never) pss_nil)
      (pss_cons (ps_set (i := 4) scIs.nd rfl (.inl rfl) (pe_h hX hr (pa_cons (pv 1) (pa_cons (pv 2) pa_nil))))
      (pss_cons (ps_if (PW.pt (pw_or (pt_cmpR op_ne (pe_callTy (cr_strO FS bS mS (hr.mono (by decide))) (by rfl) B.str (by decide +kernel) (pa_cons (pv 0) pa_nil)) (pv 4) (nomark _)) (pw_or1 (pt_cmpR op_ne (pe_callB (cr_reprO FR bR mR (hr.mono (by decide))) (by rfl) hrep (by decide +kernel) (pa_cons (pv 0) pa_nil)) (pe_op op_add_str (pe_op op_add_str pe_str (pe_callTy call_str_int (by rfl) B.str (by decide +kernel) (pa_cons (pe_callB call_len_seq (by rfl) B.len PySem.boot_len (pa_cons (pv 2) pa_nil)) pa_nil))) pe_str) (nomark _))))) (pss_one ps_never) pss_nil)
      (pss_one (ps_ret (pe_and (pe_cmpR op_eq (pe_call FH (hr.mono (by decide)) rfl gH NH.kp bH .nil pass0 (pa_cons (pv 0) pa_nil)) (pv 4) (nomark _)) (pe_one (pe_cmpR op_eq (pe_callN0 FH (hr.mono (by decide)) rfl gH NH.kp kH pass0 (pk_cons (pv 0) pk_nil)) (pv 4) (nomark _))))))))))))), ?_⟩
    obtain ⟨dx, hp⟩ := hG.at_
    have las : as.length = r.ts.length := hTs.length
    refine ⟨_, rfl, p, dx, _, rfl, hp, true, rfl, iteF ?_⟩
    -- the land
    obtain ⟨dr, dl, hll, hsp, hLr⟩ := hG.land
    refine ⟨_, rfl, p, D, dx, _, _, rfl, hp, TG.cl, TG.nL, gf_land _ _ _, _, rfl, fun x dxx nx ndx nex => ?_⟩
    have s0 : Same H (upd (upd H dxx (.own x)) x (.ins C dxx [])) := fun b o e => by
      rw [upd_ne (ne_of_none e nx), upd_ne (ne_of_none e ndx)]
      exact e
    refine ⟨x, dxx, L, r.g, wd, rfl, upd_same, hGr.keep (tk_same s0), gd, fun H1 k1 hLa1 => ⟨rfl, ?_⟩⟩
    have s1 : Same H H1 := made_same nx ndx k1
    have hG1 := hG.same s1
    obtain ⟨d2, dl2, hx2, _, _⟩ := hLa1
    refine ⟨r.pl, dl, _, x, dl2, _, rfl, rfl, s1 _ _ hll, hx2, le_land hG1.land gd ⟨d2, dl2, hx2, by assumption, by assumption⟩ gd ⟨_, rfl, ?_⟩⟩
    rw [decide_eq_true rfl]
    refine ⟨_, rfl, iteF ?_⟩
    have hp1 := s1 _ _ hp
    refine ⟨_, rfl, p, D, dx, _, _, rfl, hp1, TG.cl, TG.nL, gf_land _ _ _, r.pl, C, dl, _, _, rfl, s1 _ _ hll, T.t.cl, T.t.nR, lf_rows _ _, _, rfl, gD r.g, gD r.g, dp_grid (hLr.keep (tk_same s1)), dp_grid (hGr.keep (tk_same s1)), shaped_grid gd, shaped_grid gd, ?_⟩
    rw [grid_eqv, decide_eq_true rfl]
    refine ⟨_, rfl, iteF ?_⟩
    have hl1 := s1 _ _ hl
    refine ⟨_, rfl, p, dx, _, rfl, hp1, p, r, rfl, hG1, _, rfl, by omega, _, rfl, l, _, rfl, .inl (.inl (.inl hl1)), rfl, _, rfl, ?_⟩
    rw [List.length_map, las]
    refine iteNS rfl ?_
    -- told
    refine ⟨_, rfl, p, dx, _, rfl, hp1, gf_no _ _ _, p, r, rfl, hG1, fun l2 nl2 => ?_⟩
    have s2 := same_new (o := .lst (r.as.map V.ref)) nl2
    have hl2 : upd H1 l2 (.lst (r.as.map V.ref)) l2 = some (.lst (r.as.map V.ref)) := upd_same
    have S2 : Same H (upd H1 l2 (.lst (r.as.map V.ref))) := s1.trans s2
    show tSeq _ _ _ _ (upd H1 l2 (.lst (r.as.map V.ref)))
    generalize upd H1 l2 (.lst (r.as.map V.ref)) = H2 at s2 hl2 S2
    refine st_nm (σ' := [some (.ref p), some (.ref L), some (.ref l), some (.ref l2), none, none]) rfl ?_
    have hG2 := hG.same S2
    have hT2 := hTs.keep (tk_same S2)
    have lra : r.as.length = r.ts.length := hG.tels.length
    refine ⟨_, rfl, _, _, _, _, _, rfl, .ty "list", .base (.lst hl2), kit_ty (r := true) (by decide +kernel), true, rfl, iteF ?_⟩
    refine ⟨_, rfl, _, rfl, .list (r.ts.map telD), .list (r.ts.map telD), .lst (.inl (.inl hl2)) (dp_tels hG2.tels), .lst (.inl (.inl (S2 _ _ hl))) (dp_tels hT2), shaped_tels hok, shaped_tels hok, ?_⟩
    rw [tels_self]
    refine ⟨_, rfl, iteF ?_⟩
    have tup : ∀ x ∈ r.as.map V.ref, ∃ (pt : Addr) (t : Tel), x = V.ref pt ∧ H2 pt = some (.tup (telV t)) := fun x hx => by
      obtain ⟨pt, hpt, rfl⟩ := List.mem_map.mp hx
      obtain ⟨i, hi, ei⟩ := List.mem_iff_getElem.mp hpt
      obtain ⟨t, ht, hH⟩ := Each.get hG2.tels (i := i) (a := pt) (by rw [List.getElem?_eq_getElem hi, ei])
      exact ⟨pt, t, rfl, hH⟩
    refine ⟨_, rfl, l2, rfl, ⟨_, .inl (.inl hl2)⟩, fun D1 hD1 => ?_⟩
    refine lc_map (walk_list (K := K) (a := l2) (xs := r.as.map V.ref)) hD1 (fun _ => true) (fun _ => .bl true) (fun H' s' => .inl (.inl (s' _ _ hl2))) (fun _ => rfl) (fun x H' _ _ Q' q' => q') ?_ (by rw [List.length_map]; exact small1000 (by omega)) ?_
    · intro x H' hx _ s' Q' q'
      obtain ⟨pt, t, rfl, hH⟩ := tup x hx
      exact ⟨_, rfl, _, _, _, _, _, rfl, .ty "tuple", .base (.tup (s' _ _ hH)), kit_ty (r := true) (by decide +kernel), q'⟩
    intro H3 s3 hD3
    have e3 : ((r.as.map V.ref).filter fun _ => true).map (fun _ => V.bl true) = (r.as.map fun _ => true).map V.bl := by
      rw [List.filter_eq_self.mpr fun _ _ => rfl, List.map_map, List.map_map]
      rfl
    have a3 : (r.as.map fun _ => true).all id = true := List.all_eq_true.mpr fun b hb => by
      obtain ⟨_, _, rfl⟩ := List.mem_map.mp hb
      rfl
    refine ⟨D1, r.as.map fun _ => true, rfl, .inl (.inl (by rw [hD3, e3])), ?_⟩
    rw [a3]
    refine ⟨_, rfl, iteF ?_⟩
    refine ⟨_, rfl, l2, rfl, ⟨_, .inl (.inl (s3 _ _ hl2))⟩, fun D2 hD2 => ?_⟩
    refine lc_map (walk_list (K := K) (a := l2) (xs := r.as.map V.ref)) hD2 (fun _ => true) (fun _ => .bl true) (fun H' s' => .inl (.inl (s' _ _ (s3 _ _ hl2)))) (fun _ => rfl) (fun x H' _ _ Q' q' => q') ?_ (by rw [List.length_map]; exact small1000 (by omega)) ?_
    · intro x H' hx _ s' Q' q'
      obtain ⟨pt, t, rfl, hH⟩ := tup x hx
      have hH' := s' _ _ (s3 _ _ hH)
      exact ⟨_, rfl, pt, _, 6, _, rfl, rfl, .inl (.inl hH'), atI_nat (j := 6) rfl, _, _, _, _, _, rfl, .ty "bool", .base (.bl _), kit_ty (r := true) (by decide +kernel), true, rfl, iteT ⟨_, rfl, pt, _, 4, _, rfl, rfl, .inl (.inl hH'), atI_nat (j := 4) rfl, _, _, _, _, _, rfl, .ty "bool", .base (.int _), kit_ty (r := false) (by decide +kernel), false, rfl, q'⟩⟩
    intro H4 s4 hD4
    refine ⟨D2, r.as.map fun _ => true, rfl, .inl (.inl (by rw [hD4, e3])), ?_⟩
    rw [a3]
    refine ⟨_, rfl, iteF ?_⟩
    have S4 : Same H H4 := S2.trans (s3.trans s4)
    clear hD3 hD4 hD1 hD2 s3 s4 tup a3 e3 hl2 nl2 s2
    -- things
    refine ⟨_, rfl, p, dx, _, rfl, S4 _ _ hp, gf_no _ _ _, p, r, rfl, hG.same S4, by omega, fun t5 H5 nt5 s5 ht5 => ?_⟩
    have S5 := S4.trans s5
    refine ⟨_, rfl, l, rfl, ⟨_, .inl (.inl (S5 _ _ hl))⟩, fun D3 hD3 => ?_⟩
    have hT5 := hTs.keep (tk_same S5)
    refine lc_map (walk_list (K := K) (a := l) (xs := as.map V.ref)) hD3 (fun _ => true) (fun x => .str (telBy H5 (·.th) x)) (fun H' s' => .inl (.inl (s' _ _ (S5 _ _ hl)))) (fun _ => rfl) (fun x H' _ _ Q' q' => q') ?_ (by rw [List.length_map]; exact small1000 (by omega)) ?_
    · intro x H' hx _ s' Q' q'
      obtain ⟨pt, hpt, rfl⟩ := List.mem_map.mp hx
      obtain ⟨j, hj, ej⟩ := List.mem_iff_getElem.mp hpt
      obtain ⟨t, ht, hH⟩ := Each.get hT5 (i := j) (a := pt) (by rw [List.getElem?_eq_getElem hj, ej])
      rw [telBy_at hH] at q'
      exact ⟨_, rfl, pt, _, _, _, rfl, rfl, .inl (.inl (s' _ _ hH)), atI_nat (j := 1) rfl, q'⟩
    intro H6 s6 hL6
    rw [List.filter_eq_self.mpr fun _ _ => rfl, tels_byV hT5] at hL6
    refine ⟨D3, r.ts.map (·.th), rfl, .inl (.inl hL6), by rw [List.length_map]; omega, fun sa sl hsa nd1 hm1 hl1' => ?_⟩
    have s7 := same_new (o := SetXO P w sa sl) hsa
    unfold tNil
    show rSortX P w [V.ref sa] (upd H6 sa (SetXO P w sa sl)) _
    have hsa7 : upd H6 sa (SetXO P w sa sl) sa = some (SetXO P w sa sl) := upd_same
    generalize upd H6 sa (SetXO P w sa sl) = H7 at s7 hsa7
    rw [List.length_map] at hl1'
    refine ⟨sa, sl, rfl, hsa7, by omega, fun l8 hl8 => ?_⟩
    have e1 : sortS sl = thingsOf r.ts := sortS_same nd1 (keysOf_nodup _) fun z => by rw [hm1, mem_keysOf]
    rw [e1]
    have s8 := same_new (o := .lst ((thingsOf r.ts).map V.str)) hl8
    have hl8' : upd H7 l8 (.lst ((thingsOf r.ts).map V.str)) l8 = some (.lst ((thingsOf r.ts).map V.str)) := upd_same
    generalize upd H7 l8 (.lst ((thingsOf r.ts).map V.str)) = H8 at s8 hl8'
    refine ⟨l8, _, rfl, .inl ⟨.inl (.inl hl8'), fun t9 nt9 => ?_⟩⟩
    have s9 := same_new (o := .tup ((thingsOf r.ts).map V.str)) nt9
    have ht9 : upd H8 t9 (.tup ((thingsOf r.ts).map V.str)) t9 = some (.tup ((thingsOf r.ts).map V.str)) := upd_same
    have s59 := s6.trans (s7.trans (s8.trans s9))
    have ht5' := s59 _ _ ht5
    generalize upd H8 t9 (.tup ((thingsOf r.ts).map V.str)) = H9 at s9 ht9 s59 ht5'
    have wth : ∀ z ∈ thingsOf r.ts, IsWd z := fun z hz => by
      obtain ⟨t, ht, rfl⟩ := mem_things.mp hz
      exact (hok t ht).th
    refine ⟨.tuple ((thingsOf r.ts).map .str), .tuple ((thingsOf r.ts).map .str), .tup (.inl (.inl ht5')) (dp_strs _), .tup (.inl (.inl ht9)) (dp_strs _), shaped_strs wth, shaped_strs wth, ?_⟩
    rw [tup_eqv, decide_eq_true rfl]
    refine ⟨_, rfl, iteF ?_⟩
    have S9 : Same H H9 := S5.trans s59
    clear s6 s7 s8 s9 s59 ht5' ht9 hl8 hl8' hsa hsa7 hm1 nd1 hL6 hD3 ht5 nt5 s5 nt9 hT5
    -- gatherers
    refine ⟨_, rfl, p, dx, _, rfl, S9 _ _ hp, gf_no _ _ _, p, r, rfl, hG.same S9, by omega, fun t5 HB5 nt5 s5 ht5 => ?_⟩
    have SB5 := S9.trans s5
    refine ⟨_, rfl, l, rfl, ⟨_, .inl (.inl (SB5 _ _ hl))⟩, fun D3 hD3 => ?_⟩
    have hT5 := hTs.keep (tk_same SB5)
    refine lc_map (walk_list (K := K) (a := l) (xs := as.map V.ref)) hD3 (fun _ => true) (fun x => .str (telBy HB5 (·.g) x)) (fun H' s' => .inl (.inl (s' _ _ (SB5 _ _ hl)))) (fun _ => rfl) (fun x H' _ _ Q' q' => q') ?_ (by rw [List.length_map]; exact small1000 (by omega)) ?_
    · intro x H' hx _ s' Q' q'
      obtain ⟨pt, hpt, rfl⟩ := List.mem_map.mp hx
      obtain ⟨j, hj, ej⟩ := List.mem_iff_getElem.mp hpt
      obtain ⟨t, ht, hH⟩ := Each.get hT5 (i := j) (a := pt) (by rw [List.getElem?_eq_getElem hj, ej])
      rw [telBy_at hH] at q'
      exact ⟨_, rfl, pt, _, _, _, rfl, rfl, .inl (.inl (s' _ _ hH)), atI_nat (j := 5) rfl, q'⟩
    intro HB6 s6 hL6
    rw [List.filter_eq_self.mpr fun _ _ => rfl, tels_byV hT5] at hL6
    refine ⟨D3, r.ts.map (·.g), rfl, .inl (.inl hL6), by rw [List.length_map]; omega, fun sa sl hsa nd1 hm1 hl1' => ?_⟩
    have s7 := same_new (o := SetXO P w sa sl) hsa
    show rSortX P w [V.ref sa] (upd HB6 sa (SetXO P w sa sl)) _
    have hsa7 : upd HB6 sa (SetXO P w sa sl) sa = some (SetXO P w sa sl) := upd_same
    generalize upd HB6 sa (SetXO P w sa sl) = HB7 at s7 hsa7
    rw [List.length_map] at hl1'
    refine ⟨sa, sl, rfl, hsa7, by omega, fun l8 hl8 => ?_⟩
    have e1 : sortS sl = gathersOf r.ts := sortS_same nd1 (keysOf_nodup _) fun z => by rw [hm1, mem_keysOf]
    rw [e1]
    have s8 := same_new (o := .lst ((gathersOf r.ts).map V.str)) hl8
    have hl8' : upd HB7 l8 (.lst ((gathersOf r.ts).map V.str)) l8 = some (.lst ((gathersOf r.ts).map V.str)) := upd_same
    generalize upd HB7 l8 (.lst ((gathersOf r.ts).map V.str)) = HB8 at s8 hl8'
    refine ⟨l8, _, rfl, .inl ⟨.inl (.inl hl8'), fun t9 nt9 => ?_⟩⟩
    have s9 := same_new (o := .tup ((gathersOf r.ts).map V.str)) nt9
    have ht9 : upd HB8 t9 (.tup ((gathersOf r.ts).map V.str)) t9 = some (.tup ((gathersOf r.ts).map V.str)) := upd_same
    have s59 := s6.trans (s7.trans (s8.trans s9))
    have ht5' := s59 _ _ ht5
    generalize upd HB8 t9 (.tup ((gathersOf r.ts).map V.str)) = HB9 at s9 ht9 s59 ht5'
    have wga : ∀ z ∈ gathersOf r.ts, IsWd z := fun z hz => by
      obtain ⟨t, ht, rfl⟩ := mem_gathers.mp hz
      exact (hok t ht).g
    refine ⟨.tuple ((gathersOf r.ts).map .str), .tuple ((gathersOf r.ts).map .str), .tup (.inl (.inl ht5')) (dp_strs _), .tup (.inl (.inl ht9)) (dp_strs _), shaped_strs wga, shaped_strs wga, ?_⟩
    rw [tup_eqv, decide_eq_true rfl]
    refine ⟨_, rfl, iteF ?_⟩
    have SB9 : Same H HB9 := SB5.trans s59
    clear s6 s7 s8 s9 s59 ht5' ht9 hl8 hl8' hsa hsa7 hm1 nd1 hL6 hD3 ht5 nt5 s5 nt9 hT5
    -- its text
    refine ⟨_, rfl, _, rfl, L, l, r.g, wd, as, r.ts, rfl, hGr.keep (tk_same SB9), gd, SB9 _ _ hl, hTs.keep (tk_same SB9), hok, h200, fun H10 s10 => ?_⟩
    have S10 := SB9.trans s10
    refine st_nm (σ' := [some (.ref p), some (.ref L), some (.ref l), some (.ref l2), some (.str (gatS r.g r.ts)), none]) rfl ?_
    refine ⟨_, rfl, p, dx, _, rfl, S10 _ _ hp, p, r, wd, rfl, hG.same S10, gd, h200, hok, fun H11 s11 => ⟨_, rfl, _, rfl, rfl, _, rfl, iteNS rfl ?_⟩⟩
    have S11 := S10.trans s11
    refine ⟨_, rfl, p, dx, _, rfl, S11 _ _ hp, p, r, rfl, hG.same S11, by omega, _, rfl, _, rfl, l, _, rfl, .inl (.inl (.inl (S11 _ _ hl))), ?_⟩
    rw [List.length_map, las]
    have d3 := dig3_len (n := r.ts.length) (by omega)
    refine ⟨_, rfl, log200 (by omega), _, _, rfl, rfl, ?_, _, _, rfl, rfl, ?_, rfl, ?_⟩
    · have : ("Gathering(" : Str).length = 10 := by decide +kernel
      exact lzl (by omega)
    · have : ("Gathering(" : Str).length = 10 := by decide +kernel
      have : (")" : Str).length = 1 := by decide +kernel
      exact lzl (by rw [add_len]; omega)
    have : decide (V.str (grS r.ts.length) = V.str (("Gathering(" : Str) ++ (toString (r.ts.length : Int) : String) ++ (")" : Str))) = true := decide_eq_true rfl
    rw [this]
    refine ⟨_, rfl, iteF ?_⟩
    refine ⟨_, rfl, p, r, wd, rfl, hG.same S11, gd, h200, hok, fun H12 s12 => ⟨_, rfl, rfl, true, congrArg V.bl (decide_eq_true rfl), iteT ?_⟩⟩
    have S12 := S11.trans s12
    refine ⟨_, rfl, rfl, rfl, p, r, wd, rfl, hG.same S12, gd, h200, hok, fun H13 s13 => ⟨_, rfl, rfl, ?_⟩⟩
    rw [decide_eq_true rfl]
    exact q H13 (S12.trans s13)
end
end Wl

/-! deeds of what was read. -/
namespace Wl
open PySem PySem.Spec PyProof.Rows L2
abbrev sGoes : Stmt := topS 73
/-- a sign eight times -/
def rep8 (c : Nat) : Str := ⟨#[c, c, c, c, c, c, c, c]⟩
def rMul8 : R2 := fun x y H Q => ∃ c, x = .str (sign c) ∧ y = .int 8 ∧ Q (.str (rep8 c)) H
theorem op_mul8 {X : Cx} : OpR X (binaryOp .Mult) rMul8 := by
  intro pins s σ H x y v u Q I rx ry h
  obtain ⟨c, rfl, rfl, q⟩ := h
  obtain ⟨t, rfl⟩ := rx
  obtain ⟨t', rfl⟩ := ry
  have el : (sign c).length = 1 := rfl
  refine P.mul_str (by decide) (fun _ _ => by rw [el]; decide +kernel) (fun _ _ => by rw [el]; decide +kernel) ?_
  have e1 : ((8 : Int) == 1 || (sign c).length == 0) = false := by rw [el]; decide +kernel
  rw [if_neg (by decide), e1]
  have e2 : (⟨(List.replicate (8 : Int).toNat (sign c).cps).foldl (· ++ ·) #[]⟩ : Str) = rep8 c := by
    show (⟨(List.replicate 8 #[c]).foldl (· ++ ·) #[]⟩ : Str) = rep8 c
    unfold rep8
    simp [List.replicate]
  show Made.post (Made.str (⟨(List.replicate (8 : Int).toNat (sign c).cps).foldl (· ++ ·) #[]⟩ : Str)) _ _
  rw [e2]
  exact ⟨by show (8 : Nat) ≤ _; decide +kernel, .str _, H, I.tok _, ⟨_, rfl⟩, q⟩
theorem sign_wd {c : Nat} (h1 : 97 ≤ c) (h2 : c ≤ 122) : IsWd (rep8 c) := by
  show wdB (rep8 c) = true
  unfold wdB
  have hl : (rep8 c).length = 8 := rfl
  rw [hl]
  show (decide (1 ≤ 8) && decide (8 ≤ 8) && [c, c, c, c, c, c, c, c].all fun c => decide (97 ≤ c) && decide (c ≤ 122)) = true
  simp [h1, h2]
theorem cut_mem {xs : List V} {lo hi : Option Int} {z : V} (h : z ∈ cutV xs lo hi) : z ∈ xs := by
  unfold cutV at h
  exact List.mem_of_mem_drop (List.mem_of_mem_take h)
theorem cut_len (xs : List V) (lo hi : Option Int) : (cutV xs lo hi).length ≤ xs.length := by
  unfold cutV
  rw [List.length_take, List.length_drop]
  omega
def toldD (k : List Str) : PyData := .tuple [.str "told", .tuple (k.map .str)]
theorem toldD_eqv (k : List Str) : PyData.eqv (toldD k) (toldD k) = true := by
  show (PyData.eqv (.str "told") (.str "told") && (PyData.eqv (.tuple (k.map PyData.str)) (.tuple (k.map PyData.str)) && true)) = true
  rw [tup_eqv, decide_eq_true rfl]
  decide +kernel
theorem toldD_shaped {k : List Str} (h : ∀ z ∈ k, IsWd z) : SeqAt.shaped (toldD k) = true := by
  refine shaped_tuple ?_ ?_
  · show (PyData.canLay0 (.str "told") && ((PyData.canLay0 (.tuple (k.map PyData.str))) && true)) = true
    have h1 := lay_strs h
    have h2 : PyData.canLay0 (.tuple (k.map PyData.str)) = true := by simpa [PyData.canLay0] using h1
    rw [h2]
    decide +kernel
  · have := depth_strs k
    simp only [PyData.depthAll, PyData.depth]
    omega
def hd1 : V → Nat
  | .str z => (TL.tl z).headD 0
  | _ => 0
theorem hd1_sign (c : Nat) : hd1 (.str (sign c)) = c := rfl
def abc : Str := "abcdefghijklmnopqrstuvwxyz"
theorem abc_tl : TL.tl abc = (List.range 26).map (97 + ·) := by decide +kernel
/-- who can still be told of: a name of one sign eight times -/
def Spare (ts : List Tel) : Prop := ∃ c ∈ TL.tl abc, rep8 c ∉ ts.map (·.tl)
section
variable {P : Program} {w : World} {K : PySem.W.Frag} {mg : Str → Option Value} {base : Heap} {f C D : Addr} {fd : FuncData}
def spGoes (C D : Addr) : Sp := fun vs H Q _ => ∃ (p L l : Addr) (r : GR) (wd : Nat) (as : List Addr), vs = [.ref p, .ref L, .ref l] ∧ GatAt C D H p r ∧ GridAt H L r.g ∧ Good r.g wd ∧ H l = some (.lst (as.map V.ref)) ∧ TelsAt H as r.ts ∧ (∀ t ∈ r.ts, OkT t) ∧ (∀ t ∈ r.ts, t.v ∈ names r.g) ∧ r.ts.length ≤ 200 ∧ r.ds = [] ∧ Spare r.ts ∧ l ≠ r.td ∧ l ≠ r.dd ∧
  ∀ (r' : GR) (H' : Hp), Same2 r.td r.dd H H' → GatAt C D H' p r' → r'.td = r.td → r'.dd = r.dd → r'.pl = r.pl → r'.g = r.g → r'.ts = r.ts → r'.ds = [] → Q (.bl true) H'
abbrev nGoes : List Str := ["_law_kept", "_law_rows", "_law_lot", "_law_row", "_law_mark", "_law_speakers", "_law_fresh_here", "_law_new", "_law_sign"]
theorem scGoes : FnScope nGoes psIs (defScope sGoes) := ⟨rfl, rfl, rfl, by decide +kernel, rfl, by decide +kernel, by decide +kernel⟩
theorem ok_goes (F : Fun K "_law_goes_on" "_law_goes_on" sGoes f fd) (B : Bi mg) (TG : TxtG K mg D) (hPT : Has P w K mg base "_law_put_told" 5 ["_law_kept", "_law_row"] (spPutT C D)) (hN : Has P w K mg base "_law_names" 1 ["_law_rows"] spNames) (hIs : Has P w K mg base "_law_is" 8 psIs (spIs C D)) (hB : HasM P w K mg base D "back" 1 ["self"] (spBack C D)) (hNb : Has P w K mg base "_law_no_back" 2 ["_law_kept"] (spNoBack C D)) : FnOk P w K mg base CX0 9 f fd psIs (spGoes C D) := by
  refine F.ok scGoes (fun vs H Q E h => ?_) (fun cdv A outer s H vs Q E hr h => ?_)
  · obtain ⟨p, L, l, r, wd, as, rfl, _⟩ := h
    rfl
  · obtain ⟨p, L, l, r, wd, as, rfl, hG, hGr, gd, hl, hTs, hok, hvs, h200, hds, hsp, nlt, nld, q⟩ := h
    refine ⟨_, pss_cons (ps_for PassesOwn.never rfl (pi_list (pe_op op_cat (pe_slice sl_list (pv 2) po_none (po_some pe_int)) (pe_slice sl_list (pv 2) (po_some (pe_un un_neg pe_int)) po_none))) (pg_name (i := 3) scGoes.nd rfl (.inl rfl))
        (pss_cons (ps_set (i := 4) scGoes.nd rfl (.inl rfl) (pe_tup (pa_cons (pe_ix ix_tup (pv 3) pe_int (fun _ _ => rfl)) (pa_cons (pe_ix ix_tup (pv 3) pe_int (fun _ _ => rfl)) (pa_cons (pe_ix ix_tup (pv 3) pe_int (fun _ _ => rfl)) (pa_cons (pe_ix ix_tup (pv 3) pe_int (fun _ _ => rfl)) pa_nil))))))
        (pss_one (ps_if (pt_cmpR (op_neD hr.units) (pe_h hPT hr (pa_cons (pv 0) (pa_cons (pe_op op_catA (pe_op op_catA (pe_op op_catA (pe_slice sl_tupA (pv 3) po_none (po_some pe_int)) (pe_tup (pa_cons pe_str (pa_cons (pe_ix ix_tup (pv 3) pe_int (fun _ _ => rfl)) (pa_cons pe_int pa_nil))))) (pe_slice sl_tupA (pv 3) (po_some pe_int) (po_some pe_int))) (pe_tup (pa_cons pe_bl pa_nil))) pa_nil))) (pe_tup (pa_cons pe_str (pa_cons (pv 4) pa_nil))) (nomark _)) (pss_one ps_never) pss_nil))))
      (pss_cons (ps_set (i := 5) scGoes.nd rfl (.inr rfl) (pe_lc (own := [("_law_row", 3)]) (g := gName 3) (tt := tYes) (te := tOp (rIxT K) (tVar 3) (tC (.int 3))) rfl scGoes.nd (pi_list (pv 2)) (blkOk_by (N := nGoes) (sc := defScope sGoes) (by decide +kernel)) (fun _ _ _ _ _ => pg_name (i := 3) scGoes.nd rfl (.inl rfl)) (fun _ _ _ _ _ => pts_nil) (fun _ _ _ _ _ => pe_ix ix_tup (pv 3) pe_int (fun _ _ => rfl))))
      (pss_cons (ps_set (i := 6) scGoes.nd rfl (.inl rfl) (pe_ix ix_list (pe_lc (own := [("_law_sign", 8)]) (g := gName 8) (tt := tTest (tOp (rIn K true) (tOp rMul8 (tVar 8) (tC (.int 8))) (tVar 5))) (te := tOp rMul8 (tVar 8) (tC (.int 8))) rfl scGoes.nd (pi_str pe_str) (blkOk_by (N := nGoes) (sc := defScope sGoes) (by decide +kernel)) (fun _ _ _ _ _ => pg_name (i := 8) scGoes.nd rfl (.inl rfl)) (fun _ _ _ _ _ => pts_one (pt_cmpR op_notIn_seq (pe_op op_mul8 (pv 8) pe_int) (pv 5) (by rfl))) (fun _ _ _ _ _ => pe_op op_mul8 (pv 8) pe_int)) pe_int (fun _ _ => rfl)))
      (pss_cons (ps_set (i := 7) scGoes.nd rfl (.inl rfl) (pe_tup (pa_cons (pe_ix ix_list (pe_h hN hr (pa_cons (pv 1) pa_nil)) pe_int (fun _ _ => rfl)) (pa_cons pe_str (pa_cons pe_str (pa_cons (pv 6) (pa_cons pe_int (pa_cons pe_str (pa_cons pe_bl pa_nil)))))))))
      (pss_cons (ps_if (pt_cmpR op_eq (pe_callB call_len_seq (by rfl) B.len PySem.boot_len (pa_cons (pv 2) pa_nil)) pe_int (nomark _)) (pss_one (ps_ret (pe_and (pe_cmpR (op_eqD hr.units) (pe_h hPT hr (pa_cons (pv 0) (pa_cons (pv 7) pa_nil))) (pe_tup (pa_cons pe_str (pa_cons pe_int pa_nil))) (nomark _)) (pe_one (pe_h hIs hr (pa_cons (pv 0) (pa_cons (pv 1) (pa_cons (pv 2) pa_nil)))))))) pss_nil)
      (pss_cons (ps_if (PW.pt (pw_or (pt_cmpR (op_neD hr.units) (pe_h hPT hr (pa_cons (pv 0) (pa_cons (pv 7) pa_nil))) (pe_tup (pa_cons pe_str (pa_cons pe_non pa_nil))) (nomark _)) (pw_or1 (pt_not (pt_val (pe_h hIs hr (pa_cons (pv 0) (pa_cons (pv 1) (pa_cons (pe_op op_cat (pv 2) (pe_lst (pa_cons (pv 7) pa_nil))) pa_nil))))))))) (pss_one ps_never) pss_nil)
      (pss_cons (ps_expr (pe_hm0 hB TG.cl hr (pv 0)))
      (pss_one (ps_ret (pe_and (pe_h hNb hr (pa_cons (pv 0) pa_nil)) (pe_one (pe_h hIs hr (pa_cons (pv 0) (pa_cons (pv 1) (pa_cons (pv 2) pa_nil)))))))))))))), ?_⟩
    have las : as.length = r.ts.length := hTs.length
    obtain ⟨dx, hp⟩ := hG.at_
    -- tellings whose keys stand
    refine ⟨_, rfl, 2, rfl, l, _, rfl, .inl (.inl hl), fun la nla => ?_⟩
    have s1 := same_new (o := .lst (cutV (as.map V.ref) none (some 2))) nla
    have hla : upd H la (.lst (cutV (as.map V.ref) none (some 2))) la = some (.lst (cutV (as.map V.ref) none (some 2))) := upd_same
    generalize upd H la (.lst (cutV (as.map V.ref) none (some 2))) = H1 at s1 hla
    refine ⟨_, rfl, 1, rfl, -1, rfl, l, _, rfl, .inl (.inl (s1 _ _ hl)), fun lb nlb => ?_⟩
    have s2 := same_new (o := .lst (cutV (as.map V.ref) (some (-1)) none)) nlb
    have hlb : upd H1 lb (.lst (cutV (as.map V.ref) (some (-1)) none)) lb = some (.lst (cutV (as.map V.ref) (some (-1)) none)) := upd_same
    have hla' := s2 _ _ hla
    generalize upd H1 lb (.lst (cutV (as.map V.ref) (some (-1)) none)) = H2 at s2 hlb hla'
    have c1 := cut_len (as.map V.ref) none (some 2)
    have c2 := cut_len (as.map V.ref) (some (-1)) none
    rw [List.length_map] at c1 c2
    refine ⟨la, lb, _, _, rfl, rfl, hla', hlb, lzl (by omega), fun lc nlc => ?_⟩
    obtain ⟨ys, hys⟩ : ∃ ys, ys = cutV (as.map V.ref) none (some 2) ++ cutV (as.map V.ref) (some (-1)) none := ⟨_, rfl⟩
    have s3 := same_new (o := .lst (cutV (as.map V.ref) none (some 2) ++ cutV (as.map V.ref) (some (-1)) none)) nlc
    have hlc : upd H2 lc (.lst (cutV (as.map V.ref) none (some 2) ++ cutV (as.map V.ref) (some (-1)) none)) lc = some (.lst ys) := by rw [upd_same, hys]
    have ymem : ∀ z ∈ ys, ∃ pt t, z = V.ref pt ∧ t ∈ r.ts ∧ H pt = some (.tup (telV t)) := fun z hz => by
      rw [hys] at hz
      have hz : z ∈ as.map V.ref := (List.mem_append.mp hz).elim cut_mem cut_mem
      obtain ⟨pt, hpt, rfl⟩ := List.mem_map.mp hz
      obtain ⟨j, hj, ej⟩ := List.mem_iff_getElem.mp hpt
      obtain ⟨t, ht, hH⟩ := Each.get hTs (i := j) (a := pt) (by rw [List.getElem?_eq_getElem hj, ej])
      exact ⟨pt, t, rfl, List.mem_of_getElem? ht, hH⟩
    generalize upd H2 lc (.lst (cutV (as.map V.ref) none (some 2) ++ cutV (as.map V.ref) (some (-1)) none)) = H3 at s3 hlc
    have S3 : Same H H3 := s1.trans (s2.trans s3)
    clear s1 s2 s3 hla hla' hlb hys c1 c2 nla nlb nlc
    refine ⟨lc, rfl, ⟨_, .inl (.inl hlc)⟩, for_list (K := K) (a := lc) (xs := ys) (fun i σ H' => (∃ y3 y4, σ = [some (.ref p), some (.ref L), some (.ref l), y3, y4, none, none, none, none]) ∧ Same H H' ∧ H' lc = some (.lst ys))
      ⟨⟨_, _, rfl⟩, S3, hlc⟩ (fun i σ H' _ h => .inl (.inl h.2.2)) ?_ ?_⟩
    · rintro i z σ H4 hz ⟨⟨y3, y4, rfl⟩, s4, hlc4⟩
      obtain ⟨pt, t, rfl, htm, hpt0⟩ := ymem z (List.mem_of_getElem? hz)
      have okt := hok t htm
      have hpt := s4 _ _ hpt0
      refine ⟨_, rfl, pt, _, _, _, rfl, rfl, .inl (.inl hpt), atI_nat (j := 0) rfl, _, rfl, pt, _, _, _, rfl, rfl, .inl (.inl hpt), atI_nat (j := 3) rfl, _, rfl, pt, _, _, _, rfl, rfl, .inl (.inl hpt), atI_nat (j := 1) rfl, _, rfl, pt, _, _, _, rfl, rfl, .inl (.inl hpt), atI_nat (j := 5) rfl, lz, fun km nkm => ?_⟩
      have s5 := same_new (o := .tup [V.str t.v, V.str t.tl, V.str t.th, V.str t.g]) nkm
      have hkm : upd H4 km (.tup [V.str t.v, V.str t.tl, V.str t.th, V.str t.g]) km = some (.tup (keyV t)) := upd_same
      have hpt5 := s5 _ _ hpt
      have hlc5 := s5 _ _ hlc4
      have S5 := s4.trans s5
      generalize upd H4 km (.tup [V.str t.v, V.str t.tl, V.str t.th, V.str t.g]) = H5 at s5 hkm hpt5 hlc5 S5
      clear hpt hlc4
      refine ⟨_, rfl, _, rfl, 2, rfl, ?_⟩
      refine sl_reads hpt5 fun u1 H6 s6 hu1 => ?_
      have hpt := s6 _ _ hpt5
      refine ⟨_, rfl, pt, _, _, _, rfl, rfl, .inl (.inl hpt), atI_nat (j := 3) rfl, lz, fun u2 nu2 => ?_⟩
      have s7 := same_new (o := .tup [V.str "zz", V.str t.tl, V.int 7]) nu2
      refine cat_reads (s7 _ _ hu1) upd_same (by have := cut_len (telV t) none (some 2); have e : (telV t).length = 7 := rfl; simp; omega) fun u3 H8 s8 hu3 => ?_
      have hpt8 := s8 _ _ (s7 _ _ hpt)
      have S8 := S5.trans (s6.trans (s7.trans s8))
      clear hpt
      refine ⟨_, rfl, 5, rfl, 6, rfl, ?_⟩
      refine sl_reads hpt8 fun u4 H9 s9 hu4 => ?_
      have e1 : cutV (telV t) none (some 2) = [V.str t.v, V.str t.th] := rfl
      have e2 : cutV (telV t) (some 5) (some 6) = [V.str t.g] := rfl
      refine cat_reads (s9 _ _ hu3) hu4 (by rw [e1, e2]; exact Nat.le_of_ble_eq_true rfl) fun u5 HA sA hu5 => ?_
      refine ⟨lz, fun u6 nu6 => ?_⟩
      have sB := same_new (o := .tup [V.bl true]) nu6
      refine cat_reads (sB _ _ hu5) upd_same (by rw [e1, e2]; exact Nat.le_of_ble_eq_true rfl) fun u7 HC sC hu7 => ?_
      obtain ⟨t2, et2⟩ : ∃ t2 : Tel, t2 = { t with wo := "zz", age := 7, sure := true } := ⟨_, rfl⟩
      have hu7' : HC u7 = some (.tup (telV t2)) := by
        rw [hu7, e1, e2, et2]
        rfl
      have SC : Same H5 HC := s6.trans (s7.trans (s8.trans (s9.trans (sA.trans (sB.trans sC)))))
      have ok2 : OkT t2 := by rw [et2]; exact ⟨okt.v, okt.th, (show IsWd "zz" from by decide +kernel), okt.tl, (show (7 : Nat) ≤ 120 from by decide), okt.g⟩
      have k2 : keyS t2 = keyS t := by rw [et2]; rfl
      have kv2 : keyV t2 = keyV t := by rw [et2]; rfl
      have v2 : t2.v ∈ names r.g := by rw [et2]; exact hvs t htm
      have kin : keyS t2 ∈ r.ts.map keyS := by rw [k2]; exact List.mem_map.mpr ⟨t, htm, rfl⟩
      refine ⟨p, u7, r, wd, t2, rfl, hu7', hG.same (S5.trans SC), gd, hok, ok2, v2, h200, by rw [hds]; decide, fun _ u kq HD sD hkq hu => ?_, fun hn => absurd kin hn, fun hn => absurd kin hn⟩
      rw [kv2] at hkq
      refine ⟨_, rfl, lz, fun u8 nu8 => ?_⟩
      have sE := same_new (o := .tup [V.str "told", V.ref km]) nu8
      have hkmE := sE _ _ (sD _ _ (SC _ _ hkm))
      refine ⟨toldD (keyS t), toldD (keyS t), .tup (.inl (.inl (sE _ _ hu))) (.cons (.str _) (.cons (.tup (.inl (.inl (sE _ _ hkq))) (dp_strs (keyS t))) .nil)), .tup (.inl (.inl upd_same)) (.cons (.str _) (.cons (.tup (.inl (.inl hkmE)) (dp_strs (keyS t))) .nil)), toldD_shaped okt.key, toldD_shaped okt.key, ?_⟩
      rw [toldD_eqv]
      refine ⟨_, rfl, iteF ⟨⟨_, _, rfl⟩, S5.trans (SC.trans (sD.trans sE)), sE _ _ (sD _ _ (SC _ _ hlc5))⟩⟩
    · rintro σ H4 ⟨⟨y3, y4, rfl⟩, s4, hlc4⟩
      have hl4 := s4 _ _ hl
      have hT4 := hTs.keep (tk_same s4)
      refine ⟨_, rfl, l, rfl, ⟨_, .inl (.inl hl4)⟩, fun Ds hDs => ?_⟩
      refine lc_map (walk_list (K := K) (a := l) (xs := as.map V.ref)) hDs (fun _ => true) (fun x => .str (telBy H4 (·.tl) x)) (fun H' s' => .inl (.inl (s' _ _ hl4))) (fun _ => rfl) (fun x H' _ _ Q' q' => q') ?_ (by rw [List.length_map]; exact small1000 (by omega)) ?_
      · intro x H' hx _ s' Q' q'
        obtain ⟨pt, hpt, rfl⟩ := List.mem_map.mp hx
        obtain ⟨j, hj, ej⟩ := List.mem_iff_getElem.mp hpt
        obtain ⟨t, ht, hH⟩ := Each.get hT4 (i := j) (a := pt) (by rw [List.getElem?_eq_getElem hj, ej])
        rw [telBy_at hH] at q'
        exact ⟨_, rfl, pt, _, _, _, rfl, rfl, .inl (.inl (s' _ _ hH)), atI_nat (j := 3) rfl, q'⟩
      intro H5 s5 hD5
      rw [List.filter_eq_self.mpr fun _ _ => rfl, tels_byV hT4] at hD5
      refine st_nm (σ' := [some (.ref p), some (.ref L), some (.ref l), y3, y4, some (.ref Ds), none, none, none]) rfl ?_
      have S5 := s4.trans s5
      -- a name of its own
      have flS : ((r.ts.map (·.tl)).map V.str).all flatV = true := by
        rw [List.all_map]
        exact List.all_eq_true.mpr fun _ _ => rfl
      refine ⟨abc, rfl, fun Df hDf => ?_⟩
      refine lc_map walk_signs hDf (fun x => !inV (.str (rep8 (hd1 x))) ((r.ts.map (·.tl)).map V.str)) (fun x => .str (rep8 (hd1 x))) (fun _ _ => trivial) (fun _ => rfl) ?_ ?_ ?_ ?_
      · intro x H' hx s' Q' q'
        obtain ⟨c, hc, rfl⟩ := List.mem_map.mp hx
        exact ⟨_, rfl, c, rfl, rfl, _, rfl, Ds, _, rfl, .inl (.inl (.inl (s' _ _ hD5))), rfl, flS, _, rfl, q'⟩
      · intro x H' hx _ s' Q' q'
        obtain ⟨c, hc, rfl⟩ := List.mem_map.mp hx
        exact ⟨_, rfl, c, rfl, rfl, q'⟩
      · unfold signsOf
        rw [List.length_map]
        exact small1000 (by decide +kernel)
      intro H6 s6 hD6
      obtain ⟨c, z0, hc1, hc2, hz0⟩ : ∃ (c : Nat) (rest : List V), c ∈ TL.tl abc ∧ rep8 c ∉ r.ts.map (·.tl) ∧ ((signsOf abc).filter fun x => !inV (.str (rep8 (hd1 x))) ((r.ts.map (·.tl)).map V.str)).map (fun x => V.str (rep8 (hd1 x))) = .str (rep8 c) :: rest := by
        obtain ⟨c0, h1, h2⟩ := hsp
        have hm : V.str (sign c0) ∈ (signsOf abc).filter fun x => !inV (.str (rep8 (hd1 x))) ((r.ts.map (·.tl)).map V.str) := by
          refine List.mem_filter.mpr ⟨List.mem_map.mpr ⟨c0, h1, rfl⟩, ?_⟩
          show (!inV (.str (rep8 c0)) ((r.ts.map (·.tl)).map V.str)) = true
          rw [inV_strs, decide_eq_false h2]
          rfl
        cases q : (signsOf abc).filter fun x => !inV (.str (rep8 (hd1 x))) ((r.ts.map (·.tl)).map V.str) with
        | nil => rw [q] at hm; cases hm
        | cons x l =>
          have hx : x ∈ (signsOf abc).filter fun x => !inV (.str (rep8 (hd1 x))) ((r.ts.map (·.tl)).map V.str) := by rw [q]; exact List.mem_cons_self
          obtain ⟨hx1, hx2⟩ := List.mem_filter.mp hx
          obtain ⟨c, hc, rfl⟩ := List.mem_map.mp hx1
          refine ⟨c, l.map fun x => .str (rep8 (hd1 x)), hc, fun hm => ?_, rfl⟩
          have hx2 : (!inV (.str (rep8 c)) ((r.ts.map (·.tl)).map V.str)) = true := hx2
          rw [inV_strs, decide_eq_true hm] at hx2
          cases hx2
      rw [hz0] at hD6
      refine ⟨Df, _, 0, _, rfl, rfl, .inl (.inl hD6), atI_nat (j := 0) rfl, ?_⟩
      refine st_nm (σ' := [some (.ref p), some (.ref L), some (.ref l), y3, y4, some (.ref Ds), some (.str (rep8 c)), none, none]) rfl ?_
      have S6 := S5.trans s6
      have wc : IsWd (rep8 c) := by
        rw [abc_tl] at hc1
        obtain ⟨k, hk, rfl⟩ := List.mem_map.mp hc1
        have := List.mem_range.mp hk
        exact sign_wd (by omega) (by omega)
      -- a new telling
      obtain ⟨n0, ns, hns⟩ : ∃ n0 ns, sortS (names r.g) = n0 :: ns := by
        cases q : sortS (names r.g) with
        | cons a l => exact ⟨a, l, rfl⟩
        | nil =>
          obtain ⟨z, hz⟩ := List.exists_mem_of_ne_nil _ gd.ne
          have := mem_sortS.mpr hz
          rw [q] at this
          exact (List.not_mem_nil this).elim
      have hn0 : n0 ∈ names r.g := mem_sortS.mp (by rw [hns]; exact List.mem_cons_self)
      refine ⟨_, rfl, L, r.g, wd, rfl, hGr.keep (tk_same S6), gd.sized, fun Tn H7 nTn s7 hTn => ?_⟩
      rw [hns] at hTn
      refine ⟨Tn, _, 0, _, rfl, rfl, .inl (.inl hTn), atI_nat (j := 0) rfl, _, rfl, lz, fun pn npn => ?_⟩
      have S7 := S6.trans s7
      obtain ⟨tn, etn⟩ : ∃ tn : Tel, tn = ⟨n0, "cat", "a", rep8 c, 5, "self", true⟩ := ⟨_, rfl⟩
      have s8 := same_new (o := .tup [V.str n0, V.str "cat", V.str "a", V.str (rep8 c), V.int 5, V.str "self", V.bl true]) npn
      have hpn : upd H7 pn (.tup [V.str n0, V.str "cat", V.str "a", V.str (rep8 c), V.int 5, V.str "self", V.bl true]) pn = some (.tup (telV tn)) := by
        rw [upd_same, etn]
        rfl
      have S8 := S7.trans s8
      generalize upd H7 pn (.tup [V.str n0, V.str "cat", V.str "a", V.str (rep8 c), V.int 5, V.str "self", V.bl true]) = H8 at s8 hpn S8
      refine st_nm (σ' := [some (.ref p), some (.ref L), some (.ref l), y3, y4, some (.ref Ds), some (.str (rep8 c)), some (.ref pn), none]) rfl ?_
      clear hD5 hD6 hTn nTn npn s7 s8 s6 S7 S6 S5 s5 hlc4 hDf hDs hT4 hl4 s4 hz0 hns flS
      have okn : OkT tn := by
        rw [etn]
        exact ⟨gd.wd n0 hn0, (show IsWd "cat" from by decide +kernel), (show IsWd "a" from by decide +kernel), wc, (show (5 : Nat) ≤ 120 from by decide), (show IsWd "self" from by decide +kernel)⟩
      have vn : tn.v ∈ names r.g := by rw [etn]; exact hn0
      have kn : keyS tn ∉ r.ts.map keyS := fun h => by
        obtain ⟨u, hu, e⟩ := List.mem_map.mp h
        have e2 : u.tl = rep8 c := by
          have := congrArg (fun k => k[1]?) e
          rw [etn] at this
          simpa [keyS] using this
        exact hc2 (List.mem_map.mpr ⟨u, hu, e2⟩)
      have hG8 := hG.same S8
      have hl8 := S8 _ _ hl
      have hT8 := hTs.keep (tk_same S8)
      refine ⟨_, rfl, l, _, rfl, .inl (.inl (.inl hl8)), rfl, _, rfl, ite_b (fun e => ?_) (fun e => ?_)⟩
      · -- two hundred
        have e := V.int.inj (of_decide_eq_true e)
        rw [List.length_map, las] at e
        refine ⟨_, rfl, _, rfl, p, pn, r, wd, tn, rfl, hpn, hG8, gd, hok, okn, vn, h200, by rw [hds]; decide, fun h => absurd h kn, fun _ _ u H9 s9 hu => ?_, fun _ h => by omega⟩
        refine ⟨lz, fun u2 nu2 => ?_⟩
        have sA := same_new (o := .tup [V.str "full", V.int 200]) nu2
        refine ⟨.tuple [.str "full", .int 200], .tuple [.str "full", .int 200], .tup (.inl (.inl (sA _ _ hu))) (.cons (.str _) (.cons (.int _) .nil)), .tup (.inl (.inl upd_same)) (.cons (.str _) (.cons (.int _) .nil)), by decide +kernel, by decide +kernel, true, congrArg V.bl (by decide +kernel), iteT ?_⟩
        have S9 := S8.trans (s9.trans sA)
        refine ⟨_, rfl, _, rfl, _, rfl, p, L, l, r, wd, as, rfl, hG.same S9, hGr.keep (tk_same S9), gd, S9 _ _ hl, hTs.keep (tk_same S9), hok, h200, fun H' s' => ?_⟩
        exact q r H' (Same2.of (S9.trans s')) (hG.same (S9.trans s')) rfl rfl rfl rfl rfl hds
      · have e : ¬ ((as.map V.ref).length : Int) = 200 := fun z => of_decide_eq_false e (congrArg V.int z)
        rw [List.length_map, las] at e
        have lt : r.ts.length < 200 := by omega
        refine ⟨_, rfl, _, rfl, p, pn, r, wd, tn, rfl, hpn, hG8, gd, hok, okn, vn, h200, by rw [hds]; decide, fun h => absurd h kn, fun _ h => absurd h (by omega), fun _ _ u qn H9 nqn m9 hG9 hu => ?_⟩
        have hT9 := tels_2 hT8 hG8 m9
        have hl9 := m9 _ _ nlt nld hl8
        have hpn9 : H9 pn = some (.tup (telV tn)) := m9 _ _ (fun z => by have := hG8.told; rw [← z, hpn] at this; cases this) (fun z => by have := hG8.deeds; rw [← z, hpn] at this; cases this) hpn
        obtain ⟨asL, hL8, hR8⟩ := hGr.keep (tk_same S8)
        have hGr9 : GridAt H9 L r.g := (hGr.keep (tk_same S8)).keep fun b xs e => m9 b _ (fun z => by have := hG8.told; rw [← z, e] at this; cases this) (fun z => by have := hG8.deeds; rw [← z, e] at this; cases this) e
        refine ⟨lz, fun u2 nu2 => ?_⟩
        have sA := same_new (o := .tup [V.str "put", V.non]) nu2
        refine ⟨.tuple [.str "put", .none], .tuple [.str "put", .none], .tup (.inl (.inl (sA _ _ hu))) (.cons (.str _) (.cons .non .nil)), .tup (.inl (.inl upd_same)) (.cons (.str _) (.cons .non .nil)), by decide +kernel, by decide +kernel, ?_⟩
        rw [show PyData.eqv (.tuple [.str "put", .none]) (.tuple [.str "put", .none]) = true from by decide +kernel]
        refine ⟨_, rfl, iteF ?_⟩
        have hGA := hG9.same sA
        have hlA := sA _ _ hl9
        have hpnA := sA _ _ hpn9
        have hTA := hT9.keep (tk_same sA)
        have hGrA := hGr9.keep (tk_same sA)
        generalize upd H9 u2 (.tup [V.str "put", V.non]) = HA at sA hGA hlA hpnA hTA hGrA
        refine ⟨_, rfl, _, rfl, _, rfl, _, rfl, lz, fun u3 nu3 => ?_⟩
        have sB := same_new (o := .lst [V.ref pn]) nu3
        refine ⟨l, u3, _, _, rfl, rfl, sB _ _ hlA, upd_same, lzl (by rw [List.length_map]; show as.length + 1 ≤ 1000; omega), fun u4 nu4 => ?_⟩
        have sC := same_new (o := .lst (as.map V.ref ++ [V.ref pn])) nu4
        have sBC := sB.trans sC
        have hokn : ∀ t ∈ (r.add qn tn).ts, OkT t := fun t ht => by
          rcases List.mem_append.mp ht with ht | ht
          · exact hok t ht
          · rw [List.mem_singleton.mp ht]
            exact okn
        have lenn : (r.add qn tn).ts.length ≤ 200 := by
          show (r.ts ++ [tn]).length ≤ 200
          rw [List.length_append, List.length_singleton]
          omega
        refine ⟨p, L, u4, r.add qn tn, wd, as ++ [pn], rfl, hGA.same sBC, hGrA.keep (tk_same sBC), gd, by rw [upd_same, List.map_append]; rfl, Each.append (hTA.keep (tk_same sBC)) (.cons (sBC _ _ hpnA) .nil), hokn, lenn, fun HD sD => ⟨_, rfl, iteF ?_⟩⟩
        have sAD := sBC.trans sD
        have hGD := hGA.same sAD
        obtain ⟨dxD, hpD⟩ := hGD.at_
        -- taken back
        refine ⟨_, rfl, p, dxD, _, rfl, hpD, gf_no _ _ _, p, r.add qn tn, rfl, hGD, lenn, .inl ⟨r.as, qn, r.ts, tn, r.ds, rfl, rfl, rfl, fun HE mE hGE => ⟨_, rfl, ?_⟩⟩⟩
        have mE : Same2 r.td r.dd HD HE := mE
        obtain ⟨dxE, hpE⟩ := hGE.at_
        have hTD := hTA.keep (tk_same sAD)
        have hTE : TelsAt HE as r.ts := hTD.keep fun b xs e => mE b _ (fun z => by have := hGD.told; rw [show (r.add qn tn).td = r.td from rfl, ← z, e] at this; cases this) (fun z => by have := hGD.deeds; rw [show (r.add qn tn).dd = r.dd from rfl, ← z, e] at this; cases this) e
        have hGrE : GridAt HE L r.g := (hGrA.keep (tk_same sAD)).keep fun b xs e => mE b _ (fun z => by have := hGD.told; rw [show (r.add qn tn).td = r.td from rfl, ← z, e] at this; cases this) (fun z => by have := hGD.deeds; rw [show (r.add qn tn).dd = r.dd from rfl, ← z, e] at this; cases this) e
        have hlE := mE _ _ nlt nld (sAD _ _ hlA)
        have mall : Same2 r.td r.dd H HE := (Same2.of S8).trans (m9.trans ((Same2.of sA).trans ((Same2.of sAD).trans mE)))
        obtain ⟨r', er'⟩ : ∃ r' : GR, r' = { r.add qn tn with as := r.as, ts := r.ts, ds := r.ds } := ⟨_, rfl⟩
        have hGE' : GatAt C D HE p r' := by rw [er']; exact hGE
        refine ⟨p, r', rfl, hGE', by rw [er']; exact hds, fun HF sF => ⟨true, rfl, iteT ?_⟩⟩
        refine ⟨_, rfl, _, rfl, _, rfl, p, L, l, r', wd, as, rfl, hGE'.same sF, by rw [er']; exact hGrE.keep (tk_same sF), by rw [er']; exact gd, sF _ _ hlE, by rw [er']; exact hTE.keep (tk_same sF), by rw [er']; exact hok, by rw [er']; exact h200, fun HG sG => ?_⟩
        exact q r' HG (mall.trans (Same2.of (sF.trans sG))) (hGE'.same (sF.trans sG)) (by rw [er']; rfl) (by rw [er']; rfl) (by rw [er']; rfl) (by rw [er']; rfl) (by rw [er']) (by rw [er']; exact hds)
end
end Wl

/-! sorted(a list of things told by data), and when two such lists are sorted alike -/
namespace Wl
open PySem PySem.Spec PyProof.Rows L2
theorem each_pairs {α β : Type} {R : α → β → Prop} : ∀ {as : List α} {bs : List β}, Each R as bs → ∃ zs : List (α × β), zs.map (·.1) = as ∧ zs.map (·.2) = bs ∧ ∀ z ∈ zs, R z.1 z.2
  | _, _, .nil => ⟨[], rfl, rfl, fun z h => by cases h⟩
  | _, _, .cons (a := a) (b := b) r t => by
    obtain ⟨zs, h1, h2, h3⟩ := each_pairs t
    refine ⟨(a, b) :: zs, by rw [List.map_cons, h1], by rw [List.map_cons, h2], fun z hz => ?_⟩
    rcases List.mem_cons.mp hz with rfl | hz
    · exact r
    · exact h3 z hz
theorem pairs_each {α β : Type} {R : α → β → Prop} : ∀ (zs : List (α × β)), (∀ z ∈ zs, R z.1 z.2) → Each R (zs.map (·.1)) (zs.map (·.2))
  | [], _ => .nil
  | z :: zs, h => .cons (h z List.mem_cons_self) (pairs_each zs fun y hy => h y (List.mem_cons_of_mem _ hy))
def sortE {β : Type} (enc : β → PyData) (bs : List β) : List β := bs.mergeSort (PySem.W.dataLe false enc)
section
variable {β : Type} {enc : β → PyData}
theorem sortE_ind {enc : β → PyData} (bs : List β) : (sortE enc bs).Perm bs := List.mergeSort_perm _ _
theorem le_enc (a b : β) : PySem.W.dataLe false enc a b = !PyProof.Rows.lexLt PyProof.Rows.itemOrd (PySem.W.keyToks (enc b)) (PySem.W.keyToks (enc a)) := by
  rw [PySem.W.dataLe_eq]
  rfl
theorem le_tr (a b c : β) (h1 : PySem.W.dataLe false enc a b = true) (h2 : PySem.W.dataLe false enc b c = true) : PySem.W.dataLe false enc a c = true := by
  rw [le_enc, Bool.not_eq_true'] at h1 h2 ⊢
  cases e : PyProof.Rows.lexLt PyProof.Rows.itemOrd (PySem.W.keyToks (enc c)) (PySem.W.keyToks (enc a)) with
  | false => rfl
  | true =>
    rcases PyProof.Rows.lex_negTrans _ (PySem.W.keyToks (enc b)) _ e with z | z
    · rw [h2] at z
      cases z
    · rw [h1] at z
      cases z
theorem le_tot (a b : β) : (PySem.W.dataLe false enc a b || PySem.W.dataLe false enc b a) = true := by
  rw [le_enc, le_enc]
  cases e : PyProof.Rows.lexLt PyProof.Rows.itemOrd (PySem.W.keyToks (enc b)) (PySem.W.keyToks (enc a)) with
  | false => rfl
  | true =>
    cases e2 : PyProof.Rows.lexLt PyProof.Rows.itemOrd (PySem.W.keyToks (enc a)) (PySem.W.keyToks (enc b)) with
    | false => rfl
    | true =>
      have := PyProof.Rows.lex_trans _ _ _ e e2
      rw [PyProof.Rows.lex_irrefl] at this
      cases this
theorem le_anti (inj : ∀ a b : β, PySem.W.keyToks (enc a) = PySem.W.keyToks (enc b) → a = b) (a b : β) (h1 : PySem.W.dataLe false enc a b = true) (h2 : PySem.W.dataLe false enc b a = true) : a = b := by
  rw [le_enc, Bool.not_eq_true'] at h1 h2
  exact inj a b (PyProof.Rows.lex_total _ _ h2 h1)
theorem sorted_same {le : β → β → Bool} (anti : ∀ a b : β, le a b = true → le b a = true → a = b) : ∀ {l m : List β}, l.Pairwise (fun a b => le a b = true) → m.Pairwise (fun a b => le a b = true) → l.Perm m → l = m
  | [], m, _, _, p => p.nil_eq
  | a :: l, [], _, _, p => absurd p.symm.nil_eq (by simp)
  | a :: l, b :: m, h1, h2, p => by
    have e : a = b := by
      have ha : a ∈ b :: m := p.mem_iff.mp List.mem_cons_self
      have hb : b ∈ a :: l := p.mem_iff.mpr List.mem_cons_self
      rcases List.mem_cons.mp ha with e | ha
      · exact e
      · rcases List.mem_cons.mp hb with e | hb
        · exact e.symm
        · exact anti a b ((List.pairwise_cons.mp h1).1 b hb) ((List.pairwise_cons.mp h2).1 a ha)
    subst e
    rw [sorted_same anti (List.pairwise_cons.mp h1).2 (List.pairwise_cons.mp h2).2 (List.Perm.cons_inv p)]
theorem sortE_perm (inj : ∀ a b : β, PySem.W.keyToks (enc a) = PySem.W.keyToks (enc b) → a = b) {l m : List β} : sortE enc l = sortE enc m ↔ l.Perm m := by
  refine ⟨fun e => ?_, fun p => ?_⟩
  · have h1 := sortE_ind (enc := enc) l
    have h2 := sortE_ind (enc := enc) m
    rw [e] at h1
    exact h1.symm.trans h2
  · refine sorted_same (le := PySem.W.dataLe false enc) (le_anti inj) (List.pairwise_mergeSort le_tr le_tot l) (List.pairwise_mergeSort le_tr le_tot m) ?_
    exact (sortE_ind l).trans (p.trans (sortE_ind m).symm)
/-- sorted(xs) -/
theorem sort_enc {K : PySem.W.Frag} {H : Hp} {Q : VK} {a : Addr} {xs : List V} {bs : List β} (h : SqL K H a xs) (hd : Each (fun x b => Dp K H x (enc b)) xs bs) (al : ∀ b b' : β, PySem.W.alike (enc b) (enc b') = true) (sb : ∀ b, ∃ x r, enc b = .tuple (x :: r)) (dep : ∀ b, (enc b).depth ≤ 8)
    (q : ∀ p ys, H p = none → (∀ R : V → β → Prop, Each R xs bs → Each R ys (sortE enc bs)) → Q (.ref p) (upd H p (.lst ys))) : rSortD K [.ref a] H Q := by
  obtain ⟨zs, e1, e2, hz⟩ := each_pairs hd
  refine ⟨a, zs.map fun z => (z.1, enc z.2), rfl, ?_, ?_, ?_, ?_, ?_, fun p hp => ?_⟩
  · rw [List.map_map]
    exact e1 ▸ h
  · intro b hb
    obtain ⟨z, hzm, rfl⟩ := List.mem_map.mp hb
    exact hz z hzm
  · intro d hd e he
    obtain ⟨b, hb, rfl⟩ := List.mem_map.mp hd
    obtain ⟨x, _, rfl⟩ := List.mem_map.mp hb
    obtain ⟨c, hc, rfl⟩ := List.mem_map.mp he
    obtain ⟨y, _, rfl⟩ := List.mem_map.mp hc
    exact al _ _
  · refine .inl fun d hd => ?_
    obtain ⟨b, hb, rfl⟩ := List.mem_map.mp hd
    obtain ⟨x, _, rfl⟩ := List.mem_map.mp hb
    exact sb _
  · intro b hb
    obtain ⟨x, _, rfl⟩ := List.mem_map.mp hb
    exact dep _
  · have m1 : (zs.mergeSort fun x y => PySem.W.dataLe false enc x.2 y.2).map (fun z => (z.1, enc z.2)) = (zs.map fun z => (z.1, enc z.2)).mergeSort (PySem.W.dataLe false (·.2)) := List.map_mergeSort fun x _ y _ => by
      rw [PySem.W.dataLe_eq, PySem.W.dataLe_eq]
    have m2 : (zs.mergeSort fun x y => PySem.W.dataLe false enc x.2 y.2).map (·.2) = (zs.map (·.2)).mergeSort (PySem.W.dataLe false enc) := List.map_mergeSort fun x _ y _ => rfl
    rw [← m1, List.map_map]
    refine q p _ hp fun R hR => ?_
    have hall : ∀ z ∈ zs, R z.1 z.2 := by
      have : ∀ (zs : List (V × β)), Each R (zs.map (·.1)) (zs.map (·.2)) → ∀ z ∈ zs, R z.1 z.2 := by
        intro zs
        induction zs with
        | nil => intro _ z hz; cases hz
        | cons y ys ih =>
          intro h z hz
          cases h with
          | cons r t =>
            rcases List.mem_cons.mp hz with rfl | hz
            · exact r
            · exact ih t z hz
      rw [← e1, ← e2] at hR
      exact this zs hR
    have e3 := pairs_each (R := R) (zs.mergeSort fun x y => PySem.W.dataLe false enc x.2 y.2) fun z hzm => hall z (List.mem_mergeSort.mp hzm)
    rw [m2, e2] at e3
    exact e3
end
end Wl

namespace Wl
open PySem PySem.Spec PyProof.Rows L2
abbrev sGEq : Stmt := inClass (topS 41) 10
section
variable {P : Program} {w : World} {K : PySem.W.Frag} {mg : Str → Option Value} {base : Heap} {f C D W : Addr} {fd : FuncData}
theorem scGEq : FnScope ["self", "other"] ["self", "other"] (defScope sGEq) := ⟨rfl, rfl, rfl, by decide +kernel, rfl, by decide +kernel, by decide +kernel⟩
end
end Wl





namespace Wl
open PySem PySem.Spec PyProof.Rows L2
theorem tel_inj (t u : Tel) (h : PySem.W.keyToks (telD t) = PySem.W.keyToks (telD u)) : t = u := by
  cases t with
  | mk v th wo tl age g sure =>
    cases u with
    | mk v' th' wo' tl' age' g' sure' =>
      simp only [telD, PySem.W.keyToks, PySem.W.keyToksAll, List.cons_append, List.nil_append, List.cons.injEq, Sum.inl.injEq, Sum.inr.injEq, true_and, and_true] at h
      obtain ⟨h1, h2, h3, h4, h5, h6, h7⟩ := h
      have s1 := str_ext h1
      have s2 := str_ext h2
      have s3 := str_ext h3
      have s4 := str_ext h4
      have s5 : age = age' := by omega
      have s6 := str_ext h6
      have s7 : sure = sure' := by
        revert h7
        cases sure <;> cases sure' <;> simp
      subst s1 s2 s3 s4 s5 s6 s7
      rfl
theorem tels_eqv : ∀ ts us : List Tel, PyData.eqvAll (ts.map telD) (us.map telD) = decide (ts = us)
  | [], [] => by simp [PyData.eqvAll]
  | [], _ :: _ => by simp [PyData.eqvAll]
  | _ :: _, [] => by simp [PyData.eqvAll]
  | t :: ts, u :: us => by
    simp only [List.map_cons, PyData.eqvAll, tel_eqv, tels_eqv ts us, List.cons.injEq]
    by_cases h1 : t = u <;> by_cases h2 : ts = us <;> simp [h1, h2]
theorem tel_alike (t u : Tel) : PySem.W.alike (telD t) (telD u) = true := rfl
theorem tel_depth (t : Tel) : (telD t).depth ≤ 8 := by simp [telD, PyData.depth, PyData.depthAll]
theorem dp_telsE {K : PySem.W.Frag} {H : Hp} : ∀ {xs : List V} {ts : List Tel}, Each (fun (x : V) (t : Tel) => Dp K H x (telD t)) xs ts → DpAll K H xs (ts.map telD)
  | _, _, .nil => .nil
  | _, _, .cons r t => .cons r (dp_telsE t)
theorem each_refs {H : Hp} : ∀ {as : List Addr} {ts : List Tel}, TelsAt H as ts → Each (fun (x : V) (t : Tel) => ∃ p, x = .ref p ∧ H p = some (.tup (telV t))) (as.map V.ref) ts
  | _, _, .nil => .nil
  | _, _, .cons r t => .cons ⟨_, rfl, r⟩ (each_refs t)
/-- told lists, sorted -/
theorem sort_tels {K : PySem.W.Frag} {H : Hp} {Q : VK} {a : Addr} {as : List Addr} {ts : List Tel} (h : H a = some (.lst (as.map V.ref))) (ht : TelsAt H as ts) (q : ∀ p ys, H p = none → Each (fun (x : V) (t : Tel) => ∃ p, x = .ref p ∧ H p = some (.tup (telV t))) ys (sortE telD ts) → Q (.ref p) (upd H p (.lst ys))) : rSortD K [.ref a] H Q := by
  have e := each_refs ht
  refine sort_enc (enc := telD) (.inl (.inl h)) (e.mono fun x t ⟨p, hx, hp⟩ => by rw [hx]; exact dp_tel hp) tel_alike (fun t => ⟨_, _, rfl⟩) tel_depth fun p ys hp hy => q p ys hp (hy _ e)
section
variable {P : Program} {w : World} {K : PySem.W.Frag} {mg : Str → Option Value} {base : Heap} {f C D : Addr} {fd : FuncData}
/-- == of two Gatherings -/
def spGEq (C D : Addr) : Sp := fun vs H Q _ => ∃ (p q : Addr) (r r' : GR) (wd wd' : Nat), vs = [.ref p, .ref q] ∧ GatAt C D H p r ∧ GatAt C D H q r' ∧ Good r.g wd ∧ Good r'.g wd' ∧ (∀ t ∈ r.ts, OkT t) ∧ (∀ t ∈ r'.ts, OkT t) ∧
  ∀ (b : Bool) (H' : Hp), (b = true ↔ r.g = r'.g ∧ r.ts.Perm r'.ts) → Same H H' → Q (.bl b) H'
theorem ok_geq (F : Fun K "__eq__" "Gathering.__eq__" sGEq f fd) (B : Bi mg) (TG : TxtG K mg D) (ins : C8.InsC K D) (hE : HasM P w K mg base C "__eq__" 1 ["self", "other"] (spLEq C)) : FnOk P w K mg base CX0 3 f fd ["self", "other"] (spGEq C D) := by
  obtain ⟨fE, fdE, FE, mE, bE⟩ := hE
  refine F.ok scGEq (fun vs H Q E h => ?_) (fun cdv A outer s H vs Q E hr h => ?_)
  · obtain ⟨p, q, r, r', wd, wd', rfl, _⟩ := h
    rfl
  · obtain ⟨p, q, r, r', wd, wd', rfl, h1, h2, gd, gd', o1, o2, qq⟩ := h
    refine ⟨_, pss_one (ps_ret (pe_and (pe_callB (C8.call_isC (C := D) ins) (by rfl) B.isi (by decide +kernel) (pa_cons (pv 1) (pa_cons (pe_glob (v := .ref D) rfl TG.mgD rfl) pa_nil))) (pe_and (pe_cmpR (op_eqO FE bE mE (hr.mono (by decide))) (pe_fld (pv 0) rfl) (pe_fld (pv 1) rfl) (nomark _)) (pe_one (pe_cmpR (op_eqD hr.units) (pe_callB (cr_sortD hr.units) (by rfl) B.sorted (by decide +kernel) (pa_cons (pe_fld (pv 0) rfl) pa_nil)) (pe_callB (cr_sortD hr.units) (by rfl) B.sorted (by decide +kernel) (pa_cons (pe_fld (pv 1) rfl) pa_nil)) (nomark _)))))), ?_⟩
    obtain ⟨dx, i1⟩ := h1.at_
    obtain ⟨dy, i2⟩ := h2.at_
    obtain ⟨dl, d1, l1⟩ := h1.land.ins
    obtain ⟨dl2, d2, l2⟩ := h2.land.ins
    refine ⟨_, rfl, q, dy, _, rfl, i2, true, rfl, iteT ⟨_, rfl, p, D, dx, _, _, rfl, i1, TG.cl, TG.nL, gf_land _ _ _, _, rfl, q, D, dy, _, _, rfl, i2, TG.cl, TG.nL, gf_land _ _ _, r.pl, dl, _, r'.pl, dl2, _, rfl, rfl, l1, l2, le_land h1.land gd h2.land gd' ⟨_, rfl, _, rfl, ?_⟩⟩⟩
    refine ite_b (fun e => ?_) (fun e => ?_)
    · refine ⟨_, rfl, p, D, dx, _, _, rfl, i1, TG.cl, TG.nT, gf_told _ _ _, ?_⟩
      unfold tNil
      refine sort_tels (K := K) h1.told h1.tels fun u ys hu ey => ?_
      have s1 := same_new (o := .lst ys) hu
      have hu' : upd H u (.lst ys) u = some (.lst ys) := upd_same
      generalize upd H u (.lst ys) = H1 at s1 hu' ⊢
      refine ⟨_, rfl, q, D, dy, _, _, rfl, s1 _ _ i2, TG.cl, TG.nT, gf_told _ _ _, ?_⟩
      refine sort_tels (K := K) (s1 _ _ h2.told) (h2.tels.keep (tk_same s1)) fun u2 ys2 hu2 ey2 => ?_
      have s2 := same_new (o := .lst ys2) hu2
      have hu2' : upd H1 u2 (.lst ys2) u2 = some (.lst ys2) := upd_same
      generalize upd H1 u2 (.lst ys2) = H2 at s2 hu2' ⊢
      have m1 : ∀ t ∈ sortE telD r.ts, OkT t := fun t ht => o1 t ((sortE_ind r.ts).mem_iff.mp ht)
      have m2 : ∀ t ∈ sortE telD r'.ts, OkT t := fun t ht => o2 t ((sortE_ind r'.ts).mem_iff.mp ht)
      refine ⟨.list ((sortE telD r.ts).map telD), .list ((sortE telD r'.ts).map telD), .lst (.inl (.inl (s2 _ _ hu'))) (dp_telsE (ey.mono fun x t ⟨pt, hx, hp⟩ => by rw [hx]; exact dp_tel ((s1.trans s2) _ _ hp))), .lst (.inl (.inl hu2')) (dp_telsE (ey2.mono fun x t ⟨pt, hx, hp⟩ => by rw [hx]; exact dp_tel (s2 _ _ hp))), shaped_tels m1, shaped_tels m2, qq _ H2 ?_ (s1.trans s2)⟩
      have eg : r.g = r'.g := of_decide_eq_true e
      show PyData.eqvAll ((sortE telD r.ts).map telD) ((sortE telD r'.ts).map telD) = true ↔ _
      rw [tels_eqv, decide_eq_true_eq, sortE_perm tel_inj]
      exact ⟨fun h => ⟨eg, h⟩, fun h => h.2⟩
    · refine qq _ H ?_ (Same.refl H)
      have eg : ¬ r.g = r'.g := of_decide_eq_false e
      constructor
      · intro h
        cases h
      · intro h
        exact absurd h.1 eg
end
end Wl




/-! Rules of ours: an object of an own class beside things of other kinds, by == and != -/
namespace Wl
open PySem PySem.Spec PyProof.Rows L2
section
variable {M : Model} {prog : Program} {w : World} {A : Around} {E : Value → Shared → Prop} {s : Shared} {K : PySem.W.Frag} {x C dx : Addr} {od : Option Obj}
theorem dec_none {Q : Fin → Shared → Prop} (hq : Q (.done (.ret .notImplemented)) s) : wpAny M A (Builtin.«NoneType.__eq__» ⟨[.none, .ref x], []⟩) Q E s := by
  unfold Builtin.«NoneType.__eq__»
  refine wpAny_bind (m := slotArgs "__eq__" 1 _) (wpAny_pure ?_)
  exact wpAny_pure hq
theorem dec_int {v : Value} {Q : Fin → Shared → Prop} (hv : (∃ n t, v = .int n t) ∨ ∃ b, v = .bool b) (ho : s.heap.get? x = some (PySem.W.instObj C dx)) (hq : Q (.done (.ret .notImplemented)) s) : wpAny M A (Builtin.«int.__eq__» ⟨[v, .ref x], []⟩) Q E s := by
  show wpAny M A (slotArgs "__eq__" 1 _ >>= _) Q E s
  refine wpAny_bind (wpAny_pure ?_)
  rcases hv with ⟨n, t, rfl⟩ | ⟨b, rfl⟩
  all_goals
    refine wpAny_bind (wpAny_pure ?_)
    refine wpAny_bind (m := asInt? (.ref x)) ?_
    unfold asInt?
    refine wpAny_bind (wpAny_load ho ?_)
    exact wpAny_pure (wpAny_bind (wpAny_rule (wpAny_pure hq)))
theorem dec_str {z : Str} {t : Tok} {Q : Fin → Shared → Prop} (ho : s.heap.get? x = some (PySem.W.instObj C dx)) (hq : Q (.done (.ret .notImplemented)) s) : wpAny M A (Builtin.«str.__eq__» ⟨[.str z t, .ref x], []⟩) Q E s := by
  unfold Builtin.«str.__eq__» Builtin.Str.strCompare
  refine wpAny_bind (wpAny_pure ?_)
  refine wpAny_bind (m := asStr? (.ref x)) ?_
  unfold asStr?
  refine wpAny_bind (wpAny_load ho ?_)
  exact wpAny_pure (wpAny_bind (wpAny_rule (wpAny_pure hq)))
theorem isin_own {T : String} (X : K.In s.heap) (I : PySem.W.InstAt s.heap x (PySem.W.instObj C dx) C od) (hm : PySem.W.mroIn K C (.type T) = some false) : PySem.W.Looks M s.heap (isInstance (.ref x) (.type T)) false := by
  unfold isInstance
  exact I.type.andThen (PySem.W.looks_mroIn X hm)
theorem dec_list {v : Value} {Q : Fin → Shared → Prop} (X : K.In s.heap) (I : PySem.W.InstAt s.heap x (PySem.W.instObj C dx) C od) (hm : PySem.W.mroIn K C (.type "list") = some false) (hq : Q (.done (.ret .notImplemented)) s) : wpAny M A (Builtin.«list.__eq__» ⟨[v, .ref x], []⟩) Q E s := by
  show wpAny M A (slotArgs "__eq__" 1 _ >>= _) Q E s
  refine wpAny_bind (wpAny_pure ?_)
  refine wpAny_bind (m := isInstance (.ref x) (.type "list")) ((isin_own X I hm).here ?_)
  exact wpAny_pure hq
theorem dec_tup {v : Value} {Q : Fin → Shared → Prop} (X : K.In s.heap) (I : PySem.W.InstAt s.heap x (PySem.W.instObj C dx) C od) (hm : PySem.W.mroIn K C (.type "tuple") = some false) (hq : Q (.done (.ret .notImplemented)) s) : wpAny M A (Builtin.«tuple.__eq__» ⟨[v, .ref x], []⟩) Q E s := by
  show wpAny M A (slotArgs "__eq__" 1 _ >>= _) Q E s
  refine wpAny_bind (wpAny_pure ?_)
  refine wpAny_bind (m := isInstance (.ref x) (.type "tuple")) ((isin_own X I hm).here ?_)
  exact wpAny_pure hq
theorem dec_dict {a : Addr} {Q : Fin → Shared → Prop} (hT : s.TypeIs (.ref a) "dict") (X : K.In s.heap) (I : PySem.W.InstAt s.heap x (PySem.W.instObj C dx) C od) (hm : PySem.W.mroIn K C (.type "dict") = some false) (hq : Q (.done (.ret .notImplemented)) s) : wpAny (model prog w) A (Builtin.«dict.__eq__» ⟨[.ref a, .ref x], []⟩) Q E s := by
  show wpAny (model prog w) A (Builtin.Dict.dictSlotArgs "__eq__" ⟨[.ref a, .ref x], []⟩ >>= _) Q E s
  refine wpAny_bind ?_
  unfold Builtin.Dict.dictSlotArgs
  refine wpAny_bind (wpAny_notOrdered_dict hT ?_)
  refine wpAny_pure ?_
  refine wpAny_bind (m := isInstance (.ref x) (.type "dict")) ((isin_own X I hm).here ?_)
  exact wpAny_bind (wpAny_rule (wpAny_pure hq))
theorem rc_back {v : Value} {T id : String} {f : Addr} {Q : Value → Shared → Prop} (hu : A.units < cLine) (X : K.In s.heap) (I : PySem.W.InstAt s.heap x (PySem.W.instObj C dx) C od) (hT : s.TypeIs v T) (hm : PySem.W.mroIn K C (.type T) = some false) (hs : Slot T (cmpInfo .Eq).2.1 id)
    (hd : ∀ Q' : Value → Shared → Prop, Q' .notImplemented s → wpAny (model prog w) A (call (.builtin id) [v, .ref x]) Q' E s)
    (he : PySem.W.findIn K (.ref C) "__eq__" = some (some (.ref f))) (hf : PySem.W.isFn K (.ref f) = true)
    (h : wpAny (model prog w) A (call (.ref f) [.ref x, v]) (fun r s' => ∃ c, r = .bool c ∧ Q r s') E s) : wpAny (model prog w) A (richCompare .Eq v (.ref x)) Q E s := by
  have one : wpAny (model prog w) A (tryCompare v "__eq__" (.ref x)) (fun r s' => r = none ∧ s' = s) E s := wpAny_tryCompare_declines hT hs (hd _ ⟨rfl, rfl, rfl⟩)
  have two : wpAny (model prog w) A (tryCompare (.ref x) "__eq__" v) (fun r s' => ∃ v, r = some v ∧ Q v s') E s := by
    unfold tryCompare
    refine wpAny_bind (PySem.W.ifBound_K X I he hf (wpAny_mono h (fun r s' hv => ?_) fun _ _ e => e))
    obtain ⟨c, rfl, q⟩ := hv
    exact wpAny_pure ⟨_, rfl, q⟩
  simp only [richCompare, cmpInfo_Eq, hT.oneThing_none]
  refine wpAny_holding (wpAny_bind (wpAny_cRoomFor hu ?_))
  refine wpAny_bind (wpAny_typeOf hT (wpAny_bind (I.type.here ?_)))
  split
  · refine wpAny_bind ((PySem.W.looks_mroIn X hm).here ?_)
    simp only [Bool.false_eq_true, if_false, Bool.not_false, if_true]
    refine wpAny_bind (m := tryCompare v _ (.ref x)) (wpAny_mono one (fun r s1 z => ?_) fun _ _ e => e)
    obtain ⟨z1, z2⟩ := z
    subst z1
    subst z2
    refine wpAny_bind (m := tryCompare (.ref x) _ v) (wpAny_mono two (fun r s2 z => ?_) fun _ _ e => e)
    obtain ⟨r2, rfl, q⟩ := z
    exact wpAny_pure q
  · rename_i q
    exact absurd (by simp) q
end
/-- x != y, x of an own class whose == is a def of its own -/
theorem ne_T {A : Around} {E : Value → Shared → Prop} {s : Shared} {prog : Program} {w : World} {K : PySem.W.Frag} {x C f : Addr} {y tb : Value} {ox : Obj} {od : Option Obj} {Q : Value → Shared → Prop} (hu : A.units + 2 < cLine) (X : K.In s.heap) (I : PySem.W.InstAt s.heap x ox C od) (hb : PySem.W.Looks (model prog w) s.heap (typeOf y) tb) (hn : PySem.W.notFirst K C tb = true) (N : NeC K C) (he : PySem.W.findIn K (.ref C) "__eq__" = some (some (.ref f))) (hf : PySem.W.isFn K (.ref f) = true)
    (h : wpAny (model prog w) A.in1 (call (.ref f) [.ref x, y]) (fun v s' => ∃ c, v = .bool c ∧ Q (.bool (!c)) s') E s) : wpAny (model prog w) A (richCompare .NotEq (.ref x) y) Q E s := by
  have one : wpAny (model prog w) A (tryCompare (.ref x) "__ne__" y) (fun r s' => ∃ v, r = some v ∧ Q v s') E s := by
    unfold tryCompare
    refine wpAny_bind (ifBound_B X I N.ne PySem.F.slot_object_ne.bind (wpAny_mono (obj_neK (Q := fun v s' => ∃ c, v = .bool c ∧ Q v s') (by omega) X I N he hf (wpAny_mono h (fun v s' hv => ?_) fun _ _ z => z)) (fun v s' hv => ?_) fun _ _ z => z))
    · obtain ⟨c, rfl, q⟩ := hv
      exact ⟨c, rfl, _, rfl, q⟩
    · obtain ⟨c, rfl, q⟩ := hv
      exact wpAny_pure ⟨_, rfl, q⟩
  unfold richCompare
  simp only [oneThing_ref]
  refine wpAny_holding (wpAny_bind (wpAny_cRoomFor (by omega) ?_))
  refine wpAny_bind (I.type.here (wpAny_bind (hb.here ?_)))
  split
  · rename_i q
    have e : PySem.W.subIn K tb (.ref C) = some false := by
      rcases Bool.or_eq_true_iff.mp hn with e | e
      · rw [beq_iff_eq.mp e] at q; simp at q
      · exact beq_iff_eq.mp e
    refine wpAny_bind ((PySem.W.looks_subIn X e).here ?_)
    simp only [Bool.false_eq_true, if_false]
    refine wpAny_bind (wpAny_mono one (fun r s' z => ?_) fun _ _ e => e)
    obtain ⟨v, rfl, hq⟩ := z
    exact wpAny_pure hq
  · refine wpAny_bind (wpAny_pure ?_)
    simp only [Bool.false_eq_true, if_false]
    refine wpAny_bind (wpAny_mono one (fun r s' z => ?_) fun _ _ e => e)
    obtain ⟨v, rfl, hq⟩ := z
    exact wpAny_pure hq
section
variable {X : Cx} {n : Nat} {f : Addr} {fd : FuncData} {ps : List Str} {sp : Sp} {C : Addr}
theorem look_ty {pins : List (Addr × Obj)} {s : Shared} {σ : L2.St} {H : Hp} {y : V} {u t : Value} (I : L2.Inv X pins σ H s) (ry : RelV y u) (ty : TyX X.K H y t) : PySem.W.Looks (model X.prog X.w) s.heap (typeOf u) t := by
  obtain ⟨Pr, k, hP, _⟩ := kit_of I ry ty
  exact k.ty _ _ I.kIn hP
/-- x == y, x of an own class -/
def rEqT (K : PySem.W.Frag) (C : Addr) (sp : Sp) (g : Bool → Bool) : R2 := fun x y H Q => ∃ a dx fs t, x = V.ref a ∧ H a = some (.ins C dx fs) ∧ TyX K H y t ∧ PySem.W.notFirst K C t = true ∧ sp [.ref a, y] H (fun v H' => ∃ c, v = .bl c ∧ Q (.bl (g c)) H') E0
theorem rc_eqT {A : Around} {pins : List (Addr × Obj)} {s : Shared} {σ : L2.St} {H : Hp} {a dx : Addr} {fs : List (Str × V)} {y : V} {u t : Value} {Q : Bool → Hp → Prop} (F : FnOk X.prog X.w X.K X.mg X.base CX0 n f fd ps sp) (hb : Binds X.K fd ps []) (m : Meth X.K C "__eq__" f) (sb : Sub X n A) (I : L2.Inv X pins σ H s)
    (ha : H a = some (.ins C dx fs)) (ry : RelV y u) (ty : TyX X.K H y t) (hn : PySem.W.notFirst X.K C t = true) (hsp : sp [.ref a, y] H (fun v H' => ∃ c, v = .bl c ∧ Q c H') E0) :
    wpAny (model X.prog X.w) A (richCompare .Eq (.ref a) u) (fun v s' => ∃ c, v = .bool c ∧ ∃ H', L2.Inv X pins σ H' s' ∧ Q c H') X.xe s := by
  obtain ⟨mA, J, _⟩ := ins_get I.hok ha
  obtain ⟨od, J, _⟩ := J.look
  obtain ⟨m', hF⟩ := I.fr
  have r2 : Vals [V.ref a, y] [Value.ref a, u] := .cons rfl (.cons ry .nil)
  refine PySem.W.cmp_K (op := .Eq) (tb := t) sb.room.units0 hF I.ok.mod.kin J (look_ty I ry ty) hn m.at_ m.fn (wpAny_mono (run_own F hb sb I r2 hsp) (fun v s' hq => ?_) fun _ _ z => z)
  obtain ⟨z, H', I', rz, c, rfl, q⟩ := hq
  cases rz
  exact ⟨c, rfl, H', I', q⟩
theorem op_eqT (F : FnOk X.prog X.w X.K X.mg X.base CX0 n f fd ps sp) (hb : Binds X.K fd ps []) (m : Meth X.K C "__eq__" f) (hr : Room n X.A) : OpR X (compareOp .Eq) (rEqT X.K C sp id) := by
  intro pins s σ H x y v u Q I rx ry h
  obtain ⟨a, dx, fs, t, rfl, ha, ty, hn, hsp⟩ := h
  cases rx
  show wpAny (model X.prog X.w) X.A (richCompare .Eq (.ref a) u) (EP X pins σ Q) X.xe s
  refine wpAny_mono (rc_eqT F hb m ⟨hr, rfl⟩ I ha ry ty hn hsp) (fun v s' hq => ?_) fun _ _ z => z
  obtain ⟨c, rfl, H', I', q⟩ := hq
  exact ⟨.bl c, H', I', rfl, q⟩
theorem op_neT (F : FnOk X.prog X.w X.K X.mg X.base CX0 n f fd ps sp) (hb : Binds X.K fd ps []) (m : Meth X.K C "__eq__" f) (N : NeC X.K C) (hr : Room (n + 1) X.A) : OpR X (compareOp .NotEq) (rEqT X.K C sp not) := by
  intro pins s σ H x y v u Q I rx ry h
  obtain ⟨a, dx, fs, t, rfl, ha, ty, hn, hsp⟩ := h
  cases rx
  obtain ⟨mA, J, _⟩ := ins_get I.hok ha
  obtain ⟨od, J, _⟩ := J.look
  have r2 : Vals [V.ref a, y] [Value.ref a, u] := .cons rfl (.cons ry .nil)
  show wpAny (model X.prog X.w) X.A (richCompare .NotEq (.ref a) u) (EP X pins σ Q) X.xe s
  refine ne_T (room_u2 hr) I.kIn J (look_ty I ry ty) hn N m.at_ m.fn (wpAny_mono (run_own F hb (Sub.in1 ⟨hr, rfl⟩) I r2 hsp) (fun v s' hq => ?_) fun _ _ z => z)
  obtain ⟨z, H', I', rz, c, rfl, q⟩ := hq
  cases rz
  exact ⟨c, rfl, .bl (!c), H', I', rfl, q⟩
/-- things that are of no own class -/
inductive OthV (H : Hp) : V → String → Prop where
  | non : OthV H .non "NoneType"
  | bl (b : Bool) : OthV H (.bl b) "bool"
  | int (i : Int) : OthV H (.int i) "int"
  | str (z : Str) : OthV H (.str z) "str"
  | lst {a : Addr} {xs : List V} (e : H a = some (.lst xs)) : OthV H (.ref a) "list"
  | tup {a : Addr} {xs : List V} (e : H a = some (.tup xs)) : OthV H (.ref a) "tuple"
  | dK {a : Addr} {kvs : List (Key × V)} (e : H a = some (.dK kvs)) : OthV H (.ref a) "dict"
theorem OthV.ty {K : PySem.W.Frag} {H : Hp} {y : V} {T : String} (h : OthV H y T) : TyX K H y (.type T) := by
  cases h with
  | non => exact .base .non
  | bl b => exact .base (.bl b)
  | int i => exact .base (.int i)
  | str z => exact .base (.str z)
  | lst e => exact .base (.lst e)
  | tup e => exact .base (.tup e)
  | dK e => exact .base (.dK e)
theorem mro7 : fastBuiltinMro "NoneType" = some [.type "NoneType", .type "object"] ∧ fastBuiltinMro "bool" = some [.type "bool", .type "int", .type "object"] ∧ fastBuiltinMro "int" = some [.type "int", .type "object"] ∧ fastBuiltinMro "str" = some [.type "str", .type "object"] ∧ fastBuiltinMro "list" = some [.type "list", .type "object"] ∧ fastBuiltinMro "tuple" = some [.type "tuple", .type "object"] ∧ fastBuiltinMro "dict" = some [.type "dict", .type "object"] := by
  refine ⟨?_, ?_, ?_, ?_, ?_, ?_, ?_⟩ <;> decide +kernel
theorem OthV.notFirst {K : PySem.W.Frag} {C : Addr} {H : Hp} {y : V} {T : String} (h : OthV H y T) : PySem.W.notFirst K C (.type T) = true := by
  have m := mro7
  have go : ∀ (T : String) (l : List Value), fastBuiltinMro T = some l → (l.contains (.ref C)) = false → PySem.W.notFirst K C (.type T) = true := fun T l e1 e2 => by
    show (Value.type T == .ref C || ((fastBuiltinMro T).map (·.contains (.ref C))) == some false) = true
    rw [e1]
    show (Value.type T == .ref C || some (l.contains (.ref C)) == some false) = true
    rw [e2]
    simp
  cases h with
  | non => exact go _ _ m.1 (by simp)
  | bl b => exact go _ _ m.2.1 (by simp)
  | int i => exact go _ _ m.2.2.1 (by simp)
  | str z => exact go _ _ m.2.2.2.1 (by simp)
  | lst e => exact go _ _ m.2.2.2.2.1 (by simp)
  | tup e => exact go _ _ m.2.2.2.2.2.1 (by simp)
  | dK e => exact go _ _ m.2.2.2.2.2.2 (by simp)
end
end Wl

/-! y == x, x of an own class, y of no own class; x in ys -/
namespace Wl
open PySem PySem.Spec PyProof.Rows L2
/-- the built-in kinds a class is no kind of -/
structure NoKind (K : PySem.W.Frag) (C : Addr) : Prop where
  non : PySem.W.mroIn K C (.type "NoneType") = some false
  bl : PySem.W.mroIn K C (.type "bool") = some false
  int : PySem.W.mroIn K C (.type "int") = some false
  str : PySem.W.mroIn K C (.type "str") = some false
  lst : PySem.W.mroIn K C (.type "list") = some false
  tup : PySem.W.mroIn K C (.type "tuple") = some false
  dK : PySem.W.mroIn K C (.type "dict") = some false
section
variable {X : Cx} {n : Nat} {f : Addr} {fd : FuncData} {ps : List Str} {sp : Sp} {C : Addr}
theorem rc_eqR {A : Around} {pins : List (Addr × Obj)} {s : Shared} {σ : L2.St} {H : Hp} {a dx : Addr} {fs : List (Str × V)} {y : V} {u : Value} {T : String} {Q : Bool → Hp → Prop} (F : FnOk X.prog X.w X.K X.mg X.base CX0 n f fd ps sp) (hb : Binds X.K fd ps []) (m : Meth X.K C "__eq__" f) (N : NoKind X.K C) (sb : Sub X n A) (I : L2.Inv X pins σ H s)
    (ha : H a = some (.ins C dx fs)) (ry : RelV y u) (o : OthV H y T) (hsp : sp [.ref a, y] H (fun v H' => ∃ c, v = .bl c ∧ Q c H') E0) :
    wpAny (model X.prog X.w) A (richCompare .Eq u (.ref a)) (fun v s' => ∃ c, v = .bool c ∧ ∃ H', L2.Inv X pins σ H' s' ∧ Q c H') X.xe s := by
  obtain ⟨mA, J, _⟩ := ins_get I.hok ha
  have hob := J.obj
  obtain ⟨od, J, _⟩ := J.look
  have r2 : Vals [V.ref a, y] [Value.ref a, u] := .cons rfl (.cons ry .nil)
  have hu := sb.room.units0
  have run : wpAny (model X.prog X.w) A (call (.ref f) [.ref a, u]) (fun r s' => ∃ c, r = .bool c ∧ ∃ c', r = .bool c' ∧ ∃ H', L2.Inv X pins σ H' s' ∧ Q c' H') X.xe s := wpAny_mono (run_own F hb sb I r2 hsp) (fun v s' hq => by
    obtain ⟨z, H', I', rz, c, rfl, q⟩ := hq
    cases rz
    exact ⟨c, rfl, c, rfl, H', I', q⟩) fun _ _ z => z
  cases o with
  | non =>
    obtain rfl : u = Value.none := ry
    exact rc_back hu I.kIn J (T := "NoneType") rfl N.non PySem.F.slot_NoneType_eq (fun Q' q => wpAny_call_entry PySem.F.slot_NoneType_eq rfl PySem.F.entry_NoneType_eq (dec_none ⟨_, rfl, q⟩) (PySem.F.args_NoneType_eq_2 _ _)) m.at_ m.fn run
  | bl b =>
    obtain rfl : u = Value.bool b := ry
    exact rc_back hu I.kIn J (T := "bool") rfl N.bl PySem.F.slot_bool_eq (fun Q' q => wpAny_call_entry PySem.F.slot_bool_eq rfl PySem.F.entry_int_eq (dec_int (.inr ⟨b, rfl⟩) hob ⟨_, rfl, q⟩) (PySem.F.args_int_eq_2 _ _)) m.at_ m.fn run
  | int i =>
    obtain ⟨t, rfl⟩ := ry
    exact rc_back hu I.kIn J (T := "int") rfl N.int PySem.F.slot_int_eq (fun Q' q => wpAny_call_entry PySem.F.slot_int_eq rfl PySem.F.entry_int_eq (dec_int (.inl ⟨i, t, rfl⟩) hob ⟨_, rfl, q⟩) (PySem.F.args_int_eq_2 _ _)) m.at_ m.fn run
  | str z =>
    obtain ⟨t, rfl⟩ := ry
    exact rc_back hu I.kIn J (T := "str") rfl N.str PySem.F.slot_str_eq (fun Q' q => wpAny_call_entry PySem.F.slot_str_eq rfl PySem.F.entry_str_eq (dec_str hob ⟨_, rfl, q⟩) (PySem.F.args_str_eq_2 _ _)) m.at_ m.fn run
  | lst e =>
    rename_i l xs
    obtain rfl : u = Value.ref l := ry
    obtain ⟨its, r, ⟨ob, k, e1, e2, _⟩, _⟩ := I.list (.inl (.inl e))
    have hT : s.TypeIs (.ref l) "list" := ⟨ob, e1, e2⟩
    exact rc_back hu I.kIn J (T := "list") hT N.lst PySem.F.slot_list_eq (fun Q' q => wpAny_call_entry PySem.F.slot_list_eq hT PySem.F.entry_list_eq (dec_list I.kIn J N.lst ⟨_, rfl, q⟩) (PySem.F.args_list_eq_2 _ _)) m.at_ m.fn run
  | tup e =>
    rename_i l xs
    obtain rfl : u = Value.ref l := ry
    obtain ⟨its, r, ⟨ob, e1, e2, _⟩, _⟩ := I.tuple (.inl (.inl e))
    have hT : s.TypeIs (.ref l) "tuple" := ⟨ob, e1, e2⟩
    exact rc_back hu I.kIn J (T := "tuple") hT N.tup PySem.F.slot_tuple_eq (fun Q' q => wpAny_call_entry PySem.F.slot_tuple_eq hT PySem.F.entry_tuple_eq (dec_tup I.kIn J N.tup ⟨_, rfl, q⟩) (PySem.F.args_tuple_eq_2 _ _)) m.at_ m.fn run
  | dK e =>
    rename_i l kvs
    obtain rfl : u = Value.ref l := ry
    obtain ⟨_, _, vs, _, d⟩ := I.hok l _ e
    have hT : s.TypeIs (.ref l) "dict" := d.typeIs
    exact rc_back hu I.kIn J (T := "dict") hT N.dK PySem.F.slot_dict_eq (fun Q' q => wpAny_call_entry PySem.F.slot_dict_eq hT PySem.F.entry_dict_eq (dec_dict hT I.kIn J N.dK ⟨_, rfl, q⟩) (PySem.F.args_dict_eq_2 _ _)) m.at_ m.fn run
/-- y == x, y of no own class, x of an own one -/
def rEqR (C : Addr) (sp : Sp) : R2 := fun y x H Q => ∃ a dx fs T, x = V.ref a ∧ H a = some (.ins C dx fs) ∧ OthV H y T ∧ sp [.ref a, y] H (fun v H' => ∃ c, v = .bl c ∧ Q (.bl c) H') E0
theorem op_eqR (F : FnOk X.prog X.w X.K X.mg X.base CX0 n f fd ps sp) (hb : Binds X.K fd ps []) (m : Meth X.K C "__eq__" f) (N : NoKind X.K C) (hr : Room n X.A) : OpR X (compareOp .Eq) (rEqR C sp) := by
  intro pins s σ H y x u v Q I ry rx h
  obtain ⟨a, dx, fs, T, rfl, ha, o, hsp⟩ := h
  cases rx
  show wpAny (model X.prog X.w) X.A (richCompare .Eq u (.ref a)) (EP X pins σ Q) X.xe s
  refine wpAny_mono (rc_eqR F hb m N ⟨hr, rfl⟩ I ha ry o hsp) (fun v s' hq => ?_) fun _ _ z => z
  obtain ⟨c, rfl, H', I', q⟩ := hq
  exact ⟨.bl c, H', I', rfl, q⟩
/-- one rule or another -/
theorem op_or {op : Value → Value → Sem Value} {r1 r2 : R2} (h1 : OpR X op r1) (h2 : OpR X op r2) : OpR X op (fun x y H Q => r1 x y H Q ∨ r2 x y H Q) := by
  intro pins s σ H x y v u Q I rx ry h
  rcases h with h | h
  · exact h1 pins s σ H x y v u Q I rx ry h
  · exact h2 pins s σ H x y v u Q I rx ry h
end
end Wl

/-! x in ys, ys a list or a tuple of things, x of an own class -/
namespace Wl
open PySem PySem.Spec PyProof.Rows L2
open GQ MeetsSeq MeetsSeq2 MeetsSeq3 SeqRoads2 in
open AutoSeq1 (wpAny_loadPart') in
theorem containsT {prog : Program} {w : World} {A : Around} {R : Result → Shared → Prop} {s : Shared} {l : Addr} {items : Array Value} {n : Nat} {dd : Option Addr} {sl : Array (Option Value)} {x : Value} (P : Nat → Shared → Prop)
    (turn : ∀ (i : Nat) (h : i < items.size) (s : Shared), P i s → wpAny (model prog w) A.in1 (eqBool items[i] x) (fun b s' => if b = true then R (.ok (.ret (.bool true))) s' else P (i + 1) s') (fun e s' => R (.error e) s') s)
    (fin : ∀ s, P items.size s → R (.ok (.ret (.bool false))) s) (hl : s.heap.get? l = some { cls := .type "tuple", dict := dd, data := .seq items n, slots := sl }) (h : P 0 s) :
    wpAny (model prog w) A.in1 (Builtin.«tuple.__contains__» ⟨[.ref l, x], []⟩) (FinOf prog w A R) (fun e s' => R (.error e) s') s := by
  have h0 := h
  obtain ⟨hp, g, d, tk, os⟩ := s
  wp_walk using wpAny_loadPart' hl, wpAny_forIn_array _ (fun rest b s' => b.1 = none ∧ ∃ i, rest = items.toList.drop i ∧ i ≤ items.size ∧ P i s') _
  case turn =>
    rintro y rest b s' ⟨hb', i, hz, hi, hI⟩
    have hlt : i < items.toList.length := by
      rcases Nat.lt_or_ge i items.toList.length with h' | h'
      · exact h'
      · rw [List.drop_of_length_le h'] at hz; cases hz
    have h1 : i < items.size := by simpa using hlt
    rw [List.drop_eq_getElem_cons hlt] at hz
    injection hz with hy hrest
    have hy : y = items[i] := by simpa using hy
    subst hy
    refine wpAny_bind (wpAny_mono (turn i h1 s' hI) (fun r s2 q2 => ?_) fun _ _ x => x)
    cases r with
    | true =>
      rw [if_pos rfl] at q2
      wp_walk
      first
        | exact q2
        | exact ⟨_, rfl, q2⟩
    | false =>
      rw [if_neg (by decide)] at q2
      wp_walk
      exact ⟨rfl, i + 1, hrest, h1, q2⟩
  case fin =>
    rintro ⟨b1, b2⟩ s' ⟨hb', i, hz, hi, hI⟩
    simp only at hb'
    subst hb'
    have hge : items.size ≤ i := by
      rcases Nat.lt_or_ge i items.toList.length with h' | h'
      · rw [List.drop_eq_getElem_cons h'] at hz; cases hz
      · simpa using h'
    have hi' : i = items.size := by omega
    have hR : R (.ok (.ret (.bool false))) s' := fin s' (hi' ▸ hI)
    wp_walk
    exact hR
  case h =>
    exact ⟨rfl, 0, rfl, Nat.zero_le _, h0⟩
open GQ MeetsSeq MeetsSeq2 MeetsSeq3 SeqRoads2 in
open AutoSeq1 (wpAny_loadPart') in
theorem contains_loopV {prog : Program} {w : World} {A : Around} {R : Result → Shared → Prop} {l : Addr} {N : Nat} {x : Value} (P : Nat → Shared → Prop)
    (hl : ∀ i s, P i s → ∃ (items : Array Value) (k : Nat), s.heap.get? l = some { cls := .type "list", data := .seq items k } ∧ items.size = N ∧ ∀ h : i < items.size, wpAny (model prog w) A.in1 (eqBool items[i] x) (fun b s' => if b = true then R (.ok (.ret (.bool true))) s' else P (i + 1) s') (fun e s' => R (.error e) s') s)
    (fin : ∀ s, P N s → R (.ok (.ret (.bool false))) s) (k : Nat) :
    ∀ i : Nat, N - i = k → i ≤ N → ∀ s, P i s → wpAny (model prog w) A.in1 (Builtin.«list.__contains__.loop» ⟨[.ref l, x, rawInt i], []⟩) (FinOf prog w A R) (fun e s' => R (.error e) s') s := by
  induction k with
  | zero =>
    intro i hk hi s h
    obtain ⟨items, k, hl1, hN, _⟩ := hl i s h
    have e : i = N := by omega
    have q := fin s (e ▸ h)
    obtain ⟨hp, g, d, tk, os⟩ := s
    wp_walk using wpAny_loadPart' hl1
    have hi1 : items[((i : Nat) : Int).toNat]? = none := by simp; omega
    rw [hi1]
    wp_walk
    exact q
  | succ k ih =>
    intro i hk hi s h
    obtain ⟨items, k1, hl1, hN, turn⟩ := hl i s h
    have hlt : i < items.size := by omega
    have ht := turn hlt
    obtain ⟨hp, g, d, tk, os⟩ := s
    wp_walk using wpAny_loadPart' hl1
    have hi1 : items[((i : Nat) : Int).toNat]? = some items[i] := by simp [hlt]
    rw [hi1]
    refine wpAny_bind (wpAny_mono ht (fun b s2 h2 => ?_) fun _ _ z => z)
    cases b with
    | true =>
      rw [if_pos rfl] at h2
      wp_walk
      exact h2
    | false =>
      rw [if_neg (by decide)] at h2
      have hrec := ih (i + 1) (by omega) (by omega) s2 h2
      obtain ⟨hp2, g2, d2, tk2, os2⟩ := s2
      have hc : ((i : Int) + 1) = ((i + 1 : Nat) : Int) := by omega
      wp_walk
      rw [hc]
      exact ⟨plainId_quiet plain_contains_loop _, codeAny_builtin entry_contains_loop (by
        rw [Around.under_plainId plain_contains_loop _]
        exact hrec)⟩
open GQ MeetsSeq MeetsSeq2 MeetsSeq3 SeqRoads2 in
open AutoSeq1 (wpAny_loadPart') in
theorem containsV {prog : Program} {w : World} {A : Around} {R : Result → Shared → Prop} {s : Shared} {l : Addr} {N : Nat} {x : Value} (P : Nat → Shared → Prop)
    (hl : ∀ i s, P i s → ∃ (items : Array Value) (k : Nat), s.heap.get? l = some { cls := .type "list", data := .seq items k } ∧ items.size = N ∧ ∀ h : i < items.size, wpAny (model prog w) A.in1 (eqBool items[i] x) (fun b s' => if b = true then R (.ok (.ret (.bool true))) s' else P (i + 1) s') (fun e s' => R (.error e) s') s)
    (fin : ∀ s, P N s → R (.ok (.ret (.bool false))) s) (h : P 0 s) :
    wpAny (model prog w) A.in1 (Builtin.«list.__contains__» ⟨[.ref l, x], []⟩) (FinOf prog w A R) (fun e s' => R (.error e) s') s := by
  have hrec := contains_loopV (A := A) (R := R) P hl fin _ 0 rfl (Nat.zero_le _) s h
  obtain ⟨items, k, hl1, _⟩ := hl 0 s h
  obtain ⟨hp, g, d, tk, os⟩ := s
  wp_walk using wpAny_loadPart' hl1
  exact ⟨plainId_quiet plain_contains_loop _, codeAny_builtin entry_contains_loop (by
    rw [Around.under_plainId plain_contains_loop _]
    exact hrec)⟩
theorem OthV.same {H H' : Hp} {y : V} {T : String} (h : OthV H y T) (s : Same H H') : OthV H' y T := by
  cases h with
  | non => exact .non
  | bl b => exact .bl b
  | int i => exact .int i
  | str z => exact .str z
  | lst e => exact .lst (s _ _ e)
  | tup e => exact .tup (s _ _ e)
  | dK e => exact .dK (s _ _ e)
/-- how an item is found beside x at a -/
def ItemOk (C a : Addr) (sp : Sp) (H : Hp) (z : V) (c : Bool) : Prop :=
  (∃ T, OthV H z T ∧ ∀ H', Same H H' → sp [.ref a, z] H' (fun v H'' => ∃ r, v = .bl r ∧ r = c ∧ Same H' H'') E0) ∨
  (z = .ref a ∧ c = true) ∨
  (∃ b dy gs, z = .ref b ∧ b ≠ a ∧ H b = some (.ins C dy gs) ∧ ∀ H', Same H H' → sp [.ref b, .ref a] H' (fun v H'' => ∃ r, v = .bl r ∧ r = c ∧ Same H' H'') E0)
section
variable {X : Cx} {n : Nat} {f : Addr} {fd : FuncData} {ps : List Str} {sp : Sp} {C : Addr}
theorem eqBool_flatG {prog : Program} {w : World} {A : Around} {E : Value → Shared → Prop} {s : Shared} {v : Value} {a : Addr} {Q : Bool → Shared → Prop} (hne : v ≠ .ref a) (h : wpAny (model prog w) A (richCompare .Eq v (.ref a)) (fun v s' => ∃ r, v = .bool r ∧ Q r s') E s) : wpAny (model prog w) A (eqBool v (.ref a)) Q E s := by
  unfold eqBool
  refine wpAny_holding ?_
  refine wpAny_ite_split (fun hab => absurd (eq_of_beq hab) hne) (fun _ => ?_)
  cases v <;>
  · refine wpAny_bind (wpAny_mono h (fun v s' hv => ?_) fun _ _ x => x)
    obtain ⟨r, rfl, q⟩ := hv
    exact wpAny_truthy_bool q
theorem eq_item {A : Around} {pins : List (Addr × Obj)} {s : Shared} {σ : L2.St} {H H' : Hp} {a dx : Addr} {fs : List (Str × V)} {z : V} {u : Value} {c : Bool} (F : FnOk X.prog X.w X.K X.mg X.base CX0 n f fd ps sp) (hb : Binds X.K fd ps []) (m : Meth X.K C "__eq__" f) (N : NoKind X.K C) (sb : Sub X n A) (I : L2.Inv X pins σ H' s)
    (s0 : Same H H') (ha : H a = some (.ins C dx fs)) (rz : RelV z u) (it : ItemOk C a sp H z c) :
    wpAny (model X.prog X.w) A (eqBool u (.ref a)) (fun b s' => b = c ∧ ∃ H'', L2.Inv X pins σ H'' s' ∧ Same H H'') X.xe s := by
  have ha' := s0 _ _ ha
  rcases it with ⟨T, o, hsp⟩ | ⟨rfl, rfl⟩ | ⟨b, dy, gs, rfl, hne, hb', hsp⟩
  · have hne : u ≠ .ref a := fun e => by
      subst e
      cases o with
      | non => cases rz
      | bl b => cases rz
      | int i => obtain ⟨t, e⟩ := rz; cases e
      | str y => obtain ⟨t, e⟩ := rz; cases e
      | lst e => cases rz; rw [ha] at e; cases e
      | tup e => cases rz; rw [ha] at e; cases e
      | dK e => cases rz; rw [ha] at e; cases e
    refine eqBool_flatG hne (wpAny_mono (rc_eqR F hb m N sb I ha' rz (o.same s0) (Q := fun r H'' => r = c ∧ Same H' H'') (hsp H' s0)) (fun v s' hq => ?_) fun _ _ x => x)
    obtain ⟨r, rfl, H'', I', rfl, s2⟩ := hq
    exact ⟨_, rfl, rfl, H'', I', s0.trans s2⟩
  · cases rz
    exact SeqAt.EqAt.same (A := A) (s := s) (.ref a) X.prog X.w X.xe _ ⟨rfl, H', I, s0⟩
  · cases rz
    refine GQ.eqBool_refG hne (wpAny_mono (rc_eqO F hb m sb I (s0 _ _ hb') ha' (Q := fun r H'' => r = c ∧ Same H' H'') (hsp H' s0)) (fun v s' hq => ?_) fun _ _ x => x)
    obtain ⟨r, rfl, H'', I', rfl, s2⟩ := hq
    exact ⟨_, rfl, rfl, H'', I', s0.trans s2⟩
/-- x in ys -/
def rInG (C : Addr) (sp : Sp) (g : Bool → Bool) : R2 := fun x y H Q => ∃ a dx fs l xs cs, x = V.ref a ∧ y = V.ref l ∧ (H l = some (.lst xs) ∨ H l = some (.tup xs)) ∧ H a = some (.ins C dx fs) ∧ Each (ItemOk C a sp H) xs cs ∧ ∀ H', Same H H' → Q (.bl (g (cs.any id))) H'
theorem Each.at {α β : Type} {R : α → β → Prop} : ∀ {xs : List α} {ys : List β} {i : Nat} (h : Each R xs ys) (hi : i < xs.length), ∃ y, ys[i]? = some y ∧ R xs[i] y
  | _, _, i, .nil, hi => by simp at hi
  | _, _, 0, .cons e r, hi => ⟨_, rfl, e⟩
  | _, _, i + 1, .cons e r, hi => by
    obtain ⟨y, h1, h2⟩ := Each.at (i := i) r (by simpa using hi)
    exact ⟨y, by simpa using h1, by simpa using h2⟩
theorem Vals.at {xs : List V} {us : List Value} {i : Nat} (r : Vals xs us) (hi : i < us.length) : ∃ x, xs[i]? = some x ∧ RelV x us[i] := by
  induction r generalizing i with
  | nil => simp at hi
  | cons e r ih =>
    cases i with
    | zero => exact ⟨_, rfl, e⟩
    | succ i =>
      obtain ⟨x, h1, h2⟩ := ih (i := i) (by simpa using hi)
      exact ⟨x, by simpa using h1, by simpa using h2⟩
theorem op_inG' (F : FnOk X.prog X.w X.K X.mg X.base CX0 n f fd ps sp) (hb : Binds X.K fd ps []) (m : Meth X.K C "__eq__" f) (N : NoKind X.K C) (hr : Room (n + 1) X.A) {g : Bool → Bool} {pins : List (Addr × Obj)} {s : Shared} {σ : L2.St} {H : Hp} {x y : V} {v u : Value} {Q : VK} (I : L2.Inv X pins σ H s) (rx : RelV x v) (ry : RelV y u) (h : rInG C sp g x y H Q) :
    wpAny (model X.prog X.w) X.A (contains u v) (fun b s' => EP X pins σ Q (.bool (g b)) s') X.xe s := by
  obtain ⟨a, dx, fs, l, xs, cs, rfl, rfl, hl, ha, hE, q⟩ := h
  cases rx
  cases ry
  have lc : xs.length = cs.length := hE.length
  -- one item
  have turn : ∀ (its : List Value) (r : Vals xs its) (i : Nat) (hi : i < its.length) (s' : Shared), (∃ H', L2.Inv X pins σ H' s' ∧ Same H H' ∧ (cs.take i).any id = false) → wpAny (model X.prog X.w) X.A.in1 (eqBool its[i] (.ref a)) (fun b s2 => if b = true then (∃ H', L2.Inv X pins σ H' s2 ∧ Same H H' ∧ cs.any id = true) else ∃ H', L2.Inv X pins σ H' s2 ∧ Same H H' ∧ (cs.take (i + 1)).any id = false) X.xe s' := fun its r i hi s' ⟨H', I', s0, ht⟩ => by
    obtain ⟨z, hz, rz⟩ := Vals.at r hi
    obtain ⟨hzl, ez⟩ := List.getElem?_eq_some_iff.mp hz
    obtain ⟨c, hc, it⟩ := Each.at hE hzl
    rw [ez] at it
    refine wpAny_mono (eq_item F hb m N (Sub.in1 ⟨hr, rfl⟩) I' s0 ha rz it) (fun b s2 hq => ?_) fun _ _ e => e
    obtain ⟨rfl, H'', I'', s2'⟩ := hq
    refine ite_b (fun e => ?_) (fun e => ?_)
    · refine ⟨H'', I'', s2', ?_⟩
      rw [List.any_eq_true]
      exact ⟨_, List.mem_of_getElem? hc, e⟩
    · refine ⟨H'', I'', s2', ?_⟩
      rw [List.take_add_one, hc, List.any_append, ht, Bool.false_or]
      simpa using e
  have fin : ∀ (s' : Shared), (∃ H', L2.Inv X pins σ H' s' ∧ Same H H' ∧ (cs.take xs.length).any id = false) → EP X pins σ Q (.bool (g false)) s' := fun s' ⟨H', I', s0, ht⟩ => by
    rw [lc, List.take_length] at ht
    have := q H' s0
    rw [ht] at this
    exact ⟨.bl (g false), H', I', rfl, this⟩
  have good : ∀ (s' : Shared), (∃ H', L2.Inv X pins σ H' s' ∧ Same H H' ∧ cs.any id = true) → EP X pins σ Q (.bool (g true)) s' := fun s' ⟨H', I', s0, ht⟩ => by
    have := q H' s0
    rw [ht] at this
    exact ⟨.bl (g true), H', I', rfl, this⟩
  rcases hl with hl | hl
  · obtain ⟨z, its, k, r, ho⟩ := I.hok l _ hl
    have ri : its.length = xs.length := r.length.symm
    refine wpAny_contains_slot ⟨_, ho, rfl⟩ PySem.F.slot_list_contains (wpAny_mono (GQ.call_here PySem.F.slot_list_contains ⟨_, ho, rfl⟩ PySem.F.entry_list_contains (PySem.F.args_list_contains_2 _ _)
      (containsV (R := wants (fun v s' => ∃ c, v = .bool c ∧ EP X pins σ Q (.bool (g c)) s') X.xe) (N := xs.length) (fun i s' => ∃ H', L2.Inv X pins σ H' s' ∧ Same H H' ∧ (cs.take i).any id = false) (fun i s' h => ?_) (fun s' h => ?_) ⟨H, I, Same.refl H, rfl⟩)) (fun v s' hv => ?_) fun _ _ e => e)
    · obtain ⟨H', I', s0, h3⟩ := id h
      obtain ⟨z', its', k', r', ho'⟩ := I'.hok l _ (s0 _ _ hl)
      refine ⟨its'.toArray, k', ho', by simpa using r'.length.symm, fun hi => ?_⟩
      have hi' : i < its'.length := by simpa using hi
      have t := turn its' r' i hi' s' h
      have e : its'.toArray[i] = its'[i] := by simp
      rw [e]
      refine wpAny_mono t (fun b s2 hq => ?_) fun _ _ e => e
      cases b with
      | true =>
        rw [if_pos rfl] at hq ⊢
        exact ⟨_, rfl, good _ hq⟩
      | false =>
        rw [if_neg (by decide)] at hq ⊢
        exact hq
    · exact ⟨_, rfl, fin _ h⟩
    · obtain ⟨c, rfl, q⟩ := hv
      exact wpAny_truthy_bool q
  · obtain ⟨its, r, ⟨⟨cls, dd, data, sl⟩, ho, hc, n', hd⟩, _⟩ := I.tuple (.inl (.inl hl))
    simp only at hc hd
    subst hc hd
    have ri : its.length = xs.length := r.length.symm
    refine wpAny_contains_slot ⟨_, ho, rfl⟩ PySem.F.slot_tuple_contains (wpAny_mono (GQ.call_here PySem.F.slot_tuple_contains ⟨_, ho, rfl⟩ PySem.F.entry_tuple_contains (PySem.F.args_tuple_contains_2 _ _)
      (containsT (R := wants (fun v s' => ∃ c, v = .bool c ∧ EP X pins σ Q (.bool (g c)) s') X.xe) (items := its.toArray) (fun i s' => ∃ H', L2.Inv X pins σ H' s' ∧ Same H H' ∧ (cs.take i).any id = false) (fun i hi s' h => ?_) (fun s' h => ?_) ho ⟨H, I, Same.refl H, rfl⟩)) (fun v s' hv => ?_) fun _ _ e => e)
    · have hi' : i < its.length := by simpa using hi
      have t := turn its r i hi' s' h
      have e : its.toArray[i] = its[i] := by simp
      rw [e]
      refine wpAny_mono t (fun b s2 hq => ?_) fun _ _ e => e
      cases b with
      | true =>
        rw [if_pos rfl] at hq ⊢
        exact ⟨_, rfl, good _ hq⟩
      | false =>
        rw [if_neg (by decide)] at hq ⊢
        exact hq
    · have e : its.toArray.size = xs.length := by simpa using ri
      rw [e] at h
      exact ⟨_, rfl, fin _ h⟩
    · obtain ⟨c, rfl, q⟩ := hv
      exact wpAny_truthy_bool q
theorem op_inG (F : FnOk X.prog X.w X.K X.mg X.base CX0 n f fd ps sp) (hb : Binds X.K fd ps []) (m : Meth X.K C "__eq__" f) (N : NoKind X.K C) (hr : Room (n + 1) X.A) : OpR X (compareOp .In) (rInG C sp id) := by
  intro pins s σ H x y v u Q I rx ry h
  show wpAny _ X.A (do return Value.bool (← contains u v)) _ _ s
  exact wpAny_bind (wpAny_mono (op_inG' F hb m N hr I rx ry h) (fun b s' q => wpAny_pure q) fun _ _ z => z)
end
end Wl

/-! x in ys, where ys holds things of several own classes and others; [x] == [y] -/
namespace Wl
open PySem PySem.Spec PyProof.Rows L2
section
variable {X : Cx} {n : Nat} {f : Addr} {fd : FuncData} {ps : List Str} {sp : Sp} {C : Addr}
/-- how a thing that stands in a list or tuple is held beside x at a -/
def EqIt (X : Cx) (It : Addr → Hp → V → Bool → Prop) : Prop := ∀ (pins : List (Addr × Obj)) (s : Shared) (σ : L2.St) (H H' : Hp) (a : Addr) (z : V) (u : Value) (c : Bool), L2.Inv X pins σ H' s → Same H H' → RelV z u → It a H z c →
  wpAny (model X.prog X.w) X.A.in1 (eqBool u (.ref a)) (fun b s' => b = c ∧ ∃ H'', L2.Inv X pins σ H'' s' ∧ Same H H'') X.xe s
theorem EqIt.or {I1 I2 : Addr → Hp → V → Bool → Prop} (h1 : EqIt X I1) (h2 : EqIt X I2) : EqIt X (fun a H z c => I1 a H z c ∨ I2 a H z c) := fun pins s σ H H' a z u c I s0 rz it =>
  it.elim (h1 pins s σ H H' a z u c I s0 rz) (h2 pins s σ H H' a z u c I s0 rz)
def ItG (C : Addr) (sp : Sp) : Addr → Hp → V → Bool → Prop := fun a H z c => (∃ dx fs, H a = some (.ins C dx fs)) ∧ ItemOk C a sp H z c
theorem eqIt_G (F : FnOk X.prog X.w X.K X.mg X.base CX0 n f fd ps sp) (hb : Binds X.K fd ps []) (m : Meth X.K C "__eq__" f) (N : NoKind X.K C) (hr : Room (n + 1) X.A) : EqIt X (ItG C sp) := fun pins s σ H H' a z u c I s0 rz ⟨⟨dx, fs, ha⟩, it⟩ =>
  eq_item F hb m N (Sub.in1 ⟨hr, rfl⟩) I s0 ha rz it
/-- a thing of another own class, asked by its == -/
def ItO (K : PySem.W.Frag) (C : Addr) (sp : Sp) : Addr → Hp → V → Bool → Prop := fun a H z c => ∃ b dy gs t, z = .ref b ∧ b ≠ a ∧ H b = some (.ins C dy gs) ∧ (∀ H', Same H H' → TyX K H' (.ref a) t) ∧ PySem.W.notFirst K C t = true ∧
  ∀ H', Same H H' → sp [.ref b, .ref a] H' (fun v H'' => ∃ r, v = .bl r ∧ r = c ∧ Same H' H'') E0
theorem eqIt_O (F : FnOk X.prog X.w X.K X.mg X.base CX0 n f fd ps sp) (hb : Binds X.K fd ps []) (m : Meth X.K C "__eq__" f) (hr : Room (n + 1) X.A) : EqIt X (ItO X.K C sp) := by
  intro pins s σ H H' a z u c I s0 rz it
  obtain ⟨b, dy, gs, t, rfl, hne, hb', ty, nf, hsp⟩ := it
  cases rz
  refine GQ.eqBool_refG hne (wpAny_mono (rc_eqT F hb m (Sub.in1 ⟨hr, rfl⟩) I (s0 _ _ hb') (y := .ref a) rfl (ty H' s0) nf (Q := fun r H'' => r = c ∧ Same H' H'') (hsp H' s0)) (fun v s' hq => ?_) fun _ _ x => x)
  obtain ⟨r, rfl, H'', I', rfl, s2⟩ := hq
  exact ⟨_, rfl, rfl, H'', I', s0.trans s2⟩
/-- x in ys, item by item -/
def rInZ (It : Addr → Hp → V → Bool → Prop) (g : Bool → Bool) : R2 := fun x y H Q => ∃ a l xs cs, x = V.ref a ∧ y = V.ref l ∧ (H l = some (.lst xs) ∨ H l = some (.tup xs)) ∧ Each (It a H) xs cs ∧ ∀ H', Same H H' → Q (.bl (g (cs.any id))) H'
theorem op_inZ' {It : Addr → Hp → V → Bool → Prop} (hI : EqIt X It) {g : Bool → Bool} {pins : List (Addr × Obj)} {s : Shared} {σ : L2.St} {H : Hp} {x y : V} {v u : Value} {Q : VK} (I : L2.Inv X pins σ H s) (rx : RelV x v) (ry : RelV y u) (h : rInZ It g x y H Q) :
    wpAny (model X.prog X.w) X.A (contains u v) (fun b s' => EP X pins σ Q (.bool (g b)) s') X.xe s := by
  obtain ⟨a, l, xs, cs, rfl, rfl, hl, hE, q⟩ := h
  cases rx
  cases ry
  have lc : xs.length = cs.length := hE.length
  -- one item
  have turn : ∀ (its : List Value) (r : Vals xs its) (i : Nat) (hi : i < its.length) (s' : Shared), (∃ H', L2.Inv X pins σ H' s' ∧ Same H H' ∧ (cs.take i).any id = false) → wpAny (model X.prog X.w) X.A.in1 (eqBool its[i] (.ref a)) (fun b s2 => if b = true then (∃ H', L2.Inv X pins σ H' s2 ∧ Same H H' ∧ cs.any id = true) else ∃ H', L2.Inv X pins σ H' s2 ∧ Same H H' ∧ (cs.take (i + 1)).any id = false) X.xe s' := fun its r i hi s' ⟨H', I', s0, ht⟩ => by
    obtain ⟨z, hz, rz⟩ := Vals.at r hi
    obtain ⟨hzl, ez⟩ := List.getElem?_eq_some_iff.mp hz
    obtain ⟨c, hc, it⟩ := Each.at hE hzl
    rw [ez] at it
    refine wpAny_mono (hI pins s' σ H H' a z _ c I' s0 rz it) (fun b s2 hq => ?_) fun _ _ e => e
    obtain ⟨rfl, H'', I'', s2'⟩ := hq
    refine ite_b (fun e => ?_) (fun e => ?_)
    · refine ⟨H'', I'', s2', ?_⟩
      rw [List.any_eq_true]
      exact ⟨_, List.mem_of_getElem? hc, e⟩
    · refine ⟨H'', I'', s2', ?_⟩
      rw [List.take_add_one, hc, List.any_append, ht, Bool.false_or]
      simpa using e
  have fin : ∀ (s' : Shared), (∃ H', L2.Inv X pins σ H' s' ∧ Same H H' ∧ (cs.take xs.length).any id = false) → EP X pins σ Q (.bool (g false)) s' := fun s' ⟨H', I', s0, ht⟩ => by
    rw [lc, List.take_length] at ht
    have := q H' s0
    rw [ht] at this
    exact ⟨.bl (g false), H', I', rfl, this⟩
  have good : ∀ (s' : Shared), (∃ H', L2.Inv X pins σ H' s' ∧ Same H H' ∧ cs.any id = true) → EP X pins σ Q (.bool (g true)) s' := fun s' ⟨H', I', s0, ht⟩ => by
    have := q H' s0
    rw [ht] at this
    exact ⟨.bl (g true), H', I', rfl, this⟩
  rcases hl with hl | hl
  · obtain ⟨z, its, k, r, ho⟩ := I.hok l _ hl
    have ri : its.length = xs.length := r.length.symm
    refine wpAny_contains_slot ⟨_, ho, rfl⟩ PySem.F.slot_list_contains (wpAny_mono (GQ.call_here PySem.F.slot_list_contains ⟨_, ho, rfl⟩ PySem.F.entry_list_contains (PySem.F.args_list_contains_2 _ _)
      (containsV (R := wants (fun v s' => ∃ c, v = .bool c ∧ EP X pins σ Q (.bool (g c)) s') X.xe) (N := xs.length) (fun i s' => ∃ H', L2.Inv X pins σ H' s' ∧ Same H H' ∧ (cs.take i).any id = false) (fun i s' h => ?_) (fun s' h => ?_) ⟨H, I, Same.refl H, rfl⟩)) (fun v s' hv => ?_) fun _ _ e => e)
    · obtain ⟨H', I', s0, h3⟩ := id h
      obtain ⟨z', its', k', r', ho'⟩ := I'.hok l _ (s0 _ _ hl)
      refine ⟨its'.toArray, k', ho', by simpa using r'.length.symm, fun hi => ?_⟩
      have hi' : i < its'.length := by simpa using hi
      have t := turn its' r' i hi' s' h
      have e : its'.toArray[i] = its'[i] := by simp
      rw [e]
      refine wpAny_mono t (fun b s2 hq => ?_) fun _ _ e => e
      cases b with
      | true =>
        rw [if_pos rfl] at hq ⊢
        exact ⟨_, rfl, good _ hq⟩
      | false =>
        rw [if_neg (by decide)] at hq ⊢
        exact hq
    · exact ⟨_, rfl, fin _ h⟩
    · obtain ⟨c, rfl, q⟩ := hv
      exact wpAny_truthy_bool q
  · obtain ⟨its, r, ⟨⟨cls, dd, data, sl⟩, ho, hc, n', hd⟩, _⟩ := I.tuple (.inl (.inl hl))
    simp only at hc hd
    subst hc hd
    have ri : its.length = xs.length := r.length.symm
    refine wpAny_contains_slot ⟨_, ho, rfl⟩ PySem.F.slot_tuple_contains (wpAny_mono (GQ.call_here PySem.F.slot_tuple_contains ⟨_, ho, rfl⟩ PySem.F.entry_tuple_contains (PySem.F.args_tuple_contains_2 _ _)
      (containsT (R := wants (fun v s' => ∃ c, v = .bool c ∧ EP X pins σ Q (.bool (g c)) s') X.xe) (items := its.toArray) (fun i s' => ∃ H', L2.Inv X pins σ H' s' ∧ Same H H' ∧ (cs.take i).any id = false) (fun i hi s' h => ?_) (fun s' h => ?_) ho ⟨H, I, Same.refl H, rfl⟩)) (fun v s' hv => ?_) fun _ _ e => e)
    · have hi' : i < its.length := by simpa using hi
      have t := turn its r i hi' s' h
      have e : its.toArray[i] = its[i] := by simp
      rw [e]
      refine wpAny_mono t (fun b s2 hq => ?_) fun _ _ e => e
      cases b with
      | true =>
        rw [if_pos rfl] at hq ⊢
        exact ⟨_, rfl, good _ hq⟩
      | false =>
        rw [if_neg (by decide)] at hq ⊢
        exact hq
    · have e : its.toArray.size = xs.length := by simpa using ri
      rw [e] at h
      exact ⟨_, rfl, fin _ h⟩
    · obtain ⟨c, rfl, q⟩ := hv
      exact wpAny_truthy_bool q
theorem op_inZ {It : Addr → Hp → V → Bool → Prop} (hI : EqIt X It) : OpR X (compareOp .In) (rInZ It id) := by
  intro pins s σ H x y v u Q I rx ry h
  show wpAny _ X.A (do return Value.bool (← contains u v)) _ _ s
  exact wpAny_bind (wpAny_mono (op_inZ' hI I rx ry h) (fun b s' q => wpAny_pure q) fun _ _ z => z)
theorem op_notInZ {It : Addr → Hp → V → Bool → Prop} (hI : EqIt X It) : OpR X (compareOp .NotIn) (rInZ It not) := by
  intro pins s σ H x y v u Q I rx ry h
  show wpAny _ X.A (do return Value.bool (!(← contains u v))) _ _ s
  exact wpAny_bind (wpAny_mono (op_inZ' hI I rx ry h) (fun b s' q => wpAny_pure q) fun _ _ z => z)
open GQ MeetsSeq MeetsSeq2 MeetsSeq3 SeqRoads2 in
open AutoSeq1 (wpAny_loadPart') in
theorem rc_eqL1 {prog : Program} {w : World} {A : Around} {E : Value → Shared → Prop} {s : Shared} {l m : Addr} {x y : Value} {k k2 : Nat} {Q : Value → Shared → Prop} (hu : A.units < cLine)
    (hl : s.heap.get? l = some { cls := .type "list", data := .seq #[x] k }) (hm : s.heap.get? m = some { cls := .type "list", data := .seq #[y] k2 })
    (h : wpAny (model prog w) A.in1 (eqBool x y) (fun c s' => (∃ k, s'.heap.get? l = some { cls := .type "list", data := .seq #[x] k }) ∧ (∃ k, s'.heap.get? m = some { cls := .type "list", data := .seq #[y] k }) ∧ Q (.bool c) s') E s) :
    wpAny (model prog w) A (richCompare .Eq (.ref l) (.ref m)) Q E s := by
  refine wpAny_richCompare_same_room (op := .Eq) ⟨_, hl, rfl⟩ ⟨_, hm, rfl⟩ PySem.F.slot_list_eq (GQ.call_here PySem.F.slot_list_eq ⟨_, hl, rfl⟩ PySem.F.entry_list_eq (PySem.F.args_list_eq_2 _ _) ?_) hu
  have two : ∀ (s2 : Shared) (k k2 : Nat), s2.heap.get? l = some { cls := .type "list", data := .seq #[x] k } → s2.heap.get? m = some { cls := .type "list", data := .seq #[y] k2 } → Q (.bool true) s2 →
      wpAny (model prog w) A.in1 (Builtin.«list.__eq__.loop» ⟨[.ref l, .ref m, rawInt 1, rawInt 2], []⟩) (FinOf prog w A (wants (fun v s' => v ≠ .notImplemented ∧ Q v s') E)) (fun e s' => wants (fun v s' => v ≠ .notImplemented ∧ Q v s') E (.error e) s') s2 := by
    intro s2 k k2 h1 h2 q
    obtain ⟨hp, g, d, tk, os⟩ := s2
    wp_walk using wpAny_loadPart' h1, wpAny_loadPart' h2
    exact ⟨(fun z => nomatch z), q⟩
  have one : wpAny (model prog w) A.in1 (Builtin.«list.__eq__.loop» ⟨[.ref l, .ref m, rawInt 0, rawInt 2], []⟩) (FinOf prog w A (wants (fun v s' => v ≠ .notImplemented ∧ Q v s') E)) (fun e s' => wants (fun v s' => v ≠ .notImplemented ∧ Q v s') E (.error e) s') s := by
    obtain ⟨hp, g, d, tk, os⟩ := s
    obtain ⟨items, eI⟩ : ∃ items : Array Value, items = #[x] := ⟨_, rfl⟩
    obtain ⟨items2, eJ⟩ : ∃ items : Array Value, items = #[y] := ⟨_, rfl⟩
    have hl' := hl
    have hm' := hm
    rw [← eI] at hl'
    rw [← eJ] at hm'
    have i1 : items[(0 : Int).toNat]? = some x := by rw [eI]; rfl
    have i2 : items2[(0 : Int).toNat]? = some y := by rw [eJ]; rfl
    wp_walk using wpAny_loadPart' hl', wpAny_loadPart' hm'
    rw [i1, i2]
    refine wpAny_bind (wpAny_mono h (fun c s2 hq => ?_) fun _ _ z => z)
    obtain ⟨⟨k3, h3⟩, ⟨k4, h4⟩, q⟩ := hq
    cases c with
    | true =>
      have hrec := two s2 k3 k4 h3 h4 q
      obtain ⟨hp2, g2, d2, tk2, os2⟩ := s2
      wp_walk
      exact ⟨plainId_quiet plain_eq_loop _, codeAny_builtin entry_eq_loop (by
        rw [Around.under_plainId plain_eq_loop _]
        exact hrec)⟩
    | false =>
      obtain ⟨hp2, g2, d2, tk2, os2⟩ := s2
      wp_walk using wpAny_loadPart' h3, wpAny_loadPart' h4
      exact ⟨(fun z => nomatch z), q⟩
  obtain ⟨hp, g, d, tk, os⟩ := s
  have f3 := AutoSeq1.sub_list_list
  wp_walk using wpAny_loadPart' hl, wpAny_loadPart' hm
  exact ⟨plainId_quiet plain_eq_loop _, codeAny_builtin entry_eq_loop (by
    rw [Around.under_plainId plain_eq_loop _]
    exact one)⟩
/-- [x] == [y], both of one own class -/
def rEqL1 (C : Addr) (sp : Sp) : R2 := fun x y H Q => ∃ l m a b dx fs dy gs, x = V.ref l ∧ y = V.ref m ∧ H l = some (.lst [.ref a]) ∧ H m = some (.lst [.ref b]) ∧ H a = some (.ins C dx fs) ∧ H b = some (.ins C dy gs) ∧ (a = b → Q (.bl true) H) ∧
  (a ≠ b → sp [.ref a, .ref b] H (fun v H' => ∃ c, v = .bl c ∧ Same H H' ∧ Q (.bl c) H') E0)
theorem op_eqL1 (F : FnOk X.prog X.w X.K X.mg X.base CX0 n f fd ps sp) (hb : Binds X.K fd ps []) (m : Meth X.K C "__eq__" f) (hr : Room (n + 1) X.A) : OpR X (compareOp .Eq) (rEqL1 C sp) := by
  intro pins s σ H x y v u Q I rx ry h
  obtain ⟨l, m', a, b, dx, fs, dy, gs, rfl, rfl, hl, hm, ha, hb', q1, q2⟩ := h
  cases rx
  cases ry
  have back : ∀ (s' : Shared) (H' : Hp), L2.Inv X pins σ H' s' → Same H H' → (∃ k, s'.heap.get? l = some { cls := .type "list", data := .seq #[.ref a] k }) ∧ (∃ k, s'.heap.get? m' = some { cls := .type "list", data := .seq #[.ref b] k }) := fun s' H' I' s0 => by
    obtain ⟨_, its, k, r, ho⟩ := I'.hok l _ (s0 _ _ hl)
    obtain ⟨u, rfl, ru⟩ := vals1 r
    obtain rfl : u = Value.ref a := ru
    obtain ⟨_, its, k2, r, ho2⟩ := I'.hok m' _ (s0 _ _ hm)
    obtain ⟨u, rfl, ru⟩ := vals1 r
    obtain rfl : u = Value.ref b := ru
    exact ⟨⟨k, ho⟩, ⟨k2, ho2⟩⟩
  obtain ⟨⟨k, ho⟩, ⟨k2, ho2⟩⟩ := back s H I (Same.refl H)
  show wpAny (model X.prog X.w) X.A (richCompare .Eq (.ref l) (.ref m')) (EP X pins σ Q) X.xe s
  refine rc_eqL1 hr.units0 ho ho2 ?_
  by_cases e : a = b
  · subst e
    exact SeqAt.EqAt.same (A := X.A.in1) (s := s) (.ref a) X.prog X.w X.xe _ ⟨⟨k, ho⟩, ⟨k2, ho2⟩, .bl true, H, I, rfl, q1 rfl⟩
  · refine GQ.eqBool_refG e (wpAny_mono (rc_eqO F hb m (Sub.in1 ⟨hr, rfl⟩) I ha hb' (Q := fun c H' => Same H H' ∧ Q (.bl c) H') (q2 e)) (fun v s' hq => ?_) fun _ _ z => z)
    obtain ⟨c, rfl, H', I', s1, q⟩ := hq
    obtain ⟨b1, b2⟩ := back s' H' I' s1
    exact ⟨c, rfl, b1, b2, .bl c, H', I', rfl, q⟩
end
end Wl

namespace Wl
open PySem PySem.Spec PyProof.Rows L2
theorem gat_keep2 {C D : Addr} {H H' : Hp} {p td dd : Addr} {r : GR} {xs ys : List V} (h : GatAt C D H p r) (m : Same2 td dd H H') (h1 : H td = some (.lst xs)) (h2 : H dd = some (.lst ys)) (n1 : r.td ≠ td) (n2 : r.td ≠ dd) (n3 : r.dd ≠ td) (n4 : r.dd ≠ dd) : GatAt C D H' p r := by
  have k : Keep H H' := fun b o n e => m b o (fun z => by rw [z, h1] at e; cases e; exact n _ rfl) (fun z => by rw [z, h2] at e; cases e; exact n _ rfl) e
  obtain ⟨dx, e⟩ := h.at_
  exact ⟨⟨dx, k _ _ (fun xs z => by cases z) e⟩, h.land.keep k, m _ _ n1 n2 h.told, h.tels.keep k.tk, m _ _ n3 n4 h.deeds, h.ne⟩
theorem tk_2 {H H' : Hp} {td dd : Addr} {xs ys : List V} (m : Same2 td dd H H') (h1 : H td = some (.lst xs)) (h2 : H dd = some (.lst ys)) : TupKeep H H' := fun b o e => m b _ (fun z => by rw [z, h1] at e; cases e) (fun z => by rw [z, h2] at e; cases e) e
/-! ### two hundred tellers -/
def tname (j : Nat) : Str := sign (97 + j / 20) ++ sign (97 + j % 20)
theorem tname_wd {j : Nat} (h : j < 200) : IsWd (tname j) := by
  have : ∀ k : Fin 200, wdB (tname k.1) = true := by decide +kernel
  exact this ⟨j, h⟩
theorem tname_nd : ((List.range 200).map tname).Nodup := by decide +kernel
theorem tname_len (j : Nat) : (tname j).length = 2 := rfl
def abc10 : Str := "abcdefghij"
def abc20 : Str := "abcdefghijklmnopqrst"
theorem abc10_at {k : Nat} (h : k < 10) : atI abc10.cps.toList (k : Int) = some (97 + k) := by
  have : ∀ k : Fin 10, abc10.cps.toList[k.1]? = some (97 + k.1) := by decide +kernel
  exact atI_nat (this ⟨k, h⟩)
theorem abc20_at {k : Nat} (h : k < 20) : atI abc20.cps.toList (k : Int) = some (97 + k) := by
  have : ∀ k : Fin 20, abc20.cps.toList[k.1]? = some (97 + k.1) := by decide +kernel
  exact atI_nat (this ⟨k, h⟩)
def rngV (n : Nat) : List V := (List.range n).map fun (i : Nat) => V.int (0 + (i : Int))
theorem walk_rng {n : Nat} : L2.Walk (Itr 0 n) (rngV n).length (fun _ => True) (YAt (rngV n)) := by
  have e : (rngV n).length = n := by simp [rngV]
  rw [e]
  have w := walk_range (lo := 0) (n := n)
  refine ⟨w.1, w.2, fun i H x H' hi g y => ?_⟩
  obtain ⟨h1, h2⟩ := w.3 i H x H' hi g y
  refine ⟨h1, ?_⟩
  rw [h2]
  simp [rngV, List.getElem?_range hi]
def tnV : V → V
  | .int i => .str (tname i.toNat)
  | v => v
/-! ### who can still be told of -/
theorem nodup_le : ∀ {l m : List Str}, l.Nodup → (∀ x ∈ l, x ∈ m) → l.length ≤ m.length
  | [], _, _, _ => Nat.zero_le _
  | x :: l, m, nd, h => by
    rw [List.nodup_cons] at nd
    have hx := h x List.mem_cons_self
    have ih := nodup_le (l := l) (m := m.erase x) nd.2 fun y hy => (List.mem_erase_of_ne (fun e => nd.1 (by rw [← e]; exact hy))).mpr (h y (List.mem_cons_of_mem _ hy))
    rw [List.length_erase_of_mem hx] at ih
    have := List.length_pos_of_mem hx
    show l.length + 1 ≤ m.length
    omega
theorem spare_few {ts : List Tel} (h : ts.length ≤ 25) : Spare ts := by
  by_cases c : Spare ts
  · exact c
  exfalso
  have all : ∀ x ∈ (TL.tl abc).map rep8, x ∈ ts.map (·.tl) := fun x hx => by
    obtain ⟨k, hk, rfl⟩ := List.mem_map.mp hx
    by_cases d : rep8 k ∈ ts.map (·.tl)
    · exact d
    · exact absurd ⟨k, hk, d⟩ c
  have nd : ((TL.tl abc).map rep8).Nodup := by decide +kernel
  have := nodup_le nd all
  rw [List.length_map, List.length_map] at this
  have e : (TL.tl abc).length = 26 := by decide +kernel
  omega
theorem spare_two {ts : List Tel} (h : ∀ t ∈ ts, t.tl.length = 2) : Spare ts := by
  refine ⟨97, by decide +kernel, fun hm => ?_⟩
  obtain ⟨t, ht, e⟩ := List.mem_map.mp hm
  have := h t ht
  rw [e] at this
  cases this
theorem Spare.sub {ts us : List Tel} (h : Spare ts) (k : ∀ t ∈ us, t ∈ ts) : Spare us := by
  obtain ⟨c, h1, h2⟩ := h
  refine ⟨c, h1, fun hm => h2 ?_⟩
  obtain ⟨t, ht, e⟩ := List.mem_map.mp hm
  exact List.mem_map.mpr ⟨t, k t ht, e⟩
end Wl

/-! The law. -/
namespace Wl
open PySem PySem.Spec PyProof.Rows L2
abbrev sLaw : Stmt := topS 75
structure Sit (C D : Addr) (H0 H : Hp) (pu L p l : Addr) (r : GR) (wd : Nat) (as : List Addr) (ts : List Tel) : Prop where
  s0 : Same H0 H
  np : H0 pu = none
  nt : H0 r.td = none
  nd0 : H0 r.dd = none
  pu_ : PurseAt H pu
  gat : GatAt C D H p r
  grid : GridAt H L r.g
  gd : Good r.g wd
  lot : H l = some (.lst (as.map V.ref))
  tels : TelsAt H as ts
  ok : ∀ t ∈ ts, OkT t
  vs : ∀ t ∈ ts, t.v ∈ names r.g
  nd : (ts.map keyS).Nodup
  len : ts.length ≤ 200
  tp : r.td ≠ pu
  dp : r.dd ≠ pu
  lp : l ≠ pu
  lt : l ≠ r.td
  ld : l ≠ r.dd
  spare : Spare ts
theorem Sit.same {C D : Addr} {H0 H H' : Hp} {pu L p l : Addr} {r : GR} {wd : Nat} {as : List Addr} {ts : List Tel} (S : Sit C D H0 H pu L p l r wd as ts) (s : Same H H') : Sit C D H0 H' pu L p l r wd as ts :=
  ⟨S.s0.trans s, S.np, S.nt, S.nd0, S.pu_.same s, S.gat.same s, S.grid.keep (tk_same s), S.gd, s _ _ S.lot, S.tels.keep (tk_same s), S.ok, S.vs, S.nd, S.len, S.tp, S.dp, S.lp, S.lt, S.ld, S.spare⟩
/-- under deeds of another Gathering -/
theorem Sit.far {C D : Addr} {H0 H H' : Hp} {pu L p l td dd : Addr} {r : GR} {wd : Nat} {as : List Addr} {ts : List Tel} {xs ys : List V} (S : Sit C D H0 H pu L p l r wd as ts) (m : Same2 td dd H H') (h1 : H td = some (.lst xs)) (h2 : H dd = some (.lst ys)) (n0 : H0 td = none) (n00 : H0 dd = none) (n1 : pu ≠ td) (n2 : pu ≠ dd) (n3 : r.td ≠ td) (n4 : r.td ≠ dd) (n5 : r.dd ≠ td) (n6 : r.dd ≠ dd) (n7 : l ≠ td) (n8 : l ≠ dd) : Sit C D H0 H' pu L p l r wd as ts := by
  refine ⟨fun b o e => m b o (ne_of_none e n0) (ne_of_none e n00) (S.s0 b o e), S.np, S.nt, S.nd0, purse_2 S.pu_ m n1.symm n2.symm, gat_keep2 S.gat m h1 h2 n3 n4 n5 n6, S.grid.keep (tk_2 m h1 h2), S.gd, m _ _ n7 n8 S.lot, S.tels.keep (tk_2 m h1 h2), S.ok, S.vs, S.nd, S.len, S.tp, S.dp, S.lp, S.lt, S.ld, S.spare⟩
theorem pick46 {K : PySem.W.Frag} {σ : L2.St} {H : Hp} {Q : VK} {x y : Int} (h4 : σ[4]? = some (some (.int x))) (h1 : σ[1]? = some (some (.int y))) (q : ∀ (m : Int) (H' : Hp), m = 4 ∨ m = 6 → Same H H' → Q (.int m) H') :
    tOp (rIxL K) (tLst (tCons (tC (.int 4)) (tCons (tC (.int 6)) tNil))) (tCB (fun xs H Q => (∃ i, xs = [.int i] ∧ Q (.int i) H) ∨ ∃ k, xs = [.bl k] ∧ Q (.int (if k then 1 else 0)) H) (tCons (tAndV (tOp rEq (tVar 4) (tC (.int 1))) (tOp rEq (tVar 1) (tC (.int 0)))) tNil)) σ H Q := by
  refine ⟨lz, fun l nl => ?_⟩
  have s := same_new (o := .lst [V.int 4, V.int 6]) nl
  have hl : upd H l (.lst [V.int 4, V.int 6]) l = some (.lst [V.int 4, V.int 6]) := upd_same
  generalize upd H l (.lst [V.int 4, V.int 6]) = H1 at s hl
  refine ⟨_, h4, rfl, _, rfl, ite_b (fun e => ?_) (fun e => ?_)⟩
  · refine ⟨_, h1, rfl, .inr ⟨_, rfl, l, _, _, _, rfl, rfl, .inl (.inl hl), ?_, q (if decide (V.int y = V.int 0) then 6 else 4) H1 ?_ s⟩⟩
    · cases decide (V.int y = V.int 0) <;> rfl
    · cases decide (V.int y = V.int 0)
      · exact .inl rfl
      · exact .inr rfl
  · exact .inr ⟨_, rfl, l, _, _, _, rfl, rfl, .inl (.inl hl), rfl, q 4 H1 (.inl rfl) s⟩
section
variable {C D : Addr}
theorem bare2 {H : Hp} {L : Addr} {g : Grid} {wd : Nat} (hG : GridAt H L g) (gd : Good g wd) {Q : Addr → Hp → Prop} (q : ∀ (gp : Addr) (r : GR) (H' : Hp), Same H H' → GatAt C D H' gp r → r.ts = [] → r.ds = [] → r.g = g → H r.td = none → H r.dd = none → Q gp H') : ∀ pl dl, H pl = none → H dl = none → dl ≠ pl → spInit C [.ref pl, .ref L] (upd (upd H dl (.own pl)) pl (.ins C dl [])) (fun v H1 => v = .non ∧ ∀ gp dgp, H1 gp = none → H1 dgp = none → dgp ≠ gp → spGInit C D [.ref gp, .ref pl] (upd (upd H1 dgp (.own gp)) gp (.ins D dgp [])) (fun v H2 => v = .non ∧ Q gp H2) E0) E0 := fun pl dl npl ndl nel => by
  have kp1 : TupKeep H (upd (upd H dl (.own pl)) pl (.ins C dl [])) := fun b xs h => by
    rw [upd_ne (ne_of_none h npl), upd_ne (ne_of_none h ndl)]
    exact h
  refine ⟨pl, dl, L, g, wd, rfl, upd_same, hG.keep kp1, gd, fun H1 k1 hLa1 => ⟨rfl, ?_⟩⟩
  have s1 := made_same npl ndl k1
  intro p dp np ndp nep
  have s2 : Same H1 (upd (upd H1 dp (.own p)) p (.ins D dp [])) := fun b o e => by
    rw [upd_ne (ne_of_none e np), upd_ne (ne_of_none e ndp)]
    exact e
  have npp : p ≠ pl := fun e => by
    obtain ⟨_, _, h1⟩ := hLa1.ins
    rw [← e, np] at h1
    cases h1
  refine ⟨p, dp, pl, L, g, rfl, upd_same, hLa1.same s2, npp, fun td dd H2 htd hdd kk2 hG2 => ⟨rfl, ?_⟩⟩
  have s12 : Same H1 H2 := fun b o e => kk2 b o (ne_of_none e np) (s2 b o e)
  exact q p _ H2 (s1.trans s12) hG2 rfl rfl rfl ((s1.trans s2).free htd) ((s1.trans s2).free hdd)
end
def tel200 (v : Str) (j : Nat) : Tel := ⟨v, "cat", "a", tname j, j % 121, "self", true⟩
def tel200' (j : Nat) : Tel := ⟨"a", "cat", "dog", tname j, 5, "self", true⟩
theorem tels_of {H : Hp} {f : Nat → Tel} : ∀ {l : List Nat} {zs : List V}, Each (fun (x z : V) => ∀ i : Nat, x = .int (0 + (i : Int)) → ∃ t, z = .ref t ∧ H t = some (.tup (telV (f i)))) (l.map fun (i : Nat) => V.int (0 + (i : Int))) zs → ∃ bs : List Addr, zs = bs.map V.ref ∧ TelsAt H bs (l.map f)
  | [], [], _ => ⟨[], rfl, .nil⟩
  | [], _ :: _, h => nomatch h
  | _ :: _, [], h => nomatch h
  | i :: l, z :: zs, .cons e t => by
    obtain ⟨u, rfl, hu⟩ := e i rfl
    obtain ⟨bs, rfl, hb⟩ := tels_of t
    exact ⟨u :: bs, rfl, .cons hu hb⟩
theorem nodup_inj {α β : Type} {g : α → β} {l : List α} (h : l.Nodup) (hg : ∀ a b, g a = g b → a = b) : (l.map g).Nodup := by
  unfold List.Nodup
  rw [List.pairwise_map]
  exact List.Pairwise.imp (fun n e => n (hg _ _ e)) h
theorem key200 (v : Str) : (((List.range 200).map (tel200 v)).map keyS).Nodup := by
  have e : ((List.range 200).map (tel200 v)).map keyS = ((List.range 200).map tname).map fun z => [v, z, ("cat" : Str), ("self" : Str)] := by
    rw [List.map_map, List.map_map]
    rfl
  rw [e]
  exact nodup_inj tname_nd fun a b h => by
    simp only [List.cons.injEq] at h
    exact h.2.1
theorem key200' : (((List.range 200).map tel200').map keyS).Nodup := by
  have e : ((List.range 200).map tel200').map keyS = ((List.range 200).map tname).map fun z => [("a" : Str), z, ("cat" : Str), ("self" : Str)] := by
    rw [List.map_map, List.map_map]
    rfl
  rw [e]
  exact nodup_inj tname_nd fun a b h => by
    simp only [List.cons.injEq] at h
    exact h.2.1
theorem ok200 {v : Str} (h : IsWd v) : ∀ t ∈ (List.range 200).map (tel200 v), OkT t := fun t ht => by
  obtain ⟨j, hj, rfl⟩ := List.mem_map.mp ht
  exact ⟨h, (show IsWd "cat" from by decide +kernel), (show IsWd "a" from by decide +kernel), tname_wd (List.mem_range.mp hj), (show j % 121 ≤ 120 by omega), (show IsWd "self" from by decide +kernel)⟩
theorem ok200' : ∀ t ∈ (List.range 200).map tel200', OkT t := fun t ht => by
  obtain ⟨j, hj, rfl⟩ := List.mem_map.mp ht
  exact ⟨(show IsWd "a" from by decide +kernel), (show IsWd "cat" from by decide +kernel), (show IsWd "dog" from by decide +kernel), tname_wd (List.mem_range.mp hj), (show 5 ≤ 120 by decide), (show IsWd "self" from by decide +kernel)⟩
theorem tn_str : ((rngV 200).filter fun _ => true).map tnV = ((List.range 200).map tname).map V.str := by
  rw [List.filter_eq_self.mpr fun _ _ => rfl]
  unfold rngV
  rw [List.map_map, List.map_map]
  refine List.map_congr_left fun j _ => ?_
  show V.str (tname (0 + (j : Int)).toNat) = _
  rw [show (0 + (j : Int)).toNat = j by omega]
  rfl
abbrev teTn (s : Nat) : TE := tOp (fun x y H Q => ∃ i j, x = .str i ∧ y = .str j ∧ i.length + j.length ≤ sizeLine ∧ Q (.str (i ++ j)) H) (tOp rIxS (tC (.str "abcdefghij")) (tOp (rI CDiv fun i j => .int (i / j)) (tVar s) (tC (.int 20)))) (tOp rIxS (tC (.str "abcdefghijklmnopqrst")) (tOp (rI (fun _ j => 0 < j) fun i j => .int (i % j)) (tVar s) (tC (.int 20))))
theorem tn_item {σ : L2.St} {H : Hp} {Q : VK} {s j : Nat} (hs : σ[s]? = some (some (.int (0 + (j : Int))))) (hj : j < 200) (q : Q (tnV (.int (0 + (j : Int)))) H) : teTn s σ H Q := by
  have e1 : (0 + (j : Int)) / 20 = ((j / 20 : Nat) : Int) := by omega
  have e2 : (0 + (j : Int)) % 20 = ((j % 20 : Nat) : Int) := by omega
  refine ⟨_, hs, _, _, rfl, rfl, ⟨by decide, by decide⟩, _, _, _, rfl, rfl, lz, (by rw [e1]; exact abc10_at (by omega)), _, hs, _, _, rfl, rfl, (by show (0 : Int) < 20; decide), _, _, _, rfl, rfl, lz, (by rw [e2]; exact abc20_at (by omega)), _, _, rfl, rfl, lz, ?_⟩
  have e3 : tnV (.int (0 + (j : Int))) = .str (tname j) := by
    show V.str (tname (0 + (j : Int)).toNat) = _
    rw [show (0 + (j : Int)).toNat = j by omega]
  rw [e3] at q
  exact q
theorem st_nmP {A B : TS} {D : Ends} {σ σ' : L2.St} {H : Hp} {rt : VK} {bk ct : L2.St → Hp → Prop} (e : σ = σ') (h : tSeq A B D σ' H) : Ends.nx { nx := tSeq A B D, rt := rt, bk := bk, ct := ct } σ H := by
  rw [e]
  exact h
theorem Sit.own {C D : Addr} {H0 H H' : Hp} {pu L p l : Addr} {r r' : GR} {wd : Nat} {as : List Addr} {ts : List Tel} (S : Sit C D H0 H pu L p l r wd as ts) (m : Same2 r.td r.dd H H') (g : GatAt C D H' p r') (e1 : r'.td = r.td) (e2 : r'.dd = r.dd) (e3 : r'.g = r.g) : Sit C D H0 H' pu L p l r' wd as ts :=
  ⟨fun b o e => m b o (ne_of_none e S.nt) (ne_of_none e S.nd0) (S.s0 b o e), S.np, by rw [e1]; exact S.nt, by rw [e2]; exact S.nd0, purse_2 S.pu_ m S.tp S.dp, g, by rw [e3]; exact S.grid.keep (tk_2 m S.gat.told S.gat.deeds), by rw [e3]; exact S.gd, m _ _ S.lt S.ld S.lot, S.tels.keep (tk_2 m S.gat.told S.gat.deeds), S.ok, by rw [e3]; exact S.vs, S.nd, S.len, by rw [e1]; exact S.tp, by rw [e2]; exact S.dp, S.lp, by rw [e1]; exact S.lt, by rw [e2]; exact S.ld, S.spare⟩
theorem tels_of2 {H : Hp} : ∀ {l : List Nat} {zs : List V}, Each (fun (x z : V) => ∀ i : Nat, x = .str (tname i) → ∃ t, z = .ref t ∧ H t = some (.tup (telV (tel200' i)))) ((l.map tname).map V.str) zs → ∃ bs : List Addr, zs = bs.map V.ref ∧ TelsAt H bs (l.map tel200')
  | [], [], _ => ⟨[], rfl, .nil⟩
  | [], _ :: _, h => nomatch h
  | _ :: _, [], h => nomatch h
  | i :: l, z :: zs, .cons e t => by
    obtain ⟨u, rfl, hu⟩ := e i rfl
    obtain ⟨bs, rfl, hb⟩ := tels_of2 t
    exact ⟨u :: bs, rfl, .cons hu hb⟩
abbrev g1 : Grid := [[some "a", none]]
theorem gd1 : Good g1 2 := ⟨by decide, by decide, by decide, by decide, fun r hr => by
  rw [List.mem_singleton.mp hr]
  rfl, by decide +kernel, fun z hz => by
  have : z = "a" := List.mem_singleton.mp hz
  rw [this]
  decide +kernel, by decide +kernel⟩
theorem tel200_v : ∀ t ∈ (List.range 200).map tel200', t.v ∈ names g1 := fun t ht => by
  obtain ⟨j, hj, rfl⟩ := List.mem_map.mp ht
  exact List.mem_singleton.mpr rfl
theorem grid1 {H : Hp} {t1 t2 : Addr} (n1 : H t1 = none) (n2 : upd H t1 (.tup [V.str "a", V.non]) t2 = none) : GridAt (upd (upd H t1 (.tup [V.str "a", V.non])) t2 (.tup [V.ref t1])) t2 g1 :=
  ⟨[t1], upd_same, .cons (by
    rw [upd_ne (ne_of_none upd_same n2)]
    exact upd_same) .nil⟩

section
variable {P : Program} {w : World} {K : PySem.W.Frag} {mg : Str → Option Value} {base : Heap} {f C D : Addr} {fd : FuncData}
theorem rd_k (F : Fun K "read_gathering" "read_gathering" sRead f fd) : KBn K fd ["text"] 0 ["text"] (fun us ws => gO us ws) (fun vs zs => gO vs zs) := by
  obtain ⟨oc, od, kV, doc, pm, an, cdv, ct, osl, rfl, lk, hcd⟩ := F.ex
  refine ⟨fun s us ws X l1 l2 => BindsTo.of_looks fun M => .of_pure ?_, fun r1 r2 => gO_rel r1 r2⟩
  match us, ws, l1, l2 with
  | [], [_], _, _ => rfl
def HasRd (P : Program) (w : World) (K : PySem.W.Frag) (mg : Str → Option Value) (base : Heap) (C D : Addr) : Prop := ∃ f fd, FnOk P w K mg base CX0 7 f fd ["text"] (spRead C D) ∧ mg "read_gathering" = some (.ref f) ∧ Fun K "read_gathering" "read_gathering" sRead f fd ∧ Binds K fd ["text"] []
def spLaw (K : PySem.W.Frag) : Sp := fun vs H Q _ => ∃ (a : Addr) (ns : List Int), vs = [.ref a] ∧ SqL K H a (ns.map V.int) ∧ ns.length ≤ 63 ∧ ∀ H', Q (.bl true) H'
abbrev nLaw : List Str := ["_law_script", "_law_k", "_law_purse_here", "_law_great", "_law_wide", "_law_many", "_law_rows", "_law_kept", "_law_lot", "_law_first", "_law_tellers", "_law_row", "_law_written", "_law_again", "_law_j", "_law_one"]
theorem scLaw : FnScope nLaw ["_law_script"] (defScope sLaw) := ⟨rfl, rfl, rfl, by decide +kernel, rfl, by decide +kernel, by decide +kernel⟩
theorem ok_law (F : Fun K "law" "law" sLaw f fd) (B : Bi mg) (T : Txt2 K mg C) (TG : TxtG K mg D) (NeD : NeC K D) (NKD : NoKind K D) (hI : HasI P w K mg base C) (hGi : HasG P w K mg base C D)
    (hCell : Has P w K mg base "_law_cell" 1 ["_law_script", "_law_k"] (spCell K)) (hPurse : Has P w K mg base "_law_purse" 1 ["_law_cell_here"] spPurse) (hPick : Has P w K mg base "_law_pick" 1 ["_law_purse_here", "_law_many"] spPick)
    (hLand : Has P w K mg base "_law_land" 4 ["_law_purse_here", "_law_most"] spLand) (hNames : Has P w K mg base "_law_names" 1 ["_law_rows"] spNames) (hTR : Has P w K mg base "_law_told_rows" 4 psToldRows spToldRows) (hPut : Has P w K mg base "_law_put" 5 ["_law_kept", "_law_row"] (spPutL C D))
    (hMv : Has P w K mg base "_law_moved" 4 psMoved (spMoved C D)) (hX : Has P w K mg base "_law_text" 2 ["_law_rows", "_law_lot"] spGText) (hIs : Has P w K mg base "_law_is" 8 psIs (spIs C D)) (hRd : HasRd P w K mg base C D) (hQ : HasM P w K mg base D "__eq__" 3 ["self", "other"] (spGEq C D)) (hNb : Has P w K mg base "_law_no_back" 2 ["_law_kept"] (spNoBack C D))
    (hGo : Has P w K mg base "_law_goes_on" 9 psIs (spGoes C D)) (hS : HasSe P w K mg base C D) (hTl : HasTl P w K mg base C D) : FnOk P w K mg base CX0 10 f fd ["_law_script"] (spLaw K) := by
  obtain ⟨fI, fdI, MI, GI, bI⟩ := hI
  obtain ⟨fG, fdG, MG, GG, bG⟩ := hGi
  obtain ⟨fRd, fdRd, FRd, gRd, NRd, bRd⟩ := hRd
  have kRd := rd_k NRd
  obtain ⟨fQ, fdQ, FQ, mQ, bQ⟩ := hQ
  obtain ⟨fS, fdS, FS, mS, fnS⟩ := hS
  have b5 := strike_b5 fnS
  obtain ⟨fT, fdT, FT, mT, FnT⟩ := hTl
  obtain ⟨dsT, vT, bT⟩ := tell_b1 FnT
  refine F.ok scLaw (fun vs H Q E h => ?_) (fun cdv A outer s H vs Q E hr h => ?_)
  · obtain ⟨a, ns, rfl, _⟩ := h
    rfl
  · obtain ⟨a, ns, rfl, hSc, hlen, q⟩ := h
    refine ⟨_, pss_cons (ps_for PassesOwn.never rfl (pi_range1 rfl B.range (pa_cons (pe_callB (call_max2 rfl) (by rfl) B.max (by decide +kernel) (pa_cons pe_int (pa_cons (pe_callB (call_min2 rfl) (by rfl) B.min (by decide +kernel) (pa_cons pe_int (pa_cons (pe_callB call_len_seq (by rfl) B.len PySem.boot_len (pa_cons (pv 0) pa_nil)) pa_nil))) pa_nil))) pa_nil)) (pg_name (i := 1) scLaw.nd rfl (.inl rfl))
        (pss_cons (ps_set (i := 2) scLaw.nd rfl (.inl rfl) (pe_h hPurse hr (pa_cons (pe_h hCell hr (pa_cons (pv 0) (pa_cons (pv 1) pa_nil))) pa_nil)))
        (pss_cons (ps_par3 (i := 3) (j := 4) (l := 5) (by rfl) scLaw.nd rfl rfl rfl (by decide) (by decide) (by decide) rfl rfl rfl (pa_cons (pe_h hPick hr (pa_cons (pv 2) (pa_cons pe_int pa_nil))) (pa_cons (pe_h hPick hr (pa_cons (pv 2) (pa_cons pe_int pa_nil))) (pa_cons (pe_h hPick hr (pa_cons (pv 2) (pa_cons pe_int pa_nil))) pa_nil))) (by rfl))
        (pss_cons (ps_set (i := 6) scLaw.nd rfl (.inl rfl) (pe_h hLand hr (pa_cons (pv 2) (pa_cons (pe_ix ix_list (pe_lst (pa_cons pe_int (pa_cons pe_int pa_nil))) (pe_callTy call_int1 (by rfl) B.int (by decide +kernel) (pa_cons (pe_and (pe_cmpR op_eq (pv 4) pe_int (nomark _)) (pe_one (pe_cmpR op_eq (pv 1) pe_int (nomark _)))) pa_nil)) (fun _ _ => rfl)) pa_nil))))
        (pss_cons (ps_par (i := 7) (j := 8) (by rfl) scLaw.nd rfl rfl (by decide) rfl rfl (pa_cons (pe_make MG GG (hr.mono (by decide)) rfl TG.mgD bG .nil pass0 (pa_cons (pe_make MI GI (hr.mono (by decide)) rfl T.t.mgC bI .nil pass0 (pa_cons (pv 6) pa_nil)) pa_nil)) (pa_cons (pe_h hTR hr (pa_cons (pv 2) (pa_cons (pe_h hNames hr (pa_cons (pv 6) pa_nil)) (pa_cons (pv 5) pa_nil)))) pa_nil)) (by rfl))
        (pss_cons (ps_if (PW.pt (pw_and (pt_cmpR op_eq (pv 3) pe_int (nomark _)) (pw_and1 (pt_cmpR op_eq (pv 1) pe_int (nomark _)))))
          (pss_cons (ps_set (i := 9) scLaw.nd rfl (.inr rfl) (pe_ix ix_list (pe_h hNames hr (pa_cons (pv 6) pa_nil)) pe_int (fun _ _ => rfl)))
          (pss_cons (ps_set (i := 10) scLaw.nd rfl (.inr rfl) (pe_lc (own := [("_law_j", 14)]) (g := gName 14) (tt := tYes) (te := tOp (fun x y H Q => ∃ i j, x = .str i ∧ y = .str j ∧ i.length + j.length ≤ sizeLine ∧ Q (.str (i ++ j)) H) (tOp rIxS (tC (.str "abcdefghij")) (tOp (rI CDiv fun i j => .int (i / j)) (tVar 14) (tC (.int 20)))) (tOp rIxS (tC (.str "abcdefghijklmnopqrst")) (tOp (rI (fun _ j => 0 < j) fun i j => .int (i % j)) (tVar 14) (tC (.int 20))))) rfl scLaw.nd (pi_range1 rfl B.range (pa_cons pe_int pa_nil)) (blkOk_by (N := nLaw) (sc := defScope sLaw) (by decide +kernel)) (fun _ _ _ _ _ => pg_name (i := 14) scLaw.nd rfl (.inl rfl)) (fun _ _ _ _ _ => pts_nil) (fun _ _ _ _ _ => pe_op op_add_str (pe_ix ix_str pe_str (pe_op op_fdiv (pv 14) pe_int) (fun _ _ => rfl)) (pe_ix ix_str pe_str (pe_op op_mod (pv 14) pe_int) (fun _ _ => rfl)))))
          (pss_one (ps_setLc (i := 8) (own := [("_law_j", 14)]) (g := gName 14) (tt := tYes) (te := tTup (tCons (tVar 9) (tCons (tC (.str "cat")) (tCons (tC (.str "a")) (tCons (tOp (rIxL K) (tVar 10) (tVar 14)) (tCons (tOp (rI (fun _ j => 0 < j) fun i j => .int (i % j)) (tVar 14) (tC (.int 121))) (tCons (tC (.str "self")) (tCons (tC (.bl true)) tNil)))))))) rfl scLaw.nd rfl rfl (sw_true rfl rfl rfl (by decide +kernel)) (pi_range1 rfl B.range (pa_cons pe_int pa_nil)) (blkOk_by (N := nLaw) (sc := defScope sLaw) (by decide +kernel)) (fun _ _ _ _ _ => pg_name (i := 14) scLaw.nd rfl (.inl rfl)) (fun _ _ _ _ _ => pts_nil) (fun _ _ _ _ _ => pe_tup (pa_cons (pv 9) (pa_cons pe_str (pa_cons pe_str (pa_cons (pe_ix ix_list (pv 10) (pv 14) (fun _ _ => rfl)) (pa_cons (pe_op op_mod (pv 14) pe_int) (pa_cons pe_str (pa_cons pe_bl pa_nil))))))))))))
          pss_nil)
        (pss_cons (ps_for PassesOwn.never rfl (pi_list (pv 8)) (pg_name (i := 11) scLaw.nd rfl (.inl rfl)) (pss_one (ps_expr (pe_h hPut hr (pa_cons (pv 7) (pa_cons (pv 11) pa_nil))))))
        (pss_cons (ps_set (i := 8) scLaw.nd rfl (.inl rfl) (pe_h hMv hr (pa_cons (pv 2) (pa_cons (pv 7) (pa_cons (pv 8) pa_nil)))))
        (pss_cons (ps_set (i := 12) scLaw.nd rfl (.inl rfl) (pe_h hX hr (pa_cons (pv 6) (pa_cons (pv 8) pa_nil))))
        (pss_cons (ps_if (pt_not (pt_val (pe_h hIs hr (pa_cons (pv 7) (pa_cons (pv 6) (pa_cons (pv 8) pa_nil)))))) (pss_one ps_never) pss_nil)
        (pss_one (ps_for PassesOwn.never rfl (pi_list (pe_lst (pa_cons (pe_call FRd (hr.mono (by decide)) rfl gRd NRd.kp bRd .nil pass0 (pa_cons (pv 12) pa_nil)) (pa_cons (pe_callN0 FRd (hr.mono (by decide)) rfl gRd NRd.kp kRd pass0 (pk_cons (pv 12) pk_nil)) pa_nil)))) (pg_name (i := 13) scLaw.nd rfl (.inl rfl))
          (pss_cons (ps_if (PW.pt (pw_or (pt_not (pt_val (pe_h hIs hr (pa_cons (pv 13) (pa_cons (pv 6) (pa_cons (pv 8) pa_nil)))))) (pw_or (pt_not (pt_cmpR (op_eqO FQ bQ mQ (hr.mono (by decide))) (pv 13) (pv 7) (nomark _))) (pw_or (pt_cmpR (op_neO FQ bQ mQ NeD (hr.mono (by decide))) (pv 13) (pv 7) (nomark _)) (pw_or1 (pt_cmpR (op_notInZ (eqIt_G FQ bQ mQ NKD (hr.mono (by decide)))) (pv 13) (pe_lst (pa_cons (pv 7) pa_nil)) (by rfl))))))) (pss_one ps_never) pss_nil)
          (pss_cons (ps_if (PW.pt (pw_or (pt_not (pt_val (pe_h hNb hr (pa_cons (pv 13) pa_nil)))) (pw_or (pt_not (pt_val (pe_h hIs hr (pa_cons (pv 13) (pa_cons (pv 6) (pa_cons (pv 8) pa_nil)))))) (pw_or1 (pt_not (pt_val (pe_h hGo hr (pa_cons (pv 13) (pa_cons (pv 6) (pa_cons (pv 8) pa_nil)))))))))) (pss_one ps_never) pss_nil)
          (pss_one (ps_if (pt_cmpR (op_neD hr.units) (pv 8) (pe_lst pa_nil) (nomark _))
            (pss_cons (ps_expr (pe_meth (pv 13) TG.cl mS FS (hr.mono (by decide)) b5 .nil pass0 (pa_cons (pe_ix ix_tup (pe_ix ix_list (pv 8) pe_int (fun _ _ => rfl)) pe_int (fun _ _ => rfl)) (pa_cons (pe_ix ix_tup (pe_ix ix_list (pv 8) pe_int (fun _ _ => rfl)) pe_int (fun _ _ => rfl)) (pa_cons (pe_ix ix_tup (pe_ix ix_list (pv 8) pe_int (fun _ _ => rfl)) pe_int (fun _ _ => rfl)) (pa_cons (pe_ix ix_tup (pe_ix ix_list (pv 8) pe_int (fun _ _ => rfl)) pe_int (fun _ _ => rfl)) pa_nil))))))
            (pss_one (ps_if (PW.pt (pw_or (pt_cmpR (op_eqO FQ bQ mQ (hr.mono (by decide))) (pv 13) (pv 7) (nomark _)) (pw_or (pt_not (pt_val (pe_h hIs hr (pa_cons (pv 13) (pa_cons (pv 6) (pa_cons (pe_slice sl_list (pv 8) (po_some pe_int) po_none) pa_nil)))))) (pw_or1 (pt_not (pt_val (pe_h hIs hr (pa_cons (pv 7) (pa_cons (pv 6) (pa_cons (pv 8) pa_nil)))))))))) (pss_one ps_never) pss_nil)))
            pss_nil))))))))))))))))
      (pss_cons (ps_set (i := 10) scLaw.nd rfl (.inr rfl) (pe_lc (own := [("_law_j", 14)]) (g := gName 14) (tt := tYes) (te := tOp (fun x y H Q => ∃ i j, x = .str i ∧ y = .str j ∧ i.length + j.length ≤ sizeLine ∧ Q (.str (i ++ j)) H) (tOp rIxS (tC (.str "abcdefghij")) (tOp (rI CDiv fun i j => .int (i / j)) (tVar 14) (tC (.int 20)))) (tOp rIxS (tC (.str "abcdefghijklmnopqrst")) (tOp (rI (fun _ j => 0 < j) fun i j => .int (i % j)) (tVar 14) (tC (.int 20))))) rfl scLaw.nd (pi_range1 rfl B.range (pa_cons pe_int pa_nil)) (blkOk_by (N := nLaw) (sc := defScope sLaw) (by decide +kernel)) (fun _ _ _ _ _ => pg_name (i := 14) scLaw.nd rfl (.inl rfl)) (fun _ _ _ _ _ => pts_nil) (fun _ _ _ _ _ => pe_op op_add_str (pe_ix ix_str pe_str (pe_op op_fdiv (pv 14) pe_int) (fun _ _ => rfl)) (pe_ix ix_str pe_str (pe_op op_mod (pv 14) pe_int) (fun _ _ => rfl)))))
      (pss_cons (ps_setLc (i := 8) (own := [("_law_one", 15)]) (g := gName 15) (tt := tYes) (te := tTup (tCons (tC (.str "a")) (tCons (tC (.str "cat")) (tCons (tC (.str "dog")) (tCons (tVar 15) (tCons (tC (.int 5)) (tCons (tC (.str "self")) (tCons (tC (.bl true)) tNil)))))))) rfl scLaw.nd rfl rfl (sw_true rfl rfl rfl (by decide +kernel)) (pi_list (pv 10)) (blkOk_by (N := nLaw) (sc := defScope sLaw) (by decide +kernel)) (fun _ _ _ _ _ => pg_name (i := 15) scLaw.nd rfl (.inl rfl)) (fun _ _ _ _ _ => pts_nil) (fun _ _ _ _ _ => pe_tup (pa_cons pe_str (pa_cons pe_str (pa_cons pe_str (pa_cons (pv 15) (pa_cons pe_int (pa_cons pe_str (pa_cons pe_bl pa_nil)))))))))
      (pss_cons (ps_if (pt_cmpR (op_neD hr.units) (pe_meth0 (pe_call FRd (hr.mono (by decide)) rfl gRd NRd.kp bRd .nil pass0 (pa_cons (pe_h hX hr (pa_cons (pe_tup (pa_cons (pe_tup (pa_cons pe_str (pa_cons pe_non pa_nil))) pa_nil)) (pa_cons (pv 8) pa_nil))) pa_nil)) TG.cl mT FT (hr.mono (by decide)) bT vT pass0) (pv 8) (nomark _)) (pss_one ps_never) pss_nil)
      (pss_one (ps_ret (pe_h hIs hr (pa_cons (pe_call FRd (hr.mono (by decide)) rfl gRd NRd.kp bRd .nil pass0 (pa_cons pe_str pa_nil)) (pa_cons (pe_tup (pa_cons (pe_tup (pa_cons pe_str (pa_cons pe_non pa_nil))) pa_nil)) (pa_cons (pe_lst pa_nil) pa_nil))))))))), ?_⟩
    have hln : ((ns.map V.int).length : Int) = ns.length := by rw [List.length_map]
    refine ⟨_, rfl, a, _, rfl, .inl hSc, _, _, rfl, _, _, rfl, _, rfl, ?_, ?_, ?_⟩
    · rw [hln]; split <;> split <;> omega
    · rw [hln]; split <;> split <;> omega
    rw [hln]
    refine for_range (lo := 0) (n := _) (fun i σ H' => (∃ y1 y2 y3 y4 y5 y6 y7 y8 y9 y10 y11 y12 y13, σ = [some (.ref a), y1, y2, y3, y4, y5, y6, y7, y8, y9, y10, y11, y12, y13, none, none]) ∧ Same H H') ⟨⟨_, _, _, _, _, _, _, _, _, _, _, _, _, rfl⟩, Same.refl H⟩ ?_ ?_
    · rintro i σ H1 hi ⟨⟨y1, y2, y3, y4, y5, y6, y7, y8, y9, y10, y11, y12, y13, rfl⟩, s1⟩
      have hi5 : i < 5 := by
        have : ∀ n : Int, (if (if n < (4 : Int) then n else 4) > 2 then (if n < (4 : Int) then n else 4) else 2).toNat ≤ 5 := fun n => by
          split <;> split <;> omega
        exact Nat.lt_of_lt_of_le hi (this _)
      refine ⟨_, rfl, _, rfl, a, ns, 0 + i, rfl, s1.seq hSc, by omega, by omega, fun v H2 s2 => ⟨v, rfl, fun pu H3 hpu s3 hP3 => ?_⟩⟩
      have hpu0 : H pu = none := (s1.trans s2).free hpu
      have s03 : Same H H3 := (s1.trans s2).trans s3
      have sx0 : ∀ {H' : Hp}, SameX pu H3 H' → Same H H' := fun {H'} x b o e => x b o (ne_of_none e hpu0) (s03 b o e)
      refine ⟨_, rfl, pu, 4, rfl, hP3, by decide, by decide, fun r1 H4 r10 r11 hP4 x4 _ => ⟨_, rfl, pu, 4, rfl, hP4, by decide, by decide, fun r2 H5 r20 r21 hP5 x5 _ => ⟨_, rfl, pu, 9, rfl, hP5, by decide, by decide, fun r3 H6 r30 r31 hP6 x6 _ => ⟨_, _, _, rfl, ?_⟩⟩⟩⟩
      have x36 := x4.trans (x5.trans x6)
      refine st_nm (σ' := [some (.ref a), some (.int (0 + i)), some (.ref pu), some (.int r1), some (.int r2), some (.int r3), y6, y7, y8, y9, y10, y11, y12, y13, none, none]) rfl ?_
      -- a land
      refine ⟨_, rfl, pick46 rfl rfl fun m H7 hm s7 => ?_⟩
      have hP7 := hP6.same s7
      refine ⟨pu, m, rfl, hP7, by omega, by omega, fun L g wd H8 gd _ _ hG8 hP8 x8 => ?_⟩
      have x38 := x36.trans ((sx s7).trans x8)
      refine st_nm (σ' := [some (.ref a), some (.int (0 + i)), some (.ref pu), some (.int r1), some (.int r2), some (.int r3), some (.ref L), y7, y8, y9, y10, y11, y12, y13, none, none]) rfl ?_
      have s08 := sx0 x38
      clear x36 x4 x5 x6 x8 s7 hP3 hP4 hP5 hP6 hP7 s1 s2 s3 s03 hpu
      -- a Gathering, tellings
      refine ⟨_, rfl, bare2 hG8 gd fun gp r0 H9 s9 hB er ed eg nt0 nd0 => ?_⟩
      have nt : H r0.td = none := s08.free nt0
      have ndd : H r0.dd = none := s08.free nd0
      have tp : r0.td ≠ pu := hP8.ne nt0
      have dp : r0.dd ≠ pu := hP8.ne nd0
      have hP9 := hP8.same s9
      have hG9 := hG8.keep (tk_same s9)
      refine ⟨_, rfl, _, rfl, L, g, wd, rfl, hG9, gd.sized, fun Tn HA nTn sA hTn => ?_⟩
      have nmne : sortS (names g) ≠ [] := fun e => by
        obtain ⟨z, hz⟩ := List.exists_mem_of_ne_nil _ gd.ne
        have := mem_sortS.mpr hz
        rw [e] at this
        exact (List.not_mem_nil this).elim
      have nTp : Tn ≠ pu := hP9.ne nTn
      obtain ⟨n, hn8, en⟩ : ∃ n : Nat, n ≤ 8 ∧ r3 = (n : Int) := ⟨r3.toNat, by omega, by omega⟩
      subst en
      refine ⟨_, rfl, pu, Tn, n, sortS (names g), rfl, hP9.same sA, hTn, nTp, nmne, by rw [sortS_len]; exact gd.len, fun z hz => gd.wd z (mem_sortS.mp hz), by omega, fun l as ts HB hPB xB nl hl hT hok hvs hnd hlen2 => ⟨_, _, rfl, ?_⟩⟩
      obtain ⟨puA, hpuA⟩ := (hP9.same sA).lst
      have hBA := gat_x (hP9.same sA) xB (hB.same sA) tp dp
      have S0 : Sit C D H HB pu L gp l r0 wd as ts := by
        have hx : ∀ b o, H b = some o → HB b = some o := fun b o e => xB b o (ne_of_none e hpu0) (sA _ _ (s9 _ _ (s08 _ _ e)))
        refine ⟨hx, hpu0, nt, ndd, hPB, hBA, ?_, by rw [eg]; exact gd, hl, hT, hok, fun t ht => by rw [eg]; exact mem_sortS.mp (hvs t ht), hnd, by omega, tp, dp, ?_, ?_, ?_, spare_few (by omega)⟩
        · rw [eg]
          exact (hG9.keep (tk_same sA)).keep (tk_x xB hpuA)
        · exact (hP9.same sA).ne nl
        · exact (ne_of_none (hB.same sA).told nl).symm
        · exact (ne_of_none (hB.same sA).deeds nl).symm
      refine st_nmP (σ' := [some (.ref a), some (.int (0 + i)), some (.ref pu), some (.int r1), some (.int r2), some (.int (n : Int)), some (.ref L), some (.ref gp), some (.ref l), y9, y10, y11, y12, y13, none, none]) rfl ?_
      clear hl hT hok hvs hnd hlen2 nl hTn nTn nTp xB hPB hBA hpuA sA hP9 hP8 hG8 hG9 hB s9 nt0 nd0 s08 x38 hm hn8
      clear hpu0 nt ndd tp dp
      subst eg
      clear gd
      -- at times two hundred
      refine st_join (fun σ H' => ∃ l as ts y9 y10, σ = [some (.ref a), some (.int (0 + i)), some (.ref pu), some (.int r1), some (.int r2), some (.int (n : Int)), some (.ref L), some (.ref gp), some (.ref l), y9, y10, y11, y12, y13, none, none] ∧ Sit C D H H' pu L gp l r0 wd as ts) ?_ ?_
      case refine_2 =>
        intro D' hJ hrt
        have stay : D'.nx [some (.ref a), some (.int (0 + i)), some (.ref pu), some (.int r1), some (.int r2), some (.int (n : Int)), some (.ref L), some (.ref gp), some (.ref l), y9, y10, y11, y12, y13, none, none] HB := hJ _ _ ⟨l, as, ts, y9, y10, rfl, S0⟩
        refine ⟨_, rfl, rfl, _, rfl, ite_b (fun e => ⟨_, rfl, rfl, _, rfl, ite_b (fun e2 => ?_) (fun e2 => stay)⟩) (fun e => stay)⟩
        obtain ⟨n0, nss, hns⟩ : ∃ n0 nss, sortS (names r0.g) = n0 :: nss := by
          cases q : sortS (names r0.g) with
          | cons a l => exact ⟨a, l, rfl⟩
          | nil => exact absurd q nmne
        have hn0 : n0 ∈ names r0.g := mem_sortS.mp (by rw [hns]; exact List.mem_cons_self)
        refine ⟨_, rfl, L, r0.g, wd, rfl, S0.grid, S0.gd.sized, fun T2 HC nT2 sC hT2 => ?_⟩
        rw [hns] at hT2
        refine ⟨T2, _, 0, _, rfl, rfl, .inl (.inl hT2), atI_nat (j := 0) rfl, ?_⟩
        refine st_nm (σ' := [some (.ref a), some (.int (0 + i)), some (.ref pu), some (.int r1), some (.int r2), some (.int (n : Int)), some (.ref L), some (.ref gp), some (.ref l), some (.str n0), y10, y11, y12, y13, none, none]) rfl ?_
        have SC := S0.same sC
        refine ⟨200, rfl, by decide, by decide, fun Dl hDl => ?_⟩
        refine lc_map (walk_rng (n := 200)) hDl (fun _ => true) tnV (fun _ _ => trivial) (fun _ => rfl) (fun x H' _ _ Q' q' => q') ?_ lz ?_
        · intro x H' hx _ _ Q' q'
          obtain ⟨j, hj, rfl⟩ := List.mem_map.mp hx
          exact tn_item rfl (List.mem_range.mp hj) q'
        intro HD sD hDD
        rw [tn_str] at hDD
        refine st_nm (σ' := [some (.ref a), some (.int (0 + i)), some (.ref pu), some (.int r1), some (.int r2), some (.int (n : Int)), some (.ref L), some (.ref gp), some (.ref l), some (.str n0), some (.ref Dl), y11, y12, y13, none, none]) rfl ?_
        have SD := SC.same sD
        refine ⟨200, rfl, by decide, by decide, fun Dk hDk => ?_⟩
        refine lc_rel (walk_rng (n := 200)) hDk (fun _ => true) (fun x z H' => ∀ j : Nat, x = .int (0 + (j : Int)) → ∃ t, z = .ref t ∧ H' t = some (.tup (telV (tel200 n0 j)))) (fun _ _ => trivial) (fun _ => rfl) (fun x H' _ _ Q' q' => q') ?_ ?_ lz ?_
        · intro x H' hx _ s' Q' q'
          obtain ⟨j, hj, rfl⟩ := List.mem_map.mp hx
          have hj := List.mem_range.mp hj
          have hat : atI (((List.range 200).map tname).map V.str) (0 + (j : Int)) = some (.str (tname j)) := by
            rw [show (0 : Int) + (j : Int) = ((j : Nat) : Int) by omega]
            exact atI_nat (by rw [List.getElem?_map, List.getElem?_map, List.getElem?_range hj]; rfl)
          refine ⟨_, rfl, _, rfl, _, rfl, Dl, _, _, _, rfl, rfl, .inl (.inl (s' _ _ hDD)), hat, _, rfl, _, _, rfl, rfl, (by show (0 : Int) < 121; decide), lz, fun t nt => q' _ _ (same_new nt) fun j2 e2 => ⟨t, rfl, ?_⟩⟩
          have : j = j2 := by
            have := V.int.inj e2
            omega
          have e9 : (0 + (j : Int)) % 121 = ((j % 121 : Nat) : Int) := by omega
          rw [← this, upd_same]
          show some (HO.tup [V.str n0, V.str "cat", V.str "a", V.str (tname j), V.int ((0 + (j : Int)) % 121), V.str "self", V.bl true]) = _
          rw [e9]
          rfl
        · intro x y H' H'' acc hacc xs' rr j e
          obtain ⟨t, rfl, ht⟩ := rr j e
          exact ⟨t, rfl, xs' _ _ (ne_of ht hacc (by intro z; cases z)) ht⟩
        intro zs HE sE hDE he
        rw [List.filter_eq_self.mpr fun _ _ => rfl] at he
        obtain ⟨bs, rfl, hb⟩ := tels_of he
        have SE := SD.same sE
        have gE := SD.gat
        refine hJ _ _ ⟨Dk, bs, (List.range 200).map (tel200 n0), some (.str n0), some (.ref Dl), rfl, ⟨SE.s0, SE.np, SE.nt, SE.nd0, SE.pu_, SE.gat, SE.grid, SE.gd, hDE, hb, ok200 (SE.gd.wd n0 hn0), fun t ht => ?_, key200 n0, by rw [List.length_map, List.length_range]; exact Nat.le_refl _, SE.tp, SE.dp, SD.pu_.ne hDk, (ne_of_none gE.told hDk).symm, (ne_of_none gE.deeds hDk).symm, spare_two fun t ht => ?_⟩⟩
        · obtain ⟨j, hj, rfl⟩ := List.mem_map.mp ht
          exact hn0
        · obtain ⟨j, hj, rfl⟩ := List.mem_map.mp ht
          exact tname_len j
      clear S0
      rintro σ HB ⟨l, as, ts, y9, y10, rfl, S0⟩
      have las : as.length = ts.length := S0.tels.length
      -- put in
      refine ⟨_, rfl, l, rfl, ⟨_, .inl (.inl S0.lot)⟩, for_list (K := K) (a := l) (xs := as.map V.ref) (fun k σ H' => (∃ y11, σ = [some (.ref a), some (.int (0 + i)), some (.ref pu), some (.int r1), some (.int r2), some (.int (n : Int)), some (.ref L), some (.ref gp), some (.ref l), y9, y10, y11, y12, y13, none, none]) ∧ ∃ r, Sit C D H H' pu L gp l r wd as ts ∧ r.ts = ts.take k ∧ r.ds.length = k)
        ⟨⟨_, rfl⟩, r0, S0, er, by rw [ed]; rfl⟩ (fun k σ H' _ h => by obtain ⟨_, r, S, _⟩ := h; exact .inl (.inl S.lot)) ?_ ?_⟩
      · rintro k x σ HC hx ⟨⟨y11, rfl⟩, r, S, ets, eds⟩
        rw [List.getElem?_map] at hx
        obtain ⟨pt, hpt, rfl⟩ := Option.map_eq_some_iff.mp hx
        obtain ⟨t, ht, htp⟩ := Each.get S.tels hpt
        have hkl := (List.getElem?_eq_some_iff.mp ht).1
        have htm := List.mem_of_getElem? ht
        have enx : ts.take (k + 1) = ts.take k ++ [t] := by rw [List.take_add_one, ht]; rfl
        have hnew : keyS t ∉ (ts.take k).map keyS := fun hm => by
          have e : (ts.take (k + 1)).map keyS = (ts.take k).map keyS ++ [keyS t] := by rw [enx, List.map_append]; rfl
          have h1 : ((ts.take (k + 1)).map keyS).Nodup := S.nd.sublist ((List.take_sublist _ _).map _)
          rw [e, List.nodup_append] at h1
          exact h1.2.2 _ hm _ List.mem_cons_self rfl
        have lk : (ts.take k).length ≤ k := List.length_take_le _ _
        have l200 := S.len
        refine ⟨_, rfl, _, rfl, gp, pt, r, wd, t, rfl, htp, S.gat, S.gd, fun u hu => ?_, S.ok t htm, S.vs t htm, by rw [ets]; exact hnew, by rw [ets]; omega, by omega, fun q' HD nq m hGD => ⟨⟨_, rfl⟩, r.add q' t, S.own m hGD rfl rfl rfl, ?_, ?_⟩⟩
        · rw [ets] at hu
          exact S.ok u (List.mem_of_mem_take hu)
        · show r.ts ++ [t] = _
          rw [ets, enx]
        · show (r.ds ++ [V.non]).length = _
          rw [List.length_append, eds]
          rfl
      rintro σ HC ⟨⟨y11, rfl⟩, r, S, ets, eds⟩
      rw [List.length_map, las, List.take_length] at ets
      rw [List.length_map, las] at eds
      clear S0 er ed las nmne
      subst ets
      have l200 := S.len
      -- one of them struck, or not
      refine ⟨_, rfl, _, rfl, _, rfl, pu, gp, l, r, wd, as, rfl, S.pu_, S.gat, S.gd, S.tp, S.dp, S.ok, S.nd, S.len, by omega, S.lot, S.tels, S.lp, S.lt, S.ld, fun l' as' r' HD hPD sG hGD e1 e2 e3 e4 sub nd' len' ds' hl' hT' n1 n2 n3 => ?_⟩
      have SD : Sit C D H HD pu L gp l' r' wd as' r'.ts := by
        refine ⟨fun b o e => sG b o (ne_of_none e S.np) (ne_of_none e S.nt) (ne_of_none e S.nd0) (S.s0 b o e), S.np, by rw [e1]; exact S.nt, by rw [e2]; exact S.nd0, hPD, hGD, ?_, by rw [e4]; exact S.gd, hl', hT', fun t ht => S.ok t (sub t ht), fun t ht => by rw [e4]; exact S.vs t (sub t ht), nd', by omega, by rw [e1]; exact S.tp, by rw [e2]; exact S.dp, n3, by rw [e1]; exact n1, by rw [e2]; exact n2, S.spare.sub sub⟩
        rw [e4]
        refine S.grid.keep fun b xs e => sG b _ (fun z => ?_) (fun z => ?_) (fun z => ?_) e
        · obtain ⟨_, _, _, hh, _⟩ := S.pu_
          rw [z, hh] at e
          cases e
        · rw [z, S.gat.told] at e
          cases e
        · rw [z, S.gat.deeds] at e
          cases e
      clear hPD sG hGD e1 e2 e3 e4 sub nd' len' ds' hl' hT' n1 n2 n3 eds l200 S
      refine st_nm (σ' := [some (.ref a), some (.int (0 + i)), some (.ref pu), some (.int r1), some (.int r2), some (.int (n : Int)), some (.ref L), some (.ref gp), some (.ref l'), y9, y10, y11, y12, y13, none, none]) rfl ?_
      refine ⟨_, rfl, _, rfl, L, l', r'.g, wd, as', r'.ts, rfl, SD.grid, SD.gd, SD.lot, SD.tels, SD.ok, SD.len, fun HE sE => ?_⟩
      have SE := SD.same sE
      refine ⟨_, rfl, _, rfl, _, rfl, gp, L, l', r', wd, as', rfl, SE.gat, SE.grid, SE.gd, SE.lot, SE.tels, SE.ok, SE.len, fun HF sF => ⟨_, rfl, iteF ?_⟩⟩
      have SF := SE.same sF
      clear SD SE sE sF
      -- read, twice
      refine ⟨_, rfl, r'.g, wd, r'.ts, rfl, SF.gd, SF.ok, SF.vs, SF.nd, SF.len, fun p1 q1 HG np1 nt1 nd1 npl1 s1' hG1 eg1 et1 ed1 => ?_⟩
      have SG := SF.same s1'
      refine ⟨_, rfl, rfl, rfl, r'.g, wd, r'.ts, rfl, SF.gd, SF.ok, SF.vs, SF.nd, SF.len, fun p2 q2 HI np2 nt2 nd2 npl2 s2' hG2 eg2 et2 ed2 => ⟨lz, fun lL nlL => ?_⟩⟩
      have SI := SG.same s2'
      have hG1' := hG1.same s2'
      have n12 : q1.td ≠ q2.td ∧ q1.td ≠ q2.dd ∧ q1.dd ≠ q2.td ∧ q1.dd ≠ q2.dd := ⟨ne_of_none hG1.told nt2, ne_of_none hG1.told nd2, ne_of_none hG1.deeds nt2, ne_of_none hG1.deeds nd2⟩
      have far : ∀ {td : Addr} {Hx : Hp}, Sit C D H Hx pu L gp l' r' wd as' r'.ts → Hx td = none → pu ≠ td ∧ r'.td ≠ td ∧ r'.dd ≠ td ∧ l' ≠ td ∧ H td = none := fun {td Hx} S h => ⟨(by obtain ⟨_, _, _, hh, _⟩ := S.pu_; exact ne_of_none hh h), ne_of_none S.gat.told h, ne_of_none S.gat.deeds h, ne_of_none S.lot h, S.s0.free h⟩
      have f1t := far SF nt1
      have f1d := far SF nd1
      have f2t := far SG nt2
      have f2d := far SG nd2
      have gp1 : gp ≠ p1 := by obtain ⟨_, h⟩ := SF.gat.at_; exact ne_of_none h np1
      have gp2 : gp ≠ p2 := by obtain ⟨_, h⟩ := SG.gat.at_; exact ne_of_none h np2
      have L1 : lL ≠ q1.td ∧ lL ≠ q1.dd ∧ lL ≠ q2.td ∧ lL ≠ q2.dd := ⟨(ne_of_none hG1'.told nlL).symm, (ne_of_none hG1'.deeds nlL).symm, (ne_of_none hG2.told nlL).symm, (ne_of_none hG2.deeds nlL).symm⟩
      have s3' := same_new (o := .lst [V.ref p1, V.ref p2]) nlL
      refine ⟨lL, rfl, ⟨_, .inl (.inl upd_same)⟩, for_list (K := K) (a := lL) (xs := [V.ref p1, V.ref p2]) (fun k σ H' => (∃ y13, σ = [some (.ref a), some (.int (0 + i)), some (.ref pu), some (.int r1), some (.int r2), some (.int (n : Int)), some (.ref L), some (.ref gp), some (.ref l'), y9, y10, y11, some (.str (gatS r'.g r'.ts)), y13, none, none]) ∧ Sit C D H H' pu L gp l' r' wd as' r'.ts ∧ H' lL = some (.lst [V.ref p1, V.ref p2]) ∧ (k ≤ 0 → GatAt C D H' p1 q1) ∧ (k ≤ 1 → GatAt C D H' p2 q2))
        ⟨⟨_, rfl⟩, SI.same s3', upd_same, fun _ => hG1'.same s3', fun _ => hG2.same s3'⟩ (fun k σ H' _ h => .inl (.inl h.2.2.1)) ?_ ?_⟩
      · rintro k x σ H7 hx ⟨⟨y13, rfl⟩, S7, hlL, h1, h2⟩
        obtain ⟨pq, q, rfl, hGq, qg, qt, qd, npq, ft, fd', nlt', rest⟩ : ∃ (pq : Addr) (q : GR), x = .ref pq ∧ GatAt C D H7 pq q ∧ q.g = r'.g ∧ q.ts = r'.ts ∧ q.ds = [] ∧ gp ≠ pq ∧ (pu ≠ q.td ∧ r'.td ≠ q.td ∧ r'.dd ≠ q.td ∧ l' ≠ q.td ∧ H q.td = none) ∧ (pu ≠ q.dd ∧ r'.td ≠ q.dd ∧ r'.dd ≠ q.dd ∧ l' ≠ q.dd ∧ H q.dd = none) ∧ (lL ≠ q.td ∧ lL ≠ q.dd) ∧ ∀ H8, Same2 q.td q.dd H7 H8 → (k + 1 ≤ 0 → GatAt C D H8 p1 q1) ∧ (k + 1 ≤ 1 → GatAt C D H8 p2 q2) := by
          rcases k with _ | _ | k
          · cases hx
            have g1 := h1 (Nat.le_refl 0)
            have g2 := h2 (by omega)
            exact ⟨p1, q1, rfl, g1, eg1, et1, ed1, gp1, f1t, f1d, ⟨L1.1, L1.2.1⟩, fun H8 m => ⟨fun h => by omega, fun _ => gat_keep2 g2 m g1.told g1.deeds n12.1.symm n12.2.2.1.symm n12.2.1.symm n12.2.2.2.symm⟩⟩
          · cases hx
            exact ⟨p2, q2, rfl, h2 (Nat.le_refl 1), eg2, et2, ed2, gp2, f2t, f2d, ⟨L1.2.2.1, L1.2.2.2⟩, fun H8 m => ⟨fun h => by omega, fun h => by omega⟩⟩
          · cases hx
        have nx : ∀ H8, Same2 q.td q.dd H7 H8 → Sit C D H H8 pu L gp l' r' wd as' r'.ts ∧ H8 lL = some (.lst [V.ref p1, V.ref p2]) ∧ (k + 1 ≤ 0 → GatAt C D H8 p1 q1) ∧ (k + 1 ≤ 1 → GatAt C D H8 p2 q2) := fun H8 m => ⟨S7.far m hGq.told hGq.deeds ft.2.2.2.2 fd'.2.2.2.2 ft.1 fd'.1 ft.2.1 fd'.2.1 ft.2.2.1 fd'.2.2.1 ft.2.2.2.1 fd'.2.2.2.1, m _ _ nlt'.1 nlt'.2 hlL, rest H8 m⟩
        have okq : ∀ t ∈ q.ts, OkT t := by rw [qt]; exact S7.ok
        have gdq : Good q.g wd := by rw [qg]; exact S7.gd
        have lq : q.ts.length ≤ 200 := by rw [qt]; exact S7.len
        have grq : ∀ {Hx : Hp}, GridAt Hx L r'.g → GridAt Hx L q.g := fun h => by rw [qg]; exact h
        have tlq : ∀ {Hx : Hp}, TelsAt Hx as' r'.ts → TelsAt Hx as' q.ts := fun h => by rw [qt]; exact h
        have same_b : ∀ {b : Bool}, (b = true ↔ q.g = r'.g ∧ q.ts.Perm r'.ts) → b = true := fun h => h.mpr ⟨qg, by rw [qt]⟩
        -- alike
        refine ⟨_, rfl, _, rfl, _, rfl, pq, L, l', q, wd, as', rfl, hGq, grq S7.grid, gdq, S7.lot, tlq S7.tels, okq, lq, fun H8 s8 => ⟨_, rfl, iteF ?_⟩⟩
        obtain ⟨dq, hpq⟩ := hGq.at_
        obtain ⟨dk, hpk⟩ := S7.gat.at_
        refine ⟨_, rfl, _, rfl, pq, dq, _, gp, dk, _, rfl, rfl, s8 _ _ hpq, s8 _ _ hpk, pq, gp, q, r', wd, wd, rfl, hGq.same s8, S7.gat.same s8, gdq, S7.gd, okq, S7.ok, fun b H9 hb s9 => ⟨b, rfl, _, rfl, ?_⟩⟩
        rw [same_b hb]
        refine iteF ?_
        have s79 := s8.trans s9
        refine ⟨_, rfl, _, rfl, pq, dq, _, gp, dk, _, rfl, rfl, s79 _ _ hpq, s79 _ _ hpk, pq, gp, q, r', wd, wd, rfl, hGq.same s79, S7.gat.same s79, gdq, S7.gd, okq, S7.ok, fun b HA hb' sA => ⟨b, rfl, _, rfl, ?_⟩⟩
        rw [same_b hb']
        refine iteF ?_
        have s7A := s79.trans sA
        refine ⟨_, rfl, _, rfl, lz, fun ln nln => ?_⟩
        have sB := same_new (o := .lst [V.ref gp]) nln
        have s7B := s7A.trans sB
        refine ⟨pq, ln, [V.ref gp], [true], rfl, rfl, .inl upd_same, .cons ⟨⟨dq, _, s7B _ _ hpq⟩, .inr (.inr ⟨gp, dk, _, rfl, npq, s7B _ _ hpk, fun H' s' => ⟨gp, pq, r', q, wd, wd, rfl, (S7.gat.same s7B).same s', (hGq.same s7B).same s', S7.gd, gdq, S7.ok, okq, fun b H'' hb2 s'' => ⟨b, rfl, hb2.mpr ⟨qg.symm, by rw [qt]⟩, s''⟩⟩⟩)⟩ .nil, fun HC sC => ⟨_, rfl, iteF ?_⟩⟩
        have s7C := s7B.trans sC
        clear hb hb' s8 s9 sA sB sC s79 s7A s7B nln
        -- nothing to take back; it goes on
        refine ⟨_, rfl, pq, q, rfl, hGq.same s7C, qd, fun HD sD => ⟨_, rfl, iteF ?_⟩⟩
        have s7D := s7C.trans sD
        have SD := S7.same s7D
        refine ⟨_, rfl, _, rfl, _, rfl, pq, L, l', q, wd, as', rfl, hGq.same s7D, grq SD.grid, gdq, SD.lot, tlq SD.tels, okq, lq, fun HE sE => ⟨_, rfl, iteF ?_⟩⟩
        have s7E := s7D.trans sE
        have SE := S7.same s7E
        refine ⟨_, rfl, _, rfl, _, rfl, pq, L, l', q, wd, as', rfl, hGq.same s7E, grq SE.grid, gdq, SE.lot, tlq SE.tels, okq, by rw [qg, qt]; exact S7.vs, lq, qd, by rw [qt]; exact S7.spare, ft.2.2.2.1, fd'.2.2.2.1, fun u HF mF hGF u1 u2 u3 u4 u5 u6 => ⟨_, rfl, iteF ?_⟩⟩
        have m7F : Same2 q.td q.dd H7 HF := (Same2.of s7E).trans mF
        obtain ⟨SF', hlF, restF⟩ := nx HF m7F
        -- struck
        refine ⟨_, rfl, lz, fun e1 ne1 => ?_⟩
        have sG' := same_new (o := .lst []) ne1
        have he1 : upd HF e1 (.lst []) e1 = some (.lst []) := upd_same
        generalize upd HF e1 (.lst []) = HG' at sG' he1
        have SG' := SF'.same sG'
        refine ⟨.list (r'.ts.map telD), .list [], .lst (.inl (.inl SG'.lot)) (dp_tels SG'.tels), .lst (.inl (.inl he1)) .nil, shaped_tels S7.ok, rfl, _, rfl, ?_⟩
        rw [tels_nil]
        have m7G : Same2 q.td q.dd H7 HG' := m7F.trans (Same2.of sG')
        by_cases hem : r'.ts = []
        · rw [show r'.ts.isEmpty = true by rw [hem]; rfl]
          exact iteF ⟨⟨_, rfl⟩, nx HG' m7G⟩
        · rw [show r'.ts.isEmpty = false from by cases q : r'.ts with | nil => exact absurd q hem | cons x l => rfl]
          refine iteT ?_
          obtain ⟨t0, h0⟩ : ∃ t0, r'.ts[0]? = some t0 := by
            cases q : r'.ts with
            | nil => exact absurd q hem
            | cons x l => exact ⟨x, rfl⟩
          have la' : as'.length = r'.ts.length := S7.tels.length
          have hpos : 0 < r'.ts.length := List.length_pos_iff.mpr hem
          have has : as'[0]? = some as'[0] := List.getElem?_eq_getElem (by omega)
          generalize as'[0] = pt at has
          obtain ⟨t0', ht0', hpt⟩ := Each.get SG'.tels has
          rw [h0] at ht0'
          cases ht0'
          have h0a : (as'.map V.ref)[0]? = some (.ref pt) := by rw [List.getElem?_map, has]; rfl
          have ok0 := S7.ok t0 (List.mem_of_getElem? h0)
          have hGG := hGF.same sG'
          obtain ⟨dG, hpG⟩ := hGG.at_
          have u5' : u.ts = r'.ts := u5.trans qt
          have uok : ∀ t ∈ u.ts, OkT t := by rw [u5']; exact S7.ok
          refine ⟨_, rfl, pq, dG, _, rfl, hpG, gf_no _ _ _, _, rfl, l', _, _, .ref pt, rfl, rfl, .inl (.inl SG'.lot), atI_nat (j := 0) h0a, pt, _, _, _, rfl, rfl, .inl (.inl hpt), atI_nat (j := 0) rfl, _, rfl, l', _, _, .ref pt, rfl, rfl, .inl (.inl SG'.lot), atI_nat (j := 0) h0a, pt, _, _, _, rfl, rfl, .inl (.inl hpt), atI_nat (j := 3) rfl, _, rfl, l', _, _, .ref pt, rfl, rfl, .inl (.inl SG'.lot), atI_nat (j := 0) h0a, pt, _, _, _, rfl, rfl, .inl (.inl hpt), atI_nat (j := 1) rfl, _, rfl, l', _, _, .ref pt, rfl, rfl, .inl (.inl SG'.lot), atI_nat (j := 0) h0a, pt, _, _, _, rfl, rfl, .inl (.inl hpt), atI_nat (j := 5) rfl, ?_⟩
          refine ⟨pq, u, t0, 0, rfl, hGG, uok, by rw [u5']; exact S7.len, by rw [u6]; decide, find_atN (by rw [u5']; exact S7.nd) (by rw [u5']; exact h0), ok0, fun qa pa HH nqa hpa mH hGH hqa => ?_⟩
          have mH' : Same2 q.td q.dd HG' HH := by rw [← u1, ← u2]; exact mH
          have m7H := m7G.trans mH'
          obtain ⟨SH, hlH, restH⟩ := nx HH m7H
          obtain ⟨dH, hpH⟩ := hGH.at_
          obtain ⟨dkH, hpkH⟩ := SH.gat.at_
          have gdc : Good (u.cut 0 qa).g wd := by show Good u.g wd; rw [u4, qg]; exact S7.gd
          have okc : ∀ t ∈ (u.cut 0 qa).ts, OkT t := fun t ht => uok t (List.mem_of_mem_eraseIdx ht)
          have ec : (u.cut 0 qa).ts = r'.ts.eraseIdx 0 := by show u.ts.eraseIdx 0 = _; rw [u5']
          have lc : (u.cut 0 qa).ts.length + 1 = r'.ts.length := by rw [ec, List.length_eraseIdx, if_pos hpos]; omega
          refine ⟨_, rfl, _, rfl, pq, dH, _, gp, dkH, _, rfl, rfl, hpH, hpkH, pq, gp, u.cut 0 qa, r', wd, wd, rfl, hGH, SH.gat, gdc, S7.gd, okc, S7.ok, fun b HI hb sI => ⟨b, rfl, _, rfl, ?_⟩⟩
          have hbf : b = false := by
            cases b with
            | false => rfl
            | true =>
              have := (hb.mp rfl).2.length_eq
              omega
          rw [hbf]
          refine iteF ?_
          have SI := SH.same sI
          refine ⟨_, rfl, _, rfl, _, rfl, 1, rfl, l', _, rfl, .inl (.inl SI.lot), fun u9 nu9 => ?_⟩
          have sJ := same_new (o := .lst (cutV (as'.map V.ref) (some 1) none)) nu9
          have SJ := SI.same sJ
          have e9 : cutV (as'.map V.ref) (some (1 : Int)) none = (as'.eraseIdx 0).map V.ref := by
            rw [show (1 : Int) = ((1 : Nat) : Int) from rfl, cut_from, ← List.map_drop, List.drop_one, List.eraseIdx_zero]
          refine ⟨pq, L, u9, u.cut 0 qa, wd, as'.eraseIdx 0, rfl, (hGH.same sI).same sJ, ?_, gdc, by rw [upd_same, e9], by rw [ec]; exact each_erase 0 SJ.tels, okc, by have := S7.len; omega, fun HK sK => ⟨_, rfl, iteF ?_⟩⟩
          · show GridAt _ L u.g
            rw [u4, qg]
            exact SJ.grid
          have SK := SJ.same sK
          refine ⟨_, rfl, _, rfl, _, rfl, gp, L, l', r', wd, as', rfl, SK.gat, SK.grid, SK.gd, SK.lot, SK.tels, SK.ok, SK.len, fun HL sL => ⟨_, rfl, iteF ⟨⟨_, rfl⟩, ?_⟩⟩⟩
          exact nx HL (m7H.trans (Same2.of (sI.trans (sJ.trans (sK.trans sL)))))
      · rintro σ H7 ⟨⟨y13, rfl⟩, S7, _⟩
        exact ⟨⟨_, _, _, _, _, _, _, _, _, _, _, _, _, rfl⟩, S7.s0⟩
    · rintro σ H1 ⟨⟨y1, y2, y3, y4, y5, y6, y7, y8, y9, y10, y11, y12, y13, rfl⟩, s1⟩
      refine ⟨200, rfl, by decide, by decide, fun Dl hDl => ?_⟩
      refine lc_map (walk_rng (n := 200)) hDl (fun _ => true) tnV (fun _ _ => trivial) (fun _ => rfl) (fun x H' _ _ Q' q' => q') ?_ lz ?_
      · intro x H' hx _ _ Q' q'
        obtain ⟨j, hj, rfl⟩ := List.mem_map.mp hx
        exact tn_item rfl (List.mem_range.mp hj) q'
      intro HD sD hDD
      rw [tn_str] at hDD
      refine st_nm (σ' := [some (.ref a), y1, y2, y3, y4, y5, y6, y7, y8, y9, some (.ref Dl), y11, y12, y13, none, none]) rfl ?_
      refine ⟨_, rfl, Dl, rfl, ⟨_, .inl (.inl hDD)⟩, fun Dk hDk => ?_⟩
      refine lc_rel (walk_list (K := K) (a := Dl) (xs := ((List.range 200).map tname).map V.str)) hDk (fun _ => true) (fun x z H' => ∀ j : Nat, x = .str (tname j) → ∃ t, z = .ref t ∧ H' t = some (.tup (telV (tel200' j)))) (fun H' s' => .inl (.inl (s' _ _ hDD))) (fun _ => rfl) (fun x H' _ _ Q' q' => q') ?_ ?_ lz ?_
      · intro x H' hx _ s' Q' q'
        obtain ⟨z, hz, rfl⟩ := List.mem_map.mp hx
        refine ⟨_, rfl, lz, fun t nt => q' _ _ (same_new nt) fun j2 e2 => ⟨t, rfl, ?_⟩⟩
        have : z = tname j2 := V.str.inj e2
        rw [upd_same, this]
        rfl
      · intro x y H' H'' acc hacc xs' rr j e
        obtain ⟨t, rfl, ht⟩ := rr j e
        exact ⟨t, rfl, xs' _ _ (ne_of ht hacc (by intro z; cases z)) ht⟩
      intro zs HE sE hDE he
      rw [List.filter_eq_self.mpr fun _ _ => rfl] at he
      obtain ⟨bs, rfl, hb⟩ := tels_of2 he
      refine st_nm (σ' := [some (.ref a), y1, y2, y3, y4, y5, y6, y7, some (.ref Dk), y9, some (.ref Dl), y11, y12, y13, none, none]) rfl ?_
      clear he
      refine ⟨lz, fun t1 n1 => ⟨lz, fun t2 n2 => ?_⟩⟩
      have s2 := (same_new (o := .tup [V.str "a", V.non]) n1).trans (same_new (o := .tup [V.ref t1]) n2)
      have hgr := grid1 n1 n2
      generalize upd (upd HE t1 (.tup [V.str "a", V.non])) t2 (.tup [V.ref t1]) = HF at s2 hgr
      have l200 : ((List.range 200).map tel200').length ≤ 200 := by rw [List.length_map, List.length_range]; exact Nat.le_refl _
      refine ⟨_, rfl, t2, Dk, g1, 2, bs, (List.range 200).map tel200', rfl, hgr, gd1, s2 _ _ hDE, hb.keep (tk_same s2), ok200', l200, fun HG sG => ?_⟩
      have s2G := s2.trans sG
      refine ⟨g1, 2, _, rfl, gd1, ok200', tel200_v, key200', l200, fun p r HH np nt nd npl sH hG eg et ed => ?_⟩
      have s2H := s2G.trans sH
      obtain ⟨dp, hp⟩ := hG.at_
      refine ⟨p, dp, _, rfl, hp, gf_no _ _ _, p, r, rfl, hG, fun l nl => ?_⟩
      have sl := same_new (o := .lst (r.as.map V.ref)) nl
      have hl : upd HH l (.lst (r.as.map V.ref)) l = some (.lst (r.as.map V.ref)) := upd_same
      generalize upd HH l (.lst (r.as.map V.ref)) = HI at sl hl
      have s2I := s2H.trans sl
      refine ⟨_, rfl, .list (r.ts.map telD), .list (((List.range 200).map tel200').map telD), .lst (.inl (.inl hl)) (dp_tels (hG.tels.keep (tk_same sl))), .lst (.inl (.inl (s2I _ _ hDE))) (dp_tels (hb.keep (tk_same s2I))), shaped_tels (by rw [et]; exact ok200'), shaped_tels ok200', _, rfl, ?_⟩
      rw [et, tels_self]
      refine iteF ?_
      refine ⟨g1, 2, [], (show [V.str "a -\n."] = [V.str (gatS g1 [])] from by decide +kernel), gd1, (fun _ h => nomatch h), (fun _ h => nomatch h), List.nodup_nil, by decide, fun p2 r2 HJ _ _ _ _ _ hG2 eg2 et2 _ => ?_⟩
      refine ⟨lz, fun t3 n3 => ⟨lz, fun t4 n4 => ?_⟩⟩
      have s3 := (same_new (o := .tup [V.str "a", V.non]) n3).trans (same_new (o := .tup [V.ref t3]) n4)
      have hgr2 := grid1 n3 n4
      generalize upd (upd HJ t3 (.tup [V.str "a", V.non])) t4 (.tup [V.ref t3]) = HK at s3 hgr2
      refine ⟨lz, fun l2 nl2 => ?_⟩
      have s4 := same_new (o := .lst []) nl2
      refine ⟨p2, t4, l2, r2, 2, [], rfl, (hG2.same s3).same s4, ?_, ?_, upd_same, ?_, ?_, ?_, fun HL _ => q _⟩
      · rw [eg2]
        exact hgr2.keep (tk_same s4)
      · rw [eg2]
        exact gd1
      · rw [et2]
        exact .nil
      · rw [et2]
        exact fun _ h => nomatch h
      · rw [et2]
        decide
end
end Wl

namespace Wl
open PySem PySem.Spec PyProof.Rows L2
theorem facts {P : Program} {w : World} {K : PySem.W.Frag} {h : Heap} {mg : Str → Option Value} {f : Addr} (X : K.In h) (G : h.Ns mainGlobals mg) (hfa : mg ("law" : Str) = some (.ref f)) (c : He.SaysD fa fn K) (cx : exT K = true) :
    ∃ fd : FuncData, (∀ (s : Shared) (v : Value), BindsTo s fd ⟨[v], []⟩ [("_law_script", v)]) ∧ ∀ base : Heap, K.In base → base.Ns mainGlobals mg → FnOk P w K mg base CX0 10 f fd ["_law_script"] (spLaw K) := by
  have B : Bi mg := ⟨He.free_ok X G (c.fact 98 (f := .free "len") rfl), He.free_ok X G (c.fact 99 (f := .free "range") rfl), He.free_ok X G (c.fact 100 (f := .free "isinstance") rfl), He.free_ok X G (c.fact 101 (f := .free "tuple") rfl), He.free_ok X G (c.fact 102 (f := .free "list") rfl), He.free_ok X G (c.fact 103 (f := .free "sorted") rfl), He.free_ok X G (c.fact 104 (f := .free "all") rfl), He.free_ok X G (c.fact 105 (f := .free "int") rfl), He.free_ok X G (c.fact 106 (f := .free "max") rfl), He.free_ok X G (c.fact 107 (f := .free "min") rfl), He.free_ok X G (c.fact 108 (f := .free "enumerate") rfl), He.free_ok X G (c.fact 109 (f := .free "str") rfl)⟩
  obtain ⟨fd0, F0⟩ := c.def_ 0 (d := dMet "NoWord" "__init__" "NoWord.__init__" (inClass (topS 5) 0) []) rfl
  obtain ⟨fd1, F1⟩ := c.def_ 1 (d := dMet "NoAge" "__init__" "NoAge.__init__" (inClass (topS 7) 0) []) rfl
  obtain ⟨fd2, F2⟩ := c.def_ 2 (d := dMet "NoSure" "__init__" "NoSure.__init__" (inClass (topS 8) 0) []) rfl
  obtain ⟨fd3, F3⟩ := c.def_ 3 (d := dMet "NoName" "__init__" "NoName.__init__" (inClass (topS 10) 0) []) rfl
  obtain ⟨fd4, F4⟩ := c.def_ 4 (d := dMet "Told" "__init__" "Told.__init__" (inClass (topS 14) 0) []) rfl
  obtain ⟨fd5, F5⟩ := c.def_ 5 (d := dMet "Full" "__init__" "Full.__init__" (inClass (topS 15) 0) []) rfl
  obtain ⟨fd6, F6⟩ := c.def_ 6 (d := dOf "is_whole" sIsWhole []) rfl
  obtain ⟨fd7, F7⟩ := c.def_ 7 (d := dOf "is_number_from" sIsNum []) rfl
  obtain ⟨fd8, F8⟩ := c.def_ 8 (d := dOf "is_word" sIsWord []) rfl
  obtain ⟨fd9, F9⟩ := c.def_ 9 (d := dOf "check_word" sCheckW []) rfl
  obtain ⟨fd10, F10⟩ := c.def_ 10 (d := dOf "are_rows" sAreRows []) rfl
  obtain ⟨fd11, F11⟩ := c.def_ 11 (d := dOf "wrong_spot" sWrong []) rfl
  obtain ⟨fd12, F12⟩ := c.def_ 12 (d := dOf "spots_in" sSpotsIn []) rfl
  obtain ⟨fd13, F13⟩ := c.def_ 13 (d := dOf "checked_spots" sSpots []) rfl
  obtain ⟨fd14, F14⟩ := c.def_ 14 (d := dMet "Land" "__init__" "Land.__init__" sInit []) rfl
  obtain ⟨fd15, F15⟩ := c.def_ 15 (d := dMet "Land" "check_name" "Land.check_name" sCheck []) rfl
  obtain ⟨fd16, F16⟩ := c.def_ 16 (d := dMet "Land" "__eq__" "Land.__eq__" sEq []) rfl
  obtain ⟨fd17, F17⟩ := c.def_ 17 (d := dMet "Land" "__str__" "Land.__str__" sStr []) rfl
  obtain ⟨fd18, F18⟩ := c.def_ 18 (d := dOf "check_age" sCheckA []) rfl
  obtain ⟨fd19, F19⟩ := c.def_ 19 (d := dOf "check_sure" sCheckS []) rfl
  obtain ⟨fd20, F20⟩ := c.def_ 20 (d := dOf "key_of" sKeyOf []) rfl
  obtain ⟨fd21, F21⟩ := c.def_ 21 (d := dOf "telling_row" sTelRow []) rfl
  obtain ⟨fd22, F22⟩ := c.def_ 22 (d := dMet "Gathering" "__init__" "Gathering.__init__" sGInit []) rfl
  obtain ⟨fd23, F23⟩ := c.def_ 23 (d := dMet "Gathering" "place_of" "Gathering.place_of" sGPlace []) rfl
  obtain ⟨fd24, F24⟩ := c.def_ 24 (d := dMet "Gathering" "put" "Gathering.put" sGPut [.str "self", .bl true]) rfl
  obtain ⟨fd25, F25⟩ := c.def_ 25 (d := dMet "Gathering" "strike" "Gathering.strike" sGStrike [.str "self"]) rfl
  obtain ⟨fd26, F26⟩ := c.def_ 26 (d := dMet "Gathering" "back" "Gathering.back" sGBack []) rfl
  obtain ⟨fd27, F27⟩ := c.def_ 27 (d := dMet "Gathering" "settle" "Gathering.settle" sSettle []) rfl
  obtain ⟨fd28, F28⟩ := c.def_ 28 (d := dMet "Gathering" "tellings" "Gathering.tellings" sGTell [.non]) rfl
  obtain ⟨fd29, F29⟩ := c.def_ 29 (d := dMet "Gathering" "things" "Gathering.things" sGThings []) rfl
  obtain ⟨fd30, F30⟩ := c.def_ 30 (d := dMet "Gathering" "gatherers" "Gathering.gatherers" sGGathers []) rfl
  obtain ⟨fd31, F31⟩ := c.def_ 31 (d := dMet "Gathering" "__eq__" "Gathering.__eq__" sGEq []) rfl
  obtain ⟨fd32, F32⟩ := c.def_ 32 (d := dMet "Gathering" "__len__" "Gathering.__len__" sGLen []) rfl
  obtain ⟨fd33, F33⟩ := c.def_ 33 (d := dMet "Gathering" "__str__" "Gathering.__str__" sGStr []) rfl
  obtain ⟨fd34, F34⟩ := c.def_ 34 (d := dMet "Gathering" "__repr__" "Gathering.__repr__" sGRepr []) rfl
  obtain ⟨fd35, F35⟩ := c.def_ 35 (d := dOf "check_gathering" sCheckG []) rfl
  obtain ⟨fd36, F36⟩ := c.def_ 36 (d := dOf "text_rows" sTextRows []) rfl
  obtain ⟨fd37, F37⟩ := c.def_ 37 (d := dOf "read_parts" sReadParts []) rfl
  obtain ⟨fd38, F38⟩ := c.def_ 38 (d := dOf "fits_behind" sFits []) rfl
  obtain ⟨fd39, F39⟩ := c.def_ 39 (d := dOf "land_of_rows" sLandOf []) rfl
  obtain ⟨fd40, F40⟩ := c.def_ 40 (d := dOf "show_gathering" sShowG []) rfl
  obtain ⟨fd41, F41⟩ := c.def_ 41 (d := dOf "is_number" sIsN []) rfl
  obtain ⟨fd42, F42⟩ := c.def_ 42 (d := dOf "put_row" sPutRow []) rfl
  obtain ⟨fd43, F43⟩ := c.def_ 43 (d := dOf "read_gathering" sRead []) rfl
  obtain ⟨fd44, F44⟩ := c.def_ 44 (d := dOf "_law_cell" sCell []) rfl
  obtain ⟨fd45, F45⟩ := c.def_ 45 (d := dOf "_law_purse" sPurse []) rfl
  obtain ⟨fd46, F46⟩ := c.def_ 46 (d := dOf "_law_pick" sPick []) rfl
  obtain ⟨fd47, F47⟩ := c.def_ 47 (d := dOf "_law_menu" sMenu []) rfl
  obtain ⟨fd48, F48⟩ := c.def_ 48 (d := dOf "_law_word" sWord []) rfl
  obtain ⟨fd49, F49⟩ := c.def_ 49 (d := dOf "_law_fresh" sFresh []) rfl
  obtain ⟨fd50, F50⟩ := c.def_ 50 (d := dOf "_law_land" sLand []) rfl
  obtain ⟨fd51, F51⟩ := c.def_ 51 (d := dOf "_law_names" sNames []) rfl
  obtain ⟨fd52, F52⟩ := c.def_ 52 (d := dOf "_law_told_row" sToldRow []) rfl
  obtain ⟨fd53, F53⟩ := c.def_ 53 (d := dOf "_law_told_rows" sToldRows []) rfl
  obtain ⟨fd54, F54⟩ := c.def_ 54 (d := dOf "_law_land_text" sText []) rfl
  obtain ⟨fd55, F55⟩ := c.def_ 55 (d := dOf "_law_row_text" sRowText []) rfl
  obtain ⟨fd56, F56⟩ := c.def_ 56 (d := dOf "_law_text" sGText []) rfl
  obtain ⟨fd57, F57⟩ := c.def_ 57 (d := dOf "_law_put" sPutL []) rfl
  obtain ⟨fd58, F58⟩ := c.def_ 58 (d := dOf "_law_moved" sMoved []) rfl
  obtain ⟨fd59, F59⟩ := c.def_ 59 (d := dOf "_law_no_back" sNoBack []) rfl
  obtain ⟨fd60, F60⟩ := c.def_ 60 (d := dOf "_law_put_told" sPutTold []) rfl
  obtain ⟨fd61, F61⟩ := c.def_ 61 (d := dOf "_law_is" sIs []) rfl
  obtain ⟨fd62, F62⟩ := c.def_ 62 (d := dOf "_law_goes_on" sGoes []) rfl
  obtain ⟨fd63, F63⟩ := c.def_ 63 (d := dOf "law" sLaw []) rfl
  have e := hfa.symm.trans (He.glo_ok X G (c.fact 69 (f := .glo "law") rfl))
  cases e
  have f0 : Fun K "__init__" "NoWord.__init__" (inClass (topS 5) 0) _ fd0 := He5.fun_of F0
  have f1 : Fun K "__init__" "NoAge.__init__" (inClass (topS 7) 0) _ fd1 := He5.fun_of F1
  have f2 : Fun K "__init__" "NoSure.__init__" (inClass (topS 8) 0) _ fd2 := He5.fun_of F2
  have f3 : Fun K "__init__" "NoName.__init__" (inClass (topS 10) 0) _ fd3 := He5.fun_of F3
  have f4 : Fun K "__init__" "Told.__init__" (inClass (topS 14) 0) _ fd4 := He5.fun_of F4
  have f5 : Fun K "__init__" "Full.__init__" (inClass (topS 15) 0) _ fd5 := He5.fun_of F5
  have f6 : Fun K "is_whole" "is_whole" sIsWhole _ fd6 := He5.fun_of F6
  have f7 : Fun K "is_number_from" "is_number_from" sIsNum _ fd7 := He5.fun_of F7
  have f8 : Fun K "is_word" "is_word" sIsWord _ fd8 := He5.fun_of F8
  have f9 : Fun K "check_word" "check_word" sCheckW _ fd9 := He5.fun_of F9
  have f10 : Fun K "are_rows" "are_rows" sAreRows _ fd10 := He5.fun_of F10
  have f11 : Fun K "wrong_spot" "wrong_spot" sWrong _ fd11 := He5.fun_of F11
  have f12 : Fun K "spots_in" "spots_in" sSpotsIn _ fd12 := He5.fun_of F12
  have f13 : Fun K "checked_spots" "checked_spots" sSpots _ fd13 := He5.fun_of F13
  have f14 : Fun K "__init__" "Land.__init__" sInit _ fd14 := He5.fun_of F14
  have f15 : Fun K "check_name" "Land.check_name" sCheck _ fd15 := He5.fun_of F15
  have f16 : Fun K "__eq__" "Land.__eq__" sEq _ fd16 := He5.fun_of F16
  have f17 : Fun K "__str__" "Land.__str__" sStr _ fd17 := He5.fun_of F17
  have f18 : Fun K "check_age" "check_age" sCheckA _ fd18 := He5.fun_of F18
  have f19 : Fun K "check_sure" "check_sure" sCheckS _ fd19 := He5.fun_of F19
  have f20 : Fun K "key_of" "key_of" sKeyOf _ fd20 := He5.fun_of F20
  have f21 : Fun K "telling_row" "telling_row" sTelRow _ fd21 := He5.fun_of F21
  have f22 : Fun K "__init__" "Gathering.__init__" sGInit _ fd22 := He5.fun_of F22
  have f23 : Fun K "place_of" "Gathering.place_of" sGPlace _ fd23 := He5.fun_of F23
  have f24 : FunP K _ fd24 := F24
  have f25 : FunS K _ fd25 := F25
  have f26 : Fun K "back" "Gathering.back" sGBack _ fd26 := He5.fun_of F26
  have f27 : Fun K "settle" "Gathering.settle" sSettle _ fd27 := He5.fun_of F27
  have f28 : FunT K _ fd28 := F28
  have f29 : Fun K "things" "Gathering.things" sGThings _ fd29 := He5.fun_of F29
  have f30 : Fun K "gatherers" "Gathering.gatherers" sGGathers _ fd30 := He5.fun_of F30
  have f31 : Fun K "__eq__" "Gathering.__eq__" sGEq _ fd31 := He5.fun_of F31
  have f32 : Fun K "__len__" "Gathering.__len__" sGLen _ fd32 := He5.fun_of F32
  have f33 : Fun K "__str__" "Gathering.__str__" sGStr _ fd33 := He5.fun_of F33
  have f34 : Fun K "__repr__" "Gathering.__repr__" sGRepr _ fd34 := He5.fun_of F34
  have f35 : Fun K "check_gathering" "check_gathering" sCheckG _ fd35 := He5.fun_of F35
  have f36 : Fun K "text_rows" "text_rows" sTextRows _ fd36 := He5.fun_of F36
  have f37 : Fun K "read_parts" "read_parts" sReadParts _ fd37 := He5.fun_of F37
  have f38 : Fun K "fits_behind" "fits_behind" sFits _ fd38 := He5.fun_of F38
  have f39 : Fun K "land_of_rows" "land_of_rows" sLandOf _ fd39 := He5.fun_of F39
  have f40 : Fun K "show_gathering" "show_gathering" sShowG _ fd40 := He5.fun_of F40
  have f41 : Fun K "is_number" "is_number" sIsN _ fd41 := He5.fun_of F41
  have f42 : Fun K "put_row" "put_row" sPutRow _ fd42 := He5.fun_of F42
  have f43 : Fun K "read_gathering" "read_gathering" sRead _ fd43 := He5.fun_of F43
  have f44 : Fun K "_law_cell" "_law_cell" sCell _ fd44 := He5.fun_of F44
  have f45 : Fun K "_law_purse" "_law_purse" sPurse _ fd45 := He5.fun_of F45
  have f46 : Fun K "_law_pick" "_law_pick" sPick _ fd46 := He5.fun_of F46
  have f47 : Fun K "_law_menu" "_law_menu" sMenu _ fd47 := He5.fun_of F47
  have f48 : Fun K "_law_word" "_law_word" sWord _ fd48 := He5.fun_of F48
  have f49 : Fun K "_law_fresh" "_law_fresh" sFresh _ fd49 := He5.fun_of F49
  have f50 : Fun K "_law_land" "_law_land" sLand _ fd50 := He5.fun_of F50
  have f51 : Fun K "_law_names" "_law_names" sNames _ fd51 := He5.fun_of F51
  have f52 : Fun K "_law_told_row" "_law_told_row" sToldRow _ fd52 := He5.fun_of F52
  have f53 : Fun K "_law_told_rows" "_law_told_rows" sToldRows _ fd53 := He5.fun_of F53
  have f54 : Fun K "_law_land_text" "_law_land_text" sText _ fd54 := He5.fun_of F54
  have f55 : Fun K "_law_row_text" "_law_row_text" sRowText _ fd55 := He5.fun_of F55
  have f56 : Fun K "_law_text" "_law_text" sGText _ fd56 := He5.fun_of F56
  have f57 : Fun K "_law_put" "_law_put" sPutL _ fd57 := He5.fun_of F57
  have f58 : Fun K "_law_moved" "_law_moved" sMoved _ fd58 := He5.fun_of F58
  have f59 : Fun K "_law_no_back" "_law_no_back" sNoBack _ fd59 := He5.fun_of F59
  have f60 : Fun K "_law_put_told" "_law_put_told" sPutTold _ fd60 := He5.fun_of F60
  have f61 : Fun K "_law_is" "_law_is" sIs _ fd61 := He5.fun_of F61
  have f62 : Fun K "_law_goes_on" "_law_goes_on" sGoes _ fd62 := He5.fun_of F62
  have f63 : Fun K "law" "law" sLaw _ fd63 := He5.fun_of F63
  refine ⟨fd63, fun s v => ?_, fun base _ _ => ?_⟩
  · obtain ⟨oc, od, kV, doc, pm, an, cdv, ct, osl, e, l, c⟩ := f63.ex
    subst e
    exact .of_eq rfl
  have hrepr : mg "repr" = none := He.free_ok X G (c.fact 82 (f := .free "repr") rfl)
  have hset : mg "set" = none := He.free_ok X G (c.fact 83 (f := .free "set") rfl)
  have hlk : ∃ t, mg "LAKE" = some (.str "-" t) := He.str_ok X G (c.fact 78 (f := .str "LAKE" "-") rfl)
  have hfig : ∃ t, mg "FIGURES" = some (.str "0123456789" t) := He.str_ok X G (c.fact 79 (f := .str "FIGURES" "0123456789") rfl)
  have hmost : ∃ t, mg "MOST_FIGURES" = some (.int 9 t) := He.int_ok X G (c.fact 80 (f := .int "MOST_FIGURES" 9) rfl)
  have B2 : Bg mg := ⟨He.free_ok X G (c.fact 81 (f := .free "bool") rfl), He.int_ok X G (c.fact 74 (f := .int "OLDEST" 120) rfl), He.int_ok X G (c.fact 75 (f := .int "MOST_TELLINGS" 200) rfl), He.str_ok X G (c.fact 76 (f := .str "DOT" ".") rfl), He.str_ok X G (c.fact 77 (f := .str "DOUBT" "?") rfl)⟩
  have Gk' : Gk mg := ⟨He.str_ok X G (c.fact 70 (f := .str "LETTERS" "abcdefghijklmnopqrstuvwxyz") rfl), He.int_ok X G (c.fact 71 (f := .int "LONGEST_WORD" 8) rfl), He.int_ok X G (c.fact 72 (f := .int "MOST_ROWS" 6) rfl), He.int_ok X G (c.fact 73 (f := .int "MOST_COLUMNS" 6) rfl)⟩
  have T : Txt K mg (He.ga K "Land") := ⟨He.cls_ok (c.fact 85 (f := .cls "Land") rfl), He.noat_ok (c.fact 87 (f := .noat "Land" "spots") rfl), He.noat_ok (c.fact 88 (f := .noat "Land" "rows") rfl), He.glo_ok X G (c.fact 20 (f := .glo "Land") rfl)⟩
  have TG : TxtG K mg (He.ga K "Gathering") := ⟨He.cls_ok (c.fact 89 (f := .cls "Gathering") rfl), He.noat_ok (c.fact 91 (f := .noat "Gathering" "land") rfl), He.noat_ok (c.fact 92 (f := .noat "Gathering" "told") rfl), He.noat_ok (c.fact 93 (f := .noat "Gathering" "deeds") rfl), He.glo_ok X G (c.fact 28 (f := .glo "Gathering") rfl)⟩
  unfold exT at cx
  rw [Bool.and_eq_true] at cx
  obtain ⟨cx, cz⟩ := cx
  unfold exT0 exC at cx
  simp only [Bool.and_eq_true] at cx
  obtain ⟨e2, e3, ⟨a1, a2, a3⟩, ⟨b1, b2, b3⟩, e6, e7⟩ := cx
  have T2 : Txt2 K mg (He.ga K "Land") := ⟨T, ⟨T.cl, He.eqO_ok a1, He.eqO_ok e2, of_decide_eq_true e3, of_decide_eq_true a2, of_decide_eq_true a3⟩, ⟨He.eqO_ok e6, of_decide_eq_true a2⟩⟩
  have insD : C8.InsC K (He.ga K "Gathering") := ⟨TG.cl, He.eqO_ok b1, He.eqO_ok e2, of_decide_eq_true e3, of_decide_eq_true b2, of_decide_eq_true b3⟩
  have NeD : NeC K (He.ga K "Gathering") := ⟨He.eqO_ok e7, of_decide_eq_true b2⟩
  unfold exX at cz
  simp only [Bool.and_eq_true] at cz
  obtain ⟨x0, x1, x2, x3, x4, x5, x6, x7, x8, x9, x10, x11, x12, x13⟩ := cz
  have ENoWord := errS_ok (mg := mg) (C := He.ga K "NoWord") (f := "word") (n := 0) x0
  have ENoAge := errS_ok (mg := mg) (C := He.ga K "NoAge") (f := "age") (n := 3) x1
  have ENoSure := errS_ok (mg := mg) (C := He.ga K "NoSure") (f := "sure") (n := 4) x2
  have ENoName := errS_ok (mg := mg) (C := He.ga K "NoName") (f := "name") (n := 10) x3
  have ETold := errS_ok (mg := mg) (C := He.ga K "Told") (f := "key") (n := 15) x4
  have EFull := errS_ok (mg := mg) (C := He.ga K "Full") (f := "many") (n := 16) x5
  have ENoBack := errSN_ok (mg := mg) (C := He.ga K "NoBack") (n := 14) x6
  have TNoBack : OwnN K mg "NoBack" (He.ga K "NoBack") := ENoBack.2 (He.glo_ok X G (c.fact 84 (f := .glo "NoBack") rfl))
  have NKD : NoKind K (He.ga K "Gathering") := ⟨of_decide_eq_true x7, of_decide_eq_true x8, of_decide_eq_true x9, of_decide_eq_true x10, of_decide_eq_true x11, of_decide_eq_true x12, of_decide_eq_true x13⟩
  have emB := He.exm_ok (c.fact 94 (f := .exm "NoBack" "NoBack" true) rfl)
  have emTT := He.exm_ok (c.fact 95 (f := .exm "Told" "Told" true) rfl)
  have emFT := He.exm_ok (c.fact 96 (f := .exm "Full" "Told" false) rfl)
  have emFF := He.exm_ok (c.fact 97 (f := .exm "Full" "Full" true) rfl)
  have TNoWord : OwnX K mg "NoWord" "word" (He.ga K "NoWord") := ENoWord.2 (He.glo_ok X G (c.fact 0 (f := .glo "NoWord") rfl)) (He.meth_ok (c.fact 1 (f := .meth "NoWord" "__init__") rfl)) f0 (f0.binds fun _ _ _ _ _ _ us hl => match us, hl with | [_, _], _ => rfl) ⟨rfl, rfl, rfl, by decide +kernel, rfl, by decide +kernel, by decide +kernel⟩ (by decide +kernel) rfl
  have TNoAge : OwnX K mg "NoAge" "age" (He.ga K "NoAge") := ENoAge.2 (He.glo_ok X G (c.fact 2 (f := .glo "NoAge") rfl)) (He.meth_ok (c.fact 3 (f := .meth "NoAge" "__init__") rfl)) f1 (f1.binds fun _ _ _ _ _ _ us hl => match us, hl with | [_, _], _ => rfl) ⟨rfl, rfl, rfl, by decide +kernel, rfl, by decide +kernel, by decide +kernel⟩ (by decide +kernel) rfl
  have TNoSure : OwnX K mg "NoSure" "sure" (He.ga K "NoSure") := ENoSure.2 (He.glo_ok X G (c.fact 4 (f := .glo "NoSure") rfl)) (He.meth_ok (c.fact 5 (f := .meth "NoSure" "__init__") rfl)) f2 (f2.binds fun _ _ _ _ _ _ us hl => match us, hl with | [_, _], _ => rfl) ⟨rfl, rfl, rfl, by decide +kernel, rfl, by decide +kernel, by decide +kernel⟩ (by decide +kernel) rfl
  have TNoName : OwnX K mg "NoName" "name" (He.ga K "NoName") := ENoName.2 (He.glo_ok X G (c.fact 6 (f := .glo "NoName") rfl)) (He.meth_ok (c.fact 7 (f := .meth "NoName" "__init__") rfl)) f3 (f3.binds fun _ _ _ _ _ _ us hl => match us, hl with | [_, _], _ => rfl) ⟨rfl, rfl, rfl, by decide +kernel, rfl, by decide +kernel, by decide +kernel⟩ (by decide +kernel) rfl
  have TTold : OwnX K mg "Told" "key" (He.ga K "Told") := ETold.2 (He.glo_ok X G (c.fact 8 (f := .glo "Told") rfl)) (He.meth_ok (c.fact 9 (f := .meth "Told" "__init__") rfl)) f4 (f4.binds fun _ _ _ _ _ _ us hl => match us, hl with | [_, _], _ => rfl) ⟨rfl, rfl, rfl, by decide +kernel, rfl, by decide +kernel, by decide +kernel⟩ (by decide +kernel) rfl
  have TFull : OwnX K mg "Full" "many" (He.ga K "Full") := EFull.2 (He.glo_ok X G (c.fact 10 (f := .glo "Full") rfl)) (He.meth_ok (c.fact 11 (f := .meth "Full" "__init__") rfl)) f5 (f5.binds fun _ _ _ _ _ _ us hl => match us, hl with | [_, _], _ => rfl) ⟨rfl, rfl, rfl, by decide +kernel, rfl, by decide +kernel, by decide +kernel⟩ (by decide +kernel) rfl
  have h_is_whole : Has P w K mg base "is_whole" 1 ["thing"] spIsWhole := ⟨_, fd6, ok_iswhole f6 B B2, He.glo_ok X G (c.fact 12 (f := .glo "is_whole") rfl), f6.kp, f6.binds fun _ _ _ _ _ _ us hl => match us, hl with | [_], _ => rfl⟩
  have hO_is_whole : Has P w K mg base "is_whole" 1 ["thing"] spIsWholeO := ⟨_, fd6, ok_iswholeO f6 B B2, (He.glo_ok X G (c.fact 12 (f := .glo "is_whole") rfl)), f6.kp, (f6.binds fun _ _ _ _ _ _ us hl => match us, hl with | [_], _ => rfl)⟩
  have h_is_number_from : Has P w K mg base "is_number_from" 2 ["thing", "least", "most"] spIsNum := ⟨_, fd7, ok_isnum f7 h_is_whole, He.glo_ok X G (c.fact 13 (f := .glo "is_number_from") rfl), f7.kp, f7.binds fun _ _ _ _ _ _ us hl => match us, hl with | [_, _, _], _ => rfl⟩
  have hO_is_num : Has P w K mg base "is_number_from" 2 ["thing", "least", "most"] spIsNumO := ⟨_, fd7, ok_isnumO f7 hO_is_whole, (He.glo_ok X G (c.fact 13 (f := .glo "is_number_from") rfl)), f7.kp, (f7.binds fun _ _ _ _ _ _ us hl => match us, hl with | [_, _, _], _ => rfl)⟩
  have h_is_word : Has P w K mg base "is_word" 1 ["thing"] spIsWord := ⟨_, fd8, ok_isword f8 B Gk', He.glo_ok X G (c.fact 14 (f := .glo "is_word") rfl), f8.kp, f8.binds fun _ _ _ _ _ _ us hl => match us, hl with | [_], _ => rfl⟩
  have hI_is_word : Has P w K mg base "is_word" 1 ["thing"] (spIsW K) := ⟨_, fd8, ok_isw f8 B Gk', (He.glo_ok X G (c.fact 14 (f := .glo "is_word") rfl)), f8.kp, (f8.binds fun _ _ _ _ _ _ us hl => match us, hl with | [_], _ => rfl)⟩
  have h_check_word : Has P w K mg base "check_word" 2 ["word"] spCheckW := ⟨_, fd9, ok_checkw f9 h_is_word, He.glo_ok X G (c.fact 15 (f := .glo "check_word") rfl), f9.kp, f9.binds fun _ _ _ _ _ _ us hl => match us, hl with | [_], _ => rfl⟩
  have hX_check_word : HasX P w K mg base "check_word" 2 ["word"] (spWordA (He.ga K "NoWord")) := ⟨_, fd9, ok_wordA f9 TNoWord hI_is_word, (He.glo_ok X G (c.fact 15 (f := .glo "check_word") rfl)), f9.kp, (f9.binds fun _ _ _ _ _ _ us hl => match us, hl with | [_], _ => rfl)⟩
  have h_are_rows : Has P w K mg base "are_rows" 1 ["thing"] spAreRows := ⟨_, fd10, ok_arerows f10 B Gk', He.glo_ok X G (c.fact 16 (f := .glo "are_rows") rfl), f10.kp, f10.binds fun _ _ _ _ _ _ us hl => match us, hl with | [_], _ => rfl⟩
  have h_wrong_spot : Has P w K mg base "wrong_spot" 2 ["rows"] spWrong := ⟨_, fd11, ok_wrong f11 B h_is_word, He.glo_ok X G (c.fact 17 (f := .glo "wrong_spot") rfl), f11.kp, f11.binds fun _ _ _ _ _ _ us hl => match us, hl with | [_], _ => rfl⟩
  have h_spots_in : Has P w K mg base "spots_in" 1 ["rows"] spSpotsIn := ⟨_, fd12, ok_spotsin f12 B, He.glo_ok X G (c.fact 18 (f := .glo "spots_in") rfl), f12.kp, f12.binds fun _ _ _ _ _ _ us hl => match us, hl with | [_], _ => rfl⟩
  have h_checked_spots : Has P w K mg base "checked_spots" 3 ["rows"] spSpots := ⟨_, fd13, ok_spots f13 h_are_rows h_wrong_spot h_spots_in, He.glo_ok X G (c.fact 19 (f := .glo "checked_spots") rfl), f13.kp, f13.binds fun _ _ _ _ _ _ us hl => match us, hl with | [_], _ => rfl⟩
  have h_Land__init__ : HasI P w K mg base (He.ga K "Land") := ⟨_, fd14, He.mkr_ok (c.fact 86 (f := .mkr "Land") rfl), ok_init f14 T h_checked_spots, (f14.binds fun _ _ _ _ _ _ us hl => match us, hl with | [_, _], _ => rfl)⟩
  have h_check_name : HasM P w K mg base (He.ga K "Land") "check_name" 2 ["self", "name"] (spCheck (He.ga K "Land")) := ⟨_, fd15, ok_check f15 T h_is_word, He.meth_ok (c.fact 21 (f := .meth "Land" "check_name") rfl), f15.binds fun _ _ _ _ _ _ us hl => match us, hl with | [_, _], _ => rfl⟩
  have hX_check_name : HasMX P w K mg base (He.ga K "Land") "check_name" 2 ["self", "name"] (spNameA (He.ga K "Land") (He.ga K "NoName")) := ⟨_, fd15, ok_nameA f15 T TNoName hI_is_word, (He.meth_ok (c.fact 21 (f := .meth "Land" "check_name") rfl)), (f15.binds fun _ _ _ _ _ _ us hl => match us, hl with | [_, _], _ => rfl)⟩
  have h_Land__eq__ : HasM P w K mg base (He.ga K "Land") "__eq__" 1 ["self", "other"] (spLEq (He.ga K "Land")) := ⟨_, fd16, ok_leq f16 B T2, He.meth_ok (c.fact 22 (f := .meth "Land" "__eq__") rfl), f16.binds fun _ _ _ _ _ _ us hl => match us, hl with | [_, _], _ => rfl⟩
  have h_Land__str__ : HasM P w K mg base (He.ga K "Land") "__str__" 1 ["self"] (spLStr (He.ga K "Land")) := ⟨_, fd17, ok_lstr f17 T hlk, He.meth_ok (c.fact 23 (f := .meth "Land" "__str__") rfl), f17.binds fun _ _ _ _ _ _ us hl => match us, hl with | [_], _ => rfl⟩
  have h_check_age : Has P w K mg base "check_age" 3 ["age"] spCheckA := ⟨_, fd18, ok_checka f18 B2 h_is_number_from, He.glo_ok X G (c.fact 24 (f := .glo "check_age") rfl), f18.kp, f18.binds fun _ _ _ _ _ _ us hl => match us, hl with | [_], _ => rfl⟩
  have hX_check_age : HasX P w K mg base "check_age" 3 ["age"] (spAgeA (He.ga K "NoAge")) := ⟨_, fd18, ok_ageA f18 TNoAge B2 hO_is_num, (He.glo_ok X G (c.fact 24 (f := .glo "check_age") rfl)), f18.kp, (f18.binds fun _ _ _ _ _ _ us hl => match us, hl with | [_], _ => rfl)⟩
  have h_check_sure : Has P w K mg base "check_sure" 1 ["sure"] spCheckS := ⟨_, fd19, ok_checks f19 B B2, He.glo_ok X G (c.fact 25 (f := .glo "check_sure") rfl), f19.kp, f19.binds fun _ _ _ _ _ _ us hl => match us, hl with | [_], _ => rfl⟩
  have hX_check_sure : HasX P w K mg base "check_sure" 1 ["sure"] (spSureA (He.ga K "NoSure")) := ⟨_, fd19, ok_sureA f19 B B2 TNoSure, (He.glo_ok X G (c.fact 25 (f := .glo "check_sure") rfl)), f19.kp, (f19.binds fun _ _ _ _ _ _ us hl => match us, hl with | [_], _ => rfl)⟩
  have h_key_of : Has P w K mg base "key_of" 1 ["telling"] spKeyOf := ⟨_, fd20, ok_keyof f20, He.glo_ok X G (c.fact 26 (f := .glo "key_of") rfl), f20.kp, f20.binds fun _ _ _ _ _ _ us hl => match us, hl with | [_], _ => rfl⟩
  have h_telling_row : Has P w K mg base "telling_row" 1 ["telling"] spTelRow := ⟨_, fd21, ok_telrow f21 B B2, He.glo_ok X G (c.fact 27 (f := .glo "telling_row") rfl), f21.kp, f21.binds fun _ _ _ _ _ _ us hl => match us, hl with | [_], _ => rfl⟩
  have h_Gathering__init__ : HasG P w K mg base (He.ga K "Land") (He.ga K "Gathering") := ⟨_, fd22, He.mkr_ok (c.fact 90 (f := .mkr "Gathering") rfl), ok_ginit f22 B T2 TG, (f22.binds fun _ _ _ _ _ _ us hl => match us, hl with | [_, _], _ => rfl)⟩
  have h_place_of : HasM P w K mg base (He.ga K "Gathering") "place_of" 2 ["self", "key"] (spGPlace (He.ga K "Land") (He.ga K "Gathering")) := ⟨_, fd23, ok_gplace f23 B TG h_key_of, He.meth_ok (c.fact 29 (f := .meth "Gathering" "place_of") rfl), f23.binds fun _ _ _ _ _ _ us hl => match us, hl with | [_, _], _ => rfl⟩
  have h_put : HasPe P w K mg base (He.ga K "Land") (He.ga K "Gathering") := ⟨_, fd24, ok_put f24 B B2 T TG h_check_name h_check_word h_check_age h_check_sure h_place_of, He.meth_ok (c.fact 30 (f := .meth "Gathering" "put") rfl), f24⟩
  have hA_put : HasPA P w K mg base (⟨(He.ga K "NoName"), (He.ga K "NoWord"), (He.ga K "NoAge"), (He.ga K "NoSure"), (He.ga K "Told"), (He.ga K "Full")⟩ : XA) (He.ga K "Land") (He.ga K "Gathering") := ⟨_, fd24, ok_putA (x := (⟨(He.ga K "NoName"), (He.ga K "NoWord"), (He.ga K "NoAge"), (He.ga K "NoSure"), (He.ga K "Told"), (He.ga K "Full")⟩ : XA)) f24 B B2 T TG TTold TFull hX_check_name hX_check_word hX_check_age hX_check_sure h_place_of, (He.meth_ok (c.fact 30 (f := .meth "Gathering" "put") rfl)), f24⟩
  have h_strike : HasSe P w K mg base (He.ga K "Land") (He.ga K "Gathering") := ⟨_, fd25, ok_strike f25 B TG h_is_word h_place_of, He.meth_ok (c.fact 31 (f := .meth "Gathering" "strike") rfl), f25⟩
  have h_back : HasM P w K mg base (He.ga K "Gathering") "back" 1 ["self"] (spBack (He.ga K "Land") (He.ga K "Gathering")) := ⟨_, fd26, ok_back f26 TG, He.meth_ok (c.fact 32 (f := .meth "Gathering" "back") rfl), f26.binds fun _ _ _ _ _ _ us hl => match us, hl with | [_], _ => rfl⟩
  have hX_back : HasMX P w K mg base (He.ga K "Gathering") "back" 1 ["self"] (spBackX (He.ga K "NoBack") (He.ga K "Land") (He.ga K "Gathering")) := ⟨_, fd26, FnOk_xor (ok_back f26 TG) (ok_backR f26 TG TNoBack), (He.meth_ok (c.fact 32 (f := .meth "Gathering" "back") rfl)), (f26.binds fun _ _ _ _ _ _ us hl => match us, hl with | [_], _ => rfl)⟩
  have h_settle : HasM P w K mg base (He.ga K "Gathering") "settle" 1 ["self"] (spSettle (He.ga K "Land") (He.ga K "Gathering")) := ⟨_, fd27, ok_settle f27 TG, He.meth_ok (c.fact 33 (f := .meth "Gathering" "settle") rfl), f27.binds fun _ _ _ _ _ _ us hl => match us, hl with | [_], _ => rfl⟩
  have h_tellings : HasTl P w K mg base (He.ga K "Land") (He.ga K "Gathering") := ⟨_, fd28, ok_tell f28 B TG, He.meth_ok (c.fact 34 (f := .meth "Gathering" "tellings") rfl), f28⟩
  have h_things : HasM P w K mg base (He.ga K "Gathering") "things" 1 ["self"] (spThings (He.ga K "Land") (He.ga K "Gathering")) := ⟨_, fd29, ok_things f29 B TG, He.meth_ok (c.fact 35 (f := .meth "Gathering" "things") rfl), f29.binds fun _ _ _ _ _ _ us hl => match us, hl with | [_], _ => rfl⟩
  have h_gatherers : HasM P w K mg base (He.ga K "Gathering") "gatherers" 1 ["self"] (spGathers (He.ga K "Land") (He.ga K "Gathering")) := ⟨_, fd30, ok_gatherers f30 B TG, He.meth_ok (c.fact 36 (f := .meth "Gathering" "gatherers") rfl), f30.binds fun _ _ _ _ _ _ us hl => match us, hl with | [_], _ => rfl⟩
  have h_Gathering__eq__ : HasM P w K mg base (He.ga K "Gathering") "__eq__" 3 ["self", "other"] (spGEq (He.ga K "Land") (He.ga K "Gathering")) := ⟨_, fd31, ok_geq f31 B TG insD h_Land__eq__, He.meth_ok (c.fact 37 (f := .meth "Gathering" "__eq__") rfl), f31.binds fun _ _ _ _ _ _ us hl => match us, hl with | [_, _], _ => rfl⟩
  have h_Gathering__len__ : HasM P w K mg base (He.ga K "Gathering") "__len__" 1 ["self"] (spGLen (He.ga K "Land") (He.ga K "Gathering")) := ⟨_, fd32, ok_glen f32 B TG, He.meth_ok (c.fact 38 (f := .meth "Gathering" "__len__") rfl), f32.binds fun _ _ _ _ _ _ us hl => match us, hl with | [_], _ => rfl⟩
  have h_Gathering__str__ : HasM P w K mg base (He.ga K "Gathering") "__str__" 4 ["self"] (spGStr (He.ga K "Land") (He.ga K "Gathering")) := ⟨_, fd33, ok_gstr f33 B B2 TG h_Land__str__ h_telling_row, He.meth_ok (c.fact 39 (f := .meth "Gathering" "__str__") rfl), f33.binds fun _ _ _ _ _ _ us hl => match us, hl with | [_], _ => rfl⟩
  have h_Gathering__repr__ : HasM P w K mg base (He.ga K "Gathering") "__repr__" 1 ["self"] (spGRepr (He.ga K "Land") (He.ga K "Gathering")) := ⟨_, fd34, ok_grepr f34 B TG, He.meth_ok (c.fact 40 (f := .meth "Gathering" "__repr__") rfl), f34.binds fun _ _ _ _ _ _ us hl => match us, hl with | [_], _ => rfl⟩
  have h_check_gathering : Has P w K mg base "check_gathering" 1 ["thing"] (spCheckG (He.ga K "Land") (He.ga K "Gathering")) := ⟨_, fd35, ok_checkg f35 B TG insD, He.glo_ok X G (c.fact 41 (f := .glo "check_gathering") rfl), f35.kp, f35.binds fun _ _ _ _ _ _ us hl => match us, hl with | [_], _ => rfl⟩
  have h_text_rows : Has P w K mg base "text_rows" 1 ["text"] spTextRowsB := ⟨_, fd36, ok_textrowsB f36 B, He.glo_ok X G (c.fact 42 (f := .glo "text_rows") rfl), f36.kp, f36.binds fun _ _ _ _ _ _ us hl => match us, hl with | [_], _ => rfl⟩
  have h_read_parts : Has P w K mg base "read_parts" 2 ["row"] spReadParts := ⟨_, fd37, ok_readparts f37 B Gk' hlk h_is_word, He.glo_ok X G (c.fact 43 (f := .glo "read_parts") rfl), f37.kp, f37.binds fun _ _ _ _ _ _ us hl => match us, hl with | [_], _ => rfl⟩
  have h_fits_behind : Has P w K mg base "fits_behind" 1 ["parts", "ahead"] spFits := ⟨_, fd38, ok_fits f38 B Gk' hset, He.glo_ok X G (c.fact 44 (f := .glo "fits_behind") rfl), f38.kp, f38.binds fun _ _ _ _ _ _ us hl => match us, hl with | [_, _], _ => rfl⟩
  have h_land_of_rows : Has P w K mg base "land_of_rows" 6 ["rows"] (spLandOf (He.ga K "Land")) := ⟨_, fd39, ok_landof f39 B T h_read_parts h_fits_behind h_Land__init__, He.glo_ok X G (c.fact 45 (f := .glo "land_of_rows") rfl), f39.kp, f39.binds fun _ _ _ _ _ _ us hl => match us, hl with | [_], _ => rfl⟩
  have h_show_gathering : HasSh P w K mg base (He.ga K "Land") (He.ga K "Gathering") := ⟨_, fd40, ok_showg f40 B h_check_gathering h_Gathering__str__, He.glo_ok X G (c.fact 46 (f := .glo "show_gathering") rfl), f40, f40.binds fun _ _ _ _ _ _ us hl => match us, hl with | [_], _ => rfl⟩
  have h_is_number : Has P w K mg base "is_number" 1 ["text"] spIsN := ⟨_, fd41, ok_isn f41 B hfig hmost, He.glo_ok X G (c.fact 47 (f := .glo "is_number") rfl), f41.kp, f41.binds fun _ _ _ _ _ _ us hl => match us, hl with | [_], _ => rfl⟩
  have h_put_row : Has P w K mg base "put_row" 5 ["gathering", "row", "at"] (spPutRow (He.ga K "Land") (He.ga K "Gathering")) := ⟨_, fd42, ok_putrow f42 B B2 TG h_is_number h_put, He.glo_ok X G (c.fact 48 (f := .glo "put_row") rfl), f42.kp, f42.binds fun _ _ _ _ _ _ us hl => match us, hl with | [_, _, _], _ => rfl⟩
  have h_read_gathering : HasRd P w K mg base (He.ga K "Land") (He.ga K "Gathering") := ⟨_, fd43, ok_read f43 B B2 TG h_text_rows h_land_of_rows h_Gathering__init__ h_put_row h_settle, He.glo_ok X G (c.fact 49 (f := .glo "read_gathering") rfl), f43, f43.binds fun _ _ _ _ _ _ us hl => match us, hl with | [_], _ => rfl⟩
  have h__law_cell : Has P w K mg base "_law_cell" 1 ["_law_script", "_law_k"] (spCell K) := ⟨_, fd44, ok_cell f44 B, He.glo_ok X G (c.fact 50 (f := .glo "_law_cell") rfl), f44.kp, f44.binds fun _ _ _ _ _ _ us hl => match us, hl with | [_, _], _ => rfl⟩
  have h__law_purse : Has P w K mg base "_law_purse" 1 ["_law_cell_here"] spPurse := ⟨_, fd45, ok_purse f45 B, He.glo_ok X G (c.fact 51 (f := .glo "_law_purse") rfl), f45.kp, f45.binds fun _ _ _ _ _ _ us hl => match us, hl with | [_], _ => rfl⟩
  have h__law_pick : Has P w K mg base "_law_pick" 1 ["_law_purse_here", "_law_many"] spPick := ⟨_, fd46, ok_pick f46, He.glo_ok X G (c.fact 52 (f := .glo "_law_pick") rfl), f46.kp, f46.binds fun _ _ _ _ _ _ us hl => match us, hl with | [_, _], _ => rfl⟩
  have h__law_menu : Has P w K mg base "_law_menu" 1 [] spMenu := ⟨_, fd47, ok_menu f47, He.glo_ok X G (c.fact 53 (f := .glo "_law_menu") rfl), f47.kp, f47.binds fun _ _ _ _ _ _ us hl => match us, hl with | [], _ => rfl⟩
  have h__law_word : Has P w K mg base "_law_word" 2 ["_law_purse_here"] spWord := ⟨_, fd48, ok_word f48 B h__law_pick h__law_menu, He.glo_ok X G (c.fact 54 (f := .glo "_law_word") rfl), f48.kp, f48.binds fun _ _ _ _ _ _ us hl => match us, hl with | [_], _ => rfl⟩
  have h__law_fresh : Has P w K mg base "_law_fresh" 3 ["_law_purse_here", "_law_used"] spFresh := ⟨_, fd49, ok_fresh f49 B h__law_word, He.glo_ok X G (c.fact 55 (f := .glo "_law_fresh") rfl), f49.kp, f49.binds fun _ _ _ _ _ _ us hl => match us, hl with | [_, _], _ => rfl⟩
  have h__law_land : Has P w K mg base "_law_land" 4 ["_law_purse_here", "_law_most"] spLand := ⟨_, fd50, ok_land f50 B h__law_pick h__law_fresh, He.glo_ok X G (c.fact 56 (f := .glo "_law_land") rfl), f50.kp, f50.binds fun _ _ _ _ _ _ us hl => match us, hl with | [_, _], _ => rfl⟩
  have h__law_names : Has P w K mg base "_law_names" 1 ["_law_rows"] spNames := ⟨_, fd51, ok_names f51 B, He.glo_ok X G (c.fact 57 (f := .glo "_law_names") rfl), f51.kp, f51.binds fun _ _ _ _ _ _ us hl => match us, hl with | [_], _ => rfl⟩
  have h__law_told_row : Has P w K mg base "_law_told_row" 3 ["_law_purse_here", "_law_names_here", "_law_known"] spToldRow := ⟨_, fd52, ok_toldrow f52 B h__law_pick h__law_word, He.glo_ok X G (c.fact 58 (f := .glo "_law_told_row") rfl), f52.kp, f52.binds fun _ _ _ _ _ _ us hl => match us, hl with | [_, _, _], _ => rfl⟩
  have h__law_told_rows : Has P w K mg base "_law_told_rows" 4 ["_law_purse_here", "_law_names_here", "_law_many"] spToldRows := ⟨_, fd53, ok_toldrows f53 B h__law_told_row, He.glo_ok X G (c.fact 59 (f := .glo "_law_told_rows") rfl), f53.kp, f53.binds fun _ _ _ _ _ _ us hl => match us, hl with | [_, _, _], _ => rfl⟩
  have h__law_land_text : Has P w K mg base "_law_land_text" 1 ["_law_rows"] spText := ⟨_, fd54, ok_text f54, He.glo_ok X G (c.fact 60 (f := .glo "_law_land_text") rfl), f54.kp, f54.binds fun _ _ _ _ _ _ us hl => match us, hl with | [_], _ => rfl⟩
  have h__law_row_text : Has P w K mg base "_law_row_text" 1 ["_law_row"] spRowText := ⟨_, fd55, ok_rowtext f55 B, He.glo_ok X G (c.fact 61 (f := .glo "_law_row_text") rfl), f55.kp, f55.binds fun _ _ _ _ _ _ us hl => match us, hl with | [_], _ => rfl⟩
  have h__law_text : Has P w K mg base "_law_text" 2 ["_law_rows", "_law_lot"] spGText := ⟨_, fd56, ok_gtext f56 h__law_land_text h__law_row_text, He.glo_ok X G (c.fact 62 (f := .glo "_law_text") rfl), f56.kp, f56.binds fun _ _ _ _ _ _ us hl => match us, hl with | [_, _], _ => rfl⟩
  have h__law_put : Has P w K mg base "_law_put" 5 ["_law_kept", "_law_row"] (spPutL (He.ga K "Land") (He.ga K "Gathering")) := ⟨_, fd57, ok_putl f57 TG h_put, He.glo_ok X G (c.fact 63 (f := .glo "_law_put") rfl), f57.kp, f57.binds fun _ _ _ _ _ _ us hl => match us, hl with | [_, _], _ => rfl⟩
  have h__law_moved : Has P w K mg base "_law_moved" 4 ["_law_purse_here", "_law_kept", "_law_lot"] (spMoved (He.ga K "Land") (He.ga K "Gathering")) := ⟨_, fd58, ok_moved f58 B TG h__law_pick h_strike h_back, He.glo_ok X G (c.fact 64 (f := .glo "_law_moved") rfl), f58.kp, f58.binds fun _ _ _ _ _ _ us hl => match us, hl with | [_, _, _], _ => rfl⟩
  have h__law_no_back : Has P w K mg base "_law_no_back" 2 ["_law_kept"] (spNoBack (He.ga K "Land") (He.ga K "Gathering")) := ⟨_, fd59, ok_noback f59 TG TNoBack emB hX_back, He.glo_ok X G (c.fact 65 (f := .glo "_law_no_back") rfl), f59.kp, f59.binds fun _ _ _ _ _ _ us hl => match us, hl with | [_], _ => rfl⟩
  have h__law_put_told : Has P w K mg base "_law_put_told" 5 ["_law_kept", "_law_row"] (spPutT (He.ga K "Land") (He.ga K "Gathering")) := ⟨_, fd60, ok_putt (x := (⟨(He.ga K "NoName"), (He.ga K "NoWord"), (He.ga K "NoAge"), (He.ga K "NoSure"), (He.ga K "Told"), (He.ga K "Full")⟩ : XA)) f60 TG TTold TFull ETold.1.2 EFull.1.2 emTT emFT emFF hA_put, He.glo_ok X G (c.fact 66 (f := .glo "_law_put_told") rfl), f60.kp, f60.binds fun _ _ _ _ _ _ us hl => match us, hl with | [_, _], _ => rfl⟩
  have h__law_is : Has P w K mg base "_law_is" 8 ["_law_kept", "_law_rows", "_law_lot"] (spIs (He.ga K "Land") (He.ga K "Gathering")) := ⟨_, fd61, ok_is f61 B B2 hrepr hset T2 TG insD h_Land__init__ h_Land__eq__ h_tellings h_things h_gatherers h_Gathering__str__ h_Gathering__repr__ h_Gathering__len__ h_show_gathering h__law_text, He.glo_ok X G (c.fact 67 (f := .glo "_law_is") rfl), f61.kp, f61.binds fun _ _ _ _ _ _ us hl => match us, hl with | [_, _, _], _ => rfl⟩
  have h__law_goes_on : Has P w K mg base "_law_goes_on" 9 ["_law_kept", "_law_rows", "_law_lot"] (spGoes (He.ga K "Land") (He.ga K "Gathering")) := ⟨_, fd62, ok_goes f62 B TG h__law_put_told h__law_names h__law_is h_back h__law_no_back, He.glo_ok X G (c.fact 68 (f := .glo "_law_goes_on") rfl), f62.kp, f62.binds fun _ _ _ _ _ _ us hl => match us, hl with | [_, _, _], _ => rfl⟩
  exact ok_law f63 B T2 TG NeD NKD h_Land__init__ h_Gathering__init__ h__law_cell h__law_purse h__law_pick h__law_land h__law_names h__law_told_rows h__law_put h__law_moved h__law_text h__law_is h_read_gathering h_Gathering__eq__ h__law_no_back h__law_goes_on h_strike h_tellings
end Wl

open PySem PySem.W PySem.Calls PyProof.Rows
theorem PySem.Challenge.cw_wordlines_k14_gatherings_as_texts_holds : PySem.Challenge.rw_wordlines_k14_gatherings_as_texts.Holds := by
  w_on; o_law
  refine HandSHeadRun.head_any (r := OpenLaw.row PySem.Challenge.rw_wordlines_k14_gatherings_as_texts) (q := view (OpenLaw.row PySem.Challenge.rw_wordlines_k14_gatherings_as_texts).prog [75]) (H := Wl.hk) (ob := Wl.ob) (M := 12000) (loose := Wl.others) (d := HandSHeadRun.topDef (OpenLaw.row PySem.Challenge.rw_wordlines_k14_gatherings_as_texts).prog 75) (kwd := []) Wl.ob_eq
    (by kernel_rfl) (fun s => by kernel_rfl) Wl.run (by kernel_rfl) (by kernel_rfl) (by kernel_rfl) (by rfl) (by first | assumption | decide +kernel) (by decide +kernel) ⟨rfl, rfl, rfl, rfl, rfl, by decide +kernel⟩ ?hw ?hc
  case hw => w_witness2
  case hc =>
    refine L2.walk_ofE (l := PySem.Challenge.rw_wordlines_k14_gatherings_as_texts) (n := 63) (k := 10) (x := "_law_script") (CX := L2.CX0) rfl (by decide) (by kernel_rfl) ⟨rfl, by decide, by decide⟩ ?F (fun _ _ _ _ z => z)
    intro w mg fa h Y G hmg0
    obtain ⟨K, KX, c, cx⟩ := Y
    have hmg : mg ("law" : PySem.Str) = some (.ref fa) := by
      have e : (HandSHeadRun.topDef (OpenLaw.row PySem.Challenge.rw_wordlines_k14_gatherings_as_texts).prog 75).name = ("law" : PySem.Str) := by kernel_rfl
      rw [← e]
      exact hmg0
    obtain ⟨fd, hb, hF⟩ := Wl.facts (P := (PySem.Challenge.rw_wordlines_k14_gatherings_as_texts).prog) (w := w) KX G hmg c cx
    exact ⟨K, fd, Wl.spLaw K, KX, hb, fun H a ns hl _ hS => ⟨a, ns, rfl, hS, hl, fun _ => rfl⟩, hF⟩

