import PyProof.Rows.All
import Wide.All
import OpenK.AllK
import Wide.FinOn
import HandS.ForMost
import HandS.Defaults
import HandS.MakeKwOnly
import HandS.Conv
import HandS.IsInst
import HandS.Walk
import HandS.Flow
import KE.SortData
import KE.DataMinMax
import KE.GoesMore
import HandS.Style
import HandS.DictComp
import HandS.OwnEq
import KE.KCallOwn
import KE.KFmtOwn
import HandS.Codes
import HandS.FStr
import HandS.MakeKw
import HandS.Replace
import KE.KExcIs
import HandS.HotCalls
import HandS.ExcField
import KE.KExcInit
import HandS.Ends
import HandS.Words
import HandS.Comp
import HandS.WordsExc
import HandS.More
import KE.KEqNest
import HandS.TupAny
import HandS.Deep
import HandS.DictTup
import HandS.TryOnly
import HandS.HeadEnd
import HandS.DictEq
import HandS.TupMul
import HandS.List
import HandS.Strs
import HandS.SetFor
import HandS.SetTxt0
import HandS.SetBool
import HandS.TupSets
import PyProof.EqAt
import PyProof.ReprRoads
import PyProof.Rows.RegFStrParts
import HandS.Head0
import HandS.HeadHook1
import HandS.HeadHook2
import HandS.HeadNt
import HandS.ExcInitHot
import KE.KStateDown
import Lean
import HandS.Head1
import HandS.Head2
import PySem.Challenge.RW_wordlines_k38_joined_and_clashes
set_option Elab.async false
set_option linter.all false
set_option maxRecDepth 100000
set_option maxHeartbeats 0
/-! Rules of ours beside the layer: sorted of data, min and max of two texts, in of nested tuples, methods by keyword, enumerate of a tuple. -/
namespace Wl
open PySem PySem.Spec PyProof.Rows L2

/-! sorted(list of data) -/
def rSortD (K : PySem.W.Frag) : List V → Hp → VK → Prop := fun vs H Q =>
  ∃ (a : Addr) (bs : List (V × PyData)), vs = [V.ref a] ∧ SqL K H a (bs.map (·.1)) ∧ (∀ b ∈ bs, Dp K H b.1 b.2) ∧
    PySem.W.AllAlike (bs.map (·.2)) ∧ PySem.W.Sortable (bs.map (·.2)) ∧ (∀ b ∈ bs, b.2.depth ≤ 8) ∧
    ∀ p, H p = none → Q (.ref p) (upd H p (.lst ((bs.mergeSort (PySem.W.dataLe false (·.2))).map (·.1))))
theorem each_of_vals : ∀ {bs : List (V × PyData)} {its : List Value}, Vals (bs.map (·.1)) its → PySem.W.EachIs (fun u b => RelV b.1 u) its bs
  | [], [], _ => .nil
  | [], _ :: _, h => nomatch h
  | _ :: _, [], h => nomatch h
  | b :: bs, u :: us, h => by
    cases h with
    | cons r t => exact .cons r (each_of_vals t)
theorem vals_of_each : ∀ {bs : List (V × PyData)} {its : List Value}, PySem.W.EachIs (fun u b => RelV b.1 u) its bs → Vals (bs.map (·.1)) its
  | _, _, .nil => .nil
  | _, _, .cons r t => .cons r (vals_of_each t)
theorem each_reads {X : Cx} {pins : List (Addr × Obj)} {σ : L2.St} {H : Hp} {s : Shared} (I : Inv X pins σ H s) :
    ∀ {bs : List (V × PyData)} {its : List Value}, (∀ b ∈ bs, Dp X.K H b.1 b.2) → PySem.W.EachIs (fun u b => RelV b.1 u) its bs →
      PySem.W.EachIs (fun v b => ∃ as, Reads s.heap v b.2 as) its bs
  | _, _, _, .nil => .nil
  | _, _, hd, .cons r t => .cons (Dp.reads I _ _ _ (hd _ List.mem_cons_self) r) (each_reads I (fun b m => hd b (List.mem_cons_of_mem _ m)) t)
theorem cr_sortD {X : Cx} (hu : X.A.units + 64 < cLine) : CallR X (.builtin "sorted") (rSortD X.K) := by
  intro pins s σ H vs us Q I r h
  obtain ⟨a, bs, rfl, hs, hd, ha, hk, hz, q⟩ := h
  obtain ⟨its, rv, hl, hn⟩ := I.list hs
  obtain ⟨u, rfl, ru⟩ := vals1 r
  obtain rfl : u = Value.ref a := ru
  have e := each_of_vals rv
  have hbn : bs.length ≤ sizeLine := by
    rw [List.length_map] at hn
    exact hn
  refine PySem.W.sorted_data (R := fun u b => RelV b.1 u) (enc := (·.2)) hl.isList e (each_reads I hd e) ha hk hbn (fun b hb => ?_) fun out ho eo => ?_
  · have := hz b hb
    omega
  · have rv2 := vals_of_each eo
    obtain ⟨n, hn2⟩ := sortedAll_at s.heap its out.toArray
    have hlen : ((bs.mergeSort (PySem.W.dataLe false (·.2))).map (·.1)).length ≤ sizeLine := by
      rw [List.length_map, List.length_mergeSort]
      exact hbn
    exact ⟨.ref (s.heap.objs.size + 1), _, I.laid (t' := s.toks) (o := .lst ((bs.mergeSort (PySem.W.dataLe false (·.2))).map (·.1))) (fun b o e => sortedAll_old e) (Nat.le_succ _) ⟨hlen, out, n, rv2, hn2⟩, rfl, q _ (I.hok.fresh (Nat.le_succ _))⟩

/-! min, max of a tuple of two texts -/
def rTwo (K : PySem.W.Frag) (f : Str → Str → Str) : List V → Hp → VK → Prop := fun vs H Q =>
  ∃ (a : Addr) (x y : Str), vs = [V.ref a] ∧ SqT K H a [.str x, .str y] ∧ Q (.str (f x y)) H
def lessOf (x y : Str) : Str := if y.cps.toList < x.cps.toList then y else x
def moreOf (x y : Str) : Str := if x.cps.toList < y.cps.toList then y else x
theorem alike2 (x y : Str) : PySem.W.AlikeAll [PyData.str x, .str y] := by
  refine ⟨fun a ha b hb => ?_, fun a ha => ?_⟩
  · simp only [List.mem_cons, List.not_mem_nil, or_false] at ha hb
    rcases ha with rfl | rfl <;> rcases hb with rfl | rfl <;> rfl
  · simp only [List.mem_cons, List.not_mem_nil, or_false] at ha
    rcases ha with rfl | rfl <;> exact fun z => by cases z
theorem dp2 {K : PySem.W.Frag} {H : Hp} (x y : Str) : DpAll K H [.str x, .str y] [PyData.str x, .str y] := .cons (.str x) (.cons (.str y) .nil)
theorem cr_minT {X : Cx} (hc : X.calm = true) (hu : X.A.units + 64 < cLine) : CallR X (.builtin "min") (rTwo X.K lessOf) := by
  intro pins s σ H vs us Q I r h
  obtain ⟨a, x, y, rfl, hs, q⟩ := h
  obtain ⟨its, rv, hl, hn⟩ := I.tuple hs
  obtain ⟨u, rfl, ru⟩ := vals1 r
  obtain rfl : u = Value.ref a := ru
  obtain ⟨as, hr⟩ := Dp.readsAll I _ _ its (dp2 x y) rv
  refine PySem.W.min_tuple_data (I.ok.hd hc) (show s.heap.IsTuple a its.toArray from hl) (by simpa using hr) (alike2 x y) (by
    have : PyData.depthAll [PyData.str x, .str y] = 0 := rfl
    omega) fun i v h' tk bs hv hR hk => ?_
  have e : PySem.W.minD (.str x) [.str y] = .str (lessOf x y) := by
    unfold PySem.W.minD lessOf
    simp only [List.foldl_cons, List.foldl_nil, PySem.W.dataLt_str]
    by_cases c : y.cps.toList < x.cps.toList <;> simp [c]
  rw [e] at hR
  cases hR with
  | str z t => exact ⟨.str _, H, I.kept (t' := tk) hk, ⟨_, rfl⟩, q⟩
theorem cr_maxT {X : Cx} (hc : X.calm = true) (hu : X.A.units + 64 < cLine) : CallR X (.builtin "max") (rTwo X.K moreOf) := by
  intro pins s σ H vs us Q I r h
  obtain ⟨a, x, y, rfl, hs, q⟩ := h
  obtain ⟨its, rv, hl, hn⟩ := I.tuple hs
  obtain ⟨u, rfl, ru⟩ := vals1 r
  obtain rfl : u = Value.ref a := ru
  obtain ⟨as, hr⟩ := Dp.readsAll I _ _ its (dp2 x y) rv
  refine PySem.W.max_tuple_data (I.ok.hd hc) (show s.heap.IsTuple a its.toArray from hl) (by simpa using hr) (alike2 x y) (by
    have : PyData.depthAll [PyData.str x, .str y] = 0 := rfl
    omega) fun i v h' tk bs hv hR hk => ?_
  have e : PySem.W.maxD (.str x) [.str y] = .str (moreOf x y) := by
    unfold PySem.W.maxD moreOf
    simp only [List.foldl_cons, List.foldl_nil, PySem.W.dataLt_str]
    by_cases c : x.cps.toList < y.cps.toList <;> simp [c]
  rw [e] at hR
  cases hR with
  | str z t => exact ⟨.str _, H, I.kept (t' := tk) hk, ⟨_, rfl⟩, q⟩

/-! x in a tuple of data -/
def rInDT (K : PySem.W.Frag) : R2 := fun x y H Q => ∃ d ds, Dp K H x d ∧ Dp K H y (.tuple ds) ∧ SeqAt.shaped d = true ∧
  SeqAt.shaped (.tuple ds) = true ∧ Q (.bl (ds.any fun z => PyData.eqv z d)) H
theorem op_inDT {X : Cx} (hu : X.A.units + 65 < cLine) : OpR X (compareOp .In) (rInDT X.K) := by
  intro pins s σ H x y v u Q I rx ry h
  obtain ⟨d, ds, hd, he, sd, se, q⟩ := h
  obtain ⟨as, r1⟩ := Dp.reads I d x v hd rx
  obtain ⟨bs, r2⟩ := Dp.reads I (.tuple ds) y u he ry
  exact SeqAt.in_tuple_reads r2 r1 (SeqAt.canLay_of_shaped se) (SeqAt.canLay_of_shaped sd) (room_in_shaped sd hu) ⟨.bl _, H, I, rfl, q⟩

/-! o.m(k = e): one argument by its name -/
def g2 {α : Type} : List α → List α → List α
  | [a], [b] => [a, b]
  | _, _ => []
theorem g2_rel : ∀ {vs : List V} {us : List Value} {zs : List V} {ws : List Value}, Vals vs us → Vals zs ws → Vals (g2 vs zs) (g2 us ws)
  | _, _, _, _, .nil, _ => .nil
  | _, _, _, _, .cons a (.cons b c), _ => .nil
  | _, _, _, _, .cons a .nil, .nil => .nil
  | _, _, _, _, .cons a .nil, .cons b .nil => .cons a (.cons b .nil)
  | _, _, _, _, .cons a .nil, .cons b (.cons c d) => .nil
def tMethK (C : Addr) (m : Str) (sp : Sp) (E : XK) (ta : TE) (tk : TA) : TE := fun σ H Q => ta σ H fun x H1 =>
  ∃ a dx fs, x = .ref a ∧ H1 a = some (.ins C dx fs) ∧ fs.lookup m = none ∧ tk σ H1 fun zs H2 => sp (g2 [.ref a] zs) H2 Q E
theorem pe_methK {X : Cx} {CX : CXT} {k : Nat} {f C : Addr} {fd : FuncData} {ps ks : List Str} {sp : Sp} {E : XK} {m : Str} {pos apos : Pos} {o : Expr} {kws : List Keyword} {ta : TE} {tk : TA} {pl : Sem Bool}
    (he : PE X o ta) (c : Cls X.K C) (hm : Meth X.K C m f) (F : FnOk X.prog X.w X.K X.mg X.base CX k f fd ps sp) (hr : Room k X.A) (hb : KBinds X.K fd ps ks g2 g2) (hx : Passes CX X E) (hkw : PK X kws tk)
    (hall : (backToKw pos (keywordEach kws X.env)).all (·.1.isSome) = true := by rfl) (hks : (backToKw pos (keywordEach kws X.env)).filterMap (·.1) = ks := by rfl)
    (hpl : ((backTo pos (starEach [] X.env)).any (·.1) || (backToKw pos (keywordEach kws X.env)).any (·.1.isNone)) = false := by rfl)
    (ht : eval (.Call (.Attribute o m apos) [] kws pos) X.env = (do
      let ov ← eval o X.env
      standAt apos.atName
      let (f, first) ← holding [ov] (getMethod ov m pl)
      callWith pos f first (backTo pos (starEach [] X.env)) (backToKw pos (keywordEach kws X.env))) := by rfl) :
    PE X (.Call (.Attribute o m apos) [] kws pos) (tMethK C m sp E ta tk) := by
  refine ⟨fun pins s σ H Q I h => ?_⟩
  refine PySem.W.methodCall_KW (pl := pl) (thn (he.run pins s σ H _ I h) fun u s1 ⟨x, H1, I1, rx, a, dx, fs, ex, ea, l, q⟩ => ?_) ht
  subst ex
  obtain rfl : u = Value.ref a := rx
  refine getmeth_ok I1 ea c hm l ?_
  refine PySem.W.callWith_KW0 (first := [.ref a]) (h₀ := X.base) I.ok.mod.kin hm.kp hall (thn (hkw.run pos pins s1 σ H1 _ I1 q) fun ws s2 ⟨zs, H2, I2, rz, q2⟩ => ⟨I2.kIn, ?_⟩) hpl
  rw [hks]
  exact run_fnk (us := [.ref a]) (vs := [.ref a]) F hr hb hx I2 (.cons rfl .nil) rz q2

/-! enumerate(a tuple) -/
open AutoSeq1 (wpAny_loadPart') in
theorem new_enumT (l : Addr) (items : Array Value) (n : Nat) (dct : Option Addr) (sl : Array (Option Value)) :
    Meets (Builtin.«enumerate.__new__» ⟨[.type "enumerate", .ref l], []⟩) (fun _ R s =>
      s.heap.get? l = some { cls := .type "tuple", dict := dct, data := .seq items n, slots := sl } ∧
      R (.ok (.ret (.ref (s.heap.push { cls := .type "tuple_iterator", data := .fields #[.ref l, .int 0 0] }).objs.size)))
        { s with heap := (s.heap.push { cls := .type "tuple_iterator", data := .fields #[.ref l, .int 0 0] }).push { cls := .type "enumerate", data := .fields #[.none, .bool false, .ref s.heap.objs.size, rawInt 0, .none, .none] } }) :=
  .of_wp fun prog w A R s h => by
    obtain ⟨hp, g, d, tk, os⟩ := s
    obtain ⟨hl, h⟩ := h
    have hsub := sub_enumerate
    have hT : Heap.IsTuple (Shared.heap ⟨hp, g, d, tk, os⟩) l items := ⟨_, hl, rfl, n, rfl⟩
    wp_walk using wpAny_loadPart' hl
    refine wpAny_stack_any fun st => wpAny_pure ?_
    split
    · rename_i c _ _ _ _ _
      cases (c == Value.type "enumerate") <;> (wp_walk using wpAny_loadPart' hl, wpAny_pyIter_tuple hT; exact ⟨_, rfl, h⟩)
    · (wp_walk using wpAny_loadPart' hl, wpAny_pyIter_tuple hT); exact ⟨_, rfl, h⟩
section
variable {prog : Program} {w : World} {A : Around} {E : Value → Shared → Prop} {s : Shared}
theorem make_enumT {l : Addr} {items : Array Value} {Q : Value → Shared → Prop} (hL : s.heap.IsTuple l items)
    (h : ∀ h', IsEnum h' (s.heap.objs.size + 1) s.heap.objs.size 0 .none → h'.IsTupleIter s.heap.objs.size l 0 →
      (∀ b o, s.heap.get? b = some o → h'.get? b = some o) → Q (.ref (s.heap.objs.size + 1)) { s with heap := h' }) :
    wpAny (model prog w) A (call (.type "enumerate") [.ref l]) Q E s := by
  obtain ⟨⟨c, dct, dt, sl⟩, hl, hc, n, hd⟩ := hL
  obtain rfl : c = .type "tuple" := hc
  obtain rfl : dt = .seq items n := hd
  refine callType_new F.called_enumerate (by decide) (F.typeCall_enumerate_1 _) (F.newCall_enumerate_1 _) (fun obj => F.args_object_init_2 obj _) F.entry_enumerate_new (new_enumT l items n dct sl) ⟨hl, ?_⟩
  have hz : (s.heap.push { cls := .type "tuple_iterator", data := .fields #[.ref l, .int 0 0] }).objs.size = s.heap.objs.size + 1 := Heap.size_push ..
  rw [hz]
  have he : IsEnum ((s.heap.push { cls := .type "tuple_iterator", data := .fields #[.ref l, .int 0 0] }).push { cls := .type "enumerate", data := .fields #[.none, .bool false, .ref s.heap.objs.size, rawInt 0, .none, .none] })
      (s.heap.objs.size + 1) s.heap.objs.size 0 .none := hz ▸ Heap.get?_push_size (s.heap.push { cls := .type "tuple_iterator", data := .fields #[.ref l, .int 0 0] }) rfl
  exact ⟨⟨_, he, rfl⟩, h _ he ⟨_, Heap.get?_push_of_some _ (Heap.get?_push_size _ rfl), rfl, rfl⟩ fun b o x => Heap.get?_push_of_some _ (Heap.get?_push_of_some _ x)⟩
end
def IteT (K : PySem.W.Frag) (a : Addr) : It where
  go := fun i H => ∃ (xs : List V) (x : V), SqT K H a xs ∧ xs[i]? = some x
  yld := fun i H v H' => ∃ T x, v = .ref T ∧ H T = none ∧ H' = upd H T (.tup [.int (i : Nat), x]) ∧ ∀ xs, SqT K H a xs → xs[i]? = some x
  stop := fun i H => ∃ xs : List V, SqT K H a xs ∧ xs.length ≤ i
theorem apart_of {h : Heap} {a b : Addr} {o u : Obj} (ha : h.get? a = some o) (hb : h.get? b = some u) (hc : o.cls ≠ u.cls) : a ≠ b := fun e => by
  subst e
  rw [ha] at hb
  exact hc (congrArg Obj.cls (Option.some.inj hb))
theorem turn_enumT {P : Program} {w : World} {K : PySem.W.Frag} {elts : List Expr} {kk : Nat} {tpos : Pos} (a e it : Addr) :
    Turn P w K (.Tuple elts kk tpos) (IteT K a) [e, it] e (fun i h => (∃ old, IsEnum h e it ((i : Nat) : Int) old) ∧ h.IsTupleIter it a i ∧ e ≠ it) where
  mem := by simp
  obj := fun i h st b hb => by
    obtain ⟨⟨old, he⟩, ⟨o, ho, hc, hd⟩, _⟩ := st
    rcases (show b = e ∨ b = it by simpa using hb) with z | z
    · subst z; exact ⟨_, he, fun v q => nomatch q⟩
    · subst z; exact ⟨o, ho, fun v q => by rw [hd] at q; cases q⟩
  keep := fun i h h' st k => let ⟨⟨old, he⟩, hi, hne⟩ := st; ⟨⟨old, k e (by simp) _ he⟩, hi.at fun o q => k it (by simp) o q, hne⟩
  item := by
    intro X hP hw hK hc i pins s σ H E I hf st hg
    subst hP hw hK
    obtain ⟨⟨old, he⟩, hit, hne⟩ := st
    obtain ⟨xs, x, hq, hx⟩ := hg
    obtain ⟨its, rv, p, hz⟩ := I.tuple hq
    obtain ⟨u, hu, ru⟩ := rv.get hx
    have hT : s.heap.IsTuple a its.toArray := p
    obtain ⟨oi, hoi, hci, _⟩ := id hit
    obtain ⟨oa, hoa, hca, _⟩ := id hT
    have hel : e < s.heap.objs.size := Heap.lt_size he
    have hil : it < s.heap.objs.size := Heap.lt_size hoi
    have nai : a ≠ it := apart_of hoa hoi (by rw [hca, hci]; decide)
    have nea : e ≠ a := apart_of he hoa (by rw [hca]; show Value.type "enumerate" ≠ Value.type "tuple"; decide)
    have hi : i < its.toArray.size := by
      have := (List.getElem?_eq_some_iff.mp hu).1
      simpa using this
    refine wpAny_pyNext_enum_itemD (Draws.tuple (prog := X.prog) (w := X.w) (A := X.A.in1) (I.ok.hd hc) it a nai its.toArray) he ⟨hit, hT⟩ hi hne (by simp [hne, nea]) fun y h' tk hy ho hst hTp hsz hk => ?_
    obtain rfl : u = y := by
      have q : its.toArray[i]? = some u := by simpa using hu
      exact Option.some.inj (q.symm.trans hy)
    refine ⟨_, rfl, wpAny_letOwnedTupleGo_enum (s := { s with heap := h', toks := tk + 1 }) ho fun h'' he' sb => ?_⟩
    have hT2 : h''.get? s.heap.objs.size = some { cls := .type "tuple", data := .seq #[.int i tk, u] } := (sb.2 _ (Nat.ne_of_gt hel)).trans hTp
    have new : ObjOk X.prog X.w (upd H s.heap.objs.size (.tup [.int (i : Nat), x])) h'' s.heap.objs.size (.tup [.int (i : Nat), x]) :=
      ⟨by show 2 ≤ sizeLine; decide, [.int i tk, u], .cons ⟨_, rfl⟩ (.cons ru .nil), ⟨_, hT2, rfl, _, rfl⟩⟩
    have I1 : L2.Inv X pins σ (upd H s.heap.objs.size (.tup [.int (i : Nat), x])) { s with heap := h'', toks := tk + 1 } :=
      I.turnedNew (ch := [e, it]) (fun b ob hb q => by
        simp only [List.mem_cons, List.not_mem_nil, or_false, not_or] at hb
        exact (sb.2 b hb.1).trans (hk b ob hb.1 hb.2 q)) hf (Nat.le_refl _) new
    have e1 : ((i + 1 : Nat) : Int) = (i : Int) + 1 := by omega
    refine ⟨.ref s.heap.objs.size, _, I1, rfl, ⟨_, x, rfl, I.hok.fresh (Nat.le_refl _), rfl, fun ys hy => by rw [I.tuple_inj hy hq]; exact hx⟩,
      ⟨⟨u, by rw [e1]; exact he'⟩, hst.1.at fun o q => (sb.2 it (Ne.symm hne)).trans q, hne⟩, fun b hb => ?_⟩
    have hb' : b < s.heap.objs.size := by
      rcases (show b = e ∨ b = it by simpa using hb) with z | z <;> subst z <;> assumption
    rw [upd_ne (Nat.ne_of_lt hb')]
    exact (hf b hb).1
  done := by
    intro X hP hw hK hc i pins s σ H E I hf st hg
    subst hP hw hK
    obtain ⟨⟨old, he⟩, hit, hne⟩ := st
    obtain ⟨xs, hq, hx⟩ := hg
    obtain ⟨its, rv, p, hz⟩ := I.tuple hq
    obtain ⟨f0, f1, f2, f3, f4, f5⟩ := hf it (by simp)
    have hT : s.heap.IsTuple a its.toArray := p
    have hl : xs.length = its.length := rv.length
    have hT2 : ¬ (i < its.toArray.size) := by simp; omega
    show wpAny _ _ (pyNext (.ref e)) _ _ s
    have hTy : s.TypeIs (.ref e) "enumerate" := ⟨_, he, rfl⟩
    unfold pyNext
    refine wpAny_bind (wpAny_attempt (wpAny_callSpecial?_slot (name := Str.ofString "__next__") hTy F.slot_enumerate_next (wpAny_call_entry F.slot_enumerate_next hTy F.entry_enumerate_next ?_ (F.args_enumerate_next_1 _))))
    show wpAny _ _ (field (.ref e) 2 >>= _) _ _ _
    refine wpAny_bind (wpAny_field he rfl (x := .ref it) rfl (wpAny_bind (wpAny_nextOf_tuple_end (I.ok.hd hc) hit hT (Array.getElem?_eq_none (by omega)) fun h' x he' hx' => ?_)))
    obtain ⟨o, ho, hcc⟩ := hx'
    exact wpAny_bind (wpAny_isInstance (T := "StopIteration") (b := true) ⟨o, ho, hcc⟩ isSubtype_stop (wpAny_pure ⟨rfl, I.turned (t' := s.toks) (fun b o hb q => he' b o hb q) f0 f1 f3 f4 f5⟩))
  self := fun A i s Q E st h => let ⟨⟨_, he⟩, _⟩ := st; wpAny_pyIter_enum he h
def iEnumT (K : PySem.W.Frag) (ta : TA) : TI := fun σ H R => ta σ H fun vs H1 => ∃ a xs, vs = [.ref a] ∧ SqT K H1 a xs ∧ R (IteT K a) H1
theorem pi_enumT {X : Cx} {e : Expr} {ta : TA} {p pos tpos : Pos} {elts : List Expr} {kk : Nat} (hg : Gl X "enumerate") (hm : X.mg "enumerate" = none) (ha : PA X [e] ta) (hs : starEach [e] X.env = [(false, eval e X.env)] := by rfl) :
    PI X (.Tuple elts kk tpos) (.Call (.Name "enumerate" p) [e] [] pos) (iEnumT X.K ta) := by
  refine ⟨fun pins s σ H R I h => ?_⟩
  refine Call_ (ld_blt I hg hm boot_enumerate (PyProof.Rows.callWith_type1 (thn (ha.run pos pins s σ H _ I h) fun us s1 ⟨vs, H1, I1, r1, q1⟩ => ?_) hs rfl))
  obtain ⟨a, xs, rfl, hq, q⟩ := q1
  obtain ⟨u, rfl, ru⟩ := vals1 r1
  obtain rfl : u = Value.ref a := ru
  obtain ⟨its, rv, p', hz⟩ := I1.tuple hq
  refine make_enumT (show s1.heap.IsTuple a its.toArray from p') fun h' he hit hk => wpAny_pyIter_enum he ?_
  refine ⟨s1.heap.objs.size + 1, [s1.heap.objs.size + 1, s1.heap.objs.size], _, _, H1, rfl, I1.kept (t' := s1.toks) hk, turn_enumT a (s1.heap.objs.size + 1) s1.heap.objs.size, ⟨⟨.none, he⟩, hit, Nat.succ_ne_self _⟩, fun b hb => ?_, q⟩
  have hle : s1.heap.objs.size ≤ b := by
    rcases (show b = s1.heap.objs.size + 1 ∨ b = s1.heap.objs.size by simpa using hb) with z | z <;> rw [z]
    · exact Nat.le_add_right _ _
    · exact Nat.le_refl _
  exact I1.fpOk hle (I1.hok.fresh hle)
theorem walk_enumT {K : PySem.W.Frag} {a : Addr} {xs : List V} : Walk (IteT K a) xs.length (fun H => SqT K H a xs) (YPair (fun i => some (.int (i : Nat))) (fun i => xs[i]?)) := by
  refine ⟨fun i _ hi q => ⟨xs, xs[i], q, by simp [hi]⟩, fun _ q => ⟨xs, q, Nat.le_refl _⟩, ?_⟩
  rintro i H v H' _ q ⟨T, x, h1, h2, h3, h4⟩
  exact ⟨T, .int (i : Nat), x, h1, h2, h3, rfl, h4 xs q⟩
end Wl

namespace Wl
open PySem

/-! ### strictly rising lists -/
theorem rising_ext {α : Type} {lt : α → α → Prop} (ir : ∀ a, ¬ lt a a) (tr : ∀ a b c, lt a b → lt b c → lt a c) :
    ∀ {l m : List α}, l.Pairwise lt → m.Pairwise lt → (∀ x, x ∈ l ↔ x ∈ m) → l = m
  | [], [], _, _, _ => rfl
  | [], y :: m, _, _, h => absurd ((h y).mpr List.mem_cons_self) (by simp)
  | x :: l, [], _, _, h => absurd ((h x).mp List.mem_cons_self) (by simp)
  | x :: l, y :: m, hl, hm, h => by
    obtain ⟨hx, hl'⟩ := List.pairwise_cons.mp hl
    obtain ⟨hy, hm'⟩ := List.pairwise_cons.mp hm
    have e : x = y := by
      rcases List.mem_cons.mp ((h x).mp List.mem_cons_self) with e | h1
      · exact e
      · rcases List.mem_cons.mp ((h y).mpr List.mem_cons_self) with e | h2
        · exact e.symm
        · exact absurd (tr _ _ _ (hx y h2) (hy x h1)) (ir x)
    subst e
    have : l = m := rising_ext ir tr hl' hm' fun z => by
      constructor
      · intro hz
        rcases List.mem_cons.mp ((h z).mp (List.mem_cons_of_mem _ hz)) with e | q
        · exact absurd (hx z hz) (by rw [e]; exact ir x)
        · exact q
      · intro hz
        rcases List.mem_cons.mp ((h z).mpr (List.mem_cons_of_mem _ hz)) with e | q
        · exact absurd (hy z hz) (by rw [e]; exact ir x)
        · exact q
    rw [this]

/-! ### texts by their codes -/
theorem str_ext {a b : Str} (h : a.cps.toList = b.cps.toList) : a = b := by
  cases a; cases b
  exact congrArg Str.mk (Array.ext' h)
abbrev ltS (a b : Str) : Prop := a.cps.toList < b.cps.toList
theorem ltS_irr (a : Str) : ¬ ltS a a := List.lt_irrefl _
theorem ltS_tr (a b c : Str) (h : ltS a b) (k : ltS b c) : ltS a c := List.lt_trans h k
theorem ltS_tot {a b : Str} (h : ¬ ltS a b) (k : ¬ ltS b a) : a = b :=
  str_ext (List.le_antisymm (List.not_lt.mp k) (List.not_lt.mp h))
def leB (a b : Str) : Bool := !decide (ltS b a)
theorem leB_trans (a b c : Str) (h : leB a b = true) (k : leB b c = true) : leB a c = true := by
  simp only [leB, Bool.not_eq_true', decide_eq_false_iff_not] at h k ⊢
  exact fun q => by
    by_cases e : ltS a b
    · exact k (ltS_tr _ _ _ q e)
    · have := ltS_tot e h
      subst this
      exact k q
theorem leB_total (a b : Str) : (leB a b || leB b a) = true := by
  simp only [leB, Bool.or_eq_true, Bool.not_eq_true', decide_eq_false_iff_not]
  by_cases h : ltS b a
  · exact .inr fun q => ltS_irr _ (ltS_tr _ _ _ h q)
  · exact .inl h
def sortS (xs : List Str) : List Str := xs.mergeSort leB
theorem mem_sortS {xs : List Str} {z : Str} : z ∈ sortS xs ↔ z ∈ xs := List.mem_mergeSort
theorem sortS_len (xs : List Str) : (sortS xs).length = xs.length := List.length_mergeSort _
theorem sortS_rising {xs : List Str} (h : xs.Nodup) : (sortS xs).Pairwise ltS := by
  have h1 : (sortS xs).Pairwise (fun a b => leB a b = true) := List.pairwise_mergeSort leB_trans leB_total xs
  have h2 : (sortS xs).Pairwise (· ≠ ·) := (List.mergeSort_perm xs leB).nodup_iff.mpr h
  refine List.Pairwise.imp₂ ?_ h1 h2
  intro a b q n
  simp only [leB, Bool.not_eq_true', decide_eq_false_iff_not] at q
  exact Classical.byContradiction fun c => n (ltS_tot c q)
/-- what is strictly rising with the same members is the sorted list -/
theorem sortS_eq {xs l : List Str} (h : xs.Nodup) (hl : l.Pairwise ltS) (hm : ∀ z, z ∈ l ↔ z ∈ xs) : l = sortS xs :=
  rising_ext ltS_irr ltS_tr hl (sortS_rising h) fun z => (hm z).trans mem_sortS.symm

/-! ### pairs of texts -/
abbrev Two := Str × Str
def ltP (p q : Two) : Prop := ltS p.1 q.1 ∨ (p.1 = q.1 ∧ ltS p.2 q.2)
instance (p q : Two) : Decidable (ltP p q) := by unfold ltP; infer_instance
theorem ltP_irr (p : Two) : ¬ ltP p p := by
  rintro (h | ⟨_, h⟩) <;> exact ltS_irr _ h
theorem ltP_tr (p q r : Two) (h : ltP p q) (k : ltP q r) : ltP p r := by
  obtain ⟨p1, p2⟩ := p
  obtain ⟨q1, q2⟩ := q
  obtain ⟨r1, r2⟩ := r
  rcases h with h | ⟨e, h⟩ <;> rcases k with k | ⟨f, k⟩
  · exact .inl (ltS_tr _ _ _ h k)
  · simp only at f; subst f; exact .inl h
  · simp only at e; subst e; exact .inl k
  · simp only at e f; subst e f; exact .inr ⟨rfl, ltS_tr _ _ _ h k⟩
theorem ltP_tot {p q : Two} (h : ¬ ltP p q) (k : ¬ ltP q p) : p = q := by
  obtain ⟨p1, p2⟩ := p
  obtain ⟨q1, q2⟩ := q
  simp only [ltP, not_or, not_and] at h k
  have e : p1 = q1 := ltS_tot h.1 k.1
  subst e
  rw [ltS_tot (h.2 rfl) (k.2 rfl)]
def lePB (a b : Two) : Bool := !decide (ltP b a)
theorem lePB_trans (a b c : Two) (h : lePB a b = true) (k : lePB b c = true) : lePB a c = true := by
  simp only [lePB, Bool.not_eq_true', decide_eq_false_iff_not] at h k ⊢
  exact fun q => by
    by_cases e : ltP a b
    · exact k (ltP_tr _ _ _ q e)
    · have := ltP_tot e h
      subst this
      exact k q
theorem lePB_total (a b : Two) : (lePB a b || lePB b a) = true := by
  simp only [lePB, Bool.or_eq_true, Bool.not_eq_true', decide_eq_false_iff_not]
  by_cases h : ltP b a
  · exact .inr fun q => ltP_irr _ (ltP_tr _ _ _ h q)
  · exact .inl h
def sortP (xs : List Two) : List Two := xs.mergeSort lePB
theorem mem_sortP {xs : List Two} {z : Two} : z ∈ sortP xs ↔ z ∈ xs := List.mem_mergeSort
theorem sortP_len (xs : List Two) : (sortP xs).length = xs.length := List.length_mergeSort _
theorem sortP_rising {xs : List Two} (h : xs.Nodup) : (sortP xs).Pairwise ltP := by
  have h1 : (sortP xs).Pairwise (fun a b => lePB a b = true) := List.pairwise_mergeSort lePB_trans lePB_total xs
  have h2 : (sortP xs).Pairwise (· ≠ ·) := (List.mergeSort_perm xs lePB).nodup_iff.mpr h
  refine List.Pairwise.imp₂ ?_ h1 h2
  intro a b q n
  simp only [lePB, Bool.not_eq_true', decide_eq_false_iff_not] at q
  exact Classical.byContradiction fun c => n (ltP_tot c q)
theorem sortP_eq {xs l : List Two} (h : xs.Nodup) (hl : l.Pairwise ltP) (hm : ∀ z, z ∈ l ↔ z ∈ xs) : l = sortP xs :=
  rising_ext ltP_irr ltP_tr hl (sortP_rising h) fun z => (hm z).trans mem_sortP.symm

/-! ### the machine's order is ours -/
theorem le_data_str (a b : Str) : (!PySem.W.dataLt (.str b) (.str a)) = leB a b := by
  rw [PySem.W.dataLt_str]
  rfl
theorem le_data_two (a b : Two) : (!PySem.W.dataLt (.tuple [.str b.1, .str b.2]) (.tuple [.str a.1, .str a.2])) = lePB a b := by
  rw [PySem.W.dataLt_pair rfl rfl, PySem.W.dataLt_str, PySem.W.dataLt_str]
  unfold lePB
  congr 1
  have q : ∀ x y : Str, (PyData.eqv (.str x) (.str y) = true) = (x = y) := fun x y => by simp [PyData.eqv]
  simp only [q]
  by_cases h : b.1 = a.1
  · by_cases k : b.2 = a.2
    · have e : b = a := Prod.ext h k
      subst e
      simp [ltP_irr]
    · simp only [h, k, if_true, if_false, ltP]
      by_cases z : ltS b.2 a.2
      · simp [z]
      · simp [z, ltS_irr]
  · simp only [h, if_false, ltP]
    by_cases z : ltS b.1 a.1 <;> simp [z, h]
end Wl

namespace Wl
open PySem PySem.Spec PyProof.Rows L2

/-! ### defs that keep promises, by name -/
def Has (P : Program) (w : World) (K : PySem.W.Frag) (mg : Str → Option Value) (base : Heap) (x : Str) (k : Nat) (ps : List Str) (sp : Sp) : Prop :=
  ∃ f fd, FnOk P w K mg base CX0 k f fd ps sp ∧ mg x = some (.ref f) ∧ PySem.W.keepIn K (.ref f) = true ∧ Binds K fd ps []
def HasM (P : Program) (w : World) (K : PySem.W.Frag) (mg : Str → Option Value) (base : Heap) (C : Addr) (m : Str) (k : Nat) (ps : List Str) (sp : Sp) : Prop :=
  ∃ f fd, FnOk P w K mg base CX0 k f fd ps sp ∧ Meth K C m f ∧ Binds K fd ps []
section
variable {X : Cx} {k j : Nat} {C : Addr} {ps ks : List Str} {sp : Sp} {x m : Str} {p pos apos : Pos} {e o : Expr} {es : List Expr} {kws : List Keyword} {ta : TE} {t tk : TA}
theorem pe_h (h : Has X.prog X.w X.K X.mg X.base x k ps sp) (hr : Room j X.A) (ha : PA X (e :: es) t) (hkj : k ≤ j := by decide) (hg : Gl X x := by rfl) (hdb : (x == ("__debug__" : Str)) = false := by decide)
    (he : starEach (e :: es) X.env = (false, eval e X.env) :: starEach es X.env := by rfl) (hpl : (backTo pos (starEach es X.env)).any (·.1) = false := by rfl) :
    PE X (.Call (.Name x p) (e :: es) [] pos) (tCall sp [] E0 t) := by
  obtain ⟨f, fd, F, g, kp, b⟩ := h
  exact pe_call F (hr.mono hkj) hg g kp b .nil pass0 ha hdb he hpl
theorem pe_h0 (h : Has X.prog X.w X.K X.mg X.base x k ps sp) (hr : Room j X.A) (hkj : k ≤ j := by decide) (hg : Gl X x := by rfl) (hdb : (x == ("__debug__" : Str)) = false := by decide) :
    PE X (.Call (.Name x p) [] [] pos) (tCall sp [] E0 tNil) := by
  obtain ⟨f, fd, F, g, kp, b⟩ := h
  exact pe_call0 F (hr.mono hkj) hg g kp b .nil pass0 hdb
theorem pe_hm {pl : Sem Bool} (h : HasM X.prog X.w X.K X.mg X.base C m k ps sp) (c : Cls X.K C) (hr : Room j X.A) (ho : PE X o ta) (ha : PA X (e :: es) t) (hkj : k ≤ j := by decide)
    (hst : starEach (e :: es) X.env = (false, eval e X.env) :: starEach es X.env := by rfl) (hpl : (backTo pos (starEach es X.env)).any (·.1) = false := by rfl)
    (ht : eval (.Call (.Attribute o m apos) (e :: es) [] pos) X.env = (do
      let ov ← eval o X.env
      standAt apos.atName
      let (f, first) ← holding [ov] (getMethod ov m pl)
      callWith pos f first (backTo pos (starEach (e :: es) X.env)) (backToKw pos (keywordEach [] X.env))) := by rfl) :
    PE X (.Call (.Attribute o m apos) (e :: es) [] pos) (tMeth C m sp [] E0 ta t) := by
  obtain ⟨f, fd, F, g, b⟩ := h
  exact pe_meth ho c g F (hr.mono hkj) b .nil pass0 ha hst hpl ht
theorem pe_hm0 {pl : Sem Bool} (h : HasM X.prog X.w X.K X.mg X.base C m k ps sp) (c : Cls X.K C) (hr : Room j X.A) (ho : PE X o ta) (hkj : k ≤ j := by decide)
    (ht : eval (.Call (.Attribute o m apos) [] [] pos) X.env = (do
      let ov ← eval o X.env
      standAt apos.atName
      let (f, first) ← holding [ov] (getMethod ov m pl)
      callWith pos f first (backTo pos (starEach [] X.env)) (backToKw pos (keywordEach [] X.env))) := by rfl) :
    PE X (.Call (.Attribute o m apos) [] [] pos) (tMeth C m sp [] E0 ta tNil) := by
  obtain ⟨f, fd, F, g, b⟩ := h
  exact pe_meth0 ho c g F (hr.mono hkj) b .nil pass0 ht
end

/-! ### heaps -/
theorem same_new {H : Hp} {p : Addr} {o : HO} (h : H p = none) : Same H (upd H p o) := fun b x e => by
  rw [upd_ne (ne_of_none e h)]
  exact e
theorem same_mut {H H' : Hp} {p : Addr} {o : HO} (s : Same H H') (h : H p = none) : Same H (upd H' p o) := fun b x e => by
  rw [upd_ne (ne_of_none e h)]
  exact s b x e
theorem tup_same {K : PySem.W.Frag} {H H' : Hp} {a : Addr} {xs : List V} (e : Same H H') (h : SqT K H a xs) : SqT K H' a xs := by
  rcases h with (h | ⟨o, h⟩) | h
  · exact .inl (.inl (e _ _ h))
  · exact .inl (.inr ⟨o, e _ _ h⟩)
  · exact .inr h
/-- all but what stands at a is as it was -/
def SameX (a : Addr) (H H' : Hp) : Prop := ∀ b o, b ≠ a → H b = some o → H' b = some o
theorem SameX.refl (a : Addr) (H : Hp) : SameX a H H := fun _ _ _ h => h
theorem SameX.trans {a : Addr} {H H1 H2 : Hp} (s : SameX a H H1) (t : SameX a H1 H2) : SameX a H H2 := fun b o n h => t b o n (s b o n h)
theorem sx {a : Addr} {H H' : Hp} (s : Same H H') : SameX a H H' := fun b o _ h => s b o h
theorem sameX_upd {a : Addr} {H : Hp} {o : HO} : SameX a H (upd H a o) := fun b u n h => by rw [upd_ne n]; exact h
/-- an object that H does not know may change -/
theorem sameX_mut {a : Addr} {H H' : Hp} {p : Addr} {o : HO} (s : SameX a H H') (h : H p = none) : SameX a H (upd H' p o) := fun b u n e => by
  rw [upd_ne (ne_of_none e h)]
  exact s b u n e
theorem SameX.free {a l : Addr} {H H' : Hp} (e : SameX a H H') (n : l ≠ a) (h : H' l = none) : H l = none := by
  cases q : H l with
  | none => rfl
  | some o =>
    rw [e l o n q] at h
    cases h
theorem SameX.tup {K : PySem.W.Frag} {a p : Addr} {H H' : Hp} {xs ys : List V} (e : SameX a H H') (ha : H a = some (.lst ys)) (h : SqT K H p xs) : SqT K H' p xs := by
  rcases h with (h | ⟨o, h⟩) | h
  · exact .inl (.inl (e _ _ (ne_of h ha (by intro z; cases z)) h))
  · exact .inl (.inr ⟨o, e _ _ (ne_of h ha (by intro z; cases z)) h⟩)
  · exact .inr h

/-! ### tests whose answer is known -/
theorem ite_b {b : Bool} {A B : Prop} (h1 : b = true → A) (h2 : b = false → B) : if b = true then A else B := by
  cases b with
  | true => exact iteT (h1 rfl)
  | false => exact iteF (h2 rfl)
theorem not_b {b : Bool} {A B : Prop} (h1 : b = false → A) (h2 : b = true → B) : if (!b) = true then A else B := by
  cases b with
  | true => exact iteF (h2 rfl)
  | false => exact iteT (h1 rfl)

theorem yes_it {σ : L2.St} {H : Hp} {A B : Hp → Prop} (h : A H) : tYes σ H (fun b H' => if b = true then A H' else B H') := by
  show if true = true then A H else B H
  rw [if_pos rfl]
  exact h
theorem lz {n : Nat} (h : Nat.ble n 1000 = true := by rfl) : n ≤ sizeLine := Nat.le_trans (Nat.le_of_ble_eq_true h) (by decide)
theorem lzl {n : Nat} (h : n ≤ 1000) : n ≤ sizeLine := Nat.le_trans h (by decide)

/-! ### words -/
def wdB (z : Str) : Bool := decide (1 ≤ z.length) && decide (z.length ≤ 8) && z.cps.toList.all fun c => decide (97 ≤ c) && decide (c ≤ 122)
def IsWd (z : Str) : Prop := wdB z = true
instance (z : Str) : Decidable (IsWd z) := inferInstanceAs (Decidable (wdB z = true))
def oV : Option Str → V
  | none => .non
  | some z => .str z

/-! ### the built-ins that the text leaves as they are -/
structure Bi (mg : Str → Option Value) : Prop where
  len : mg "len" = none
  range : mg "range" = none
  isi : mg "isinstance" = none
  tuple : mg "tuple" = none
  list : mg "list" = none
  sorted : mg "sorted" = none
  all : mg "all" = none
  int : mg "int" = none
  max : mg "max" = none
  min : mg "min" = none
  enum : mg "enumerate" = none
  str : mg "str" = none
end Wl
namespace Wl
open PySem PySem.Spec PyProof.Rows L2
theorem atI_tab {ns : List Int} {r : Int} (h0 : 0 ≤ r) (h : r < ns.length) : ∃ n ∈ ns, atI (ns.map V.int) r = some (.int n) := by
  have hr : r.toNat < ns.length := by omega
  refine ⟨ns[r.toNat], List.getElem_mem hr, at_of (j := r.toNat) (by omega) ?_⟩
  rw [List.getElem?_map, List.getElem?_eq_getElem hr]
  rfl
theorem atI_strs {zs : List Str} {r : Int} (h0 : 0 ≤ r) (h : r < zs.length) : ∃ z ∈ zs, atI (zs.map V.str) r = some (.str z) := by
  have hr : r.toNat < zs.length := by omega
  refine ⟨zs[r.toNat], List.getElem_mem hr, at_of (j := r.toNat) (by omega) ?_⟩
  rw [List.getElem?_map, List.getElem?_eq_getElem hr]
  rfl
theorem letters_eq : ("abcdefghijklmnopqrstuvwxyz" : Str).cps.toList = List.range' 97 26 := by decide +kernel
theorem letter_at {r : Int} (h0 : 0 ≤ r) (h : r < 26) : atI ("abcdefghijklmnopqrstuvwxyz" : Str).cps.toList r = some (97 + r.toNat) := by
  rw [letters_eq]
  refine at_of' (j := r.toNat) (by omega) ?_
  rw [List.getElem?_range' (by omega)]
  congr 1
  omega
where
  at_of' {xs : List Nat} {z : Int} {j : Nat} {v : Nat} (e : z = (j : Int)) (h : xs[j]? = some v) : atI xs z = some v := by
    rw [e]
    exact atI_nat h
def sign (c : Nat) : Str := ⟨#[c]⟩
theorem joinL_flat : ∀ ps : List (List Nat), TL.joinL [] ps = ps.flatten
  | [] => rfl
  | [p] => by simp [TL.joinL]
  | p :: q :: r => by
    show p ++ ([] ++ TL.joinL [] (q :: r)) = _
    rw [joinL_flat (q :: r)]
    simp
theorem join_codes (ys : List Str) : (Txt.join ("" : Str) ys).cps.toList = (ys.map fun y => y.cps.toList).flatten := by
  have h := TL.tl_join ("" : Str) ys
  rw [show TL.tl ("" : Str) = [] by decide +kernel, joinL_flat] at h
  rw [TL.join_eq]
  exact h
theorem join_signs (cs : List Nat) : (Txt.join ("" : Str) (cs.map sign)).cps.toList = cs := by
  rw [join_codes, List.map_map]
  induction cs with
  | nil => rfl
  | cons c r ih => exact congrArg (c :: ·) ih
theorem isWd_of {z : Str} (h1 : 1 ≤ z.cps.toList.length) (h8 : z.cps.toList.length ≤ 8) (hc : ∀ c ∈ z.cps.toList, 97 ≤ c ∧ c ≤ 122) : IsWd z := by
  unfold IsWd wdB Str.length
  rw [Array.length_toList] at h1 h8
  simp only [Bool.and_eq_true, decide_eq_true_eq, List.all_eq_true]
  exact ⟨⟨h1, h8⟩, hc⟩
theorem IsWd.len {z : Str} (h : IsWd z) : 1 ≤ z.length ∧ z.length ≤ 8 := by
  unfold IsWd wdB at h
  simp only [Bool.and_eq_true, decide_eq_true_eq] at h
  exact h.1
end Wl

namespace Wl
open PySem PySem.Spec PyProof.Rows L2
def topS (i : Nat) : Stmt := PySem.Challenge.pw_wordlines_k38_joined_and_clashes.main.body.getD i (.Pass ⟨0, 0, 0, 0⟩)
end Wl
namespace Wl
open PySem PySem.Spec PyProof.Rows L2
end Wl
namespace Wl
open PySem PySem.Spec PyProof.Rows L2
end Wl
namespace Wl
open PySem PySem.Spec PyProof.Rows L2

/-! ### the text by places -/
abbrev sCell : Stmt := topS 47
abbrev sPurse : Stmt := topS 48
abbrev sPick : Stmt := topS 49
abbrev sMenu : Stmt := topS 50
abbrev sWord : Stmt := topS 51

section
variable {P : Program} {w : World} {K : PySem.W.Frag} {mg : Str → Option Value} {base : Heap} {f : Addr} {fd : FuncData}

/-! ### a cell of the script: some int -/
def spCell (K : PySem.W.Frag) : Sp := fun vs H Q _ => ∃ (a : Addr) (ns : List Int) (k : Int), vs = [.ref a, .int k] ∧ SqL K H a (ns.map V.int) ∧ 0 ≤ k ∧ k ≤ 63 ∧
  ∀ (v : Int) (H' : Hp), Same H H' → Q (.int v) H'
theorem scCell : FnScope ["_law_script", "_law_k", "_law_state", "_law_cell_here"] ["_law_script", "_law_k"] (defScope sCell) :=
  ⟨rfl, rfl, rfl, by decide +kernel, rfl, by decide +kernel, by decide +kernel⟩
theorem mem_cut {xs : List V} {lo hi : Option Int} {v : V} (h : v ∈ cutV xs lo hi) : v ∈ xs := List.mem_of_mem_drop (List.mem_of_mem_take h)
theorem ok_cell (F : Fun K "_law_cell" "_law_cell" sCell f fd) (B : Bi mg) : FnOk P w K mg base CX0 1 f fd ["_law_script", "_law_k"] (spCell K) := by
  refine F.ok scCell (fun vs H Q E h => ?_) (fun cdv A outer s H vs Q E hr h => ?_)
  · obtain ⟨a, ns, k, rfl, _⟩ := h
    rfl
  · obtain ⟨a, ns, k, rfl, hS, k0, k1, q⟩ := h
    refine ⟨_, pss_cons (ps_if (pt_cmpR op_lt (pv 1) (pe_callB call_len_seq (by rfl) B.len PySem.boot_len (pa_cons (pv 0) pa_nil)) (nomark _)) (pss_one (ps_ret (pe_ix ix_list (pv 0) (pv 1) (fun _ _ => rfl)))) pss_nil)
      (pss_cons (ps_set (i := 2) scCell.nd rfl (.inl rfl) (pe_op op_mod (pe_op op_mul pe_int (pe_op op_add (pe_op op_add (pe_op op_mul (pv 1) (pv 1)) (pe_op op_mul pe_int (pv 1))) pe_int)) pe_int))
      (pss_cons (ps_for PassesOwn.never rfl (pi_list (pe_slice sl_list (pv 0) po_none (po_some pe_int))) (pg_name (i := 3) scCell.nd rfl (.inl rfl))
        (pss_one (ps_set (i := 2) scCell.nd rfl (.inl rfl) (pe_op op_mod (pe_op op_add (pe_op op_mul (pv 2) pe_int) (pv 3)) pe_int))))
      (pss_one (ps_ret (pv 2))))), ?_⟩
    refine ⟨_, rfl, .ref a, rfl, a, _, rfl, .inl hS, _, _, rfl, rfl, _, rfl, ite_b (fun e => ?_) (fun e => ?_)⟩
    · have hk : k < ((ns.map V.int).length : Int) := of_decide_eq_true e
      rw [List.length_map] at hk
      have hk2 : k.toNat < ns.length := by omega
      refine ⟨_, rfl, _, rfl, a, _, k, .int ns[k.toNat], rfl, rfl, hS, at_of (j := k.toNat) (by omega) ?_, q _ H (Same.refl H)⟩
      rw [List.getElem?_map, List.getElem?_eq_getElem hk2]
      rfl
    · refine ⟨_, rfl, _, rfl, k, k, rfl, rfl, .inl ⟨by omega, by omega⟩, _, rfl, 5, k, rfl, rfl, .inl ⟨by decide, by decide⟩, _, _, rfl, rfl, _, _, rfl, rfl, _, _, rfl, rfl, .inl ⟨by decide, by decide⟩, _, _, rfl, rfl, (show (0 : Int) < 1000000033 by decide), ?_⟩
      refine ⟨_, rfl, 4, rfl, a, _, rfl, hS, fun p hp => ?_⟩
      have hc : SqL K (upd H p (.lst (cutV (ns.map V.int) none (some 4)))) p (cutV (ns.map V.int) none (some 4)) := .inl (.inl upd_same)
      refine ⟨p, rfl, ⟨_, hc⟩, for_list (K := K) (a := p) (xs := cutV (ns.map V.int) none (some 4)) (fun i σ H' => (∃ (z : Int) (y : Option V), σ = [some (.ref a), some (.int k), some (.int z), y]) ∧ H' = upd H p (.lst (cutV (ns.map V.int) none (some 4))))
        ⟨⟨_, _, rfl⟩, rfl⟩ (fun i σ H' _ h => by rw [h.2]; exact hc) ?_ ?_⟩
      · rintro i x σ H' hx ⟨⟨z, y, rfl⟩, rfl⟩
        obtain ⟨n, rfl⟩ : ∃ n, x = V.int n := by
          obtain ⟨n, _, e⟩ := List.mem_map.mp (mem_cut (List.mem_of_getElem? hx))
          exact ⟨n, e.symm⟩
        refine ⟨_, rfl, z, 30029, rfl, rfl, .inr ⟨by decide, by decide⟩, _, rfl, _, _, rfl, rfl, _, _, rfl, rfl, (show (0 : Int) < 1000000033 by decide), ⟨⟨_, _, rfl⟩, rfl⟩⟩
      · rintro σ H' ⟨⟨z, y, rfl⟩, rfl⟩
        exact ⟨_, rfl, q _ _ (same_new hp)⟩

/-! ### the purse -/
def PurseAt (H : Hp) (a : Addr) : Prop := ∃ s b c : Int, H a = some (.lst [.int s, .int b, .int c]) ∧ 0 ≤ b
theorem PurseAt.same {H H' : Hp} {a : Addr} (h : PurseAt H a) (s : Same H H') : PurseAt H' a := by
  obtain ⟨s0, b, c, ha, hb⟩ := h
  exact ⟨s0, b, c, s _ _ ha, hb⟩
theorem PurseAt.ne {H : Hp} {a p : Addr} (h : PurseAt H a) (hp : H p = none) : p ≠ a := by
  obtain ⟨s0, b, c, ha, hb⟩ := h
  exact (ne_of_none ha hp).symm
theorem PurseAt.lst {H : Hp} {a : Addr} (h : PurseAt H a) : ∃ ys, H a = some (.lst ys) := by
  obtain ⟨s0, b, c, ha, hb⟩ := h
  exact ⟨_, ha⟩
def spPurse : Sp := fun vs H Q _ => ∃ (n : Int), vs = [.int n] ∧ ∀ (a : Addr) (H' : Hp), H a = none → Same H H' → PurseAt H' a → Q (.ref a) H'
theorem scPurse : FnScope ["_law_cell_here"] ["_law_cell_here"] (defScope sPurse) :=
  ⟨rfl, rfl, rfl, by decide +kernel, rfl, by decide +kernel, by decide +kernel⟩
theorem ok_purse (F : Fun K "_law_purse" "_law_purse" sPurse f fd) (B : Bi mg) : FnOk P w K mg base CX0 1 f fd ["_law_cell_here"] spPurse := by
  refine F.ok scPurse (fun vs H Q E h => ?_) (fun cdv A outer s H vs Q E hr h => ?_)
  · obtain ⟨n, rfl, _⟩ := h
    rfl
  · obtain ⟨n, rfl, q⟩ := h
    refine ⟨_, pss_one (ps_ret (pe_lst (pa_cons (pe_op op_add (pe_op op_mul (pe_op op_mod (pv 0) pe_int) pe_int) pe_int)
      (pa_cons (pe_ix ix_list (pe_lst (pa_cons pe_int (pa_cons (pv 0) pa_nil))) (pe_callTy call_int1 (by rfl) B.int (by decide +kernel) (pa_cons (pe_cmpR op_ge (pv 0) (pe_op op_pow pe_int pe_int) (nomark _)) pa_nil)) (fun _ _ => rfl))
      (pa_cons pe_int pa_nil))))), ?_⟩
    refine ⟨_, rfl, _, _, rfl, rfl, (show (0 : Int) < 1000000033 by decide), _, _, rfl, rfl, .inr ⟨by decide, by decide⟩, _, _, rfl, rfl, _, rfl, lz, fun p hp => ?_⟩
    have e18 : (10 : Int) ^ (18 : Int).toNat = 1000000000000000000 := by decide
    refine ⟨_, rfl, 10, 18, rfl, rfl, ⟨by decide, by decide, by decide⟩, _, _, rfl, rfl, .inr ⟨_, rfl, ?_⟩⟩
    refine ⟨p, [.int 0, .int n], _, .int (if decide ((10 : Int) ^ (18 : Int).toNat ≤ n) = true then n else 0), rfl, rfl, .inl (.inl upd_same), ?_, lz, fun a ha => ?_⟩
    · by_cases c : (10 : Int) ^ (18 : Int).toNat ≤ n
      · simp only [decide_eq_true c, if_true]
        exact atI_nat (j := 1) rfl
      · simp only [decide_eq_false c]
        exact atI_nat (j := 0) rfl
    · have hp2 : Same H (upd H p (.lst [.int 0, .int n])) := same_new hp
      refine q a _ (hp2.free ha) (hp2.trans (same_new ha)) ⟨_, _, _, upd_same, ?_⟩
      by_cases c : (10 : Int) ^ (18 : Int).toNat ≤ n
      · simp only [decide_eq_true c, if_true]
        rw [e18] at c
        omega
      · simp only [decide_eq_false c]
        exact Int.le_refl 0
/-! ### a pick: some number below many -/
def spPick : Sp := fun vs H Q _ => ∃ (a : Addr) (m : Int), vs = [.ref a, .int m] ∧ PurseAt H a ∧ 0 < m ∧ m < 1073741824 ∧
  ∀ (r : Int) (H' : Hp), 0 ≤ r → r < m → PurseAt H' a → SameX a H H' → (∀ p, H p = none → H' p = none) → Q (.int r) H'
theorem scPick : FnScope ["_law_purse_here", "_law_count", "_law_state", "_law_taken"] ["_law_purse_here", "_law_count"] (defScope sPick) :=
  ⟨rfl, rfl, rfl, by decide +kernel, rfl, by decide +kernel, by decide +kernel⟩
theorem none_upd {H : Hp} {a : Addr} {o u : HO} (h : H a = some o) : ∀ p, H p = none → upd H a u p = none := fun p hp => by
  rw [upd_ne (ne_of_none h hp).symm]
  exact hp
theorem ok_pick (F : Fun K "_law_pick" "_law_pick" sPick f fd) : FnOk P w K mg base CX0 1 f fd ["_law_purse_here", "_law_count"] spPick := by
  refine F.ok scPick (fun vs H Q E h => ?_) (fun cdv A outer s H vs Q E hr h => ?_)
  · obtain ⟨a, m, rfl, _⟩ := h
    rfl
  · obtain ⟨a, m, rfl, ⟨s0, b, c, ha, hb⟩, m0, m1, q⟩ := h
    refine ⟨_, pss_cons (ps_asg (pe_op op_add (pe_ix ix_list (pv 0) pe_int (fun _ _ => rfl)) pe_int) (pg_sub (pv 0) pe_int set_list))
      (pss_cons (ps_set (i := 2) scPick.nd rfl (.inl rfl) (pe_op op_mod (pe_ix ix_list (pv 0) pe_int (fun _ _ => rfl)) pe_int))
      (pss_cons (ps_asg (pe_op op_add (pe_op op_mul (pv 2) (pe_op op_add (pe_op op_mod (pv 2) pe_int) pe_int)) (pe_op op_mul pe_int (pe_ix ix_list (pv 0) pe_int (fun _ _ => rfl)))) (pg_sub (pv 0) pe_int set_list))
      (pss_cons (ps_if (pt_cmpR op_gt (pe_ix ix_list (pv 0) pe_int (fun _ _ => rfl)) pe_int (nomark _))
        (pss_cons (ps_set (i := 3) scPick.nd rfl (.inl rfl) (pe_op op_mod (pe_ix ix_list (pv 0) pe_int (fun _ _ => rfl)) (pv 1)))
        (pss_cons (ps_asg (pe_op op_fdiv (pe_ix ix_list (pv 0) pe_int (fun _ _ => rfl)) (pv 1)) (pg_sub (pv 0) pe_int set_list))
        (pss_one (ps_ret (pv 3))))) pss_nil)
      (pss_one (ps_ret (pe_op op_mod (pe_op op_fdiv (pe_op op_mod (pe_ix ix_list (pv 0) pe_int (fun _ _ => rfl)) pe_int) pe_int) (pv 1))))))), ?_⟩
    have hmod : ∀ x : Int, 0 ≤ x % 1000000033 ∧ x % 1000000033 < 1000000033 := fun x => by omega
    refine ⟨_, rfl, a, _, 2, .int c, rfl, rfl, .inl (.inl ha), atI_nat (j := 2) rfl, _, _, rfl, rfl, _, rfl, a, _, 2, 2, rfl, rfl, ha, rfl, ?_⟩
    refine ⟨_, rfl, a, _, 0, .int s0, rfl, rfl, .inl (.inl upd_same), atI_nat (j := 0) rfl, _, _, rfl, rfl, (show (0 : Int) < 1000000033 by decide), ?_⟩
    refine ⟨_, rfl, _, rfl, _, _, rfl, rfl, (show (0 : Int) < 60013 by decide), _, _, rfl, rfl, _, _, rfl, rfl, .inl ⟨by have := hmod s0; omega, by have := hmod s0; omega⟩,
      _, rfl, a, _, 2, _, rfl, rfl, .inl (.inl upd_same), atI_nat (j := 2) rfl, _, _, rfl, rfl, .inl ⟨by decide, by decide⟩, _, _, rfl, rfl, _, rfl, a, _, 0, 0, rfl, rfl, upd_same, rfl, ?_⟩
    refine ⟨_, rfl, a, _, 1, .int b, rfl, rfl, .inl (.inl upd_same), atI_nat (j := 1) rfl, _, _, rfl, rfl, _, rfl, ite_b (fun e => ?_) (fun e => ?_)⟩
    · refine ⟨_, rfl, a, _, 1, .int b, rfl, rfl, .inl (.inl upd_same), atI_nat (j := 1) rfl, _, rfl, b, m, rfl, rfl, m0, ?_⟩
      refine ⟨_, rfl, a, _, 1, .int b, rfl, rfl, .inl (.inl upd_same), atI_nat (j := 1) rfl, _, rfl, b, m, rfl, rfl, ⟨m0, m1⟩, _, rfl, a, _, 1, 1, rfl, rfl, upd_same, rfl, ?_⟩
      refine ⟨_, rfl, q _ _ (Int.emod_nonneg _ (by omega)) (Int.emod_lt_of_pos _ m0) ⟨_, _, _, upd_same, ?_⟩ (((sameX_upd).trans sameX_upd).trans sameX_upd) fun p hp => ?_⟩
      · exact Int.ediv_nonneg hb (by omega)
      · exact none_upd upd_same p (none_upd upd_same p (none_upd ha p hp))
    · refine ⟨_, rfl, a, _, 0, _, rfl, rfl, .inl (.inl upd_same), atI_nat (j := 0) rfl, _, _, rfl, rfl, (show (0 : Int) < 1000000033 by decide), _, _, rfl, rfl, ⟨by decide, by decide⟩, _, rfl, _, m, rfl, rfl, m0, ?_⟩
      exact q _ _ (Int.emod_nonneg _ (by omega)) (Int.emod_lt_of_pos _ m0) ⟨_, _, _, upd_same, hb⟩ ((sameX_upd).trans sameX_upd) fun p hp => none_upd upd_same p (none_upd ha p hp)

/-! ### the menu, a word -/
def menuW : List Str := ["put", "doubt", "strike", "back", "change", "one", "map", "words", "parted", "line", "rings", "thin", "fate", "asks", "habit", "apart", "near", "paper", "ok", "no", "none", "self", "may", "not", "has", "any"]
theorem menu_wd : ∀ z ∈ menuW, IsWd z := by decide +kernel
theorem menu_len : menuW.length = 26 := by decide +kernel
def spMenu : Sp := fun vs H Q _ => vs = [] ∧ ∀ (p : Addr) (H' : Hp), H p = none → Same H H' → H' p = some (.lst (menuW.map V.str)) → Q (.ref p) H'
theorem scMenu : FnScope ["_law_some"] [] (defScope sMenu) := ⟨rfl, rfl, rfl, by decide +kernel, rfl, by decide +kernel, by decide +kernel⟩
theorem ok_menu (F : Fun K "_law_menu" "_law_menu" sMenu f fd) : FnOk P w K mg base CX0 1 f fd [] spMenu := by
  refine F.ok scMenu (fun vs H Q E h => ?_) (fun cdv A outer s H vs Q E hr h => ?_)
  · obtain ⟨rfl, _⟩ := h
    rfl
  · obtain ⟨rfl, q⟩ := h
    refine ⟨_, pss_cons (ps_set (i := 0) scMenu.nd rfl (.inl rfl) (pe_lst (pa_cons pe_str (pa_cons pe_str (pa_cons pe_str (pa_cons pe_str (pa_cons pe_str (pa_cons pe_str (pa_cons pe_str (pa_cons pe_str (pa_cons pe_str (pa_cons pe_str (pa_cons pe_str (pa_cons pe_str pa_nil))))))))))))))
      (pss_cons (ps_set (i := 0) scMenu.nd rfl (.inl rfl) (pe_op op_cat (pv 0) (pe_lst (pa_cons pe_str (pa_cons pe_str (pa_cons pe_str (pa_cons pe_str (pa_cons pe_str (pa_cons pe_str (pa_cons pe_str (pa_cons pe_str (pa_cons pe_str (pa_cons pe_str (pa_cons pe_str (pa_cons pe_str pa_nil)))))))))))))))
      (pss_one (ps_ret (pe_op op_cat (pv 0) (pe_lst (pa_cons pe_str (pa_cons pe_str pa_nil))))))), ?_⟩
    refine ⟨lz, fun p1 h1 => ?_⟩
    refine ⟨_, rfl, lz, fun p2 h2 => ⟨p1, p2, _, _, rfl, rfl, (same_new h2) _ _ upd_same, upd_same, lz, fun p3 h3 => ?_⟩⟩
    refine ⟨_, rfl, lz, fun p4 h4 => ⟨p3, p4, _, _, rfl, rfl, (same_new h4) _ _ upd_same, upd_same, lz, fun p5 h5 => ?_⟩⟩
    exact q p5 _ (Same.free (((same_new h1).trans (same_new h2)).trans ((same_new h3).trans (same_new h4))) h5) ((((same_new h1).trans (same_new h2)).trans ((same_new h3).trans (same_new h4))).trans (same_new h5)) upd_same

def spWord : Sp := fun vs H Q _ => ∃ (a : Addr), vs = [.ref a] ∧ PurseAt H a ∧ ∀ (z : Str) (H' : Hp), IsWd z → PurseAt H' a → SameX a H H' → Q (.str z) H'
abbrev nWord : List Str := ["_law_purse_here", "_law_way", "_law_wide", "_law_size", "_law_k"]
theorem scWord : FnScope nWord ["_law_purse_here"] (defScope sWord) :=
  ⟨rfl, rfl, rfl, by decide +kernel, rfl, by decide +kernel, by decide +kernel⟩
theorem ok_word (F : Fun K "_law_word" "_law_word" sWord f fd) (B : Bi mg) (hp : Has P w K mg base "_law_pick" 1 ["_law_purse_here", "_law_count"] spPick) (hm : Has P w K mg base "_law_menu" 1 [] spMenu) :
    FnOk P w K mg base CX0 2 f fd ["_law_purse_here"] spWord := by
  refine F.ok scWord (fun vs H Q E h => ?_) (fun cdv A outer s H vs Q E hr h => ?_)
  · obtain ⟨a, rfl, _⟩ := h
    rfl
  · obtain ⟨a, rfl, hA, q⟩ := h
    refine ⟨_, pss_cons (ps_asg (pe_tup (pa_cons (pe_h hp hr (pa_cons (pv 0) (pa_cons pe_int pa_nil))) (pa_cons (pe_ix ix_list (pe_lst (pa_cons pe_int (pa_cons pe_int (pa_cons pe_int pa_nil)))) (pe_h hp hr (pa_cons (pv 0) (pa_cons pe_int pa_nil))) (fun _ _ => rfl)) pa_nil)))
        (pg_tup rfl (pgs_cons (pg_name (i := 1) scWord.nd rfl (.inl rfl)) (pgs_cons (pg_name (i := 2) scWord.nd rfl (.inr rfl)) pgs_nil))))
      (pss_cons (ps_if (pt_cmpR op_eq (pv 1) pe_int (nomark _)) (pss_one (ps_ret (pe_ix ix_list (pe_h0 hm hr) (pe_h hp hr (pa_cons (pv 0) (pa_cons pe_int pa_nil))) (fun _ _ => rfl)))) pss_nil)
      (pss_cons (ps_set (i := 3) scWord.nd rfl (.inl rfl) (pe_ix ix_list (pe_lst (pa_cons pe_int (pa_cons pe_int (pa_cons pe_int (pa_cons pe_int (pa_cons (pe_op op_add pe_int (pe_h hp hr (pa_cons (pv 0) (pa_cons pe_int pa_nil)))) pa_nil)))))) (pe_h hp hr (pa_cons (pv 0) (pa_cons pe_int pa_nil))) (fun _ _ => rfl)))
      (pss_one (ps_ret (pe_join pe_str (pe_lc (own := [("_law_k", 4)]) (g := gName 4) (tt := tYes) rfl scWord.nd (pi_range1 (by rfl) B.range (pa_cons (pv 3) pa_nil)) (blkOk_by (N := nWord) (sc := defScope sWord) (by decide +kernel))
        (fun _ _ _ _ _ => pg_name (i := 4) scWord.nd rfl (.inl rfl)) (fun _ _ _ _ _ => pts_nil) (fun _ _ _ _ _ => pe_ix ix_str pe_str (pe_h hp hr (pa_cons (pv 0) (pa_cons (pv 2) pa_nil))) (fun _ _ => rfl)))))))), ?_⟩
    -- way, wide
    refine ⟨_, rfl, a, 4, rfl, hA, by decide, by decide, fun r1 H1 r10 r11 hA1 s1 n1 => ?_⟩
    refine ⟨lz, fun p hp => ⟨_, rfl, a, 3, rfl, hA1.same (same_new hp), by decide, by decide, fun r2 H2 r20 r21 hA2 s2 n2 => ?_⟩⟩
    have npa := hA1.ne hp
    obtain ⟨wd, hwm, hwd⟩ := atI_tab (ns := [3, 5, 26]) r20 r21
    have hw : 0 < wd ∧ wd ≤ 26 := by
      simp only [List.mem_cons, List.not_mem_nil, or_false] at hwm
      omega
    have s2' : SameX a H H2 := (s1.trans (sx (same_new hp))).trans s2
    refine ⟨p, _, r2, .int wd, rfl, rfl, .inl (.inl (s2 _ _ npa upd_same)), hwd, lz, fun t ht => ?_⟩
    refine ⟨t, _, rfl, .inl (.inl upd_same), rfl, _, _, rfl, _, _, rfl, rfl, ?_⟩
    have hA3 := hA2.same (same_new (o := .tup [.int r1, .int wd]) ht)
    have s3 : SameX a H _ := s2'.trans (sx (same_new (o := .tup [.int r1, .int wd]) ht))
    generalize upd H2 t (.tup [.int r1, .int wd]) = H3 at hA3 s3
    refine ⟨_, rfl, rfl, _, rfl, ite_b (fun e => ?_) (fun e => ?_)⟩
    · -- menu()[..]
      refine ⟨rfl, fun p4 H4 hp4 s4 h4 => ⟨_, rfl, a, 26, rfl, hA3.same s4, by decide, by decide, fun r5 H5 r50 r51 hA5 s5 n5 => ?_⟩⟩
      obtain ⟨z, hz, hzi⟩ := atI_strs (zs := menuW) r50 (by rw [menu_len]; exact r51)
      exact ⟨p4, _, r5, .str z, rfl, rfl, .inl (.inl (s5 _ _ (hA3.ne hp4) h4)), hzi, q z H5 (menu_wd z hz) hA5 ((s3.trans (sx s4)).trans s5)⟩
    · -- size
      refine ⟨_, rfl, a, 8, rfl, hA3, by decide, by decide, fun r4 H4 r40 r41 hA4 s4 n4 => ⟨_, _, rfl, rfl, lz, fun p5 hp5 => ⟨_, rfl, a, 5, rfl, hA4.same (same_new hp5), by decide, by decide, fun r6 H6 r60 r61 hA6 s6 n6 => ?_⟩⟩⟩
      have np5 := hA4.ne hp5
      obtain ⟨sz, hsm, hsz⟩ := atI_tab (ns := [1, 2, 3, 4, 1 + r4]) r60 r61
      have hs8 : 1 ≤ sz ∧ sz ≤ 8 := by
        simp only [List.mem_cons, List.not_mem_nil, or_false] at hsm
        omega
      refine ⟨p5, _, r6, .int sz, rfl, rfl, .inl (.inl (s6 _ _ np5 upd_same)), hsz, ?_⟩
      have s6' : SameX a H H6 := ((s3.trans s4).trans (sx (same_new hp5))).trans s6
      -- join of the signs
      refine ⟨⟨_, rfl⟩, _, rfl, sz, rfl, by omega, by omega, fun D hD => lc_range (lo := 0) (n := sz.toNat)
        (fun i H' => ∃ cs : List Nat, cs.length = i ∧ (∀ c ∈ cs, 97 ≤ c ∧ c ≤ 122) ∧ H' D = some (.lst ((cs.map sign).map V.str)) ∧ PurseAt H' a ∧ SameX a H6 H')
        ⟨[], rfl, fun c hc => by simp at hc, upd_same, hA6.same (same_new hD), sx (same_new hD)⟩ ?_ ?_⟩
      · rintro i H7 hi ⟨cs, hcl, hcs, hDl, hA7, s7⟩
        refine ⟨rfl, yes_it ⟨_, rfl, _, rfl, a, wd, rfl, hA7, hw.1, by omega, fun r8 H8 r80 r81 hA8 s8 n8 => ?_⟩⟩
        have nD := hA6.ne hD
        refine ⟨_, r8, _, rfl, rfl, lz, letter_at r80 (by omega), _, s8 _ _ nD hDl, ?_, ?_⟩
        · rw [List.length_map, List.length_map]
          exact small1000 (by omega)
        · refine ⟨cs ++ [97 + r8.toNat], by simp [hcl], fun c hc => ?_, ?_, ?_, sameX_mut (s7.trans s8) hD⟩
          · rcases List.mem_append.mp hc with hc | hc
            · exact hcs c hc
            · rw [List.mem_singleton.mp hc]
              omega
          · rw [upd_same, List.map_append, List.map_append]
            rfl
          · obtain ⟨x0, x1, x2, hx, hx1⟩ := hA8
            exact ⟨x0, x1, x2, by rw [upd_ne nD.symm]; exact hx, hx1⟩
      · rintro H7 ⟨cs, hcl, hcs, hDl, hA7, s7⟩
        refine ⟨_, D, cs.map sign, rfl, rfl, .inl (.inl (.inl hDl)), ?_, ?_⟩
        · have e0 : ("" : Str).length = 0 := by decide +kernel
          have e1 : (cs.map sign).map (·.length) = cs.map fun _ => 1 := by
            rw [List.map_map]
            rfl
          rw [e0, e1, Nat.mul_zero]
          have e2 : ∀ l : List Nat, (l.map fun _ => 1).sum = l.length := fun l => by
            induction l with
            | nil => rfl
            | cons x r ih => rw [List.map_cons, List.sum_cons, ih, List.length_cons]; omega
          rw [e2]
          omega
        · refine q _ H7 (isWd_of ?_ ?_ ?_) hA7 (s6'.trans s7)
          · rw [join_signs]; omega
          · rw [join_signs]; omega
          · rw [join_signs]; exact hcs
end
end Wl




namespace Wl
open PySem PySem.Spec PyProof.Rows L2

inductive Each {α β : Type} (R : α → β → Prop) : List α → List β → Prop
  | nil : Each R [] []
  | cons {a : α} {b : β} {as : List α} {bs : List β} : R a b → Each R as bs → Each R (a :: as) (b :: bs)
section
variable {α β : Type} {R S : α → β → Prop}
theorem Each.length : ∀ {as : List α} {bs : List β}, Each R as bs → as.length = bs.length
  | _, _, .nil => rfl
  | _, _, .cons _ t => congrArg (· + 1) t.length
theorem Each.mono (h : ∀ a b, R a b → S a b) : ∀ {as : List α} {bs : List β}, Each R as bs → Each S as bs
  | _, _, .nil => .nil
  | _, _, .cons r t => .cons (h _ _ r) (t.mono h)
theorem Each.append : ∀ {as : List α} {bs : List β} {cs : List α} {ds : List β}, Each R as bs → Each R cs ds → Each R (as ++ cs) (bs ++ ds)
  | _, _, _, _, .nil, s => s
  | _, _, _, _, .cons r t, s => .cons r (t.append s)
theorem Each.get : ∀ {as : List α} {bs : List β} {i : Nat} {a : α}, Each R as bs → as[i]? = some a → ∃ b, bs[i]? = some b ∧ R a b
  | _, _, _, _, .nil, e => by simp at e
  | _, _, 0, _, .cons r _, e => by simp at e; subst e; exact ⟨_, rfl, r⟩
  | _, _, i + 1, x, .cons _ t, e => by
    obtain ⟨u, h1, h2⟩ := t.get (i := i) (a := x) (by simpa using e)
    exact ⟨u, by simpa using h1, h2⟩
theorem Each.get2 : ∀ {as : List α} {bs : List β} {i : Nat} {b : β}, Each R as bs → bs[i]? = some b → ∃ a, as[i]? = some a ∧ R a b
  | _, _, _, _, .nil, e => by simp at e
  | _, _, 0, _, .cons r _, e => by simp at e; subst e; exact ⟨_, rfl, r⟩
  | _, _, i + 1, x, .cons _ t, e => by
    obtain ⟨u, h1, h2⟩ := t.get2 (i := i) (b := x) (by simpa using e)
    exact ⟨u, by simpa using h1, h2⟩
theorem Each.mem2 : ∀ {as : List α} {bs : List β} {b : β}, Each R as bs → b ∈ bs → ∃ a ∈ as, R a b
  | _, _, _, .nil, h => by simp at h
  | _, _, _, .cons r t, h => by
    rcases List.mem_cons.mp h with rfl | h
    · exact ⟨_, List.mem_cons_self, r⟩
    · obtain ⟨a, ha, hr⟩ := t.mem2 h
      exact ⟨a, List.mem_cons_of_mem _ ha, hr⟩
theorem each_fn {f : α → β} : ∀ {as : List α} {bs : List β}, Each (fun a b => b = f a) as bs → bs = as.map f
  | _, _, .nil => rfl
  | _, _, .cons r t => by rw [List.map_cons, ← each_fn t, r]
theorem each_map_l {γ : Type} {g : γ → α} : ∀ {cs : List γ} {bs : List β}, Each R (cs.map g) bs → Each (fun c b => R (g c) b) cs bs
  | [], [], _ => .nil
  | [], _ :: _, h => nomatch h
  | _ :: _, [], h => nomatch h
  | _ :: _, _ :: _, .cons r t => .cons r (each_map_l t)
theorem each_map_r {γ : Type} {g : γ → α} : ∀ {cs : List γ} {bs : List β}, Each (fun c b => R (g c) b) cs bs → Each R (cs.map g) bs
  | _, _, .nil => .nil
  | _, _, .cons r t => .cons r (each_map_r t)
end

theorem filter_take_snoc {α : Type} {p : α → Bool} {ys : List α} {i : Nat} {x : α} (h : ys[i]? = some x) : (ys.take (i + 1)).filter p = (ys.take i).filter p ++ (if p x then [x] else []) := by
  rw [List.take_add_one, h, List.filter_append]
  congr 1
  by_cases c : p x = true
  · simp [c]
  · simp [c]

section
variable {J : It} {ys : List V} {G : Hp → Prop} {slot : Nat} {tt : TT} {te : TE} {vs : List Nat} {σ : L2.St} {H1 : Hp} {D : Addr} {Qd : Hp → Prop}
/-- a comprehension [e for x in ys if t]: each e a value that R tells of, the heap only growing -/
theorem lc_rel (w : L2.Walk J ys.length G (YAt ys)) (hD : H1 D = none) (keep : V → Bool) (R : V → V → Hp → Prop)
    (hG : ∀ H, Same H1 H → G H)
    (hw : ∀ x, wipe ((wipe σ vs).set slot (some x)) vs = wipe σ vs)
    (ht : ∀ (x : V) (H : Hp), x ∈ ys → Same H1 H → ∀ Q : Bool → Hp → Prop, Q (keep x) H → tt ((wipe σ vs).set slot (some x)) H Q)
    (he : ∀ (x : V) (H : Hp), x ∈ ys → keep x = true → Same H1 H → ∀ Q : VK, (∀ y H', Same H H' → R x y H' → Q y H') → te ((wipe σ vs).set slot (some x)) H Q)
    (hR : ∀ x y H H' acc, H D = some (.lst acc) → SameX D H H' → R x y H → R x y H')
    (hn : ys.length < sizeLine)
    (hd : ∀ zs H, Same H1 H → H D = some (.lst zs) → Each (fun x z => R x z H) (ys.filter keep) zs → Qd H) :
    ∃ W : Nat → Nat → Hp → Prop, (∃ m, W 0 m (upd H1 D (.lst []))) ∧ ∀ i m H, W i m H →
      (J.stop i H ∧ Qd H) ∨ (J.go i H ∧ ∃ Nx : Hp → Prop, (∀ H', Nx H' → ∃ m', m' < m ∧ W (i + 1) m' H') ∧ ∀ x H', J.yld i H x H' → gName slot x (wipe σ vs) H' fun σ2 H2 => wipe σ2 vs = wipe σ vs ∧ tt σ2 H2 fun b H3 =>
        if b = true then te σ2 H3 fun y H4 => ∃ acc, H4 D = some (.lst acc) ∧ acc.length < sizeLine ∧ Nx (upd H4 D (.lst (acc ++ [y]))) else Nx H3) := by
  refine lc_it w (fun i H => ∃ zs, Same H1 H ∧ H D = some (.lst zs) ∧ Each (fun x z => R x z H) ((ys.take i).filter keep) zs) ⟨[], same_new hD, upd_same, by simpa using Each.nil⟩ (fun i H _ h => ?_) ?_ ?_
  · obtain ⟨zs, s, _⟩ := h
    exact hG H s
  · rintro i x H H' hi ⟨zs, s, hz, ez⟩ ⟨rfl, hx⟩
    have hm : x ∈ ys := List.mem_of_getElem? hx
    refine ⟨hw x, ht x _ hm s _ ?_⟩
    have hf := filter_take_snoc (p := keep) hx
    refine ite_b (fun e => ?_) (fun e => ?_)
    · refine he x _ hm e s _ fun y H4 s4 r4 => ⟨zs, s4 _ _ hz, ?_, zs ++ [y], same_mut (s.trans s4) hD, upd_same, ?_⟩
      · have h1 := ez.length
        have h2 : ((ys.take i).filter keep).length ≤ (ys.take i).length := List.length_filter_le _ _
        have h3 : (ys.take i).length ≤ ys.length := List.length_take_le' _ _
        omega
      · rw [hf, if_pos e]
        have hD4 : H4 D = some (.lst zs) := s4 _ _ hz
        refine Each.append (ez.mono fun a b r => ?_) (.cons ?_ .nil)
        · exact hR _ _ _ _ _ hz (fun b o n h => by rw [upd_ne n]; exact s4 _ _ h) r
        · exact hR _ _ _ _ _ hD4 sameX_upd r4
    · refine ⟨zs, s, hz, ?_⟩
      rw [hf, if_neg (by rw [e]; decide), List.append_nil]
      exact ez
  · rintro H ⟨zs, s, hz, ez⟩
    rw [List.take_length] at ez
    exact hd zs H s hz ez
/-- the same, each e a plain value, the heap as it was -/
theorem lc_map (w : L2.Walk J ys.length G (YAt ys)) (hD : H1 D = none) (keep : V → Bool) (f : V → V)
    (hG : ∀ H, Same H1 H → G H)
    (hw : ∀ x, wipe ((wipe σ vs).set slot (some x)) vs = wipe σ vs)
    (ht : ∀ (x : V) (H : Hp), x ∈ ys → Same H1 H → ∀ Q : Bool → Hp → Prop, Q (keep x) H → tt ((wipe σ vs).set slot (some x)) H Q)
    (he : ∀ (x : V) (H : Hp), x ∈ ys → keep x = true → Same H1 H → ∀ Q : VK, Q (f x) H → te ((wipe σ vs).set slot (some x)) H Q)
    (hn : ys.length < sizeLine)
    (hd : ∀ H, Same H1 H → H D = some (.lst ((ys.filter keep).map f)) → Qd H) :
    ∃ W : Nat → Nat → Hp → Prop, (∃ m, W 0 m (upd H1 D (.lst []))) ∧ ∀ i m H, W i m H →
      (J.stop i H ∧ Qd H) ∨ (J.go i H ∧ ∃ Nx : Hp → Prop, (∀ H', Nx H' → ∃ m', m' < m ∧ W (i + 1) m' H') ∧ ∀ x H', J.yld i H x H' → gName slot x (wipe σ vs) H' fun σ2 H2 => wipe σ2 vs = wipe σ vs ∧ tt σ2 H2 fun b H3 =>
        if b = true then te σ2 H3 fun y H4 => ∃ acc, H4 D = some (.lst acc) ∧ acc.length < sizeLine ∧ Nx (upd H4 D (.lst (acc ++ [y]))) else Nx H3) :=
  lc_rel w hD keep (fun x y _ => y = f x) hG hw ht (fun x H hx hk s Q q => he x H hx hk s Q (q _ H (Same.refl H) rfl)) (fun _ _ _ _ _ _ _ r => r) hn fun zs H s hz ez => hd H s (by rw [hz, each_fn ez])
end
/-- a text's signs as a list -/
def signsOf (z : Str) : List V := z.cps.toList.map fun c => .str (sign c)
theorem walk_signs {z : Str} : L2.Walk (Its z) (signsOf z).length (fun _ => True) (YAt (signsOf z)) := by
  have e : (signsOf z).length = z.cps.size := by simp [signsOf]
  rw [e]
  refine ⟨fun _ _ hi _ => hi, fun _ _ => Nat.le_refl _, ?_⟩
  rintro i H x H' _ _ ⟨rfl, c, hc, rfl⟩
  refine ⟨rfl, ?_⟩
  have : z.cps.toList[i]? = some c := by simpa using hc
  simp only [signsOf, List.getElem?_map, this]
  rfl
theorem yes_pure {σ : L2.St} {H : Hp} {Q : Bool → Hp → Prop} (h : Q true H) : tYes σ H Q := h
theorem inV_strs (z : Str) (ws : List Str) : inV (.str z) (ws.map V.str) = decide (z ∈ ws) := by
  unfold inV
  induction ws with
  | nil => rfl
  | cons x r ih =>
    rw [List.map_cons, List.any_cons, ih]
    by_cases h : x = z
    · subst h
      simp [eqV]
    · have h2 : ¬ z = x := fun e => h e.symm
      simp [eqV, h, h2]
theorem flat_strs (ws : List Str) : (ws.map V.str).all flatV = true := by
  rw [List.all_eq_true]
  intro v hv
  obtain ⟨x, _, rfl⟩ := List.mem_map.mp hv
  rfl
theorem dp_strs {K : PySem.W.Frag} {H : Hp} : ∀ ws : List Str, DpAll K H (ws.map V.str) (ws.map PyData.str)
  | [] => .nil
  | z :: r => .cons (.str z) (dp_strs r)
theorem wd_ok {z : Str} (h : IsWd z) : PyData.strOk z = true := by
  unfold PyData.strOk
  rw [← Array.all_toList, List.all_eq_true]
  intro c hc
  unfold IsWd wdB at h
  simp only [Bool.and_eq_true, decide_eq_true_eq, List.all_eq_true] at h
  have := h.2 c hc
  exact decide_eq_true (by omega)
theorem lay_strs : ∀ {ws : List Str}, (∀ z ∈ ws, IsWd z) → PyData.canLayAll0 (ws.map PyData.str) = true
  | [], _ => by simp [PyData.canLayAll0]
  | z :: r, h => by
    have h1 := wd_ok (h z List.mem_cons_self)
    have h2 := lay_strs (ws := r) fun y hy => h y (List.mem_cons_of_mem _ hy)
    simp [PyData.canLayAll0, PyData.canLay0, h1, h2]
theorem depth_strs : ∀ ws : List Str, PyData.depthAll (ws.map PyData.str) = 0
  | [] => by simp [PyData.depthAll]
  | z :: r => by simp [PyData.depthAll, PyData.depth, depth_strs r]
theorem shaped_list {ds : List PyData} (h : PyData.canLayAll0 ds = true) (d : PyData.depthAll ds ≤ 60) : SeqAt.shaped (.list ds) = true := by
  unfold SeqAt.shaped
  rw [Bool.and_eq_true]
  refine ⟨by simpa [PyData.canLay0] using h, decide_eq_true ?_⟩
  simp only [PyData.depth]
  omega
theorem shaped_tuple {ds : List PyData} (h : PyData.canLayAll0 ds = true) (d : PyData.depthAll ds ≤ 60) : SeqAt.shaped (.tuple ds) = true := by
  unfold SeqAt.shaped
  rw [Bool.and_eq_true]
  refine ⟨by simpa [PyData.canLay0] using h, decide_eq_true ?_⟩
  simp only [PyData.depth]
  omega
theorem cut_hi (z : Str) (k : Nat) : (cutS z none (some (k : Int))).cps.toList = z.cps.toList.take k := by
  show ((z.cps.toList.drop (HT.sIx z.length 0 none)).take (HT.sIx z.length z.length (some (k : Int)) - HT.sIx z.length 0 none)) = _
  rw [HT.sIx_none, HT.sIx_nat, Nat.sub_zero, List.drop_zero]
  have : z.length = z.cps.toList.length := by simp [Str.length]
  rw [this]
  by_cases h : k ≤ z.cps.toList.length
  · rw [Nat.min_eq_left h]
  · rw [Nat.min_eq_right (by omega), List.take_length, List.take_of_length_le (by omega)]
end Wl

namespace Wl
open PySem PySem.Spec PyProof.Rows L2
abbrev sFresh : Stmt := topS 52
abbrev sLand : Stmt := topS 53
abbrev sNames : Stmt := topS 54

/-! ### a word that is not in use -/
def spareS (A B : Str) : List Str := ((List.range' 97 26).map fun c => A ++ sign c) ++ (List.range' 97 13).map fun c => B ++ sign c ++ ("z" : Str)
theorem codes_add (x y : Str) : (x ++ y).cps.toList = x.cps.toList ++ y.cps.toList := TL.tl_append x y
theorem spare_free (A B : Str) (ws : List Str) (h : ws.length ≤ 35) : ∃ z ∈ spareS A B, z ∉ ws := by
  refine Classical.byContradiction fun no => ?_
  have all : ∀ z ∈ spareS A B, z ∈ ws := fun z hz => Classical.byContradiction fun k => no ⟨z, hz, k⟩
  have nd : (((List.range' 97 25).map fun c => A ++ sign c) ++ (List.range' 97 13).map fun c => B ++ sign c ++ ("z" : Str)).Nodup := by
    have zc : ("z" : Str).cps.toList = [122] := by decide +kernel
    have c1 : ∀ c, (A ++ sign c).cps.toList = A.cps.toList ++ [c] := fun c => codes_add A (sign c)
    have c2 : ∀ c, (B ++ sign c ++ ("z" : Str)).cps.toList = B.cps.toList ++ [c] ++ [122] := fun c => by
      rw [codes_add, codes_add, zc]
      rfl
    rw [List.nodup_append]
    refine ⟨?_, ?_, ?_⟩
    · refine List.pairwise_map.mpr ((List.nodup_range' (s := 97) (n := 25) (step := 1)).imp fun {a b} ne e => ne ?_)
      have := congrArg (fun z : Str => z.cps.toList) e
      simp only [c1] at this
      simpa using this
    · refine List.pairwise_map.mpr ((List.nodup_range' (s := 97) (n := 13) (step := 1)).imp fun {a b} ne e => ne ?_)
      have := congrArg (fun z : Str => z.cps.toList) e
      simp only [c2] at this
      simpa using this
    · intro x hx y hy e
      obtain ⟨c, hc, rfl⟩ := List.mem_map.mp hx
      obtain ⟨d, hd, rfl⟩ := List.mem_map.mp hy
      have := congrArg (fun z : Str => z.cps.toList.getLast?) e
      simp only [c1, c2, List.getLast?_append, List.getLast?_singleton, Option.some_or, Option.some.injEq] at this
      rw [List.mem_range'_1] at hc
      omega
  have sub : (((List.range' 97 25).map fun c => A ++ sign c) ++ (List.range' 97 13).map fun c => B ++ sign c ++ ("z" : Str)) ⊆ ws := by
    intro z hz
    refine all z ?_
    rcases List.mem_append.mp hz with hz | hz
    · obtain ⟨c, hc, rfl⟩ := List.mem_map.mp hz
      refine List.mem_append.mpr (.inl (List.mem_map.mpr ⟨c, ?_, rfl⟩))
      rw [List.mem_range'_1] at hc ⊢
      omega
    · exact List.mem_append.mpr (.inr hz)
  have := nd.length_le_of_subset sub
  simp at this
  omega
theorem spare_wd {z : Str} (h : IsWd z) : ∀ y ∈ spareS (cutS z none (some 7)) (cutS z none (some 6)), IsWd y := by
  have hl := h.len
  have hz : z.length = z.cps.toList.length := by simp [Str.length]
  have hc : ∀ c ∈ z.cps.toList, 97 ≤ c ∧ c ≤ 122 := by
    unfold IsWd wdB at h
    simp only [Bool.and_eq_true, decide_eq_true_eq, List.all_eq_true] at h
    exact h.2
  have zc : ("z" : Str).cps.toList = [122] := by decide +kernel
  intro y hy
  rcases List.mem_append.mp hy with hy | hy
  · obtain ⟨c, hcm, rfl⟩ := List.mem_map.mp hy
    rw [List.mem_range'_1] at hcm
    have e : (cutS z none (some 7) ++ sign c).cps.toList = z.cps.toList.take 7 ++ [c] := by
      rw [codes_add, show ((7 : Int)) = ((7 : Nat) : Int) from rfl, cut_hi]
      rfl
    refine isWd_of ?_ ?_ ?_
    · rw [e]; simp
    · rw [e]; simp; omega
    · rw [e]
      intro d hd
      rcases List.mem_append.mp hd with hd | hd
      · exact hc d (List.mem_of_mem_take hd)
      · rw [List.mem_singleton.mp hd]; omega
  · obtain ⟨c, hcm, rfl⟩ := List.mem_map.mp hy
    rw [List.mem_range'_1] at hcm
    have e : (cutS z none (some 6) ++ sign c ++ ("z" : Str)).cps.toList = z.cps.toList.take 6 ++ [c] ++ [122] := by
      rw [codes_add, codes_add, show ((6 : Int)) = ((6 : Nat) : Int) from rfl, cut_hi, zc]
      rfl
    refine isWd_of ?_ ?_ ?_
    · rw [e]; simp
    · rw [e]; simp; omega
    · rw [e]
      intro d hd
      rcases List.mem_append.mp hd with hd | hd
      · rcases List.mem_append.mp hd with hd | hd
        · exact hc d (List.mem_of_mem_take hd)
        · rw [List.mem_singleton.mp hd]; omega
      · rw [List.mem_singleton.mp hd]; omega

section
variable {P : Program} {w : World} {K : PySem.W.Frag} {mg : Str → Option Value} {base : Heap} {f : Addr} {fd : FuncData}
def spFresh : Sp := fun vs H Q _ => ∃ (a u : Addr) (ws : List Str), vs = [.ref a, .ref u] ∧ PurseAt H a ∧ H u = some (.lst (ws.map V.str)) ∧ u ≠ a ∧ ws.length ≤ 35 ∧
  ∀ (z : Str) (H' : Hp), IsWd z → z ∉ ws → PurseAt H' a → SameX a H H' → Q (.str z) H'
abbrev nFresh : List Str := ["_law_purse_here", "_law_used", "_law_sound", "_law_spare", "_law_sign", "_law_lone"]
theorem scFresh : FnScope nFresh ["_law_purse_here", "_law_used"] (defScope sFresh) :=
  ⟨rfl, rfl, rfl, by decide +kernel, rfl, by decide +kernel, by decide +kernel⟩
def addS (A : Str) (B : Str) : V → V
  | .str s => .str (A ++ s ++ B)
  | v => v
theorem wd_line {z : Str} (h : IsWd z) : z.length ≤ sizeLine := lzl (by have := h.len; omega)
theorem ok_fresh (F : Fun K "_law_fresh" "_law_fresh" sFresh f fd) (B : Bi mg) (hW : Has P w K mg base "_law_word" 2 ["_law_purse_here"] spWord) :
    FnOk P w K mg base CX0 3 f fd ["_law_purse_here", "_law_used"] spFresh := by
  refine F.ok scFresh (fun vs H Q E h => ?_) (fun cdv A outer s H vs Q E hr h => ?_)
  · obtain ⟨a, u, ws, rfl, _⟩ := h
    rfl
  · obtain ⟨a, u, ws, rfl, hA, hu, nua, hl, q⟩ := h
    refine ⟨_, pss_cons (ps_set (i := 2) scFresh.nd rfl (.inr rfl) (pe_h hW hr (pa_cons (pv 0) pa_nil)))
      (pss_cons (ps_if (pt_cmpR op_notIn_seq (pv 2) (pv 1) (by rfl)) (pss_one (ps_ret (pv 2))) pss_nil)
      (pss_cons (ps_setLc (i := 3) (own := [("_law_sign", 4)]) (g := gName 4) (tt := tYes) rfl scFresh.nd rfl rfl (sw_true rfl rfl rfl (by decide +kernel)) (pi_str pe_str) (blkOk_by (N := nFresh) (sc := defScope sFresh) (by decide +kernel))
        (fun _ _ _ _ _ => pg_name (i := 4) scFresh.nd rfl (.inl rfl)) (fun _ _ _ _ _ => pts_nil) (fun _ _ _ _ _ => pe_op op_add_str (pe_slice sl_str (pv 2) po_none (po_some pe_int)) (pv 4)))
      (pss_cons (ps_set (i := 3) scFresh.nd rfl (.inl rfl) (pe_op op_cat (pv 3) (pe_lc (own := [("_law_sign", 4)]) (g := gName 4) (tt := tYes) rfl scFresh.nd (pi_str pe_str) (blkOk_by (N := nFresh) (sc := defScope sFresh) (by decide +kernel))
        (fun _ _ _ _ _ => pg_name (i := 4) scFresh.nd rfl (.inl rfl)) (fun _ _ _ _ _ => pts_nil) (fun _ _ _ _ _ => pe_op op_add_str (pe_op op_add_str (pe_slice sl_str (pv 2) po_none (po_some pe_int)) (pv 4)) pe_str))))
      (pss_one (ps_ret (pe_ix ix_list (pe_lc (own := [("_law_lone", 5)]) (g := gName 5) (tt := tTest (tOp (rIn K true) (tVar 5) (tVar 1))) rfl scFresh.nd (pi_list (pv 3)) (blkOk_by (N := nFresh) (sc := defScope sFresh) (by decide +kernel))
        (fun _ _ _ _ _ => pg_name (i := 5) scFresh.nd rfl (.inl rfl)) (fun _ _ _ _ _ => pts_one (pt_cmpR op_notIn_seq (pv 5) (pv 1) (by rfl))) (fun _ _ _ _ _ => pv 5)) pe_int (fun _ _ => rfl))))))), ?_⟩
    refine ⟨_, rfl, a, rfl, hA, fun z H1 hz hA1 s1 => ?_⟩
    have hu1 : H1 u = some (.lst (ws.map V.str)) := s1 _ _ nua hu
    refine ⟨_, rfl, _, rfl, u, ws.map V.str, rfl, .inl (.inl (.inl hu1)), rfl, flat_strs ws, _, rfl, ite_b (fun e => ?_) (fun e => ?_)⟩
    · rw [if_pos rfl, inV_strs, Bool.not_eq_true', decide_eq_false_iff_not] at e
      exact ⟨_, rfl, q z H1 hz e hA1 s1⟩
    · refine ⟨_, rfl, fun D hD => lc_map walk_signs hD (fun _ => true) (addS (cutS z none (some 7)) ⟨#[]⟩) (fun _ _ => trivial) (fun _ => rfl) (fun x H' _ _ Q' q' => q') ?_ lz ?_⟩
      · intro x H' hx _ _ Q' q'
        obtain ⟨c, hc, rfl⟩ := List.mem_map.mp hx
        refine ⟨_, rfl, 7, rfl, z, rfl, wd_line hz, _, rfl, _, _, rfl, rfl, ?_, ?_⟩
        · have := cutS_length z none (some 7)
          have := hz.len
          exact lzl (by show (cutS z none (some 7)).length + 1 ≤ 1000; omega)
        · have e0 : addS (cutS z none (some 7)) ⟨#[]⟩ (.str (sign c)) = .str (cutS z none (some 7) ++ sign c) := by
            refine congrArg V.str (str_ext ?_)
            rw [codes_add]
            simp
          rw [e0] at q'
          exact q'
      · intro H2 s2 hD2
        have hu2 := s2 _ _ hu1
        have hA2 := hA1.same s2
        refine ⟨_, rfl, _, rfl, fun D3 hD3 => lc_map walk_signs hD3 (fun _ => true) (addS (cutS z none (some 6)) "z") (fun _ _ => trivial) (fun _ => rfl) (fun x H' _ _ Q' q' => q') ?_ lz ?_⟩
        · intro x H' hx _ _ Q' q'
          obtain ⟨c, hc, rfl⟩ := List.mem_map.mp hx
          have h6 := cutS_length z none (some 6)
          have hl8 := hz.len
          have hz1 : ("z" : Str).length = 1 := by decide +kernel
          have hadd : (cutS z none (some 6) ++ sign c).length = (cutS z none (some 6)).length + 1 := by
            rw [TL.len_tl, TL.tl_append, List.length_append, ← TL.len_tl]
            rfl
          refine ⟨_, rfl, 6, rfl, z, rfl, wd_line hz, _, rfl, _, _, rfl, rfl, ?_, _, _, rfl, rfl, ?_, q'⟩
          · exact lzl (by show (cutS z none (some 6)).length + 1 ≤ 1000; omega)
          · exact lzl (by rw [hz1]; show (cutS z none (some 6) ++ sign c).length + 1 ≤ 1000; omega)
        · intro H4 s4 hD4
          have e26 : (signsOf ("abcdefghijklmnopqrstuvwxyz" : Str)).filter (fun _ => true) = signsOf ("abcdefghijklmnopqrstuvwxyz" : Str) := List.filter_eq_self.mpr fun _ _ => rfl
          have e13 : (signsOf ("abcdefghijklm" : Str)).filter (fun _ => true) = signsOf ("abcdefghijklm" : Str) := List.filter_eq_self.mpr fun _ _ => rfl
          have c13 : ("abcdefghijklm" : Str).cps.toList = List.range' 97 13 := by decide +kernel
          have eall : ((signsOf ("abcdefghijklmnopqrstuvwxyz" : Str)).filter (fun _ => true)).map (addS (cutS z none (some 7)) ⟨#[]⟩) ++ ((signsOf ("abcdefghijklm" : Str)).filter (fun _ => true)).map (addS (cutS z none (some 6)) "z")
              = (spareS (cutS z none (some 7)) (cutS z none (some 6))).map V.str := by
            rw [e26, e13]
            unfold signsOf spareS
            rw [letters_eq, c13, List.map_append, List.map_map, List.map_map, List.map_map, List.map_map]
            congr 1
          refine ⟨D, D3, _, _, rfl, rfl, s4 _ _ hD2, hD4, lz, fun p5 hp5 => ?_⟩
          rw [eall]
          have s5 : Same H1 (upd H4 p5 (.lst ((spareS (cutS z none (some 7)) (cutS z none (some 6))).map V.str))) := (s2.trans s4).trans (same_new hp5)
          refine ⟨_, rfl, p5, rfl, ⟨_, .inl (.inl upd_same)⟩, fun D6 hD6 => lc_map (walk_list (K := K) (a := p5) (xs := (spareS (cutS z none (some 7)) (cutS z none (some 6))).map V.str)) hD6 (fun v => !inV v (ws.map V.str)) id (fun H' s' => .inl (.inl (s' _ _ upd_same))) (fun _ => rfl) ?_ ?_ lz ?_⟩
          · intro x H' hx s' Q' q'
            obtain ⟨y, hy, rfl⟩ := List.mem_map.mp hx
            exact ⟨_, rfl, _, rfl, u, _, rfl, .inl (.inl (.inl (s' _ _ (s5 _ _ hu1)))), rfl, flat_strs ws, _, rfl, q'⟩
          · intro x H' hx _ _ Q' q'
            exact ⟨_, rfl, q'⟩
          · intro H7 s7 hD7
            obtain ⟨y0, hy0, hn0⟩ := spare_free (cutS z none (some 7)) (cutS z none (some 6)) ws hl
            have hf : ((spareS (cutS z none (some 7)) (cutS z none (some 6))).map V.str).filter (fun v => !inV v (ws.map V.str)) = ((spareS (cutS z none (some 7)) (cutS z none (some 6))).filter fun y => decide (y ∉ ws)).map V.str := by
              rw [List.filter_map]
              congr 1
              refine List.filter_congr fun y _ => ?_
              simp only [Function.comp, inV_strs]
              by_cases c : y ∈ ws <;> simp [c]
            rw [List.map_id, hf] at hD7
            have hm0 : y0 ∈ (spareS (cutS z none (some 7)) (cutS z none (some 6))).filter fun y => decide (y ∉ ws) := List.mem_filter.mpr ⟨hy0, decide_eq_true hn0⟩
            cases hcl : (spareS (cutS z none (some 7)) (cutS z none (some 6))).filter fun y => decide (y ∉ ws) with
            | nil =>
              rw [hcl] at hm0
              cases hm0
            | cons y r =>
              have hym : y ∈ (spareS (cutS z none (some 7)) (cutS z none (some 6))).filter fun y => decide (y ∉ ws) := by
                rw [hcl]
                exact List.mem_cons_self
              obtain ⟨hy1, hy2⟩ := List.mem_filter.mp hym
              refine ⟨D6, _, 0, .str y, rfl, rfl, .inl (.inl hD7), atI_nat (j := 0) (by rw [hcl]; rfl), ?_⟩
              exact q y H7 (spare_wd hz y hy1) (of_decide_eq_true hy2) (hA1.same (s5.trans s7)) (s1.trans (sx (s5.trans s7)))
end
end Wl




namespace Wl
open PySem PySem.Spec PyProof.Rows L2
abbrev Row := List (Option Str)
abbrev Grid := List Row
def rnames (r : Row) : List Str := r.filterMap id
def names (g : Grid) : List Str := g.flatten.filterMap id
theorem names_nil : names [] = [] := rfl
theorem names_snoc (g : Grid) (r : Row) : names (g ++ [r]) = names g ++ rnames r := by
  unfold names rnames
  rw [List.flatten_append, List.filterMap_append]
  simp
theorem names_cons (r : Row) (g : Grid) : names (r :: g) = rnames r ++ names g := by
  unfold names rnames
  rw [List.flatten_cons, List.filterMap_append]
theorem rnames_snoc (r : Row) (o : Option Str) : rnames (r ++ [o]) = rnames r ++ o.toList := by
  unfold rnames
  rw [List.filterMap_append]
  cases o <;> rfl
structure Good (g : Grid) (wd : Nat) : Prop where
  h1 : 1 ≤ g.length
  h6 : g.length ≤ 6
  w1 : 1 ≤ wd
  w6 : wd ≤ 6
  rows : ∀ r ∈ g, r.length = wd
  nd : (names g).Nodup
  wd : ∀ z ∈ names g, IsWd z
  ne : names g ≠ []
/-- the heap keeps its tuples -/
def TupKeep (H H' : Hp) : Prop := ∀ p xs, H p = some (.tup xs) → H' p = some (.tup xs)
theorem TupKeep.refl (H : Hp) : TupKeep H H := fun _ _ h => h
theorem TupKeep.trans {H H1 H2 : Hp} (a : TupKeep H H1) (b : TupKeep H1 H2) : TupKeep H H2 := fun p xs h => b p xs (a p xs h)
theorem tk_same {H H' : Hp} (s : Same H H') : TupKeep H H' := fun p xs h => s p _ h
theorem tk_x {a : Addr} {H H' : Hp} {ys : List V} (s : SameX a H H') (ha : H a = some (.lst ys)) : TupKeep H H' := fun p xs h => s p _ (ne_of h ha (by intro z; cases z)) h
theorem tk_upd {a : Addr} {H : Hp} {ys : List V} {o : HO} (ha : H a = some (.lst ys)) : TupKeep H (upd H a o) := tk_x sameX_upd ha
theorem tk_new {p : Addr} {H : Hp} {o : HO} (hp : H p = none) : TupKeep H (upd H p o) := tk_same (same_new hp)
/-- rows of a grid as tuples -/
def RowsAt (H : Hp) (as : List Addr) (g : Grid) : Prop := Each (fun (p : Addr) (row : Row) => H p = some (.tup (row.map oV))) as g
theorem RowsAt.keep {H H' : Hp} {as : List Addr} {g : Grid} (h : RowsAt H as g) (k : TupKeep H H') : RowsAt H' as g := Each.mono (fun p row e => k p _ e) h
def GridAt (H : Hp) (L : Addr) (g : Grid) : Prop := ∃ as : List Addr, H L = some (.tup (as.map V.ref)) ∧ RowsAt H as g
theorem GridAt.keep {H H' : Hp} {L : Addr} {g : Grid} (h : GridAt H L g) (k : TupKeep H H') : GridAt H' L g := by
  obtain ⟨as, h1, h2⟩ := h
  exact ⟨as, k _ _ h1, h2.keep k⟩
/-- the part at a row and a column, none where there is none -/
def cellAt (g : Grid) (r c : Nat) : Option Str := match g[r]? with
  | some row => (row[c]?).getD none
  | none => none
theorem cellAt_some {g : Grid} {r c : Nat} {z : Str} (h : cellAt g r c = some z) : ∃ row, g[r]? = some row ∧ row[c]? = some (some z) := by
  unfold cellAt at h
  cases e : g[r]? with
  | none => rw [e] at h; cases h
  | some row =>
    rw [e] at h
    refine ⟨row, rfl, ?_⟩
    cases e2 : row[c]? with
    | none => simp only [e2] at h; cases h
    | some o => simp only [e2, Option.getD_some] at h; rw [h]
theorem cellAt_of {g : Grid} {r c : Nat} {row : Row} {o : Option Str} (h : g[r]? = some row) (k : row[c]? = some o) : cellAt g r c = o := by
  unfold cellAt
  rw [h]
  simp [k]
/-! ### the spots -/
def spR (i j : Nat) : Row → List (Str × Nat × Nat)
  | [] => []
  | none :: r => spR i (j + 1) r
  | some z :: r => (z, i, j) :: spR i (j + 1) r
def spG (i : Nat) : Grid → List (Str × Nat × Nat)
  | [] => []
  | row :: g => spR i 0 row ++ spG (i + 1) g
theorem spR_snoc (i : Nat) : ∀ (r : Row) (j : Nat) (o : Option Str), spR i j (r ++ [o]) = spR i j r ++ (o.toList.map fun z => (z, i, j + r.length))
  | [], j, none => rfl
  | [], j, some z => rfl
  | none :: r, j, o => by
    show spR i (j + 1) (r ++ [o]) = spR i (j + 1) r ++ _
    rw [spR_snoc i r (j + 1) o, List.length_cons]
    congr 2
    funext z
    rw [Nat.add_right_comm, Nat.add_assoc]
  | some y :: r, j, o => by
    show (y, i, j) :: spR i (j + 1) (r ++ [o]) = (y, i, j) :: spR i (j + 1) r ++ _
    rw [spR_snoc i r (j + 1) o, List.length_cons, List.cons_append]
    congr 3
    funext z
    rw [Nat.add_right_comm, Nat.add_assoc]
theorem spG_snoc : ∀ (g : Grid) (i : Nat) (r : Row), spG i (g ++ [r]) = spG i g ++ spR (i + g.length) 0 r
  | [], i, r => by simp [spG]
  | x :: g, i, r => by
    show spR i 0 x ++ spG (i + 1) (g ++ [r]) = spR i 0 x ++ spG (i + 1) g ++ _
    rw [spG_snoc g (i + 1) r, List.length_cons, List.append_assoc]
    congr 3
    omega
theorem spR_fst (i : Nat) : ∀ (r : Row) (j : Nat), (spR i j r).map (·.1) = rnames r
  | [], _ => rfl
  | none :: r, j => spR_fst i r (j + 1)
  | some z :: r, j => congrArg (z :: ·) (spR_fst i r (j + 1))
theorem spG_fst : ∀ (g : Grid) (i : Nat), (spG i g).map (·.1) = names g
  | [], _ => rfl
  | r :: g, i => by
    show (spR i 0 r ++ spG (i + 1) g).map (·.1) = _
    rw [List.map_append, spR_fst, spG_fst g (i + 1), names_cons]
theorem spR_mem (i : Nat) {z : Str} {a b : Nat} : ∀ (r : Row) (j : Nat), (z, a, b) ∈ spR i j r ↔ a = i ∧ ∃ k, b = j + k ∧ r[k]? = some (some z)
  | [], j => by simp [spR]
  | none :: r, j => by
    show (z, a, b) ∈ spR i (j + 1) r ↔ _
    rw [spR_mem i r (j + 1)]
    constructor
    · rintro ⟨h, k, e, q⟩
      exact ⟨h, k + 1, by omega, by simpa using q⟩
    · rintro ⟨h, k, e, q⟩
      cases k with
      | zero => simp at q
      | succ k => exact ⟨h, k, by omega, by simpa using q⟩
  | some y :: r, j => by
    show (z, a, b) ∈ (y, i, j) :: spR i (j + 1) r ↔ _
    rw [List.mem_cons, spR_mem i r (j + 1)]
    constructor
    · rintro (h | ⟨h, k, e, q⟩)
      · cases h
        exact ⟨rfl, 0, rfl, rfl⟩
      · exact ⟨h, k + 1, by omega, by simpa using q⟩
    · rintro ⟨h, k, e, q⟩
      cases k with
      | zero =>
        simp at q
        subst q h
        exact .inl (by rw [e, Nat.add_zero])
      | succ k => exact .inr ⟨h, k, by omega, by simpa using q⟩
theorem spG_mem {z : Str} {a b : Nat} : ∀ (g : Grid) (i : Nat), (z, a, b) ∈ spG i g ↔ ∃ k row, a = i + k ∧ g[k]? = some row ∧ row[b]? = some (some z)
  | [], i => by simp [spG]
  | r :: g, i => by
    show (z, a, b) ∈ spR i 0 r ++ spG (i + 1) g ↔ _
    rw [List.mem_append, spR_mem, spG_mem g (i + 1)]
    constructor
    · rintro (⟨h, k, e, q⟩ | ⟨k, row, e, q, t⟩)
      · exact ⟨0, r, by omega, rfl, by rw [e, Nat.zero_add]; exact q⟩
      · exact ⟨k + 1, row, by omega, by simpa using q, t⟩
    · rintro ⟨k, row, e, q, t⟩
      cases k with
      | zero =>
        simp at q
        subst q
        exact .inl ⟨by omega, b, by omega, t⟩
      | succ k => exact .inr ⟨k, row, by omega, by simpa using q, t⟩
theorem spG_cell {g : Grid} {z : Str} {r c : Nat} : (z, r, c) ∈ spG 0 g ↔ cellAt g r c = some z := by
  rw [spG_mem]
  constructor
  · rintro ⟨k, row, e, q, t⟩
    have : r = k := by omega
    subst this
    exact cellAt_of q t
  · intro h
    obtain ⟨row, q, t⟩ := cellAt_some h
    exact ⟨r, row, by omega, q, t⟩
theorem mem_names {g : Grid} {z : Str} : z ∈ names g ↔ ∃ r c, cellAt g r c = some z := by
  rw [← spG_fst g 0]
  constructor
  · intro h
    obtain ⟨⟨y, r, c⟩, hm, rfl⟩ := List.mem_map.mp h
    exact ⟨r, c, spG_cell.mp hm⟩
  · rintro ⟨r, c, h⟩
    exact List.mem_map.mpr ⟨_, spG_cell.mpr h, rfl⟩
theorem nodup_fst {α β : Type} : ∀ {l : List (α × β)}, (l.map (·.1)).Nodup → ∀ {a : α} {b b' : β}, (a, b) ∈ l → (a, b') ∈ l → b = b'
  | [], _, _, _, _, h, _ => by cases h
  | x :: l, nd, a, b, b', h, k => by
    obtain ⟨h1, h2⟩ := List.nodup_cons.mp nd
    rcases List.mem_cons.mp h with e | h <;> rcases List.mem_cons.mp k with e' | k
    · rw [← e] at e'
      exact (Prod.mk.inj e').2.symm
    · exact absurd (List.mem_map.mpr ⟨_, k, by rw [← e]⟩) h1
    · exact absurd (List.mem_map.mpr ⟨_, h, by rw [← e']⟩) h1
    · exact nodup_fst h2 h k
theorem cell_inj {g : Grid} (nd : (names g).Nodup) {z : Str} {r c r' c' : Nat} (h : cellAt g r c = some z) (k : cellAt g r' c' = some z) : r = r' ∧ c = c' := by
  have := nodup_fst (l := spG 0 g) (by rw [spG_fst]; exact nd) (spG_cell.mpr h) (spG_cell.mpr k)
  exact Prod.mk.inj this
theorem Good.cell {g : Grid} {wd : Nat} (G : Good g wd) {r c : Nat} {z : Str} (h : cellAt g r c = some z) : r < g.length ∧ c < wd := by
  obtain ⟨row, h1, h2⟩ := cellAt_some h
  obtain ⟨a, e⟩ := List.getElem?_eq_some_iff.mp h1
  obtain ⟨b, _⟩ := List.getElem?_eq_some_iff.mp h2
  have := G.rows row (List.mem_of_getElem? h1)
  exact ⟨a, by omega⟩
theorem Good.len {g : Grid} {wd : Nat} (G : Good g wd) : (names g).length ≤ 36 := by
  have h : ∀ l : Grid, (∀ r ∈ l, r.length = wd) → (names l).length ≤ l.length * wd := by
    intro l
    induction l with
    | nil => intro _; simp [names]
    | cons r l ih =>
      intro h
      rw [names_cons, List.length_append, List.length_cons]
      have h1 : (rnames r).length ≤ wd := by
        have := List.length_filterMap_le id r
        have := h r List.mem_cons_self
        unfold rnames
        omega
      have h2 := ih fun r hr => h r (List.mem_cons_of_mem _ hr)
      rw [Nat.succ_mul]
      omega
  have h1 := h g G.rows
  have h2 : g.length * wd ≤ 6 * 6 := Nat.mul_le_mul G.h6 G.w6
  omega
end Wl

namespace Wl
open PySem PySem.Spec PyProof.Rows L2
section
variable {P : Program} {w : World} {K : PySem.W.Frag} {mg : Str → Option Value} {base : Heap} {f : Addr} {fd : FuncData}
def spLand : Sp := fun vs H Q _ => ∃ (a : Addr) (m : Int), vs = [.ref a, .int m] ∧ PurseAt H a ∧ 1 ≤ m ∧ m ≤ 6 ∧
  ∀ (L : Addr) (g : Grid) (wd : Nat) (H' : Hp), Good g wd → (g.length : Int) ≤ m → (wd : Int) ≤ m → GridAt H' L g → PurseAt H' a → SameX a H H' → Q (.ref L) H'
abbrev nLand : List Str := ["_law_purse_here", "_law_topmost", "_law_high", "_law_wide", "_law_names_here", "_law_lots", "_law_row_here", "_law_parts", "_law_column", "_law_lake", "_law_label"]
theorem scLand : FnScope nLand ["_law_purse_here", "_law_topmost"] (defScope sLand) :=
  ⟨rfl, rfl, rfl, by decide +kernel, rfl, by decide +kernel, by decide +kernel⟩
/-- what holds of the heap while the land is laid: the rows laid so far, the parts of this one -/
structure Laying (H0 H : Hp) (a tA lA : Addr) (g : Grid) (wd : Nat) (ps : Row) : Prop where
  purse : PurseAt H a
  same : SameX a H0 H
  towns : H tA = some (.lst ((names g ++ rnames ps).map V.str))
  laid : ∃ as, H lA = some (.lst (as.map V.ref)) ∧ RowsAt H as g
  rows : ∀ r ∈ g, r.length = wd
  nd : (names g ++ rnames ps).Nodup
  wds : ∀ z ∈ names g ++ rnames ps, IsWd z
theorem len_names {g : Grid} {wd : Nat} (h : ∀ r ∈ g, r.length = wd) : (names g).length ≤ g.length * wd := by
  induction g with
  | nil => simp [names]
  | cons r l ih =>
    rw [names_cons, List.length_append, List.length_cons]
    have h1 : (rnames r).length ≤ wd := by
      have := List.length_filterMap_le id r
      have := h r List.mem_cons_self
      unfold rnames
      omega
    have h2 := ih fun r hr => h r (List.mem_cons_of_mem _ hr)
    rw [Nat.succ_mul]
    omega
theorem lake_reads {σ : L2.St} {H : Hp} {Q : VK} {a tA : Addr} {ws : List Str} {x y hi wd : Int} (e0 : σ[0]? = some (some (.ref a))) (e4 : σ[4]? = some (some (.ref tA))) (e6 : σ[6]? = some (some (.int x))) (e8 : σ[8]? = some (some (.int y)))
    (e2 : σ[2]? = some (some (.int hi))) (e3 : σ[3]? = some (some (.int wd))) (hA : PurseAt H a) (ht : H tA = some (.lst (ws.map V.str))) (nta : tA ≠ a) (hws : ∀ z ∈ ws, IsWd z)
    (q : ∀ (b : Bool) (H' : Hp), PurseAt H' a → SameX a H H' → (b = true → ws ≠ [] ∨ x + y + 2 < hi + wd) → Q (.bl b) H') :
    tAndV (tOp rEq (tCall spPick [] E0 (tCons (tVar 0) (tCons (tC (.int 6)) tNil))) (tC (.int 5)))
      (tOrV (tOp (rNeD K) (tVar 4) (tLst tNil)) (tOp (rI0 fun i j => .bl (decide (i < j))) (tOp (rI0 fun i j => .int (i + j)) (tOp (rI0 fun i j => .int (i + j)) (tVar 6) (tVar 8)) (tC (.int 2))) (tOp (rI0 fun i j => .int (i + j)) (tVar 2) (tVar 3)))) σ H Q := by
  refine ⟨_, e0, a, 6, rfl, hA, by decide, by decide, fun r H1 r0 r1 hA1 s1 n1 => ⟨rfl, _, rfl, ite_b (fun e => ?_) (fun e => ?_)⟩⟩
  · refine ⟨_, e4, lz, fun p hp => ⟨.list (ws.map .str), .list [], .lst (.inl (.inl ((same_new hp) _ _ (s1 _ _ nta ht)))) (dp_strs ws), .lst (.inl (.inl upd_same)) .nil, shaped_list (lay_strs hws) (by rw [depth_strs]; decide), rfl, _, rfl, ite_b (fun e => ?_) (fun e => ?_)⟩⟩
    · refine q true _ (hA1.same (same_new hp)) (s1.trans (sx (same_new hp))) fun _ => .inl fun z => ?_
      subst z
      cases e
    · refine ⟨_, e6, _, e8, _, _, rfl, rfl, _, _, rfl, rfl, _, e2, _, e3, _, _, rfl, rfl, _, _, rfl, rfl, ?_⟩
      exact q _ _ (hA1.same (same_new hp)) (s1.trans (sx (same_new hp))) fun z => .inr (of_decide_eq_true z)
  · exact q false _ hA1 s1 fun z => by cases z
theorem Laying.go {H0 H H' : Hp} {a tA lA : Addr} {g : Grid} {wd : Nat} {ps : Row} (h : Laying H0 H a tA lA g wd ps) (nt : tA ≠ a) (nl : lA ≠ a) (hp : PurseAt H' a) (s : SameX a H H') : Laying H0 H' a tA lA g wd ps := by
  obtain ⟨as, hl, hR⟩ := h.laid
  obtain ⟨ys, ha⟩ := h.purse.lst
  exact ⟨hp, h.same.trans s, s _ _ nt h.towns, ⟨as, s _ _ nl hl, hR.keep (tk_x s ha)⟩, h.rows, h.nd, h.wds⟩
theorem ok_land (F : Fun K "_law_land" "_law_land" sLand f fd) (B : Bi mg) (hp : Has P w K mg base "_law_pick" 1 ["_law_purse_here", "_law_count"] spPick) (hF : Has P w K mg base "_law_fresh" 3 ["_law_purse_here", "_law_used"] spFresh) :
    FnOk P w K mg base CX0 4 f fd ["_law_purse_here", "_law_topmost"] spLand := by
  refine F.ok scLand (fun vs H Q E h => ?_) (fun cdv A outer s H vs Q E hr h => ?_)
  · obtain ⟨a, m, rfl, _⟩ := h
    rfl
  · obtain ⟨a, m, rfl, hA, m1, m6, q⟩ := h
    refine ⟨_, pss_cons (ps_par3 (i := 2) (j := 3) (l := 4) (by rfl) scLand.nd rfl rfl rfl (by decide) (by decide) (by decide) rfl rfl rfl (pa_cons (pe_op op_add pe_int (pe_h hp hr (pa_cons (pv 0) (pa_cons (pv 1) pa_nil)))) (pa_cons (pe_op op_add pe_int (pe_h hp hr (pa_cons (pv 0) (pa_cons (pv 1) pa_nil)))) (pa_cons (pe_lst pa_nil) pa_nil))) (by rfl))
      (pss_cons (ps_set (i := 5) scLand.nd rfl (.inl rfl) (pe_lst pa_nil))
      (pss_cons (ps_for PassesOwn.never rfl (pi_range1 rfl B.range (pa_cons (pv 2) pa_nil)) (pg_name (i := 6) scLand.nd rfl (.inl rfl))
        (pss_cons (ps_set (i := 7) scLand.nd rfl (.inl rfl) (pe_lst pa_nil))
        (pss_cons (ps_for PassesOwn.never rfl (pi_range1 rfl B.range (pa_cons (pv 3) pa_nil)) (pg_name (i := 8) scLand.nd rfl (.inl rfl))
          (pss_cons (ps_set (i := 9) scLand.nd rfl (.inl rfl) (pe_and (pe_cmpR op_eq (pe_h hp hr (pa_cons (pv 0) (pa_cons pe_int pa_nil))) pe_int (nomark _)) (pe_one (pe_or (pe_cmpR (op_neD hr.units) (pv 4) (pe_lst pa_nil) (nomark _)) (pe_one (pe_cmpR op_lt (pe_op op_add (pe_op op_add (pv 6) (pv 8)) pe_int) (pe_op op_add (pv 2) (pv 3)) (nomark _)))))))
          (pss_cons (ps_set (i := 10) scLand.nd rfl (.inl rfl) (pe_h hF hr (pa_cons (pv 0) (pa_cons (pv 4) pa_nil))))
          (pss_cons (ps_if (pt_truth (pv 9) (by intro _; rfl)) (pss_one (ps_set (i := 10) scLand.nd rfl (.inl rfl) pe_non)) (pss_one (ps_expr (pe_bm PySem.F.plainAttrs_list PySem.F.slot_list_append PySem.F.type_list_append mt_append (pv 4) (pa_cons (pv 10) pa_nil)))))
          (pss_one (ps_expr (pe_bm PySem.F.plainAttrs_list PySem.F.slot_list_append PySem.F.type_list_append mt_append (pv 7) (pa_cons (pv 10) pa_nil))))))))
        (pss_one (ps_expr (pe_bm PySem.F.plainAttrs_list PySem.F.slot_list_append PySem.F.type_list_append mt_append (pv 5) (pa_cons (pe_callTy call_tuple_of (by rfl) B.tuple (by decide +kernel) (pa_cons (pv 7) pa_nil)) pa_nil)))))))
      (pss_one (ps_ret (pe_callTy call_tuple_of (by rfl) B.tuple (by decide +kernel) (pa_cons (pv 5) pa_nil)))))), ?_⟩
    refine ⟨_, rfl, _, rfl, a, m, rfl, hA, by omega, by omega, fun r1 H1 r10 r11 hA1 s1 n1 => ⟨_, _, rfl, rfl, ?_⟩⟩
    refine ⟨_, rfl, _, rfl, a, m, rfl, hA1, by omega, by omega, fun r2 H2 r20 r21 hA2 s2 n2 => ⟨_, _, rfl, rfl, ?_⟩⟩
    refine ⟨lz, fun tA htA => ⟨_, _, _, rfl, lz, fun lA hlA => ?_⟩⟩
    have nta : tA ≠ a := hA2.ne htA
    have nla : lA ≠ a := (hA2.same (same_new htA)).ne hlA
    have nlt : lA ≠ tA := (ne_of_none upd_same hlA).symm
    have htA0 : H tA = none := SameX.free (s1.trans s2) nta htA
    have hlA0 : H lA = none := SameX.free ((s1.trans s2).trans (sx (same_new htA))) nla hlA
    obtain ⟨hi, ehi⟩ : ∃ hi : Nat, 1 + r1 = (hi : Int) := ⟨(1 + r1).toNat, by omega⟩
    obtain ⟨wd, ewd⟩ : ∃ wd : Nat, 1 + r2 = (wd : Int) := ⟨(1 + r2).toNat, by omega⟩
    have n1 : (1 + r1).toNat = hi := by omega
    have n2 : (1 + r2).toNat = wd := by omega
    have hhi : 1 ≤ hi ∧ hi ≤ 6 := by omega
    have hwd : 1 ≤ wd ∧ wd ≤ 6 := by omega
    have L0 : Laying H (upd (upd H2 tA (.lst [])) lA (.lst [])) a tA lA [] wd [] := by
      refine ⟨(hA2.same (same_new htA)).same (same_new hlA), sameX_mut (sameX_mut (s1.trans s2) htA0) hlA0, ?_, ⟨[], upd_same, .nil⟩, (fun r hr => nomatch hr), List.nodup_nil, (fun z hz => nomatch hz)⟩
      rw [upd_ne nlt.symm, upd_same]
      rfl
    generalize upd (upd H2 tA (.lst [])) lA (.lst []) = H3 at L0
    refine ⟨_, rfl, 1 + r1, rfl, by omega, by omega, ?_⟩
    rw [n1]
    refine for_range (lo := 0) (n := hi) (fun i σ H' => ∃ (g : Grid) (y6 y7 y8 y9 y10 : Option V), σ = [some (.ref a), some (.int m), some (.int (1 + r1)), some (.int (1 + r2)), some (.ref tA), some (.ref lA), y6, y7, y8, y9, y10] ∧ g.length = i ∧ Laying H H' a tA lA g wd [] ∧ (i = hi → names g ≠ []))
      ⟨[], none, none, none, none, none, rfl, rfl, L0, fun e => by omega⟩ ?_ ?_
    · rintro i σ H4 hi4 ⟨g, y6, y7, y8, y9, y10, rfl, hgl, L4, _⟩
      refine ⟨lz, fun pA hpA => ?_⟩
      have npa : pA ≠ a := L4.purse.ne hpA
      have npt : pA ≠ tA := (ne_of_none L4.towns hpA).symm
      obtain ⟨as4, hl4, hR4⟩ := L4.laid
      have npl : pA ≠ lA := (ne_of_none hl4 hpA).symm
      have L5 := L4.go nta nla (L4.purse.same (same_new (o := .lst []) hpA)) (sx (same_new hpA))
      refine ⟨_, rfl, 1 + r2, rfl, by omega, by omega, ?_⟩
      rw [n2]
      refine for_range (lo := 0) (n := wd) (fun j σ H' => ∃ (ps : Row) (y8 y9 y10 : Option V), σ = [some (.ref a), some (.int m), some (.int (1 + r1)), some (.int (1 + r2)), some (.ref tA), some (.ref lA), some (.int (0 + i)), some (.ref pA), y8, y9, y10] ∧ ps.length = j ∧ Laying H H' a tA lA g wd ps ∧ H' pA = some (.lst (ps.map oV)) ∧ (i + 1 = hi → j = wd → names g ++ rnames ps ≠ []))
        ⟨[], _, _, _, rfl, rfl, L5, upd_same, fun _ e => by omega⟩ ?_ ?_
      · rintro j σ H6 hj ⟨ps, z8, z9, z10, rfl, hpl, L6, hp6, _⟩
        refine lake_reads (a := a) (tA := tA) (x := 0 + i) (y := 0 + j) (hi := 1 + r1) (wd := 1 + r2) rfl rfl rfl rfl rfl rfl L6.purse L6.towns nta L6.wds fun b H7 hA7 s7 hb => ?_
        have L7 := L6.go nta nla hA7 s7
        have hp7 := s7 _ _ npa hp6
        have hlen : (names g ++ rnames ps).length ≤ 35 := by
          have h1 := len_names L6.rows
          have h2 : (rnames ps).length ≤ ps.length := List.length_filterMap_le id ps
          rw [List.length_append]
          have h3 : g.length * wd ≤ 5 * wd := Nat.mul_le_mul_right _ (by omega)
          omega
        refine ⟨_, rfl, _, rfl, a, tA, names g ++ rnames ps, rfl, L7.purse, L7.towns, nta, hlen, fun z H8 hz hzn hA8 s8 => ?_⟩
        have L8 := L7.go nta nla hA8 s8
        have hp8 := s8 _ _ npa hp7
        have hlt : ((names g ++ rnames ps).map V.str).length < sizeLine := by
          rw [List.length_map]
          exact small1000 (by omega)
        have hpl2 : (ps.map oV).length < sizeLine := by
          rw [List.length_map]
          exact small1000 (by omega)
        refine ⟨_, rfl, b, rfl, ite_b (fun e => ?_) (fun e => ?_)⟩
        · -- a lake
          refine ⟨_, rfl, .inl ⟨rfl, _, .inl (.inl hp8)⟩, _, rfl, pA, _, _, rfl, rfl, hp8, hpl2, ?_⟩
          obtain ⟨as8, hl8, hR8⟩ := L8.laid
          refine ⟨ps ++ [none], _, _, _, rfl, by simp [hpl], ⟨?_, ?_, ?_, ⟨as8, ?_, hR8.keep (tk_upd hp8)⟩, L8.rows, ?_, ?_⟩, ?_, ?_⟩
          · obtain ⟨x0, x1, x2, hx, hx1⟩ := L8.purse
            exact ⟨x0, x1, x2, by rw [upd_ne npa.symm]; exact hx, hx1⟩
          · exact sameX_mut L8.same (SameX.free L4.same npa hpA)
          · rw [upd_ne npt.symm, rnames_snoc]
            simpa using L8.towns
          · rw [upd_ne npl.symm]
            exact hl8
          · rw [rnames_snoc]
            simpa using L8.nd
          · rw [rnames_snoc]
            simpa using L8.wds
          · rw [upd_same, List.map_append]
            rfl
          · intro e1 e2
            rw [rnames_snoc]
            rcases hb e with h | h
            · simpa using h
            · omega
        · -- a village
          refine ⟨_, rfl, .inl ⟨rfl, _, .inl (.inl L8.towns)⟩, _, rfl, tA, _, _, rfl, rfl, L8.towns, hlt, ?_⟩
          have hp9 : upd H8 tA (.lst ((names g ++ rnames ps).map V.str ++ [.str z])) pA = some (.lst (ps.map oV)) := by
            rw [upd_ne npt]
            exact hp8
          refine ⟨_, rfl, .inl ⟨rfl, _, .inl (.inl hp9)⟩, _, rfl, pA, _, _, rfl, rfl, hp9, hpl2, ?_⟩
          obtain ⟨as8, hl8, hR8⟩ := L8.laid
          have en : names g ++ rnames (ps ++ [some z]) = (names g ++ rnames ps) ++ [z] := by
            rw [rnames_snoc, List.append_assoc]
            rfl
          refine ⟨ps ++ [some z], _, _, _, rfl, by simp [hpl], ⟨?_, ?_, ?_, ⟨as8, ?_, (hR8.keep (tk_upd L8.towns)).keep (tk_upd hp9)⟩, L8.rows, ?_, ?_⟩, ?_, ?_⟩
          · obtain ⟨x0, x1, x2, hx, hx1⟩ := L8.purse
            exact ⟨x0, x1, x2, by rw [upd_ne npa.symm, upd_ne nta.symm]; exact hx, hx1⟩
          · exact sameX_mut (sameX_mut L8.same htA0) (SameX.free L4.same npa hpA)
          · rw [upd_ne npt.symm, upd_same, en]
            simp
          · rw [upd_ne npl.symm, upd_ne nlt]
            exact hl8
          · rw [en, List.nodup_append]
            refine ⟨L8.nd, by simp, fun x hx y hy e => ?_⟩
            rw [List.mem_singleton.mp hy] at e
            rw [e] at hx
            exact hzn hx
          · rw [en]
            intro y hy
            rcases List.mem_append.mp hy with hy | hy
            · exact L8.wds y hy
            · rw [List.mem_singleton.mp hy]
              exact hz
          · rw [upd_same, List.map_append]
            rfl
          · intro _ _
            rw [en]
            simp
      · rintro σ H6 ⟨ps, z8, z9, z10, rfl, hpl, L6, hp6, hne⟩
        obtain ⟨as6, hl6, hR6⟩ := L6.laid
        refine ⟨_, rfl, .inl ⟨rfl, _, .inl (.inl hl6)⟩, _, rfl, pA, _, rfl, .inl ⟨.inl (.inl hp6), fun t ht => ?_⟩⟩
        have nlt6 : lA ≠ t := ne_of_none hl6 ht
        refine ⟨lA, _, _, rfl, rfl, (same_new ht) _ _ hl6, ?_, ?_⟩
        · rw [List.length_map, hR6.length]
          exact small1000 (by omega)
        · refine ⟨g ++ [ps], _, _, _, _, _, rfl, by simp [hgl], ⟨?_, ?_, ?_, ⟨as6 ++ [t], ?_, ?_⟩, ?_, ?_, ?_⟩, ?_⟩
          · obtain ⟨x0, x1, x2, hx, hx1⟩ := L6.purse.same (same_new (o := .tup (ps.map oV)) ht)
            exact ⟨x0, x1, x2, by rw [upd_ne nla.symm]; exact hx, hx1⟩
          · exact sameX_mut (L6.same.trans (sx (same_new ht))) hlA0
          · rw [upd_ne nlt.symm, (same_new ht) _ _ L6.towns, names_snoc]
            simp [rnames]
          · rw [upd_same, List.map_append]
            rfl
          · refine Each.append ((hR6.keep (tk_new ht)).keep (tk_upd ((same_new ht) _ _ hl6))) (.cons ?_ .nil)
            rw [upd_ne nlt6.symm, upd_same]
          · intro r hr
            rcases List.mem_append.mp hr with hr | hr
            · exact L6.rows r hr
            · rw [List.mem_singleton.mp hr]
              exact hpl
          · rw [names_snoc]
            simpa [rnames] using L6.nd
          · rw [names_snoc]
            simpa [rnames] using L6.wds
          · intro e
            rw [names_snoc]
            exact hne e rfl
    · rintro σ H4 ⟨g, y6, y7, y8, y9, y10, rfl, hgl, L4, hne⟩
      obtain ⟨as4, hl4, hR4⟩ := L4.laid
      refine ⟨_, rfl, lA, _, rfl, .inl ⟨.inl (.inl hl4), fun t ht => ?_⟩⟩
      refine q t g wd _ ⟨by omega, by omega, hwd.1, hwd.2, L4.rows, ?_, ?_, hne rfl⟩ (by omega) (by omega) ⟨as4, upd_same, hR4.keep (tk_new ht)⟩ (L4.purse.same (same_new ht)) (L4.same.trans (sx (same_new ht)))
      · simpa [rnames] using L4.nd
      · simpa [rnames] using L4.wds
end
end Wl




namespace Wl
open PySem PySem.Spec PyProof.Rows L2
abbrev sIsWord : Stmt := topS 21
abbrev sAreRows : Stmt := topS 27
abbrev sWrong : Stmt := topS 28
abbrev sSpotsIn : Stmt := topS 29
abbrev sSpots : Stmt := topS 30
structure Gk (mg : Str → Option Value) : Prop where
  letters : ∃ t, mg "LETTERS" = some (.str "abcdefghijklmnopqrstuvwxyz" t)
  longest : ∃ t, mg "LONGEST_WORD" = some (.int 8 t)
  mrows : ∃ t, mg "MOST_ROWS" = some (.int 6 t)
  mcols : ∃ t, mg "MOST_COLUMNS" = some (.int 6 t)
section
variable {P : Program} {w : World} {K : PySem.W.Frag} {mg : Str → Option Value} {base : Heap} {f : Addr} {fd : FuncData}

/-! ### is_word of a text -/
def spIsWord : Sp := fun vs H Q _ => ∃ (z : Str), vs = [.str z] ∧ z.length ≤ 1000 ∧ ∀ (H' : Hp), Same H H' → Q (.bl (wdB z)) H'
abbrev nIsWord : List Str := ["thing", "letter"]
theorem scIsWord : FnScope nIsWord ["thing"] (defScope sIsWord) := ⟨rfl, rfl, rfl, by decide +kernel, rfl, by decide +kernel, by decide +kernel⟩
def letB (c : Nat) : Bool := decide (97 ≤ c) && decide (c ≤ 122)
def letV : V → V
  | .str s => .bl (s.cps.toList.all letB)
  | v => v
theorem letB_mem (c : Nat) : decide (c ∈ ("abcdefghijklmnopqrstuvwxyz" : Str).cps.toList) = letB c := by
  rw [letters_eq]
  unfold letB
  by_cases h : c ∈ List.range' 97 26
  · rw [decide_eq_true h]
    rw [List.mem_range'_1] at h
    simp
    omega
  · rw [decide_eq_false h]
    rw [List.mem_range'_1] at h
    symm
    rw [Bool.and_eq_false_iff, decide_eq_false_iff_not, decide_eq_false_iff_not]
    omega
theorem ok_isword (F : Fun K "is_word" "is_word" sIsWord f fd) (B : Bi mg) (G : Gk mg) : FnOk P w K mg base CX0 1 f fd ["thing"] spIsWord := by
  obtain ⟨t1, g1⟩ := G.letters
  obtain ⟨t2, g2⟩ := G.longest
  refine F.ok scIsWord (fun vs H Q E h => ?_) (fun cdv A outer s H vs Q E hr h => ?_)
  · obtain ⟨z, rfl, _⟩ := h
    rfl
  · obtain ⟨z, rfl, hz, q⟩ := h
    refine ⟨_, pss_cons (ps_if (PW.pt (pw_or (pt_not (pt_val (pe_callB call_isi (by rfl) B.isi (by decide +kernel) (pa_cons (pv 0) (pa_cons (pe_bltn (v := .ty "str") (by rfl) B.str (by decide +kernel) rfl) pa_nil)))))
        (pw_or1 (pt_not (pt_chain op_le op_le pe_int (pe_callB call_len_str (by rfl) B.len PySem.boot_len (pa_cons (pv 0) pa_nil)) (pe_glob (v := .int 8) rfl g2 ⟨_, rfl⟩)))))) (pss_one (ps_ret pe_bl)) pss_nil)
      (pss_one (ps_ret (pe_callB (cr_all rfl) (by rfl) B.all (by decide +kernel) (pa_cons (pe_lc (own := [("letter", 1)]) (g := gName 1) (tt := tYes) rfl scIsWord.nd (pi_str (pv 0)) (blkOk_by (N := nIsWord) (sc := defScope sIsWord) (by decide +kernel))
        (fun _ _ _ _ _ => pg_name (i := 1) scIsWord.nd rfl (.inl rfl)) (fun _ _ _ _ _ => pts_nil) (fun _ _ _ _ _ => pe_cmpR op_in_sign (pv 1) (pe_glob (v := .str "abcdefghijklmnopqrstuvwxyz") rfl g1 ⟨_, rfl⟩) rfl)) pa_nil)))), ?_⟩
    refine ⟨_, rfl, _, _, _, _, _, rfl, .ty "str", .base (.str z), kit_ty (r := true) (by decide +kernel), true, rfl, ?_⟩
    refine iteF ⟨_, rfl, _, rfl, lzl hz, _, _, rfl, rfl, _, rfl, ite_b (fun e1 => ?_) (fun e1 => ?_)⟩
    · refine ⟨_, _, rfl, rfl, _, rfl, not_b (fun e2 => ?_) (fun e2 => ?_)⟩
      · have e2' : ¬ ((z.length : Int) ≤ 8) := of_decide_eq_false e2
        have : wdB z = false := by
          unfold wdB
          rw [decide_eq_false (show ¬ z.length ≤ 8 by omega)]
          simp
        rw [← this]
        exact q H (Same.refl H)
      · have h1 : 1 ≤ z.length := by
          have := of_decide_eq_true e1
          omega
        have h8 : z.length ≤ 8 := by
          have := of_decide_eq_true e2
          omega
        refine ⟨_, rfl, _, rfl, fun D hD => lc_map walk_signs hD (fun _ => true) letV (fun _ _ => trivial) (fun _ => rfl) (fun x H' _ _ Q' q' => q') ?_ ?_ ?_⟩
        · intro x H' hx _ _ Q' q'
          obtain ⟨c, hc, rfl⟩ := List.mem_map.mp hx
          refine ⟨_, rfl, c, _, rfl, rfl, ?_⟩
          rw [letB_mem]
          have : letV (.str (sign c)) = .bl (letB c) := by
            show V.bl ([c].all letB) = _
            simp
          rw [this] at q'
          exact q'
        · unfold signsOf
          rw [List.length_map, Array.length_toList]
          exact small1000 (by have : z.length = z.cps.size := rfl; omega)
        · intro H' s' hD'
          have e0 : ((signsOf z).filter fun _ => true).map letV = (z.cps.toList.map letB).map V.bl := by
            rw [List.filter_eq_self.mpr fun _ _ => rfl]
            unfold signsOf
            rw [List.map_map, List.map_map]
            refine List.map_congr_left fun c _ => ?_
            show V.bl ([c].all letB) = _
            simp
          refine ⟨D, z.cps.toList.map letB, rfl, .inl (.inl (by rw [hD', e0])), ?_⟩
          have : (z.cps.toList.map letB).all id = wdB z := by
            unfold wdB
            rw [decide_eq_true h1, decide_eq_true h8, List.all_map]
            rfl
          rw [this]
          exact q H' s'
    · refine ⟨false, rfl, iteT ?_⟩
      have : wdB z = false := by
        have e1' : ¬ ((1 : Int) ≤ z.length) := of_decide_eq_false e1
        unfold wdB
        rw [decide_eq_false (show ¬ 1 ≤ z.length by omega)]
        simp
      rw [← this]
      exact q H (Same.refl H)
end
end Wl




namespace Wl
open PySem PySem.Spec PyProof.Rows L2
section
variable {P : Program} {w : World} {K : PySem.W.Frag} {mg : Str → Option Value} {base : Heap} {f : Addr} {fd : FuncData}

/-! ### are_rows of a good grid -/
def spAreRows : Sp := fun vs H Q _ => ∃ (L : Addr) (g : Grid) (wd : Nat), vs = [.ref L] ∧ GridAt H L g ∧ Good g wd ∧ Q (.bl true) H
abbrev nAreRows : List Str := ["thing", "row"]
theorem scAreRows : FnScope nAreRows ["thing"] (defScope sAreRows) := ⟨rfl, rfl, rfl, by decide +kernel, rfl, by decide +kernel, by decide +kernel⟩
theorem ok_arerows (F : Fun K "are_rows" "are_rows" sAreRows f fd) (B : Bi mg) (G : Gk mg) : FnOk P w K mg base CX0 1 f fd ["thing"] spAreRows := by
  obtain ⟨t1, g1⟩ := G.mrows
  obtain ⟨t2, g2⟩ := G.mcols
  refine F.ok scAreRows (fun vs H Q E h => ?_) (fun cdv A outer s H vs Q E hr h => ?_)
  · obtain ⟨L, g, wd, rfl, _⟩ := h
    rfl
  · obtain ⟨L, g, wd, rfl, ⟨as, hL, hR⟩, gd, q⟩ := h
    refine ⟨_, pss_cons (ps_if (PW.pt (pw_or (pt_not (pt_val (pe_callB call_isi (by rfl) B.isi (by decide +kernel) (pa_cons (pv 0) (pa_cons (pe_bltn (v := .ty "tuple") (by rfl) B.tuple (by decide +kernel) rfl) pa_nil)))))
        (pw_or1 (pt_not (pt_chain op_le op_le pe_int (pe_callB call_len_seq (by rfl) B.len PySem.boot_len (pa_cons (pv 0) pa_nil)) (pe_glob (v := .int 6) rfl g1 ⟨_, rfl⟩)))))) (pss_one (ps_ret pe_bl)) pss_nil)
      (pss_cons (ps_for PassesOwn.never rfl (pi_tup (pv 0)) (pg_name (i := 1) scAreRows.nd rfl (.inl rfl))
        (pss_one (ps_if (PW.pt (pw_or (pt_not (pt_val (pe_callB call_isi (by rfl) B.isi (by decide +kernel) (pa_cons (pv 1) (pa_cons (pe_bltn (v := .ty "tuple") (by rfl) B.tuple (by decide +kernel) rfl) pa_nil)))))
          (pw_or (pt_not (pt_chain op_le op_le pe_int (pe_callB call_len_seq (by rfl) B.len PySem.boot_len (pa_cons (pv 1) pa_nil)) (pe_glob (v := .int 6) rfl g2 ⟨_, rfl⟩)))
          (pw_or1 (pt_cmpR op_ne (pe_callB call_len_seq (by rfl) B.len PySem.boot_len (pa_cons (pv 1) pa_nil)) (pe_callB call_len_seq (by rfl) B.len PySem.boot_len (pa_cons (pe_ix ix_tup (pv 0) pe_int (fun _ _ => rfl)) pa_nil)) (nomark _)))))) (pss_one (ps_ret pe_bl)) pss_nil)))
      (pss_one (ps_ret pe_bl))), ?_⟩
    have hlen : (as.map V.ref).length = g.length := by rw [List.length_map, hR.length]
    have hST : SqT K H L (as.map V.ref) := .inl (.inl hL)
    have h16 : 1 ≤ g.length ∧ g.length ≤ 6 := ⟨gd.h1, gd.h6⟩
    have w16 : 1 ≤ wd ∧ wd ≤ 6 := ⟨gd.w1, gd.w6⟩
    refine ⟨_, rfl, _, _, _, _, _, rfl, .ty "tuple", .base (.tup hL), kit_ty (r := true) (by decide +kernel), true, rfl, ?_⟩
    refine iteF ⟨_, rfl, L, _, rfl, .inr hST, _, _, rfl, rfl, _, rfl, ite_b (fun e1 => ?_) (fun e1 => ?_)⟩
    · refine ⟨_, _, rfl, rfl, _, rfl, not_b (fun e2 => ?_) (fun e2 => ?_)⟩
      · have := of_decide_eq_false e2
        omega
      · refine ⟨_, rfl, L, rfl, ⟨_, hST⟩, for_tup (K := K) (a := L) (xs := as.map V.ref) (fun i σ H' => (∃ y, σ = [some (.ref L), y]) ∧ H' = H) ⟨⟨_, rfl⟩, rfl⟩ (fun i σ H' _ h => by rw [h.2]; exact hST) ?_ ?_⟩
        · rintro i x σ H' hx ⟨⟨y, rfl⟩, rfl⟩
          rw [List.getElem?_map] at hx
          obtain ⟨p, hp, rfl⟩ := Option.map_eq_some_iff.mp hx
          obtain ⟨row, hrow, hH⟩ := hR.get hp
          have hrl : (row.map oV).length = wd := by rw [List.length_map]; exact gd.rows row (List.mem_of_getElem? hrow)
          have hrT : SqT K H' p (row.map oV) := .inl (.inl hH)
          obtain ⟨p0, hp0⟩ : ∃ p0, as[0]? = some p0 := by
            cases as with
            | nil =>
              have := hR.length
              simp at this
              omega
            | cons a0 r => exact ⟨a0, rfl⟩
          obtain ⟨row0, hrow0, hH0⟩ := hR.get hp0
          have hr0l : (row0.map oV).length = wd := by rw [List.length_map]; exact gd.rows row0 (List.mem_of_getElem? hrow0)
          refine ⟨_, rfl, _, _, _, _, _, rfl, .ty "tuple", .base (.tup hH), kit_ty (r := true) (by decide +kernel), true, rfl, ?_⟩
          refine iteF ⟨_, rfl, p, _, rfl, .inr hrT, _, _, rfl, rfl, _, rfl, ite_b (fun e3 => ?_) (fun e3 => ?_)⟩
          · refine ⟨_, _, rfl, rfl, _, rfl, not_b (fun e4 => ?_) (fun e4 => ?_)⟩
            · have := of_decide_eq_false e4
              omega
            · refine ⟨_, rfl, p, _, rfl, .inr hrT, _, rfl, L, _, 0, .ref p0, rfl, rfl, hST, atI_nat (j := 0) (by rw [List.getElem?_map, hp0]; rfl), p0, _, rfl, .inr (.inl (.inl hH0)), rfl, _, rfl, ?_⟩
              refine iteNS (by rw [hrl, hr0l]) ?_
              exact ⟨⟨_, rfl⟩, rfl⟩
          · have := of_decide_eq_false e3
            omega
        · rintro σ H' ⟨⟨y, rfl⟩, rfl⟩
          exact q
    · have := of_decide_eq_false e1
      omega
end
end Wl




/-! A dict comprehension of two clauses: {k: v for a in .. if .. for b in .. if ..}. -/
namespace Wl
open PySem PySem.Spec PyProof.Rows L2
/-- the whole of it -/
abbrev two (kx vx ta ia tb ib : Expr) (fa fb : List Expr) (sc : Scope) (pos : Pos) : Expr := .DictComp kx vx [⟨ta, ia, fa, 0⟩, ⟨tb, ib, fb, 0⟩] sc pos
/-- a clause's tests -/
abbrev testsOf (fs : List Expr) (env : Env) : Sem Bool :=
  forIn fs true fun c r => if r = true then (do let y ← isTrue c env (eval c env); pure (ForInStep.yield y)) else pure (ForInStep.yield r)
/-- a turn of a clause: no item is left, or one comes, is stored and tested -/
def Turned (M : Model) (A : Around) (env : Env) (tg : Expr) (it : Value) (fs : List Expr) (stop : Shared → Prop) (k : Bool → Shared → Prop) (E : Value → Shared → Prop) (s : Shared) : Prop :=
  wpAny M A (pyNext it) (fun r s1 => match r with
    | none => stop s1
    | some u => wpAny M A (letOwnedTupleGo tg it u) (fun _ s2 => wpAny M A (assign tg env u) (fun _ s3 => wpAny M A (testsOf fs env) k E s3) E s2) E s1) E s
section
variable {kx vx ta ia tb ib : Expr} {fa fb : List Expr} {sc : Scope} {pos : Pos} {it : Value} {D : Addr} {env : Env}
theorem turnA : compTurn (two kx vx ta ia tb ib fa fb sc pos) 0 it (.ref D) env = (do
    standAt ia.pos
    match ← pyNext it with
    | none => pure (.done .next)
    | some u =>
      letOwnedTupleGo ta it u
      assign ta env u
      let yes ← testsOf fa env
      if yes = true then
        let x ← eval ib env
        standAt ib.pos
        let z ← foldedSetIterable ib env x
        let _ ← runOwn (.compStart (two kx vx ta ia tb ib fa fb sc pos) 1 (← holding [z] (pyIter z)) (.ref D) env) env
      again (.compLoop (two kx vx ta ia tb ib fa fb sc pos) 0 it (.ref D) env)) := rfl
theorem turnB : compTurn (two kx vx ta ia tb ib fa fb sc pos) 1 it (.ref D) env = (do
    standAt ib.pos
    match ← pyNext it with
    | none => pure (.done .next)
    | some u =>
      letOwnedTupleGo tb it u
      assign tb env u
      let yes ← testsOf fb env
      if yes = true then
        (do
          let a ← eval kx env
          let b ← holding [a] (eval vx env)
          standAt { kx.pos with endLine := vx.pos.endLine, endCol := vx.pos.endCol }
          holding [a, b] (dictSet D a b))
      again (.compLoop (two kx vx ta ia tb ib fa fb sc pos) 1 it (.ref D) env)) := rfl
variable {prog : Program} {w : World} {A : Around} {R : Result → Shared → Prop} {s : Shared}
/-- what an error leaves behind it -/
abbrev errs (prog : Program) (w : World) (A : Around) (env : Env) (R : Result → Shared → Prop) : Value → Shared → Prop := notedBy (model prog w) A env fun e s' => R (.error e) s'
theorem loopA (plain : ∀ x, foldedSetIterable ib env x = pure x) (I : Nat → Shared → Prop)
    (turn : ∀ n s, I n s → Turned (model prog w) A env ta it fa (R (.ok .next)) (fun yes s1 => if yes = true then
        wpAny (model prog w) A (eval ib env) (fun x s2 => wpAny (model prog w) A (pyIter x) (fun j s3 => codeAny (model prog w) A (.compStart (two kx vx ta ia tb ib fa fb sc pos) 1 j (.ref D) env) (fun r s4 => (∃ f, r = .ok f) ∧ ∃ m, m < n ∧ I m s4) s3) (errs prog w A env R) s2) (errs prog w A env R) s1
      else ∃ m, m < n ∧ I m s1) (errs prog w A env R) s)
    (n : Nat) (h : I n s) : codeAny (model prog w) A (.compLoop (two kx vx ta ia tb ib fa fb sc pos) 0 it (.ref D) env) R s := by
  refine codeAny_loop rfl I (fun n s hI => wpAny_noted ?_) n h
  have key := turn n s hI
  unfold Turned at key
  show wpAny _ A (compTurn (two kx vx ta ia tb ib fa fb sc pos) 0 it (.ref D) env) _ _ s
  rw [turnA]
  refine wpAny_bind (wpAny_standAt (wpAny_bind (wpAny_mono key ?_ fun _ _ z => z)))
  rintro (_ | u) s1 k1
  · exact wpAny_pure k1
  · refine wpAny_bind (wpAny_mono k1 (fun _ s2 k2 => wpAny_bind (wpAny_mono k2 (fun _ s3 k3 => wpAny_bind (wpAny_mono k3 ?_ fun _ _ z => z)) fun _ _ z => z)) fun _ _ z => z)
    rintro (_ | _) s4 k4
    · exact wpAny_pure ⟨rfl, k4⟩
    · refine wpAny_bind (wpAny_mono k4 (fun x s5 k5 => wpAny_bind (wpAny_standAt (wpAny_bind (wpAny_of_eq (plain x) (wpAny_bind (wpAny_holding (wpAny_mono k5 (fun j s6 k6 => ?_) fun _ _ z => z))))))) fun _ _ z => z)
      refine wpAny_bind (wpAny_runOwn ?_)
      rw [Around.mark_none]
      refine codeAny_mono k6 ?_
      rintro (e | f) s7 ⟨⟨g, eg⟩, k7⟩
      · cases eg
      · first
          | exact wpAny_pure ⟨rfl, k7⟩
          | exact wpAny_bind (wpAny_pure (wpAny_pure ⟨rfl, k7⟩))
theorem loopB (I : Nat → Shared → Prop)
    (turn : ∀ n s, I n s → Turned (model prog w) A env tb it fb (R (.ok .next)) (fun yes s1 => if yes = true then
        wpAny (model prog w) A (eval kx env) (fun a s2 => wpAny (model prog w) A (eval vx env) (fun b s3 => wpAny (model prog w) A (dictSet D a b) (fun _ s4 => ∃ m, m < n ∧ I m s4) (errs prog w A env R) s3) (errs prog w A env R) s2) (errs prog w A env R) s1
      else ∃ m, m < n ∧ I m s1) (errs prog w A env R) s)
    (n : Nat) (h : I n s) : codeAny (model prog w) A (.compLoop (two kx vx ta ia tb ib fa fb sc pos) 1 it (.ref D) env) R s := by
  refine codeAny_loop rfl I (fun n s hI => wpAny_noted ?_) n h
  have key := turn n s hI
  unfold Turned at key
  show wpAny _ A (compTurn (two kx vx ta ia tb ib fa fb sc pos) 1 it (.ref D) env) _ _ s
  rw [turnB]
  refine wpAny_bind (wpAny_standAt (wpAny_bind (wpAny_mono key ?_ fun _ _ z => z)))
  rintro (_ | u) s1 k1
  · exact wpAny_pure k1
  · refine wpAny_bind (wpAny_mono k1 (fun _ s2 k2 => wpAny_bind (wpAny_mono k2 (fun _ s3 k3 => wpAny_bind (wpAny_mono k3 ?_ fun _ _ z => z)) fun _ _ z => z)) fun _ _ z => z)
    rintro (_ | _) s4 k4
    · exact wpAny_pure ⟨rfl, k4⟩
    · refine wpAny_bind (wpAny_bind (wpAny_mono k4 (fun a s5 k5 => ?_) fun _ _ z => z))
      refine wpAny_bind (wpAny_holding (wpAny_mono k5 (fun b s6 k6 => ?_) fun _ _ z => z))
      exact wpAny_bind (wpAny_standAt (wpAny_holding (wpAny_mono k6 (fun _ s7 k7 => wpAny_pure ⟨rfl, k7⟩) fun _ _ z => z)))
theorem startB (h0 : codeAny (model prog w) A (.compLoop (two kx vx ta ia tb ib fa fb sc pos) 1 it (.ref D) env) R s)
    (h1 : wpAny (model prog w) A (pyIter it) (fun j s' => codeAny (model prog w) A (.compLoop (two kx vx ta ia tb ib fa fb sc pos) 1 j (.ref D) env) R s') (errs prog w A env R) s) :
    codeAny (model prog w) A (.compStart (two kx vx ta ia tb ib fa fb sc pos) 1 it (.ref D) env) R s := by
  refine codeAny_of_tree (wpAny_notedAt (?_ : wpAny _ _ (compStart (two kx vx ta ia tb ib fa fb sc pos) 1 it (.ref D) env) _ _ s))
  unfold compStart
  show wpAny _ _ (ask >>= _) _ _ s
  refine wpAny_bind (wpAny_askSetting (wpAny_ite ?_))
  split
  · first
      | exact wpAny_pure ⟨rfl, h0⟩
      | exact wpAny_bind (wpAny_pure (wpAny_pure ⟨rfl, h0⟩))
  · refine wpAny_bind (wpAny_rule ?_)
    show wpAny _ _ (standAt ib.pos >>= _) _ _ s
    exact wpAny_bind (wpAny_standAt (wpAny_bind (wpAny_mono h1 (fun j s' h' => wpAny_pure ⟨rfl, h'⟩) fun _ _ z => z)))
end
section
variable {Y : Cx} {pins : List (Addr × Obj)} {σ : L2.St} {H : Hp} {s : Shared} {tg : Expr} {J : It} {fp : List Addr} {it : Addr} {tn : Nat → Heap → Prop}
/-- an item comes: stored and tested, the walk's objects held meanwhile -/
theorem clause {g : TG} {tt : TT} {fs : List Expr} {i : Nat} {C : L2.St → Prop} {Z : L2.St → Bool → Hp → Prop} {stop : Shared → Prop} {k : Bool → Shared → Prop} {E : Value → Shared → Prop}
    (quiet : Y.xe = fun _ _ => False) (hc : Y.calm = true) (T : Turn Y.prog Y.w Y.K tg J fp it tn) (pg : PG Y tg g) (pt : PTs Y fs tt) (I : L2.Inv Y pins σ H s)
    (free : ∀ {H' : Hp}, (∀ b ∈ fp, H' b = none) → ∀ b ∈ fp, FpOk Y pins H' b) (none0 : ∀ b ∈ fp, H b = none) (st : tn i s.heap) (go : J.go i H)
    (step : ∀ x H', J.yld i H x H' → g x σ H' fun σ2 H2 => C σ2 ∧ tt σ2 H2 (Z σ2))
    (next : ∀ {s1 s2 : Shared} {σ2 : L2.St} {b : Bool} {H2 : Hp}, tn (i + 1) s1.heap → C σ2 → L2.Inv Y (pins ++ pinsAt fp s1.heap) σ2 H2 s2 → Z σ2 b H2 → k b s2) :
    Turned (model Y.prog Y.w) Y.A Y.env tg (.ref it) fs stop k E s := by
  unfold Turned
  refine thnF (T.item Y rfl rfl rfl hc i pins s σ H (fun _ _ => False) I (free none0) st go) ?_
  rintro _ s1 ⟨u, rfl, h1⟩
  refine thnF h1 ?_
  rintro _ s2 ⟨x, H2, I2, rx, yx, st2, n2⟩
  have held := I2.pinned (free n2) (T.obj _ _ st2)
  have run1 := pg.run _ s2 _ H2 x u _ held rx (step x H2 yx)
  rw [quiet] at run1
  refine thnF run1 ?_
  rintro _ s3 ⟨σ3, H3, I3, c3, q3⟩
  have run2 := pt.run _ s3 σ3 H3 _ I3 q3
  rw [quiet] at run2
  refine thnF run2 ?_
  rintro b s4 ⟨H4, I4, q4⟩
  exact next st2 c3 I4 q4
/-- behind the turn the walk's objects stand as they did -/
theorem walk_stays {i : Nat} {h : Heap} (T : Turn Y.prog Y.w Y.K tg J fp it tn) (st : tn i h) (I : L2.Inv Y (pins ++ pinsAt fp h) σ H s) : tn i s.heap ∧ ∀ b ∈ fp, H b = none := by
  have each : ∀ b ∈ fp, ∀ o, h.get? b = some o → s.heap.get? b = some o ∧ H b = none := fun b hb o e => by
    have z := I.pin (b, o) (List.mem_append_right _ (List.mem_append_right _ (mem_pinsAt hb e)))
    exact ⟨z.1, z.2.1⟩
  refine ⟨T.keep i h s.heap st fun b hb o e => (each b hb o e).1, fun b hb => ?_⟩
  obtain ⟨o, e, _⟩ := T.obj i h st b hb
  exact (each b hb o e).2
end
section
variable {X : Cx}
/-- the second clause: its walk, in each turn of it a pair put -/
def InnD (gb : TG) (ttb : TT) (tk tv : TE) (vs1 : List Nat) (D : Addr) (σ2 : L2.St) (Nx : Hp → Prop) (J1 : It) (H4 : Hp) : Prop :=
  ∃ W1 : Nat → Nat → Hp → Prop, (∃ m, W1 0 m H4) ∧ ∀ j k H, W1 j k H → (J1.stop j H ∧ Nx H) ∨ (J1.go j H ∧ ∃ Nx1 : Hp → Prop, (∀ H', Nx1 H' → ∃ k', k' < k ∧ W1 (j + 1) k' H') ∧
    ∀ x H', J1.yld j H x H' → gb x (wipe σ2 vs1) H' fun σ3 H5 => wipe σ3 vs1 = wipe σ2 vs1 ∧ ttb σ3 H5 fun yes H6 =>
      if yes = true then tk σ3 H6 fun y H7 => tv σ3 H7 fun z H8 => ∃ kvs k, y = kV k ∧ H8 D = some (.dK kvs) ∧ kvs.length < sizeLine ∧ Nx1 (upd H8 D (.dK (putK kvs k z))) else Nx1 H6)
/-- what the comprehension asks: the first clause's walk, in each turn the second's; vs: the names of both clauses, vs1: of the second -/
def tDc2 (wa : TI) (ga : TG) (tta : TT) (wb : TI) (gb : TG) (ttb : TT) (tk tv : TE) (vs vs1 : List Nat) : TE := fun σ H Q => wa σ H fun J H1 => ∀ D, H1 D = none →
  ∃ W : Nat → Nat → Hp → Prop, (∃ m, W 0 m (upd H1 D (.dK []))) ∧ ∀ i m H, W i m H → (J.stop i H ∧ Q (.ref D) H) ∨ (J.go i H ∧ ∃ Nx : Hp → Prop, (∀ H', Nx H' → ∃ m', m' < m ∧ W (i + 1) m' H') ∧
    ∀ x H', J.yld i H x H' → ga x (wipe σ vs) H' fun σ2 H2 => wipe σ2 vs = wipe σ vs ∧ tta σ2 H2 fun yes H3 => if yes = true then wb σ2 H3 (InnD gb ttb tk tv vs1 D σ2 Nx) else Nx H3)
/-- the first clause by a walk that is known -/
theorem dc2_it {J : It} {n : Nat} {G : Hp → Prop} {Y : Nat → Hp → V → Hp → Prop} (w : L2.Walk J n G Y) {ga gb : TG} {tta ttb : TT} {wb : TI} {tk tv : TE} {vs vs1 : List Nat} {σ : L2.St} {H1 : Hp} {D : Addr} {Qd : Hp → Prop} (Pv : Nat → Hp → Prop) (h0 : Pv 0 (upd H1 D (.dK []))) (hG : ∀ i H, i ≤ n → Pv i H → G H)
    (hs : ∀ i x H H', i < n → Pv i H → Y i H x H' → ga x (wipe σ vs) H' fun σ2 H2 => wipe σ2 vs = wipe σ vs ∧ tta σ2 H2 fun yes H3 => if yes = true then wb σ2 H3 (InnD gb ttb tk tv vs1 D σ2 (Pv (i + 1))) else Pv (i + 1) H3) (hd : ∀ H, Pv n H → Qd H) :
    ∃ W : Nat → Nat → Hp → Prop, (∃ m, W 0 m (upd H1 D (.dK []))) ∧ ∀ i m H, W i m H → (J.stop i H ∧ Qd H) ∨ (J.go i H ∧ ∃ Nx : Hp → Prop, (∀ H', Nx H' → ∃ m', m' < m ∧ W (i + 1) m' H') ∧
      ∀ x H', J.yld i H x H' → ga x (wipe σ vs) H' fun σ2 H2 => wipe σ2 vs = wipe σ vs ∧ tta σ2 H2 fun yes H3 => if yes = true then wb σ2 H3 (InnD gb ttb tk tv vs1 D σ2 Nx) else Nx H3) := by
  refine ⟨fun i m H => m + i = n ∧ Pv i H, ⟨n, by simp, h0⟩, fun i m H ⟨e, p⟩ => ?_⟩
  have q := hG i H (by omega) p
  by_cases lt : i < n
  · exact .inr ⟨w.goes i H lt q, Pv (i + 1), fun H' p' => ⟨m - 1, by omega, by omega, p'⟩, fun x H' y => hs i x H H' lt p (w.yields i H x H' lt q y)⟩
  · obtain rfl : i = n := by omega
    exact .inl ⟨w.stops H q, hd H p⟩
/-- the second clause by a walk that is known -/
theorem inn_it {J1 : It} {n : Nat} {G : Hp → Prop} {Y : Nat → Hp → V → Hp → Prop} (w : L2.Walk J1 n G Y) {gb : TG} {ttb : TT} {tk tv : TE} {vs1 : List Nat} {σ2 : L2.St} {H4 : Hp} {D : Addr} {Nx : Hp → Prop} (Pv : Nat → Hp → Prop) (h0 : Pv 0 H4) (hG : ∀ i H, i ≤ n → Pv i H → G H)
    (hs : ∀ j x H H', j < n → Pv j H → Y j H x H' → gb x (wipe σ2 vs1) H' fun σ3 H5 => wipe σ3 vs1 = wipe σ2 vs1 ∧ ttb σ3 H5 fun yes H6 =>
      if yes = true then tk σ3 H6 fun y H7 => tv σ3 H7 fun z H8 => ∃ kvs k, y = kV k ∧ H8 D = some (.dK kvs) ∧ kvs.length < sizeLine ∧ Pv (j + 1) (upd H8 D (.dK (putK kvs k z))) else Pv (j + 1) H6) (hd : ∀ H, Pv n H → Nx H) :
    InnD gb ttb tk tv vs1 D σ2 Nx J1 H4 := by
  refine ⟨fun j k H => k + j = n ∧ Pv j H, ⟨n, by simp, h0⟩, fun j k H ⟨e, p⟩ => ?_⟩
  have q := hG j H (by omega) p
  by_cases lt : j < n
  · exact .inr ⟨w.goes j H lt q, Pv (j + 1), fun H' p' => ⟨k - 1, by omega, by omega, p'⟩, fun x H' y => hs j x H H' lt p (w.yields j H x H' lt q y)⟩
  · obtain rfl : j = n := by omega
    exact .inl ⟨w.stops H q, hd H p⟩
/-- a block of this scope -/
abbrev inBlk (X : Cx) (sc : Scope) (s : Shared) (H : Hp) (C : Addr) (cl : List (Str × Addr)) (fp : List Addr) : Cx := X.blk s H sc (compEnvC sc cl C X.env) fp
theorem pe_dc2 {kx vx ta ia tb ib : Expr} {fa fb : List Expr} {sc : Scope} {own : List (Str × Nat)} {vs1 : List Nat} {pos : Pos} {wa wb : TI} {ga gb : TG} {tta ttb : TT} {tk tv : TE} (hc : X.calm = true) (hN : X.N.Nodup) (hi : PI X ta ia wa) (ok : BlkOk X.N X.env.scope sc own) (hv : ∀ i ∈ vs1, i ∈ own.map (·.2))
    (hga : ∀ s H C cl fp, PG (inBlk X sc s H C cl fp) ta ga) (hta : ∀ s H C cl fp, PTs (inBlk X sc s H C cl fp) fa tta) (hib : ∀ s H C cl fp, PI (inBlk X sc s H C cl fp) tb ib wb) (hgb : ∀ s H C cl fp, PG (inBlk X sc s H C cl fp) tb gb) (htb : ∀ s H C cl fp, PTs (inBlk X sc s H C cl fp) fb ttb)
    (hk : ∀ s H C cl fp, PE (inBlk X sc s H C cl fp) kx tk) (he : ∀ s H C cl fp, PE (inBlk X sc s H C cl fp) vx tv)
    (pa : ∀ x, foldedSetIterable ia X.env x = pure x := by intro _; rfl) (pb : ∀ env x, foldedSetIterable ib env x = pure x := by intro _ _; rfl) :
    PE X (.DictComp kx vx [⟨ta, ia, fa, 0⟩, ⟨tb, ib, fb, 0⟩] sc pos) (tDc2 wa ga tta wb gb ttb tk tv (own.map (·.2)) vs1) := by
  refine ⟨fun pins s σ H Q I h => ?_⟩
  rw [arm_eval_DictComp]
  have clo : ∀ y ∈ sc.names, y.2 = .free → ∃ c, X.env.cells.lookup y.1 = some c := fun y hy e => (ok.free y hy e).elim (fun k => I.ok.has _ (.inl k)) fun k => I.ok.has _ (.inr k)
  refine wpAny_comprehension_free rfl pa (closure_ok clo) ok.kind (fun y hy e => by rw [ok.uniq y hy, e]) (thn (hi.run pins s σ H _ I h) fun _ _ h1 => thn h1 ?_)
  rintro _ s2 ⟨it, fp, tn, J, H2, rfl, I2, T, st2, f2, q⟩
  refine wpAny_newObj_type (newEnv_comp ?_)
  generalize hD : s2.heap.objs.size = D
  have newD : H2 D = none := I2.hok.fresh (Nat.le_of_eq hD)
  obtain ⟨W, ⟨m0, w0⟩, turn⟩ := q D newD
  generalize hs3 : ({ s2 with heap := s2.heap.push { cls := .type "dict", data := .dict #[] } } : Shared) = s3
  have e3 : s3.heap = s2.heap.push { cls := .type "dict", data := .dict #[] } := by rw [← hs3]
  have I3 : L2.Inv X pins σ (upd H2 D (.dK [])) s3 := by
    rw [← hs3]
    exact I2.laid (t' := s2.toks) (fun b o e => Heap.get?_push_of_some _ e) (Nat.le_of_eq hD) (hD ▸ dk_empty s2.heap I2.big)
  have f3 : ∀ b ∈ fp, FpOk X pins (upd H2 D (.dK [])) b ∧ b < s3.heap.objs.size := fun b hb => by
    obtain ⟨o, e, _⟩ := T.obj _ _ st2 b hb
    have small := Heap.lt_size e
    refine ⟨⟨?_, (f2 b hb).2⟩, ?_⟩
    · rw [upd_ne (Nat.ne_of_lt (hD ▸ small))]
      exact (f2 b hb).1
    · rw [e3, Heap.size_push]
      exact Nat.lt_succ_of_lt small
  have st3 : tn 0 s3.heap := T.keep _ _ _ st2 fun b _ o e => by
    rw [e3]
    exact Heap.get?_push_of_some _ e
  have I4 := block_start I3 ok hN f3
  generalize hcl : cellsFrom (s3.heap.objs.size + 1) sc.names (cloFrom X.env.cells sc.names []) = cl at I4
  show codeAny _ _ (.compStart (two kx vx ta ia tb ib fa fb sc pos) 0 (.ref it) (.ref D) (compEnvC sc cl s3.heap.objs.size X.env)) (compPost (model X.prog X.w) X.A X.xe none (EP X pins σ Q) (.ref D) s3.heap.objs.size) { s3 with heap := pushCells (s3.heap.push { cls := .type "dict", data := .dict #[] }) sc.names }
  have none3 : ∀ b ∈ fp, (upd H2 D (.dK [])) b = none := fun b hb => (f3 b hb).1.1
  generalize hH3 : upd H2 D (.dK []) = H3 at I3 I4 w0 none3 f3
  have jga : PG (X.blk s3 H3 sc (compEnvC sc cl s3.heap.objs.size X.env) fp) ta ga := hga s3 H3 s3.heap.objs.size cl fp
  have jta : PTs (X.blk s3 H3 sc (compEnvC sc cl s3.heap.objs.size X.env) fp) fa tta := hta s3 H3 s3.heap.objs.size cl fp
  have jib : PI (X.blk s3 H3 sc (compEnvC sc cl s3.heap.objs.size X.env) fp) tb ib wb := hib s3 H3 s3.heap.objs.size cl fp
  have jgb : PG (X.blk s3 H3 sc (compEnvC sc cl s3.heap.objs.size X.env) fp) tb gb := hgb s3 H3 s3.heap.objs.size cl fp
  have jtb : PTs (X.blk s3 H3 sc (compEnvC sc cl s3.heap.objs.size X.env) fp) fb ttb := htb s3 H3 s3.heap.objs.size cl fp
  have jk : PE (X.blk s3 H3 sc (compEnvC sc cl s3.heap.objs.size X.env) fp) kx tk := hk s3 H3 s3.heap.objs.size cl fp
  have je : PE (X.blk s3 H3 sc (compEnvC sc cl s3.heap.objs.size X.env) fp) vx tv := he s3 H3 s3.heap.objs.size cl fp
  generalize hs4 : ({ s3 with heap := pushCells (s3.heap.push { cls := .type "dict", data := .dict #[] }) sc.names } : Shared) = s4 at I4 ⊢
  have st4 : tn 0 s4.heap := T.keep _ _ _ st3 fun b _ o e => by
    rw [← hs4]
    exact pushCells_keeps _ _ _ _ (Heap.get?_push_of_some _ e)
  generalize hce : compEnvC sc cl s3.heap.objs.size X.env = ce at I4 jga jta jib jgb jtb jk je ⊢
  have cL : ce.locals = s3.heap.objs.size := by
    subst hce
    rfl
  have free0 : ∀ {H' : Hp}, (∀ b ∈ fp, H' b = none) → ∀ b ∈ fp, FpOk (X.blk s3 H3 sc ce fp) [] H' b := fun n b hb =>
    ⟨n b hb, (I4.ok.exf b hb).1, I4.ok.exfs b hb, .inl hb, (I4.ok.exf b hb).2, fun p hp => nomatch (show p ∈ ([] : List (Addr × Obj)) from hp)⟩
  have loop : codeAny (model X.prog X.w) X.A (.compLoop (two kx vx ta ia tb ib fa fb sc pos) 0 (.ref it) (.ref D) ce) (compPost (model X.prog X.w) X.A X.xe none (EP X pins σ Q) (.ref D) s3.heap.objs.size) s4 := by
    refine loopA (pb ce) (fun n s' => ∃ i H', L2.Inv (X.blk s3 H3 sc ce fp) [] (wipe σ (own.map (·.2))) H' s' ∧ tn i s'.heap ∧ (∀ b ∈ fp, H' b = none) ∧ W i n H') ?_ m0 ⟨0, H3, I4, st4, none3, w0⟩
    rintro n s5 ⟨i, H5, I5, st5, n5, w5⟩
    rcases turn i n H5 w5 with ⟨stop, qq⟩ | ⟨go, Nx, hNx, step⟩
    · unfold Turned
      refine thnF (T.done (X.blk s3 H3 sc ce fp) rfl rfl rfl hc i [] s5 _ H5 (fun _ _ => False) I5 (free0 n5) st5 stop) ?_
      rintro _ s6 ⟨rfl, I6⟩
      have I7 : L2.Inv X pins σ H5 s6 := I3.call' (ch := fp) I6.os I6.base I6.hok I6.bare fun b hb => by
        obtain ⟨⟨_, a1, _, a3, a4, a5⟩, _⟩ := f3 b hb
        exact ⟨a3, a1, a4, a5⟩
      have nC : H5 s3.heap.objs.size = none := cL ▸ (show H5 ce.locals = none from I6.free)
      obtain ⟨m, hn, _⟩ := I6.loc
      have hn : s6.heap.Ns s3.heap.objs.size m := cL ▸ (show s6.heap.Ns ce.locals m from hn)
      obtain ⟨g0, g1, _, g3, g4, g5⟩ := I3.fpOk (H' := H5) (Nat.le_refl _) nC
      exact ⟨m, hn, fun h2 sb => ⟨.ref D, H5, I7.turned (t' := s6.toks) (fun b o hb e => (sb.2 b hb).trans e) g0 g1 g3 g4 g5, rfl, qq⟩⟩
    · refine clause (Y := X.blk s3 H3 sc ce fp) rfl hc T jga jta I5 free0 n5 st5 go step ?_
      intro s6 s7 σ7 b H7 st6 w7 I7 q7
      have hl7 : (wipe σ (own.map (·.2))).length = σ7.length := by rw [← w7, wipe_length]
      have fin : ∀ {σ8 : L2.St} {s8 : Shared} {H8 : Hp}, L2.Inv (X.blk s3 H3 sc ce fp) ([] ++ pinsAt fp s6.heap) σ8 H8 s8 → (wipe σ (own.map (·.2))).length = σ8.length → (∀ (j : Nat) v, (wipe σ (own.map (·.2)))[j]? = some (some v) → σ8[j]? = some (some v)) → Nx H8 →
          ∃ m, m < n ∧ ∃ i H', L2.Inv (X.blk s3 H3 sc ce fp) [] (wipe σ (own.map (·.2))) H' s8 ∧ tn i s8.heap ∧ (∀ b ∈ fp, H' b = none) ∧ W i m H' := by
        intro σ8 s8 H8 I8 hl hk nx
        obtain ⟨m', hm, w'⟩ := hNx H8 nx
        obtain ⟨t1, t2⟩ := walk_stays (Y := X.blk s3 H3 sc ce fp) T st6 I8
        exact ⟨m', hm, i + 1, H8, (I8.unpinned (pins := [])).weak hl hk, t1, t2, w'⟩
      cases b with
      | false =>
        rw [if_neg (by decide)] at q7 ⊢
        exact fin I7 hl7 (fun j v e => (wipe_some (w7.symm ▸ e)).1) q7
      | true =>
        rw [if_pos rfl] at q7 ⊢
        refine thnF (jib.run _ s7 σ7 H7 _ I7 q7) fun _ s8 h8 => thnF h8 ?_
        rintro _ s9 ⟨it1, fp1, tn1, J1, H9, rfl, I9, T1, st9, f9, W1, ⟨m1, w1⟩, turn1⟩
        have free1 : ∀ {H' : Hp}, (∀ b ∈ fp1, H' b = none) → ∀ b ∈ fp1, FpOk (X.blk s3 H3 sc ce fp) ([] ++ pinsAt fp s6.heap) H' b := fun n b hb => ⟨n b hb, (f9 b hb).2⟩
        have loop1 : codeAny (model X.prog X.w) X.A (.compLoop (two kx vx ta ia tb ib fa fb sc pos) 1 (.ref it1) (.ref D) ce) (fun r s' => (∃ f, r = .ok f) ∧ ∃ m, m < n ∧ ∃ i H', L2.Inv (X.blk s3 H3 sc ce fp) [] (wipe σ (own.map (·.2))) H' s' ∧ tn i s'.heap ∧ (∀ b ∈ fp, H' b = none) ∧ W i m H') s9 := by
          refine loopB (fun k s' => ∃ j H', L2.Inv (X.blk s3 H3 sc ce fp) ([] ++ pinsAt fp s6.heap) (wipe σ7 vs1) H' s' ∧ tn1 j s'.heap ∧ (∀ b ∈ fp1, H' b = none) ∧ W1 j k H') ?_ m1 ⟨0, H9, I9.weak (wipe_length _ _) (fun j v e => (wipe_some e).1), st9, fun b hb => (f9 b hb).1, w1⟩
          rintro k s10 ⟨j, H10, I10, st10, n10, w10⟩
          rcases turn1 j k H10 w10 with ⟨stop1, nx1⟩ | ⟨go1, Nx1, hNx1, step1⟩
          · unfold Turned
            refine thnF (T1.done (X.blk s3 H3 sc ce fp) rfl rfl rfl hc j _ s10 (wipe σ7 vs1) H10 (fun _ _ => False) I10 (free1 n10) st10 stop1) ?_
            rintro _ s11 ⟨rfl, I11⟩
            refine ⟨⟨_, rfl⟩, fin I11 (hl7.trans (wipe_length σ7 vs1).symm) (fun j v e => ?_) nx1⟩
            obtain ⟨e1, e2⟩ := wipe_some (w7.symm ▸ e)
            rw [wipe_out fun z => e2 (hv j z)]
            exact e1
          · refine clause (Y := X.blk s3 H3 sc ce fp) rfl hc T1 jgb jtb I10 free1 n10 st10 go1 step1 ?_
            intro s11 s12 σ12 b1 H12 st11 w12 I12 q12
            have fin1 : ∀ {s' : Shared} {H' : Hp}, L2.Inv (X.blk s3 H3 sc ce fp) (([] ++ pinsAt fp s6.heap) ++ pinsAt fp1 s11.heap) σ12 H' s' → Nx1 H' → ∃ m, m < k ∧ ∃ j H', L2.Inv (X.blk s3 H3 sc ce fp) ([] ++ pinsAt fp s6.heap) (wipe σ7 vs1) H' s' ∧ tn1 j s'.heap ∧ (∀ b ∈ fp1, H' b = none) ∧ W1 j m H' := by
              intro s' H' I' nx
              obtain ⟨m', hm, w'⟩ := hNx1 H' nx
              obtain ⟨t1, t2⟩ := walk_stays (Y := X.blk s3 H3 sc ce fp) T1 st11 I'
              exact ⟨m', hm, j + 1, H', I'.unpinned.weak (by rw [← w12, wipe_length]) (fun i v e => (wipe_some (w12.symm ▸ e)).1), t1, t2, w'⟩
            cases b1 with
            | false =>
              rw [if_neg (by decide)] at q12 ⊢
              exact fin1 I12 q12
            | true =>
              rw [if_pos rfl] at q12 ⊢
              refine thnF (jk.run _ s12 σ12 H12 _ I12 q12) ?_
              rintro a s13 ⟨ya, H13, I13, ra, q13⟩
              refine thnF (je.run _ s13 σ12 H13 _ I13 q13) ?_
              rintro b s14 ⟨yb, H14, I14, rb, kvs, key, rfl, hD14, small, nx⟩
              exact d_dictSet (X := X.blk s3 H3 sc ce fp) I14 hD14 small ra rb fun s15 I15 => fin1 I15 nx
        exact startB loop1 (T1.self X.A 0 _ _ _ st9 loop1)
  exact codeAny_compStart_dict loop (T.self X.A 0 _ _ _ st4 loop)
end
end Wl

namespace Wl
open PySem PySem.Spec PyProof.Rows L2
/-- the heap keeps all but its lists -/
def Keep (H H' : Hp) : Prop := ∀ p o, (∀ xs, o ≠ .lst xs) → H p = some o → H' p = some o
theorem Keep.refl (H : Hp) : Keep H H := fun _ _ _ h => h
theorem Keep.trans {H H1 H2 : Hp} (a : Keep H H1) (b : Keep H1 H2) : Keep H H2 := fun p o n h => b p o n (a p o n h)
theorem kp_same {H H' : Hp} (s : Same H H') : Keep H H' := fun p o _ h => s p _ h
theorem kp_x {a : Addr} {H H' : Hp} {ys : List V} (s : SameX a H H') (ha : H a = some (.lst ys)) : Keep H H' := fun p o n h => s p _ (fun e => by
  subst e
  rw [ha] at h
  exact n _ (Option.some.inj h).symm) h
theorem kp_upd {a : Addr} {H : Hp} {ys : List V} {o : HO} (ha : H a = some (.lst ys)) : Keep H (upd H a o) := kp_x sameX_upd ha
theorem kp_new {p : Addr} {H : Hp} {o : HO} (hp : H p = none) : Keep H (upd H p o) := kp_same (same_new hp)
theorem Keep.tk {H H' : Hp} (k : Keep H H') : TupKeep H H' := fun p xs h => k p _ (fun ys e => by cases e) h
theorem tk_updD {a : Addr} {H : Hp} {kvs : List (Key × V)} {o : HO} (ha : H a = some (.dK kvs)) : TupKeep H (upd H a o) := fun p xs h => by
  rw [upd_ne (ne_of h ha (by intro z; cases z))]
  exact h
/-- the dict's pairs tell these spots -/
def Ent (H : Hp) (kv : Key × V) (s : Str × Nat × Nat) : Prop := kv.1 = Sum.inr s.1 ∧ ∃ t, kv.2 = .ref t ∧ H t = some (.tup [.int s.2.1, .int s.2.2])
def SpotsAt (H : Hp) (d : Addr) (sp : List (Str × Nat × Nat)) : Prop := ∃ kvs, H d = some (.dK kvs) ∧ Each (Ent H) kvs sp
theorem ent_keep {H H' : Hp} (k : TupKeep H H') {kvs : List (Key × V)} {sp : List (Str × Nat × Nat)} (h : Each (Ent H) kvs sp) : Each (Ent H') kvs sp :=
  Each.mono (fun _ _ ⟨e, t, e2, ht⟩ => ⟨e, t, e2, k _ _ ht⟩) h
theorem SpotsAt.keep {H H' : Hp} {d : Addr} {sp : List (Str × Nat × Nat)} (h : SpotsAt H d sp) (k : Keep H H') : SpotsAt H' d sp := by
  obtain ⟨kvs, h1, h2⟩ := h
  exact ⟨kvs, k _ _ (fun ys e => by cases e) h1, ent_keep k.tk h2⟩
theorem ent_none {H : Hp} {z : Str} : ∀ {kvs : List (Key × V)} {sp : List (Str × Nat × Nat)}, Each (Ent H) kvs sp → z ∉ sp.map (·.1) → valV kvs (Sum.inr z : Key) = none
  | _, _, .nil, _ => rfl
  | _, _, .cons (a := kv) (b := s) r t, h => by
    rw [List.map_cons, List.mem_cons, not_or] at h
    rw [valV_neg (fun e => h.1 (Sum.inr.inj (e.symm.trans r.1)))]
    exact ent_none t h.2
theorem ent_some {H : Hp} {z : Str} {r c : Nat} : ∀ {kvs : List (Key × V)} {sp : List (Str × Nat × Nat)}, Each (Ent H) kvs sp → (sp.map (·.1)).Nodup → (z, r, c) ∈ sp → ∃ t, valV kvs (Sum.inr z : Key) = some (.ref t) ∧ H t = some (.tup [.int r, .int c])
  | _, _, .nil, _, h => by cases h
  | _, _, .cons (a := kv) (b := s) e t, nd, h => by
    obtain ⟨n1, n2⟩ := List.nodup_cons.mp nd
    rcases List.mem_cons.mp h with h | h
    · subst h
      obtain ⟨e1, u, e2, hu⟩ := e
      exact ⟨u, by rw [valV_pos e1, e2], hu⟩
    · have ne : ¬ s.1 = z := fun q => n1 (List.mem_map.mpr ⟨_, h, q.symm⟩)
      obtain ⟨u, e2, hu⟩ := ent_some t n2 h
      exact ⟨u, by rw [valV_neg (fun q => ne (Sum.inr.inj (e.1.symm.trans q)))]; exact e2, hu⟩
theorem ent_keys {H : Hp} : ∀ {kvs : List (Key × V)} {sp : List (Str × Nat × Nat)}, Each (Ent H) kvs sp → kvs.map (fun kv => kV kv.1) = (sp.map (·.1)).map V.str
  | _, _, .nil => rfl
  | _, _, .cons e t => by
    rw [List.map_cons, List.map_cons, List.map_cons, ent_keys t, e.1]
    rfl
section
variable {P : Program} {w : World} {K : PySem.W.Frag} {mg : Str → Option Value} {base : Heap} {f : Addr} {fd : FuncData}
/-! ### wrong_spot of a good grid -/
def spWrong : Sp := fun vs H Q _ => ∃ (L : Addr) (g : Grid) (wd : Nat), vs = [.ref L] ∧ GridAt H L g ∧ Good g wd ∧ ∀ (H' : Hp), Same H H' → Q .non H'
abbrev nWrong : List Str := ["rows", "names", "at", "row", "column", "part"]
theorem scWrong : FnScope nWrong ["rows"] (defScope sWrong) := ⟨rfl, rfl, rfl, by decide +kernel, rfl, by decide +kernel, by decide +kernel⟩
theorem take_snoc {α : Type} {l : List α} {i : Nat} {x : α} (h : l[i]? = some x) : l.take (i + 1) = l.take i ++ [x] := by
  rw [List.take_add_one, h]
  rfl
theorem len_take {α : Type} {l : List α} {i : Nat} {x : α} (h : l[i]? = some x) : (l.take i).length = i := by
  have := (List.getElem?_eq_some_iff.mp h).1
  rw [List.length_take]
  omega
/-- a name isn't among those ahead of it -/
theorem ahead_new {g : Grid} {wd : Nat} (gd : Good g wd) {i j : Nat} {row : Row} {z : Str} (hrow : g[i]? = some row) (ho : row[j]? = some (some z)) : z ∉ (spG 0 (g.take i) ++ spR i 0 (row.take j)).map (·.1) := by
  have hcz : cellAt g i j = some z := cellAt_of hrow ho
  intro hm
  obtain ⟨⟨y, r', c'⟩, hm2, rfl⟩ := List.mem_map.mp hm
  have hlt : (r', c') = (i, j) := by
    have hc2 : cellAt g r' c' = some y := by
      rcases List.mem_append.mp hm2 with h | h
      · obtain ⟨k, row2, e, h1, h2⟩ := (spG_mem _ 0).mp h
        have : r' = k := by omega
        subst this
        rw [List.getElem?_take] at h1
        split at h1
        · exact cellAt_of h1 h2
        · cases h1
      · obtain ⟨e, k, e2, h1⟩ := (spR_mem i _ 0).mp h
        have : c' = k := by omega
        subst this e
        rw [List.getElem?_take] at h1
        split at h1
        · exact cellAt_of hrow h1
        · cases h1
    obtain ⟨h1, h2⟩ := cell_inj gd.nd hc2 hcz
    rw [h1, h2]
  cases hlt
  rcases List.mem_append.mp hm2 with h | h
  · obtain ⟨k, row2, e, h1, h2⟩ := (spG_mem _ 0).mp h
    rw [List.getElem?_take] at h1
    split at h1
    · omega
    · cases h1
  · obtain ⟨e, k, e2, h1⟩ := (spR_mem i _ 0).mp h
    rw [List.getElem?_take] at h1
    split at h1
    · omega
    · cases h1
theorem ahead_len {g : Grid} {wd : Nat} (gd : Good g wd) {i j : Nat} {row : Row} (hrow : g[i]? = some row) : ((spG 0 (g.take i) ++ spR i 0 (row.take j)).map (·.1)).length ≤ 42 := by
  rw [List.map_append, spG_fst, spR_fst, List.length_append]
  have a1 := len_names (g := g.take i) (wd := wd) fun r hr => gd.rows r (List.mem_of_mem_take hr)
  have a2 : (g.take i).length ≤ 6 := by rw [List.length_take]; have := gd.h6; omega
  have a3 : (g.take i).length * wd ≤ 6 * 6 := Nat.mul_le_mul a2 gd.w6
  have a4 : (rnames (row.take j)).length ≤ (row.take j).length := List.length_filterMap_le id _
  have a5 : (row.take j).length ≤ row.length := List.length_take_le' _ _
  have a6 := gd.rows row (List.mem_of_getElem? hrow)
  have a7 := gd.w6
  omega
theorem ahead_snoc {g : Grid} {i j : Nat} {row : Row} {o : Option Str} (ho : row[j]? = some o) : spG 0 (g.take i) ++ spR i 0 (row.take (j + 1)) = spG 0 (g.take i) ++ spR i 0 (row.take j) ++ (o.toList.map fun z => (z, i, j)) := by
  rw [take_snoc ho, spR_snoc, len_take ho, Nat.zero_add, List.append_assoc]
theorem ok_wrong (F : Fun K "wrong_spot" "wrong_spot" sWrong f fd) (B : Bi mg) (hI : Has P w K mg base "is_word" 1 ["thing"] spIsWord) : FnOk P w K mg base CX0 2 f fd ["rows"] spWrong := by
  refine F.ok scWrong (fun vs H Q E h => ?_) (fun cdv A outer s H vs Q E hr h => ?_)
  · obtain ⟨L, g, wd, rfl, _⟩ := h
    rfl
  · obtain ⟨L, g, wd, rfl, hG, gd, q⟩ := h
    refine ⟨_, pss_cons (ps_set (i := 1) scWrong.nd rfl (.inl rfl) (pe_lst pa_nil))
      (pss_cons (ps_for PassesOwn.never rfl (pi_enumT (by rfl) B.enum (pa_cons (pv 0) pa_nil)) (pg_tup rfl (pgs_cons (pg_name (i := 2) scWrong.nd rfl (.inl rfl)) (pgs_cons (pg_name (i := 3) scWrong.nd rfl (.inl rfl)) pgs_nil)))
        (pss_one (ps_for PassesOwn.never rfl (pi_enumT (by rfl) B.enum (pa_cons (pv 3) pa_nil)) (pg_tup rfl (pgs_cons (pg_name (i := 4) scWrong.nd rfl (.inl rfl)) (pgs_cons (pg_name (i := 5) scWrong.nd rfl (.inl rfl)) pgs_nil)))
          (pss_cons (ps_if (pt_cmp (pc_isN (pv 5))) (pss_one ps_continue) pss_nil)
          (pss_cons (ps_if (PW.pt (pw_or (pt_not (pt_val (pe_h hI hr (pa_cons (pv 5) pa_nil)))) (pw_or1 (pt_cmpR op_in_seq (pv 5) (pv 1) (by rfl))))) (pss_one ps_never) pss_nil)
          (pss_one (ps_expr (pe_bm PySem.F.plainAttrs_list PySem.F.slot_list_append PySem.F.type_list_append mt_append (pv 1) (pa_cons (pv 5) pa_nil)))))))))
      (pss_one (ps_ret pe_non))), ?_⟩
    refine ⟨lz, fun d hd => ?_⟩
    obtain ⟨as, hL, hR⟩ := id hG
    have s0 : Same H (upd H d (.lst [])) := same_new hd
    refine ⟨_, rfl, L, _, rfl, .inl (.inl (s0 _ _ hL)), for_it (walk_enumT (K := K) (a := L) (xs := as.map V.ref)) (fun i σ H' => (∃ y2 y3 y4 y5, σ = [some (.ref L), some (.ref d), y2, y3, y4, y5]) ∧ Same H H' ∧ H' d = some (.lst (((spG 0 (g.take i)).map (·.1)).map V.str)))
      ⟨⟨_, _, _, _, rfl⟩, s0, upd_same⟩ (fun i σ H' _ h => .inl (.inl (h.2.1 _ _ hL))) ?_ ?_⟩
    · rintro i x σ H1 H2 hi ⟨⟨y2, y3, y4, y5, rfl⟩, s1, hd1⟩ ⟨T, x1, x2, rfl, hT, rfl, ex1, ex2⟩
      cases ex1
      have ex2 : (as.map V.ref)[i]? = some x2 := ex2
      rw [List.getElem?_map] at ex2
      obtain ⟨p, hp, rfl⟩ := Option.map_eq_some_iff.mp ex2
      obtain ⟨row, hrow, hH⟩ := hR.get hp
      have s2 : Same H1 (upd H1 T (.tup [.int i, .ref p])) := same_new hT
      have hp2 := s2 _ _ (s1 _ _ hH)
      refine ⟨T, _, rfl, .inl (.inl upd_same), rfl, _, _, rfl, _, _, rfl, rfl, ?_⟩
      refine ⟨_, rfl, p, _, rfl, .inl (.inl hp2), for_it (walk_enumT (K := K) (a := p) (xs := row.map oV)) (fun j σ H' => (∃ y4 y5, σ = [some (.ref L), some (.ref d), some (.int i), some (.ref p), y4, y5]) ∧ Same H H' ∧ H' d = some (.lst (((spG 0 (g.take i) ++ spR i 0 (row.take j)).map (·.1)).map V.str)))
        ⟨⟨_, _, rfl⟩, s1.trans s2, by simpa [spR] using s2 _ _ hd1⟩ (fun j σ H' _ h => .inl (.inl (h.2.1 _ _ hH))) ?_ ?_⟩
      · rintro j x σ H3 H4 hj ⟨⟨z4, z5, rfl⟩, s3, hd3⟩ ⟨T2, x1, x2, rfl, hT2, rfl, ex1, ex2⟩
        cases ex1
        have ex2 : (row.map oV)[j]? = some x2 := ex2
        rw [List.getElem?_map] at ex2
        obtain ⟨o, ho, rfl⟩ := Option.map_eq_some_iff.mp ex2
        have s4 : Same H3 (upd H3 T2 (.tup [.int j, oV o])) := same_new hT2
        refine ⟨T2, _, rfl, .inl (.inl upd_same), rfl, _, _, rfl, _, _, rfl, rfl, ?_⟩
        cases o with
        | none =>
          refine ⟨_, rfl, _, rfl, iteT ?_⟩
          refine ⟨⟨_, _, rfl⟩, s3.trans s4, ?_⟩
          rw [ahead_snoc ho]
          simpa using s4 _ _ hd3
        | some z =>
          have hzw : IsWd z := gd.wd z (mem_names.mpr ⟨i, j, cellAt_of hrow ho⟩)
          refine ⟨_, rfl, _, rfl, iteF ?_⟩
          refine ⟨_, rfl, z, rfl, by have := hzw.len; omega, fun H5 s5 => ⟨_, rfl, ?_⟩⟩
          rw [show wdB z = true from hzw]
          have hd5 := s5 _ _ (s4 _ _ hd3)
          have hin : inV (.str z) (((spG 0 (g.take i) ++ spR i 0 (row.take j)).map (·.1)).map V.str) = false := by
            rw [inV_strs]
            exact decide_eq_false (ahead_new gd hrow ho)
          refine iteF ⟨_, rfl, _, rfl, d, _, rfl, .inl (.inl (.inl hd5)), rfl, flat_strs _, false, ?_, ?_⟩
          · exact congrArg V.bl hin
          refine iteF ⟨_, rfl, .inl ⟨rfl, _, .inl (.inl hd5)⟩, _, rfl, d, _, _, rfl, rfl, hd5, ?_, ?_⟩
          · rw [List.length_map]
            exact small1000 (by have := ahead_len gd hrow (j := j); omega)
          · refine ⟨⟨_, _, rfl⟩, same_mut ((s3.trans s4).trans s5) hd, ?_⟩
            rw [upd_same, ahead_snoc ho]
            simp [oV]
      · rintro σ H3 ⟨⟨z4, z5, rfl⟩, s3, hd3⟩
        refine ⟨⟨_, _, _, _, rfl⟩, s3, ?_⟩
        rw [List.length_map, List.take_length] at hd3
        rw [take_snoc hrow, spG_snoc, len_take hrow, Nat.zero_add]
        exact hd3
    · rintro σ H3 ⟨⟨y2, y3, y4, y5, rfl⟩, s3, hd3⟩
      exact q H3 s3
/-! ### spots_in of a good grid -/
def spSpotsIn : Sp := fun vs H Q _ => ∃ (L : Addr) (g : Grid) (wd : Nat), vs = [.ref L] ∧ GridAt H L g ∧ Good g wd ∧
  ∀ (d : Addr) (H' : Hp), H d = none → Same H H' → SpotsAt H' d (spG 0 g) → Q (.ref d) H'
abbrev nSpotsIn : List Str := ["rows", "at", "row", "column", "part"]
theorem scSpotsIn : FnScope nSpotsIn ["rows"] (defScope sSpotsIn) := ⟨rfl, rfl, rfl, by decide +kernel, rfl, by decide +kernel, by decide +kernel⟩
theorem ok_spotsin (F : Fun K "spots_in" "spots_in" sSpotsIn f fd) (B : Bi mg) : FnOk P w K mg base CX0 1 f fd ["rows"] spSpotsIn := by
  refine F.ok scSpotsIn (fun vs H Q E h => ?_) (fun cdv A outer s H vs Q E hr h => ?_)
  · obtain ⟨L, g, wd, rfl, _⟩ := h
    rfl
  · obtain ⟨L, g, wd, rfl, hG, gd, q⟩ := h
    refine ⟨_, pss_one (ps_ret (pe_dc2 (own := [("at", 1), ("row", 2), ("column", 3), ("part", 4)]) (vs1 := [3, 4]) (ga := gTup K 2 (gCons (gName 1) (gCons (gName 2) gNil))) (tta := tYes) (wb := iEnumT K (tCons (tVar 2) tNil)) (gb := gTup K 2 (gCons (gName 3) (gCons (gName 4) gNil))) (ttb := tB (tNotN (tVar 4))) (tk := tVar 4) (tv := tTup (tCons (tVar 1) (tCons (tVar 3) tNil))) rfl scSpotsIn.nd (pi_enumT (by rfl) B.enum (pa_cons (pv 0) pa_nil)) (blkOk_by (N := nSpotsIn) (sc := defScope sSpotsIn) (by decide +kernel)) (by decide)
      (fun _ _ _ _ _ => pg_tup rfl (pgs_cons (pg_name (i := 1) scSpotsIn.nd rfl (.inl rfl)) (pgs_cons (pg_name (i := 2) scSpotsIn.nd rfl (.inl rfl)) pgs_nil))) (fun _ _ _ _ _ => pts_nil)
      (fun _ _ _ _ _ => pi_enumT (by rfl) B.enum (pa_cons (pv 2) pa_nil)) (fun _ _ _ _ _ => pg_tup rfl (pgs_cons (pg_name (i := 3) scSpotsIn.nd rfl (.inl rfl)) (pgs_cons (pg_name (i := 4) scSpotsIn.nd rfl (.inl rfl)) pgs_nil)))
      (fun _ _ _ _ _ => pts_one (pt_cmp (pc_notN (pv 4)))) (fun _ _ _ _ _ => pv 4) (fun _ _ _ _ _ => pe_tup (pa_cons (pv 1) (pa_cons (pv 3) pa_nil))))), ?_⟩
    obtain ⟨as, hL, hR⟩ := id hG
    refine ⟨_, rfl, L, _, rfl, .inl (.inl hL), fun d hd => dc2_it (walk_enumT (K := K) (a := L) (xs := as.map V.ref)) (fun i H' => Same H H' ∧ SpotsAt H' d (spG 0 (g.take i))) ⟨same_new hd, [], upd_same, .nil⟩ (fun i H' _ h => .inl (.inl (h.1 _ _ hL))) ?_ ?_⟩
    · rintro i x H1 H2 hi ⟨s1, kvs1, hd1, e1⟩ ⟨T, x1, x2, rfl, hT, rfl, ex1, ex2⟩
      cases ex1
      have ex2 : (as.map V.ref)[i]? = some x2 := ex2
      rw [List.getElem?_map] at ex2
      obtain ⟨p, hp, rfl⟩ := Option.map_eq_some_iff.mp ex2
      obtain ⟨row, hrow, hH⟩ := hR.get hp
      have s2 : Same H1 (upd H1 T (.tup [.int i, .ref p])) := same_new hT
      have hp2 := s2 _ _ (s1 _ _ hH)
      refine ⟨T, _, rfl, .inl (.inl upd_same), rfl, _, _, rfl, _, _, rfl, rfl, rfl, yes_it ?_⟩
      refine ⟨_, rfl, p, _, rfl, .inl (.inl hp2), inn_it (walk_enumT (K := K) (a := p) (xs := row.map oV)) (fun j H' => Same H H' ∧ SpotsAt H' d (spG 0 (g.take i) ++ spR i 0 (row.take j)))
        ⟨s1.trans s2, kvs1, s2 _ _ hd1, by simpa [spR] using ent_keep (tk_same s2) e1⟩ (fun j H' _ h => .inl (.inl (h.1 _ _ hH))) ?_ ?_⟩
      · rintro j x H3 H4 hj ⟨s3, kvs3, hd3, e3⟩ ⟨T2, x1, x2, rfl, hT2, rfl, ex1, ex2⟩
        cases ex1
        have ex2 : (row.map oV)[j]? = some x2 := ex2
        rw [List.getElem?_map] at ex2
        obtain ⟨o, ho, rfl⟩ := Option.map_eq_some_iff.mp ex2
        have s4 : Same H3 (upd H3 T2 (.tup [.int j, oV o])) := same_new hT2
        refine ⟨T2, _, rfl, .inl (.inl upd_same), rfl, _, _, rfl, _, _, rfl, rfl, rfl, ?_⟩
        cases o with
        | none =>
          refine ⟨_, rfl, _, rfl, iteF ?_⟩
          refine ⟨s3.trans s4, kvs3, s4 _ _ hd3, ?_⟩
          rw [ahead_snoc ho]
          simpa using ent_keep (tk_same s4) e3
        | some z =>
          refine ⟨_, rfl, _, rfl, iteT ?_⟩
          have hd5 := s4 _ _ hd3
          have e5 := ent_keep (tk_same s4) e3
          have hv : valV kvs3 (Sum.inr z : Key) = none := ent_none e5 (ahead_new gd hrow ho)
          refine ⟨_, rfl, _, rfl, _, rfl, lz, fun T6 hT6 => ?_⟩
          have hd6 := (same_new (o := .tup [.int i, .int j]) hT6) _ _ hd5
          refine ⟨kvs3, Sum.inr z, rfl, hd6, ?_, same_mut ((s3.trans s4).trans (same_new hT6)) hd, kvs3 ++ [(Sum.inr z, .ref T6)], ?_, ?_⟩
          · have h1 := e5.length
            have h2 := ahead_len gd hrow (j := j)
            rw [List.length_map] at h2
            exact small1000 (by omega)
          · rw [putK_new _ hv, upd_same]
          · rw [ahead_snoc ho]
            refine Each.append (ent_keep (tk_updD hd6) (ent_keep (tk_new hT6) e5)) (.cons ⟨rfl, T6, rfl, ?_⟩ .nil)
            exact (tk_updD hd6) _ _ upd_same
      · rintro H3 ⟨s3, kvs3, hd3, e3⟩
        refine ⟨s3, kvs3, hd3, ?_⟩
        rw [List.length_map, List.take_length] at e3
        rw [take_snoc hrow, spG_snoc, len_take hrow, Nat.zero_add]
        exact e3
    · rintro H3 ⟨s3, kvs3, hd3, e3⟩
      have hlen : (as.map V.ref).length = g.length := by rw [List.length_map, hR.length]
      rw [hlen, List.take_length] at e3
      exact q d H3 hd s3 ⟨kvs3, hd3, e3⟩
/-! ### checked_spots of a good grid -/
def spSpots : Sp := fun vs H Q _ => ∃ (L : Addr) (g : Grid) (wd : Nat), vs = [.ref L] ∧ GridAt H L g ∧ Good g wd ∧
  ∀ (d : Addr) (H' : Hp), H d = none → Same H H' → SpotsAt H' d (spG 0 g) → Q (.ref d) H'
abbrev nSpots : List Str := ["rows", "wrong", "spots"]
theorem scSpots : FnScope nSpots ["rows"] (defScope sSpots) := ⟨rfl, rfl, rfl, by decide +kernel, rfl, by decide +kernel, by decide +kernel⟩
theorem ok_spots (F : Fun K "checked_spots" "checked_spots" sSpots f fd) (hA : Has P w K mg base "are_rows" 1 ["thing"] spAreRows) (hW : Has P w K mg base "wrong_spot" 2 ["rows"] spWrong) (hS : Has P w K mg base "spots_in" 1 ["rows"] spSpotsIn) :
    FnOk P w K mg base CX0 3 f fd ["rows"] spSpots := by
  refine F.ok scSpots (fun vs H Q E h => ?_) (fun cdv A outer s H vs Q E hr h => ?_)
  · obtain ⟨L, g, wd, rfl, _⟩ := h
    rfl
  · obtain ⟨L, g, wd, rfl, hG, gd, q⟩ := h
    refine ⟨_, pss_cons (ps_if (pt_not (pt_val (pe_h hA hr (pa_cons (pv 0) pa_nil)))) (pss_one ps_never) pss_nil)
      (pss_cons (ps_set (i := 1) scSpots.nd rfl (.inl rfl) (pe_h hW hr (pa_cons (pv 0) pa_nil)))
      (pss_cons (ps_if (pt_cmp (pc_notN (pv 1))) (pss_one ps_never) pss_nil)
      (pss_cons (ps_set (i := 2) scSpots.nd rfl (.inl rfl) (pe_h hS hr (pa_cons (pv 0) pa_nil)))
      (pss_cons (ps_if (pt_not (pt_truth (pv 2) (by intro _; rfl))) (pss_one ps_never) pss_nil)
      (pss_one (ps_ret (pv 2))))))), ?_⟩
    refine ⟨_, rfl, L, g, wd, rfl, hG, gd, true, rfl, iteF ?_⟩
    refine ⟨_, rfl, L, g, wd, rfl, hG, gd, fun H1 s1 => ⟨_, rfl, _, rfl, iteF ?_⟩⟩
    have hG1 : GridAt H1 L g := hG.keep (tk_same s1)
    refine ⟨_, rfl, L, g, wd, rfl, hG1, gd, fun d H2 hd s2 ⟨kvs, hk, he⟩ => ?_⟩
    have hne : kvs.isEmpty = false := by
      cases kvs with
      | nil =>
        have h1 := he.length
        have h2 : ((spG 0 g).map (·.1)).length = (names g).length := by rw [spG_fst]
        rw [List.length_map] at h2
        have h3 : names g = [] := List.eq_nil_of_length_eq_zero (by rw [← h2, ← h1]; rfl)
        exact absurd h3 gd.ne
      | cons a r => rfl
    refine ⟨_, rfl, _, .inr (.inr ⟨kvs, hk, rfl⟩), ?_⟩
    rw [hne]
    refine iteF ⟨_, rfl, q d H2 (s1.free hd) (s1.trans s2) ⟨kvs, hk, he⟩⟩
end
end Wl




namespace Wl
open PySem PySem.Spec PyProof.Rows L2
section
variable {J : It} {ys : List V} {G : Hp → Prop} {slot slot1 : Nat} {wi1 : TI} {tt1 : TT} {te : TE} {vs vs1 : List Nat} {σ : L2.St} {H1 : Hp} {D : Addr} {Qd : Hp → Prop}
theorem flat_take_snoc {α β : Type} {f : α → List β} {ys : List α} {i : Nat} {x : α} (h : ys[i]? = some x) : (ys.take (i + 1)).flatMap f = (ys.take i).flatMap f ++ f x := by
  rw [List.take_add_one, h, List.flatMap_append]
  simp
/-- [e for x in ys for y in inn x if t]: the heap only growing -/
theorem lc2_rel (w : L2.Walk J ys.length G (YAt ys)) (hD : H1 D = none) (inn : V → List V) (keep : V → V → Bool) (R : V → V → V → Hp → Prop) (N : Nat)
    (hG : ∀ H, Same H1 H → G H)
    (hw : ∀ x, wipe ((wipe σ vs).set slot (some x)) vs = wipe σ vs)
    (hw1 : ∀ x y, wipe ((wipe ((wipe σ vs).set slot (some x)) vs1).set slot1 (some y)) vs1 = wipe ((wipe σ vs).set slot (some x)) vs1)
    (hi : ∀ (x : V) (H : Hp) (acc : List V), x ∈ ys → Same H1 H → H D = some (.lst acc) → ∀ Rr : It → Hp → Prop,
      (∀ J1 H4 G1, Same H H4 → L2.Walk J1 (inn x).length G1 (YAt (inn x)) → (∀ H', SameX D H4 H' → G1 H') → Rr J1 H4) → wi1 ((wipe σ vs).set slot (some x)) H Rr)
    (ht : ∀ (x y : V) (H : Hp), x ∈ ys → y ∈ inn x → Same H1 H → ∀ Q : Bool → Hp → Prop, Q (keep x y) H → tt1 ((wipe ((wipe σ vs).set slot (some x)) vs1).set slot1 (some y)) H Q)
    (he : ∀ (x y : V) (H : Hp), x ∈ ys → y ∈ inn x → keep x y = true → Same H1 H → ∀ Q : VK, (∀ z H', Same H H' → R x y z H' → Q z H') → te ((wipe ((wipe σ vs).set slot (some x)) vs1).set slot1 (some y)) H Q)
    (hR : ∀ x y z H H' acc, H D = some (.lst acc) → SameX D H H' → R x y z H → R x y z H')
    (hl : ∀ x ∈ ys, (inn x).length ≤ N) (hn : ys.length * N < sizeLine)
    (hd : ∀ zs H, Same H1 H → H D = some (.lst zs) → Each (fun (xy : V × V) z => R xy.1 xy.2 z H) (ys.flatMap fun x => ((inn x).filter (keep x)).map fun y => (x, y)) zs → Qd H) :
    ∃ W : Nat → Nat → Hp → Prop, (∃ m, W 0 m (upd H1 D (.lst []))) ∧ ∀ i m H, W i m H →
      (J.stop i H ∧ Qd H) ∨ (J.go i H ∧ ∃ Nx : Hp → Prop, (∀ H', Nx H' → ∃ m', m' < m ∧ W (i + 1) m' H') ∧ ∀ x H', J.yld i H x H' → gName slot x (wipe σ vs) H' fun σ2 H2 => wipe σ2 vs = wipe σ vs ∧ tYes σ2 H2 fun b H3 =>
        if b = true then wi1 σ2 H3 fun J1 H4 => ∃ W1 : Nat → Nat → Hp → Prop, (∃ m, W1 0 m H4) ∧ ∀ j k H, W1 j k H →
          (J1.stop j H ∧ Nx H) ∨ (J1.go j H ∧ ∃ Nx1 : Hp → Prop, (∀ H', Nx1 H' → ∃ k', k' < k ∧ W1 (j + 1) k' H') ∧ ∀ x H', J1.yld j H x H' → gName slot1 x (wipe σ2 vs1) H' fun σ3 H5 => wipe σ3 vs1 = wipe σ2 vs1 ∧ tt1 σ3 H5 fun b H6 =>
            if b = true then te σ3 H6 fun y H7 => ∃ acc, H7 D = some (.lst acc) ∧ acc.length < sizeLine ∧ Nx1 (upd H7 D (.lst (acc ++ [y]))) else Nx1 H6)
        else Nx H3) := by
  have cnt : ∀ (l : List V), (∀ x ∈ l, (inn x).length ≤ N) → (l.flatMap fun x => ((inn x).filter (keep x)).map fun y => (x, y)).length ≤ l.length * N := by
    intro l
    induction l with
    | nil => intro _; simp
    | cons x r ih =>
      intro h
      rw [List.flatMap_cons, List.length_append, List.length_map, List.length_cons, Nat.succ_mul]
      have h1 : ((inn x).filter (keep x)).length ≤ (inn x).length := List.length_filter_le _ _
      have h2 := h x List.mem_cons_self
      have h3 := ih fun y hy => h y (List.mem_cons_of_mem _ hy)
      omega
  refine ⟨fun i m H => m = ys.length - i ∧ i ≤ ys.length ∧ ∃ zs, Same H1 H ∧ H D = some (.lst zs) ∧ Each (fun (xy : V × V) z => R xy.1 xy.2 z H) ((ys.take i).flatMap fun x => ((inn x).filter (keep x)).map fun y => (x, y)) zs,
    ⟨ys.length, by simp, Nat.zero_le _, [], same_new hD, upd_same, by simpa using Each.nil⟩, ?_⟩
  rintro i m H ⟨rfl, hi0, zs, s, hz, ez⟩
  by_cases hlt : i < ys.length
  · refine .inr ⟨w.goes i H hlt (hG H s), fun H' => ∃ zs, Same H1 H' ∧ H' D = some (.lst zs) ∧ Each (fun (xy : V × V) z => R xy.1 xy.2 z H') ((ys.take (i + 1)).flatMap fun x => ((inn x).filter (keep x)).map fun y => (x, y)) zs,
      fun H' h => ⟨ys.length - (i + 1), by omega, rfl, hlt, h⟩, fun x H' y => ?_⟩
    obtain ⟨rfl, hx⟩ := w.yields i H x H' hlt (hG H s) y
    have hm : x ∈ ys := List.mem_of_getElem? hx
    have hf := flat_take_snoc (f := fun x => ((inn x).filter (keep x)).map fun y => (x, y)) hx
    refine ⟨hw x, yes_it ?_⟩
    refine hi x _ zs hm s hz _ fun J1 H4 G1 s4 w1 hG1 => ?_
    have hz4 := s4 _ _ hz
    refine ⟨fun j k H => k = (inn x).length - j ∧ j ≤ (inn x).length ∧ ∃ ws, Same H1 H ∧ SameX D H4 H ∧ H D = some (.lst ws) ∧ Each (fun (xy : V × V) z => R xy.1 xy.2 z H) (((ys.take i).flatMap fun x => ((inn x).filter (keep x)).map fun y => (x, y)) ++ (((inn x).take j).filter (keep x)).map fun y => (x, y)) ws,
      ⟨(inn x).length, by simp, Nat.zero_le _, zs, s.trans s4, SameX.refl _ _, hz4, ?_⟩, ?_⟩
    · simpa using ez.mono fun a b r => hR _ _ _ _ _ _ hz (sx s4) r
    · rintro j k H5 ⟨rfl, hj0, ws, s5, x5, hz5, ez5⟩
      by_cases hjt : j < (inn x).length
      · refine .inr ⟨w1.goes j H5 hjt (hG1 H5 x5), fun H' => ∃ ws, Same H1 H' ∧ SameX D H4 H' ∧ H' D = some (.lst ws) ∧ Each (fun (xy : V × V) z => R xy.1 xy.2 z H') (((ys.take i).flatMap fun x => ((inn x).filter (keep x)).map fun y => (x, y)) ++ (((inn x).take (j + 1)).filter (keep x)).map fun y => (x, y)) ws,
          fun H' h => ⟨(inn x).length - (j + 1), by omega, rfl, hjt, h⟩, fun y H' yy => ?_⟩
        obtain ⟨rfl, hy⟩ := w1.yields j H5 y H' hjt (hG1 H5 x5) yy
        have hym : y ∈ inn x := List.mem_of_getElem? hy
        have hf2 := filter_take_snoc (p := keep x) hy
        refine ⟨hw1 x y, ht x y _ hm hym s5 _ ?_⟩
        refine ite_b (fun e => ?_) (fun e => ?_)
        · refine he x y _ hm hym e s5 _ fun z H6 s6 r6 => ⟨ws, s6 _ _ hz5, ?_, ws ++ [z], same_mut (s5.trans s6) hD, ?_, upd_same, ?_⟩
          · have h1 := ez5.length
            have h2 := cnt (ys.take i) fun x hx => hl x (List.mem_of_mem_take hx)
            have h3 : (((inn x).take j).filter (keep x)).length ≤ N := by
              have a1 : (((inn x).take j).filter (keep x)).length ≤ ((inn x).take j).length := List.length_filter_le _ _
              have a2 : ((inn x).take j).length ≤ (inn x).length := List.length_take_le' _ _
              have a3 := hl x hm
              omega
            rw [List.length_append, List.length_map] at h1
            have h4 : (ys.take i).length * N + N ≤ ys.length * N := by
              rw [← Nat.succ_mul]
              refine Nat.mul_le_mul_right N ?_
              rw [List.length_take]
              omega
            omega
          · exact (x5.trans (sx s6)).trans sameX_upd
          · rw [hf2, if_pos e, List.map_append, ← List.append_assoc]
            refine Each.append (ez5.mono fun a b r => ?_) (.cons ?_ .nil)
            · exact hR _ _ _ _ _ _ hz5 (fun b o n h => by rw [upd_ne n]; exact s6 _ _ h) r
            · exact hR _ _ _ _ _ _ (s6 _ _ hz5) sameX_upd r6
        · refine ⟨ws, s5, x5, hz5, ?_⟩
          rw [hf2, if_neg (by rw [e]; decide), List.append_nil]
          exact ez5
      · have e : j = (inn x).length := by omega
        subst e
        refine .inl ⟨w1.stops H5 (hG1 H5 x5), ws, s5, hz5, ?_⟩
        rw [List.take_length] at ez5
        rw [hf]
        exact ez5
  · have e : i = ys.length := by omega
    subst e
    rw [List.take_length] at ez
    exact .inl ⟨w.stops H (hG H s), hd zs H s hz ez⟩
end
end Wl

namespace Wl
open PySem PySem.Spec PyProof.Rows L2
abbrev sCls : Stmt := topS 31
abbrev sInit : Stmt := inClass sCls 0
abbrev sCheck : Stmt := inClass sCls 1
structure Txt (K : PySem.W.Frag) (mg : Str → Option Value) (C : Addr) : Prop where
  cl : Cls K C
  nS : NoAttr K C "spots"
  nR : NoAttr K C "rows"
  mgC : mg "Land" = some (.ref C)
theorem srne : ¬ (("spots" : Str) = "rows") := by decide +kernel
def lf (d L : Addr) : List (Str × V) := putF "rows" (.ref L) (putF "spots" (.ref d) [])
theorem lf_spots (d L : Addr) : (lf d L).lookup ("spots" : Str) = some (.ref d) := by
  unfold lf
  rw [lookup_putF, if_neg srne, lookup_putF, if_pos rfl]
theorem lf_rows (d L : Addr) : (lf d L).lookup ("rows" : Str) = some (.ref L) := by
  unfold lf
  rw [lookup_putF, if_pos rfl]
theorem lf_no (d L : Addr) {m : Str} (h1 : ¬ m = "rows") (h2 : ¬ m = "spots") : (lf d L).lookup m = none := by
  unfold lf
  rw [lookup_putF, if_neg h1, lookup_putF, if_neg h2]
  rfl
def LandAt (C : Addr) (H : Hp) (p L : Addr) (g : Grid) : Prop := ∃ d dx, H p = some (.ins C dx (lf d L)) ∧ SpotsAt H d (spG 0 g) ∧ GridAt H L g
theorem LandAt.keep {C p L : Addr} {H H' : Hp} {g : Grid} (h : LandAt C H p L g) (k : Keep H H') : LandAt C H' p L g := by
  obtain ⟨d, dx, h1, h2, h3⟩ := h
  exact ⟨d, dx, k _ _ (fun xs e => by cases e) h1, h2.keep k, h3.keep k.tk⟩
theorem tk_updI {a : Addr} {H : Hp} {C dx : Addr} {fs : List (Str × V)} {o : HO} (ha : H a = some (.ins C dx fs)) : TupKeep H (upd H a o) := fun p xs h => by
  rw [upd_ne (ne_of h ha (by intro z; cases z))]
  exact h
theorem spots_updI {a d : Addr} {H : Hp} {C dx : Addr} {fs : List (Str × V)} {o : HO} {sp : List (Str × Nat × Nat)} (ha : H a = some (.ins C dx fs)) (h : SpotsAt H d sp) : SpotsAt (upd H a o) d sp := by
  obtain ⟨kvs, h1, h2⟩ := h
  exact ⟨kvs, by rw [upd_ne (ne_of h1 ha (by intro z; cases z))]; exact h1, ent_keep (tk_updI ha) h2⟩
section
variable {P : Program} {w : World} {K : PySem.W.Frag} {mg : Str → Option Value} {base : Heap} {f C : Addr} {fd : FuncData}
def spInit (C : Addr) : Sp := fun vs H Q _ => ∃ (p dx L : Addr) (g : Grid) (wd : Nat), vs = [.ref p, .ref L] ∧ H p = some (.ins C dx []) ∧ GridAt H L g ∧ Good g wd ∧
  ∀ (H' : Hp), (∀ b o, b ≠ p → H b = some o → H' b = some o) → LandAt C H' p L g → Q .non H'
theorem scInit : FnScope ["self", "rows"] ["self", "rows"] (defScope sInit) := ⟨rfl, rfl, rfl, by decide +kernel, rfl, by decide +kernel, by decide +kernel⟩
theorem ok_init (F : Fun K "__init__" "Land.__init__" sInit f fd) (T : Txt K mg C) (hS : Has P w K mg base "checked_spots" 3 ["rows"] spSpots) : FnOk P w K mg base CX0 4 f fd ["self", "rows"] (spInit C) := by
  refine F.ok scInit (fun vs H Q E h => ?_) (fun cdv A outer s H vs Q E hr h => ?_)
  · obtain ⟨p, dx, L, g, wd, rfl, _⟩ := h
    rfl
  · obtain ⟨p, dx, L, g, wd, rfl, hp, hG, gd, q⟩ := h
    refine ⟨_, pss_cons (ps_fld (pv 0) (pe_h hS hr (pa_cons (pv 1) pa_nil)) rfl) (pss_one (ps_fld (pv 0) (pv 1) rfl)), ?_⟩
    refine ⟨_, rfl, L, g, wd, rfl, hG, gd, fun d H1 hd s1 sp1 => ?_⟩
    have hp1 := s1 _ _ hp
    refine ⟨_, rfl, p, C, dx, [], rfl, hp1, T.cl, T.nS, (by show 0 < 1000; decide), ?_⟩
    refine ⟨_, rfl, _, rfl, p, C, dx, _, rfl, upd_same, T.cl, T.nR, (by show 1 < 1000; decide), ?_⟩
    refine q _ (fun b o n e => ?_) ⟨d, dx, upd_same, spots_updI upd_same (spots_updI hp1 sp1), ((hG.keep (tk_same s1)).keep (tk_updI hp1)).keep (tk_updI upd_same)⟩
    rw [upd_ne n, upd_ne n]
    exact s1 _ _ e

/-! ### names -/
def sd (z : Str) : V × PyData := (.str z, .str z)
theorem sort_strs (xs : List Str) : ((xs.map sd).mergeSort (PySem.W.dataLe false (·.2))).map (·.1) = (sortS xs).map V.str := by
  have h : (sortS xs).map sd = (xs.map sd).mergeSort (PySem.W.dataLe false (·.2)) := List.map_mergeSort fun a _ b _ => by
    rw [PySem.W.dataLe_eq]
    exact (le_data_str a b).symm
  rw [← h, List.map_map]
  rfl
theorem alike_strs (xs : List Str) : PySem.W.AllAlike ((xs.map sd).map (·.2)) := by
  intro d hd e he
  obtain ⟨b, hb, rfl⟩ := List.mem_map.mp hd
  obtain ⟨x, _, rfl⟩ := List.mem_map.mp hb
  obtain ⟨c, hc, rfl⟩ := List.mem_map.mp he
  obtain ⟨y, _, rfl⟩ := List.mem_map.mp hc
  rfl
theorem sortable_strs (xs : List Str) : PySem.W.Sortable ((xs.map sd).map (·.2)) := .inr fun d hd => by
  obtain ⟨b, hb, rfl⟩ := List.mem_map.mp hd
  obtain ⟨x, _, rfl⟩ := List.mem_map.mp hb
  exact ⟨(fun e => by cases e), (fun ys e => by cases e)⟩
/-- sorted of a list of texts, as a reading -/
theorem sort_reads {H : Hp} {Q : VK} {a : Addr} {xs : List Str} (h : SqL K H a (xs.map V.str)) (q : ∀ p, H p = none → Q (.ref p) (upd H p (.lst ((sortS xs).map V.str)))) : rSortD K [.ref a] H Q := by
  refine ⟨a, xs.map sd, rfl, ?_, ?_, alike_strs xs, sortable_strs xs, ?_, fun p hp => ?_⟩
  · rw [List.map_map]
    exact h
  · intro b hb
    obtain ⟨x, _, rfl⟩ := List.mem_map.mp hb
    exact .str x
  · intro b hb
    obtain ⟨x, _, rfl⟩ := List.mem_map.mp hb
    show PyData.depth (.str x) ≤ 8
    simp [PyData.depth]
  · rw [sort_strs]
    exact q p hp
def spCheck (C : Addr) : Sp := fun vs H Q _ => ∃ (p L : Addr) (g : Grid) (wd : Nat) (z : Str), vs = [.ref p, .str z] ∧ LandAt C H p L g ∧ Good g wd ∧ z ∈ names g ∧ ∀ (H' : Hp), Same H H' → Q .non H'
theorem scCheck : FnScope ["self", "name"] ["self", "name"] (defScope sCheck) := ⟨rfl, rfl, rfl, by decide +kernel, rfl, by decide +kernel, by decide +kernel⟩
theorem ok_check (F : Fun K "check_name" "Land.check_name" sCheck f fd) (T : Txt K mg C) (hI : Has P w K mg base "is_word" 1 ["thing"] spIsWord) : FnOk P w K mg base CX0 2 f fd ["self", "name"] (spCheck C) := by
  refine F.ok scCheck (fun vs H Q E h => ?_) (fun cdv A outer s H vs Q E hr h => ?_)
  · obtain ⟨p, L, g, wd, z, rfl, _⟩ := h
    rfl
  · obtain ⟨p, L, g, wd, z, rfl, hLa, gd, hz, q⟩ := h
    have hu := hu_of hr
    have hzw := gd.wd z hz
    refine ⟨_, pss_one (ps_if (PW.pt (pw_or (pt_not (pt_val (pe_h hI hr (pa_cons (pv 1) pa_nil)))) (pw_or1 (pt_cmp (pc_dnotin hu (pv 1) (pe_fld (pv 0) rfl)))))) (pss_one ps_never) pss_nil), ?_⟩
    refine ⟨_, rfl, z, rfl, by have := hzw.len; omega, fun H1 s1 => ⟨_, rfl, ?_⟩⟩
    rw [show wdB z = true from hzw]
    refine iteF ?_
    obtain ⟨d, dx, hp, ⟨kvs, hd, he⟩, hG⟩ := hLa.keep (kp_same s1)
    obtain ⟨r, c, hc⟩ := mem_names.mp hz
    obtain ⟨t, hv, ht⟩ := ent_some he (by rw [spG_fst]; exact gd.nd) (spG_cell.mpr hc)
    refine ⟨_, rfl, _, rfl, p, C, dx, _, _, rfl, hp, T.cl, T.nS, lf_spots _ _, d, _, rfl, DGet.k (k := Sum.inr z) hd, _, rfl, ?_⟩
    rw [hv]
    exact iteF (q H1 s1)
end
end Wl




namespace Wl
open PySem PySem.Spec PyProof.Rows L2
/-- at most six rows of at most six -/
structure Sized (g : Grid) (wd : Nat) : Prop where
  h6 : g.length ≤ 6
  w6 : wd ≤ 6
  rows : ∀ r ∈ g, r.length = wd
theorem Good.sized {g : Grid} {wd : Nat} (G : Good g wd) : Sized g wd := ⟨G.h6, G.w6, G.rows⟩
section
variable {P : Program} {w : World} {K : PySem.W.Frag} {mg : Str → Option Value} {base : Heap} {f C : Addr} {fd : FuncData}
/-! ### the law's own names -/
def spNames : Sp := fun vs H Q _ => ∃ (L : Addr) (g : Grid) (wd : Nat), vs = [.ref L] ∧ GridAt H L g ∧ Sized g wd ∧
  ∀ (t : Addr) (H' : Hp), H t = none → Same H H' → H' t = some (.lst ((sortS (names g)).map V.str)) → Q (.ref t) H'
abbrev nNames : List Str := ["_law_lots", "_law_found", "_law_row_here", "_law_label"]
theorem scNames : FnScope nNames ["_law_lots"] (defScope sNames) := ⟨rfl, rfl, rfl, by decide +kernel, rfl, by decide +kernel, by decide +kernel⟩
theorem row_filter (row : Row) : ((row.map oV).filter fun v => !decide (v = .non)).map id = (rnames row).map V.str := by
  rw [List.map_id]
  induction row with
  | nil => rfl
  | cons o r ih =>
    cases o with
    | none => exact ih
    | some z => exact congrArg (V.str z :: ·) ih
theorem names_take {g : Grid} {i : Nat} {row : Row} (h : g[i]? = some row) : names (g.take (i + 1)) = names (g.take i) ++ rnames row := by
  rw [take_snoc h, names_snoc]
theorem ok_names (F : Fun K "_law_names" "_law_names" sNames f fd) (B : Bi mg) : FnOk P w K mg base CX0 1 f fd ["_law_lots"] spNames := by
  refine F.ok scNames (fun vs H Q E h => ?_) (fun cdv A outer s H vs Q E hr h => ?_)
  · obtain ⟨L, g, wd, rfl, _⟩ := h
    rfl
  · obtain ⟨L, g, wd, rfl, ⟨as, hL, hR⟩, gd, q⟩ := h
    refine ⟨_, pss_cons (ps_set (i := 1) scNames.nd rfl (.inl rfl) (pe_lst pa_nil))
      (pss_cons (ps_for PassesOwn.never rfl (pi_tup (pv 0)) (pg_name (i := 2) scNames.nd rfl (.inl rfl))
        (pss_one (ps_expr (pe_bm PySem.F.plainAttrs_list PySem.F.slot_list_extend PySem.F.type_list_extend mt_extend (pv 1) (pa_cons
          (pe_lc (own := [("_law_label", 3)]) (g := gName 3) (tt := tB (tNotN (tVar 3))) rfl scNames.nd (pi_tup (pv 2)) (blkOk_by (N := nNames) (sc := defScope sNames) (by decide +kernel)) (fun _ _ _ _ _ => pg_name (i := 3) scNames.nd rfl (.inl rfl))
            (fun _ _ _ _ _ => pts_one (pt_cmp (pc_notN (pv 3)))) (fun _ _ _ _ _ => pv 3)) pa_nil)))))
      (pss_one (ps_ret (pe_callB (cr_sortD hr.units) (by rfl) B.sorted (by decide +kernel) (pa_cons (pv 1) pa_nil))))), ?_⟩
    refine ⟨lz, fun fA hf => ?_⟩
    have s0 : Same H (upd H fA (.lst [])) := same_new hf
    have hlen : (as.map V.ref).length = g.length := by rw [List.length_map, hR.length]
    refine ⟨_, rfl, L, rfl, ⟨_, .inl (.inl (s0 _ _ hL))⟩, for_tup (K := K) (a := L) (xs := as.map V.ref) (fun i σ H' => (∃ y2 y3, σ = [some (.ref L), some (.ref fA), y2, y3]) ∧ Same H H' ∧ H' fA = some (.lst ((names (g.take i)).map V.str)))
      ⟨⟨_, _, rfl⟩, s0, upd_same⟩ (fun i σ H' _ h => .inl (.inl (h.2.1 _ _ hL))) ?_ ?_⟩
    · rintro i x σ H1 hx ⟨⟨y2, y3, rfl⟩, s1, hf1⟩
      rw [List.getElem?_map] at hx
      obtain ⟨p, hp, rfl⟩ := Option.map_eq_some_iff.mp hx
      obtain ⟨row, hrow, hH⟩ := hR.get hp
      have hrl := gd.rows row (List.mem_of_getElem? hrow)
      refine ⟨_, rfl, .inl ⟨rfl, _, .inl (.inl hf1)⟩, _, rfl, p, rfl, ⟨_, .inl (.inl (s1 _ _ hH))⟩, fun D hD => ?_⟩
      refine lc_map (walk_tup (K := K) (a := p) (xs := row.map oV)) hD (fun v => !decide (v = .non)) id (fun H' s' => .inl (.inl (s' _ _ (s1 _ _ hH)))) (fun _ => rfl) ?_ ?_ ?_ ?_
      · intro x H' hx s' Q' q'
        exact ⟨_, rfl, _, rfl, q'⟩
      · intro x H' hx _ _ Q' q'
        exact ⟨_, rfl, q'⟩
      · rw [List.length_map]
        exact small1000 (by have := gd.w6; omega)
      · intro H2 s2 hD2
        rw [row_filter] at hD2
        have hf2 := s2 _ _ hf1
        refine ⟨fA, D, _, _, rfl, rfl, hf2, hD2, ?_, ⟨_, _, rfl⟩, same_mut (s1.trans s2) hf, ?_⟩
        · rw [List.length_map, List.length_map]
          have a1 := len_names (g := g.take i) (wd := wd) fun r hr => gd.rows r (List.mem_of_mem_take hr)
          have a2 : (g.take i).length ≤ 6 := by rw [List.length_take]; have := gd.h6; omega
          have a3 : (g.take i).length * wd ≤ 6 * 6 := Nat.mul_le_mul a2 gd.w6
          have a4 : (rnames row).length ≤ row.length := List.length_filterMap_le id _
          have a7 := gd.w6
          exact lzl (by omega)
        · rw [upd_same, names_take hrow, List.map_append]
    · rintro σ H1 ⟨⟨y2, y3, rfl⟩, s1, hf1⟩
      rw [hlen, List.take_length] at hf1
      refine ⟨_, rfl, ?_⟩
      dsimp only [tNil]
      refine sort_reads (K := K) (.inl (.inl hf1)) fun p hp => ?_
      exact q p _ (s1.free hp) (s1.trans (same_new hp)) upd_same

theorem grid_get {H : Hp} {L : Addr} {g : Grid} {wd : Nat} (gd : Good g wd) {as : List Addr} (hL : H L = some (.tup (as.map V.ref))) (hR : RowsAt H as g) {x y : Int} (hx : 0 ≤ x ∧ x < g.length) (hy : 0 ≤ y ∧ y < wd) :
    ∃ (p : Addr) (row : Row), atI (as.map V.ref) x = some (.ref p) ∧ H p = some (.tup (row.map oV)) ∧ row.length = wd ∧ atI (row.map oV) y = some (oV (cellAt g x.toNat y.toNat)) := by
  have hx2 : x.toNat < g.length := by omega
  have hg : g[x.toNat]? = some g[x.toNat] := List.getElem?_eq_getElem hx2
  obtain ⟨p, hp, hH⟩ := hR.get2 hg
  have hw := gd.rows _ (List.mem_of_getElem? hg)
  have hy2 : y.toNat < g[x.toNat].length := by omega
  refine ⟨p, g[x.toNat], at_of (j := x.toNat) (by omega) (by rw [List.getElem?_map, hp]; rfl), hH, hw, at_of (j := y.toNat) (by omega) ?_⟩
  rw [List.getElem?_map, List.getElem?_eq_getElem hy2, cellAt_of hg (List.getElem?_eq_getElem hy2)]
  rfl
end
end Wl




/-! A land's text. -/
namespace Wl
open PySem PySem.Spec PyProof.Rows L2
def partS : Option Str → Str
  | none => "-"
  | some z => z
def lineS (row : Row) : Str := Txt.join (" " : Str) (row.map partS)
def landS (g : Grid) : Str := Txt.join ("\n" : Str) (g.map lineS)
theorem tl_dash : TL.tl ("-" : Str) = [45] := by decide +kernel
theorem tl_blank : TL.tl (" " : Str) = [32] := by decide +kernel
theorem tl_end : TL.tl ("\n" : Str) = [10] := by decide +kernel
theorem wd_tl {z : Str} (h : IsWd z) : (1 ≤ (TL.tl z).length ∧ (TL.tl z).length ≤ 8) ∧ ∀ c ∈ TL.tl z, 97 ≤ c ∧ c ≤ 122 := by
  refine ⟨by rw [← TL.len_tl]; exact h.len, ?_⟩
  unfold IsWd wdB at h
  simp only [Bool.and_eq_true, decide_eq_true_eq, List.all_eq_true] at h
  exact h.2
theorem wd_dash {z : Str} (h : IsWd z) : z ≠ "-" := fun e => by
  have := (wd_tl h).2 45 (by rw [e, tl_dash]; simp)
  omega
/-- a part of a row -/
def OkP (o : Option Str) : Prop := ∀ z, o = some z → IsWd z
theorem part_tl {o : Option Str} (h : OkP o) : (TL.tl (partS o)).length ≤ 8 ∧ ∀ c ∈ TL.tl (partS o), 45 ≤ c ∧ c ≤ 122 := by
  cases o with
  | none =>
    show (TL.tl ("-" : Str)).length ≤ 8 ∧ ∀ c ∈ TL.tl ("-" : Str), 45 ≤ c ∧ c ≤ 122
    rw [tl_dash]
    exact ⟨by decide, fun c hc => by rw [List.mem_singleton.mp hc]; decide⟩
  | some z =>
    have := wd_tl (h z rfl)
    exact ⟨this.1.2, fun c hc => ⟨by have := this.2 c hc; omega, (this.2 c hc).2⟩⟩
theorem join_mem {S : List Nat} {c : Nat} : ∀ {ps : List (List Nat)}, c ∈ TL.joinL S ps → c ∈ S ∨ ∃ p ∈ ps, c ∈ p
  | [], h => by cases h
  | [p], h => .inr ⟨p, List.mem_singleton.mpr rfl, h⟩
  | p :: q :: r, h => by
    have h : c ∈ p ++ (S ++ TL.joinL S (q :: r)) := h
    rcases List.mem_append.mp h with h | h
    · exact .inr ⟨p, List.mem_cons_self, h⟩
    · rcases List.mem_append.mp h with h | h
      · exact .inl h
      · rcases join_mem h with h | ⟨u, hu, h⟩
        · exact .inl h
        · exact .inr ⟨u, List.mem_cons_of_mem _ hu, h⟩
theorem join_size {S : List Nat} {m : Nat} : ∀ {ps : List (List Nat)}, (∀ p ∈ ps, p.length ≤ m) → (TL.joinL S ps).length ≤ ps.length * (m + S.length)
  | [], _ => by simp [TL.joinL]
  | [p], h => by
    have := h p (List.mem_singleton.mpr rfl)
    show p.length ≤ _
    simp
    omega
  | p :: q :: r, h => by
    have h1 := h p List.mem_cons_self
    have h2 := join_size (S := S) (m := m) (ps := q :: r) fun u hu => h u (List.mem_cons_of_mem _ hu)
    show (p ++ (S ++ TL.joinL S (q :: r))).length ≤ _
    rw [List.length_append, List.length_append, List.length_cons, Nat.succ_mul]
    omega
theorem line_tl (row : Row) : TL.tl (lineS row) = TL.joinL [32] (row.map fun o => TL.tl (partS o)) := by
  unfold lineS
  rw [TL.join_eq, TL.tl_join, tl_blank, List.map_map]
  rfl
theorem line_codes {row : Row} (h : ∀ o ∈ row, OkP o) {c : Nat} (hc : c ∈ TL.tl (lineS row)) : c = 32 ∨ (45 ≤ c ∧ c ≤ 122) := by
  rw [line_tl] at hc
  rcases join_mem hc with hc | ⟨p, hp, hc⟩
  · exact .inl (List.mem_singleton.mp hc)
  · obtain ⟨o, ho, rfl⟩ := List.mem_map.mp hp
    exact .inr ((part_tl (h o ho)).2 c hc)
theorem line_len {row : Row} (h : ∀ o ∈ row, OkP o) (h6 : row.length ≤ 6) : (lineS row).length ≤ 54 := by
  rw [TL.len_tl, line_tl]
  have := join_size (S := [32]) (m := 8) (ps := row.map fun o => TL.tl (partS o)) fun p hp => by
    obtain ⟨o, ho, rfl⟩ := List.mem_map.mp hp
    exact (part_tl (h o ho)).1
  rw [List.length_map] at this
  simp at this
  omega
theorem line_split {row : Row} (h : ∀ o ∈ row, OkP o) (ne : row ≠ []) : Txt.split (lineS row) (" " : Str) = row.map partS := by
  unfold lineS
  refine TL.split_join tl_blank (by decide +kernel) (fun e => ne (List.map_eq_nil_iff.mp e)) fun p hp hc => ?_
  obtain ⟨o, ho, rfl⟩ := List.mem_map.mp hp
  have := (part_tl (h o ho)).2 32 hc
  omega
theorem land_split {g : Grid} (h : ∀ r ∈ g, ∀ o ∈ r, OkP o) (ne : g ≠ []) : Txt.split (landS g) ("\n" : Str) = g.map lineS := by
  unfold landS
  refine TL.split_join tl_end (by decide +kernel) (fun e => ne (List.map_eq_nil_iff.mp e)) fun p hp hc => ?_
  obtain ⟨r, hr, rfl⟩ := List.mem_map.mp hp
  have := line_codes (h r hr) hc
  omega
theorem land_len {g : Grid} (h : ∀ r ∈ g, ∀ o ∈ r, OkP o) (hg : g.length ≤ 6) (hr : ∀ r ∈ g, r.length ≤ 6) : (landS g).length ≤ 330 := by
  unfold landS
  rw [TL.len_tl, TL.join_eq, TL.tl_join, tl_end]
  have := join_size (S := [10]) (m := 54) (ps := (g.map lineS).map TL.tl) fun p hp => by
    obtain ⟨z, hz, rfl⟩ := List.mem_map.mp hp
    obtain ⟨r, hr', rfl⟩ := List.mem_map.mp hz
    rw [← TL.len_tl]
    exact line_len (h r hr') (hr r hr')
  rw [List.length_map, List.length_map] at this
  have e : (54 + [10].length) = 55 := rfl
  rw [e] at this
  omega
theorem names_part {g : Grid} (h : ∀ z ∈ names g, IsWd z) : ∀ r ∈ g, ∀ o ∈ r, OkP o := fun r hr o ho z e => h z (by
  unfold names
  rw [List.mem_filterMap]
  exact ⟨o, List.mem_flatten.mpr ⟨r, hr, ho⟩, e⟩)
theorem Good.parts {g : Grid} {wd : Nat} (G : Good g wd) : ∀ r ∈ g, ∀ o ∈ r, OkP o := names_part G.wd
theorem Good.nn {g : Grid} {wd : Nat} (G : Good g wd) : g ≠ [] := fun e => by
  have := G.h1
  rw [e] at this
  simp at this
theorem Good.six {g : Grid} {wd : Nat} (G : Good g wd) : ∀ r ∈ g, r.length ≤ 6 := fun r hr => by
  rw [G.rows r hr]
  exact G.w6
theorem part_inj {o u : Option Str} (h : OkP o) (k : OkP u) (e : partS o = partS u) : o = u := by
  cases o with
  | none =>
    cases u with
    | none => rfl
    | some z => exact absurd e.symm (wd_dash (k z rfl))
  | some y =>
    cases u with
    | none => exact absurd e (wd_dash (h y rfl))
    | some z => exact congrArg some e
theorem map_part_inj : ∀ {r q : Row}, (∀ o ∈ r, OkP o) → (∀ o ∈ q, OkP o) → r.map partS = q.map partS → r = q
  | [], [], _, _, _ => rfl
  | [], _ :: _, _, _, e => by simp at e
  | _ :: _, [], _, _, e => by simp at e
  | o :: r, u :: q, h, k, e => by
    simp only [List.map_cons, List.cons.injEq] at e
    rw [part_inj (h o List.mem_cons_self) (k u List.mem_cons_self) e.1, map_part_inj (fun x hx => h x (List.mem_cons_of_mem _ hx)) (fun x hx => k x (List.mem_cons_of_mem _ hx)) e.2]
theorem line_inj {r q : Row} (h : ∀ o ∈ r, OkP o) (k : ∀ o ∈ q, OkP o) (nr : r ≠ []) (nq : q ≠ []) (e : lineS r = lineS q) : r = q := by
  have := congrArg (fun z => Txt.split z (" " : Str)) e
  simp only [line_split h nr, line_split k nq] at this
  exact map_part_inj h k this
/-- unlike lands have unlike texts -/
theorem land_inj {g g' : Grid} {wd wd' : Nat} (G : Good g wd) (G' : Good g' wd') (e : landS g = landS g') : g = g' := by
  have h := congrArg (fun z => Txt.split z ("\n" : Str)) e
  simp only [land_split G.parts G.nn, land_split G'.parts G'.nn] at h
  have ne : ∀ {l : Grid} {v : Nat}, Good l v → ∀ r ∈ l, r ≠ [] := fun {l v} L r hr q => by
    have h1 := L.rows r hr
    have h2 := L.w1
    rw [q] at h1
    simp at h1
    omega
  have key : ∀ {l m : Grid}, (∀ r ∈ l, r ≠ [] ∧ ∀ o ∈ r, OkP o) → (∀ r ∈ m, r ≠ [] ∧ ∀ o ∈ r, OkP o) → l.map lineS = m.map lineS → l = m := by
    intro l
    induction l with
    | nil =>
      intro m _ _ e
      cases m with
      | nil => rfl
      | cons _ _ => simp at e
    | cons r l ih =>
      intro m hl hm e
      cases m with
      | nil => simp at e
      | cons q m =>
        simp only [List.map_cons, List.cons.injEq] at e
        have a := hl r List.mem_cons_self
        have b := hm q List.mem_cons_self
        rw [line_inj a.2 b.2 a.1 b.1 e.1, ih (fun x hx => hl x (List.mem_cons_of_mem _ hx)) (fun x hx => hm x (List.mem_cons_of_mem _ hx)) e.2]
  exact key (fun r hr => ⟨ne G r hr, G.parts r hr⟩) (fun r hr => ⟨ne G' r hr, G'.parts r hr⟩) h
end Wl

/-! Rules of ours for objects of own classes: len, str, repr, ==, !=, in a list of one, each by the class's own method. -/
namespace Wl
open PySem PySem.Spec PyProof.Rows L2
section
variable {X : Cx} {n : Nat} {f : Addr} {fd : FuncData} {ps : List Str} {sp : Sp} {C : Addr}
theorem v1 (a : Addr) : Vals [V.ref a] [Value.ref a] := .cons rfl .nil
theorem v2 (a b : Addr) : Vals [V.ref a, V.ref b] [Value.ref a, Value.ref b] := .cons rfl (.cons rfl .nil)
/-- an own def called somewhere below the running body -/
theorem run_own {A : Around} {pins : List (Addr × Obj)} {s : Shared} {σ : L2.St} {H : Hp} {vs : List V} {us : List Value} {Q : VK} (F : FnOk X.prog X.w X.K X.mg X.base CX0 n f fd ps sp) (hb : Binds X.K fd ps []) (sb : Sub X n A) (I : L2.Inv X pins σ H s) (r : Vals vs us) (hsp : sp vs H Q E0) :
    wpAny (model X.prog X.w) A (call (.ref f) us) (EP X pins σ Q) X.xe s := by
  have e0 : Env0 X.prog X.w X.K X.mg X.base A X.stack s H := by
    have e := I.env0
    exact ⟨by rw [sb.fr]; exact e.frames, e.mod, e.bs, e.bsz, e.funs, e.frf, e.hok, e.bare⟩
  have hl := F.len _ _ _ _ hsp
  have hb' : BindsTo s fd ⟨us, []⟩ (ps.zip us) := by
    have := hb s us I.kIn (by rw [List.append_nil, ← r.length]; exact hl)
    rw [List.append_nil] at this
    exact this
  refine wpAny_call (codeAny_mono (F.run A X.stack s H ⟨us, []⟩ us vs _ E0 sb.room e0 hb' r hsp) fun r s' hq => ?_)
  cases r with
  | error e => exact pass0 pins σ H s e s' I hq
  | ok fl =>
    cases fl with
    | ret w => exact I.after hq
    | next => exact False.elim hq
    | brk => exact False.elim hq
    | cont => exact False.elim hq
/-- len(o) -/
def rLenO (C : Addr) (sp : Sp) : List V → Hp → VK → Prop := fun xs H Q => ∃ a dx fs, xs = [V.ref a] ∧ H a = some (.ins C dx fs) ∧ sp [.ref a] H (fun v H' => ∃ k : Nat, v = .int (k : Int) ∧ k < 2 ^ 62 ∧ Q (.int (k : Int)) H') E0
theorem cr_lenO (F : FnOk X.prog X.w X.K X.mg X.base CX0 n f fd ps sp) (hb : Binds X.K fd ps []) (m : Meth X.K C "__len__" f) (hr : Room (n + 1) X.A) : CallR X (.builtin "len") (rLenO C sp) := by
  intro pins s σ H xs us Q I r h
  obtain ⟨a, dx, fs, rfl, ha, hsp⟩ := h
  obtain ⟨u, rfl, ru⟩ := vals1 r
  obtain rfl : u = Value.ref a := ru
  obtain ⟨mA, J, _⟩ := ins_get I.hok ha
  obtain ⟨od, J, _⟩ := J.look
  obtain ⟨m', hF⟩ := I.fr
  refine PySem.W.len_K hF I.ok.mod.kin J m.at_ m.fn (wpAny_mono (run_own F hb (Sub.in1 ⟨hr, rfl⟩) I (v1 a) hsp) (fun v s' hq => ?_) fun _ _ z => z)
  obtain ⟨z, H', I', rz, k, rfl, hk, q⟩ := hq
  obtain ⟨t, rfl⟩ := rz
  exact ⟨⟨by omega, by omega⟩, .int (k : Int), H', I'.tok _, ⟨_, rfl⟩, q⟩
/-- str(o) -/
def rStrO (C : Addr) (sp : Sp) : List V → Hp → VK → Prop := fun xs H Q => ∃ a dx fs, xs = [V.ref a] ∧ H a = some (.ins C dx fs) ∧ sp [.ref a] H (fun v H' => ∃ z, v = .str z ∧ Q (.str z) H') E0
theorem room_u2 {k : Nat} {A : Around} (r : Room k A) : A.units + 2 < cLine := by have := r.un; omega
theorem cr_strO (F : FnOk X.prog X.w X.K X.mg X.base CX0 n f fd ps sp) (hb : Binds X.K fd ps []) (m : Meth X.K C "__str__" f) (hr : Room (n + 2) X.A) : CallR X (.type "str") (rStrO C sp) := by
  intro pins s σ H xs us Q I r h
  obtain ⟨a, dx, fs, rfl, ha, hsp⟩ := h
  obtain ⟨u, rfl, ru⟩ := vals1 r
  obtain rfl : u = Value.ref a := ru
  obtain ⟨mA, J, _⟩ := ins_get I.hok ha
  obtain ⟨od, J, _⟩ := J.look
  refine PySem.W.kso_call (show X.A.units + 1 + 1 < cLine from room_u2 hr) I.kIn J m.at_ m.fn (wpAny_mono (run_own F hb (Sub.in1 (Sub.in1 ⟨hr, rfl⟩)) I (v1 a) hsp) (fun v s' hq => ?_) fun _ _ z => z)
  obtain ⟨z, H', I', rz, y, rfl, q⟩ := hq
  obtain ⟨t, rfl⟩ := rz
  exact ⟨.str y, H', I', ⟨_, rfl⟩, q⟩
/-- repr(o) -/
theorem cr_reprO (F : FnOk X.prog X.w X.K X.mg X.base CX0 n f fd ps sp) (hb : Binds X.K fd ps []) (m : Meth X.K C "__repr__" f) (hr : Room (n + 1) X.A) : CallR X (.builtin "repr") (rStrO C sp) := by
  intro pins s σ H xs us Q I r h
  obtain ⟨a, dx, fs, rfl, ha, hsp⟩ := h
  obtain ⟨u, rfl, ru⟩ := vals1 r
  obtain rfl : u = Value.ref a := ru
  obtain ⟨mA, J, _⟩ := ins_get I.hok ha
  obtain ⟨od, J, _⟩ := J.look
  obtain ⟨m', hF⟩ := I.fr
  refine PySem.W.repr_K (show X.A.units + 1 < cLine from by have := room_u2 hr; omega) hF I.ok.mod.kin J m.at_ m.fn (wpAny_mono (run_own F hb (Sub.in1 ⟨hr, rfl⟩) I (v1 a) hsp) (fun v s' hq => ?_) fun _ _ z => z)
  obtain ⟨z, H', I', rz, y, rfl, q⟩ := hq
  obtain ⟨t, rfl⟩ := rz
  exact ⟨.str y, H', I', ⟨_, rfl⟩, q⟩
/-- x == y of two of one class -/
def rEqO (C : Addr) (sp : Sp) (g : Bool → Bool) : R2 := fun x y H Q => ∃ a dx fs b dy gs, x = V.ref a ∧ y = V.ref b ∧ H a = some (.ins C dx fs) ∧ H b = some (.ins C dy gs) ∧ sp [.ref a, .ref b] H (fun v H' => ∃ c, v = .bl c ∧ Q (.bl (g c)) H') E0
theorem rc_eqO {A : Around} {pins : List (Addr × Obj)} {s : Shared} {σ : L2.St} {H : Hp} {a b dx dy : Addr} {fs gs : List (Str × V)} {Q : Bool → Hp → Prop} (F : FnOk X.prog X.w X.K X.mg X.base CX0 n f fd ps sp) (hb : Binds X.K fd ps []) (m : Meth X.K C "__eq__" f) (sb : Sub X n A) (I : L2.Inv X pins σ H s)
    (ha : H a = some (.ins C dx fs)) (hb' : H b = some (.ins C dy gs)) (hsp : sp [.ref a, .ref b] H (fun v H' => ∃ c, v = .bl c ∧ Q c H') E0) :
    wpAny (model X.prog X.w) A (richCompare .Eq (.ref a) (.ref b)) (fun v s' => ∃ c, v = .bool c ∧ ∃ H', L2.Inv X pins σ H' s' ∧ Q c H') X.xe s := by
  obtain ⟨mA, J, _⟩ := ins_get I.hok ha
  obtain ⟨mB, J', _⟩ := ins_get I.hok hb'
  obtain ⟨od, J, _⟩ := J.look
  obtain ⟨od', J', _⟩ := J'.look
  obtain ⟨m', hF⟩ := I.fr
  refine PySem.W.cmp_K (op := .Eq) (tb := .ref C) sb.room.units0 hF I.ok.mod.kin J J'.type (by simp [PySem.W.notFirst]) m.at_ m.fn (wpAny_mono (run_own F hb sb I (v2 a b) hsp) (fun v s' hq => ?_) fun _ _ z => z)
  obtain ⟨z, H', I', rz, c, rfl, q⟩ := hq
  cases rz
  exact ⟨c, rfl, H', I', q⟩
theorem op_eqO (F : FnOk X.prog X.w X.K X.mg X.base CX0 n f fd ps sp) (hb : Binds X.K fd ps []) (m : Meth X.K C "__eq__" f) (hr : Room n X.A) : OpR X (compareOp .Eq) (rEqO C sp id) := by
  intro pins s σ H x y v u Q I rx ry h
  obtain ⟨a, dx, fs, b, dy, gs, rfl, rfl, ha, hb', hsp⟩ := h
  cases rx
  cases ry
  show wpAny (model X.prog X.w) X.A (richCompare .Eq (.ref a) (.ref b)) (EP X pins σ Q) X.xe s
  refine wpAny_mono (rc_eqO F hb m ⟨hr, rfl⟩ I ha hb' hsp) (fun v s' hq => ?_) fun _ _ z => z
  obtain ⟨c, rfl, H', I', q⟩ := hq
  exact ⟨.bl c, H', I', rfl, q⟩
/-- what the class says of != -/
structure NeC (K : PySem.W.Frag) (C : Addr) : Prop where
  ne : PySem.W.findIn K (.ref C) "__ne__" = some (some (.builtin "object.__ne__"))
  ob : PySem.W.mroIn K C (.type "object") = some true
theorem ifBound_B {M : Model} {A : Around} {E : Value → Shared → Prop} {s : Shared} {K : PySem.W.Frag} {x C : Addr} {ox : Obj} {od : Option Obj} {name : Str} {id : String} {args : List Value} {Q : Option Value → Shared → Prop} (X : K.In s.heap) (I : PySem.W.InstAt s.heap x ox C od) (hs : PySem.W.findIn K (.ref C) name = some (some (.builtin id)))
    (hb : ∀ self, bindSpecial (.builtin id) self = pure (.builtin id, [self])) (h : wpAny M A (call (.builtin id) (.ref x :: args)) (fun v => Q (some v)) E s) : wpAny M A (callSpecialIfBound? (.ref x) name args) Q E s := by
  simp only [callSpecialIfBound?, bindSpecialIfBound?]
  refine wpAny_holding (wpAny_bind (wpAny_bind (wpAny_bind (I.type.here ((PySem.W.looks_findIn X hs).here ?_)))))
  refine wpAny_bind (wpAny_askSetting (wpAny_ite ?_))
  have fin : wpAny M A (call (.builtin id) ([.ref x] ++ args) >>= fun v => pure (some v)) Q E s := wpAny_bind (wpAny_mono h (fun v s' h' => wpAny_pure h') fun _ _ h' => h')
  split
  · exact wpAny_bind ((PySem.W.Looks.of_pure (hb _)).here (wpAny_pure (by exact fin)))
  · exact wpAny_tryCatch (wpAny_bind ((PySem.W.Looks.of_pure (hb _)).here (wpAny_pure (by exact fin))))
theorem obj_neK {A : Around} {E : Value → Shared → Prop} {s : Shared} {prog : Program} {w : World} {K : PySem.W.Frag} {x C f : Addr} {y : Value} {ox : Obj} {od : Option Obj} {Q : Value → Shared → Prop} (hu : A.units + 1 < cLine) (X : K.In s.heap) (I : PySem.W.InstAt s.heap x ox C od) (N : NeC K C) (he : PySem.W.findIn K (.ref C) "__eq__" = some (some (.ref f))) (hf : PySem.W.isFn K (.ref f) = true)
    (h : wpAny (model prog w) A.in1 (call (.ref f) [.ref x, y]) (fun v s' => ∃ c, v = .bool c ∧ Q (.bool (!c)) s') E s) : wpAny (model prog w) A (call (.builtin "object.__ne__") [.ref x, y]) Q E s := by
  refine wpAny_call (codeAny_call_builtin PySem.F.slot_object_ne.plain PySem.F.cmpEntry_ne (PySem.W.check_slot (i := "object.__ne__") (owner := "object") (n := "__ne__") (by decide +kernel) (by decide +kernel) (I.type.andThen (PySem.W.looks_mroIn X N.ob)) (PySem.F.cmpArgs_ne _ _) ?_))
  unfold Builtin.«object.__ne__»
  refine wpAny_bind (m := slotArgs "__ne__" 1 _) (wpAny_pure ?_)
  refine wpAny_bind (m := cRoomFor _ _) (wpAny_cRoomFor (show A.in1.units < cLine from hu) ?_)
  refine wpAny_bind (m := callSpecialIfBound? (.ref x) (Str.ofString "__eq__") _) (PySem.W.ifBound_K X I he hf (wpAny_mono h (fun r s' hq => ?_) fun _ _ z => z))
  obtain ⟨c, rfl, q⟩ := hq
  exact wpAny_bind (wpAny_truthy_bool (wpAny_pure q))
end
end Wl
namespace Wl
open PySem PySem.Spec PyProof.Rows L2
theorem ne_K {A : Around} {E : Value → Shared → Prop} {s : Shared} {prog : Program} {w : World} {K : PySem.W.Frag} {x C f : Addr} {y : Addr} {ox oy : Obj} {od od' : Option Obj} {Q : Value → Shared → Prop} (hu : A.units + 2 < cLine) (X : K.In s.heap) (I : PySem.W.InstAt s.heap x ox C od) (I' : PySem.W.InstAt s.heap y oy C od') (N : NeC K C) (he : PySem.W.findIn K (.ref C) "__eq__" = some (some (.ref f))) (hf : PySem.W.isFn K (.ref f) = true)
    (h : wpAny (model prog w) A.in1 (call (.ref f) [.ref x, .ref y]) (fun v s' => ∃ c, v = .bool c ∧ Q (.bool (!c)) s') E s) : wpAny (model prog w) A (richCompare .NotEq (.ref x) (.ref y)) Q E s := by
  have one : wpAny (model prog w) A (tryCompare (.ref x) "__ne__" (.ref y)) (fun r s' => ∃ v, r = some v ∧ Q v s') E s := by
    unfold tryCompare
    refine wpAny_bind (ifBound_B X I N.ne PySem.F.slot_object_ne.bind (wpAny_mono (obj_neK (Q := fun v s' => ∃ c, v = .bool c ∧ Q v s') (by omega) X I N he hf (wpAny_mono h (fun v s' hv => ?_) fun _ _ z => z)) (fun v s' hv => ?_) fun _ _ z => z))
    · obtain ⟨c, rfl, q⟩ := hv
      exact ⟨c, rfl, _, rfl, q⟩
    · obtain ⟨c, rfl, q⟩ := hv
      exact wpAny_pure ⟨_, rfl, q⟩
  unfold richCompare
  simp only [oneThing_ref]
  refine wpAny_holding (wpAny_bind (wpAny_cRoomFor (by omega) ?_))
  refine wpAny_bind (I.type.here (wpAny_bind (I'.type.here ?_)))
  rw [show (Value.ref C != Value.ref C) = false from by simp]
  simp only [Bool.false_eq_true, if_false]
  refine wpAny_bind (wpAny_pure ?_)
  simp only [Bool.false_eq_true, if_false]
  refine wpAny_bind (wpAny_mono one (fun r s' z => ?_) fun _ _ e => e)
  obtain ⟨v, rfl, hq⟩ := z
  exact wpAny_pure hq
section
variable {X : Cx} {n : Nat} {f : Addr} {fd : FuncData} {ps : List Str} {sp : Sp} {C : Addr}
theorem op_neO (F : FnOk X.prog X.w X.K X.mg X.base CX0 n f fd ps sp) (hb : Binds X.K fd ps []) (m : Meth X.K C "__eq__" f) (N : NeC X.K C) (hr : Room (n + 1) X.A) : OpR X (compareOp .NotEq) (rEqO C sp not) := by
  intro pins s σ H x y v u Q I rx ry h
  obtain ⟨a, dx, fs, b, dy, gs, rfl, rfl, ha, hb', hsp⟩ := h
  cases rx
  cases ry
  obtain ⟨mA, J, _⟩ := ins_get I.hok ha
  obtain ⟨mB, J', _⟩ := ins_get I.hok hb'
  obtain ⟨od, J, _⟩ := J.look
  obtain ⟨od', J', _⟩ := J'.look
  show wpAny (model X.prog X.w) X.A (richCompare .NotEq (.ref a) (.ref b)) (EP X pins σ Q) X.xe s
  refine ne_K (room_u2 hr) I.kIn J J' N m.at_ m.fn (wpAny_mono (run_own F hb (Sub.in1 ⟨hr, rfl⟩) I (v2 a b) hsp) (fun v s' hq => ?_) fun _ _ z => z)
  obtain ⟨z, H', I', rz, c, rfl, q⟩ := hq
  cases rz
  exact ⟨c, rfl, .bl (!c), H', I', rfl, q⟩
/-! x in xs, x not in xs, of objects -/
open GQ MeetsSeq MeetsSeq2 MeetsSeq3 SeqRoads2 in
open AutoSeq1 (wpAny_loadPart') in
theorem contains_loopO {prog : Program} {w : World} {A : Around} {R : Result → Shared → Prop} {l : Addr} {items : Array Value} {x : Value} (P : Nat → Shared → Prop)
    (hl : ∀ i s, P i s → ∃ k, s.heap.get? l = some { cls := .type "list", data := .seq items k })
    (turn : ∀ (i : Nat) (h : i < items.size) (s : Shared), P i s → wpAny (model prog w) A.in1 (eqBool items[i] x) (fun b s' => if b = true then R (.ok (.ret (.bool true))) s' else P (i + 1) s') (fun e s' => R (.error e) s') s)
    (fin : ∀ s, P items.size s → R (.ok (.ret (.bool false))) s) (k : Nat) :
    ∀ i : Nat, items.size - i = k → i ≤ items.size → ∀ s, P i s → wpAny (model prog w) A.in1 (Builtin.«list.__contains__.loop» ⟨[.ref l, x, rawInt i], []⟩) (FinOf prog w A R) (fun e s' => R (.error e) s') s := by
  induction k with
  | zero =>
    intro i hk hi s h
    obtain ⟨k, hl1⟩ := hl i s h
    have e : i = items.size := by omega
    have q := fin s (e ▸ h)
    obtain ⟨hp, g, d, tk, os⟩ := s
    wp_walk using wpAny_loadPart' hl1
    have hi1 : items[((i : Nat) : Int).toNat]? = none := by simp; omega
    rw [hi1]
    wp_walk
    exact q
  | succ k ih =>
    intro i hk hi s h
    obtain ⟨k1, hl1⟩ := hl i s h
    have hlt : i < items.size := by omega
    have ht := turn i hlt s h
    obtain ⟨hp, g, d, tk, os⟩ := s
    wp_walk using wpAny_loadPart' hl1
    have hi1 : items[((i : Nat) : Int).toNat]? = some items[i] := by simp [hlt]
    rw [hi1]
    refine wpAny_bind (wpAny_mono ht (fun b s2 h2 => ?_) fun _ _ z => z)
    cases b with
    | true =>
      rw [if_pos rfl] at h2
      wp_walk
      exact h2
    | false =>
      rw [if_neg (by decide)] at h2
      have hrec := ih (i + 1) (by omega) (by omega) s2 h2
      obtain ⟨hp2, g2, d2, tk2, os2⟩ := s2
      have hc : ((i : Int) + 1) = ((i + 1 : Nat) : Int) := by omega
      wp_walk
      rw [hc]
      exact ⟨plainId_quiet plain_contains_loop _, codeAny_builtin entry_contains_loop (by
        rw [Around.under_plainId plain_contains_loop _]
        exact hrec)⟩
open GQ MeetsSeq MeetsSeq2 MeetsSeq3 SeqRoads2 in
open AutoSeq1 (wpAny_loadPart') in
theorem containsO {prog : Program} {w : World} {A : Around} {R : Result → Shared → Prop} {s : Shared} {l : Addr} {items : Array Value} {x : Value} (P : Nat → Shared → Prop)
    (hl : ∀ i s, P i s → ∃ k, s.heap.get? l = some { cls := .type "list", data := .seq items k })
    (turn : ∀ (i : Nat) (h : i < items.size) (s : Shared), P i s → wpAny (model prog w) A.in1 (eqBool items[i] x) (fun b s' => if b = true then R (.ok (.ret (.bool true))) s' else P (i + 1) s') (fun e s' => R (.error e) s') s)
    (fin : ∀ s, P items.size s → R (.ok (.ret (.bool false))) s) (h : P 0 s) :
    wpAny (model prog w) A.in1 (Builtin.«list.__contains__» ⟨[.ref l, x], []⟩) (FinOf prog w A R) (fun e s' => R (.error e) s') s := by
  have hrec := contains_loopO (A := A) (R := R) P hl turn fin _ 0 rfl (Nat.zero_le _) s h
  obtain ⟨k, hl1⟩ := hl 0 s h
  obtain ⟨hp, g, d, tk, os⟩ := s
  wp_walk using wpAny_loadPart' hl1
  exact ⟨plainId_quiet plain_contains_loop _, codeAny_builtin entry_contains_loop (by
    rw [Around.under_plainId plain_contains_loop _]
    exact hrec)⟩
/-- x in [y]: both of one class -/
def rInO (C : Addr) (sp : Sp) (g : Bool → Bool) : R2 := fun x y H Q => ∃ a dx fs l b dy gs, x = V.ref a ∧ y = V.ref l ∧ H l = some (.lst [.ref b]) ∧ H a = some (.ins C dx fs) ∧ H b = some (.ins C dy gs) ∧ (a = b → Q (.bl (g true)) H) ∧
  (a ≠ b → sp [.ref b, .ref a] H (fun v H' => ∃ c, v = .bl c ∧ H' l = some (.lst [.ref b]) ∧ Q (.bl (g c)) H') E0)
theorem op_inO' (F : FnOk X.prog X.w X.K X.mg X.base CX0 n f fd ps sp) (hb : Binds X.K fd ps []) (m : Meth X.K C "__eq__" f) (hr : Room (n + 1) X.A) {g : Bool → Bool} {pins : List (Addr × Obj)} {s : Shared} {σ : L2.St} {H : Hp} {x y : V} {v u : Value} {Q : VK} (I : L2.Inv X pins σ H s) (rx : RelV x v) (ry : RelV y u) (h : rInO C sp g x y H Q) :
    wpAny (model X.prog X.w) X.A (contains u v) (fun b s' => EP X pins σ Q (.bool (g b)) s') X.xe s := by
  obtain ⟨a, dx, fs, l, b, dy, gs, rfl, rfl, hl, ha, hb', q1, q2⟩ := h
  cases rx
  cases ry
  obtain ⟨z, its, k, r, ho⟩ := I.hok l _ hl
  obtain ⟨u, rfl, ru⟩ := vals1 r
  obtain rfl : u = Value.ref b := ru
  refine wpAny_contains_slot ⟨_, ho, rfl⟩ PySem.F.slot_list_contains (wpAny_mono (GQ.call_here PySem.F.slot_list_contains ⟨_, ho, rfl⟩ PySem.F.entry_list_contains (PySem.F.args_list_contains_2 _ _)
    (containsO (R := wants (fun v s' => ∃ c, v = .bool c ∧ EP X pins σ Q (.bool (g c)) s') X.xe) (items := #[.ref b]) (fun i s' => (i = 0 ∧ s' = s) ∨ (i = 1 ∧ ∃ H', L2.Inv X pins σ H' s' ∧ H' l = some (.lst [.ref b]) ∧ Q (.bl (g false)) H')) (fun i s' h => ?_) (fun i hi s' h => ?_) (fun s' h => ?_) (.inl ⟨rfl, rfl⟩))) (fun v s' hv => ?_) fun _ _ e => e)
  · rcases h with ⟨rfl, rfl⟩ | ⟨rfl, H', I', hl', _⟩
    · exact ⟨k, ho⟩
    · obtain ⟨z', its', k', r', ho'⟩ := I'.hok l _ hl'
      obtain ⟨u, rfl, ru⟩ := vals1 r'
      obtain rfl : u = Value.ref b := ru
      exact ⟨k', ho'⟩
  · have e0 : i = 0 := by simp at hi; omega
    subst e0
    rcases h with ⟨_, rfl⟩ | ⟨e, _⟩
    · show wpAny (model X.prog X.w) X.A.in1 (eqBool (.ref b) (.ref a)) _ _ _
      by_cases e : b = a
      · subst e
        refine SeqAt.EqAt.same (A := X.A.in1) (s := s') (.ref b) X.prog X.w _ _ ?_
        rw [if_pos rfl]
        exact ⟨_, rfl, .bl (g true), H, I, rfl, q1 rfl⟩
      · refine GQ.eqBool_refG e (wpAny_mono (rc_eqO F hb m (Sub.in1 ⟨hr, rfl⟩) I hb' ha (Q := fun c H' => H' l = some (.lst [.ref b]) ∧ Q (.bl (g c)) H') (q2 (Ne.symm e))) (fun v s2 hq => ?_) fun _ _ z => z)
        obtain ⟨c, rfl, H', I', hl', q⟩ := hq
        refine ⟨c, rfl, ?_⟩
        cases c with
        | true =>
          rw [if_pos rfl]
          exact ⟨_, rfl, .bl (g true), H', I', rfl, q⟩
        | false =>
          rw [if_neg (by decide)]
          exact .inr ⟨rfl, H', I', hl', q⟩
    · omega
  · rcases h with ⟨e, _⟩ | ⟨_, H', I', hl', q⟩
    · simp at e
    · exact ⟨_, rfl, .bl (g false), H', I', rfl, q⟩
  · obtain ⟨c, rfl, q⟩ := hv
    exact wpAny_truthy_bool q
theorem op_inO (F : FnOk X.prog X.w X.K X.mg X.base CX0 n f fd ps sp) (hb : Binds X.K fd ps []) (m : Meth X.K C "__eq__" f) (hr : Room (n + 1) X.A) : OpR X (compareOp .In) (rInO C sp id) := by
  intro pins s σ H x y v u Q I rx ry h
  show wpAny _ X.A (do return Value.bool (← contains u v)) _ _ s
  exact wpAny_bind (wpAny_mono (op_inO' F hb m hr I rx ry h) (fun b s' q => wpAny_pure q) fun _ _ z => z)
theorem op_notInO (F : FnOk X.prog X.w X.K X.mg X.base CX0 n f fd ps sp) (hb : Binds X.K fd ps []) (m : Meth X.K C "__eq__" f) (hr : Room (n + 1) X.A) : OpR X (compareOp .NotIn) (rInO C sp not) := by
  intro pins s σ H x y v u Q I rx ry h
  show wpAny _ X.A (do return Value.bool (!(← contains u v))) _ _ s
  exact wpAny_bind (wpAny_mono (op_inO' F hb m hr I rx ry h) (fun b s' q => wpAny_pure q) fun _ _ z => z)
end
end Wl

namespace Wl
open PySem PySem.Spec PyProof.Rows L2
def oD : Option Str → PyData
  | none => .none
  | some z => .str z
def rD (row : Row) : PyData := .tuple (row.map oD)
def gD (g : Grid) : PyData := .tuple (g.map rD)
theorem dp_row {K : PySem.W.Frag} {H : Hp} : ∀ row : Row, DpAll K H (row.map oV) (row.map oD)
  | [] => .nil
  | none :: r => .cons .non (dp_row r)
  | some z :: r => .cons (.str z) (dp_row r)
theorem dp_rows {K : PySem.W.Frag} {H : Hp} : ∀ {as : List Addr} {g : Grid}, RowsAt H as g → DpAll K H (as.map V.ref) (g.map rD)
  | _, _, .nil => .nil
  | _, _, .cons e t => .cons (.tup (.inl (.inl e)) (dp_row _)) (dp_rows t)
theorem dp_grid {K : PySem.W.Frag} {H : Hp} {L : Addr} {g : Grid} (h : GridAt H L g) : Dp K H (.ref L) (gD g) := by
  obtain ⟨as, hL, hR⟩ := h
  exact .tup (.inl (.inl hL)) (dp_rows hR)
theorem lay_row : ∀ {row : Row}, (∀ z ∈ rnames row, IsWd z) → PyData.canLayAll0 (row.map oD) = true
  | [], _ => by simp [PyData.canLayAll0]
  | none :: r, h => by simp [PyData.canLayAll0, oD, PyData.canLay0, lay_row (row := r) h]
  | some z :: r, h => by
    have h1 := wd_ok (h z (by simp [rnames]))
    have h2 := lay_row (row := r) fun y hy => h y (by simp only [rnames, List.filterMap_cons] at hy ⊢; exact List.mem_cons_of_mem _ hy)
    simp [PyData.canLayAll0, oD, PyData.canLay0, h1, h2]
theorem depth_row : ∀ row : Row, PyData.depthAll (row.map oD) = 0
  | [] => by simp [PyData.depthAll]
  | none :: r => by simp [PyData.depthAll, PyData.depth, oD, depth_row r]
  | some z :: r => by simp [PyData.depthAll, PyData.depth, oD, depth_row r]
theorem lay_grid : ∀ {g : Grid}, (∀ z ∈ names g, IsWd z) → PyData.canLayAll0 (g.map rD) = true
  | [], _ => by simp [PyData.canLayAll0]
  | r :: g, h => by
    rw [names_cons] at h
    have h1 := lay_row (row := r) fun z hz => h z (List.mem_append_left _ hz)
    have h2 := lay_grid (g := g) fun z hz => h z (List.mem_append_right _ hz)
    simp [PyData.canLayAll0, rD, PyData.canLay0, h1, h2]
theorem depth_grid : ∀ g : Grid, PyData.depthAll (g.map rD) ≤ 1
  | [] => by simp [PyData.depthAll]
  | r :: g => by
    have := depth_grid g
    have := depth_row r
    simp only [List.map_cons, PyData.depthAll, rD, PyData.depth]
    omega
theorem shaped_grid {g : Grid} {wd : Nat} (gd : Good g wd) : SeqAt.shaped (gD g) = true := shaped_tuple (lay_grid gd.wd) (by have := depth_grid g; omega)
theorem same_x {H0 H1 H2 : Hp} {a : Addr} (s : Same H0 H1) (x : SameX a H1 H2) (h : H0 a = none) : Same H0 H2 := fun b o e => x b o (ne_of_none e h) (s b o e)
theorem made_same {H1 H' : Hp} {x dx C : Addr} (nx : H1 x = none) (ndx : H1 dx = none) (h : ∀ b o, b ≠ x → (upd (upd H1 dx (.own x)) x (.ins C dx [])) b = some o → H' b = some o) : Same H1 H' := fun b o e => by
  have n1 : b ≠ x := ne_of_none e nx
  refine h b o n1 ?_
  rw [upd_ne n1, upd_ne (ne_of_none e ndx)]
  exact e

theorem o_eqv (a b : Option Str) : PyData.eqv (oD a) (oD b) = decide (a = b) := by
  cases a with
  | none => cases b <;> simp [oD, PyData.eqv]
  | some x =>
    cases b with
    | none => simp [oD, PyData.eqv]
    | some y =>
      simp only [oD, PyData.eqv, Option.some.injEq]
      by_cases h : x = y
      · subst h
        simp
      · rw [decide_eq_false h]
        exact beq_eq_false_iff_ne.mpr h
theorem row_eqv : ∀ r q : Row, PyData.eqvAll (r.map oD) (q.map oD) = decide (r = q)
  | [], [] => by simp [PyData.eqvAll]
  | [], _ :: _ => by simp [PyData.eqvAll]
  | _ :: _, [] => by simp [PyData.eqvAll]
  | o :: r, u :: q => by
    simp only [List.map_cons, PyData.eqvAll, o_eqv, row_eqv r q, List.cons.injEq]
    by_cases h1 : o = u <;> by_cases h2 : r = q <;> simp [h1, h2]
theorem rows_eqv : ∀ g g' : Grid, PyData.eqvAll (g.map rD) (g'.map rD) = decide (g = g')
  | [], [] => by simp [PyData.eqvAll]
  | [], _ :: _ => by simp [PyData.eqvAll]
  | _ :: _, [] => by simp [PyData.eqvAll]
  | r :: g, q :: g' => by
    simp only [List.map_cons, PyData.eqvAll, rD, PyData.eqv, row_eqv, rows_eqv g g', List.cons.injEq]
    by_cases h1 : r = q <;> by_cases h2 : g = g' <;> simp [h1, h2]
theorem grid_eqv (g g' : Grid) : PyData.eqv (gD g) (gD g') = decide (g = g') := by
  unfold gD
  simp only [PyData.eqv, rows_eqv]
/-- what the class says of itself, for isinstance and != -/
structure Txt2 (K : PySem.W.Frag) (mg : Str → Option Value) (C : Addr) : Prop where
  t : Txt K mg C
  ins : C8.InsC K C
  ne : NeC K C
theorem fs_no {m : Str} {d L : Addr} (h1 : ¬ m = "rows" := by decide +kernel) (h2 : ¬ m = "spots" := by decide +kernel) : (lf d L).lookup m = none := lf_no d L h1 h2
abbrev sEq : Stmt := inClass sCls 6
abbrev sLen : Stmt := inClass sCls 7
abbrev sStr : Stmt := inClass sCls 8
abbrev sRepr : Stmt := inClass sCls 9
section
variable {P : Program} {w : World} {K : PySem.W.Frag} {mg : Str → Option Value} {base : Heap} {f C : Addr} {fd : FuncData}
theorem LandAt.ins {H : Hp} {p L : Addr} {g : Grid} (h : LandAt C H p L g) : ∃ dx d, H p = some (.ins C dx (lf d L)) := by
  obtain ⟨d, dx, h1, _⟩ := h
  exact ⟨dx, d, h1⟩
theorem LandAt.grid {H : Hp} {p L : Addr} {g : Grid} (h : LandAt C H p L g) : GridAt H L g := by
  obtain ⟨d, dx, _, _, h3⟩ := h
  exact h3
theorem LandAt.same {H H' : Hp} {p L : Addr} {g : Grid} (h : LandAt C H p L g) (s : Same H H') : LandAt C H' p L g := h.keep (kp_same s)
/-! ### == -/
def spLEq (C : Addr) : Sp := fun vs H Q _ => ∃ (p L q M : Addr) (g g' : Grid) (wd wd' : Nat), vs = [.ref p, .ref q] ∧ LandAt C H p L g ∧ Good g wd ∧ LandAt C H q M g' ∧ Good g' wd' ∧ Q (.bl (decide (g = g'))) H
theorem scEq : FnScope ["self", "other"] ["self", "other"] (defScope sEq) := ⟨rfl, rfl, rfl, by decide +kernel, rfl, by decide +kernel, by decide +kernel⟩
theorem ok_leq (F : Fun K "__eq__" "Land.__eq__" sEq f fd) (B : Bi mg) (T : Txt2 K mg C) : FnOk P w K mg base CX0 1 f fd ["self", "other"] (spLEq C) := by
  refine F.ok scEq (fun vs H Q E h => ?_) (fun cdv A outer s H vs Q E hr h => ?_)
  · obtain ⟨p, L, q, M, g, g', wd, wd', rfl, _⟩ := h
    rfl
  · obtain ⟨p, L, q, M, g, g', wd, wd', rfl, h1, gd, h2, gd', qq⟩ := h
    refine ⟨_, pss_one (ps_ret (pe_and (pe_callB (C8.call_isC (C := C) T.ins) (by rfl) B.isi (by decide +kernel) (pa_cons (pv 1) (pa_cons (pe_glob (v := .ref C) rfl T.t.mgC rfl) pa_nil))) (pe_one (pe_cmpR (op_eqD hr.units) (pe_fld (pv 0) rfl) (pe_fld (pv 1) rfl) (nomark _))))), ?_⟩
    obtain ⟨dx, d, i1⟩ := h1.ins
    obtain ⟨dy, e, i2⟩ := h2.ins
    refine ⟨_, rfl, q, dy, _, rfl, i2, true, rfl, iteT ⟨_, rfl, p, C, dx, _, _, rfl, i1, T.t.cl, T.t.nR, lf_rows _ _, _, rfl, q, C, dy, _, _, rfl, i2, T.t.cl, T.t.nR, lf_rows _ _, _, _, dp_grid h1.grid, dp_grid h2.grid, shaped_grid gd, shaped_grid gd', ?_⟩⟩
    rw [grid_eqv]
    exact qq
/-! ### len -/
def spLLen (C : Addr) : Sp := fun vs H Q _ => ∃ (p L : Addr) (g : Grid), vs = [.ref p] ∧ LandAt C H p L g ∧ Q (.int (names g).length) H
theorem scLen : FnScope ["self"] ["self"] (defScope sLen) := ⟨rfl, rfl, rfl, by decide +kernel, rfl, by decide +kernel, by decide +kernel⟩
theorem ok_llen (F : Fun K "__len__" "Land.__len__" sLen f fd) (B : Bi mg) (T : Txt K mg C) : FnOk P w K mg base CX0 1 f fd ["self"] (spLLen C) := by
  refine F.ok scLen (fun vs H Q E h => ?_) (fun cdv A outer s H vs Q E hr h => ?_)
  · obtain ⟨p, L, g, rfl, _⟩ := h
    rfl
  · obtain ⟨p, L, g, rfl, ⟨d, dx, i1, ⟨kvs, hk, he⟩, _⟩, q⟩ := h
    refine ⟨_, pss_one (ps_ret (pe_callB call_lenD (by rfl) B.len PySem.boot_len (pa_cons (pe_fld (pv 0) rfl) pa_nil))), ?_⟩
    refine ⟨_, rfl, p, C, dx, _, _, rfl, i1, T.cl, T.nS, lf_spots _ _, d, kvs, rfl, hk, ?_⟩
    have : kvs.length = (names g).length := by
      rw [he.length, ← spG_fst g 0, List.length_map]
    rw [this]
    exact q
/-! ### repr -/
def reprS (n : Nat) : Str := ("Land(" : Str) ++ (toString (n : Int) : String) ++ (")" : Str)
def spLRepr (C : Addr) : Sp := fun vs H Q _ => ∃ (p L : Addr) (g : Grid), vs = [.ref p] ∧ LandAt C H p L g ∧ (names g).length ≤ 36 ∧ Q (.str (reprS (names g).length)) H
theorem scRepr : FnScope ["self"] ["self"] (defScope sRepr) := ⟨rfl, rfl, rfl, by decide +kernel, rfl, by decide +kernel, by decide +kernel⟩
theorem add_len (x y : Str) : (x ++ y).length = x.length + y.length := by
  rw [TL.len_tl, TL.tl_append, List.length_append, ← TL.len_tl, ← TL.len_tl]
theorem dig_len {n : Nat} (h : n ≤ 36) : ((toString (n : Int) : String) : Str).length ≤ 2 := by
  have : ∀ k : Fin 37, ((toString ((k.val : Nat) : Int) : String) : Str).length ≤ 2 := by decide +kernel
  exact this ⟨n, by omega⟩
theorem str_n (n : Nat) (h : n ≤ 36) : (((n : Nat) : Int).natAbs).log2 < 1920 := by
  have : ((n : Nat) : Int).natAbs = n := Int.natAbs_natCast n
  rw [this]
  have h2 : n.log2 ≤ n := Nat.log2_le_self n
  omega
theorem ok_lrepr (F : Fun K "__repr__" "Land.__repr__" sRepr f fd) (B : Bi mg) (T : Txt K mg C) : FnOk P w K mg base CX0 1 f fd ["self"] (spLRepr C) := by
  refine F.ok scRepr (fun vs H Q E h => ?_) (fun cdv A outer s H vs Q E hr h => ?_)
  · obtain ⟨p, L, g, rfl, _⟩ := h
    rfl
  · obtain ⟨p, L, g, rfl, ⟨d, dx, i1, ⟨kvs, hk, he⟩, _⟩, h36, q⟩ := h
    refine ⟨_, pss_one (ps_ret (pe_joined (.cons pe_str (.cons (pe_fmt (pe_callB call_lenD (by rfl) B.len PySem.boot_len (pa_cons (pe_fld (pv 0) rfl) pa_nil))) (.cons pe_str .nil))))), ?_⟩
    have ek : kvs.length = (names g).length := by
      rw [he.length, ← spG_fst g 0, List.length_map]
    refine ⟨_, rfl, by decide +kernel, _, rfl, p, C, dx, _, _, rfl, i1, T.cl, T.nS, lf_spots _ _, d, kvs, rfl, hk, .inr ⟨_, rfl, ?_, _, rfl, ?_, _, rfl, ?_, ?_⟩⟩
    · rw [ek]
      exact str_n _ h36
    · rw [ek]
      exact lzl (by rw [add_len, add_len]; have := dig_len h36; have : (Str.empty).length = 0 := rfl; have : ("Land(" : Str).length = 5 := (by decide +kernel); omega)
    · rw [ek]
      exact lzl (by rw [add_len, add_len, add_len]; have := dig_len h36; have : (Str.empty).length = 0 := rfl; have : ("Land(" : Str).length = 5 := (by decide +kernel); have : (")" : Str).length = 1 := (by decide +kernel); omega)
    · have e0 : (Str.empty ++ ("Land(" : Str)) = ("Land(" : Str) := by decide +kernel
      rw [ek]
      show Q (.str (Str.empty ++ ("Land(" : Str) ++ _ ++ (")" : Str))) H
      rw [e0]
      exact q
/-! ### str -/
def showV : V → V
  | .non => .str "-"
  | v => v
theorem sum_len {m : Nat} : ∀ {l : List Str}, (∀ z ∈ l, z.length ≤ m) → (l.map (·.length)).sum ≤ l.length * m
  | [], _ => by simp
  | z :: r, h => by
    have h1 := h z List.mem_cons_self
    have h2 := sum_len (m := m) (l := r) fun y hy => h y (List.mem_cons_of_mem _ hy)
    rw [List.map_cons, List.sum_cons, List.length_cons, Nat.succ_mul]
    omega
theorem oV_inj {o u : Option Str} (h : oV o = oV u) : o = u := by
  cases o with
  | none =>
    cases u with
    | none => rfl
    | some z => cases h
  | some y =>
    cases u with
    | none => cases h
    | some z =>
      cases h
      rfl
theorem map_oV_inj : ∀ {r q : Row}, r.map oV = q.map oV → r = q
  | [], [], _ => rfl
  | [], _ :: _, e => by simp at e
  | _ :: _, [], e => by simp at e
  | o :: r, u :: q, e => by
    simp only [List.map_cons, List.cons.injEq] at e
    rw [oV_inj e.1, map_oV_inj e.2]
theorem lines_of {H : Hp} : ∀ {as : List Addr} {g : Grid} {zs : List V}, RowsAt H as g → Each (fun (x z : V) => ∀ (pr : Addr) (row : Row), x = .ref pr → H pr = some (.tup (row.map oV)) → z = .str (lineS row)) (as.map V.ref) zs → zs = (g.map lineS).map V.str
  | [], [], [], _, _ => rfl
  | [], [], _ :: _, _, h => nomatch h
  | [], _ :: _, _, h, _ => nomatch h
  | _ :: _, [], _, h, _ => nomatch h
  | _ :: _, _ :: _, [], _, h => nomatch h
  | a :: as, r :: g, z :: zs, .cons e t, .cons e' t' => by
    rw [e' a r rfl e, lines_of t t']
    rfl
def spLStr (C : Addr) : Sp := fun vs H Q _ => ∃ (p L : Addr) (g : Grid) (wd : Nat), vs = [.ref p] ∧ LandAt C H p L g ∧ Good g wd ∧ ∀ (H' : Hp), Same H H' → Q (.str (landS g)) H'
abbrev nStr : List Str := ["self", "row", "part"]
theorem scStr : FnScope nStr ["self"] (defScope sStr) := ⟨rfl, rfl, rfl, by decide +kernel, rfl, by decide +kernel, by decide +kernel⟩
theorem ok_lstr (F : Fun K "__str__" "Land.__str__" sStr f fd) (T : Txt K mg C) (hlk : ∃ t, mg "LAKE" = some (.str "-" t)) : FnOk P w K mg base CX0 1 f fd ["self"] (spLStr C) := by
  obtain ⟨tl, gl⟩ := hlk
  refine F.ok scStr (fun vs H Q E h => ?_) (fun cdv A outer s H vs Q E hr h => ?_)
  · obtain ⟨p, L, g, wd, rfl, _⟩ := h
    rfl
  · obtain ⟨p, L, g, wd, rfl, ⟨d, dx, i1, _, as, hL, hR⟩, gd, q⟩ := h
    refine ⟨_, pss_one (ps_ret (pe_join pe_str (pe_lc (own := [("row", 1)]) (g := gName 1) (tt := tYes) (te := tM1 (fun x xs H Q => ∃ a p, ∃ ys : List Str, x = .str a ∧ xs = [.ref p] ∧ (SqL K H p (ys.map V.str) ∨ SqT K H p (ys.map V.str)) ∧ (ys.map (·.length)).sum + ys.length * a.length ≤ 16777216 ∧ Q (.str (Txt.join a ys)) H) (tC (.str " ")) (tLc (iTup K (tVar 1)) (gName 2) tYes (tIf (tB (tIsN (tVar 2))) (tC (.str "-")) (tVar 2)) [2])) rfl scStr.nd (pi_tup (pe_fld (pv 0) rfl)) (blkOk_by (N := nStr) (sc := defScope sStr) (by decide +kernel)) (fun _ _ _ _ _ => pg_name (i := 1) scStr.nd rfl (.inl rfl)) (fun _ _ _ _ _ => pts_nil)
      (fun _ _ _ _ _ => pe_join pe_str (pe_lc (own := [("part", 2)]) (g := gName 2) (tt := tYes) rfl scStr.nd (pi_tup (pv 1)) (blkOk_by (N := nStr) (sc := { kind := .function, names := [(".0", .local), ("row", .local)], isGenerator := false, isCoroutine := false }) (by decide +kernel)) (fun _ _ _ _ _ => pg_name (i := 2) scStr.nd rfl (.inl rfl)) (fun _ _ _ _ _ => pts_nil) (fun _ _ _ _ _ => pe_ifExp (pt_cmp (pc_isN (pv 2))) (pe_glob (v := .str "-") (by rfl) gl ⟨_, rfl⟩) (pv 2))))))), ?_⟩
    refine ⟨⟨_, rfl⟩, _, rfl, p, C, dx, _, _, rfl, i1, T.cl, T.nR, lf_rows _ _, L, rfl, ⟨_, .inl (.inl hL)⟩, fun D hD => ?_⟩
    have h6 : as.length ≤ 6 := by rw [hR.length]; exact gd.h6
    refine lc_rel (walk_tup (K := K) (a := L) (xs := as.map V.ref)) hD (fun _ => true) (fun x y _ => ∀ (pr : Addr) (row : Row), x = .ref pr → H pr = some (.tup (row.map oV)) → y = .str (lineS row)) (fun H' s' => .inl (.inl (s' _ _ hL))) (fun _ => rfl) (fun x H' _ _ Q' q' => q') ?_ (fun _ _ _ _ _ _ _ r => r) ?_ ?_
    · intro x H' hx _ s' Q' q'
      obtain ⟨pr, hpr, rfl⟩ := List.mem_map.mp hx
      obtain ⟨i, hi, ei⟩ := List.mem_iff_getElem.mp hpr
      obtain ⟨row, hrow, hH⟩ := hR.get (i := i) (a := pr) (by rw [List.getElem?_eq_getElem hi, ei])
      have hrm := List.mem_of_getElem? hrow
      have hr6 : row.length ≤ 6 := gd.six row hrm
      refine ⟨⟨_, rfl⟩, _, rfl, pr, rfl, ⟨_, .inl (.inl (s' _ _ hH))⟩, fun D2 hD2 => ?_⟩
      refine lc_map (walk_tup (K := K) (a := pr) (xs := row.map oV)) hD2 (fun _ => true) showV (fun H2 s2 => .inl (.inl (s2 _ _ (s' _ _ hH)))) (fun _ => rfl) (fun x H' _ _ Q' q' => q') ?_ ?_ ?_
      · intro x H2 hx2 _ _ Q2 q2
        obtain ⟨o, _, rfl⟩ := List.mem_map.mp hx2
        refine ⟨_, rfl, _, rfl, ?_⟩
        cases o with
        | none => exact iteT q2
        | some z => exact iteF ⟨_, rfl, q2⟩
      · rw [List.length_map]
        exact small1000 (by omega)
      · intro H2 s2 hD3
        have e1 : ((row.map oV).filter fun _ => true).map showV = (row.map partS).map V.str := by
          rw [List.filter_eq_self.mpr fun _ _ => rfl, List.map_map, List.map_map]
          refine List.map_congr_left fun o _ => ?_
          cases o <;> rfl
        rw [e1] at hD3
        refine ⟨_, D2, row.map partS, rfl, rfl, .inl (.inl (.inl hD3)), ?_, q' _ H2 s2 fun pr2 row2 e2 h2 => ?_⟩
        · have := sum_len (l := row.map partS) (m := 8) fun z hz => by
            obtain ⟨o, ho, rfl⟩ := List.mem_map.mp hz
            rw [TL.len_tl]
            exact (part_tl (gd.parts row hrm o ho)).1
          rw [List.length_map] at this ⊢
          have e : (" " : Str).length = 1 := by decide +kernel
          rw [e]
          omega
        · obtain rfl : pr = pr2 := V.ref.inj e2
          rw [hH] at h2
          have : row = row2 := map_oV_inj (HO.tup.inj (Option.some.inj h2))
          rw [← this]
          rfl
    · rw [List.length_map]
      exact small1000 (by omega)
    · intro zs H1 s1 hD1 he
      rw [List.filter_eq_self.mpr fun _ _ => rfl] at he
      have e1 : zs = (g.map lineS).map V.str := lines_of hR he
      rw [e1] at hD1
      refine ⟨_, D, g.map lineS, rfl, rfl, .inl (.inl (.inl hD1)), ?_, q H1 s1⟩
      have := sum_len (l := g.map lineS) (m := 54) fun z hz => by
        obtain ⟨r, hr', rfl⟩ := List.mem_map.mp hz
        exact line_len (gd.parts r hr') (gd.six r hr')
      rw [List.length_map] at this ⊢
      have e : ("\n" : Str).length = 1 := by decide +kernel
      have := gd.h6
      rw [e]
      omega
end
end Wl




namespace Wl
open PySem PySem.Spec PyProof.Rows L2
abbrev sIsWhole : Stmt := topS 19
abbrev sIsNum : Stmt := topS 20
abbrev sCheckW : Stmt := topS 22
abbrev sCheckA : Stmt := topS 37
abbrev sCheckS : Stmt := topS 38
abbrev sKeyOf : Stmt := topS 39
abbrev sGat : Stmt := topS 41
abbrev sGInit : Stmt := inClass sGat 0
abbrev sGPlace : Stmt := inClass sGat 1
abbrev sGPut : Stmt := inClass sGat 2
/-- what was told -/
structure Tel where
  v : Str
  th : Str
  wo : Str
  tl : Str
  age : Nat
  g : Str
  sure : Bool
deriving DecidableEq
def telV (t : Tel) : List V := [.str t.v, .str t.th, .str t.wo, .str t.tl, .int (t.age : Int), .str t.g, .bl t.sure]
def keyV (t : Tel) : List V := [.str t.v, .str t.tl, .str t.th, .str t.g]
structure OkT (t : Tel) : Prop where
  v : IsWd t.v
  th : IsWd t.th
  wo : IsWd t.wo
  tl : IsWd t.tl
  age : t.age ≤ 120
  g : IsWd t.g
def TelsAt (H : Hp) (as : List Addr) (ts : List Tel) : Prop := Each (fun (p : Addr) (t : Tel) => H p = some (.tup (telV t))) as ts
theorem TelsAt.keep {H H' : Hp} {as : List Addr} {ts : List Tel} (h : TelsAt H as ts) (k : TupKeep H H') : TelsAt H' as ts := Each.mono (fun p t e => k p _ e) h
section
variable {P : Program} {w : World} {K : PySem.W.Frag} {mg : Str → Option Value} {base : Heap} {f C : Addr} {fd : FuncData}
structure Bg (mg : Str → Option Value) : Prop where
  bool : mg "bool" = none
  oldest : ∃ t, mg "OLDEST" = some (.int 120 t)
  most : ∃ t, mg "MOST_TELLINGS" = some (.int 200 t)
  dot : ∃ t, mg "DOT" = some (.str "." t)
  doubt : ∃ t, mg "DOUBT" = some (.str "?" t)
/-! ### is_whole, is_number_from -/
def spIsWhole : Sp := fun vs H Q _ => ∃ (n : Int), vs = [.int n] ∧ Q (.bl true) H
theorem scIsWhole : FnScope ["thing"] ["thing"] (defScope sIsWhole) := ⟨rfl, rfl, rfl, by decide +kernel, rfl, by decide +kernel, by decide +kernel⟩
theorem ok_iswhole (F : Fun K "is_whole" "is_whole" sIsWhole f fd) (B : Bi mg) (B2 : Bg mg) : FnOk P w K mg base CX0 1 f fd ["thing"] spIsWhole := by
  refine F.ok scIsWhole (fun vs H Q E h => ?_) (fun cdv A outer s H vs Q E hr h => ?_)
  · obtain ⟨n, rfl, _⟩ := h
    rfl
  · obtain ⟨n, rfl, q⟩ := h
    refine ⟨_, pss_one (ps_ret (pe_and (pe_callB call_isi (by rfl) B.isi (by decide +kernel) (pa_cons (pv 0) (pa_cons (pe_bltn (v := .ty "int") (by rfl) B.int (by decide +kernel) rfl) pa_nil)))
      (pe_one (pe_not (pe_callB call_isi (by rfl) B.isi (by decide +kernel) (pa_cons (pv 0) (pa_cons (pe_bltn (v := .ty "bool") (by rfl) B2.bool (by decide +kernel) rfl) pa_nil))))))), ?_⟩
    refine ⟨_, rfl, _, _, _, _, _, rfl, .ty "int", .base (.int n), kit_ty (r := true) (by decide +kernel), true, rfl, iteT ?_⟩
    exact ⟨_, rfl, _, _, _, _, _, rfl, .ty "bool", .base (.int n), kit_ty (r := false) (by decide +kernel), false, rfl, q⟩
def spIsNum : Sp := fun vs H Q _ => ∃ (n lo hi : Int), vs = [.int n, .int lo, .int hi] ∧ lo ≤ n ∧ n ≤ hi ∧ Q (.bl true) H
theorem scIsNum : FnScope ["thing", "least", "most"] ["thing", "least", "most"] (defScope sIsNum) := ⟨rfl, rfl, rfl, by decide +kernel, rfl, by decide +kernel, by decide +kernel⟩
theorem ok_isnum (F : Fun K "is_number_from" "is_number_from" sIsNum f fd) (hI : Has P w K mg base "is_whole" 1 ["thing"] spIsWhole) : FnOk P w K mg base CX0 2 f fd ["thing", "least", "most"] spIsNum := by
  refine F.ok scIsNum (fun vs H Q E h => ?_) (fun cdv A outer s H vs Q E hr h => ?_)
  · obtain ⟨n, lo, hi, rfl, _⟩ := h
    rfl
  · obtain ⟨n, lo, hi, rfl, h1, h2, q⟩ := h
    refine ⟨_, pss_one (ps_ret (pe_and (pe_h hI hr (pa_cons (pv 0) pa_nil)) (pe_one (pe_chain op_le op_le (pv 1) (pv 0) (pv 2))))), ?_⟩
    refine ⟨_, rfl, n, rfl, true, rfl, iteT ?_⟩
    refine ⟨_, rfl, _, rfl, _, _, rfl, rfl, _, rfl, ?_⟩
    rw [decide_eq_true h1]
    refine iteT ⟨_, rfl, _, _, rfl, rfl, ?_⟩
    show Q (.bl (decide (n ≤ hi))) H
    rw [decide_eq_true h2]
    exact q
/-! ### check_word -/
def spCheckW : Sp := fun vs H Q _ => ∃ (z : Str), vs = [.str z] ∧ IsWd z ∧ ∀ (H' : Hp), Same H H' → Q .non H'
theorem scCheckW : FnScope ["word"] ["word"] (defScope sCheckW) := ⟨rfl, rfl, rfl, by decide +kernel, rfl, by decide +kernel, by decide +kernel⟩
theorem ok_checkw (F : Fun K "check_word" "check_word" sCheckW f fd) (hI : Has P w K mg base "is_word" 1 ["thing"] spIsWord) : FnOk P w K mg base CX0 2 f fd ["word"] spCheckW := by
  refine F.ok scCheckW (fun vs H Q E h => ?_) (fun cdv A outer s H vs Q E hr h => ?_)
  · obtain ⟨z, rfl, _⟩ := h
    rfl
  · obtain ⟨z, rfl, hz, q⟩ := h
    refine ⟨_, pss_one (ps_if (pt_not (pt_val (pe_h hI hr (pa_cons (pv 0) pa_nil)))) (pss_one ps_never) pss_nil), ?_⟩
    refine ⟨_, rfl, z, rfl, by have := hz.len; omega, fun H1 s1 => ⟨_, rfl, ?_⟩⟩
    rw [show wdB z = true from hz]
    exact iteF (q H1 s1)
/-! ### check_age -/
def spCheckA : Sp := fun vs H Q _ => ∃ (n : Nat), vs = [.int (n : Int)] ∧ n ≤ 120 ∧ Q .non H
theorem scCheckA : FnScope ["age"] ["age"] (defScope sCheckA) := ⟨rfl, rfl, rfl, by decide +kernel, rfl, by decide +kernel, by decide +kernel⟩
theorem ok_checka (F : Fun K "check_age" "check_age" sCheckA f fd) (B2 : Bg mg) (hI : Has P w K mg base "is_number_from" 2 ["thing", "least", "most"] spIsNum) : FnOk P w K mg base CX0 3 f fd ["age"] spCheckA := by
  obtain ⟨t, gt⟩ := B2.oldest
  refine F.ok scCheckA (fun vs H Q E h => ?_) (fun cdv A outer s H vs Q E hr h => ?_)
  · obtain ⟨z, rfl, _⟩ := h
    rfl
  · obtain ⟨n, rfl, hn, q⟩ := h
    refine ⟨_, pss_one (ps_if (pt_not (pt_val (pe_h hI hr (pa_cons (pv 0) (pa_cons pe_int (pa_cons (pe_glob (v := .int 120) rfl gt ⟨_, rfl⟩) pa_nil)))))) (pss_one ps_never) pss_nil), ?_⟩
    exact ⟨_, rfl, n, 0, 120, rfl, by omega, by omega, true, rfl, iteF q⟩
/-! ### check_sure -/
def spCheckS : Sp := fun vs H Q _ => ∃ (b : Bool), vs = [.bl b] ∧ Q .non H
theorem scCheckS : FnScope ["sure"] ["sure"] (defScope sCheckS) := ⟨rfl, rfl, rfl, by decide +kernel, rfl, by decide +kernel, by decide +kernel⟩
theorem ok_checks (F : Fun K "check_sure" "check_sure" sCheckS f fd) (B : Bi mg) (B2 : Bg mg) : FnOk P w K mg base CX0 1 f fd ["sure"] spCheckS := by
  refine F.ok scCheckS (fun vs H Q E h => ?_) (fun cdv A outer s H vs Q E hr h => ?_)
  · obtain ⟨z, rfl, _⟩ := h
    rfl
  · obtain ⟨b, rfl, q⟩ := h
    refine ⟨_, pss_one (ps_if (pt_not (pt_val (pe_callB call_isi (by rfl) B.isi (by decide +kernel) (pa_cons (pv 0) (pa_cons (pe_bltn (v := .ty "bool") (by rfl) B2.bool (by decide +kernel) rfl) pa_nil))))) (pss_one ps_never) pss_nil), ?_⟩
    exact ⟨_, rfl, _, _, _, _, _, rfl, .ty "bool", .base (.bl b), kit_ty (r := true) (by decide +kernel), true, rfl, iteF q⟩
/-! ### key_of -/
def spKeyOf : Sp := fun vs H Q _ => ∃ (p : Addr) (t : Tel), vs = [.ref p] ∧ H p = some (.tup (telV t)) ∧ ∀ u, H u = none → Q (.ref u) (upd H u (.tup (keyV t)))
theorem scKeyOf : FnScope ["telling"] ["telling"] (defScope sKeyOf) := ⟨rfl, rfl, rfl, by decide +kernel, rfl, by decide +kernel, by decide +kernel⟩
theorem ok_keyof (F : Fun K "key_of" "key_of" sKeyOf f fd) : FnOk P w K mg base CX0 1 f fd ["telling"] spKeyOf := by
  refine F.ok scKeyOf (fun vs H Q E h => ?_) (fun cdv A outer s H vs Q E hr h => ?_)
  · obtain ⟨p, t, rfl, _⟩ := h
    rfl
  · obtain ⟨p, t, rfl, hp, q⟩ := h
    refine ⟨_, pss_one (ps_ret (pe_tup (pa_cons (pe_ix ix_tup (pv 0) pe_int (fun _ _ => rfl)) (pa_cons (pe_ix ix_tup (pv 0) pe_int (fun _ _ => rfl)) (pa_cons (pe_ix ix_tup (pv 0) pe_int (fun _ _ => rfl)) (pa_cons (pe_ix ix_tup (pv 0) pe_int (fun _ _ => rfl)) pa_nil)))))), ?_⟩
    refine ⟨_, rfl, p, _, _, _, rfl, rfl, .inl (.inl hp), atI_nat (j := 0) rfl, _, rfl, p, _, _, _, rfl, rfl, .inl (.inl hp), atI_nat (j := 3) rfl, _, rfl, p, _, _, _, rfl, rfl, .inl (.inl hp), atI_nat (j := 1) rfl, _, rfl, p, _, _, _, rfl, rfl, .inl (.inl hp), atI_nat (j := 5) rfl, lz, fun u hu => q u hu⟩
end
end Wl




namespace Wl
open PySem PySem.Spec PyProof.Rows L2
/-! A Gathering on the heap. -/
def gf (l t d : Addr) : List (Str × V) := putF "deeds" (.ref d) (putF "told" (.ref t) (putF "land" (.ref l) []))
theorem gf_land (l t d : Addr) : (gf l t d).lookup ("land" : Str) = some (.ref l) := by
  unfold gf
  rw [lookup_putF, if_neg (by decide +kernel), lookup_putF, if_neg (by decide +kernel), lookup_putF, if_pos rfl]
theorem gf_told (l t d : Addr) : (gf l t d).lookup ("told" : Str) = some (.ref t) := by
  unfold gf
  rw [lookup_putF, if_neg (by decide +kernel), lookup_putF, if_pos rfl]
theorem gf_deeds (l t d : Addr) : (gf l t d).lookup ("deeds" : Str) = some (.ref d) := by
  unfold gf
  rw [lookup_putF, if_pos rfl]
theorem gf_no (l t d : Addr) {m : Str} (h1 : ¬ m = "deeds" := by decide +kernel) (h2 : ¬ m = "told" := by decide +kernel) (h3 : ¬ m = "land" := by decide +kernel) : (gf l t d).lookup m = none := by
  unfold gf
  rw [lookup_putF, if_neg h1, lookup_putF, if_neg h2, lookup_putF, if_neg h3]
  rfl
structure GR where
  pl : Addr
  L : Addr
  td : Addr
  dd : Addr
  g : Grid
  as : List Addr
  ts : List Tel
  ds : List V
structure GatAt (C D : Addr) (H : Hp) (p : Addr) (r : GR) : Prop where
  at_ : ∃ dx, H p = some (.ins D dx (gf r.pl r.td r.dd))
  land : LandAt C H r.pl r.L r.g
  told : H r.td = some (.lst (r.as.map V.ref))
  tels : TelsAt H r.as r.ts
  deeds : H r.dd = some (.lst r.ds)
  ne : r.td ≠ r.dd
theorem GatAt.same {C D : Addr} {H H' : Hp} {p : Addr} {r : GR} (h : GatAt C D H p r) (s : Same H H') : GatAt C D H' p r :=
  ⟨let ⟨dx, e⟩ := h.at_; ⟨dx, s _ _ e⟩, h.land.keep (kp_same s), s _ _ h.told, h.tels.keep (tk_same s), s _ _ h.deeds, h.ne⟩
/-- all but what stands at a and b is as it was -/
def Same2 (a b : Addr) (H H' : Hp) : Prop := ∀ c o, c ≠ a → c ≠ b → H c = some o → H' c = some o
theorem Same2.of {a b : Addr} {H H' : Hp} (s : Same H H') : Same2 a b H H' := fun c o _ _ h => s c o h
theorem Same2.trans {a b : Addr} {H H1 H2 : Hp} (s : Same2 a b H H1) (t : Same2 a b H1 H2) : Same2 a b H H2 := fun c o n m h => t c o n m (s c o n m h)
structure TxtG (K : PySem.W.Frag) (mg : Str → Option Value) (D : Addr) : Prop where
  cl : Cls K D
  nL : NoAttr K D "land"
  nT : NoAttr K D "told"
  nD : NoAttr K D "deeds"
  mgD : mg "Gathering" = some (.ref D)
def keyS (t : Tel) : List Str := [t.v, t.tl, t.th, t.g]
theorem keyV_eq (t : Tel) : keyV t = (keyS t).map V.str := rfl
theorem strs_eqv : ∀ a b : List Str, PyData.eqvAll (a.map PyData.str) (b.map PyData.str) = decide (a = b)
  | [], [] => by simp [PyData.eqvAll]
  | [], _ :: _ => by simp [PyData.eqvAll]
  | _ :: _, [] => by simp [PyData.eqvAll]
  | x :: a, y :: b => by
    have e : PyData.eqv (.str x) (.str y) = decide (x = y) := o_eqv (some x) (some y) |>.trans (by simp)
    simp only [List.map_cons, PyData.eqvAll, e, strs_eqv a b, List.cons.injEq]
    by_cases h1 : x = y <;> by_cases h2 : a = b <;> simp [h1, h2]
theorem tup_eqv (a b : List Str) : PyData.eqv (.tuple (a.map PyData.str)) (.tuple (b.map PyData.str)) = decide (a = b) := by
  simp only [PyData.eqv, strs_eqv]
theorem shaped_strs {a : List Str} (h : ∀ z ∈ a, IsWd z) : SeqAt.shaped (.tuple (a.map PyData.str)) = true := shaped_tuple (lay_strs h) (by rw [depth_strs]; omega)
theorem OkT.key {t : Tel} (h : OkT t) : ∀ z ∈ keyS t, IsWd z := fun z hz => by
  simp only [keyS, List.mem_cons, List.not_mem_nil, or_false] at hz
  rcases hz with rfl | rfl | rfl | rfl
  · exact h.v
  · exact h.tl
  · exact h.th
  · exact h.g
section
variable {P : Program} {w : World} {K : PySem.W.Frag} {mg : Str → Option Value} {base : Heap} {f C D : Addr} {fd : FuncData}
theorem land_but {H H' : Hp} {p pl L dx : Addr} {g : Grid} {fs : List (Str × V)} (h : LandAt C H pl L g) (hp : H p = some (.ins D dx fs)) (n : p ≠ pl) (k : ∀ b o, b ≠ p → H b = some o → H' b = some o) : LandAt C H' pl L g := by
  obtain ⟨d, dl, k1, ⟨kvs, k2, k3⟩, k4⟩ := h
  have tk : TupKeep H H' := fun b xs e => k b _ (ne_of e hp (by intro z; cases z)) e
  exact ⟨d, dl, k _ _ n.symm k1, ⟨kvs, k _ _ (ne_of k2 hp (by intro z; cases z)) k2, ent_keep tk k3⟩, k4.keep tk⟩
/-! ### a new one -/
def spGInit (C D : Addr) : Sp := fun vs H Q _ => ∃ (p dx pl L : Addr) (g : Grid), vs = [.ref p, .ref pl] ∧ H p = some (.ins D dx []) ∧ LandAt C H pl L g ∧ p ≠ pl ∧
  ∀ (td dd : Addr) (H' : Hp), H td = none → H dd = none → (∀ b o, b ≠ p → H b = some o → H' b = some o) → GatAt C D H' p ⟨pl, L, td, dd, g, [], [], []⟩ → Q .non H'
theorem scGInit : FnScope ["self", "land"] ["self", "land"] (defScope sGInit) := ⟨rfl, rfl, rfl, by decide +kernel, rfl, by decide +kernel, by decide +kernel⟩
theorem ok_ginit (F : Fun K "__init__" "Gathering.__init__" sGInit f fd) (B : Bi mg) (T : Txt2 K mg C) (TG : TxtG K mg D) : FnOk P w K mg base CX0 1 f fd ["self", "land"] (spGInit C D) := by
  refine F.ok scGInit (fun vs H Q E h => ?_) (fun cdv A outer s H vs Q E hr h => ?_)
  · obtain ⟨p, dx, pl, L, g, rfl, _⟩ := h
    rfl
  · obtain ⟨p, dx, pl, L, g, rfl, hp, hLa, npl, q⟩ := h
    refine ⟨_, pss_cons (ps_if (pt_not (pt_val (pe_callB (C8.call_isC (C := C) T.ins) (by rfl) B.isi (by decide +kernel) (pa_cons (pv 1) (pa_cons (pe_glob (v := .ref C) rfl T.t.mgC rfl) pa_nil))))) (pss_one ps_never) pss_nil)
      (pss_cons (ps_fld (pv 0) (pv 1) rfl) (pss_cons (ps_fld (pv 0) (pe_lst pa_nil) rfl) (pss_one (ps_fld (pv 0) (pe_lst pa_nil) rfl)))), ?_⟩
    obtain ⟨dl, d, i1⟩ := hLa.ins
    refine ⟨_, rfl, pl, dl, _, rfl, i1, true, rfl, iteF ?_⟩
    refine ⟨_, rfl, _, rfl, p, D, dx, [], rfl, hp, TG.cl, TG.nL, (by show 0 < 1000; decide), ?_⟩
    refine ⟨lz, fun td htd => ⟨_, rfl, p, D, dx, putF "land" (.ref pl) [], rfl, (same_new htd) _ _ upd_same, TG.cl, TG.nT, (by show 1 < 1000; decide), ?_⟩⟩
    refine ⟨lz, fun dd hdd => ⟨_, rfl, p, D, dx, putF "told" (.ref td) (putF "land" (.ref pl) []), rfl, (same_new hdd) _ _ upd_same, TG.cl, TG.nD, (by show 2 < 1000; decide), ?_⟩⟩
    have ntp : td ≠ p := fun e => by
      rw [e, upd_same] at htd
      cases htd
    have htd0 : H td = none := by
      rw [upd_ne ntp] at htd
      exact htd
    have ndp : dd ≠ p := fun e => by
      rw [e, upd_same] at hdd
      cases hdd
    have ndt : dd ≠ td := fun e => by
      rw [e, upd_ne ntp, upd_same] at hdd
      cases hdd
    have hdd0 : H dd = none := by
      rw [upd_ne ndp, upd_ne ndt, upd_ne ndp] at hdd
      exact hdd
    have all : ∀ b o, b ≠ p → H b = some o → upd (upd (upd (upd (upd H p (.ins D dx (putF "land" (.ref pl) []))) td (.lst [])) p (.ins D dx (putF "told" (.ref td) (putF "land" (.ref pl) [])))) dd (.lst [])) p (.ins D dx (gf pl td dd)) b = some o := fun b o n e => by
      rw [upd_ne n, upd_ne (ne_of_none e hdd0), upd_ne n, upd_ne (ne_of_none e htd0), upd_ne n]
      exact e
    refine q td dd _ htd0 hdd0 all ⟨⟨dx, upd_same⟩, ?_, ?_, .nil, ?_, ndt.symm⟩
    · exact land_but hLa hp npl all
    · rw [upd_ne ntp, upd_ne ndt.symm, upd_ne ntp, upd_same]
      rfl
    · rw [upd_ne ndp, upd_same]
/-! ### where a key stands -/
def plV (o : Option Nat) : V := match o with
  | some i => .int (i : Int)
  | none => .non
def spGPlace (C D : Addr) : Sp := fun vs H Q _ => ∃ (p kp : Addr) (r : GR) (ks : List Str), vs = [.ref p, .ref kp] ∧ GatAt C D H p r ∧ (∀ t ∈ r.ts, OkT t) ∧ r.ts.length ≤ 200 ∧ H kp = some (.tup (ks.map V.str)) ∧ (∀ z ∈ ks, IsWd z) ∧
  ∀ (H' : Hp), Same H H' → Q (plV (r.ts.findIdx? fun t => decide (keyS t = ks))) H'
abbrev nGPlace : List Str := ["self", "key", "place", "telling"]
theorem scGPlace : FnScope nGPlace ["self", "key"] (defScope sGPlace) := ⟨rfl, rfl, rfl, by decide +kernel, rfl, by decide +kernel, by decide +kernel⟩
theorem find_at {α : Type} {q : α → Bool} {l : List α} {i : Nat} {x : α} (h : l[i]? = some x) (hq : q x = true) (hn : ∀ j y, j < i → l[j]? = some y → q y = false) : l.findIdx? q = some i := by
  rw [List.findIdx?_eq_some_iff_getElem]
  obtain ⟨hi, e⟩ := List.getElem?_eq_some_iff.mp h
  refine ⟨hi, by rw [e]; exact hq, fun j hj => ?_⟩
  rw [hn j _ hj (List.getElem?_eq_getElem (by omega))]
  decide
theorem ok_gplace (F : Fun K "place_of" "Gathering.place_of" sGPlace f fd) (B : Bi mg) (TG : TxtG K mg D) (hK : Has P w K mg base "key_of" 1 ["telling"] spKeyOf) : FnOk P w K mg base CX0 2 f fd ["self", "key"] (spGPlace C D) := by
  refine F.ok scGPlace (fun vs H Q E h => ?_) (fun cdv A outer s H vs Q E hr h => ?_)
  · obtain ⟨p, kp, r, ks, rfl, _⟩ := h
    rfl
  · obtain ⟨p, kp, r, ks, rfl, hG, hok, h200, hk, hkw, q⟩ := h
    refine ⟨_, pss_cons (ps_for PassesOwn.never rfl (pi_enum (by rfl) B.enum (pa_cons (pe_fld (pv 0) rfl) pa_nil)) (pg_tup rfl (pgs_cons (pg_name (i := 2) scGPlace.nd rfl (.inl rfl)) (pgs_cons (pg_name (i := 3) scGPlace.nd rfl (.inl rfl)) pgs_nil)))
        (pss_one (ps_if (pt_cmpR (op_eqD hr.units) (pe_h hK hr (pa_cons (pv 3) pa_nil)) (pv 1) (nomark _)) (pss_one (ps_ret (pv 2))) pss_nil)))
      (pss_one (ps_ret pe_non)), ?_⟩
    obtain ⟨dx, hp⟩ := hG.at_
    refine ⟨_, rfl, p, D, dx, _, _, rfl, hp, TG.cl, TG.nT, gf_told _ _ _, r.td, _, rfl, .inl (.inl hG.told), for_it (walk_enum (K := K) (a := r.td) (xs := r.as.map V.ref)) (fun i σ H' => (∃ y2 y3, σ = [some (.ref p), some (.ref kp), y2, y3]) ∧ Same H H' ∧ ∀ j t, j < i → r.ts[j]? = some t → keyS t ≠ ks)
      ⟨⟨_, _, rfl⟩, Same.refl H, fun j t hj => absurd hj (Nat.not_lt_zero _)⟩ (fun i σ H' _ h => .inl (.inl (h.2.1 _ _ hG.told))) ?_ ?_⟩
    · rintro i x σ H1 H2 hi ⟨⟨y2, y3, rfl⟩, s1, hno⟩ ⟨T, x1, x2, rfl, hT, rfl, ex1, ex2⟩
      have ex1 : (some (V.int (i : Nat)) : Option V) = some x1 := ex1
      cases ex1
      have ex2 : (r.as.map V.ref)[i]? = some x2 := ex2
      rw [List.getElem?_map] at ex2
      obtain ⟨pt, hpt, rfl⟩ := Option.map_eq_some_iff.mp ex2
      obtain ⟨t, ht, hpt1⟩ := Each.get hG.tels hpt
      have okt := hok t (List.mem_of_getElem? ht)
      have sT : Same H1 (upd H1 T (.tup [V.int (i : Nat), .ref pt])) := same_new hT
      refine ⟨T, _, rfl, .inl (.inl upd_same), rfl, _, _, rfl, _, _, rfl, rfl, ?_⟩
      have s2 := s1.trans sT
      generalize upd H1 T (.tup [V.int (i : Nat), .ref pt]) = H2 at s2
      refine ⟨_, rfl, pt, t, rfl, s2 _ _ hpt1, fun u hu => ?_⟩
      have s3 := same_new (o := .tup (keyV t)) hu
      refine ⟨_, rfl, .tuple ((keyS t).map .str), .tuple (ks.map .str), .tup (.inl (.inl upd_same)) (dp_strs (keyS t)), .tup (.inl (.inl (s3 _ _ (s2 _ _ hk)))) (dp_strs ks), shaped_strs okt.key, shaped_strs hkw, _, rfl, ?_⟩
      rw [tup_eqv]
      refine ite_b (fun e => ?_) (fun e => ?_)
      · refine ⟨_, rfl, ?_⟩
        have := q _ (s2.trans s3)
        rw [find_at ht e fun j y hj hy => decide_eq_false (hno j y hj hy)] at this
        exact this
      · refine ⟨⟨_, _, rfl⟩, s2.trans s3, fun j y hj hy => ?_⟩
        by_cases c : j = i
        · subst c
          rw [ht] at hy
          cases hy
          exact of_decide_eq_false e
        · exact hno j y (by omega) hy
    · rintro σ H1 ⟨⟨y2, y3, rfl⟩, s1, hno⟩
      have e : (r.ts.findIdx? fun t => decide (keyS t = ks)) = none := by
        rw [List.findIdx?_eq_none_iff]
        intro t ht
        obtain ⟨j, hj, ej⟩ := List.mem_iff_getElem.mp ht
        refine decide_eq_false (hno j t ?_ (by rw [List.getElem?_eq_getElem hj, ej]))
        rw [List.length_map]
        have := hG.tels.length
        omega
      have := q H1 s1
      rw [e] at this
      exact this
end
end Wl




namespace Wl
open PySem PySem.Spec PyProof.Rows L2
abbrev psPut : List Str := ["self", "village", "thing", "word", "teller", "age", "gatherer", "sure"]
abbrev nPut : List Str := ["self", "village", "thing", "word", "teller", "age", "gatherer", "sure", "key"]
theorem scPut : FnScope nPut psPut (defScope sGPut) := ⟨rfl, rfl, rfl, by decide +kernel, rfl, by decide +kernel, by decide +kernel⟩
def GR.add (r : GR) (q : Addr) (t : Tel) : GR := { r with as := r.as ++ [q], ts := r.ts ++ [t], ds := r.ds ++ [.non] }
section
variable {P : Program} {w : World} {K : PySem.W.Frag} {mg : Str → Option Value} {base : Heap} {f C D : Addr} {fd : FuncData}
/-- put: the last two may be left out -/
abbrev FunP (K : PySem.W.Frag) (f : Addr) (fd : FuncData) : Prop := FunD K "put" "Gathering.put" (defArgs sGPut) (defBody sGPut) (defScope sGPut) [.str "self", .bl true] [] f fd
theorem okD {x qual : Str} {params : Arguments} {body : List Stmt} {scope : Scope} {dvs : List V} {N ps : List Str} {k : Nat} {sp : Sp} (F : FunD K x qual params body scope dvs [] f fd) (S : FnScope N ps scope) (len : ∀ vs H Q E, sp vs H Q E → vs.length = ps.length)
    (hbody : ∀ (cdv : Value) (A : Around) (outer : List Env) (s : Shared) (H : Hp) (vs : List V) (Q : VK) (E : XK), Room k (A.deeper (envOfC qual scope s.heap.objs.size f cdv)) → sp vs H Q E →
      ∃ t, PSs (cxOf CX0 P w K mg base N qual scope f cdv A outer s H E).nox body t ∧ t { nx := fun _ H' => Q .non H', rt := Q } (start N vs) H) : FnOk P w K mg base CX0 (k + 1) f fd ps sp :=
  F.ok S len fun cdv A outer s H vs Q E hr hsp => let ⟨t, h, q⟩ := hbody cdv A outer s H vs Q E hr hsp; ⟨t, h.nox, q⟩
def spPut (C D : Addr) : Sp := fun vs H Q _ => ∃ (p : Addr) (r : GR) (wd : Nat) (t : Tel), vs = .ref p :: telV t ∧ GatAt C D H p r ∧ Good r.g wd ∧ (∀ u ∈ r.ts, OkT u) ∧ OkT t ∧ t.v ∈ names r.g ∧ keyS t ∉ r.ts.map keyS ∧ r.ts.length < 200 ∧ r.ds.length < 1000 ∧
  ∀ (q : Addr) (H' : Hp), H q = none → Same2 r.td r.dd H H' → GatAt C D H' p (r.add q t) → Q .non H'
theorem find_no {l : List Tel} {t : Tel} (h : keyS t ∉ l.map keyS) : (l.findIdx? fun u => decide (keyS u = keyS t)) = none := by
  rw [List.findIdx?_eq_none_iff]
  intro u hu
  exact decide_eq_false fun e => h (List.mem_map.mpr ⟨u, hu, e⟩)
theorem ok_put (F : FunP K f fd) (B : Bi mg) (B2 : Bg mg) (T : Txt K mg C) (TG : TxtG K mg D) (hCk : HasM P w K mg base C "check_name" 2 ["self", "name"] (spCheck C)) (hW : Has P w K mg base "check_word" 2 ["word"] spCheckW)
    (hA : Has P w K mg base "check_age" 3 ["age"] spCheckA) (hS : Has P w K mg base "check_sure" 1 ["sure"] spCheckS) (hP : HasM P w K mg base D "place_of" 2 ["self", "key"] (spGPlace C D)) : FnOk P w K mg base CX0 4 f fd psPut (spPut C D) := by
  obtain ⟨t200, g200⟩ := B2.most
  refine okD F scPut (fun vs H Q E h => ?_) (fun cdv A outer s H vs Q E hr h => ?_)
  · obtain ⟨p, r, wd, t, rfl, _⟩ := h
    rfl
  · obtain ⟨p, r, wd, t, rfl, hG, gd, hok, okt, hv, hnew, h200, hds, q⟩ := h
    refine ⟨_, pss_cons (ps_expr (pe_hm hCk T.cl hr (pe_fld (pv 0) rfl) (pa_cons (pv 1) pa_nil)))
      (pss_cons (ps_expr (pe_h hW hr (pa_cons (pv 2) pa_nil)))
      (pss_cons (ps_expr (pe_h hW hr (pa_cons (pv 3) pa_nil)))
      (pss_cons (ps_expr (pe_h hW hr (pa_cons (pv 4) pa_nil)))
      (pss_cons (ps_expr (pe_h hA hr (pa_cons (pv 5) pa_nil)))
      (pss_cons (ps_expr (pe_h hW hr (pa_cons (pv 6) pa_nil)))
      (pss_cons (ps_expr (pe_h hS hr (pa_cons (pv 7) pa_nil)))
      (pss_cons (ps_set (i := 8) scPut.nd rfl (.inl rfl) (pe_tup (pa_cons (pv 1) (pa_cons (pv 4) (pa_cons (pv 2) (pa_cons (pv 6) pa_nil))))))
      (pss_cons (ps_if (pt_cmp (pc_notN (pe_hm hP TG.cl hr (pv 0) (pa_cons (pv 8) pa_nil)))) (pss_one ps_never) pss_nil)
      (pss_cons (ps_if (pt_cmpR op_ge (pe_callB call_len_seq (by rfl) B.len PySem.boot_len (pa_cons (pe_fld (pv 0) rfl) pa_nil)) (pe_glob (v := .int 200) rfl g200 ⟨_, rfl⟩) (nomark _)) (pss_one ps_never) pss_nil)
      (pss_cons (ps_expr (pe_bm PySem.F.plainAttrs_list PySem.F.slot_list_append PySem.F.type_list_append mt_append (pe_fld (pv 0) rfl) (pa_cons (pe_tup (pa_cons (pv 1) (pa_cons (pv 2) (pa_cons (pv 3) (pa_cons (pv 4) (pa_cons (pv 5) (pa_cons (pv 6) (pa_cons (pv 7) pa_nil)))))))) pa_nil)))
      (pss_one (ps_expr (pe_bm PySem.F.plainAttrs_list PySem.F.slot_list_append PySem.F.type_list_append mt_append (pe_fld (pv 0) rfl) (pa_cons pe_non pa_nil)))))))))))))), ?_⟩
    obtain ⟨dx, hp⟩ := hG.at_
    obtain ⟨dl, d, hl⟩ := hG.land.ins
    refine ⟨_, rfl, p, D, dx, _, _, rfl, hp, TG.cl, TG.nL, gf_land _ _ _, r.pl, dl, _, rfl, hl, fs_no, _, rfl, r.pl, r.L, r.g, wd, t.v, rfl, hG.land, gd, hv, fun H1 s1 => ?_⟩
    refine ⟨_, rfl, t.th, rfl, okt.th, fun H2 s2 => ?_⟩
    refine ⟨_, rfl, t.wo, rfl, okt.wo, fun H3 s3 => ?_⟩
    refine ⟨_, rfl, t.tl, rfl, okt.tl, fun H4 s4 => ?_⟩
    refine ⟨_, rfl, t.age, rfl, okt.age, ?_⟩
    refine ⟨_, rfl, t.g, rfl, okt.g, fun H5 s5 => ?_⟩
    refine ⟨_, rfl, t.sure, rfl, ?_⟩
    have s15 := ((s1.trans s2).trans (s3.trans s4)).trans s5
    refine ⟨_, rfl, _, rfl, _, rfl, _, rfl, lz, fun kp hkp => ?_⟩
    have s6 := same_new (o := .tup [V.str t.v, V.str t.tl, V.str t.th, V.str t.g]) hkp
    have hkp6 : upd H5 kp (.tup [V.str t.v, V.str t.tl, V.str t.th, V.str t.g]) kp = some (.tup ((keyS t).map V.str)) := upd_same
    have s16 := s15.trans s6
    have hG6 := hG.same s16
    generalize upd H5 kp (.tup [V.str t.v, V.str t.tl, V.str t.th, V.str t.g]) = H6 at hkp6 s16 hG6
    obtain ⟨dx6, hp6⟩ := hG6.at_
    refine ⟨_, rfl, p, dx6, _, rfl, hp6, gf_no _ _ _, _, rfl, p, kp, r, keyS t, rfl, hG6, hok, by omega, hkp6, okt.key, fun H7 s7 => ?_⟩
    rw [find_no hnew]
    refine ⟨_, rfl, iteF ?_⟩
    have hG7 := hG6.same s7
    obtain ⟨dx7, hp7⟩ := hG7.at_
    have hlen : r.as.length = r.ts.length := hG.tels.length
    refine ⟨_, rfl, p, D, dx7, _, _, rfl, hp7, TG.cl, TG.nT, gf_told _ _ _, r.td, _, rfl, .inl (.inl (.inl hG7.told)), _, _, rfl, rfl, _, rfl, ?_⟩
    have hno : decide ((200 : Int) ≤ ((r.as.map V.ref).length : Int)) = false := decide_eq_false (by rw [List.length_map]; omega)
    rw [hno]
    refine iteF ⟨_, rfl, p, D, dx7, _, _, rfl, hp7, TG.cl, TG.nT, gf_told _ _ _, .inl ⟨rfl, _, .inl (.inl hG7.told)⟩, _, rfl, _, rfl, _, rfl, _, rfl, _, rfl, _, rfl, _, rfl, lz, fun qa hqa => ?_⟩
    have s8 := same_new (o := .tup [V.str t.v, V.str t.th, V.str t.wo, V.str t.tl, V.int (t.age : Int), V.str t.g, V.bl t.sure]) hqa
    have hG8 := hG7.same s8
    have hqa8 : upd H7 qa (.tup [V.str t.v, V.str t.th, V.str t.wo, V.str t.tl, V.int (t.age : Int), V.str t.g, V.bl t.sure]) qa = some (.tup (telV t)) := upd_same
    have s18 := s16.trans (s7.trans s8)
    have hqa0 : H qa = none := (s16.trans s7).free hqa
    refine ⟨r.td, _, _, rfl, rfl, hG8.told, by rw [List.length_map]; exact small1000 (by omega), ?_⟩
    obtain ⟨dx8, hp8⟩ := hG8.at_
    have hd8 := hG8.deeds
    have ht8 := hG8.told
    generalize upd H7 qa (.tup [V.str t.v, V.str t.th, V.str t.wo, V.str t.tl, V.int (t.age : Int), V.str t.g, V.bl t.sure]) = H8 at hG8 hqa8 s18 hp8 hd8 ht8
    have k9 : Keep H8 (upd H8 r.td (.lst (r.as.map V.ref ++ [.ref qa]))) := kp_upd ht8
    have hp9 := k9 _ _ (fun xs e => by cases e) hp8
    have hd9 : upd H8 r.td (.lst (r.as.map V.ref ++ [.ref qa])) r.dd = some (.lst r.ds) := by
      rw [upd_ne hG.ne.symm]
      exact hd8
    have ht9 : upd H8 r.td (.lst (r.as.map V.ref ++ [.ref qa])) r.td = some (.lst (r.as.map V.ref ++ [.ref qa])) := upd_same
    have m9 : Same2 r.td r.dd H8 (upd H8 r.td (.lst (r.as.map V.ref ++ [.ref qa]))) := fun c o n _ e => by
      rw [upd_ne n]
      exact e
    generalize upd H8 r.td (.lst (r.as.map V.ref ++ [.ref qa])) = H9 at k9 hp9 hd9 ht9 m9
    refine ⟨_, rfl, p, D, dx8, _, _, rfl, hp9, TG.cl, TG.nD, gf_deeds _ _ _, .inl ⟨rfl, _, .inl (.inl hd9)⟩, r.dd, _, _, rfl, rfl, hd9, small1000 (by omega), ?_⟩
    have k10 : Keep H9 (upd H9 r.dd (.lst (r.ds ++ [.non]))) := kp_upd hd9
    have kk := k9.trans k10
    refine q qa _ hqa0 ?_ ⟨⟨dx8, k10 _ _ (fun xs e => by cases e) hp9⟩, hG8.land.keep kk, ?_, ?_, upd_same, hG.ne⟩
    · refine (Same2.of s18).trans (m9.trans fun c o _ n e => ?_)
      rw [upd_ne n]
      exact e
    · show upd H9 r.dd (.lst (r.ds ++ [.non])) r.td = some (.lst ((r.as ++ [qa]).map V.ref))
      rw [upd_ne hG.ne, ht9, List.map_append]
      rfl
    · exact Each.append (hG8.tels.keep kk.tk) (.cons (kk.tk _ _ hqa8) .nil)
end
end Wl




namespace Wl
open PySem PySem.Spec PyProof.Rows L2
inductive Wh where
  | first | last | any
  deriving DecidableEq
def whS : Wh → Str
  | .first => "first"
  | .last => "last"
  | .any => "any"
abbrev Chg := Nat × Nat × Wh
def isLet (c : Nat) : Prop := 97 ≤ c ∧ c ≤ 122
instance (c : Nat) : Decidable (isLet c) := by unfold isLet; infer_instance
def OkC (ch : Chg) : Prop := isLet ch.1 ∧ isLet ch.2.1 ∧ ch.1 ≠ ch.2.1
def acts (wh : Wh) (i n : Nat) : Bool := match wh with
  | .first => decide (i = 0)
  | .last => decide (i + 1 = n)
  | .any => true
abbrev Edges := List (Nat × Nat)
def es (chs : List Chg) (i n : Nat) : Edges := (chs.filter fun ch => acts ch.2.2 i n).map fun ch => (ch.1, ch.2.1)
def nbE (c : Nat) (e : Nat × Nat) : List Nat := (if e.1 = c then [e.2] else []) ++ (if e.2 = c then [e.1] else [])
def nbrs (E : Edges) (c : Nat) : List Nat := E.flatMap (nbE c)
theorem mem_nbrs {E : Edges} {c d : Nat} : d ∈ nbrs E c ↔ (c, d) ∈ E ∨ (d, c) ∈ E := by
  unfold nbrs nbE
  rw [List.mem_flatMap]
  constructor
  · rintro ⟨⟨x, y⟩, he, h⟩
    rcases List.mem_append.mp h with k | k
    · by_cases q : x = c
      · rw [if_pos q, List.mem_singleton] at k
        rw [k, ← q]
        exact .inl he
      · rw [if_neg q] at k
        cases k
    · by_cases q : y = c
      · rw [if_pos q, List.mem_singleton] at k
        rw [k, ← q]
        exact .inr he
      · rw [if_neg q] at k
        cases k
  · rintro (h | h)
    · exact ⟨(c, d), h, List.mem_append_left _ (by simp)⟩
    · exact ⟨(d, c), h, List.mem_append_right _ (by simp)⟩
theorem nbrs_symm {E : Edges} {c d : Nat} (h : d ∈ nbrs E c) : c ∈ nbrs E d := mem_nbrs.mpr ((mem_nbrs.mp h).symm)
theorem nbrs_snoc (E : Edges) (x y c : Nat) : nbrs (E ++ [(x, y)]) c = nbrs E c ++ ((if x = c then [y] else []) ++ (if y = c then [x] else [])) := by
  unfold nbrs
  rw [List.flatMap_append]
  simp [nbE]
inductive Conn (E : Edges) : Nat → Nat → Prop
  | refl (a : Nat) : Conn E a a
  | step {a b c : Nat} : Conn E a b → c ∈ nbrs E b → Conn E a c
theorem Conn.trans {E : Edges} {a b c : Nat} (h : Conn E a b) (k : Conn E b c) : Conn E a c := by
  induction k with
  | refl => exact h
  | step _ m ih => exact .step ih m
theorem Conn.symm {E : Edges} {a b : Nat} (h : Conn E a b) : Conn E b a := by
  induction h with
  | refl => exact .refl _
  | step _ m ih => exact (Conn.step (.refl _) (nbrs_symm m)).trans ih
def OkE (E : Edges) : Prop := ∀ e ∈ E, isLet e.1 ∧ isLet e.2
theorem conn_let {E : Edges} (ok : OkE E) {a b : Nat} (h : Conn E a b) (ha : isLet a) : isLet b := by
  induction h with
  | refl => exact ha
  | step _ m _ =>
    rcases mem_nbrs.mp m with m | m
    · exact (ok _ m).2
    · exact (ok _ m).1
theorem es_ok {chs : List Chg} (h : ∀ ch ∈ chs, OkC ch) (i n : Nat) : OkE (es chs i n) := fun e he => by
  obtain ⟨ch, hc, rfl⟩ := List.mem_map.mp he
  have := h ch (List.mem_filter.mp hc).1
  exact ⟨this.1, this.2.1⟩
theorem least_of (p : Nat → Prop) : ∀ n, p n → ∃ m, p m ∧ ∀ d, p d → m ≤ d := by
  intro n
  induction n using Nat.strongRecOn with
  | _ n ih =>
    intro hn
    by_cases h : ∃ k, k < n ∧ p k
    · obtain ⟨k, hk, pk⟩ := h
      exact ih k hk pk
    · exact ⟨n, hn, fun d hd => Nat.le_of_not_lt fun q => h ⟨d, q, hd⟩⟩
noncomputable def lo (E : Edges) (c : Nat) : Nat := Classical.choose (least_of (Conn E c) c (.refl c))
theorem lo_conn (E : Edges) (c : Nat) : Conn E c (lo E c) := (Classical.choose_spec (least_of (Conn E c) c (.refl c))).1
theorem lo_le {E : Edges} {c d : Nat} (h : Conn E c d) : lo E c ≤ d := (Classical.choose_spec (least_of (Conn E c) c (.refl c))).2 d h
theorem lo_self (E : Edges) (c : Nat) : lo E c ≤ c := lo_le (.refl c)
theorem lo_eq {E : Edges} {c d : Nat} : lo E c = lo E d ↔ Conn E c d := by
  constructor
  · intro e
    have h1 := lo_conn E c
    have h2 := lo_conn E d
    rw [← e] at h2
    exact h1.trans h2.symm
  · intro h
    exact Nat.le_antisymm (lo_le (h.trans (lo_conn E d))) (lo_le (h.symm.trans (lo_conn E c)))
theorem lo_of {E : Edges} {c m : Nat} (h : Conn E c m) (k : ∀ d, Conn E c d → m ≤ d) : lo E c = m := Nat.le_antisymm (lo_le h) (k _ (lo_conn E c))
/-! ### words -/
abbrev codes (z : Str) : List Nat := z.cps.toList
def ofC (l : List Nat) : Str := ⟨l.toArray⟩
theorem codes_ofC (l : List Nat) : codes (ofC l) = l := rfl
noncomputable def mean (chs : List Chg) (z : Str) : Str := ofC ((codes z).mapIdx fun i c => lo (es chs i (codes z).length) c)
theorem mean_len (chs : List Chg) (z : Str) : (codes (mean chs z)).length = (codes z).length := by
  unfold mean
  rw [codes_ofC, List.length_mapIdx]
theorem mean_at (chs : List Chg) (z : Str) {i c : Nat} (h : (codes z)[i]? = some c) : (codes (mean chs z))[i]? = some (lo (es chs i (codes z).length) c) := by
  unfold mean
  rw [codes_ofC, List.getElem?_mapIdx, h]
  rfl
/-- they are one: as long, and at each place the letters hang together -/
def OneP (chs : List Chg) (z y : Str) : Prop := (codes z).length = (codes y).length ∧ ∀ i a b, (codes z)[i]? = some a → (codes y)[i]? = some b → Conn (es chs i (codes z).length) b a
theorem one_iff {chs : List Chg} {z y : Str} : OneP chs z y ↔ (codes z).length = (codes y).length ∧ mean chs z = mean chs y := by
  constructor
  · rintro ⟨hl, h⟩
    refine ⟨hl, str_ext ?_⟩
    refine List.ext_getElem? fun i => ?_
    by_cases hi : i < (codes z).length
    · have h1 : (codes z)[i]? = some (codes z)[i] := List.getElem?_eq_getElem hi
      have h2 : (codes y)[i]? = some ((codes y)[i]'(by omega)) := List.getElem?_eq_getElem (by omega)
      have e1 := mean_at chs z h1
      have e2 := mean_at chs y h2
      rw [e1, e2, hl]
      rw [hl] at h
      exact congrArg some (lo_eq.mpr (h i _ _ h1 h2).symm)
    · have q1 : (codes (mean chs z))[i]? = none := List.getElem?_eq_none (by rw [mean_len]; omega)
      have q2 : (codes (mean chs y))[i]? = none := List.getElem?_eq_none (by rw [mean_len]; omega)
      exact q1.trans q2.symm
  · rintro ⟨hl, e⟩
    refine ⟨hl, fun i a b ha hb => ?_⟩
    have e1 := mean_at chs z ha
    have e2 := mean_at chs y hb
    rw [e, e2, ← hl] at e1
    exact lo_eq.mp (Option.some.inj e1)
theorem mean_mean {chs : List Chg} (z : Str) : mean chs (mean chs z) = mean chs z := by
  refine str_ext (List.ext_getElem? fun i => ?_)
  have l1 := mean_len chs z
  have l2 := mean_len chs (mean chs z)
  by_cases hi : i < (codes z).length
  · have h1 : (codes z)[i]? = some (codes z)[i] := List.getElem?_eq_getElem hi
    have e1 := mean_at chs z h1
    have e2 := mean_at chs (mean chs z) e1
    rw [e2, e1, l1]
    exact congrArg some (lo_eq.mpr (lo_conn _ _).symm)
  · have q1 : (codes (mean chs (mean chs z)))[i]? = none := List.getElem?_eq_none (by rw [mean_len, mean_len]; omega)
    have q2 : (codes (mean chs z))[i]? = none := List.getElem?_eq_none (by rw [mean_len]; omega)
    exact q1.trans q2.symm
theorem one_mean (chs : List Chg) (z : Str) : OneP chs (mean chs z) z := one_iff.mpr ⟨mean_len chs z, mean_mean z⟩
theorem one_symm {chs : List Chg} {z y : Str} : OneP chs z y ↔ OneP chs y z := by
  rw [one_iff, one_iff]
  constructor <;> rintro ⟨a, b⟩ <;> exact ⟨a.symm, b.symm⟩
theorem lt_no : ∀ {l m : List Nat}, l.length = m.length → (∀ (i a b : Nat), l[i]? = some a → m[i]? = some b → a ≤ b) → ¬ m < l
  | [], [], _, _ => List.lt_irrefl _
  | a :: l, b :: m, hl, h => by
    have h0 : a ≤ b := h 0 a b rfl rfl
    have ih := lt_no (l := l) (m := m) (by simpa using hl) fun i x y hx hy => h (i + 1) x y (by simpa using hx) (by simpa using hy)
    intro q
    rcases List.cons_lt_cons_iff.mp q with q | ⟨e, q⟩
    · omega
    · exact ih q
  | [], b :: m, hl, _ => by simp at hl
  | a :: l, [], hl, _ => by simp at hl
theorem mean_le (chs : List Chg) (z : Str) : ¬ ltS z (mean chs z) := by
  refine lt_no (mean_len chs z) fun i a b ha hb => ?_
  rw [mean_at chs z hb] at ha
  cases ha
  exact lo_self _ _
theorem es_nil (i n : Nat) : es [] i n = [] := rfl
theorem conn_nil {a b : Nat} (h : Conn [] a b) : a = b := by
  induction h with
  | refl => rfl
  | step _ m _ => cases m
theorem one_plain {z y : Str} : OneP [] z y ↔ z = y := by
  constructor
  · rintro ⟨hl, h⟩
    refine str_ext (List.ext_getElem? fun i => ?_)
    by_cases hi : i < (codes z).length
    · have h1 : (codes z)[i]? = some (codes z)[i] := List.getElem?_eq_getElem hi
      have h2 : (codes y)[i]? = some ((codes y)[i]'(by omega)) := List.getElem?_eq_getElem (by omega)
      exact h1.trans ((congrArg some (conn_nil (h i _ _ h1 h2)).symm).trans h2.symm)
    · have q1 : (codes z)[i]? = none := List.getElem?_eq_none (by omega)
      have q2 : (codes y)[i]? = none := List.getElem?_eq_none (by omega)
      exact q1.trans q2.symm
  · rintro rfl
    refine ⟨rfl, fun i a b h1 h2 => ?_⟩
    rw [h1] at h2
    cases h2
    exact .refl _
theorem mean_plain (z : Str) : mean [] z = z := by
  refine str_ext (List.ext_getElem? fun i => ?_)
  have l1 := mean_len [] z
  by_cases hi : i < (codes z).length
  · have h1 : (codes z)[i]? = some (codes z)[i] := List.getElem?_eq_getElem hi
    exact (mean_at [] z h1).trans ((congrArg some (conn_nil (lo_conn _ _)).symm).trans h1.symm)
  · have q1 : (codes (mean [] z))[i]? = none := List.getElem?_eq_none (by rw [mean_len]; omega)
    have q2 : (codes z)[i]? = none := List.getElem?_eq_none (by omega)
    exact q1.trans q2.symm
theorem wd_codes {z : Str} : IsWd z ↔ (1 ≤ (codes z).length ∧ (codes z).length ≤ 8) ∧ ∀ c ∈ codes z, isLet c := by
  unfold IsWd wdB isLet Str.length codes
  rw [Array.length_toList]
  simp only [Bool.and_eq_true, decide_eq_true_eq, List.all_eq_true]
theorem mean_wd {chs : List Chg} (h : ∀ ch ∈ chs, OkC ch) {z : Str} (hz : IsWd z) : IsWd (mean chs z) := by
  obtain ⟨h1, h2⟩ := wd_codes.mp hz
  refine wd_codes.mpr ⟨by rw [mean_len]; exact h1, fun c hc => ?_⟩
  obtain ⟨i, hi, rfl⟩ := List.mem_iff_getElem.mp hc
  have hi2 : i < (codes z).length := by rw [mean_len] at hi; exact hi
  have e := mean_at chs z (List.getElem?_eq_getElem hi2)
  rw [List.getElem?_eq_getElem hi] at e
  rw [Option.some.inj e]
  exact conn_let (es_ok h _ _) (lo_conn _ _) (h2 _ (List.getElem_mem hi2))
/-! ### the walk over letters, by breadth -/
structure Bfs (E : Edges) (goal : Nat) (tw : List (Nat × Option Nat)) (at' : Nat) : Prop where
  nd : (tw.map (·.1)).Nodup
  lets : ∀ x ∈ tw.map (·.1), isLet x
  conn : ∀ x ∈ tw.map (·.1), Conn E goal x
  head : tw[0]? = some (goal, none)
  par : ∀ (i c d : Nat), tw[i]? = some (c, some d) → ∃ j o, j < i ∧ tw[j]? = some (d, o)
  non : ∀ (i c : Nat), tw[i]? = some (c, none) → i = 0
  closed : ∀ (j x : Nat) (o : Option Nat), j < at' → tw[j]? = some (x, o) → ∀ y ∈ nbrs E x, y ∈ tw.map (·.1)
theorem Bfs.start {E : Edges} {goal : Nat} (h : isLet goal) : Bfs E goal [(goal, none)] 0 := by
  refine ⟨by simp, ?_, ?_, rfl, ?_, ?_, fun j x o hj => by omega⟩
  · intro x hx
    simp at hx
    subst hx
    exact h
  · intro x hx
    simp at hx
    subst hx
    exact .refl _
  · intro i c d hi
    match i, hi with
    | 0, e => cases e
    | n + 1, e => simp at e
  · intro i c hi
    match i, hi with
    | 0, _ => rfl
    | n + 1, e => simp at e
theorem Bfs.len {E : Edges} {goal : Nat} {tw : List (Nat × Option Nat)} {a : Nat} (b : Bfs E goal tw a) : tw.length ≤ 26 := by
  have h := b.nd.length_le_of_subset (l₂ := List.range' 97 26) fun x hx => by
    have := b.lets x hx
    rw [List.mem_range'_1]
    unfold isLet at this
    omega
  simpa using h
theorem Bfs.push {E : Edges} {goal x y : Nat} {tw : List (Nat × Option Nat)} {a : Nat} {o : Option Nat} (b : Bfs E goal tw a) (hx : tw[a]? = some (x, o)) (hy : y ∈ nbrs E x) (hl : isLet y) (hn : y ∉ tw.map (·.1)) : Bfs E goal (tw ++ [(y, some x)]) a := by
  have ha : a < tw.length := (List.getElem?_eq_some_iff.mp hx).1
  have old : ∀ {i : Nat} {p : Nat × Option Nat}, tw[i]? = some p → (tw ++ [(y, some x)])[i]? = some p := fun {i p} h => by
    rw [List.getElem?_append_left (List.getElem?_eq_some_iff.mp h).1]
    exact h
  have back : ∀ {i : Nat} {p : Nat × Option Nat}, (tw ++ [(y, some x)])[i]? = some p → tw[i]? = some p ∨ (i = tw.length ∧ p = (y, some x)) := fun {i p} h => by
    by_cases q : i < tw.length
    · rw [List.getElem?_append_left q] at h
      exact .inl h
    · rw [List.getElem?_append_right (by omega)] at h
      have : i - tw.length = 0 := by
        have := (List.getElem?_eq_some_iff.mp h).1
        simp at this
        omega
      rw [this] at h
      simp at h
      exact .inr ⟨by omega, h.symm⟩
  refine ⟨?_, ?_, ?_, old b.head, ?_, ?_, ?_⟩
  · rw [List.map_append, List.nodup_append]
    refine ⟨b.nd, by simp, fun u hu v hv e => ?_⟩
    simp at hv
    subst hv e
    exact hn hu
  · intro u hu
    rw [List.map_append] at hu
    rcases List.mem_append.mp hu with hu | hu
    · exact b.lets u hu
    · simp at hu
      subst hu
      exact hl
  · intro u hu
    rw [List.map_append] at hu
    rcases List.mem_append.mp hu with hu | hu
    · exact b.conn u hu
    · simp at hu
      subst hu
      exact .step (b.conn x (List.mem_map.mpr ⟨_, List.mem_of_getElem? hx, rfl⟩)) hy
  · intro i c d hi
    rcases back hi with h | ⟨e, h⟩
    · obtain ⟨j, o', hj, h'⟩ := b.par i c d h
      exact ⟨j, o', hj, old h'⟩
    · cases h
      exact ⟨a, o, by omega, old hx⟩
  · intro i c hi
    rcases back hi with h | ⟨e, h⟩
    · exact b.non i c h
    · cases h
  · intro j u o' hj h v hv
    rcases back h with h | ⟨e, h⟩
    · rw [List.map_append]
      exact List.mem_append_left _ (b.closed j u o' hj h v hv)
    · omega
theorem Bfs.next {E : Edges} {goal x : Nat} {tw : List (Nat × Option Nat)} {a : Nat} {o : Option Nat} (b : Bfs E goal tw a) (hx : tw[a]? = some (x, o)) (h : ∀ y ∈ nbrs E x, y ∈ tw.map (·.1)) : Bfs E goal tw (a + 1) := by
  refine ⟨b.nd, b.lets, b.conn, b.head, b.par, b.non, fun j u o' hj hu => ?_⟩
  by_cases q : j < a
  · exact b.closed j u o' q hu
  · have : j = a := by omega
    subst this
    rw [hx] at hu
    cases hu
    exact h
theorem Bfs.done {E : Edges} {goal : Nat} {tw : List (Nat × Option Nat)} {a : Nat} (b : Bfs E goal tw a) (ha : tw.length ≤ a) {c : Nat} : c ∈ tw.map (·.1) ↔ Conn E goal c := by
  refine ⟨b.conn c, fun h => ?_⟩
  induction h with
  | refl => exact List.mem_map.mpr ⟨_, List.mem_of_getElem? b.head, rfl⟩
  | step _ m ih =>
    obtain ⟨⟨u, o⟩, hu, rfl⟩ := List.mem_map.mp ih
    obtain ⟨j, hj, e⟩ := List.mem_iff_getElem.mp hu
    exact b.closed j u o (by omega) (by rw [List.getElem?_eq_getElem hj, e]) _ m
end Wl

namespace Wl
open PySem PySem.Spec PyProof.Rows L2
/-! enumerate(a text) -/
def IteS (z : Str) : It where
  go := fun i _ => i < z.cps.size
  yld := fun i H v H' => ∃ T c, v = .ref T ∧ H T = none ∧ z.cps[i]? = some c ∧ H' = upd H T (.tup [.int (i : Nat), .str (sign c)])
  stop := fun i _ => z.cps.size ≤ i
theorem turn_enumS {P : Program} {w : World} {K : PySem.W.Frag} {elts : List Expr} {kk : Nat} {tpos : Pos} (z : Str) (t : Tok) (e it : Addr) :
    Turn P w K (.Tuple elts kk tpos) (IteS z) [e, it] e (fun i h => (∃ old, IsEnum h e it ((i : Nat) : Int) old) ∧ h.IsStrIter it (strIterType z) z t i ∧ e ≠ it) where
  mem := by simp
  obj := fun i h st b hb => by
    obtain ⟨⟨old, he⟩, ⟨o, ho, hc, hd⟩, _⟩ := st
    rcases (show b = e ∨ b = it by simpa using hb) with q | q
    · subst q; exact ⟨_, he, fun v q => nomatch q⟩
    · subst q; exact ⟨o, ho, fun v q => by rw [hd] at q; cases q⟩
  keep := fun i h h' st k => let ⟨⟨old, he⟩, ⟨o, ho, r⟩, hne⟩ := st; ⟨⟨old, k e (by simp) _ he⟩, ⟨o, k it (by simp) o ho, r⟩, hne⟩
  item := by
    intro X hP hw hK hc i pins s σ H E I hf st hg
    subst hP hw hK
    obtain ⟨⟨old, he⟩, hit, hne⟩ := st
    have hi : i < z.cps.size := hg
    obtain ⟨oi, hoi, _⟩ := id hit
    have hel : e < s.heap.objs.size := Heap.lt_size he
    have hil : it < s.heap.objs.size := Heap.lt_size hoi
    refine wpAny_pyNext_enum_itemD (Draws.text (prog := X.prog) (w := X.w) (A := X.A.in1) (I.ok.hd hc) it z t) he hit hi hne (by simp [hne]) fun y h' tk hy ho hst hTp hsz hk => ?_
    obtain ⟨c, tu, hcz, rfl⟩ := hy
    refine ⟨_, rfl, wpAny_letOwnedTupleGo_enum (s := { s with heap := h', toks := tk + 1 }) ho fun h'' he' sb => ?_⟩
    have hT2 : h''.get? s.heap.objs.size = some { cls := .type "tuple", data := .seq #[.int i tk, .str ⟨#[c]⟩ tu] } := (sb.2 _ (Nat.ne_of_gt hel)).trans hTp
    have new : ObjOk X.prog X.w (upd H s.heap.objs.size (.tup [.int (i : Nat), .str (sign c)])) h'' s.heap.objs.size (.tup [.int (i : Nat), .str (sign c)]) :=
      ⟨by show 2 ≤ sizeLine; decide, [.int i tk, .str ⟨#[c]⟩ tu], .cons ⟨_, rfl⟩ (.cons ⟨_, rfl⟩ .nil), ⟨_, hT2, rfl, _, rfl⟩⟩
    have I1 : L2.Inv X pins σ (upd H s.heap.objs.size (.tup [.int (i : Nat), .str (sign c)])) { s with heap := h'', toks := tk + 1 } :=
      I.turnedNew (ch := [e, it]) (fun b ob hb q => by
        simp only [List.mem_cons, List.not_mem_nil, or_false, not_or] at hb
        exact (sb.2 b hb.1).trans (hk b ob hb.1 hb.2 q)) hf (Nat.le_refl _) new
    have e1 : ((i + 1 : Nat) : Int) = (i : Int) + 1 := by omega
    obtain ⟨o2, ho2, r2⟩ := hst
    refine ⟨.ref s.heap.objs.size, _, I1, rfl, ⟨_, c, rfl, I.hok.fresh (Nat.le_refl _), hcz, rfl⟩, ⟨⟨.str ⟨#[c]⟩ tu, by rw [e1]; exact he'⟩, ⟨o2, (sb.2 it (Ne.symm hne)).trans ho2, r2⟩, hne⟩, fun b hb => ?_⟩
    have hb' : b < s.heap.objs.size := by
      rcases (show b = e ∨ b = it by simpa using hb) with q | q <;> subst q <;> assumption
    rw [upd_ne (Nat.ne_of_lt hb')]
    exact (hf b hb).1
  done := by
    intro X hP hw hK hc i pins s σ H E I hf st hg
    subst hP hw hK
    obtain ⟨⟨old, he⟩, hit, hne⟩ := st
    have hi : z.cps.size ≤ i := hg
    obtain ⟨f0, f1, f2, f3, f4, f5⟩ := hf it (by simp)
    have hTy : s.TypeIs (.ref e) "enumerate" := ⟨_, he, rfl⟩
    show wpAny _ _ (pyNext (.ref e)) _ _ s
    unfold pyNext
    refine wpAny_bind (wpAny_attempt (wpAny_callSpecial?_slot (name := Str.ofString "__next__") hTy F.slot_enumerate_next (wpAny_call_entry F.slot_enumerate_next hTy F.entry_enumerate_next ?_ (F.args_enumerate_next_1 _))))
    show wpAny _ _ (field (.ref e) 2 >>= _) _ _ _
    refine wpAny_bind (wpAny_field he rfl (x := .ref it) rfl (wpAny_bind ?_))
    have hx : z.cps[i]? = none := Array.getElem?_eq_none hi
    cases ha : z.cps.all (· < 128)
    · simp only [strIterType, ha, Bool.false_eq_true, if_false] at hit
      refine wpAny_nextOf_wide_end (I.ok.hd hc) hit hx fun h' x he' hx' => ?_
      obtain ⟨o, ho, hcc⟩ := hx'
      exact wpAny_bind (wpAny_isInstance (T := "StopIteration") (b := true) ⟨o, ho, hcc⟩ isSubtype_stop (wpAny_pure ⟨rfl, I.turned (t' := s.toks) (fun b o hb q => he' b o hb q) f0 f1 f3 f4 f5⟩))
    · simp only [strIterType, ha, if_true] at hit
      refine wpAny_nextOf_ascii_end (I.ok.hd hc) hit hx fun h' x he' hx' => ?_
      obtain ⟨o, ho, hcc⟩ := hx'
      exact wpAny_bind (wpAny_isInstance (T := "StopIteration") (b := true) ⟨o, ho, hcc⟩ isSubtype_stop (wpAny_pure ⟨rfl, I.turned (t' := s.toks) (fun b o hb q => he' b o hb q) f0 f1 f3 f4 f5⟩))
  self := fun A i s Q E st h => let ⟨⟨_, he⟩, _⟩ := st; wpAny_pyIter_enum he h
def iEnumS (ta : TA) : TI := fun σ H R => ta σ H fun vs H1 => ∃ z, vs = [.str z] ∧ R (IteS z) H1
theorem pi_enumS {X : Cx} {e : Expr} {ta : TA} {p pos tpos : Pos} {elts : List Expr} {kk : Nat} (hg : Gl X "enumerate") (hm : X.mg "enumerate" = none) (ha : PA X [e] ta) (hs : starEach [e] X.env = [(false, eval e X.env)] := by rfl) :
    PI X (.Tuple elts kk tpos) (.Call (.Name "enumerate" p) [e] [] pos) (iEnumS ta) := by
  refine ⟨fun pins s σ H R I h => ?_⟩
  refine Call_ (ld_blt I hg hm boot_enumerate (PyProof.Rows.callWith_type1 (thn (ha.run pos pins s σ H _ I h) fun us s1 ⟨vs, H1, I1, r1, q1⟩ => ?_) hs rfl))
  obtain ⟨z, rfl, q⟩ := q1
  obtain ⟨u, rfl, ru⟩ := vals1 r1
  obtain ⟨t, rfl⟩ := ru
  refine call_enumerate_str fun h' he hit hsz hk => wpAny_pyIter_enum he ?_
  refine ⟨s1.heap.objs.size + 1, [s1.heap.objs.size + 1, s1.heap.objs.size], _, _, H1, rfl, I1.kept (t' := s1.toks) hk, turn_enumS z t (s1.heap.objs.size + 1) s1.heap.objs.size, ⟨⟨.none, he⟩, hit, Nat.succ_ne_self _⟩, fun b hb => ?_, q⟩
  have hle : s1.heap.objs.size ≤ b := by
    rcases (show b = s1.heap.objs.size + 1 ∨ b = s1.heap.objs.size by simpa using hb) with q | q <;> rw [q]
    · exact Nat.le_add_right _ _
    · exact Nat.le_refl _
  exact I1.fpOk hle (I1.hok.fresh hle)
theorem walk_enumS {z : Str} : L2.Walk (IteS z) (codes z).length (fun _ => True) (fun i H v H' => ∃ T c, v = .ref T ∧ H T = none ∧ (codes z)[i]? = some c ∧ H' = upd H T (.tup [.int (i : Nat), .str (sign c)])) := by
  have e : (codes z).length = z.cps.size := by simp [codes]
  rw [e]
  refine ⟨fun _ _ hi _ => hi, fun _ _ => Nat.le_refl _, ?_⟩
  rintro i H v H' _ _ ⟨T, c, h1, h2, h3, h4⟩
  exact ⟨T, c, h1, h2, by simpa [codes] using h3, h4⟩
/-! f(k = v, ..) with no place -/
theorem pe_callN0 {X : Cx} {CX : CXT} {k : Nat} {f : Addr} {fd : FuncData} {ps ks : List Str} {sp : Sp} {E : XK} {x : Str} {p pos : Pos} {kws : List Keyword} {tk : TA} {g : List Value → List Value → List Value} {gV : List V → List V → List V}
    (F : FnOk X.prog X.w X.K X.mg X.base CX k f fd ps sp) (hr : Room k X.A) (hg : Gl X x) (hm : X.mg x = some (.ref f)) (hk : PySem.W.keepIn X.K (.ref f) = true) (hb : KBn X.K fd ps 0 ks g gV) (hx : Passes CX X E) (hkw : PK X kws tk)
    (hall : (backToKw pos (keywordEach kws X.env)).all (·.1.isSome) = true := by rfl) (hks : (backToKw pos (keywordEach kws X.env)).filterMap (·.1) = ks := by rfl) (hdb : (x == ("__debug__" : Str)) = false := by decide)
    (hpl : ((backTo pos (starEach [] X.env)).any (·.1) || (backToKw pos (keywordEach kws X.env)).any (·.1.isNone)) = false := by rfl) :
    PE X (.Call (.Name x p) [] kws pos) (L2.tCallN 0 ks.length sp gV E tNil tk) := by
  refine ⟨fun pins s σ H Q I h => ?_⟩
  refine wpAny_Call_Name_kw (ld_glob I hg hm ?_ hdb)
  refine PySem.W.callWith_KW0 (h₀ := X.base) I.ok.mod.kin hk hall ?_ hpl
  refine thn (hkw.run pos pins s σ H _ I h) fun ws s2 ⟨zs, H2, I2, rz, l1, l2, q2⟩ => ⟨I2.kIn, ?_⟩
  rw [hks]
  exact run_fnN (us := []) (vs := []) F hr hb hx I2 .nil rz rfl l2 q2
/-! min of a list of signs -/
def sgV (c : Nat) : V := .str (sign c)
def rMinL (K : PySem.W.Frag) : List V → Hp → VK → Prop := fun vs H Q => ∃ (a : Addr) (cs : List Nat), vs = [V.ref a] ∧ SqL K H a (cs.map sgV) ∧ cs ≠ [] ∧ cs.length ≤ 1000 ∧ ∀ m ∈ cs, (∀ c ∈ cs, m ≤ c) → Q (sgV m) H
theorem dp_signs {K : PySem.W.Frag} {H : Hp} : ∀ cs : List Nat, DpAll K H (cs.map sgV) (cs.map fun c => PyData.str (sign c))
  | [] => .nil
  | c :: r => .cons (.str _) (dp_signs r)
theorem sign_lt (a b : Nat) : ((sign a).cps.toList < (sign b).cps.toList) ↔ a < b := by
  show ([a] < [b]) ↔ _
  constructor
  · intro h
    rcases List.cons_lt_cons_iff.mp h with h | ⟨_, h⟩
    · exact h
    · exact absurd h (List.lt_irrefl _)
  · intro h
    exact List.cons_lt_cons_iff.mpr (.inl h)
theorem minD_signs : ∀ (c : Nat) (cs : List Nat), ∃ m, m ∈ c :: cs ∧ (∀ d ∈ c :: cs, m ≤ d) ∧ PySem.W.minD (.str (sign c)) (cs.map fun c => PyData.str (sign c)) = .str (sign m)
  | c, [] => ⟨c, List.mem_cons_self, fun d hd => by simp at hd; omega, rfl⟩
  | c, d :: r => by
    by_cases h : d < c
    · obtain ⟨m, h1, h2, h3⟩ := minD_signs d r
      refine ⟨m, List.mem_cons_of_mem _ h1, fun x hx => ?_, ?_⟩
      · rcases List.mem_cons.mp hx with rfl | hx
        · have := h2 d List.mem_cons_self
          omega
        · exact h2 x hx
      · rw [← h3]
        unfold PySem.W.minD
        rw [List.map_cons, List.foldl_cons, PySem.W.dataLt_str, decide_eq_true ((sign_lt d c).mpr h)]
        rfl
    · obtain ⟨m, h1, h2, h3⟩ := minD_signs c r
      refine ⟨m, ?_, fun x hx => ?_, ?_⟩
      · rcases List.mem_cons.mp h1 with rfl | h1
        · exact List.mem_cons_self
        · exact List.mem_cons_of_mem _ (List.mem_cons_of_mem _ h1)
      · rcases List.mem_cons.mp hx with rfl | hx
        · exact h2 x List.mem_cons_self
        · rcases List.mem_cons.mp hx with rfl | hx
          · have := h2 c List.mem_cons_self
            omega
          · exact h2 x (List.mem_cons_of_mem _ hx)
      · rw [← h3]
        unfold PySem.W.minD
        rw [List.map_cons, List.foldl_cons, PySem.W.dataLt_str, decide_eq_false (fun q => h ((sign_lt d c).mp q))]
        rfl
theorem cr_minL {X : Cx} (hc : X.calm = true) (hu : X.A.units + 64 < cLine) : CallR X (.builtin "min") (rMinL X.K) := by
  intro pins s σ H vs us Q I r h
  obtain ⟨a, cs, rfl, hs, hne, hlen, q⟩ := h
  obtain ⟨its, rv, hl, hn⟩ := I.list hs
  obtain ⟨u, rfl, ru⟩ := vals1 r
  obtain rfl : u = Value.ref a := ru
  obtain ⟨as, hr⟩ := Dp.readsAll I _ _ its (dp_signs cs) rv
  cases cs with
  | nil => exact absurd rfl hne
  | cons c cs =>
    have al : PySem.W.AlikeAll (((c :: cs)).map fun c => PyData.str (sign c)) := by
      refine ⟨fun x hx y hy => ?_, fun x hx => ?_⟩
      · obtain ⟨i, _, rfl⟩ := List.mem_map.mp hx
        obtain ⟨j, _, rfl⟩ := List.mem_map.mp hy
        rfl
      · obtain ⟨i, _, rfl⟩ := List.mem_map.mp hx
        exact fun q => by cases q
    have dp : ∀ l : List Nat, PyData.depthAll (l.map fun c => PyData.str (sign c)) = 0 := fun l => by
      induction l with
      | nil => rfl
      | cons x r ih => simp [PyData.depthAll, PyData.depth, ih]
    refine PySem.W.min_list_data (x := .str (sign c)) (xs := cs.map fun c => PyData.str (sign c)) (I.ok.hd hc) hl.isList (by simpa using hr) al (by
      have := dp (c :: cs)
      rw [List.map_cons] at this
      omega) fun i v h' tk bs hv hR hk => ?_
    obtain ⟨m, h1, h2, h3⟩ := minD_signs c cs
    rw [h3] at hR
    cases hR with
    | str z t => exact ⟨.str _, H, I.kept (t' := tk) hk, ⟨_, rfl⟩, q m h1 h2⟩
/-! 'a' * 8 -/
def rMulA : R2 := fun x y H Q => x = .str "a" ∧ y = .int 8 ∧ Q (.str "aaaaaaaa") H
theorem op_mulA {X : Cx} : OpR X (binaryOp .Mult) rMulA := by
  intro pins s σ H x y v u Q I rx ry h
  obtain ⟨rfl, rfl, q⟩ := h
  obtain ⟨t, rfl⟩ := rx
  obtain ⟨t', rfl⟩ := ry
  refine P.mul_str (by decide) (fun _ _ => by decide +kernel) (fun _ _ => by decide +kernel) ?_
  have e1 : ((8 : Int) == 1 || ("a" : Str).length == 0) = false := by decide +kernel
  rw [if_neg (by decide), e1]
  have e2 : (⟨(List.replicate (8 : Int).toNat ("a" : Str).cps).foldl (· ++ ·) #[]⟩ : Str) = "aaaaaaaa" := by decide +kernel
  show Made.post (Made.str (⟨(List.replicate (8 : Int).toNat ("a" : Str).cps).foldl (· ++ ·) #[]⟩ : Str)) _ _
  rw [e2]
  exact ⟨by decide +kernel, .str _, H, I.tok _, ⟨_, rfl⟩, q⟩
end Wl

/-! sorted of a list of texts, as a reading; the least of sorted letters stands first. -/
namespace Wl
open PySem PySem.Spec PyProof.Rows L2
def dz (z : Str) : V × PyData := (.str z, .str z)
theorem srt_strs (xs : List Str) : ((xs.map dz).mergeSort (PySem.W.dataLe false (·.2))).map (·.1) = (sortS xs).map V.str := by
  have h : (sortS xs).map dz = (xs.map dz).mergeSort (PySem.W.dataLe false (·.2)) := List.map_mergeSort fun a _ b _ => by
    rw [PySem.W.dataLe_eq]
    exact (le_data_str a b).symm
  rw [← h, List.map_map]
  rfl
theorem srt_reads {K : PySem.W.Frag} {H : Hp} {Q : VK} {a : Addr} {xs : List Str} (h : SqL K H a (xs.map V.str)) (q : ∀ p, H p = none → Q (.ref p) (upd H p (.lst ((sortS xs).map V.str)))) : rSortD K [.ref a] H Q := by
  refine ⟨a, xs.map dz, rfl, ?_, ?_, ?_, ?_, ?_, fun p hp => ?_⟩
  · rw [List.map_map]
    exact h
  · intro b hb
    obtain ⟨x, _, rfl⟩ := List.mem_map.mp hb
    exact .str x
  · intro d hd e he
    obtain ⟨b, hb, rfl⟩ := List.mem_map.mp hd
    obtain ⟨x, _, rfl⟩ := List.mem_map.mp hb
    obtain ⟨c, hc, rfl⟩ := List.mem_map.mp he
    obtain ⟨y, _, rfl⟩ := List.mem_map.mp hc
    rfl
  · refine .inr fun d hd => ?_
    obtain ⟨b, hb, rfl⟩ := List.mem_map.mp hd
    obtain ⟨x, _, rfl⟩ := List.mem_map.mp hb
    exact ⟨(fun e => by cases e), (fun ys e => by cases e)⟩
  · intro b hb
    obtain ⟨x, _, rfl⟩ := List.mem_map.mp hb
    show PyData.depth (.str x) ≤ 8
    simp [PyData.depth]
  · rw [srt_strs]
    exact q p hp
theorem ltS_sign {c d : Nat} : ltS (sign c) (sign d) ↔ c < d := by
  show [c] < [d] ↔ c < d
  constructor
  · intro h
    cases h with
    | rel h => exact h
    | cons h => cases h
  · exact fun h => .rel h
theorem sg_inj1 {c d : Nat} (h : sign c = sign d) : c = d := by
  have e := congrArg (fun z : Str => z.cps.toList) h
  simpa [sign] using e
theorem head_sortS {cs : List Nat} {m : Nat} (hm : m ∈ cs) (hmin : ∀ d ∈ cs, m ≤ d) : (sortS (cs.map sign))[0]? = some (sign m) := by
  have h1 : (sortS (cs.map sign)).Pairwise (fun a b => leB a b = true) := List.pairwise_mergeSort leB_trans leB_total _
  have h2 : sign m ∈ sortS (cs.map sign) := mem_sortS.mpr (List.mem_map.mpr ⟨m, hm, rfl⟩)
  have h3 : ∀ x ∈ sortS (cs.map sign), ∃ c ∈ cs, sign c = x := fun x hx => List.mem_map.mp (mem_sortS.mp hx)
  cases e : sortS (cs.map sign) with
  | nil =>
    rw [e] at h2
    cases h2
  | cons x r =>
    rw [e] at h1 h2 h3
    obtain ⟨c, hc, rfl⟩ := h3 x List.mem_cons_self
    have e2 : c = m := by
      rcases List.mem_cons.mp h2 with h | h
      · exact (sg_inj1 h).symm
      · have q := (List.pairwise_cons.mp h1).1 _ h
        unfold leB at q
        rw [Bool.not_eq_true', decide_eq_false_iff_not, ltS_sign] at q
        have := hmin c hc
        omega
    rw [e2]
    rfl
end Wl

namespace Wl
open PySem PySem.Spec PyProof.Rows L2
end Wl
namespace Wl
open PySem PySem.Spec PyProof.Rows L2
end Wl
namespace Wl
open PySem PySem.Spec PyProof.Rows L2
end Wl
namespace Wl
open PySem PySem.Spec PyProof.Rows L2
abbrev wIsWord : Stmt := topS 21
/-! y = {k: v for x in ..} -/
/-- whether a thing of any kind is a word -/
def Wv (K : PySem.W.Frag) (H : Hp) (v : V) (b : Bool) : Prop := (∃ z, v = .str z ∧ z.length ≤ 1000 ∧ b = wdB z) ∨ (∃ t, TyX K H v t ∧ PySem.W.kitOne K t (.type "str") = some false ∧ b = false)
section
variable {P : Program} {w : World} {K : PySem.W.Frag} {mg : Str → Option Value} {base : Heap} {f : Addr} {fd : FuncData}
def spIsW (K : PySem.W.Frag) : Sp := fun vs H Q _ => ∃ (v : V) (b : Bool), vs = [v] ∧ Wv K H v b ∧ ∀ (H' : Hp), Same H H' → Q (.bl b) H'
theorem scIsW : FnScope nIsWord ["thing"] (defScope wIsWord) := ⟨rfl, rfl, rfl, by decide +kernel, rfl, by decide +kernel, by decide +kernel⟩
theorem ok_isw (F : Fun K "is_word" "is_word" wIsWord f fd) (B : Bi mg) (G : Gk mg) : FnOk P w K mg base CX0 1 f fd ["thing"] (spIsW K) := by
  obtain ⟨t1, g1⟩ := G.letters
  obtain ⟨t2, g2⟩ := G.longest
  refine F.ok scIsW (fun vs H Q E h => ?_) (fun cdv A outer s H vs Q E hr h => ?_)
  · obtain ⟨v, b, rfl, _⟩ := h
    rfl
  · obtain ⟨v, b, rfl, hw, q⟩ := h
    refine ⟨_, pss_cons (ps_if (PW.pt (pw_or (pt_not (pt_val (pe_callB call_isi (by rfl) B.isi (by decide +kernel) (pa_cons (pv 0) (pa_cons (pe_bltn (v := .ty "str") (by rfl) B.str (by decide +kernel) rfl) pa_nil)))))
        (pw_or1 (pt_not (pt_chain op_le op_le pe_int (pe_callB call_len_str (by rfl) B.len PySem.boot_len (pa_cons (pv 0) pa_nil)) (pe_glob (v := .int 8) rfl g2 ⟨_, rfl⟩)))))) (pss_one (ps_ret pe_bl)) pss_nil)
      (pss_one (ps_ret (pe_callB (cr_all rfl) (by rfl) B.all (by decide +kernel) (pa_cons (pe_lc (own := [("letter", 1)]) (g := gName 1) (tt := tYes) rfl scIsW.nd (pi_str (pv 0)) (blkOk_by (N := nIsWord) (sc := defScope wIsWord) (by decide +kernel))
        (fun _ _ _ _ _ => pg_name (i := 1) scIsW.nd rfl (.inl rfl)) (fun _ _ _ _ _ => pts_nil) (fun _ _ _ _ _ => pe_cmpR op_in_sign (pv 1) (pe_glob (v := .str "abcdefghijklmnopqrstuvwxyz") rfl g1 ⟨_, rfl⟩) rfl)) pa_nil)))), ?_⟩
    rcases hw with ⟨z, rfl, hz, rfl⟩ | ⟨t, ty, hk, rfl⟩
    · refine ⟨_, rfl, _, _, _, _, _, rfl, .ty "str", .base (.str z), kit_ty (r := true) (by decide +kernel), true, rfl, ?_⟩
      refine iteF ⟨_, rfl, _, rfl, lzl hz, _, _, rfl, rfl, _, rfl, ite_b (fun e1 => ?_) (fun e1 => ?_)⟩
      · refine ⟨_, _, rfl, rfl, _, rfl, not_b (fun e2 => ?_) (fun e2 => ?_)⟩
        · have e2' : ¬ ((z.length : Int) ≤ 8) := of_decide_eq_false e2
          have : wdB z = false := by
            unfold wdB
            rw [decide_eq_false (show ¬ z.length ≤ 8 by omega)]
            simp
          rw [← this]
          exact q H (Same.refl H)
        · have h1 : 1 ≤ z.length := by
            have := of_decide_eq_true e1
            omega
          have h8 : z.length ≤ 8 := by
            have := of_decide_eq_true e2
            omega
          refine ⟨_, rfl, _, rfl, fun D hD => lc_map walk_signs hD (fun _ => true) letV (fun _ _ => trivial) (fun _ => rfl) (fun x H' _ _ Q' q' => q') ?_ ?_ ?_⟩
          · intro x H' hx _ _ Q' q'
            obtain ⟨c, hc, rfl⟩ := List.mem_map.mp hx
            refine ⟨_, rfl, c, _, rfl, rfl, ?_⟩
            rw [letB_mem]
            have : letV (.str (sign c)) = .bl (letB c) := by
              show V.bl ([c].all letB) = _
              simp
            rw [this] at q'
            exact q'
          · unfold signsOf
            rw [List.length_map, Array.length_toList]
            exact small1000 (by have : z.length = z.cps.size := rfl; omega)
          · intro H' s' hD'
            have e0 : ((signsOf z).filter fun _ => true).map letV = (z.cps.toList.map letB).map V.bl := by
              rw [List.filter_eq_self.mpr fun _ _ => rfl]
              unfold signsOf
              rw [List.map_map, List.map_map]
              refine List.map_congr_left fun c _ => ?_
              show V.bl ([c].all letB) = _
              simp
            refine ⟨D, z.cps.toList.map letB, rfl, .inl (.inl (by rw [hD', e0])), ?_⟩
            have : (z.cps.toList.map letB).all id = wdB z := by
              unfold wdB
              rw [decide_eq_true h1, decide_eq_true h8, List.all_map]
              rfl
            rw [this]
            exact q H' s'
      · refine ⟨false, rfl, iteT ?_⟩
        have : wdB z = false := by
          have e1' : ¬ ((1 : Int) ≤ z.length) := of_decide_eq_false e1
          unfold wdB
          rw [decide_eq_false (show ¬ 1 ≤ z.length by omega)]
          simp
        rw [← this]
        exact q H (Same.refl H)
    · exact ⟨_, rfl, _, _, _, _, _, rfl, .ty "str", ty, hk, false, rfl, iteT (q H (Same.refl H))⟩
/-! ### check_word, is_letter -/
/-! ### changes -/
/-! ### is_tuple_up_to -/
/-! ### reaches -/
end
end Wl







/-! An exception that was caught, as a tracked object: isinstance of it, its fields. -/
namespace Wl
open PySem PySem.Spec PyProof.Rows L2
/-- at a: a caught exception, its class, its own dict; its context is None -/
def exH (a : Addr) (cls : Value) (d : Option Addr) : HO := .ext fun h => ∃ (vs : Array Value) (sl : Array (Option Value)), h.get? a = some ⟨cls, d, .fields vs, sl⟩ ∧ vs[2]? = some .none
section
variable {P : Program} {w : World} {H : Hp} {h : Heap} {a : Addr} {cls : Value} {d : Option Addr}
theorem exH_ok {oe : Obj} {vs : Array Value} (he : h.get? a = some oe) (hz : L2N.Zn cls d oe) (hd : oe.data = .fields vs) : ObjOk P w H h a (exH a cls d) := by
  obtain ⟨c0, d0, dt, sl⟩ := oe
  obtain ⟨e1, e2, e3⟩ := hz
  obtain rfl : c0 = cls := e1
  obtain rfl : d0 = d := e2
  obtain rfl : dt = .fields vs := hd
  refine ⟨⟨vs, sl, he, e3 vs rfl⟩, ⟨_, he⟩, fun h1 h2 z k => ?_⟩
  obtain ⟨vs', sl', q, c⟩ := z
  exact ⟨vs', sl', k _ q, c⟩
theorem exH_at (hok : HOk P w H h) (e : H a = some (exH a cls d)) : ∃ (vs : Array Value) (sl : Array (Option Value)), h.get? a = some ⟨cls, d, .fields vs, sl⟩ ∧ vs[2]? = some .none := by
  have x : ObjOk P w H h a (exH a cls d) := hok a _ e
  exact x.1
theorem exH_hot {A : Around} (hok : HOk P w H h) (e : H a = some (exH a cls d)) (hh : A.handled = some (.ref a)) : HotX.HotAt A a h := by
  obtain ⟨vs, sl, q, c⟩ := exH_at hok e
  exact ⟨hh, _, vs, q, rfl, c⟩
theorem exH_tup {xs : List V} : exH a cls d ≠ .tup xs := fun z => by
  have z' : HO.ext _ = HO.tup xs := z
  cases z'
theorem exH_ne {o : HO} (hn : ∀ φ, o ≠ .ext φ) : exH a cls d ≠ o := fun z => hn _ z.symm
end
/-- what isinstance asks of an exception's class, and of its own dict -/
structure ExK (K : PySem.W.Frag) (C : Addr) : Prop where
  cl : (PySem.W.clsIn K C).isSome = true
  ga : PySem.W.findIn K (.ref C) "__getattribute__" = some (some (.builtin "BaseException.__getattribute__"))
  gg : PySem.W.findIn K (.ref C) "__getattr__" = some none
  sub : PySem.W.subIn K (.ref C) (.type "BaseException") = some true
  ca : PySem.W.findIn K (.ref C) "__class__" = some (some (.builtin "object.__class__"))
  gn : PySem.W.specialIn K (.builtin "object.__class__") "__get__" = some (some (.builtin "getset_descriptor.__get__"))
  tk : PySem.W.takesIn K (.builtin "object.__class__") = some true
  mo : PySem.W.mroIn K C (.type "object") = some true
/-- its own dict, if it has one, is tracked -/
def DxOk (H : Hp) (d : Option Addr) : Prop := ∀ dd, d = some dd → ∃ fs, H dd = some (.xd fs)
section
variable {X : Cx}
theorem inst_of {pins : List (Addr × Obj)} {σ : L2.St} {H : Hp} {s : Shared} {a C : Addr} {d : Option Addr} (I : Inv X pins σ H s) (e : H a = some (exH a (.ref C) d)) (hd : DxOk H d) : ∃ ox od, PySem.W.InstAt s.heap a ox C od := by
  obtain ⟨vs, sl, q, _⟩ := exH_at I.hok e
  cases d with
  | none => exact ⟨_, none, q, rfl, rfl, trivial⟩
  | some dd =>
    obtain ⟨fs, hf⟩ := hd dd rfl
    have hx : ObjOk X.prog X.w H s.heap dd (.xd fs) := I.hok dd _ hf
    obtain ⟨mA, hns, _⟩ := hx
    obtain ⟨od, ho, _⟩ := lookIn_ns hns
    exact ⟨_, some od, q, rfl, rfl, ho⟩
theorem kit_exc {C a : Addr} {ox : Obj} {od : Option Obj} {K : PySem.W.Frag} (E : ExK K C) : PySem.W.KitX K (.ref a) (.ref C) (fun h => PySem.W.InstAt h a ox C od) :=
  PySem.W.kitx_exc E.cl E.ga E.gg E.sub E.ca E.gn E.tk E.mo
/-- isinstance(e, c) -/
def rIsX (K : PySem.W.Frag) : List V → Hp → VK → Prop := fun xs H Q => ∃ (a C : Addr) (d : Option Addr) (c : V) (cv : Value) (b : Bool), xs = [.ref a, c] ∧ H a = some (exH a (.ref C) d) ∧ DxOk H d ∧ ExK K C ∧ ClsV c cv ∧ PySem.W.kitOne K (.ref C) cv = some b ∧ Q (.bl b) H
theorem call_isX : CallR X (.builtin "isinstance") (rIsX X.K) := by
  intro pins s σ H xs us Q I r h
  obtain ⟨a, C, d, c, cv, b, rfl, ea, hd, E, hc, hk, q⟩ := h
  cases r with
  | cons rx rr =>
    cases rr with
    | cons rt rr =>
      cases rr
      cases rx
      obtain rfl := hc.eq rt
      obtain ⟨ox, od, J⟩ := inst_of I ea hd
      exact PySem.W.kia_one (kit_exc E) I.kIn J hk (fun z => nomatch z) fun tk => ⟨.bl b, H, I.kept (t' := tk) fun _ _ z => z, rfl, q⟩
/-- isinstance(e, (c, ..)) -/
def rIsXT (K : PySem.W.Frag) : List V → Hp → VK → Prop := fun xs H Q => ∃ (a C : Addr) (d : Option Addr) (tp : Addr) (cs : List V) (us : List Value) (b : Bool), xs = [.ref a, .ref tp] ∧ H a = some (exH a (.ref C) d) ∧ DxOk H d ∧ ExK K C ∧
  H tp = some (.tup cs) ∧ Paired ClsV cs us ∧ PySem.W.kitAny K (.ref C) us = some b ∧ Q (.bl b) H
theorem call_isXT : CallR X (.builtin "isinstance") (rIsXT X.K) := by
  intro pins s σ H xs us Q I r h
  obtain ⟨a, C, d, tp, cs, uc, b, rfl, ea, hd, E, ht, hp, hk, q⟩ := h
  cases r with
  | cons rx rr =>
    cases rr with
    | cons rt rr =>
      cases rr
      cases rx
      cases rt
      obtain ⟨ox, od, J⟩ := inst_of I ea hd
      obtain ⟨z, its, rv, ⟨o, ho, hc, n, hdat⟩⟩ := I.hok tp _ ht
      obtain rfl := ClsV.all hp rv
      obtain ⟨c0, d0, dt, sl⟩ := o
      obtain rfl : c0 = .type "tuple" := hc
      obtain rfl : dt = .seq its.toArray n := hdat
      exact PySem.W.kia_tup (kit_exc E) I.kIn J ho hk (fun z => nomatch z) fun tk => ⟨.bl b, H, I.kept (t' := tk) fun _ _ z => z, rfl, q⟩
/-- e.f -/
def tXf (K : PySem.W.Frag) (f : Str) (te : TE) : TE := fun σ H Q => te σ H fun x H1 => ∃ (a C dd : Addr) (fs : List (Str × V)) (v : V), x = .ref a ∧ H1 a = some (exH a (.ref C) (some dd)) ∧ H1 dd = some (.xd fs) ∧ XfC K C ∧
  PySem.W.findIn K (.ref C) f = some none ∧ fs.lookup f = some v ∧ Q v H1
theorem pe_xf {e : Expr} {te : TE} {pos : Pos} {n : Str} (he : PE X e te) (hb : attributeBase e n X.env (eval e X.env) = eval e X.env := by rfl) : PE X (.Attribute e n pos) (tXf X.K n te) := by
  refine ⟨fun pins s σ H Q I h => ?_⟩
  refine attr_of hb (thn (he.run pins s σ H _ I h) fun u s1 hh => ?_)
  obtain ⟨x, H1, I1, rx, a, C, dd, fs, v, rfl, ea, ed, T, hno, hl, q⟩ := hh
  obtain rfl : u = Value.ref a := rx
  obtain ⟨vs, sl, hobj, _⟩ := exH_at I1.hok ea
  have hx : ObjOk X.prog X.w H1 s1.heap dd (.xd fs) := I1.hok dd _ ed
  obtain ⟨mA, hns, hr⟩ := hx
  obtain ⟨od, ho, hlk⟩ := lookIn_ns hns
  obtain ⟨u, hu, ru⟩ := RelO.some_of (v := v) (o := mA n) (by rw [← hl]; exact hr n)
  have J : PySem.W.InstAt s1.heap a _ C (some od) := ⟨hobj, rfl, rfl, ho⟩
  exact HandSPX.exc_get I1.kIn J T.ga T.gg T.exC (PySem.W.findObj_own T.hdC hno rfl (by rw [hlk, hu])) (handed_of ru) ⟨v, H1, I1.tok _, ru, q⟩
end
/-! a new object of the state is tracked -/
theorem Inv_track {X : Cx} {pins : List (Addr × Obj)} {σ : L2.St} {H : Hp} {s : Shared} {a : Addr} {o : HO} (I : Inv X pins σ H s) (na : H a = none) (h0 : X.s_0.heap.get? a = none) (hL : a ≠ X.env.locals) (hc : ∀ x c, X.env.cells.lookup x = some c → c ≠ a)
    (hp : ∀ p ∈ X.pn ++ pins, p.1 ≠ a) (ok : ObjOk X.prog X.w (upd H a o) s.heap a o) : Inv X pins σ (upd H a o) s := by
  have ne : ∀ {b u}, H b = some u → b ≠ a := fun {b u} e z => by
    rw [z, na] at e
    cases e
  refine ⟨I.ok, I.os, I.bare, ⟨I.base.keep, I.base.slot, fun b u e n hx => ?_, I.base.there, fun b xs e => ?_, fun b u v e => ?_, fun b ps e => ?_⟩, I.loc, I.cell, ?_, fun x c e => ?_, fun p h => ?_, fun b u e => ?_, I.len⟩
  · rw [upd_ne fun z => by rw [z, h0] at e; cases e]
    exact I.base.free b u e n hx
  · have q := I.base.tups b xs e
    rw [upd_ne (ne q)]
    exact q
  · have q := I.base.frzs b u v e
    rw [upd_ne (ne q)]
    exact q
  · obtain ⟨more, q⟩ := I.base.tbls b ps e
    exact ⟨more, by rw [upd_ne (ne q)]; exact q⟩
  · rw [upd_ne (Ne.symm hL)]
    exact I.free
  · rw [upd_ne (hc x c e)]
    exact I.freeC x c e
  · obtain ⟨q1, q2, q3, q4, q5⟩ := I.pin p h
    exact ⟨q1, by rw [upd_ne (hp p h)]; exact q2, q3, q4, q5⟩
  · by_cases hb : b = a
    · subst hb
      rw [upd_same] at e
      cases e
      exact ok
    · rw [upd_ne hb] at e
      exact (I.hok b u e).stay (fun c v _ q => q) (fun c hc => by rw [upd_ne (ne hc)]; exact hc) (fun c xs hc => by rw [upd_ne (ne hc)]; exact hc)
end Wl

/-! try .. except (A, B, C) as e, several clauses; the exception that was caught is tracked. -/
namespace Wl
open PySem PySem.Spec PyProof.Rows L2
theorem flying_keeps {B h h' : Heap} {l : List Env} {a : Addr} {Z : Obj → Prop} (fl : HandSPX.FlyingZ B l a Z h) (k : ∀ b o, h.get? b = some o → h'.get? b = some o) : HandSPX.FlyingZ B l a Z h' := by
  obtain ⟨f1, f2, f3, oe, vs, T, oT, ts, he, hz, hd, h1, hnT, hTe, hT, hdT, h3⟩ := fl
  exact ⟨fun b o e => k b o (f1 b o e), f2, f3.of_keeps fun b o e _ => ⟨o, k b o e, rfl⟩, oe, vs, T, oT, ts, k _ _ he, hz, hd, h1, hnT, hTe, k _ _ hT, hdT, h3⟩
theorem up_keeps {h h' : Heap} (k : ∀ b o, h.get? b = some o → h'.get? b = some o) : h.UpToSlots h' := Heap.UpToSlots.of_keeps k
/-- a clause's test: m tells of a class whether it is asked for -/
structure TestOk (X : Cx) (t : Expr) (m : Value → Option Bool) : Prop where
  run : ∀ (a : Addr) (pn pins : List (Addr × Obj)) (σ : L2.St) (H : Hp) (s : Shared) (cls : Value) (b : Bool) (Q : Bool → Shared → Prop) (E : Value → Shared → Prop), Inv (X.suite a pn) pins σ H s → m cls = some b →
    PySem.W.Looks (model X.prog X.w) s.heap (typeOf (.ref a)) cls → (∀ h' t', (∀ c o, s.heap.get? c = some o → h'.get? c = some o) → Q b { s with heap := h', toks := t' }) →
    wpAny (model X.prog X.w) (X.A.mark (some (.ref a))) (eval t X.env) (fun c s1 => wpAny (model X.prog X.w) (X.A.mark (some (.ref a))) (excMatches (.ref a) c) Q E s1) E s
theorem test_one {X : Cx} {x : Str} {c : Value} {np : Pos} (hc : Names X x c) : TestOk X (.Name x np) (fun cls => PySem.W.exmOne X.K cls c) := by
  refine ⟨fun a pn pins σ H s cls b Q E I hm LT q => ?_⟩
  have LM := PySem.W.exm_one (M := model X.prog X.w) I.kIn LT hm
  have go : wpAny (model X.prog X.w) (X.A.mark (some (.ref a))) (excMatches (.ref a) c) Q E s := LM.here (q s.heap s.toks fun _ _ z => z)
  obtain ⟨hg, hdbg, hg1 | ⟨hg1, hv, hnn⟩⟩ := hc
  · exact ld_glob (X := X.suite a pn) I hg hg1 go hdbg
  · exact ld_blt (X := X.suite a pn) I hg hg1 hv go hnn hdbg
theorem test_tup3 {X : Cx} {x1 x2 x3 : Str} {c1 c2 c3 : Value} {p1 p2 p3 tp : Pos} {k : Nat} (g1 : Gl X x1) (m1 : X.mg x1 = some c1) (g2 : Gl X x2) (m2 : X.mg x2 = some c2) (g3 : Gl X x3) (m3 : X.mg x3 = some c3)
    (d1 : (x1 == ("__debug__" : Str)) = false := by decide) (d2 : (x2 == ("__debug__" : Str)) = false := by decide) (d3 : (x3 == ("__debug__" : Str)) = false := by decide) :
    TestOk X (.Tuple [.Name x1 p1, .Name x2 p2, .Name x3 p3] k tp) (fun cls => PySem.W.exmAny X.K cls [c1, c2, c3]) := by
  refine ⟨fun a pn pins σ H s cls b Q E I hm LT q => ?_⟩
  refine wpAny_Tuple_spliced ?_
  show wpAny _ _ (spliced [(false, eval (.Name x1 p1) X.env), (false, eval (.Name x2 p2) X.env), (false, eval (.Name x3 p3) X.env)]) _ _ s
  refine Calls.spliced_cons (ld_glob (X := X.suite a pn) I g1 m1 ?_ d1)
  refine Calls.spliced_cons (ld_glob (X := X.suite a pn) I g2 m2 ?_ d2)
  refine Calls.spliced_cons (ld_glob (X := X.suite a pn) I g3 m3 ?_ d3)
  refine Calls.spliced_nil ⟨by show 3 ≤ sizeLine; decide, ?_⟩
  have kp : ∀ c o, s.heap.get? c = some o → (s.heap.push { cls := .type "tuple", data := .seq [c1, c2, c3].toArray }).get? c = some o := fun c o e => Heap.get?_push_of_some _ e
  have LM := PySem.W.exm_tup3 (M := model X.prog X.w) (I.kIn.keeps kp) (LT.keeps kp) (Heap.get?_push_size s.heap (o := { cls := .type "tuple", data := .seq [c1, c2, c3].toArray }) rfl) hm
  exact LM.here (q _ s.toks kp)
/-- what a suite does, the caught exception's address first -/
abbrev ClT := Addr → TS
/-- the clauses, one after the other; Wout: none of them asks for it -/
def wCls (Wout : WX) (D : Ends) : List ((Value → Option Bool) × ClT) → WX
  | [] => Wout
  | (m, ts) :: r => fun cls d σ H => ∃ b, m cls = some b ∧ (b = true → ∀ a, H a = none → ts a D σ (upd H a (exH a cls d))) ∧ (b = false → wCls Wout D r cls d σ H)
/-- .. as n, n in slot i: the name goes behind the suite -/
def tAs (i : Nat) (ts : ClT) : ClT := fun a D σ H => ts a { nx := fun σ' H' => D.nx (σ'.set i none) H', rt := D.rt, bk := fun σ' H' => D.bk (σ'.set i none) H', ct := fun σ' H' => D.ct (σ'.set i none) H' } (σ.set i (some (.ref a))) H
inductive HdsE (X : Cx) : List ExceptHandler → List ((Value → Option Bool) × ClT) → Prop
  | nil : HdsE X [] []
  | one {t : Expr} {m : Value → Option Bool} {ts : ClT} {b₀ : Stmt} {suite : List Stmt} {pos' : Pos} {hds : List ExceptHandler} {l : List ((Value → Option Bool) × ClT)} (ht : TestOk X t m)
      (hsu : ∀ (a : Addr) (pn : List (Addr × Obj)), PSs (X.suite a pn) (b₀ :: suite) (ts a)) (r : HdsE X hds l) : HdsE X (.ExceptHandler (some t) none (b₀ :: suite) pos' :: hds) ((m, ts) :: l)
  | as {t : Expr} {m : Value → Option Bool} {ts : ClT} {i : Nat} {n : Str} {b₀ : Stmt} {suite : List Stmt} {pos' : Pos} {hds : List ExceptHandler} {l : List ((Value → Option Bool) × ClT)} (hi : X.N[i]? = some n) (hln : X.env.kindOf n = some .local) (ht : TestOk X t m)
      (hsu : ∀ (a : Addr) (pn : List (Addr × Obj)), PSs (X.suite a pn) (b₀ :: suite) (ts a)) (r : HdsE X hds l) : HdsE X (.ExceptHandler (some t) (some n) (b₀ :: suite) pos' :: hds) ((m, tAs i ts) :: l)
section
variable {X : Cx} {pins : List (Addr × Obj)} {σ : L2.St} {H : Hp} {s : Shared}
theorem inv_suite {a : Addr} (I : Inv X pins σ H s) : Inv (X.suite a (X.pn ++ pins)) [] σ H s :=
  ⟨I.ok.suite _ _, I.os, I.bare, I.base, I.loc, I.cell, I.free, I.freeC, fun p hp => I.pin p (by rw [List.append_nil] at hp; exact hp), I.hok, I.len⟩
theorem inv_unsuite {a : Addr} {q : List (Addr × Obj)} (I : Inv (X.suite a (X.pn ++ pins)) q σ H s) (ok : X.Ok) : Inv X pins σ H s :=
  ⟨ok, I.os, I.bare, I.base, I.loc, I.cell, I.free, I.freeC, fun p hp => I.pin p (List.mem_append_left _ hp), I.hok, I.len⟩
end
section
variable {X : Cx} {body : List Stmt} {h₀ : ExceptHandler} {hds : List ExceptHandler} {l : List ((Value → Option Bool) × ClT)} {pos : Pos} {tb : WX → TS} {Wout : WX}
theorem ps_tryE (hs : X.stack = X.env :: X.outer) (hf : X.env.frame = some X.env.locals) (hex : X.ex = []) (hN : X.N.Nodup) (tk : L2N.Takes X Wout)
    (hb : ∀ (W : WX) (pn : List (Addr × Obj)) (xe : Value → Shared → Prop), L2N.Takes (X.tr pn xe) W → PassesOwn (model X.prog X.w) X.A X.env xe → PSs (X.tr pn xe) body (tb W))
    (hh : HdsE X (h₀ :: hds) l) : PS X (.Try body (h₀ :: hds) [] [] pos) (fun D σ H => tb (wCls Wout D l) D σ H) := by
  constructor
  intro pins s σ H D I h
  have ok := I.ok
  have hfr : X.A.frames = some (X.env :: X.outer) := by rw [ok.frames, hs]
  refine wpAny_Try_except ?_
  refine wpAny_mono ((hb (wCls Wout D l) (X.pn ++ pins) (fun e sa => wpAny (model X.prog X.w) X.A (noteFrame e X.env) (fun _ sb => wpAny (model X.prog X.w) X.A (setFlight e none) (fun _ sc =>
    wpAny (model X.prog X.w) X.A (handleBy e X.env (h₀ :: hds)) (SP X pins D) X.xe sc) X.xe sb) X.xe sa) (fun u s' xx => ?_) PassesOwn.looking).run [] s σ H D (I.toTry _) h) (fun f s1 hsp => ?_) (fun e s1 he => he)
  · obtain ⟨a, B, sI, pq, σ1, H1, cls, d, rfl, J', nb, up, sky, na, os, ag, wq⟩ := xx
    have J : Inv X pins σ1 H1 sI := J'.ofTry ok
    have sky' : Sky B (X.env :: X.outer) a (L2N.Zn cls d) X.env.locals s'.heap := by rw [← hs]; exact sky
    show wpAny (model X.prog X.w) X.A (noteFrame (.ref a) X.env) _ _ _
    refine L2N.Sky.land L2N.Zn.steady hfr hf sky' fun h3 fl3 up3 => ?_
    -- what holds of any state behind the landing
    have nfr : ∀ {hx : Heap}, HandSPX.FlyingZ B (X.env :: X.outer) a (L2N.Zn cls d) hx → a ∉ frs (X.env :: X.outer) := fun {hx} fl hm => by
      obtain ⟨oe, vs, he, _, hd⟩ := fl.there
      obtain ⟨_, o', e', hnf⟩ := fl.2.2.1.mem hm
      rw [he] at e'
      cases e'
      exact hnf _ hd
    have naI : sI.heap.get? a = none := by
      cases q : sI.heap.get? a with
      | none => rfl
      | some o =>
        have z := nb a o q (by rw [hs]; exact nfr fl3)
        rw [fl3.2.1] at z
        cases z
    have na0 : X.s_0.heap.get? a = none := by
      cases q : X.s_0.heap.get? a with
      | none => rfl
      | some o =>
        obtain ⟨o', z⟩ := J.base.there a o q (by rw [hex]; simp)
        rw [naI] at z
        cases z
    have nL : a ≠ X.env.locals := fun z => nfr fl3 (List.mem_filterMap.mpr ⟨X.env, List.mem_cons_self, by rw [hf, z]⟩)
    -- the clauses, one by one, over a heap that holds the landed one
    have go : ∀ {hds' : List ExceptHandler} {l' : List ((Value → Option Bool) × ClT)}, HdsE X hds' l' → wCls Wout D l' cls d σ1 H1 → ∀ (h5 : Heap) (t5 : Nat), (∀ b o, h3.get? b = some o → h5.get? b = some o) →
        wpAny (model X.prog X.w) X.A (handleBy (.ref a) X.env hds') (SP X pins D) X.xe { s' with heap := h5, toks := t5 } := by
      intro hds' l' hk
      induction hk with
      | nil =>
        intro wq h5 t5 k5
        have fl5 := flying_keeps fl3 k5
        refine wpAny_handleBy_nil ?_
        obtain ⟨k1, k2, k3, oe, vs, T, oT, ts', he, hz, hd, h1, hr⟩ := id fl5
        unfold PySem.passOn
        refine wpAny_bind (wpAny_field he hd h1 ?_)
        rw [if_neg (show ¬ ((Value.ref T == Value.none) = true) from by simp)]
        have fin : wpAny (model X.prog X.w) X.A (setFlight (.ref a) X.env.frame) (fun _ s4 => wpAny (model X.prog X.w) X.A (throw (.ref a) : Sem Flow) (SP X pins D) X.xe s4) X.xe { s' with heap := h5, toks := t5 } := by
          rw [hf]
          refine HandSPX.setFlight_upZ fl5 fun h4 hh4 up4 => wpAny_throw (tk _ _ ?_)
          exact ⟨a, B, sI, pins, σ1, H1, cls, d, rfl, J, nb, ((up.trans up3).trans (up_keeps k5)).trans up4, .inr (.inr (by rw [hs]; exact hh4)), na, os, ag, wq⟩
        first
          | exact wpAny_bind (wpAny_pure (wpAny_bind fin))
          | exact wpAny_bind fin
      | @one t m ts b₀ suite pos' hds2 l2 ht hsu r ih =>
        intro wq h5 t5 k5
        obtain ⟨b, hb1, hyes, hno⟩ := wq
        have fl5 := flying_keeps fl3 k5
        have J5 : Inv X pins σ1 H1 { s' with heap := h5, toks := t5 } := (J.landed (s' := { s' with heap := h5, toks := t5 }) nb fl5.1 ((up.trans up3).trans (up_keeps k5)) os ag)
        obtain ⟨oe5, vs5, he5, hz5, hd5⟩ := fl5.there
        have LT : PySem.W.Looks (model X.prog X.w) h5 (typeOf (.ref a)) cls := fun A Q E s k q => wpAny_typeOf_ref (k _ _ he5) (by rw [hz5.1]; exact q)
        refine wpAny_handleBy_cons (codeAny_handlers_test (ht.run a (X.pn ++ pins) [] σ1 H1 { s' with heap := h5, toks := t5 } cls b _ _ (inv_suite J5) hb1 LT fun h6 t6 k6 => ?_)) (by intro q; cases q)
        cases b with
        | false =>
          show wpAny _ X.A (handleBy (.ref a) X.env hds2) _ _ _
          exact ih (hno rfl) h6 t6 fun c o e => k6 c o (k5 c o e)
        | true =>
          have fl6 := flying_keeps fl5 k6
          refine codeAny_handlers_suite ?_
          refine HandSPX.lands_againZ fl6 fun h7 fl7 up7 => ?_
          have J7 : Inv X pins σ1 H1 { s' with heap := h7, toks := t6 } := J.landed (s' := { s' with heap := h7, toks := t6 }) nb fl7.1 ((((up.trans up3).trans (up_keeps k5)).trans (up_keeps k6)).trans up7) os ag
          obtain ⟨oe7, vs7, he7, hz7, hd7⟩ := fl7.there
          have T7 : Inv X pins σ1 (upd H1 a (exH a cls d)) { s' with heap := h7, toks := t6 } := Inv_track J7 na na0 nL (fun x c e z => by
              obtain ⟨v, o, ho, hdat⟩ := J7.cell x c e
              have ho : h7.get? c = some o := ho
              rw [z, he7] at ho
              cases ho
              rw [hd7] at hdat
              cases hdat) (fun p hp z => by
              have q := (J.pin p hp).1
              rw [z, naI] at q
              cases q) (exH_ok he7 hz7 hd7)
          refine wpAny_mono ((hsu a (X.pn ++ pins)).run [] _ _ _ D (inv_suite T7) (hyes rfl a na)) (fun f s8 hsp => ?_) (fun _ _ z => False.elim z)
          cases f with
          | next =>
            obtain ⟨σ8, H8, S8, q8⟩ := hsp
            exact ⟨_, _, inv_unsuite S8 ok, q8⟩
          | brk =>
            obtain ⟨σ8, H8, S8, q8⟩ := hsp
            exact ⟨_, _, inv_unsuite S8 ok, q8⟩
          | cont =>
            obtain ⟨σ8, H8, S8, q8⟩ := hsp
            exact ⟨_, _, inv_unsuite S8 ok, q8⟩
          | ret u =>
            obtain ⟨v8, σ8, H8, S8, r8, q8⟩ := hsp
            exact ⟨_, _, _, inv_unsuite S8 ok, r8, q8⟩
      | @as t m ts i n b₀ suite pos' hds2 l2 hi hln ht hsu r ih =>
        intro wq h5 t5 k5
        obtain ⟨b, hb1, hyes, hno⟩ := wq
        have fl5 := flying_keeps fl3 k5
        have J5 : Inv X pins σ1 H1 { s' with heap := h5, toks := t5 } := (J.landed (s' := { s' with heap := h5, toks := t5 }) nb fl5.1 ((up.trans up3).trans (up_keeps k5)) os ag)
        obtain ⟨oe5, vs5, he5, hz5, hd5⟩ := fl5.there
        have LT : PySem.W.Looks (model X.prog X.w) h5 (typeOf (.ref a)) cls := fun A Q E s k q => wpAny_typeOf_ref (k _ _ he5) (by rw [hz5.1]; exact q)
        refine wpAny_handleBy_cons (codeAny_handlers_test (ht.run a (X.pn ++ pins) [] σ1 H1 { s' with heap := h5, toks := t5 } cls b _ _ (inv_suite J5) hb1 LT fun h6 t6 k6 => ?_)) (by intro q; cases q)
        cases b with
        | false =>
          show wpAny _ X.A (handleBy (.ref a) X.env hds2) _ _ _
          exact ih (hno rfl) h6 t6 fun c o e => k6 c o (k5 c o e)
        | true =>
          have fl6 := flying_keeps fl5 k6
          refine codeAny_handlers_suite_as ?_
          refine HandSPX.lands_againZ fl6 fun h7 fl7 up7 => ?_
          have J7 : Inv X pins σ1 H1 { s' with heap := h7, toks := t6 } := J.landed (s' := { s' with heap := h7, toks := t6 }) nb fl7.1 ((((up.trans up3).trans (up_keeps k5)).trans (up_keeps k6)).trans up7) os ag
          obtain ⟨oe7, vs7, he7, hz7, hd7⟩ := fl7.there
          have T7 : Inv X pins σ1 (upd H1 a (exH a cls d)) { s' with heap := h7, toks := t6 } := Inv_track J7 na na0 nL (fun x c e z => by
              obtain ⟨v, o, ho, hdat⟩ := J7.cell x c e
              have ho : h7.get? c = some o := ho
              rw [z, he7] at ho
              cases ho
              rw [hd7] at hdat
              cases hdat) (fun p hp z => by
              have q := (J.pin p hp).1
              rw [z, naI] at q
              cases q) (exH_ok he7 hz7 hd7)
          refine store_ok (X := X.suite a (X.pn ++ pins)) (v := .ref a) (inv_suite T7) hN hi (.inl hln) rfl (fun s5 S5 => ?_) (.inr hln)
          refine wpAny_mono ((hsu a (X.pn ++ pins)).run [] s5 _ _ _ S5 (hyes rfl a na)) (fun f s8 hsp => ?_) (fun _ _ z => False.elim z)
          have end_ : ∀ {σ6 : L2.St} {H6 : Hp} {Q : Shared → Prop}, Inv (X.suite a (X.pn ++ pins)) [] σ6 H6 s8 → (∀ s7, Inv X pins (σ6.set i none) H6 s7 → Q s7) →
              wpAny (model X.prog X.w) X.A (do bindName X.env n .none; unbindBehindTheSuite X.env n pos') (fun _ s7 => Q s7) X.xe s8 := fun {σ6 H6 Q} S6 hq => gone_ok (inv_unsuite S6 ok) hN hi hln hq
          cases f with
          | next =>
            obtain ⟨σ8, H8, S8, q8⟩ := hsp
            exact end_ S8 fun s9 J9 => ⟨_, _, J9, q8⟩
          | brk =>
            obtain ⟨σ8, H8, S8, q8⟩ := hsp
            exact end_ S8 fun s9 J9 => ⟨_, _, J9, q8⟩
          | cont =>
            obtain ⟨σ8, H8, S8, q8⟩ := hsp
            exact end_ S8 fun s9 J9 => ⟨_, _, J9, q8⟩
          | ret u =>
            obtain ⟨v8, σ8, H8, S8, r8, q8⟩ := hsp
            exact end_ S8 fun s9 J9 => ⟨_, _, _, J9, r8, q8⟩
    exact go hh wq h3 s'.toks fun _ _ z => z
  · cases f with
    | next =>
      obtain ⟨σ', H', J', q⟩ := hsp
      exact wpAny_execs_nil ⟨σ', H', J'.ofTry ok, q⟩
    | brk =>
      obtain ⟨σ', H', J', q⟩ := hsp
      exact ⟨σ', H', J'.ofTry ok, q⟩
    | cont =>
      obtain ⟨σ', H', J', q⟩ := hsp
      exact ⟨σ', H', J'.ofTry ok, q⟩
    | ret u =>
      obtain ⟨v, σ', H', J', r, q⟩ := hsp
      exact ⟨v, σ', H', J'.ofTry ok, r, q⟩
theorem takes_noN {X : Cx} : L2N.Takes X (fun _ _ _ _ => False) := fun _ _ ⟨_, _, _, _, _, _, _, _, _, _, _, _, _, _, _, _, z⟩ => z.elim
end
end Wl

/-! Own exceptions over ValueError, LookupError or ArithmeticError, whose __init__ stores its one argument under its own name; raised. -/
namespace Wl
open PySem PySem.Spec PyProof.Rows L2
/-- a built-in base of an own exception -/
structure BaseX (B newId initId : String) (bm : List Value) : Prop where
  base : ExcBaseFacts B newId initId bm
  store : StoreFacts B bm "object.__setattr__" "object"
theorem baseVE : BaseX "ValueError" "ValueError.__new__" "ValueError.__init__" [.type "ValueError", .type "Exception", .type "BaseException", .type "object"] := ⟨F.excBase_ValueError, F.store_ValueError⟩
theorem baseLE : BaseX "LookupError" "LookupError.__new__" "LookupError.__init__" [.type "LookupError", .type "Exception", .type "BaseException", .type "object"] := ⟨F.excBase_LookupError, F.store_LookupError⟩
theorem baseAE : BaseX "ArithmeticError" "ArithmeticError.__new__" "ArithmeticError.__init__" [.type "ArithmeticError", .type "Exception", .type "BaseException", .type "object"] := ⟨F.excBase_ArithmeticError, F.store_ArithmeticError⟩
/-- the first store into an exception -/
theorem osa_first {prog : Program} {w : World} {A : Around} {R : Result → Shared → Prop} {hp : Heap} {g : Array GenState} {d : Drawn} {t : Nat} {os : OsState} {K : PySem.W.Frag} {name : Str} {tk : Tok} {v : Value} {x C : Addr} {fv : Array Value} {B newId initId : String} {bm : List Value}
    (BX : BaseX B newId initId bm) (X : K.In hp) (hx : hp.get? x = some { cls := .ref C, data := .fields fv }) (ho : PySem.W.excOver K C bm = true) (hh : PySem.W.hasDictIn K C = true) (ht : PySem.W.takerIn K C name = some none)
    (hq : ∀ h' tk' dx, (∀ b o, b ≠ x → hp.get? b = some o → h'.get? b = some o) → hp.objs.size ≤ dx → dx ≠ x → h'.get? x = some { cls := .ref C, dict := some dx, data := .fields fv } →
      h'.Ns1 dx (fun y => if y = name then some v else none) → R (.ok (.ret .none)) ⟨h', g, d, tk', os⟩) :
    codeAny (model prog w) A (.call (.builtin "object.__setattr__") ⟨[.ref x, .str name tk, v], []⟩) R ⟨hp, g, d, t, os⟩ := by
  have hxs : x ≠ hp.objs.size := Nat.ne_of_lt (Heap.lt_size hx)
  obtain ⟨cd, hc, hd⟩ := PySem.W.any_some hh
  have hcls : PySem.W.Looks (model prog w) hp (classData C) cd := PySem.W.looks_clsIn X hc
  refine PySem.W.osa_openX (s := ⟨hp, g, d, t, os⟩) (od := none) BX.store X ⟨hx, rfl, rfl, trivial⟩ ho ht fun b => ?_
  show wpAny _ _ (Builtin.ObjectAttr.storeInOwnDict (.ref x) (.ref C) (.str name tk) name v b) _ _ _
  obtain ⟨nm, bs, mro, ns, qn, hdd, sn, sb, ab, col, del⟩ := cd
  dsimp only at hd
  subst hd
  unfold Builtin.ObjectAttr.storeInOwnDict Builtin.ObjectAttr.ownDictForStores
  repeat (first | with_reducible refine PySem.HandSPX.store_in_new ?_ ?_ | with_reducible refine wpAny_loadPart_at hx ?_ | with_reducible refine hcls.at ?_ | wp_step)
  · exact ⟨_, #[], _, (Heap.get?_update_ne _ _ _ _ hxs.symm).trans (Heap.get?_push_at rfl rfl), rfl, fun e he => absurd he (by simp), fun _ => rfl⟩
  · intro h' tk' hn' hs
    have h1 : (hp.push { cls := .type "dict", data := .dict #[] }).get? x = some { cls := .ref C, data := .fields fv } := Heap.get?_push_of_some _ hx
    refine hq h' tk' hp.objs.size (fun b o hb ho => ?_) (Nat.le_refl _) hxs.symm ?_ hn'
    · exact (hs.2 b (Nat.ne_of_lt (Heap.lt_size ho))).trans ((Heap.get?_update_ne _ _ _ _ hb).trans (Heap.get?_push_of_some _ ho))
    · exact (hs.2 x hxs).trans (Heap.get?_update_self _ h1 rfl)
/-- what the written part says of the own exception class x, at C, whose __init__ (self, f) stores f -/
structure OwnX (K : PySem.W.Frag) (mg : Str → Option Value) (x f : Str) (C : Addr) : Prop where
  gC : mg x = some (.ref C)
  kC : PySem.W.keepIn K (.ref C) = true
  bas : ∃ B newId initId bm, BaseX B newId initId bm ∧ PySem.W.excInitIn K C bm newId = true ∧ PySem.W.excOver K C bm = true
  sa : PySem.W.findIn K (.ref C) "__setattr__" = some (some (.builtin "object.__setattr__"))
  tk : PySem.W.takerIn K C f = some none
  no : PySem.W.findIn K (.ref C) f = some none
  exC : PySem.W.subIn K (.ref C) (.type "BaseException") = some true
  tyC : PySem.W.typeIn K (.ref C) = some (.type "type")
  hdC : PySem.W.hasDictIn K C = true
  ini : ∃ (fI : Addr) (fd : FuncData) (q : Str) (st : Stmt) (q1 q2 q3 q4 : Pos), PySem.W.findIn K (.ref C) "__init__" = some (some (.ref fI)) ∧ PySem.W.typeIn K (.ref fI) = some (.type "function") ∧ Fun K "__init__" q st fI fd ∧
    Binds K fd ["self", f] [] ∧ FnScope ["self", f] ["self", f] (defScope st) ∧ (∀ y ∈ (["self", f] : List Str), (defScope st).names.lookup y = some .local) ∧ defBody st = [.Assign [.Attribute (.Name "self" q1) f q2] (.Name f q3) q4]
/-- what __init__ leaves of a fresh exception at x -/
structure InitDone (h h' : Heap) (x C dx t1 : Addr) (f : Str) (v : Value) : Prop where
  keep : ∀ b o, b ≠ x → h.get? b = some o → h'.get? b = some o
  obj : h'.get? x = some { cls := .ref C, dict := some dx, data := .fields #[.ref t1, .none, .none, .none, .bool false, .none] }
  dbig : h.objs.size ≤ dx
  dne : dx ≠ x
  ns : h'.Ns1 dx (fun y => if y = f then some v else none)
/-- a made one -/
structure MadeX (h h' : Heap) (e C d : Addr) (f : Str) (v : Value) : Prop where
  keep : ∀ b o, h.get? b = some o → h'.get? b = some o
  new : h.objs.size ≤ e
  obj : ∃ vs, h'.get? e = some { cls := .ref C, dict := some d, data := .fields vs } ∧ vs[1]? = some .none ∧ vs[2]? = some .none
  dbig : h.objs.size ≤ d
  dne : d ≠ e
  ns : h'.Ns1 d (fun y => if y = f then some v else none)
theorem one_line (v : Value) : [v].length ≤ sizeLine := by
  show 1 ≤ sizeLine
  decide
section
variable {prog : Program} {w : World} {A : Around} {R : Result → Shared → Prop} {s : Shared} {K : PySem.W.Frag} {mg : Str → Option Value} {x f : Str} {C : Addr}
theorem own_init (T : OwnX K mg x f C) (nf : f ≠ "self") (ndb : (f == ("__debug__" : Str)) = false) {e t0 fI : Addr} {v : Value} (hfI : PySem.W.findIn K (.ref C) "__init__" = some (some (.ref fI))) (X : K.In s.heap) (hlim : s.heap.NoLimit) (hx : s.heap.get? e = some (HandSPX.excO C t0)) (hnx : K.lookup e = none) (hroom : A.depth < recursionLimit)
    (hq : ∀ h' tk dx, InitDone s.heap h' e C dx t0 f v → R (.ok (.ret .none)) { s with heap := h', toks := tk }) : codeAny (model prog w) A (.call (.ref fI) ⟨[.ref e, v], []⟩) R s := by
  obtain ⟨f2, fd, q, st, q1, q2, q3, q4, hf2, tI, hF, hB, hS, hL, hbody⟩ := T.ini
  obtain rfl : f2 = fI := by
    rw [hfI] at hf2
    cases hf2
    rfl
  obtain ⟨oc, od, kV, doc, pm, an, cdv, ct, osl, rfl, lk, hcd⟩ := hF.ex
  obtain ⟨B, newId, initId, bm, BX, _, hov⟩ := T.bas
  have hb := hB s [.ref e, v] X rfl
  have hb : BindsTo s (PySem.W.fnOf "__init__" q (defArgs st) (defBody st) (defScope st) .none kV doc pm an cdv ct) ⟨[.ref e, v], []⟩ [("self", .ref e), (f, v)] := hb
  refine Att.call_fn (binds := [("self", .ref e), (f, v)]) X hlim lk hcd hroom hb ?_ (fun s₁ IC => ?_) hS.co hS.gen hS.kind
  · simp only [List.all_cons, List.all_nil, Bool.and_true]
    rw [hL "self" (by simp), hL f (by simp)]
    rfl
  obtain ⟨h₁, tk₁, rfl⟩ := IC.toInCall.same
  have k : ∀ b o, s.heap.get? b = some o → h₁.get? b = some o := IC.toInCall.keep
  have hn := IC.toInCall.ns
  have X₁ : K.In h₁ := X.keeps k
  have hx₁ := k _ _ hx
  have kself : (envOfC q (defScope st) s.heap.objs.size f2 cdv).kindOf "self" = some .local := hL "self" (by simp)
  have kf : (envOfC q (defScope st) s.heap.objs.size f2 cdv).kindOf f = some .local := hL f (by simp)
  have m1 : bindL (envOfC q (defScope st) s.heap.objs.size f2 cdv).kindOf [("self", .ref e), (f, v)] (fun _ => none) "self" = some (.ref e) := bindL_get (P := ["self", f]) (vs := [.ref e, v]) (i := 0) hS.nd rfl rfl kself
  have m2 : bindL (envOfC q (defScope st) s.heap.objs.size f2 cdv).kindOf [("self", .ref e), (f, v)] (fun _ => none) f = some v := bindL_get (P := ["self", f]) (vs := [.ref e, v]) (i := 1) hS.nd rfl rfl kf
  rw [hbody]
  show wpAny _ _ (execs _ _) _ _ _
  refine wpAny_execs_cons (plainObj_wpAny_Assign_Attribute ?_)
  refine wpAny_Name (wpAny_loadName_local hS.kind kf hn m2 ?_) ndb
  refine wpAny_Name (wpAny_loadName_local hS.kind kself hn m1 ?_) (by decide)
  refine PySem.W.set_plain X₁ (ox := HandSPX.excO C t0) (od := none) ⟨hx₁, rfl, rfl, trivial⟩ T.sa ?_
  refine osa_first BX X₁ hx₁ hov T.hdC T.tk (fun h₃ tk₃ dx k₃ dn dne hx₃ hn₃ => ?_)
  show wpAny _ _ (execs _ _) _ _ _
  have z : s.heap.objs.size < h₁.objs.size := hn.lt
  exact wpAny_execs_nil (hq h₃ tk₃ dx ⟨fun b o hb e => k₃ b o hb (k b o e), hx₃, Nat.le_of_lt (Nat.lt_of_lt_of_le z dn), dne, hn₃⟩)
theorem own_made (T : OwnX K mg x f C) (nf : f ≠ "self") (ndb : (f == ("__debug__" : Str)) = false) {v : Value} (X : K.In s.heap) (hlim : s.heap.NoLimit) (hroom : A.depth + 1 < recursionLimit)
    (hq : ∀ h' tk e d, MadeX s.heap h' e C d f v → R (.ok (.ret (.ref e))) { s with heap := h', toks := tk }) : codeAny (model prog w) A (.call (.ref C) ⟨[v], []⟩) R s := by
  obtain ⟨B, newId, initId, bm, BX, hini, hov⟩ := T.bas
  obtain ⟨nm, N', qn, bs, bmC, hdct, sn, sub, ab, col, dd, k0, k1, k2, k3, k5, hC, hT⟩ := PySem.W.excInit_of X hini
  obtain ⟨fI, _, _, _, _, _, _, _, hfI, tI, _⟩ := T.ini
  obtain ⟨hp, g, dr, tk, os⟩ := s
  have k : ∀ b o, hp.get? b = some o → ((hp.push (PySem.W.kdv_tup [v])).push (HandSPX.excO C hp.objs.size)).get? b = some o := fun b o e => Heap.get?_push_of_some _ (Heap.get?_push_of_some _ e)
  have hget : ((hp.push (PySem.W.kdv_tup [v])).push (HandSPX.excO C hp.objs.size)).get? (hp.objs.size + 1) = some (HandSPX.excO C hp.objs.size) := by heap_get
  have hnx : K.lookup (hp.objs.size + 1) = none := by
    cases e : K.lookup (hp.objs.size + 1) with
    | none => rfl
    | some o =>
      have z : hp.get? (hp.objs.size + 1) = some o := X _ _ e
      exact absurd (Nat.lt_of_succ_lt (Heap.lt_size z)) (Nat.lt_irrefl _)
  refine HandSPX.call_own BX.base hT hC (PySem.W.looks_findIn X hfI) (fun self => PySem.W.bind_fn X self tI) (one_line v) ?_
  refine own_init (s := ⟨(hp.push (PySem.W.kdv_tup [v])).push (HandSPX.excO C hp.objs.size), g, dr, tk, os⟩) T nf ndb hfI (X.keeps k) (hlim.keeps k) hget hnx ?_ fun h' tk' dx hD => ?_
  · show A.depth + 1 < recursionLimit
    exact hroom
  · obtain ⟨k', hx, dn, dne, hns⟩ := hD
    have old : ∀ b o, hp.get? b = some o → h'.get? b = some o := fun b o e => k' b o (Nat.ne_of_lt (Nat.lt_succ_of_lt (Heap.lt_size e))) (k b o e)
    have z : hp.objs.size + 1 + 1 ≤ dx := by
      have q := dn
      rw [Heap.size_push, Heap.size_push] at q
      exact q
    exact ⟨rfl, hq h' tk' (hp.objs.size + 1) dx ⟨old, Nat.le_succ _, ⟨_, hx, rfl, rfl⟩, Nat.le_trans (Nat.le_trans (Nat.le_succ _) (Nat.le_succ _)) z, dne, hns⟩⟩
end
theorem relO_one {v : V} {u : Value} (r : RelV v u) (f g : Str) : RelO (List.lookup g [(f, v)]) (if g = f then some u else none) := by
  by_cases h : g = f
  · subst h
    rw [if_pos rfl]
    have q : List.lookup g [(g, v)] = some v := by simp [List.lookup]
    rw [q]
    exact r
  · rw [if_neg h]
    have qw : (g == f) = false := by simpa using h
    have q : List.lookup g [(f, v)] = none := by simp [List.lookup, qw]
    rw [q]
    trivial
section
variable {X : Cx} {C : Addr}
/-- x(e) -/
def tMkX (C : Addr) (f : Str) (ta : TA) : L2.St → Hp → XK → Prop := fun σ H Q => ta σ H fun vs H1 => ∃ v, vs = [v] ∧ ∀ d, H1 d = none → Q (.ref C) (some d) (upd H1 d (.xd [(f, v)]))
theorem pmk_x {x f : Str} {a : Expr} {ta : TA} {p pos : Pos} {k : Nat} (T : OwnX X.K X.mg x f C) (hr : Room k X.A) (ha : PA X [a] ta) (nf : f ≠ "self" := by decide) (ndb : (f == ("__debug__" : Str)) = false := by decide) (hg : Gl X x := by rfl) (hdb : (x == ("__debug__" : Str)) = false := by decide)
    (he : starEach (a :: []) X.env = (false, eval a X.env) :: starEach [] X.env := by rfl) (hpl : (backTo pos (starEach [] X.env)).any (·.1) = false := by rfl) :
    L2N.PMk X (.Call (.Name x p) [a] [] pos) (tMkX C f ta) := by
  intro pins s σ H Q I h
  refine wpAny_Call_Name_kw (ld_glob I hg T.gC ?_ hdb)
  refine PySem.W.callWith_K (h₀ := X.base) I.ok.mod.kin T.kC (thn (ha.run pos pins s σ H _ I h) fun us s1 hh => ?_) he hpl
  obtain ⟨vs, H1, I1, r1, v, ev, q1⟩ := hh
  subst ev
  refine ⟨I1.kIn, ?_⟩
  cases r1 with
  | cons rv rn =>
    rename_i v' us'
    cases rn
    show wpAny _ _ (call (.ref C) [v']) _ _ _
    have hlim := I1.nolimit
    obtain ⟨hp, g, dr, tk, os⟩ := s1
    refine wpAny_call (own_made T nf ndb I1.kIn hlim (by have := hr.dp; omega) fun h' tk' e d M => ?_)
    show L2N.MkP X pins σ Q (.ref e) ⟨h', g, dr, tk', os⟩
    obtain ⟨fv, hoe, h1, h2⟩ := M.obj
    have hns := M.ns
    obtain ⟨G', g1, g2⟩ := restrict h' fun b => decide (b ≠ e)
    have gk : ∀ b, b ≠ e → G'.get? b = h'.get? b := fun b hb => g1 b (decide_eq_true hb)
    have ge : G'.get? e = none := g2 e (by simp)
    have old : ∀ b o, hp.get? b = some o → G'.get? b = some o := fun b o q => (gk b (Nat.ne_of_lt (Nat.lt_of_lt_of_le (Heap.lt_size q) M.new))).trans (M.keep b o q)
    have ob : ObjOk X.prog X.w (upd H1 d (.xd [(f, v)])) G' d (.xd [(f, v)]) := ⟨_, hns.at (fun o q => (gk d M.dne).trans q), fun y => relO_one rv f y⟩
    have J : Inv X pins σ (upd H1 d (.xd [(f, v)])) ⟨G', g, dr, tk', os⟩ := I1.laid (t' := tk') old M.dbig ob
    refine ⟨e, _, fv, ⟨G', g, dr, tk', os⟩, _, .ref C, some d, rfl, J, fun b o q => ?_, ge, hoe, ⟨rfl, rfl, fun vs q => ?_⟩, rfl, h1, ?_, rfl, I1.bare, raises_own T.exC T.tyC, q1 d (I1.hok.fresh M.dbig)⟩
    · by_cases hb : b = e
      · have q' : G'.get? b = some o := q
        rw [hb, ge] at q'
        cases q'
      · exact (gk b hb).symm.trans q
    · obtain rfl : fv = vs := Data.fields.inj q
      exact h2
    · rw [upd_ne (Ne.symm M.dne)]
      exact I1.hok.fresh M.new
theorem ps_raiseX {x f : Str} {a : Expr} {ta : TA} {W : WX} {p pos pos2 : Pos} {k : Nat} (hc : X.calm = true) (T : OwnX X.K X.mg x f C) (hr : Room k X.A) (tk : L2N.Takes X W) (ha : PA X [a] ta) (nf : f ≠ "self" := by decide) (ndb : (f == ("__debug__" : Str)) = false := by decide) (hg : Gl X x := by rfl)
    (hdb : (x == ("__debug__" : Str)) = false := by decide) (he : starEach (a :: []) X.env = (false, eval a X.env) :: starEach [] X.env := by rfl) (hpl : (backTo pos (starEach [] X.env)).any (·.1) = false := by rfl) :
    PS X (.Raise (some (.Call (.Name x p) [a] [] pos)) none pos2) (fun _ σ H => tMkX C f ta σ H fun cls d H' => W cls d σ H') := L2N.ps_raise hc tk (pmk_x T hr ha nf ndb hg hdb he hpl)
end
end Wl

/-! Where an exception is being handled: defs called, comprehensions over range. -/
namespace Wl
open PySem PySem.Spec PyProof.Rows L2
/-- what is handled stands at a, tracked -/
def HotH (a : Addr) (H : Hp) : Prop := ∃ cls d, H a = some (exH a cls d)
theorem HotH.same {a : Addr} {H H' : Hp} (h : HotH a H) (s : Same H H') : HotH a H' := by
  obtain ⟨cls, d, e⟩ := h
  exact ⟨cls, d, s _ _ e⟩
/-- a def called there, its promise -/
structure FnT (P : Program) (w : World) (K : PySem.W.Frag) (mg : Str → Option Value) (base : Heap) (CX : CXT) (k : Nat) (f : Addr) (fd : FuncData) (ps : List Str) (sp : Addr → Sp) : Prop where
  len : ∀ a vs H Q E, sp a vs H Q E → vs.length = ps.length
  run : ∀ (A : Around) (outer : List Env) (s : Shared) (H : Hp) (args : Args) (us : List Value) (vs : List V) (Q : VK) (E : XK) (a : Addr), L2H.RoomH k A → A.handled = some (.ref a) → HotH a H → Env0 P w K mg base A outer s H → BindsTo s fd args (ps.zip us) → Vals vs us → sp a vs H Q E →
    codeAny (model P w) A (.call (.ref f) args) (CR CX outer P w H s Q E) s
/-- the body's context -/
def cxT (CX : CXT) (P : Program) (w : World) (K : PySem.W.Frag) (mg : Str → Option Value) (base : Heap) (N : List Str) (qual : Str) (scope : Scope) (f : Addr) (cd : Value) (A : Around) (outer : List Env) (s : Shared) (H : Hp) (E : XK) : Cx :=
  { cxOf CX P w K mg base N qual scope f cd A outer s H E with calm := false }
section
variable {P : Program} {w : World} {K : PySem.W.Frag} {mg : Str → Option Value} {base : Heap} {CX : CXT}
theorem inv_startT {N ps : List Str} {qual : Str} {scope : Scope} {f : Addr} {cd : Value} {A : Around} {outer : List Env} {s s1 : Shared} {H : Hp} {E : XK} {us : List Value} {vs : List V} (S : FnScope N ps scope) (e0 : Env0 P w K mg base A outer s H) (hl : vs.length = ps.length) (r : Vals vs us)
    (x : InCallC s s.heap.objs.size (bindL (envOfC qual scope s.heap.objs.size f cd).kindOf (ps.zip us) fun _ => none) (cellsFrom (s.heap.objs.size + 1) scope.names []) (bindC (envOfC qual scope s.heap.objs.size f cd).kindOf (ps.zip us) fun _ => none) s1) :
    Inv (cxT CX P w K mg base N qual scope f cd A outer s H E) [] (L2.start N vs) H s1 := by
  obtain ⟨oG, es, ep, hG, hd, _⟩ := e0.mod.glob
  have b0 := e0.bs _ _ hG
  have pin : L2H.PinOk outer H s (mainGlobals, oG) := ⟨b0.1, b0.2, fun hm => (by
    have z := (e0.funs.mem hm).1
    rw [hG] at z
    cases z), fun v z => (by
    have z : oG.data = .cell v := z
    rw [hd] at z
    cases z)⟩
  have I := L2H.inv_startH (CX := CX) (E := E) S pin e0 hl r x
  refine ⟨(Cx.Ok.toTry I.ok [] (cxT CX P w K mg base N qual scope f cd A outer s H E).xe), I.os, I.bare, I.base, I.loc, I.cell, I.free, I.freeC, fun p hp => ?_, I.hok, I.len⟩
  exact absurd (show p ∈ ([] : List (Addr × Obj)) ++ [] from hp) (by simp)
theorem fn_ofT {k : Nat} {f : Addr} {name qual : Str} {params : Arguments} {body : List Stmt} {scope : Scope} {dV kV doc pm cdv ct oc : Value} {an od : Option Addr} {osl : Array (Option Value)} {N ps : List Str} {sp : Addr → Sp}
    (lk : K.lookup f = some ⟨oc, od, .func (PySem.W.fnOf name qual params body scope dV kV doc pm an cdv ct), osl⟩) (hcd : PySem.W.codeIn K cdv qual = true) (S : FnScope N ps scope) (len : ∀ a vs H Q E, sp a vs H Q E → vs.length = ps.length)
    (hbody : ∀ (A : Around) (outer : List Env) (s : Shared) (H : Hp) (vs : List V) (Q : VK) (E : XK) (a : Addr), A.handled = some (.ref a) → HotH a H → L2H.RoomH k (A.deeper (envOfC qual scope s.heap.objs.size f cdv)) → sp a vs H Q E →
      ∃ t, PSs (cxT CX P w K mg base N qual scope f cdv A outer s H E) body t ∧ t { nx := fun _ H' => Q .non H', rt := Q } (L2.start N vs) H) :
    FnT P w K mg base CX (k + 1) f (PySem.W.fnOf name qual params body scope dV kV doc pm an cdv ct) ps sp := by
  refine ⟨len, ?_⟩
  intro A outer s H args us vs Q E a hr hot hh e0 hb r hsp
  have hl := len _ _ _ _ _ hsp
  have KX : K.In s.heap := e0.mod.kin.keeps fun b o e => (e0.bs b o e).1
  have lim : s.heap.NoLimit := e0.mod.nolimit.keeps fun b o e => (e0.bs b o e).1
  refine codeAny_call_function hr.depth (KX _ _ lk) rfl S.co S.gen rfl (PySem.W.codeRec_of KX hcd) (hb _ _ _ _ ?_)
  refine wpAny_newFunctionEnv_cells S.kind (fun ⟨n, v⟩ hy => ?_) fun env he s1 x => ?_
  · rcases S.par n (List.of_mem_zip hy).1 with q | q
    · exact .inl q
    · exact .inr ⟨q, PySem.W.cellsFrom_some _ _ _ (.inl q)⟩
  subst he
  refine ⟨lim.keeps x.toInCall.keep, codeAny_func ?_⟩
  obtain ⟨t, ht, hq⟩ := hbody A outer s H vs Q E a hot hh (hr.deeper _) hsp
  refine wpAny_mono (ht.run [] s1 (L2.start N vs) H _ (inv_startT S e0 hl r x) hq) (fun fl s' hs => ?_) fun e s' hs => hs
  have fin : ∀ {σ' : L2.St} {H' : Hp} {v : V} {u : Value}, Inv (cxT CX P w K mg base N qual scope f cdv A outer s H E) [] σ' H' s' → RelV v u → Q v H' → CE outer P w H s Q u s' := by
    intro σ' H' v u J rv q
    exact ⟨v, H', J.os, J.bare, J.base, J.hok, rv, q⟩
  cases fl with
  | ret u =>
    obtain ⟨v, σ', H', J, rv, q⟩ := hs
    exact fin J rv q
  | next =>
    obtain ⟨σ', H', J, q⟩ := hs
    exact fin (v := V.non) (u := Value.none) J rfl q
  | brk =>
    obtain ⟨_, _, _, q⟩ := hs
    exact False.elim q
  | cont =>
    obtain ⟨_, _, _, q⟩ := hs
    exact False.elim q
theorem FunT_ok {x qual : Str} {st : Stmt} {f : Addr} {fd : FuncData} {N ps : List Str} {k : Nat} {sp : Addr → Sp} (F : Fun K x qual st f fd) (S : FnScope N ps (defScope st)) (len : ∀ a vs H Q E, sp a vs H Q E → vs.length = ps.length)
    (hbody : ∀ (cdv : Value) (A : Around) (outer : List Env) (s : Shared) (H : Hp) (vs : List V) (Q : VK) (E : XK) (a : Addr), A.handled = some (.ref a) → HotH a H → L2H.RoomH k (A.deeper (envOfC qual (defScope st) s.heap.objs.size f cdv)) → sp a vs H Q E →
      ∃ t, PSs (cxT CX P w K mg base N qual (defScope st) f cdv A outer s H E) (defBody st) t ∧ t { nx := fun _ H' => Q .non H', rt := Q } (L2.start N vs) H) : FnT P w K mg base CX (k + 1) f fd ps sp := by
  obtain ⟨oc, od, kV, doc, pm, an, cdv, ct, osl, rfl, lk, hcd⟩ := F.ex
  exact fn_ofT lk hcd S len fun A outer s H vs Q E a hot hh hr hsp => hbody cdv A outer s H vs Q E a hot hh hr hsp
/-- defs that keep promises there, by name -/
def HasT (P : Program) (w : World) (K : PySem.W.Frag) (mg : Str → Option Value) (base : Heap) (x : Str) (k : Nat) (ps : List Str) (sp : Addr → Sp) : Prop :=
  ∃ f fd, FnT P w K mg base CX0 k f fd ps sp ∧ mg x = some (.ref f) ∧ PySem.W.keepIn K (.ref f) = true ∧ Binds K fd ps []
end
section
variable {X : Cx} {k j : Nat} {ps : List Str} {sp : Addr → Sp} {x : Str} {p pos : Pos} {e : Expr} {es : List Expr} {t : TA} {hd : Addr}
/-- f(..), where what stands at hd is being handled -/
def tCallT (hd : Addr) (sp : Addr → Sp) (t : TA) : TE := fun σ H Q => t σ H fun vs H1 => HotH hd H1 ∧ sp hd vs H1 Q E0
theorem pe_ht (h : HasT X.prog X.w X.K X.mg X.base x k ps sp) (hr : L2H.RoomH j X.A) (hot : X.A.handled = some (.ref hd)) (ha : PA X (e :: es) t) (hkj : k ≤ j := by decide) (hg : Gl X x := by rfl) (hdb : (x == ("__debug__" : Str)) = false := by decide)
    (he : starEach (e :: es) X.env = (false, eval e X.env) :: starEach es X.env := by rfl) (hpl : (backTo pos (starEach es X.env)).any (·.1) = false := by rfl) :
    PE X (.Call (.Name x p) (e :: es) [] pos) (tCallT hd sp t) := by
  obtain ⟨f, fd, F, g, kp, b⟩ := h
  refine ⟨fun pins s σ H Q I h => ?_⟩
  refine wpAny_Call_Name_kw (ld_glob I hg g ?_ hdb)
  refine PySem.W.callWith_K (h₀ := X.base) I.ok.mod.kin kp (thn (ha.run pos pins s σ H _ I h) fun us s1 ⟨vs, H1, I1, r, hh, q⟩ => ⟨I1.kIn, ?_⟩) he hpl
  have hl : us.length = ps.length := by
    rw [← r.length]
    exact F.len _ _ _ _ _ q
  have bb := b s1 us I1.kIn (by rw [List.append_nil]; exact hl)
  rw [List.append_nil] at bb
  refine wpAny_call (codeAny_mono (F.run X.A X.stack s1 H1 ⟨us, []⟩ us vs Q E0 hd (hr.mono hkj) hot hh I1.env0 bb r q) fun r s' hq => ?_)
  cases r with
  | error e => exact False.elim hq
  | ok fl =>
    cases fl with
    | ret u => exact I1.after hq
    | next => exact False.elim hq
    | brk => exact False.elim hq
    | cont => exact False.elim hq
end
/-! ### comprehensions -/
/-- an iterator's turns, there: its end asks for what is handled -/
def ItHot (hd : Addr) (J : It) : It := { go := J.go, yld := J.yld, stop := fun i H => J.stop i H ∧ HotH hd H }
structure TurnT (P : Program) (w : World) (K : PySem.W.Frag) (hd : Addr) (tg : Expr) (J : It) (fp : List Addr) (it : Addr) (tn : Nat → Heap → Prop) : Prop where
  mem : it ∈ fp
  obj : ∀ i h, tn i h → ∀ b ∈ fp, ∃ o, h.get? b = some o ∧ ∀ v, o.data ≠ .cell v
  keep : ∀ i h h', tn i h → (∀ b ∈ fp, ∀ o, h.get? b = some o → h'.get? b = some o) → tn i h'
  item : ∀ (X : Cx), X.prog = P → X.w = w → X.K = K → X.A.handled = some (.ref hd) → ∀ (i : Nat) (pins : List (Addr × Obj)) (s : Shared) (σ : L2.St) (H : Hp) (E : Value → Shared → Prop), Inv X pins σ H s → (∀ b ∈ fp, FpOk X pins H b) → tn i s.heap → J.go i H →
    wpAny (model P w) X.A (pyNext (.ref it)) (fun r s1 => ∃ u, r = some u ∧
      wpAny (model P w) X.A (letOwnedTupleGo tg (.ref it) u) (fun _ s2 => ∃ x H', Inv X pins σ H' s2 ∧ RelV x u ∧ J.yld i H x H' ∧ tn (i + 1) s2.heap ∧ ∀ b ∈ fp, H' b = none) E s1) E s
  done : ∀ (X : Cx), X.prog = P → X.w = w → X.K = K → X.A.handled = some (.ref hd) → ∀ (i : Nat) (pins : List (Addr × Obj)) (s : Shared) (σ : L2.St) (H : Hp) (E : Value → Shared → Prop), Inv X pins σ H s → (∀ b ∈ fp, FpOk X pins H b) → tn i s.heap → J.stop i H → HotH hd H →
    wpAny (model P w) X.A (pyNext (.ref it)) (fun r s1 => r = none ∧ Inv X pins σ H s1) E s
  self : ∀ (A : Around) (i : Nat) (s : Shared) (Q : Value → Shared → Prop) (E : Value → Shared → Prop), tn i s.heap → Q (.ref it) s → wpAny (model P w) A (pyIter (.ref it)) Q E s
theorem turn_rangeT {P : Program} {w : World} {K : PySem.W.Frag} {hd : Addr} {tg : Expr} (it : Addr) (lo : Int) (n : Nat) : TurnT P w K hd tg (Itr lo n) [it] it (fun i h => IsRangeIter h it (lo + (i : Nat) * 1) ((n : Int) - (i : Nat)) 1) where
  mem := by simp
  obj := by
    intro i h st b hb
    obtain rfl : b = it := by simpa using hb
    refine ⟨_, st, fun v z => ?_⟩
    have z' : Data.fields _ = Data.cell v := z
    cases z'
  keep := fun i h h' st k => k it (by simp) _ st
  item := by
    intro X hP hw hK hc i pins s σ H E I hf st hg
    subst hP hw hK
    obtain ⟨f0, f1, f2, f3, f4, f5⟩ := hf it (by simp)
    have hlt : i < n := hg
    refine wpAny_pyNext_range_item st (by omega) fun h' st' sb => ?_
    have e1 : lo + ((i : Nat) : Int) * 1 + 1 = lo + ((i + 1 : Nat) : Int) * 1 := by omega
    have e2 : (n : Int) - ((i : Nat) : Int) - 1 = (n : Int) - ((i + 1 : Nat) : Int) := by omega
    rw [e1, e2] at st'
    have J1 : Inv X pins σ H { s with heap := h', toks := s.toks + 1 } := I.turned (fun b o hb e => (sb.2 b hb).trans e) f0 f1 f3 f4 f5
    refine ⟨_, rfl, go_of (s := { s with heap := h', toks := s.toks + 1 }) (n := "range_iterator") st' rfl rfl (by decide) ⟨.int (lo + i), H, J1, ⟨s.toks, ?_⟩, ⟨rfl, rfl⟩, st', fun b hb => (hf b hb).1⟩⟩
    rw [Int.mul_one]
  done := by
    intro X hP hw hK hc i pins s σ H E I hf st hg hh
    subst hP hw hK
    obtain ⟨f0, f1, f2, f3, f4, f5⟩ := hf it (by simp)
    obtain ⟨cls, d, ea⟩ := hh
    exact HotX.pyNext_range_end_hot (exH_hot I.hok ea hc) st (by have : n ≤ i := hg; omega) fun h' eb => ⟨rfl, I.turned (t' := s.toks) (fun b o _ e => eb b o e) f0 f1 f3 f4 f5⟩
  self := fun _ _ _ _ _ st h => wpAny_pyIter_rangeiter st h
def PIET (X : Cx) (hd : Addr) (pins : List (Addr × Obj)) (σ : L2.St) (tg : Expr) (R : It → Hp → Prop) (itv : Value) (s2 : Shared) : Prop :=
  ∃ (it : Addr) (fp : List Addr) (tn : Nat → Heap → Prop) (J : It) (H' : Hp), itv = .ref it ∧ Inv X pins σ H' s2 ∧ TurnT X.prog X.w X.K hd tg J fp it tn ∧ tn 0 s2.heap ∧ (∀ b ∈ fp, FpOk X pins H' b) ∧ R (ItHot hd J) H'
structure PIT (X : Cx) (hd : Addr) (tg iter : Expr) (wi : TI) : Prop where
  run : ∀ (pins : List (Addr × Obj)) (s : Shared) (σ : L2.St) (H : Hp) (R : It → Hp → Prop), Inv X pins σ H s → wi σ H R →
    wpAny (model X.prog X.w) X.A (eval iter X.env) (fun v s1 => wpAny (model X.prog X.w) X.A (pyIter v) (PIET X hd pins σ tg R) X.xe s1) X.xe s
/-- range(n) there -/
def iRngT (hd : Addr) (ta : TA) : TI := fun σ H R => ta σ H fun vs H1 => ∃ n : Nat, vs = [.int n] ∧ n ≤ 1000 ∧ R (ItHot hd (Itr 0 n)) H1
theorem pi_rangeT {X : Cx} {hd : Addr} {tg : Expr} {a : Expr} {ta : TA} {p pos : Pos} (hg : Gl X "range") (hm : X.mg "range" = none) (ha : PA X [a] ta) (hs : starEach [a] X.env = [(false, eval a X.env)] := by rfl) : PIT X hd tg (.Call (.Name "range" p) [a] [] pos) (iRngT hd ta) := by
  refine ⟨fun pins s σ H R I h => ?_⟩
  refine Call_ (ld_blt I hg hm boot_range (PyProof.Rows.callWith_type1 (thn (ha.run pos pins s σ H _ I h) fun us s1 hh => ?_) hs rfl))
  obtain ⟨vs, H1, J1, r1, n, e, hn, q⟩ := hh
  subst e
  obtain ⟨u, rfl, t, rfl⟩ := vals1 r1
  refine call_range_1 ?_
  refine wpAny_pyIter_range (IsRange.new ..) (small_one (by omega) (by omega) (by omega) (by omega)) ?_
  have J2 : Inv X pins σ H1 { s1 with heap := s1.heap.push { cls := .type "range", data := .fields #[.int 0 s1.toks, .int n t, .int 1 (s1.toks + 1)] }, toks := s1.toks + 2 } := J1.kept fun b o e => Heap.get?_push_of_some _ e
  refine ⟨_, [_], _, _, H1, rfl, J2.kept (t' := s1.toks + 2) fun b o e => Heap.get?_push_of_some _ e, turn_rangeT _ 0 n, ?_, fun b hb => ?_, q⟩
  · have e2 : ((n : Int)) - ((0 : Nat) : Int) = Builtin.Range.rangeSize 0 n 1 := by rw [rangeSize_one]; split <;> omega
    show IsRangeIter _ _ ((0 : Int) + ((0 : Nat) : Int) * 1) ((n : Int) - ((0 : Nat) : Int)) 1
    rw [e2]
    exact Heap.get?_push_size _ rfl
  · obtain rfl := List.mem_singleton.mp hb
    exact J2.fpOk (Nat.le_refl _) (J2.hok.fresh (Nat.le_refl _))
end Wl

/-! [e for x in it if ..] where an exception is being handled. -/
namespace Wl
open PySem PySem.Spec PyProof.Rows L2
section
variable {X : Cx} {hd : Addr}
theorem lcT_core {pins : List (Addr × Obj)} {s : Shared} {σ : L2.St} {H : Hp} {Q : VK} {elt tg iter : Expr} {ifs : List Expr} {scope : Scope} {own : List (Str × Nat)} {pos pos' : Pos} {wi : TI} {g : TG} {tt : TT} {te : TE} {use : Option (Value → Sem Unit)} {Qf : Value → Shared → Prop}
    (hot : X.A.handled = some (.ref hd)) (hN : X.N.Nodup) (I : Inv X pins σ H s) (hi : PIT X hd tg iter wi) (ok : BlkOk X.N X.env.scope scope own)
    (hg : ∀ (s : Shared) (H : Hp) (C : Addr) (cl : List (Str × Addr)) (fp : List Addr), PG (X.blk s H scope (compEnvC scope cl C X.env) fp) tg g)
    (ht : ∀ (s : Shared) (H : Hp) (C : Addr) (cl : List (Str × Addr)) (fp : List Addr), PTs (X.blk s H scope (compEnvC scope cl C X.env) fp) ifs tt)
    (he : ∀ (s : Shared) (H : Hp) (C : Addr) (cl : List (Str × Addr)) (fp : List Addr), PE (X.blk s H scope (compEnvC scope cl C X.env) fp) elt te) (hs : ∀ x, foldedSetIterable iter X.env x = pure x) (h : tLc wi g tt te (own.map (·.2)) σ H Q)
    (hEnd : ∀ L C s' m H', Inv X pins σ H' s' → Q (.ref L) H' → s'.heap.Ns C m → FpOk X pins H' C → compPost (model X.prog X.w) X.A X.xe use Qf (.ref L) C (.ok .next) s') :
    wpAny (model X.prog X.w) X.A (comprehension (.ListComp elt [⟨tg, iter, ifs, 0⟩] scope pos) scope X.env pos' (newList []) false (eval iter X.env) use) Qf X.xe s := by
  refine wpAny_comprehension_free (use := use) rfl hs (closure_ok fun y hy e => ?_) ok.kind (fun y hy e => by rw [ok.uniq y hy, e]) (thn (hi.run pins s σ H _ I h) fun xv sA hx => thn hx fun itv sB hB => ?_)
  · exact (ok.free y hy e).elim (fun k => I.ok.has _ (.inl k)) (fun k => I.ok.has _ (.inr k))
  obtain ⟨it, fp, tn, J, HB, ei, IB, T, stB, fB, q⟩ := hB
  subst ei
  refine wpAny_newObj_type (newEnv_comp ?_) (by show 0 ≤ sizeLine; decide)
  generalize hL : sB.heap.objs.size = L
  have hLn : HB L = none := IB.hok.fresh (Nat.le_of_eq hL)
  obtain ⟨W, ⟨m0, w0⟩, turn⟩ := q L hLn
  generalize hsC : ({ sB with heap := sB.heap.push { cls := .type "list", data := .seq ([] : List Value).toArray } } : Shared) = sC
  have IC : Inv X pins σ (upd HB L (.lst [])) sC := by
    subst hsC
    refine IB.laid (t' := sB.toks) (fun b o e => Heap.get?_push_of_some _ e) (Nat.le_of_eq hL) ⟨Nat.zero_le _, [], 0, .nil, ?_⟩
    subst hL
    exact Heap.get?_push_size _ rfl
  have eC : sC.heap = sB.heap.push { cls := .type "list", data := .seq ([] : List Value).toArray } := by rw [← hsC]
  have fC : ∀ b ∈ fp, FpOk X pins (upd HB L (.lst [])) b ∧ b < sC.heap.objs.size := by
    intro b hb
    obtain ⟨o, e, _⟩ := T.obj _ _ stB b hb
    have hlt : b < sB.heap.objs.size := Heap.lt_size e
    refine ⟨⟨?_, (fB b hb).2⟩, by rw [eC, Heap.size_push]; exact Nat.lt_succ_of_lt hlt⟩
    rw [upd_ne (by rw [← hL]; exact Nat.ne_of_lt hlt)]
    exact (fB b hb).1
  have stC : tn 0 sC.heap := T.keep _ _ _ stB fun b _ o e => by rw [eC]; exact Heap.get?_push_of_some _ e
  have ID := block_start IC ok hN fC
  have pg := hg sC (upd HB L (.lst [])) sC.heap.objs.size (cellsFrom (sC.heap.objs.size + 1) scope.names (cloFrom X.env.cells scope.names [])) fp
  have pt := ht sC (upd HB L (.lst [])) sC.heap.objs.size (cellsFrom (sC.heap.objs.size + 1) scope.names (cloFrom X.env.cells scope.names [])) fp
  have pe := he sC (upd HB L (.lst [])) sC.heap.objs.size (cellsFrom (sC.heap.objs.size + 1) scope.names (cloFrom X.env.cells scope.names [])) fp
  show codeAny _ _ (.compStart (.ListComp elt [⟨tg, iter, ifs, 0⟩] scope pos) 0 (.ref it) (.ref L) (compEnvC scope (cellsFrom (sC.heap.objs.size + 1) scope.names (cloFrom X.env.cells scope.names [])) sC.heap.objs.size X.env)) (compPost (model X.prog X.w) X.A X.xe use Qf (.ref L) sC.heap.objs.size) { sC with heap := pushCells (sC.heap.push { cls := .type "dict", data := .dict #[] }) scope.names }
  have nfp : ∀ b ∈ fp, (upd HB L (.lst [])) b = none := fun b hb => (fC b hb).1.1
  generalize hce : compEnvC scope (cellsFrom (sC.heap.objs.size + 1) scope.names (cloFrom X.env.cells scope.names [])) sC.heap.objs.size X.env = ce at ID pg pt pe ⊢
  have cL : ce.locals = sC.heap.objs.size := by subst hce; rfl
  generalize hHC : upd HB L (.lst []) = HC at IC ID pg pt pe w0 nfp fC
  generalize hsD : ({ sC with heap := pushCells (sC.heap.push { cls := .type "dict", data := .dict #[] }) scope.names } : Shared) = sD at ID ⊢
  have stD : tn 0 sD.heap := T.keep _ _ _ stC fun b _ o e => by rw [← hsD]; exact pushCells_keeps _ _ _ _ (Heap.get?_push_of_some _ e)
  have stat : ∀ {σ' : L2.St} {H' : Hp} {s' : Shared}, Inv (X.blk sC HC scope ce fp) [] σ' H' s' → (∀ b ∈ fp, H' b = none) → ∀ b ∈ fp, FpOk (X.blk sC HC scope ce fp) [] H' b := by
    intro σ' H' s' I' hn b hb
    exact ⟨hn b hb, (I'.ok.exf b hb).1, I'.ok.exfs b hb, .inl hb, fun x c e => (I'.ok.exf b hb).2 x c e, fun p hp => absurd (show p ∈ ([] : List (Addr × Obj)) ++ [] from hp) (by simp)⟩
  have loop : codeAny (model X.prog X.w) X.A (.compLoop (.ListComp elt [⟨tg, iter, ifs, 0⟩] scope pos) 0 (.ref it) (.ref L) ce) (compPost (model X.prog X.w) X.A X.xe use Qf (.ref L) sC.heap.objs.size) sD := by
    refine compLoop_any (fun n s' => ∃ i H', Inv (X.blk sC HC scope ce fp) [] (wipe σ (own.map (·.2))) H' s' ∧ tn i s'.heap ∧ (∀ b ∈ fp, H' b = none) ∧ W i n H') ?_ m0 ⟨0, HC, ID, stD, nfp, w0⟩
    rintro n sE ⟨i, HE, IE, stE, nE, wE⟩
    rcases turn i n HE wE with ⟨stop, qq⟩ | ⟨go, Nx, hNx, step⟩
    · have td := T.done (X.blk sC HC scope ce fp) rfl rfl rfl hot i [] sE _ HE (fun _ _ => False) IE (stat IE nE) stE stop.1 stop.2
      refine thnF td fun r sF ⟨hr, IF⟩ => ?_
      subst hr
      have IG : Inv X pins σ HE sF := IC.call' (ch := fp) IF.os IF.base IF.hok IF.bare fun b hb => ⟨(fC b hb).1.2.2.2.1, (fC b hb).1.2.1, (fC b hb).1.2.2.2.2.1, (fC b hb).1.2.2.2.2.2⟩
      have nC : HE sC.heap.objs.size = none := by
        have z : HE ce.locals = none := IF.free
        rw [cL] at z
        exact z
      obtain ⟨m, hn, _⟩ := IF.loc
      have hn : sF.heap.Ns ce.locals m := hn
      rw [cL] at hn
      exact hEnd L sC.heap.objs.size sF m HE IG qq hn (IC.fpOk (Nat.le_refl _) nC)
    · have ti := T.item (X.blk sC HC scope ce fp) rfl rfl rfl hot i [] sE _ HE (fun _ _ => False) IE (stat IE nE) stE go
      refine thnF ti fun r sF ⟨u, hr, hF⟩ => ?_
      subst hr
      refine thnF hF fun _ sG ⟨x, HG, IG, rG, yG, stG, nG⟩ => ?_
      have IG' := IG.pinned (stat IG nG) (T.obj _ _ stG)
      refine thnF (pg.run _ sG _ HG x u _ IG' rG (step x HG yG)) fun _ sK ⟨σK, HK, IK, hwK, qK⟩ => ?_
      refine thnF (pt.run _ sK σK HK _ IK qK) fun b sM ⟨HM, IM, qM⟩ => ?_
      have fin : ∀ {s' : Shared} {H' : Hp}, Inv (X.blk sC HC scope ce fp) ([] ++ pinsAt fp sG.heap) σK H' s' → Nx H' → ∃ m, m < n ∧ ∃ i H', Inv (X.blk sC HC scope ce fp) [] (wipe σ (own.map (·.2))) H' s' ∧ tn i s'.heap ∧ (∀ b ∈ fp, H' b = none) ∧ W i m H' := by
        intro s' H' I' nx
        obtain ⟨m', hm, w'⟩ := hNx H' nx
        have pin' : ∀ b ∈ fp, ∀ o, sG.heap.get? b = some o → s'.heap.get? b = some o ∧ H' b = none := fun b hb o e =>
          have z := I'.pin (b, o) (List.mem_append_right _ (List.mem_append_right _ (mem_pinsAt hb e)))
          ⟨z.1, z.2.1⟩
        have hl : (wipe σ (own.map (·.2))).length = σK.length := by rw [← hwK, wipe_length]
        refine ⟨m', hm, i + 1, H', (I'.unpinned (pins := [])).weak hl (fun j v e => ?_), T.keep _ _ _ stG fun b hb o e => (pin' b hb o e).1, fun b hb => ?_, w'⟩
        · rw [← hwK] at e
          exact (wipe_some e).1
        · obtain ⟨o, e, _⟩ := T.obj _ _ stG b hb
          exact (pin' b hb o e).2
      cases b with
      | false =>
        simp only [Bool.false_eq_true, if_false] at qM ⊢
        exact fin IM qM
      | true =>
        simp only [if_true] at qM ⊢
        refine thnF (pe.run _ sM σK HM _ IM qM) fun z sO ⟨yv, HO1, IO, rO, acc, hDO, hzO, nx⟩ => ?_
        exact app_ok (X := X.blk sC HC scope ce fp) IO hDO hzO rO fun sP IP => fin IP nx
  exact codeAny_compStart_list loop (T.self X.A 0 _ _ _ stD loop)
theorem pe_lcT {elt tg iter : Expr} {ifs : List Expr} {scope : Scope} {own : List (Str × Nat)} {pos : Pos} {wi : TI} {g : TG} {tt : TT} {te : TE} (hot : X.A.handled = some (.ref hd)) (hN : X.N.Nodup) (hi : PIT X hd tg iter wi) (ok : BlkOk X.N X.env.scope scope own)
    (hg : ∀ (s : Shared) (H : Hp) (C : Addr) (cl : List (Str × Addr)) (fp : List Addr), PG (X.blk s H scope (compEnvC scope cl C X.env) fp) tg g)
    (ht : ∀ (s : Shared) (H : Hp) (C : Addr) (cl : List (Str × Addr)) (fp : List Addr), PTs (X.blk s H scope (compEnvC scope cl C X.env) fp) ifs tt)
    (he : ∀ (s : Shared) (H : Hp) (C : Addr) (cl : List (Str × Addr)) (fp : List Addr), PE (X.blk s H scope (compEnvC scope cl C X.env) fp) elt te) (hs : ∀ x, foldedSetIterable iter X.env x = pure x := by intro _; rfl) :
    PE X (.ListComp elt [⟨tg, iter, ifs, 0⟩] scope pos) (tLc wi g tt te (own.map (·.2))) := by
  refine ⟨fun pins s σ H Q I h => ?_⟩
  rw [eval_ListComp]
  refine lcT_core hot hN I hi ok hg ht he hs h fun L C s' m H' I' q hn f => ⟨m, hn, fun h'' sb => ?_⟩
  obtain ⟨u0, u1, u2, u3, u4, u5⟩ := f
  exact ⟨.ref L, H', I'.turned (t' := s'.toks) (fun b o hb e => (sb.2 b hb).trans e) u0 u1 u3 u4 u5, rfl, q⟩
end
theorem walk_rangeT {a : Addr} {n : Nat} : L2.Walk (ItHot a (Itr 0 n)) n (HotH a) (YFn fun i => .int ((0 : Int) + i)) :=
  ⟨fun _ _ hi _ => hi, fun _ h => ⟨Nat.le_refl _, h⟩, fun _ _ _ _ _ _ y => y⟩
section
variable {a : Addr} {n slot : Nat} {te : TE} {vs : List Nat} {σ : L2.St} {H1 : Hp} {D : Addr} {Qd : Hp → Prop}
theorem lc_rangeT (hD : H1 D = none) (hot : HotH a H1) (f : Nat → V) (hw : ∀ x, wipe ((wipe σ vs).set slot (some x)) vs = wipe σ vs)
    (he : ∀ (k : Nat) (H : Hp), k < n → Same H1 H → ∀ Q : VK, Q (f k) H → te ((wipe σ vs).set slot (some (.int ((0 : Int) + k)))) H Q) (hn : n ≤ 1000)
    (hd : ∀ H, Same H1 H → H D = some (.lst ((List.range n).map f)) → Qd H) :
    ∃ W : Nat → Nat → Hp → Prop, (∃ m, W 0 m (upd H1 D (.lst []))) ∧ ∀ i m H, W i m H →
      ((ItHot a (Itr 0 n)).stop i H ∧ Qd H) ∨ ((ItHot a (Itr 0 n)).go i H ∧ ∃ Nx : Hp → Prop, (∀ H', Nx H' → ∃ m', m' < m ∧ W (i + 1) m' H') ∧ ∀ x H', (ItHot a (Itr 0 n)).yld i H x H' → gName slot x (wipe σ vs) H' fun σ2 H2 => wipe σ2 vs = wipe σ vs ∧ tYes σ2 H2 fun b H3 =>
        if b = true then te σ2 H3 fun y H4 => ∃ acc, H4 D = some (.lst acc) ∧ acc.length < sizeLine ∧ Nx (upd H4 D (.lst (acc ++ [y]))) else Nx H3) := by
  refine lc_it walk_rangeT (fun i H => Same H1 H ∧ H D = some (.lst ((List.range i).map f))) ⟨same_new hD, upd_same⟩ (fun i H _ h => hot.same h.1) ?_ (fun H h => hd H h.1 h.2)
  rintro i x H H' hi ⟨s, hz⟩ ⟨rfl, rfl⟩
  refine ⟨hw _, yes_it (he i _ hi s _ ⟨_, hz, ?_, same_mut s hD, ?_⟩)⟩
  · rw [List.length_map, List.length_range]
    exact small1000 (by omega)
  · rw [upd_same, List.range_succ, List.map_append]
    rfl
end
end Wl

/-! Defs that may raise: promises put together, called by name, the wishes. -/
namespace Wl
open PySem PySem.Spec PyProof.Rows L2
section
variable {P : Program} {w : World} {K : PySem.W.Frag} {mg : Str → Option Value} {base : Heap} {f : Addr} {fd : FuncData} {ps : List Str} {k j : Nat} {sp sp' : Sp} {CX : CXT}
/-- a def that lets nothing out, where exceptions are told -/
theorem FnOk_x (F : FnOk P w K mg base CX0 k f fd ps sp) : FnOk P w K mg base (L2N.CX P w) k f fd ps sp :=
  ⟨F.len, fun A outer s H args us vs Q E hr e0 hb r h => codeAny_mono (F.run A outer s H args us vs Q E hr e0 hb r h) fun r s' z => by
    cases r with
    | error e => exact False.elim z
    | ok fl => cases fl <;> exact z⟩
/-- two promises of one def -/
theorem FnOk_or (F : FnOk P w K mg base CX k f fd ps sp) (G : FnOk P w K mg base CX j f fd ps sp') : FnOk P w K mg base CX (max k j) f fd ps (fun vs H Q E => sp vs H Q E ∨ sp' vs H Q E) := by
  refine ⟨fun vs H Q E h => h.elim (F.len vs H Q E) (G.len vs H Q E), fun A outer s H args us vs Q E hr e0 hb r h => ?_⟩
  rcases h with h | h
  · exact F.run A outer s H args us vs Q E (hr.mono (Nat.le_max_left _ _)) e0 hb r h
  · exact G.run A outer s H args us vs Q E (hr.mono (Nat.le_max_right _ _)) e0 hb r h
theorem FnOk_xor (F : FnOk P w K mg base CX0 k f fd ps sp) (G : FnOk P w K mg base (L2N.CX P w) k f fd ps sp') : FnOk P w K mg base (L2N.CX P w) k f fd ps (fun vs H Q E => sp vs H Q E ∨ sp' vs H Q E) := by
  have z := FnOk_or (FnOk_x F) G
  rwa [Nat.max_self] at z
/-- as Fun.ok, for a def that may raise; what it raises has no context -/
theorem Fun_okN {x qual : Str} {st : Stmt} {N : List Str} (F : Fun K x qual st f fd) (S : FnScope N ps (defScope st)) (len : ∀ vs H Q E, sp vs H Q E → vs.length = ps.length)
    (hbody : ∀ (cdv : Value) (A : Around) (outer : List Env) (s : Shared) (H : Hp) (vs : List V) (Q : VK) (E : XK), Room k (A.deeper (envOfC qual (defScope st) s.heap.objs.size f cdv)) → sp vs H Q E →
      ∃ t, PSs (cxOf (L2N.CX P w) P w K mg base N qual (defScope st) f cdv A outer s H E) (defBody st) t ∧ t { nx := fun _ H' => Q .non H', rt := Q } (L2.start N vs) H) : FnOk P w K mg base (L2N.CX P w) (k + 1) f fd ps sp := by
  obtain ⟨oc, od, kV, doc, pm, an, cdv, ct, osl, rfl, lk, hcd⟩ := F.ex
  exact fn_of lk hcd S len fun A outer s H vs Q E hr hsp => hbody cdv A outer s H vs Q E hr hsp
def HasX (P : Program) (w : World) (K : PySem.W.Frag) (mg : Str → Option Value) (base : Heap) (x : Str) (k : Nat) (ps : List Str) (sp : Sp) : Prop :=
  ∃ f fd, FnOk P w K mg base (L2N.CX P w) k f fd ps sp ∧ mg x = some (.ref f) ∧ PySem.W.keepIn K (.ref f) = true ∧ Binds K fd ps []
def HasMX (P : Program) (w : World) (K : PySem.W.Frag) (mg : Str → Option Value) (base : Heap) (C : Addr) (m : Str) (k : Nat) (ps : List Str) (sp : Sp) : Prop :=
  ∃ f fd, FnOk P w K mg base (L2N.CX P w) k f fd ps sp ∧ Meth K C m f ∧ Binds K fd ps []
end
section
variable {X : Cx} {k j : Nat} {C : Addr} {ps : List Str} {sp : Sp} {x m : Str} {p pos apos : Pos} {e o : Expr} {es : List Expr} {ta : TE} {t : TA} {W : WX} {E : XK}
/-- what is wished, whatever the slots hold -/
def EW (n : Nat) (W : WX) : XK := fun cls d H => ∀ σ : L2.St, σ.length = n → W cls d σ H
theorem passU {n : Nat} (tk : L2N.Takes X W) (hn : X.N.length = n) : Passes (L2N.CX X.prog X.w) X (EW n W) := fun _ σ _ _ e s' I c => tk e s' (L2N.XE.of_call I (fun _ _ _ h => h σ (I.len.trans hn)) c)
theorem passE (tk : L2N.Takes X (fun cls d _ H => E cls d H)) : Passes (L2N.CX X.prog X.w) X E := fun _ _ _ _ e s' I c => tk e s' (L2N.XE.of_call (W := fun cls d _ H => E cls d H) I (fun _ _ _ h => h) c)
theorem pe_hx (h : HasX X.prog X.w X.K X.mg X.base x k ps sp) (hr : Room j X.A) (hx : Passes (L2N.CX X.prog X.w) X E) (ha : PA X (e :: es) t) (hkj : k ≤ j := by decide) (hg : Gl X x := by rfl) (hdb : (x == ("__debug__" : Str)) = false := by decide)
    (he : starEach (e :: es) X.env = (false, eval e X.env) :: starEach es X.env := by rfl) (hpl : (backTo pos (starEach es X.env)).any (·.1) = false := by rfl) :
    PE X (.Call (.Name x p) (e :: es) [] pos) (tCall sp [] E t) := by
  obtain ⟨f, fd, F, g, kp, b⟩ := h
  exact pe_call F (hr.mono hkj) hg g kp b .nil hx ha hdb he hpl
theorem pe_hmx {pl : Sem Bool} (h : HasMX X.prog X.w X.K X.mg X.base C m k ps sp) (c : Cls X.K C) (hr : Room j X.A) (hx : Passes (L2N.CX X.prog X.w) X E) (ho : PE X o ta) (ha : PA X (e :: es) t) (hkj : k ≤ j := by decide)
    (hst : starEach (e :: es) X.env = (false, eval e X.env) :: starEach es X.env := by rfl) (hpl : (backTo pos (starEach es X.env)).any (·.1) = false := by rfl)
    (ht : eval (.Call (.Attribute o m apos) (e :: es) [] pos) X.env = (do
      let ov ← eval o X.env
      standAt apos.atName
      let (f, first) ← holding [ov] (getMethod ov m pl)
      callWith pos f first (backTo pos (starEach (e :: es) X.env)) (backToKw pos (keywordEach [] X.env))) := by rfl) :
    PE X (.Call (.Attribute o m apos) (e :: es) [] pos) (tMeth C m sp [] E ta t) := by
  obtain ⟨f, fd, F, g, b⟩ := h
  exact pe_meth ho c g F (hr.mono hkj) b .nil hx ha hst hpl ht
theorem pe_hmx0 {pl : Sem Bool} (h : HasMX X.prog X.w X.K X.mg X.base C m k ps sp) (c : Cls X.K C) (hr : Room j X.A) (hx : Passes (L2N.CX X.prog X.w) X E) (ho : PE X o ta) (hkj : k ≤ j := by decide)
    (ht : eval (.Call (.Attribute o m apos) [] [] pos) X.env = (do
      let ov ← eval o X.env
      standAt apos.atName
      let (f, first) ← holding [ov] (getMethod ov m pl)
      callWith pos f first (backTo pos (starEach [] X.env)) (backToKw pos (keywordEach [] X.env))) := by rfl) :
    PE X (.Call (.Attribute o m apos) [] [] pos) (tMeth C m sp [] E ta tNil) := by
  obtain ⟨f, fd, F, g, b⟩ := h
  exact pe_meth0 ho c g F (hr.mono hkj) b .nil hx ht
end
end Wl

/-! What the words' functions refuse. -/
namespace Wl
open PySem PySem.Spec PyProof.Rows L2
/-- an error of the class at C whose field f holds v -/
def Refuses (C : Addr) (f : Str) (v : V) (H : Hp) (E : XK) : Prop := ∀ (d : Addr) (H' : Hp), Same H H' → H' d = some (.xd [(f, v)]) → E (.ref C) (some d) H'
theorem Refuses.same {C : Addr} {f : Str} {v : V} {H H' : Hp} {E : XK} (h : Refuses C f v H E) (s : Same H H') : Refuses C f v H' E := fun d H2 s2 e => h d H2 (s.trans s2) e
theorem Refuses.new {C : Addr} {f : Str} {v : V} {H H' : Hp} {E : XK} (h : Refuses C f v H E) (s : Same H H') : ∀ d, H' d = none → E (.ref C) (some d) (upd H' d (.xd [(f, v)])) := fun d hd => h d _ (s.trans (same_new hd)) upd_same
/-- a thing of some kind -/
def OddV (H : Hp) (v : V) : Prop := (∃ z, v = .str z ∧ z.length ≤ 1000) ∨ v = .non ∨ (∃ b, v = .bl b) ∨ (∃ i, v = .int i) ∨ ∃ p, v = .ref p ∧ ((∃ xs, H p = some (.tup xs)) ∨ (∃ xs, H p = some (.lst xs)) ∨ ∃ kvs, H p = some (.dK kvs))
theorem OddV.same {H H' : Hp} {v : V} (h : OddV H v) (s : Same H H') : OddV H' v := by
  rcases h with h | h | h | h | ⟨p, e, ⟨xs, h⟩ | ⟨xs, h⟩ | ⟨xs, h⟩⟩
  · exact .inl h
  · exact .inr (.inl h)
  · exact .inr (.inr (.inl h))
  · exact .inr (.inr (.inr (.inl h)))
  · exact .inr (.inr (.inr (.inr ⟨p, e, .inl ⟨xs, s _ _ h⟩⟩)))
  · exact .inr (.inr (.inr (.inr ⟨p, e, .inr (.inl ⟨xs, s _ _ h⟩)⟩)))
  · exact .inr (.inr (.inr (.inr ⟨p, e, .inr (.inr ⟨xs, s _ _ h⟩)⟩)))
def wvB : V → Bool
  | .str z => wdB z
  | _ => false
theorem OddV.wv {K : PySem.W.Frag} {H : Hp} {v : V} (h : OddV H v) : Wv K H v (wvB v) := by
  rcases h with ⟨z, e, h⟩ | h | ⟨b, h⟩ | ⟨i, h⟩ | ⟨p, e, ⟨xs, h⟩ | ⟨xs, h⟩ | ⟨xs, h⟩⟩
  · subst e
    exact .inl ⟨z, rfl, h, rfl⟩
  · subst h
    exact .inr ⟨_, .base .non, kit_ty (r := false) (by decide +kernel), rfl⟩
  · subst h
    exact .inr ⟨_, .base (.bl b), kit_ty (r := false) (by decide +kernel), rfl⟩
  · subst h
    exact .inr ⟨_, .base (.int i), kit_ty (r := false) (by decide +kernel), rfl⟩
  · subst e
    exact .inr ⟨_, .base (.tup h), kit_ty (r := false) (by decide +kernel), rfl⟩
  · subst e
    exact .inr ⟨_, .base (.lst h), kit_ty (r := false) (by decide +kernel), rfl⟩
  · subst e
    exact .inr ⟨_, .base (.dK h), kit_ty (r := false) (by decide +kernel), rfl⟩
/-- is it a tuple, and of what; is it a text -/
theorem OddV.tupQ {K : PySem.W.Frag} {H : Hp} {v : V} (h : OddV H v) : (∃ p xs, v = .ref p ∧ H p = some (.tup xs)) ∨ ∃ t, TyX K H v t ∧ PySem.W.kitOne K t (.type "tuple") = some false := by
  rcases h with ⟨z, e, h⟩ | h | ⟨b, h⟩ | ⟨i, h⟩ | ⟨p, e, ⟨xs, h⟩ | ⟨xs, h⟩ | ⟨xs, h⟩⟩
  · subst e
    exact .inr ⟨_, .base (.str z), kit_ty (r := false) (by decide +kernel)⟩
  · subst h
    exact .inr ⟨_, .base .non, kit_ty (r := false) (by decide +kernel)⟩
  · subst h
    exact .inr ⟨_, .base (.bl b), kit_ty (r := false) (by decide +kernel)⟩
  · subst h
    exact .inr ⟨_, .base (.int i), kit_ty (r := false) (by decide +kernel)⟩
  · subst e
    exact .inl ⟨p, xs, rfl, h⟩
  · subst e
    exact .inr ⟨_, .base (.lst h), kit_ty (r := false) (by decide +kernel)⟩
  · subst e
    exact .inr ⟨_, .base (.dK h), kit_ty (r := false) (by decide +kernel)⟩
theorem OddV.strQ {K : PySem.W.Frag} {H : Hp} {v : V} (h : OddV H v) : (∃ z, v = .str z ∧ z.length ≤ 1000) ∨ ∃ t, TyX K H v t ∧ PySem.W.kitOne K t (.type "str") = some false ∧ wvB v = false := by
  rcases h.wv (K := K) with ⟨z, e, l, _⟩ | ⟨t, ty, k, e⟩
  · exact .inl ⟨z, e, l⟩
  · exact .inr ⟨t, ty, k, e⟩
section
variable {P : Program} {w : World} {K : PySem.W.Frag} {mg : Str → Option Value} {base : Heap} {f : Addr} {fd : FuncData} {cW cC : Addr}
/-! ### check_word -/
/-! ### is_letter, is_change of things of any kind -/
end
end Wl




namespace Wl
open PySem PySem.Spec PyProof.Rows L2
/-! o.m(e, .., k = v, ..) of a method that may leave some out. -/
def tMethN (C : Addr) (m : Str) (n j : Nat) (sp : Sp) (gV : List V → List V → List V) (E : XK) (ta : TE) (t tk : TA) : TE := fun σ H Q => ta σ H fun x H1 =>
  ∃ a dx fs, x = .ref a ∧ H1 a = some (.ins C dx fs) ∧ fs.lookup m = none ∧ t σ H1 fun vs H2 => tk σ H2 fun zs H3 => vs.length = n ∧ zs.length = j ∧ sp (gV (.ref a :: vs) zs) H3 Q E
section
variable {X : Cx} {CX : CXT} {k n : Nat} {f C : Addr} {fd : FuncData} {ps ks : List Str} {sp : Sp} {E : XK} {m : Str} {pos apos : Pos} {o e : Expr} {es : List Expr} {kws : List Keyword} {ta : TE} {t tk : TA} {pl : Sem Bool} {g : List Value → List Value → List Value} {gV : List V → List V → List V}
theorem pe_methN0 (he : PE X o ta) (c : Cls X.K C) (hm : Meth X.K C m f) (F : FnOk X.prog X.w X.K X.mg X.base CX k f fd ps sp) (hr : Room k X.A) (hb : KBn X.K fd ps 1 ks g gV) (hx : Passes CX X E) (hkw : PK X kws tk)
    (hall : (backToKw pos (keywordEach kws X.env)).all (·.1.isSome) = true := by rfl) (hks : (backToKw pos (keywordEach kws X.env)).filterMap (·.1) = ks := by rfl)
    (hpl : ((backTo pos (starEach [] X.env)).any (·.1) || (backToKw pos (keywordEach kws X.env)).any (·.1.isNone)) = false := by rfl)
    (ht : eval (.Call (.Attribute o m apos) [] kws pos) X.env = (do
      let ov ← eval o X.env
      standAt apos.atName
      let (f, first) ← holding [ov] (getMethod ov m pl)
      callWith pos f first (backTo pos (starEach [] X.env)) (backToKw pos (keywordEach kws X.env))) := by rfl) :
    PE X (.Call (.Attribute o m apos) [] kws pos) (tMethN C m 0 ks.length sp gV E ta tNil tk) := by
  refine ⟨fun pins s σ H Q I h => ?_⟩
  refine PySem.W.methodCall_KW (pl := pl) (thn (he.run pins s σ H _ I h) fun u s1 ⟨x, H1, I1, rx, a, dx, fs, ex, ea, l, q⟩ => ?_) ht
  subst ex
  obtain rfl : u = Value.ref a := rx
  refine getmeth_ok I1 ea c hm l ?_
  refine PySem.W.callWith_KW0 (first := [.ref a]) (h₀ := X.base) I.ok.mod.kin hm.kp hall (thn (hkw.run pos pins s1 σ H1 _ I1 q) fun ws s2 ⟨zs, H2, I2, rz, _, l2, q2⟩ => ⟨I2.kIn, ?_⟩) hpl
  rw [hks]
  exact run_fnN (us := [.ref a]) (vs := [.ref a]) F hr hb hx I2 (.cons rfl .nil) rz rfl l2 q2
theorem pe_methN (he : PE X o ta) (c : Cls X.K C) (hm : Meth X.K C m f) (F : FnOk X.prog X.w X.K X.mg X.base CX k f fd ps sp) (hr : Room k X.A) (hb : KBn X.K fd ps (n + 1) ks g gV) (hx : Passes CX X E) (ha : PA X (e :: es) t) (hkw : PK X kws tk)
    (hall : (backToKw pos (keywordEach kws X.env)).all (·.1.isSome) = true := by rfl) (hks : (backToKw pos (keywordEach kws X.env)).filterMap (·.1) = ks := by rfl)
    (hst : starEach (e :: es) X.env = (false, eval e X.env) :: starEach es X.env := by rfl)
    (hpl : ((backTo pos (starEach (e :: es) X.env)).any (·.1) || (backToKw pos (keywordEach kws X.env)).any (·.1.isNone)) = false := by rfl)
    (ht : eval (.Call (.Attribute o m apos) (e :: es) kws pos) X.env = (do
      let ov ← eval o X.env
      standAt apos.atName
      let (f, first) ← holding [ov] (getMethod ov m pl)
      callWith pos f first (backTo pos (starEach (e :: es) X.env)) (backToKw pos (keywordEach kws X.env))) := by rfl) :
    PE X (.Call (.Attribute o m apos) (e :: es) kws pos) (tMethN C m n ks.length sp gV E ta t tk) := by
  refine ⟨fun pins s σ H Q I h => ?_⟩
  refine PySem.W.methodCall_KW (pl := pl) (thn (he.run pins s σ H _ I h) fun u s1 ⟨x, H1, I1, rx, a, dx, fs, ex, ea, l, q⟩ => ?_) ht
  subst ex
  obtain rfl : u = Value.ref a := rx
  refine getmeth_ok I1 ea c hm l ?_
  refine PySem.W.callWith_KW (first := [.ref a]) (h₀ := X.base) I.ok.mod.kin hm.kp hall (thn (ha.run pos pins s1 σ H1 _ I1 q) fun us s2 ⟨vs, H2, I2, r, q2⟩ => ?_) hpl hst
  refine thn (hkw.run pos pins s2 σ H2 _ I2 q2) fun ws s3 ⟨zs, H3, I3, rz, l1, l2, q3⟩ => ⟨I3.kIn, ?_⟩
  rw [hks]
  exact run_fnN (us := .ref a :: us) (vs := .ref a :: vs) F hr hb hx I3 (.cons rfl r) rz (by rw [List.length_cons, l1]) l2 q3
end
/-! the ways to call put -/
/-- age, village, gatherer, word, teller, thing; sure left out -/
def gP1 {α : Type} : List α → List α → List α → List α
  | [s], [_, b], [ag, v, g, w, tl, th] => [s, v, th, w, tl, ag, g, b]
  | _, _, _ => []
/-- five by place, sure by name -/
def gP2 {α : Type} : List α → List α → List α → List α
  | [s, v, th, w, tl, ag], [g, _], [b] => [s, v, th, w, tl, ag, g, b]
  | _, _, _ => []
/-- all by name: sure, gatherer, age, teller, word, thing, village -/
def gP3 {α : Type} : List α → List α → List α → List α
  | [s], [_, _], [b, g, ag, tl, w, th, v] => [s, v, th, w, tl, ag, g, b]
  | _, _, _ => []
theorem gP1_rel {vs ds zs : List V} {us its ws : List Value} (r1 : Vals vs us) (r2 : Vals ds its) (r3 : Vals zs ws) : Vals (gP1 vs ds zs) (gP1 us its ws) := by
  rcases r1 with _ | ⟨a1, _ | ⟨_, _⟩⟩
  · exact .nil
  · rcases r2 with _ | ⟨b1, _ | ⟨b2, _ | ⟨_, _⟩⟩⟩
    · exact .nil
    · exact .nil
    · rcases r3 with _ | ⟨c1, _ | ⟨c2, _ | ⟨c3, _ | ⟨c4, _ | ⟨c5, _ | ⟨c6, _ | ⟨_, _⟩⟩⟩⟩⟩⟩⟩
      all_goals first | exact .nil | exact .cons a1 (.cons c2 (.cons c6 (.cons c4 (.cons c5 (.cons c1 (.cons c3 (.cons b2 .nil)))))))
    · exact .nil
  · exact .nil
theorem gP2_rel {vs ds zs : List V} {us its ws : List Value} (r1 : Vals vs us) (r2 : Vals ds its) (r3 : Vals zs ws) : Vals (gP2 vs ds zs) (gP2 us its ws) := by
  rcases r1 with _ | ⟨a1, _ | ⟨a2, _ | ⟨a3, _ | ⟨a4, _ | ⟨a5, _ | ⟨a6, _ | ⟨_, _⟩⟩⟩⟩⟩⟩⟩
  all_goals first | exact .nil | skip
  rcases r2 with _ | ⟨b1, _ | ⟨b2, _ | ⟨_, _⟩⟩⟩
  all_goals first | exact .nil | skip
  rcases r3 with _ | ⟨c1, _ | ⟨_, _⟩⟩
  all_goals first | exact .nil | exact .cons a1 (.cons a2 (.cons a3 (.cons a4 (.cons a5 (.cons a6 (.cons b1 (.cons c1 .nil)))))))
theorem gP3_rel {vs ds zs : List V} {us its ws : List Value} (r1 : Vals vs us) (r2 : Vals ds its) (r3 : Vals zs ws) : Vals (gP3 vs ds zs) (gP3 us its ws) := by
  rcases r1 with _ | ⟨a1, _ | ⟨_, _⟩⟩
  all_goals first | exact .nil | skip
  rcases r2 with _ | ⟨b1, _ | ⟨b2, _ | ⟨_, _⟩⟩⟩
  all_goals first | exact .nil | skip
  rcases r3 with _ | ⟨c1, _ | ⟨c2, _ | ⟨c3, _ | ⟨c4, _ | ⟨c5, _ | ⟨c6, _ | ⟨c7, _ | ⟨_, _⟩⟩⟩⟩⟩⟩⟩⟩
  all_goals first | exact .nil | exact .cons a1 (.cons c7 (.cons c6 (.cons c5 (.cons c4 (.cons c3 (.cons c2 (.cons c1 .nil)))))))
section
variable {K : PySem.W.Frag} {f : Addr} {fd : FuncData}
theorem put_b8 (F : FunP K f fd) : Binds K fd psPut [] := by
  obtain ⟨ds, h1, h2⟩ := F.binds1 (ps := psPut) 8 2 (by simp) rfl (fun T kV doc pm an cdv ct us its l1 l2 => by
      match us, its, l1, l2 with
      | [_, _, _, _, _, _, _, _], [_, _], _, _ => exact ⟨_, rfl, rfl⟩)
  cases h1
  exact h2
theorem put_b6 (F : FunP K f fd) : ∃ ds, Vals [V.str "self", V.bl true] ds ∧ Binds K fd psPut ds :=
  F.binds1 (ps := psPut) 6 0 (by simp) rfl (fun T kV doc pm an cdv ct us its l1 l2 => by
      match us, its, l1, l2 with
      | [_, _, _, _, _, _], [_, _], _, _ => exact ⟨_, rfl, rfl⟩)
theorem put_k1 (F : FunP K f fd) : ∃ its : List Value, KBn K fd psPut 1 ["age", "village", "gatherer", "word", "teller", "thing"] (fun us ws => gP1 us its ws) (fun vs zs => gP1 vs [.str "self", .bl true] zs) :=
  F.kbindsD 1 _ gP1 (by simp) gP1_rel (fun T kV doc pm an cdv ct us its ws l1 l2 l3 => by
      match us, its, ws, l1, l2, l3 with
      | [_], [_, _], [_, _, _, _, _, _], _, _, _ => exact ⟨_, rfl, rfl⟩)
theorem put_k2 (F : FunP K f fd) : ∃ its : List Value, KBn K fd psPut 6 ["sure"] (fun us ws => gP2 us its ws) (fun vs zs => gP2 vs [.str "self", .bl true] zs) :=
  F.kbindsD 6 _ gP2 (by simp) gP2_rel (fun T kV doc pm an cdv ct us its ws l1 l2 l3 => by
      match us, its, ws, l1, l2, l3 with
      | [_, _, _, _, _, _], [_, _], [_], _, _, _ => exact ⟨_, rfl, rfl⟩)
theorem put_k3 (F : FunP K f fd) : ∃ its : List Value, KBn K fd psPut 1 ["sure", "gatherer", "age", "teller", "word", "thing", "village"] (fun us ws => gP3 us its ws) (fun vs zs => gP3 vs [.str "self", .bl true] zs) :=
  F.kbindsD 1 _ gP3 (by simp) gP3_rel (fun T kV doc pm an cdv ct us its ws l1 l2 l3 => by
      match us, its, ws, l1, l2, l3 with
      | [_], [_, _], [_, _, _, _, _, _, _], _, _, _ => exact ⟨_, rfl, rfl⟩)
end
end Wl




namespace Wl
open PySem PySem.Spec PyProof.Rows L2
abbrev sTelRow : Stmt := topS 40
abbrev sGLen : Stmt := inClass sGat 11
abbrev sGStr : Stmt := inClass sGat 12
abbrev sGRepr : Stmt := inClass sGat 13
def ageS (n : Nat) : Str := (toString (n : Int) : String)
def partsS (t : Tel) : List Str := [t.v, t.th, t.wo, t.tl, ageS t.age, t.g]
def rowS (t : Tel) : Str := Txt.join (" " : Str) (if t.sure = true then partsS t else partsS t ++ [("?" : Str)])
theorem age_len {n : Nat} (h : n ≤ 120) : (ageS n).length ≤ 3 := by
  have : ∀ k : Fin 121, (ageS k.val).length ≤ 3 := by decide +kernel
  exact this ⟨n, by omega⟩
theorem age_log {n : Nat} (h : n ≤ 120) : (((n : Nat) : Int).natAbs).log2 < 1920 := by
  have : ((n : Nat) : Int).natAbs = n := Int.natAbs_natCast n
  rw [this]
  have h2 : n.log2 ≤ n := Nat.log2_le_self n
  omega
theorem parts_len {t : Tel} (h : OkT t) : ∀ z ∈ partsS t ++ [("?" : Str)], z.length ≤ 8 := fun z hz => by
  simp only [partsS, List.cons_append, List.nil_append, List.mem_cons, List.not_mem_nil, or_false] at hz
  rcases hz with rfl | rfl | rfl | rfl | rfl | rfl | rfl
  · exact h.v.len.2
  · exact h.th.len.2
  · exact h.wo.len.2
  · exact h.tl.len.2
  · have := age_len h.age
    omega
  · exact h.g.len.2
  · decide +kernel
section
variable {P : Program} {w : World} {K : PySem.W.Frag} {mg : Str → Option Value} {base : Heap} {f C D : Addr} {fd : FuncData}
/-! ### len -/
def spGLen (C D : Addr) : Sp := fun vs H Q _ => ∃ (p : Addr) (r : GR), vs = [.ref p] ∧ GatAt C D H p r ∧ Q (.int r.ts.length) H
theorem scGLen : FnScope ["self"] ["self"] (defScope sGLen) := ⟨rfl, rfl, rfl, by decide +kernel, rfl, by decide +kernel, by decide +kernel⟩
theorem ok_glen (F : Fun K "__len__" "Gathering.__len__" sGLen f fd) (B : Bi mg) (TG : TxtG K mg D) : FnOk P w K mg base CX0 1 f fd ["self"] (spGLen C D) := by
  refine F.ok scGLen (fun vs H Q E h => ?_) (fun cdv A outer s H vs Q E hr h => ?_)
  · obtain ⟨p, r, rfl, _⟩ := h
    rfl
  · obtain ⟨p, r, rfl, hG, q⟩ := h
    refine ⟨_, pss_one (ps_ret (pe_callB call_len_seq (by rfl) B.len PySem.boot_len (pa_cons (pe_fld (pv 0) rfl) pa_nil))), ?_⟩
    obtain ⟨dx, hp⟩ := hG.at_
    refine ⟨_, rfl, p, D, dx, _, _, rfl, hp, TG.cl, TG.nT, gf_told _ _ _, r.td, _, rfl, .inl (.inl (.inl hG.told)), ?_⟩
    rw [List.length_map, hG.tels.length]
    exact q
/-! ### a telling's row -/
def spTelRow : Sp := fun vs H Q _ => ∃ (p : Addr) (t : Tel), vs = [.ref p] ∧ H p = some (.tup (telV t)) ∧ OkT t ∧ ∀ (H' : Hp), Same H H' → Q (.str (rowS t)) H'
abbrev nTelRow : List Str := ["telling", "village", "thing", "word", "teller", "age", "gatherer", "sure", "parts"]
theorem scTelRow : FnScope nTelRow ["telling"] (defScope sTelRow) := ⟨rfl, rfl, rfl, by decide +kernel, rfl, by decide +kernel, by decide +kernel⟩
theorem ok_telrow (F : Fun K "telling_row" "telling_row" sTelRow f fd) (B : Bi mg) (B2 : Bg mg) : FnOk P w K mg base CX0 1 f fd ["telling"] spTelRow := by
  obtain ⟨tq, gq⟩ := B2.doubt
  refine F.ok scTelRow (fun vs H Q E h => ?_) (fun cdv A outer s H vs Q E hr h => ?_)
  · obtain ⟨p, t, rfl, _⟩ := h
    rfl
  · obtain ⟨p, t, rfl, hp, ok, q⟩ := h
    refine ⟨_, pss_cons (ps_asg (pv 0) (pg_tup rfl (pgs_cons (pg_name (i := 1) scTelRow.nd rfl (.inl rfl)) (pgs_cons (pg_name (i := 2) scTelRow.nd rfl (.inl rfl)) (pgs_cons (pg_name (i := 3) scTelRow.nd rfl (.inl rfl)) (pgs_cons (pg_name (i := 4) scTelRow.nd rfl (.inl rfl)) (pgs_cons (pg_name (i := 5) scTelRow.nd rfl (.inl rfl)) (pgs_cons (pg_name (i := 6) scTelRow.nd rfl (.inl rfl)) (pgs_cons (pg_name (i := 7) scTelRow.nd rfl (.inl rfl)) pgs_nil)))))))))
      (pss_cons (ps_set (i := 8) scTelRow.nd rfl (.inl rfl) (pe_lst (pa_cons (pv 1) (pa_cons (pv 2) (pa_cons (pv 3) (pa_cons (pv 4) (pa_cons (pe_callTy call_str_int (by rfl) B.str (by decide +kernel) (pa_cons (pv 5) pa_nil)) (pa_cons (pv 6) pa_nil))))))))
      (pss_one (ps_ret (pe_join pe_str (pe_ifExp (pt_val (pv 7)) (pv 8) (pe_op op_cat (pv 8) (pe_lst (pa_cons (pe_glob (v := .str "?") rfl gq ⟨_, rfl⟩) pa_nil)))))))), ?_⟩
    refine ⟨_, rfl, p, _, rfl, .inl (.inl hp), rfl, _, _, rfl, _, _, rfl, _, _, rfl, _, _, rfl, _, _, rfl, _, _, rfl, _, _, rfl, rfl, ?_⟩
    refine ⟨_, rfl, _, rfl, _, rfl, _, rfl, _, rfl, _, rfl, age_log ok.age, _, rfl, lz, fun u hu => ?_⟩
    have s1 := same_new (o := .lst ((partsS t).map V.str)) hu
    have hu1 : upd H u (.lst ((partsS t).map V.str)) u = some (.lst ((partsS t).map V.str)) := upd_same
    have pl := parts_len ok
    have e1 : (" " : Str).length = 1 := by decide +kernel
    have fin : ∀ (l : List Str), (∀ z ∈ l, z.length ≤ 8) → l.length ≤ 7 → (l.map (·.length)).sum + l.length * (" " : Str).length ≤ 16777216 := fun l h hl => by
      have := sum_len (l := l) (m := 8) h
      rw [e1]
      omega
    refine ⟨⟨_, rfl⟩, _, rfl, _, rfl, ite_b (fun e => ?_) (fun e => ?_)⟩
    · refine ⟨_, rfl, _, u, partsS t, rfl, rfl, .inl (.inl (.inl hu1)), fin _ (fun z hz => pl z (List.mem_append_left _ hz)) (by show 6 ≤ 7; decide), ?_⟩
      have := q _ s1
      unfold rowS at this
      rw [if_pos e] at this
      exact this
    · refine ⟨_, rfl, lz, fun v hv => ?_⟩
      have s2 := same_new (o := .lst [V.str ("?" : Str)]) hv
      refine ⟨u, v, (partsS t).map V.str, _, rfl, rfl, s2 _ _ hu1, upd_same, lz, fun x hx => ?_⟩
      refine ⟨_, x, partsS t ++ [("?" : Str)], rfl, rfl, .inl (.inl (.inl upd_same)), fin _ pl (by show 7 ≤ 7; decide), ?_⟩
      have := q _ ((s1.trans s2).trans (same_new (o := .lst ((partsS t).map V.str ++ [V.str ("?" : Str)])) hx))
      unfold rowS at this
      rw [if_neg (by rw [e]; decide)] at this
      exact this
/-! ### repr -/
def grS (n : Nat) : Str := ("Gathering(" : Str) ++ (toString (n : Int) : String) ++ (")" : Str)
def spGRepr (C D : Addr) : Sp := fun vs H Q _ => ∃ (p : Addr) (r : GR), vs = [.ref p] ∧ GatAt C D H p r ∧ r.ts.length ≤ 200 ∧ Q (.str (grS r.ts.length)) H
theorem scGRepr : FnScope ["self"] ["self"] (defScope sGRepr) := ⟨rfl, rfl, rfl, by decide +kernel, rfl, by decide +kernel, by decide +kernel⟩
theorem dig3_len {n : Nat} (h : n ≤ 200) : ((toString (n : Int) : String) : Str).length ≤ 3 := by
  have : ∀ k : Fin 201, ((toString ((k.val : Nat) : Int) : String) : Str).length ≤ 3 := by decide +kernel
  exact this ⟨n, by omega⟩
theorem log200 {n : Nat} (h : n ≤ 200) : (((n : Nat) : Int).natAbs).log2 < 1920 := by
  have : ((n : Nat) : Int).natAbs = n := Int.natAbs_natCast n
  rw [this]
  have h2 : n.log2 ≤ n := Nat.log2_le_self n
  omega
theorem ok_grepr (F : Fun K "__repr__" "Gathering.__repr__" sGRepr f fd) (B : Bi mg) (TG : TxtG K mg D) : FnOk P w K mg base CX0 1 f fd ["self"] (spGRepr C D) := by
  refine F.ok scGRepr (fun vs H Q E h => ?_) (fun cdv A outer s H vs Q E hr h => ?_)
  · obtain ⟨p, r, rfl, _⟩ := h
    rfl
  · obtain ⟨p, r, rfl, hG, h200, q⟩ := h
    refine ⟨_, pss_one (ps_ret (pe_joined (.cons pe_str (.cons (pe_fmt (pe_callB call_len_seq (by rfl) B.len PySem.boot_len (pa_cons (pe_fld (pv 0) rfl) pa_nil))) (.cons pe_str .nil))))), ?_⟩
    obtain ⟨dx, hp⟩ := hG.at_
    have ek : (r.as.map V.ref).length = r.ts.length := by rw [List.length_map, hG.tels.length]
    refine ⟨_, rfl, by decide +kernel, _, rfl, p, D, dx, _, _, rfl, hp, TG.cl, TG.nT, gf_told _ _ _, r.td, _, rfl, .inl (.inl (.inl hG.told)), .inr ⟨_, rfl, ?_, _, rfl, ?_, _, rfl, ?_, ?_⟩⟩
    · rw [ek]
      exact log200 h200
    · rw [ek]
      exact lzl (by rw [add_len, add_len]; have := dig3_len h200; have : (Str.empty).length = 0 := rfl; have : ("Gathering(" : Str).length = 10 := (by decide +kernel); omega)
    · rw [ek]
      exact lzl (by rw [add_len, add_len, add_len]; have := dig3_len h200; have : (Str.empty).length = 0 := rfl; have : ("Gathering(" : Str).length = 10 := (by decide +kernel); have : (")" : Str).length = 1 := (by decide +kernel); omega)
    · have e0 : (Str.empty ++ ("Gathering(" : Str)) = ("Gathering(" : Str) := by decide +kernel
      rw [ek]
      show Q (.str (Str.empty ++ ("Gathering(" : Str) ++ _ ++ (")" : Str))) H
      rw [e0]
      exact q
/-! ### str -/
def gatS (g : Grid) (ts : List Tel) : Str := Txt.join ("\n" : Str) ([landS g, ("." : Str)] ++ ts.map rowS)
theorem telV_inj {t u : Tel} (h : telV t = telV u) : t = u := by
  cases t
  cases u
  simp only [telV, List.cons.injEq, V.str.injEq, V.int.injEq, V.bl.injEq, and_true] at h
  obtain ⟨h1, h2, h3, h4, h5, h6, h7⟩ := h
  have h5 := Int.ofNat.inj h5
  subst h1 h2 h3 h4 h5 h6 h7
  rfl
theorem told_rows {H : Hp} : ∀ {as : List Addr} {ts : List Tel} {zs : List V}, TelsAt H as ts → Each (fun (x z : V) => ∀ (pt : Addr) (t : Tel), x = .ref pt → H pt = some (.tup (telV t)) → z = .str (rowS t)) (as.map V.ref) zs → zs = (ts.map rowS).map V.str
  | [], [], [], _, _ => rfl
  | [], [], _ :: _, _, h => nomatch h
  | [], _ :: _, _, h, _ => nomatch h
  | _ :: _, [], _, h, _ => nomatch h
  | _ :: _, _ :: _, [], _, h => nomatch h
  | a :: as, r :: g, z :: zs, .cons e t, .cons e' t' => by
    rw [e' a r rfl e, told_rows t t']
    rfl
def spGStr (C D : Addr) : Sp := fun vs H Q _ => ∃ (p : Addr) (r : GR) (wd : Nat), vs = [.ref p] ∧ GatAt C D H p r ∧ Good r.g wd ∧ r.ts.length ≤ 200 ∧ (∀ t ∈ r.ts, OkT t) ∧ ∀ (H' : Hp), Same H H' → Q (.str (gatS r.g r.ts)) H'
abbrev nGStr : List Str := ["self", "telling"]
theorem scGStr : FnScope nGStr ["self"] (defScope sGStr) := ⟨rfl, rfl, rfl, by decide +kernel, rfl, by decide +kernel, by decide +kernel⟩
theorem row_len {t : Tel} (h : OkT t) : (rowS t).length ≤ 63 := by
  have key : ∀ l : List Str, (∀ z ∈ l, z.length ≤ 8) → l.length ≤ 7 → (Txt.join (" " : Str) l).length ≤ 63 := fun l hl h7 => by
    rw [TL.len_tl, TL.join_eq, TL.tl_join, tl_blank]
    have := join_size (S := [32]) (m := 8) (ps := l.map TL.tl) fun p hp => by
      obtain ⟨z, hz, rfl⟩ := List.mem_map.mp hp
      rw [← TL.len_tl]
      exact hl z hz
    rw [List.length_map] at this
    simp at this
    omega
  unfold rowS
  split
  · exact key _ (fun z hz => parts_len h z (List.mem_append_left _ hz)) (by show 6 ≤ 7; decide)
  · exact key _ (parts_len h) (by show 7 ≤ 7; decide)
theorem ok_gstr (F : Fun K "__str__" "Gathering.__str__" sGStr f fd) (B : Bi mg) (B2 : Bg mg) (TG : TxtG K mg D) (hS : HasM P w K mg base C "__str__" 1 ["self"] (spLStr C)) (hT : Has P w K mg base "telling_row" 1 ["telling"] spTelRow) : FnOk P w K mg base CX0 4 f fd ["self"] (spGStr C D) := by
  obtain ⟨td, gd⟩ := B2.dot
  obtain ⟨fS, fdS, FS, mS, bS⟩ := hS
  refine F.ok scGStr (fun vs H Q E h => ?_) (fun cdv A outer s H vs Q E hr h => ?_)
  · obtain ⟨p, r, wd, rfl, _⟩ := h
    rfl
  · obtain ⟨p, r, wd, rfl, hG, gg, h200, hok, q⟩ := h
    refine ⟨_, pss_one (ps_ret (pe_join pe_str (pe_op op_cat (pe_lst (pa_cons (pe_callTy (cr_strO FS bS mS (hr.mono (by decide))) (by rfl) B.str (by decide +kernel) (pa_cons (pe_fld (pv 0) rfl) pa_nil)) (pa_cons (pe_glob (v := .str ".") rfl gd ⟨_, rfl⟩) pa_nil)))
      (pe_lc (own := [("telling", 1)]) (g := gName 1) (tt := tYes) (te := tCall spTelRow [] E0 (tCons (tVar 1) tNil)) rfl scGStr.nd (pi_list (pe_fld (pv 0) rfl)) (blkOk_by (N := nGStr) (sc := defScope sGStr) (by decide +kernel)) (fun _ _ _ _ _ => pg_name (i := 1) scGStr.nd rfl (.inl rfl)) (fun _ _ _ _ _ => pts_nil) (fun _ _ _ _ _ => pe_h hT hr (pa_cons (pv 1) pa_nil)))))), ?_⟩
    obtain ⟨dx, hp⟩ := hG.at_
    obtain ⟨dl, d, hl⟩ := hG.land.ins
    refine ⟨⟨_, rfl⟩, _, rfl, p, D, dx, _, _, rfl, hp, TG.cl, TG.nL, gf_land _ _ _, r.pl, dl, _, rfl, hl, r.pl, r.L, r.g, wd, rfl, hG.land, gg, fun H1 s1 => ⟨_, rfl, lz, fun u hu => ?_⟩⟩
    have s2 := same_new (o := .lst [V.str (landS r.g), V.str ("." : Str)]) hu
    have hu2 : upd H1 u (.lst [V.str (landS r.g), V.str ("." : Str)]) u = some (.lst [V.str (landS r.g), V.str ("." : Str)]) := upd_same
    have s02 := s1.trans s2
    have hG2 := hG.same s02
    generalize upd H1 u (.lst [V.str (landS r.g), V.str ("." : Str)]) = H2 at hu2 s02 hG2
    obtain ⟨dx2, hp2⟩ := hG2.at_
    refine ⟨_, rfl, p, D, dx2, _, _, rfl, hp2, TG.cl, TG.nT, gf_told _ _ _, r.td, rfl, ⟨_, .inl (.inl hG2.told)⟩, fun Dd hD => ?_⟩
    have hlen : r.as.length = r.ts.length := hG.tels.length
    refine lc_rel (walk_list (K := K) (a := r.td) (xs := r.as.map V.ref)) hD (fun _ => true) (fun x y _ => ∀ (pt : Addr) (t : Tel), x = .ref pt → H2 pt = some (.tup (telV t)) → y = .str (rowS t)) (fun H' s' => .inl (.inl (s' _ _ hG2.told))) (fun _ => rfl) (fun x H' _ _ Q' q' => q') ?_ (fun _ _ _ _ _ _ _ r => r) ?_ ?_
    · intro x H' hx _ s' Q' q'
      obtain ⟨pt, hpt, rfl⟩ := List.mem_map.mp hx
      obtain ⟨i, hi, ei⟩ := List.mem_iff_getElem.mp hpt
      obtain ⟨t, ht, hH⟩ := Each.get hG2.tels (i := i) (a := pt) (by rw [List.getElem?_eq_getElem hi, ei])
      refine ⟨_, rfl, pt, t, rfl, s' _ _ hH, hok t (List.mem_of_getElem? ht), fun H3 s3 => q' _ H3 s3 fun pt2 t2 e2 h2 => ?_⟩
      obtain rfl : pt = pt2 := V.ref.inj e2
      rw [hH] at h2
      rw [telV_inj (HO.tup.inj (Option.some.inj h2))]
    · rw [List.length_map]
      exact small1000 (by omega)
    · intro zs H3 s3 hD3 he
      rw [List.filter_eq_self.mpr fun _ _ => rfl] at he
      have e1 : zs = (r.ts.map rowS).map V.str := told_rows hG2.tels he
      rw [e1] at hD3
      refine ⟨u, Dd, _, _, rfl, rfl, s3 _ _ hu2, hD3, ?_, fun x hx => ?_⟩
      · rw [List.length_map, List.length_map]
        exact lzl (by simp only [List.length_cons, List.length_nil]; omega)
      refine ⟨_, x, [landS r.g, ("." : Str)] ++ r.ts.map rowS, rfl, rfl, .inl (.inl (.inl (by rw [upd_same, List.map_append]; rfl))), ?_, q _ ((s02.trans s3).trans (same_new hx))⟩
      have hll := land_len gg.parts gg.h6 gg.six
      have hdot : ("." : Str).length = 1 := by decide +kernel
      have := sum_len (l := [landS r.g, ("." : Str)] ++ r.ts.map rowS) (m := 330) fun z hz => by
        rcases List.mem_append.mp hz with hz | hz
        · simp only [List.mem_cons, List.not_mem_nil, or_false] at hz
          rcases hz with rfl | rfl
          · exact hll
          · omega
        · obtain ⟨t, ht, rfl⟩ := List.mem_map.mp hz
          have := row_len (hok t ht)
          omega
      have e : ("\n" : Str).length = 1 := by decide +kernel
      have hl2 : ([landS r.g, ("." : Str)] ++ r.ts.map rowS).length ≤ 202 := by
        rw [List.length_append, List.length_map]
        simp only [List.length_cons, List.length_nil]
        omega
      rw [e]
      omega
end
end Wl




namespace Wl
open PySem PySem.Spec PyProof.Rows L2
abbrev sGStrike : Stmt := inClass sGat 3
abbrev psStrike : List Str := ["self", "village", "teller", "thing", "gatherer"]
abbrev nStrike : List Str := ["self", "village", "teller", "thing", "gatherer", "key", "place", "part"]
theorem scStrike : FnScope nStrike psStrike (defScope sGStrike) := ⟨rfl, rfl, rfl, by decide +kernel, rfl, by decide +kernel, by decide +kernel⟩
def GR.cut (r : GR) (i : Nat) (q : Addr) : GR := { r with as := r.as.eraseIdx i, ts := r.ts.eraseIdx i, ds := r.ds ++ [.ref q] }
theorem each_erase {α β : Type} {R : α → β → Prop} : ∀ {as : List α} {bs : List β} (n : Nat), Each R as bs → Each R (as.eraseIdx n) (bs.eraseIdx n)
  | _, _, n, .nil => by simpa using Each.nil
  | _, _, 0, .cons r t => by simpa using t
  | _, _, n + 1, .cons r t => .cons r (each_erase n t)
theorem map_erase {α β : Type} (f : α → β) : ∀ (l : List α) (n : Nat), (l.map f).eraseIdx n = (l.eraseIdx n).map f
  | [], n => by simp
  | a :: l, 0 => by simp
  | a :: l, n + 1 => by simp [map_erase f l n]
theorem seq_idx {i n : Nat} (h : i < n) : seqIndex? (i : Int) n = some i := by
  unfold seqIndex?
  have e1 : ¬ ((i : Int) < 0) := by omega
  simp only [e1, if_false]
  have e2 : (decide (0 ≤ (i : Int)) && decide ((i : Int) < (n : Int))) = true := by simp; omega
  rw [if_pos e2, Int.toNat_natCast]
section
variable {P : Program} {w : World} {K : PySem.W.Frag} {mg : Str → Option Value} {base : Heap} {f C D : Addr} {fd : FuncData}
abbrev FunS (K : PySem.W.Frag) (f : Addr) (fd : FuncData) : Prop := FunD K "strike" "Gathering.strike" (defArgs sGStrike) (defBody sGStrike) (defScope sGStrike) [.str "self"] [] f fd
def spStrike (C D : Addr) : Sp := fun vs H Q _ => ∃ (p : Addr) (r : GR) (t : Tel) (i : Nat), vs = .ref p :: keyV t ∧ GatAt C D H p r ∧ (∀ u ∈ r.ts, OkT u) ∧ r.ts.length ≤ 200 ∧ r.ds.length < 1000 ∧ (r.ts.findIdx? fun u => decide (keyS u = keyS t)) = some i ∧ OkT t ∧
  ∀ (q pa : Addr) (H' : Hp), H q = none → r.as[i]? = some pa → Same2 r.td r.dd H H' → GatAt C D H' p (r.cut i q) → H' q = some (.tup [.int (i : Int), .ref pa]) → Q .non H'
theorem ok_strike (F : FunS K f fd) (B : Bi mg) (TG : TxtG K mg D) (hW : Has P w K mg base "is_word" 1 ["thing"] spIsWord) (hP : HasM P w K mg base D "place_of" 2 ["self", "key"] (spGPlace C D)) : FnOk P w K mg base CX0 3 f fd psStrike (spStrike C D) := by
  refine okD F scStrike (fun vs H Q E h => ?_) (fun cdv A outer s H vs Q E hr h => ?_)
  · obtain ⟨p, r, t, i, rfl, _⟩ := h
    rfl
  · obtain ⟨p, r, t, i, rfl, hG, hok, h200, hds, hi, okt, q⟩ := h
    refine ⟨_, pss_cons (ps_set (i := 5) scStrike.nd rfl (.inl rfl) (pe_tup (pa_cons (pv 1) (pa_cons (pv 2) (pa_cons (pv 3) (pa_cons (pv 4) pa_nil))))))
      (pss_cons (ps_set (i := 6) scStrike.nd rfl (.inl rfl) (pe_ifExp (pt_val (pe_callB (cr_all rfl) (by rfl) B.all (by decide +kernel) (pa_cons (pe_lc (own := [("part", 7)]) (g := gName 7) (tt := tYes) (te := tCall spIsWord [] E0 (tCons (tVar 7) tNil)) rfl scStrike.nd (pi_tup (pv 5)) (blkOk_by (N := nStrike) (sc := defScope sGStrike) (by decide +kernel)) (fun _ _ _ _ _ => pg_name (i := 7) scStrike.nd rfl (.inl rfl)) (fun _ _ _ _ _ => pts_nil) (fun _ _ _ _ _ => pe_h hW hr (pa_cons (pv 7) pa_nil))) pa_nil))) (pe_hm hP TG.cl hr (pv 0) (pa_cons (pv 5) pa_nil)) pe_non))
      (pss_cons (ps_if (pt_cmp (pc_isN (pv 6))) (pss_one ps_never) pss_nil)
      (pss_one (ps_expr (pe_bm PySem.F.plainAttrs_list PySem.F.slot_list_append PySem.F.type_list_append mt_append (pe_fld (pv 0) rfl) (pa_cons (pe_tup (pa_cons (pv 6) (pa_cons (pe_bm PySem.F.plainAttrs_list PySem.F.slot_list_pop PySem.F.type_list_pop mt_popAt (pe_fld (pv 0) rfl) (pa_cons (pv 6) pa_nil)) pa_nil))) pa_nil)))))), ?_⟩
    refine ⟨_, rfl, _, rfl, _, rfl, _, rfl, lz, fun kp hkp => ?_⟩
    have s1 := same_new (o := .tup [V.str t.v, V.str t.tl, V.str t.th, V.str t.g]) hkp
    have hk1 : upd H kp (.tup [V.str t.v, V.str t.tl, V.str t.th, V.str t.g]) kp = some (.tup [V.str t.v, V.str t.tl, V.str t.th, V.str t.g]) := upd_same
    generalize upd H kp (.tup [V.str t.v, V.str t.tl, V.str t.th, V.str t.g]) = H1 at s1 hk1
    refine ⟨_, rfl, kp, rfl, ⟨_, .inl (.inl hk1)⟩, fun Dd hD => ?_⟩
    refine lc_rel (walk_tup (K := K) (a := kp) (xs := [V.str t.v, V.str t.tl, V.str t.th, V.str t.g])) hD (fun _ => true) (fun x y _ => y = .bl true) (fun H' s' => .inl (.inl (s' _ _ hk1))) (fun _ => rfl) (fun x H' _ _ Q' q' => q') ?_ (fun _ _ _ _ _ _ _ r => r) lz ?_
    · intro x H' hx _ s' Q' q'
      obtain ⟨z, hz, rfl⟩ : ∃ z, z ∈ keyS t ∧ x = .str z := by
        simp only [List.mem_cons, List.not_mem_nil, or_false] at hx
        rcases hx with rfl | rfl | rfl | rfl
        · exact ⟨_, by simp [keyS], rfl⟩
        · exact ⟨_, by simp [keyS], rfl⟩
        · exact ⟨_, by simp [keyS], rfl⟩
        · exact ⟨_, by simp [keyS], rfl⟩
      have hzw := okt.key z hz
      refine ⟨_, rfl, z, rfl, by have := hzw.len; omega, fun H2 s2 => q' _ H2 s2 ?_⟩
      rw [show wdB z = true from hzw]
    · intro zs H2 s2 hD2 he
      have ez := each_fn (f := fun _ : V => V.bl true) he
      have ez2 : zs = [true, true, true, true].map V.bl := ez
      rw [ez2] at hD2
      refine ⟨Dd, [true, true, true, true], rfl, .inl (.inl hD2), true, rfl, iteT ?_⟩
      have s02 := s1.trans s2
      have hG2 := hG.same s02
      obtain ⟨dx2, hp2⟩ := hG2.at_
      refine ⟨_, rfl, p, dx2, _, rfl, hp2, gf_no _ _ _, _, rfl, p, kp, r, keyS t, rfl, hG2, hok, h200, s2 _ _ hk1, okt.key, fun H3 s3 => ?_⟩
      rw [hi]
      obtain ⟨hil, _⟩ := List.findIdx?_eq_some_iff_getElem.mp hi
      have hla : r.as.length = r.ts.length := hG.tels.length
      have hia : i < r.as.length := by omega
      have hpa : r.as[i]? = some r.as[i] := List.getElem?_eq_getElem hia
      generalize r.as[i] = pa at hpa
      have hG3 := hG2.same s3
      obtain ⟨dx3, hp3⟩ := hG3.at_
      have s03 := s02.trans s3
      refine ⟨_, rfl, _, rfl, iteF ?_⟩
      refine ⟨_, rfl, p, D, dx3, _, _, rfl, hp3, TG.cl, TG.nD, gf_deeds _ _ _, .inl ⟨rfl, _, .inl (.inl hG3.deeds)⟩, _, rfl, _, rfl, p, D, dx3, _, _, rfl, hp3, TG.cl, TG.nT, gf_told _ _ _, .inl ⟨rfl, _, .inl (.inl hG3.told)⟩, _, rfl, r.td, _, (i : Int), i, .ref pa, rfl, rfl, hG3.told, by omega, by omega, ?_, ?_, lz, fun q1 hq1 => ?_⟩
      · rw [List.length_map]
        exact seq_idx hia
      · rw [List.getElem?_map, hpa]
        rfl
      have k4 : Keep H3 (upd H3 r.td (.lst ((r.as.map V.ref).eraseIdx i))) := kp_upd hG3.told
      have hp4 := k4 _ _ (fun xs e => by cases e) hp3
      have hd4 : upd H3 r.td (.lst ((r.as.map V.ref).eraseIdx i)) r.dd = some (.lst r.ds) := by
        rw [upd_ne hG.ne.symm]
        exact hG3.deeds
      have ht4 : upd H3 r.td (.lst ((r.as.map V.ref).eraseIdx i)) r.td = some (.lst ((r.as.eraseIdx i).map V.ref)) := by
        rw [upd_same, map_erase]
      have m4 : Same2 r.td r.dd H3 (upd H3 r.td (.lst ((r.as.map V.ref).eraseIdx i))) := fun c o n _ e => by
        rw [upd_ne n]
        exact e
      have hq3 : H3 q1 = none := by
        by_cases c : q1 = r.td
        · rw [c, ht4] at hq1
          cases hq1
        · rw [upd_ne c] at hq1
          exact hq1
      generalize upd H3 r.td (.lst ((r.as.map V.ref).eraseIdx i)) = H4 at k4 hp4 hd4 ht4 m4 hq1
      have s5 := same_new (o := .tup [V.int (i : Int), V.ref pa]) hq1
      have hq5 : upd H4 q1 (.tup [V.int (i : Int), V.ref pa]) q1 = some (.tup [V.int (i : Int), V.ref pa]) := upd_same
      have hd5 := s5 _ _ hd4
      have ht5 := s5 _ _ ht4
      have hp5 := s5 _ _ hp4
      refine ⟨r.dd, _, _, rfl, rfl, hd5, small1000 (by omega), ?_⟩
      have k6 := kp_upd (o := .lst (r.ds ++ [V.ref q1])) hd5
      have kk := (k4.trans (kp_same s5)).trans k6
      refine q q1 pa _ (s03.free hq3) hpa ?_ ⟨⟨dx3, k6 _ _ (fun xs e => by cases e) hp5⟩, hG3.land.keep kk, ?_, ?_, upd_same, hG.ne⟩ (k6 _ _ (fun xs e => by cases e) hq5)
      · refine (Same2.of s03).trans (m4.trans ((Same2.of s5).trans fun c o _ n e => ?_))
        rw [upd_ne n]
        exact e
      · show upd _ r.dd _ r.td = some (.lst ((r.as.eraseIdx i).map V.ref))
        rw [upd_ne hG.ne]
        exact ht5
      · exact each_erase i (hG3.tels.keep kk.tk)
end
end Wl




namespace Wl
open PySem PySem.Spec PyProof.Rows L2
abbrev sGBack : Stmt := inClass sGat 4
abbrev nBack : List Str := ["self", "struck", "place", "telling"]
theorem scBack : FnScope nBack ["self"] (defScope sGBack) := ⟨rfl, rfl, rfl, by decide +kernel, rfl, by decide +kernel, by decide +kernel⟩
theorem last_snoc {α : Type} (l : List α) (x : α) : (l ++ [x])[(l ++ [x]).length - 1]? = some x := by
  rw [List.length_append]
  simp
theorem each_take {α β : Type} {R : α → β → Prop} : ∀ {as : List α} {bs : List β} (n : Nat), Each R as bs → Each R (as.take n) (bs.take n)
  | _, _, 0, _ => by simpa using Each.nil
  | _, _, n + 1, .nil => by simpa using Each.nil
  | _, _, n + 1, .cons r t => .cons r (each_take n t)
theorem each_drop {α β : Type} {R : α → β → Prop} : ∀ {as : List α} {bs : List β} (n : Nat), Each R as bs → Each R (as.drop n) (bs.drop n)
  | _, _, 0, h => by simpa using h
  | _, _, n + 1, .nil => by simpa using Each.nil
  | _, _, n + 1, .cons r t => each_drop n t
section
variable {P : Program} {w : World} {K : PySem.W.Frag} {mg : Str → Option Value} {base : Heap} {f C D : Addr} {fd : FuncData}
def spBack (C D : Addr) : Sp := fun vs H Q _ => ∃ (p : Addr) (r : GR), vs = [.ref p] ∧ GatAt C D H p r ∧ r.ts.length ≤ 200 ∧
  ((∃ (as : List Addr) (pa : Addr) (ts : List Tel) (t : Tel) (ds : List V), r.as = as ++ [pa] ∧ r.ts = ts ++ [t] ∧ r.ds = ds ++ [.non] ∧
      ∀ (H' : Hp), Same2 r.td r.dd H H' → GatAt C D H' p { r with as := as, ts := ts, ds := ds } → Q .non H') ∨
   (∃ (i : Nat) (q pa : Addr) (t : Tel) (ds : List V), r.ds = ds ++ [.ref q] ∧ H q = some (.tup [.int (i : Int), .ref pa]) ∧ H pa = some (.tup (telV t)) ∧ i ≤ 200 ∧
      ∀ (H' : Hp), Same2 r.td r.dd H H' → GatAt C D H' p { r with as := r.as.take i ++ [pa] ++ r.as.drop i, ts := r.ts.take i ++ [t] ++ r.ts.drop i, ds := ds } → Q .non H'))
theorem ok_back (F : Fun K "back" "Gathering.back" sGBack f fd) (TG : TxtG K mg D) : FnOk P w K mg base CX0 1 f fd ["self"] (spBack C D) := by
  refine F.ok scBack (fun vs H Q E h => ?_) (fun cdv A outer s H vs Q E hr h => ?_)
  · obtain ⟨p, r, rfl, _⟩ := h
    rfl
  · obtain ⟨p, r, rfl, hG, h200, hh⟩ := h
    refine ⟨_, pss_cons (ps_if (pt_not (pt_truth (pe_fld (pv 0) rfl) (fun _ => rfl))) (pss_one ps_never) pss_nil)
      (pss_cons (ps_set (i := 1) scBack.nd rfl (.inl rfl) (pe_bm0 PySem.F.plainAttrs_list PySem.F.slot_list_pop PySem.F.type_list_pop mt_pop (pe_fld (pv 0) rfl)))
      (pss_one (ps_if (pt_cmp (pc_isN (pv 1))) (pss_one (ps_expr (pe_bm0 PySem.F.plainAttrs_list PySem.F.slot_list_pop PySem.F.type_list_pop mt_pop (pe_fld (pv 0) rfl))))
        (pss_cons (ps_asg (pv 1) (pg_tup rfl (pgs_cons (pg_name (i := 2) scBack.nd rfl (.inl rfl)) (pgs_cons (pg_name (i := 3) scBack.nd rfl (.inl rfl)) pgs_nil))))
        (pss_one (ps_expr (pe_bm PySem.F.plainAttrs_list PySem.F.slot_list_insert PySem.F.type_list_insert mt_insert (pe_fld (pv 0) rfl) (pa_cons (pv 2) (pa_cons (pv 3) pa_nil))))))))), ?_⟩
    obtain ⟨dx, hp⟩ := hG.at_
    have hds : r.ds ≠ [] := by
      rcases hh with ⟨_, _, _, _, _, _, _, e, _⟩ | ⟨_, _, _, _, _, e, _⟩
      · rw [e]
        simp
      · rw [e]
        simp
    refine ⟨_, rfl, p, D, dx, _, _, rfl, hp, TG.cl, TG.nD, gf_deeds _ _ _, !r.ds.isEmpty, .inl ⟨_, .inl (.inl hG.deeds), rfl⟩, ?_⟩
    have e0 : r.ds.isEmpty = false := by
      cases hq : r.ds with
      | nil => exact absurd hq hds
      | cons _ _ => rfl
    rw [e0]
    refine iteF ?_
    have kd : ∀ o, Keep H (upd H r.dd o) := fun o => kp_upd hG.deeds
    rcases hh with ⟨as, pa, ts, t, ds, ea, et, ed, q⟩ | ⟨i, q0, pa, t, ds, ed, hq0, hpa, hi, q⟩
    · have hdd := hG.deeds
      rw [ed] at hdd
      refine ⟨_, rfl, p, D, dx, _, _, rfl, hp, TG.cl, TG.nD, gf_deeds _ _ _, .inl ⟨rfl, _, .inl (.inl hdd)⟩, r.dd, _, .non, rfl, rfl, hdd, last_snoc _ _, ?_⟩
      rw [List.dropLast_concat]
      have k1 := kd (.lst ds)
      have ht1 : upd H r.dd (.lst ds) r.td = some (.lst ((as ++ [pa]).map V.ref)) := by
        rw [upd_ne hG.ne, ← ea]
        exact hG.told
      have hp1 := k1 _ _ (fun xs e => by cases e) hp
      have hd1 : upd H r.dd (.lst ds) r.dd = some (.lst ds) := upd_same
      have m1 : Same2 r.td r.dd H (upd H r.dd (.lst ds)) := fun c o _ n e => by
        rw [upd_ne n]
        exact e
      generalize upd H r.dd (.lst ds) = H1 at k1 ht1 hp1 hd1 m1
      rw [List.map_append] at ht1
      refine ⟨_, rfl, _, rfl, iteT ⟨_, rfl, p, D, dx, _, _, rfl, hp1, TG.cl, TG.nT, gf_told _ _ _, .inl ⟨rfl, _, .inl (.inl ht1)⟩, r.td, _, .ref pa, rfl, rfl, ht1, last_snoc _ _, ?_⟩⟩
      rw [show (as.map V.ref ++ [pa].map V.ref).dropLast = as.map V.ref from List.dropLast_concat]
      have k2 := kp_upd (o := .lst (as.map V.ref)) ht1
      have kk := k1.trans k2
      refine q _ ?_ ⟨⟨dx, k2 _ _ (fun xs e => by cases e) hp1⟩, hG.land.keep kk, upd_same, ?_, ?_, hG.ne⟩
      · exact m1.trans fun c o n _ e => by
          rw [upd_ne n]
          exact e
      · have h1 := hG.tels.keep kk.tk
        rw [ea, et] at h1
        have la : as.length = ts.length := by
          have := h1.length
          simpa using this
        have h2 := each_take as.length h1
        rw [List.take_left, la, List.take_left] at h2
        exact h2
      · show upd H1 r.td _ r.dd = some (.lst ds)
        rw [upd_ne hG.ne.symm]
        exact hd1
    · have hdd := hG.deeds
      rw [ed] at hdd
      refine ⟨_, rfl, p, D, dx, _, _, rfl, hp, TG.cl, TG.nD, gf_deeds _ _ _, .inl ⟨rfl, _, .inl (.inl hdd)⟩, r.dd, _, .ref q0, rfl, rfl, hdd, last_snoc _ _, ?_⟩
      rw [List.dropLast_concat]
      have k1 := kd (.lst ds)
      have ht1 : upd H r.dd (.lst ds) r.td = some (.lst (r.as.map V.ref)) := by
        rw [upd_ne hG.ne]
        exact hG.told
      have hp1 := k1 _ _ (fun xs e => by cases e) hp
      have hq1 := k1 _ _ (fun xs e => by cases e) hq0
      have hd1 : upd H r.dd (.lst ds) r.dd = some (.lst ds) := upd_same
      have m1 : Same2 r.td r.dd H (upd H r.dd (.lst ds)) := fun c o _ n e => by
        rw [upd_ne n]
        exact e
      generalize upd H r.dd (.lst ds) = H1 at k1 ht1 hp1 hd1 m1 hq1
      have hla : r.as.length = r.ts.length := hG.tels.length
      refine ⟨_, rfl, _, rfl, iteF ⟨_, rfl, q0, _, rfl, .inl (.inl hq1), rfl, _, _, rfl, _, _, rfl, rfl, ?_⟩⟩
      refine ⟨_, rfl, p, D, dx, _, _, rfl, hp1, TG.cl, TG.nT, gf_told _ _ _, .inl ⟨rfl, _, .inl (.inl ht1)⟩, _, rfl, _, rfl, r.td, _, (i : Int), .ref pa, rfl, rfl, ht1, by rw [List.length_map]; exact small1000 (by omega), by omega, by omega, ?_⟩
      rw [Int.toNat_natCast]
      have k2 := kp_upd (o := .lst ((r.as.map V.ref).take i ++ [.ref pa] ++ (r.as.map V.ref).drop i)) ht1
      have kk := k1.trans k2
      refine q _ ?_ ⟨⟨dx, k2 _ _ (fun xs e => by cases e) hp1⟩, hG.land.keep kk, ?_, ?_, ?_, hG.ne⟩
      · exact m1.trans fun c o n _ e => by
          rw [upd_ne n]
          exact e
      · show upd H1 r.td _ r.td = some (.lst ((r.as.take i ++ [pa] ++ r.as.drop i).map V.ref))
        rw [upd_same, List.map_append, List.map_append, List.map_take, List.map_drop]
        rfl
      · have h1 := hG.tels.keep kk.tk
        exact Each.append (Each.append (each_take i h1) (.cons (kk.tk _ _ hpa) .nil)) (each_drop i h1)
      · show upd H1 r.td _ r.dd = some (.lst ds)
        rw [upd_ne hG.ne.symm]
        exact hd1
end
end Wl




namespace Wl
open PySem PySem.Spec PyProof.Rows L2
section
variable {P : Program} {w : World} {K : PySem.W.Frag} {mg : Str → Option Value} {base : Heap} {f cW cS : Addr} {fd : FuncData}
/-! ### check_sure, check_word of what is none -/
def spCheckSR (K : PySem.W.Frag) (cS : Addr) : Sp := fun vs H Q E => ∃ v t, vs = [v] ∧ TyX K H v t ∧ PySem.W.kitOne K t (.type "bool") = some false ∧ Refuses cS "sure" v H E
theorem ok_checksR (F : Fun K "check_sure" "check_sure" sCheckS f fd) (B : Bi mg) (B2 : Bg mg) (T : OwnX K mg "NoSure" "sure" cS) : FnOk P w K mg base (L2N.CX P w) 1 f fd ["sure"] (spCheckSR K cS) := by
  refine Fun_okN F scCheckS (fun vs H Q E h => ?_) (fun cdv A outer s H vs Q E hr h => ?_)
  · obtain ⟨v, t, rfl, _⟩ := h
    rfl
  · obtain ⟨v, t, rfl, ty, k, q⟩ := h
    refine ⟨_, pss_one (ps_if (pt_not (pt_val (pe_callB call_isi (by rfl) B.isi (by decide +kernel) (pa_cons (pv 0) (pa_cons (pe_bltn (v := .ty "bool") (by rfl) B2.bool (by decide +kernel) rfl) pa_nil))))) (pss_one (ps_raiseX rfl T hr (L2N.takes_of rfl rfl rfl rfl) (pa_cons (pv 0) pa_nil))) pss_nil), ?_⟩
    exact ⟨_, rfl, _, _, _, _, _, rfl, .ty "bool", ty, k, false, rfl, iteT ⟨_, rfl, v, rfl, fun d hd => q.new (Same.refl H) d hd⟩⟩
def spCheckWR (cW : Addr) : Sp := fun vs H Q E => ∃ v, vs = [v] ∧ OddV H v ∧ wvB v = false ∧ Refuses cW "word" v H E
theorem ok_checkwR (F : Fun K "check_word" "check_word" sCheckW f fd) (T : OwnX K mg "NoWord" "word" cW) (hI : Has P w K mg base "is_word" 1 ["thing"] (spIsW K)) : FnOk P w K mg base (L2N.CX P w) 2 f fd ["word"] (spCheckWR cW) := by
  refine Fun_okN F scCheckW (fun vs H Q E h => ?_) (fun cdv A outer s H vs Q E hr h => ?_)
  · obtain ⟨v, rfl, _⟩ := h
    rfl
  · obtain ⟨v, rfl, ho, hb, q⟩ := h
    refine ⟨_, pss_one (ps_if (pt_not (pt_val (pe_h hI hr (pa_cons (pv 0) pa_nil)))) (pss_one (ps_raiseX rfl T hr (L2N.takes_of rfl rfl rfl rfl) (pa_cons (pv 0) pa_nil))) pss_nil), ?_⟩
    refine ⟨_, rfl, v, false, rfl, hb ▸ ho.wv, fun H1 s1 => ⟨false, rfl, iteT ⟨_, rfl, v, rfl, fun d hd => ?_⟩⟩⟩
    exact q.new s1 d hd
end
end Wl



/-! Texts each once, as first met; dicts by texts. -/
namespace Wl
open PySem PySem.Spec PyProof.Rows L2
def addK (acc : List Str) (z : Str) : List Str := if z ∈ acc then acc else acc ++ [z]
def keysOf (l : List Str) : List Str := l.foldl addK []
theorem keysOf_snoc (l : List Str) (z : Str) : keysOf (l ++ [z]) = addK (keysOf l) z := by
  unfold keysOf
  rw [List.foldl_append]
  rfl
theorem mem_addK {acc : List Str} {z y : Str} : y ∈ addK acc z ↔ y ∈ acc ∨ y = z := by
  unfold addK
  split
  · constructor
    · exact .inl
    · rintro (h | rfl) <;> assumption
  · simp
theorem foldK_mem {y : Str} : ∀ {l acc : List Str}, y ∈ l.foldl addK acc ↔ y ∈ acc ∨ y ∈ l
  | [], acc => by simp
  | z :: l, acc => by
    rw [List.foldl_cons, foldK_mem (l := l), mem_addK, List.mem_cons]
    constructor
    · rintro ((h | h) | h)
      · exact .inl h
      · exact .inr (.inl h)
      · exact .inr (.inr h)
    · rintro (h | h | h)
      · exact .inl (.inl h)
      · exact .inl (.inr h)
      · exact .inr h
theorem mem_keysOf {l : List Str} {y : Str} : y ∈ keysOf l ↔ y ∈ l := by
  unfold keysOf
  rw [foldK_mem]
  simp
theorem addK_nodup {acc : List Str} {z : Str} (h : acc.Nodup) : (addK acc z).Nodup := by
  unfold addK
  split
  · exact h
  · rename_i n
    rw [List.nodup_append]
    exact ⟨h, by simp, fun a ha b hb e => n (by rw [List.mem_singleton.mp hb] at e; exact e ▸ ha)⟩
theorem foldK_nodup : ∀ {l acc : List Str}, acc.Nodup → (l.foldl addK acc).Nodup
  | [], _, h => h
  | _ :: l, _, h => foldK_nodup (l := l) (addK_nodup h)
theorem keysOf_nodup (l : List Str) : (keysOf l).Nodup := foldK_nodup List.nodup_nil
theorem addK_len (acc : List Str) (z : Str) : (addK acc z).length ≤ acc.length + 1 := by
  unfold addK
  split
  · omega
  · simp
theorem foldK_len : ∀ (l acc : List Str), (l.foldl addK acc).length ≤ acc.length + l.length
  | [], acc => by simp
  | z :: l, acc => by
    have h1 := foldK_len l (addK acc z)
    have h2 := addK_len acc z
    rw [List.foldl_cons, List.length_cons]
    omega
theorem keysOf_len (l : List Str) : (keysOf l).length ≤ l.length := by
  have := foldK_len l []
  simpa [keysOf] using this
/-- the pairs of a dict whose keys are these texts -/
def kvZ (ad : Str → V) (l : List Str) : List (Key × V) := l.map fun z => (Sum.inr z, ad z)
theorem valV_kvZ (ad : Str → V) (z : Str) : ∀ l : List Str, valV (kvZ ad l) (Sum.inr z : Key) = if z ∈ l then some (ad z) else none
  | [] => rfl
  | d :: r => by
    by_cases h : d = z
    · subst h
      rw [if_pos List.mem_cons_self]
      exact valV_pos rfl
    · have h1 : valV (kvZ ad (d :: r)) (Sum.inr z : Key) = valV (kvZ ad r) (Sum.inr z : Key) := valV_neg fun e => h (Sum.inr.inj e)
      rw [h1, valV_kvZ ad z r]
      have h2 : (z ∈ d :: r) = (z ∈ r) := by
        simp only [List.mem_cons, eq_iff_iff]
        constructor
        · rintro (e | e)
          · exact absurd e.symm h
          · exact e
        · exact .inr
      simp only [h2]
theorem valV_in {ad : Str → V} {z : Str} {l : List Str} (h : z ∈ l) : valV (kvZ ad l) (Sum.inr z : Key) = some (ad z) := by
  rw [valV_kvZ, if_pos h]
theorem valV_out {ad : Str → V} {z : Str} {l : List Str} (h : z ∉ l) : valV (kvZ ad l) (Sum.inr z : Key) = none := by
  rw [valV_kvZ, if_neg h]
theorem kvZ_congr {a b : Str → V} {l : List Str} (h : ∀ c ∈ l, a c = b c) : kvZ a l = kvZ b l := List.map_congr_left fun c hc => by rw [h c hc]
theorem kvZ_keys (ad : Str → V) (l : List Str) : (kvZ ad l).map (fun kv => kV kv.1) = l.map V.str := by
  unfold kvZ
  rw [List.map_map]
  rfl
theorem kvZ_len (ad : Str → V) (l : List Str) : (kvZ ad l).length = l.length := List.length_map _
theorem sortS_nodup {l : List Str} (h : l.Nodup) : (sortS l).Nodup := (List.mergeSort_perm l leB).nodup_iff.mpr h
end Wl

/-! d == e of two dicts of the same texts, their values told by data. -/
namespace Wl
open PySem PySem.Spec PyProof.Rows L2
def rEqDT (K : PySem.W.Frag) : R2 := fun x y H Q => ∃ (a b : Addr) (nms : List Str) (f g : Str → V) (fd gd : Str → PyData), x = .ref a ∧ y = .ref b ∧ H a = some (.dK (kvZ f nms)) ∧ H b = some (.dK (kvZ g nms)) ∧
  (∀ z ∈ nms, Dp K H (f z) (fd z) ∧ Dp K H (g z) (gd z) ∧ (fd z).canLay0 = true ∧ (gd z).canLay0 = true ∧ (fd z).depth ≤ 3) ∧ Q (.bl (nms.all fun z => PyData.eqv (fd z) (gd z))) H
theorem kv_mem {f : Str → V} : ∀ {nms : List Str} {va : List (Key × Value)}, KV (kvZ f nms) va → ∀ {k : Key} {v : Value}, (k, v) ∈ va → ∃ z ∈ nms, k = Sum.inr z ∧ RelV (f z) v
  | [], va, r, k, v, h => by
    cases r
    cases h
  | z :: nms, va, r, k, v, h => by
    have r' : Paired (fun (p : Key × V) (q : Key × Value) => p.1 = q.1 ∧ RelV p.2 q.2) ((Sum.inr z, f z) :: kvZ f nms) va := r
    cases r' with
    | cons e t =>
      rcases List.mem_cons.mp h with h1 | h1
      · obtain ⟨e1, e2⟩ := e
        rw [← h1] at e1 e2
        exact ⟨z, List.mem_cons_self, e1.symm, e2⟩
      · obtain ⟨y, hy, q⟩ := kv_mem (f := f) (nms := nms) t h1
        exact ⟨y, List.mem_cons_of_mem _ hy, q⟩
theorem kv_keys {f : Str → V} : ∀ {nms : List Str} {va : List (Key × Value)}, KV (kvZ f nms) va → va.map (·.1) = nms.map Sum.inr
  | [], va, r => by
    cases r
    rfl
  | z :: nms, va, r => by
    have r' : Paired (fun (p : Key × V) (q : Key × Value) => p.1 = q.1 ∧ RelV p.2 q.2) ((Sum.inr z, f z) :: kvZ f nms) va := r
    cases r' with
    | cons e t =>
      rw [List.map_cons, List.map_cons, kv_keys (f := f) (nms := nms) t, ← e.1]
section
variable {X : Cx}
theorem op_eqDT (hu : X.A.units + 64 < cLine) : OpR X (compareOp .Eq) (rEqDT X.K) := by
  intro pins s σ H x y v u Q I rx ry h
  obtain ⟨a, b, nms, f, g, fd, gd, rfl, rfl, ea, eb, hv, q⟩ := h
  obtain rfl : v = Value.ref a := rx
  obtain rfl : u = Value.ref b := ry
  obtain ⟨_, ya, va, ra, da⟩ := (show ObjOk X.prog X.w H s.heap a (.dK (kvZ f nms)) from I.hok a _ ea)
  obtain ⟨_, yb, vb, rb, db⟩ := (show ObjOk X.prog X.w H s.heap b (.dK (kvZ g nms)) from I.hok b _ eb)
  let e : Key → Bool := fun k => match k with
    | .inl _ => true
    | .inr z => PyData.eqv (fd z) (gd z)
  refine PySem.W.eq_dictsT (knd := mixKind X.prog X.w) (n := 3) (e := e) ya yb da db (fun k v' y' hm hva => ?_) (by omega) ?_
  · obtain ⟨z, hz, rfl, rv⟩ := kv_mem ra hm
    have rr := rb.val (Sum.inr z : Key)
    rw [valV_in hz] at rr
    obtain ⟨y2, hy2, ry2⟩ := rr.some_of
    rw [hva] at hy2
    obtain rfl := Option.some.inj hy2
    obtain ⟨d1, d2, c1, c2, dp⟩ := hv z hz
    obtain ⟨as, r1⟩ := Dp.reads I _ _ _ d1 rv
    obtain ⟨bs, r2⟩ := Dp.reads I _ _ _ d2 ry2
    exact .leaf fun A hA => SeqAt.eqAt_reads _ _ A s _ _ _ _ r1 r2 c1 c2 (by
      have := Nat.min_le_left (fd z).depth (gd z).depth
      omega)
  · have e1 : va.length = nms.length := by
      have := congrArg List.length (kv_keys ra)
      simpa using this
    have e2 : vb.length = nms.length := by
      have := congrArg List.length (kv_keys rb)
      simpa using this
    have e3 : (va.all fun p => (valueAt vb p.1).isSome && e p.1) = nms.all fun z => PyData.eqv (fd z) (gd z) := by
      have h1 : (va.all fun p => (valueAt vb p.1).isSome && e p.1) = (va.map (·.1)).all fun k => (valueAt vb k).isSome && e k := by
        rw [List.all_map]
        rfl
      rw [h1, kv_keys ra, List.all_map, Bool.eq_iff_iff, List.all_eq_true, List.all_eq_true]
      have sm : ∀ z ∈ nms, (valueAt vb (Sum.inr z : Key)).isSome = true := fun z hz => by
        have rr := rb.val (Sum.inr z : Key)
        rw [valV_in hz] at rr
        obtain ⟨y2, hy2, _⟩ := rr.some_of
        rw [hy2]
        rfl
      constructor
      · intro h z hz
        have := h z hz
        simp only [Function.comp, Bool.and_eq_true] at this
        exact this.2
      · intro h z hz
        simp only [Function.comp, Bool.and_eq_true]
        exact ⟨sm z hz, h z hz⟩
    rw [e3, e1, e2]
    refine ⟨.bl _, H, I, ?_, q⟩
    show _ = Value.bool _
    simp
end
end Wl

/-! v == v: a thing beside itself, data or a dict of texts with data. -/
namespace Wl
open PySem PySem.Spec PyProof.Rows L2
def SelfV (K : PySem.W.Frag) (H : Hp) (v : V) : Prop := (∃ d, Dp K H v d ∧ SeqAt.shaped d = true) ∨
  ∃ (p : Addr) (nms : List Str) (g : Str → V) (gd : Str → PyData), v = .ref p ∧ H p = some (.dK (kvZ g nms)) ∧ ∀ z ∈ nms, Dp K H (g z) (gd z) ∧ (gd z).canLay0 = true ∧ (gd z).depth ≤ 3
def rEqSelf (K : PySem.W.Frag) : R2 := fun x y H Q => x = y ∧ SelfV K H x ∧ Q (.bl true) H
theorem op_eqSelf {X : Cx} (hu : X.A.units + 64 < cLine) : OpR X (compareOp .Eq) (rEqSelf X.K) := by
  intro pins s σ H x y v u Q I rx ry h
  obtain ⟨rfl, h | h, q⟩ := h
  · obtain ⟨d, hd, sd⟩ := h
    refine op_eqD hu pins s σ H x x v u Q I rx ry ⟨d, d, hd, hd, sd, sd, ?_⟩
    rw [SeqAt.eqv_refl _ (SeqAt.canLay_of_shaped sd)]
    exact q
  · obtain ⟨p, nms, g, gd, rfl, hp, hz⟩ := h
    refine op_eqDT hu pins s σ H _ _ v u Q I rx ry ⟨p, p, nms, g, g, gd, gd, rfl, rfl, hp, hp, fun z hm => ?_, ?_⟩
    · obtain ⟨h1, h2, h3⟩ := hz z hm
      exact ⟨h1, h1, h2, h2, h3⟩
    · have : (nms.all fun z => PyData.eqv (gd z) (gd z)) = true := List.all_eq_true.mpr fun z hm => SeqAt.eqv_refl _ (hz z hm).2.1
      rw [this]
      exact q
end Wl

/-! Data of any depth under a heap that grows; a heap with one object left out. -/
namespace Wl
open PySem PySem.Spec PyProof.Rows L2
mutual
theorem dp_same {K : PySem.W.Frag} {H H' : Hp} (s : Same H H') : ∀ {v : V} {d : PyData}, Dp K H v d → Dp K H' v d
  | _, _, .non => .non
  | _, _, .bl b => .bl b
  | _, _, .int i => .int i
  | _, _, .str x => .str x
  | _, _, .lst h t => .lst (s.seq h) (dpAll_same s t)
  | _, _, .tup h t => .tup (tup_same s h) (dpAll_same s t)
theorem dpAll_same {K : PySem.W.Frag} {H H' : Hp} (s : Same H H') : ∀ {vs : List V} {ds : List PyData}, DpAll K H vs ds → DpAll K H' vs ds
  | _, _, .nil => .nil
  | _, _, .cons r t => .cons (dp_same s r) (dpAll_same s t)
end
theorem SelfV.same {K : PySem.W.Frag} {H H' : Hp} {v : V} (h : SelfV K H v) (s : Same H H') : SelfV K H' v := by
  rcases h with ⟨d, h1, h2⟩ | ⟨p, nms, g, gd, e, hp, hz⟩
  · exact .inl ⟨d, dp_same s h1, h2⟩
  · exact .inr ⟨p, nms, g, gd, e, s _ _ hp, fun z hm => ⟨dp_same s (hz z hm).1, (hz z hm).2⟩⟩
/-- new behind, new ahead -/
theorem hq_of {H H' : Hp} {p : Addr} (s : Same H H') (h : H' p = none) : H p = none := by
  cases q : H p with
  | none => rfl
  | some o =>
    rw [s p o q] at h
    cases h
/-- H without what stands at a -/
def hid (a : Addr) (H : Hp) : Hp := fun b => if b = a then none else H b
theorem hid_same {a : Addr} {H : Hp} : Same (hid a H) H := fun b o e => by
  unfold hid at e
  by_cases h : b = a
  · rw [if_pos h] at e
    cases e
  · rw [if_neg h] at e
    exact e
theorem hid_x {a : Addr} {H H' : Hp} (s : SameX a H H') : Same (hid a H) (hid a H') := fun b o e => by
  unfold hid at e ⊢
  by_cases h : b = a
  · rw [if_pos h] at e
    cases e
  · rw [if_neg h] at e ⊢
    exact s b o h e
theorem hid_at {a p : Addr} {H : Hp} {o : HO} (h : H p = some o) (hne : p ≠ a) : hid a H p = some o := by
  unfold hid
  rw [if_neg hne]
  exact h
/-- what H' has that H has not -/
def newH (H H' : Hp) : Hp := fun p => match H p with
  | none => H' p
  | some _ => none
theorem new_at {H H' : Hp} {p : Addr} {o : HO} (hn : H p = none) (h : H' p = some o) : newH H H' p = some o := by
  unfold newH
  rw [hn]
  exact h
theorem new_hid {H H' : Hp} {a : Addr} {o : HO} (h : H a = some o) : Same (newH H H') (hid a H') := fun p u e => by
  unfold newH at e
  cases q : H p with
  | some _ =>
    rw [q] at e
    cases e
  | none =>
    rw [q] at e
    exact hid_at e fun z => by
      rw [z, h] at q
      cases q
end Wl

/-! Displays of things that G tells of, whatever they are, while I stands. -/
namespace Wl
open PySem PySem.Spec PyProof.Rows L2
/-- G and I bear a growing heap -/
def Grows (G : Hp → V → Prop) : Prop := ∀ (H H' : Hp) (v : V), G H v → Same H H' → G H' v
def GrowsH (I : Hp → Prop) : Prop := ∀ (H H' : Hp), I H → Same H H' → I H'
def Bld (σ : L2.St) (I : Hp → Prop) (G : Hp → V → Prop) (te : TE) : Prop := ∀ (H : Hp) (Q : VK), I H → (∀ v H', Same H H' → G H' v → Q v H') → te σ H Q
def BldA (σ : L2.St) (I : Hp → Prop) (G : Hp → V → Prop) (n : Nat) (ta : TA) : Prop := ∀ (H : Hp) (Q : List V → Hp → Prop), I H → (∀ vs H', Same H H' → vs.length = n → (∀ v ∈ vs, G H' v) → Q vs H') → ta σ H Q
section
variable {σ : L2.St} {I : Hp → Prop} {G : Hp → V → Prop} {te : TE} {ta : TA} {n : Nat}
theorem bld_nil : BldA σ I G 0 tNil := fun H Q _ q => q [] H (Same.refl H) rfl (fun v hv => by cases hv)
theorem bld_cons (gI : GrowsH I) (gG : Grows G) (h : Bld σ I G te) (k : BldA σ I G n ta) : BldA σ I G (n + 1) (tCons te ta) := fun H Q i q => h H _ i fun v H1 s1 g1 => k H1 _ (gI _ _ i s1) fun vs H2 s2 l2 g2 => q (v :: vs) H2 (s1.trans s2) (by rw [List.length_cons, l2]) (fun u hu => by
  rcases List.mem_cons.mp hu with rfl | hu
  · exact gG _ _ _ g1 s2
  · exact g2 u hu)
/-- a constant -/
theorem bld_c {v : V} (h : ∀ H, I H → G H v) : Bld σ I G (tC v) := fun H Q i q => q v H (Same.refl H) (h H i)
/-- a display of such, as a new list -/
theorem bld_lst (gG : Grows G) (h : BldA σ I G n ta) (hn : n ≤ 1000) {H : Hp} {Q : VK} (i : I H) (q : ∀ p vs H', Same H H' → H p = none → H' p = some (.lst vs) → vs.length = n → (∀ v ∈ vs, G H' v) → Q (.ref p) H') : tLst ta σ H Q :=
  h H _ i fun vs H1 s1 l1 g1 => ⟨lzl (by omega), fun p hp => q p vs _ (s1.trans (same_new hp)) (hq_of s1 hp) upd_same l1 fun v hv => gG _ _ _ (g1 v hv) (same_new hp)⟩
/-- xs + [..] -/
theorem bld_cat (gI : GrowsH I) (gG : Grows G) {i0 m : Nat} (h : BldA σ I G n ta) (hn : n + m ≤ 1000) {H : Hp} {Q : VK} {p : Addr} {xs : List V} (i : I H) (hσ : σ[i0]? = some (some (.ref p))) (hp : H p = some (.lst xs)) (hm : xs.length = m) (hg : ∀ v ∈ xs, G H v)
    (q : ∀ r vs H', Same H H' → H r = none → H' r = some (.lst vs) → vs.length = m + n → (∀ v ∈ vs, G H' v) → Q (.ref r) H') : tOp rCat (tVar i0) (tLst ta) σ H Q := by
  refine ⟨_, hσ, bld_lst (n := n) gG h (by omega) i fun r vs H1 s1 n1 e1 l1 g1 => ⟨p, r, xs, vs, rfl, rfl, s1 _ _ hp, e1, lzl (by omega), fun t ht => ?_⟩⟩
  refine q t (xs ++ vs) _ (s1.trans (same_new ht)) (hq_of s1 ht) upd_same (by rw [List.length_append, hm, l1]) fun v hv => ?_
  rcases List.mem_append.mp hv with hv | hv
  · exact gG _ _ _ (hg v hv) (s1.trans (same_new ht))
  · exact gG _ _ _ (g1 v hv) (same_new ht)
/-- what a display's parts are, all at once -/
def BldX (σ : L2.St) (I : Hp → Prop) (R : Hp → List V → Prop) (ta : TA) : Prop := ∀ (H : Hp) (Q : List V → Hp → Prop), I H → (∀ xs H', Same H H' → I H' → R H' xs → Q xs H') → ta σ H Q
theorem bldx_c {xs : List V} (h : ∀ (H : Hp) (Q : List V → Hp → Prop), Q xs H → ta σ H Q) : BldX σ I (fun _ ys => ys = xs) ta := fun H Q i q => h H Q (q xs H (Same.refl H) i rfl)
theorem bld_tup {R : Hp → List V → Prop} (ht : BldX σ I R ta) (hl : ∀ H xs, R H xs → xs.length ≤ 1000) (g : ∀ (H : Hp) (p : Addr) (xs : List V), I H → R H xs → H p = none → G (upd H p (.tup xs)) (.ref p)) : Bld σ I G (tTup ta) := fun H Q i q =>
  ht H _ i fun xs H1 s1 i1 r1 => ⟨lzl (hl _ _ r1), fun p hp => q (.ref p) _ (s1.trans (same_new hp)) (g H1 p xs i1 r1 hp)⟩
theorem bld_lstX {R : Hp → List V → Prop} (ht : BldX σ I R ta) (hl : ∀ H xs, R H xs → xs.length ≤ 1000) (g : ∀ (H : Hp) (p : Addr) (xs : List V), I H → R H xs → H p = none → G (upd H p (.lst xs)) (.ref p)) : Bld σ I G (tLst ta) := fun H Q i q =>
  ht H _ i fun xs H1 s1 i1 r1 => ⟨lzl (hl _ _ r1), fun p hp => q (.ref p) _ (s1.trans (same_new hp)) (g H1 p xs i1 r1 hp)⟩
end
end Wl

/-! Single steps of a reading, so that the kernel need not unfold what stands in it. -/
namespace Wl
open PySem PySem.Spec PyProof.Rows L2
section
variable {te ta tb : TE} {i : Nat} {B : TS} {D : Ends} {σ : L2.St} {H : Hp} {Q : VK} {r : R2}
theorem st_asg (h : te σ H fun x H1 => B D (σ.set i (some x)) H1) : tSeq (tAsg te (gName i)) B D σ H := h
theorem st_ret (h : te σ H D.rt) : tRet te D σ H := h
theorem st_next (h : D.nx σ H) : tNext D σ H := h
theorem st_nextR {rt : VK} {bk ct : L2.St → Hp → Prop} (h : te σ H D.rt) : tNext { nx := tRet te D, rt := rt, bk := bk, ct := ct } σ H := h
theorem st_op (h : ta σ H fun x H1 => tb σ H1 fun y H2 => r x y H2 Q) : tOp r ta tb σ H Q := h
/-- behind branches: what J says -/
theorem st_join {A : TS} (J : L2.St → Hp → Prop) (h2 : ∀ σ' H', J σ' H' → B D σ' H') (h1 : ∀ D' : Ends, (∀ σ' H', J σ' H' → D'.nx σ' H') → D'.rt = D.rt → A D' σ H) : tSeq A B D σ H := h1 _ (fun σ' H' j => h2 σ' H' j) rfl
end
end Wl

/-! The checks of a telling's parts, of things of any kind: let, or refused. -/
namespace Wl
open PySem PySem.Spec PyProof.Rows L2
def wholeB : V → Bool
  | .int _ => true
  | _ => false
def truB : V → Bool
  | .bl _ => true
  | _ => false
def numB (lo hi : Int) : V → Bool
  | .int n => decide (lo ≤ n) && decide (n ≤ hi)
  | _ => false
abbrev ageB : V → Bool := numB 0 120
def nameB (g : Grid) : V → Bool
  | .str z => wdB z && decide (z ∈ names g)
  | _ => false
theorem OddV.kinds {K : PySem.W.Frag} {H : Hp} {v : V} (h : OddV H v) : ∃ t, TyX K H v t ∧ PySem.W.kitOne K t (.type "int") = some (wholeB v || truB v) ∧ PySem.W.kitOne K t (.type "bool") = some (truB v) := by
  rcases h with ⟨z, e, h⟩ | h | ⟨b, h⟩ | ⟨i, h⟩ | ⟨p, e, ⟨xs, h⟩ | ⟨xs, h⟩ | ⟨xs, h⟩⟩
  · subst e
    exact ⟨_, .base (.str z), kit_ty (r := false) (by decide +kernel), kit_ty (r := false) (by decide +kernel)⟩
  · subst h
    exact ⟨_, .base .non, kit_ty (r := false) (by decide +kernel), kit_ty (r := false) (by decide +kernel)⟩
  · subst h
    exact ⟨_, .base (.bl b), kit_ty (r := true) (by decide +kernel), kit_ty (r := true) (by decide +kernel)⟩
  · subst h
    exact ⟨_, .base (.int i), kit_ty (r := true) (by decide +kernel), kit_ty (r := false) (by decide +kernel)⟩
  · subst e
    exact ⟨_, .base (.tup h), kit_ty (r := false) (by decide +kernel), kit_ty (r := false) (by decide +kernel)⟩
  · subst e
    exact ⟨_, .base (.lst h), kit_ty (r := false) (by decide +kernel), kit_ty (r := false) (by decide +kernel)⟩
  · subst e
    exact ⟨_, .base (.dK h), kit_ty (r := false) (by decide +kernel), kit_ty (r := false) (by decide +kernel)⟩
theorem wv_str {v : V} (h : wvB v = true) : ∃ z, v = .str z ∧ IsWd z := by
  cases v with
  | str z => exact ⟨z, rfl, h⟩
  | _ => cases h
theorem age_int {v : V} (h : ageB v = true) : ∃ n : Nat, v = .int (n : Int) ∧ n ≤ 120 := by
  cases v with
  | int i =>
    have h' : (decide ((0 : Int) ≤ i) && decide (i ≤ 120)) = true := h
    rw [Bool.and_eq_true, decide_eq_true_eq, decide_eq_true_eq] at h'
    exact ⟨i.toNat, by rw [Int.toNat_of_nonneg h'.1], by omega⟩
  | _ => cases h
theorem tru_bl {v : V} (h : truB v = true) : ∃ b, v = .bl b := by
  cases v with
  | bl b => exact ⟨b, rfl⟩
  | _ => cases h
theorem name_str {g : Grid} {v : V} (h : nameB g v = true) : ∃ z, v = .str z ∧ IsWd z ∧ z ∈ names g := by
  cases v with
  | str z =>
    have h' : (wdB z && decide (z ∈ names g)) = true := h
    rw [Bool.and_eq_true, decide_eq_true_eq] at h'
    exact ⟨z, rfl, h'.1, h'.2⟩
  | _ => cases h
section
variable {P : Program} {w : World} {K : PySem.W.Frag} {mg : Str → Option Value} {base : Heap} {f C D cN cW cA cS : Addr} {fd : FuncData}
def spIsWholeO : Sp := fun vs H Q _ => ∃ v, vs = [v] ∧ OddV H v ∧ Q (.bl (wholeB v)) H
theorem ok_iswholeO (F : Fun K "is_whole" "is_whole" sIsWhole f fd) (B : Bi mg) (B2 : Bg mg) : FnOk P w K mg base CX0 1 f fd ["thing"] spIsWholeO := by
  refine F.ok scIsWhole (fun vs H Q E h => ?_) (fun cdv A outer s H vs Q E hr h => ?_)
  · obtain ⟨n, rfl, _⟩ := h
    rfl
  · obtain ⟨v, rfl, ho, q⟩ := h
    obtain ⟨t, ty, k1, k2⟩ := ho.kinds (K := K)
    refine ⟨_, pss_one (ps_ret (pe_and (pe_callB call_isi (by rfl) B.isi (by decide +kernel) (pa_cons (pv 0) (pa_cons (pe_bltn (v := .ty "int") (by rfl) B.int (by decide +kernel) rfl) pa_nil)))
      (pe_one (pe_not (pe_callB call_isi (by rfl) B.isi (by decide +kernel) (pa_cons (pv 0) (pa_cons (pe_bltn (v := .ty "bool") (by rfl) B2.bool (by decide +kernel) rfl) pa_nil))))))), ?_⟩
    refine ⟨_, rfl, _, _, _, _, _, rfl, .ty "int", ty, k1, _, rfl, ite_b (fun e => ?_) (fun e => ?_)⟩
    · refine ⟨_, rfl, _, _, _, _, _, rfl, .ty "bool", ty, k2, _, rfl, ?_⟩
      have e2 : wholeB v = !truB v := by
        cases v <;> first | rfl | cases e
      rw [e2] at q
      exact q
    · have e2 : wholeB v = false := by
        cases v <;> first | rfl | cases e
      rw [e2] at q
      exact q
def spIsNumO : Sp := fun vs H Q _ => ∃ (v : V) (lo hi : Int), vs = [v, .int lo, .int hi] ∧ OddV H v ∧ Q (.bl (numB lo hi v)) H
theorem ok_isnumO (F : Fun K "is_number_from" "is_number_from" sIsNum f fd) (hI : Has P w K mg base "is_whole" 1 ["thing"] spIsWholeO) : FnOk P w K mg base CX0 2 f fd ["thing", "least", "most"] spIsNumO := by
  refine F.ok scIsNum (fun vs H Q E h => ?_) (fun cdv A outer s H vs Q E hr h => ?_)
  · obtain ⟨n, lo, hi, rfl, _⟩ := h
    rfl
  · obtain ⟨v, lo, hi, rfl, ho, q⟩ := h
    refine ⟨_, pss_one (ps_ret (pe_and (pe_h hI hr (pa_cons (pv 0) pa_nil)) (pe_one (pe_chain op_le op_le (pv 1) (pv 0) (pv 2))))), ?_⟩
    refine ⟨_, rfl, v, rfl, ho, _, rfl, ite_b (fun e => ?_) (fun e => ?_)⟩
    · obtain ⟨n, rfl⟩ : ∃ n, v = .int n := by
        cases v with
        | int n => exact ⟨n, rfl⟩
        | _ => cases e
      have q' : Q (.bl (decide (lo ≤ n) && decide (n ≤ hi))) H := q
      refine ⟨_, rfl, _, rfl, _, _, rfl, rfl, _, rfl, ite_b (fun e1 => ⟨_, rfl, _, _, rfl, rfl, ?_⟩) (fun e1 => ?_)⟩
      · rw [e1, Bool.true_and] at q'
        exact q'
      · rw [e1, Bool.false_and] at q'
        exact q'
    · have e2 : numB lo hi v = false := by
        cases v <;> first | rfl | cases e
      rw [e2] at q
      exact q
/-! ### let, or refused -/
def spWordA (cW : Addr) : Sp := fun vs H Q E => ∃ v, vs = [v] ∧ OddV H v ∧ (wvB v = true → ∀ H', Same H H' → Q .non H') ∧ (wvB v = false → Refuses cW "word" v H E)
theorem ok_wordA (F : Fun K "check_word" "check_word" sCheckW f fd) (T : OwnX K mg "NoWord" "word" cW) (hI : Has P w K mg base "is_word" 1 ["thing"] (spIsW K)) : FnOk P w K mg base (L2N.CX P w) 2 f fd ["word"] (spWordA cW) := by
  refine Fun_okN F scCheckW (fun vs H Q E h => ?_) (fun cdv A outer s H vs Q E hr h => ?_)
  · obtain ⟨v, rfl, _⟩ := h
    rfl
  · obtain ⟨v, rfl, ho, q1, q2⟩ := h
    refine ⟨_, pss_one (ps_if (pt_not (pt_val (pe_h hI hr (pa_cons (pv 0) pa_nil)))) (pss_one (ps_raiseX rfl T hr (L2N.takes_of rfl rfl rfl rfl) (pa_cons (pv 0) pa_nil))) pss_nil), ?_⟩
    refine ⟨_, rfl, v, wvB v, rfl, ho.wv, fun H1 s1 => ⟨_, rfl, not_b (fun e => ?_) (fun e => ?_)⟩⟩
    · exact ⟨_, rfl, v, rfl, fun d hd => (q2 e).new s1 d hd⟩
    · exact q1 e H1 s1
def spAgeA (cA : Addr) : Sp := fun vs H Q E => ∃ v, vs = [v] ∧ OddV H v ∧ (ageB v = true → Q .non H) ∧ (ageB v = false → Refuses cA "age" v H E)
theorem ok_ageA (F : Fun K "check_age" "check_age" sCheckA f fd) (T : OwnX K mg "NoAge" "age" cA) (B2 : Bg mg) (hI : Has P w K mg base "is_number_from" 2 ["thing", "least", "most"] spIsNumO) : FnOk P w K mg base (L2N.CX P w) 3 f fd ["age"] (spAgeA cA) := by
  obtain ⟨t, gt⟩ := B2.oldest
  refine Fun_okN F scCheckA (fun vs H Q E h => ?_) (fun cdv A outer s H vs Q E hr h => ?_)
  · obtain ⟨v, rfl, _⟩ := h
    rfl
  · obtain ⟨v, rfl, ho, q1, q2⟩ := h
    refine ⟨_, pss_one (ps_if (pt_not (pt_val (pe_h hI hr (pa_cons (pv 0) (pa_cons pe_int (pa_cons (pe_glob (v := .int 120) rfl gt ⟨_, rfl⟩) pa_nil)))))) (pss_one (ps_raiseX rfl T hr (L2N.takes_of rfl rfl rfl rfl) (pa_cons (pv 0) pa_nil))) pss_nil), ?_⟩
    refine ⟨_, rfl, v, 0, 120, rfl, ho, _, rfl, not_b (fun e => ?_) (fun e => ?_)⟩
    · exact ⟨_, rfl, v, rfl, fun d hd => (q2 e).new (Same.refl H) d hd⟩
    · exact q1 e
def spSureA (cS : Addr) : Sp := fun vs H Q E => ∃ v, vs = [v] ∧ OddV H v ∧ (truB v = true → Q .non H) ∧ (truB v = false → Refuses cS "sure" v H E)
theorem ok_sureA (F : Fun K "check_sure" "check_sure" sCheckS f fd) (B : Bi mg) (B2 : Bg mg) (T : OwnX K mg "NoSure" "sure" cS) : FnOk P w K mg base (L2N.CX P w) 1 f fd ["sure"] (spSureA cS) := by
  refine Fun_okN F scCheckS (fun vs H Q E h => ?_) (fun cdv A outer s H vs Q E hr h => ?_)
  · obtain ⟨v, rfl, _⟩ := h
    rfl
  · obtain ⟨v, rfl, ho, q1, q2⟩ := h
    obtain ⟨t, ty, _, k⟩ := ho.kinds (K := K)
    refine ⟨_, pss_one (ps_if (pt_not (pt_val (pe_callB call_isi (by rfl) B.isi (by decide +kernel) (pa_cons (pv 0) (pa_cons (pe_bltn (v := .ty "bool") (by rfl) B2.bool (by decide +kernel) rfl) pa_nil))))) (pss_one (ps_raiseX rfl T hr (L2N.takes_of rfl rfl rfl rfl) (pa_cons (pv 0) pa_nil))) pss_nil), ?_⟩
    refine ⟨_, rfl, _, _, _, _, _, rfl, .ty "bool", ty, k, _, rfl, not_b (fun e => ?_) (fun e => ?_)⟩
    · exact ⟨_, rfl, v, rfl, fun d hd => (q2 e).new (Same.refl H) d hd⟩
    · exact q1 e
def spNameA (C cN : Addr) : Sp := fun vs H Q E => ∃ (p L : Addr) (g : Grid) (wd : Nat) (v : V), vs = [.ref p, v] ∧ LandAt C H p L g ∧ Good g wd ∧ OddV H v ∧ (nameB g v = true → ∀ (H' : Hp), Same H H' → Q .non H') ∧ (nameB g v = false → Refuses cN "name" v H E)
theorem ok_nameA (F : Fun K "check_name" "Land.check_name" sCheck f fd) (T : Txt K mg C) (TN : OwnX K mg "NoName" "name" cN) (hI : Has P w K mg base "is_word" 1 ["thing"] (spIsW K)) : FnOk P w K mg base (L2N.CX P w) 2 f fd ["self", "name"] (spNameA C cN) := by
  refine Fun_okN F scCheck (fun vs H Q E h => ?_) (fun cdv A outer s H vs Q E hr h => ?_)
  · obtain ⟨p, L, g, wd, v, rfl, _⟩ := h
    rfl
  · obtain ⟨p, L, g, wd, v, rfl, hLa, gd, ho, q1, q2⟩ := h
    have hu := hu_of hr
    refine ⟨_, pss_one (ps_if (PW.pt (pw_or (pt_not (pt_val (pe_h hI hr (pa_cons (pv 1) pa_nil)))) (pw_or1 (pt_cmp (pc_dnotin hu (pv 1) (pe_fld (pv 0) rfl)))))) (pss_one (ps_raiseX rfl TN hr (L2N.takes_of rfl rfl rfl rfl) (pa_cons (pv 1) pa_nil))) pss_nil), ?_⟩
    refine ⟨_, rfl, v, wvB v, rfl, ho.wv, fun H1 s1 => ⟨_, rfl, not_b (fun e => ?_) (fun e => ?_)⟩⟩
    · have en : nameB g v = false := by
        cases v with
        | str z =>
          show (wdB z && decide (z ∈ names g)) = false
          rw [show wdB z = false from e, Bool.false_and]
        | _ => rfl
      exact ⟨_, rfl, v, rfl, fun d hd => (q2 en).new s1 d hd⟩
    · obtain ⟨z, rfl, hz⟩ := wv_str e
      obtain ⟨d, dx, hp, ⟨kvs, hd, he⟩, hG⟩ := hLa.keep (kp_same s1)
      have hn : nameB g (.str z) = decide (z ∈ names g) := by
        show (wdB z && decide (z ∈ names g)) = _
        rw [show wdB z = true from hz, Bool.true_and]
      refine ⟨_, rfl, _, rfl, p, C, dx, _, _, rfl, hp, T.cl, T.nS, lf_spots _ _, d, _, rfl, DGet.k (k := Sum.inr z) hd, _, rfl, ?_⟩
      by_cases hm : z ∈ names g
      · obtain ⟨r, c, hc⟩ := mem_names.mp hm
        obtain ⟨t, hv, ht⟩ := ent_some he (by rw [spG_fst]; exact gd.nd) (spG_cell.mpr hc)
        rw [hv]
        exact iteF (q1 (by rw [hn, decide_eq_true hm]) H1 s1)
      · rw [ent_none he (by rw [spG_fst]; exact hm)]
        exact iteT ⟨_, rfl, _, rfl, fun d2 hd2 => (q2 (by rw [hn, decide_eq_false hm])).new s1 d2 hd2⟩
end
end Wl



namespace Wl
open PySem PySem.Spec PyProof.Rows L2
abbrev sKey : Stmt := topS 57
abbrev sPut : Stmt := topS 58
section
variable {K : PySem.W.Frag} {H : Hp} {Q : VK}
theorem cat_reads {a b : Addr} {xs ys : List V} (ha : H a = some (.tup xs)) (hb : H b = some (.tup ys)) (hz : xs.length + ys.length ≤ 1000) (q : ∀ u H', Same H H' → H' u = some (.tup (xs ++ ys)) → Q (.ref u) H') : rCatA K (.ref a) (.ref b) H Q := by
  refine ⟨a, b, xs, ys, rfl, rfl, .inl (.inl ha), .inl (.inl hb), lzl hz, fun e => ?_, fun _ e => ?_, fun _ _ p hp => ?_⟩
  · subst e
    exact q b H (Same.refl H) hb
  · subst e
    refine q a H (Same.refl H) ?_
    rw [List.append_nil]
    exact ha
  · exact q p _ (same_new hp) upd_same
theorem sl_reads {a : Addr} {xs : List V} {lo hi : Option Int} (ha : H a = some (.tup xs)) (q : ∀ u H', Same H H' → H' u = some (.tup (cutV xs lo hi)) → Q (.ref u) H') : rSlA K (.ref a) lo hi H Q := by
  refine ⟨a, xs, rfl, .inl (.inl ha), fun ⟨e1, e2⟩ => ?_, fun _ p hp => q p _ (same_new hp) upd_same⟩
  refine q a H (Same.refl H) ?_
  unfold cutV
  rw [e1, e2, List.drop_zero, Nat.sub_zero, List.take_length]
  exact ha
end
theorem cut_to (xs : List V) (c : Nat) : cutV xs none (some (c : Int)) = xs.take c := by
  unfold cutV
  rw [HT.sIx_none, HT.sIx_nat, List.drop_zero, Nat.sub_zero]
  by_cases h : c ≤ xs.length
  · rw [Nat.min_eq_left h]
  · rw [Nat.min_eq_right (by omega), List.take_length, List.take_of_length_le (by omega)]
theorem cut_from (xs : List V) (c : Nat) : cutV xs (some (c : Int)) none = xs.drop c := by
  unfold cutV
  rw [HT.sIx_none, HT.sIx_nat]
  by_cases h : c ≤ xs.length
  · rw [Nat.min_eq_left h, ← List.length_drop, List.take_length]
  · rw [Nat.min_eq_right (by omega), List.drop_length, List.drop_eq_nil_of_le (by omega), List.take_nil]
section
variable {P : Program} {w : World} {K : PySem.W.Frag} {mg : Str → Option Value} {base : Heap} {f C D : Addr} {fd : FuncData}
theorem scKey : FnScope ["_law_row_here"] ["_law_row_here"] (defScope sKey) := ⟨rfl, rfl, rfl, by decide +kernel, rfl, by decide +kernel, by decide +kernel⟩
theorem ok_key (F : Fun K "_law_key" "_law_key" sKey f fd) : FnOk P w K mg base CX0 1 f fd ["_law_row_here"] spKeyOf := by
  refine F.ok scKey (fun vs H Q E h => ?_) (fun cdv A outer s H vs Q E hr h => ?_)
  · obtain ⟨p, t, rfl, _⟩ := h
    rfl
  · obtain ⟨p, t, rfl, hp, q⟩ := h
    refine ⟨_, pss_one (ps_ret (pe_tup (pa_cons (pe_ix ix_tup (pv 0) pe_int (fun _ _ => rfl)) (pa_cons (pe_ix ix_tup (pv 0) pe_int (fun _ _ => rfl)) (pa_cons (pe_ix ix_tup (pv 0) pe_int (fun _ _ => rfl)) (pa_cons (pe_ix ix_tup (pv 0) pe_int (fun _ _ => rfl)) pa_nil)))))), ?_⟩
    refine ⟨_, rfl, p, _, _, _, rfl, rfl, .inl (.inl hp), atI_nat (j := 0) rfl, _, rfl, p, _, _, _, rfl, rfl, .inl (.inl hp), atI_nat (j := 3) rfl, _, rfl, p, _, _, _, rfl, rfl, .inl (.inl hp), atI_nat (j := 1) rfl, _, rfl, p, _, _, _, rfl, rfl, .inl (.inl hp), atI_nat (j := 5) rfl, lz, fun u hu => q u hu⟩
/-! ### a telling put, one way or another -/
def HasP (P : Program) (w : World) (K : PySem.W.Frag) (mg : Str → Option Value) (base : Heap) (C D : Addr) : Prop := ∃ f fd, FnOk P w K mg base CX0 4 f fd psPut (spPut C D) ∧ Meth K D "put" f ∧ FunP K f fd
def spLPut (C D : Addr) : Sp := fun vs H Q _ => ∃ (p rp : Addr) (way : Int) (r : GR) (wd : Nat) (t : Tel), vs = [.ref p, .ref rp, .int way] ∧ H rp = some (.tup (telV t)) ∧ GatAt C D H p r ∧ Good r.g wd ∧ (∀ u ∈ r.ts, OkT u) ∧ OkT t ∧ t.v ∈ names r.g ∧ keyS t ∉ r.ts.map keyS ∧ r.ts.length < 200 ∧ r.ds.length < 1000 ∧
  ∀ (q : Addr) (H' : Hp), H q = none → Same2 r.td r.dd H H' → GatAt C D H' p (r.add q t) → Q .non H'
abbrev nLPut : List Str := ["_law_basket", "_law_row_here", "_law_way", "_law_town", "_law_matter", "_law_said", "_law_mouth", "_law_years", "_law_hand", "_law_firm"]
theorem scLPut : FnScope nLPut ["_law_basket", "_law_row_here", "_law_way"] (defScope sPut) := ⟨rfl, rfl, rfl, by decide +kernel, rfl, by decide +kernel, by decide +kernel⟩
theorem ok_lput (F : Fun K "_law_put" "_law_put" sPut f fd) (TG : TxtG K mg D) (hP : HasP P w K mg base C D) : FnOk P w K mg base CX0 5 f fd ["_law_basket", "_law_row_here", "_law_way"] (spLPut C D) := by
  obtain ⟨fp, fdp, FP, mP, fnP⟩ := hP
  have b8 := put_b8 fnP
  obtain ⟨ds6, v6, b6⟩ := put_b6 fnP
  obtain ⟨i1, k1⟩ := put_k1 fnP
  obtain ⟨i2, k2⟩ := put_k2 fnP
  obtain ⟨i3, k3⟩ := put_k3 fnP
  refine F.ok scLPut (fun vs H Q E h => ?_) (fun cdv A outer s H vs Q E hr h => ?_)
  · obtain ⟨p, rp, way, r, wd, t, rfl, _⟩ := h
    rfl
  · obtain ⟨p, rp, way, r, wd, t, rfl, hrp, hG, gd, hok, okt, hv, hnew, h200, hds, q⟩ := h
    refine ⟨_, pss_cons (ps_if (PW.pt (pw_and (pt_cmpR op_eq (pv 2) pe_int (nomark _)) (pw_and1 (pt_cmpR (op_eqD hr.units) (pe_slice sl_tupA (pv 1) (po_some pe_int) po_none) (pe_tup (pa_cons pe_str (pa_cons pe_bl pa_nil))) (nomark _)))))
        (pss_one (ps_ret (pe_meth (pv 0) TG.cl mP FP hr b6 v6 pass0 (pa_cons (pe_ix ix_tup (pv 1) pe_int (fun _ _ => rfl)) (pa_cons (pe_ix ix_tup (pv 1) pe_int (fun _ _ => rfl)) (pa_cons (pe_ix ix_tup (pv 1) pe_int (fun _ _ => rfl)) (pa_cons (pe_ix ix_tup (pv 1) pe_int (fun _ _ => rfl)) (pa_cons (pe_ix ix_tup (pv 1) pe_int (fun _ _ => rfl)) pa_nil)))))))) pss_nil)
      (pss_cons (ps_if (PW.pt (pw_and (pt_cmpR op_eq (pv 2) pe_int (nomark _)) (pw_and1 (pt_val (pe_ix ix_tup (pv 1) pe_int (fun _ _ => rfl))))))
        (pss_one (ps_ret (pe_methN0 (pv 0) TG.cl mP FP hr k1 pass0 (pk_cons (pe_ix ix_tup (pv 1) pe_int (fun _ _ => rfl)) (pk_cons (pe_ix ix_tup (pv 1) pe_int (fun _ _ => rfl)) (pk_cons (pe_ix ix_tup (pv 1) pe_int (fun _ _ => rfl)) (pk_cons (pe_ix ix_tup (pv 1) pe_int (fun _ _ => rfl)) (pk_cons (pe_ix ix_tup (pv 1) pe_int (fun _ _ => rfl)) (pk_cons (pe_ix ix_tup (pv 1) pe_int (fun _ _ => rfl)) pk_nil))))))))) pss_nil)
      (pss_cons (ps_if (PW.pt (pw_and (pt_cmpR op_eq (pv 2) pe_int (nomark _)) (pw_and1 (pt_cmpR op_eq (pe_ix ix_tup (pv 1) pe_int (fun _ _ => rfl)) pe_str (nomark _)))))
        (pss_one (ps_ret (pe_methN (n := 5) (pv 0) TG.cl mP FP hr k2 pass0 (pa_cons (pe_ix ix_tup (pv 1) pe_int (fun _ _ => rfl)) (pa_cons (pe_ix ix_tup (pv 1) pe_int (fun _ _ => rfl)) (pa_cons (pe_ix ix_tup (pv 1) pe_int (fun _ _ => rfl)) (pa_cons (pe_ix ix_tup (pv 1) pe_int (fun _ _ => rfl)) (pa_cons (pe_ix ix_tup (pv 1) pe_int (fun _ _ => rfl)) pa_nil))))) (pk_cons (pe_ix ix_tup (pv 1) pe_int (fun _ _ => rfl)) pk_nil)))) pss_nil)
      (pss_cons (ps_if (pt_cmpR op_eq (pv 2) pe_int (nomark _))
        (pss_cons (ps_asg (pv 1) (pg_tup rfl (pgs_cons (pg_name (i := 3) scLPut.nd rfl (.inl rfl)) (pgs_cons (pg_name (i := 4) scLPut.nd rfl (.inl rfl)) (pgs_cons (pg_name (i := 5) scLPut.nd rfl (.inl rfl)) (pgs_cons (pg_name (i := 6) scLPut.nd rfl (.inl rfl)) (pgs_cons (pg_name (i := 7) scLPut.nd rfl (.inl rfl)) (pgs_cons (pg_name (i := 8) scLPut.nd rfl (.inl rfl)) (pgs_cons (pg_name (i := 9) scLPut.nd rfl (.inl rfl)) pgs_nil)))))))))
        (pss_one (ps_ret (pe_methN0 (pv 0) TG.cl mP FP hr k3 pass0 (pk_cons (pv 9) (pk_cons (pv 8) (pk_cons (pv 7) (pk_cons (pv 6) (pk_cons (pv 5) (pk_cons (pv 4) (pk_cons (pv 3) pk_nil)))))))))) ) pss_nil)
      (pss_one (ps_ret (pe_meth (pv 0) TG.cl mP FP hr b8 .nil pass0 (pa_cons (pe_ix ix_tup (pv 1) pe_int (fun _ _ => rfl)) (pa_cons (pe_ix ix_tup (pv 1) pe_int (fun _ _ => rfl)) (pa_cons (pe_ix ix_tup (pv 1) pe_int (fun _ _ => rfl)) (pa_cons (pe_ix ix_tup (pv 1) pe_int (fun _ _ => rfl)) (pa_cons (pe_ix ix_tup (pv 1) pe_int (fun _ _ => rfl)) (pa_cons (pe_ix ix_tup (pv 1) pe_int (fun _ _ => rfl)) (pa_cons (pe_ix ix_tup (pv 1) pe_int (fun _ _ => rfl)) pa_nil))))))))))))), ?_⟩
    obtain ⟨dx, hp⟩ := hG.at_
    have go : ∀ (H1 : Hp), Same H H1 → ∀ vs, vs = V.ref p :: telV t → spPut C D vs H1 Q E0 := fun H1 s1 vs e => ⟨p, r, wd, t, e, hG.same s1, gd, hok, okt, hv, hnew, h200, hds, fun q' H' n m g => q q' H' (s1.free n) ((Same2.of s1).trans m) g⟩
    have go2 : ∀ {t' : Tel}, t' = t → ∀ (H1 : Hp), Same H H1 → ∀ vs, vs = V.ref p :: telV t' → spPut C D vs H1 Q E0 := fun {t'} e H1 s1 vs e2 => go H1 s1 vs (by rw [e2, e])
    refine ⟨_, rfl, rfl, _, rfl, ite_b (fun e0 => ?_) (fun e0 => ?_)⟩
    · have w0 : way = 0 := V.int.inj (of_decide_eq_true e0)
      refine ⟨_, rfl, (5 : Int), rfl, ?_⟩
      dsimp only [tNoPart]
      refine sl_reads hrp fun u1 H1 s1 hu1 => ⟨lz, fun u2 hu2 => ?_⟩
      have s2 := same_new (o := .tup [V.str "self", V.bl true]) hu2
      have ecut : cutV (telV t) (some (5 : Int)) none = [V.str t.g, V.bl t.sure] := by
        rw [show (5 : Int) = ((5 : Nat) : Int) from rfl, cut_from]
        rfl
      rw [ecut] at hu1
      have s12 := s1.trans s2
      have hrp2 := s12 _ _ hrp
      have hp2 := s12 _ _ hp
      refine ⟨.tuple [.str t.g, .bool t.sure], .tuple [.str "self", .bool true], .tup (.inl (.inl (s2 _ _ hu1))) (.cons (.str _) (.cons (.bl _) .nil)), .tup (.inl (.inl upd_same)) (.cons (.str _) (.cons (.bl _) .nil)), ?_, by decide +kernel, _, rfl, ite_b (fun e1 => ?_) (fun e1 => ?_)⟩
      · exact shaped_tuple (by simp [PyData.canLayAll0, PyData.canLay0, wd_ok okt.g]) (by simp [PyData.depthAll, PyData.depth])
      · have eg : t.g = "self" ∧ t.sure = true := by
          simp only [PyData.eqv, PyData.eqvAll, Bool.and_eq_true, Bool.and_true, beq_iff_eq] at e1
          exact e1
        have et : ({ t with g := "self", sure := true } : Tel) = t := by
          cases t
          simp only at eg
          simp [eg.1, eg.2]
        exact ⟨_, rfl, p, _, _, rfl, hp2, gf_no _ _ _, _, rfl, rp, _, _, _, rfl, rfl, .inl (.inl hrp2), atI_nat (j := 0) rfl, _, rfl, rp, _, _, _, rfl, rfl, .inl (.inl hrp2), atI_nat (j := 1) rfl, _, rfl, rp, _, _, _, rfl, rfl, .inl (.inl hrp2), atI_nat (j := 2) rfl, _, rfl, rp, _, _, _, rfl, rfl, .inl (.inl hrp2), atI_nat (j := 3) rfl, _, rfl, rp, _, _, _, rfl, rfl, .inl (.inl hrp2), atI_nat (j := 4) rfl, go2 et _ s12 _ rfl⟩
      · refine ⟨_, rfl, rfl, _, rfl, ?_⟩
        rw [show decide (V.int way = V.int 1) = false from decide_eq_false (fun e => absurd (V.int.inj e) (by omega))]
        refine iteF ⟨_, rfl, rfl, _, rfl, ?_⟩
        rw [show decide (V.int way = V.int 2) = false from decide_eq_false (fun e => absurd (V.int.inj e) (by omega))]
        refine iteF ⟨_, rfl, rfl, _, rfl, ?_⟩
        rw [show decide (V.int way = V.int 3) = false from decide_eq_false (fun e => absurd (V.int.inj e) (by omega))]
        exact iteF ⟨_, rfl, p, _, _, rfl, hp2, gf_no _ _ _, _, rfl, rp, _, _, _, rfl, rfl, .inl (.inl hrp2), atI_nat (j := 0) rfl, _, rfl, rp, _, _, _, rfl, rfl, .inl (.inl hrp2), atI_nat (j := 1) rfl, _, rfl, rp, _, _, _, rfl, rfl, .inl (.inl hrp2), atI_nat (j := 2) rfl, _, rfl, rp, _, _, _, rfl, rfl, .inl (.inl hrp2), atI_nat (j := 3) rfl, _, rfl, rp, _, _, _, rfl, rfl, .inl (.inl hrp2), atI_nat (j := 4) rfl, _, rfl, rp, _, _, _, rfl, rfl, .inl (.inl hrp2), atI_nat (j := 5) rfl, _, rfl, rp, _, _, _, rfl, rfl, .inl (.inl hrp2), atI_nat (j := 6) rfl, go _ s12 _ rfl⟩
    have w0 : way ≠ 0 := fun e => of_decide_eq_false e0 (congrArg V.int e)
    have sr := Same.refl H
    refine ⟨_, rfl, rfl, _, rfl, ite_b (fun e1 => ?_) (fun e1 => ?_)⟩
    · have w1 : way = 1 := V.int.inj (of_decide_eq_true e1)
      refine ⟨_, rfl, rp, _, _, _, rfl, rfl, .inl (.inl hrp), atI_nat (j := 6) rfl, _, rfl, ite_b (fun e2 => ?_) (fun e2 => ?_)⟩
      · have et : ({ t with sure := true } : Tel) = t := by
          cases t
          simp only at e2
          simp [e2]
        exact ⟨_, rfl, p, _, _, rfl, hp, gf_no _ _ _, _, rfl, rp, _, _, _, rfl, rfl, .inl (.inl hrp), atI_nat (j := 4) rfl, _, rfl, rp, _, _, _, rfl, rfl, .inl (.inl hrp), atI_nat (j := 0) rfl, _, rfl, rp, _, _, _, rfl, rfl, .inl (.inl hrp), atI_nat (j := 5) rfl, _, rfl, rp, _, _, _, rfl, rfl, .inl (.inl hrp), atI_nat (j := 2) rfl, _, rfl, rp, _, _, _, rfl, rfl, .inl (.inl hrp), atI_nat (j := 3) rfl, _, rfl, rp, _, _, _, rfl, rfl, .inl (.inl hrp), atI_nat (j := 1) rfl, rfl, rfl, go2 et _ sr _ rfl⟩
      · refine ⟨_, rfl, rfl, _, rfl, ?_⟩
        rw [show decide (V.int way = V.int 2) = false from decide_eq_false (fun e => absurd (V.int.inj e) (by omega))]
        refine iteF ⟨_, rfl, rfl, _, rfl, ?_⟩
        rw [show decide (V.int way = V.int 3) = false from decide_eq_false (fun e => absurd (V.int.inj e) (by omega))]
        exact iteF ⟨_, rfl, p, _, _, rfl, hp, gf_no _ _ _, _, rfl, rp, _, _, _, rfl, rfl, .inl (.inl hrp), atI_nat (j := 0) rfl, _, rfl, rp, _, _, _, rfl, rfl, .inl (.inl hrp), atI_nat (j := 1) rfl, _, rfl, rp, _, _, _, rfl, rfl, .inl (.inl hrp), atI_nat (j := 2) rfl, _, rfl, rp, _, _, _, rfl, rfl, .inl (.inl hrp), atI_nat (j := 3) rfl, _, rfl, rp, _, _, _, rfl, rfl, .inl (.inl hrp), atI_nat (j := 4) rfl, _, rfl, rp, _, _, _, rfl, rfl, .inl (.inl hrp), atI_nat (j := 5) rfl, _, rfl, rp, _, _, _, rfl, rfl, .inl (.inl hrp), atI_nat (j := 6) rfl, go _ sr _ rfl⟩
    have w1 : way ≠ 1 := fun e => of_decide_eq_false e1 (congrArg V.int e)
    refine ⟨_, rfl, rfl, _, rfl, ite_b (fun e2 => ?_) (fun e2 => ?_)⟩
    · have w2 : way = 2 := V.int.inj (of_decide_eq_true e2)
      refine ⟨_, rfl, rp, _, _, _, rfl, rfl, .inl (.inl hrp), atI_nat (j := 5) rfl, rfl, _, rfl, ite_b (fun e3 => ?_) (fun e3 => ?_)⟩
      · have eg : t.g = "self" := V.str.inj (of_decide_eq_true e3)
        have et : ({ t with g := "self" } : Tel) = t := by
          cases t
          simp only at eg
          simp [eg]
        exact ⟨_, rfl, p, _, _, rfl, hp, gf_no _ _ _, _, rfl, rp, _, _, _, rfl, rfl, .inl (.inl hrp), atI_nat (j := 0) rfl, _, rfl, rp, _, _, _, rfl, rfl, .inl (.inl hrp), atI_nat (j := 1) rfl, _, rfl, rp, _, _, _, rfl, rfl, .inl (.inl hrp), atI_nat (j := 2) rfl, _, rfl, rp, _, _, _, rfl, rfl, .inl (.inl hrp), atI_nat (j := 3) rfl, _, rfl, rp, _, _, _, rfl, rfl, .inl (.inl hrp), atI_nat (j := 4) rfl, _, rfl, rp, _, _, _, rfl, rfl, .inl (.inl hrp), atI_nat (j := 6) rfl, rfl, rfl, go2 et _ sr _ rfl⟩
      · refine ⟨_, rfl, rfl, _, rfl, ?_⟩
        rw [show decide (V.int way = V.int 3) = false from decide_eq_false (fun e => absurd (V.int.inj e) (by omega))]
        exact iteF ⟨_, rfl, p, _, _, rfl, hp, gf_no _ _ _, _, rfl, rp, _, _, _, rfl, rfl, .inl (.inl hrp), atI_nat (j := 0) rfl, _, rfl, rp, _, _, _, rfl, rfl, .inl (.inl hrp), atI_nat (j := 1) rfl, _, rfl, rp, _, _, _, rfl, rfl, .inl (.inl hrp), atI_nat (j := 2) rfl, _, rfl, rp, _, _, _, rfl, rfl, .inl (.inl hrp), atI_nat (j := 3) rfl, _, rfl, rp, _, _, _, rfl, rfl, .inl (.inl hrp), atI_nat (j := 4) rfl, _, rfl, rp, _, _, _, rfl, rfl, .inl (.inl hrp), atI_nat (j := 5) rfl, _, rfl, rp, _, _, _, rfl, rfl, .inl (.inl hrp), atI_nat (j := 6) rfl, go _ sr _ rfl⟩
    refine ⟨_, rfl, rfl, _, rfl, ite_b (fun e3 => ?_) (fun e3 => ?_)⟩
    · refine ⟨_, rfl, rp, _, rfl, .inl (.inl hrp), rfl, _, _, rfl, _, _, rfl, _, _, rfl, _, _, rfl, _, _, rfl, _, _, rfl, _, _, rfl, rfl, ?_⟩
      exact ⟨_, rfl, p, _, _, rfl, hp, gf_no _ _ _, _, rfl, _, rfl, _, rfl, _, rfl, _, rfl, _, rfl, _, rfl, rfl, rfl, go _ sr _ rfl⟩
    · exact ⟨_, rfl, p, _, _, rfl, hp, gf_no _ _ _, _, rfl, rp, _, _, _, rfl, rfl, .inl (.inl hrp), atI_nat (j := 0) rfl, _, rfl, rp, _, _, _, rfl, rfl, .inl (.inl hrp), atI_nat (j := 1) rfl, _, rfl, rp, _, _, _, rfl, rfl, .inl (.inl hrp), atI_nat (j := 2) rfl, _, rfl, rp, _, _, _, rfl, rfl, .inl (.inl hrp), atI_nat (j := 3) rfl, _, rfl, rp, _, _, _, rfl, rfl, .inl (.inl hrp), atI_nat (j := 4) rfl, _, rfl, rp, _, _, _, rfl, rfl, .inl (.inl hrp), atI_nat (j := 5) rfl, _, rfl, rp, _, _, _, rfl, rfl, .inl (.inl hrp), atI_nat (j := 6) rfl, go _ sr _ rfl⟩
end
end Wl




/-! put, of things of any kind: let, or what is due is refused. -/
namespace Wl
open PySem PySem.Spec PyProof.Rows L2
inductive PR
  | name (x : V)
  | word (x : V)
  | age (x : V)
  | sure (x : V)
  | told (t : Tel)
  | full
structure XA where
  cN : Addr
  cW : Addr
  cA : Addr
  cS : Addr
  cT : Addr
  cF : Addr
def PutE (x : XA) (H : Hp) (E : XK) : PR → Prop
  | .name u => Refuses x.cN "name" u H E
  | .word u => Refuses x.cW "word" u H E
  | .age u => Refuses x.cA "age" u H E
  | .sure u => Refuses x.cS "sure" u H E
  | .told t => ∀ kp d H', Same H H' → H' kp = some (.tup (keyV t)) → H' d = some (.xd [("key", .ref kp)]) → E (.ref x.cT) (some d) H'
  | .full => Refuses x.cF "many" (.int 200) H E
def telOf : V → V → V → V → V → V → V → Option Tel
  | .str v, .str th, .str wo, .str tl, .int a, .str g, .bl s => some ⟨v, th, wo, tl, a.toNat, g, s⟩
  | _, _, _, _, _, _, _ => none
/-- what of a telling's parts is due -/
def duePt (g : Grid) (x0 x1 x2 x3 x4 x5 x6 : V) : Option PR :=
  if nameB g x0 = false then some (.name x0) else if wvB x1 = false then some (.word x1) else if wvB x2 = false then some (.word x2) else if wvB x3 = false then some (.word x3) else if ageB x4 = false then some (.age x4) else if wvB x5 = false then some (.word x5) else if truB x6 = false then some (.sure x6) else none
def dueP (g : Grid) (ts : List Tel) (x0 x1 x2 x3 x4 x5 x6 : V) : Option PR :=
  match duePt g x0 x1 x2 x3 x4 x5 x6 with
  | some n => some n
  | none => match telOf x0 x1 x2 x3 x4 x5 x6 with
    | some t => if keyS t ∈ ts.map keyS then some (.told t) else if 200 ≤ ts.length then some .full else none
    | none => none
theorem nf_true {b : Bool} (h : ¬ b = false) : b = true := by cases b <;> simp at h ⊢
theorem due_none {g : Grid} {x0 x1 x2 x3 x4 x5 x6 : V} (h : duePt g x0 x1 x2 x3 x4 x5 x6 = none) : ∃ t, telOf x0 x1 x2 x3 x4 x5 x6 = some t ∧ [x0, x1, x2, x3, x4, x5, x6] = telV t ∧ OkT t ∧ t.v ∈ names g := by
  unfold duePt at h
  by_cases h0 : nameB g x0 = false
  · rw [if_pos h0] at h; cases h
  by_cases h1 : wvB x1 = false
  · rw [if_neg h0, if_pos h1] at h; cases h
  by_cases h2 : wvB x2 = false
  · rw [if_neg h0, if_neg h1, if_pos h2] at h; cases h
  by_cases h3 : wvB x3 = false
  · rw [if_neg h0, if_neg h1, if_neg h2, if_pos h3] at h; cases h
  by_cases h4 : ageB x4 = false
  · rw [if_neg h0, if_neg h1, if_neg h2, if_neg h3, if_pos h4] at h; cases h
  by_cases h5 : wvB x5 = false
  · rw [if_neg h0, if_neg h1, if_neg h2, if_neg h3, if_neg h4, if_pos h5] at h; cases h
  by_cases h6 : truB x6 = false
  · rw [if_neg h0, if_neg h1, if_neg h2, if_neg h3, if_neg h4, if_neg h5, if_pos h6] at h; cases h
  obtain ⟨z0, rfl, w0, m0⟩ := name_str (nf_true h0)
  obtain ⟨z1, rfl, w1⟩ := wv_str (nf_true h1)
  obtain ⟨z2, rfl, w2⟩ := wv_str (nf_true h2)
  obtain ⟨z3, rfl, w3⟩ := wv_str (nf_true h3)
  obtain ⟨n, rfl, w4⟩ := age_int (nf_true h4)
  obtain ⟨z5, rfl, w5⟩ := wv_str (nf_true h5)
  obtain ⟨b, rfl⟩ := tru_bl (nf_true h6)
  exact ⟨⟨z0, z1, z2, z3, n, z5, b⟩, rfl, rfl, ⟨w0, w1, w2, w3, w4, w5⟩, m0⟩
structure Odd7 (H : Hp) (x0 x1 x2 x3 x4 x5 x6 : V) : Prop where
  o0 : OddV H x0
  o1 : OddV H x1
  o2 : OddV H x2
  o3 : OddV H x3
  o4 : OddV H x4
  o5 : OddV H x5
  o6 : OddV H x6
theorem Odd7.same {H H' : Hp} {x0 x1 x2 x3 x4 x5 x6 : V} (h : Odd7 H x0 x1 x2 x3 x4 x5 x6) (s : Same H H') : Odd7 H' x0 x1 x2 x3 x4 x5 x6 := ⟨h.o0.same s, h.o1.same s, h.o2.same s, h.o3.same s, h.o4.same s, h.o5.same s, h.o6.same s⟩
/-- what follows a put of such parts -/
def PutsTo (x : XA) (C D : Addr) (p : Addr) (r : GR) (x0 x1 x2 x3 x4 x5 x6 : V) (H : Hp) (Q : VK) (E : XK) : Prop :=
  (∀ n, dueP r.g r.ts x0 x1 x2 x3 x4 x5 x6 = some n → PutE x H E n) ∧
  (dueP r.g r.ts x0 x1 x2 x3 x4 x5 x6 = none → ∀ (t : Tel) (q : Addr) (H' : Hp), [x0, x1, x2, x3, x4, x5, x6] = telV t → H q = none → Same2 r.td r.dd H H' → GatAt C D H' p (r.add q t) → Q .non H')
section
variable {P : Program} {w : World} {K : PySem.W.Frag} {mg : Str → Option Value} {base : Heap} {f C D : Addr} {x : XA} {fd : FuncData}
theorem PutE.same {H H' : Hp} {E : XK} {n : PR} (h : PutE x H E n) (s : Same H H') : PutE x H' E n := by
  cases n with
  | name u => exact Refuses.same h s
  | word u => exact Refuses.same h s
  | age u => exact Refuses.same h s
  | sure u => exact Refuses.same h s
  | told t => exact fun kp d H2 s2 => h kp d H2 (s.trans s2)
  | full => exact Refuses.same h s
theorem PutsTo.same {p : Addr} {r : GR} {x0 x1 x2 x3 x4 x5 x6 : V} {H H' : Hp} {Q : VK} {E : XK} (h : PutsTo x C D p r x0 x1 x2 x3 x4 x5 x6 H Q E) (s : Same H H') : PutsTo x C D p r x0 x1 x2 x3 x4 x5 x6 H' Q E :=
  ⟨fun n e => (h.1 n e).same s, fun e t q H2 et n m g => h.2 e t q H2 et (s.free n) ((Same2.of s).trans m) g⟩
def spPutA (x : XA) (C D : Addr) : Sp := fun vs H Q E => ∃ (p : Addr) (r : GR) (wd : Nat) (x0 x1 x2 x3 x4 x5 x6 : V), vs = [.ref p, x0, x1, x2, x3, x4, x5, x6] ∧ GatAt C D H p r ∧ Good r.g wd ∧ (∀ u ∈ r.ts, OkT u) ∧ r.ts.length ≤ 200 ∧ r.ds.length < 1000 ∧ Odd7 H x0 x1 x2 x3 x4 x5 x6 ∧ PutsTo x C D p r x0 x1 x2 x3 x4 x5 x6 H Q E
theorem find_in {l : List Tel} {t : Tel} (h : keyS t ∈ l.map keyS) : ∃ i, (l.findIdx? fun u => decide (keyS u = keyS t)) = some i := by
  obtain ⟨u, hu, e⟩ := List.mem_map.mp h
  cases q : l.findIdx? fun u => decide (keyS u = keyS t) with
  | some i => exact ⟨i, rfl⟩
  | none =>
    rw [List.findIdx?_eq_none_iff] at q
    have := q u hu
    rw [decide_eq_true e] at this
    cases this
theorem ok_putA (F : FunP K f fd) (B : Bi mg) (B2 : Bg mg) (T : Txt K mg C) (TG : TxtG K mg D) (TT : OwnX K mg "Told" "key" x.cT) (TF : OwnX K mg "Full" "many" x.cF) (hCk : HasMX P w K mg base C "check_name" 2 ["self", "name"] (spNameA C x.cN)) (hW : HasX P w K mg base "check_word" 2 ["word"] (spWordA x.cW))
    (hA : HasX P w K mg base "check_age" 3 ["age"] (spAgeA x.cA)) (hS : HasX P w K mg base "check_sure" 1 ["sure"] (spSureA x.cS)) (hP : HasM P w K mg base D "place_of" 2 ["self", "key"] (spGPlace C D)) : FnOk P w K mg base (L2N.CX P w) 4 f fd psPut (spPutA x C D) := by
  obtain ⟨t200, g200⟩ := B2.most
  refine F.ok scPut (fun vs H Q E h => ?_) (fun cdv A outer s H vs Q E hr h => ?_)
  · obtain ⟨p, r, wd, x0, x1, x2, x3, x4, x5, x6, rfl, _⟩ := h
    rfl
  · obtain ⟨p, r, wd, x0, x1, x2, x3, x4, x5, x6, rfl, hG, gd, hok, h200, hds, ho, q⟩ := h
    have px : Passes (L2N.CX P w) (cxOf (L2N.CX P w) P w K mg base nPut "Gathering.put" (defScope sGPut) f cdv A outer s H E) E := passE (L2N.takes_of rfl rfl rfl rfl)
    refine ⟨_, pss_cons (ps_expr (pe_hmx hCk T.cl hr px (pe_fld (pv 0) rfl) (pa_cons (pv 1) pa_nil)))
      (pss_cons (ps_expr (pe_hx hW hr px (pa_cons (pv 2) pa_nil)))
      (pss_cons (ps_expr (pe_hx hW hr px (pa_cons (pv 3) pa_nil)))
      (pss_cons (ps_expr (pe_hx hW hr px (pa_cons (pv 4) pa_nil)))
      (pss_cons (ps_expr (pe_hx hA hr px (pa_cons (pv 5) pa_nil)))
      (pss_cons (ps_expr (pe_hx hW hr px (pa_cons (pv 6) pa_nil)))
      (pss_cons (ps_expr (pe_hx hS hr px (pa_cons (pv 7) pa_nil)))
      (pss_cons (ps_set (i := 8) scPut.nd rfl (.inl rfl) (pe_tup (pa_cons (pv 1) (pa_cons (pv 4) (pa_cons (pv 2) (pa_cons (pv 6) pa_nil))))))
      (pss_cons (ps_if (pt_cmp (pc_notN (pe_hm hP TG.cl hr (pv 0) (pa_cons (pv 8) pa_nil)))) (pss_one (ps_raiseX rfl TT hr (L2N.takes_of rfl rfl rfl rfl) (pa_cons (pv 8) pa_nil))) pss_nil)
      (pss_cons (ps_if (pt_cmpR op_ge (pe_callB call_len_seq (by rfl) B.len PySem.boot_len (pa_cons (pe_fld (pv 0) rfl) pa_nil)) (pe_glob (v := .int 200) rfl g200 ⟨_, rfl⟩) (nomark _)) (pss_one (ps_raiseX rfl TF hr (L2N.takes_of rfl rfl rfl rfl) (pa_cons (pe_glob (v := .int 200) rfl g200 ⟨_, rfl⟩) pa_nil))) pss_nil)
      (pss_cons (ps_expr (pe_bm PySem.F.plainAttrs_list PySem.F.slot_list_append PySem.F.type_list_append mt_append (pe_fld (pv 0) rfl) (pa_cons (pe_tup (pa_cons (pv 1) (pa_cons (pv 2) (pa_cons (pv 3) (pa_cons (pv 4) (pa_cons (pv 5) (pa_cons (pv 6) (pa_cons (pv 7) pa_nil)))))))) pa_nil)))
      (pss_one (ps_expr (pe_bm PySem.F.plainAttrs_list PySem.F.slot_list_append PySem.F.type_list_append mt_append (pe_fld (pv 0) rfl) (pa_cons pe_non pa_nil)))))))))))))), ?_⟩
    obtain ⟨dx, hp⟩ := hG.at_
    obtain ⟨dl, d, hl⟩ := hG.land.ins
    have dp : ∀ {n : PR}, duePt r.g x0 x1 x2 x3 x4 x5 x6 = some n → dueP r.g r.ts x0 x1 x2 x3 x4 x5 x6 = some n := fun {n} e => by
      unfold dueP
      rw [e]
    refine ⟨_, rfl, p, D, dx, _, _, rfl, hp, TG.cl, TG.nL, gf_land _ _ _, r.pl, dl, _, rfl, hl, fs_no, _, rfl, r.pl, r.L, r.g, wd, x0, rfl, hG.land, gd, ho.o0, fun e0 H1 s1 => ?_, fun e => ?_⟩
    case refine_2 => exact q.1 (.name x0) (dp (by unfold duePt; rw [if_pos e]))
    have f0 : ¬ nameB r.g x0 = false := by rw [e0]; decide
    have q1 := q.same s1
    refine ⟨_, rfl, x1, rfl, ho.o1.same s1, fun e1 H2 s2 => ?_, fun e => ?_⟩
    case refine_2 => exact q1.1 (.word x1) (dp (by unfold duePt; rw [if_neg f0, if_pos e]))
    have f1 : ¬ wvB x1 = false := by rw [e1]; decide
    have q2 := q1.same s2
    refine ⟨_, rfl, x2, rfl, ho.o2.same (s1.trans s2), fun e2 H3 s3 => ?_, fun e => ?_⟩
    case refine_2 => exact q2.1 (.word x2) (dp (by unfold duePt; rw [if_neg f0, if_neg f1, if_pos e]))
    have f2 : ¬ wvB x2 = false := by rw [e2]; decide
    have q3 := q2.same s3
    have s13 := (s1.trans s2).trans s3
    refine ⟨_, rfl, x3, rfl, ho.o3.same s13, fun e3 H4 s4 => ?_, fun e => ?_⟩
    case refine_2 => exact q3.1 (.word x3) (dp (by unfold duePt; rw [if_neg f0, if_neg f1, if_neg f2, if_pos e]))
    have f3 : ¬ wvB x3 = false := by rw [e3]; decide
    have q4 := q3.same s4
    have s14 := s13.trans s4
    refine ⟨_, rfl, x4, rfl, ho.o4.same s14, fun e4 => ?_, fun e => ?_⟩
    case refine_2 => exact q4.1 (.age x4) (dp (by unfold duePt; rw [if_neg f0, if_neg f1, if_neg f2, if_neg f3, if_pos e]))
    have f4 : ¬ ageB x4 = false := by rw [e4]; decide
    refine ⟨_, rfl, x5, rfl, ho.o5.same s14, fun e5 H5 s5 => ?_, fun e => ?_⟩
    case refine_2 => exact q4.1 (.word x5) (dp (by unfold duePt; rw [if_neg f0, if_neg f1, if_neg f2, if_neg f3, if_neg f4, if_pos e]))
    have f5 : ¬ wvB x5 = false := by rw [e5]; decide
    have q5 := q4.same s5
    have s15 := s14.trans s5
    refine ⟨_, rfl, x6, rfl, ho.o6.same s15, fun e6 => ?_, fun e => ?_⟩
    case refine_2 => exact q5.1 (.sure x6) (dp (by unfold duePt; rw [if_neg f0, if_neg f1, if_neg f2, if_neg f3, if_neg f4, if_neg f5, if_pos e]))
    have f6 : ¬ truB x6 = false := by rw [e6]; decide
    have hd0 : duePt r.g x0 x1 x2 x3 x4 x5 x6 = none := by
      unfold duePt
      rw [if_neg f0, if_neg f1, if_neg f2, if_neg f3, if_neg f4, if_neg f5, if_neg f6]
    obtain ⟨t, et, ex, okt, hv⟩ := due_none hd0
    have ed : dueP r.g r.ts x0 x1 x2 x3 x4 x5 x6 = (if keyS t ∈ r.ts.map keyS then some (.told t) else if 200 ≤ r.ts.length then some .full else none) := by
      unfold dueP
      rw [hd0, et]
    unfold PutsTo at q5
    rw [ed] at q5
    have ex' := ex
    unfold telV at ex'
    simp only [List.cons.injEq, and_true] at ex'
    obtain ⟨rfl, rfl, rfl, rfl, rfl, rfl, rfl⟩ := ex'
    refine ⟨_, rfl, _, rfl, _, rfl, _, rfl, lz, fun kp hkp => ?_⟩
    have s6 := same_new (o := .tup [V.str t.v, V.str t.tl, V.str t.th, V.str t.g]) hkp
    have hkp6 : upd H5 kp (.tup [V.str t.v, V.str t.tl, V.str t.th, V.str t.g]) kp = some (.tup ((keyS t).map V.str)) := upd_same
    have s16 := s15.trans s6
    have hG6 := hG.same s16
    have q6 : PutsTo x C D p r (.str t.v) (.str t.th) (.str t.wo) (.str t.tl) (.int (t.age : Int)) (.str t.g) (.bl t.sure) H5 Q E := by
      unfold PutsTo
      rw [ed]
      exact q5
    have q6 := q6.same s6
    unfold PutsTo at q6
    rw [ed] at q6
    generalize upd H5 kp (.tup [V.str t.v, V.str t.tl, V.str t.th, V.str t.g]) = H6 at hkp6 s16 hG6 q6
    obtain ⟨dx6, hp6⟩ := hG6.at_
    refine ⟨_, rfl, p, dx6, _, rfl, hp6, gf_no _ _ _, _, rfl, p, kp, r, keyS t, rfl, hG6, hok, h200, hkp6, okt.key, fun H7 s7 => ?_⟩
    by_cases hk : keyS t ∈ r.ts.map keyS
    · obtain ⟨i, hi⟩ := find_in hk
      rw [hi]
      refine ⟨_, rfl, iteT ⟨_, rfl, _, rfl, fun de hde => ?_⟩⟩
      have := q6.1 (.told t) (by rw [if_pos hk])
      exact this kp de _ (s7.trans (same_new hde)) ((same_new hde) _ _ (s7 _ _ hkp6)) upd_same
    rw [find_no hk]
    rw [if_neg hk] at q6
    refine ⟨_, rfl, iteF ?_⟩
    have hG7 := hG6.same s7
    obtain ⟨dx7, hp7⟩ := hG7.at_
    have hlen : r.as.length = r.ts.length := hG.tels.length
    refine ⟨_, rfl, p, D, dx7, _, _, rfl, hp7, TG.cl, TG.nT, gf_told _ _ _, r.td, _, rfl, .inl (.inl (.inl hG7.told)), _, _, rfl, rfl, _, rfl, ?_⟩
    by_cases h2 : 200 ≤ r.ts.length
    · have hno : decide ((200 : Int) ≤ ((r.as.map V.ref).length : Int)) = true := decide_eq_true (by rw [List.length_map]; omega)
      rw [hno]
      have := q6.1 .full (by rw [if_pos h2])
      exact iteT ⟨_, rfl, fun de hde => Refuses.new this s7 de hde⟩
    have hno : decide ((200 : Int) ≤ ((r.as.map V.ref).length : Int)) = false := decide_eq_false (by rw [List.length_map]; omega)
    rw [hno]
    rw [if_neg h2] at q6
    have q := q6.2 rfl t
    refine iteF ⟨_, rfl, p, D, dx7, _, _, rfl, hp7, TG.cl, TG.nT, gf_told _ _ _, .inl ⟨rfl, _, .inl (.inl hG7.told)⟩, _, rfl, _, rfl, _, rfl, _, rfl, _, rfl, _, rfl, _, rfl, lz, fun qa hqa => ?_⟩
    have s8 := same_new (o := .tup [V.str t.v, V.str t.th, V.str t.wo, V.str t.tl, V.int (t.age : Int), V.str t.g, V.bl t.sure]) hqa
    have hG8 := hG7.same s8
    have hqa8 : upd H7 qa (.tup [V.str t.v, V.str t.th, V.str t.wo, V.str t.tl, V.int (t.age : Int), V.str t.g, V.bl t.sure]) qa = some (.tup (telV t)) := upd_same
    have s68 := s7.trans s8
    have hqa0 : H6 qa = none := s7.free hqa
    refine ⟨r.td, _, _, rfl, rfl, hG8.told, by rw [List.length_map]; exact small1000 (by omega), ?_⟩
    obtain ⟨dx8, hp8⟩ := hG8.at_
    have hd8 := hG8.deeds
    have ht8 := hG8.told
    generalize upd H7 qa (.tup [V.str t.v, V.str t.th, V.str t.wo, V.str t.tl, V.int (t.age : Int), V.str t.g, V.bl t.sure]) = H8 at hG8 hqa8 s68 hp8 hd8 ht8
    have k9 : Keep H8 (upd H8 r.td (.lst (r.as.map V.ref ++ [.ref qa]))) := kp_upd ht8
    have hp9 := k9 _ _ (fun xs e => by cases e) hp8
    have hd9 : upd H8 r.td (.lst (r.as.map V.ref ++ [.ref qa])) r.dd = some (.lst r.ds) := by
      rw [upd_ne hG.ne.symm]
      exact hd8
    have ht9 : upd H8 r.td (.lst (r.as.map V.ref ++ [.ref qa])) r.td = some (.lst (r.as.map V.ref ++ [.ref qa])) := upd_same
    have m9 : Same2 r.td r.dd H8 (upd H8 r.td (.lst (r.as.map V.ref ++ [.ref qa]))) := fun c o n _ e => by
      rw [upd_ne n]
      exact e
    generalize upd H8 r.td (.lst (r.as.map V.ref ++ [.ref qa])) = H9 at k9 hp9 hd9 ht9 m9
    refine ⟨_, rfl, p, D, dx8, _, _, rfl, hp9, TG.cl, TG.nD, gf_deeds _ _ _, .inl ⟨rfl, _, .inl (.inl hd9)⟩, r.dd, _, _, rfl, rfl, hd9, small1000 (by omega), ?_⟩
    have k10 : Keep H9 (upd H9 r.dd (.lst (r.ds ++ [.non]))) := kp_upd hd9
    have kk := k9.trans k10
    refine q qa _ rfl hqa0 ?_ ⟨⟨dx8, k10 _ _ (fun xs e => by cases e) hp9⟩, hG8.land.keep kk, ?_, ?_, upd_same, hG.ne⟩
    · refine (Same2.of s68).trans (m9.trans fun c o _ n e => ?_)
      rw [upd_ne n]
      exact e
    · show upd H9 r.dd (.lst (r.ds ++ [.non])) r.td = some (.lst ((r.as ++ [qa]).map V.ref))
      rw [upd_ne hG.ne, ht9, List.map_append]
      rfl
    · exact Each.append (hG8.tels.keep kk.tk) (.cons (kk.tk _ _ hqa8) .nil)
/-! ### the law's own put, ways 3 and 4 -/
def HasPA (P : Program) (w : World) (K : PySem.W.Frag) (mg : Str → Option Value) (base : Heap) (x : XA) (C D : Addr) : Prop := ∃ f fd, FnOk P w K mg base (L2N.CX P w) 4 f fd psPut (spPutA x C D) ∧ Meth K D "put" f ∧ FunP K f fd
def spLPutA (x : XA) (C D : Addr) : Sp := fun vs H Q E => ∃ (p rp : Addr) (way : Int) (r : GR) (wd : Nat) (x0 x1 x2 x3 x4 x5 x6 : V), vs = [.ref p, .ref rp, .int way] ∧ (way = 3 ∨ way = 4) ∧ H rp = some (.tup [x0, x1, x2, x3, x4, x5, x6]) ∧ GatAt C D H p r ∧ Good r.g wd ∧ (∀ u ∈ r.ts, OkT u) ∧ r.ts.length ≤ 200 ∧ r.ds.length < 1000 ∧ Odd7 H x0 x1 x2 x3 x4 x5 x6 ∧ PutsTo x C D p r x0 x1 x2 x3 x4 x5 x6 H Q E
theorem ok_lputA (F : Fun K "_law_put" "_law_put" sPut f fd) (TG : TxtG K mg D) (hP : HasPA P w K mg base x C D) : FnOk P w K mg base (L2N.CX P w) 5 f fd ["_law_basket", "_law_row_here", "_law_way"] (spLPutA x C D) := by
  obtain ⟨fp, fdp, FP, mP, fnP⟩ := hP
  have b8 := put_b8 fnP
  obtain ⟨i3, k3⟩ := put_k3 fnP
  refine Fun_okN F scLPut (fun vs H Q E h => ?_) (fun cdv A outer s H vs Q E hr h => ?_)
  · obtain ⟨p, rp, way, r, wd, x0, x1, x2, x3, x4, x5, x6, rfl, _⟩ := h
    rfl
  · obtain ⟨p, rp, way, r, wd, x0, x1, x2, x3, x4, x5, x6, rfl, hw, hrp, hG, gd, hok, h200, hds, ho, q⟩ := h
    have px : Passes (L2N.CX P w) (cxOf (L2N.CX P w) P w K mg base nLPut "_law_put" (defScope sPut) f cdv A outer s H E) E := passE (L2N.takes_of rfl rfl rfl rfl)
    refine ⟨_, pss_cons (ps_if (PW.pt (pw_and (pt_cmpR op_eq (pv 2) pe_int (nomark _)) (pw_and1 (pt_cmpR (op_eqD hr.units) (pe_slice sl_tupA (pv 1) (po_some pe_int) po_none) (pe_tup (pa_cons pe_str (pa_cons pe_bl pa_nil))) (nomark _)))))
        (pss_one ps_never) pss_nil)
      (pss_cons (ps_if (PW.pt (pw_and (pt_cmpR op_eq (pv 2) pe_int (nomark _)) (pw_and1 (pt_val (pe_ix ix_tup (pv 1) pe_int (fun _ _ => rfl)))))) (pss_one ps_never) pss_nil)
      (pss_cons (ps_if (PW.pt (pw_and (pt_cmpR op_eq (pv 2) pe_int (nomark _)) (pw_and1 (pt_cmpR op_eq (pe_ix ix_tup (pv 1) pe_int (fun _ _ => rfl)) pe_str (nomark _))))) (pss_one ps_never) pss_nil)
      (pss_cons (ps_if (pt_cmpR op_eq (pv 2) pe_int (nomark _))
        (pss_cons (ps_asg (pv 1) (pg_tup rfl (pgs_cons (pg_name (i := 3) scLPut.nd rfl (.inl rfl)) (pgs_cons (pg_name (i := 4) scLPut.nd rfl (.inl rfl)) (pgs_cons (pg_name (i := 5) scLPut.nd rfl (.inl rfl)) (pgs_cons (pg_name (i := 6) scLPut.nd rfl (.inl rfl)) (pgs_cons (pg_name (i := 7) scLPut.nd rfl (.inl rfl)) (pgs_cons (pg_name (i := 8) scLPut.nd rfl (.inl rfl)) (pgs_cons (pg_name (i := 9) scLPut.nd rfl (.inl rfl)) pgs_nil)))))))))
        (pss_one (ps_ret (pe_methN0 (pv 0) TG.cl mP FP hr k3 px (pk_cons (pv 9) (pk_cons (pv 8) (pk_cons (pv 7) (pk_cons (pv 6) (pk_cons (pv 5) (pk_cons (pv 4) (pk_cons (pv 3) pk_nil)))))))))) ) pss_nil)
      (pss_one (ps_ret (pe_meth (pv 0) TG.cl mP FP hr b8 .nil px (pa_cons (pe_ix ix_tup (pv 1) pe_int (fun _ _ => rfl)) (pa_cons (pe_ix ix_tup (pv 1) pe_int (fun _ _ => rfl)) (pa_cons (pe_ix ix_tup (pv 1) pe_int (fun _ _ => rfl)) (pa_cons (pe_ix ix_tup (pv 1) pe_int (fun _ _ => rfl)) (pa_cons (pe_ix ix_tup (pv 1) pe_int (fun _ _ => rfl)) (pa_cons (pe_ix ix_tup (pv 1) pe_int (fun _ _ => rfl)) (pa_cons (pe_ix ix_tup (pv 1) pe_int (fun _ _ => rfl)) pa_nil))))))))))))), ?_⟩
    obtain ⟨dx, hp⟩ := hG.at_
    have go : spPutA x C D [.ref p, x0, x1, x2, x3, x4, x5, x6] H Q E := ⟨p, r, wd, x0, x1, x2, x3, x4, x5, x6, rfl, hG, gd, hok, h200, hds, ho, q⟩
    refine ⟨_, rfl, rfl, _, rfl, ?_⟩
    rw [show decide (V.int way = V.int 0) = false from decide_eq_false (fun e => absurd (V.int.inj e) (by omega))]
    refine iteF ⟨_, rfl, rfl, _, rfl, ?_⟩
    rw [show decide (V.int way = V.int 1) = false from decide_eq_false (fun e => absurd (V.int.inj e) (by omega))]
    refine iteF ⟨_, rfl, rfl, _, rfl, ?_⟩
    rw [show decide (V.int way = V.int 2) = false from decide_eq_false (fun e => absurd (V.int.inj e) (by omega))]
    refine iteF ⟨_, rfl, rfl, _, rfl, ite_b (fun e3 => ?_) (fun e3 => ?_)⟩
    · refine ⟨_, rfl, rp, _, rfl, .inl (.inl hrp), rfl, _, _, rfl, _, _, rfl, _, _, rfl, _, _, rfl, _, _, rfl, _, _, rfl, _, _, rfl, rfl, ?_⟩
      exact ⟨_, rfl, p, _, _, rfl, hp, gf_no _ _ _, _, rfl, _, rfl, _, rfl, _, rfl, _, rfl, _, rfl, _, rfl, rfl, rfl, go⟩
    · exact ⟨_, rfl, p, _, _, rfl, hp, gf_no _ _ _, _, rfl, rp, _, _, _, rfl, rfl, .inl (.inl hrp), atI_nat (j := 0) rfl, _, rfl, rp, _, _, _, rfl, rfl, .inl (.inl hrp), atI_nat (j := 1) rfl, _, rfl, rp, _, _, _, rfl, rfl, .inl (.inl hrp), atI_nat (j := 2) rfl, _, rfl, rp, _, _, _, rfl, rfl, .inl (.inl hrp), atI_nat (j := 3) rfl, _, rfl, rp, _, _, _, rfl, rfl, .inl (.inl hrp), atI_nat (j := 4) rfl, _, rfl, rp, _, _, _, rfl, rfl, .inl (.inl hrp), atI_nat (j := 5) rfl, _, rfl, rp, _, _, _, rfl, rfl, .inl (.inl hrp), atI_nat (j := 6) rfl, go⟩
end
end Wl



namespace Wl
open PySem PySem.Spec PyProof.Rows L2
abbrev sPools : Stmt := topS 55
abbrev sRow : Stmt := topS 56
/-- words to draw from -/
structure OkW (ws : List Str) : Prop where
  ne : ws ≠ []
  le : ws.length ≤ 36
  wd : ∀ z ∈ ws, IsWd z
def PoolsAt (H : Hp) (F : Addr) (as : List Addr) (ps : List (List Str)) : Prop := H F = some (.lst (as.map V.ref)) ∧ Each (fun (p : Addr) (ws : List Str) => H p = some (.lst (ws.map V.str))) as ps
/-- the lists stand apart from the purse -/
theorem PoolsAt.x {a F : Addr} {H H' : Hp} {as : List Addr} {ps : List (List Str)} (h : PoolsAt H F as ps) (s : SameX a H H') (nF : F ≠ a) (na : ∀ p ∈ as, p ≠ a) : PoolsAt H' F as ps := by
  refine ⟨s _ _ nF h.1, ?_⟩
  have key : ∀ {as : List Addr} {ps : List (List Str)}, (∀ p ∈ as, p ≠ a) → Each (fun (p : Addr) (ws : List Str) => H p = some (.lst (ws.map V.str))) as ps → Each (fun (p : Addr) (ws : List Str) => H' p = some (.lst (ws.map V.str))) as ps := by
    intro as ps na e
    induction e with
    | nil => exact .nil
    | cons r _ ih => exact .cons (s _ _ (na _ List.mem_cons_self) r) (ih fun p hp => na p (List.mem_cons_of_mem _ hp))
  exact key na h.2
section
variable {P : Program} {w : World} {K : PySem.W.Frag} {mg : Str → Option Value} {base : Heap} {f C D : Addr} {fd : FuncData}
/-! ### a row drawn -/
def spRow : Sp := fun vs H Q _ => ∃ (a F : Addr) (as : List Addr) (p0 p1 p2 p3 p4 : List Str), vs = [.ref a, .ref F] ∧ PurseAt H a ∧ PoolsAt H F as [p0, p1, p2, p3, p4] ∧ F ≠ a ∧ (∀ p ∈ as, p ≠ a) ∧ (∀ ws ∈ [p0, p1, p2, p3, p4], OkW ws) ∧
  ∀ (rp : Addr) (t : Tel) (H' : Hp), H rp = none → OkT t → t.v ∈ p0 → t.th ∈ p1 → t.wo ∈ p2 → t.tl ∈ p3 → t.g ∈ p4 → H' rp = some (.tup (telV t)) → PurseAt H' a → SameX a H H' → Q (.ref rp) H'
abbrev nRow : List Str := ["_law_purse_here", "_law_pools_here", "_law_some", "_law_years", "_law_pool"]
theorem scRow : FnScope nRow ["_law_purse_here", "_law_pools_here"] (defScope sRow) := ⟨rfl, rfl, rfl, by decide +kernel, rfl, by decide +kernel, by decide +kernel⟩
theorem ok_row (F : Fun K "_law_row" "_law_row" sRow f fd) (B : Bi mg) (hp : Has P w K mg base "_law_pick" 1 ["_law_purse_here", "_law_count"] spPick) : FnOk P w K mg base CX0 2 f fd ["_law_purse_here", "_law_pools_here"] spRow := by
  refine F.ok scRow (fun vs H Q E h => ?_) (fun cdv A outer s H vs Q E hr h => ?_)
  · obtain ⟨a, F, as, p0, p1, p2, p3, p4, rfl, _⟩ := h
    rfl
  · obtain ⟨a, Fp, as, p0, p1, p2, p3, p4, rfl, hA, hPo, nF, na, hok, q⟩ := h
    refine ⟨_, pss_cons (ps_setLc (i := 2) (own := [("_law_pool", 4)]) (g := gName 4) (tt := tYes) (te := tOp (rIxL K) (tVar 4) (tCall spPick [] E0 (tCons (tVar 0) (tCons (tCB (fun xs H Q => ∃ p ys, xs = [.ref p] ∧ ((SqL K H p ys) ∨ SqT K H p ys) ∧ Q (.int ys.length) H) (tCons (tVar 4) tNil)) tNil)))) rfl scRow.nd rfl rfl (sw_true rfl rfl rfl (by decide +kernel)) (pi_list (pv 1)) (blkOk_by (N := nRow) (sc := defScope sRow) (by decide +kernel))
        (fun _ _ _ _ _ => pg_name (i := 4) scRow.nd rfl (.inl rfl)) (fun _ _ _ _ _ => pts_nil) (fun _ _ _ _ _ => pe_ix ix_list (pv 4) (pe_h hp hr (pa_cons (pv 0) (pa_cons (pe_callB call_len_seq (by rfl) B.len PySem.boot_len (pa_cons (pv 4) pa_nil)) pa_nil))) (fun _ _ => rfl)))
      (pss_cons (ps_set (i := 3) scRow.nd rfl (.inl rfl) (pe_ix ix_list (pe_lst (pa_cons pe_int (pa_cons pe_int (pa_cons pe_int (pa_cons (pe_h hp hr (pa_cons (pv 0) (pa_cons pe_int pa_nil))) pa_nil))))) (pe_h hp hr (pa_cons (pv 0) (pa_cons pe_int pa_nil))) (fun _ _ => rfl)))
      (pss_one (ps_ret (pe_tup (pa_cons (pe_ix ix_list (pv 2) pe_int (fun _ _ => rfl)) (pa_cons (pe_ix ix_list (pv 2) pe_int (fun _ _ => rfl)) (pa_cons (pe_ix ix_list (pv 2) pe_int (fun _ _ => rfl)) (pa_cons (pe_ix ix_list (pv 2) pe_int (fun _ _ => rfl)) (pa_cons (pv 3) (pa_cons (pe_ix ix_list (pv 2) pe_int (fun _ _ => rfl)) (pa_cons (pe_cmpR op_gt (pe_h hp hr (pa_cons (pv 0) (pa_cons pe_int pa_nil))) pe_int (nomark _)) pa_nil))))))))))), ?_⟩
    have hps : as.length = 5 := hPo.2.length
    refine ⟨_, rfl, Fp, rfl, ⟨_, .inl (.inl hPo.1)⟩, fun Dd hD => lc_it (walk_list (K := K) (a := Fp) (xs := as.map V.ref)) (fun i H' => ∃ zs : List Str, H' Dd = some (.lst (zs.map V.str)) ∧ zs.length = i ∧ Each (fun (ws : List Str) (z : Str) => z ∈ ws) ([p0, p1, p2, p3, p4].take i) zs ∧ PurseAt H' a ∧ SameX a H H')
      ⟨[], upd_same, rfl, .nil, hA.same (same_new hD), sx (same_new hD)⟩ (fun i H' _ h => .inl (.inl (h.choose_spec.2.2.2.2 _ _ nF hPo.1))) ?_ ?_⟩
    · rintro i x H1 H2 hi ⟨zs, hz, hzl, he, hA1, x1⟩ ⟨rfl, hx⟩
      rw [List.getElem?_map] at hx
      obtain ⟨pp, hpp, rfl⟩ := Option.map_eq_some_iff.mp hx
      obtain ⟨ws, hws, hpw⟩ := Each.get hPo.2 hpp
      have okw := hok ws (List.mem_of_getElem? hws)
      have npp := na pp (List.mem_of_getElem? hpp)
      have hp1 := x1 _ _ npp hpw
      have hi5 : i < 5 := by rw [List.length_map] at hi; omega
      have wpos : 0 < ws.length := List.length_pos_iff.mpr okw.ne
      have wle := okw.le
      refine ⟨rfl, yes_it ⟨_, rfl, _, rfl, _, rfl, pp, _, rfl, .inl (.inl (.inl hp1)), a, _, rfl, hA1, by rw [List.length_map]; omega, by rw [List.length_map]; omega, fun rr H3 r0 r1 hA3 x3 n3 => ?_⟩⟩
      rw [List.length_map] at r1
      obtain ⟨z, hzm, hzi⟩ := atI_strs (zs := ws) r0 r1
      have nD : Dd ≠ a := hA.ne hD
      have hD3 := x3 _ _ nD hz
      refine ⟨pp, _, rr, .str z, rfl, rfl, .inl (.inl (x3 _ _ npp hp1)), hzi, _, hD3, ?_, zs ++ [z], ?_, ?_, ?_, ?_, ?_⟩
      · rw [List.length_map]
        exact small1000 (by omega)
      · rw [upd_same, List.map_append]
        rfl
      · rw [List.length_append, hzl]
        rfl
      · rw [List.take_add_one, hws]
        exact Each.append he (.cons hzm .nil)
      · obtain ⟨y0, y1, y2, hy, hy1⟩ := hA3
        exact ⟨y0, y1, y2, by rw [upd_ne nD.symm]; exact hy, hy1⟩
      · exact sameX_mut (x1.trans x3) hD
    · rintro H1 ⟨zs, hz, hzl, he, hA1, x1⟩
      rw [List.length_map, hps] at hzl he
      obtain ⟨z0, z1, z2, z3, z4, rfl, m0, m1, m2, m3, m4⟩ : ∃ z0 z1 z2 z3 z4, zs = [z0, z1, z2, z3, z4] ∧ z0 ∈ p0 ∧ z1 ∈ p1 ∧ z2 ∈ p2 ∧ z3 ∈ p3 ∧ z4 ∈ p4 := by
        cases he with
        | cons m0 he =>
          cases he with
          | cons m1 he =>
            cases he with
            | cons m2 he =>
              cases he with
              | cons m3 he =>
                cases he with
                | cons m4 he =>
                  cases he
                  exact ⟨_, _, _, _, _, rfl, m0, m1, m2, m3, m4⟩
      have nD : Dd ≠ a := hA.ne hD
      -- years
      refine ⟨_, rfl, a, 121, rfl, hA1, by decide, by decide, fun ry H2 y0 y1 hA2 x2 _ => ⟨lz, fun ml hml => ⟨_, rfl, a, 4, rfl, hA2.same (same_new hml), by decide, by decide, fun r4 H4 r40 r41 hA4 x4 n4 => ?_⟩⟩⟩
      have nml := hA2.ne hml
      obtain ⟨yr, hym, hyat⟩ := atI_tab (ns := [0, 120, 40, ry]) r40 r41
      have hyr : 0 ≤ yr ∧ yr ≤ 120 := by
        simp only [List.mem_cons, List.not_mem_nil, or_false] at hym
        omega
      obtain ⟨y, rfl⟩ : ∃ y : Nat, yr = (y : Int) := ⟨yr.toNat, by omega⟩
      refine ⟨ml, _, _, .int (y : Int), rfl, rfl, .inl (.inl (x4 _ _ nml upd_same)), hyat, ?_⟩
      have x14 : SameX a H1 H4 := (x2.trans (sx (same_new hml))).trans x4
      have x04 : SameX a H H4 := x1.trans x14
      have hz4 := x14 _ _ nD hz
      refine ⟨_, rfl, Dd, _, _, _, rfl, rfl, .inl (.inl hz4), atI_nat (j := 0) rfl, _, rfl, Dd, _, _, _, rfl, rfl, .inl (.inl hz4), atI_nat (j := 1) rfl, _, rfl, Dd, _, _, _, rfl, rfl, .inl (.inl hz4), atI_nat (j := 2) rfl, _, rfl, Dd, _, _, _, rfl, rfl, .inl (.inl hz4), atI_nat (j := 3) rfl, _, rfl, _, rfl, Dd, _, _, _, rfl, rfl, .inl (.inl hz4), atI_nat (j := 4) rfl, ?_⟩
      refine ⟨_, rfl, a, 4, rfl, hA4, by decide, by decide, fun rs H5 s0 s1 hA5 x5 n5 => ⟨_, _, rfl, rfl, lz, fun rp hrp => ?_⟩⟩
      have okp : ∀ {ws : List Str} {z : Str}, ws ∈ [p0, p1, p2, p3, p4] → z ∈ ws → IsWd z := fun hw hz => (hok _ hw).wd _ hz
      have npa := hA5.ne hrp
      refine q rp ⟨z0, z1, z2, z3, y, z4, decide (0 < rs)⟩ _ ?_ ⟨okp (by simp) m0, okp (by simp) m1, okp (by simp) m2, okp (by simp) m3, by show y ≤ 120; omega, okp (by simp) m4⟩ m0 m1 m2 m3 m4 upd_same (hA5.same (same_new hrp)) ((x04.trans x5).trans (sx (same_new hrp)))
      exact SameX.free (x04.trans x5) npa hrp
end
end Wl




namespace Wl
open PySem PySem.Spec PyProof.Rows L2
section
variable {P : Program} {w : World} {K : PySem.W.Frag} {mg : Str → Option Value} {base : Heap} {f C D : Addr} {fd : FuncData}
/-! ### the pools -/
structure PoolI (g : Grid) (H H' : Hp) (a Fa cl : Addr) (xs : List V) (as : List Addr) (rest : List (List Str)) (i : Nat) : Prop where
  pu : PurseAt H' a
  sx : SameX a H H'
  fo : H' Fa = some (.lst (as.map V.ref))
  cl : H' cl = some (.lst xs)
  ea : Each (fun (p : Addr) (ws : List Str) => H' p = some (.lst (ws.map V.str))) as (sortS (names g) :: rest)
  ne : ∀ p ∈ as, p ≠ Fa ∧ H p = none
  len : as.length = i + 1
  wd : ∀ ws ∈ rest, ∀ z ∈ ws, IsWd z
  co : Each (fun (x : V) (ws : List Str) => x = .int (ws.length : Int)) (xs.take i) rest
theorem each_lists {H H' : Hp} : ∀ {as : List Addr} {ps : List (List Str)}, (∀ p ∈ as, ∀ o, H p = some o → H' p = some o) → Each (fun (p : Addr) (ws : List Str) => H p = some (.lst (ws.map V.str))) as ps → Each (fun (p : Addr) (ws : List Str) => H' p = some (.lst (ws.map V.str))) as ps
  | _, _, _, .nil => .nil
  | _, _, k, .cons r t => .cons (k _ List.mem_cons_self _ r) (each_lists (fun p hp => k p (List.mem_cons_of_mem _ hp)) t)
def spPools : Sp := fun vs H Q _ => ∃ (a L : Addr) (g : Grid) (wd : Nat), vs = [.ref a, .ref L] ∧ PurseAt H a ∧ GridAt H L g ∧ Good g wd ∧
  ∀ (F : Addr) (as : List Addr) (p1 p2 p3 p4 : List Str) (H' : Hp), H F = none → (∀ p ∈ as, H p = none) → PoolsAt H' F as [sortS (names g), p1, p2, p3, p4] → (∀ ws ∈ [sortS (names g), p1, p2, p3, p4], OkW ws) → p4.length ≤ 3 → p3.length ≤ 3 → PurseAt H' a → SameX a H H' → Q (.ref F) H'
abbrev nPools : List Str := ["_law_purse_here", "_law_lots", "_law_found", "_law_count", "_law_words", "_law_k", "_law_said"]
theorem scPools : FnScope nPools ["_law_purse_here", "_law_lots"] (defScope sPools) := ⟨rfl, rfl, rfl, by decide +kernel, rfl, by decide +kernel, by decide +kernel⟩
theorem ok_pools (F : Fun K "_law_pools" "_law_pools" sPools f fd) (B : Bi mg) (hp : Has P w K mg base "_law_pick" 1 ["_law_purse_here", "_law_count"] spPick) (hF : Has P w K mg base "_law_fresh" 3 ["_law_purse_here", "_law_used"] spFresh) (hN : Has P w K mg base "_law_names" 1 ["_law_lots"] spNames) : FnOk P w K mg base CX0 4 f fd ["_law_purse_here", "_law_lots"] spPools := by
  refine F.ok scPools (fun vs H Q E h => ?_) (fun cdv A outer s H vs Q E hr h => ?_)
  · obtain ⟨a, L, g, wd, rfl, _⟩ := h
    rfl
  · obtain ⟨a, L, g, wd, rfl, hA, hG, gd, q⟩ := h
    refine ⟨_, pss_cons (ps_set (i := 2) scPools.nd rfl (.inl rfl) (pe_lst (pa_cons (pe_h hN hr (pa_cons (pv 1) pa_nil)) pa_nil)))
      (pss_cons (ps_for PassesOwn.never rfl (pi_list (pe_lst (pa_cons (pe_op op_add pe_int (pe_h hp hr (pa_cons (pv 0) (pa_cons pe_int pa_nil)))) (pa_cons (pe_op op_add pe_int (pe_h hp hr (pa_cons (pv 0) (pa_cons pe_int pa_nil)))) (pa_cons (pe_op op_add pe_int (pe_h hp hr (pa_cons (pv 0) (pa_cons pe_int pa_nil)))) (pa_cons (pe_h hp hr (pa_cons (pv 0) (pa_cons pe_int pa_nil))) pa_nil)))))) (pg_name (i := 3) scPools.nd rfl (.inl rfl))
        (pss_cons (ps_set (i := 4) scPools.nd rfl (.inl rfl) (pe_lst pa_nil))
        (pss_cons (ps_for PassesOwn.never rfl (pi_range1 rfl B.range (pa_cons (pv 3) pa_nil)) (pg_name (i := 5) scPools.nd rfl (.inl rfl))
          (pss_one (ps_expr (pe_bm PySem.F.plainAttrs_list PySem.F.slot_list_append PySem.F.type_list_append mt_append (pv 4) (pa_cons (pe_h hF hr (pa_cons (pv 0) (pa_cons (pv 4) pa_nil))) pa_nil)))))
        (pss_one (ps_expr (pe_bm PySem.F.plainAttrs_list PySem.F.slot_list_append PySem.F.type_list_append mt_append (pv 2) (pa_cons (pv 4) pa_nil)))))))
      (pss_cons (ps_asg (pe_op op_cat (pe_lst (pa_cons pe_str pa_nil)) (pe_lc (own := [("_law_said", 6)]) (g := gName 6) (tt := tTest (tOp rNe (tVar 6) (tC (.str "self")))) rfl scPools.nd (pi_list (pe_ix ix_list (pv 2) pe_int (fun _ _ => rfl))) (blkOk_by (N := nPools) (sc := defScope sPools) (by decide +kernel)) (fun _ _ _ _ _ => pg_name (i := 6) scPools.nd rfl (.inl rfl)) (fun _ _ _ _ _ => pts_one (pt_cmpR op_ne (pv 6) pe_str (nomark _))) (fun _ _ _ _ _ => pv 6))) (pg_sub (pv 2) pe_int set_list))
      (pss_one (ps_ret (pv 2))))), ?_⟩
    refine ⟨_, rfl, L, g, wd, rfl, hG, gd.sized, fun tn H1 ntn s1 htn => ⟨lz, fun Fa hFa => ?_⟩⟩
    have s2 := same_new (o := .lst [V.ref tn]) hFa
    have hFa2 : upd H1 Fa (.lst [V.ref tn]) Fa = some (.lst [V.ref tn]) := upd_same
    have htn2 := s2 _ _ htn
    have s02 := s1.trans s2
    have hFa0 : H Fa = none := s1.free hFa
    have nFt : tn ≠ Fa := fun e => by
      rw [e, hFa] at htn
      cases htn
    generalize upd H1 Fa (.lst [V.ref tn]) = H2 at hFa2 htn2 s02
    have nFa : Fa ≠ a := hA.ne hFa0
    have nta : tn ≠ a := hA.ne ntn
    refine ⟨_, rfl, a, 3, rfl, hA.same s02, by decide, by decide, fun c1 H3 c10 c11 hA3 x3 _ => ⟨_, _, rfl, rfl, _, rfl, a, 5, rfl, hA3, by decide, by decide, fun c2 H4 c20 c21 hA4 x4 _ => ⟨_, _, rfl, rfl, _, rfl, a, 3, rfl, hA4, by decide, by decide, fun c3 H5 c30 c31 hA5 x5 _ => ⟨_, _, rfl, rfl, _, rfl, a, 3, rfl, hA5, by decide, by decide, fun c4 H6 c40 c41 hA6 x6 _ => ⟨lz, fun cl hcl => ?_⟩⟩⟩⟩⟩
    have x26 : SameX a H2 H6 := ((x3.trans x4).trans x5).trans x6
    have s7 := same_new (o := .lst [V.int (1 + c1), V.int (1 + c2), V.int (1 + c3), V.int c4]) hcl
    have hcl7 : upd H6 cl (.lst [V.int (1 + c1), V.int (1 + c2), V.int (1 + c3), V.int c4]) cl = _ := upd_same
    have hA7 := hA6.same s7
    have x27 := x26.trans (sx s7)
    have ncl : cl ≠ a := hA6.ne hcl
    have nclF : cl ≠ Fa := fun e => by
      have := x26 _ _ nFa hFa2
      rw [e] at hcl
      rw [hcl] at this
      cases this
    generalize upd H6 cl (.lst [V.int (1 + c1), V.int (1 + c2), V.int (1 + c3), V.int c4]) = H7 at hcl7 hA7 x27
    have hcl0 : ∀ p, H p ≠ none → p ≠ cl := fun p h e => h (by
      have : H6 cl = none := hcl
      cases hq : H p with
      | none => rfl
      | some o =>
        by_cases c : p = a
        · exact absurd (e.symm.trans c) ncl
        · have := x26 _ _ c (s02 _ _ hq)
          rw [e, hcl] at this
          cases this)
    have I0 : PoolI g H H7 a Fa cl [V.int (1 + c1), V.int (1 + c2), V.int (1 + c3), V.int c4] [tn] [] 0 :=
      ⟨hA7, (sx s02).trans x27, x27 _ _ nFa hFa2, hcl7, .cons (x27 _ _ nta htn2) .nil, fun p hp => by rw [List.mem_singleton.mp hp]; exact ⟨nFt, ntn⟩, rfl, fun ws hw => by simp at hw, .nil⟩
    have cnt : ∀ (i : Nat) (x : V), ([V.int (1 + c1), V.int (1 + c2), V.int (1 + c3), V.int c4] : List V)[i]? = some x → ∃ n : Nat, x = .int (n : Int) ∧ n ≤ 5 := by
      intro i x hx
      match i, hx with
      | 0, h => cases h; exact ⟨(1 + c1).toNat, by congr 1; omega, by omega⟩
      | 1, h => cases h; exact ⟨(1 + c2).toNat, by congr 1; omega, by omega⟩
      | 2, h => cases h; exact ⟨(1 + c3).toNat, by congr 1; omega, by omega⟩
      | 3, h => cases h; exact ⟨c4.toNat, by congr 1; omega, by omega⟩
      | n + 4, h => simp at h
    refine ⟨cl, rfl, ⟨_, .inl (.inl hcl7)⟩, for_list (K := K) (a := cl) (xs := [V.int (1 + c1), V.int (1 + c2), V.int (1 + c3), V.int c4]) (fun i σ H' => (∃ y3 y4 y5 y6, σ = [some (.ref a), some (.ref L), some (.ref Fa), y3, y4, y5, y6]) ∧ ∃ as rest, PoolI g H H' a Fa cl [V.int (1 + c1), V.int (1 + c2), V.int (1 + c3), V.int c4] as rest i)
      ⟨⟨_, _, _, _, rfl⟩, _, _, I0⟩ (fun i σ H' _ h => .inl (.inl (h.2.choose_spec.choose_spec.cl))) ?_ ?_⟩
    · rintro i x σ H8 hx ⟨⟨y3, y4, y5, y6, rfl⟩, as, rest, I⟩
      obtain ⟨n, rfl, hn⟩ := cnt i x hx
      refine ⟨lz, fun W hW => ?_⟩
      have nWa : W ≠ a := I.pu.ne hW
      have hW0 : H W = none := SameX.free I.sx nWa hW
      have nWF : Fa ≠ W := ne_of_none I.fo hW
      have nWc : cl ≠ W := ne_of_none I.cl hW
      have nWp : ∀ p ∈ as, p ≠ W := fun p hp => by
        obtain ⟨k, hk, ek⟩ := List.mem_iff_getElem.mp hp
        obtain ⟨ws, _, e⟩ := Each.get I.ea (i := k) (a := p) (by rw [List.getElem?_eq_getElem hk, ek])
        exact ne_of_none e hW
      have npa : ∀ p ∈ as, p ≠ a := fun p hp => hA.ne (I.ne p hp).2
      have s9 := same_new (o := .lst []) hW
      have hW9 : upd H8 W (.lst []) W = some (.lst []) := upd_same
      have hA9 := I.pu.same s9
      generalize upd H8 W (.lst []) = H9 at s9 hW9 hA9
      refine ⟨_, rfl, (n : Int), rfl, by omega, by omega, for_range (lo := 0) (n := n) (fun j σ H' => (∃ z5, σ = [some (.ref a), some (.ref L), some (.ref Fa), some (.int (n : Int)), some (.ref W), z5, y6]) ∧ ∃ ws : List Str, H' W = some (.lst (ws.map V.str)) ∧ ws.length = j ∧ (∀ z ∈ ws, IsWd z) ∧ PurseAt H' a ∧ Same2 a W H9 H')
        ⟨⟨_, rfl⟩, [], hW9, rfl, fun z hz => by simp at hz, hA9, Same2.of (Same.refl _)⟩ ?_ ?_⟩
      · rintro j σ H10 hj ⟨⟨z5, rfl⟩, ws, hw, hl, hwd, hA10, m10⟩
        refine ⟨_, rfl, .inl ⟨rfl, _, .inl (.inl hw)⟩, _, rfl, _, rfl, a, W, ws, rfl, hA10, hw, nWa, by omega, fun z H11 hz hzn hA11 x11 => ?_⟩
        have hw11 := x11 _ _ nWa hw
        refine ⟨W, _, _, rfl, rfl, hw11, ?_, ⟨_, rfl⟩, ws ++ [z], ?_, ?_, ?_, ?_, ?_⟩
        · rw [List.length_map]
          exact small1000 (by omega)
        · rw [upd_same, List.map_append]
          rfl
        · rw [List.length_append, hl]
          rfl
        · intro u hu
          rcases List.mem_append.mp hu with hu | hu
          · exact hwd u hu
          · rw [List.mem_singleton.mp hu]
            exact hz
        · obtain ⟨y0, y1, y2, hy, hy1⟩ := hA11
          exact ⟨y0, y1, y2, by rw [upd_ne nWa.symm]; exact hy, hy1⟩
        · intro c o n1 n2 e
          rw [upd_ne n2]
          exact x11 _ _ n1 (m10 c o n1 n2 e)
      · rintro σ H10 ⟨⟨z5, rfl⟩, ws, hw, hl, hwd, hA10, m10⟩
        have t10 : ∀ c o, c ≠ a → c ≠ W → H8 c = some o → H10 c = some o := fun c o n1 n2 e => m10 c o n1 n2 (s9 _ _ e)
        have hf10 := t10 _ _ nFa nWF I.fo
        refine ⟨_, rfl, .inl ⟨rfl, _, .inl (.inl hf10)⟩, _, rfl, Fa, _, _, rfl, rfl, hf10, ?_, ⟨_, _, _, _, rfl⟩, as ++ [W], rest ++ [ws], ?_⟩
        · rw [List.length_map, I.len]
          have : i < 4 := by
            rcases Nat.lt_or_ge i 4 with h | h
            · exact h
            · rw [List.getElem?_eq_none (by simpa using h)] at hx
              cases hx
          exact small1000 (by omega)
        refine ⟨?_, ?_, ?_, ?_, ?_, ?_, ?_, ?_, ?_⟩
        · obtain ⟨y0, y1, y2, hy, hy1⟩ := hA10
          exact ⟨y0, y1, y2, by rw [upd_ne nFa.symm]; exact hy, hy1⟩
        · intro c o n1 e
          have n2 : c ≠ W := ne_of_none e hW0
          have n3 : c ≠ Fa := ne_of_none e hFa0
          rw [upd_ne n3]
          exact t10 c o n1 n2 (I.sx c o n1 e)
        · rw [upd_same, List.map_append]
          rfl
        · rw [upd_ne nclF]
          exact t10 _ _ ncl nWc I.cl
        · have e1 := each_lists (H' := upd H10 Fa (.lst (as.map V.ref ++ [V.ref W]))) (fun p hp o e => by
            rw [upd_ne (I.ne p hp).1]
            exact t10 p o (npa p hp) (nWp p hp) e) I.ea
          have e2 : Each (fun (p : Addr) (ws : List Str) => upd H10 Fa (.lst (as.map V.ref ++ [V.ref W])) p = some (.lst (ws.map V.str))) [W] [ws] := .cons (by rw [upd_ne nWF.symm]; exact hw) .nil
          exact Each.append e1 e2
        · intro p hp
          rcases List.mem_append.mp hp with hp | hp
          · exact I.ne p hp
          · rw [List.mem_singleton.mp hp]
            exact ⟨nWF.symm, hW0⟩
        · rw [List.length_append, I.len]
          rfl
        · intro us hu
          rcases List.mem_append.mp hu with hu | hu
          · exact I.wd us hu
          · rw [List.mem_singleton.mp hu]
            exact hwd
        · rw [List.take_add_one, hx]
          exact Each.append I.co (.cons (by rw [hl]) .nil)
    · rintro σ H8 ⟨⟨y3, y4, y5, y6, rfl⟩, as, rest, I⟩
      have co := I.co
      obtain ⟨p1, p2, p3, p4, rfl, l1, l2, l3, l4⟩ : ∃ p1 p2 p3 p4 : List Str, rest = [p1, p2, p3, p4] ∧ V.int (1 + c1) = .int (p1.length : Int) ∧ V.int (1 + c2) = .int (p2.length : Int) ∧ V.int (1 + c3) = .int (p3.length : Int) ∧ V.int c4 = .int (p4.length : Int) := by
        cases co with
        | cons m1 co =>
          cases co with
          | cons m2 co =>
            cases co with
            | cons m3 co =>
              cases co with
              | cons m4 co =>
                cases co
                exact ⟨_, _, _, _, rfl, m1, m2, m3, m4⟩
      have l1 := V.int.inj l1
      have l2 := V.int.inj l2
      have l3 := V.int.inj l3
      have l4 := V.int.inj l4
      have ea := I.ea
      obtain ⟨b0, b1, b2, b3, b4, rfl, e0, e1, e2, e3, e4⟩ : ∃ b0 b1 b2 b3 b4 : Addr, as = [b0, b1, b2, b3, b4] ∧ H8 b0 = some (.lst ((sortS (names g)).map V.str)) ∧ H8 b1 = some (.lst (p1.map V.str)) ∧ H8 b2 = some (.lst (p2.map V.str)) ∧ H8 b3 = some (.lst (p3.map V.str)) ∧ H8 b4 = some (.lst (p4.map V.str)) := by
        cases ea with
        | cons m0 ea =>
          cases ea with
          | cons m1 ea =>
            cases ea with
            | cons m2 ea =>
              cases ea with
              | cons m3 ea =>
                cases ea with
                | cons m4 ea =>
                  cases ea
                  exact ⟨_, _, _, _, _, rfl, m0, m1, m2, m3, m4⟩
      refine ⟨lz, fun sl hsl => ?_⟩
      have s9 := same_new (o := .lst [V.str "self"]) hsl
      have hs9 : upd H8 sl (.lst [V.str "self"]) sl = some (.lst [V.str "self"]) := upd_same
      generalize upd H8 sl (.lst [V.str "self"]) = H9 at s9 hs9
      have hf9 := s9 _ _ I.fo
      have e49 := s9 _ _ e4
      refine ⟨_, rfl, Fa, _, _, .ref b4, rfl, rfl, .inl (.inl hf9), atI_nat (j := 4) rfl, b4, rfl, ⟨_, .inl (.inl e49)⟩, fun Dd hD => ?_⟩
      refine lc_map (walk_list (K := K) (a := b4) (xs := p4.map V.str)) hD (fun v => !decide (v = .str "self")) id (fun H' s' => .inl (.inl (s' _ _ e49))) (fun _ => rfl) ?_ ?_ ?_ ?_
      · intro x H' hx _ Q' q'
        obtain ⟨z, hz, rfl⟩ := List.mem_map.mp hx
        exact ⟨_, rfl, rfl, _, rfl, q'⟩
      · intro x H' hx _ _ Q' q'
        exact ⟨_, rfl, q'⟩
      · rw [List.length_map]
        exact small1000 (by omega)
      · intro H10 s10 hD10
        have ef : ((p4.map V.str).filter fun v => !decide (v = .str "self")).map id = (p4.filter fun (z : Str) => !decide (z = "self")).map V.str := by
          rw [List.map_id, List.filter_map]
          congr 1
          refine List.filter_congr fun z _ => ?_
          simp only [Function.comp]
          by_cases c : z = ("self" : Str)
          · rw [c]
            simp
          · rw [decide_eq_false c, decide_eq_false fun e => c (V.str.inj e)]
        rw [ef] at hD10
        have hfl : (p4.filter fun (z : Str) => !decide (z = "self")).length ≤ p4.length := List.length_filter_le _ _
        refine ⟨sl, Dd, _, _, rfl, rfl, s10 _ _ hs9, hD10, ?_, fun nl hnl => ?_⟩
        · rw [List.length_map]
          exact lzl (by simp only [List.length_cons, List.length_nil]; omega)
        have s11 := same_new (o := .lst ([V.str "self"] ++ (p4.filter fun (z : Str) => !decide (z = "self")).map V.str)) hnl
        have s811 := s9.trans (s10.trans s11)
        have hnl11 : upd H10 nl (.lst ([V.str "self"] ++ (p4.filter fun (z : Str) => !decide (z = "self")).map V.str)) nl = some (.lst ((("self" : Str) :: p4.filter fun (z : Str) => !decide (z = "self")).map V.str)) := upd_same
        have nn8 : H8 nl = none := (s9.trans s10).free hnl
        generalize upd H10 nl (.lst ([V.str "self"] ++ (p4.filter fun (z : Str) => !decide (z = "self")).map V.str)) = H11 at s811 hnl11
        have hf11 := s811 _ _ I.fo
        refine ⟨_, rfl, Fa, _, 4, 4, rfl, rfl, hf11, rfl, ?_⟩
        have nnF : nl ≠ Fa := (ne_of_none I.fo nn8).symm
        have nna : nl ≠ a := I.pu.ne nn8
        have hn0 : H nl = none := SameX.free I.sx nna nn8
        have up : ∀ {p : Addr} {o : HO}, p ≠ Fa → H8 p = some o → upd H11 Fa (.lst [V.ref b0, .ref b1, .ref b2, .ref b3, .ref nl]) p = some o := fun {p o} n e => by
          rw [upd_ne n]
          exact s811 _ _ e
        have ne := I.ne
        refine ⟨_, rfl, q Fa [b0, b1, b2, b3, nl] p1 p2 p3 ("self" :: p4.filter fun (z : Str) => !decide (z = "self")) _ hFa0 ?_ ⟨?_, .cons (up (ne b0 (by simp)).1 e0) (.cons (up (ne b1 (by simp)).1 e1) (.cons (up (ne b2 (by simp)).1 e2) (.cons (up (ne b3 (by simp)).1 e3) (.cons ?_ .nil))))⟩ ?_ ?_ (by omega) ?_ ?_⟩
        · intro p hp
          simp only [List.mem_cons, List.not_mem_nil, or_false] at hp
          rcases hp with rfl | rfl | rfl | rfl | rfl
          · exact (ne _ (by simp)).2
          · exact (ne _ (by simp)).2
          · exact (ne _ (by simp)).2
          · exact (ne _ (by simp)).2
          · exact hn0
        · exact upd_same
        · show upd H11 Fa _ nl = _
          rw [upd_ne nnF]
          exact hnl11
        · have iw := I.wd
          have nen : sortS (names g) ≠ [] := fun e => gd.ne (List.eq_nil_of_length_eq_zero (by rw [← sortS_len, e]; rfl))
          have lng : (sortS (names g)).length ≤ 36 := by
            rw [sortS_len]
            have a1 := len_names (g := g) (wd := wd) gd.rows
            have a3 : g.length * wd ≤ 6 * 6 := Nat.mul_le_mul gd.h6 gd.w6
            omega
          intro us hu
          simp only [List.mem_cons, List.not_mem_nil, or_false] at hu
          rcases hu with rfl | rfl | rfl | rfl | rfl
          · exact ⟨nen, lng, fun z hz => gd.wd z (mem_sortS.mp hz)⟩
          · exact ⟨fun e => by rw [e] at l1; simp at l1; omega, by omega, iw us (by simp)⟩
          · exact ⟨fun e => by rw [e] at l2; simp at l2; omega, by omega, iw us (by simp)⟩
          · exact ⟨fun e => by rw [e] at l3; simp at l3; omega, by omega, iw us (by simp)⟩
          · refine ⟨by simp, by rw [List.length_cons]; omega, fun z hz => ?_⟩
            rcases List.mem_cons.mp hz with rfl | hz
            · decide +kernel
            · exact iw p4 (by simp) z (List.mem_filter.mp hz).1
        · rw [List.length_cons]
          omega
        · obtain ⟨y0, y1, y2, hy, hy1⟩ := I.pu.same s811
          exact ⟨y0, y1, y2, by rw [upd_ne nFa.symm]; exact hy, hy1⟩
        · intro c o n1 e
          rw [upd_ne (ne_of_none e hFa0)]
          exact s811 _ _ (I.sx c o n1 e)
end
end Wl




namespace Wl
open PySem PySem.Spec PyProof.Rows L2
/-- what the law keeps beside the Gathering -/
structure KeptAt (H : Hp) (kp : Addr) (bs : List Addr) (ts : List Tel) : Prop where
  at_ : H kp = some (.lst (bs.map V.ref))
  tels : TelsAt H bs ts
theorem GatAt.keep {C D : Addr} {H H' : Hp} {p : Addr} {r : GR} (h : GatAt C D H p r) (k : Keep H H') (ht : H' r.td = some (.lst (r.as.map V.ref))) (hd : H' r.dd = some (.lst r.ds)) : GatAt C D H' p r :=
  ⟨let ⟨dx, e⟩ := h.at_; ⟨dx, k _ _ (fun xs e => by cases e) e⟩, h.land.keep k, ht, h.tels.keep k.tk, hd, h.ne⟩
theorem GatAt.x {C D : Addr} {H H' : Hp} {p a : Addr} {r : GR} (h : GatAt C D H p r) (hA : PurseAt H a) (s : SameX a H H') (n1 : r.td ≠ a) (n2 : r.dd ≠ a) : GatAt C D H' p r := by
  obtain ⟨ys, ha⟩ := hA.lst
  exact h.keep (kp_x s ha) (s _ _ n1 h.told) (s _ _ n2 h.deeds)
theorem kp_2 {a b : Addr} {H H' : Hp} {xs ys : List V} (s : Same2 a b H H') (ha : H a = some (.lst xs)) (hb : H b = some (.lst ys)) : Keep H H' := fun p o n h => s p o (fun e => by
  subst e
  rw [ha] at h
  exact n _ (Option.some.inj h).symm) (fun e => by
  subst e
  rw [hb] at h
  exact n _ (Option.some.inj h).symm) h
def kD (t : Tel) : PyData := .tuple ((keyS t).map PyData.str)
theorem lay_keys : ∀ {ts : List Tel}, (∀ t ∈ ts, OkT t) → PyData.canLayAll0 (ts.map kD) = true
  | [], _ => by simp [PyData.canLayAll0]
  | t :: ts, h => by
    have h1 := lay_strs (h t List.mem_cons_self).key
    have h2 := lay_keys (ts := ts) fun u hu => h u (List.mem_cons_of_mem _ hu)
    simp [PyData.canLayAll0, kD, PyData.canLay0, h1, h2]
theorem depth_keys : ∀ ts : List Tel, PyData.depthAll (ts.map kD) ≤ 1
  | [] => by simp [PyData.depthAll]
  | t :: ts => by
    have h1 := depth_keys ts
    have h2 := depth_strs (keyS t)
    simp only [List.map_cons, PyData.depthAll, kD, PyData.depth]
    omega
theorem any_keys (t : Tel) : ∀ ts : List Tel, ((ts.map kD).any fun z => PyData.eqv z (.tuple ((keyS t).map PyData.str))) = decide (keyS t ∈ ts.map keyS)
  | [] => by simp
  | u :: ts => by
    rw [List.map_cons, List.any_cons, any_keys t ts, show PyData.eqv (kD u) (.tuple ((keyS t).map PyData.str)) = decide (keyS u = keyS t) from tup_eqv _ _, List.map_cons]
    by_cases c : keyS u = keyS t
    · rw [decide_eq_true c, decide_eq_true (show keyS t ∈ keyS u :: ts.map keyS by rw [c]; exact List.mem_cons_self), Bool.true_or]
    · rw [decide_eq_false c, Bool.false_or]
      by_cases d : keyS t ∈ ts.map keyS
      · rw [decide_eq_true d, decide_eq_true (List.mem_cons_of_mem _ d)]
      · rw [decide_eq_false d, decide_eq_false fun h => by
          rcases List.mem_cons.mp h with h | h
          · exact c h.symm
          · exact d h]
theorem keys_dp {K : PySem.W.Frag} {H H' : Hp} : ∀ {bs : List Addr} {ts : List Tel} {zs : List V}, TelsAt H bs ts → Each (fun (x z : V) => ∀ (pt : Addr) (t : Tel), x = .ref pt → H pt = some (.tup (telV t)) → ∃ k, z = .ref k ∧ H' k = some (.tup (keyV t))) (bs.map V.ref) zs → DpAll K H' zs (ts.map kD)
  | [], [], [], _, _ => .nil
  | [], [], _ :: _, _, h => nomatch h
  | [], _ :: _, _, h, _ => nomatch h
  | _ :: _, [], _, h, _ => nomatch h
  | _ :: _, _ :: _, [], _, h => nomatch h
  | b :: bs, t :: ts, z :: zs, .cons e r, .cons e' r' => by
    obtain ⟨k, rfl, hk⟩ := e' b t rfl e
    exact .cons (.tup (.inl (.inl hk)) (dp_strs (keyS t))) (keys_dp r r')
section
variable {P : Program} {w : World} {K : PySem.W.Frag} {mg : Str → Option Value} {base : Heap} {f C D : Addr} {fd : FuncData}
def HasI (P : Program) (w : World) (K : PySem.W.Frag) (mg : Str → Option Value) (base : Heap) (C : Addr) : Prop :=
  ∃ f fd, Mk K C f ∧ FnOk P w K mg base CX0 4 f fd ["self", "rows"] (spInit C) ∧ Binds K fd ["self", "rows"] []
def HasG (P : Program) (w : World) (K : PySem.W.Frag) (mg : Str → Option Value) (base : Heap) (C D : Addr) : Prop :=
  ∃ f fd, Mk K D f ∧ FnOk P w K mg base CX0 1 f fd ["self", "land"] (spGInit C D) ∧ Binds K fd ["self", "land"] []
end
end Wl




namespace Wl
open PySem PySem.Spec PyProof.Rows L2
abbrev sGTell : Stmt := inClass sGat 6
section
variable {P : Program} {w : World} {K : PySem.W.Frag} {mg : Str → Option Value} {base : Heap} {f C D : Addr} {fd : FuncData}
/-! ### tellings, as put in -/
abbrev FunT (K : PySem.W.Frag) (f : Addr) (fd : FuncData) : Prop := FunD K "tellings" "Gathering.tellings" (defArgs sGTell) (defBody sGTell) (defScope sGTell) [.non] [] f fd
def spTell (C D : Addr) : Sp := fun vs H Q _ => ∃ (p : Addr) (r : GR), vs = [.ref p, .non] ∧ GatAt C D H p r ∧ ∀ (l : Addr), H l = none → Q (.ref l) (upd H l (.lst (r.as.map V.ref)))
theorem scTell : FnScope ["self", "keying"] ["self", "keying"] (defScope sGTell) := ⟨rfl, rfl, rfl, by decide +kernel, rfl, by decide +kernel, by decide +kernel⟩
theorem tell_b1 (F : FunT K f fd) : ∃ ds, Vals [V.non] ds ∧ Binds K fd ["self", "keying"] ds :=
  F.binds1 (ps := ["self", "keying"]) 1 0 (by simp) rfl (fun T kV doc pm an cdv ct us its l1 l2 => by
      match us, its, l1, l2 with
      | [_], [_], _, _ => exact ⟨_, rfl, rfl⟩)
theorem ok_tell (F : FunT K f fd) (B : Bi mg) (TG : TxtG K mg D) : FnOk P w K mg base CX0 1 f fd ["self", "keying"] (spTell C D) := by
  refine okD F scTell (fun vs H Q E h => ?_) (fun cdv A outer s H vs Q E hr h => ?_)
  · obtain ⟨p, r, rfl, _⟩ := h
    rfl
  · obtain ⟨p, r, rfl, hG, q⟩ := h
    refine ⟨_, pss_cons (ps_if (pt_cmp (pc_isN (pv 1))) (pss_one (ps_ret (pe_callTy call_list_of (by rfl) B.list (by decide +kernel) (pa_cons (pe_fld (pv 0) rfl) pa_nil)))) pss_nil) (pss_one ps_never), ?_⟩
    obtain ⟨dx, hp⟩ := hG.at_
    exact ⟨_, rfl, _, rfl, iteT ⟨_, rfl, p, D, dx, _, _, rfl, hp, TG.cl, TG.nT, gf_told _ _ _, r.td, _, rfl, .inl (.inl (.inl hG.told)), q⟩⟩
/-! ### check_gathering -/
/-! ### summed_up -/
end
end Wl






namespace Wl
open PySem PySem.Spec PyProof.Rows L2
section
variable {P : Program} {w : World} {K : PySem.W.Frag} {mg : Str → Option Value} {base : Heap} {f C D : Addr} {fd : FuncData}
def HasTl (P : Program) (w : World) (K : PySem.W.Frag) (mg : Str → Option Value) (base : Heap) (C D : Addr) : Prop := ∃ f fd, FnOk P w K mg base CX0 1 f fd ["self", "keying"] (spTell C D) ∧ Meth K D "tellings" f ∧ FunT K f fd
/-! ### struck by place -/
/-! ### a Gathering of these -/
end
end Wl




namespace Wl
open PySem PySem.Spec PyProof.Rows L2
/-! tellings as data -/
def telD (t : Tel) : PyData := .tuple [.str t.v, .str t.th, .str t.wo, .str t.tl, .int (t.age : Int), .str t.g, .bool t.sure]
theorem dp_tel {K : PySem.W.Frag} {H : Hp} {p : Addr} {t : Tel} (h : H p = some (.tup (telV t))) : Dp K H (.ref p) (telD t) :=
  .tup (.inl (.inl h)) (.cons (.str _) (.cons (.str _) (.cons (.str _) (.cons (.str _) (.cons (.int _) (.cons (.str _) (.cons (.bl _) .nil)))))))
theorem dp_tels {K : PySem.W.Frag} {H : Hp} : ∀ {as : List Addr} {ts : List Tel}, TelsAt H as ts → DpAll K H (as.map V.ref) (ts.map telD)
  | _, _, .nil => .nil
  | _, _, .cons e r => .cons (dp_tel e) (dp_tels r)
theorem tel_eqv (t u : Tel) : PyData.eqv (telD t) (telD u) = decide (t = u) := by
  rw [Bool.eq_iff_iff, decide_eq_true_eq]
  simp only [telD, PyData.eqv, PyData.eqvAll, Bool.and_eq_true, Bool.and_true, beq_iff_eq]
  cases t
  cases u
  simp
  intros
  exact Int.ofNat_inj
theorem lay_tel {t : Tel} (h : OkT t) : PyData.canLay0 (telD t) = true := by
  simp [telD, PyData.canLayAll0, PyData.canLay0, wd_ok h.v, wd_ok h.th, wd_ok h.wo, wd_ok h.tl, wd_ok h.g]
theorem shaped_tel {t : Tel} (h : OkT t) : SeqAt.shaped (telD t) = true := shaped_tuple (by simpa [telD, PyData.canLay0] using lay_tel h) (by simp [PyData.depthAll, PyData.depth])
theorem lay_tels : ∀ {ts : List Tel}, (∀ t ∈ ts, OkT t) → PyData.canLayAll0 (ts.map telD) = true
  | [], _ => by simp [PyData.canLayAll0]
  | t :: r, h => by
    have h1 := lay_tel (h t List.mem_cons_self)
    have h2 := lay_tels (ts := r) fun u hu => h u (List.mem_cons_of_mem _ hu)
    simp [PyData.canLayAll0, h1, h2]
theorem depth_tels : ∀ ts : List Tel, PyData.depthAll (ts.map telD) ≤ 1
  | [] => by simp [PyData.depthAll]
  | t :: r => by
    have h1 := depth_tels r
    simp only [List.map_cons, PyData.depthAll, telD, PyData.depth]
    omega
theorem shaped_tels {ts : List Tel} (h : ∀ t ∈ ts, OkT t) : SeqAt.shaped (.list (ts.map telD)) = true := shaped_list (lay_tels h) (by have := depth_tels ts; omega)
theorem tels_nil (ts : List Tel) : PyData.eqv (.list (ts.map telD)) (.list []) = ts.isEmpty := by
  cases ts with
  | nil => simp [PyData.eqv, PyData.eqvAll]
  | cons a r => simp [PyData.eqv, PyData.eqvAll]
/-! one taken out -/
theorem put_back {α : Type} : ∀ {l : List α} {i : Nat} {x : α}, l[i]? = some x → (l.eraseIdx i).take i ++ [x] ++ (l.eraseIdx i).drop i = l
  | [], _, _, h => by simp at h
  | y :: l, 0, x, h => by
    simp at h
    subst h
    simp
  | y :: l, i + 1, x, h => by
    have := put_back (l := l) (i := i) (x := x) (by simpa using h)
    simp only [List.eraseIdx_cons_succ, List.take_succ_cons, List.drop_succ_cons, List.cons_append]
    rw [this]
end Wl



/-! check_both: two Gatherings of alike Lands, or refused. -/
namespace Wl
open PySem PySem.Spec PyProof.Rows L2
abbrev sBoth : Stmt := topS 43
def plM : Option Nat → V
  | none => .non
  | some i => .int i
/-- no Gathering -/
def NoGa (K : PySem.W.Frag) (D : Addr) (H : Hp) (v : V) : Prop := ∃ t, TyX K H v t ∧ PySem.W.kitOne K t (.ref D) = some false
/-- what two things are: none, two of alike Lands; else the place of what is none -/
def PairR (K : PySem.W.Frag) (C D : Addr) (H : Hp) (a b : V) : Option (Option Nat) → Prop
  | some (some 0) => NoGa K D H a
  | some (some 1) => (∃ p r, a = .ref p ∧ GatAt C D H p r) ∧ NoGa K D H b
  | some (some _) => False
  | some none => ∃ p r wd q s wd', a = .ref p ∧ b = .ref q ∧ GatAt C D H p r ∧ Good r.g wd ∧ GatAt C D H q s ∧ Good s.g wd' ∧ r.g ≠ s.g
  | none => ∃ p r wd q s wd', a = .ref p ∧ b = .ref q ∧ GatAt C D H p r ∧ Good r.g wd ∧ GatAt C D H q s ∧ Good s.g wd' ∧ r.g = s.g
section
variable {P : Program} {w : World} {K : PySem.W.Frag} {mg : Str → Option Value} {base : Heap} {f C D cM : Addr} {fd : FuncData}
def spBothA (K : PySem.W.Frag) (C D cM : Addr) : Sp := fun vs H Q E => ∃ (a b : V) (n : Option (Option Nat)), vs = [a, b] ∧ PairR K C D H a b n ∧ (n = none → ∀ H', Same H H' → Q .non H') ∧ ∀ o, n = some o → Refuses cM "place" (plM o) H E
theorem scBoth : FnScope ["one", "other"] ["one", "other"] (defScope sBoth) := ⟨rfl, rfl, rfl, by decide +kernel, rfl, by decide +kernel, by decide +kernel⟩
theorem ok_both (F : Fun K "check_both" "check_both" sBoth f fd) (B : Bi mg) (T : Txt2 K mg C) (TG : TxtG K mg D) (insD : C8.InsC K D) (TM : OwnX K mg "NoMap" "place" cM) (hE : HasM P w K mg base C "__eq__" 1 ["self", "other"] (spLEq C)) : FnOk P w K mg base (L2N.CX P w) 3 f fd ["one", "other"] (spBothA K C D cM) := by
  obtain ⟨fE, fdE, FE, mE, bE⟩ := hE
  refine Fun_okN F scBoth (fun vs H Q E h => ?_) (fun cdv A outer s H vs Q E hr h => ?_)
  · obtain ⟨a, b, n, rfl, _⟩ := h
    rfl
  · obtain ⟨a, b, n, rfl, hp, q1, q2⟩ := h
    have tk := L2N.takes_of (X := cxOf (L2N.CX P w) P w K mg base ["one", "other"] "check_both" (defScope sBoth) f cdv A outer s H E) rfl rfl rfl rfl
    refine ⟨_, pss_cons (ps_if (pt_not (pt_val (pe_callB call_isi (by rfl) B.isi (by decide +kernel) (pa_cons (pv 0) (pa_cons (pe_glob (v := .ref D) rfl TG.mgD rfl) pa_nil))))) (pss_one (ps_raiseX rfl TM hr (L2N.takes_of rfl rfl rfl rfl) (pa_cons pe_int pa_nil))) pss_nil)
      (pss_cons (ps_if (pt_not (pt_val (pe_callB call_isi (by rfl) B.isi (by decide +kernel) (pa_cons (pv 1) (pa_cons (pe_glob (v := .ref D) rfl TG.mgD rfl) pa_nil))))) (pss_one (ps_raiseX rfl TM hr (L2N.takes_of rfl rfl rfl rfl) (pa_cons pe_int pa_nil))) pss_nil)
      (pss_one (ps_if (pt_cmpR (op_neO FE bE mE T.ne (hr.mono (by decide))) (pe_fld (pv 0) rfl) (pe_fld (pv 1) rfl) (nomark _)) (pss_one (ps_raiseX rfl TM hr (L2N.takes_of rfl rfl rfl rfl) (pa_cons pe_non pa_nil))) pss_nil))), ?_⟩
    have isG : ∀ {H' : Hp} {p : Addr} {r : GR}, GatAt C D H' p r → TyX K H' (.ref p) (.ref D) := fun h => by
      obtain ⟨dx, e⟩ := h.at_
      exact .base (.ins e insD.cl insD.ha insD.hn insD.htk insD.hm)
    match n, hp with
    | some (some 0), hp =>
      obtain ⟨t, ty, k⟩ := hp
      exact ⟨_, rfl, _, _, _, _, _, rfl, .own D, ty, k, false, rfl, iteT ⟨_, rfl, fun d hd => (q2 _ rfl).new (Same.refl H) d hd⟩⟩
    | some (some 1), hp =>
      obtain ⟨⟨p, r, rfl, hG⟩, t, ty, k⟩ := hp
      exact ⟨_, rfl, _, _, _, _, _, rfl, .own D, isG hG, insD.me, true, rfl, iteF ⟨_, rfl, _, _, _, _, _, rfl, .own D, ty, k, false, rfl, iteT ⟨_, rfl, fun d hd => (q2 _ rfl).new (Same.refl H) d hd⟩⟩⟩
    | some none, hp =>
      obtain ⟨p, r, wd, q, s', wd', rfl, rfl, hG, gd, hS, gs, e⟩ := hp
      obtain ⟨dx, hp⟩ := hG.at_
      obtain ⟨dy, hq⟩ := hS.at_
      obtain ⟨dl, d0, hl0⟩ := hG.land.ins
      obtain ⟨dm, d1, hm0⟩ := hS.land.ins
      refine ⟨_, rfl, _, _, _, _, _, rfl, .own D, isG hG, insD.me, true, rfl, iteF ⟨_, rfl, _, _, _, _, _, rfl, .own D, isG hS, insD.me, true, rfl, iteF ?_⟩⟩
      refine ⟨_, rfl, p, D, dx, _, _, rfl, hp, TG.cl, TG.nL, gf_land _ _ _, _, rfl, q, D, dy, _, _, rfl, hq, TG.cl, TG.nL, gf_land _ _ _, r.pl, dl, _, s'.pl, dm, _, rfl, rfl, hl0, hm0, r.pl, r.L, s'.pl, s'.L, r.g, s'.g, wd, wd', rfl, hG.land, gd, hS.land, gs, _, rfl, _, rfl, ?_⟩
      rw [decide_eq_false e]
      exact iteT ⟨_, rfl, fun d hd => (q2 _ rfl).new (Same.refl H) d hd⟩
    | none, hp =>
      obtain ⟨p, r, wd, q, s', wd', rfl, rfl, hG, gd, hS, gs, e⟩ := hp
      obtain ⟨dx, hp⟩ := hG.at_
      obtain ⟨dy, hq⟩ := hS.at_
      obtain ⟨dl, d0, hl0⟩ := hG.land.ins
      obtain ⟨dm, d1, hm0⟩ := hS.land.ins
      refine ⟨_, rfl, _, _, _, _, _, rfl, .own D, isG hG, insD.me, true, rfl, iteF ⟨_, rfl, _, _, _, _, _, rfl, .own D, isG hS, insD.me, true, rfl, iteF ?_⟩⟩
      refine ⟨_, rfl, p, D, dx, _, _, rfl, hp, TG.cl, TG.nL, gf_land _ _ _, _, rfl, q, D, dy, _, _, rfl, hq, TG.cl, TG.nL, gf_land _ _ _, r.pl, dl, _, s'.pl, dm, _, rfl, rfl, hl0, hm0, r.pl, r.L, s'.pl, s'.L, r.g, s'.g, wd, wd', rfl, hG.land, gd, hS.land, gs, _, rfl, _, rfl, ?_⟩
      rw [decide_eq_true e]
      exact iteF (q1 rfl H (Same.refl H))
end
end Wl


/-! A comprehension whose test makes objects. -/
namespace Wl
open PySem PySem.Spec PyProof.Rows L2
section
variable {J : It} {ys : List V} {G : Hp → Prop} {slot : Nat} {tt : TT} {te : TE} {vs : List Nat} {σ : L2.St} {H1 : Hp} {D : Addr} {Qd : Hp → Prop}
theorem lc_keepX (w : L2.Walk J ys.length G (YAt ys)) (hD : H1 D = none) (keep : V → Bool) (hG : ∀ H, Same H1 H → G H) (hw : ∀ x, wipe ((wipe σ vs).set slot (some x)) vs = wipe σ vs)
    (ht : ∀ (x : V) (H : Hp), x ∈ ys → Same H1 H → ∀ Q : Bool → Hp → Prop, (∀ H', Same H H' → Q (keep x) H') → tt ((wipe σ vs).set slot (some x)) H Q)
    (he : ∀ (x : V) (H : Hp) (Q : VK), Q x H → te ((wipe σ vs).set slot (some x)) H Q)
    (hn : ys.length < sizeLine)
    (hd : ∀ H, Same H1 H → H D = some (.lst (ys.filter keep)) → Qd H) :
    ∃ W : Nat → Nat → Hp → Prop, (∃ m, W 0 m (upd H1 D (.lst []))) ∧ ∀ i m H, W i m H →
      (J.stop i H ∧ Qd H) ∨ (J.go i H ∧ ∃ Nx : Hp → Prop, (∀ H', Nx H' → ∃ m', m' < m ∧ W (i + 1) m' H') ∧ ∀ x H', J.yld i H x H' → gName slot x (wipe σ vs) H' fun σ2 H2 => wipe σ2 vs = wipe σ vs ∧ tt σ2 H2 fun b H3 =>
        if b = true then te σ2 H3 fun y H4 => ∃ acc, H4 D = some (.lst acc) ∧ acc.length < sizeLine ∧ Nx (upd H4 D (.lst (acc ++ [y]))) else Nx H3) := by
  refine lc_it w (fun i H => Same H1 H ∧ H D = some (.lst ((ys.take i).filter keep))) ⟨same_new hD, upd_same⟩ (fun i H _ h => hG H h.1) ?_ ?_
  · rintro i x H H' hi ⟨s, hz⟩ ⟨rfl, hx⟩
    have hm : x ∈ ys := List.mem_of_getElem? hx
    refine ⟨hw x, ht x _ hm s _ fun H3 s3 => ?_⟩
    have hf := filter_take_snoc (p := keep) hx
    refine ite_b (fun e => ?_) (fun e => ?_)
    · refine he x _ _ ⟨_, s3 _ _ hz, ?_, same_mut (s.trans s3) hD, ?_⟩
      · have h2 : ((ys.take i).filter keep).length ≤ (ys.take i).length := List.length_filter_le _ _
        have h3 : (ys.take i).length ≤ ys.length := List.length_take_le' _ _
        omega
      · rw [upd_same, hf, if_pos e]
    · refine ⟨s.trans s3, ?_⟩
      rw [hf, if_neg (by rw [e]; decide), List.append_nil]
      exact s3 _ _ hz
  · rintro H ⟨s, hz⟩
    rw [List.take_length] at hz
    exact hd H s hz
end
end Wl

namespace Wl
open PySem PySem.Spec PyProof.Rows L2
/-- a test of tellings, as a test of values -/
noncomputable def keepBy (H : Hp) (pr : Tel → Bool) (x : V) : Bool := open Classical in if h : ∃ t : Tel, ∃ p, x = .ref p ∧ H p = some (.tup (telV t)) then pr h.choose else false
theorem keepBy_at {H : Hp} {pr : Tel → Bool} {p : Addr} {t : Tel} (h : H p = some (.tup (telV t))) : keepBy H pr (.ref p) = pr t := by
  unfold keepBy
  have e : ∃ t : Tel, ∃ q, V.ref p = .ref q ∧ H q = some (.tup (telV t)) := ⟨t, p, rfl, h⟩
  rw [dif_pos e]
  obtain ⟨q, e1, e2⟩ := e.choose_spec
  have e1 := V.ref.inj e1
  subst e1
  rw [h] at e2
  rw [← telV_inj (HO.tup.inj (Option.some.inj e2))]
theorem tels_filter {H H' : Hp} {pr : Tel → Bool} : ∀ {as : List Addr} {ts : List Tel}, TelsAt H as ts → TelsAt H' as ts → ∃ bs : List Addr, ((as.map V.ref).filter (keepBy H pr)).map id = bs.map V.ref ∧ TelsAt H' bs (ts.filter pr)
  | _, _, .nil, .nil => ⟨[], rfl, .nil⟩
  | _, _, .cons (a := p) (b := t) e r, .cons e' r' => by
    obtain ⟨bs, h1, h2⟩ := tels_filter (pr := pr) r r'
    rw [List.map_cons, List.filter_cons, keepBy_at e, List.filter_cons]
    by_cases c : pr t = true
    · rw [if_pos c, if_pos c]
      exact ⟨p :: bs, by rw [List.map_cons, h1]; rfl, .cons e' h2⟩
    · rw [if_neg c, if_neg c]
      exact ⟨bs, h1, h2⟩
section
variable {P : Program} {w : World} {K : PySem.W.Frag} {mg : Str → Option Value} {base : Heap} {f C D : Addr} {fd : FuncData}
/-! ### by_village -/
end
end Wl






namespace Wl
open PySem PySem.Spec PyProof.Rows L2
section
variable {P : Program} {w : World} {K : PySem.W.Frag} {mg : Str → Option Value} {base : Heap} {f C D : Addr} {fd : FuncData}
/-- [t for t in tellings if ..], the test makes objects -/
theorem pick_telsX {H1 : Hp} {a Dd : Addr} {as : List Addr} {ts : List Tel} {tt : TT} {te : TE} {slot : Nat} {vs : List Nat} {σ : L2.St} {Qd : Hp → Prop} (hl : H1 a = some (.lst (as.map V.ref))) (hT : TelsAt H1 as ts) (hD : H1 Dd = none) (pr : Tel → Bool) (hn : ts.length ≤ 200)
    (hw : ∀ x, wipe ((wipe σ vs).set slot (some x)) vs = wipe σ vs)
    (ht : ∀ (p : Addr) (t : Tel) (H : Hp), t ∈ ts → H p = some (.tup (telV t)) → Same H1 H → ∀ Q : Bool → Hp → Prop, (∀ H', Same H H' → Q (pr t) H') → tt ((wipe σ vs).set slot (some (.ref p))) H Q)
    (he : ∀ (x : V) (H : Hp) (Q : VK), Q x H → te ((wipe σ vs).set slot (some x)) H Q)
    (hd : ∀ (bs : List Addr) (H : Hp), Same H1 H → H Dd = some (.lst (bs.map V.ref)) → TelsAt H bs (ts.filter pr) → Qd H) :
    ∃ W : Nat → Nat → Hp → Prop, (∃ m, W 0 m (upd H1 Dd (.lst []))) ∧ ∀ i m H, W i m H →
      ((Itl K a).stop i H ∧ Qd H) ∨ ((Itl K a).go i H ∧ ∃ Nx : Hp → Prop, (∀ H', Nx H' → ∃ m', m' < m ∧ W (i + 1) m' H') ∧ ∀ x H', (Itl K a).yld i H x H' → gName slot x (wipe σ vs) H' fun σ2 H2 => wipe σ2 vs = wipe σ vs ∧ tt σ2 H2 fun b H3 =>
        if b = true then te σ2 H3 fun y H4 => ∃ acc, H4 Dd = some (.lst acc) ∧ acc.length < sizeLine ∧ Nx (upd H4 Dd (.lst (acc ++ [y]))) else Nx H3) := by
  have hlen := hT.length
  refine lc_keepX (walk_list (K := K) (a := a) (xs := as.map V.ref)) hD (keepBy H1 pr) (fun H' s' => .inl (.inl (s' _ _ hl))) hw ?_ he ?_ ?_
  · intro x H' hx s' Q' q'
    obtain ⟨p, hp, rfl⟩ := List.mem_map.mp hx
    obtain ⟨i, hi, ei⟩ := List.mem_iff_getElem.mp hp
    obtain ⟨t, htm, hH⟩ := Each.get hT (i := i) (a := p) (by rw [List.getElem?_eq_getElem hi, ei])
    rw [keepBy_at hH] at q'
    exact ht p t H' (List.mem_of_getElem? htm) (s' _ _ hH) s' Q' q'
  · rw [List.length_map]
    exact small1000 (by omega)
  · intro H2 s2 hD2
    obtain ⟨bs, e1, e2⟩ := tels_filter (pr := pr) hT (hT.keep (tk_same s2))
    rw [List.map_id] at e1
    rw [e1] at hD2
    exact hd bs H2 s2 hD2 e2
/-! ### tellings_of_two -/
/-! ### how_otherwise -/
/-! ### age_cut -/
end
end Wl



/-! {k: v for x in it if ..} with keys that are tuples of texts and numbers. -/
namespace Wl
open PySem PySem.Spec PyProof.Rows L2
theorem t_dictSet {X : Cx} {pins : List (Addr × Obj)} {σ : L2.St} {H : Hp} {s : Shared} {E : Value → Shared → Prop} {D b : Addr} {kvs : List (List Key × V)} {k : List Key} {v : V} {r : Value} {Q : Unit → Shared → Prop} (hu : X.A.units < cLine) (I : Inv X pins σ H s) (hD : H D = some (.dT kvs)) (hz : kvs.length < sizeLine)
    (hb : H b = some (.tup (k.map kV))) (rv : RelV v r) (h : ∀ s', Inv X pins σ (upd H D (.dT (putK kvs k v))) s' → Q () s') : wpAny (model X.prog X.w) X.A (dictSet D (.ref b) r) Q E s := by
  obtain ⟨z, hd, xs, rel, dd⟩ := dt_of I.hok hD
  have zx : xs.length ≤ sizeLine := by rw [← Paired.length rel]; exact z
  have zl : (putK kvs k v).length ≤ sizeLine := by have := length_putK kvs k v; omega
  refine wpAny_dictSet_heap (hsz := zx) hu (key_of I.hok hb) dd fun h' dd' hs => h _ ?_
  obtain ⟨o, es, ep, ho, h2, h3, h4, _, h5⟩ := dd'
  refine d_write I (by rw [hD]; exact True.intro) hs ⟨o, ho⟩ ⟨zl, hd, _, (rel.put k hb rv).keeps fun c ys ec => ?_, o, es, ep, ho, h2, h3, h4, h5⟩
  rw [upd_ne (ne_of ec hD (fun z => nomatch z))]
  exact ec
/-- what it asks: D the new dict -/
def tDcT (wi : TI) (g : TG) (tt : TT) (tk tv : TE) (vs : List Nat) : TE := fun σ H Q => wi σ H fun J H1 => ∀ D, H1 D = none → ∃ W : Nat → Nat → Hp → Prop, (∃ m, W 0 m (upd H1 D (.dT []))) ∧ ∀ i m H, W i m H →
  (J.stop i H ∧ Q (.ref D) H) ∨ (J.go i H ∧ ∃ Nx : Hp → Prop, (∀ H', Nx H' → ∃ m', m' < m ∧ W (i + 1) m' H') ∧ ∀ x H', J.yld i H x H' → g x (wipe σ vs) H' fun σ2 H2 => wipe σ2 vs = wipe σ vs ∧ tt σ2 H2 fun b H3 =>
    if b = true then tk σ2 H3 fun y H4 => tv σ2 H4 fun z H5 => ∃ kvs k b, y = .ref b ∧ H5 b = some (.tup (k.map kV)) ∧ H5 D = some (.dT kvs) ∧ kvs.length < sizeLine ∧ Nx (upd H5 D (.dT (putK kvs k z))) else Nx H3)
section
variable {X : Cx}
theorem dcT_core {pins : List (Addr × Obj)} {s : Shared} {σ : L2.St} {H : Hp} {Q : VK} {kx vx tg iter : Expr} {ifs : List Expr} {scope : Scope} {own : List (Str × Nat)} {pos pos' : Pos} {wi : TI} {g : TG} {tt : TT} {tk tv : TE} {use : Option (Value → Sem Unit)} {Qf : Value → Shared → Prop}
    (hc : X.calm = true) (hu : X.A.units < cLine) (hN : X.N.Nodup) (I : Inv X pins σ H s) (hi : PI X tg iter wi) (ok : BlkOk X.N X.env.scope scope own)
    (hg : ∀ (s : Shared) (H : Hp) (C : Addr) (cl : List (Str × Addr)) (fp : List Addr), PG (X.blk s H scope (compEnvC scope cl C X.env) fp) tg g)
    (ht : ∀ (s : Shared) (H : Hp) (C : Addr) (cl : List (Str × Addr)) (fp : List Addr), PTs (X.blk s H scope (compEnvC scope cl C X.env) fp) ifs tt)
    (hk : ∀ (s : Shared) (H : Hp) (C : Addr) (cl : List (Str × Addr)) (fp : List Addr), PE (X.blk s H scope (compEnvC scope cl C X.env) fp) kx tk)
    (he : ∀ (s : Shared) (H : Hp) (C : Addr) (cl : List (Str × Addr)) (fp : List Addr), PE (X.blk s H scope (compEnvC scope cl C X.env) fp) vx tv) (hs : ∀ x, foldedSetIterable iter X.env x = pure x) (h : tDcT wi g tt tk tv (own.map (·.2)) σ H Q)
    (hEnd : ∀ L C s' m H', Inv X pins σ H' s' → Q (.ref L) H' → s'.heap.Ns C m → FpOk X pins H' C → compPost (model X.prog X.w) X.A X.xe use Qf (.ref L) C (.ok .next) s') :
    wpAny (model X.prog X.w) X.A (comprehension (.DictComp kx vx [⟨tg, iter, ifs, 0⟩] scope pos) scope X.env pos' newDict false (eval iter X.env) use) Qf X.xe s := by
  refine wpAny_comprehension_free (use := use) rfl hs (closure_ok fun y hy e => ?_) ok.kind (fun y hy e => by rw [ok.uniq y hy, e]) (thn (hi.run pins s σ H _ I h) fun xv sA hx => thn hx fun itv sB hB => ?_)
  · exact (ok.free y hy e).elim (fun k => I.ok.has _ (.inl k)) (fun k => I.ok.has _ (.inr k))
  obtain ⟨it, fp, tn, J, HB, ei, IB, T, stB, fB, q⟩ := hB
  subst ei
  refine wpAny_newObj_type (newEnv_comp ?_)
  generalize hL : sB.heap.objs.size = L
  have hLn : HB L = none := IB.hok.fresh (Nat.le_of_eq hL)
  obtain ⟨W, ⟨m0, w0⟩, turn⟩ := q L hLn
  generalize hsC : ({ sB with heap := sB.heap.push { cls := .type "dict", data := .dict #[] } } : Shared) = sC
  have IC : Inv X pins σ (upd HB L (.dT [])) sC := by
    subst hsC
    refine IB.laid (t' := sB.toks) (fun b o e => Heap.get?_push_of_some _ e) (Nat.le_of_eq hL) ?_
    subst hL
    exact dt_empty sB.heap IB.big
  have eC : sC.heap = sB.heap.push { cls := .type "dict", data := .dict #[] } := by rw [← hsC]
  have fC : ∀ b ∈ fp, FpOk X pins (upd HB L (.dT [])) b ∧ b < sC.heap.objs.size := by
    intro b hb
    obtain ⟨o, e, _⟩ := T.obj _ _ stB b hb
    have hlt : b < sB.heap.objs.size := Heap.lt_size e
    refine ⟨⟨?_, (fB b hb).2⟩, by rw [eC, Heap.size_push]; exact Nat.lt_succ_of_lt hlt⟩
    rw [upd_ne (by rw [← hL]; exact Nat.ne_of_lt hlt)]
    exact (fB b hb).1
  have stC : tn 0 sC.heap := T.keep _ _ _ stB fun b _ o e => by rw [eC]; exact Heap.get?_push_of_some _ e
  have ID := block_start IC ok hN fC
  have pg := hg sC (upd HB L (.dT [])) sC.heap.objs.size (cellsFrom (sC.heap.objs.size + 1) scope.names (cloFrom X.env.cells scope.names [])) fp
  have pt := ht sC (upd HB L (.dT [])) sC.heap.objs.size (cellsFrom (sC.heap.objs.size + 1) scope.names (cloFrom X.env.cells scope.names [])) fp
  have pk := hk sC (upd HB L (.dT [])) sC.heap.objs.size (cellsFrom (sC.heap.objs.size + 1) scope.names (cloFrom X.env.cells scope.names [])) fp
  have pe := he sC (upd HB L (.dT [])) sC.heap.objs.size (cellsFrom (sC.heap.objs.size + 1) scope.names (cloFrom X.env.cells scope.names [])) fp
  show codeAny _ _ (.compStart (.DictComp kx vx [⟨tg, iter, ifs, 0⟩] scope pos) 0 (.ref it) (.ref L) (compEnvC scope (cellsFrom (sC.heap.objs.size + 1) scope.names (cloFrom X.env.cells scope.names [])) sC.heap.objs.size X.env)) (compPost (model X.prog X.w) X.A X.xe use Qf (.ref L) sC.heap.objs.size) { sC with heap := pushCells (sC.heap.push { cls := .type "dict", data := .dict #[] }) scope.names }
  have nfp : ∀ b ∈ fp, (upd HB L (.dT [])) b = none := fun b hb => (fC b hb).1.1
  generalize hce : compEnvC scope (cellsFrom (sC.heap.objs.size + 1) scope.names (cloFrom X.env.cells scope.names [])) sC.heap.objs.size X.env = ce at ID pg pt pk pe ⊢
  have cL : ce.locals = sC.heap.objs.size := by subst hce; rfl
  generalize hHC : upd HB L (.dT []) = HC at IC ID pg pt pk pe w0 nfp fC
  generalize hsD : ({ sC with heap := pushCells (sC.heap.push { cls := .type "dict", data := .dict #[] }) scope.names } : Shared) = sD at ID ⊢
  have stD : tn 0 sD.heap := T.keep _ _ _ stC fun b _ o e => by rw [← hsD]; exact pushCells_keeps _ _ _ _ (Heap.get?_push_of_some _ e)
  have stat : ∀ {σ' : L2.St} {H' : Hp} {s' : Shared}, Inv (X.blk sC HC scope ce fp) [] σ' H' s' → (∀ b ∈ fp, H' b = none) → ∀ b ∈ fp, FpOk (X.blk sC HC scope ce fp) [] H' b := by
    intro σ' H' s' I' hn b hb
    exact ⟨hn b hb, (I'.ok.exf b hb).1, I'.ok.exfs b hb, .inl hb, fun x c e => (I'.ok.exf b hb).2 x c e, fun p hp => absurd (show p ∈ ([] : List (Addr × Obj)) ++ [] from hp) (by simp)⟩
  have loop : codeAny (model X.prog X.w) X.A (.compLoop (.DictComp kx vx [⟨tg, iter, ifs, 0⟩] scope pos) 0 (.ref it) (.ref L) ce) (compPost (model X.prog X.w) X.A X.xe use Qf (.ref L) sC.heap.objs.size) sD := by
    refine compLoop_anyD (fun n s' => ∃ i H', Inv (X.blk sC HC scope ce fp) [] (wipe σ (own.map (·.2))) H' s' ∧ tn i s'.heap ∧ (∀ b ∈ fp, H' b = none) ∧ W i n H') ?_ m0 ⟨0, HC, ID, stD, nfp, w0⟩
    rintro n sE ⟨i, HE, IE, stE, nE, wE⟩
    rcases turn i n HE wE with ⟨stop, qq⟩ | ⟨go, Nx, hNx, step⟩
    · have td := T.done (X.blk sC HC scope ce fp) rfl rfl rfl hc i [] sE _ HE (fun _ _ => False) IE (stat IE nE) stE stop
      refine thnF td fun r sF ⟨hr, IF⟩ => ?_
      subst hr
      have IG : Inv X pins σ HE sF := IC.call' (ch := fp) IF.os IF.base IF.hok IF.bare fun b hb => ⟨(fC b hb).1.2.2.2.1, (fC b hb).1.2.1, (fC b hb).1.2.2.2.2.1, (fC b hb).1.2.2.2.2.2⟩
      have nC : HE sC.heap.objs.size = none := by
        have z : HE ce.locals = none := IF.free
        rw [cL] at z
        exact z
      obtain ⟨m, hn, _⟩ := IF.loc
      have hn : sF.heap.Ns ce.locals m := hn
      rw [cL] at hn
      exact hEnd L sC.heap.objs.size sF m HE IG qq hn (IC.fpOk (Nat.le_refl _) nC)
    · have ti := T.item (X.blk sC HC scope ce fp) rfl rfl rfl hc i [] sE _ HE (fun _ _ => False) IE (stat IE nE) stE go
      refine thnF ti fun r sF ⟨u, hr, hF⟩ => ?_
      subst hr
      refine thnF hF fun _ sG ⟨x, HG, IG, rG, yG, stG, nG⟩ => ?_
      have IG' := IG.pinned (stat IG nG) (T.obj _ _ stG)
      refine thnF (pg.run _ sG _ HG x u _ IG' rG (step x HG yG)) fun _ sK ⟨σK, HK, IK, hwK, qK⟩ => ?_
      refine thnF (pt.run _ sK σK HK _ IK qK) fun b sM ⟨HM, IM, qM⟩ => ?_
      have fin : ∀ {s' : Shared} {H' : Hp}, Inv (X.blk sC HC scope ce fp) ([] ++ pinsAt fp sG.heap) σK H' s' → Nx H' → ∃ m, m < n ∧ ∃ i H', Inv (X.blk sC HC scope ce fp) [] (wipe σ (own.map (·.2))) H' s' ∧ tn i s'.heap ∧ (∀ b ∈ fp, H' b = none) ∧ W i m H' := by
        intro s' H' I' nx
        obtain ⟨m', hm, w'⟩ := hNx H' nx
        have pin' : ∀ b ∈ fp, ∀ o, sG.heap.get? b = some o → s'.heap.get? b = some o ∧ H' b = none := fun b hb o e =>
          have z := I'.pin (b, o) (List.mem_append_right _ (List.mem_append_right _ (mem_pinsAt hb e)))
          ⟨z.1, z.2.1⟩
        have hl : (wipe σ (own.map (·.2))).length = σK.length := by rw [← hwK, wipe_length]
        refine ⟨m', hm, i + 1, H', (I'.unpinned (pins := [])).weak hl (fun j v e => ?_), T.keep _ _ _ stG fun b hb o e => (pin' b hb o e).1, fun b hb => ?_, w'⟩
        · rw [← hwK] at e
          exact (wipe_some e).1
        · obtain ⟨o, e, _⟩ := T.obj _ _ stG b hb
          exact (pin' b hb o e).2
      cases b with
      | false =>
        simp only [Bool.false_eq_true, if_false] at qM ⊢
        exact fin IM qM
      | true =>
        simp only [if_true] at qM ⊢
        refine thnF (pk.run _ sM σK HM _ IM qM) fun zk sN ⟨yk, HN1, IN1, rN, qN⟩ => ?_
        refine thnF (pe.run _ sN σK HN1 _ IN1 qN) fun z sO ⟨yv, HO1, IO, rO, kvs, k, bk, ek, hbk, hDO, hzO, nx⟩ => ?_
        subst ek
        obtain rfl : zk = Value.ref bk := rN
        exact t_dictSet (X := X.blk sC HC scope ce fp) hu IO hDO hzO hbk rO fun sP IP => fin IP nx
  exact codeAny_compStart_dict loop (T.self X.A 0 _ _ _ stD loop)
theorem pe_dcT {kx vx tg iter : Expr} {ifs : List Expr} {scope : Scope} {own : List (Str × Nat)} {pos : Pos} {wi : TI} {g : TG} {tt : TT} {tk tv : TE} (hc : X.calm = true) (hu : X.A.units < cLine) (hN : X.N.Nodup) (hi : PI X tg iter wi) (ok : BlkOk X.N X.env.scope scope own)
    (hg : ∀ (s : Shared) (H : Hp) (C : Addr) (cl : List (Str × Addr)) (fp : List Addr), PG (X.blk s H scope (compEnvC scope cl C X.env) fp) tg g)
    (ht : ∀ (s : Shared) (H : Hp) (C : Addr) (cl : List (Str × Addr)) (fp : List Addr), PTs (X.blk s H scope (compEnvC scope cl C X.env) fp) ifs tt)
    (hk : ∀ (s : Shared) (H : Hp) (C : Addr) (cl : List (Str × Addr)) (fp : List Addr), PE (X.blk s H scope (compEnvC scope cl C X.env) fp) kx tk)
    (he : ∀ (s : Shared) (H : Hp) (C : Addr) (cl : List (Str × Addr)) (fp : List Addr), PE (X.blk s H scope (compEnvC scope cl C X.env) fp) vx tv) (hs : ∀ x, foldedSetIterable iter X.env x = pure x := by intro _; rfl) :
    PE X (.DictComp kx vx [⟨tg, iter, ifs, 0⟩] scope pos) (tDcT wi g tt tk tv (own.map (·.2))) := by
  refine ⟨fun pins s σ H Q I h => ?_⟩
  rw [arm_eval_DictComp]
  refine dcT_core hc hu hN I hi ok hg ht hk he hs h fun L C s' m H' I' q hn f => ⟨m, hn, fun h'' sb => ?_⟩
  obtain ⟨u0, u1, u2, u3, u4, u5⟩ := f
  exact ⟨.ref L, H', I'.turned (t' := s'.toks) (fun b o hb e => (sb.2 b hb).trans e) u0 u1 u3 u4 u5, rfl, q⟩
end
/-- over any walk -/
theorem dcT_it {J : It} {n : Nat} {G : Hp → Prop} {Y : Nat → Hp → V → Hp → Prop} {g : TG} {tt : TT} {tk tv : TE} {vs : List Nat} {σ : L2.St} {H1 : Hp} {D : Addr} {Qd : Hp → Prop} (w : L2.Walk J n G Y) (Pv : Nat → Hp → Prop) (h0 : Pv 0 (upd H1 D (.dT []))) (hG : ∀ i H, i ≤ n → Pv i H → G H)
    (hs : ∀ i x H H', i < n → Pv i H → Y i H x H' → g x (wipe σ vs) H' fun σ2 H2 => wipe σ2 vs = wipe σ vs ∧ tt σ2 H2 fun b H3 =>
      if b = true then tk σ2 H3 fun y H4 => tv σ2 H4 fun z H5 => ∃ kvs k b, y = .ref b ∧ H5 b = some (.tup (k.map kV)) ∧ H5 D = some (.dT kvs) ∧ kvs.length < sizeLine ∧ Pv (i + 1) (upd H5 D (.dT (putK kvs k z))) else Pv (i + 1) H3) (hd : ∀ H, Pv n H → Qd H) :
    ∃ W : Nat → Nat → Hp → Prop, (∃ m, W 0 m (upd H1 D (.dT []))) ∧ ∀ i m H, W i m H →
      (J.stop i H ∧ Qd H) ∨ (J.go i H ∧ ∃ Nx : Hp → Prop, (∀ H', Nx H' → ∃ m', m' < m ∧ W (i + 1) m' H') ∧ ∀ x H', J.yld i H x H' → g x (wipe σ vs) H' fun σ2 H2 => wipe σ2 vs = wipe σ vs ∧ tt σ2 H2 fun b H3 =>
        if b = true then tk σ2 H3 fun y H4 => tv σ2 H4 fun z H5 => ∃ kvs k b, y = .ref b ∧ H5 b = some (.tup (k.map kV)) ∧ H5 D = some (.dT kvs) ∧ kvs.length < sizeLine ∧ Nx (upd H5 D (.dT (putK kvs k z))) else Nx H3) := by
  refine ⟨fun i m H => m = n - i ∧ i ≤ n ∧ Pv i H, ⟨n, by simp, Nat.zero_le _, h0⟩, ?_⟩
  rintro i m H ⟨rfl, hi, p⟩
  have q := hG i H hi p
  by_cases hlt : i < n
  · exact .inr ⟨w.goes i H hlt q, Pv (i + 1), fun H' p' => ⟨n - (i + 1), by omega, rfl, hlt, p'⟩, fun x H' y => hs i x H H' hlt p (w.yields i H x H' hlt q y)⟩
  · obtain rfl : i = n := by omega
    exact .inl ⟨w.stops H q, hd H p⟩
end Wl

/-! sorted(a list of things told by data), and when two such lists are sorted alike -/
namespace Wl
open PySem PySem.Spec PyProof.Rows L2
theorem each_pairs {α β : Type} {R : α → β → Prop} : ∀ {as : List α} {bs : List β}, Each R as bs → ∃ zs : List (α × β), zs.map (·.1) = as ∧ zs.map (·.2) = bs ∧ ∀ z ∈ zs, R z.1 z.2
  | _, _, .nil => ⟨[], rfl, rfl, fun z h => by cases h⟩
  | _, _, .cons (a := a) (b := b) r t => by
    obtain ⟨zs, h1, h2, h3⟩ := each_pairs t
    refine ⟨(a, b) :: zs, by rw [List.map_cons, h1], by rw [List.map_cons, h2], fun z hz => ?_⟩
    rcases List.mem_cons.mp hz with rfl | hz
    · exact r
    · exact h3 z hz
theorem pairs_each {α β : Type} {R : α → β → Prop} : ∀ (zs : List (α × β)), (∀ z ∈ zs, R z.1 z.2) → Each R (zs.map (·.1)) (zs.map (·.2))
  | [], _ => .nil
  | z :: zs, h => .cons (h z List.mem_cons_self) (pairs_each zs fun y hy => h y (List.mem_cons_of_mem _ hy))
def sortE {β : Type} (enc : β → PyData) (bs : List β) : List β := bs.mergeSort (PySem.W.dataLe false enc)
section
variable {β : Type} {enc : β → PyData}
theorem sortE_ind {enc : β → PyData} (bs : List β) : (sortE enc bs).Perm bs := List.mergeSort_perm _ _
theorem le_enc (a b : β) : PySem.W.dataLe false enc a b = !PyProof.Rows.lexLt PyProof.Rows.itemOrd (PySem.W.keyToks (enc b)) (PySem.W.keyToks (enc a)) := by
  rw [PySem.W.dataLe_eq]
  rfl
theorem le_tr (a b c : β) (h1 : PySem.W.dataLe false enc a b = true) (h2 : PySem.W.dataLe false enc b c = true) : PySem.W.dataLe false enc a c = true := by
  rw [le_enc, Bool.not_eq_true'] at h1 h2 ⊢
  cases e : PyProof.Rows.lexLt PyProof.Rows.itemOrd (PySem.W.keyToks (enc c)) (PySem.W.keyToks (enc a)) with
  | false => rfl
  | true =>
    rcases PyProof.Rows.lex_negTrans _ (PySem.W.keyToks (enc b)) _ e with z | z
    · rw [h2] at z
      cases z
    · rw [h1] at z
      cases z
theorem le_tot (a b : β) : (PySem.W.dataLe false enc a b || PySem.W.dataLe false enc b a) = true := by
  rw [le_enc, le_enc]
  cases e : PyProof.Rows.lexLt PyProof.Rows.itemOrd (PySem.W.keyToks (enc b)) (PySem.W.keyToks (enc a)) with
  | false => rfl
  | true =>
    cases e2 : PyProof.Rows.lexLt PyProof.Rows.itemOrd (PySem.W.keyToks (enc a)) (PySem.W.keyToks (enc b)) with
    | false => rfl
    | true =>
      have := PyProof.Rows.lex_trans _ _ _ e e2
      rw [PyProof.Rows.lex_irrefl] at this
      cases this
theorem le_anti (inj : ∀ a b : β, PySem.W.keyToks (enc a) = PySem.W.keyToks (enc b) → a = b) (a b : β) (h1 : PySem.W.dataLe false enc a b = true) (h2 : PySem.W.dataLe false enc b a = true) : a = b := by
  rw [le_enc, Bool.not_eq_true'] at h1 h2
  exact inj a b (PyProof.Rows.lex_total _ _ h2 h1)
theorem sorted_same {le : β → β → Bool} (anti : ∀ a b : β, le a b = true → le b a = true → a = b) : ∀ {l m : List β}, l.Pairwise (fun a b => le a b = true) → m.Pairwise (fun a b => le a b = true) → l.Perm m → l = m
  | [], m, _, _, p => p.nil_eq
  | a :: l, [], _, _, p => absurd p.symm.nil_eq (by simp)
  | a :: l, b :: m, h1, h2, p => by
    have e : a = b := by
      have ha : a ∈ b :: m := p.mem_iff.mp List.mem_cons_self
      have hb : b ∈ a :: l := p.mem_iff.mpr List.mem_cons_self
      rcases List.mem_cons.mp ha with e | ha
      · exact e
      · rcases List.mem_cons.mp hb with e | hb
        · exact e.symm
        · exact anti a b ((List.pairwise_cons.mp h1).1 b hb) ((List.pairwise_cons.mp h2).1 a ha)
    subst e
    rw [sorted_same anti (List.pairwise_cons.mp h1).2 (List.pairwise_cons.mp h2).2 (List.Perm.cons_inv p)]
theorem sortE_perm (inj : ∀ a b : β, PySem.W.keyToks (enc a) = PySem.W.keyToks (enc b) → a = b) {l m : List β} : sortE enc l = sortE enc m ↔ l.Perm m := by
  refine ⟨fun e => ?_, fun p => ?_⟩
  · have h1 := sortE_ind (enc := enc) l
    have h2 := sortE_ind (enc := enc) m
    rw [e] at h1
    exact h1.symm.trans h2
  · refine sorted_same (le := PySem.W.dataLe false enc) (le_anti inj) (List.pairwise_mergeSort le_tr le_tot l) (List.pairwise_mergeSort le_tr le_tot m) ?_
    exact (sortE_ind l).trans (p.trans (sortE_ind m).symm)
/-- sorted(xs) -/
theorem sort_enc {K : PySem.W.Frag} {H : Hp} {Q : VK} {a : Addr} {xs : List V} {bs : List β} (h : SqL K H a xs) (hd : Each (fun x b => Dp K H x (enc b)) xs bs) (al : ∀ b b' : β, PySem.W.alike (enc b) (enc b') = true) (sb : ∀ b, ∃ x r, enc b = .tuple (x :: r)) (dep : ∀ b, (enc b).depth ≤ 8)
    (q : ∀ p ys, H p = none → (∀ R : V → β → Prop, Each R xs bs → Each R ys (sortE enc bs)) → Q (.ref p) (upd H p (.lst ys))) : rSortD K [.ref a] H Q := by
  obtain ⟨zs, e1, e2, hz⟩ := each_pairs hd
  refine ⟨a, zs.map fun z => (z.1, enc z.2), rfl, ?_, ?_, ?_, ?_, ?_, fun p hp => ?_⟩
  · rw [List.map_map]
    exact e1 ▸ h
  · intro b hb
    obtain ⟨z, hzm, rfl⟩ := List.mem_map.mp hb
    exact hz z hzm
  · intro d hd e he
    obtain ⟨b, hb, rfl⟩ := List.mem_map.mp hd
    obtain ⟨x, _, rfl⟩ := List.mem_map.mp hb
    obtain ⟨c, hc, rfl⟩ := List.mem_map.mp he
    obtain ⟨y, _, rfl⟩ := List.mem_map.mp hc
    exact al _ _
  · refine .inl fun d hd => ?_
    obtain ⟨b, hb, rfl⟩ := List.mem_map.mp hd
    obtain ⟨x, _, rfl⟩ := List.mem_map.mp hb
    exact sb _
  · intro b hb
    obtain ⟨x, _, rfl⟩ := List.mem_map.mp hb
    exact dep _
  · have m1 : (zs.mergeSort fun x y => PySem.W.dataLe false enc x.2 y.2).map (fun z => (z.1, enc z.2)) = (zs.map fun z => (z.1, enc z.2)).mergeSort (PySem.W.dataLe false (·.2)) := List.map_mergeSort fun x _ y _ => by
      rw [PySem.W.dataLe_eq, PySem.W.dataLe_eq]
    have m2 : (zs.mergeSort fun x y => PySem.W.dataLe false enc x.2 y.2).map (·.2) = (zs.map (·.2)).mergeSort (PySem.W.dataLe false enc) := List.map_mergeSort fun x _ y _ => rfl
    rw [← m1, List.map_map]
    refine q p _ hp fun R hR => ?_
    have hall : ∀ z ∈ zs, R z.1 z.2 := by
      have : ∀ (zs : List (V × β)), Each R (zs.map (·.1)) (zs.map (·.2)) → ∀ z ∈ zs, R z.1 z.2 := by
        intro zs
        induction zs with
        | nil => intro _ z hz; cases hz
        | cons y ys ih =>
          intro h z hz
          cases h with
          | cons r t =>
            rcases List.mem_cons.mp hz with rfl | hz
            · exact r
            · exact ih t z hz
      rw [← e1, ← e2] at hR
      exact this zs hR
    have e3 := pairs_each (R := R) (zs.mergeSort fun x y => PySem.W.dataLe false enc x.2 y.2) fun z hzm => hall z (List.mem_mergeSort.mp hzm)
    rw [m2, e2] at e3
    exact e3
end
end Wl

/-! clashes. -/
namespace Wl
open PySem PySem.Spec PyProof.Rows L2
abbrev sClash : Stmt := topS 44
/-- a KEY -/
abbrev Ky := Str × Str × Str × Str
def kyOf (t : Tel) : Ky := (t.v, t.tl, t.th, t.g)
def kyV (k : Ky) : List V := [.str k.1, .str k.2.1, .str k.2.2.1, .str k.2.2.2]
def kyD (k : Ky) : PyData := .tuple [.str k.1, .str k.2.1, .str k.2.2.1, .str k.2.2.2]
def kyK (k : Ky) : List Key := [.inr k.1, .inr k.2.1, .inr k.2.2.1, .inr k.2.2.2]
theorem ky_keyS (t u : Tel) : kyOf t = kyOf u ↔ keyS t = keyS u := by
  simp [kyOf, keyS]
theorem kyK_inj {a b : Ky} (h : kyK a = kyK b) : a = b := by
  obtain ⟨a1, a2, a3, a4⟩ := a
  obtain ⟨b1, b2, b3, b4⟩ := b
  simp only [kyK, List.cons.injEq, Sum.inr.injEq, and_true] at h
  obtain ⟨h1, h2, h3, h4⟩ := h
  subst h1 h2 h3 h4
  rfl
theorem ky_inj (a b : Ky) (h : PySem.W.keyToks (kyD a) = PySem.W.keyToks (kyD b)) : a = b := by
  obtain ⟨a1, a2, a3, a4⟩ := a
  obtain ⟨b1, b2, b3, b4⟩ := b
  simp only [kyD, PySem.W.keyToks, PySem.W.keyToksAll, List.cons_append, List.nil_append, List.cons.injEq, Sum.inl.injEq, Sum.inr.injEq, true_and, and_true] at h
  obtain ⟨h1, h2, h3, h4⟩ := h
  have s1 := str_ext h1
  have s2 := str_ext h2
  have s3 := str_ext h3
  have s4 := str_ext h4
  subst s1 s2 s3 s4
  rfl
theorem ky_alike (t u : Ky) : PySem.W.alike (kyD t) (kyD u) = true := rfl
theorem ky_depth (t : Ky) : (kyD t).depth ≤ 8 := by simp [kyD, PyData.depth, PyData.depthAll]
def KysAt (H : Hp) (as : List Addr) (ks : List Ky) : Prop := Each (fun (p : Addr) (k : Ky) => H p = some (.tup (kyV k))) as ks
theorem KysAt.same {H H' : Hp} {as : List Addr} {ks : List Ky} (h : KysAt H as ks) (s : Same H H') : KysAt H' as ks := Each.mono (fun p k e => s _ _ e) h
/-- the tellings of the second that clash with the first -/
def clashT (ts us : List Tel) : List Tel := us.filter fun u => ts.any fun t => decide (kyOf t = kyOf u) && decide (t ≠ u)
noncomputable def clashK (ts us : List Tel) : List Ky := sortE kyD ((clashT ts us).map kyOf)
/-- what the dict by KEYs holds -/
def ByKy (H : Hp) (as : List Addr) (ts : List Tel) (kvs : List (List Key × V)) : Prop := ∀ (k : Ky) (v : V), valV kvs (kyK k) = some v ↔ ∃ (j : Nat) (t : Tel) (a : Addr), ts[j]? = some t ∧ as[j]? = some a ∧ kyOf t = k ∧ v = .ref a
theorem kys_of {H : Hp} : ∀ {zs : List V} {ks : List Ky}, Each (fun (x : V) (k : Ky) => ∃ q, x = V.ref q ∧ H q = some (.tup (kyV k))) zs ks → ∃ qs : List Addr, zs = qs.map V.ref ∧ KysAt H qs ks
  | [], [], _ => ⟨[], rfl, .nil⟩
  | [], _ :: _, h => nomatch h
  | _ :: _, [], h => nomatch h
  | z :: zs, k :: ks, .cons e r => by
    obtain ⟨q, rfl, h⟩ := e
    obtain ⟨qs, rfl, h2⟩ := kys_of r
    exact ⟨q :: qs, rfl, .cons h h2⟩
theorem kys_each {H : Hp} : ∀ {qs : List Addr} {ks : List Ky}, KysAt H qs ks → Each (fun (x : V) (k : Ky) => ∃ q, x = V.ref q ∧ H q = some (.tup (kyV k))) (qs.map V.ref) ks
  | _, _, .nil => .nil
  | _, _, .cons e r => .cons ⟨_, rfl, e⟩ (kys_each r)
theorem told_kys {H7 H8 : Hp} : ∀ {bs : List Addr} {us : List Tel} {zs : List V}, TelsAt H7 bs us → Each (fun (x y : V) => ∃ q, y = V.ref q ∧ ∀ (pt : Addr) (t : Tel), x = .ref pt → H7 pt = some (.tup (telV t)) → H8 q = some (.tup (kyV (kyOf t)))) (bs.map V.ref) zs → ∃ qs : List Addr, zs = qs.map V.ref ∧ KysAt H8 qs (us.map kyOf)
  | [], [], [], _, _ => ⟨[], rfl, .nil⟩
  | [], [], _ :: _, _, h => nomatch h
  | [], _ :: _, _, h, _ => nomatch h
  | _ :: _, [], _, h, _ => nomatch h
  | _ :: _, _ :: _, [], _, h => nomatch h
  | b :: bs, u :: us, z :: zs, .cons e t, .cons e' t' => by
    obtain ⟨q, rfl, h⟩ := e'
    obtain ⟨qs, rfl, h2⟩ := told_kys t t'
    exact ⟨q :: qs, rfl, .cons (h b u rfl e) h2⟩
theorem key_at {ts : List Tel} (nd : (ts.map keyS).Nodup) {i j : Nat} {t u : Tel} (hi : ts[i]? = some t) (hj : ts[j]? = some u) (e : kyOf t = kyOf u) : i = j := by
  have li : i < (ts.map keyS).length := by rw [List.length_map]; exact (List.getElem?_eq_some_iff.mp hi).1
  refine (List.getElem?_inj li nd).mp ?_
  rw [List.getElem?_map, List.getElem?_map, hi, hj]
  exact congrArg some ((ky_keyS t u).mp e)
theorem clash_one {ts : List Tel} (nd : (ts.map keyS).Nodup) {i : Nat} {t u : Tel} (hi : ts[i]? = some t) (e : kyOf t = kyOf u) : (ts.any fun t => decide (kyOf t = kyOf u) && decide (t ≠ u)) = decide (t ≠ u) := by
  rw [Bool.eq_iff_iff, List.any_eq_true]
  constructor
  · rintro ⟨t', hm, h⟩
    rw [Bool.and_eq_true, decide_eq_true_eq] at h
    obtain ⟨j, hj⟩ := List.mem_iff_getElem?.mp hm
    have := key_at nd hi hj (e.trans h.1.symm)
    subst this
    rw [hi] at hj
    rw [Option.some.inj hj]
    exact h.2
  · intro h
    refine ⟨t, List.mem_of_getElem? hi, ?_⟩
    rw [Bool.and_eq_true, decide_eq_true_eq]
    exact ⟨e, h⟩
theorem clash_none {ts : List Tel} {u : Tel} (h : ∀ t ∈ ts, kyOf t ≠ kyOf u) : (ts.any fun t => decide (kyOf t = kyOf u) && decide (t ≠ u)) = false := by
  rw [Bool.eq_false_iff]
  intro e
  obtain ⟨t, hm, h2⟩ := List.any_eq_true.mp e
  rw [Bool.and_eq_true, decide_eq_true_eq] at h2
  exact h t hm h2.1
section
variable {P : Program} {w : World} {K : PySem.W.Frag} {mg : Str → Option Value} {base : Heap} {f C D cM : Addr} {fd : FuncData}
/-- two Gatherings of alike Lands, as the law makes them -/
structure TwoAt (C D : Addr) (H : Hp) (p q : Addr) (r s : GR) (wd : Nat) : Prop where
  g1 : GatAt C D H p r
  g2 : GatAt C D H q s
  gd : Good r.g wd
  eg : r.g = s.g
  ok1 : ∀ t ∈ r.ts, OkT t
  ok2 : ∀ t ∈ s.ts, OkT t
  l1 : r.ts.length ≤ 200
  l2 : s.ts.length ≤ 200
  n1 : (r.ts.map keyS).Nodup
  n2 : (s.ts.map keyS).Nodup
theorem TwoAt.same {H H' : Hp} {p q : Addr} {r s : GR} {wd : Nat} (h : TwoAt C D H p q r s wd) (k : Same H H') : TwoAt C D H' p q r s wd := ⟨h.g1.same k, h.g2.same k, h.gd, h.eg, h.ok1, h.ok2, h.l1, h.l2, h.n1, h.n2⟩
theorem TwoAt.pair {H : Hp} {p q : Addr} {r s : GR} {wd : Nat} (h : TwoAt C D H p q r s wd) : PairR K C D H (.ref p) (.ref q) none := ⟨p, r, wd, q, s, wd, rfl, rfl, h.g1, h.gd, h.g2, h.eg ▸ h.gd, h.eg⟩
def spClashA (K : PySem.W.Frag) (C D cM : Addr) : Sp := fun vs H Q E => (∃ a b o, vs = [a, b] ∧ PairR K C D H a b (some o) ∧ Refuses cM "place" (plM o) H E) ∨
  ∃ p q r s wd, vs = [.ref p, .ref q] ∧ TwoAt C D H p q r s wd ∧ ∀ (u : Addr) (ks : List Addr) (H' : Hp), Same H H' → H' u = some (.tup (ks.map V.ref)) → KysAt H' ks (clashK r.ts s.ts) → Q (.ref u) H'
abbrev nClash : List Str := ["one", "other", "by_key", "unlike", "telling"]
theorem scClash : FnScope nClash ["one", "other"] (defScope sClash) := ⟨rfl, rfl, rfl, by decide +kernel, rfl, by decide +kernel, by decide +kernel⟩
theorem ok_clash (F : Fun K "clashes" "clashes" sClash f fd) (B : Bi mg) (TG : TxtG K mg D) (hB : HasX P w K mg base "check_both" 3 ["one", "other"] (spBothA K C D cM)) (hK : Has P w K mg base "key_of" 1 ["telling"] spKeyOf) (hTl : HasTl P w K mg base C D) : FnOk P w K mg base (L2N.CX P w) 4 f fd ["one", "other"] (spClashA K C D cM) := by
  obtain ⟨fT, fdT, FT, mT, FnT⟩ := hTl
  obtain ⟨dsT, vT, bT⟩ := tell_b1 FnT
  refine Fun_okN F scClash (fun vs H Q E h => ?_) (fun cdv A outer s H vs Q E hr h => ?_)
  · rcases h with ⟨a, b, o, rfl, _⟩ | ⟨p, q, r, s', wd, rfl, _⟩ <;> rfl
  · have px : Passes (L2N.CX P w) (cxOf (L2N.CX P w) P w K mg base nClash "clashes" (defScope sClash) f cdv A outer s H E) E := passE (L2N.takes_of rfl rfl rfl rfl)
    have hu : (cxOf (L2N.CX P w) P w K mg base nClash "clashes" (defScope sClash) f cdv A outer s H E).A.units + 64 < cLine := hr.units
    have hu1 : (cxOf (L2N.CX P w) P w K mg base nClash "clashes" (defScope sClash) f cdv A outer s H E).A.units < cLine := by omega
    have hu2 : (cxOf (L2N.CX P w) P w K mg base nClash "clashes" (defScope sClash) f cdv A outer s H E).A.units + 1 < cLine := by omega
    have hvs : ∃ a b, vs = [a, b] := by rcases h with ⟨a, b, o, rfl, _⟩ | ⟨p, q, r, s', wd, rfl, _⟩ <;> exact ⟨_, _, rfl⟩
    refine ⟨_, pss_cons (ps_expr (pe_hx hB hr px (pa_cons (pv 0) (pa_cons (pv 1) pa_nil))))
      (pss_cons (ps_set (i := 2) scClash.nd rfl (.inr rfl) (pe_dcT (own := [("telling", 4)]) (g := gName 4) (tt := tYes) (tk := tCall spKeyOf [] E0 (tCons (tVar 4) tNil)) (tv := tVar 4) rfl hu1 scClash.nd (pi_list (pe_meth0 (pv 0) TG.cl mT FT (hr.mono (by decide)) bT vT pass0)) (blkOk_by (N := nClash) (sc := defScope sClash) (by decide +kernel))
          (fun _ _ _ _ _ => pg_name (i := 4) scClash.nd rfl (.inl rfl)) (fun _ _ _ _ _ => pts_nil) (fun _ _ _ _ _ => pe_h hK hr (pa_cons (pv 4) pa_nil)) (fun _ _ _ _ _ => pv 4)))
      (pss_cons (ps_setLc (i := 3) (own := [("telling", 4)]) (g := gName 4) (tt := tTest (tOp (rNeD K) (tDGet2 (tVar 2) (tCall spKeyOf [] E0 (tCons (tVar 4) tNil)) (tVar 4)) (tVar 4))) (te := tVar 4) rfl scClash.nd rfl rfl (sw_true rfl rfl rfl (by decide +kernel)) (pi_list (pe_meth0 (pv 1) TG.cl mT FT (hr.mono (by decide)) bT vT pass0)) (blkOk_by (N := nClash) (sc := defScope sClash) (by decide +kernel))
          (fun _ _ _ _ _ => pg_name (i := 4) scClash.nd rfl (.inl rfl)) (fun _ _ _ _ _ => pts_one (pt_cmpR (op_neD hu) (pe_dget2 hu2 (pv 2) (pe_h hK hr (pa_cons (pv 4) pa_nil)) (pv 4) ⟨rfl, rfl, rfl, rfl⟩) (pv 4) (nomark _))) (fun _ _ _ _ _ => pv 4))
      (pss_one (ps_ret (pe_callTy call_tuple_of (by rfl) B.tuple (by decide +kernel) (pa_cons (pe_callB (cr_sortD hu) (by rfl) B.sorted (by decide +kernel) (pa_cons (pe_lc (own := [("telling", 4)]) (g := gName 4) (tt := tYes) (te := tCall spKeyOf [] E0 (tCons (tVar 4) tNil)) rfl scClash.nd (pi_list (pv 3)) (blkOk_by (N := nClash) (sc := defScope sClash) (by decide +kernel))
          (fun _ _ _ _ _ => pg_name (i := 4) scClash.nd rfl (.inl rfl)) (fun _ _ _ _ _ => pts_nil) (fun _ _ _ _ _ => pe_h hK hr (pa_cons (pv 4) pa_nil))) pa_nil)) pa_nil)))))), ?_⟩
    rcases h with ⟨a, b, o, rfl, hp, qr⟩ | ⟨p, q, r, s', wd, rfl, two, qg⟩
    · exact ⟨_, rfl, _, rfl, a, b, some o, rfl, hp, (fun e => by cases e), fun o' e => by cases e; exact qr⟩
    refine ⟨_, rfl, _, rfl, .ref p, .ref q, none, rfl, two.pair, fun _ H1 s1 => ?_, fun o e => by cases e⟩
    have two1 := two.same s1
    obtain ⟨dg, hg⟩ := two1.g1.at_
    refine ⟨_, rfl, p, dg, _, rfl, hg, gf_no _ _ _, p, r, rfl, two1.g1, fun l hl => ⟨l, rfl, ⟨_, .inl (.inl upd_same)⟩, fun Dk hDk => ?_⟩⟩
    have s2 := same_new (o := .lst (r.as.map V.ref)) hl
    have hl2 : upd H1 l (.lst (r.as.map V.ref)) l = some (.lst (r.as.map V.ref)) := upd_same
    have two2 := two1.same s2
    generalize upd H1 l (.lst (r.as.map V.ref)) = H2 at s2 hl2 two2 hDk
    have S2 := s1.trans s2
    have hlen : r.as.length = r.ts.length := two2.g1.tels.length
    refine dcT_it (walk_list (K := K) (a := l) (xs := r.as.map V.ref)) (fun i H' => Same H2 H' ∧ ∃ kvs, H' Dk = some (.dT kvs) ∧ kvs.length ≤ i ∧ ∀ (k : Ky) (v : V), valV kvs (kyK k) = some v ↔ ∃ (j : Nat) (t : Tel) (a : Addr), j < i ∧ r.ts[j]? = some t ∧ r.as[j]? = some a ∧ kyOf t = k ∧ v = .ref a)
      ⟨same_new hDk, [], upd_same, Nat.le_refl _, fun k v => ⟨fun e => (by cases e), fun ⟨j, _, _, hj, _⟩ => absurd hj (Nat.not_lt_zero j)⟩⟩ (fun i H _ h => .inl (.inl (h.1 _ _ hl2))) ?_ ?_
    · rintro i x H3 H4 hi ⟨s3, kvs, hD3, hl3, hv⟩ ⟨rfl, hx⟩
      rw [List.length_map] at hi
      rw [List.getElem?_map] at hx
      obtain ⟨pa, hpa, rfl⟩ := Option.map_eq_some_iff.mp hx
      obtain ⟨t, ht, hH⟩ := Each.get two2.g1.tels hpa
      refine ⟨rfl, yes_it ⟨_, rfl, pa, t, rfl, s3 _ _ hH, fun kp hkp => ⟨_, rfl, kvs, kyK (kyOf t), kp, rfl, upd_same, (same_new hkp) _ _ hD3, small1000 (by have := two.l1; omega), same_mut (s3.trans (same_new hkp)) hDk, _, upd_same, Nat.le_trans (length_putK _ _ _) (by omega), fun k v => ?_⟩⟩⟩
      rw [valV_put]
      by_cases e : kyK k = kyK (kyOf t)
      · rw [if_pos e]
        constructor
        · intro h
          exact ⟨i, t, pa, Nat.lt_succ_self i, ht, hpa, (kyK_inj e).symm, (Option.some.inj h).symm⟩
        · rintro ⟨j, t', a', hj, ht', ha', hk, rfl⟩
          have ej := key_at two.n1 ht ht' ((kyK_inj e).symm.trans hk.symm)
          subst ej
          rw [hpa] at ha'
          rw [Option.some.inj ha']
      · rw [if_neg e, hv]
        constructor
        · rintro ⟨j, t', a', hj, h⟩
          exact ⟨j, t', a', Nat.lt_succ_of_lt hj, h⟩
        · rintro ⟨j, t', a', hj, ht', ha', hk, h⟩
          refine ⟨j, t', a', ?_, ht', ha', hk, h⟩
          rcases Nat.lt_succ_iff_lt_or_eq.mp hj with hj | rfl
          · exact hj
          · rw [ht] at ht'
            rw [← Option.some.inj ht'] at hk
            exact absurd (by rw [hk]) e
    rintro H5 ⟨s5, kvs, hDk5, hl5, hv⟩
    rw [List.length_map] at hv
    have two5 := two2.same s5
    have S5 := S2.trans s5
    have by1 : ByKy H5 r.as r.ts kvs := fun k v => by
      rw [hv]
      constructor
      · rintro ⟨j, t, a, _, h⟩
        exact ⟨j, t, a, h⟩
      · rintro ⟨j, t, a, ht, ha, h⟩
        exact ⟨j, t, a, (List.getElem?_eq_some_iff.mp ha).1, ht, ha, h⟩
    clear hv
    -- unlike
    obtain ⟨dg2, hg2⟩ := two5.g2.at_
    refine ⟨_, rfl, q, dg2, _, rfl, hg2, gf_no _ _ _, q, s', rfl, two5.g2, fun l2 hlq => ⟨l2, rfl, ⟨_, .inl (.inl upd_same)⟩, fun Dd hDd => ?_⟩⟩
    have s6 := same_new (o := .lst (s'.as.map V.ref)) hlq
    have hl6 : upd H5 l2 (.lst (s'.as.map V.ref)) l2 = some (.lst (s'.as.map V.ref)) := upd_same
    have two6 := two5.same s6
    have hDk6 := s6 _ _ hDk5
    generalize upd H5 l2 (.lst (s'.as.map V.ref)) = H6 at s6 hl6 two6 hDk6 hDd
    have S6 := S5.trans s6
    refine pick_telsX hl6 two6.g2.tels hDd (fun u => r.ts.any fun t => decide (kyOf t = kyOf u) && decide (t ≠ u)) two.l2 (fun _ => rfl) ?_ (fun x H Q q => ⟨_, rfl, q⟩) ?_
    · intro pu u H' hu' hH s' Q' q'
      refine ⟨_, rfl, Dk, rfl, .inr ⟨kvs, .inl (s' _ _ hDk6)⟩, _, rfl, pu, u, rfl, hH, fun kp hkp => ⟨_, rfl, valV kvs (kyK (kyOf u)), DGet.t (b := kp) ((same_new hkp) _ _ (s' _ _ hDk6)) upd_same, ?_⟩⟩
      have hH2 := (same_new (o := .tup (keyV u)) hkp) _ _ hH
      have okU := two.ok2 u hu'
      cases hvv : valV kvs (kyK (kyOf u)) with
      | none =>
        have no : ∀ t ∈ r.ts, kyOf t ≠ kyOf u := fun t ht e => by
          obtain ⟨j, hj⟩ := List.mem_iff_getElem?.mp ht
          have lj : j < r.as.length := by rw [hlen]; exact (List.getElem?_eq_some_iff.mp hj).1
          have := (by1 (kyOf u) (.ref r.as[j])).mpr ⟨j, t, _, hj, List.getElem?_eq_getElem lj, e, rfl⟩
          rw [hvv] at this
          cases this
        refine ⟨_, rfl, telD u, telD u, dp_tel hH2, dp_tel hH2, shaped_tel okU, shaped_tel okU, _, rfl, ?_⟩
        rw [tel_eqv, decide_eq_true rfl]
        have := q' _ (same_new (o := .tup (keyV u)) hkp)
        rw [clash_none no] at this
        exact this
      | some v =>
        obtain ⟨j, t, a, ht, ha, hk, rfl⟩ := (by1 (kyOf u) v).mp hvv
        obtain ⟨t', ht', hHa⟩ := Each.get two6.g1.tels ha
        rw [ht] at ht'
        obtain rfl := Option.some.inj ht'
        have hHa := (same_new (o := .tup (keyV u)) hkp) _ _ (s' _ _ hHa)
        refine ⟨_, rfl, telD t, telD u, dp_tel hHa, dp_tel hH2, shaped_tel (two.ok1 t (List.mem_of_getElem? ht)), shaped_tel okU, _, rfl, ?_⟩
        rw [tel_eqv]
        have := q' _ (same_new (o := .tup (keyV u)) hkp)
        rw [clash_one two.n1 ht hk] at this
        by_cases e : t = u
        · rw [decide_eq_true e]
          rw [decide_eq_false (by rw [e]; simp)] at this
          exact this
        · rw [decide_eq_false e]
          rw [decide_eq_true e] at this
          exact this
    intro bs H7 s7 hD7 hT7
    have S7 := S6.trans s7
    -- their KEYs, rising
    refine ⟨_, rfl, Dd, rfl, ⟨_, .inl (.inl hD7)⟩, fun De hDe => ?_⟩
    refine lc_rel (walk_list (K := K) (a := Dd) (xs := bs.map V.ref)) hDe (fun _ => true) (fun x y H' => ∃ q, y = V.ref q ∧ ∀ (pt : Addr) (t : Tel), x = .ref pt → H7 pt = some (.tup (telV t)) → H' q = some (.tup (kyV (kyOf t)))) (fun H' s' => .inl (.inl (s' _ _ hD7))) (fun _ => rfl) (fun x H' _ _ Q' q' => q') ?_ ?_ ?_ ?_
    · intro x H' hx _ s' Q' q'
      obtain ⟨pt, hpt, rfl⟩ := List.mem_map.mp hx
      obtain ⟨i, hi, ei⟩ := List.mem_iff_getElem.mp hpt
      obtain ⟨t, ht, hH⟩ := Each.get hT7 (i := i) (a := pt) (by rw [List.getElem?_eq_getElem hi, ei])
      refine ⟨_, rfl, pt, t, rfl, s' _ _ hH, fun kp hkp => q' _ _ (same_new hkp) ⟨kp, rfl, fun pt2 t2 e2 h2 => ?_⟩⟩
      obtain rfl : pt = pt2 := V.ref.inj e2
      rw [hH] at h2
      rw [← telV_inj (HO.tup.inj (Option.some.inj h2))]
      exact upd_same
    · rintro x y H' H'' acc hacc xs' ⟨kq, e, h⟩
      exact ⟨kq, e, fun pt t ep ht => xs' _ _ (ne_of (h pt t ep ht) hacc (by intro z; cases z)) (h pt t ep ht)⟩
    · rw [List.length_map, hT7.length]
      exact small1000 (Nat.le_trans (List.length_filter_le _ _) (Nat.le_trans two.l2 (by decide)))
    · intro zs H8 s8 hD8 hE
      rw [List.filter_eq_self.mpr fun _ _ => rfl] at hE
      obtain ⟨qs, rfl, hQ8⟩ := told_kys hT7 hE
      have hR := kys_each hQ8
      unfold tNil
      refine sort_enc (K := K) (enc := kyD) (.inl (.inl hD8)) (hR.mono fun x k ⟨pk, hx, hpk⟩ => by rw [hx]; exact .tup (.inl (.inl hpk)) (.cons (.str _) (.cons (.str _) (.cons (.str _) (.cons (.str _) .nil))))) ky_alike (fun k => ⟨_, _, rfl⟩) ky_depth fun p9 ys hp9 hy => ?_
      obtain ⟨ks, rfl, hK8⟩ := kys_of (hy _ hR)
      refine ⟨p9, _, rfl, .inl ⟨.inl (.inl upd_same), fun u hu => ?_⟩⟩
      have s10 := (same_new (o := .lst (ks.map V.ref)) hp9).trans (same_new (o := .tup (ks.map V.ref)) hu)
      exact qg u ks _ ((S7.trans s8).trans s10) upd_same (hK8.same s10)
end
end Wl


/-! settle. -/
namespace Wl
open PySem PySem.Spec PyProof.Rows L2
abbrev sSettle : Stmt := inClass sGat 5
theorem put_deeds {pl td dd d2 : Addr} : putF "deeds" (.ref d2) (gf pl td dd) = gf pl td d2 := by
  unfold gf putF
  rfl
section
variable {P : Program} {w : World} {K : PySem.W.Frag} {mg : Str → Option Value} {base : Heap} {f C D : Addr} {fd : FuncData}
def spSettle (C D : Addr) : Sp := fun vs H Q _ => ∃ (p : Addr) (r : GR), vs = [.ref p] ∧ GatAt C D H p r ∧ ∀ (dd : Addr) (H' : Hp), H dd = none → (∀ b o, b ≠ p → H b = some o → H' b = some o) → GatAt C D H' p { r with dd := dd, ds := [] } → Q .non H'
theorem scSettle : FnScope ["self"] ["self"] (defScope sSettle) := ⟨rfl, rfl, rfl, by decide +kernel, rfl, by decide +kernel, by decide +kernel⟩
theorem ok_settle (F : Fun K "settle" "Gathering.settle" sSettle f fd) (TG : TxtG K mg D) : FnOk P w K mg base CX0 1 f fd ["self"] (spSettle C D) := by
  refine F.ok scSettle (fun vs H Q E h => ?_) (fun cdv A outer s H vs Q E hr h => ?_)
  · obtain ⟨p, r, rfl, _⟩ := h
    rfl
  · obtain ⟨p, r, rfl, hG, q⟩ := h
    refine ⟨_, pss_one (ps_fld (pv 0) (pe_lst pa_nil) rfl), ?_⟩
    obtain ⟨dx, hp⟩ := hG.at_
    refine ⟨lz, fun dd hdd => ⟨_, rfl, p, D, dx, gf r.pl r.td r.dd, rfl, (same_new hdd) _ _ hp, TG.cl, TG.nD, (by show 3 < 1000; decide), ?_⟩⟩
    rw [put_deeds]
    have ndp : dd ≠ p := fun e => by
      rw [e, hp] at hdd
      cases hdd
    have all : ∀ b o, b ≠ p → H b = some o → upd (upd H dd (.lst [])) p (.ins D dx (gf r.pl r.td dd)) b = some o := fun b o n e => by
      rw [upd_ne n, upd_ne (ne_of_none e hdd)]
      exact e
    have ntp : r.td ≠ p := fun e => by
      have := hG.told
      rw [e, hp] at this
      cases this
    obtain ⟨dl, d0, hl⟩ := hG.land.ins
    have nlp : p ≠ r.pl := fun e => by
      rw [← e, hp] at hl
      have e3 : gf r.pl r.td r.dd = _ := (HO.ins.inj (Option.some.inj hl)).2.2
      have h1 := gf_land r.pl r.td r.dd
      rw [e3, lf_no _ _ (by decide +kernel) (by decide +kernel)] at h1
      cases h1
    refine q dd _ hdd all ⟨⟨dx, upd_same⟩, land_but hG.land hp nlp all, all _ _ ntp hG.told, ?_, ?_, ?_⟩
    · exact hG.tels.keep fun b xs e => all b _ (fun z => by rw [z, hp] at e; cases e) e
    · rw [upd_ne ndp, upd_same]
    · exact fun e => by
        have := hG.told
        rw [show r.td = dd from e, hdd] at this
        cases this
end
end Wl


namespace Wl
open PySem PySem.Spec PyProof.Rows L2
section
variable {g : Grid} {ts : List Tel} {t : Tel} {n : PR} {x0 x1 x2 x3 x4 x5 x6 : V}
theorem dueP_some (h : duePt g x0 x1 x2 x3 x4 x5 x6 = some n) : dueP g ts x0 x1 x2 x3 x4 x5 x6 = some n := by
  unfold dueP
  rw [h]
theorem name_good {z : Str} (h : IsWd z) (hv : z ∈ names g) : nameB g (.str z) = true := by
  show (wdB z && decide (z ∈ names g)) = true
  rw [show wdB z = true from h, decide_eq_true hv]
  rfl
theorem age_good {n : Nat} (h : n ≤ 120) : ageB (.int (n : Int)) = true := by
  show (decide ((0 : Int) ≤ (n : Int)) && decide ((n : Int) ≤ 120)) = true
  rw [decide_eq_true (by omega), decide_eq_true (by omega)]
  rfl
theorem duePt_good (h : OkT t) (hv : t.v ∈ names g) : duePt g (.str t.v) (.str t.th) (.str t.wo) (.str t.tl) (.int (t.age : Int)) (.str t.g) (.bl t.sure) = none := by
  unfold duePt
  rw [name_good h.v hv, show wvB (.str t.th) = true from h.th, show wvB (.str t.wo) = true from h.wo, show wvB (.str t.tl) = true from h.tl, age_good h.age, show wvB (.str t.g) = true from h.g, show truB (.bl t.sure) = true from rfl]
  rfl
end
section
variable {P : Program} {w : World} {K : PySem.W.Frag} {mg : Str → Option Value} {base : Heap} {f C D : Addr} {fd : FuncData}
end
end Wl



/-! joined. -/
namespace Wl
open PySem PySem.Spec PyProof.Rows L2
abbrev sJoin : Stmt := topS 45
/-- the tellings of two, those of the first ahead -/
def joinT (ts us : List Tel) : List Tel := ts ++ us.filter fun u => !(ts.any fun t => decide (t = u))
theorem telOf_good (t : Tel) : telOf (.str t.v) (.str t.th) (.str t.wo) (.str t.tl) (.int (t.age : Int)) (.str t.g) (.bl t.sure) = some t := by
  cases t
  simp [telOf]
theorem due_good {g : Grid} {ts : List Tel} {t : Tel} (h : OkT t) (hv : t.v ∈ names g) : dueP g ts (.str t.v) (.str t.th) (.str t.wo) (.str t.tl) (.int (t.age : Int)) (.str t.g) (.bl t.sure) = if keyS t ∈ ts.map keyS then some (.told t) else if 200 ≤ ts.length then some .full else none := by
  unfold dueP
  rw [duePt_good h hv, telOf_good]
theorem odd_tel {H : Hp} {t : Tel} (h : OkT t) : Odd7 H (.str t.v) (.str t.th) (.str t.wo) (.str t.tl) (.int (t.age : Int)) (.str t.g) (.bl t.sure) :=
  ⟨.inl ⟨_, rfl, by have := h.v.len; omega⟩, .inl ⟨_, rfl, by have := h.th.len; omega⟩, .inl ⟨_, rfl, by have := h.wo.len; omega⟩, .inl ⟨_, rfl, by have := h.tl.len; omega⟩, .inr (.inr (.inr (.inl ⟨_, rfl⟩))), .inl ⟨_, rfl, by have := h.g.len; omega⟩, .inr (.inr (.inl ⟨_, rfl⟩))⟩
theorem join_nodup {ts us : List Tel} (n1 : (ts.map keyS).Nodup) (n2 : (us.map keyS).Nodup) (hc : clashT ts us = []) : ((joinT ts us).map keyS).Nodup := by
  unfold joinT
  rw [List.map_append, List.nodup_append]
  refine ⟨n1, (List.Sublist.map keyS List.filter_sublist).nodup n2, fun a ha b hb e => ?_⟩
  obtain ⟨t, ht, rfl⟩ := List.mem_map.mp ha
  obtain ⟨u, hu, rfl⟩ := List.mem_map.mp hb
  obtain ⟨hu1, hu2⟩ := List.mem_filter.mp hu
  have ne : t ≠ u := fun z => by
    have : (ts.any fun t => decide (t = u)) = true := List.any_eq_true.mpr ⟨t, ht, decide_eq_true z⟩
    rw [this] at hu2
    cases hu2
  have : u ∈ clashT ts us := List.mem_filter.mpr ⟨hu1, List.any_eq_true.mpr ⟨t, ht, by rw [Bool.and_eq_true, decide_eq_true_eq, decide_eq_true_eq]; exact ⟨(ky_keyS t u).mpr e, ne⟩⟩⟩
  rw [hc] at this
  cases this
theorem joinT_mem {ts us : List Tel} {t : Tel} (h : t ∈ joinT ts us) : t ∈ ts ∨ t ∈ us := by
  rcases List.mem_append.mp h with h | h
  · exact .inl h
  · exact .inr (List.mem_filter.mp h).1
theorem any_telD (ts : List Tel) (u : Tel) : ((ts.map telD).any fun z => PyData.eqv z (telD u)) = ts.any fun t => decide (t = u) := by
  rw [List.any_map]
  congr 1
  funext t
  exact tel_eqv t u
theorem take_new {L : List Tel} (nd : (L.map keyS).Nodup) {i : Nat} {t : Tel} (ht : L[i]? = some t) : keyS t ∉ (L.take i).map keyS := fun h => by
  obtain ⟨u, hu, eu⟩ := List.mem_map.mp h
  obtain ⟨j, hj⟩ := List.mem_iff_getElem?.mp hu
  have hj' : j < i := by
    have := (List.getElem?_eq_some_iff.mp hj).1
    rw [List.length_take] at this
    omega
  rw [List.getElem?_take_of_lt hj'] at hj
  have := key_at nd ht hj ((ky_keyS t u).mpr eu.symm)
  omega
section
variable {P : Program} {w : World} {K : PySem.W.Frag} {mg : Str → Option Value} {base : Heap} {f C D cM cL : Addr} {x : XA} {fd : FuncData}
/-- Clash with the KEYs -/
def ClashE (cL : Addr) (H : Hp) (ks : List Ky) (E : XK) : Prop := ∀ (u : Addr) (qs : List Addr) (d : Addr) (H' : Hp), Same H H' → H' u = some (.tup (qs.map V.ref)) → KysAt H' qs ks → H' d = some (.xd [("both", .ref u)]) → E (.ref cL) (some d) H'
def spJoinA (K : PySem.W.Frag) (C D cM cL : Addr) (x : XA) : Sp := fun vs H Q E => (∃ a b o, vs = [a, b] ∧ PairR K C D H a b (some o) ∧ Refuses cM "place" (plM o) H E) ∨
  ∃ p q r s wd, vs = [.ref p, .ref q] ∧ TwoAt C D H p q r s wd ∧ (∀ t ∈ r.ts, t.v ∈ names r.g) ∧ (∀ t ∈ s.ts, t.v ∈ names r.g) ∧
    (clashT r.ts s.ts ≠ [] → ClashE cL H (clashK r.ts s.ts) E) ∧ (clashT r.ts s.ts = [] → 200 < (joinT r.ts s.ts).length → Refuses x.cF "many" (.int 200) H E) ∧
    (clashT r.ts s.ts = [] → (joinT r.ts s.ts).length ≤ 200 → ∀ (u : Addr) (j : GR) (H' : Hp), Same H H' → GatAt C D H' u j → j.g = r.g → j.ts = joinT r.ts s.ts → j.ds = [] → H j.td = none → H j.dd = none → Q (.ref u) H')
abbrev nJoin : List Str := ["one", "other", "both", "ahead", "behind", "together", "village", "thing", "word", "teller", "age", "gatherer", "sure", "telling"]
theorem scJoin : FnScope nJoin ["one", "other"] (defScope sJoin) := ⟨rfl, rfl, rfl, by decide +kernel, rfl, by decide +kernel, by decide +kernel⟩
theorem ok_join (F : Fun K "joined" "joined" sJoin f fd) (B : Bi mg) (TG : TxtG K mg D) (TL : OwnX K mg "Clash" "both" cL) (hC : HasX P w K mg base "clashes" 4 ["one", "other"] (spClashA K C D cM)) (hTl : HasTl P w K mg base C D) (hGi : HasG P w K mg base C D) (hP : HasPA P w K mg base x C D) (hSe : HasM P w K mg base D "settle" 1 ["self"] (spSettle C D)) :
    FnOk P w K mg base (L2N.CX P w) 6 f fd ["one", "other"] (spJoinA K C D cM cL x) := by
  obtain ⟨fT, fdT, FT, mT, FnT⟩ := hTl
  obtain ⟨dsT, vT, bT⟩ := tell_b1 FnT
  obtain ⟨fG, fdG, MG, GG, bG⟩ := hGi
  obtain ⟨fp, fdp, FP, mP, fnP⟩ := hP
  have b8 := put_b8 fnP
  refine Fun_okN F scJoin (fun vs H Q E h => ?_) (fun cdv A outer s H vs Q E hr h => ?_)
  · rcases h with ⟨a, b, o, rfl, _⟩ | ⟨p, q, r, s', wd, rfl, _⟩ <;> rfl
  · have px : Passes (L2N.CX P w) (cxOf (L2N.CX P w) P w K mg base nJoin "joined" (defScope sJoin) f cdv A outer s H E) E := passE (L2N.takes_of rfl rfl rfl rfl)
    have hu65 : (cxOf (L2N.CX P w) P w K mg base nJoin "joined" (defScope sJoin) f cdv A outer s H E).A.units + 65 < cLine := by
      have := hr.un
      show (A.deeper (envOfC "joined" (defScope sJoin) s.heap.objs.size f cdv)).units + 65 < cLine
      omega
    refine ⟨_, pss_cons (ps_set (i := 2) scJoin.nd rfl (.inl rfl) (pe_hx hC hr px (pa_cons (pv 0) (pa_cons (pv 1) pa_nil))))
      (pss_cons (ps_if (pt_truth (pv 2) (fun _ => rfl)) (pss_one (ps_raiseX rfl TL hr (L2N.takes_of rfl rfl rfl rfl) (pa_cons (pv 2) pa_nil))) pss_nil)
      (pss_cons (ps_set (i := 3) scJoin.nd rfl (.inr rfl) (pe_meth0 (pv 0) TG.cl mT FT (hr.mono (by decide)) bT vT pass0))
      (pss_cons (ps_setLc (i := 4) (own := [("telling", 13)]) (g := gName 13) (tt := tTest (tOp (rNotInD K) (tVar 13) (tVar 3))) (te := tVar 13) rfl scJoin.nd rfl rfl (sw_true rfl rfl rfl (by decide +kernel)) (pi_list (pe_meth0 (pv 1) TG.cl mT FT (hr.mono (by decide)) bT vT pass0)) (blkOk_by (N := nJoin) (sc := defScope sJoin) (by decide +kernel))
          (fun _ _ _ _ _ => pg_name (i := 13) scJoin.nd rfl (.inl rfl)) (fun _ _ _ _ _ => pts_one (pt_cmpR (op_notInD hu65) (pv 13) (pv 3) (by rfl))) (fun _ _ _ _ _ => pv 13))
      (pss_cons (ps_set (i := 5) scJoin.nd rfl (.inl rfl) (pe_make MG GG (hr.mono (by decide)) rfl TG.mgD bG .nil pass0 (pa_cons (pe_fld (pv 0) rfl) pa_nil)))
      (pss_cons (ps_for (passes_of rfl) rfl (pi_list (pe_op op_cat (pv 3) (pv 4))) (pg_tup rfl (pgs_cons (pg_name (i := 6) scJoin.nd rfl (.inl rfl)) (pgs_cons (pg_name (i := 7) scJoin.nd rfl (.inl rfl)) (pgs_cons (pg_name (i := 8) scJoin.nd rfl (.inl rfl)) (pgs_cons (pg_name (i := 9) scJoin.nd rfl (.inl rfl)) (pgs_cons (pg_name (i := 10) scJoin.nd rfl (.inl rfl)) (pgs_cons (pg_name (i := 11) scJoin.nd rfl (.inl rfl)) (pgs_cons (pg_name (i := 12) scJoin.nd rfl (.inl rfl)) pgs_nil))))))))
        (pss_one (ps_expr (pe_meth (pv 5) TG.cl mP FP (hr.mono (by decide)) b8 .nil px (pa_cons (pv 6) (pa_cons (pv 7) (pa_cons (pv 8) (pa_cons (pv 9) (pa_cons (pv 10) (pa_cons (pv 11) (pa_cons (pv 12) pa_nil)))))))))))
      (pss_cons (ps_expr (pe_hm0 hSe TG.cl hr (pv 5)))
      (pss_one (ps_ret (pv 5))))))))), ?_⟩
    rcases h with ⟨a, b, o, rfl, hp, qr⟩ | ⟨p, q, r, s', wd, rfl, two, hv1, hv2, qc, qf, qg⟩
    · exact ⟨_, rfl, _, rfl, .inl ⟨a, b, o, rfl, hp, qr⟩⟩
    refine ⟨_, rfl, _, rfl, .inr ⟨p, q, r, s', wd, rfl, two, fun u ks H1 s1 hu hK => ?_⟩⟩
    have lk : ks.length = (clashT r.ts s'.ts).length := by
      rw [hK.length]
      unfold clashK
      rw [(sortE_ind _).length_eq, List.length_map]
    refine ⟨_, rfl, !(ks.map V.ref).isEmpty, .inr (.inl ⟨_, .inl (.inl hu), rfl⟩), ?_⟩
    by_cases hc : clashT r.ts s'.ts = []
    case neg =>
      have : (!(ks.map V.ref).isEmpty) = true := by
        cases ks with
        | nil => exact absurd (List.length_eq_zero_iff.mp lk.symm) hc
        | cons a b => rfl
      rw [this]
      exact iteT ⟨_, rfl, _, rfl, fun d hd => qc hc u ks d _ (s1.trans (same_new hd)) ((same_new hd) _ _ hu) (hK.same (same_new hd)) upd_same⟩
    have : (!(ks.map V.ref).isEmpty) = false := by
      rw [hc] at lk
      rw [List.length_eq_zero_iff.mp lk]
      rfl
    rw [this]
    refine iteF ?_
    have two1 := two.same s1
    -- ahead
    obtain ⟨dg, hg⟩ := two1.g1.at_
    refine ⟨_, rfl, p, dg, _, rfl, hg, gf_no _ _ _, p, r, rfl, two1.g1, fun l1 nl1 => ?_⟩
    have s2 := same_new (o := .lst (r.as.map V.ref)) nl1
    have hl1 : upd H1 l1 (.lst (r.as.map V.ref)) l1 = some (.lst (r.as.map V.ref)) := upd_same
    have two2 := two1.same s2
    generalize upd H1 l1 (.lst (r.as.map V.ref)) = H2 at s2 hl1 two2 ⊢
    have S2 := s1.trans s2
    -- behind
    obtain ⟨dg2, hg2⟩ := two2.g2.at_
    refine ⟨_, rfl, q, dg2, _, rfl, hg2, gf_no _ _ _, q, s', rfl, two2.g2, fun l2 nl2 => ⟨l2, rfl, ⟨_, .inl (.inl upd_same)⟩, fun Dd nDd => ?_⟩⟩
    have s3 := same_new (o := .lst (s'.as.map V.ref)) nl2
    have hl2 : upd H2 l2 (.lst (s'.as.map V.ref)) l2 = some (.lst (s'.as.map V.ref)) := upd_same
    have two3 := two2.same s3
    have hl1 := s3 _ _ hl1
    generalize upd H2 l2 (.lst (s'.as.map V.ref)) = H3 at s3 hl2 two3 hl1 nDd
    have S3 := S2.trans s3
    refine pick_telsX hl2 two3.g2.tels nDd (fun u => !(r.ts.any fun t => decide (t = u))) two.l2 (fun _ => rfl) ?_ (fun x H Q q => ⟨_, rfl, q⟩) ?_
    · intro pu u H' hu' hH s4 Q' q'
      refine ⟨_, rfl, _, rfl, telD u, r.ts.map telD, dp_tel hH, .lst (.inl (.inl (s4 _ _ hl1))) (dp_tels (two3.g1.tels.keep (tk_same s4))), shaped_tel (two.ok2 u hu'), shaped_tels two.ok1, _, rfl, ?_⟩
      rw [any_telD]
      exact q' H' (Same.refl H')
    intro bs H4 s4 hD4 hB4
    have S4 := S3.trans s4
    have two4 := two3.same s4
    have hl1 := s4 _ _ hl1
    -- together
    obtain ⟨dg4, hg4⟩ := two4.g1.at_
    refine ⟨_, rfl, p, D, dg4, _, _, rfl, hg4, TG.cl, TG.nL, gf_land _ _ _, fun tg dtg ntg ndtg netg => ?_⟩
    have s5 : Same H4 (upd (upd H4 dtg (.own tg)) tg (.ins D dtg [])) := fun b o e => by
      rw [upd_ne (ne_of_none e ntg), upd_ne (ne_of_none e ndtg)]
      exact e
    have npl : tg ≠ r.pl := fun e => by
      obtain ⟨_, _, h1⟩ := two4.g1.land.ins
      rw [← e, ntg] at h1
      cases h1
    refine ⟨tg, dtg, r.pl, r.L, r.g, rfl, upd_same, two4.g1.land.same s5, npl, fun td dd H5 ntd ndd k5 hG5 => ⟨rfl, ?_⟩⟩
    have S45 : Same H4 H5 := fun b o e => k5 b o (ne_of_none e ntg) (s5 b o e)
    have S5 := S4.trans S45
    have ntd0 : H td = none := S4.free (s5.free ntd)
    have ndd0 : H dd = none := S4.free (s5.free ndd)
    have ntg0 : H tg = none := S4.free ntg
    have hlen : r.as.length = r.ts.length := two.g1.tels.length
    have hlb := hB4.length
    have l2' : (s'.ts.filter fun u => !(r.ts.any fun t => decide (t = u))).length ≤ 200 := Nat.le_trans (List.length_filter_le _ _) two.l2
    have l1' := two.l1
    refine ⟨_, rfl, _, rfl, l1, Dd, _, _, rfl, rfl, S45 _ _ hl1, S45 _ _ hD4, lzl (by simp only [List.length_append, List.length_map]; omega), fun W nW => ?_⟩
    have s6 := same_new (o := .lst (r.as.map V.ref ++ bs.map V.ref)) nW
    have hW : upd H5 W (.lst (r.as.map V.ref ++ bs.map V.ref)) W = some (.lst ((r.as ++ bs).map V.ref)) := by rw [upd_same, List.map_append]
    have hG6 := hG5.same s6
    have hT6 : TelsAt (upd H5 W (.lst (r.as.map V.ref ++ bs.map V.ref))) (r.as ++ bs) (joinT r.ts s'.ts) := Each.append ((two4.g1.tels.keep (tk_same S45)).keep (tk_same s6)) ((hB4.keep (tk_same S45)).keep (tk_same s6))
    have nWt : W ≠ td := fun z => by
      have := hG5.told
      rw [show (td : Addr) = W from z.symm, nW] at this
      cases this
    have nWd : W ≠ dd := fun z => by
      have := hG5.deeds
      rw [show (dd : Addr) = W from z.symm, nW] at this
      cases this
    have S6 := S5.trans s6
    generalize upd H5 W (.lst (r.as.map V.ref ++ bs.map V.ref)) = H6 at hW hG6 hT6 S6
    clear s6 nW
    have nd := join_nodup two.n1 two.n2 hc
    have okJ : ∀ t ∈ joinT r.ts s'.ts, OkT t ∧ t.v ∈ names r.g := fun t ht => by
      rcases joinT_mem ht with h | h
      · exact ⟨two.ok1 t h, hv1 t h⟩
      · exact ⟨two.ok2 t h, hv2 t h⟩
    have lJ : (joinT r.ts s'.ts).length ≤ 400 := by
      unfold joinT
      rw [List.length_append]
      omega
    have lWJ : (r.as ++ bs).length = (joinT r.ts s'.ts).length := hT6.length
    refine ⟨W, rfl, ⟨_, .inl (.inl hW)⟩, for_list (K := K) (a := W) (xs := (r.as ++ bs).map V.ref) (fun i σ H' => (∃ y6 y7 y8 y9 y10 y11 y12 y13, σ = [some (.ref p), some (.ref q), some (.ref u), some (.ref l1), some (.ref Dd), some (.ref tg), y6, y7, y8, y9, y10, y11, y12, y13]) ∧ Same2 td dd H6 H' ∧ i ≤ 200 ∧ ∃ j, GatAt C D H' tg j ∧ j.g = r.g ∧ j.ts = (joinT r.ts s'.ts).take i ∧ j.ds.length = i ∧ j.td = td ∧ j.dd = dd)
      ⟨⟨_, _, _, _, _, _, _, _, rfl⟩, Same2.of (Same.refl H6), Nat.zero_le _, _, hG6, rfl, rfl, rfl, rfl, rfl⟩ (fun i σ H' _ h => .inl (.inl (h.2.1 _ _ nWt nWd hW))) ?_ ?_⟩
    · rintro i x σ H7 hx ⟨⟨y6, y7, y8, y9, y10, y11, y12, y13, rfl⟩, s7, hi, j, hG7, jg, jt, jd, e1, e2⟩
      rw [List.getElem?_map] at hx
      obtain ⟨pt, hpt, rfl⟩ := Option.map_eq_some_iff.mp hx
      obtain ⟨t, ht, hH⟩ := Each.get hT6 hpt
      have tne : ∀ {z : Addr} {l : List V}, H6 z = some (.lst l) → pt ≠ z := fun {z l} e => ne_of hH e (by intro z; cases z)
      have hH7 := s7 _ _ (tne hG6.told) (tne hG6.deeds) hH
      obtain ⟨okt, hvt⟩ := okJ t (List.mem_of_getElem? ht)
      have hil : i < (joinT r.ts s'.ts).length := (List.getElem?_eq_some_iff.mp ht).1
      have S7 : Same H H7 := fun b o e => s7 b o (fun z => by rw [z, ntd0] at e; cases e) (fun z => by rw [z, ndd0] at e; cases e) (S6 b o e)
      refine ⟨pt, _, rfl, .inl (.inl hH7), rfl, _, _, rfl, _, _, rfl, _, _, rfl, _, _, rfl, _, _, rfl, _, _, rfl, _, _, rfl, rfl, ?_⟩
      obtain ⟨dx7, hp7⟩ := hG7.at_
      refine ⟨_, rfl, tg, dx7, _, rfl, hp7, gf_no _ _ _, _, rfl, _, rfl, _, rfl, _, rfl, _, rfl, _, rfl, _, rfl, ?_⟩
      refine ⟨tg, j, wd, _, _, _, _, _, _, _, rfl, hG7, jg ▸ two.gd, fun v hv => (okJ v (List.mem_of_mem_take (jt ▸ hv))).1, by rw [jt, List.length_take]; omega, by omega, odd_tel okt, fun n e => ?_, fun e t' q' H8 et nq m8 hG8 => ?_⟩
      · rw [due_good okt (by rw [jg]; exact hvt), if_neg (by rw [jt]; exact take_new nd ht)] at e
        split at e
        · rename_i h200
          cases e
          rw [jt, List.length_take] at h200
          exact Refuses.same (qf hc (by omega)) S7
        · cases e
      · rw [due_good okt (by rw [jg]; exact hvt), if_neg (by rw [jt]; exact take_new nd ht)] at e
        split at e
        · cases e
        · rename_i h200
          rw [jt, List.length_take] at h200
          have et2 : t = t' := telV_inj et
          subst et2
          refine ⟨⟨_, _, _, _, _, _, _, _, rfl⟩, s7.trans (by rw [← e1, ← e2]; exact m8), by omega, j.add q' t, hG8, jg, ?_, ?_, e1, e2⟩
          · show j.ts ++ [t] = _
            rw [jt, take_snoc ht]
          · show (j.ds ++ [V.non]).length = i + 1
            rw [List.length_append, jd]
            rfl
    rintro σ H7 ⟨⟨y6, y7, y8, y9, y10, y11, y12, y13, rfl⟩, s7, hi, j, hG7, jg, jt, jd, e1, e2⟩
    rw [List.length_map, lWJ] at hi jt
    rw [List.take_length] at jt
    have S7 : Same H H7 := fun b o e => s7 b o (fun z => by rw [z, ntd0] at e; cases e) (fun z => by rw [z, ndd0] at e; cases e) (S6 b o e)
    obtain ⟨dx7, hp7⟩ := hG7.at_
    refine ⟨_, rfl, tg, dx7, _, rfl, hp7, gf_no _ _ _, tg, j, rfl, hG7, fun d2 H8 nd2 k8 hG8 => ⟨_, rfl, ?_⟩⟩
    have S8 : Same H H8 := fun b o e => k8 b o (ne_of_none e ntg0) (S7 b o e)
    exact qg hc hi tg _ H8 S8 hG8 jg jt rfl (by show H j.td = none; rw [e1]; exact ntd0) (S7.free nd2)
end
end Wl


namespace Wl
open PySem PySem.Spec PyProof.Rows L2
abbrev sLFilled : Stmt := topS 60
section
variable {P : Program} {w : World} {K : PySem.W.Frag} {mg : Str → Option Value} {base : Heap} {f C D : Addr} {fd : FuncData}
/-! ### struck by place -/
/-! ### a Gathering of these -/
def spFilled (C D : Addr) : Sp := fun vs H Q _ => ∃ (L kp : Addr) (g : Grid) (wd : Nat) (bs : List Addr) (ts : List Tel), vs = [.ref L, .ref kp] ∧ GridAt H L g ∧ Good g wd ∧ KeptAt H kp bs ts ∧ (∀ t ∈ ts, OkT t) ∧ (∀ t ∈ ts, t.v ∈ names g) ∧ (ts.map keyS).Nodup ∧ ts.length ≤ 200 ∧
  ∀ (p : Addr) (r : GR) (H' : Hp), Same H H' → GatAt C D H' p r → r.g = g → r.ts = ts → H r.td = none → H r.dd = none → r.ds.length = ts.length → Q (.ref p) H'
abbrev nLFilled : List Str := ["_law_lots", "_law_kept_here", "_law_basket", "_law_row_here"]
abbrev psLFilled : List Str := ["_law_lots", "_law_kept_here"]
theorem scLFilled : FnScope nLFilled psLFilled (defScope sLFilled) := ⟨rfl, rfl, rfl, by decide +kernel, rfl, by decide +kernel, by decide +kernel⟩
theorem ok_lfilled (F : Fun K "_law_filled" "_law_filled" sLFilled f fd) (T : Txt K mg C) (TG : TxtG K mg D) (hI : HasI P w K mg base C) (hGi : HasG P w K mg base C D) (hPut : Has P w K mg base "_law_put" 5 ["_law_basket", "_law_row_here", "_law_way"] (spLPut C D)) : FnOk P w K mg base CX0 6 f fd psLFilled (spFilled C D) := by
  obtain ⟨fI, fdI, MI, GI, bI⟩ := hI
  obtain ⟨fG, fdG, MG, GG, bG⟩ := hGi
  refine F.ok scLFilled (fun vs H Q E h => ?_) (fun cdv A outer s H vs Q E hr h => ?_)
  · obtain ⟨L, kp, g, wd, bs, ts, rfl, _⟩ := h
    rfl
  · obtain ⟨L, kp, g, wd, bs, ts, rfl, hGr, gd, hk, hok, hvs, hnd, h100, q⟩ := h
    refine ⟨_, pss_cons (ps_set (i := 2) scLFilled.nd rfl (.inl rfl) (pe_make MG GG (hr.mono (by decide)) rfl TG.mgD bG .nil pass0 (pa_cons (pe_make MI GI (hr.mono (by decide)) rfl T.mgC bI .nil pass0 (pa_cons (pv 0) pa_nil)) pa_nil)))
      (pss_cons (ps_for PassesOwn.never rfl (pi_list (pv 1)) (pg_name (i := 3) scLFilled.nd rfl (.inl rfl))
        (pss_one (ps_expr (pe_h hPut hr (pa_cons (pv 2) (pa_cons (pv 3) (pa_cons pe_int pa_nil)))))))
      (pss_one (ps_ret (pv 2)))), ?_⟩
    refine ⟨_, rfl, fun pl dl npl ndl nel => ?_⟩
    have kp1 : TupKeep H (upd (upd H dl (.own pl)) pl (.ins C dl [])) := fun b xs h => by
      rw [upd_ne (ne_of_none h npl), upd_ne (ne_of_none h ndl)]
      exact h
    refine ⟨pl, dl, L, g, wd, rfl, upd_same, hGr.keep kp1, gd, fun H1 k1 hLa1 => ⟨rfl, ?_⟩⟩
    have s1 := made_same npl ndl k1
    intro p dp np ndp nep
    have s2 : Same H1 (upd (upd H1 dp (.own p)) p (.ins D dp [])) := fun b o e => by
      rw [upd_ne (ne_of_none e np), upd_ne (ne_of_none e ndp)]
      exact e
    have npp : p ≠ pl := fun e => by
      obtain ⟨_, _, h1⟩ := hLa1.ins
      rw [← e, np] at h1
      cases h1
    refine ⟨p, dp, pl, L, g, rfl, upd_same, hLa1.same s2, npp, fun td dd H2 htd hdd k2 hG2 => ⟨rfl, ?_⟩⟩
    have s12 : Same H1 H2 := fun b o e => k2 b o (ne_of_none e np) (s2 b o e)
    have s02 := s1.trans s12
    have htd0 : H td = none := s1.free (s2.free htd)
    have hdd0 : H dd = none := s1.free (s2.free hdd)
    have lb : bs.length = ts.length := hk.tels.length
    refine ⟨_, rfl, kp, rfl, ⟨_, .inl (.inl (s02 _ _ hk.at_))⟩, for_list (K := K) (a := kp) (xs := bs.map V.ref) (fun i σ H' => (∃ y3, σ = [some (.ref L), some (.ref kp), some (.ref p), y3]) ∧ Same H H' ∧ ∃ r, GatAt C D H' p r ∧ r.g = g ∧ r.ts = ts.take i ∧ r.ds.length = i ∧ r.td = td ∧ r.dd = dd)
      ⟨⟨_, rfl⟩, s02, _, hG2, rfl, rfl, rfl, rfl, rfl⟩ (fun i σ H' _ h => .inl (.inl (h.2.1 _ _ hk.at_))) ?_ ?_⟩
    · rintro i x σ H3 hx ⟨⟨y3, rfl⟩, s3, r, hG3, rg, rt, rd, e1, e2⟩
      rw [List.getElem?_map] at hx
      obtain ⟨rp, hrp, rfl⟩ := Option.map_eq_some_iff.mp hx
      obtain ⟨t, ht, hH⟩ := Each.get hk.tels hrp
      have htm := List.mem_of_getElem? ht
      have hi : i < ts.length := (List.getElem?_eq_some_iff.mp ht).1
      refine ⟨_, rfl, _, rfl, p, rp, 4, r, wd, t, rfl, s3 _ _ hH, hG3, rg ▸ gd, fun u hu => hok u (List.mem_of_mem_take (rt ▸ hu)), hok t htm, by rw [rg]; exact hvs t htm, ?_, ?_, by omega, fun q' H4 nq s4 hG4 => ⟨⟨_, rfl⟩, ?_, _, hG4, rg, ?_, ?_, e1, e2⟩⟩
      · rw [rt]
        intro h
        obtain ⟨u, hu, eu⟩ := List.mem_map.mp h
        obtain ⟨j, hj, ej⟩ := List.mem_iff_getElem.mp hu
        have hj' : j < i := by
          rw [List.length_take] at hj
          omega
        rw [List.getElem_take] at ej
        have h1 : (ts.map keyS)[j]? = (ts.map keyS)[i]? := by
          rw [List.getElem?_map, List.getElem?_map, ht, List.getElem?_eq_getElem (by omega : j < ts.length), ej]
          exact congrArg some eu
        have := (List.getElem?_inj (by rw [List.length_map]; omega) hnd).mp h1
        omega
      · rw [rt, List.length_take]
        omega
      · intro b o e
        refine s4 b o (fun z => ?_) (fun z => ?_) (s3 b o e)
        · rw [z, e1] at e
          rw [htd0] at e
          cases e
        · rw [z, e2] at e
          rw [hdd0] at e
          cases e
      · show r.ts ++ [t] = ts.take (i + 1)
        rw [rt, List.take_add_one, ht]
        rfl
      · show (r.ds ++ [V.non]).length = i + 1
        rw [List.length_append, rd]
        rfl
    · rintro σ H3 ⟨⟨y3, rfl⟩, s3, r, hG3, rg, rt, rd3, e1, e2⟩
      refine ⟨_, rfl, q p r H3 s3 hG3 rg ?_ (by rw [e1]; exact htd0) (by rw [e2]; exact hdd0) (by rw [rd3, List.length_map, lb])⟩
      rw [rt, List.length_map, lb, List.take_length]
end
end Wl



/-! tellings of unlike KEYs. -/
namespace Wl
open PySem PySem.Spec PyProof.Rows L2
abbrev sKept : Stmt := topS 59
theorem ky_eqv (a b : Ky) : PyData.eqv (kyD a) (kyD b) = decide (a = b) := by
  obtain ⟨a1, a2, a3, a4⟩ := a
  obtain ⟨b1, b2, b3, b4⟩ := b
  rw [Bool.eq_iff_iff, decide_eq_true_eq]
  simp only [kyD, PyData.eqv, PyData.eqvAll, Bool.and_eq_true, Bool.and_true, beq_iff_eq, Prod.mk.injEq]
def OkKy (k : Ky) : Prop := IsWd k.1 ∧ IsWd k.2.1 ∧ IsWd k.2.2.1 ∧ IsWd k.2.2.2
theorem okky {t : Tel} (h : OkT t) : OkKy (kyOf t) := ⟨h.v, h.tl, h.th, h.g⟩
theorem lay_ky {k : Ky} (h : OkKy k) : PyData.canLay0 (kyD k) = true := by
  obtain ⟨h1, h2, h3, h4⟩ := h
  simp [kyD, PyData.canLayAll0, PyData.canLay0, wd_ok h1, wd_ok h2, wd_ok h3, wd_ok h4]
theorem shaped_ky {k : Ky} (h : OkKy k) : SeqAt.shaped (kyD k) = true := shaped_tuple (by simpa [kyD, PyData.canLay0] using lay_ky h) (by simp [PyData.depthAll, PyData.depth])
theorem lay_kys : ∀ {ks : List Ky}, (∀ k ∈ ks, OkKy k) → PyData.canLayAll0 (ks.map kyD) = true
  | [], _ => by simp [PyData.canLayAll0]
  | k :: r, h => by
    have h1 := lay_ky (h k List.mem_cons_self)
    have h2 := lay_kys (ks := r) fun u hu => h u (List.mem_cons_of_mem _ hu)
    rw [List.map_cons]
    unfold PyData.canLayAll0
    rw [h1, h2]
    rfl
theorem depth_kys : ∀ ks : List Ky, PyData.depthAll (ks.map kyD) ≤ 1
  | [] => by simp [PyData.depthAll]
  | k :: r => by
    have := depth_kys r
    simp only [List.map_cons, PyData.depthAll, kyD, PyData.depth]
    omega
theorem dp_ky {K : PySem.W.Frag} {H : Hp} {p : Addr} {k : Ky} (h : H p = some (.tup (kyV k))) : Dp K H (.ref p) (kyD k) := .tup (.inl (.inl h)) (.cons (.str _) (.cons (.str _) (.cons (.str _) (.cons (.str _) .nil))))
theorem dp_kys {K : PySem.W.Frag} {H : Hp} : ∀ {as : List Addr} {ks : List Ky}, KysAt H as ks → DpAll K H (as.map V.ref) (ks.map kyD)
  | _, _, .nil => .nil
  | _, _, .cons e r => .cons (dp_ky e) (dp_kys r)
theorem any_kyD (ks : List Ky) (k : Ky) : ((ks.map kyD).any fun z => PyData.eqv z (kyD k)) = decide (k ∈ ks) := by
  rw [List.any_map, Bool.eq_iff_iff, List.any_eq_true, decide_eq_true_eq]
  constructor
  · rintro ⟨u, hu, e⟩
    have e : PyData.eqv (kyD u) (kyD k) = true := e
    rw [ky_eqv, decide_eq_true_eq] at e
    exact e ▸ hu
  · intro h
    exact ⟨k, h, by show PyData.eqv (kyD k) (kyD k) = true; rw [ky_eqv, decide_eq_true rfl]⟩
theorem KysAt.x {H H' : Hp} {a : Addr} {as : List Addr} {ks : List Ky} {ys : List V} (h : KysAt H as ks) (ha : H a = some (.lst ys)) (s : SameX a H H') : KysAt H' as ks := Each.mono (fun p k e => s _ _ (ne_of e ha (by intro z; cases z)) e) h
theorem ky_mem {ts : List Tel} {t : Tel} : kyOf t ∈ ts.map kyOf ↔ keyS t ∈ ts.map keyS := by
  rw [List.mem_map, List.mem_map]
  constructor
  · rintro ⟨u, hu, e⟩
    exact ⟨u, hu, (ky_keyS u t).mp e⟩
  · rintro ⟨u, hu, e⟩
    exact ⟨u, hu, (ky_keyS u t).mpr e⟩
section
variable {P : Program} {w : World} {K : PySem.W.Frag} {mg : Str → Option Value} {base : Heap} {f : Addr} {fd : FuncData}
def spKept : Sp := fun vs H Q _ => ∃ (a F : Addr) (n : Nat) (as : List Addr) (p0 p1 p2 p3 p4 : List Str), vs = [.ref a, .ref F, .int (n : Int)] ∧ n ≤ 20 ∧ PurseAt H a ∧ PoolsAt H F as [p0, p1, p2, p3, p4] ∧ F ≠ a ∧ (∀ p ∈ as, p ≠ a) ∧ (∀ ws ∈ [p0, p1, p2, p3, p4], OkW ws) ∧
  ∀ (l : Addr) (bs : List Addr) (ts : List Tel) (H' : Hp), H l = none → PurseAt H' a → SameX a H H' → H' l = some (.lst (bs.map V.ref)) → TelsAt H' bs ts → (∀ t ∈ ts, OkT t) → (∀ t ∈ ts, (t.v ∈ p0 ∧ t.tl ∈ p3)) → (ts.map keyS).Nodup → ts.length ≤ n → Q (.ref l) H'
abbrev nKept : List Str := ["_law_purse_here", "_law_pools_here", "_law_count", "_law_found", "_law_keys", "_law_k", "_law_row_here"]
abbrev psKept : List Str := ["_law_purse_here", "_law_pools_here", "_law_count"]
theorem scKept : FnScope nKept psKept (defScope sKept) := ⟨rfl, rfl, rfl, by decide +kernel, rfl, by decide +kernel, by decide +kernel⟩
theorem ok_kept (F : Fun K "_law_kept" "_law_kept" sKept f fd) (B : Bi mg) (hRow : Has P w K mg base "_law_row" 2 ["_law_purse_here", "_law_pools_here"] spRow) (hKey : Has P w K mg base "_law_key" 1 ["_law_row_here"] spKeyOf) : FnOk P w K mg base CX0 3 f fd psKept spKept := by
  refine F.ok scKept (fun vs H Q E h => ?_) (fun cdv A outer s H vs Q E hr h => ?_)
  · obtain ⟨a, F, n, as, p0, p1, p2, p3, p4, rfl, _⟩ := h
    rfl
  · obtain ⟨a, Fp, n, as, p0, p1, p2, p3, p4, rfl, hn, hA, hPo, nF, na, hok, q⟩ := h
    have hu65 : (A.deeper (envOfC "_law_kept" (defScope sKept) s.heap.objs.size f cdv)).units + 65 < cLine := by have := hr.un; omega
    refine ⟨_, pss_cons (ps_par (i := 3) (j := 4) (by rfl) scKept.nd rfl rfl (by decide) rfl rfl (pa_cons (pe_lst pa_nil) (pa_cons (pe_lst pa_nil) pa_nil)) (by rfl))
      (pss_cons (ps_for PassesOwn.never rfl (pi_range1 rfl B.range (pa_cons (pv 2) pa_nil)) (pg_name (i := 5) scKept.nd rfl (.inl rfl))
        (pss_cons (ps_set (i := 6) scKept.nd rfl (.inl rfl) (pe_h hRow hr (pa_cons (pv 0) (pa_cons (pv 1) pa_nil))))
        (pss_one (ps_if (pt_cmpR (op_notInD hu65) (pe_h hKey hr (pa_cons (pv 6) pa_nil)) (pv 4) (by rfl))
          (pss_cons (ps_expr (pe_bm PySem.F.plainAttrs_list PySem.F.slot_list_append PySem.F.type_list_append mt_append (pv 4) (pa_cons (pe_h hKey hr (pa_cons (pv 6) pa_nil)) pa_nil)))
          (pss_one (ps_expr (pe_bm PySem.F.plainAttrs_list PySem.F.slot_list_append PySem.F.type_list_append mt_append (pv 3) (pa_cons (pv 6) pa_nil))))) pss_nil))))
      (pss_one (ps_ret (pv 3)))), ?_⟩
    refine ⟨lz, fun Fo nFo => ⟨lz, fun Ke nKe => ⟨_, _, rfl, ?_⟩⟩⟩
    have s1 := same_new (o := .lst []) nFo
    have s2 := same_new (o := .lst []) nKe
    have s02 := s1.trans s2
    have hFo2 : upd (upd H Fo (.lst [])) Ke (.lst []) Fo = some (.lst (([] : List Addr).map V.ref)) := s2 _ _ upd_same
    have hKe2 : upd (upd H Fo (.lst [])) Ke (.lst []) Ke = some (.lst (([] : List Addr).map V.ref)) := upd_same
    have nFoKe : Fo ≠ Ke := fun e => by
      rw [e, upd_same] at nKe
      cases nKe
    have nKe0 : H Ke = none := by
      rw [upd_ne nFoKe.symm] at nKe
      exact nKe
    have nFoa : Fo ≠ a := hA.ne nFo
    have nKea : Ke ≠ a := hA.ne nKe0
    have hA2 := hA.same s02
    generalize upd (upd H Fo (.lst [])) Ke (.lst []) = H2 at s02 hFo2 hKe2 hA2
    have purse_at : ∀ {H' : Hp} {p : Addr} {o : HO}, PurseAt H' a → p ≠ a → PurseAt (upd H' p o) a := fun h n => by
      obtain ⟨x0, x1, x2, hx, hx1⟩ := h
      exact ⟨x0, x1, x2, by rw [upd_ne n.symm]; exact hx, hx1⟩
    refine ⟨_, rfl, (n : Int), rfl, by omega, by omega, for_range (lo := 0) (n := (n : Int).toNat) (fun i σ H' => (∃ y5 y6, σ = [some (.ref a), some (.ref Fp), some (.int (n : Int)), some (.ref Fo), some (.ref Ke), y5, y6]) ∧ PurseAt H' a ∧ SameX a H H' ∧ ∃ bs ks ts, H' Fo = some (.lst (bs.map V.ref)) ∧ H' Ke = some (.lst (ks.map V.ref)) ∧ TelsAt H' bs ts ∧ KysAt H' ks (ts.map kyOf) ∧ (∀ t ∈ ts, OkT t) ∧ (∀ t ∈ ts, (t.v ∈ p0 ∧ t.tl ∈ p3)) ∧ (ts.map keyS).Nodup ∧ ts.length ≤ i)
      ⟨⟨_, _, rfl⟩, hA2, sx s02, [], [], [], hFo2, hKe2, .nil, .nil, fun t ht => (List.not_mem_nil ht).elim, fun t ht => (List.not_mem_nil ht).elim, List.nodup_nil, Nat.le_refl 0⟩ ?_ ?_⟩
    · rintro i σ H3 hi ⟨⟨y5, y6, rfl⟩, hA3, x3, bs, ks, ts, hFo3, hKe3, hT3, hK3, okt, hvs, nd, hl⟩
      have hi : i < n := by omega
      refine ⟨_, rfl, _, rfl, a, Fp, as, p0, p1, p2, p3, p4, rfl, hA3, hPo.x x3 nF na, nF, na, hok, fun rp t H4 nrp ok0 hv0 _ _ htl _ hrp hA4 x4 => ?_⟩
      have hFo4 := x4 _ _ nFoa hFo3
      have hKe4 := x4 _ _ nKea hKe3
      obtain ⟨ya, hya⟩ := hA3.lst
      have hT4 := hT3.keep (tk_x x4 hya)
      have hK4 := hK3.x hya x4
      have x04 := x3.trans x4
      have l1 : bs.length = ts.length := hT4.length
      have l2 : ks.length = ts.length := by rw [hK4.length, List.length_map]
      refine ⟨_, rfl, rp, t, rfl, hrp, fun kp nkp => ⟨_, rfl, kyD (kyOf t), (ts.map kyOf).map kyD, dp_ky upd_same, .lst (.inl (.inl ((same_new nkp) _ _ hKe4))) (dp_kys (hK4.same (same_new nkp))), shaped_ky (okky ok0), shaped_list (lay_kys fun k hk => ?_) (by have := depth_kys (ts.map kyOf); omega), _, rfl, ?_⟩⟩
      · obtain ⟨u, hu, rfl⟩ := List.mem_map.mp hk
        exact okky (okt u hu)
      have s5 := same_new (o := .tup (keyV t)) nkp
      rw [any_kyD]
      have hA5 := hA4.same s5
      have x05 := x04.trans (sx s5)
      have hFo5 := s5 _ _ hFo4
      have hKe5 := s5 _ _ hKe4
      have hT5 := hT4.keep (tk_same s5)
      have hK5 := hK4.same s5
      have hrp5 := s5 _ _ hrp
      generalize upd H4 kp (.tup (keyV t)) = H5 at hA5 x05 hFo5 hKe5 hT5 hK5 hrp5 ⊢
      by_cases hm : kyOf t ∈ ts.map kyOf
      · rw [decide_eq_true hm]
        exact iteF ⟨⟨_, _, rfl⟩, hA5, x05, bs, ks, ts, hFo5, hKe5, hT5, hK5, okt, hvs, nd, by omega⟩
      · rw [decide_eq_false hm]
        refine iteT ?_
        refine ⟨_, rfl, .inl ⟨rfl, _, .inl (.inl hKe5)⟩, _, rfl, rp, t, rfl, hrp5, fun k2 nk2 => ⟨Ke, _, _, rfl, rfl, (same_new nk2) _ _ hKe5, by rw [List.length_map]; exact small1000 (by omega), ?_⟩⟩
        have s6 := same_new (o := .tup (keyV t)) nk2
        have hk2 : upd H5 k2 (.tup (keyV t)) k2 = some (.tup (kyV (kyOf t))) := upd_same
        have hA6 := hA5.same s6
        have x06 := x05.trans (sx s6)
        have hFo6 := s6 _ _ hFo5
        have hKe6 := s6 _ _ hKe5
        have hT6 := hT5.keep (tk_same s6)
        have hK6 := hK5.same s6
        have hrp6 := s6 _ _ hrp5
        generalize upd H5 k2 (.tup (keyV t)) = H6 at hk2 hA6 x06 hFo6 hKe6 hT6 hK6 hrp6 ⊢
        have x67 : ∀ {o : HO}, SameX Ke H6 (upd H6 Ke o) := fun {o} b u nb e => by
          rw [upd_ne nb]
          exact e
        refine ⟨_, rfl, .inl ⟨rfl, _, .inl (.inl (x67 _ _ nFoKe hFo6))⟩, _, rfl, Fo, _, _, rfl, rfl, x67 _ _ nFoKe hFo6, by rw [List.length_map]; exact small1000 (by omega), ?_⟩
        have hT7 := hT6.keep (tk_x (x67 (o := .lst (ks.map V.ref ++ [V.ref k2]))) hKe6)
        have hK7 := hK6.x hKe6 (x67 (o := .lst (ks.map V.ref ++ [V.ref k2])))
        have hrp7 := x67 (o := .lst (ks.map V.ref ++ [V.ref k2])) _ _ (ne_of hrp6 hKe6 (by intro z; cases z)) hrp6
        have hk7 := x67 (o := .lst (ks.map V.ref ++ [V.ref k2])) _ _ (ne_of hk2 hKe6 (by intro z; cases z)) hk2
        have hFo7 := x67 (o := .lst (ks.map V.ref ++ [V.ref k2])) _ _ nFoKe hFo6
        have hKe7 : upd H6 Ke (.lst (ks.map V.ref ++ [V.ref k2])) Ke = some (.lst ((ks ++ [k2]).map V.ref)) := by rw [upd_same, List.map_append]; rfl
        have hA7 := purse_at (o := .lst (ks.map V.ref ++ [V.ref k2])) hA6 nKea
        have x07 : SameX a H (upd H6 Ke (.lst (ks.map V.ref ++ [V.ref k2]))) := sameX_mut x06 nKe0
        generalize upd H6 Ke (.lst (ks.map V.ref ++ [V.ref k2])) = H7 at hT7 hK7 hrp7 hk7 hFo7 hKe7 hA7 x07 ⊢
        have x78 : ∀ {o : HO}, SameX Fo H7 (upd H7 Fo o) := fun {o} b u nb e => by
          rw [upd_ne nb]
          exact e
        refine ⟨⟨_, _, rfl⟩, purse_at hA7 nFoa, sameX_mut x07 nFo, bs ++ [rp], ks ++ [k2], ts ++ [t], by rw [upd_same, List.map_append]; rfl, x78 _ _ nFoKe.symm hKe7, Each.append (hT7.keep (tk_x x78 hFo7)) (.cons (x78 _ _ (ne_of hrp7 hFo7 (by intro z; cases z)) hrp7) .nil), ?_, ?_, ?_, ?_, by rw [List.length_append]; show ts.length + 1 ≤ i + 1; omega⟩
        · rw [List.map_append]
          exact Each.append (hK7.x hFo7 x78) (.cons (x78 _ _ (ne_of hk7 hFo7 (by intro z; cases z)) hk7) .nil)
        · intro u hu
          rcases List.mem_append.mp hu with hu | hu
          · exact okt u hu
          · rw [List.mem_singleton.mp hu]
            exact ok0
        · intro u hu
          rcases List.mem_append.mp hu with hu | hu
          · exact hvs u hu
          · rw [List.mem_singleton.mp hu]
            exact ⟨hv0, htl⟩
        · rw [List.map_append, List.nodup_append]
          refine ⟨nd, by simp, fun x hx y hy e => ?_⟩
          rw [List.map_cons, List.map_nil, List.mem_singleton] at hy
          subst hy
          exact hm (ky_mem.mpr (e ▸ hx))
    rintro σ H3 ⟨⟨y5, y6, rfl⟩, hA3, x3, bs, ks, ts, hFo3, hKe3, hT3, hK3, okt, hvs, nd, hl⟩
    exact ⟨_, rfl, q Fo bs ts H3 nFo hA3 x3 hFo3 hT3 okt hvs nd (by omega)⟩
end
end Wl


/-! things that are no Gathering. -/
namespace Wl
open PySem PySem.Spec PyProof.Rows L2
section
variable {K : PySem.W.Frag} {C D W a p L : Addr} {r : GR} {wd : Nat} {σ : L2.St}
theorem joinL_len {S : List Nat} {m : Nat} (p : List Nat) {ps : List (List Nat)} (h : ∀ q ∈ ps, q.length ≤ m) : (TL.joinL S (p :: ps)).length ≤ p.length + ps.length * (m + S.length) + S.length := by
  cases ps with
  | nil =>
    show p.length ≤ _
    omega
  | cons q r =>
    have h2 := join_size (S := S) (m := m) (ps := q :: r) h
    show (p ++ (S ++ TL.joinL S (q :: r))).length ≤ _
    rw [List.length_append, List.length_append]
    omega
theorem gat_len (gd : Good r.g wd) (h8 : r.ts.length ≤ 8) (hok : ∀ t ∈ r.ts, OkT t) : (gatS r.g r.ts).length ≤ 1000 := by
  have hll := land_len gd.parts gd.h6 gd.six
  unfold gatS
  rw [TL.len_tl, TL.join_eq, TL.tl_join]
  have e1 : (TL.tl ("\n" : Str)).length = 1 := by decide +kernel
  have e2 : (TL.tl ("." : Str)).length = 1 := by decide +kernel
  have := joinL_len (S := TL.tl ("\n" : Str)) (m := 63) (TL.tl (landS r.g)) (ps := (("." : Str) :: r.ts.map rowS).map TL.tl) fun q hq => by
    obtain ⟨z, hz, rfl⟩ := List.mem_map.mp hq
    rcases List.mem_cons.mp hz with rfl | hz
    · omega
    · obtain ⟨t, ht, rfl⟩ := List.mem_map.mp hz
      rw [← TL.len_tl]
      exact row_len (hok t ht)
  rw [List.length_map, List.length_cons, List.length_map, e1, ← TL.len_tl] at this
  refine Nat.le_trans this ?_
  omega
end
section
variable {P : Program} {w : World} {K : PySem.W.Frag} {mg : Str → Option Value} {base : Heap} {f C D W : Addr} {fd : FuncData}
end
end Wl



/-! Promises of defs that are kept where no text of a list, tuple or dict is being made around them: what repr of a list needs. -/
namespace Wl
open PySem PySem.Spec PyProof.Rows L2
structure FnOkG (P : Program) (w : World) (K : PySem.W.Frag) (mg : Str → Option Value) (base : Heap) (k : Nat) (f : Addr) (fd : FuncData) (ps : List Str) (sp : Sp) : Prop where
  len : ∀ vs H Q E, sp vs H Q E → vs.length = ps.length
  run : ∀ (A : Around) (outer : List Env) (s : Shared) (H : Hp) (args : Args) (us : List Value) (vs : List V) (Q : VK) (E : XK), A.guards = some [] → Room k A →
    Env0 P w K mg base A outer s H → BindsTo s fd args (ps.zip us) → Vals vs us → sp vs H Q E → codeAny (model P w) A (.call (.ref f) args) (CR CX0 outer P w H s Q E) s
section
variable {P : Program} {w : World} {K : PySem.W.Frag} {mg : Str → Option Value} {base : Heap} {k : Nat} {f : Addr} {fd : FuncData} {ps N : List Str} {sp : Sp}
theorem FnOkG.of (F : FnOk P w K mg base CX0 k f fd ps sp) : FnOkG P w K mg base k f fd ps sp := ⟨F.len, fun A o s H ar us vs Q E _ => F.run A o s H ar us vs Q E⟩
/-- a def's promise by its body, no such text being made -/
theorem okG {x qual : Str} {st : Stmt} (F : Fun K x qual st f fd) (S : FnScope N ps (defScope st)) (ln : ∀ vs H Q E, sp vs H Q E → vs.length = ps.length)
    (bd : ∀ (cdv : Value) (A : Around) (outer : List Env) (s : Shared) (H : Hp) (vs : List V) (Q : VK) (E : XK), A.guards = some [] → Room k (A.deeper (envOfC qual (defScope st) s.heap.objs.size f cdv)) → sp vs H Q E →
      ∃ t, PSs (cxOf CX0 P w K mg base N qual (defScope st) f cdv A outer s H E).nox (defBody st) t ∧ t { nx := fun _ H' => Q .non H', rt := Q } (start N vs) H) : FnOkG P w K mg base (k + 1) f fd ps sp := by
  obtain ⟨oc, od, kV, doc, pm, an, cd, ct, sl, rfl, at_, hc⟩ := F.ex
  refine ⟨ln, fun A ou s H ar us vs Q E hg room ev bnd rel pr => ?_⟩
  have lv := ln _ _ _ _ pr
  have inK : K.In s.heap := ev.mod.kin.keeps fun b o q => (ev.bs b o q).1
  have nol : s.heap.NoLimit := ev.mod.nolimit.keeps fun b o q => (ev.bs b o q).1
  refine codeAny_call_function room.depth (inK _ _ at_) rfl S.co S.gen rfl (PySem.W.codeRec_of inK hc) (bnd _ _ _ _ ?_)
  refine wpAny_newFunctionEnv_cells S.kind (fun y hy => ?_) fun env ee s1 ic => ?_
  · rcases S.par y.1 (List.of_mem_zip hy).1 with q | q
    · exact .inl q
    · exact .inr ⟨q, PySem.W.cellsFrom_some _ _ _ (.inl q)⟩
  · subst ee
    refine ⟨nol.keeps ic.toInCall.keep, codeAny_func ?_⟩
    obtain ⟨t, der, rd⟩ := bd cd A ou s H vs Q E hg (room.deeper _) pr
    have J0 : L2.Inv (cxOf CX0 P w K mg base N qual (defScope st) f cd A ou s H E) [] (start N vs) H s1 := inv_start S room.hd ev lv rel ic
    refine wpAny_mono (der.nox.run [] s1 (start N vs) H _ J0 rd) (fun fl s2 z => ?_) fun _ _ z => z
    cases fl with
    | ret u => exact let ⟨v, _, H2, J, rv, q⟩ := z; ⟨v, H2, J.os, J.bare, J.base, J.hok, rv, q⟩
    | next => exact let ⟨_, H2, J, q⟩ := z; ⟨V.non, H2, J.os, J.bare, J.base, J.hok, rfl, q⟩
    | brk => exact let ⟨_, _, _, q⟩ := z; q.elim
    | cont => exact let ⟨_, _, _, q⟩ := z; q.elim
/-- such a def by its name -/
def HasQ (P : Program) (w : World) (K : PySem.W.Frag) (mg : Str → Option Value) (base : Heap) (x : Str) (k : Nat) (ps : List Str) (sp : Sp) : Prop :=
  ∃ f fd, FnOkG P w K mg base k f fd ps sp ∧ mg x = some (.ref f) ∧ PySem.W.keepIn K (.ref f) = true ∧ Binds K fd ps []
end
section
variable {X : Cx} {k j : Nat} {ps : List Str} {sp : Sp} {x : Str} {p pos : Pos} {e : Expr} {es : List Expr} {t : TA}
theorem pe_hQ (h : HasQ X.prog X.w X.K X.mg X.base x k ps sp) (hgd : X.A.guards = some []) (hr : Room j X.A) (ha : PA X (e :: es) t) (hkj : k ≤ j := by decide) (hg : Gl X x := by rfl) (hdb : (x == ("__debug__" : Str)) = false := by decide)
    (he : starEach (e :: es) X.env = (false, eval e X.env) :: starEach es X.env := by rfl) (hpl : (backTo pos (starEach es X.env)).any (·.1) = false := by rfl) :
    PE X (.Call (.Name x p) (e :: es) [] pos) (tCall sp [] E0 t) := by
  obtain ⟨f, fd, F, g, kp, b⟩ := h
  refine ⟨fun pins s σ H Q I hh => ?_⟩
  refine wpAny_Call_Name_kw (ld_glob I hg g ?_ hdb)
  refine PySem.W.callWith_K (h₀ := X.base) I.ok.mod.kin kp (thn (ha.run pos pins s σ H _ I hh) fun us s1 ⟨vs, H1, I1, r, q⟩ => ⟨I1.kIn, ?_⟩) he hpl
  have q' : sp vs H1 Q E0 := by
    have z : sp (vs ++ []) H1 Q E0 := q
    rw [List.append_nil] at z
    exact z
  have hl := F.len _ _ _ _ q'
  have hb' : BindsTo s1 fd ⟨us, []⟩ (ps.zip us) := by
    have z := b s1 us I1.kIn (by rw [List.append_nil, ← r.length]; exact hl)
    rw [List.append_nil] at z
    exact z
  refine wpAny_call (codeAny_mono (F.run X.A X.stack s1 H1 ⟨us, []⟩ us vs _ E0 hgd (hr.mono hkj) I1.env0 hb' r q') fun r s' hq => ?_)
  cases r with
  | error e => exact pass0 pins σ H1 s1 e s' I1 hq
  | ok fl =>
    cases fl with
    | ret w => exact I1.after hq
    | next => exact hq.elim
    | brk => exact hq.elim
    | cont => exact hq.elim
end
/-- the law's own call, by such a promise -/
theorem law_callG {P : Program} {w : World} {K : PySem.W.Frag} {mg mb : Str → Option Value} {k : Nat} {fa a : Addr} {fd : FuncData} {x : Str} {sp : Sp} {s₁ : Shared} {vs : List Value} {ns : List Int}
    (KX : K.In s₁.heap) (hns : s₁.heap.Ns mainGlobals mg) (hb : s₁.heap.Ns builtinsNs mb) (hbb : ∀ x : Str, x ≠ "__name__" → mb x = bootBuiltins x) (lim : s₁.heap.NoLimit) (gens : s₁.gens = #[])
    (ha : s₁.heap.get? a = some { cls := .type "list", data := .seq vs.toArray }) (hi : IntsAre vs ns) (hl : ns.length ≤ sizeLine) (room : Room k callerA)
    (F : ∀ base : Heap, K.In base → base.Ns mainGlobals mg → FnOkG P w K mg base k fa fd [x] sp) (bnd : ∀ (s : Shared) (u : Value), BindsTo s fd ⟨[u], []⟩ [(x, u)])
    (pr : ∀ H : Hp, Only H → SqL K H a (ns.map V.int) → sp [.ref a] H (fun v _ => v = .bl true) E0) :
    codeAny (model P w) callerA (.call (.ref fa) ⟨[.ref a], []⟩) (fun r s' => r = .ok (.ret (.bool true)) ∧ OldK s₁.heap s'.heap ∧ s'.os = s₁.os ∧ AllBare s'.gens) s₁ := by
  have rv := vals_ints hi
  have main : ∀ H : Hp, Only H → SqL K H a (ns.map V.int) → HOk P w H s₁.heap → (∀ b u, H b = some u → b = a ∧ K.lookup a = none) →
      codeAny (model P w) callerA (.call (.ref fa) ⟨[.ref a], []⟩) (fun r s' => r = .ok (.ret (.bool true)) ∧ OldK s₁.heap s'.heap ∧ s'.os = s₁.os ∧ AllBare s'.gens) s₁ := by
    intro H only sq hok own
    have free : ∀ b, (b = a → K.lookup a ≠ none) → H b = none := fun b hn => by
      cases q : H b with
      | none => rfl
      | some u => exact absurd (own b u q).2 (hn (own b u q).1)
    have dictN : ∀ {b : Addr} {o : Obj} {es : Array DictEntry} {ep : Nat}, s₁.heap.get? b = some o → o.data = .dict es ep → H b = none := fun {b o es ep} e d => by
      cases q : H b with
      | none => rfl
      | some u =>
        obtain ⟨rfl, _⟩ := own b u q
        rw [ha] at e
        cases e
        cases d
    have nsB : ∀ {b : Addr} {m : Str → Option Value}, s₁.heap.Ns b m → (hidT s₁.heap H).Ns b m := fun {b m} ⟨o, es, ep, e, d, r⟩ => ⟨o, es, ep, hidT_get e (dictN e d), d, r⟩
    have kB : K.In (hidT s₁.heap H) := fun b o e => hidT_get (KX b o e) (free b fun z q => by rw [z, q] at e; cases e)
    have md : Mod K mg (hidT s₁.heap H) := ⟨kB, nsB hns, ⟨mb, nsB hb, hbb⟩, let ⟨mc, h1, h2⟩ := lim; ⟨mc, nsB h1, h2⟩⟩
    have ev : Env0 P w K mg (hidT s₁.heap H) callerA [] s₁ H := ⟨rfl, md, fun _ _ e => of_hidT e, Nat.le_of_eq (hidT_size _ _), trivial, fun b z => absurd (show b ∈ ([] : List Addr) from z) (by simp), hok, .of_eq gens⟩
    refine codeAny_mono ((F _ kB (nsB hns)).run callerA [] s₁ H ⟨[.ref a], []⟩ [.ref a] [.ref a] _ _ rfl room ev (bnd s₁ (.ref a)) (.cons rfl .nil) (pr H only sq)) fun r s' h => ?_
    match r, h with
    | .error e, h => exact (show False from h).elim
    | .ok .next, h => exact h.elim
    | .ok .brk, h => exact h.elim
    | .ok .cont, h => exact h.elim
    | .ok (.ret u), ⟨v, H', os, bare, un, hok', r', q⟩ =>
      obtain rfl : v = .bl true := q
      obtain rfl : u = Value.bool true := r'
      refine ⟨rfl, OldK.of_keep fun b o e => ?_, os, bare⟩
      rcases only b with z | ⟨ob, xs, z⟩
      · exact un.keep b o e z (fun y => absurd (show b ∈ ([] : List Addr) from y) (by simp)) (by simp)
      · have e1 := (hok b _ z).1
        rw [e] at e1
        cases e1
        exact (hok' b _ (un.frzs b _ _ z)).1
  cases hk : K.lookup a with
  | some o =>
    have e := KX a o hk
    rw [ha] at e
    cases e
    refine main (fun _ => none) (fun _ => .inl rfl) (.inr ⟨_, vs.toArray, _, hk, rfl, rfl, rfl, ?_, by simpa using rv⟩) (fun b u z => nomatch z) fun b u z => nomatch z
    rw [List.size_toArray, hi.length]
    exact hl
  | none =>
    have at_ : ∀ b u, (if b = a then some (HO.frz { cls := .type "list", data := .seq vs.toArray } (.lst (ns.map V.int))) else none) = some u → b = a ∧ u = HO.frz { cls := .type "list", data := .seq vs.toArray } (.lst (ns.map V.int)) := fun b u z => by
      by_cases c : b = a
      · rw [if_pos c] at z
        exact ⟨c, (Option.some.inj z).symm⟩
      · rw [if_neg c] at z
        cases z
    refine main (fun b => if b = a then some (.frz { cls := .type "list", data := .seq vs.toArray } (.lst (ns.map V.int))) else none) (fun b => ?_) (.inl (.inr ⟨_, if_pos rfl⟩)) (fun b u z => ?_) fun b u z => ⟨(at_ b u z).1, hk⟩
    · by_cases c : b = a
      · exact .inr ⟨_, _, if_pos c⟩
      · exact .inl (if_neg c)
    · obtain ⟨rfl, rfl⟩ := at_ b u z
      exact ⟨ha, by rw [List.length_map]; exact hl, vs, _, rv, ha⟩
theorem walk_ofG {l : PySem.W.OpenLaw} {n k : Nat} {q : Program} {loose : List Str} {XP : (Str → Option Value) → Heap → Prop} {YP : World → Heap → Prop} {d : DefRec} {x : Str}
    (hn : l.most = some n) (hn2 : n ≤ sizeLine) (hdf : d.params.defaults = []) (hr : Room k callerA)
    (F : ∀ (w : World) (mg : Str → Option Value) (fa : Addr) (h : Heap), YP w h → h.Ns mainGlobals mg → mg d.name = some (.ref fa) →
      ∃ (K : PySem.W.Frag) (fd : FuncData) (sp : Sp), K.In h ∧ (∀ (s : Shared) (u : Value), BindsTo s fd ⟨[u], []⟩ [(x, u)]) ∧ (∀ (H : Hp) (a : Addr) (ns : List Int), ns.length ≤ n → Only H → SqL K H a (ns.map V.int) → sp [.ref a] H (fun v _ => v = .bl true) E0) ∧
        ∀ base : Heap, K.In base → base.Ns mainGlobals mg → FnOkG l.prog w K mg base k fa fd [x] sp) :
    PySem.W.WalkO q loose XP YP l.row.toRowW d [] (fun f vs => PySem.call f vs) := by
  refine Att.attach_call hn hdf fun w s₀ s₁ mg mb fa o pm cd doc a vs ns G Y ho hd hcd hmg hobj hints hlen hg => ?_
  obtain ⟨K, fd, sp, inK, bnd, pr, keeps⟩ := F w mg fa _ Y G.T.g hmg
  exact law_callG inK G.T.g G.T.b G.T.builtins G.T.nolimit hg hobj hints (Nat.le_trans hlen hn2) hr keeps bnd fun H only sq => pr H a ns hlen only sq
end Wl

/-! two hundred, and one more. -/
namespace Wl
open PySem PySem.Spec PyProof.Rows L2
section
variable {P : Program} {w : World} {K : PySem.W.Frag} {mg : Str → Option Value} {base : Heap} {f C D cM cL : Addr} {x : XA} {fd : FuncData}
/-- a def that may raise, where it is known that it doesn't -/
theorem FnOk_calm {k : Nat} {ps : List Str} {sp sp' : Sp} (F : FnOk P w K mg base (L2N.CX P w) k f fd ps sp) (h : ∀ vs H Q E, sp' vs H Q E → sp vs H Q fun _ _ _ => False) : FnOk P w K mg base CX0 k f fd ps sp' :=
  ⟨fun vs H Q E z => F.len vs H Q _ (h vs H Q E z), fun A outer s H args us vs Q E hr e0 hb r z => codeAny_mono (F.run A outer s H args us vs Q _ hr e0 hb r (h vs H Q E z)) fun r s' z => by
    cases r with
    | error e =>
      obtain ⟨_, _, _, _, _, _, _, _, _, _, _, _, z⟩ := z
      exact z
    | ok fl => cases fl <;> exact z⟩
theorem Has_calm {n : Str} {k : Nat} {ps : List Str} {sp sp' : Sp} (F : HasX P w K mg base n k ps sp) (h : ∀ vs H Q E, sp' vs H Q E → sp vs H Q fun _ _ _ => False) : Has P w K mg base n k ps sp' := by
  obtain ⟨f, fd, F, g, kp, b⟩ := F
  exact ⟨f, fd, FnOk_calm F h, g, kp, b⟩
def spJoinG (C D : Addr) : Sp := fun vs H Q _ => ∃ p q r s wd, vs = [.ref p, .ref q] ∧ TwoAt C D H p q r s wd ∧ (∀ t ∈ r.ts, t.v ∈ names r.g) ∧ (∀ t ∈ s.ts, t.v ∈ names r.g) ∧ clashT r.ts s.ts = [] ∧ (joinT r.ts s.ts).length ≤ 200 ∧
  ∀ (u : Addr) (j : GR) (H' : Hp), Same H H' → GatAt C D H' u j → j.g = r.g → j.ts = joinT r.ts s.ts → j.ds = [] → H j.td = none → H j.dd = none → Q (.ref u) H'
theorem joinG (h : HasX P w K mg base "joined" 6 ["one", "other"] (spJoinA K C D cM cL x)) : Has P w K mg base "joined" 6 ["one", "other"] (spJoinG C D) :=
  Has_calm h fun vs H Q E ⟨p, q, r, s, wd, e, t, v1, v2, c, l, z⟩ => .inr ⟨p, q, r, s, wd, e, t, v1, v2, fun n => (n c).elim, fun _ l2 => absurd l2 (by omega), fun _ _ => z⟩
def spClashG (C D : Addr) : Sp := fun vs H Q _ => ∃ p q r s wd, vs = [.ref p, .ref q] ∧ TwoAt C D H p q r s wd ∧ ∀ (u : Addr) (ks : List Addr) (H' : Hp), Same H H' → H' u = some (.tup (ks.map V.ref)) → KysAt H' ks (clashK r.ts s.ts) → Q (.ref u) H'
theorem clashG (h : HasX P w K mg base "clashes" 4 ["one", "other"] (spClashA K C D cM)) : Has P w K mg base "clashes" 4 ["one", "other"] (spClashG C D) :=
  Has_calm h fun vs H Q E ⟨p, q, r, s, wd, e, t, z⟩ => .inr ⟨p, q, r, s, wd, e, t, z⟩
end
end Wl


/-! An own exception class without own __init__, raised with a text: no own dict. -/
namespace Wl
open PySem PySem.Spec PyProof.Rows L2
structure OwnN (K : PySem.W.Frag) (mg : Str → Option Value) (x : Str) (C : Addr) : Prop where
  gC : mg x = some (.ref C)
  kC : PySem.W.keepIn K (.ref C) = true
  bas : ∃ B newId initId bm, BaseX B newId initId bm ∧ PySem.W.excIn K C bm newId = true
  exC : PySem.W.subIn K (.ref C) (.type "BaseException") = some true
  tyC : PySem.W.typeIn K (.ref C) = some (.type "type")
section
variable {X : Cx} {C : Addr}
theorem ps_raiseN {x m : Str} {j : Nat} {W : WX} {p p2 pos pos2 : Pos} (hc : X.calm = true) (T : OwnN X.K X.mg x C) (tk : L2N.Takes X W) (hg : Gl X x := by rfl) (hdb : (x == ("__debug__" : Str)) = false := by decide) :
    PS X (.Raise (some (.Call (.Name x p) [.Constant (.str m) j p2] [] pos)) none pos2) (fun _ σ H => W (.ref C) none σ H) := by
  obtain ⟨B, nI, iI, bm, BX, q⟩ := T.bas
  exact L2N.ps_raise hc tk (L2N.pmk_own BX.base q T.gC T.kC (raises_own T.exC T.tyC) hg hdb)
end
end Wl

/-! Calls that may raise, where the clause that catches reads locals: what is wished of the exception knows the slots. -/
namespace Wl
open PySem PySem.Spec PyProof.Rows L2
section
variable {X : Cx} {k j : Nat} {f C : Addr} {fd : FuncData} {ps : List Str} {sp : Sp} {x m : Str} {p pos apos : Pos} {e o : Expr} {es : List Expr} {ta : TE} {t : TA} {W : WX}
theorem run_fnS {pins : List (Addr × Obj)} {σ : L2.St} {H : Hp} {s : Shared} {Q : VK} {us : List Value} {vs : List V} (F : FnOk X.prog X.w X.K X.mg X.base (L2N.CX X.prog X.w) k f fd ps sp) (hr : Room k X.A) (hb : Binds X.K fd ps []) (tk : L2N.Takes X W)
    (I : Inv X pins σ H s) (r : Vals vs us) (h : sp vs H Q (fun cls d H => W cls d σ H)) : wpAny (model X.prog X.w) X.A (call (.ref f) us) (EP X pins σ Q) X.xe s := by
  have hl : us.length = ps.length := by rw [← r.length]; exact F.len _ _ _ _ h
  have bb : BindsTo s fd ⟨us, []⟩ (ps.zip us) := by
    have b0 := hb s us I.kIn (by rw [List.append_nil]; exact hl)
    rw [List.append_nil] at b0
    exact b0
  refine wpAny_call (codeAny_mono (F.run X.A X.stack s H ⟨us, []⟩ us vs Q _ hr I.env0 bb r h) fun r s' hq => ?_)
  cases r with
  | error e => exact tk e s' (L2N.XE.of_call I (fun _ _ _ h => h) hq)
  | ok fl =>
    cases fl with
    | ret u => exact I.after hq
    | next => exact False.elim hq
    | brk => exact False.elim hq
    | cont => exact False.elim hq
def tCallS (sp : Sp) (W : WX) (t : TA) : TE := fun σ H Q => t σ H fun vs H1 => sp vs H1 Q (fun cls d H => W cls d σ H)
def tMethS (C : Addr) (m : Str) (sp : Sp) (W : WX) (ta : TE) (t : TA) : TE := fun σ H Q => ta σ H fun x H1 => ∃ a dx fs, x = .ref a ∧ H1 a = some (.ins C dx fs) ∧ fs.lookup m = none ∧ t σ H1 fun vs H2 => sp (x :: vs) H2 Q (fun cls d H => W cls d σ H)
theorem pe_hxS (h : HasX X.prog X.w X.K X.mg X.base x k ps sp) (hr : Room j X.A) (tk : L2N.Takes X W) (ha : PA X (e :: es) t) (hkj : k ≤ j := by decide) (hg : Gl X x := by rfl) (hdb : (x == ("__debug__" : Str)) = false := by decide)
    (he : starEach (e :: es) X.env = (false, eval e X.env) :: starEach es X.env := by rfl) (hpl : (backTo pos (starEach es X.env)).any (·.1) = false := by rfl) :
    PE X (.Call (.Name x p) (e :: es) [] pos) (tCallS sp W t) := by
  obtain ⟨f, fd, F, g, kp, b⟩ := h
  refine ⟨fun pins s σ H Q I h => ?_⟩
  refine wpAny_Call_Name_kw (ld_glob I hg g ?_ hdb)
  refine PySem.W.callWith_K (h₀ := X.base) I.ok.mod.kin kp (thn (ha.run pos pins s σ H _ I h) fun us s1 ⟨vs, H1, I1, r, q⟩ => ⟨I1.kIn, ?_⟩) he hpl
  exact run_fnS F (hr.mono hkj) b tk I1 r q
theorem pe_hmxS {pl : Sem Bool} (h : HasMX X.prog X.w X.K X.mg X.base C m k ps sp) (c : Cls X.K C) (hr : Room j X.A) (tk : L2N.Takes X W) (ho : PE X o ta) (ha : PA X (e :: es) t) (hkj : k ≤ j := by decide)
    (hst : starEach (e :: es) X.env = (false, eval e X.env) :: starEach es X.env := by rfl) (hpl : (backTo pos (starEach es X.env)).any (·.1) = false := by rfl)
    (ht : eval (.Call (.Attribute o m apos) (e :: es) [] pos) X.env = (do
      let ov ← eval o X.env
      standAt apos.atName
      let (f, first) ← holding [ov] (getMethod ov m pl)
      callWith pos f first (backTo pos (starEach (e :: es) X.env)) (backToKw pos (keywordEach [] X.env))) := by rfl) :
    PE X (.Call (.Attribute o m apos) (e :: es) [] pos) (tMethS C m sp W ta t) := by
  obtain ⟨f, fd, F, g, b⟩ := h
  refine ⟨fun pins s σ H Q I h => ?_⟩
  refine PySem.W.methodCall_KW (pl := pl) (thn (ho.run pins s σ H _ I h) fun u s1 ⟨x, H1, I1, rx, a, dx, fs, ex, ea, l, q⟩ => ?_) ht
  subst ex
  obtain rfl : u = Value.ref a := rx
  refine getmeth_ok I1 ea c g l ?_
  refine PySem.W.callWith_K (first := [.ref a]) (h₀ := X.base) I.ok.mod.kin g.kp (thn (ha.run pos pins s1 σ H1 _ I1 q) fun us s2 ⟨vs, H2, I2, r, q2⟩ => ⟨I2.kIn, ?_⟩) hst hpl
  exact run_fnS (us := .ref a :: us) (vs := .ref a :: vs) F (hr.mono hkj) b tk I2 (.cons rfl r) q2
theorem pe_hmx0S {pl : Sem Bool} (h : HasMX X.prog X.w X.K X.mg X.base C m k ps sp) (c : Cls X.K C) (hr : Room j X.A) (tk : L2N.Takes X W) (ho : PE X o ta) (hkj : k ≤ j := by decide)
    (ht : eval (.Call (.Attribute o m apos) [] [] pos) X.env = (do
      let ov ← eval o X.env
      standAt apos.atName
      let (f, first) ← holding [ov] (getMethod ov m pl)
      callWith pos f first (backTo pos (starEach [] X.env)) (backToKw pos (keywordEach [] X.env))) := by rfl) :
    PE X (.Call (.Attribute o m apos) [] [] pos) (tMethS C m sp W ta tNil) := by
  obtain ⟨f, fd, F, g, b⟩ := h
  refine ⟨fun pins s σ H Q I h => ?_⟩
  refine PySem.W.methodCall_KW (pl := pl) (thn (ho.run pins s σ H _ I h) fun u s1 ⟨x, H1, I1, rx, a, dx, fs, ex, ea, l, q⟩ => ?_) ht
  subst ex
  obtain rfl : u = Value.ref a := rx
  refine getmeth_ok I1 ea c g l ?_
  exact PySem.W.callWith_K0 (first := [.ref a]) I1.kIn g.kp (run_fnS (us := [.ref a]) (vs := [.ref a]) F (hr.mono hkj) b tk I1 (.cons rfl .nil) q)
end
end Wl

namespace Wl
open PySem PySem.Spec PyProof.Rows L2
section
variable {P : Program} {w : World} {K : PySem.W.Frag} {mg : Str → Option Value} {base : Heap} {f C D cB : Addr} {fd : FuncData}
/-! ### back where nothing is left to take back -/
def spBackR (cB C D : Addr) : Sp := fun vs H Q E => ∃ (p : Addr) (r : GR), vs = [.ref p] ∧ GatAt C D H p r ∧ r.ds = [] ∧ E (.ref cB) none H
theorem ok_backR (F : Fun K "back" "Gathering.back" sGBack f fd) (TG : TxtG K mg D) (TB : OwnN K mg "NoBack" cB) : FnOk P w K mg base (L2N.CX P w) 1 f fd ["self"] (spBackR cB C D) := by
  refine Fun_okN F scBack (fun vs H Q E h => ?_) (fun cdv A outer s H vs Q E hr h => ?_)
  · obtain ⟨p, r, rfl, _⟩ := h
    rfl
  · obtain ⟨p, r, rfl, hG, hds, q⟩ := h
    refine ⟨_, pss_cons (ps_if (pt_not (pt_truth (pe_fld (pv 0) rfl) (fun _ => rfl))) (pss_one (ps_raiseN rfl TB (L2N.takes_of rfl rfl rfl rfl))) pss_nil) pss_never, ?_⟩
    obtain ⟨dx, hp⟩ := hG.at_
    refine ⟨_, rfl, p, D, dx, _, _, rfl, hp, TG.cl, TG.nD, gf_deeds _ _ _, !r.ds.isEmpty, .inl ⟨_, .inl (.inl hG.deeds), rfl⟩, ?_⟩
    rw [hds]
    exact iteT q
def spBackX (cB C D : Addr) : Sp := fun vs H Q E => spBack C D vs H Q E ∨ spBackR cB C D vs H Q E
theorem w_hit {Wout : WX} {D : Ends} {m : Value → Option Bool} {ts : ClT} {r : List ((Value → Option Bool) × ClT)} {cls : Value} {d : Option Addr} {σ : L2.St} {H : Hp} (h : m cls = some true) (k : ∀ a, H a = none → ts a D σ (upd H a (exH a cls d))) : wCls Wout D ((m, ts) :: r) cls d σ H :=
  ⟨true, h, fun _ => k, fun z => by cases z⟩
end
end Wl


namespace Wl
open PySem PySem.Spec PyProof.Rows L2
/-! what is meant: village, thing, meaning -/
/-! lists of tuples, one field of each, some of them -/
section
variable {α : Type} {val : α → List V}
end
section
variable {J : It} {ys : List V} {G : Hp → Prop} {slot : Nat} {tt : TT} {te : TE} {vs : List Nat} {σ : L2.St} {H1 : Hp} {D : Addr} {Qd : Hp → Prop}
/-- [e for x in ys if t]: the test makes objects, e is told by R -/
theorem lc_relX (wk : L2.Walk J ys.length G (YAt ys)) (hD : H1 D = none) (keep : V → Bool) (R : V → V → Hp → Prop) (hG : ∀ H, Same H1 H → G H)
    (hw : ∀ x, wipe ((wipe σ vs).set slot (some x)) vs = wipe σ vs)
    (ht : ∀ (x : V) (H : Hp), x ∈ ys → Same H1 H → ∀ Q : Bool → Hp → Prop, (∀ H', Same H H' → Q (keep x) H') → tt ((wipe σ vs).set slot (some x)) H Q)
    (he : ∀ (x : V) (H : Hp), x ∈ ys → keep x = true → Same H1 H → ∀ Q : VK, (∀ y H', Same H H' → R x y H' → Q y H') → te ((wipe σ vs).set slot (some x)) H Q)
    (hR : ∀ x y H H' acc, H D = some (.lst acc) → SameX D H H' → R x y H → R x y H')
    (hn : ys.length < sizeLine)
    (hd : ∀ zs H, Same H1 H → H D = some (.lst zs) → Each (fun x z => R x z H) (ys.filter keep) zs → Qd H) :
    ∃ W : Nat → Nat → Hp → Prop, (∃ m, W 0 m (upd H1 D (.lst []))) ∧ ∀ i m H, W i m H →
      (J.stop i H ∧ Qd H) ∨ (J.go i H ∧ ∃ Nx : Hp → Prop, (∀ H', Nx H' → ∃ m', m' < m ∧ W (i + 1) m' H') ∧ ∀ x H', J.yld i H x H' → gName slot x (wipe σ vs) H' fun σ2 H2 => wipe σ2 vs = wipe σ vs ∧ tt σ2 H2 fun b H3 =>
        if b = true then te σ2 H3 fun y H4 => ∃ acc, H4 D = some (.lst acc) ∧ acc.length < sizeLine ∧ Nx (upd H4 D (.lst (acc ++ [y]))) else Nx H3) := by
  refine lc_it wk (fun i H => ∃ zs, Same H1 H ∧ H D = some (.lst zs) ∧ Each (fun x z => R x z H) ((ys.take i).filter keep) zs) ⟨[], same_new hD, upd_same, by simpa using Each.nil⟩ (fun i H _ h => ?_) ?_ ?_
  · obtain ⟨zs, s, _⟩ := h
    exact hG H s
  · rintro i x H H' hi ⟨zs, s, hz, ez⟩ ⟨rfl, hx⟩
    have hm : x ∈ ys := List.mem_of_getElem? hx
    refine ⟨hw x, ht x _ hm s _ fun H3 s3 => ?_⟩
    have hf := filter_take_snoc (p := keep) hx
    have hz3 := s3 _ _ hz
    have ez3 : Each (fun x z => R x z H3) ((ys.take i).filter keep) zs := ez.mono fun a b r => hR _ _ _ _ _ hz (sx s3) r
    refine ite_b (fun e => ?_) (fun e => ?_)
    · refine he x _ hm e (s.trans s3) _ fun y H4 s4 r4 => ⟨zs, s4 _ _ hz3, ?_, zs ++ [y], same_mut ((s.trans s3).trans s4) hD, upd_same, ?_⟩
      · have h1 := ez.length
        have h2 : ((ys.take i).filter keep).length ≤ (ys.take i).length := List.length_filter_le _ _
        have h3 : (ys.take i).length ≤ ys.length := List.length_take_le' _ _
        omega
      · rw [hf, if_pos e]
        have hD4 := s4 _ _ hz3
        refine Each.append (ez3.mono fun a b r => ?_) (.cons ?_ .nil)
        · exact hR _ _ _ _ _ hz3 (fun b o n h => by rw [upd_ne n]; exact s4 _ _ h) r
        · exact hR _ _ _ _ _ hD4 sameX_upd r4
    · refine ⟨zs, s.trans s3, hz3, ?_⟩
      rw [hf, if_neg (by rw [e]; decide), List.append_nil]
      exact ez3
  · rintro H ⟨zs, s, hz, ez⟩
    rw [List.take_length] at ez
    exact hd zs H s hz ez
end
end Wl



/-! the KEYs that the law finds. -/
namespace Wl
open PySem PySem.Spec PyProof.Rows L2
abbrev sClashing : Stmt := topS 63
def likeT (t u : Tel) : Bool := decide (kyOf u = kyOf t) && decide (u ≠ t)
def lawT (ts us : List Tel) : List Tel := ts.flatMap fun t => us.filter (likeT t)
theorem perm_or {α : Type} {p q : α → Bool} : ∀ {us : List α}, (∀ u ∈ us, ¬ (p u = true ∧ q u = true)) → (us.filter p ++ us.filter q).Perm (us.filter fun u => p u || q u)
  | [], _ => .nil
  | u :: r, h => by
    have ih := perm_or (p := p) (q := q) (us := r) fun v hv => h v (List.mem_cons_of_mem _ hv)
    have hu := h u List.mem_cons_self
    cases hp : p u <;> cases hq : q u
    · simp only [List.filter_cons, hp, hq, Bool.false_eq_true, if_false, Bool.or_self]
      exact ih
    · simp only [List.filter_cons, hp, hq, Bool.false_eq_true, if_false, if_true, Bool.or_true]
      exact List.perm_middle.trans (ih.cons u)
    · simp only [List.filter_cons, hp, hq, Bool.false_eq_true, if_false, if_true, Bool.or_false, List.cons_append]
      exact ih.cons u
    · exact absurd ⟨hp, hq⟩ hu
theorem like_sym (t u : Tel) : (decide (kyOf t = kyOf u) && decide (t ≠ u)) = likeT t u := by
  unfold likeT
  rw [Bool.eq_iff_iff, Bool.and_eq_true, Bool.and_eq_true, decide_eq_true_eq, decide_eq_true_eq, decide_eq_true_eq, decide_eq_true_eq]
  exact ⟨fun ⟨a, b⟩ => ⟨a.symm, b.symm⟩, fun ⟨a, b⟩ => ⟨a.symm, b.symm⟩⟩
theorem law_perm (us : List Tel) : ∀ {ts : List Tel}, (ts.map keyS).Nodup → (lawT ts us).Perm (clashT ts us)
  | [], _ => by
    show List.Perm [] (clashT [] us)
    unfold clashT
    rw [List.filter_eq_nil_iff.mpr fun u _ => by simp]
  | t :: r, h => by
    rw [List.map_cons, List.nodup_cons] at h
    have ih := law_perm us h.2
    show (us.filter (likeT t) ++ lawT r us).Perm _
    refine ((List.Perm.append_left _ ih).trans (perm_or fun u _ => ?_)).trans ?_
    · rintro ⟨h1, h2⟩
      unfold likeT at h1
      rw [Bool.and_eq_true, decide_eq_true_eq] at h1
      obtain ⟨t', ht', h3⟩ := List.any_eq_true.mp h2
      rw [Bool.and_eq_true, decide_eq_true_eq] at h3
      exact h.1 (List.mem_map.mpr ⟨t', ht', (ky_keyS t' t).mp (h3.1.trans h1.1)⟩)
    · unfold clashT
      refine List.Perm.of_eq (congrArg (fun g => us.filter g) ?_)
      funext u
      rw [List.any_cons, like_sym]
theorem law_keys {ts us : List Tel} (h : (ts.map keyS).Nodup) : sortE kyD ((lawT ts us).map kyOf) = clashK ts us := (sortE_perm ky_inj).mpr ((law_perm us h).map kyOf)
theorem lawT_len (us : List Tel) : ∀ ts : List Tel, (lawT ts us).length ≤ ts.length * us.length
  | [] => Nat.zero_le _
  | t :: r => by
    have := lawT_len us r
    show (us.filter (likeT t) ++ lawT r us).length ≤ _
    rw [List.length_append, List.length_cons, Nat.succ_mul]
    have := List.length_filter_le (likeT t) us
    omega
section
variable {P : Program} {w : World} {K : PySem.W.Frag} {mg : Str → Option Value} {base : Heap} {f : Addr} {fd : FuncData}
abbrev nClashing : List Str := ["_law_kept_here", "_law_others", "_law_found", "_law_row_here", "_law_old"]
abbrev psClashing : List Str := ["_law_kept_here", "_law_others"]
theorem scClashing : FnScope nClashing psClashing (defScope sClashing) := ⟨rfl, rfl, rfl, by decide +kernel, rfl, by decide +kernel, by decide +kernel⟩
def spClashing : Sp := fun vs H Q _ => ∃ (l1 l2 : Addr) (bs cs : List Addr) (ts us : List Tel), vs = [.ref l1, .ref l2] ∧ H l1 = some (.lst (bs.map V.ref)) ∧ TelsAt H bs ts ∧ H l2 = some (.lst (cs.map V.ref)) ∧ TelsAt H cs us ∧ (∀ t ∈ ts, OkT t) ∧ (∀ t ∈ us, OkT t) ∧ (ts.map keyS).Nodup ∧ ts.length ≤ 20 ∧ us.length ≤ 20 ∧
  ∀ (u : Addr) (qs : List Addr) (H' : Hp), Same H H' → H' u = some (.tup (qs.map V.ref)) → KysAt H' qs (clashK ts us) → Q (.ref u) H'
abbrev tLike (K : PySem.W.Frag) : TT := tAnd (tTest (tOp (rEqD K) (tCall spKeyOf [] E0 (tCons (tVar 4) tNil)) (tCall spKeyOf [] E0 (tCons (tVar 3) tNil)))) (tTest (tOp (rNeD K) (tVar 4) (tVar 3)))
theorem ok_clashing (F : Fun K "_law_clashing" "_law_clashing" sClashing f fd) (B : Bi mg) (hKey : Has P w K mg base "_law_key" 1 ["_law_row_here"] spKeyOf) : FnOk P w K mg base CX0 2 f fd psClashing spClashing := by
  refine F.ok scClashing (fun vs H Q E h => ?_) (fun cdv A outer s H vs Q E hr h => ?_)
  · obtain ⟨l1, l2, bs, cs, ts, us, rfl, _⟩ := h
    rfl
  · obtain ⟨l1, l2, bs, cs, ts, us, rfl, hl1, hT1, hl2, hT2, ok1, ok2, nd, n1, n2, q⟩ := h
    refine ⟨_, pss_cons (ps_set (i := 2) scClashing.nd rfl (.inl rfl) (pe_lst pa_nil))
      (pss_cons (ps_for PassesOwn.never rfl (pi_list (pv 0)) (pg_name (i := 3) scClashing.nd rfl (.inr rfl))
        (pss_one (ps_set (i := 2) scClashing.nd rfl (.inl rfl) (pe_op op_cat (pv 2) (pe_lc (own := [("_law_old", 4)]) (g := gName 4) (tt := tLike K) (te := tCall spKeyOf [] E0 (tCons (tVar 3) tNil)) rfl scClashing.nd (pi_list (pv 1)) (blkOk_by (N := nClashing) (sc := defScope sClashing) (by decide +kernel))
          (fun _ _ _ _ _ => pg_name (i := 4) scClashing.nd rfl (.inl rfl)) (fun _ _ _ _ _ => pts_one (PW.pt (pw_and (pt_cmpR (op_eqD hr.units) (pe_h hKey hr (pa_cons (pv 4) pa_nil)) (pe_h hKey hr (pa_cons (pv 3) pa_nil)) (nomark _)) (pw_and1 (pt_cmpR (op_neD hr.units) (pv 4) (pv 3) (nomark _)))))) (fun _ _ _ _ _ => pe_h hKey hr (pa_cons (pv 3) pa_nil)))))))
      (pss_one (ps_ret (pe_callTy call_tuple_of (by rfl) B.tuple (by decide +kernel) (pa_cons (pe_callB (cr_sortD hr.units) (by rfl) B.sorted (by decide +kernel) (pa_cons (pv 2) pa_nil)) pa_nil))))), ?_⟩
    refine ⟨lz, fun f0 nf0 => ?_⟩
    have s0 := same_new (o := .lst []) nf0
    have lb : bs.length = ts.length := hT1.length
    refine ⟨_, rfl, l1, rfl, ⟨_, .inl (.inl (s0 _ _ hl1))⟩, for_list (K := K) (a := l1) (xs := bs.map V.ref) (fun i σ H' => (∃ fo y3 y4, σ = [some (.ref l1), some (.ref l2), some (.ref fo), y3, y4] ∧ ∃ qs : List Addr, H' fo = some (.lst (qs.map V.ref)) ∧ KysAt H' qs ((lawT (ts.take i) us).map kyOf)) ∧ Same H H')
      ⟨⟨f0, _, _, rfl, [], upd_same, .nil⟩, s0⟩ (fun i σ H' _ h => .inl (.inl (h.2 _ _ hl1))) ?_ ?_⟩
    · rintro i x σ H3 hx ⟨⟨fo, y3, y4, rfl, qs, hfo, hQ⟩, s3⟩
      rw [List.getElem?_map] at hx
      obtain ⟨pb, hpb, rfl⟩ := Option.map_eq_some_iff.mp hx
      obtain ⟨t, ht, hH⟩ := Each.get hT1 hpb
      have okt := ok1 t (List.mem_of_getElem? ht)
      have hl23 := s3 _ _ hl2
      have hT23 := hT2.keep (tk_same s3)
      have hH3 := s3 _ _ hH
      refine ⟨_, rfl, _, rfl, l2, rfl, ⟨_, .inl (.inl hl23)⟩, fun Dd nDd => ?_⟩
      refine lc_relX (walk_list (K := K) (a := l2) (xs := cs.map V.ref)) nDd (keepBy H3 (likeT t)) (fun x y H' => ∃ q, y = V.ref q ∧ ∀ (pt : Addr) (u : Tel), x = .ref pt → H3 pt = some (.tup (telV u)) → H' q = some (.tup (kyV (kyOf u)))) (fun H' s' => .inl (.inl (s' _ _ hl23))) (fun _ => rfl) ?_ ?_ ?_ ?_ ?_
      · intro x H' hx s' Q' q'
        obtain ⟨pu, hpu, rfl⟩ := List.mem_map.mp hx
        obtain ⟨j, hj, ej⟩ := List.mem_iff_getElem.mp hpu
        obtain ⟨u, hu, hU⟩ := Each.get hT23 (i := j) (a := pu) (by rw [List.getElem?_eq_getElem hj, ej])
        have oku := ok2 u (List.mem_of_getElem? hu)
        rw [keepBy_at hU] at q'
        refine ⟨_, rfl, pu, u, rfl, s' _ _ hU, fun k1 nk1 => ⟨_, rfl, pb, t, rfl, (same_new nk1) _ _ (s' _ _ hH3), fun k2 nk2 => ?_⟩⟩
        have s12 := (same_new (o := .tup (keyV u)) nk1).trans (same_new (o := .tup (keyV t)) nk2)
        refine ⟨kyD (kyOf u), kyD (kyOf t), dp_ky ((same_new nk2) _ _ upd_same), dp_ky upd_same, shaped_ky (okky oku), shaped_ky (okky okt), _, rfl, ?_⟩
        rw [ky_eqv]
        unfold likeT at q'
        by_cases e : kyOf u = kyOf t
        · rw [decide_eq_true e] at q' ⊢
          refine iteT ⟨_, rfl, _, rfl, telD u, telD t, dp_tel (s12 _ _ (s' _ _ hU)), dp_tel (s12 _ _ (s' _ _ hH3)), shaped_tel oku, shaped_tel okt, _, rfl, ?_⟩
          rw [tel_eqv]
          have := q' _ s12
          by_cases e2 : u = t
          · rw [decide_eq_true e2]
            rw [decide_eq_false (by rw [e2]; simp)] at this
            exact this
          · rw [decide_eq_false e2]
            rw [decide_eq_true e2] at this
            exact this
        · rw [decide_eq_false e] at q' ⊢
          exact iteF (q' _ s12)
      · intro x H' hx hkx s' Q' q'
        obtain ⟨pu, hpu, rfl⟩ := List.mem_map.mp hx
        obtain ⟨j, hj, ej⟩ := List.mem_iff_getElem.mp hpu
        obtain ⟨u, hu, hU⟩ := Each.get hT23 (i := j) (a := pu) (by rw [List.getElem?_eq_getElem hj, ej])
        rw [keepBy_at hU] at hkx
        unfold likeT at hkx
        rw [Bool.and_eq_true, decide_eq_true_eq] at hkx
        refine ⟨_, rfl, pb, t, rfl, s' _ _ hH3, fun k1 nk1 => q' _ _ (same_new nk1) ⟨k1, rfl, fun pt2 t2 e2 h2 => ?_⟩⟩
        obtain rfl : pu = pt2 := V.ref.inj e2
        rw [hU] at h2
        rw [← telV_inj (HO.tup.inj (Option.some.inj h2)), hkx.1]
        exact upd_same
      · rintro x y H' H'' acc hacc xs' ⟨kq, e, h⟩
        exact ⟨kq, e, fun pt t ep ht => xs' _ _ (ne_of (h pt t ep ht) hacc (by intro z; cases z)) (h pt t ep ht)⟩
      · rw [List.length_map, hT2.length]
        exact small1000 (by omega)
      · intro zs H5 s5 hD5 hE
        obtain ⟨bs', eb, hB'⟩ := tels_filter (pr := likeT t) hT23 hT23
        rw [List.map_id] at eb
        rw [eb] at hE
        obtain ⟨qs2, rfl, hQ2⟩ := told_kys hB' hE
        have l1' := hQ.length
        have l2' := hQ2.length
        rw [List.length_map] at l1' l2'
        have b1 := lawT_len us (ts.take i)
        have b2 := List.length_filter_le (likeT t) us
        have b3 : (ts.take i).length * us.length ≤ 20 * 20 := Nat.mul_le_mul (by rw [List.length_take]; omega) n2
        refine ⟨fo, Dd, _, _, rfl, rfl, s5 _ _ hfo, hD5, lzl (by simp only [List.length_map]; omega), fun rr nrr => ⟨⟨rr, _, _, rfl, qs ++ qs2, by rw [upd_same, List.map_append], ?_⟩, (s3.trans s5).trans (same_new nrr)⟩⟩
        have e1 : lawT (ts.take (i + 1)) us = lawT (ts.take i) us ++ us.filter (likeT t) := by
          unfold lawT
          rw [take_snoc ht, List.flatMap_append]
          simp
        rw [e1, List.map_append]
        exact Each.append ((hQ.same s5).same (same_new nrr)) (hQ2.same (same_new nrr))
    rintro σ H3 ⟨⟨fo, y3, y4, rfl, qs, hfo, hQ⟩, s3⟩
    rw [List.length_map, lb, List.take_length] at hQ
    have hR := kys_each hQ
    refine ⟨_, rfl, ?_⟩
    unfold tNil
    refine sort_enc (K := K) (enc := kyD) (.inl (.inl hfo)) (hR.mono fun x k ⟨pk, hx, hpk⟩ => by rw [hx]; exact dp_ky hpk) ky_alike (fun k => ⟨_, _, rfl⟩) ky_depth fun p9 ys hp9 hy => ?_
    obtain ⟨ks, rfl, hK8⟩ := kys_of (hy _ hR)
    rw [law_keys nd] at hK8
    refine ⟨p9, _, rfl, .inl ⟨.inl (.inl upd_same), fun u hu => ?_⟩⟩
    have s10 := (same_new (o := .lst (ks.map V.ref)) hp9).trans (same_new (o := .tup (ks.map V.ref)) hu)
    exact q u ks _ (s3.trans s10) upd_same (hK8.same s10)
end
end Wl

/-! nothing is left to take back. -/
namespace Wl
open PySem PySem.Spec PyProof.Rows L2
abbrev sNoBack : Stmt := topS 64
section
variable {P : Program} {w : World} {K : PySem.W.Frag} {mg : Str → Option Value} {base : Heap} {f C D cB : Addr} {fd : FuncData}
def spNoBack (C D : Addr) : Sp := fun vs H Q _ => ∃ (p : Addr) (r : GR), vs = [.ref p] ∧ GatAt C D H p r ∧ r.ds = [] ∧ ∀ H', Same H H' → Q (.bl true) H'
theorem scNoBack : FnScope ["_law_basket"] ["_law_basket"] (defScope sNoBack) := ⟨rfl, rfl, rfl, by decide +kernel, rfl, by decide +kernel, by decide +kernel⟩
theorem ok_noback (F : Fun K "_law_no_back" "_law_no_back" sNoBack f fd) (TG : TxtG K mg D) (TB : OwnN K mg "NoBack" cB) (mBB : PySem.W.exmOne K (.ref cB) (.ref cB) = some true) (hBk : HasMX P w K mg base D "back" 1 ["self"] (spBackX cB C D)) : FnOk P w K mg base CX0 2 f fd ["_law_basket"] (spNoBack C D) := by
  refine F.ok scNoBack (fun vs H Q E h => ?_) (fun cdv A outer s H vs Q E hr h => ?_)
  · obtain ⟨p, r, rfl, _⟩ := h
    rfl
  · obtain ⟨p, r, rfl, hG, hds, q⟩ := h
    refine ⟨_, pss_cons (ps_tryE (l := [(fun cls => PySem.W.exmOne K cls (.ref cB), fun _ => tRet (tC (.bl true)))]) rfl rfl rfl scNoBack.nd takes_noN
        (fun W pn xe tk po => pss_one (ps_expr (pe_hmx0S hBk TG.cl hr tk (pv 0))))
        (.one (test_one ⟨by rfl, by decide, .inl TB.gC⟩) (fun a pn => pss_one (ps_ret pe_bl)) .nil))
      (pss_one (ps_ret pe_bl)), ?_⟩
    obtain ⟨dx, hp⟩ := hG.at_
    refine ⟨_, rfl, p, dx, _, rfl, hp, gf_no _ _ _, .inr ⟨p, r, rfl, hG, hds, w_hit mBB fun ea hea => ?_⟩⟩
    exact q _ (same_new hea)
end
end Wl

/-! t[::-1], t a tuple. -/
namespace Wl
open PySem PySem.Spec PyProof.Rows L2
theorem places_back (n : Nat) : Builtin.Slice.slicePlaces ((n : Int) - 1) (-1) (-1) = n := by
  unfold Builtin.Slice.slicePlaces
  rw [if_neg (by decide : ¬ ((-1 : Int) > 0)), show (- -1 : Int) = 1 from rfl, Int.ediv_one]
  split <;> omega
theorem pick_back (xs : Array Value) : ((List.range xs.size).filterMap fun (k : Nat) => xs[((xs.size : Int) - 1 + (k : Int) * -1).toNat]?).toArray = xs.toList.reverse.toArray := by
  have := PySem.W.krv_pick xs
  unfold slicePick at this
  have e : sliceBounds none none (some (-1)) xs.size = ((xs.size : Int) - 1, -1, -1) := by simp [sliceBounds]
  rw [e, PySem.W.krv_sliceRange, List.filterMap_map] at this
  rw [← this]
  congr 1
  have key : ∀ (l : List Nat), (∀ k ∈ l, k < xs.size) → (l.filterMap fun (k : Nat) => xs[((xs.size : Int) - 1 + (k : Int) * -1).toNat]?) = l.filterMap ((fun x => xs[x]?) ∘ fun k => xs.size - 1 - k) := by
    intro l
    induction l with
    | nil => intro _; rfl
    | cons k r ih =>
      intro hk
      have h1 := hk k List.mem_cons_self
      have e : ((xs.size : Int) - 1 + (k : Int) * -1).toNat = xs.size - 1 - k := by omega
      rw [List.filterMap_cons, List.filterMap_cons, ih fun j hj => hk j (List.mem_cons_of_mem _ hj), e]
      rfl
  exact key _ fun k hk => List.mem_range.mp hk
section
variable {prog : Program} {w : World} {A : Around} {E : Value → Shared → Prop} {s : Shared}
theorem item_back {t sl : Addr} {items : Array Value} {vl vu vs : Value} {Q : Value → Shared → Prop} (ht : s.heap.IsTuple t items) (hs : s.heap.IsSliceOf sl vl vu vs) (pl : IsPart vl none) (pu : IsPart vu none) (ps : IsPart vs (some (-1)))
    (h : Q (.ref s.heap.objs.size) { s with heap := s.heap.push { cls := .type "tuple", data := .seq items.toList.reverse.toArray } }) (hz : items.size ≤ sizeLine) : wpAny (model prog w) A (getItem (.ref t) (.ref sl)) Q E s := by
  obtain ⟨os, hos, hcs, hds⟩ := id hs
  have hTs : s.TypeIs (.ref sl) "slice" := ⟨os, hos, hcs⟩
  have hso : sizeOk (.seq items.toList.reverse.toArray) := by
    show items.toList.reverse.toArray.size ≤ sizeLine
    rw [List.size_toArray, List.length_reverse, Array.length_toList]
    exact hz
  unfold getItem
  refine wpAny_holding (wpAny_bind (wpAny_sequenceKey ht.typeIs (by decide) (wpAny_bind (wpAny_callSpecial?_slot (name := Str.ofString "__getitem__") ht.typeIs PyProof.Rows.slot_tuple_getitem (wpAny_call_entry PyProof.Rows.slot_tuple_getitem ht.typeIs entry_tuple_getitem ?_ (args_tuple_getitem _ _))))))
  refine (show wpAny _ _ (Builtin.Tuple.tupleItemsOf (.ref t) >>= _) _ _ s from wpAny_bind (PyProof.Rows.tupleItemsOf_ ht (wpAny_bind (wpAny_typeOf hTs ?_))))
  rw [if_pos (by decide)]
  refine wpAny_bind ?_
  unfold Builtin.Slice.sliceApplied Builtin.Slice.sliceFields
  refine wpAny_bind (wpAny_bind (wpAny_field hos hds (x := vl) rfl (wpAny_bind (wpAny_field hos hds (x := vu) rfl (wpAny_bind (wpAny_field hos hds (x := vs) rfl (wpAny_pure (wpAny_bind (HT.slicePart_ ps ?_)))))))))
  show wpAny _ _ (if ((-1 : Int) == 0) = true then _ else _) _ _ s
  rw [if_neg (by decide)]
  refine wpAny_bind (HT.slicePart_ pl (wpAny_bind (HT.slicePart_ pu (wpAny_bind (wpAny_pure ?_)))))
  show wpAny _ _ (pure ((items.size : Int) - 1, (-1 : Int), Builtin.Slice.slicePlaces ((items.size : Int) - 1) (-1) (-1))) _ _ s
  rw [places_back]
  refine wpAny_pure ?_
  show wpAny _ _ (if (((items.size : Int) - 1 == 0) && ((-1 : Int) == 1) && (items.size == items.size)) = true then _ else _) _ _ s
  rw [if_neg (by simp), pick_back]
  first
    | exact wpAny_bind (m := Builtin.Tuple.tupleExact _) (wpAny_newObj_type (wpAny_pure ⟨_, rfl, wpAny_pure h⟩) hso)
    | exact wpAny_bind (m := Builtin.Tuple.tupleExact _) (wpAny_newObj_type (wpAny_bind (wpAny_pure (wpAny_pure ⟨_, rfl, wpAny_pure h⟩))) hso)
    | exact wpAny_bind (wpAny_bind (m := Builtin.Tuple.tupleExact _) (wpAny_newObj_type (wpAny_pure (wpAny_pure ⟨_, rfl, wpAny_pure h⟩)) hso))
    | exact wpAny_bind (wpAny_bind (m := Builtin.Tuple.tupleExact _) (wpAny_newObj_type (wpAny_pure ⟨_, rfl, wpAny_pure h⟩) hso))
end
def tRevT (K : PySem.W.Frag) (te : TE) : TE := fun σ H Q => te σ H fun x H1 => ∃ a xs, x = .ref a ∧ SqT K H1 a xs ∧ ∀ p, H1 p = none → Q (.ref p) (upd H1 p (.tup xs.reverse))
theorem pe_revT {X : Cx} {e : Expr} {te : TE} {k : Nat} {p1 p2 p3 pos : Pos} (he : PE X e te) : PE X (.Subscript e (.Slice none none (some (.UnaryOp .USub (.Constant (.int 1) k p1) p2)) p3) pos) (tRevT X.K te) := by
  refine ⟨fun pins s σ H Q I h => Subscript_ (thn (he.run pins s σ H _ I h) fun v s1 ⟨x, H1, I1, r1, a, xs, ex, hx, q⟩ => ?_)⟩
  subst ex
  cases r1
  have hst : PO X (some (.UnaryOp .USub (.Constant (.int 1) k p1) p2)) (tPart (tUn (rU fun i => .int (-i)) (tC (.int 1)))) := po_some (pe_un un_neg pe_int)
  refine wpAny_Slice (thn (po_none.run pins s1 σ H1 (fun o H2 => o = none ∧ H2 = H1) I1 ⟨rfl, rfl⟩) fun vl s2 ⟨l, H2, I2, pl, el, e2⟩ => ?_)
  subst el e2
  refine thn (po_none.run pins s2 σ H2 (fun o H3 => o = none ∧ H3 = H2) I2 ⟨rfl, rfl⟩) fun vu s3 ⟨u, H3, I3, pu, eu, e3⟩ => ?_
  subst eu e3
  refine thn (hst.run pins s3 σ H3 (fun o H4 => o = some (-1) ∧ H4 = H3) I3 ⟨1, rfl, -1, rfl, rfl, rfl⟩) fun vs s4 ⟨o, H4, I4, ps, eo, e4⟩ => ?_
  subst eo e4
  have J : L2.Inv X pins σ H4 { s4 with heap := s4.heap.push { cls := .type "slice", data := .fields #[vl, vu, vs] } } := I4.kept (t' := s4.toks) fun b ob q => Heap.get?_push_of_some _ q
  obtain ⟨its, r, ht, hz⟩ := J.tuple hx
  have hlen := r.length
  show wpAny (model X.prog X.w) X.A (subscriptTail e (.Slice none none (some (.UnaryOp .USub (.Constant (.int 1) k p1) p2)) p3) (.ref a) (.ref s4.heap.objs.size)) _ _ _
  refine tail_any (ops := [.ref a, .ref s4.heap.objs.size]) ht.typeIs (PyProof.Rows.slot_tuple_getitem.lookup) ?_ (by with_unfolding_all rfl)
  refine item_back ht (Heap.IsSliceOf.new _ vl vu vs) pl pu ps ?_ (by rw [List.size_toArray]; omega)
  refine ⟨.ref _, _, J.laid (t' := s4.toks) (o := .tup xs.reverse) (fun b ob q => Heap.get?_push_of_some _ q) (Nat.le_refl _) ?_, rfl, q _ (J.hok.fresh (Nat.le_refl _))⟩
  exact ⟨by rw [List.length_reverse]; exact hz, _, r.reverse, ⟨_, Heap.get?_push_size _ rfl, rfl, 0, rfl⟩⟩
end Wl

/-! Rules of ours: an object of an own class beside things of other kinds, by == and != -/
namespace Wl
open PySem PySem.Spec PyProof.Rows L2
section
variable {M : Model} {prog : Program} {w : World} {A : Around} {E : Value → Shared → Prop} {s : Shared} {K : PySem.W.Frag} {x C dx : Addr} {od : Option Obj}
theorem dec_none {Q : Fin → Shared → Prop} (hq : Q (.done (.ret .notImplemented)) s) : wpAny M A (Builtin.«NoneType.__eq__» ⟨[.none, .ref x], []⟩) Q E s := by
  unfold Builtin.«NoneType.__eq__»
  refine wpAny_bind (m := slotArgs "__eq__" 1 _) (wpAny_pure ?_)
  exact wpAny_pure hq
theorem dec_int {v : Value} {Q : Fin → Shared → Prop} (hv : (∃ n t, v = .int n t) ∨ ∃ b, v = .bool b) (ho : s.heap.get? x = some (PySem.W.instObj C dx)) (hq : Q (.done (.ret .notImplemented)) s) : wpAny M A (Builtin.«int.__eq__» ⟨[v, .ref x], []⟩) Q E s := by
  show wpAny M A (slotArgs "__eq__" 1 _ >>= _) Q E s
  refine wpAny_bind (wpAny_pure ?_)
  rcases hv with ⟨n, t, rfl⟩ | ⟨b, rfl⟩
  all_goals
    refine wpAny_bind (wpAny_pure ?_)
    refine wpAny_bind (m := asInt? (.ref x)) ?_
    unfold asInt?
    refine wpAny_bind (wpAny_load ho ?_)
    exact wpAny_pure (wpAny_bind (wpAny_rule (wpAny_pure hq)))
theorem dec_str {z : Str} {t : Tok} {Q : Fin → Shared → Prop} (ho : s.heap.get? x = some (PySem.W.instObj C dx)) (hq : Q (.done (.ret .notImplemented)) s) : wpAny M A (Builtin.«str.__eq__» ⟨[.str z t, .ref x], []⟩) Q E s := by
  unfold Builtin.«str.__eq__» Builtin.Str.strCompare
  refine wpAny_bind (wpAny_pure ?_)
  refine wpAny_bind (m := asStr? (.ref x)) ?_
  unfold asStr?
  refine wpAny_bind (wpAny_load ho ?_)
  exact wpAny_pure (wpAny_bind (wpAny_rule (wpAny_pure hq)))
theorem isin_own {T : String} (X : K.In s.heap) (I : PySem.W.InstAt s.heap x (PySem.W.instObj C dx) C od) (hm : PySem.W.mroIn K C (.type T) = some false) : PySem.W.Looks M s.heap (isInstance (.ref x) (.type T)) false := by
  unfold isInstance
  exact I.type.andThen (PySem.W.looks_mroIn X hm)
theorem dec_list {v : Value} {Q : Fin → Shared → Prop} (X : K.In s.heap) (I : PySem.W.InstAt s.heap x (PySem.W.instObj C dx) C od) (hm : PySem.W.mroIn K C (.type "list") = some false) (hq : Q (.done (.ret .notImplemented)) s) : wpAny M A (Builtin.«list.__eq__» ⟨[v, .ref x], []⟩) Q E s := by
  show wpAny M A (slotArgs "__eq__" 1 _ >>= _) Q E s
  refine wpAny_bind (wpAny_pure ?_)
  refine wpAny_bind (m := isInstance (.ref x) (.type "list")) ((isin_own X I hm).here ?_)
  exact wpAny_pure hq
theorem dec_tup {v : Value} {Q : Fin → Shared → Prop} (X : K.In s.heap) (I : PySem.W.InstAt s.heap x (PySem.W.instObj C dx) C od) (hm : PySem.W.mroIn K C (.type "tuple") = some false) (hq : Q (.done (.ret .notImplemented)) s) : wpAny M A (Builtin.«tuple.__eq__» ⟨[v, .ref x], []⟩) Q E s := by
  show wpAny M A (slotArgs "__eq__" 1 _ >>= _) Q E s
  refine wpAny_bind (wpAny_pure ?_)
  refine wpAny_bind (m := isInstance (.ref x) (.type "tuple")) ((isin_own X I hm).here ?_)
  exact wpAny_pure hq
theorem dec_dict {a : Addr} {Q : Fin → Shared → Prop} (hT : s.TypeIs (.ref a) "dict") (X : K.In s.heap) (I : PySem.W.InstAt s.heap x (PySem.W.instObj C dx) C od) (hm : PySem.W.mroIn K C (.type "dict") = some false) (hq : Q (.done (.ret .notImplemented)) s) : wpAny (model prog w) A (Builtin.«dict.__eq__» ⟨[.ref a, .ref x], []⟩) Q E s := by
  show wpAny (model prog w) A (Builtin.Dict.dictSlotArgs "__eq__" ⟨[.ref a, .ref x], []⟩ >>= _) Q E s
  refine wpAny_bind ?_
  unfold Builtin.Dict.dictSlotArgs
  refine wpAny_bind (wpAny_notOrdered_dict hT ?_)
  refine wpAny_pure ?_
  refine wpAny_bind (m := isInstance (.ref x) (.type "dict")) ((isin_own X I hm).here ?_)
  exact wpAny_bind (wpAny_rule (wpAny_pure hq))
theorem rc_back {v : Value} {T id : String} {f : Addr} {Q : Value → Shared → Prop} (hu : A.units < cLine) (X : K.In s.heap) (I : PySem.W.InstAt s.heap x (PySem.W.instObj C dx) C od) (hT : s.TypeIs v T) (hm : PySem.W.mroIn K C (.type T) = some false) (hs : Slot T (cmpInfo .Eq).2.1 id)
    (hd : ∀ Q' : Value → Shared → Prop, Q' .notImplemented s → wpAny (model prog w) A (call (.builtin id) [v, .ref x]) Q' E s)
    (he : PySem.W.findIn K (.ref C) "__eq__" = some (some (.ref f))) (hf : PySem.W.isFn K (.ref f) = true)
    (h : wpAny (model prog w) A (call (.ref f) [.ref x, v]) (fun r s' => ∃ c, r = .bool c ∧ Q r s') E s) : wpAny (model prog w) A (richCompare .Eq v (.ref x)) Q E s := by
  have one : wpAny (model prog w) A (tryCompare v "__eq__" (.ref x)) (fun r s' => r = none ∧ s' = s) E s := wpAny_tryCompare_declines hT hs (hd _ ⟨rfl, rfl, rfl⟩)
  have two : wpAny (model prog w) A (tryCompare (.ref x) "__eq__" v) (fun r s' => ∃ v, r = some v ∧ Q v s') E s := by
    unfold tryCompare
    refine wpAny_bind (PySem.W.ifBound_K X I he hf (wpAny_mono h (fun r s' hv => ?_) fun _ _ e => e))
    obtain ⟨c, rfl, q⟩ := hv
    exact wpAny_pure ⟨_, rfl, q⟩
  simp only [richCompare, cmpInfo_Eq, hT.oneThing_none]
  refine wpAny_holding (wpAny_bind (wpAny_cRoomFor hu ?_))
  refine wpAny_bind (wpAny_typeOf hT (wpAny_bind (I.type.here ?_)))
  split
  · refine wpAny_bind ((PySem.W.looks_mroIn X hm).here ?_)
    simp only [Bool.false_eq_true, if_false, Bool.not_false, if_true]
    refine wpAny_bind (m := tryCompare v _ (.ref x)) (wpAny_mono one (fun r s1 z => ?_) fun _ _ e => e)
    obtain ⟨z1, z2⟩ := z
    subst z1
    subst z2
    refine wpAny_bind (m := tryCompare (.ref x) _ v) (wpAny_mono two (fun r s2 z => ?_) fun _ _ e => e)
    obtain ⟨r2, rfl, q⟩ := z
    exact wpAny_pure q
  · rename_i q
    exact absurd (by simp) q
end
/-- x != y, x of an own class whose == is a def of its own -/
theorem ne_T {A : Around} {E : Value → Shared → Prop} {s : Shared} {prog : Program} {w : World} {K : PySem.W.Frag} {x C f : Addr} {y tb : Value} {ox : Obj} {od : Option Obj} {Q : Value → Shared → Prop} (hu : A.units + 2 < cLine) (X : K.In s.heap) (I : PySem.W.InstAt s.heap x ox C od) (hb : PySem.W.Looks (model prog w) s.heap (typeOf y) tb) (hn : PySem.W.notFirst K C tb = true) (N : NeC K C) (he : PySem.W.findIn K (.ref C) "__eq__" = some (some (.ref f))) (hf : PySem.W.isFn K (.ref f) = true)
    (h : wpAny (model prog w) A.in1 (call (.ref f) [.ref x, y]) (fun v s' => ∃ c, v = .bool c ∧ Q (.bool (!c)) s') E s) : wpAny (model prog w) A (richCompare .NotEq (.ref x) y) Q E s := by
  have one : wpAny (model prog w) A (tryCompare (.ref x) "__ne__" y) (fun r s' => ∃ v, r = some v ∧ Q v s') E s := by
    unfold tryCompare
    refine wpAny_bind (ifBound_B X I N.ne PySem.F.slot_object_ne.bind (wpAny_mono (obj_neK (Q := fun v s' => ∃ c, v = .bool c ∧ Q v s') (by omega) X I N he hf (wpAny_mono h (fun v s' hv => ?_) fun _ _ z => z)) (fun v s' hv => ?_) fun _ _ z => z))
    · obtain ⟨c, rfl, q⟩ := hv
      exact ⟨c, rfl, _, rfl, q⟩
    · obtain ⟨c, rfl, q⟩ := hv
      exact wpAny_pure ⟨_, rfl, q⟩
  unfold richCompare
  simp only [oneThing_ref]
  refine wpAny_holding (wpAny_bind (wpAny_cRoomFor (by omega) ?_))
  refine wpAny_bind (I.type.here (wpAny_bind (hb.here ?_)))
  split
  · rename_i q
    have e : PySem.W.subIn K tb (.ref C) = some false := by
      rcases Bool.or_eq_true_iff.mp hn with e | e
      · rw [beq_iff_eq.mp e] at q; simp at q
      · exact beq_iff_eq.mp e
    refine wpAny_bind ((PySem.W.looks_subIn X e).here ?_)
    simp only [Bool.false_eq_true, if_false]
    refine wpAny_bind (wpAny_mono one (fun r s' z => ?_) fun _ _ e => e)
    obtain ⟨v, rfl, hq⟩ := z
    exact wpAny_pure hq
  · refine wpAny_bind (wpAny_pure ?_)
    simp only [Bool.false_eq_true, if_false]
    refine wpAny_bind (wpAny_mono one (fun r s' z => ?_) fun _ _ e => e)
    obtain ⟨v, rfl, hq⟩ := z
    exact wpAny_pure hq
section
variable {X : Cx} {n : Nat} {f : Addr} {fd : FuncData} {ps : List Str} {sp : Sp} {C : Addr}
theorem look_ty {pins : List (Addr × Obj)} {s : Shared} {σ : L2.St} {H : Hp} {y : V} {u t : Value} (I : L2.Inv X pins σ H s) (ry : RelV y u) (ty : TyX X.K H y t) : PySem.W.Looks (model X.prog X.w) s.heap (typeOf u) t := by
  obtain ⟨Pr, k, hP, _⟩ := kit_of I ry ty
  exact k.ty _ _ I.kIn hP
/-- x == y, x of an own class -/
def rEqT (K : PySem.W.Frag) (C : Addr) (sp : Sp) (g : Bool → Bool) : R2 := fun x y H Q => ∃ a dx fs t, x = V.ref a ∧ H a = some (.ins C dx fs) ∧ TyX K H y t ∧ PySem.W.notFirst K C t = true ∧ sp [.ref a, y] H (fun v H' => ∃ c, v = .bl c ∧ Q (.bl (g c)) H') E0
theorem rc_eqT {A : Around} {pins : List (Addr × Obj)} {s : Shared} {σ : L2.St} {H : Hp} {a dx : Addr} {fs : List (Str × V)} {y : V} {u t : Value} {Q : Bool → Hp → Prop} (F : FnOk X.prog X.w X.K X.mg X.base CX0 n f fd ps sp) (hb : Binds X.K fd ps []) (m : Meth X.K C "__eq__" f) (sb : Sub X n A) (I : L2.Inv X pins σ H s)
    (ha : H a = some (.ins C dx fs)) (ry : RelV y u) (ty : TyX X.K H y t) (hn : PySem.W.notFirst X.K C t = true) (hsp : sp [.ref a, y] H (fun v H' => ∃ c, v = .bl c ∧ Q c H') E0) :
    wpAny (model X.prog X.w) A (richCompare .Eq (.ref a) u) (fun v s' => ∃ c, v = .bool c ∧ ∃ H', L2.Inv X pins σ H' s' ∧ Q c H') X.xe s := by
  obtain ⟨mA, J, _⟩ := ins_get I.hok ha
  obtain ⟨od, J, _⟩ := J.look
  obtain ⟨m', hF⟩ := I.fr
  have r2 : Vals [V.ref a, y] [Value.ref a, u] := .cons rfl (.cons ry .nil)
  refine PySem.W.cmp_K (op := .Eq) (tb := t) sb.room.units0 hF I.ok.mod.kin J (look_ty I ry ty) hn m.at_ m.fn (wpAny_mono (run_own F hb sb I r2 hsp) (fun v s' hq => ?_) fun _ _ z => z)
  obtain ⟨z, H', I', rz, c, rfl, q⟩ := hq
  cases rz
  exact ⟨c, rfl, H', I', q⟩
theorem op_eqT (F : FnOk X.prog X.w X.K X.mg X.base CX0 n f fd ps sp) (hb : Binds X.K fd ps []) (m : Meth X.K C "__eq__" f) (hr : Room n X.A) : OpR X (compareOp .Eq) (rEqT X.K C sp id) := by
  intro pins s σ H x y v u Q I rx ry h
  obtain ⟨a, dx, fs, t, rfl, ha, ty, hn, hsp⟩ := h
  cases rx
  show wpAny (model X.prog X.w) X.A (richCompare .Eq (.ref a) u) (EP X pins σ Q) X.xe s
  refine wpAny_mono (rc_eqT F hb m ⟨hr, rfl⟩ I ha ry ty hn hsp) (fun v s' hq => ?_) fun _ _ z => z
  obtain ⟨c, rfl, H', I', q⟩ := hq
  exact ⟨.bl c, H', I', rfl, q⟩
theorem op_neT (F : FnOk X.prog X.w X.K X.mg X.base CX0 n f fd ps sp) (hb : Binds X.K fd ps []) (m : Meth X.K C "__eq__" f) (N : NeC X.K C) (hr : Room (n + 1) X.A) : OpR X (compareOp .NotEq) (rEqT X.K C sp not) := by
  intro pins s σ H x y v u Q I rx ry h
  obtain ⟨a, dx, fs, t, rfl, ha, ty, hn, hsp⟩ := h
  cases rx
  obtain ⟨mA, J, _⟩ := ins_get I.hok ha
  obtain ⟨od, J, _⟩ := J.look
  have r2 : Vals [V.ref a, y] [Value.ref a, u] := .cons rfl (.cons ry .nil)
  show wpAny (model X.prog X.w) X.A (richCompare .NotEq (.ref a) u) (EP X pins σ Q) X.xe s
  refine ne_T (room_u2 hr) I.kIn J (look_ty I ry ty) hn N m.at_ m.fn (wpAny_mono (run_own F hb (Sub.in1 ⟨hr, rfl⟩) I r2 hsp) (fun v s' hq => ?_) fun _ _ z => z)
  obtain ⟨z, H', I', rz, c, rfl, q⟩ := hq
  cases rz
  exact ⟨c, rfl, .bl (!c), H', I', rfl, q⟩
/-- things that are of no own class -/
inductive OthV (H : Hp) : V → String → Prop where
  | non : OthV H .non "NoneType"
  | bl (b : Bool) : OthV H (.bl b) "bool"
  | int (i : Int) : OthV H (.int i) "int"
  | str (z : Str) : OthV H (.str z) "str"
  | lst {a : Addr} {xs : List V} (e : H a = some (.lst xs)) : OthV H (.ref a) "list"
  | tup {a : Addr} {xs : List V} (e : H a = some (.tup xs)) : OthV H (.ref a) "tuple"
  | dK {a : Addr} {kvs : List (Key × V)} (e : H a = some (.dK kvs)) : OthV H (.ref a) "dict"
theorem OthV.ty {K : PySem.W.Frag} {H : Hp} {y : V} {T : String} (h : OthV H y T) : TyX K H y (.type T) := by
  cases h with
  | non => exact .base .non
  | bl b => exact .base (.bl b)
  | int i => exact .base (.int i)
  | str z => exact .base (.str z)
  | lst e => exact .base (.lst e)
  | tup e => exact .base (.tup e)
  | dK e => exact .base (.dK e)
theorem mro7 : fastBuiltinMro "NoneType" = some [.type "NoneType", .type "object"] ∧ fastBuiltinMro "bool" = some [.type "bool", .type "int", .type "object"] ∧ fastBuiltinMro "int" = some [.type "int", .type "object"] ∧ fastBuiltinMro "str" = some [.type "str", .type "object"] ∧ fastBuiltinMro "list" = some [.type "list", .type "object"] ∧ fastBuiltinMro "tuple" = some [.type "tuple", .type "object"] ∧ fastBuiltinMro "dict" = some [.type "dict", .type "object"] := by
  refine ⟨?_, ?_, ?_, ?_, ?_, ?_, ?_⟩ <;> decide +kernel
theorem OthV.notFirst {K : PySem.W.Frag} {C : Addr} {H : Hp} {y : V} {T : String} (h : OthV H y T) : PySem.W.notFirst K C (.type T) = true := by
  have m := mro7
  have go : ∀ (T : String) (l : List Value), fastBuiltinMro T = some l → (l.contains (.ref C)) = false → PySem.W.notFirst K C (.type T) = true := fun T l e1 e2 => by
    show (Value.type T == .ref C || ((fastBuiltinMro T).map (·.contains (.ref C))) == some false) = true
    rw [e1]
    show (Value.type T == .ref C || some (l.contains (.ref C)) == some false) = true
    rw [e2]
    simp
  cases h with
  | non => exact go _ _ m.1 (by simp)
  | bl b => exact go _ _ m.2.1 (by simp)
  | int i => exact go _ _ m.2.2.1 (by simp)
  | str z => exact go _ _ m.2.2.2.1 (by simp)
  | lst e => exact go _ _ m.2.2.2.2.1 (by simp)
  | tup e => exact go _ _ m.2.2.2.2.2.1 (by simp)
  | dK e => exact go _ _ m.2.2.2.2.2.2 (by simp)
end
end Wl

/-! y == x, x of an own class, y of no own class; x in ys -/
namespace Wl
open PySem PySem.Spec PyProof.Rows L2
/-- the built-in kinds a class is no kind of -/
structure NoKind (K : PySem.W.Frag) (C : Addr) : Prop where
  non : PySem.W.mroIn K C (.type "NoneType") = some false
  bl : PySem.W.mroIn K C (.type "bool") = some false
  int : PySem.W.mroIn K C (.type "int") = some false
  str : PySem.W.mroIn K C (.type "str") = some false
  lst : PySem.W.mroIn K C (.type "list") = some false
  tup : PySem.W.mroIn K C (.type "tuple") = some false
  dK : PySem.W.mroIn K C (.type "dict") = some false
section
variable {X : Cx} {n : Nat} {f : Addr} {fd : FuncData} {ps : List Str} {sp : Sp} {C : Addr}
theorem rc_eqR {A : Around} {pins : List (Addr × Obj)} {s : Shared} {σ : L2.St} {H : Hp} {a dx : Addr} {fs : List (Str × V)} {y : V} {u : Value} {T : String} {Q : Bool → Hp → Prop} (F : FnOk X.prog X.w X.K X.mg X.base CX0 n f fd ps sp) (hb : Binds X.K fd ps []) (m : Meth X.K C "__eq__" f) (N : NoKind X.K C) (sb : Sub X n A) (I : L2.Inv X pins σ H s)
    (ha : H a = some (.ins C dx fs)) (ry : RelV y u) (o : OthV H y T) (hsp : sp [.ref a, y] H (fun v H' => ∃ c, v = .bl c ∧ Q c H') E0) :
    wpAny (model X.prog X.w) A (richCompare .Eq u (.ref a)) (fun v s' => ∃ c, v = .bool c ∧ ∃ H', L2.Inv X pins σ H' s' ∧ Q c H') X.xe s := by
  obtain ⟨mA, J, _⟩ := ins_get I.hok ha
  have hob := J.obj
  obtain ⟨od, J, _⟩ := J.look
  have r2 : Vals [V.ref a, y] [Value.ref a, u] := .cons rfl (.cons ry .nil)
  have hu := sb.room.units0
  have run : wpAny (model X.prog X.w) A (call (.ref f) [.ref a, u]) (fun r s' => ∃ c, r = .bool c ∧ ∃ c', r = .bool c' ∧ ∃ H', L2.Inv X pins σ H' s' ∧ Q c' H') X.xe s := wpAny_mono (run_own F hb sb I r2 hsp) (fun v s' hq => by
    obtain ⟨z, H', I', rz, c, rfl, q⟩ := hq
    cases rz
    exact ⟨c, rfl, c, rfl, H', I', q⟩) fun _ _ z => z
  cases o with
  | non =>
    obtain rfl : u = Value.none := ry
    exact rc_back hu I.kIn J (T := "NoneType") rfl N.non PySem.F.slot_NoneType_eq (fun Q' q => wpAny_call_entry PySem.F.slot_NoneType_eq rfl PySem.F.entry_NoneType_eq (dec_none ⟨_, rfl, q⟩) (PySem.F.args_NoneType_eq_2 _ _)) m.at_ m.fn run
  | bl b =>
    obtain rfl : u = Value.bool b := ry
    exact rc_back hu I.kIn J (T := "bool") rfl N.bl PySem.F.slot_bool_eq (fun Q' q => wpAny_call_entry PySem.F.slot_bool_eq rfl PySem.F.entry_int_eq (dec_int (.inr ⟨b, rfl⟩) hob ⟨_, rfl, q⟩) (PySem.F.args_int_eq_2 _ _)) m.at_ m.fn run
  | int i =>
    obtain ⟨t, rfl⟩ := ry
    exact rc_back hu I.kIn J (T := "int") rfl N.int PySem.F.slot_int_eq (fun Q' q => wpAny_call_entry PySem.F.slot_int_eq rfl PySem.F.entry_int_eq (dec_int (.inl ⟨i, t, rfl⟩) hob ⟨_, rfl, q⟩) (PySem.F.args_int_eq_2 _ _)) m.at_ m.fn run
  | str z =>
    obtain ⟨t, rfl⟩ := ry
    exact rc_back hu I.kIn J (T := "str") rfl N.str PySem.F.slot_str_eq (fun Q' q => wpAny_call_entry PySem.F.slot_str_eq rfl PySem.F.entry_str_eq (dec_str hob ⟨_, rfl, q⟩) (PySem.F.args_str_eq_2 _ _)) m.at_ m.fn run
  | lst e =>
    rename_i l xs
    obtain rfl : u = Value.ref l := ry
    obtain ⟨its, r, ⟨ob, k, e1, e2, _⟩, _⟩ := I.list (.inl (.inl e))
    have hT : s.TypeIs (.ref l) "list" := ⟨ob, e1, e2⟩
    exact rc_back hu I.kIn J (T := "list") hT N.lst PySem.F.slot_list_eq (fun Q' q => wpAny_call_entry PySem.F.slot_list_eq hT PySem.F.entry_list_eq (dec_list I.kIn J N.lst ⟨_, rfl, q⟩) (PySem.F.args_list_eq_2 _ _)) m.at_ m.fn run
  | tup e =>
    rename_i l xs
    obtain rfl : u = Value.ref l := ry
    obtain ⟨its, r, ⟨ob, e1, e2, _⟩, _⟩ := I.tuple (.inl (.inl e))
    have hT : s.TypeIs (.ref l) "tuple" := ⟨ob, e1, e2⟩
    exact rc_back hu I.kIn J (T := "tuple") hT N.tup PySem.F.slot_tuple_eq (fun Q' q => wpAny_call_entry PySem.F.slot_tuple_eq hT PySem.F.entry_tuple_eq (dec_tup I.kIn J N.tup ⟨_, rfl, q⟩) (PySem.F.args_tuple_eq_2 _ _)) m.at_ m.fn run
  | dK e =>
    rename_i l kvs
    obtain rfl : u = Value.ref l := ry
    obtain ⟨_, _, vs, _, d⟩ := I.hok l _ e
    have hT : s.TypeIs (.ref l) "dict" := d.typeIs
    exact rc_back hu I.kIn J (T := "dict") hT N.dK PySem.F.slot_dict_eq (fun Q' q => wpAny_call_entry PySem.F.slot_dict_eq hT PySem.F.entry_dict_eq (dec_dict hT I.kIn J N.dK ⟨_, rfl, q⟩) (PySem.F.args_dict_eq_2 _ _)) m.at_ m.fn run
/-- y == x, y of no own class, x of an own one -/
def rEqR (C : Addr) (sp : Sp) : R2 := fun y x H Q => ∃ a dx fs T, x = V.ref a ∧ H a = some (.ins C dx fs) ∧ OthV H y T ∧ sp [.ref a, y] H (fun v H' => ∃ c, v = .bl c ∧ Q (.bl c) H') E0
theorem op_eqR (F : FnOk X.prog X.w X.K X.mg X.base CX0 n f fd ps sp) (hb : Binds X.K fd ps []) (m : Meth X.K C "__eq__" f) (N : NoKind X.K C) (hr : Room n X.A) : OpR X (compareOp .Eq) (rEqR C sp) := by
  intro pins s σ H y x u v Q I ry rx h
  obtain ⟨a, dx, fs, T, rfl, ha, o, hsp⟩ := h
  cases rx
  show wpAny (model X.prog X.w) X.A (richCompare .Eq u (.ref a)) (EP X pins σ Q) X.xe s
  refine wpAny_mono (rc_eqR F hb m N ⟨hr, rfl⟩ I ha ry o hsp) (fun v s' hq => ?_) fun _ _ z => z
  obtain ⟨c, rfl, H', I', q⟩ := hq
  exact ⟨.bl c, H', I', rfl, q⟩
/-- one rule or another -/
theorem op_or {op : Value → Value → Sem Value} {r1 r2 : R2} (h1 : OpR X op r1) (h2 : OpR X op r2) : OpR X op (fun x y H Q => r1 x y H Q ∨ r2 x y H Q) := by
  intro pins s σ H x y v u Q I rx ry h
  rcases h with h | h
  · exact h1 pins s σ H x y v u Q I rx ry h
  · exact h2 pins s σ H x y v u Q I rx ry h
end
end Wl

/-! t * 1, t a tuple: the same tuple -/
namespace Wl
open PySem PySem.Spec PyProof.Rows L2
open AutoSeq1 (wpAny_loadPart') in
theorem tuple_mul1 (l : Addr) (items : Array Value) (n : Nat) (dd : Option Addr) (sl : Array (Option Value)) (u : Tok) :
    Meets (Builtin.«tuple.__mul__» ⟨[.ref l, .int 1 u], []⟩) (fun _ R s => s.heap.get? l = some { cls := .type "tuple", dict := dd, data := .seq items n, slots := sl } ∧ R (.ok (.ret (Value.ref l))) s) :=
  .of_wp fun prog w A R s h => by
    obtain ⟨hp, g, d, tk, os⟩ := s
    obtain ⟨hl, h⟩ := h
    have f1 := AutoSeq1.idx_int
    wp_walk using wpAny_loadPart' hl
    exact ⟨_, rfl, h⟩
section
variable {X : Cx}
def rRep1 (K : PySem.W.Frag) : R2 := fun x y H Q => ∃ l xs, x = .ref l ∧ y = .int 1 ∧ SqT K H l xs ∧ Q (.ref l) H
theorem op_rep1 : OpR X (binaryOp .Mult) (rRep1 X.K) := by
  intro pins s σ H x y v u Q I rx ry h
  obtain ⟨l, xs, rfl, rfl, hT, q⟩ := h
  cases rx
  obtain ⟨t, rfl⟩ := ry
  obtain ⟨its, r, ⟨⟨cls, dd, data, sl⟩, ho, hc, n, hd⟩, hs⟩ := I.tuple hT
  simp only at hc hd
  subst hc hd
  exact wpAny_binaryOp_repeat_ref (T := "tuple") (U := "int") (by decide) ⟨_, ho, rfl⟩ (fun s' => typeIs_int s' 1 t) noFill_tuple_mul F.fills_int_mul F.slot_int_rmul repeat_tuple F.slot_int_index.lookup
    (call_meets F.slot_int_rmul (typeIs_int s 1 t) F.entry_int_rmul (F.args_int_rmul_2 _ _) (int_rmul_tuple 1 t l its.toArray n dd sl) ⟨ho, rfl, ⟨_, ho, rfl⟩, call_meets F.slot_tuple_mul ⟨_, ho, rfl⟩ F.entry_tuple_mul (F.args_tuple_mul_2 _ _) (tuple_mul1 l its.toArray n dd sl t) ⟨ho, .ref l, H, I, rfl, q⟩⟩)
/-- (None,) * n -/
theorem op_repN : OpR X (binaryOp .Mult) (fun x y H Q => rRepT X.K x y H Q ∨ rRep1 X.K x y H Q) := op_or op_repT op_rep1
theorem rep_reads {K : PySem.W.Frag} {H : Hp} {Q : VK} {l : Addr} {v : V} {n : Nat} (h : H l = some (.tup [v])) (h1 : 1 ≤ n) (h2 : n ≤ 100) (q : ∀ p H', Same H H' → H' p = some (.tup (List.replicate n v)) → Q (.ref p) H') : rRepT K (.ref l) (.int (n : Nat)) H Q ∨ rRep1 K (.ref l) (.int (n : Nat)) H Q := by
  by_cases e : n = 1
  · subst e
    exact .inr ⟨l, [v], rfl, rfl, .inl (.inl h), q l H (Same.refl H) h⟩
  · refine .inl ⟨l, n, [v], rfl, rfl, .inl (.inl h), by simp, by omega, by omega, by simp, fun p hp => q p _ (same_new hp) ?_⟩
    rw [upd_same, Int.toNat_natCast]
    congr 2
    clear h q h1 h2 e hp
    induction n with
    | zero => rfl
    | succ n ih => rw [List.replicate_succ, List.replicate_succ, List.flatten_cons, ih]; rfl
end
end Wl

namespace Wl
open PySem PySem.Spec PyProof.Rows L2
theorem each_rev {α β : Type} {R : α → β → Prop} : ∀ {as : List α} {bs : List β}, Each R as bs → Each R as.reverse bs.reverse
  | _, _, .nil => .nil
  | _, _, .cons r t => by
    rw [List.reverse_cons, List.reverse_cons]
    exact Each.append (each_rev t) (.cons r .nil)
/-- eight signs -/
def stS : List Str := (List.range' 97 8).map sign
theorem stS_signs : signsOf ("abcdefgh" : Str) = stS.map V.str := by
  unfold signsOf stS
  rw [show ("abcdefgh" : Str).cps.toList = List.range' 97 8 from by decide +kernel, List.map_map]
  rfl
theorem stS_wd : ∀ z ∈ stS, IsWd z := by decide +kernel
theorem stS_nd : stS.Nodup := by decide +kernel
theorem stranger {p4 : List Str} (h : p4.length ≤ 3) : ∃ z rest, ((signsOf ("abcdefgh" : Str)).filter fun v => !inV v (p4.map V.str)) = V.str z :: rest ∧ IsWd z ∧ z ∉ p4 := by
  have e : ((signsOf ("abcdefgh" : Str)).filter fun v => !inV v (p4.map V.str)) = (stS.filter fun y => decide (y ∉ p4)).map V.str := by
    rw [stS_signs, List.filter_map]
    congr 1
    refine List.filter_congr fun y _ => ?_
    simp only [Function.comp, inV_strs]
    by_cases c : y ∈ p4 <;> simp [c]
  obtain ⟨y0, hy0, hn0⟩ : ∃ z ∈ stS, z ∉ p4 := by
    refine Classical.byContradiction fun no => ?_
    have all : ∀ z ∈ stS, z ∈ p4 := fun z hz => Classical.byContradiction fun k => no ⟨z, hz, k⟩
    have hle := stS_nd.length_le_of_subset (fun z hz => all z hz)
    have e : stS.length = 8 := by decide +kernel
    omega
  rw [e]
  cases ef : stS.filter fun y => decide (y ∉ p4) with
  | nil =>
    have : y0 ∈ stS.filter fun y => decide (y ∉ p4) := List.mem_filter.mpr ⟨hy0, decide_eq_true hn0⟩
    rw [ef] at this
    cases this
  | cons z r =>
    have : z ∈ stS.filter fun y => decide (y ∉ p4) := by
      rw [ef]
      exact List.mem_cons_self
    obtain ⟨h1, h2⟩ := List.mem_filter.mp this
    exact ⟨z, r.map V.str, rfl, stS_wd z h1, of_decide_eq_true h2⟩
theorem tel_t2 (t : Tel) : cutV (telV t) none (some 2) = [.str t.v, .str t.th] := cut_to (telV t) 2
theorem tel_t4 (t : Tel) : cutV (telV t) none (some 4) = [.str t.v, .str t.th, .str t.wo, .str t.tl] := cut_to (telV t) 4
theorem tel_t5 (t : Tel) : cutV (telV t) none (some 5) = [.str t.v, .str t.th, .str t.wo, .str t.tl, .int (t.age : Int)] := cut_to (telV t) 5
theorem tel_t6 (t : Tel) : cutV (telV t) none (some 6) = [.str t.v, .str t.th, .str t.wo, .str t.tl, .int (t.age : Int), .str t.g] := cut_to (telV t) 6
theorem tel_d3 (t : Tel) : cutV (telV t) (some 3) none = [.str t.tl, .int (t.age : Int), .str t.g, .bl t.sure] := cut_from (telV t) 3
theorem tel_d5 (t : Tel) : cutV (telV t) (some 5) none = [.str t.g, .bl t.sure] := cut_from (telV t) 5
theorem tel_d6 (t : Tel) : cutV (telV t) (some 6) none = [.bl t.sure] := cut_from (telV t) 6
theorem wd_z {z : Str} (h : IsWd z) : IsWd (cutS z none (some 7) ++ ("z" : Str)) := by
  have e : (cutS z none (some 7) ++ ("z" : Str)).cps.toList = z.cps.toList.take 7 ++ [122] := by
    rw [codes_add, show (some (7 : Int)) = some ((7 : Nat) : Int) from rfl, cut_hi]
    congr 1
  refine isWd_of ?_ ?_ ?_
  · rw [e]
    simp
  · rw [e, List.length_append, List.length_take]
    simp only [List.length_cons, List.length_nil]
    omega
  · rw [e]
    intro c hc
    rcases List.mem_append.mp hc with hc | hc
    · unfold IsWd wdB at h
      simp only [Bool.and_eq_true, decide_eq_true_eq, List.all_eq_true] at h
      exact h.2 c (List.mem_of_mem_take hc)
    · rw [List.mem_singleton.mp hc]
      omega
section
variable {P : Program} {w : World} {K : PySem.W.Frag} {mg : Str → Option Value} {base : Heap} {f C D : Addr} {fd : FuncData}
end
end Wl


/-! a row told otherwise. -/
namespace Wl
open PySem PySem.Spec PyProof.Rows L2
abbrev sTwist : Stmt := topS 61
theorem cat_readsN {K : PySem.W.Frag} {H : Hp} {Q : VK} {a b : Addr} {xs ys : List V} (ha : H a = some (.tup xs)) (hb : H b = some (.tup ys)) (hz : xs.length + ys.length ≤ 1000) (hx : xs ≠ []) (hy : ys ≠ []) (q : ∀ u H', H u = none → Same H H' → H' u = some (.tup (xs ++ ys)) → Q (.ref u) H') : rCatA K (.ref a) (.ref b) H Q := by
  refine ⟨a, b, xs, ys, rfl, rfl, .inl (.inl ha), .inl (.inl hb), lzl hz, fun e => absurd e hx, fun _ e => absurd e hy, fun _ _ p hp => q p _ hp (same_new hp) upd_same⟩
section
variable {P : Program} {w : World} {K : PySem.W.Frag} {mg : Str → Option Value} {base : Heap} {f C D : Addr} {fd : FuncData}
def spTwist : Sp := fun vs H Q _ => ∃ (a rp : Addr) (t : Tel), vs = [.ref a, .ref rp] ∧ PurseAt H a ∧ H rp = some (.tup (telV t)) ∧ OkT t ∧
  ∀ (q : Addr) (u : Tel) (H' : Hp), H q = none → PurseAt H' a → SameX a H H' → H' q = some (.tup (telV u)) → OkT u → keyS u = keyS t → u.v = t.v → u.tl = t.tl → Q (.ref q) H'
abbrev nTwist : List Str := ["_law_purse_here", "_law_row_here", "_law_way"]
abbrev psTwist : List Str := ["_law_purse_here", "_law_row_here"]
theorem scTwist : FnScope nTwist psTwist (defScope sTwist) := ⟨rfl, rfl, rfl, by decide +kernel, rfl, by decide +kernel, by decide +kernel⟩
theorem ok_twist (F : Fun K "_law_twisted" "_law_twisted" sTwist f fd) (B : Bi mg) (hPick : Has P w K mg base "_law_pick" 1 ["_law_purse_here", "_law_count"] spPick) : FnOk P w K mg base CX0 2 f fd psTwist spTwist := by
  refine F.ok scTwist (fun vs H Q E h => ?_) (fun cdv A outer s H vs Q E hr h => ?_)
  · obtain ⟨a, rp, t, rfl, _⟩ := h
    rfl
  · obtain ⟨a, rp, t, rfl, hA, hrp, ok, q⟩ := h
    refine ⟨_, pss_cons (ps_set (i := 2) scTwist.nd rfl (.inl rfl) (pe_h hPick hr (pa_cons (pv 0) (pa_cons pe_int pa_nil))))
      (pss_cons (ps_if (pt_cmp (pc_eqI (pv 2) pe_int)) (pss_one (ps_ret (pe_op op_catA (pe_op op_catA (pe_slice sl_tupA (pv 1) po_none (po_some pe_int)) (pe_tup (pa_cons (pe_op op_add_str (pe_slice sl_str (pe_ix ix_tup (pv 1) pe_int (fun _ _ => rfl)) po_none (po_some pe_int)) pe_str) pa_nil))) (pe_slice sl_tupA (pv 1) (po_some pe_int) po_none)))) pss_nil)
      (pss_cons (ps_if (pt_cmp (pc_eqI (pv 2) pe_int)) (pss_one (ps_ret (pe_op op_catA (pe_op op_catA (pe_slice sl_tupA (pv 1) po_none (po_some pe_int)) (pe_tup (pa_cons (pe_op op_mod (pe_op op_add (pe_ix ix_tup (pv 1) pe_int (fun _ _ => rfl)) pe_int) pe_int) pa_nil))) (pe_slice sl_tupA (pv 1) (po_some pe_int) po_none)))) pss_nil)
      (pss_one (ps_ret (pe_op op_catA (pe_slice sl_tupA (pv 1) po_none (po_some pe_int)) (pe_tup (pa_cons (pe_not (pe_ix ix_tup (pv 1) pe_int (fun _ _ => rfl))) pa_nil))))))), ?_⟩
    obtain ⟨pys, hpu⟩ := hA.lst
    have hrpn : rp ≠ a := ne_of hrp hpu (by intro z; cases z)
    refine ⟨_, rfl, a, 3, rfl, hA, by decide, by decide, fun way H1 h0 h3 hA1 x1 nf1 => ?_⟩
    have hr1 := x1 _ _ hrpn hrp
    have fin : ∀ {qq : Addr} {u : Tel} {H' : Hp}, H1 qq = none → Same H1 H' → H' qq = some (.tup (telV u)) → OkT u → keyS u = keyS t → u.v = t.v → u.tl = t.tl → Q (.ref qq) H' := fun {qq u H'} n s h o k v l => by
      have n0 : H qq = none := by
        cases e : H qq with
        | none => rfl
        | some o' =>
          by_cases z : qq = a
          · rw [z] at n
            obtain ⟨ys, h2⟩ := hA1.lst
            rw [h2] at n
            cases n
          · rw [x1 _ _ z e] at n
            cases n
      exact q qq u H' n0 (hA1.same s) (x1.trans (sx s)) h o k v l
    by_cases w0 : way = 0
    · refine ⟨_, rfl, _, _, rfl, rfl, true, congrArg V.bl (decide_eq_true w0), ?_⟩
      refine iteT ⟨_, rfl, 2, rfl, sl_reads hr1 fun u1 H2 s2 hu1 => ?_⟩
      rw [tel_t2] at hu1
      refine ⟨_, rfl, rp, _, _, .str t.wo, rfl, rfl, .inl (.inl (s2 _ _ hr1)), atI_nat (j := 2) rfl, 7, rfl, t.wo, rfl, wd_line ok.wo, _, _, rfl, rfl, ?_, lz, fun u2 hu2 => ?_⟩
      · have := (wd_z ok.wo).len
        have e1 : (cutS t.wo none (some 7) ++ ("z" : Str)).length = (cutS t.wo none (some 7)).length + ("z" : Str).length := add_len _ _
        exact lzl (by omega)
      have s3 := same_new (o := .tup [V.str (cutS t.wo none (some 7) ++ ("z" : Str))]) hu2
      refine cat_reads (s3 _ _ hu1) upd_same (by simp) fun u3 H4 s4 hu3 => ?_
      have s14 := s2.trans (s3.trans s4)
      refine ⟨_, rfl, 3, rfl, ?_⟩
      dsimp only [tNoPart]
      refine sl_reads (s14 _ _ hr1) fun u4 H5 s5 hu4 => ?_
      rw [tel_d3] at hu4
      refine cat_readsN (s5 _ _ hu3) hu4 (by simp) (by simp) (by simp) fun m1 H6 n6 s6 hm1 => ?_
      exact fin ((s14.trans s5).free n6) ((s14.trans s5).trans s6) (u := { t with wo := cutS t.wo none (some 7) ++ ("z" : Str) }) hm1 ⟨ok.v, ok.th, wd_z ok.wo, ok.tl, ok.age, ok.g⟩ rfl rfl rfl
    refine ⟨_, rfl, _, _, rfl, rfl, false, congrArg V.bl (decide_eq_false w0), ?_⟩
    refine iteF ?_
    by_cases w1 : way = 1
    · refine ⟨_, rfl, _, _, rfl, rfl, true, congrArg V.bl (decide_eq_true w1), ?_⟩
      refine iteT ⟨_, rfl, 4, rfl, sl_reads hr1 fun u1 H2 s2 hu1 => ?_⟩
      rw [tel_t4] at hu1
      refine ⟨_, rfl, rp, _, _, .int (t.age : Int), rfl, rfl, .inl (.inl (s2 _ _ hr1)), atI_nat (j := 4) rfl, _, _, rfl, rfl, _, _, rfl, rfl, (show (0 : Int) < 121 by decide), lz, fun u2 hu2 => ?_⟩
      have s3 := same_new (o := .tup [V.int (((t.age : Int) + 1) % 121)]) hu2
      refine cat_reads (s3 _ _ hu1) upd_same (by simp) fun u3 H4 s4 hu3 => ?_
      have s14 := s2.trans (s3.trans s4)
      refine ⟨_, rfl, 5, rfl, ?_⟩
      dsimp only [tNoPart]
      refine sl_reads (s14 _ _ hr1) fun u4 H5 s5 hu4 => ?_
      rw [tel_d5] at hu4
      refine cat_readsN (s5 _ _ hu3) hu4 (by simp) (by simp) (by simp) fun m1 H6 n6 s6 hm1 => ?_
      refine fin ((s14.trans s5).free n6) ((s14.trans s5).trans s6) (u := { t with age := (t.age + 1) % 121 }) ?_ ⟨ok.v, ok.th, ok.wo, ok.tl, by show (t.age + 1) % 121 ≤ 120; omega, ok.g⟩ rfl rfl rfl
      rw [hm1]
      show some (HO.tup [V.str t.v, V.str t.th, V.str t.wo, V.str t.tl, V.int (((t.age : Int) + 1) % 121), V.str t.g, V.bl t.sure]) = some (HO.tup [V.str t.v, V.str t.th, V.str t.wo, V.str t.tl, V.int (((t.age + 1) % 121 : Nat) : Int), V.str t.g, V.bl t.sure])
      rw [show (((t.age + 1) % 121 : Nat) : Int) = ((t.age : Int) + 1) % 121 from by omega]
    refine ⟨_, rfl, _, _, rfl, rfl, false, congrArg V.bl (decide_eq_false w1), ?_⟩
    refine iteF ⟨_, rfl, 6, rfl, sl_reads hr1 fun u1 H2 s2 hu1 => ?_⟩
    rw [tel_t6] at hu1
    refine ⟨_, rfl, rp, _, _, .bl t.sure, rfl, rfl, .inl (.inl (s2 _ _ hr1)), atI_nat (j := 6) rfl, t.sure, rfl, lz, fun u2 hu2 => ?_⟩
    have s3 := same_new (o := .tup [V.bl (!t.sure)]) hu2
    refine cat_readsN (s3 _ _ hu1) upd_same (by simp) (by simp) (by simp) fun m1 H6 n6 s6 hm1 => ?_
    exact fin ((s2.trans s3).free n6) ((s2.trans s3).trans s6) (u := { t with sure := !t.sure }) hm1 ⟨ok.v, ok.th, ok.wo, ok.tl, ok.age, ok.g⟩ rfl rfl rfl
end
end Wl

/-! xs[::-1], xs a list; xs[:-1]. -/
namespace Wl
open PySem PySem.Spec PyProof.Rows L2
def tRevL (K : PySem.W.Frag) (te : TE) : TE := fun σ H Q => te σ H fun x H1 => ∃ a xs, x = .ref a ∧ SqL K H1 a xs ∧ ∀ p, H1 p = none → Q (.ref p) (upd H1 p (.lst xs.reverse))
theorem pe_revL {X : Cx} {e : Expr} {te : TE} {k : Nat} {p1 p2 p3 pos : Pos} (he : PE X e te) : PE X (.Subscript e (.Slice none none (some (.UnaryOp .USub (.Constant (.int 1) k p1) p2)) p3) pos) (tRevL X.K te) := by
  refine ⟨fun pins s σ H Q I h => Subscript_ (thn (he.run pins s σ H _ I h) fun v s1 ⟨x, H1, I1, r1, a, xs, ex, hx, q⟩ => ?_)⟩
  subst ex
  cases r1
  have hst : PO X (some (.UnaryOp .USub (.Constant (.int 1) k p1) p2)) (tPart (tUn (rU fun i => .int (-i)) (tC (.int 1)))) := po_some (pe_un un_neg pe_int)
  refine wpAny_Slice (thn (po_none.run pins s1 σ H1 (fun o H2 => o = none ∧ H2 = H1) I1 ⟨rfl, rfl⟩) fun vl s2 ⟨l, H2, I2, pl, el, e2⟩ => ?_)
  subst el e2
  refine thn (po_none.run pins s2 σ H2 (fun o H3 => o = none ∧ H3 = H2) I2 ⟨rfl, rfl⟩) fun vu s3 ⟨u, H3, I3, pu, eu, e3⟩ => ?_
  subst eu e3
  refine thn (hst.run pins s3 σ H3 (fun o H4 => o = some (-1) ∧ H4 = H3) I3 ⟨1, rfl, -1, rfl, rfl, rfl⟩) fun vs s4 ⟨o, H4, I4, ps, eo, e4⟩ => ?_
  subst eo e4
  have J : L2.Inv X pins σ H4 { s4 with heap := s4.heap.push { cls := .type "slice", data := .fields #[vl, vu, vs] } } := I4.kept (t' := s4.toks) fun b ob q => Heap.get?_push_of_some _ q
  obtain ⟨its, r, ht, hz⟩ := J.list hx
  have hlen := r.length
  show wpAny (model X.prog X.w) X.A (subscriptTail e (.Slice none none (some (.UnaryOp .USub (.Constant (.int 1) k p1) p2)) p3) (.ref a) (.ref s4.heap.objs.size)) _ _ _
  refine tail_any (ops := [.ref a, .ref s4.heap.objs.size]) ht.isList.typeIs (slot_list_getitem.lookup) ?_ (by with_unfolding_all rfl)
  refine wpAny_getItem_list_slice ht.isList (Heap.IsSliceOf.new _ vl vu vs) pl pu ps (by simp) ?_ (by rw [List.size_toArray]; omega)
  rw [PySem.W.krv_pick]
  refine ⟨.ref _, _, J.laid (t' := s4.toks) (o := .lst xs.reverse) (fun b ob q => Heap.get?_push_of_some _ q) (Nat.le_refl _) ?_, rfl, q _ (J.hok.fresh (Nat.le_refl _))⟩
  exact ⟨by rw [List.length_reverse]; exact hz, _, 0, r.reverse, Heap.get?_push_size _ rfl⟩
theorem cut_init (xs : List V) (v : V) : cutV (xs ++ [v]) none (some (-1)) = xs := by
  unfold cutV
  rw [HT.sIx_none, List.drop_zero, Nat.sub_zero]
  have e : HT.sIx (xs ++ [v]).length (xs ++ [v]).length (some (-1)) = xs.length := by
    show (if (-1 : Int) < 0 then ((-1 : Int) + ((xs ++ [v]).length : Int)).toNat else min (-1 : Int).toNat (xs ++ [v]).length) = _
    rw [if_pos (by decide), List.length_append]
    simp only [List.length_cons, List.length_nil]
    omega
  rw [e, List.take_left]
end Wl

/-! a tuple forward or backward: t[::1], t[::-1], the step told by a value -/
namespace Wl
open PySem PySem.Spec PyProof.Rows L2
theorem back_pick (xs : Array Value) : ((List.range xs.size).filterMap fun (m : Nat) => xs[(((xs.size : Nat) : Int) - 1 + (m : Int) * (-1)).toNat]?) = xs.toList.reverse := by
  have e : ∀ n, n ≤ xs.size → ((List.range n).filterMap fun (m : Nat) => xs[(((xs.size : Nat) : Int) - 1 + (m : Int) * (-1)).toNat]?) = xs.toList.reverse.take n := by
    intro n
    induction n with
    | zero => intro _; simp
    | succ n ih =>
      intro hn
      have e1 : (((xs.size : Nat) : Int) - 1 + (n : Int) * (-1)).toNat = xs.size - 1 - n := by omega
      have lt : xs.size - 1 - n < xs.size := by omega
      rw [List.range_succ, List.filterMap_append, ih (by omega), List.take_add_one]
      congr 1
      rw [List.filterMap_cons, e1, Array.getElem?_eq_getElem lt, List.filterMap_nil]
      rw [List.getElem?_reverse (by rw [Array.length_toList]; omega), Array.length_toList, Array.getElem?_toList, Array.getElem?_eq_getElem lt]
      rfl
  have := e xs.size (Nat.le_refl _)
  rw [this, List.take_of_length_le (by rw [List.length_reverse, Array.length_toList]; exact Nat.le_refl _)]
section
variable {prog : Program} {w : World} {A : Around} {E : Value → Shared → Prop} {s : Shared}
theorem applied_step {sl : Addr} {i : Int} {tk : Tok} {n : Nat} {Q : Int × Int × Nat → Shared → Prop} (hs : s.heap.IsSliceOf sl .none .none (.int i tk)) (hi : i = 1 ∨ i = -1) (h : Q ((if i = 1 then 0 else (n : Int) - 1), i, n) s) : wpAny (model prog w) A (Builtin.Slice.sliceApplied (.ref sl) (pure (n : Int))) Q E s := by
  obtain ⟨os, hos, hcs, hds⟩ := id hs
  unfold Builtin.Slice.sliceApplied Builtin.Slice.sliceFields
  refine wpAny_bind (wpAny_bind (wpAny_field hos hds (x := .none) rfl (wpAny_bind (wpAny_field hos hds (x := .none) rfl (wpAny_bind (wpAny_field hos hds (x := .int i tk) rfl (wpAny_pure ?_)))))))
  refine wpAny_bind (HT.slicePart_ (.int i tk) ?_)
  have i0 : ((some i).getD 1 == (0 : Int)) = false := by
    rcases hi with rfl | rfl <;> rfl
  dsimp only
  show wpAny _ _ (if ((some i).getD 1 == (0 : Int)) = true then _ else _) _ _ s
  rw [i0, if_neg (by decide)]
  refine wpAny_bind (HT.slicePart_ .none (wpAny_bind (HT.slicePart_ .none (wpAny_bind (wpAny_pure ?_)))))
  refine wpAny_pure ?_
  rcases hi with rfl | rfl
  · have : Builtin.Slice.slicePlaces 0 (n : Int) 1 = n := by
      unfold Builtin.Slice.slicePlaces
      have h1 : (1 : Int) > 0 := by omega
      simp only [h1, if_true, Int.ediv_one]
      split <;> omega
    show Q (0, 1, Builtin.Slice.slicePlaces 0 (n : Int) 1) s
    rw [this]
    exact h
  · have : Builtin.Slice.slicePlaces ((n : Int) - 1) (-1) (-1) = n := by
      unfold Builtin.Slice.slicePlaces
      have h1 : ¬ (-1 : Int) > 0 := by omega
      simp only [h1, if_false, Int.neg_neg, Int.ediv_one]
      split <;> omega
    show Q ((n : Int) - 1, -1, Builtin.Slice.slicePlaces ((n : Int) - 1) (-1) (-1)) s
    rw [this]
    exact h
theorem item_step {t sl : Addr} {items : Array Value} {i : Int} {tk : Tok} {Q : Value → Shared → Prop} (ht : IsTup s.heap t items) (hs : s.heap.IsSliceOf sl .none .none (.int i tk)) (hsz : items.size ≤ sizeLine)
    (h : (i = 1 ∧ Q (.ref t) s) ∨ (i = -1 ∧ Q (.ref s.heap.objs.size) { s with heap := s.heap.push { cls := .type "tuple", data := .seq items.toList.reverse.toArray } })) : wpAny (model prog w) A (getItem (.ref t) (.ref sl)) Q E s := by
  obtain ⟨os, hos, hcs, hds⟩ := id hs
  have hTs : s.TypeIs (.ref sl) "slice" := ⟨os, hos, hcs⟩
  unfold getItem
  try with_reducible refine wpAny_holding ?_
  first | refine wpAny_bind (wpAny_pure ?_) | skip
  refine wpAny_bind (wpAny_sequenceKey ht.typeIs (by decide) ?_)
  refine wpAny_bind (wpAny_callSpecial?_slot (name := Str.ofString "__getitem__") ht.typeIs PyProof.Rows.slot_tuple_getitem
    (wpAny_call_entry PyProof.Rows.slot_tuple_getitem ht.typeIs entry_tuple_getitem ?_ (args_tuple_getitem _ _)))
  show wpAny _ _ (Builtin.Tuple.tupleItemsOf (.ref t) >>= _) _ _ s
  refine wpAny_bind (tupleItemsOf_ ht (wpAny_bind (wpAny_typeOf hTs ?_)))
  rw [if_pos (by decide)]
  rcases h with ⟨rfl, h⟩ | ⟨rfl, h⟩
  · refine wpAny_bind (applied_step hs (.inl rfl) ?_)
    have yes : ((0 : Int) == 0 && (1 : Int) == 1 && items.size == items.size) = true := by simp
    show wpAny _ _ (if ((0 : Int) == 0 && (1 : Int) == 1 && items.size == items.size) = true then _ else _) _ _ s
    rw [if_pos yes]
    refine wpAny_bind ?_
    show wpAny _ _ (typeOf (.ref t) >>= fun T => pure (T == .type "tuple")) _ _ s
    refine wpAny_bind (wpAny_typeOf ht.typeIs (wpAny_pure ?_))
    first | rw [if_pos (by decide)] | simp only [beq_self_eq_true, if_true]
    first
      | exact wpAny_bind (wpAny_rule (wpAny_pure ⟨_, rfl, wpAny_pure h⟩))
      | exact wpAny_bind (wpAny_rule (wpAny_bind (wpAny_pure (wpAny_pure ⟨_, rfl, wpAny_pure h⟩))))
  · refine wpAny_bind (applied_step hs (.inr rfl) ?_)
    have n11 : ((-1 : Int) == 1) = false := by decide
    have no : ¬ ((if (-1 : Int) = 1 then (0 : Int) else (items.size : Int) - 1) == 0 && (-1 : Int) == 1 && items.size == items.size) = true := by
      rw [n11]
      simp
    have hp := back_pick items
    have hok : sizeOk (.seq items.toList.reverse.toArray) := by
      show items.toList.reverse.toArray.size ≤ sizeLine
      rw [List.size_toArray, List.length_reverse, Array.length_toList]
      exact hsz
    show wpAny _ _ (if ((if (-1 : Int) = 1 then (0 : Int) else (items.size : Int) - 1) == 0 && (-1 : Int) == 1 && items.size == items.size) = true then _ else _) _ _ s
    rw [if_neg no, if_neg (by decide : ¬ (-1 : Int) = 1), hp]
    first
      | exact wpAny_bind (m := Builtin.Tuple.tupleExact _) (wpAny_newObj_type (wpAny_pure ⟨_, rfl, wpAny_pure h⟩) hok)
      | exact wpAny_bind (m := Builtin.Tuple.tupleExact _) (wpAny_newObj_type (wpAny_bind (wpAny_pure (wpAny_pure ⟨_, rfl, wpAny_pure h⟩))) hok)
      | exact wpAny_bind (wpAny_bind (m := Builtin.Tuple.tupleExact _) (wpAny_newObj_type (wpAny_pure (wpAny_pure ⟨_, rfl, wpAny_pure h⟩)) hok))
end
section
variable {X : Cx} {e st : Expr} {te ts : TE} {pos p2 : Pos}
/-- t[::i], i 1 or -1 -/
def rStepT (K : PySem.W.Frag) : R2 := fun x y H Q => ∃ (a : Addr) (xs : List V) (i : Int), x = .ref a ∧ y = .int i ∧ SqT K H a xs ∧ ((i = 1 ∧ Q (.ref a) H) ∨ (i = -1 ∧ ∀ p, H p = none → Q (.ref p) (upd H p (.tup xs.reverse))))
theorem pe_step (he : PE X e te) (hs : PE X st ts) : PE X (.Subscript e (.Slice none none (some st) p2) pos) (tOp (rStepT X.K) te ts) := by
  refine ⟨fun pins s σ H Q I h => ?_⟩
  refine Subscript_ (thn (he.run pins s σ H _ I h) fun v s1 ⟨x, H1, I1, r1, q1⟩ => ?_)
  refine wpAny_Slice ?_
  rw [evalPart_none]
  refine wpAny_pure ?_
  refine wpAny_pure ?_
  rw [evalPart_some]
  refine thn (hs.run pins s1 σ H1 _ I1 q1) fun u s2 ⟨y, H2, I2, r2, q2⟩ => ?_
  obtain ⟨a, xs, i, rfl, rfl, hx, q⟩ := q2
  obtain ⟨tk, rfl⟩ := r2
  have I4 : Inv X pins σ H2 { s2 with heap := s2.heap.push { cls := .type "slice", data := .fields #[.none, .none, .int i tk] } } := I2.kept (t' := s2.toks) fun b ob q => Heap.get?_push_of_some _ q
  cases r1
  obtain ⟨its, r, ht, hz⟩ := I4.tuple hx
  have hlen : its.toArray.size = xs.length := by rw [List.size_toArray]; exact r.length.symm
  show wpAny (model X.prog X.w) X.A (subscriptTail e (.Slice none none (some st) p2) (.ref a) (.ref s2.heap.objs.size)) (EP X pins σ Q) X.xe { s2 with heap := s2.heap.push { cls := .type "slice", data := .fields #[.none, .none, .int i tk] } }
  refine tail_any (ops := [.ref a, .ref s2.heap.objs.size]) ht.typeIs PyProof.Rows.slot_tuple_getitem.lookup ?_ (by with_unfolding_all rfl)
  refine item_step ht (Heap.IsSliceOf.new ..) (by rw [hlen]; exact hz) ?_
  rcases q with ⟨e1, q⟩ | ⟨e1, q⟩
  · exact .inl ⟨e1, .ref a, H2, I4, rfl, q⟩
  · refine .inr ⟨e1, .ref _, _, I4.laid (t' := s2.toks) (o := .tup xs.reverse) (fun b ob q => Heap.get?_push_of_some _ q) (Nat.le_refl _) ?_, rfl, q _ (I4.hok.fresh (Nat.le_refl _))⟩
    refine ⟨by rw [List.length_reverse]; exact hz, _, ?_, IsTup.new _ _⟩
    have : Vals xs.reverse its.reverse := r.reverse
    simpa using this
end
end Wl

/-! a list forward or backward, copied: xs[::i], i 1 or -1, told by a value -/
namespace Wl
open PySem PySem.Spec PyProof.Rows L2
theorem step_pick (items : Array Value) : slicePick items none none (some 1) = items := by
  have h : slicePick items none none (some 1) = slicePick items none none none := rfl
  rw [h, PySem.W.kmk_pick_nat items (a := 0) (b := items.size) rfl, List.drop_zero, Nat.sub_zero, List.take_of_length_le (by rw [Array.length_toList]; exact Nat.le_refl _)]
def tStepL (K : PySem.W.Frag) (te ts : TE) : TE := fun σ H Q => te σ H fun x H1 => tPart ts σ H1 fun o H2 => ∃ a xs i, x = .ref a ∧ o = some i ∧ SqL K H2 a xs ∧ ((i = 1 ∧ ∀ p, H2 p = none → Q (.ref p) (upd H2 p (.lst xs))) ∨ (i = -1 ∧ ∀ p, H2 p = none → Q (.ref p) (upd H2 p (.lst xs.reverse))))
theorem pe_stepL {X : Cx} {e st : Expr} {te ts : TE} {p3 pos : Pos} (he : PE X e te) (hs : PE X st ts) : PE X (.Subscript e (.Slice none none (some st) p3) pos) (tStepL X.K te ts) := by
  refine ⟨fun pins s σ H Q I h => Subscript_ (thn (he.run pins s σ H _ I h) fun v s1 ⟨x, H1, I1, r1, q1⟩ => ?_)⟩
  have hst : PO X (some st) (tPart ts) := po_some hs
  refine wpAny_Slice (thn (po_none.run pins s1 σ H1 (fun o H2 => o = none ∧ H2 = H1) I1 ⟨rfl, rfl⟩) fun vl s2 ⟨l, H2, I2, pl, el, e2⟩ => ?_)
  subst el e2
  refine thn (po_none.run pins s2 σ H2 (fun o H3 => o = none ∧ H3 = H2) I2 ⟨rfl, rfl⟩) fun vu s3 ⟨u, H3, I3, pu, eu, e3⟩ => ?_
  subst eu e3
  refine thn (hst.run pins s3 σ H3 _ I3 q1) fun vs s4 ⟨o, H4, I4, ps, a, xs, i, ex, eo, hx, q⟩ => ?_
  subst ex eo
  cases r1
  have J : L2.Inv X pins σ H4 { s4 with heap := s4.heap.push { cls := .type "slice", data := .fields #[vl, vu, vs] } } := I4.kept (t' := s4.toks) fun b ob q => Heap.get?_push_of_some _ q
  obtain ⟨its, r, ht, hz⟩ := J.list hx
  have hlen := r.length
  show wpAny (model X.prog X.w) X.A (subscriptTail e (.Slice none none (some st) p3) (.ref a) (.ref s4.heap.objs.size)) _ _ _
  refine tail_any (ops := [.ref a, .ref s4.heap.objs.size]) ht.isList.typeIs (slot_list_getitem.lookup) ?_ (by with_unfolding_all rfl)
  refine wpAny_getItem_list_slice ht.isList (Heap.IsSliceOf.new _ vl vu vs) pl pu ps ?_ ?_ (by rw [List.size_toArray]; omega)
  · rcases q with ⟨rfl, _⟩ | ⟨rfl, _⟩ <;> simp
  rcases q with ⟨rfl, q⟩ | ⟨rfl, q⟩
  · rw [step_pick]
    refine ⟨.ref _, _, J.laid (t' := s4.toks) (o := .lst xs) (fun b ob q => Heap.get?_push_of_some _ q) (Nat.le_refl _) ?_, rfl, q _ (J.hok.fresh (Nat.le_refl _))⟩
    exact ⟨hz, _, 0, r, Heap.get?_push_size _ rfl⟩
  · rw [PySem.W.krv_pick]
    refine ⟨.ref _, _, J.laid (t' := s4.toks) (o := .lst xs.reverse) (fun b ob q => Heap.get?_push_of_some _ q) (Nat.le_refl _) ?_, rfl, q _ (J.hok.fresh (Nat.le_refl _))⟩
    exact ⟨by rw [List.length_reverse]; exact hz, _, 0, r.reverse, Heap.get?_push_size _ rfl⟩
end Wl

/-! the second Gathering's rows. -/
namespace Wl
open PySem PySem.Spec PyProof.Rows L2
abbrev sSecond : Stmt := topS 62
section
variable {P : Program} {w : World} {K : PySem.W.Frag} {mg : Str → Option Value} {base : Heap} {f C D : Addr} {fd : FuncData}
def spSecond : Sp := fun vs H Q _ => ∃ (a Fp kp : Addr) (often : Bool) (as : List Addr) (p0 p1 p2 p3 p4 : List Str) (bs : List Addr) (ts : List Tel), vs = [.ref a, .ref Fp, .ref kp, .bl often] ∧ PurseAt H a ∧ PoolsAt H Fp as [p0, p1, p2, p3, p4] ∧ Fp ≠ a ∧ (∀ p ∈ as, p ≠ a) ∧ (∀ ws ∈ [p0, p1, p2, p3, p4], OkW ws) ∧
  KeptAt H kp bs ts ∧ kp ≠ a ∧ (∀ t ∈ ts, OkT t) ∧ (∀ t ∈ ts, (t.v ∈ p0 ∧ t.tl ∈ p3)) ∧ (ts.map keyS).Nodup ∧ ts.length ≤ 100 ∧
  ∀ (l : Addr) (bs' : List Addr) (us : List Tel) (H' : Hp), H l = none → PurseAt H' a → SameX a H H' → KeptAt H' l bs' us → (∀ t ∈ us, OkT t) → (∀ t ∈ us, (t.v ∈ p0 ∧ t.tl ∈ p3)) → (us.map keyS).Nodup → us.length ≤ ts.length + 6 → Q (.ref l) H'
abbrev nSecond : List Str := ["_law_purse_here", "_law_pools_here", "_law_kept_here", "_law_often", "_law_found", "_law_row_here", "_law_way", "_law_keys"]
abbrev psSecond : List Str := ["_law_purse_here", "_law_pools_here", "_law_kept_here", "_law_often"]
theorem scSecond : FnScope nSecond psSecond (defScope sSecond) := ⟨rfl, rfl, rfl, by decide +kernel, rfl, by decide +kernel, by decide +kernel⟩
theorem ok_second (F : Fun K "_law_second" "_law_second" sSecond f fd) (B : Bi mg) (hPick : Has P w K mg base "_law_pick" 1 ["_law_purse_here", "_law_count"] spPick) (hTw : Has P w K mg base "_law_twisted" 2 psTwist spTwist) (hKey : Has P w K mg base "_law_key" 1 ["_law_row_here"] spKeyOf) (hKept : Has P w K mg base "_law_kept" 3 psKept spKept) : FnOk P w K mg base CX0 4 f fd psSecond spSecond := by
  refine F.ok scSecond (fun vs H Q E h => ?_) (fun cdv A outer s H vs Q E hr h => ?_)
  · obtain ⟨a, Fp, kp, often, as, p0, p1, p2, p3, p4, bs, ts, rfl, _⟩ := h
    rfl
  · obtain ⟨a, Fp, kp, often, as, p0, p1, p2, p3, p4, bs, ts, rfl, hA, hPo, nF, na, hokW, hk, nka, hok, hvs, hnd, h100, q⟩ := h
    have hu65 : (A.deeper (envOfC "_law_second" (defScope sSecond) s.heap.objs.size f cdv)).units + 65 < cLine := by have := hr.un; omega
    refine ⟨_, pss_cons (ps_set (i := 4) scSecond.nd rfl (.inl rfl) (pe_lst pa_nil))
      (pss_cons (ps_for PassesOwn.never rfl (pi_list (pv 2)) (pg_name (i := 5) scSecond.nd rfl (.inl rfl))
        (pss_cons (ps_set (i := 6) scSecond.nd rfl (.inl rfl) (pe_h hPick hr (pa_cons (pv 0) (pa_cons pe_int pa_nil))))
        (pss_cons (ps_if (pt_cmp (pc_gt (pv 6) pe_int)) (pss_one (ps_expr (pe_bm PySem.F.plainAttrs_list PySem.F.slot_list_append PySem.F.type_list_append mt_append (pv 4) (pa_cons (pv 5) pa_nil)))) pss_nil)
        (pss_one (ps_if (PW.pt (pw_and (pt_cmp (pc_eqI (pv 6) pe_int)) (pw_and1 (pt_val (pv 3))))) (pss_one (ps_expr (pe_bm PySem.F.plainAttrs_list PySem.F.slot_list_append PySem.F.type_list_append mt_append (pv 4) (pa_cons (pe_h hTw hr (pa_cons (pv 0) (pa_cons (pv 5) pa_nil))) pa_nil)))) pss_nil)))))
      (pss_cons (ps_set (i := 7) scSecond.nd rfl (.inr rfl) (pe_lc (own := [("_law_row_here", 5)]) (g := gName 5) (tt := tYes) (te := tCall spKeyOf [] E0 (tCons (tVar 5) tNil)) rfl scSecond.nd (pi_list (pe_op op_cat (pv 4) (pe_op op_rep (pv 2) (pe_callTy call_int1 (by rfl) B.int (by decide +kernel) (pa_cons (pe_not (pv 3)) pa_nil))))) (blkOk_by (N := nSecond) (sc := defScope sSecond) (by decide +kernel)) (fun _ _ _ _ _ => pg_name (i := 5) scSecond.nd rfl (.inl rfl)) (fun _ _ _ _ _ => pts_nil) (fun _ _ _ _ _ => pe_h hKey hr (pa_cons (pv 5) pa_nil))))
      (pss_cons (ps_set (i := 4) scSecond.nd rfl (.inl rfl) (pe_op op_cat (pv 4) (pe_lc (own := [("_law_row_here", 5)]) (g := gName 5) (tt := tTest (tOp (rNotInD K) (tCall spKeyOf [] E0 (tCons (tVar 5) tNil)) (tVar 7))) (te := tVar 5) rfl scSecond.nd (pi_list (pe_h hKept hr (pa_cons (pv 0) (pa_cons (pv 1) (pa_cons pe_int pa_nil))))) (blkOk_by (N := nSecond) (sc := defScope sSecond) (by decide +kernel)) (fun _ _ _ _ _ => pg_name (i := 5) scSecond.nd rfl (.inl rfl)) (fun _ _ _ _ _ => pts_one (pt_cmpR (op_notInD hu65) (pe_h hKey hr (pa_cons (pv 5) pa_nil)) (pv 7) (by rfl))) (fun _ _ _ _ _ => pv 5))))
      (pss_one (ps_ret (pe_stepL (pv 4) (pe_ix ix_list (pe_lst (pa_cons pe_int (pa_cons (pe_un un_neg pe_int) pa_nil))) (pe_h hPick hr (pa_cons (pv 0) (pa_cons pe_int pa_nil))) (fun _ _ => rfl)))))))), ?_⟩
    obtain ⟨pys, hpu⟩ := hA.lst
    have lb : bs.length = ts.length := hk.tels.length
    refine ⟨lz, fun Fo nFo => ?_⟩
    have s1 := same_new (o := .lst []) nFo
    have hFo1 : upd H Fo (.lst []) Fo = some (.lst (([] : List Addr).map V.ref)) := upd_same
    have nFoa : Fo ≠ a := hA.ne nFo
    have hA1 := hA.same s1
    generalize upd H Fo (.lst []) = H1 at s1 hFo1 hA1 ⊢
    have purse_at : ∀ {H' : Hp} {p : Addr} {o : HO}, PurseAt H' a → p ≠ a → PurseAt (upd H' p o) a := fun h n => by
      obtain ⟨x0, x1, x2, hx, hx1⟩ := h
      exact ⟨x0, x1, x2, by rw [upd_ne n.symm]; exact hx, hx1⟩
    refine ⟨_, rfl, kp, rfl, ⟨_, .inl (.inl (s1 _ _ hk.at_))⟩, for_list (K := K) (a := kp) (xs := bs.map V.ref) (fun i σ H' => (∃ y5 y6, σ = [some (.ref a), some (.ref Fp), some (.ref kp), some (.bl often), some (.ref Fo), y5, y6, none]) ∧ PurseAt H' a ∧ SameX a H H' ∧ ∃ cs us, H' Fo = some (.lst (cs.map V.ref)) ∧ TelsAt H' cs us ∧ (∀ t ∈ us, OkT t) ∧ (∀ t ∈ us, (t.v ∈ p0 ∧ t.tl ∈ p3)) ∧ (us.map keyS).Sublist ((ts.take i).map keyS))
      ⟨⟨_, _, rfl⟩, hA1, sx s1, [], [], hFo1, .nil, fun t ht => (List.not_mem_nil ht).elim, fun t ht => (List.not_mem_nil ht).elim, List.nil_sublist _⟩ (fun i σ H' _ h => .inl (.inl (h.2.2.1 _ _ nka hk.at_))) ?_ ?_⟩
    · rintro i x σ H2 hx ⟨⟨y5, y6, rfl⟩, hA2, x2, cs, us, hFo2, hT2, oku, vu, sub⟩
      rw [List.getElem?_map] at hx
      obtain ⟨rp, hrp, rfl⟩ := Option.map_eq_some_iff.mp hx
      obtain ⟨t, ht, hH⟩ := Each.get hk.tels hrp
      have htm := List.mem_of_getElem? ht
      have hi : i < ts.length := (List.getElem?_eq_some_iff.mp ht).1
      have nrp : rp ≠ a := ne_of hH hpu (by intro z; cases z)
      have hrp2 := x2 _ _ nrp hH
      have hsn : ((ts.take (i + 1)).map keyS) = (ts.take i).map keyS ++ [keyS t] := by rw [List.take_add_one, ht]; simp
      have lu : us.length ≤ i := by
        have := sub.length_le
        rw [List.length_map, List.length_map, List.length_take] at this
        omega
      refine ⟨_, rfl, a, 4, rfl, hA2, by decide, by decide, fun way H3 h0 h4 hA3 x3 nf3 => ?_⟩
      obtain ⟨ya, hya⟩ := hA2.lst
      have x03 := x2.trans x3
      have hFo3 := x3 _ _ nFoa hFo2
      have hT3 := hT2.keep (tk_x x3 hya)
      have hrp3 := x3 _ _ nrp hrp2
      have lc : cs.length = us.length := hT3.length
      have add : ∀ {H' : Hp} {pt : Addr} {u : Tel}, PurseAt H' a → SameX a H H' → H' Fo = some (.lst (cs.map V.ref)) → TelsAt H' cs us → H' pt = some (.tup (telV u)) → OkT u → (u.v ∈ p0 ∧ u.tl ∈ p3) → keyS u = keyS t →
          PurseAt (upd H' Fo (.lst (cs.map V.ref ++ [V.ref pt]))) a ∧ SameX a H (upd H' Fo (.lst (cs.map V.ref ++ [V.ref pt]))) ∧ ∃ cs' us', upd H' Fo (.lst (cs.map V.ref ++ [V.ref pt])) Fo = some (.lst (cs'.map V.ref)) ∧ TelsAt (upd H' Fo (.lst (cs.map V.ref ++ [V.ref pt]))) cs' us' ∧ (∀ t ∈ us', OkT t) ∧ (∀ t ∈ us', (t.v ∈ p0 ∧ t.tl ∈ p3)) ∧ (us'.map keyS).Sublist ((ts.take (i + 1)).map keyS) := by
        intro H' pt u h1 h2 h3 h4 h5 h6 h7 h8
        have x78 : ∀ {o : HO}, SameX Fo H' (upd H' Fo o) := fun {o} b u nb e => by
          rw [upd_ne nb]
          exact e
        refine ⟨purse_at h1 nFoa, sameX_mut h2 nFo, cs ++ [pt], us ++ [u], by rw [upd_same, List.map_append]; rfl, Each.append (h4.keep (tk_x x78 h3)) (.cons (x78 _ _ (ne_of h5 h3 (by intro z; cases z)) h5) .nil), ?_, ?_, ?_⟩
        · intro z hz
          rcases List.mem_append.mp hz with hz | hz
          · exact oku z hz
          · rw [List.mem_singleton.mp hz]
            exact h6
        · intro z hz
          rcases List.mem_append.mp hz with hz | hz
          · exact vu z hz
          · rw [List.mem_singleton.mp hz]
            exact h7
        · rw [List.map_append, hsn, List.map_cons, List.map_nil, h8]
          exact List.Sublist.append sub (List.Sublist.refl _)
      have stay : PurseAt H3 a ∧ SameX a H H3 ∧ ∃ cs us, H3 Fo = some (.lst (cs.map V.ref)) ∧ TelsAt H3 cs us ∧ (∀ t ∈ us, OkT t) ∧ (∀ t ∈ us, (t.v ∈ p0 ∧ t.tl ∈ p3)) ∧ (us.map keyS).Sublist ((ts.take (i + 1)).map keyS) :=
        ⟨hA3, x03, cs, us, hFo3, hT3, oku, vu, sub.trans (by rw [hsn]; exact List.sublist_append_left _ _)⟩
      by_cases w2 : way > 1
      · refine ⟨_, rfl, _, _, rfl, rfl, true, congrArg V.bl (decide_eq_true w2), iteT ⟨_, rfl, .inl ⟨rfl, _, .inl (.inl hFo3)⟩, _, rfl, Fo, _, _, rfl, rfl, hFo3, by rw [List.length_map]; exact small1000 (by omega), ?_⟩⟩
        exact ⟨_, rfl, _, _, rfl, rfl, false, congrArg V.bl (decide_eq_false (by omega)), iteF (iteF ⟨⟨_, _, rfl⟩, add hA3 x03 hFo3 hT3 hrp3 (hok t htm) (hvs t htm) rfl⟩)⟩
      refine ⟨_, rfl, _, _, rfl, rfl, false, congrArg V.bl (decide_eq_false w2), iteF ?_⟩
      by_cases w1 : way = 1
      case neg => exact ⟨_, rfl, _, _, rfl, rfl, false, congrArg V.bl (decide_eq_false w1), iteF (iteF ⟨⟨_, _, rfl⟩, stay⟩)⟩
      refine ⟨_, rfl, _, _, rfl, rfl, true, congrArg V.bl (decide_eq_true w1), iteT ⟨_, rfl, often, rfl, ?_⟩⟩
      cases often with
      | false => exact iteF ⟨⟨_, _, rfl⟩, stay⟩
      | true =>
        refine iteT ⟨_, rfl, .inl ⟨rfl, _, .inl (.inl hFo3)⟩, _, rfl, _, rfl, a, rp, t, rfl, hA3, hrp3, hok t htm, fun qq u H4 nqq hA4 x4 hqq oku' eku evu etu => ?_⟩
        obtain ⟨yb, hyb⟩ := hA3.lst
        have hFo4 := x4 _ _ nFoa hFo3
        refine ⟨Fo, _, _, rfl, rfl, hFo4, by rw [List.length_map]; exact small1000 (by omega), ⟨_, _, rfl⟩, add hA4 (x03.trans x4) hFo4 (hT3.keep (tk_x x4 hyb)) hqq oku' (by rw [evu, etu]; exact hvs t htm) eku⟩
    rintro σ H2 ⟨⟨y5, y6, rfl⟩, hA2, x2, cs, us, hFo2, hT2, oku, vu, sub⟩
    rw [List.length_map, lb, List.take_length] at sub
    have ndu : (us.map keyS).Nodup := hnd.sublist sub
    have lu : us.length ≤ ts.length := by
      have := sub.length_le
      rw [List.length_map, List.length_map] at this
      exact this
    have lc : cs.length = us.length := hT2.length
    have hkp2 := x2 _ _ nka hk.at_
    have hk2 : TelsAt H2 bs ts := hk.tels.keep (tk_x x2 hpu)
    -- the rows whose keys are taken
    obtain ⟨rb, rt, erb, hRt, okR, lR⟩ : ∃ (rb : List Addr) (rt : List Tel), (List.replicate (if (!often) = true then (1 : Int) else 0).toNat (bs.map V.ref)).flatten = rb.map V.ref ∧ TelsAt H2 rb rt ∧ (∀ t ∈ rt, OkT t) ∧ rt.length ≤ ts.length := by
      cases often with
      | true => exact ⟨[], [], by simp, .nil, fun t ht => (List.not_mem_nil ht).elim, Nat.zero_le _⟩
      | false => exact ⟨bs, ts, by simp, hk2, hok, Nat.le_refl _⟩
    have lrb : rb.length = rt.length := hRt.length
    have kb : ∃ k : Int, k = (if (!often) = true then (1 : Int) else 0) ∧ 0 ≤ k ∧ k ≤ 1 := by cases often <;> exact ⟨_, rfl, by decide, by decide⟩
    obtain ⟨k, ek, k0, k1⟩ := kb
    refine ⟨_, rfl, _, rfl, _, rfl, often, rfl, .inr ⟨_, rfl, ?_⟩⟩
    rw [← ek] at erb ⊢
    have lk : (bs.map V.ref).length * k.toNat ≤ 1000 := by
      rw [List.length_map]
      rcases (show k = 0 ∨ k = 1 by omega) with z | z <;> rw [z] <;> simp <;> omega
    refine ⟨kp, k, _, rfl, rfl, hkp2, by omega, by omega, lzl lk, fun l1 nl1 => ?_⟩
    rw [erb]
    have s3 := same_new (o := .lst (rb.map V.ref)) nl1
    have hl1 : upd H2 l1 (.lst (rb.map V.ref)) l1 = some (.lst (rb.map V.ref)) := upd_same
    generalize upd H2 l1 (.lst (rb.map V.ref)) = H3 at s3 hl1 ⊢
    refine ⟨Fo, l1, _, _, rfl, rfl, s3 _ _ hFo2, hl1, lzl (by rw [List.length_map, List.length_map]; omega), fun l2 nl2 => ?_⟩
    have s4 := same_new (o := .lst (cs.map V.ref ++ rb.map V.ref)) nl2
    have hl2 : upd H3 l2 (.lst (cs.map V.ref ++ rb.map V.ref)) l2 = some (.lst ((cs ++ rb).map V.ref)) := by rw [upd_same, List.map_append]
    generalize upd H3 l2 (.lst (cs.map V.ref ++ rb.map V.ref)) = H4 at s4 hl2 ⊢
    have s24 := s3.trans s4
    have hT4 : TelsAt H4 (cs ++ rb) (us ++ rt) := Each.append (hT2.keep (tk_same s24)) (hRt.keep (tk_same s24))
    refine ⟨l2, rfl, ⟨_, .inl (.inl hl2)⟩, fun Ke hKe => ?_⟩
    refine lc_rel (walk_list (K := K) (a := l2) (xs := (cs ++ rb).map V.ref)) hKe (fun _ => true) (fun x y H' => ∃ q, y = V.ref q ∧ ∀ (pt : Addr) (t : Tel), x = .ref pt → H4 pt = some (.tup (telV t)) → H' q = some (.tup (kyV (kyOf t)))) (fun H' s' => .inl (.inl (s' _ _ hl2))) (fun _ => rfl) (fun x H' _ _ Q' q' => q') ?_ ?_ ?_ ?_
    · intro x H' hx _ s' Q' q'
      obtain ⟨pt, hpt, rfl⟩ := List.mem_map.mp hx
      obtain ⟨i, hi, ei⟩ := List.mem_iff_getElem.mp hpt
      obtain ⟨t, ht, hH⟩ := Each.get hT4 (i := i) (a := pt) (by rw [List.getElem?_eq_getElem hi, ei])
      refine ⟨_, rfl, pt, t, rfl, s' _ _ hH, fun kp hkp => q' _ _ (same_new hkp) ⟨kp, rfl, fun pt2 t2 e2 h2 => ?_⟩⟩
      obtain rfl : pt = pt2 := V.ref.inj e2
      rw [hH] at h2
      rw [← telV_inj (HO.tup.inj (Option.some.inj h2))]
      exact upd_same
    · rintro x y H' H'' acc hacc xs' ⟨kq, e, h⟩
      exact ⟨kq, e, fun pt t ep ht => xs' _ _ (ne_of (h pt t ep ht) hacc (by intro z; cases z)) (h pt t ep ht)⟩
    · rw [List.length_map, List.length_append]
      exact small1000 (by omega)
    intro zs H5 s5 hD5 hE
    rw [List.filter_eq_self.mpr fun _ _ => rfl] at hE
    obtain ⟨qs, rfl, hQ5⟩ := told_kys hT4 hE
    clear hE
    have s25 := s24.trans s5
    have hA5 := hA2.same s25
    have x05 := x2.trans (sx s25)
    have hFo5 := s25 _ _ hFo2
    have hT5 := hT2.keep (tk_same s25)
    have nKea : Ke ≠ a := (hA2.same s24).ne hKe
    have lq : qs.length = us.length + rt.length := by rw [hQ5.length, List.length_map, List.length_append]
    have okK : ∀ k ∈ (us ++ rt).map kyOf, OkKy k := fun k hk => by
      obtain ⟨u, hu, rfl⟩ := List.mem_map.mp hk
      rcases List.mem_append.mp hu with hu | hu
      · exact okky (oku u hu)
      · exact okky (okR u hu)
    -- others beside
    refine ⟨_, rfl, _, rfl, _, rfl, a, Fp, 6, as, p0, p1, p2, p3, p4, rfl, by omega, hA5, hPo.x x05 nF na, nF, na, hokW, fun l3 bs3 ts3 H6 nl3 hA6 x6 hl3 hT6 ok6 vs6 nd6 ln6 => ⟨l3, rfl, ⟨_, .inl (.inl hl3)⟩, fun Dd nDd => ?_⟩⟩
    obtain ⟨y5a, hy5⟩ := hA5.lst
    have hFo6 := x6 _ _ nFoa hFo5
    have hT6' := hT5.keep (tk_x x6 hy5)
    have hKe6 := x6 _ _ nKea hD5
    have hQ6 := hQ5.x hy5 x6
    have x06 := x05.trans x6
    refine pick_telsX hl3 hT6 nDd (fun t => !decide (kyOf t ∈ (us ++ rt).map kyOf)) (by omega) (fun _ => rfl) ?_ (fun x H Q q => ⟨_, rfl, q⟩) ?_
    · intro pu u H' hu' hH s' Q' q'
      refine ⟨_, rfl, pu, u, rfl, hH, fun kq nkq => ⟨_, rfl, kyD (kyOf u), ((us ++ rt).map kyOf).map kyD, dp_ky upd_same, .lst (.inl (.inl ((same_new nkq) _ _ (s' _ _ hKe6)))) (dp_kys (hQ6.same (s'.trans (same_new nkq)))), shaped_ky (okky (ok6 u hu')), shaped_list (lay_kys okK) (by have := depth_kys ((us ++ rt).map kyOf); omega), _, rfl, ?_⟩⟩
      rw [any_kyD]
      exact q' _ (same_new nkq)
    intro bs7 H7 s7 hDd7 hT7
    have hFo7 := s7 _ _ hFo6
    have hTu7 := hT6'.keep (tk_same s7)
    have l7 : bs7.length = (ts3.filter fun t => !decide (kyOf t ∈ (us ++ rt).map kyOf)).length := hT7.length
    have l7' : (ts3.filter fun t => !decide (kyOf t ∈ (us ++ rt).map kyOf)).length ≤ 6 := Nat.le_trans (List.length_filter_le _ _) ln6
    refine ⟨Fo, Dd, _, _, rfl, rfl, hFo7, hDd7, lzl (by rw [List.length_map, List.length_map]; omega), fun l4 nl4 => ?_⟩
    have s8 := same_new (o := .lst (cs.map V.ref ++ bs7.map V.ref)) nl4
    have hl4 : upd H7 l4 (.lst (cs.map V.ref ++ bs7.map V.ref)) l4 = some (.lst ((cs ++ bs7).map V.ref)) := by rw [upd_same, List.map_append]
    generalize upd H7 l4 (.lst (cs.map V.ref ++ bs7.map V.ref)) = H8 at s8 hl4 ⊢
    have hT8 : TelsAt H8 (cs ++ bs7) (us ++ ts3.filter fun t => !decide (kyOf t ∈ (us ++ rt).map kyOf)) := Each.append (hTu7.keep (tk_same s8)) (hT7.keep (tk_same s8))
    have hA8 := (hA6.same s7).same s8
    have x08 := x06.trans (sx (s7.trans s8))
    have hfm : ∀ t ∈ ts3.filter (fun t => !decide (kyOf t ∈ (us ++ rt).map kyOf)), t ∈ ts3 ∧ kyOf t ∉ (us ++ rt).map kyOf := fun t ht => by
      obtain ⟨h1, h2⟩ := List.mem_filter.mp ht
      exact ⟨h1, by simpa using h2⟩
    obtain ⟨vs, hvs'⟩ : ∃ vs, vs = us ++ ts3.filter fun t => !decide (kyOf t ∈ (us ++ rt).map kyOf) := ⟨_, rfl⟩
    have okV : ∀ t ∈ vs, OkT t ∧ (t.v ∈ p0 ∧ t.tl ∈ p3) := fun t ht => by
      rw [hvs'] at ht
      rcases List.mem_append.mp ht with h | h
      · exact ⟨oku t h, vu t h⟩
      · exact ⟨ok6 t (hfm t h).1, vs6 t (hfm t h).1⟩
    have ndV : (vs.map keyS).Nodup := by
      rw [hvs', List.map_append, List.nodup_append]
      refine ⟨ndu, nd6.sublist (List.filter_sublist.map keyS), fun x hx y hy e => ?_⟩
      obtain ⟨u, hu, rfl⟩ := List.mem_map.mp hx
      obtain ⟨t, ht, rfl⟩ := List.mem_map.mp hy
      exact (hfm t ht).2 (List.mem_map.mpr ⟨u, List.mem_append.mpr (.inl hu), (ky_keyS u t).mpr e⟩)
    have lV : vs.length ≤ ts.length + 6 := by
      rw [hvs', List.length_append]
      omega
    rw [← hvs'] at hT8
    clear hvs' hfm
    -- forward or backward
    refine ⟨_, rfl, _, rfl, lz, fun l5 nl5 => ?_⟩
    have s9 := same_new (o := .lst [V.int 1, V.int (-1)]) nl5
    have hl5 : upd H8 l5 (.lst [V.int 1, V.int (-1)]) l5 = some (.lst [V.int 1, V.int (-1)]) := upd_same
    have hl4 := s9 _ _ hl4
    have hT9 := hT8.keep (tk_same s9)
    have hA9 := hA8.same s9
    have x09 := x08.trans (sx s9)
    generalize upd H8 l5 (.lst [V.int 1, V.int (-1)]) = H9 at s9 hl5 hl4 hT9 hA9 x09 ⊢
    refine ⟨_, rfl, a, 2, rfl, hA9, by decide, by decide, fun rr H10 h0 h2 hA10 x10 nf10 => ?_⟩
    obtain ⟨y9, hy9⟩ := hA9.lst
    have nl5a : l5 ≠ a := hA8.ne nl5
    have nl4a : l4 ≠ a := (hA6.same s7).ne nl4
    have hl5' := x10 _ _ nl5a hl5
    have hl4' := x10 _ _ nl4a hl4
    have hT10 := hT9.keep (tk_x x10 hy9)
    have x010 := x09.trans x10
    have back0 : ∀ {p : Addr}, H10 p = none → H p = none := fun {p} e => by
      cases e0 : H p with
      | none => rfl
      | some o =>
        by_cases z : p = a
        · rw [z] at e
          obtain ⟨ys, h3⟩ := hA10.lst
          rw [h3] at e
          cases e
        · rw [x010 _ _ z e0] at e
          cases e
    rcases (show rr = 0 ∨ rr = 1 by omega) with rfl | rfl
    · refine ⟨l5, _, 0, .int 1, rfl, rfl, .inl (.inl hl5'), atI_nat (j := 0) rfl, 1, rfl, l4, _, 1, rfl, rfl, .inl (.inl hl4'), .inl ⟨rfl, fun p np => ?_⟩⟩
      have s11 := same_new (o := .lst ((cs ++ bs7).map V.ref)) np
      exact q p (cs ++ bs7) vs _ (back0 np) (hA10.same s11) (x010.trans (sx s11)) ⟨upd_same, hT10.keep (tk_same s11)⟩ (fun t ht => (okV t ht).1) (fun t ht => (okV t ht).2) ndV lV
    · refine ⟨l5, _, 1, .int (-1), rfl, rfl, .inl (.inl hl5'), atI_nat (j := 1) rfl, -1, rfl, l4, _, -1, rfl, rfl, .inl (.inl hl4'), .inr ⟨rfl, fun p np => ?_⟩⟩
      have s11 := same_new (o := .lst (((cs ++ bs7).map V.ref).reverse)) np
      refine q p (cs ++ bs7).reverse vs.reverse _ (back0 np) (hA10.same s11) (x010.trans (sx s11)) ⟨by rw [upd_same, List.map_reverse], each_rev (hT10.keep (tk_same s11))⟩ (fun t ht => (okV t (List.mem_reverse.mp ht)).1) (fun t ht => (okV t (List.mem_reverse.mp ht)).2) ?_ (by rw [List.length_reverse]; exact lV)
      rw [List.map_reverse]
      exact (List.reverse_perm _).nodup_iff.mpr ndV

end
end Wl

/-! Sets of texts, whole: set(xs), {e for ..}, sorted(a set). -/
namespace Wl
open PySem PySem.Spec PyProof.Rows L2
open PySem.Froz (SD sObj TxOk addTx tailTx)
theorem tail_ris {ep : Nat} {es : Array (Int × Value)} {t : SetTable} {b : Bool} (r : Ris t.place.toList) : Ris (tailTx ep es t b).2.2.place.toList := by
  unfold tailTx
  split
  · exact relayAll_ris _ _ _
  · exact r
theorem tail_led {ep : Nat} {es : Array (Int × Value)} {t : SetTable} {b : Bool} : (tailTx ep es t b).2.2.led = t.led := by
  unfold tailTx
  split
  · exact relayAll_led _ _ _
  · rfl
theorem add_ris {h : Int} {v : Value} {D : SD} (r : Ris D.2.2.place.toList) : Ris (addTx h v D).2.2.place.toList := by
  unfold addTx
  refine tail_ris ?_
  split
  · exact layNew_ris _ _ _ _ r
  · exact layNew_ris _ _ _ _ r
theorem add_led {h : Int} {v : Value} {D : SD} : (addTx h v D).2.2.led = D.2.2.led := by
  unfold addTx
  rw [tail_led]
  split
  · exact layNew_led _ _ _ _
  · exact layNew_led _ _ _ _
/-- the set at a holds the texts l, each once -/
structure SetX (P : Program) (w : World) (h : Heap) (a : Addr) (l : List Str) : Prop where
  nd : l.Nodup
  ob : ∃ D : SD, h.get? a = some (sObj "set" D) ∧ TxOk P w D l ∧ Ris D.2.2.place.toList ∧ (w.params.followText "set-order" = true ∨ D.2.2.led = true)
section
variable {P : Program} {w : World} {A : Around} {E : Value → Shared → Prop} {s : Shared} {a : Addr} {l : List Str} {k : Str} {u : Tok}
theorem SetX.at {h h' : Heap} (R : SetX P w h a l) (q : ∀ o, h.get? a = some o → h'.get? a = some o) : SetX P w h' a l := by
  obtain ⟨D, h1, h2⟩ := R.ob
  exact ⟨R.nd, D, q _ h1, h2⟩
/-- a text that is there already -/
theorem add_old {T : String} {D : SD} {Q : Bool → Shared → Prop} (hob : s.heap.get? a = some (sObj T D)) (F : TxOk P w D l) (hk : k ∈ l) (hb : l.length < scanBound) (h : Q false s) : wpAny (model P w) A (setAddHashed a (.str k u) (hashStr w k)) Q E s := by
  obtain ⟨es, ep, t⟩ := D
  have hdt : (sObj T (es, ep, t)).data = .set es ep t := rfl
  have hft : t.fits es.size = true := F.fit
  have hels : ElemsOf (strKind P w) es.toList := F.el
  have hn : es.size < scanBound := by rw [show es.size = l.length from F.sz]; exact hb
  have hks : (strKind P w).is k (.str k u) = true := PySem.Froz.is_str k u
  obtain ⟨j, hj⟩ : ∃ j, List.findIdx? (fun e => (strKind P w).is k e.2) es.toList = some j := by
    obtain ⟨e, he, hq⟩ := (F.mem k).mp hk
    cases hr : List.findIdx? (fun e => (strKind P w).is k e.2) es.toList with
    | some j => exact ⟨j, rfl⟩
    | none =>
      have := List.findIdx?_eq_none_iff.mp hr e he
      rw [hq] at this
      cases this
  unfold setAddHashed setAddHashedIn
  refine wpAny_holding (wpAny_bind (wpAny_setState_of hob hdt hft ?_))
  dsimp only
  rw [byScan_of rfl hn hels]
  simp only [↓reduceIte]
  unfold setAddByScan
  refine wpAny_bind (wpAny_bind (wpAny_rule (wpAny_bind (wpAny_setScan_of (knd := strKind P w) (k := k) hks hob hdt hft hels ?_))))
  rw [hj]
  dsimp only
  exact wpAny_pure (wpAny_pure h)
/-- a text put in -/
theorem setX_put {Q : Bool → Shared → Prop} (R : SetX P w s.heap a l) (room : l.length + 1 < scanBound)
    (hQ : ∀ (b : Bool) (h' : Heap) (l' : List Str), (∀ c o, c ≠ a → s.heap.get? c = some o → h'.get? c = some o) → SetX P w h' a l' → (∀ z, z ∈ l' ↔ z ∈ l ∨ z = k) → l'.length ≤ l.length + 1 → Q b { s with heap := h', toks := s.toks + 1 }) :
    wpAny (model P w) A (setAdd a (.str k u)) Q E s := by
  obtain ⟨D, h1, F, r, hl⟩ := R.ob
  unfold setAdd
  refine wpAny_holding (wpAny_bind ((PySem.strKind P w).pyHash (k := k) (strKind_is _ _ _ _) ?_))
  by_cases hk : k ∈ l
  · refine add_old (s := { s with toks := s.toks + 1 }) h1 F hk (by omega) (hQ false s.heap l (fun _ _ _ e => e) R (fun z => ?_) (Nat.le_succ _))
    constructor
    · exact .inl
    · rintro (e | e)
      · exact e
      · rw [e]
        exact hk
  · refine PySem.Froz.add_x (s := { s with toks := s.toks + 1 }) h1 F hk room (hQ true _ (k :: l) (fun c o n e => ?_) ⟨List.nodup_cons.mpr ⟨hk, R.nd⟩, _, PySem.Froz.get_upd _ h1 rfl, PySem.Froz.add_ok u F, add_ris r, ?_⟩ (fun z => ?_) (Nat.le_refl _))
    · exact (Heap.get?_update_other _ _ (Ne.symm n)).trans e
    · rw [add_led]
      exact hl
    · rw [List.mem_cons]
      exact Or.comm
end
section
variable {P : Program} {w : World} {A : Around} {R : Result → Shared → Prop} {I S : Addr} {fp wr : List Addr} {G : Array GenState → Array GenState → Prop} {n : Nat} {Pv : Nat → Value → Prop} {St : Nat → Shared → Prop} {xs : List Str}
/-- the texts of a walk, put in one by one -/
theorem walk_setX (W : WalksS P w A.in1 I fp wr G n Pv St) (hS : S ∉ fp) (hn : n = xs.length) (hb : n + 1 < scanBound) (hv : ∀ i v, Pv i v → ∃ x t, xs[i]? = some x ∧ v = .str x t) :
    ∀ (m i : Nat) (s : Shared) (l : List Str), n - i = m → i ≤ n → St i s → SetX P w s.heap S l → (∀ z, z ∈ l ↔ z ∈ xs.take i) → l.length ≤ i →
      (∀ s' l', Moved (S :: wr) G s s' → SetX P w s'.heap S l' → (∀ z, z ∈ l' ↔ z ∈ xs) → l'.length ≤ n → R (.ok (.ret .none)) s') → codeAny (model P w) A (.builtin "set.update.loop" ⟨[.ref S, .ref I], []⟩) R s := by
  have nS : S ∉ wr := fun q => hS (W.sub _ q)
  have wide : ∀ b ∈ wr, b ∈ S :: wr := fun b q => List.mem_cons_of_mem _ q
  intro m
  induction m with
  | zero =>
    intro i s l hm hi st X hz hl fin
    have e : i = n := by omega
    subst e
    refine codeAny_builtin PyProof.Rows.F.entry_set_update_loop ((Around.under_plainId PyProof.Rows.F.plain_set_update_loop _).symm ▸ ?_)
    show wpAny _ A.in1 (pyNext (.ref I) >>= _) _ _ s
    refine wpAny_bind (W.done s _ _ st fun s' mv => wpAny_pure (fin s' l (mv.mono wide) (X.at fun o q => mv.heap S o nS q) (fun z => ?_) hl))
    rw [hz, hn, List.take_length]
  | succ m ih =>
    intro i s l hm hi st X hz hl fin
    have lt : i < n := by omega
    refine codeAny_builtin PyProof.Rows.F.entry_set_update_loop ((Around.under_plainId PyProof.Rows.F.plain_set_update_loop _).symm ▸ ?_)
    show wpAny _ A.in1 (pyNext (.ref I) >>= _) _ _ s
    refine wpAny_bind (W.item i s _ _ lt st fun v s' pv st' mv => ?_)
    obtain ⟨x, t, hx, rfl⟩ := hv i v pv
    have X1 := X.at (h' := s'.heap) fun o q => mv.heap S o nS q
    show wpAny _ A.in1 (holding [Value.str x t] (setAdd S (.str x t)) >>= _) _ _ s'
    refine wpAny_bind (wpAny_holding (setX_put X1 (by omega) fun b h' l' kp X2 hz2 hl2 => ?_))
    refine wpAny_pure ⟨plainId_quiet PyProof.Rows.F.plain_set_update_loop _, ih (i + 1) _ l' (by omega) lt (W.frame _ s' _ _ st' (Nat.le_succ _) fun c hc o q => ?_) X2 (fun z => ?_) (by omega) fun s'' l'' mv2 X3 hz3 hl3 => fin s'' l'' (Moved.trans W.gtrans ((mv.mono wide).then_heap (Nat.le_succ _) fun c o hc q => ?_) mv2) X3 hz3 hl3⟩
    · exact kp c o (fun e => hS (e ▸ hc)) q
    · rw [hz2, hz, List.take_add_one, hx, List.mem_append]
      simp
    · exact kp c o (fun e => hc (e ▸ List.mem_cons_self)) q
end
theorem texts_each : ∀ {ys : List Str} {us : List Value}, Vals (ys.map V.str) us → ∀ (i : Nat) (v : Value), us[i]? = some v → ∃ x t, ys[i]? = some x ∧ v = .str x t
  | [], [], _, i, v, h => by simp at h
  | [], _ :: _, r, _, _, _ => nomatch r
  | _ :: _, [], r, _, _, _ => nomatch r
  | y :: ys, u :: us, .cons r t, 0, v, h => by
    obtain ⟨k, rfl⟩ := r
    exact ⟨y, k, rfl, (Option.some.inj h).symm⟩
  | y :: ys, u :: us, .cons r t, i + 1, v, h => by
    obtain ⟨x, k, h1, h2⟩ := texts_each t i v (by simpa using h)
    exact ⟨x, k, by simpa using h1, h2⟩
end Wl

namespace Wl
open PySem PySem.Spec PyProof.Rows L2
open PySem.Froz (SD sObj TxOk addTx tailTx)
/-- a new set, as the world lays it -/
abbrev setN (w : World) : Obj := { cls := .type "set", dict := none, data := .set #[] 0 (.fresh 0 0 (!w.params.followText "set-order")) }
theorem setX_new {P : Program} {w : World} {h : Heap} {a : Addr} (ho : h.get? a = some (setN w)) : SetX P w h a [] := by
  refine ⟨List.nodup_nil, (#[], 0, .fresh 0 0 (!w.params.followText "set-order")), ho, PySem.Froz.TxOk.nil rfl, List.Pairwise.nil, ?_⟩
  show _ ∨ (!w.params.followText "set-order") = true
  cases w.params.followText "set-order"
  · exact .inr rfl
  · exact .inl rfl
section
variable {P : Program} {w : World} {A : Around} {E : Value → Shared → Prop} {s : Shared} {xs : List Str}
theorem make_setX {l : Addr} {items : Array Value} {Q : Value → Shared → Prop} (hh : A.handled = none) (hl : s.heap.IsList l items) (r : Vals (xs.map V.str) items.toList) (hb : xs.length + 1 < scanBound)
    (h : ∀ (h' : Heap) (tk : Nat) (ys : List Str), SetX P w h' s.heap.objs.size ys → (∀ z, z ∈ ys ↔ z ∈ xs) → ys.length ≤ xs.length → (∀ b o, b < s.heap.objs.size → s.heap.get? b = some o → h'.get? b = some o) → Q (.ref s.heap.objs.size) { s with heap := h', toks := tk }) :
    wpAny (model P w) A (call (.type "set") [.ref l]) Q E s := by
  have hsz : xs.length = items.size := by
    have := r.length
    rw [List.length_map, Array.length_toList] at this
    exact this
  obtain ⟨c, tl, hmro⟩ := PySem.F.called_set.mro
  have a1 := PySem.F.called_set.made
  have a2 := PySem.F.called_set.sub
  have a3 := PySem.F.called_set.notType
  have a4 := PySem.F.called_set.canCreate
  have a5 := PySem.F.typeCall_set_1 (.ref l)
  refine wpAny_call (codeAny_of_tree (show wpAny _ _ (callAny (.type "set") _) _ _ _ from wpAny_pure ⟨Code.quiet_builtin _ (by decide +kernel), codeAny_builtin PySem.F.entry_type_call ?_⟩))
  rw [Around.under_plain (weight_type_call_type "set" [.ref l] []) rfl]
  repeat (any_goals (first | assumption | wp_step))
  refine codeAny_mono (code_set_led1 (.ref l) (E := E) (Q₁ := fun obj s₁ => obj = .ref s.heap.objs.size ∧ s₁ = { s with heap := s.heap.push (setN w) }) ⟨rfl, rfl⟩) fun r₁ s₁ h₁ => ?_
  cases r₁ with
  | error e => exact h₁
  | ok fl =>
    cases fl with
    | ret obj =>
      obtain ⟨rfl, rfl⟩ := h₁
      have g1 : (s.heap.push (setN w)).get? s.heap.objs.size = some (setN w) := Heap.get?_push_size _ rfl
      have g2 : Shared.TypeIs { s with heap := s.heap.push (setN w) } (.ref s.heap.objs.size) "set" := ⟨_, g1, rfl⟩
      have g3 := PySem.F.called_set.init.lookup
      have g4 := PySem.F.called_set.init.bind (.ref s.heap.objs.size)
      repeat (any_goals (first | assumption | wp_step))
      refine codeAny_mono (codeAny_call_builtin (R := wants (fun v s₂ => v = .none ∧ ∃ h' tk ys, s₂ = { s with heap := h', toks := tk } ∧ SetX P w h' s.heap.objs.size ys ∧ (∀ z, z ∈ ys ↔ z ∈ xs) ∧ ys.length ≤ xs.length ∧ (∀ b o, b < s.heap.objs.size → s.heap.get? b = some o → h'.get? b = some o)) E) PySem.F.called_set.init.plain PySem.F.entry_set_init (check_set_init_1 g2 ?_)) fun r₂ s₂ h₂ => ?_
      · obtain ⟨⟨oc, odt, oda, osl⟩, e1, e2, nl, e3⟩ := hl
        simp only at e2 e3
        subst e2 e3
        have e4 : (s.heap.push (setN w)).get? l = some { cls := .type "list", dict := odt, data := .seq items nl, slots := osl } := Heap.get?_push_of_some _ e1
        have b1 := PySem.F.sub_list_set
        have b2 := PySem.F.sub_list_frozenset
        have b3 : (Value.type "list" == Value.type "dict") = false := by decide
        have il : (s.heap.push (setN w)).IsList l items := ⟨_, e4, rfl, nl, rfl⟩
        have ll : l < s.heap.objs.size := Heap.lt_size e1
        have zz : (s.heap.push (setN w)).objs.size = s.heap.objs.size + 1 := Heap.size_push ..
        unfold Builtin.«set.__init__» noKeywords Builtin.Frozenset.updateFrom
        generalize hPI : pyIter = PI
        wp_walk
        subst hPI
        refine wpAny_pyIter_list il (wpAny_bind (wpAny_runValue ?_))
        have hh3 : A.in1.in1.in1.handled = none := by simp [hh]
        refine walk_setX (S := s.heap.objs.size) (xs := xs) (n := items.size) ((Walks.list hh3 _ l (by rw [zz]; exact Nat.ne_of_lt (Nat.lt_succ_of_lt ll)) items).toS) (by rw [zz]; simp only [List.mem_cons, List.not_mem_nil, or_false, not_or]; exact ⟨Nat.ne_of_lt (Nat.lt_succ_self _), Nat.ne_of_gt ll⟩) hsz.symm (by omega) (fun i v q => texts_each r i v (by rw [Array.getElem?_toList]; exact q)) (items.size - 0) 0 _ [] (by omega) (Nat.zero_le _) ⟨⟨_, Heap.get?_push_size _ rfl, rfl, rfl⟩, il.push _⟩ (setX_new (Heap.get?_push_of_some _ g1)) (fun z => by simp) (Nat.le_refl _) ?_
        intro s' ys mv X hz hy
        obtain ⟨h', g', d', tk', os'⟩ := s'
        obtain rfl : g' = s.gens := mv.gens
        obtain rfl : d' = s.drawn := mv.drawn
        obtain rfl : os' = s.os := mv.os
        refine wpAny_pure (show wpAny _ _ (ret Value.none) _ _ _ from wpAny_pure ⟨rfl, h', tk', ys, rfl, X, hz, by rw [hsz]; exact hy, fun b' o hb' q => mv.heap b' o ?_ (Heap.get?_push_of_some _ (Heap.get?_push_of_some _ q))⟩)
        rw [zz]
        simp only [List.mem_cons, List.not_mem_nil, or_false, not_or]
        exact ⟨Nat.ne_of_lt hb', Nat.ne_of_lt (Nat.lt_succ_of_lt hb')⟩
      · cases r₂ with
        | error e => exact h₂
        | ok fl₂ =>
          cases fl₂ with
          | ret v =>
            obtain ⟨rfl, h', tk, ys, rfl, X, hz, hy, kk⟩ := h₂
            repeat (any_goals (first | assumption | wp_step))
            exact h _ _ ys X hz hy kk
          | _ => exact h₂.elim
    | _ => exact h₁.elim
end
/-! as tracked things -/
def SetXO (P : Program) (w : World) (a : Addr) (l : List Str) : HO := .ext fun h => SetX P w h a l
theorem setXO_ok {P : Program} {w : World} {H : Hp} {h : Heap} {a : Addr} {l : List Str} (R : SetX P w h a l) : ObjOk P w H h a (SetXO P w a l) := by
  obtain ⟨D, h1, _⟩ := R.ob
  exact ⟨R, ⟨_, h1⟩, fun _ _ p k => p.at k⟩
theorem same_members {ks : List Str} : ∀ {l : List Str}, l.Nodup → (∀ z ∈ l, z ∈ ks) → ks.length = l.length → ks.Perm l := by
  intro l
  induction l generalizing ks with
  | nil =>
    intro _ _ h
    rw [List.eq_nil_of_length_eq_zero h]
  | cons x l ih =>
    intro nd hs hl
    rw [List.nodup_cons] at nd
    have hx := hs x List.mem_cons_self
    have p := List.perm_cons_erase hx
    refine p.trans (List.Perm.cons x (ih nd.2 (fun z hz => ?_) ?_))
    · have hne : z ≠ x := fun e => nd.1 (e ▸ hz)
      exact (List.mem_erase_of_ne hne).mpr (hs z (List.mem_cons_of_mem _ hz))
    · have := p.length_eq
      rw [List.length_cons] at this
      rw [List.length_cons] at hl
      omega
def txtV : Value → Str
  | .str k _ => k
  | _ => ""
theorem strs_srt (ks : List Str) : ks.mergeSort (PySem.W.dataLe false PyData.str) = sortS ks := by
  unfold sortS
  congr 1
  funext a b
  exact le_data_str a b
theorem each_txt : ∀ {vs : List Value}, (∀ v ∈ vs, ∃ k t, v = .str k t) → PySem.W.EachIs (fun u z => RelV (.str z) u) vs (vs.map txtV)
  | [], _ => .nil
  | v :: vs, h => by
    obtain ⟨k, t, rfl⟩ := h v List.mem_cons_self
    exact .cons ⟨t, rfl⟩ (each_txt fun u hu => h u (List.mem_cons_of_mem _ hu))
theorem vals_txt : ∀ {out : List Value} {ks : List Str}, PySem.W.EachIs (fun u z => RelV (.str z) u) out ks → Vals (ks.map V.str) out
  | _, _, .nil => .nil
  | _, _, .cons r t => .cons r (vals_txt t)
theorem sortS_perm {a b : List Str} (nd : b.Nodup) (p : a.Perm b) : sortS a = sortS b := by
  refine sortS_eq nd (sortS_rising (p.nodup_iff.mpr nd)) fun z => ?_
  rw [mem_sortS, p.mem_iff]
section
variable {X : Cx}
/-- set(xs), xs a list of texts -/
def rSetX (K : PySem.W.Frag) (P : Program) (w : World) : List V → Hp → VK → Prop := fun xs H Q => ∃ (p : Addr) (ys : List Str), xs = [V.ref p] ∧ SqL K H p (ys.map V.str) ∧ ys.length ≤ 1000 ∧
  ∀ (a : Addr) (l : List Str), H a = none → l.Nodup → (∀ z, z ∈ l ↔ z ∈ ys) → l.length ≤ ys.length → Q (.ref a) (upd H a (SetXO P w a l))
theorem cr_setX (hc : X.calm = true) : CallR X (.type "set") (rSetX X.K X.prog X.w) := by
  intro pins s σ H xs us Q I r h
  obtain ⟨p, ys, rfl, hp, hy, q⟩ := h
  rw [Vals.ref1 r]
  obtain ⟨its, rv, pl, hz⟩ := I.list hp
  refine make_setX (P := X.prog) (w := X.w) (I.ok.hd hc) pl.isList (by simpa using rv) (by unfold scanBound; omega) fun h' tk l R hm hl k => ?_
  exact ⟨.ref s.heap.objs.size, upd H s.heap.objs.size (SetXO X.prog X.w s.heap.objs.size l), I.laid (t' := tk) (fun b o e => k b o (Heap.lt_size e) e) (Nat.le_refl _) (setXO_ok R), rfl, q _ l (I.hok.fresh (Nat.le_refl _)) R.nd hm hl⟩
/-- sorted(a set of texts) -/
def rSortX (P : Program) (w : World) : List V → Hp → VK → Prop := fun vs H Q => ∃ (a : Addr) (l : List Str), vs = [V.ref a] ∧ H a = some (SetXO P w a l) ∧ l.length ≤ 1000 ∧ ∀ p, H p = none → Q (.ref p) (upd H p (.lst ((sortS l).map V.str)))
theorem cr_sortX (hc : X.calm = true) (hu : X.A.units + 64 < cLine) : CallR X (.builtin "sorted") (rSortX X.prog X.w) := by
  intro pins s σ H vs us Q I r h
  obtain ⟨a, l, rfl, ha, hl, q⟩ := h
  have R : SetX X.prog X.w s.heap a l := (I.hok a _ ha).1
  rw [Vals.ref1 r]
  obtain ⟨⟨es, ep, t⟩, ho, F, ri, led⟩ := R.ob
  have hes : es.size = l.length := F.sz
  refine Calls.call_function_entry PyProof.Rows.kind_sorted PyProof.Rows.plain_sorted PyProof.Rows.entry_sorted (PyProof.Rows.args_sorted1 _) ?_
  unfold Builtin.«sorted»
  refine wpAny_bind (m := checkCount "sorted" 1 1 _) (wpAny_pure ?_)
  refine wpAny_bind (collect_set (A := X.A.in1) (I.ok.hd hc) ⟨_, ho, rfl, rfl⟩ F.fit (by show es.size < scanBound; unfold scanBound; omega) ri led fun s1 out k1 z1 g1 o1 pm => ?_)
  have hv : ∀ v ∈ out, ∃ k t, v = Value.str k t := fun v hv => by
    obtain ⟨e, he, rfl⟩ := List.mem_map.mp (pm.mem_iff.mp hv)
    obtain ⟨⟨k, hk, _⟩, _⟩ := F.el e he
    obtain ⟨t, ht⟩ := Value.isStrOf_shape (x := k) (v := e.2) hk
    exact ⟨k, t, ht⟩
  have hol : out.length = l.length := by
    rw [pm.length_eq, List.length_map, Array.length_toList]
    exact hes
  have pl : (out.map txtV).Perm l := by
    refine same_members R.nd (fun z hz => ?_) (by rw [List.length_map]; exact hol)
    obtain ⟨e, he, hk⟩ := (F.mem z).mp hz
    obtain ⟨t, ht⟩ := Value.isStrOf_shape (x := z) (v := e.2) hk
    refine List.mem_map.mpr ⟨e.2, pm.mem_iff.mpr (List.mem_map.mpr ⟨e, he, rfl⟩), ?_⟩
    rw [ht]
    rfl
  have hS := each_txt hv
  have hsl : (out.map txtV).length ≤ sizeLine := by
    rw [List.length_map, hol]
    exact Nat.le_trans hl (by decide)
  refine wpAny_bind (wpAny_newList ?_ (by rw [hol]; exact Nat.le_trans hl (by decide)))
  have hoL : (s1.heap.push (seqObj "list" out.toArray 0)).get? s1.heap.objs.size = some (seqObj "list" out.toArray 0) := Heap.get?_push_size _ rfl
  refine wpAny_bind (wpAny_holding (PySem.W.list_sort_data (R := fun u z => RelV (.str z) u) (enc := PyData.str) (s := { s1 with heap := s1.heap.push (seqObj "list" out.toArray 0) }) hoL hS (hS.mono fun v b r => ?_) (PySem.W.AllAlike.of fun _ _ => rfl) (PySem.W.Sortable.others fun b => ⟨(fun e => by cases e), (fun xs e => by cases e)⟩) hsl (fun b _ => ?_) fun srt hso eo => ?_))
  · obtain ⟨t, rfl⟩ := r
    exact ⟨[], .str _ _, by simp⟩
  · show X.A.units + 1 + 1 + 0 < cLine
    omega
  · rw [strs_srt, sortS_perm R.nd pl] at eo
    obtain ⟨e', he'⟩ := PyProof.Rows.sortedHeap_at (vs := out) (out := srt.toArray) hoL
    have hlen : ((sortS l).map V.str).length ≤ sizeLine := by
      rw [List.length_map, sortS_len]
      exact Nat.le_trans hl (by decide)
    have hn : H s1.heap.objs.size = none := I.hok.fresh z1
    have kp : ∀ b o, s.heap.get? b = some o → (PyProof.Rows.sortedHeap (s1.heap.push (seqObj "list" out.toArray 0)) s1.heap.objs.size out srt.toArray).get? b = some o := fun b o e => by
      have q1 := k1 b o e
      have hb := Heap.lt_size q1
      rw [PyProof.Rows.sortedHeap_old (Nat.ne_of_lt hb) (by rw [size_push']; exact Nat.lt_succ_of_lt hb)]
      exact Heap.get?_push_of_some _ q1
    have J : L2.Inv X pins σ (upd H s1.heap.objs.size (.lst ((sortS l).map V.str))) { s with heap := PyProof.Rows.sortedHeap (s1.heap.push (seqObj "list" out.toArray 0)) s1.heap.objs.size out srt.toArray, gens := s1.gens, drawn := s1.drawn, toks := s1.toks } :=
      I.call (ch := []) (Un.laid kp z1 hn) (I.hok.laid kp z1 ⟨hlen, srt, e', vals_txt eo, he'⟩) (by rw [g1]; exact I.bare) (fun _ z => nomatch z)
    have es1 : ({ s1 with heap := PyProof.Rows.sortedHeap (s1.heap.push (seqObj "list" out.toArray 0)) s1.heap.objs.size out srt.toArray } : Shared) = { s with heap := PyProof.Rows.sortedHeap (s1.heap.push (seqObj "list" out.toArray 0)) s1.heap.objs.size out srt.toArray, gens := s1.gens, drawn := s1.drawn, toks := s1.toks } := by
      cases s1
      cases s
      cases o1
      rfl
    refine wpAny_pure ⟨_, rfl, .ref s1.heap.objs.size, upd H s1.heap.objs.size (.lst ((sortS l).map V.str)), ?_, rfl, q _ hn⟩
    show L2.Inv X pins σ _ { s1 with heap := PyProof.Rows.sortedHeap (s1.heap.push (seqObj "list" out.toArray 0)) s1.heap.objs.size out srt.toArray }
    rw [es1]
    exact J
end
end Wl

/-! {e for x in xs if t}, e a text. -/
namespace Wl
open PySem PySem.Spec PyProof.Rows L2
section
variable {X : Cx}
/-- set.add of a text to a tracked set -/
theorem putX_ok {pins : List (Addr × Obj)} {σ : L2.St} {H : Hp} {s : Shared} {E : Value → Shared → Prop} {D : Addr} {l : List Str} {z : Str} {tk : Tok} {Q : Value → Shared → Prop} (I : L2.Inv X pins σ H s) (hD : H D = some (SetXO X.prog X.w D l)) (room : l.length + 1 < scanBound)
    (h : ∀ s' l', l'.Nodup → (∀ y, y ∈ l' ↔ y ∈ l ∨ y = z) → l'.length ≤ l.length + 1 → L2.Inv X pins σ (upd H D (SetXO X.prog X.w D l')) s' → Q .none s') : wpAny (model X.prog X.w) X.A (call (.builtin "set.add") [.ref D, .str z tk]) Q E s := by
  have R : SetX X.prog X.w s.heap D l := (I.hok D _ hD).1
  obtain ⟨D0, ho, _⟩ := R.ob
  refine wpAny_call_entry F.slot_set_add ⟨_, ho, rfl⟩ F.entry_set_add ?_ (F.args_set_add_2 _ _)
  unfold Builtin.«set.add» Builtin.Frozenset.oneOther
  simp only [List.isEmpty_nil, bind_assoc]
  unfold Builtin.Frozenset.addrOf
  refine wpAny_bind (wpAny_pure (wpAny_bind (wpAny_pure (wpAny_bind ?_))))
  refine setX_put R room fun b h' l' kp R' hm hl => ?_
  show wpAny _ _ (ret Value.none) _ _ _
  obtain ⟨D1, ho1, _⟩ := R'.ob
  exact wpAny_pure ⟨_, rfl, h _ l' R'.nd hm hl (I.write (e := D) (t' := s.toks + 1) (by rw [hD]; trivial) (.inl rfl) (fun c u hc hu => kp c u hc hu) ⟨_, ho1⟩ (setXO_ok R'))⟩
/-- what {e for x in xs if t} asks: D the new set, grown text by text -/
def tScX (P : Program) (w : World) (wi : TI) (g : TG) (tt : TT) (te : TE) (vs : List Nat) : TE := fun σ H Q => wi σ H fun J H1 => ∀ D, H1 D = none → ∃ W : Nat → Nat → Hp → Prop, (∃ m, W 0 m (upd H1 D (SetXO P w D []))) ∧ ∀ i m H, W i m H →
  (J.stop i H ∧ Q (.ref D) H) ∨ (J.go i H ∧ ∃ Nx : Hp → Prop, (∀ H', Nx H' → ∃ m', m' < m ∧ W (i + 1) m' H') ∧ ∀ x H', J.yld i H x H' → g x (wipe σ vs) H' fun σ2 H2 => wipe σ2 vs = wipe σ vs ∧ tt σ2 H2 fun b H3 =>
    if b = true then te σ2 H3 fun y H4 => ∃ (z : Str) (l : List Str), y = .str z ∧ H4 D = some (SetXO P w D l) ∧ l.length + 1 < scanBound ∧ ∀ l', l'.Nodup → (∀ u, u ∈ l' ↔ u ∈ l ∨ u = z) → l'.length ≤ l.length + 1 → Nx (upd H4 D (SetXO P w D l')) else Nx H3)
theorem pe_scX {elt tg iter : Expr} {ifs : List Expr} {scope : Scope} {own : List (PySem.Str × Nat)} {pos : Pos} {wi : TI} {g : TG} {tt : TT} {te : TE} (hcalm : X.calm = true) (nd : X.N.Nodup) (pit : PI X tg iter wi) (bok : BlkOk X.N X.env.scope scope own)
    (gg : ∀ (s : Shared) (H : Hp) (C : Addr) (cl : List (PySem.Str × Addr)) (fp : List Addr), PG (X.blk s H scope (compEnvC scope cl C X.env) fp) tg g) (gt : ∀ (s : Shared) (H : Hp) (C : Addr) (cl : List (PySem.Str × Addr)) (fp : List Addr), PTs (X.blk s H scope (compEnvC scope cl C X.env) fp) ifs tt)
    (ge : ∀ (s : Shared) (H : Hp) (C : Addr) (cl : List (PySem.Str × Addr)) (fp : List Addr), PE (X.blk s H scope (compEnvC scope cl C X.env) fp) elt te) (hfold : ∀ x, foldedSetIterable iter X.env x = pure x := by intro _; rfl) :
    PE X (.SetComp elt [⟨tg, iter, ifs, 0⟩] scope pos) (tScX X.prog X.w wi g tt te (own.map (·.2))) := by
  refine ⟨fun pins s σ H Q I rd => ?_⟩
  rw [PpSet.eval_SetComp]
  have frees : ∀ y ∈ scope.names, y.2 = .free → ∃ c, X.env.cells.lookup y.1 = some c := fun y hy e => by
    rcases bok.free y hy e with q | q
    · exact I.ok.has _ (.inl q)
    · exact I.ok.has _ (.inr q)
  refine wpAny_comprehension_free (use := none) rfl hfold (closure_ok frees) bok.kind (fun y hy e => by rw [bok.uniq y hy, e]) (thn (pit.run pins s σ H _ I rd) fun xv s1 hx => thn hx fun itv s2 h2 => ?_)
  obtain ⟨it, fp, tn, J, H2, e, I2, T, st2, f2, q⟩ := h2
  subst e
  refine PpSet.newSet_ok (newEnv_comp ?_)
  obtain ⟨D, hD⟩ : ∃ D, s2.heap.objs.size = D := ⟨_, rfl⟩
  obtain ⟨W, ⟨m0, w0⟩, turn⟩ := q D (I2.hok.fresh (Nat.le_of_eq hD))
  obtain ⟨s3, hs3⟩ : ∃ s3 : Shared, ({ s2 with heap := s2.heap.push (setN X.w) } : Shared) = s3 := ⟨_, rfl⟩
  obtain ⟨H3, hH3⟩ : ∃ H3, upd H2 D (SetXO X.prog X.w D []) = H3 := ⟨_, rfl⟩
  have heap3 : s3.heap = s2.heap.push (setN X.w) := by rw [← hs3]
  have I3 : L2.Inv X pins σ H3 s3 := by
    rw [← hs3, ← hH3]
    refine I2.laid (t' := s2.toks) (fun b o e => Heap.get?_push_of_some _ e) (Nat.le_of_eq hD) ?_
    rw [← hD]
    exact setXO_ok (setX_new (Heap.get?_push_size _ rfl))
  have f3 : ∀ b ∈ fp, FpOk X pins H3 b ∧ b < s3.heap.objs.size := fun b hb => by
    obtain ⟨o, e, _⟩ := T.obj _ _ st2 b hb
    have lt := Heap.lt_size e
    refine ⟨⟨?_, (f2 b hb).2⟩, by rw [heap3, Heap.size_push]; exact Nat.lt_succ_of_lt lt⟩
    rw [← hH3, upd_ne (by rw [← hD]; exact Nat.ne_of_lt lt)]
    exact (f2 b hb).1
  have none3 : ∀ b ∈ fp, H3 b = none := fun b hb => (f3 b hb).1.1
  rw [hH3] at w0
  show codeAny _ _ (.compStart (.SetComp elt [⟨tg, iter, ifs, 0⟩] scope pos) 0 (.ref it) (.ref s2.heap.objs.size) (compEnvC scope (cellsFrom ((s2.heap.push (setN X.w)).objs.size + 1) scope.names (cloFrom X.env.cells scope.names [])) (s2.heap.push (setN X.w)).objs.size X.env)) (compPost (model X.prog X.w) X.A X.xe none _ (.ref s2.heap.objs.size) (s2.heap.push (setN X.w)).objs.size) { s2 with heap := pushCells ((s2.heap.push (setN X.w)).push { cls := .type "dict", data := .dict #[] }) scope.names }
  rw [← heap3, hD]
  have st3 : tn 0 s3.heap := T.keep _ _ _ st2 fun b _ o e => by rw [heap3]; exact Heap.get?_push_of_some _ e
  have I4 := block_start I3 bok nd f3
  obtain ⟨ce, hce⟩ : ∃ ce, compEnvC scope (cellsFrom (s3.heap.objs.size + 1) scope.names (cloFrom X.env.cells scope.names [])) s3.heap.objs.size X.env = ce := ⟨_, rfl⟩
  have pg := gg s3 H3 s3.heap.objs.size (cellsFrom (s3.heap.objs.size + 1) scope.names (cloFrom X.env.cells scope.names [])) fp
  have pt := gt s3 H3 s3.heap.objs.size (cellsFrom (s3.heap.objs.size + 1) scope.names (cloFrom X.env.cells scope.names [])) fp
  have pe := ge s3 H3 s3.heap.objs.size (cellsFrom (s3.heap.objs.size + 1) scope.names (cloFrom X.env.cells scope.names [])) fp
  have locs : ce.locals = s3.heap.objs.size := by rw [← hce]; rfl
  rw [hce] at I4 pg pt pe ⊢
  obtain ⟨s4, hs4⟩ : ∃ s4 : Shared, ({ s3 with heap := pushCells (s3.heap.push { cls := .type "dict", data := .dict #[] }) scope.names } : Shared) = s4 := ⟨_, rfl⟩
  have es4 : ({ s2 with heap := pushCells (s3.heap.push { cls := .type "dict", data := .dict #[] }) scope.names } : Shared) = s4 := by
    rw [← hs4, ← hs3]
  rw [hs4] at I4
  rw [es4]
  have st4 : tn 0 s4.heap := T.keep _ _ _ st3 fun b _ o e => by rw [← hs4]; exact pushCells_keeps _ _ _ _ (Heap.get?_push_of_some _ e)
  have calmFp : ∀ {σ' : L2.St} {H' : Hp} {s' : Shared}, L2.Inv (X.blk s3 H3 scope ce fp) [] σ' H' s' → (∀ b ∈ fp, H' b = none) → ∀ b ∈ fp, FpOk (X.blk s3 H3 scope ce fp) [] H' b := fun {σ' H' s'} I' hn b hb =>
    ⟨hn b hb, (I'.ok.exf b hb).1, I'.ok.exfs b hb, .inl hb, fun x c e => (I'.ok.exf b hb).2 x c e, fun r hr => absurd (show r ∈ ([] : List (Addr × Obj)) ++ [] from hr) (by simp)⟩
  have loop : codeAny (model X.prog X.w) X.A (.compLoop (.SetComp elt [⟨tg, iter, ifs, 0⟩] scope pos) 0 (.ref it) (.ref D) ce) (compPost (model X.prog X.w) X.A X.xe none (fun v s' => ∃ x H', L2.Inv X pins σ H' s' ∧ RelV x v ∧ Q x H') (.ref D) s3.heap.objs.size) s4 := by
    refine PpSet.compLoopS_any (fun n s' => ∃ i H', L2.Inv (X.blk s3 H3 scope ce fp) [] (wipe σ (own.map (·.2))) H' s' ∧ tn i s'.heap ∧ (∀ b ∈ fp, H' b = none) ∧ W i n H') ?_ m0 ⟨0, H3, I4, st4, none3, w0⟩
    rintro n s5 ⟨i, H5, I5, st5, n5, w5⟩
    rcases turn i n H5 w5 with ⟨stop, qq⟩ | ⟨go, Nx, hNx, step⟩
    · refine thnF (T.done (X.blk s3 H3 scope ce fp) rfl rfl rfl hcalm i [] s5 _ H5 (fun _ _ => False) I5 (calmFp I5 n5) st5 stop) fun r s6 ⟨hr, I6⟩ => ?_
      subst hr
      have I7 : L2.Inv X pins σ H5 s6 := I3.call' (ch := fp) I6.os I6.base I6.hok I6.bare fun b hb => ⟨(f3 b hb).1.2.2.2.1, (f3 b hb).1.2.1, (f3 b hb).1.2.2.2.2.1, (f3 b hb).1.2.2.2.2.2⟩
      have nC : H5 s3.heap.objs.size = none := by
        have z : H5 ce.locals = none := I6.free
        rw [locs] at z
        exact z
      obtain ⟨m, hn, _⟩ := I6.loc
      have hn : s6.heap.Ns ce.locals m := hn
      rw [locs] at hn
      obtain ⟨k0, k1, k2, k3, k4, k5⟩ := I3.fpOk (Nat.le_refl _) nC
      exact ⟨m, hn, fun h'' sb => ⟨.ref D, H5, I7.turned (t' := s6.toks) (fun b o hb e => (sb.2 b hb).trans e) k0 k1 k3 k4 k5, rfl, qq⟩⟩
    · refine thnF (T.item (X.blk s3 H3 scope ce fp) rfl rfl rfl hcalm i [] s5 _ H5 (fun _ _ => False) I5 (calmFp I5 n5) st5 go) fun r s6 ⟨u, hr, h6⟩ => ?_
      subst hr
      refine thnF h6 fun _ s7 ⟨x, H7, I7, r7, y7, st7, n7⟩ => ?_
      have I7' := I7.pinned (calmFp I7 n7) (T.obj _ _ st7)
      refine thnF (pg.run _ s7 _ H7 x u _ I7' r7 (step x H7 y7)) fun _ s8 ⟨σ8, H8, I8, hw8, q8⟩ => thnF (pt.run _ s8 σ8 H8 _ I8 q8) fun b s9 ⟨H9, I9, q9⟩ => ?_
      have next : ∀ {s' : Shared} {H' : Hp}, L2.Inv (X.blk s3 H3 scope ce fp) ([] ++ pinsAt fp s7.heap) σ8 H' s' → Nx H' → ∃ m, m < n ∧ ∃ i H', L2.Inv (X.blk s3 H3 scope ce fp) [] (wipe σ (own.map (·.2))) H' s' ∧ tn i s'.heap ∧ (∀ b ∈ fp, H' b = none) ∧ W i m H' := fun {s' H'} I' nx => by
        obtain ⟨m', hm, w'⟩ := hNx H' nx
        have held : ∀ b ∈ fp, ∀ o, s7.heap.get? b = some o → s'.heap.get? b = some o ∧ H' b = none := fun b hb o e => by
          have z := I'.pin (b, o) (List.mem_append_right _ (List.mem_append_right _ (mem_pinsAt hb e)))
          exact ⟨z.1, z.2.1⟩
        have len : (wipe σ (own.map (·.2))).length = σ8.length := by rw [← hw8, wipe_length]
        refine ⟨m', hm, i + 1, H', (I'.unpinned (pins := [])).weak len (fun j v e => ?_), T.keep _ _ _ st7 fun b hb o e => (held b hb o e).1, fun b hb => ?_, w'⟩
        · rw [← hw8] at e
          exact (wipe_some e).1
        · obtain ⟨o, e, _⟩ := T.obj _ _ st7 b hb
          exact (held b hb o e).2
      cases b with
      | false =>
        simp only [Bool.false_eq_true, if_false] at q9 ⊢
        exact next I9 q9
      | true =>
        simp only [if_true] at q9 ⊢
        refine thnF (pe.run _ s9 σ8 H9 _ I9 q9) fun z s10 ⟨yv, H10, I10, r10, zt, l0, ey, hD10, hz10, nx⟩ => ?_
        subst ey
        obtain ⟨tk, rfl⟩ := r10
        exact putX_ok (X := X.blk s3 H3 scope ce fp) I10 hD10 hz10 fun s11 l' n1 n2 n3 I11 => next I11 (nx l' n1 n2 n3)
  exact PpSet.codeAny_compStart_set loop (T.self X.A 0 _ _ _ st4 loop)
end
section
variable {P : Program} {w : World} {J : It} {ys : List V} {G : Hp → Prop} {slot : Nat} {tt : TT} {te : TE} {vs : List Nat} {σ : L2.St} {H1 : Hp} {D : Addr} {Qd : Hp → Prop}
/-- {e for x in ys if t}: each e a text, the heap only growing -/
theorem sc_texts (wk : L2.Walk J ys.length G (YAt ys)) (hD : H1 D = none) (keep : V → Bool) (f : V → Str) (hG : ∀ H, Same H1 H → G H)
    (hw : ∀ x, wipe ((wipe σ vs).set slot (some x)) vs = wipe σ vs)
    (ht : ∀ (x : V) (H : Hp), x ∈ ys → Same H1 H → ∀ Q : Bool → Hp → Prop, Q (keep x) H → tt ((wipe σ vs).set slot (some x)) H Q)
    (he : ∀ (x : V) (H : Hp), x ∈ ys → keep x = true → Same H1 H → ∀ Q : VK, Q (.str (f x)) H → te ((wipe σ vs).set slot (some x)) H Q)
    (hn : ys.length ≤ 1000)
    (hd : ∀ (l : List Str) (H : Hp), Same H1 H → H D = some (SetXO P w D l) → l.Nodup → (∀ z, z ∈ l ↔ z ∈ (ys.filter keep).map f) → l.length ≤ ys.length → Qd H) :
    ∃ W : Nat → Nat → Hp → Prop, (∃ m, W 0 m (upd H1 D (SetXO P w D []))) ∧ ∀ i m H, W i m H →
      (J.stop i H ∧ Qd H) ∨ (J.go i H ∧ ∃ Nx : Hp → Prop, (∀ H', Nx H' → ∃ m', m' < m ∧ W (i + 1) m' H') ∧ ∀ x H', J.yld i H x H' → gName slot x (wipe σ vs) H' fun σ2 H2 => wipe σ2 vs = wipe σ vs ∧ tt σ2 H2 fun b H3 =>
        if b = true then te σ2 H3 fun y H4 => ∃ (z : Str) (l : List Str), y = .str z ∧ H4 D = some (SetXO P w D l) ∧ l.length + 1 < scanBound ∧ ∀ l', l'.Nodup → (∀ u, u ∈ l' ↔ u ∈ l ∨ u = z) → l'.length ≤ l.length + 1 → Nx (upd H4 D (SetXO P w D l')) else Nx H3) := by
  refine ⟨fun i m H => m = ys.length - i ∧ i ≤ ys.length ∧ Same H1 H ∧ ∃ l, H D = some (SetXO P w D l) ∧ l.Nodup ∧ (∀ z, z ∈ l ↔ z ∈ ((ys.take i).filter keep).map f) ∧ l.length ≤ i, ⟨ys.length, by simp, Nat.zero_le _, same_new hD, [], upd_same, List.nodup_nil, fun z => by simp, Nat.le_refl _⟩, ?_⟩
  rintro i m H ⟨rfl, hi, s, l, hl, nd, hm, hll⟩
  by_cases hlt : i < ys.length
  · refine .inr ⟨wk.goes i H hlt (hG H s), fun H' => i + 1 ≤ ys.length ∧ Same H1 H' ∧ ∃ l, H' D = some (SetXO P w D l) ∧ l.Nodup ∧ (∀ z, z ∈ l ↔ z ∈ ((ys.take (i + 1)).filter keep).map f) ∧ l.length ≤ i + 1, fun H' h' => ⟨ys.length - (i + 1), by omega, rfl, h'⟩, fun x H' hy => ?_⟩
    obtain ⟨rfl, hx⟩ := wk.yields i H x H' hlt (hG H s) hy
    have hxm : x ∈ ys := List.mem_of_getElem? hx
    have hf := filter_take_snoc (p := keep) hx
    refine ⟨hw x, ht x _ hxm s _ ?_⟩
    refine ite_b (fun e => ?_) (fun e => ?_)
    · refine he x _ hxm e s _ ⟨f x, l, rfl, hl, by unfold scanBound; omega, fun l' n1 n2 n3 => ⟨hlt, same_mut s hD, l', upd_same, n1, fun z => ?_, by omega⟩⟩
      rw [n2, hm, hf, if_pos e, List.map_append, List.mem_append]
      simp
    · refine ⟨hlt, s, l, hl, nd, fun z => ?_, by omega⟩
      rw [hm, hf, if_neg (by rw [e]; decide), List.append_nil]
  · have e : i = ys.length := by omega
    subst e
    rw [List.take_length] at hm
    exact .inl ⟨wk.stops H (hG H s), hd l H s hl nd hm hll⟩
end
end Wl

namespace Wl
open PySem PySem.Spec PyProof.Rows L2
abbrev sGThings : Stmt := inClass sGat 8
abbrev sGGathers : Stmt := inClass sGat 9
noncomputable def telBy (H : Hp) (g : Tel → Str) (x : V) : Str := open Classical in if h : ∃ t : Tel, ∃ p, x = .ref p ∧ H p = some (.tup (telV t)) then g h.choose else ""
theorem telBy_at {H : Hp} {g : Tel → Str} {p : Addr} {t : Tel} (h : H p = some (.tup (telV t))) : telBy H g (.ref p) = g t := by
  unfold telBy
  have hx : ∃ t : Tel, ∃ q, V.ref p = .ref q ∧ H q = some (.tup (telV t)) := ⟨t, p, rfl, h⟩
  rw [dif_pos hx]
  obtain ⟨q, e1, e2⟩ := hx.choose_spec
  obtain rfl : p = q := V.ref.inj e1
  rw [h] at e2
  rw [← telV_inj (HO.tup.inj (Option.some.inj e2))]
theorem tels_by {H : Hp} {g : Tel → Str} : ∀ {as : List Addr} {ts : List Tel}, TelsAt H as ts → (as.map V.ref).map (telBy H g) = ts.map g
  | _, _, .nil => rfl
  | _, _, .cons e r => by
    rw [List.map_cons, List.map_cons, List.map_cons, telBy_at e, tels_by r]
/-- the things, rising -/
def thingsOf (ts : List Tel) : List Str := sortS (keysOf (ts.map (·.th)))
theorem mem_things {ts : List Tel} {z : Str} : z ∈ thingsOf ts ↔ ∃ t ∈ ts, t.th = z := by
  unfold thingsOf
  rw [mem_sortS, mem_keysOf, List.mem_map]
theorem things_nodup (ts : List Tel) : (thingsOf ts).Nodup := sortS_nodup (keysOf_nodup _)
theorem things_len (ts : List Tel) : (thingsOf ts).length ≤ ts.length := by
  unfold thingsOf
  rw [sortS_len]
  exact Nat.le_trans (keysOf_len _) (by rw [List.length_map]; exact Nat.le_refl _)
theorem sortS_same {l m : List Str} (h1 : l.Nodup) (h2 : m.Nodup) (hm : ∀ z, z ∈ l ↔ z ∈ m) : sortS l = sortS m := sortS_eq h2 (sortS_rising h1) fun z => by rw [mem_sortS, hm]
/-- the gathers, rising -/
def gathersOf (ts : List Tel) : List Str := sortS (keysOf (ts.map (·.g)))
theorem mem_gathers {ts : List Tel} {z : Str} : z ∈ gathersOf ts ↔ ∃ t ∈ ts, t.g = z := by
  unfold gathersOf
  rw [mem_sortS, mem_keysOf, List.mem_map]
theorem gathers_nodup (ts : List Tel) : (gathersOf ts).Nodup := sortS_nodup (keysOf_nodup _)
theorem gathers_len (ts : List Tel) : (gathersOf ts).length ≤ ts.length := by
  unfold gathersOf
  rw [sortS_len]
  exact Nat.le_trans (keysOf_len _) (by rw [List.length_map]; exact Nat.le_refl _)
/-- keying -/
def gT1 {α : Type} : List α → List α → List α → List α
  | [s], [_], [k] => [s, k]
  | _, _, _ => []
theorem gT1_rel {vs ds zs : List V} {us its ws : List Value} (r1 : Vals vs us) (r2 : Vals ds its) (r3 : Vals zs ws) : Vals (gT1 vs ds zs) (gT1 us its ws) := by
  rcases r1 with _ | ⟨a1, _ | ⟨_, _⟩⟩
  all_goals first | exact .nil | skip
  rcases r2 with _ | ⟨b1, _ | ⟨_, _⟩⟩
  all_goals first | exact .nil | skip
  rcases r3 with _ | ⟨c1, _ | ⟨_, _⟩⟩
  all_goals first | exact .nil | exact .cons a1 (.cons c1 .nil)
section
variable {P : Program} {w : World} {K : PySem.W.Frag} {mg : Str → Option Value} {base : Heap} {f C D : Addr} {fd : FuncData}
/-! ### things -/
def spThings (C D : Addr) : Sp := fun vs H Q _ => ∃ (p : Addr) (r : GR), vs = [.ref p] ∧ GatAt C D H p r ∧ r.ts.length ≤ 200 ∧ ∀ (t : Addr) (H' : Hp), H t = none → Same H H' → H' t = some (.tup ((thingsOf r.ts).map V.str)) → Q (.ref t) H'
theorem scThings : FnScope ["self", "telling"] ["self"] (defScope sGThings) := ⟨rfl, rfl, rfl, by decide +kernel, rfl, by decide +kernel, by decide +kernel⟩
theorem ok_things (F : Fun K "things" "Gathering.things" sGThings f fd) (B : Bi mg) (TG : TxtG K mg D) : FnOk P w K mg base CX0 1 f fd ["self"] (spThings C D) := by
  refine F.ok scThings (fun vs H Q E h => ?_) (fun cdv A outer s H vs Q E hr h => ?_)
  · obtain ⟨p, r, rfl, _⟩ := h
    rfl
  · obtain ⟨p, r, rfl, hG, h200, q⟩ := h
    refine ⟨_, pss_one (ps_ret (pe_callTy call_tuple_of (by rfl) B.tuple (by decide +kernel) (pa_cons (pe_callB (cr_sortX rfl hr.units) (by rfl) B.sorted (by decide +kernel) (pa_cons (pe_scX (own := [("telling", 1)]) (g := gName 1) (tt := tYes) (te := tOp (rIxT K) (tVar 1) (tC (.int 1))) rfl scThings.nd (pi_list (pe_fld (pv 0) rfl)) (blkOk_by (N := ["self", "telling"]) (sc := defScope sGThings) (by decide +kernel))
      (fun _ _ _ _ _ => pg_name (i := 1) scThings.nd rfl (.inl rfl)) (fun _ _ _ _ _ => pts_nil) (fun _ _ _ _ _ => pe_ix ix_tup (pv 1) pe_int (fun _ _ => rfl))) pa_nil)) pa_nil))), ?_⟩
    obtain ⟨dx, hp⟩ := hG.at_
    have hla : r.as.length = r.ts.length := hG.tels.length
    refine ⟨_, rfl, p, D, dx, _, _, rfl, hp, TG.cl, TG.nT, gf_told _ _ _, r.td, rfl, ⟨_, .inl (.inl hG.told)⟩, fun Dd hD => ?_⟩
    refine sc_texts (walk_list (K := K) (a := r.td) (xs := r.as.map V.ref)) hD (fun _ => true) (telBy H (·.th)) (fun H' s' => .inl (.inl (s' _ _ hG.told))) (fun _ => rfl) (fun x H' _ _ Q' q' => q') ?_ ?_ ?_
    · intro x H' hx _ s' Q' q'
      obtain ⟨pt, hpt, rfl⟩ := List.mem_map.mp hx
      obtain ⟨j, hj, ej⟩ := List.mem_iff_getElem.mp hpt
      obtain ⟨t, ht, hH⟩ := Each.get hG.tels (i := j) (a := pt) (by rw [List.getElem?_eq_getElem hj, ej])
      rw [telBy_at hH] at q'
      exact ⟨_, rfl, pt, _, _, _, rfl, rfl, .inl (.inl (s' _ _ hH)), atI_nat (j := 1) rfl, q'⟩
    · rw [List.length_map]
      omega
    · intro l H2 s2 hD2 nd hm hl
      rw [List.length_map] at hl
      have e : sortS l = thingsOf r.ts := by
        refine sortS_same nd (keysOf_nodup _) fun z => ?_
        rw [hm, List.filter_eq_self.mpr fun _ _ => rfl, tels_by hG.tels, mem_keysOf]
      refine ⟨Dd, l, rfl, hD2, by omega, fun q1 hq1 => ⟨q1, _, rfl, .inl ⟨.inl (.inl upd_same), fun t ht => ?_⟩⟩⟩
      rw [e]
      have s3 := same_new (o := .lst ((sortS l).map V.str)) hq1
      rw [e] at s3 ht
      exact q t _ ((s2.trans s3).free ht) ((s2.trans s3).trans (same_new ht)) upd_same
/-! ### gatherers -/
def spGathers (C D : Addr) : Sp := fun vs H Q _ => ∃ (p : Addr) (r : GR), vs = [.ref p] ∧ GatAt C D H p r ∧ r.ts.length ≤ 200 ∧ ∀ (t : Addr) (H' : Hp), H t = none → Same H H' → H' t = some (.tup ((gathersOf r.ts).map V.str)) → Q (.ref t) H'
theorem scGathers : FnScope ["self", "telling"] ["self"] (defScope sGGathers) := ⟨rfl, rfl, rfl, by decide +kernel, rfl, by decide +kernel, by decide +kernel⟩
theorem ok_gatherers (F : Fun K "gatherers" "Gathering.gatherers" sGGathers f fd) (B : Bi mg) (TG : TxtG K mg D) : FnOk P w K mg base CX0 1 f fd ["self"] (spGathers C D) := by
  refine F.ok scGathers (fun vs H Q E h => ?_) (fun cdv A outer s H vs Q E hr h => ?_)
  · obtain ⟨p, r, rfl, _⟩ := h
    rfl
  · obtain ⟨p, r, rfl, hG, h200, q⟩ := h
    refine ⟨_, pss_one (ps_ret (pe_callTy call_tuple_of (by rfl) B.tuple (by decide +kernel) (pa_cons (pe_callB (cr_sortX rfl hr.units) (by rfl) B.sorted (by decide +kernel) (pa_cons (pe_scX (own := [("telling", 1)]) (g := gName 1) (tt := tYes) (te := tOp (rIxT K) (tVar 1) (tC (.int 5))) rfl scGathers.nd (pi_list (pe_fld (pv 0) rfl)) (blkOk_by (N := ["self", "telling"]) (sc := defScope sGGathers) (by decide +kernel))
      (fun _ _ _ _ _ => pg_name (i := 1) scGathers.nd rfl (.inl rfl)) (fun _ _ _ _ _ => pts_nil) (fun _ _ _ _ _ => pe_ix ix_tup (pv 1) pe_int (fun _ _ => rfl))) pa_nil)) pa_nil))), ?_⟩
    obtain ⟨dx, hp⟩ := hG.at_
    have hla : r.as.length = r.ts.length := hG.tels.length
    refine ⟨_, rfl, p, D, dx, _, _, rfl, hp, TG.cl, TG.nT, gf_told _ _ _, r.td, rfl, ⟨_, .inl (.inl hG.told)⟩, fun Dd hD => ?_⟩
    refine sc_texts (walk_list (K := K) (a := r.td) (xs := r.as.map V.ref)) hD (fun _ => true) (telBy H (·.g)) (fun H' s' => .inl (.inl (s' _ _ hG.told))) (fun _ => rfl) (fun x H' _ _ Q' q' => q') ?_ ?_ ?_
    · intro x H' hx _ s' Q' q'
      obtain ⟨pt, hpt, rfl⟩ := List.mem_map.mp hx
      obtain ⟨j, hj, ej⟩ := List.mem_iff_getElem.mp hpt
      obtain ⟨t, ht, hH⟩ := Each.get hG.tels (i := j) (a := pt) (by rw [List.getElem?_eq_getElem hj, ej])
      rw [telBy_at hH] at q'
      exact ⟨_, rfl, pt, _, _, _, rfl, rfl, .inl (.inl (s' _ _ hH)), atI_nat (j := 5) rfl, q'⟩
    · rw [List.length_map]
      omega
    · intro l H2 s2 hD2 nd hm hl
      rw [List.length_map] at hl
      have e : sortS l = gathersOf r.ts := by
        refine sortS_same nd (keysOf_nodup _) fun z => ?_
        rw [hm, List.filter_eq_self.mpr fun _ _ => rfl, tels_by hG.tels, mem_keysOf]
      refine ⟨Dd, l, rfl, hD2, by omega, fun q1 hq1 => ⟨q1, _, rfl, .inl ⟨.inl (.inl upd_same), fun t ht => ?_⟩⟩⟩
      rw [e]
      have s3 := same_new (o := .lst ((sortS l).map V.str)) hq1
      rw [e] at s3 ht
      exact q t _ ((s2.trans s3).free ht) ((s2.trans s3).trans (same_new ht)) upd_same
/-! ### tellings(keying=None) -/
theorem tell_b2 (F : FunT K f fd) : ∃ its : List Value, KBn K fd ["self", "keying"] 1 ["keying"] (fun us ws => gT1 us its ws) (fun vs zs => gT1 vs [.non] zs) :=
  F.kbindsD 1 _ gT1 (by simp) gT1_rel (fun T kV doc pm an cdv ct us its ws l1 l2 l3 => by
      match us, its, ws, l1, l2, l3 with
      | [_], [_], [_], _, _, _ => exact ⟨_, rfl, rfl⟩)
end
end Wl



/-! xs.count(y), items and y flat. -/
namespace Wl
open PySem PySem.Spec PyProof.Rows L2
theorem countP_vals {y : V} {uy : Value} : ∀ {ys : List V} {its : List Value}, Vals ys its → ys.all flatV = true → (∀ z u, RelV z u → flatV z = true → eqU y u = eqV z y) → its.countP (eqU y) = ys.countP fun z => eqV z y
  | _, _, .nil, _, _ => rfl
  | _, _, .cons r t, f, k => by
    rw [List.all_cons, Bool.and_eq_true] at f
    rw [List.countP_cons, List.countP_cons, countP_vals (uy := uy) t f.2 k, k _ _ r f.1]
def rCntF (K : PySem.W.Frag) : V → List V → Hp → VK → Prop := fun x xs H Q => ∃ (a : Addr) (ys : List V) (y : V), x = V.ref a ∧ xs = [y] ∧ SqL K H a ys ∧ flatV y = true ∧ ys.all flatV = true ∧ Q (.int ((ys.countP fun z => eqV z y : Nat) : Int)) H
theorem mt_countF {X : Cx} : MtR X "list.count" (rCntF X.K) := by
  intro pins s σ H x xs v us Q I rx rxs h
  obtain ⟨a, ys, y, rfl, rfl, hs, fy, fys, q⟩ := h
  cases rx
  obtain ⟨uy, rfl, ry⟩ := rxs.one
  obtain ⟨its, rv, ⟨⟨cls, dd, data, sl⟩, n, ho, hc, hdn, hd⟩, hlen⟩ := I.list hs
  simp only at hc hd
  subst hc hd
  refine call_meets PySem.F.slot_list_count ⟨_, ho, rfl⟩ PySem.F.entry_list_count (PySem.F.args_list_count_2 _ _)
    (SeqAt.list_countAt a its.toArray n dd sl uy (eqU y)) ⟨ho, fun u' hu' => mem_eqAt ry fy rv fys u' (by simpa using hu'), ?_⟩
  have ec : its.toArray.toList.countP (eqU y) = ys.countP fun z => eqV z y := countP_vals (uy := uy) rv fys fun z u r f => eqU_of r f
  refine ⟨.int ((ys.countP fun z => eqV z y : Nat) : Int), H, I.tok _, ⟨s.toks, ?_⟩, q⟩
  rw [ec]
end Wl

/-! Of which class a caught exception is: what the laws' own sorting asks. -/
namespace Wl
open PySem PySem.Spec PyProof.Rows L2
/-- the program's exceptions, in their order -/
def exL : List Str := ["NoWord", "NoChanges", "NoText", "NoAge", "NoSure", "NoRings", "NoThings", "NoCount", "NoRow", "NoLand", "NoName", "NoGathering", "NoMap", "NoTelling", "NoBack", "Told", "Full", "Clash", "TooMany"]
def exN (i : Nat) : Str := exL.getD i ""
def baL : List Str := ["WordError", "LandError", "JoinError"]
def baN (i : Nat) : Str := baL.getD i ""
/-- which base the n-th has -/
def baOf (n : Nat) : Nat := if n ≤ 8 then 0 else if n ≤ 14 then 1 else 2
/-- the globals that hold the classes -/
structure SortG (mg : Str → Option Value) (ad bd : Nat → Addr) : Prop where
  own : ∀ i, i < 19 → mg (exN i) = some (.ref (ad i))
  bas : ∀ i, i < 3 → mg (baN i) = some (.ref (bd i))
  ve : mg "ValueError" = none
  le : mg "LookupError" = none
  ae : mg "ArithmeticError" = none
/-- C is the n-th class, as isinstance answers -/
structure SortC (K : PySem.W.Frag) (ad bd : Nat → Addr) (C : Addr) (n : Nat) : Prop where
  ex : ExK K C
  lt : n < 19
  own : ∀ i, i < 19 → PySem.W.kitOne K (.ref C) (.ref (ad i)) = some (decide (i = n))
  bas : ∀ i, i < 3 → PySem.W.kitOne K (.ref C) (.ref (bd i)) = some (decide (i = baOf n))
  ve : PySem.W.kitOne K (.ref C) (.type "ValueError") = some (decide (0 = baOf n))
  le : PySem.W.kitOne K (.ref C) (.type "LookupError") = some (decide (1 = baOf n))
  ae : PySem.W.kitOne K (.ref C) (.type "ArithmeticError") = some (decide (2 = baOf n))
/-- at e: a caught exception, the n-th -/
structure ExcAt (K : PySem.W.Frag) (ad bd : Nat → Addr) (H : Hp) (e : Addr) (n : Nat) : Prop where
  ex : ∃ (C : Addr) (d : Option Addr), H e = some (exH e (.ref C) d) ∧ DxOk H d ∧ SortC K ad bd C n
theorem ExcAt.same {K : PySem.W.Frag} {ad bd : Nat → Addr} {H H' : Hp} {e : Addr} {n : Nat} (h : ExcAt K ad bd H e n) (s : Same H H') : ExcAt K ad bd H' e n := by
  obtain ⟨C, d, h1, h2, h3⟩ := h.ex
  refine ⟨C, d, s _ _ h1, fun dd e => ?_, h3⟩
  obtain ⟨fs, q⟩ := h2 dd e
  exact ⟨fs, s _ _ q⟩
theorem ExcAt.hot {K : PySem.W.Frag} {ad bd : Nat → Addr} {H : Hp} {e : Addr} {n : Nat} (h : ExcAt K ad bd H e n) : HotH e H := by
  obtain ⟨C, d, h1, _⟩ := h.ex
  exact ⟨_, _, h1⟩
/-- isinstance(e, c) of it -/
abbrev tIs (K : PySem.W.Frag) (i : Nat) (c : V) : TE := tCB (rIsX K) (tCons (tVar i) (tCons (tC c) tNil))
section
variable {K : PySem.W.Frag} {ad bd : Nat → Addr} {H : Hp} {e : Addr} {n j : Nat} {σ : L2.St} {R : VK}
theorem is_own (i : Nat) (h : ExcAt K ad bd H e n) (h0 : σ[j]? = some (some (.ref e))) (hi : i < 19) (q : R (.bl (decide (i = n))) H) : tIs K j (.ref (ad i)) σ H R := by
  obtain ⟨C, d, h1, h2, h3⟩ := h.ex
  exact ⟨_, h0, e, C, d, _, _, _, rfl, h1, h2, h3.ex, .own _, h3.own i hi, q⟩
theorem is_bas (i : Nat) (h : ExcAt K ad bd H e n) (h0 : σ[j]? = some (some (.ref e))) (hi : i < 3) (q : R (.bl (decide (i = baOf n))) H) : tIs K j (.ref (bd i)) σ H R := by
  obtain ⟨C, d, h1, h2, h3⟩ := h.ex
  exact ⟨_, h0, e, C, d, _, _, _, rfl, h1, h2, h3.ex, .own _, h3.bas i hi, q⟩
theorem is_ve (h : ExcAt K ad bd H e n) (h0 : σ[j]? = some (some (.ref e))) (q : R (.bl (decide (0 = baOf n))) H) : tIs K j (.ty "ValueError") σ H R := by
  obtain ⟨C, d, h1, h2, h3⟩ := h.ex
  exact ⟨_, h0, e, C, d, _, _, _, rfl, h1, h2, h3.ex, .ty _, h3.ve, q⟩
theorem is_le (h : ExcAt K ad bd H e n) (h0 : σ[j]? = some (some (.ref e))) (q : R (.bl (decide (1 = baOf n))) H) : tIs K j (.ty "LookupError") σ H R := by
  obtain ⟨C, d, h1, h2, h3⟩ := h.ex
  exact ⟨_, h0, e, C, d, _, _, _, rfl, h1, h2, h3.ex, .ty _, h3.le, q⟩
theorem is_ae (h : ExcAt K ad bd H e n) (h0 : σ[j]? = some (some (.ref e))) (q : R (.bl (decide (2 = baOf n))) H) : tIs K j (.ty "ArithmeticError") σ H R := by
  obtain ⟨C, d, h1, h2, h3⟩ := h.ex
  exact ⟨_, h0, e, C, d, _, _, _, rfl, h1, h2, h3.ex, .ty _, h3.ae, q⟩
end
section
variable {X : Cx} {ad bd : Nat → Addr} {j : Nat} {x y z : Str} {p q r s pos : Pos}
/-- the terms of isinstance(e, ..) -/
theorem pe_own (i : Nat) (B : X.mg "isinstance" = none) (G : SortG X.mg ad bd) (hi : i < 19) (hg : Gl X (exN i)) (hN : X.N[j]? = some y) (hv : Vis X.env.scope y) (g1 : Gl X "isinstance" := by rfl) (h1 : (y == ("__debug__" : Str)) = false := by decide) (h2 : (y == ("__classdict__" : Str)) = false := by decide)
    (h3 : (exN i == ("__debug__" : Str)) = false := by decide)
    (he : starEach [.Name y q, .Name (exN i) r] X.env = [(false, eval (.Name y q) X.env), (false, eval (.Name (exN i) r) X.env)] := by rfl) : PE X (.Call (.Name "isinstance" p) [.Name y q, .Name (exN i) r] [] pos) (tIs X.K j (.ref (ad i))) :=
  pe_callB call_isX g1 B (by decide +kernel) (pa_cons (pe_var hN hv h1 h2) (pa_cons (pe_glob (v := .ref (ad i)) hg (G.own i hi) rfl h3) pa_nil) he)
end
def kinds (n : Nat) : List V := (List.range 19).map fun i => .bl (decide (i = n))
theorem kinds_flat (n : Nat) (h : n < 19) : (kinds n).all flatV = true := by
  have : ∀ m : Fin 19, (kinds m.1).all flatV = true := by decide +kernel
  exact this ⟨n, h⟩
theorem kinds_count (n : Nat) (h : n < 19) : (kinds n).countP (fun z => eqV z (.bl true)) = 1 := by
  have : ∀ m : Fin 19, (kinds m.1).countP (fun z => eqV z (.bl true)) = 1 := by decide +kernel
  exact this ⟨n, h⟩
theorem kinds_at (n : Nat) (h : n < 19) : (kinds n)[n]? = some (.bl true) := by
  unfold kinds
  rw [List.getElem?_map, List.getElem?_range h]
  simp
theorem kinds_none (n : Nat) (h : n < 19) (m : Nat) (z : V) (hm : m < n) (hz : (kinds n)[m]? = some z) : eqV z (.bl true) = false := by
  unfold kinds at hz
  rw [List.getElem?_map, List.getElem?_range (by omega)] at hz
  have e : z = .bl (decide (m = n)) := (Option.some.inj hz).symm
  rw [e, decide_eq_false (by omega)]
  decide +kernel
end Wl

/-! A deed tried: what it does, or what refuses it. -/
namespace Wl
open PySem PySem.Spec PyProof.Rows L2
/-- what the deeds that stand left: the tellings, the Gathering's own deeds, the tellings ahead of each -/
inductive Hist (H : Hp) : List Tel → List V → List (List Tel) → Prop
  | nil : Hist H [] [] []
  | put {ts : List Tel} {ds : List V} {past : List (List Tel)} (t : Tel) (h : Hist H ts ds past) : Hist H (ts ++ [t]) (ds ++ [.non]) (past ++ [ts])
  | cut {ts : List Tel} {ds : List V} {past : List (List Tel)} {i : Nat} {t : Tel} {q pa : Addr} (h : Hist H ts ds past) (e : ts[i]? = some t) (hq : H q = some (.tup [.int (i : Int), .ref pa])) (hp : H pa = some (.tup (telV t))) : Hist H (ts.eraseIdx i) (ds ++ [.ref q]) (past ++ [ts])
theorem Hist.keep {H H' : Hp} {ts : List Tel} {ds : List V} {past : List (List Tel)} (h : Hist H ts ds past) (k : TupKeep H H') : Hist H' ts ds past := by
  induction h with
  | nil => exact .nil
  | put t _ ih => exact .put t ih
  | cut _ e hq hp ih => exact .cut ih e (k _ _ hq) (k _ _ hp)
theorem Hist.len {H : Hp} {ts : List Tel} {ds : List V} {past : List (List Tel)} (h : Hist H ts ds past) : ds.length = past.length := by
  induction h with
  | nil => rfl
  | put t _ ih => rw [List.length_append, List.length_append, ih]; rfl
  | cut _ e hq hp ih => rw [List.length_append, List.length_append, ih]; rfl
theorem Hist.inv {H : Hp} {ts : List Tel} {ds : List V} {past : List (List Tel)} (h : Hist H ts ds past) : (ds = [] ∧ past = []) ∨ ∃ ts0 ds0 past0, Hist H ts0 ds0 past0 ∧ past = past0 ++ [ts0] ∧
    ((∃ t, ts = ts0 ++ [t] ∧ ds = ds0 ++ [.non]) ∨ ∃ (i : Nat) (t : Tel) (q pa : Addr), ts0[i]? = some t ∧ ts = ts0.eraseIdx i ∧ ds = ds0 ++ [.ref q] ∧ H q = some (.tup [.int (i : Int), .ref pa]) ∧ H pa = some (.tup (telV t))) := by
  cases h with
  | nil => exact .inl ⟨rfl, rfl⟩
  | put t h => exact .inr ⟨_, _, _, h, rfl, .inl ⟨t, rfl, rfl⟩⟩
  | cut h e hq hp => exact .inr ⟨_, _, _, h, rfl, .inr ⟨_, _, _, _, e, rfl, rfl, hq, hp⟩⟩
/-- tellings as they may stand -/
structure Fine (g : Grid) (ts : List Tel) : Prop where
  ok : ∀ t ∈ ts, OkT t
  vs : ∀ t ∈ ts, t.v ∈ names g
  nd : (ts.map keyS).Nodup
def notKey (t : Tel) (u : Tel) : Bool := decide (keyS u ≠ keyS t)
theorem cut_filter {t : Tel} : ∀ {l : List Tel} {i : Nat}, (l.map keyS).Nodup → (l.findIdx? fun u => decide (keyS u = keyS t)) = some i → l.eraseIdx i = l.filter (notKey t)
  | [], i, _, h => by simp at h
  | u :: l, i, nd, h => by
    rw [List.map_cons, List.nodup_cons] at nd
    rw [List.findIdx?_cons] at h
    by_cases e : keyS u = keyS t
    · rw [decide_eq_true e, if_pos rfl] at h
      cases h
      rw [List.eraseIdx_zero, List.tail_cons, List.filter_cons_of_neg (by unfold notKey; simp [e]), List.filter_eq_self.mpr fun v hv => ?_]
      unfold notKey
      exact decide_eq_true fun e2 => nd.1 (by rw [e, ← e2]; exact List.mem_map.mpr ⟨v, hv, rfl⟩)
    · rw [decide_eq_false e, if_neg (by decide)] at h
      obtain ⟨j, hj, rfl⟩ := Option.map_eq_some_iff.mp h
      rw [List.eraseIdx_cons_succ, List.filter_cons_of_pos (by unfold notKey; simp [e]), cut_filter nd.2 hj]
section
variable {P : Program} {w : World} {K : PySem.W.Frag} {mg : Str → Option Value} {base : Heap} {f C D cT cX cB cJ cL : Addr} {fd : FuncData}
/-- the Gathering behind a deed that is let -/
structure Went (C D : Addr) (p : Addr) (r r' : GR) (past' : List (List Tel)) (H' : Hp) : Prop where
  gat : GatAt C D H' p r'
  td : r'.td = r.td
  dd : r'.dd = r.dd
  g : r'.g = r.g
  pl : r'.pl = r.pl
  hist : Hist H' r'.ts r'.ds past'
end
end Wl



/-! repr of data of any depth: a text that the data alone says. -/
namespace Wl
open PySem PySem.Spec PyProof.Rows L2
/-- data that can be shown -/
structure Shows (d : PyData) : Prop where
  lay : PyData.canLay0 d = true
  deep : d.depth ≤ 8
  wgt : d.weight ≤ 2 ^ 20
  sh : d.showable = true
  ish : d.intsShort 13 = true
theorem Shows.size {d : PyData} (h : Shows d) : d.shown.length ≤ sizeLine := by
  have h1 : PyData.layable0 d = true := by
    show (PyData.canLay0 d && decide (PyData.depth d ≤ 64) && decide (PyData.weight d ≤ 2 ^ 20)) = true
    rw [h.lay, decide_eq_true (Nat.le_trans h.deep (by decide)), decide_eq_true h.wgt]
    rfl
  exact Nat.le_trans (shown_le13 h1 h.ish) (by decide)
section
variable {X : Cx}
def rReprD (K : PySem.W.Frag) : List V → Hp → VK → Prop := fun xs H Q => ∃ (a : Addr) (d : PyData), xs = [V.ref a] ∧ Dp K H (.ref a) d ∧ Shows d ∧ Q (.str d.shown) H
theorem cr_reprD (hg : X.A.guards = some []) (hu : X.A.units + 64 < cLine) : CallR X (.builtin "repr") (rReprD X.K) := by
  intro pins s σ H xs us Q I r h
  obtain ⟨a, d, rfl, hd, hs, q⟩ := h
  rw [Vals.ref1 r]
  obtain ⟨as, r1⟩ := Dp.reads I d (.ref a) (.ref a) hd rfl
  have := hs.deep
  refine repr_of_reads' r1 hs.sh (PyData.noDict_hsm (PyData.hasDict_of_canLay d hs.lay)) hg (by omega) (fun _ _ e => e) (fun h' u tk hk => ?_) hs.size
  exact ⟨.str _, H, I.kept hk, ⟨u, rfl⟩, q⟩
end
end Wl

/-! What a Gathering tells, held against what was kept. -/
namespace Wl
open PySem PySem.Spec PyProof.Rows L2
theorem wgt_strs : ∀ {ws : List Str}, (∀ z ∈ ws, IsWd z) → PyData.weightAll (ws.map PyData.str) ≤ 9 * ws.length
  | [], _ => by simp [PyData.weightAll]
  | z :: ws, h => by
    have h1 := wgt_strs (ws := ws) fun y hy => h y (List.mem_cons_of_mem _ hy)
    have h2 := (h z List.mem_cons_self).len
    have h3 : z.cps.size ≤ 8 := h2.2
    simp only [List.map_cons, PyData.weightAll, PyData.weight, List.length_cons]
    omega
theorem show_strs : ∀ ws : List Str, PyData.showableAll (ws.map PyData.str) = true
  | [] => by simp [PyData.showableAll]
  | z :: ws => by simp [PyData.showableAll, PyData.showable, show_strs ws]
theorem short_strs : ∀ ws : List Str, PyData.intsShortAll 13 (ws.map PyData.str) = true
  | [] => by simp [PyData.intsShortAll]
  | z :: ws => by simp [PyData.intsShortAll, PyData.intsShort, short_strs ws]
theorem shows_strs {ws : List Str} (h : ∀ z ∈ ws, IsWd z) (hl : ws.length ≤ 200) : Shows (.tuple (ws.map PyData.str)) := by
  refine ⟨by simpa [PyData.canLay0] using lay_strs h, ?_, ?_, by simpa [PyData.showable] using show_strs ws, by simpa [PyData.intsShort] using short_strs ws⟩
  · simp only [PyData.depth, depth_strs]
    omega
  · have := wgt_strs h
    simp only [PyData.weight]
    omega
theorem tel_shows {t : Tel} (h : OkT t) : PyData.canLay0 (telD t) = true ∧ (telD t).depth = 1 ∧ (telD t).weight ≤ 60 ∧ (telD t).showable = true ∧ (telD t).intsShort 13 = true := by
  have la : PyData.canLay0 (telD t) = true := lay_tel h
  have len8 : ∀ {z : Str}, IsWd z → z.cps.size ≤ 8 := fun h => h.len.2
  have w1 := len8 h.v
  have w2 := len8 h.th
  have w3 := len8 h.wo
  have w4 := len8 h.tl
  have w5 := len8 h.g
  have ag := h.age
  have key : ∀ n : Nat, n ≤ 120 → PyData.weight (.int (n : Int)) ≤ 8 ∧ PyData.showable (.int (n : Int)) = true ∧ PyData.intsShort 13 (.int (n : Int)) = true := by decide +kernel
  obtain ⟨k1, k2, k3⟩ := key t.age ag
  refine ⟨la, by simp [telD, PyData.depth, PyData.depthAll], ?_, ?_, ?_⟩
  · show PyData.weightAll [.str t.v, .str t.th, .str t.wo, .str t.tl, .int (t.age : Int), .str t.g, .bool t.sure] ≤ 60
    simp only [PyData.weightAll]
    have e : ∀ z : Str, PyData.weight (.str z) = z.cps.size := fun z => by simp only [PyData.weight]
    have eb : PyData.weight (.bool t.sure) = 0 := by simp only [PyData.weight]
    rw [e, e, e, e, e, eb]
    omega
  · show PyData.showableAll [.str t.v, .str t.th, .str t.wo, .str t.tl, .int (t.age : Int), .str t.g, .bool t.sure] = true
    simp only [PyData.showableAll, k2]
    simp [PyData.showable]
  · show PyData.intsShortAll 13 [.str t.v, .str t.th, .str t.wo, .str t.tl, .int (t.age : Int), .str t.g, .bool t.sure] = true
    simp only [PyData.intsShortAll, k3]
    simp [PyData.intsShort]
theorem tels_shows {ts : List Tel} (h : ∀ t ∈ ts, OkT t) (hl : ts.length ≤ 200) : Shows (.list (ts.map telD)) := by
  have key : ∀ {ts : List Tel}, (∀ t ∈ ts, OkT t) → PyData.weightAll (ts.map telD) ≤ 61 * ts.length ∧ PyData.showableAll (ts.map telD) = true ∧ PyData.intsShortAll 13 (ts.map telD) = true := by
    intro ts
    induction ts with
    | nil => exact fun _ => ⟨by simp [PyData.weightAll], by simp [PyData.showableAll], by simp [PyData.intsShortAll]⟩
    | cons t ts ih =>
      intro h
      obtain ⟨i1, i2, i3⟩ := ih fun u hu => h u (List.mem_cons_of_mem _ hu)
      obtain ⟨_, _, t1, t2, t3⟩ := tel_shows (h t List.mem_cons_self)
      refine ⟨?_, ?_, ?_⟩
      · simp only [List.map_cons, PyData.weightAll, List.length_cons]
        omega
      · rw [List.map_cons, PyData.showableAll, t2, i2]
        rfl
      · rw [List.map_cons, PyData.intsShortAll, t3, i3]
        rfl
  obtain ⟨k1, k2, k3⟩ := key h
  refine ⟨by simpa [PyData.canLay0] using lay_tels h, ?_, ?_, by simpa [PyData.showable] using k2, by simpa [PyData.intsShort] using k3⟩
  · have := depth_tels ts
    simp only [PyData.depth]
    omega
  · simp only [PyData.weight]
    omega
theorem tels_byV {H : Hp} {g : Tel → Str} {as : List Addr} {ts : List Tel} (h : TelsAt H as ts) : (as.map V.ref).map (fun x => V.str (telBy H g x)) = (ts.map g).map V.str := by
  rw [← tels_by h (g := g), List.map_map, List.map_map, List.map_map]
  rfl
theorem le_land {C : Addr} {H : Hp} {p L q M : Addr} {g g' : Grid} {wd wd' : Nat} {Q : VK} (h1 : LandAt C H p L g) (gd : Good g wd) (h2 : LandAt C H q M g') (gd' : Good g' wd') (k : Q (.bl (decide (g = g'))) H) : spLEq C [.ref p, .ref q] H Q E0 := ⟨p, L, q, M, g, g', wd, wd', rfl, h1, gd, h2, gd', k⟩
section
variable {P : Program} {w : World} {K : PySem.W.Frag} {mg : Str → Option Value} {base : Heap} {f C D : Addr} {fd : FuncData}
end
end Wl



/-! A method with values left out, called where it may raise and where the clause that catches reads or sets locals. -/
namespace Wl
open PySem PySem.Spec PyProof.Rows L2
section
variable {X : Cx} {k j : Nat} {f C : Addr} {fd : FuncData} {ps : List Str} {sp : Sp} {x m : Str} {p pos apos : Pos} {e o : Expr} {es : List Expr} {ta : TE} {t : TA} {W : WX} {ds : List Value} {dvs : List V}
theorem run_fnSD {pins : List (Addr × Obj)} {σ : L2.St} {H : Hp} {s : Shared} {Q : VK} {us : List Value} {vs : List V} (F : FnOk X.prog X.w X.K X.mg X.base (L2N.CX X.prog X.w) k f fd ps sp) (hr : Room k X.A) (hb : Binds X.K fd ps ds) (hd : Vals dvs ds) (tk : L2N.Takes X W)
    (I : Inv X pins σ H s) (r : Vals vs us) (h : sp (vs ++ dvs) H Q (fun cls d H => W cls d σ H)) : wpAny (model X.prog X.w) X.A (call (.ref f) us) (EP X pins σ Q) X.xe s := by
  have r2 : Vals (vs ++ dvs) (us ++ ds) := r.append hd
  have hl : (us ++ ds).length = ps.length := by rw [← r2.length]; exact F.len _ _ _ _ h
  have bb : BindsTo s fd ⟨us, []⟩ (ps.zip (us ++ ds)) := hb s us I.kIn hl
  refine wpAny_call (codeAny_mono (F.run X.A X.stack s H ⟨us, []⟩ (us ++ ds) (vs ++ dvs) Q _ hr I.env0 bb r2 h) fun r s' hq => ?_)
  cases r with
  | error e => exact tk e s' (L2N.XE.of_call I (fun _ _ _ h => h) hq)
  | ok fl =>
    cases fl with
    | ret u => exact I.after hq
    | next => exact False.elim hq
    | brk => exact False.elim hq
    | cont => exact False.elim hq
def tMethSD (C : Addr) (m : Str) (sp : Sp) (dvs : List V) (W : WX) (ta : TE) (t : TA) : TE := fun σ H Q => ta σ H fun x H1 => ∃ a dx fs, x = .ref a ∧ H1 a = some (.ins C dx fs) ∧ fs.lookup m = none ∧ t σ H1 fun vs H2 => sp (x :: vs ++ dvs) H2 Q (fun cls d H => W cls d σ H)
theorem pe_methSD {pl : Sem Bool} (ho : PE X o ta) (c : Cls X.K C) (g : Meth X.K C m f) (F : FnOk X.prog X.w X.K X.mg X.base (L2N.CX X.prog X.w) k f fd ps sp) (hr : Room k X.A) (b : Binds X.K fd ps ds) (hd : Vals dvs ds) (tk : L2N.Takes X W) (ha : PA X (e :: es) t)
    (hst : starEach (e :: es) X.env = (false, eval e X.env) :: starEach es X.env := by rfl) (hpl : (backTo pos (starEach es X.env)).any (·.1) = false := by rfl)
    (ht : eval (.Call (.Attribute o m apos) (e :: es) [] pos) X.env = (do
      let ov ← eval o X.env
      standAt apos.atName
      let (f, first) ← holding [ov] (getMethod ov m pl)
      callWith pos f first (backTo pos (starEach (e :: es) X.env)) (backToKw pos (keywordEach [] X.env))) := by rfl) :
    PE X (.Call (.Attribute o m apos) (e :: es) [] pos) (tMethSD C m sp dvs W ta t) := by
  refine ⟨fun pins s σ H Q I h => ?_⟩
  refine PySem.W.methodCall_KW (pl := pl) (thn (ho.run pins s σ H _ I h) fun u s1 ⟨x, H1, I1, rx, a, dx, fs, ex, ea, l, q⟩ => ?_) ht
  subst ex
  obtain rfl : u = Value.ref a := rx
  refine getmeth_ok I1 ea c g l ?_
  refine PySem.W.callWith_K (first := [.ref a]) (h₀ := X.base) I.ok.mod.kin g.kp (thn (ha.run pos pins s1 σ H1 _ I1 q) fun us s2 ⟨vs, H2, I2, r, q2⟩ => ⟨I2.kIn, ?_⟩) hst hpl
  exact run_fnSD (us := .ref a :: us) (vs := .ref a :: vs) F hr b hd tk I2 (.cons rfl r) q2
end
end Wl

/-! a joined Gathering lives. -/
namespace Wl
open PySem PySem.Spec PyProof.Rows L2
abbrev sLives : Stmt := topS 65
theorem put_b7 {K : PySem.W.Frag} {f : Addr} {fd : FuncData} (F : FunP K f fd) : ∃ ds, Vals [V.bl true] ds ∧ Binds K fd psPut ds :=
  F.binds1 (ps := psPut) 7 1 (by simp) rfl (fun T kV doc pm an cdv ct us its l1 l2 => by
      match us, its, l1, l2 with
      | [_, _, _, _, _, _, _], [_, _], _, _ => exact ⟨_, rfl, rfl⟩)
theorem cut_mem {xs : List V} {lo hi : Option Int} {z : V} (h : z ∈ cutV xs lo hi) : z ∈ xs := by
  unfold cutV at h
  exact List.mem_of_mem_drop (List.mem_of_mem_take h)
theorem cut_len (xs : List V) (lo hi : Option Int) : (cutV xs lo hi).length ≤ xs.length := by
  unfold cutV
  rw [List.length_take, List.length_drop]
  omega
section
variable {P : Program} {w : World} {K : PySem.W.Frag} {mg : Str → Option Value} {base : Heap} {f C D cB : Addr} {x : XA} {fd : FuncData}
def spLives (C D : Addr) : Sp := fun vs H Q _ => ∃ (p kp : Addr) (r : GR) (wd : Nat) (bs : List Addr), vs = [.ref p, .ref kp] ∧ GatAt C D H p r ∧ Good r.g wd ∧ KeptAt H kp bs r.ts ∧ (∀ t ∈ r.ts, OkT t) ∧ (∀ t ∈ r.ts, t.v ∈ names r.g) ∧ r.ts.length ≤ 40 ∧ r.ds.length < 1000 ∧ ∀ H', Same H H' → Q (.bl true) H'
abbrev nLives : List Str := ["_law_both", "_law_due", "_law_things_here", "_law_hands", "_law_row_here", "_law_caught", "e"]
abbrev psLives : List Str := ["_law_both", "_law_due"]
theorem scLives : FnScope nLives psLives (defScope sLives) := ⟨rfl, rfl, rfl, by decide +kernel, rfl, by decide +kernel, by decide +kernel⟩
abbrev clL (K : PySem.W.Frag) (c : Addr) : (Value → Option Bool) × ClT := (fun cls => PySem.W.exmOne K cls (.ref c), tAs 6 (fun _ => tAsg (tVar 6) (gName 5)))
theorem ok_lives (F : Fun K "_law_lives_right" "_law_lives_right" sLives f fd) (B : Bi mg) (hrep : mg "repr" = none) (hset : mg "set" = none) (TG : TxtG K mg D) (TT : OwnX K mg "Told" "key" x.cT) (xfT : XfC K x.cT) (hm : PySem.W.exmOne K (.ref x.cT) (.ref x.cT) = some true)
    (hTh : HasM P w K mg base D "things" 1 ["self"] (spThings C D)) (hGa : HasM P w K mg base D "gatherers" 1 ["self"] (spGathers C D)) (hPA : HasPA P w K mg base x C D) (hKey : Has P w K mg base "_law_key" 1 ["_law_row_here"] spKeyOf) (hTl : HasTl P w K mg base C D) (hL : HasM P w K mg base D "__len__" 1 ["self"] (spGLen C D)) : FnOkG P w K mg base 5 f fd psLives (spLives C D) := by
  obtain ⟨fT, fdT, FT, mT, FnT⟩ := hTl
  obtain ⟨dsT, vT, bT⟩ := tell_b1 FnT
  obtain ⟨fL, fdL, FL, mL, bL⟩ := hL
  obtain ⟨fP, fdP, FP, mP, fnP⟩ := hPA
  obtain ⟨ds7, v7, b7⟩ := put_b7 fnP
  refine okG F scLives (fun vs H Q E h => ?_) (fun cdv A outer s H vs Q E hgd hr h => ?_)
  · obtain ⟨p, kp, r, wd, bs, rfl, _⟩ := h
    rfl
  · obtain ⟨p, kp, r, wd, bs, rfl, hG, gd, hk, hok, hvs, h40, hds, q⟩ := h
    have hgd' : (A.deeper (envOfC "_law_lives_right" (defScope sLives) s.heap.objs.size f cdv)).guards = some [] := hgd
    refine ⟨_, pss_cons (ps_par (i := 2) (j := 3) (by rfl) scLives.nd rfl rfl (by decide) rfl rfl (pa_cons (pe_callB (cr_sortX rfl hr.units) (by rfl) B.sorted (by decide +kernel) (pa_cons (pe_callTy (cr_setX rfl) (by rfl) hset (by decide +kernel) (pa_cons (pe_lc (own := [("_law_row_here", 4)]) (g := gName 4) (tt := tYes) (te := tOp (rIxT K) (tVar 4) (tC (.int 1))) rfl scLives.nd (pi_list (pv 1)) (blkOk_by (N := nLives) (sc := defScope sLives) (by decide +kernel)) (fun _ _ _ _ _ => pg_name (i := 4) scLives.nd rfl (.inl rfl)) (fun _ _ _ _ _ => pts_nil) (fun _ _ _ _ _ => pe_ix ix_tup (pv 4) pe_int (fun _ _ => rfl))) pa_nil)) pa_nil)) (pa_cons (pe_callB (cr_sortX rfl hr.units) (by rfl) B.sorted (by decide +kernel) (pa_cons (pe_callTy (cr_setX rfl) (by rfl) hset (by decide +kernel) (pa_cons (pe_lc (own := [("_law_row_here", 4)]) (g := gName 4) (tt := tYes) (te := tOp (rIxT K) (tVar 4) (tC (.int 5))) rfl scLives.nd (pi_list (pv 1)) (blkOk_by (N := nLives) (sc := defScope sLives) (by decide +kernel)) (fun _ _ _ _ _ => pg_name (i := 4) scLives.nd rfl (.inl rfl)) (fun _ _ _ _ _ => pts_nil) (fun _ _ _ _ _ => pe_ix ix_tup (pv 4) pe_int (fun _ _ => rfl))) pa_nil)) pa_nil)) pa_nil)) (by rfl))
      (pss_cons (ps_if (PW.pt (pw_or (pt_cmpR op_ne (pe_callB (cr_reprD hgd' hr.units) (by rfl) hrep (by decide +kernel) (pa_cons (pe_hm0 hTh TG.cl hr (pv 0)) pa_nil)) (pe_callB (cr_reprD hgd' hr.units) (by rfl) hrep (by decide +kernel) (pa_cons (pe_callTy call_tuple_of (by rfl) B.tuple (by decide +kernel) (pa_cons (pv 2) pa_nil)) pa_nil)) (nomark _)) (pw_or1 (pt_cmpR op_ne (pe_callB (cr_reprD hgd' hr.units) (by rfl) hrep (by decide +kernel) (pa_cons (pe_hm0 hGa TG.cl hr (pv 0)) pa_nil)) (pe_callB (cr_reprD hgd' hr.units) (by rfl) hrep (by decide +kernel) (pa_cons (pe_callTy call_tuple_of (by rfl) B.tuple (by decide +kernel) (pa_cons (pv 3) pa_nil)) pa_nil)) (nomark _))))) (pss_one (ps_ret pe_bl)) pss_nil)
      (pss_cons (ps_for PassesOwn.never rfl (pi_list (pe_op op_cat (pe_slice sl_list (pv 1) po_none (po_some pe_int)) (pe_slice sl_list (pv 1) (po_some (pe_un un_neg pe_int)) po_none))) (pg_name (i := 4) scLives.nd rfl (.inl rfl))
        (pss_cons (ps_set (i := 5) scLives.nd rfl (.inl rfl) pe_non)
        (pss_cons (ps_tryE (l := [clL K x.cT]) rfl rfl rfl scLives.nd takes_noN
          (fun W pn xe tk po => pss_one (ps_expr (pe_methSD (pv 0) TG.cl mP FP (hr.mono (by decide)) b7 v7 tk (pa_cons (pe_ix (ix_tup : IxR _ (rIxT K)) (pv 4) pe_int (fun _ _ => rfl)) (pa_cons (pe_ix (ix_tup : IxR _ (rIxT K)) (pv 4) pe_int (fun _ _ => rfl)) (pa_cons pe_str (pa_cons (pe_ix (ix_tup : IxR _ (rIxT K)) (pv 4) pe_int (fun _ _ => rfl)) (pa_cons pe_int (pa_cons (pe_ix (ix_tup : IxR _ (rIxT K)) (pv 4) pe_int (fun _ _ => rfl)) pa_nil)))))))))
          (.as (i := 6) rfl rfl (test_one ⟨by rfl, by decide, .inl TT.gC⟩) (fun a pn => pss_one (ps_set (i := 5) scLives.nd rfl (.inl rfl) (pv 6))) .nil))
        (pss_one (ps_if (PW.pt (pw_or (pt_cmp (pc_isN (pv 5))) (pw_or1 (pt_cmpR op_ne (pe_callB (cr_reprD hgd' hr.units) (by rfl) hrep (by decide +kernel) (pa_cons (Wl.pe_xf (pv 5)) pa_nil)) (pe_callB (cr_reprD hgd' hr.units) (by rfl) hrep (by decide +kernel) (pa_cons (pe_h hKey hr (pa_cons (pv 4) pa_nil)) pa_nil)) (nomark _))))) (pss_one (ps_ret pe_bl)) pss_nil)))))
      (pss_one (ps_ret (pe_and (pe_cmpR op_eq (pe_callB (cr_reprD hgd' hr.units) (by rfl) hrep (by decide +kernel) (pa_cons (pe_meth0 (pv 0) TG.cl mT FT (hr.mono (by decide)) bT vT pass0) pa_nil)) (pe_callB (cr_reprD hgd' hr.units) (by rfl) hrep (by decide +kernel) (pa_cons (pv 1) pa_nil)) (nomark _)) (pe_one (pe_cmpR op_eq (pe_callB (cr_lenO FL bL mL (hr.mono (by decide))) (by rfl) B.len PySem.boot_len (pa_cons (pv 0) pa_nil)) (pe_callB call_len_seq (by rfl) B.len PySem.boot_len (pa_cons (pv 1) pa_nil)) (nomark _)))))))), ?_⟩
    obtain ⟨dx, hp⟩ := hG.at_
    have lb : bs.length = r.ts.length := hk.tels.length
    refine ⟨_, rfl, kp, rfl, ⟨_, .inl (.inl hk.at_)⟩, fun D1 hD1 => ?_⟩
    refine lc_map (walk_list (K := K) (a := kp) (xs := bs.map V.ref)) hD1 (fun _ => true) (fun x => .str (telBy H (·.th) x)) (fun H' s' => .inl (.inl (s' _ _ hk.at_))) (fun _ => rfl) (fun x H' _ _ Q' q' => q') ?_ (by rw [List.length_map]; exact small1000 (by omega)) ?_
    · intro x H' hx _ s' Q' q'
      obtain ⟨pt, hpt, rfl⟩ := List.mem_map.mp hx
      obtain ⟨j, hj, ej⟩ := List.mem_iff_getElem.mp hpt
      obtain ⟨t, ht, hH⟩ := Each.get hk.tels (i := j) (a := pt) (by rw [List.getElem?_eq_getElem hj, ej])
      rw [telBy_at hH] at q'
      exact ⟨_, rfl, pt, _, _, _, rfl, rfl, .inl (.inl (s' _ _ hH)), atI_nat (j := 1) rfl, q'⟩
    intro H6 s6 hL6
    rw [List.filter_eq_self.mpr fun _ _ => rfl, tels_byV hk.tels] at hL6
    refine ⟨D1, r.ts.map (·.th), rfl, .inl (.inl hL6), by rw [List.length_map]; omega, fun sa sl hsa nd1 hm1 hl1' => ?_⟩
    have s7 := same_new (o := SetXO P w sa sl) hsa
    unfold tNil
    show rSortX P w [V.ref sa] (upd H6 sa (SetXO P w sa sl)) _
    have hsa7 : upd H6 sa (SetXO P w sa sl) sa = some (SetXO P w sa sl) := upd_same
    generalize upd H6 sa (SetXO P w sa sl) = H7 at s7 hsa7
    rw [List.length_map] at hl1'
    refine ⟨sa, sl, rfl, hsa7, by omega, fun l4 hl4 => ?_⟩
    have e1 : sortS sl = thingsOf r.ts := sortS_same nd1 (keysOf_nodup _) fun z => by rw [hm1, mem_keysOf]
    rw [e1]
    have s8 := same_new (o := .lst ((thingsOf r.ts).map V.str)) hl4
    have hl8 : upd H7 l4 (.lst ((thingsOf r.ts).map V.str)) l4 = some (.lst ((thingsOf r.ts).map V.str)) := upd_same
    generalize upd H7 l4 (.lst ((thingsOf r.ts).map V.str)) = H8 at s8 hl8
    have s38 := s6.trans (s7.trans s8)
    have hk8 := s38 _ _ hk.at_
    have ht8 := hk.tels.keep (tk_same s38)
    refine ⟨_, rfl, kp, rfl, ⟨_, .inl (.inl hk8)⟩, fun D2 hD2 => ?_⟩
    refine lc_map (walk_list (K := K) (a := kp) (xs := bs.map V.ref)) hD2 (fun _ => true) (fun x => .str (telBy H8 (·.g) x)) (fun H' s' => .inl (.inl (s' _ _ hk8))) (fun _ => rfl) (fun x H' _ _ Q' q' => q') ?_ (by rw [List.length_map]; exact small1000 (by omega)) ?_
    · intro x H' hx _ s' Q' q'
      obtain ⟨pt, hpt, rfl⟩ := List.mem_map.mp hx
      obtain ⟨j, hj, ej⟩ := List.mem_iff_getElem.mp hpt
      obtain ⟨t, ht, hH⟩ := Each.get ht8 (i := j) (a := pt) (by rw [List.getElem?_eq_getElem hj, ej])
      rw [telBy_at hH] at q'
      exact ⟨_, rfl, pt, _, _, _, rfl, rfl, .inl (.inl (s' _ _ hH)), atI_nat (j := 5) rfl, q'⟩
    intro H9 s9 hL9
    rw [List.filter_eq_self.mpr fun _ _ => rfl, tels_byV ht8] at hL9
    refine ⟨D2, r.ts.map (·.g), rfl, .inl (.inl hL9), by rw [List.length_map]; omega, fun sb sm hsb nd2 hm2 hl2' => ?_⟩
    have s10 := same_new (o := SetXO P w sb sm) hsb
    show rSortX P w [V.ref sb] (upd H9 sb (SetXO P w sb sm)) _
    have hsb10 : upd H9 sb (SetXO P w sb sm) sb = some (SetXO P w sb sm) := upd_same
    generalize upd H9 sb (SetXO P w sb sm) = H10 at s10 hsb10
    rw [List.length_map] at hl2'
    refine ⟨sb, sm, rfl, hsb10, by omega, fun l5 hl5 => ?_⟩
    have e2 : sortS sm = gathersOf r.ts := sortS_same nd2 (keysOf_nodup _) fun z => by rw [hm2, mem_keysOf]
    rw [e2]
    have s11 := same_new (o := .lst ((gathersOf r.ts).map V.str)) hl5
    have hl11 : upd H10 l5 (.lst ((gathersOf r.ts).map V.str)) l5 = some (.lst ((gathersOf r.ts).map V.str)) := upd_same
    generalize upd H10 l5 (.lst ((gathersOf r.ts).map V.str)) = H11 at s11 hl11
    have s811 := s9.trans (s10.trans s11)
    have hl4' := s811 _ _ hl8
    have s311 := s38.trans s811
    have hG11 := hG.same s311
    refine ⟨_, _, rfl, ?_⟩
    have dx11 := s311 _ _ hp
    have wth : ∀ z ∈ thingsOf r.ts, IsWd z := fun z hz => by
      obtain ⟨t, ht, rfl⟩ := mem_things.mp hz
      exact (hok t ht).th
    have wga : ∀ z ∈ gathersOf r.ts, IsWd z := fun z hz => by
      obtain ⟨t, ht, rfl⟩ := mem_gathers.mp hz
      exact (hok t ht).g
    have sh1 := shows_strs wth (by have := things_len r.ts; omega)
    have sh2 := shows_strs wga (by have := gathers_len r.ts; omega)
    clear hD1 hL6 hsa hm1 nd1 hsa7 hl4 hD2 hL9 hsb hm2 nd2 hsb10 hl5 s6 s7 s8 s9 s10 s11
    refine ⟨_, rfl, p, dx, _, rfl, dx11, gf_no _ _ _, p, r, rfl, hG11, by omega, fun t1 H12 nt1 s12 ht12 => ?_⟩
    refine ⟨t1, _, rfl, .tup (.inl (.inl ht12)) (dp_strs _), sh1, _, rfl, l4, _, rfl, .inl ⟨.inl (.inl (s12 _ _ hl4')), fun t3 nt3 => ?_⟩⟩
    have s3 := same_new (o := .tup ((thingsOf r.ts).map V.str)) nt3
    refine ⟨t3, _, rfl, .tup (.inl (.inl upd_same)) (dp_strs _), sh1, rfl, false, congrArg V.bl (by rw [decide_eq_true rfl]; rfl), iteF ?_⟩
    generalize upd H12 t3 (.tup ((thingsOf r.ts).map V.str)) = H13 at s3
    have s1113 := s12.trans s3
    refine ⟨_, rfl, p, dx, _, rfl, s1113 _ _ dx11, gf_no _ _ _, p, r, rfl, hG11.same s1113, by omega, fun t2 H14 nt2 s14 ht14 => ?_⟩
    refine ⟨t2, _, rfl, .tup (.inl (.inl ht14)) (dp_strs _), sh2, _, rfl, l5, _, rfl, .inl ⟨.inl (.inl (s14 _ _ (s1113 _ _ hl11))), fun t4 nt4 => ?_⟩⟩
    have s4 := same_new (o := .tup ((gathersOf r.ts).map V.str)) nt4
    refine ⟨t4, _, rfl, .tup (.inl (.inl upd_same)) (dp_strs _), sh2, rfl, false, congrArg V.bl (by rw [decide_eq_true rfl]; rfl), iteF ?_⟩
    generalize upd H14 t4 (.tup ((gathersOf r.ts).map V.str)) = H15 at s4
    have S15 : Same H H15 := s311.trans (s1113.trans (s14.trans s4))
    clear s3 s1113 ht12 nt3 nt2 nt1 ht14 nt4 s14 s4 s12 hl11 hl4' dx11 hG11 s311 s811 hl8 ht8 hk8 s38
    -- told once more
    have hk15 := S15 _ _ hk.at_
    have hT15 := hk.tels.keep (tk_same S15)
    refine ⟨_, rfl, 1, rfl, kp, _, rfl, .inl (.inl hk15), fun la nla => ?_⟩
    have s16 := same_new (o := .lst (cutV (bs.map V.ref) none (some 1))) nla
    have hla : upd H15 la (.lst (cutV (bs.map V.ref) none (some 1))) la = some (.lst (cutV (bs.map V.ref) none (some 1))) := upd_same
    generalize upd H15 la (.lst (cutV (bs.map V.ref) none (some 1))) = H16 at s16 hla
    refine ⟨_, rfl, 1, rfl, -1, rfl, kp, _, rfl, .inl (.inl (s16 _ _ hk15)), fun lb' nlb => ?_⟩
    have s17 := same_new (o := .lst (cutV (bs.map V.ref) (some (-1)) none)) nlb
    have hlb : upd H16 lb' (.lst (cutV (bs.map V.ref) (some (-1)) none)) lb' = some (.lst (cutV (bs.map V.ref) (some (-1)) none)) := upd_same
    have hla' := s17 _ _ hla
    generalize upd H16 lb' (.lst (cutV (bs.map V.ref) (some (-1)) none)) = H17 at s17 hlb hla'
    have c1 := cut_len (bs.map V.ref) none (some 1)
    have c2 := cut_len (bs.map V.ref) (some (-1)) none
    rw [List.length_map] at c1 c2
    refine ⟨la, lb', _, _, rfl, rfl, hla', hlb, lzl (by omega), fun lc nlc => ?_⟩
    obtain ⟨ys, hys⟩ : ∃ ys, ys = cutV (bs.map V.ref) none (some 1) ++ cutV (bs.map V.ref) (some (-1)) none := ⟨_, rfl⟩
    have s18 := same_new (o := .lst (cutV (bs.map V.ref) none (some 1) ++ cutV (bs.map V.ref) (some (-1)) none)) nlc
    have hlc : upd H17 lc (.lst (cutV (bs.map V.ref) none (some 1) ++ cutV (bs.map V.ref) (some (-1)) none)) lc = some (.lst ys) := by rw [upd_same, hys]
    have ymem : ∀ z ∈ ys, ∃ pt t, z = V.ref pt ∧ t ∈ r.ts ∧ H pt = some (.tup (telV t)) := fun z hz => by
      rw [hys] at hz
      have hz : z ∈ bs.map V.ref := (List.mem_append.mp hz).elim cut_mem cut_mem
      obtain ⟨pt, hpt, rfl⟩ := List.mem_map.mp hz
      obtain ⟨j, hj, ej⟩ := List.mem_iff_getElem.mp hpt
      obtain ⟨t, ht, hH⟩ := Each.get hk.tels (i := j) (a := pt) (by rw [List.getElem?_eq_getElem hj, ej])
      exact ⟨pt, t, rfl, List.mem_of_getElem? ht, hH⟩
    generalize upd H17 lc (.lst (cutV (bs.map V.ref) none (some 1) ++ cutV (bs.map V.ref) (some (-1)) none)) = H18 at s18 hlc
    have S18 : Same H H18 := S15.trans (s16.trans (s17.trans s18))
    clear s16 s17 s18 hla hla' hlb hys c1 c2 nla nlb nlc
    refine ⟨lc, rfl, ⟨_, .inl (.inl hlc)⟩, for_list (K := K) (a := lc) (xs := ys) (fun i σ H' => (∃ y4 y5, σ = [some (.ref p), some (.ref kp), some (.ref l4), some (.ref l5), y4, y5, none]) ∧ Same H H' ∧ H' lc = some (.lst ys))
      ⟨⟨_, _, rfl⟩, S18, hlc⟩ (fun i σ H' _ h => .inl (.inl h.2.2)) ?_ ?_⟩
    · rintro i z σ H19 hz ⟨⟨y4, y5, rfl⟩, s19, hlc19⟩
      obtain ⟨pt, t, rfl, htm, hpt⟩ := ymem z (List.mem_of_getElem? hz)
      have okt := hok t htm
      have hpt19 := s19 _ _ hpt
      have hp19 := s19 _ _ hp
      obtain ⟨t2, et2⟩ : ∃ t2 : Tel, t2 = { t with wo := "zz", age := 3, sure := true } := ⟨_, rfl⟩
      have ok2 : OkT t2 := by rw [et2]; exact ⟨okt.v, okt.th, (show IsWd "zz" from by decide +kernel), okt.tl, (show (3 : Nat) ≤ 120 from by decide), okt.g⟩
      have k2 : keyS t2 = keyS t := by rw [et2]; rfl
      have kv2 : keyV t2 = keyV t := by rw [et2]; rfl
      have v2 : t2.v ∈ names r.g := by rw [et2]; exact hvs t htm
      have hd := due_good (g := r.g) (ts := r.ts) ok2 v2
      rw [if_pos (by rw [k2]; exact List.mem_map.mpr ⟨t, htm, rfl⟩)] at hd
      have od2 : Odd7 H19 (.str t2.v) (.str t2.th) (.str t2.wo) (.str t2.tl) (.int (t2.age : Int)) (.str t2.g) (.bl t2.sure) := odd_tel ok2
      have shk : Shows (.tuple ((keyS t).map PyData.str)) := shows_strs okt.key (by simp [keyS])
      rw [et2] at hd od2
      refine ⟨_, rfl, p, dx, _, rfl, hp19, gf_no _ _ _, _, rfl, pt, _, _, _, rfl, rfl, .inl (.inl hpt19), atI_nat (j := 0) rfl, _, rfl, pt, _, _, _, rfl, rfl, .inl (.inl hpt19), atI_nat (j := 1) rfl, _, rfl, pt, _, _, _, rfl, rfl, .inl (.inl hpt19), atI_nat (j := 3) rfl, _, rfl, pt, _, _, _, rfl, rfl, .inl (.inl hpt19), atI_nat (j := 5) rfl, ?_⟩
      refine ⟨p, r, wd, _, _, _, _, _, _, _, rfl, hG.same s19, gd, hok, by omega, hds, od2, fun n e => ?_, fun e => ?_⟩
      case refine_2 =>
        have := hd.symm.trans e
        cases this
      have en := Option.some.inj (hd.symm.trans e)
      subst en
      intro kq d H20 s20 hkq hd20
      replace hkq : H20 kq = some (.tup (keyV t)) := hkq
      refine w_hit hm fun ea hea => ?_
      have s21 := same_new (o := exH ea (.ref x.cT) (some d)) hea
      have hea1 : upd H20 ea (exH ea (.ref x.cT) (some d)) ea = some (exH ea (.ref x.cT) (some d)) := upd_same
      have hkq1 := s21 _ _ hkq
      have hd1 := s21 _ _ hd20
      have S21 := s19.trans (s20.trans s21)
      have hlc21 := s21 _ _ (s20 _ _ hlc19)
      generalize upd H20 ea (exH ea (.ref x.cT) (some d)) = H21 at hea1 hkq1 hd1 S21 hlc21
      refine ⟨_, rfl, _, rfl, false, rfl, iteF ?_⟩
      refine ⟨_, rfl, ea, x.cT, d, _, .ref kq, rfl, hea1, hd1, xfT, TT.no, rfl, kq, .tuple ((keyS t).map .str), rfl, .tup (.inl (.inl hkq1)) (dp_strs (keyS t)), shk, _, rfl, pt, t, rfl, ?_, fun kr nkr => ⟨kr, _, rfl, .tup (.inl (.inl upd_same)) (dp_strs (keyS t)), shk, rfl, false, congrArg V.bl (by rw [decide_eq_true rfl]; rfl), iteF ⟨⟨_, _, rfl⟩, ?_, ?_⟩⟩⟩
      · exact S21 _ _ hpt
      · exact S21.trans (same_new nkr)
      · exact (same_new nkr) _ _ hlc21
    rintro σ H19 ⟨⟨y4, y5, rfl⟩, s19, hlc19⟩
    have hk19 := s19 _ _ hk.at_
    have ht19 := hk.tels.keep (tk_same s19)
    have hG19 := hG.same s19
    have hp19 := s19 _ _ hp
    refine ⟨_, rfl, p, dx, _, rfl, hp19, gf_no _ _ _, p, r, rfl, hG19, fun l nl => ?_⟩
    have s20 := same_new (o := .lst (r.as.map V.ref)) nl
    have hl20 : upd H19 l (.lst (r.as.map V.ref)) l = some (.lst (r.as.map V.ref)) := upd_same
    generalize upd H19 l (.lst (r.as.map V.ref)) = H20 at s20 hl20 ⊢
    refine ⟨l, _, rfl, .lst (.inl (.inl hl20)) (dp_tels (hG19.tels.keep (tk_same s20))), tels_shows hok (by omega), _, rfl, kp, _, rfl, .lst (.inl (.inl (s20 _ _ hk19))) (dp_tels (ht19.keep (tk_same s20))), tels_shows hok (by omega), rfl, true, congrArg V.bl (decide_eq_true rfl), iteT ?_⟩
    refine ⟨_, rfl, p, dx, _, rfl, s20 _ _ hp19, p, r, rfl, hG19.same s20, r.ts.length, rfl, by have : (2 : Nat) ^ 62 = 4611686018427387904 := rfl; omega, _, rfl, kp, _, rfl, .inl (.inl (.inl (s20 _ _ hk19))), rfl, ?_⟩
    rw [List.length_map, lb, decide_eq_true rfl]
    exact q H20 (s19.trans s20)

end
end Wl

/-! what is told of clashes and joined. -/
namespace Wl
open PySem PySem.Spec PyProof.Rows L2
def gOO {α : Type} : List α → List α → List α
  | [], [ot, on] => [on, ot]
  | _, _ => []
theorem gOO_rel {vs zs : List V} {us ws : List Value} (r1 : Vals vs us) (r3 : Vals zs ws) : Vals (gOO vs zs) (gOO us ws) := by
  rcases r1 with _ | ⟨_, _⟩
  all_goals first | exact .nil | skip
  rcases r3 with _ | ⟨c1, _ | ⟨c2, _ | ⟨_, _⟩⟩⟩
  all_goals first | exact .nil | exact .cons c2 (.cons c1 .nil)
section
variable {K : PySem.W.Frag} {f : Addr} {fd : FuncData}
theorem cl_k (F : Fun K "clashes" "clashes" sClash f fd) : KBn K fd ["one", "other"] 0 ["other", "one"] (fun us ws => gOO us ws) (fun vs zs => gOO vs zs) := by
  obtain ⟨oc, od, kV, doc, pm, an, cdv, ct, osl, rfl, lk, hcd⟩ := F.ex
  refine ⟨fun s us ws X l1 l2 => BindsTo.of_looks fun M => .of_pure ?_, fun r1 r2 => gOO_rel r1 r2⟩
  match us, ws, l1, l2 with
  | [], [_, _], _, _ => rfl
theorem jo_k (F : Fun K "joined" "joined" sJoin f fd) : KBn K fd ["one", "other"] 0 ["other", "one"] (fun us ws => gOO us ws) (fun vs zs => gOO vs zs) := by
  obtain ⟨oc, od, kV, doc, pm, an, cdv, ct, osl, rfl, lk, hcd⟩ := F.ex
  refine ⟨fun s us ws X l1 l2 => BindsTo.of_looks fun M => .of_pure ?_, fun r1 r2 => gOO_rel r1 r2⟩
  match us, ws, l1, l2 with
  | [], [_, _], _, _ => rfl
end
section
variable {P : Program} {w : World} {K : PySem.W.Frag} {mg : Str → Option Value} {base : Heap} {f C D cM cL : Addr} {x : XA} {fd : FuncData} {ad bd : Nat → Addr}
end
end Wl


namespace Wl
open PySem PySem.Spec PyProof.Rows L2
abbrev sGEq : Stmt := inClass (topS 41) 10
section
variable {P : Program} {w : World} {K : PySem.W.Frag} {mg : Str → Option Value} {base : Heap} {f C D W : Addr} {fd : FuncData}
theorem scGEq : FnScope ["self", "other"] ["self", "other"] (defScope sGEq) := ⟨rfl, rfl, rfl, by decide +kernel, rfl, by decide +kernel, by decide +kernel⟩
end
end Wl




namespace Wl
open PySem PySem.Spec PyProof.Rows L2
theorem tel_inj (t u : Tel) (h : PySem.W.keyToks (telD t) = PySem.W.keyToks (telD u)) : t = u := by
  cases t with
  | mk v th wo tl age g sure =>
    cases u with
    | mk v' th' wo' tl' age' g' sure' =>
      simp only [telD, PySem.W.keyToks, PySem.W.keyToksAll, List.cons_append, List.nil_append, List.cons.injEq, Sum.inl.injEq, Sum.inr.injEq, true_and, and_true] at h
      obtain ⟨h1, h2, h3, h4, h5, h6, h7⟩ := h
      have s1 := str_ext h1
      have s2 := str_ext h2
      have s3 := str_ext h3
      have s4 := str_ext h4
      have s5 : age = age' := by omega
      have s6 := str_ext h6
      have s7 : sure = sure' := by
        revert h7
        cases sure <;> cases sure' <;> simp
      subst s1 s2 s3 s4 s5 s6 s7
      rfl
theorem tels_eqv : ∀ ts us : List Tel, PyData.eqvAll (ts.map telD) (us.map telD) = decide (ts = us)
  | [], [] => by simp [PyData.eqvAll]
  | [], _ :: _ => by simp [PyData.eqvAll]
  | _ :: _, [] => by simp [PyData.eqvAll]
  | t :: ts, u :: us => by
    simp only [List.map_cons, PyData.eqvAll, tel_eqv, tels_eqv ts us, List.cons.injEq]
    by_cases h1 : t = u <;> by_cases h2 : ts = us <;> simp [h1, h2]
theorem tel_alike (t u : Tel) : PySem.W.alike (telD t) (telD u) = true := rfl
theorem tel_depth (t : Tel) : (telD t).depth ≤ 8 := by simp [telD, PyData.depth, PyData.depthAll]
theorem dp_telsE {K : PySem.W.Frag} {H : Hp} : ∀ {xs : List V} {ts : List Tel}, Each (fun (x : V) (t : Tel) => Dp K H x (telD t)) xs ts → DpAll K H xs (ts.map telD)
  | _, _, .nil => .nil
  | _, _, .cons r t => .cons r (dp_telsE t)
theorem each_refs {H : Hp} : ∀ {as : List Addr} {ts : List Tel}, TelsAt H as ts → Each (fun (x : V) (t : Tel) => ∃ p, x = .ref p ∧ H p = some (.tup (telV t))) (as.map V.ref) ts
  | _, _, .nil => .nil
  | _, _, .cons r t => .cons ⟨_, rfl, r⟩ (each_refs t)
/-- told lists, sorted -/
theorem sort_tels {K : PySem.W.Frag} {H : Hp} {Q : VK} {a : Addr} {as : List Addr} {ts : List Tel} (h : H a = some (.lst (as.map V.ref))) (ht : TelsAt H as ts) (q : ∀ p ys, H p = none → Each (fun (x : V) (t : Tel) => ∃ p, x = .ref p ∧ H p = some (.tup (telV t))) ys (sortE telD ts) → Q (.ref p) (upd H p (.lst ys))) : rSortD K [.ref a] H Q := by
  have e := each_refs ht
  refine sort_enc (enc := telD) (.inl (.inl h)) (e.mono fun x t ⟨p, hx, hp⟩ => by rw [hx]; exact dp_tel hp) tel_alike (fun t => ⟨_, _, rfl⟩) tel_depth fun p ys hp hy => q p ys hp (hy _ e)
section
variable {P : Program} {w : World} {K : PySem.W.Frag} {mg : Str → Option Value} {base : Heap} {f C D : Addr} {fd : FuncData}
/-- == of two Gatherings -/
def spGEq (C D : Addr) : Sp := fun vs H Q _ => ∃ (p q : Addr) (r r' : GR) (wd wd' : Nat), vs = [.ref p, .ref q] ∧ GatAt C D H p r ∧ GatAt C D H q r' ∧ Good r.g wd ∧ Good r'.g wd' ∧ (∀ t ∈ r.ts, OkT t) ∧ (∀ t ∈ r'.ts, OkT t) ∧
  ∀ (b : Bool) (H' : Hp), (b = true ↔ r.g = r'.g ∧ r.ts.Perm r'.ts) → Same H H' → Q (.bl b) H'
theorem ok_geq (F : Fun K "__eq__" "Gathering.__eq__" sGEq f fd) (B : Bi mg) (TG : TxtG K mg D) (ins : C8.InsC K D) (hE : HasM P w K mg base C "__eq__" 1 ["self", "other"] (spLEq C)) : FnOk P w K mg base CX0 3 f fd ["self", "other"] (spGEq C D) := by
  obtain ⟨fE, fdE, FE, mE, bE⟩ := hE
  refine F.ok scGEq (fun vs H Q E h => ?_) (fun cdv A outer s H vs Q E hr h => ?_)
  · obtain ⟨p, q, r, r', wd, wd', rfl, _⟩ := h
    rfl
  · obtain ⟨p, q, r, r', wd, wd', rfl, h1, h2, gd, gd', o1, o2, qq⟩ := h
    refine ⟨_, pss_one (ps_ret (pe_and (pe_callB (C8.call_isC (C := D) ins) (by rfl) B.isi (by decide +kernel) (pa_cons (pv 1) (pa_cons (pe_glob (v := .ref D) rfl TG.mgD rfl) pa_nil))) (pe_and (pe_cmpR (op_eqO FE bE mE (hr.mono (by decide))) (pe_fld (pv 0) rfl) (pe_fld (pv 1) rfl) (nomark _)) (pe_one (pe_cmpR (op_eqD hr.units) (pe_callB (cr_sortD hr.units) (by rfl) B.sorted (by decide +kernel) (pa_cons (pe_fld (pv 0) rfl) pa_nil)) (pe_callB (cr_sortD hr.units) (by rfl) B.sorted (by decide +kernel) (pa_cons (pe_fld (pv 1) rfl) pa_nil)) (nomark _)))))), ?_⟩
    obtain ⟨dx, i1⟩ := h1.at_
    obtain ⟨dy, i2⟩ := h2.at_
    obtain ⟨dl, d1, l1⟩ := h1.land.ins
    obtain ⟨dl2, d2, l2⟩ := h2.land.ins
    refine ⟨_, rfl, q, dy, _, rfl, i2, true, rfl, iteT ⟨_, rfl, p, D, dx, _, _, rfl, i1, TG.cl, TG.nL, gf_land _ _ _, _, rfl, q, D, dy, _, _, rfl, i2, TG.cl, TG.nL, gf_land _ _ _, r.pl, dl, _, r'.pl, dl2, _, rfl, rfl, l1, l2, le_land h1.land gd h2.land gd' ⟨_, rfl, _, rfl, ?_⟩⟩⟩
    refine ite_b (fun e => ?_) (fun e => ?_)
    · refine ⟨_, rfl, p, D, dx, _, _, rfl, i1, TG.cl, TG.nT, gf_told _ _ _, ?_⟩
      unfold tNil
      refine sort_tels (K := K) h1.told h1.tels fun u ys hu ey => ?_
      have s1 := same_new (o := .lst ys) hu
      have hu' : upd H u (.lst ys) u = some (.lst ys) := upd_same
      generalize upd H u (.lst ys) = H1 at s1 hu' ⊢
      refine ⟨_, rfl, q, D, dy, _, _, rfl, s1 _ _ i2, TG.cl, TG.nT, gf_told _ _ _, ?_⟩
      refine sort_tels (K := K) (s1 _ _ h2.told) (h2.tels.keep (tk_same s1)) fun u2 ys2 hu2 ey2 => ?_
      have s2 := same_new (o := .lst ys2) hu2
      have hu2' : upd H1 u2 (.lst ys2) u2 = some (.lst ys2) := upd_same
      generalize upd H1 u2 (.lst ys2) = H2 at s2 hu2' ⊢
      have m1 : ∀ t ∈ sortE telD r.ts, OkT t := fun t ht => o1 t ((sortE_ind r.ts).mem_iff.mp ht)
      have m2 : ∀ t ∈ sortE telD r'.ts, OkT t := fun t ht => o2 t ((sortE_ind r'.ts).mem_iff.mp ht)
      refine ⟨.list ((sortE telD r.ts).map telD), .list ((sortE telD r'.ts).map telD), .lst (.inl (.inl (s2 _ _ hu'))) (dp_telsE (ey.mono fun x t ⟨pt, hx, hp⟩ => by rw [hx]; exact dp_tel ((s1.trans s2) _ _ hp))), .lst (.inl (.inl hu2')) (dp_telsE (ey2.mono fun x t ⟨pt, hx, hp⟩ => by rw [hx]; exact dp_tel (s2 _ _ hp))), shaped_tels m1, shaped_tels m2, qq _ H2 ?_ (s1.trans s2)⟩
      have eg : r.g = r'.g := of_decide_eq_true e
      show PyData.eqvAll ((sortE telD r.ts).map telD) ((sortE telD r'.ts).map telD) = true ↔ _
      rw [tels_eqv, decide_eq_true_eq, sortE_perm tel_inj]
      exact ⟨fun h => ⟨eg, h⟩, fun h => h.2⟩
    · refine qq _ H ?_ (Same.refl H)
      have eg : ¬ r.g = r'.g := of_decide_eq_false e
      constructor
      · intro h
        cases h
      · intro h
        exact absurd h.1 eg
end
end Wl



/-! joined, where nothing clashes. -/
namespace Wl
open PySem PySem.Spec PyProof.Rows L2
abbrev sJoined : Stmt := topS 66
def HasJG (P : Program) (w : World) (K : PySem.W.Frag) (mg : Str → Option Value) (base : Heap) (C D : Addr) : Prop := ∃ f fd, FnOk P w K mg base CX0 6 f fd ["one", "other"] (spJoinG C D) ∧ mg "joined" = some (.ref f) ∧ Fun K "joined" "joined" sJoin f fd ∧ Binds K fd ["one", "other"] []
theorem clash_sym {ts us : List Tel} (h : clashT ts us = []) : clashT us ts = [] := by
  unfold clashT at h ⊢
  rw [List.filter_eq_nil_iff] at h ⊢
  intro t ht e
  obtain ⟨u, hu, e⟩ := List.any_eq_true.mp e
  rw [Bool.and_eq_true, decide_eq_true_eq, decide_eq_true_eq] at e
  refine h u hu (List.any_eq_true.mpr ⟨t, ht, ?_⟩)
  rw [Bool.and_eq_true, decide_eq_true_eq, decide_eq_true_eq]
  exact ⟨e.1.symm, fun z => e.2 z.symm⟩
theorem mem_joinT {ts us : List Tel} {t : Tel} : t ∈ joinT ts us ↔ t ∈ ts ∨ t ∈ us := by
  refine ⟨joinT_mem, fun h => ?_⟩
  unfold joinT
  by_cases h1 : t ∈ ts
  · exact List.mem_append.mpr (.inl h1)
  · refine List.mem_append.mpr (.inr (List.mem_filter.mpr ⟨h.resolve_left h1, ?_⟩))
    rw [Bool.not_eq_true', List.any_eq_false]
    intro u hu e
    exact h1 (of_decide_eq_true e ▸ hu)
theorem nodup_of_keys {ts : List Tel} (h : (ts.map keyS).Nodup) : ts.Nodup := by
  have := List.pairwise_map.mp h
  exact this.imp fun n e => n (by rw [e])
theorem joinT_perm {ts us : List Tel} (n1 : (ts.map keyS).Nodup) (n2 : (us.map keyS).Nodup) (hc : clashT ts us = []) : (joinT us ts).Perm (joinT ts us) :=
  (List.perm_ext_iff_of_nodup (nodup_of_keys (join_nodup n2 n1 (clash_sym hc))) (nodup_of_keys (join_nodup n1 n2 hc))).mpr fun t => by rw [mem_joinT, mem_joinT, or_comm]
section
variable {P : Program} {w : World} {K : PySem.W.Frag} {mg : Str → Option Value} {base : Heap} {f C D cB : Addr} {x : XA} {fd : FuncData}
abbrev nJoined : List Str := ["_law_lots", "_law_stranger", "_law_first", "_law_second_here", "_law_kept_here", "_law_others", "_law_due", "_law_both", "_law_again", "_law_good", "_law_row_here"]
abbrev psJoined : List Str := ["_law_lots", "_law_stranger", "_law_first", "_law_second_here", "_law_kept_here", "_law_others"]
theorem scJoined : FnScope nJoined psJoined (defScope sJoined) := ⟨rfl, rfl, rfl, by decide +kernel, rfl, by decide +kernel, by decide +kernel⟩
def spJoined (C D : Addr) : Sp := fun vs H Q _ => ∃ (L p q k o : Addr) (st : Str) (g : Grid) (wd : Nat) (r s : GR) (bs cs : List Addr), vs = [.ref L, .str st, .ref p, .ref q, .ref k, .ref o] ∧ GridAt H L g ∧ Good g wd ∧ IsWd st ∧ GatAt C D H p r ∧ GatAt C D H q s ∧ r.g = g ∧ s.g = g ∧ KeptAt H k bs r.ts ∧ KeptAt H o cs s.ts ∧
  (∀ t ∈ r.ts, OkT t) ∧ (∀ t ∈ s.ts, OkT t) ∧ (∀ t ∈ r.ts, t.v ∈ names g ∧ t.tl ≠ st) ∧ (∀ t ∈ s.ts, t.v ∈ names g ∧ t.tl ≠ st) ∧ (r.ts.map keyS).Nodup ∧ (s.ts.map keyS).Nodup ∧ r.ts.length ≤ 16 ∧ s.ts.length ≤ 16 ∧ r.ds.length ≤ 100 ∧ clashT r.ts s.ts = [] ∧
  ∀ (H' : Hp), Same2 r.td r.dd H H' → GatAt C D H' p r → Q (.bl true) H'
theorem ok_joined (F : Fun K "_law_joined_right" "_law_joined_right" sJoined f fd) (B : Bi mg) (hrep : mg "repr" = none) (T : Txt2 K mg C) (TG : TxtG K mg D) (NeD : NeC K D) (hJ : HasJG P w K mg base C D) (hTl : HasTl P w K mg base C D) (hL : HasM P w K mg base D "__len__" 1 ["self"] (spGLen C D)) (hE : HasM P w K mg base C "__eq__" 1 ["self", "other"] (spLEq C)) (hG : HasM P w K mg base D "__eq__" 3 ["self", "other"] (spGEq C D))
    (hI : HasI P w K mg base C) (hFi : Has P w K mg base "_law_filled" 6 psLFilled (spFilled C D)) (hNB : Has P w K mg base "_law_no_back" 2 ["_law_basket"] (spNoBack C D)) (hLv : HasQ P w K mg base "_law_lives_right" 5 psLives (spLives C D)) (hP : HasP P w K mg base C D) (hBk : HasM P w K mg base D "back" 1 ["self"] (spBack C D)) (hNa : Has P w K mg base "_law_names" 1 ["_law_lots"] spNames) : FnOkG P w K mg base 7 f fd psJoined (spJoined C D) := by
  obtain ⟨fJ, fdJ, FJ, mJ, NJ, bJ⟩ := hJ
  have kJ := jo_k NJ
  obtain ⟨fT, fdT, FT, mT, FnT⟩ := hTl
  obtain ⟨dsT, vT, bT⟩ := tell_b1 FnT
  obtain ⟨fL, fdL, FL, mL, bL⟩ := hL
  obtain ⟨fE, fdE, FE, mE, bE⟩ := hE
  obtain ⟨fG, fdG, FG, mG, bG⟩ := hG
  obtain ⟨fI, fdI, MI, GI, bI⟩ := hI
  obtain ⟨fP, fdP, FP, mP, fnP⟩ := hP
  obtain ⟨ds6, v6, b6⟩ := put_b6 fnP
  refine okG F scJoined (fun vs H Q E h => ?_) (fun cdv A outer s H vs Q E hgd hr h => ?_)
  · obtain ⟨L, p, q, k, o, st, g, wd, r, s, bs, cs, rfl, _⟩ := h
    rfl
  · obtain ⟨L, p, q, k, o, st, g, wd, r, s', bs, cs, rfl, hGr, gd, wst, hG1, hG2, eg1, eg2, hk, ho, ok1, ok2, v1, v2, n1, n2, l1, l2, ld, hcl, qq⟩ := h
    have hgd' : (A.deeper (envOfC "_law_joined_right" (defScope sJoined) s.heap.objs.size f cdv)).guards = some [] := hgd
    have hu65 : (A.deeper (envOfC "_law_joined_right" (defScope sJoined) s.heap.objs.size f cdv)).units + 65 < cLine := by have := hr.un; omega
    refine ⟨_, pss_cons (ps_set (i := 6) scJoined.nd rfl (.inl rfl) (pe_op op_cat (pv 4) (pe_lc (own := [("_law_row_here", 10)]) (g := gName 10) (tt := tTest (tOp (rNotInD K) (tVar 10) (tVar 4))) (te := tVar 10) rfl scJoined.nd (pi_list (pv 5)) (blkOk_by (N := nJoined) (sc := defScope sJoined) (by decide +kernel)) (fun _ _ _ _ _ => pg_name (i := 10) scJoined.nd rfl (.inl rfl)) (fun _ _ _ _ _ => pts_one (pt_cmpR (op_notInD hu65) (pv 10) (pv 4) (by rfl))) (fun _ _ _ _ _ => pv 10)))) (pss_cons (ps_for PassesOwn.never rfl (pi_list (pe_lst (pa_cons (pe_call FJ (hr.mono (by decide)) rfl mJ NJ.kp bJ .nil pass0 (pa_cons (pv 2) (pa_cons (pv 3) pa_nil))) (pa_cons (pe_callN0 FJ (hr.mono (by decide)) rfl mJ NJ.kp kJ pass0 (pk_cons (pv 3) (pk_cons (pv 2) pk_nil))) pa_nil)))) (pg_name (i := 7) scJoined.nd rfl (.inl rfl)) (pss_cons (ps_if (PW.pt (pw_or (pt_cmpR op_ne (pe_callB (cr_reprD hgd' hr.units) (by rfl) hrep (by decide +kernel) (pa_cons (pe_meth0 (pv 7) TG.cl mT FT (hr.mono (by decide)) bT vT pass0) pa_nil)) (pe_callB (cr_reprD hgd' hr.units) (by rfl) hrep (by decide +kernel) (pa_cons (pv 6) pa_nil)) (nomark _)) (pw_or (pt_cmpR op_ne (pe_callB (cr_lenO FL bL mL (hr.mono (by decide))) (by rfl) B.len PySem.boot_len (pa_cons (pv 7) pa_nil)) (pe_callB call_len_seq (by rfl) B.len PySem.boot_len (pa_cons (pv 6) pa_nil)) (nomark _)) (pw_or1 ((pt_cmpR (op_neO FE bE mE T.ne (hr.mono (by decide))) (pe_fld (pv 7) rfl) (pe_make MI GI (hr.mono (by decide)) rfl T.t.mgC bI .nil pass0 (pa_cons (pv 0) pa_nil)) (nomark _))))))) (pss_one (ps_ret pe_bl)) pss_nil) (pss_cons (ps_if (PW.pt (pw_or (pt_not (pt_val (pe_h hNB hr (pa_cons (pv 7) pa_nil)))) (pw_or ((pt_cmpR (op_neO FG bG mG NeD (hr.mono (by decide))) (pv 7) (pe_call FJ (hr.mono (by decide)) rfl mJ NJ.kp bJ .nil pass0 (pa_cons (pv 3) (pa_cons (pv 2) pa_nil))) (nomark _))) (pw_or1 ((pt_cmpR (op_neO FG bG mG NeD (hr.mono (by decide))) (pv 7) (pe_h hFi hr (pa_cons (pv 0) (pa_cons (pv 6) pa_nil))) (nomark _))))))) (pss_one (ps_ret pe_bl)) pss_nil) (pss_cons (ps_if (pt_not (pt_val (pe_hQ hLv hgd' hr (pa_cons (pv 7) (pa_cons (pv 6) pa_nil))))) (pss_one (ps_ret pe_bl)) pss_nil) (pss_cons (ps_expr (pe_meth (pv 7) TG.cl mP FP (hr.mono (by decide)) b6 v6 pass0 (pa_cons (pe_ix ix_list (pe_h hNa hr (pa_cons (pv 0) pa_nil)) pe_int (fun _ _ => rfl)) (pa_cons pe_str (pa_cons pe_str (pa_cons (pv 1) (pa_cons pe_int pa_nil))))))) (pss_cons (ps_expr (pe_hm0 hBk TG.cl hr (pv 7))) (pss_one (ps_if (PW.pt (pw_or (pt_not (pt_val (pe_hQ hLv hgd' hr (pa_cons (pv 7) (pa_cons (pv 6) pa_nil))))) (pw_or1 (pt_not (pt_val (pe_h hNB hr (pa_cons (pv 7) pa_nil))))))) (pss_one (ps_ret pe_bl)) pss_nil)))))))) (pss_cons (ps_set (i := 7) scJoined.nd rfl (.inl rfl) (pe_call FJ (hr.mono (by decide)) rfl mJ NJ.kp bJ .nil pass0 (pa_cons (pv 2) (pa_cons (pv 3) pa_nil)))) (pss_cons (ps_expr (pe_meth (pv 7) TG.cl mP FP (hr.mono (by decide)) b6 v6 pass0 (pa_cons (pe_ix ix_list (pe_h hNa hr (pa_cons (pv 0) pa_nil)) pe_int (fun _ _ => rfl)) (pa_cons pe_str (pa_cons pe_str (pa_cons (pv 1) (pa_cons pe_int pa_nil))))))) (pss_cons (ps_if (PW.pt (pw_or (pt_cmpR op_ne (pe_callB (cr_reprD hgd' hr.units) (by rfl) hrep (by decide +kernel) (pa_cons (pe_meth0 (pv 2) TG.cl mT FT (hr.mono (by decide)) bT vT pass0) pa_nil)) (pe_callB (cr_reprD hgd' hr.units) (by rfl) hrep (by decide +kernel) (pa_cons (pv 4) pa_nil)) (nomark _)) (pw_or1 (pt_cmpR op_ne (pe_callB (cr_reprD hgd' hr.units) (by rfl) hrep (by decide +kernel) (pa_cons (pe_meth0 (pv 3) TG.cl mT FT (hr.mono (by decide)) bT vT pass0) pa_nil)) (pe_callB (cr_reprD hgd' hr.units) (by rfl) hrep (by decide +kernel) (pa_cons (pv 5) pa_nil)) (nomark _))))) (pss_one (ps_ret pe_bl)) pss_nil) (pss_cons (ps_set (i := 8) scJoined.nd rfl (.inl rfl) (pe_call FJ (hr.mono (by decide)) rfl mJ NJ.kp bJ .nil pass0 (pa_cons (pv 2) (pa_cons (pv 3) pa_nil)))) (pss_cons (ps_expr (pe_meth (pv 2) TG.cl mP FP (hr.mono (by decide)) b6 v6 pass0 (pa_cons (pe_ix ix_list (pe_h hNa hr (pa_cons (pv 0) pa_nil)) pe_int (fun _ _ => rfl)) (pa_cons pe_str (pa_cons pe_str (pa_cons (pv 1) (pa_cons pe_int pa_nil))))))) (pss_cons (ps_set (i := 9) scJoined.nd rfl (.inl rfl) (pe_and (pe_cmpR op_eq (pe_callB (cr_reprD hgd' hr.units) (by rfl) hrep (by decide +kernel) (pa_cons (pe_meth0 (pv 8) TG.cl mT FT (hr.mono (by decide)) bT vT pass0) pa_nil)) (pe_callB (cr_reprD hgd' hr.units) (by rfl) hrep (by decide +kernel) (pa_cons (pv 6) pa_nil)) (nomark _)) (pe_one (pe_cmpR op_eq (pe_callB (cr_lenO FL bL mL (hr.mono (by decide))) (by rfl) B.len PySem.boot_len (pa_cons (pv 7) pa_nil)) (pe_op op_add (pe_callB call_len_seq (by rfl) B.len PySem.boot_len (pa_cons (pv 6) pa_nil)) pe_int) (nomark _))))) (pss_cons (ps_expr (pe_hm0 hBk TG.cl hr (pv 2))) (pss_one (ps_ret (pv 9))))))))))), ?_⟩
    subst eg1
    have lbk : bs.length = r.ts.length := hk.tels.length
    have lco : cs.length = s'.ts.length := ho.tels.length
    have two : TwoAt C D H p q r s' wd := ⟨hG1, hG2, gd, eg2.symm, ok1, ok2, by omega, by omega, n1, n2⟩
    -- what is due
    refine ⟨_, rfl, _, rfl, o, rfl, ⟨_, .inl (.inl ho.at_)⟩, fun Dd nDd => ?_⟩
    refine pick_telsX ho.at_ ho.tels nDd (fun u => !(r.ts.any fun t => decide (t = u))) (by omega) (fun _ => rfl) ?_ (fun x H Q q => ⟨_, rfl, q⟩) ?_
    · intro pu u H' hu' hH s4 Q' q'
      refine ⟨_, rfl, _, rfl, telD u, r.ts.map telD, dp_tel hH, .lst (.inl (.inl (s4 _ _ hk.at_))) (dp_tels (hk.tels.keep (tk_same s4))), shaped_tel (ok2 u hu'), shaped_tels ok1, _, rfl, ?_⟩
      rw [any_telD]
      exact q' H' (Same.refl H')
    intro ds H1 s1 hD1 hT1
    have lds : ds.length ≤ 16 := by
      have := hT1.length
      have := List.length_filter_le (fun u => !(r.ts.any fun t => decide (t = u))) s'.ts
      omega
    refine ⟨k, Dd, _, _, rfl, rfl, s1 _ _ hk.at_, hD1, lzl (by simp only [List.length_map]; omega), fun du ndu => ?_⟩
    have s2 := same_new (o := .lst (bs.map V.ref ++ ds.map V.ref)) ndu
    have hdu : upd H1 du (.lst (bs.map V.ref ++ ds.map V.ref)) du = some (.lst ((bs ++ ds).map V.ref)) := by rw [upd_same, List.map_append]
    have hTd : TelsAt (upd H1 du (.lst (bs.map V.ref ++ ds.map V.ref))) (bs ++ ds) (joinT r.ts s'.ts) := Each.append ((hk.tels.keep (tk_same s1)).keep (tk_same s2)) (hT1.keep (tk_same s2))
    have S2 := s1.trans s2
    have ndu0 : H du = none := s1.free ndu
    generalize upd H1 du (.lst (bs.map V.ref ++ ds.map V.ref)) = H2 at s2 hdu hTd S2
    have ljl : (joinT r.ts s'.ts).length ≤ 32 := by
      have := hTd.length
      rw [List.length_append] at this
      omega
    have v1' : ∀ t ∈ r.ts, t.v ∈ names r.g := fun t ht => (v1 t ht).1
    have v2' : ∀ t ∈ s'.ts, t.v ∈ names r.g := fun t ht => (v2 t ht).1
    -- joined twice
    have joinedG : ∀ {H' : Hp} {Q : VK} {E : XK}, Same H H' → (∀ (u : Addr) (j : GR) (H'' : Hp), Same H' H'' → GatAt C D H'' u j → j.g = r.g → j.ts = joinT r.ts s'.ts → j.ds = [] → H' j.td = none → H' j.dd = none → Q (.ref u) H'') → spJoinG C D [.ref p, .ref q] H' Q E := fun {H' Q E} sm h =>
      ⟨p, q, r, s', wd, rfl, two.same sm, v1', v2', hcl, by omega, h⟩
    refine ⟨_, rfl, _, rfl, ?_⟩
    unfold tNil
    refine joinedG S2 fun u1 j1 H3 s3 hj1 jg1 jt1 jd1 e1 e2 => ?_
    refine ⟨_, rfl, _, rfl, rfl, rfl, ?_⟩
    refine joinedG (S2.trans s3) fun u2 j2 H4 s4 hj2 jg2 jt2 jd2 e3 e4 => ?_
    refine ⟨lz, fun li nli => ?_⟩
    have s5 := same_new (o := .lst [V.ref u1, V.ref u2]) nli
    have hli : upd H4 li (.lst [V.ref u1, V.ref u2]) li = some (.lst ([u1, u2].map V.ref)) := upd_same
    have hjA := (hj1.same s4).same s5
    have hjB := hj2.same s5
    have S5 := (S2.trans s3).trans (s4.trans s5)
    have li0 : H li = none := ((S2.trans s3).trans s4).free nli
    have eA : H j1.td = none ∧ H j1.dd = none := ⟨S2.free e1, S2.free e2⟩
    have eB : H j2.td = none ∧ H j2.dd = none := ⟨(S2.trans s3).free e3, (S2.trans s3).free e4⟩
    have ndA : li ≠ j1.td ∧ li ≠ j1.dd := ⟨fun e => (by have := (hj1.same s4).told; rw [← e, nli] at this; cases this), fun e => (by have := (hj1.same s4).deeds; rw [← e, nli] at this; cases this)⟩
    have ndB : li ≠ j2.td ∧ li ≠ j2.dd := ⟨fun e => (by have := hj2.told; rw [← e, nli] at this; cases this), fun e => (by have := hj2.deeds; rw [← e, nli] at this; cases this)⟩
    generalize upd H4 li (.lst [V.ref u1, V.ref u2]) = H5 at s5 hli hjA hjB S5
    refine ⟨li, rfl, ⟨_, .inl (.inl hli)⟩, for_list (K := K) (a := li) (xs := [u1, u2].map V.ref) (fun i σ H' => (∃ y7, σ = [some (.ref L), some (.str st), some (.ref p), some (.ref q), some (.ref k), some (.ref o), some (.ref du), y7, none, none, none]) ∧ Same H H' ∧ H' li = some (.lst ([u1, u2].map V.ref)) ∧ KeptAt H' du (bs ++ ds) (joinT r.ts s'.ts) ∧
        (i = 0 → GatAt C D H' u1 j1) ∧ (i ≤ 1 → GatAt C D H' u2 j2))
      ⟨⟨_, rfl⟩, S5, hli, ⟨s5 _ _ (s4 _ _ (s3 _ _ hdu)), ((hTd.keep (tk_same s3)).keep (tk_same s4)).keep (tk_same s5)⟩, fun _ => hjA, fun _ => hjB⟩ (fun i σ H' _ h => .inl (.inl h.2.2.1)) ?_ ?_⟩
    · rintro i x σ H6 hx ⟨⟨y7, rfl⟩, S6, hli6, hk6, gA, gB⟩
      obtain ⟨u, j, rfl, hj, jg, jt, jd, f1, f2, nl1, nl2, dn1, dn2, fin⟩ : ∃ (u : Addr) (j : GR), x = .ref u ∧ GatAt C D H6 u j ∧ j.g = r.g ∧ j.ts = joinT r.ts s'.ts ∧ j.ds = [] ∧ H j.td = none ∧ H j.dd = none ∧ li ≠ j.td ∧ li ≠ j.dd ∧ du ≠ j.td ∧ du ≠ j.dd ∧ (∀ H', Same2 j.td j.dd H6 H' → i + 1 ≤ 1 → GatAt C D H' u2 j2) := by
        match i, hx, gA, gB with
        | 0, hx, gA, gB =>
          have g1 := gA rfl
          have g2 := gB (by omega)
          have n1 : j2.td ≠ j1.td := fun e => by have := hj1.told; rw [← e, e3] at this; cases this
          have n2 : j2.td ≠ j1.dd := fun e => by have := hj1.deeds; rw [← e, e3] at this; cases this
          have n3 : j2.dd ≠ j1.td := fun e => by have := hj1.told; rw [← e, e4] at this; cases this
          have n4 : j2.dd ≠ j1.dd := fun e => by have := hj1.deeds; rw [← e, e4] at this; cases this
          exact ⟨u1, j1, (Option.some.inj hx).symm, g1, jg1, jt1, jd1, eA.1, eA.2, ndA.1, ndA.2, fun e => (by rw [← e, hdu] at e1; cases e1), fun e => (by rw [← e, hdu] at e2; cases e2), fun H' m _ => g2.keep (kp_2 m g1.told g1.deeds) (m _ _ n1 n2 g2.told) (m _ _ n3 n4 g2.deeds)⟩
        | 1, hx, gA, gB => exact ⟨u2, j2, (Option.some.inj hx).symm, gB (by omega), jg2, jt2, jd2, eB.1, eB.2, ndB.1, ndB.2, fun e => (by rw [← e, s3 _ _ hdu] at e3; cases e3), fun e => (by rw [← e, s3 _ _ hdu] at e4; cases e4), fun H' _ h => absurd h (by omega)⟩
        | i + 2, hx, _, _ => cases hx
      have okJ : ∀ t ∈ joinT r.ts s'.ts, OkT t := fun t ht => (joinT_mem ht).elim (ok1 t) (ok2 t)
      have okj : ∀ t ∈ j.ts, OkT t := by rw [jt]; exact okJ
      have lj : j.ts.length ≤ 32 := by rw [jt]; exact ljl
      obtain ⟨dxu, hu6⟩ := hj.at_
      have lbd : (bs ++ ds).length = j.ts.length := by rw [jt]; exact hk6.tels.length
      refine ⟨_, rfl, u, dxu, _, rfl, hu6, gf_no _ _ _, u, j, rfl, hj, fun l nl => ?_⟩
      have t1 := same_new (o := .lst (j.as.map V.ref)) nl
      have hl1 : upd H6 l (.lst (j.as.map V.ref)) l = some (.lst (j.as.map V.ref)) := upd_same
      generalize upd H6 l (.lst (j.as.map V.ref)) = H7 at t1 hl1 ⊢
      have hj7 := hj.same t1
      have dj7 : Dp K H7 (.ref l) (.list ((joinT r.ts s'.ts).map telD)) := by
        rw [← jt]
        exact .lst (.inl (.inl hl1)) (dp_tels hj7.tels)
      have hd7 : Dp K H7 (.ref du) (.list ((joinT r.ts s'.ts).map telD)) := .lst (.inl (.inl (t1 _ _ hk6.at_))) (dp_tels (hk6.tels.keep (tk_same t1)))
      refine ⟨l, _, rfl, dj7, tels_shows okJ (by omega), _, rfl, du, _, rfl, hd7, tels_shows okJ (by omega), rfl, false, congrArg V.bl (by rw [decide_eq_true rfl]; rfl), iteF ?_⟩
      refine ⟨_, rfl, u, dxu, _, rfl, t1 _ _ hu6, u, j, rfl, hj7, j.ts.length, rfl, by have : (2 : Nat) ^ 62 = 4611686018427387904 := rfl; omega, _, rfl, du, _, rfl, .inl (.inl (.inl (t1 _ _ hk6.at_))), rfl, false, congrArg V.bl (by rw [List.length_map, lbd, decide_eq_true rfl]; rfl), iteF ?_⟩
      refine ⟨_, rfl, u, D, dxu, _, _, rfl, t1 _ _ hu6, TG.cl, TG.nL, gf_land _ _ _, _, rfl, fun pl dl npl ndl nel => ?_⟩
      have kp7 : TupKeep H7 (upd (upd H7 dl (.own pl)) pl (.ins C dl [])) := fun b xs h => by
        rw [upd_ne (ne_of_none h npl), upd_ne (ne_of_none h ndl)]
        exact h
      have S7 := S6.trans t1
      refine ⟨pl, dl, L, r.g, wd, rfl, upd_same, (hGr.keep (tk_same S7)).keep kp7, gd, fun H8 k8 hLa8 => ⟨rfl, ?_⟩⟩
      have t2 := made_same npl ndl k8
      have S8 := S7.trans t2
      have hj8 := hj7.same t2
      obtain ⟨dm0, dm1, hm0⟩ := hj8.land.ins
      obtain ⟨dn0, dn1', hn0⟩ := hLa8.ins
      have gdj : Good j.g wd := by rw [jg]; exact gd
      refine ⟨j.pl, dm0, _, pl, dn0, _, rfl, rfl, hm0, hn0, j.pl, j.L, pl, L, j.g, r.g, wd, wd, rfl, hj8.land, gdj, hLa8, gd, _, rfl, false, congrArg V.bl (by rw [decide_eq_true jg]; rfl), iteF ?_⟩
      -- alike
      refine ⟨_, rfl, u, j, rfl, hj8, jd, fun H9 t9 => ⟨true, rfl, iteF ?_⟩⟩
      have hj9 := hj8.same t9
      have S9 := S8.trans t9
      have t79 := t2.trans t9
      refine ⟨_, rfl, _, rfl, _, rfl, ?_⟩
      refine ⟨q, p, s', r, wd, rfl, ⟨hG2.same S9, hG1.same S9, by rw [eg2]; exact gd, eg2, ok2, ok1, by omega, by omega, n2, n1⟩, by rw [eg2]; exact v2', by rw [eg2]; exact v1', clash_sym hcl, ?_, fun u3 j3 H10 t10 hj3 jg3 jt3 jd3 _ _ => ?_⟩
      · have := (joinT_perm n1 n2 hcl).length_eq
        omega
      have hj10 := hj9.same t10
      obtain ⟨dx10, hu10⟩ := hj10.at_
      obtain ⟨dx3, hu3⟩ := hj3.at_
      refine ⟨u, dx10, _, u3, dx3, _, rfl, rfl, hu10, hu3, u, u3, j, j3, wd, wd, rfl, hj10, hj3, gdj, by rw [jg3, eg2]; exact gd, okj, ?_, fun b H11 hb t11 => ?_⟩
      · rw [jt3]
        intro t ht
        exact (joinT_mem ht).elim (ok2 t) (ok1 t)
      have hbt : b = true := hb.mpr ⟨by rw [jg, jg3, eg2], by rw [jt, jt3]; exact (joinT_perm n1 n2 hcl).symm⟩
      subst hbt
      refine ⟨true, rfl, false, rfl, iteF ?_⟩
      have t611 : Same H6 H11 := t1.trans (t79.trans (t10.trans t11))
      have S11 := S6.trans t611
      have vJ : ∀ t ∈ joinT r.ts s'.ts, t.v ∈ names r.g := fun t ht => (joinT_mem ht).elim (v1' t) (v2' t)
      have ndJ := join_nodup n1 n2 hcl
      have hk11 : KeptAt H11 du (bs ++ ds) (joinT r.ts s'.ts) := ⟨t611 _ _ hk6.at_, hk6.tels.keep (tk_same t611)⟩
      refine ⟨_, rfl, _, rfl, _, rfl, ?_⟩
      refine ⟨L, du, r.g, wd, bs ++ ds, joinT r.ts s'.ts, rfl, hGr.keep (tk_same S11), gd, hk11, okJ, vJ, ndJ, by omega, fun p4 r4 H12 t12 hG4 rg4 rt4 _ _ _ => ?_⟩
      have hj12 := (hj10.same t11).same t12
      obtain ⟨dx12, hu12⟩ := hj12.at_
      obtain ⟨dx4, hp4⟩ := hG4.at_
      refine ⟨u, dx12, _, p4, dx4, _, rfl, rfl, hu12, hp4, u, p4, j, r4, wd, wd, rfl, hj12, hG4, gdj, by rw [rg4]; exact gd, okj, by rw [rt4]; exact okJ, fun b H13 hb t13 => ?_⟩
      have hbt : b = true := hb.mpr ⟨by rw [jg, rg4], by rw [jt, rt4]⟩
      subst hbt
      refine ⟨true, rfl, false, rfl, iteF ?_⟩
      have hj13 := hj12.same t13
      have t613 := t611.trans (t12.trans t13)
      clear hb hG4 hp4 hu12 hj12 hk11 hj10 hu10 hj3 hu3 hj9 hj8 hj7 hm0 hn0 hLa8 k8 kp7
      have live : ∀ {H' : Hp} {Q : VK} {E : XK}, Same H6 H' → (∀ H'', Same H' H'' → Q (.bl true) H'') → ∀ (hjj : GatAt C D H' u j), spLives C D [.ref u, .ref du] H' Q E := fun {H' Q E} sm h hjj =>
        ⟨u, du, j, wd, bs ++ ds, rfl, hjj, gdj, by rw [jt]; exact ⟨sm _ _ hk6.at_, hk6.tels.keep (tk_same sm)⟩, okj, by rw [jt, jg]; exact vJ, by omega, by rw [jd]; decide, h⟩
      refine ⟨_, rfl, _, rfl, live t613 (fun H14 t14 => ⟨true, rfl, iteF ?_⟩) hj13⟩
      have hj14 := hj13.same t14
      have t614 := t613.trans t14
      have S14 := S6.trans t614
      obtain ⟨dx14, hu14⟩ := hj14.at_
      -- one put, and taken back
      obtain ⟨v0, vr, hv0⟩ : ∃ v0 vr, sortS (names r.g) = v0 :: vr := by
        cases hs : sortS (names r.g) with
        | nil =>
          have := sortS_len (names r.g)
          rw [hs] at this
          exact absurd (List.length_eq_zero_iff.mp this.symm) gd.ne
        | cons a b => exact ⟨a, b, rfl⟩
      have mv0 : v0 ∈ names r.g := mem_sortS.mp (by rw [hv0]; exact List.mem_cons_self)
      obtain ⟨t0, et0⟩ : ∃ t0 : Tel, t0 = ⟨v0, "zz", "z", st, 7, "self", true⟩ := ⟨_, rfl⟩
      have ok0 : OkT t0 := by rw [et0]; exact ⟨gd.wd _ mv0, (show IsWd "zz" from by decide +kernel), (show IsWd "z" from by decide +kernel), wst, (show (7 : Nat) ≤ 120 from by decide), (show IsWd "self" from by decide +kernel)⟩
      have new0 : keyS t0 ∉ j.ts.map keyS := fun h => by
        obtain ⟨t, ht, e⟩ := List.mem_map.mp h
        rw [jt] at ht
        have e2 : t.tl = st := by rw [et0] at e; simp [keyS] at e; exact e.2.1
        exact (joinT_mem ht).elim (fun h => (v1 t h).2 e2) (fun h => (v2 t h).2 e2)
      refine ⟨_, rfl, u, dx14, _, rfl, hu14, gf_no _ _ _, _, rfl, L, r.g, wd, rfl, hGr.keep (tk_same S14), gd.sized, fun nm H15 nnm t15 hnm => ?_⟩
      refine ⟨nm, _, 0, .str v0, rfl, rfl, .inl (.inl hnm), atI_nat (j := 0) (by rw [hv0]; rfl), _, rfl, ?_⟩
      have hj15 := hj14.same t15
      refine ⟨u, j, wd, t0, by rw [et0]; rfl, hj15, gdj, okj, ok0, by rw [jg, et0]; exact mv0, new0, by omega, by rw [jd]; decide, fun qn H16 nqn m16 hG16 => ?_⟩
      obtain ⟨dx16, hu16⟩ := hG16.at_
      refine ⟨_, rfl, u, dx16, _, rfl, hu16, gf_no _ _ _, u, j.add qn t0, rfl, hG16, ?_, .inl ⟨j.as, qn, j.ts, t0, j.ds, rfl, rfl, rfl, fun H17 m17 hG17 => ?_⟩⟩
      · show (j.ts ++ [t0]).length ≤ 200
        rw [List.length_append, List.length_singleton]
        omega
      have hj17 : GatAt C D H17 u j := hG17
      have m617 : Same2 j.td j.dd H6 H17 := (Same2.of (t614.trans t15)).trans (m16.trans m17)
      have S17 : Same H H17 := fun b o e => m617 b o (fun z => by rw [z, f1] at e; cases e) (fun z => by rw [z, f2] at e; cases e) (S6 b o e)
      have k617 : Keep H6 H17 := kp_2 m617 hj.told hj.deeds
      have hk17 : KeptAt H17 du (bs ++ ds) j.ts := by rw [jt]; exact ⟨m617 _ _ dn1 dn2 hk6.at_, hk6.tels.keep k617.tk⟩
      refine ⟨_, rfl, _, rfl, ⟨u, du, j, wd, bs ++ ds, rfl, hj17, gdj, hk17, okj, by rw [jt, jg]; exact vJ, by omega, by rw [jd]; decide, fun H18 t18 => ⟨true, rfl, iteF ?_⟩⟩⟩
      refine ⟨_, rfl, u, j, rfl, hj17.same t18, jd, fun H19 t19 => ⟨true, rfl, iteF ?_⟩⟩
      have t1719 := t18.trans t19
      have m619 : Same2 j.td j.dd H6 H19 := m617.trans (Same2.of t1719)
      exact ⟨⟨_, rfl⟩, S17.trans t1719, m619 _ _ nl1 nl2 hli6, ⟨m619 _ _ dn1 dn2 hk6.at_, hk6.tels.keep (kp_2 m619 hj.told hj.deeds).tk⟩, fun e => absurd e (by omega), fun e => fin _ m619 e⟩
    rintro σ H6 ⟨⟨y7, rfl⟩, S6, hli6, hk6, gA, gB⟩
    have v2J : ∀ t ∈ joinT r.ts s'.ts, t.v ∈ names r.g := fun t ht => (joinT_mem ht).elim (v1' t) (v2' t)
    have okJ : ∀ t ∈ joinT r.ts s'.ts, OkT t := fun t ht => (joinT_mem ht).elim (ok1 t) (ok2 t)
    obtain ⟨v0, vr, hv0⟩ : ∃ v0 vr, sortS (names r.g) = v0 :: vr := by
      cases hs : sortS (names r.g) with
      | nil =>
        have := sortS_len (names r.g)
        rw [hs] at this
        exact absurd (List.length_eq_zero_iff.mp this.symm) gd.ne
      | cons a b => exact ⟨a, b, rfl⟩
    have mv0 : v0 ∈ names r.g := mem_sortS.mp (by rw [hv0]; exact List.mem_cons_self)
    have okw : ∀ z : Str, IsWd z → OkT ⟨v0, "zz", z, st, 7, "self", true⟩ := fun z hz => ⟨gd.wd _ mv0, (show IsWd "zz" from by decide +kernel), hz, wst, (show (7 : Nat) ≤ 120 from by decide), (show IsWd "self" from by decide +kernel)⟩
    have neww : ∀ (z : Str) (ts : List Tel), (∀ t ∈ ts, t.tl ≠ st) → keyS ⟨v0, "zz", z, st, 7, "self", true⟩ ∉ ts.map keyS := fun z ts hts h => by
      obtain ⟨t, ht, e⟩ := List.mem_map.mp h
      simp [keyS] at e
      exact hts t ht e.2.1
    refine ⟨_, rfl, _, rfl, joinedG S6 fun u5 j5 H7 s7 hj5 jg5 jt5 jd5 e5 e6 => ?_⟩
    obtain ⟨dx5, hu5⟩ := hj5.at_
    have S7 := S6.trans s7
    have gd5 : Good j5.g wd := by rw [jg5]; exact gd
    have ok5 : ∀ t ∈ j5.ts, OkT t := by rw [jt5]; exact okJ
    have l5 : j5.ts.length ≤ 32 := by rw [jt5]; exact ljl
    refine ⟨_, rfl, u5, dx5, _, rfl, hu5, gf_no _ _ _, _, rfl, L, r.g, wd, rfl, hGr.keep (tk_same S7), gd.sized, fun nm H8 nnm t8 hnm => ?_⟩
    refine ⟨nm, _, 0, .str v0, rfl, rfl, .inl (.inl hnm), atI_nat (j := 0) (by rw [hv0]; rfl), _, rfl, ?_⟩
    have hj58 := hj5.same t8
    refine ⟨u5, j5, wd, ⟨v0, "zz", "z", st, 7, "self", true⟩, rfl, hj58, gd5, ok5, okw "z" (by decide +kernel), by rw [jg5]; exact mv0, neww _ _ (by rw [jt5]; exact fun t ht => (joinT_mem ht).elim (fun h => (v1 t h).2) (fun h => (v2 t h).2)), by omega, by rw [jd5]; decide, fun qn H9 nqn m9 hG9 => ?_⟩
    have t69 : Same H6 H9 := fun b o e => m9 b o (fun z => by rw [z, e5] at e; cases e) (fun z => by rw [z, e6] at e; cases e) (t8 _ _ (s7 _ _ e))
    have S9 : Same H H9 := S6.trans t69
    obtain ⟨dxp, hpp⟩ := hG1.at_
    obtain ⟨dxq, hqq⟩ := hG2.at_
    have f5 : H j5.td = none ∧ H j5.dd = none := ⟨S6.free e5, S6.free e6⟩
    -- the first and the second are as they were
    refine ⟨_, rfl, p, dxp, _, rfl, S9 _ _ hpp, gf_no _ _ _, p, r, rfl, hG1.same S9, fun la nla => ?_⟩
    have t10 := same_new (o := .lst (r.as.map V.ref)) nla
    have hla : upd H9 la (.lst (r.as.map V.ref)) la = some (.lst (r.as.map V.ref)) := upd_same
    generalize upd H9 la (.lst (r.as.map V.ref)) = H10 at t10 hla ⊢
    have S10 := S9.trans t10
    refine ⟨la, _, rfl, .lst (.inl (.inl hla)) (dp_tels (hG1.same S10).tels), tels_shows ok1 (by omega), _, rfl, k, _, rfl, .lst (.inl (.inl (S10 _ _ hk.at_))) (dp_tels (hk.tels.keep (tk_same S10))), tels_shows ok1 (by omega), rfl, false, congrArg V.bl (by rw [decide_eq_true rfl]; rfl), iteF ?_⟩
    refine ⟨_, rfl, q, dxq, _, rfl, S10 _ _ hqq, gf_no _ _ _, q, s', rfl, hG2.same S10, fun lb nlb => ?_⟩
    have t11 := same_new (o := .lst (s'.as.map V.ref)) nlb
    have hlb : upd H10 lb (.lst (s'.as.map V.ref)) lb = some (.lst (s'.as.map V.ref)) := upd_same
    generalize upd H10 lb (.lst (s'.as.map V.ref)) = H11 at t11 hlb ⊢
    have S11 := S10.trans t11
    refine ⟨lb, _, rfl, .lst (.inl (.inl hlb)) (dp_tels (hG2.same S11).tels), tels_shows ok2 (by omega), _, rfl, o, _, rfl, .lst (.inl (.inl (S11 _ _ ho.at_))) (dp_tels (ho.tels.keep (tk_same S11))), tels_shows ok2 (by omega), rfl, false, congrArg V.bl (by rw [decide_eq_true rfl]; rfl), iteF ?_⟩
    clear hla hlb nla nlb
    -- again
    refine ⟨_, rfl, _, rfl, joinedG S11 fun u6 j6 H12 s12 hj6 jg6 jt6 jd6 e7 e8 => ?_⟩
    have S12 := S11.trans s12
    have t912 := t10.trans (t11.trans s12)
    refine ⟨_, rfl, p, dxp, _, rfl, S12 _ _ hpp, gf_no _ _ _, _, rfl, L, r.g, wd, rfl, hGr.keep (tk_same S12), gd.sized, fun nm2 H13 nnm2 t13 hnm2 => ?_⟩
    refine ⟨nm2, _, 0, .str v0, rfl, rfl, .inl (.inl hnm2), atI_nat (j := 0) (by rw [hv0]; rfl), _, rfl, ?_⟩
    have S13 := S12.trans t13
    refine ⟨p, r, wd, ⟨v0, "zz", "y", st, 7, "self", true⟩, rfl, hG1.same S13, gd, ok1, okw "y" (by decide +kernel), mv0, neww _ _ (fun t h => (v1 t h).2), by omega, by omega, fun qm H14 nqm m14 hG14 => ?_⟩
    have g13 := hG1.same S13
    have k14 : Keep H13 H14 := kp_2 m14 g13.told g13.deeds
    have nn : ∀ {b : Addr}, H b = none → b ≠ r.td ∧ b ≠ r.dd := fun {b} h => ⟨fun e => (by have := hG1.told; rw [← e, h] at this; cases this), fun e => (by have := hG1.deeds; rw [← e, h] at this; cases this)⟩
    have f6 : H j6.td = none ∧ H j6.dd = none := ⟨S11.free e7, S11.free e8⟩
    have hj614 : GatAt C D H14 u6 j6 := (hj6.same t13).keep k14 (m14 _ _ (nn f6.1).1 (nn f6.1).2 (hj6.same t13).told) (m14 _ _ (nn f6.2).1 (nn f6.2).2 (hj6.same t13).deeds)
    have hG9' := (hG9.same t912).same t13
    have hj514 : GatAt C D H14 u5 (j5.add qn ⟨v0, "zz", "z", st, 7, "self", true⟩) := hG9'.keep k14 (m14 _ _ (nn f5.1).1 (nn f5.1).2 hG9'.told) (m14 _ _ (nn f5.2).1 (nn f5.2).2 hG9'.deeds)
    have hk14 : KeptAt H14 du (bs ++ ds) (joinT r.ts s'.ts) := by
      have a13 := (t912.trans t13) _ _ (t69 _ _ hk6.at_)
      exact ⟨m14 _ _ (nn ndu0).1 (nn ndu0).2 a13, (hk6.tels.keep (tk_same (t69.trans (t912.trans t13)))).keep k14.tk⟩
    obtain ⟨dx6, hu6⟩ := hj614.at_
    refine ⟨_, rfl, u6, dx6, _, rfl, hu6, gf_no _ _ _, u6, j6, rfl, hj614, fun l nl => ?_⟩
    have t15 := same_new (o := .lst (j6.as.map V.ref)) nl
    have hl15 : upd H14 l (.lst (j6.as.map V.ref)) l = some (.lst (j6.as.map V.ref)) := upd_same
    generalize upd H14 l (.lst (j6.as.map V.ref)) = H15 at t15 hl15 ⊢
    have d15 : Dp K H15 (.ref l) (.list ((joinT r.ts s'.ts).map telD)) := by
      rw [← jt6]
      exact .lst (.inl (.inl hl15)) (dp_tels (hj614.same t15).tels)
    have lbd : (bs ++ ds).length = j5.ts.length := by rw [jt5]; exact hk6.tels.length
    obtain ⟨dx7, hu7⟩ := (hj514.same t15).at_
    refine ⟨l, _, rfl, d15, tels_shows okJ (by omega), _, rfl, du, _, rfl, .lst (.inl (.inl (t15 _ _ hk14.at_))) (dp_tels (hk14.tels.keep (tk_same t15))), tels_shows okJ (by omega), rfl, true, congrArg V.bl (decide_eq_true rfl), iteT ?_⟩
    refine ⟨_, rfl, u5, dx7, _, rfl, hu7, u5, _, rfl, hj514.same t15, _, rfl, ?_, ?_⟩
    · show (j5.ts ++ [_]).length < 2 ^ 62
      rw [List.length_append, List.length_singleton]
      have : (2 : Nat) ^ 62 = 4611686018427387904 := rfl
      omega
    refine ⟨_, rfl, du, _, rfl, .inl (.inl (.inl (t15 _ _ hk14.at_))), _, _, rfl, rfl, rfl, ?_⟩
    rw [decide_eq_true (by
      show V.int (((j5.ts ++ [_]).length : Nat) : Int) = V.int ((((bs ++ ds).map V.ref).length : Nat) + 1 : Int)
      rw [List.length_map, lbd, List.length_append, List.length_singleton]
      rfl)]
    have hG15 := hG14.same t15
    obtain ⟨dx15, hp15⟩ := hG15.at_
    refine ⟨_, rfl, p, dx15, _, rfl, hp15, gf_no _ _ _, p, _, rfl, hG15, ?_, .inl ⟨r.as, qm, r.ts, _, r.ds, rfl, rfl, rfl, fun H16 m16 hG16 => ?_⟩⟩
    · show (r.ts ++ [_]).length ≤ 200
      rw [List.length_append, List.length_singleton]
      omega
    exact ⟨_, rfl, qq H16 ((Same2.of S13).trans (m14.trans ((Same2.of t15).trans m16))) hG16⟩

end
end Wl

/-! what is promised of three joined. -/
namespace Wl
open PySem PySem.Spec PyProof.Rows L2
abbrev sThree : Stmt := topS 67
abbrev psThree : List Str := ["_law_first", "_law_second_here", "_law_third"]
def spThree (C D : Addr) : Sp := fun vs H Q _ => ∃ (p q o : Addr) (r s t : GR) (wd : Nat), vs = [.ref p, .ref q, .ref o] ∧ GatAt C D H p r ∧ GatAt C D H q s ∧ GatAt C D H o t ∧ Good r.g wd ∧ s.g = r.g ∧ t.g = r.g ∧ (∀ u ∈ r.ts, OkT u) ∧ (∀ u ∈ s.ts, OkT u) ∧ (∀ u ∈ t.ts, OkT u) ∧ (∀ u ∈ r.ts, u.v ∈ names r.g) ∧ (∀ u ∈ s.ts, u.v ∈ names r.g) ∧ (∀ u ∈ t.ts, u.v ∈ names r.g) ∧
  (r.ts.map keyS).Nodup ∧ (s.ts.map keyS).Nodup ∧ (t.ts.map keyS).Nodup ∧ r.ts.length ≤ 30 ∧ s.ts.length ≤ 30 ∧ t.ts.length ≤ 30 ∧ ∀ H', Same H H' → Q (.bl true) H'
end Wl

/-! KEYs that clash: from either side, and shown. -/
namespace Wl
open PySem PySem.Spec PyProof.Rows L2
theorem kyOf_nodup {ts : List Tel} (h : (ts.map keyS).Nodup) : (ts.map kyOf).Nodup := by
  have := List.pairwise_map.mp h
  exact List.pairwise_map.mpr (this.imp fun n e => n ((ky_keyS _ _).mp e))
theorem mem_clash {ts us : List Tel} {k : Ky} : k ∈ (clashT ts us).map kyOf ↔ ∃ t ∈ ts, ∃ u ∈ us, kyOf t = k ∧ kyOf u = k ∧ t ≠ u := by
  rw [List.mem_map]
  unfold clashT
  constructor
  · rintro ⟨u, hu, rfl⟩
    obtain ⟨hu, h⟩ := List.mem_filter.mp hu
    obtain ⟨t, ht, e⟩ := List.any_eq_true.mp h
    rw [Bool.and_eq_true, decide_eq_true_eq, decide_eq_true_eq] at e
    exact ⟨t, ht, u, hu, e.1, rfl, e.2⟩
  · rintro ⟨t, ht, u, hu, e1, e2, ne⟩
    refine ⟨u, List.mem_filter.mpr ⟨hu, List.any_eq_true.mpr ⟨t, ht, ?_⟩⟩, e2⟩
    rw [Bool.and_eq_true, decide_eq_true_eq, decide_eq_true_eq]
    exact ⟨e1.trans e2.symm, ne⟩
theorem clashK_sym {ts us : List Tel} (n1 : (ts.map keyS).Nodup) (n2 : (us.map keyS).Nodup) : clashK us ts = clashK ts us := by
  unfold clashK
  refine (sortE_perm ky_inj).mpr ((List.perm_ext_iff_of_nodup ?_ ?_).mpr fun k => ?_)
  · exact (kyOf_nodup n1).sublist (List.filter_sublist.map kyOf)
  · exact (kyOf_nodup n2).sublist (List.filter_sublist.map kyOf)
  · rw [mem_clash, mem_clash]
    exact ⟨fun ⟨u, hu, t, ht, a, b, c⟩ => ⟨t, ht, u, hu, b, a, fun e => c e.symm⟩, fun ⟨t, ht, u, hu, a, b, c⟩ => ⟨u, hu, t, ht, b, a, fun e => c e.symm⟩⟩
theorem clash_self {ts : List Tel} (n : (ts.map keyS).Nodup) : clashT ts ts = [] := by
  unfold clashT
  rw [List.filter_eq_nil_iff]
  intro u hu e
  obtain ⟨t, ht, e⟩ := List.any_eq_true.mp e
  rw [Bool.and_eq_true, decide_eq_true_eq, decide_eq_true_eq] at e
  obtain ⟨i, hi⟩ := List.mem_iff_getElem?.mp ht
  obtain ⟨j, hj⟩ := List.mem_iff_getElem?.mp hu
  have := key_at n hi hj e.1
  subst this
  rw [hi] at hj
  exact e.2 (Option.some.inj hj)
theorem clashK_nil {ts us : List Tel} : clashK ts us = [] ↔ clashT ts us = [] := by
  unfold clashK
  constructor
  · intro h
    have := (sortE_ind (enc := kyD) ((clashT ts us).map kyOf)).length_eq
    rw [h, List.length_map] at this
    exact List.length_eq_zero_iff.mp this.symm
  · intro h
    have := (sortE_ind (enc := kyD) ((clashT ts us).map kyOf)).length_eq
    rw [h] at this ⊢
    exact List.length_eq_zero_iff.mp this
theorem clashK_ok {ts us : List Tel} (h : ∀ t ∈ us, OkT t) : ∀ k ∈ clashK ts us, OkKy k := fun k hk => by
  unfold clashK at hk
  obtain ⟨u, hu, rfl⟩ := List.mem_map.mp ((sortE_ind (enc := kyD) _).mem_iff.mp hk)
  exact okky (h u (List.mem_filter.mp hu).1)
theorem clashK_len (ts us : List Tel) : (clashK ts us).length ≤ us.length := by
  unfold clashK
  rw [(sortE_ind (enc := kyD) _).length_eq, List.length_map]
  exact List.length_filter_le _ _
theorem ky_shows {k : Ky} (h : OkKy k) : (kyD k).weight ≤ 36 ∧ (kyD k).showable = true ∧ (kyD k).intsShort 13 = true := by
  have len8 : ∀ {z : Str}, IsWd z → z.cps.size ≤ 8 := fun h => h.len.2
  have w1 := len8 h.1
  have w2 := len8 h.2.1
  have w3 := len8 h.2.2.1
  have w4 := len8 h.2.2.2
  refine ⟨?_, ?_, ?_⟩
  · show PyData.weightAll [.str k.1, .str k.2.1, .str k.2.2.1, .str k.2.2.2] ≤ 32 + 4
    simp only [PyData.weightAll]
    have e : ∀ z : Str, PyData.weight (.str z) = z.cps.size := fun z => by simp only [PyData.weight]
    rw [e, e, e, e]
    omega
  · show PyData.showableAll [.str k.1, .str k.2.1, .str k.2.2.1, .str k.2.2.2] = true
    simp [PyData.showableAll, PyData.showable]
  · show PyData.intsShortAll 13 [.str k.1, .str k.2.1, .str k.2.2.1, .str k.2.2.2] = true
    simp [PyData.intsShortAll, PyData.intsShort]
theorem kys_shows {ks : List Ky} (h : ∀ k ∈ ks, OkKy k) (hl : ks.length ≤ 200) : Shows (.tuple (ks.map kyD)) := by
  have key : ∀ {ks : List Ky}, (∀ k ∈ ks, OkKy k) → PyData.weightAll (ks.map kyD) ≤ 61 * ks.length ∧ PyData.showableAll (ks.map kyD) = true ∧ PyData.intsShortAll 13 (ks.map kyD) = true := by
    intro ks
    induction ks with
    | nil => exact fun _ => ⟨by simp [PyData.weightAll], by simp [PyData.showableAll], by simp [PyData.intsShortAll]⟩
    | cons t ts ih =>
      intro h
      obtain ⟨i1, i2, i3⟩ := ih fun u hu => h u (List.mem_cons_of_mem _ hu)
      obtain ⟨t1, t2, t3⟩ := ky_shows (h t List.mem_cons_self)
      refine ⟨?_, ?_, ?_⟩
      · simp only [List.map_cons, PyData.weightAll, List.length_cons]
        omega
      · rw [List.map_cons, PyData.showableAll, t2, i2]
        rfl
      · rw [List.map_cons, PyData.intsShortAll, t3, i3]
        rfl
  obtain ⟨k1, k2, k3⟩ := key h
  refine ⟨by simpa [PyData.canLay0] using lay_kys h, ?_, ?_, by simpa [PyData.showable] using k2, by simpa [PyData.intsShort] using k3⟩
  · have := depth_kys ks
    simp only [PyData.depth]
    omega
  · simp only [PyData.weight]
    omega
end Wl

/-! data stands where the heap only grows. -/
namespace Wl
open PySem PySem.Spec PyProof.Rows L2
theorem SqT_same {K : PySem.W.Frag} {H H' : Hp} {a : Addr} {xs : List V} (s : Same H H') (h : SqT K H a xs) : SqT K H' a xs := by
  rcases h with h | h
  · left
    rcases h with h | h
    · exact .inl (s _ _ h)
    · obtain ⟨o, h⟩ := h
      exact .inr ⟨o, s _ _ h⟩
  · exact .inr h
mutual
theorem Dp_same {K : PySem.W.Frag} {H H' : Hp} (s : Same H H') : ∀ {v : V} {d : PyData}, Dp K H v d → Dp K H' v d
  | _, _, .non => .non
  | _, _, .bl b => .bl b
  | _, _, .int i => .int i
  | _, _, .str x => .str x
  | _, _, .lst h a => .lst (s.seq h) (DpAll_same s a)
  | _, _, .tup h a => .tup (SqT_same s h) (DpAll_same s a)
theorem DpAll_same {K : PySem.W.Frag} {H H' : Hp} (s : Same H H') : ∀ {vs : List V} {ds : List PyData}, DpAll K H vs ds → DpAll K H' vs ds
  | _, _, .nil => .nil
  | _, _, .cons a r => .cons (Dp_same s a) (DpAll_same s r)
end
end Wl

/-! st_join where what goes on stands in the ends. -/
namespace Wl
open PySem PySem.Spec PyProof.Rows L2
theorem st_joinN {A B : TS} {D : Ends} {σ : L2.St} {H : Hp} {rt : VK} {bk ct : L2.St → Hp → Prop} (J : L2.St → Hp → Prop) (h2 : ∀ σ' H', J σ' H' → B D σ' H') (h1 : ∀ D' : Ends, (∀ σ' H', J σ' H' → D'.nx σ' H') → D'.rt = D.rt → A D' σ H) : tNext { nx := tSeq A B D, rt := rt, bk := bk, ct := ct } σ H := h1 _ (fun σ' H' j => h2 σ' H' j) rfl
end Wl

/-! the law. -/
namespace Wl
open PySem PySem.Spec PyProof.Rows L2
abbrev sLaw : Stmt := topS 68
def HasCG (P : Program) (w : World) (K : PySem.W.Frag) (mg : Str → Option Value) (base : Heap) (C D : Addr) : Prop := ∃ f fd, FnOk P w K mg base CX0 4 f fd ["one", "other"] (spClashG C D) ∧ mg "clashes" = some (.ref f) ∧ Fun K "clashes" "clashes" sClash f fd ∧ Binds K fd ["one", "other"] []
section
variable {P : Program} {w : World} {K : PySem.W.Frag} {mg : Str → Option Value} {base : Heap} {f C D : Addr} {fd : FuncData}
abbrev nLaw : List Str := ["_law_script", "_law_k", "_law_purse_here", "_law_often", "_law_count", "_law_lots", "_law_pools_here", "_law_stranger", "_law_kept_here", "_law_others", "_law_first", "_law_second_here", "_law_due", "_law_told", "_law_third", "_law_sign", "_law_keys"]
theorem scLaw : FnScope nLaw ["_law_script"] (defScope sLaw) := ⟨rfl, rfl, rfl, by decide +kernel, rfl, by decide +kernel, by decide +kernel⟩
def spLaw (K : PySem.W.Frag) : Sp := fun vs H Q _ => ∃ (a : Addr) (ns : List Int), vs = [.ref a] ∧ SqL K H a (ns.map V.int) ∧ ns.length ≤ 63 ∧ ∀ H', Q (.bl true) H'
theorem ok_law (F : Fun K "law" "law" sLaw f fd) (B : Bi mg) (hrep : mg "repr" = none) (TG : TxtG K mg D) (hCell : Has P w K mg base "_law_cell" 1 ["_law_script", "_law_k"] (spCell K)) (hPurse : Has P w K mg base "_law_purse" 1 ["_law_cell_here"] spPurse) (hPick : Has P w K mg base "_law_pick" 1 ["_law_purse_here", "_law_count"] spPick) (hLand : Has P w K mg base "_law_land" 4 ["_law_purse_here", "_law_topmost"] spLand)
    (hPools : Has P w K mg base "_law_pools" 4 ["_law_purse_here", "_law_lots"] spPools) (hKept : Has P w K mg base "_law_kept" 3 psKept spKept) (hSec : Has P w K mg base "_law_second" 4 psSecond spSecond) (hFi : Has P w K mg base "_law_filled" 6 psLFilled (spFilled C D)) (hClk : Has P w K mg base "_law_clashing" 2 psClashing spClashing) (hC : HasCG P w K mg base C D)
    (hJn : HasQ P w K mg base "_law_joined_right" 7 psJoined (spJoined C D)) (hTh : Has P w K mg base "_law_three_right" 7 psThree (spThree C D)) : FnOkG P w K mg base 8 f fd ["_law_script"] (spLaw K) := by
  obtain ⟨fC, fdC, FC, mC, NC, bC⟩ := hC
  have kC := cl_k NC
  refine okG F scLaw (fun vs H Q E h => ?_) (fun cdv A outer s H vs Q E hgd hr h => ?_)
  · obtain ⟨a, ns, rfl, _⟩ := h
    rfl
  · obtain ⟨sa, ns, rfl, hSc, hlen, q⟩ := h
    have hgd' : (A.deeper (envOfC "law" (defScope sLaw) s.heap.objs.size f cdv)).guards = some [] := hgd
    refine ⟨_, pss_cons (ps_for PassesOwn.never rfl (pi_range1 rfl B.range (pa_cons (pe_callB (call_max2 rfl) (by rfl) B.max (by decide +kernel) (pa_cons pe_int (pa_cons (pe_callB (call_min2 rfl) (by rfl) B.min (by decide +kernel) (pa_cons (pe_callB call_len_seq (by rfl) B.len PySem.boot_len (pa_cons (pv 0) pa_nil)) (pa_cons pe_int pa_nil))) pa_nil))) pa_nil)) (pg_name (i := 1) scLaw.nd rfl (.inl rfl))
        (pss_cons (ps_set (i := 2) scLaw.nd rfl (.inl rfl) (pe_h hPurse hr (pa_cons (pe_h hCell hr (pa_cons (pv 0) (pa_cons (pv 1) pa_nil))) pa_nil))) (pss_cons (ps_par3 (i := 3) (j := 4) (l := 5) (by rfl) scLaw.nd rfl rfl rfl (by decide) (by decide) (by decide) rfl rfl rfl (pa_cons (pe_cmpR op_eq (pe_h hPick hr (pa_cons (pv 2) (pa_cons (pe_int) pa_nil))) pe_int (nomark _)) (pa_cons (pe_h hPick hr (pa_cons (pv 2) (pa_cons (pe_int) pa_nil))) (pa_cons (pe_h hLand hr (pa_cons (pv 2) (pa_cons (pe_int) pa_nil))) pa_nil))) (by rfl)) (pss_cons (ps_set (i := 6) scLaw.nd rfl (.inr rfl) (pe_h hPools hr (pa_cons (pv 2) (pa_cons (pv 5) pa_nil)))) (pss_cons (ps_set (i := 7) scLaw.nd rfl (.inl rfl) (pe_ix ix_list (pe_lc (own := [("_law_sign", 15)]) (g := gName 15) (tt := tTest (tOp (rIn K true) (tVar 15) (tOp (rIxL K) (tVar 6) (tC (.int 3))))) rfl scLaw.nd (pi_str pe_str) (blkOk_by (N := nLaw) (sc := defScope sLaw) (by decide +kernel)) (fun _ _ _ _ _ => pg_name (i := 15) scLaw.nd rfl (.inl rfl)) (fun _ _ _ _ _ => pts_one (pt_cmpR op_notIn_seq (pv 15) (pe_ix ix_list (pv 6) pe_int (fun _ _ => rfl)) (by rfl))) (fun _ _ _ _ _ => pv 15)) pe_int (fun _ _ => rfl))) (pss_cons (ps_set (i := 8) scLaw.nd rfl (.inl rfl) (pe_h hKept hr (pa_cons (pv 2) (pa_cons (pv 6) (pa_cons (pv 4) pa_nil))))) (pss_cons (ps_set (i := 9) scLaw.nd rfl (.inl rfl) (pe_h hSec hr (pa_cons (pv 2) (pa_cons (pv 6) (pa_cons (pv 8) (pa_cons (pv 3) pa_nil)))))) (pss_cons (ps_par (i := 10) (j := 11) (by rfl) scLaw.nd rfl rfl (by decide) rfl rfl (pa_cons (pe_h hFi hr (pa_cons (pv 5) (pa_cons (pv 8) pa_nil))) (pa_cons (pe_h hFi hr (pa_cons (pv 5) (pa_cons (pv 9) pa_nil))) pa_nil)) (by rfl)) (pss_cons (ps_set (i := 12) scLaw.nd rfl (.inr rfl) (pe_h hClk hr (pa_cons (pv 8) (pa_cons (pv 9) pa_nil)))) (pss_cons (ps_set (i := 13) scLaw.nd rfl (.inl rfl) (pe_lst (pa_cons (pe_call FC (hr.mono (by decide)) rfl mC NC.kp bC .nil pass0 (pa_cons (pv 10) (pa_cons (pv 11) pa_nil))) (pa_cons (pe_call FC (hr.mono (by decide)) rfl mC NC.kp bC .nil pass0 (pa_cons (pv 11) (pa_cons (pv 10) pa_nil))) (pa_cons (pe_callN0 FC (hr.mono (by decide)) rfl mC NC.kp kC pass0 (pk_cons (pv 11) (pk_cons (pv 10) pk_nil))) pa_nil))))) (pss_cons (ps_if (PW.pt (pw_or (pt_not (pt_val (pe_callB (cr_all rfl) (by rfl) B.all (by decide +kernel) (pa_cons (pe_lc (own := [("_law_keys", 16)]) (g := gName 16) (tt := tYes) (te := tOp rEq (tCB (rReprD K) (tCons (tVar 16) tNil)) (tCB (rReprD K) (tCons (tVar 12) tNil))) rfl scLaw.nd (pi_list (pv 13)) (blkOk_by (N := nLaw) (sc := defScope sLaw) (by decide +kernel)) (fun _ _ _ _ _ => pg_name (i := 16) scLaw.nd rfl (.inl rfl)) (fun _ _ _ _ _ => pts_nil) (fun _ _ _ _ _ => pe_cmpR op_eq (pe_callB (cr_reprD hgd' hr.units) (by rfl) hrep (by decide +kernel) (pa_cons (pv 16) pa_nil)) (pe_callB (cr_reprD hgd' hr.units) (by rfl) hrep (by decide +kernel) (pa_cons (pv 12) pa_nil)) (nomark _))) pa_nil)))) (pw_or1 (pt_cmpR (op_neD hr.units) (pe_call FC (hr.mono (by decide)) rfl mC NC.kp bC .nil pass0 (pa_cons (pv 10) (pa_cons (pv 10) pa_nil))) (pe_tup pa_nil) (nomark _))))) (pss_one (ps_ret pe_bl)) pss_nil) (pss_cons (ps_if (pt_cmpR (op_eqD hr.units) (pv 12) (pe_tup pa_nil) (nomark _)) (pss_one (ps_if (pt_not (pt_val (pe_hQ hJn hgd' hr (pa_cons (pv 5) (pa_cons (pv 7) (pa_cons (pv 10) (pa_cons (pv 11) (pa_cons (pv 8) (pa_cons (pv 9) pa_nil))))))))) (pss_one (ps_ret pe_bl)) pss_nil)) pss_nil) (pss_cons (ps_if (pt_not (pt_val (pe_hQ hJn hgd' hr (pa_cons (pv 5) (pa_cons (pv 7) (pa_cons (pv 10) (pa_cons (pe_h hFi hr (pa_cons (pv 5) (pa_cons (pv 8) pa_nil))) (pa_cons (pv 8) (pa_cons (pv 8) pa_nil))))))))) (pss_one (ps_ret pe_bl)) pss_nil) (pss_cons (ps_set (i := 14) scLaw.nd rfl (.inl rfl) (pe_h hFi hr (pa_cons (pv 5) (pa_cons (pe_h hSec hr (pa_cons (pv 2) (pa_cons (pv 6) (pa_cons (pv 9) (pa_cons (pv 3) pa_nil))))) pa_nil)))) (pss_one (ps_if (pt_not (pt_val (pe_h hTh hr (pa_cons (pv 10) (pa_cons (pv 11) (pa_cons (pv 14) pa_nil)))))) (pss_one (ps_ret pe_bl)) pss_nil))))))))))))))))
      (pss_one (ps_ret pe_bl)), ?_⟩
    have hln : ((ns.map V.int).length : Int) = ns.length := by rw [List.length_map]
    have mx : ∀ n : Int, 0 ≤ n → n ≤ 63 → (if (if (4 : Int) < n then (4 : Int) else n) > 2 then (if (4 : Int) < n then (4 : Int) else n) else 2) ≤ 4 ∧ 2 ≤ (if (if (4 : Int) < n then (4 : Int) else n) > 2 then (if (4 : Int) < n then (4 : Int) else n) else 2) := fun n h1 h2 => by
      split <;> split <;> omega
    obtain ⟨mx1, mx0⟩ := mx (ns.length : Int) (by omega) (by omega)
    refine ⟨_, rfl, sa, _, rfl, .inl hSc, _, _, rfl, _, _, rfl, _, rfl, ?_, ?_, ?_⟩
    · rw [hln]; omega
    · rw [hln]; omega
    rw [hln]
    generalize (if (if (4 : Int) < (ns.length : Int) then (4 : Int) else (ns.length : Int)) > 2 then (if (4 : Int) < (ns.length : Int) then (4 : Int) else (ns.length : Int)) else 2) = mm at mx1 mx0
    refine for_range (lo := 0) (n := _) (fun i σ H' => (∃ y1 y2 y3 y4 y5 y6 y7 y8 y9 z1 z2 z3 z4 z5, σ = [some (.ref sa), y1, y2, y3, y4, y5, y6, y7, y8, y9, z1, z2, z3, z4, z5, none, none]) ∧ SqL K H' sa (ns.map V.int))
      ⟨⟨_, _, _, _, _, _, _, _, _, _, _, _, _, _, rfl⟩, hSc⟩ ?_ ?_
    case refine_2 =>
      rintro σ H' ⟨⟨y1, y2, y3, y4, y5, y6, y7, y8, y9, z1, z2, z3, z4, z5, rfl⟩, _⟩
      exact q H'
    rintro i σ H1 hi ⟨⟨y1, y2, y3, y4, y5, y6, y7, y8, y9, z1, z2, z3, z4, z5, rfl⟩, hSc1⟩
    refine ⟨_, rfl, _, rfl, sa, ns, 0 + i, rfl, hSc1, by omega, by omega, fun v H2 s2 => ⟨v, rfl, fun a H3 na s3 hA3 => ?_⟩⟩
    have na1 : H1 a = none := s2.free na
    have S3 : Same H1 H3 := s2.trans s3
    refine ⟨_, rfl, a, 2, rfl, hA3, by decide, by decide, fun wo H4 w0 w2 hA4 x4 _ => ⟨rfl, ?_⟩⟩
    obtain ⟨often, eo⟩ : ∃ b : Bool, b = decide (V.int wo = V.int 1) := ⟨_, rfl⟩
    rw [← eo]
    refine ⟨_, rfl, a, 11, rfl, hA4, by decide, by decide, fun cnt H5 c0 c11 hA5 x5 _ => ?_⟩
    refine ⟨_, rfl, a, 3, rfl, hA5, by decide, by decide, fun L g wd H6 gd g3 w3 hL6 hA6 x6 => ⟨_, _, _, rfl, ?_⟩⟩
    obtain ⟨nc, rfl⟩ : ∃ nc : Nat, cnt = (nc : Int) := ⟨cnt.toNat, by omega⟩
    have X6 : SameX a H1 H6 := (sx S3).trans (x4.trans (x5.trans x6))
    refine ⟨_, rfl, _, rfl, a, L, g, wd, rfl, hA6, hL6, gd, fun Fp as p1 p2' p3 p4 H7 nFp nas hPo7 hokW hp4 hp3 hA7 x7 => ?_⟩
    obtain ⟨ya6, hya6⟩ := hA6.lst
    have hL7 := hL6.keep (tk_x x7 hya6)
    have nF : Fp ≠ a := hA6.ne nFp
    have nq : ∀ q ∈ as, q ≠ a := fun q hq => hA6.ne (nas q hq)
    have X7 : SameX a H1 H7 := X6.trans x7
    -- a stranger
    obtain ⟨pp3, hpp3, hp3'⟩ := Each.get2 hPo7.2 (i := 3) rfl
    have np3 := nq pp3 (List.mem_of_getElem? hpp3)
    refine ⟨_, rfl, fun De hDe => lc_map walk_signs hDe (fun v => !inV v (p3.map V.str)) id (fun _ _ => trivial) (fun _ => rfl) ?_ ?_ lz ?_⟩
    · intro x H' hx s' Q' q'
      obtain ⟨c, _, rfl⟩ := List.mem_map.mp hx
      exact ⟨_, rfl, _, rfl, Fp, _, 3, .ref pp3, rfl, rfl, .inl (.inl (s' _ _ hPo7.1)), atI_nat (j := 3) (by rw [List.getElem?_map, hpp3]; rfl), pp3, _, rfl, .inl (.inl (.inl (s' _ _ hp3'))), rfl, flat_strs _, _, rfl, q'⟩
    · intro x H' hx _ _ Q' q'
      exact ⟨_, rfl, q'⟩
    intro H8 s8 hD8
    obtain ⟨st, srest, est, wst, nst⟩ := stranger hp3
    rw [List.map_id, est] at hD8
    refine ⟨De, _, 0, .str st, rfl, rfl, .inl (.inl hD8), atI_nat (j := 0) rfl, ?_⟩
    have hA8 := hA7.same s8
    have hPo8 := hPo7.x (sx s8) nF nq
    have X8 : SameX a H1 H8 := X7.trans (sx s8)
    have hL8 := hL7.keep (tk_same s8)
    clear hD8 hDe est srest hp3' hpp3 x4 x5 x6 x7 s8 X7 X6 hA3 hA4 hA5
    -- the rows
    refine ⟨_, rfl, _, rfl, _, rfl, a, Fp, nc, as, _, p1, p2', p3, p4, rfl, by omega, hA8, hPo8, nF, nq, hokW, fun k bs ts H9 nk hA9 x9 hk9 hT9 ok1 v1 n1 l1 => ?_⟩
    have nka : k ≠ a := hA8.ne nk
    obtain ⟨ya8, hya8⟩ := hA8.lst
    have hPo9 := hPo8.x x9 nF nq
    have hL9 := hL8.keep (tk_x x9 hya8)
    have X9 := X8.trans x9
    refine ⟨_, rfl, _, rfl, _, rfl, _, rfl, a, Fp, k, often, as, _, p1, p2', p3, p4, bs, ts, rfl, hA9, hPo9, nF, nq, hokW, ⟨hk9, hT9⟩, nka, ok1, v1, n1, by omega, fun o cs us H10 no hA10 x10 hk10 ok2 v2 n2 l2 => ?_⟩
    obtain ⟨ya9, hya9⟩ := hA9.lst
    have hL10 := hL9.keep (tk_x x10 hya9)
    have hPo10 := hPo9.x x10 nF nq
    have hkk10 : KeptAt H10 k bs ts := ⟨x10 _ _ nka hk9, hT9.keep (tk_x x10 hya9)⟩
    have noa : o ≠ a := hA9.ne no
    have X10 := X9.trans x10
    have w1 : ∀ t ∈ ts, t.v ∈ names g := fun t ht => mem_sortS.mp (v1 t ht).1
    have w2 : ∀ t ∈ us, t.v ∈ names g := fun t ht => mem_sortS.mp (v2 t ht).1
    -- two Gatherings
    refine ⟨_, rfl, _, rfl, L, k, g, wd, bs, ts, rfl, hL10, gd, hkk10, ok1, w1, n1, by omega, fun p r H11 s11 hG11 rg rt f1 f2 fd1 => ?_⟩
    have hk11 : KeptAt H11 o cs us := ⟨s11 _ _ hk10.at_, hk10.tels.keep (tk_same s11)⟩
    refine ⟨_, rfl, _, rfl, L, o, g, wd, cs, us, rfl, hL10.keep (tk_same s11), gd, hk11, ok2, w2, n2, by omega, fun q' s' H12 s12 hG12 sg st' f3 f4 fd2 => ⟨_, _, rfl, ?_⟩⟩
    have hk12 := (⟨s12 _ _ hk11.at_, hk11.tels.keep (tk_same s12)⟩ : KeptAt H12 o cs us)
    have s1012 := s11.trans s12
    have hkk12 : KeptAt H12 k bs ts := ⟨s1012 _ _ hkk10.at_, hkk10.tels.keep (tk_same s1012)⟩
    have hG12' := hG11.same s12
    refine ⟨_, rfl, _, rfl, k, o, bs, cs, ts, us, rfl, hkk12.at_, hkk12.tels, hk12.at_, hk12.tels, ok1, ok2, n1, by omega, by omega, fun ud ks H13 s13 hud hks => ?_⟩
    have two : TwoAt C D H12 p q' r s' wd := ⟨hG12', hG12, by rw [rg]; exact gd, by rw [rg, sg], by rw [rt]; exact ok1, by rw [st']; exact ok2, by rw [rt]; omega, by rw [st']; omega, by rw [rt]; exact n1, by rw [st']; exact n2⟩
    have two' : TwoAt C D H12 q' p s' r wd := ⟨hG12, hG12', by rw [sg]; exact gd, by rw [rg, sg], two.ok2, two.ok1, two.l2, two.l1, two.n2, two.n1⟩
    refine ⟨_, rfl, _, rfl, ?_⟩
    unfold tNil
    refine ⟨p, q', r, s', wd, rfl, two.same s13, fun u1 ks1 H14 s14 h1 hks1 => ?_⟩
    refine ⟨_, rfl, _, rfl, ?_⟩
    refine ⟨q', p, s', r, wd, rfl, two'.same (s13.trans s14), fun u2 ks2 H15 s15 h2 hks2 => ?_⟩
    refine ⟨_, rfl, _, rfl, rfl, rfl, ?_⟩
    refine ⟨p, q', r, s', wd, rfl, two.same (s13.trans (s14.trans s15)), fun u3 ks3 H16 s16 h3 hks3 => ?_⟩
    refine ⟨lz, fun lt nlt => ?_⟩
    have s17 := same_new (o := .lst [V.ref u1, V.ref u2, V.ref u3]) nlt
    have hlt : upd H16 lt (.lst [V.ref u1, V.ref u2, V.ref u3]) lt = some (.lst [V.ref u1, V.ref u2, V.ref u3]) := upd_same
    generalize upd H16 lt (.lst [V.ref u1, V.ref u2, V.ref u3]) = H17 at s17 hlt
    rw [rt, st'] at hks1 hks2 hks3
    rw [clashK_sym n1 n2] at hks2
    have d0 : Dp K H17 (.ref ud) (.tuple ((clashK ts us).map kyD)) := by
      have s := s14.trans (s15.trans (s16.trans s17))
      exact .tup (.inl (.inl (s _ _ hud))) (dp_kys (hks.same s))
    have dd : ∀ z ∈ [V.ref u1, V.ref u2, V.ref u3], ∃ b, z = V.ref b ∧ Dp K H17 (.ref b) (.tuple ((clashK ts us).map kyD)) := fun z hz => by
      simp only [List.mem_cons, List.not_mem_nil, or_false] at hz
      rcases hz with rfl | rfl | rfl
      · have s := s15.trans (s16.trans s17)
        exact ⟨u1, rfl, .tup (.inl (.inl (s _ _ h1))) (dp_kys (hks1.same s))⟩
      · have s := s16.trans s17
        exact ⟨u2, rfl, .tup (.inl (.inl (s _ _ h2))) (dp_kys (hks2.same s))⟩
      · exact ⟨u3, rfl, .tup (.inl (.inl (s17 _ _ h3))) (dp_kys (hks3.same s17))⟩
    have shD : Shows (.tuple ((clashK ts us).map kyD)) := kys_shows (clashK_ok ok2) (by have := clashK_len ts us; omega)
    -- all told alike
    refine ⟨_, rfl, lt, rfl, ⟨_, .inl (.inl hlt)⟩, fun De nDe => ?_⟩
    refine lc_map (walk_list (K := K) (a := lt) (xs := [V.ref u1, V.ref u2, V.ref u3])) nDe (fun _ => true) (fun _ => .bl true) (fun H' s' => .inl (.inl (s' _ _ hlt))) (fun _ => rfl) (fun x H' _ _ Q' q' => q') ?_ lz ?_
    · intro z H' hz _ t' Q' q'
      obtain ⟨b, rfl, db⟩ := dd z hz
      refine ⟨_, rfl, b, _, rfl, Dp_same t' db, shD, _, rfl, ud, _, rfl, Dp_same t' d0, shD, rfl, ?_⟩
      rw [decide_eq_true rfl]
      exact q'
    intro H18 s18 hD18
    refine ⟨De, [true, true, true], rfl, .inl (.inl hD18), true, rfl, iteF ?_⟩
    have s1218 := s13.trans (s14.trans (s15.trans (s16.trans (s17.trans s18))))
    have two18 := two.same s1218
    refine ⟨_, rfl, _, rfl, p, p, r, r, wd, rfl, ⟨two18.g1, two18.g1, two.gd, rfl, two.ok1, two.ok1, two.l1, two.l1, two.n1, two.n1⟩, fun u4 ks4 H19 s19 h4 hks4 => ?_⟩
    rw [show clashK r.ts r.ts = [] from clashK_nil.mpr (clash_self two.n1)] at hks4
    obtain rfl : ks4 = [] := List.length_eq_zero_iff.mp hks4.length
    refine ⟨lz, fun e0 ne0 => ⟨.tuple [], .tuple [], .tup (.inl (.inl ((same_new ne0) _ _ h4))) .nil, .tup (.inl (.inl upd_same)) .nil, by decide +kernel, by decide +kernel, false, congrArg V.bl (by decide +kernel), iteF ?_⟩⟩
    have s20 := same_new (o := .tup []) ne0
    generalize upd H19 e0 (.tup []) = H20 at s20
    have s1220 := s1218.trans (s19.trans s20)
    have hgR : GatAt C D H20 p r := two.g1.same s1220
    have hgS : GatAt C D H20 q' s' := two.g2.same s1220
    have d20 : Dp K H20 (.ref ud) (.tuple ((clashK ts us).map kyD)) := Dp_same (s18.trans (s19.trans s20)) d0
    have s1020 := s1012.trans s1220
    have M20 : Same2 r.td r.dd H10 H20 := Same2.of s1020
    obtain ⟨b0, b1, b2, hb, hb2⟩ := hA10
    have nn : ∀ {b : Addr} {x : HO}, H10 b = some x → b ≠ r.td ∧ b ≠ r.dd := fun h => ⟨ne_of_none h f1, ne_of_none h f2⟩
    have nqr : s'.td ≠ r.td ∧ s'.td ≠ r.dd ∧ s'.dd ≠ r.td ∧ s'.dd ≠ r.dd := ⟨(ne_of_none hG11.told f3).symm, (ne_of_none hG11.deeds f3).symm, (ne_of_none hG11.told f4).symm, (ne_of_none hG11.deeds f4).symm⟩
    have v1' : ∀ t ∈ ts, t.v ∈ names g ∧ t.tl ≠ st := fun t ht => ⟨w1 t ht, fun e => nst (e ▸ (v1 t ht).2)⟩
    have v2' : ∀ t ∈ us, t.v ∈ names g ∧ t.tl ≠ st := fun t ht => ⟨w2 t ht, fun e => nst (e ▸ (v2 t ht).2)⟩
    have kept : ∀ {H' : Hp}, Same2 r.td r.dd H10 H' → GridAt H' L g ∧ KeptAt H' k bs ts ∧ KeptAt H' o cs us := fun {H'} M => by
      have tk : TupKeep H10 H' := fun b xs e => M b _ (nn e).1 (nn e).2 e
      exact ⟨hL10.keep tk, ⟨M _ _ (nn hkk10.at_).1 (nn hkk10.at_).2 hkk10.at_, hkk10.tels.keep tk⟩, ⟨M _ _ (nn hk10.at_).1 (nn hk10.at_).2 hk10.at_, hk10.tels.keep tk⟩⟩
    clear hud hks h1 h2 h3 hks1 hks2 hks3 dd d0 hlt hD18 h4 s13 s14 s15 s16 s17 s18 s19 s20 two' hG12' hk11 hk12 hkk12
    -- the one and the other joined, where nothing clashes
    refine st_joinN (fun σ' H' => σ' = [some (.ref sa), some (.int (0 + i)), some (.ref a), some (.bl often), some (.int (nc : Int)), some (.ref L), some (.ref Fp), some (.str st), some (.ref k), some (.ref o), some (.ref p), some (.ref q'), some (.ref ud), some (.ref lt), z5, none, none] ∧ Same2 r.td r.dd H20 H' ∧ GatAt C D H' p r) (fun σ' H21 h21 => ?_) (fun D' hn hrt => ?_)
    case refine_2 =>
      refine ⟨_, rfl, lz, fun e1 ne1 => ?_⟩
      have s21 := same_new (o := .tup []) ne1
      refine ⟨.tuple ((clashK ts us).map kyD), .tuple [], Dp_same s21 d20, .tup (.inl (.inl upd_same)) .nil, shaped_tuple (by simpa [PyData.canLay0] using lay_kys (clashK_ok ok2)) (by have := depth_kys (clashK ts us); omega), by decide +kernel, _, rfl, ?_⟩
      by_cases hc : clashT ts us = []
      · rw [show clashK ts us = [] from clashK_nil.mpr hc]
        obtain ⟨kL, kK, kO⟩ := kept (M20.trans (Same2.of s21))
        refine ite_b (fun _ => ?_) (fun e => by exact absurd e (by decide +kernel))
        refine ⟨_, rfl, _, rfl, _, rfl, _, rfl, _, rfl, _, rfl, L, p, q', k, o, st, g, wd, r, s', bs, cs, rfl, kL, gd, wst, hgR.same s21, hgS.same s21, rg, sg, by rw [rt]; exact kK, by rw [st']; exact kO, by rw [rt]; exact ok1, by rw [st']; exact ok2, by rw [rt]; exact v1', by rw [st']; exact v2', by rw [rt]; exact n1, by rw [st']; exact n2, by rw [rt]; omega, by rw [st']; omega, by rw [fd1]; omega, by rw [rt, st']; exact hc, fun H22 m22 hG22 => ⟨true, rfl, iteF ?_⟩⟩
        exact hn _ _ ⟨rfl, (Same2.of s21).trans m22, hG22⟩
      · have e : PyData.eqv (.tuple ((clashK ts us).map kyD)) (.tuple []) = false := by
          rw [Bool.eq_false_iff]
          intro e
          apply hc
          apply clashK_nil.mp
          cases hl : clashK ts us with
          | nil => rfl
          | cons a b =>
            rw [hl] at e
            simp [PyData.eqv, PyData.eqvAll] at e
        rw [e]
        exact iteF (hn _ _ ⟨rfl, Same2.of s21, hgR.same s21⟩)
    obtain ⟨rfl, m21, hgR1⟩ := h21
    have M21 := M20.trans m21
    have S10 : Same H1 H10 := same_x (Same.refl H1) X10 na1
    have fr1 : H1 r.td = none := S10.free f1
    have fr2 : H1 r.dd = none := S10.free f2
    -- the first with another of the same rows
    obtain ⟨kL1, kK1, kO1⟩ := kept M21
    refine ⟨_, rfl, _, rfl, _, rfl, _, rfl, _, rfl, L, k, g, wd, bs, ts, rfl, kL1, gd, kK1, ok1, w1, n1, by omega, fun p2 r2 H22 s22 hG22 rg2 rt2 f5 f6 fd3 => ?_⟩
    obtain ⟨kL2, kK2, kO2⟩ := kept (M21.trans (Same2.of s22))
    refine ⟨_, rfl, _, rfl, L, p, p2, k, k, st, g, wd, r, r2, bs, bs, rfl, kL2, gd, wst, hgR1.same s22, hG22, rg, rg2, by rw [rt]; exact kK2, by rw [rt2]; exact kK2, by rw [rt]; exact ok1, by rw [rt2]; exact ok1, by rw [rt]; exact v1', by rw [rt2]; exact v1', by rw [rt]; exact n1, by rw [rt2]; exact n1, by rw [rt]; omega, by rw [rt2]; omega, by rw [fd1]; omega, by rw [rt, rt2]; exact clash_self n1, fun H23 m23 hgR3 => ⟨true, rfl, iteF ?_⟩⟩
    have m2023 : Same2 r.td r.dd H20 H23 := m21.trans ((Same2.of s22).trans m23)
    have M23 := M20.trans m2023
    obtain ⟨kL3, kK3, kO3⟩ := kept M23
    have hb3 : H23 a = _ := M23 _ _ (nn hb).1 (nn hb).2 hb
    have hPo23 : PoolsAt H23 Fp as _ := ⟨M23 _ _ (nn hPo10.1).1 (nn hPo10.1).2 hPo10.1, Each.mono (fun x w e => M23 _ _ (nn e).1 (nn e).2 e) hPo10.2⟩
    have k2023 : Keep H20 H23 := kp_2 m2023 hgR.told hgR.deeds
    have hgS3 : GatAt C D H23 q' s' := hgS.keep k2023 (m2023 _ _ nqr.1 nqr.2.1 hgS.told) (m2023 _ _ nqr.2.2.1 nqr.2.2.2 hgS.deeds)
    -- a third
    refine ⟨_, rfl, _, rfl, _, rfl, _, rfl, _, rfl, a, Fp, o, often, as, _, p1, p2', p3, p4, cs, us, rfl, ⟨b0, b1, b2, hb3, hb2⟩, hPo23, nF, nq, hokW, kO3, noa, ok2, v2, n2, by omega, fun o3 ds ws H24 no3 hA24 x24 hk24 ok3 v3 n3 l3 => ?_⟩
    have kx : Keep H23 H24 := kp_x x24 hb3
    have nra : r.td ≠ a ∧ r.dd ≠ a := ⟨(nn hb).1.symm, (nn hb).2.symm⟩
    have nsa : s'.td ≠ a ∧ s'.dd ≠ a := ⟨(ne_of_none ((s11.trans (Same.refl H11)) _ _ hb) f3).symm, (ne_of_none ((s11.trans (Same.refl H11)) _ _ hb) f4).symm⟩
    have hgR4 : GatAt C D H24 p r := hgR3.keep kx (x24 _ _ nra.1 hgR3.told) (x24 _ _ nra.2 hgR3.deeds)
    have hgS4 : GatAt C D H24 q' s' := hgS3.keep kx (x24 _ _ nsa.1 hgS3.told) (x24 _ _ nsa.2 hgS3.deeds)
    have w3 : ∀ t ∈ ws, t.v ∈ names g := fun t ht => mem_sortS.mp (v3 t ht).1
    refine ⟨L, o3, g, wd, ds, ws, rfl, kL3.keep kx.tk, gd, hk24, ok3, w3, n3, by omega, fun p5 r3 H25 s25 hG25 rg3 rt3 f7 f8 fd4 => ?_⟩
    refine ⟨_, rfl, _, rfl, _, rfl, p, q', p5, r, s', r3, wd, rfl, hgR4.same s25, hgS4.same s25, hG25, by rw [rg]; exact gd, by rw [rg, sg], by rw [rg, rg3], by rw [rt]; exact ok1, by rw [st']; exact ok2, by rw [rt3]; exact ok3, by rw [rt, rg]; exact w1, by rw [st', rg]; exact w2, by rw [rt3, rg]; exact w3, by rw [rt]; exact n1, by rw [st']; exact n2, by rw [rt3]; exact n3, by rw [rt]; omega, by rw [st']; omega, by rw [rt3]; omega, fun H26 s26 => ⟨true, rfl, iteF ?_⟩⟩
    have S23 : Same H1 H23 := fun b o e => M23 b o (ne_of_none e fr1) (ne_of_none e fr2) (S10 b o e)
    have S26 : Same H1 H26 := (same_x S23 x24 na1).trans (s25.trans s26)
    exact ⟨⟨_, _, _, _, _, _, _, _, _, _, _, _, _, _, rfl⟩, S26.seq hSc1⟩

end
end Wl

/-! What the head reads off the frame of an own exception's class. -/
namespace Wl
open PySem PySem.Spec PyProof.Rows L2
/-- an exception's class: which it is, its field read, caught by its base -/
structure ErrC (K : PySem.W.Frag) (ad bd : Nat → Addr) (C : Addr) (n : Nat) : Prop where
  sort : SortC K ad bd C n
  xf : XfC K C
  all : PySem.W.exmAny K (.ref C) [.ref (bd 0), .ref (bd 1), .ref (bd 2)] = some true
def adK (K : PySem.W.Frag) (i : Nat) : Addr := He.ga K (exN i)
def bdK (K : PySem.W.Frag) (i : Nat) : Addr := He.ga K (baN i)
/-- what is asked of the n-th exception's class, at C; bm: its built-in bases -/
def errB (K : PySem.W.Frag) (C : Addr) (f : Str) (n : Nat) (bm : List Value) (newId : String) : Bool :=
  PySem.W.excInitIn K C bm newId && (PySem.W.excOver K C bm && (He.eqO (PySem.W.findIn K (.ref C) "__setattr__") (some (some (.builtin "object.__setattr__"))) && (He.eqO (PySem.W.takerIn K C f) (some none) &&
  (He.eqO (PySem.W.findIn K (.ref C) f) (some none) && (decide (PySem.W.subIn K (.ref C) (.type "BaseException") = some true) && (decide (PySem.W.typeIn K (.ref C) = some (.type "type")) && (PySem.W.hasDictIn K C && (PySem.W.keepIn K (.ref C) &&
  ((PySem.W.clsIn K C).isSome && (He.eqO (PySem.W.findIn K (.ref C) "__getattribute__") (some (some (.builtin "BaseException.__getattribute__"))) && (He.eqO (PySem.W.findIn K (.ref C) "__getattr__") (some none) &&
  (He.eqO (PySem.W.findIn K (.ref C) "__class__") (some (some (.builtin "object.__class__"))) && (He.eqO (PySem.W.specialIn K (.builtin "object.__class__") "__get__") (some (some (.builtin "getset_descriptor.__get__"))) &&
  (decide (PySem.W.takesIn K (.builtin "object.__class__") = some true) && (decide (PySem.W.mroIn K C (.type "object") = some true) && (((List.range 19).all fun i => decide (PySem.W.kitOne K (.ref C) (.ref (adK K i)) = some (decide (i = n)))) &&
  (((List.range 3).all fun i => decide (PySem.W.kitOne K (.ref C) (.ref (bdK K i)) = some (decide (i = baOf n)))) && (decide (PySem.W.kitOne K (.ref C) (.type "ValueError") = some (decide (0 = baOf n))) &&
  (decide (PySem.W.kitOne K (.ref C) (.type "LookupError") = some (decide (1 = baOf n))) && (decide (PySem.W.kitOne K (.ref C) (.type "ArithmeticError") = some (decide (2 = baOf n))) &&
  (decide (PySem.W.exmAny K (.ref C) [.ref (bdK K 0), .ref (bdK K 1), .ref (bdK K 2)] = some true) && decide (n < 19))))))))))))))))))))))
def bmOf (n : Nat) : List Value := if n ≤ 8 then [.type "ValueError", .type "Exception", .type "BaseException", .type "object"] else if n ≤ 14 then [.type "LookupError", .type "Exception", .type "BaseException", .type "object"] else [.type "ArithmeticError", .type "Exception", .type "BaseException", .type "object"]
def newOf (n : Nat) : String := if n ≤ 8 then "ValueError.__new__" else if n ≤ 14 then "LookupError.__new__" else "ArithmeticError.__new__"
theorem base_of (n : Nat) : ∃ B initId, BaseX B (newOf n) initId (bmOf n) := by
  unfold newOf bmOf
  by_cases h : n ≤ 8
  · rw [if_pos h, if_pos h]
    exact ⟨_, _, baseVE⟩
  · rw [if_neg h, if_neg h]
    by_cases h2 : n ≤ 14
    · rw [if_pos h2, if_pos h2]
      exact ⟨_, _, baseLE⟩
    · rw [if_neg h2, if_neg h2]
      exact ⟨_, _, baseAE⟩
section
variable {K : PySem.W.Frag} {mg : Str → Option Value} {C : Addr} {f x : Str} {n : Nat}
def errOf (K : PySem.W.Frag) (n : Nat) (f : Str) : Bool := errB K (adK K n) f n (bmOf n) (newOf n)
theorem err_ok (h : errB K C f n (bmOf n) (newOf n) = true) : ErrC K (adK K) (bdK K) C n ∧
    ∀ {q : Str} {st : Stmt} {fI : Addr} {fd : FuncData} {x : Str} {q1 q2 q3 q4 : Pos}, mg x = some (.ref C) → Meth K C "__init__" fI → Fun K "__init__" q st fI fd → Binds K fd ["self", f] [] → FnScope ["self", f] ["self", f] (defScope st) → ((["self", f] : List Str).all fun y => decide ((defScope st).names.lookup y = some .local)) = true →
      defBody st = [.Assign [.Attribute (.Name "self" q1) f q2] (.Name f q3) q4] → OwnX K mg x f C := by
  unfold errB at h
  simp only [Bool.and_eq_true] at h
  obtain ⟨h1, h2, h3, h4, h5, h6, h7, h8, h9, h10, h11, h12, h13, h14, h15, h16, h17, h18, h19, h20, h21, h22, h23⟩ := h
  have hsub := of_decide_eq_true h6
  refine ⟨⟨⟨⟨h10, He.eqO_ok h11, He.eqO_ok h12, hsub, He.eqO_ok h13, He.eqO_ok h14, of_decide_eq_true h15, of_decide_eq_true h16⟩, of_decide_eq_true h23, fun i hi => of_decide_eq_true (List.all_eq_true.mp h17 i (List.mem_range.mpr hi)), fun i hi => of_decide_eq_true (List.all_eq_true.mp h18 i (List.mem_range.mpr hi)),
    of_decide_eq_true h19, of_decide_eq_true h20, of_decide_eq_true h21⟩, ⟨He.eqO_ok h11, He.eqO_ok h12, hsub, h8⟩, of_decide_eq_true h22⟩, ?_⟩
  intro q st fI fd x q1 q2 q3 q4 hg hm hF hB hS hL hb
  obtain ⟨B, ini, BX⟩ := base_of n
  refine ⟨hg, h9, ⟨B, newOf n, ini, bmOf n, BX, h1, h2⟩, He.eqO_ok h3, He.eqO_ok h4, He.eqO_ok h5, hsub, of_decide_eq_true h7, h8, ⟨fI, fd, q, st, q1, q2, q3, q4, hm.at_, ?_, hF, hB, hS, fun y hy => of_decide_eq_true (List.all_eq_true.mp hL y hy), hb⟩⟩
  have z : (PySem.W.typeIn K (.ref fI) == some (.type "function")) = true := hm.fn
  exact beq_iff_eq.mp z
/-- the globals -/
def sortB (K : PySem.W.Frag) : Bool := ((List.range 19).all fun i => (He.Fa.glo (exN i)).ok K) && (((List.range 3).all fun i => (He.Fa.glo (baN i)).ok K) && ((He.Fa.free "ValueError").ok K && ((He.Fa.free "LookupError").ok K && (He.Fa.free "ArithmeticError").ok K)))
theorem sort_ok {h : Heap} (X : K.In h) (G : h.Ns mainGlobals mg) (c : sortB K = true) : SortG mg (adK K) (bdK K) := by
  unfold sortB at c
  simp only [Bool.and_eq_true] at c
  obtain ⟨c1, c2, c3, c4, c5⟩ := c
  exact ⟨fun i hi => He.glo_ok X G (List.all_eq_true.mp c1 i (List.mem_range.mpr hi)), fun i hi => He.glo_ok X G (List.all_eq_true.mp c2 i (List.mem_range.mpr hi)), He.free_ok X G c3, He.free_ok X G c4, He.free_ok X G c5⟩
end
end Wl

/-! What the head reads off the frame of an own exception's class, without the laws' own sorting. -/
namespace Wl
open PySem PySem.Spec PyProof.Rows L2
def exkB (K : PySem.W.Frag) (C : Addr) : Bool :=
  (PySem.W.clsIn K C).isSome && (He.eqO (PySem.W.findIn K (.ref C) "__getattribute__") (some (some (.builtin "BaseException.__getattribute__"))) && (He.eqO (PySem.W.findIn K (.ref C) "__getattr__") (some none) &&
  (He.eqO (PySem.W.findIn K (.ref C) "__class__") (some (some (.builtin "object.__class__"))) && (He.eqO (PySem.W.specialIn K (.builtin "object.__class__") "__get__") (some (some (.builtin "getset_descriptor.__get__"))) &&
  (decide (PySem.W.takesIn K (.builtin "object.__class__") = some true) && (decide (PySem.W.mroIn K C (.type "object") = some true) && (decide (PySem.W.subIn K (.ref C) (.type "BaseException") = some true) && (decide (PySem.W.typeIn K (.ref C) = some (.type "type")) && PySem.W.keepIn K (.ref C)))))))))
def errS (K : PySem.W.Frag) (C : Addr) (f : Str) (n : Nat) : Bool :=
  exkB K C && (PySem.W.excInitIn K C (bmOf n) (newOf n) && (PySem.W.excOver K C (bmOf n) && (He.eqO (PySem.W.findIn K (.ref C) "__setattr__") (some (some (.builtin "object.__setattr__"))) && (He.eqO (PySem.W.takerIn K C f) (some none) &&
  (He.eqO (PySem.W.findIn K (.ref C) f) (some none) && PySem.W.hasDictIn K C)))))
def errSN (K : PySem.W.Frag) (C : Addr) (n : Nat) : Bool := exkB K C && PySem.W.excIn K C (bmOf n) (newOf n)
section
variable {K : PySem.W.Frag} {mg : Str → Option Value} {C : Addr} {f : Str} {n : Nat}
theorem exk_ok (h : exkB K C = true) : ExK K C ∧ PySem.W.typeIn K (.ref C) = some (.type "type") ∧ PySem.W.keepIn K (.ref C) = true := by
  unfold exkB at h
  simp only [Bool.and_eq_true] at h
  obtain ⟨h10, h11, h12, h13, h14, h15, h16, h6, h7, h9⟩ := h
  exact ⟨⟨h10, He.eqO_ok h11, He.eqO_ok h12, of_decide_eq_true h6, He.eqO_ok h13, He.eqO_ok h14, of_decide_eq_true h15, of_decide_eq_true h16⟩, of_decide_eq_true h7, h9⟩
theorem errS_ok (h : errS K C f n = true) : (ExK K C ∧ XfC K C) ∧
    ∀ {q : Str} {st : Stmt} {fI : Addr} {fd : FuncData} {x : Str} {q1 q2 q3 q4 : Pos}, mg x = some (.ref C) → Meth K C "__init__" fI → Fun K "__init__" q st fI fd → Binds K fd ["self", f] [] → FnScope ["self", f] ["self", f] (defScope st) → ((["self", f] : List Str).all fun y => decide ((defScope st).names.lookup y = some .local)) = true →
      defBody st = [.Assign [.Attribute (.Name "self" q1) f q2] (.Name f q3) q4] → OwnX K mg x f C := by
  unfold errS at h
  simp only [Bool.and_eq_true] at h
  obtain ⟨h0, h1, h2, h3, h4, h5, h8⟩ := h
  obtain ⟨eK, h7, h9⟩ := exk_ok h0
  refine ⟨⟨eK, ⟨eK.ga, eK.gg, eK.sub, h8⟩⟩, ?_⟩
  intro q st fI fd x q1 q2 q3 q4 hg hm hF hB hS hL hb
  obtain ⟨B, ini, BX⟩ := base_of n
  refine ⟨hg, h9, ⟨B, newOf n, ini, bmOf n, BX, h1, h2⟩, He.eqO_ok h3, He.eqO_ok h4, He.eqO_ok h5, eK.sub, h7, h8, ⟨fI, fd, q, st, q1, q2, q3, q4, hm.at_, ?_, hF, hB, hS, fun y hy => of_decide_eq_true (List.all_eq_true.mp hL y hy), hb⟩⟩
  have z : (PySem.W.typeIn K (.ref fI) == some (.type "function")) = true := hm.fn
  exact beq_iff_eq.mp z
theorem errSN_ok (h : errSN K C n = true) : ExK K C ∧ ∀ {x : Str}, mg x = some (.ref C) → OwnN K mg x C := by
  unfold errSN at h
  rw [Bool.and_eq_true] at h
  obtain ⟨eK, h7, h9⟩ := exk_ok h.1
  obtain ⟨B, ini, BX⟩ := base_of n
  exact ⟨eK, fun hg => ⟨hg, h9, ⟨B, newOf n, ini, bmOf n, BX, h.2⟩, eK.sub, h7⟩⟩
end
end Wl

/-! The end of a walk where an exception is being handled. -/
namespace HotX
open PySem PySem.Spec PyProof.Rows
section
variable {prog : Program} {w : World} {A : Around} {E : Value → Shared → Prop} {s : Shared}
theorem HotAt.keep {x1 : Addr} {h h' : Heap} (hot : HotAt A x1 h) (k : ∀ o, h.get? x1 = some o → h'.get? x1 = some o) : HotAt A x1 h' :=
  let ⟨hh, o, vs, a, b, c⟩ := hot
  ⟨hh, o, vs, k o a, b, c⟩
theorem HotAt.there {x1 : Addr} {h : Heap} (hot : HotAt A x1 h) : ∃ o, h.get? x1 = some o := let ⟨_, o, _, a, _⟩ := hot; ⟨o, a⟩
theorem stop_hot {α : Type} {x1 : Addr} {Q : α → Shared → Prop} (hot : HotAt A x1 s.heap)
    (hE : ∀ h' e, (∀ b o, s.heap.get? b = some o → h'.get? b = some o) → (∃ o, h'.get? e = some o ∧ o.cls = .type "StopIteration") → E (.ref e) { s with heap := h' }) :
    wpAny (model prog w) A (newExc (.type "StopIteration") [] >>= fun e => (raiseNew e : Sem α)) Q E s := by
  obtain ⟨hh, o1, vs1, h1, d1, c1⟩ := hot
  refine wpAny_bind ?_
  simp only [newExc, newTuple]
  refine wpAny_bind (wpAny_newObj_type ?_ (by size_fits))
  refine wpAny_bind (m := firstArgMember _ _) (wpAny_of_eq (a := Value.none) (by first | rfl | (simp only [firstArgMember]; rfl)) ?_)
  refine wpAny_newObj_type ?_ (by size_fits)
  refine raiseNew_hot ⟨hh, o1, vs1, Heap.get?_push_of_some _ (Heap.get?_push_of_some _ h1), d1, c1⟩ (Nat.ne_of_lt (Heap.lt_size (Heap.get?_push_of_some _ h1))) (Heap.get?_push_size _ rfl) rfl (by first | (simp; done) | (simp; omega) | (simp only [Array.size_append]; simp; omega)) ?_
  refine hE _ _ (fun b o e => ?_) ⟨_, Heap.get?_update_self _ (Heap.get?_push_size _ rfl) rfl, rfl⟩
  rw [Heap.get?_update_other _ _ (Nat.ne_of_gt (Heap.lt_size (Heap.get?_push_of_some _ e)))]
  exact Heap.get?_push_of_some _ (Heap.get?_push_of_some _ e)
theorem nextOf_tuple_end_hot {it t x1 : Addr} {i : Nat} {items : Array Value} {Q : Value → Shared → Prop} (hot : HotAt A x1 s.heap) (nx : x1 ≠ it) (hit : s.heap.IsTupleIter it t i) (ht : s.heap.IsTuple t items) (hx : items[i]? = none)
    (hE : ∀ h' e, Heap.ExtBut it s.heap h' → (∃ o, h'.get? e = some o ∧ o.cls = .type "StopIteration") → E (.ref e) { s with heap := h' }) : wpAny (model prog w) A (Builtin.SmallTypes.nextOf (.ref it)) Q E s := by
  obtain ⟨o, ho, hc, hd⟩ := id hit
  obtain ⟨ol, hol, _, nl, hdl⟩ := ht
  unfold Builtin.SmallTypes.nextOf
  refine wpAny_bind (wpAny_callSpecial?_slot (name := Str.ofString "__next__") hit.typeIs F.slot_tuple_iterator_next
    (wpAny_call_entry F.slot_tuple_iterator_next hit.typeIs F.entry_tuple_iterator_next ?_ (F.args_tuple_iterator_next_1 _)))
  show wpAny _ _ (field (.ref it) 0 >>= _) _ _ s
  refine wpAny_bind (wpAny_field ho hd (x := .ref t) rfl ?_)
  show wpAny _ _ (if (Value.ref t == Value.none) = true then _ else _) _ _ s
  rw [if_neg (show ¬ ((Value.ref t == Value.none) = true) from Bool.false_ne_true)]
  show wpAny _ _ (field (.ref it) 1 >>= _) _ _ s
  refine wpAny_bind (wpAny_field ho hd (x := .int i 0) rfl ?_)
  show wpAny _ _ (seqItems? (.ref t) >>= _) _ _ s
  refine wpAny_bind (wpAny_seqItems hol hdl ?_)
  simp only [Int.toNat_natCast, hx]
  refine wpAny_bind (wpAny_rule (wpAny_bind (wpAny_setField ho hd (by simp) ?_)))
  have hs := Heap.SameBut.update (a := it) (h := s.heap) (Obj.mapFields (·.setIfInBounds 0 Value.none))
  refine stop_hot (A := A.in1) (HotAt.keep hot fun o e => hs.extBut x1 o nx e) fun h' e k hc' => ?_
  exact hE _ _ (fun b o hb q => k b o (hs.extBut b o hb q)) hc'
theorem pyNext_tuple_end_hot {it t x1 : Addr} {i : Nat} {items : Array Value} {Q : Option Value → Shared → Prop} (hot : HotAt A x1 s.heap) (nx : x1 ≠ it) (hit : s.heap.IsTupleIter it t i) (ht : s.heap.IsTuple t items) (hx : items[i]? = none)
    (hQ : ∀ h', Heap.ExtBut it s.heap h' → Q none { s with heap := h' }) : wpAny (model prog w) A (pyNext (.ref it)) Q E s := by
  obtain ⟨o, ho, hc, hd⟩ := id hit
  obtain ⟨ol, hol, _, nl, hdl⟩ := ht
  unfold pyNext
  refine wpAny_bind (wpAny_attempt (wpAny_callSpecial?_slot (name := Str.ofString "__next__") hit.typeIs F.slot_tuple_iterator_next
    (wpAny_call_entry F.slot_tuple_iterator_next hit.typeIs F.entry_tuple_iterator_next ?_ (F.args_tuple_iterator_next_1 _))))
  show wpAny _ _ (field (.ref it) 0 >>= _) _ _ s
  refine wpAny_bind (wpAny_field ho hd (x := .ref t) rfl ?_)
  show wpAny _ _ (if (Value.ref t == Value.none) = true then _ else _) _ _ s
  rw [if_neg (show ¬ ((Value.ref t == Value.none) = true) from Bool.false_ne_true)]
  show wpAny _ _ (field (.ref it) 1 >>= _) _ _ s
  refine wpAny_bind (wpAny_field ho hd (x := .int i 0) rfl ?_)
  show wpAny _ _ (seqItems? (.ref t) >>= _) _ _ s
  refine wpAny_bind (wpAny_seqItems hol hdl ?_)
  simp only [Int.toNat_natCast, hx]
  refine wpAny_bind (wpAny_rule (wpAny_bind (wpAny_setField ho hd (by simp) ?_)))
  have hs := Heap.SameBut.update (a := it) (h := s.heap) (Obj.mapFields (·.setIfInBounds 0 Value.none))
  refine stop_hot (A := A.in1) (HotAt.keep hot fun o e => hs.extBut x1 o nx e) fun h' e k hc' => ?_
  obtain ⟨oe, ee, ec⟩ := hc'
  refine wpAny_bind (wpAny_isInstance (T := "StopIteration") (b := true) ⟨oe, ee, ec⟩ isSubtype_stop ?_)
  exact wpAny_pure (hQ _ fun b o hb q => k b o (hs.extBut b o hb q))
theorem pyNext_list_end_hot {it l x1 : Addr} {i : Nat} {items : Array Value} {Q : Option Value → Shared → Prop} (hot : HotAt A x1 s.heap) (nx : x1 ≠ it) (hit : s.heap.IsListIter it l i) (hl : s.heap.IsList l items) (hx : items[i]? = none)
    (hQ : ∀ h', Heap.ExtBut it s.heap h' → Q none { s with heap := h' }) : wpAny (model prog w) A (pyNext (.ref it)) Q E s := by
  obtain ⟨o, ho, hc, hd⟩ := id hit
  obtain ⟨ol, hol, _, nl, hdl⟩ := hl
  unfold pyNext
  refine wpAny_bind (wpAny_attempt (wpAny_callSpecial?_slot (name := Str.ofString "__next__") hit.typeIs slot_listiter_next
    (wpAny_call_entry slot_listiter_next hit.typeIs entry_listiter_next ?_ (args_listiter_next _))))
  show wpAny _ _ (field (.ref it) 0 >>= _) _ _ s
  refine wpAny_bind (wpAny_field ho hd (x := .ref l) rfl ?_)
  show wpAny _ _ (if (Value.ref l == Value.none) = true then _ else _) _ _ s
  rw [if_neg (show ¬ ((Value.ref l == Value.none) = true) from Bool.false_ne_true)]
  show wpAny _ _ (field (.ref it) 1 >>= _) _ _ s
  refine wpAny_bind (wpAny_field ho hd (x := .int i 0) rfl ?_)
  show wpAny _ _ (seqItems? (.ref l) >>= _) _ _ s
  refine wpAny_bind (wpAny_seqItems hol hdl ?_)
  simp only [Int.toNat_natCast, hx]
  refine wpAny_bind (wpAny_rule (wpAny_bind (wpAny_setField ho hd (by simp) ?_)))
  have hs := Heap.SameBut.update (a := it) (h := s.heap) (Obj.mapFields (·.setIfInBounds 0 Value.none))
  refine stop_hot (A := A.in1) (HotAt.keep hot fun o e => hs.extBut x1 o nx e) fun h' e k hc' => ?_
  obtain ⟨oe, ee, ec⟩ := hc'
  refine wpAny_bind (wpAny_isInstance (T := "StopIteration") (b := true) ⟨oe, ee, ec⟩ isSubtype_stop ?_)
  exact wpAny_pure (hQ _ fun b o hb q => k b o (hs.extBut b o hb q))
theorem pyNext_ascii_end_hot {it x1 : Addr} {x : Str} {t : Tok} {i : Nat} {Q : Option Value → Shared → Prop} (hot : HotAt A x1 s.heap) (nx : x1 ≠ it) (hit : s.heap.IsStrIter it "str_ascii_iterator" x t i) (hx : x.cps[i]? = none)
    (hQ : ∀ h', Heap.ExtBut it s.heap h' → Q none { s with heap := h' }) : wpAny (model prog w) A (pyNext (.ref it)) Q E s := by
  obtain ⟨o, ho, hc, hd⟩ := id hit
  unfold pyNext
  refine wpAny_bind (wpAny_attempt (wpAny_callSpecial?_slot (name := Str.ofString "__next__") hit.typeIs F.slot_str_ascii_iterator_next
    (wpAny_call_entry F.slot_str_ascii_iterator_next hit.typeIs F.entry_str_ascii_iterator_next ?_ (F.args_str_ascii_iterator_next_1 _))))
  show wpAny _ _ (field (.ref it) 0 >>= _) _ _ s
  refine wpAny_bind (wpAny_field ho hd (x := .str x t) rfl ?_)
  show wpAny _ _ (field (.ref it) 1 >>= _) _ _ s
  refine wpAny_bind (wpAny_field ho hd (x := .int i 0) rfl ?_)
  simp only [Int.toNat_natCast, hx]
  refine wpAny_bind (wpAny_rule (wpAny_bind (wpAny_setField ho hd (by simp) (wpAny_bind (wpAny_letGo ?_)))))
  have hs := Heap.SameBut.update (a := it) (h := s.heap) (Obj.mapFields (·.setIfInBounds 0 (.str Str.empty 0)))
  refine stop_hot (A := A.in1) (HotAt.keep hot fun o e => ?_) fun h' e k hc' => ?_
  · exact (Heap.SameBut.update ..).extBut x1 o nx e
  obtain ⟨oe, ee, ec⟩ := hc'
  refine wpAny_bind (wpAny_isInstance (T := "StopIteration") (b := true) ⟨oe, ee, ec⟩ isSubtype_stop ?_)
  exact wpAny_pure (hQ _ fun b o hb q => k b o ((Heap.SameBut.update ..).extBut b o hb q))
theorem next_tuple_end_hot {it t x1 : Addr} {i : Nat} {items} {Q : Option Value → Shared → Prop} (hot : HotAt A x1 s.heap) (nx : x1 ≠ it)
    (hit : IsTupIter s.heap it t i) (ht : IsTup s.heap t items) (hx : items[i]? = none)
    (hQ : ∀ h', Heap.ExtBut it s.heap h' → Q none { s with heap := h' }) : wpAny (model prog w) A (pyNext (.ref it)) Q E s := pyNext_tuple_end_hot hot nx hit ht hx hQ
theorem unpackItems_tuple_hot {t x1 : Addr} {items : Array Value} {Q : List Value → Shared → Prop} (hot : HotAt A x1 s.heap) (ht : IsTup s.heap t items)
    (hQ : ∀ h', Heap.ExtBut s.heap.objs.size s.heap h' → Q items.toList { s with heap := h' }) : wpAny (model prog w) A (unpackItems (.ref t) items.size none) Q E s := by
  have hlt : t ≠ s.heap.objs.size := by obtain ⟨o, ho, _⟩ := ht; exact Nat.ne_of_lt (Heap.lt_size ho)
  have nx : x1 ≠ s.heap.objs.size := by obtain ⟨o, e⟩ := hot.there; exact Nat.ne_of_lt (Heap.lt_size e)
  unfold unpackItems
  refine wpAny_bind ?_
  · unfold notIterableAtAll
    refine wpAny_bind (wpAny_specialOf ht.typeIs slot_tuple_iter.lookup ?_)
    refine wpAny_pure ?_
    simp only [Bool.false_eq_true, if_false]
    refine wpAny_bind (wpAny_holding (iter_tuple ht ?_))
    refine wpAny_bind (wpAny_holding (draw_tuple hlt items.size 0 _ _ ⟨_, Heap.get?_push_size _ rfl, rfl, rfl⟩ (ht.push _) (by omega) fun h₁ hit₁ hs₁ => ?_))
    have hall : List.take items.size (List.drop 0 items.toList) = items.toList := by
      rw [List.drop_zero]; exact List.take_of_length_le (by simp)
    rw [hall]
    rw [if_neg (by simp)]
    have ht₁ : IsTup h₁ t items := (ht.push _).extBut hs₁.extBut hlt
    refine wpAny_bind (wpAny_holding (next_tuple_end_hot (HotAt.keep hot fun o e => hs₁.extBut x1 o nx (Heap.get?_push_of_some _ e)) nx hit₁ ht₁ (by simp) fun h₂ he₂ => ?_))
    simp only [Option.isSome_none, Bool.false_eq_true, if_false]
    refine wpAny_pure (hQ h₂ fun b o hb e => he₂ b o hb (hs₁.extBut b o hb (Heap.get?_push_of_some _ e)))
theorem assign_Tuple_hot {env : Env} {elts : List Expr} {k : Nat} {pos : Pos} {t x1 : Addr} {items : Array Value} {Q : Unit → Shared → Prop} (hot : HotAt A x1 s.heap) (ht : IsTup s.heap t items)
    (hn : (assignEach elts env).length = items.size) (hstar : (assignEach elts env).findIdx? (·.1) = none)
    (h : ∀ h', Heap.ExtBut s.heap.objs.size s.heap h' → wpAny (model prog w) A (assignInOrder ((assignEach elts env).map (·.2)) items.toList) Q E { s with heap := h' }) :
    wpAny (model prog w) A (assign (.Tuple elts k pos) env (.ref t)) Q E s := by
  rw [assign_Tuple]
  refine wpAny_bind (wpAny_standAt ?_)
  unfold unpack
  rw [hn, hstar]
  exact wpAny_bind (wpAny_holding (unpackItems_tuple_hot hot ht h))
/-- a list walked, the handled exception beside it -/
theorem walks_list_hot (hh : A.handled = some (.ref x1)) (I ax : Addr) (hne : ax ≠ I) (hnx : x1 ≠ I) (items : Array Value) :
    Walks prog w A I [I, ax, x1] [I] items.size (fun i v => items[i]? = some v) (fun i h => h.IsListIter I ax i ∧ h.IsList ax items ∧ HotAt A x1 h) where
  sub := fun b hb => by simp at hb; simp [hb]
  frame := fun _ _ _ st hk => ⟨st.1.at fun o e => hk I (by simp) o e, st.2.1.at fun o e => hk ax (by simp) o e, st.2.2.keep fun o e => hk x1 (by simp) o e⟩
  item := fun i s Q E hi st hQ => by
    refine wpAny_pyNext_list_item st.1 st.2.1 (x := items[i]) (by simp [hi]) fun h' hit' hs' => ?_
    exact hQ _ h' s.toks (by simp [hi]) ⟨hit', st.2.1.extBut hs'.extBut hne, st.2.2.keep fun o e => hs'.extBut x1 o hnx e⟩ fun b o hb e => hs'.extBut b o (fun h => hb (by simp [h])) e
  done := fun s Q E st hQ => pyNext_list_end_hot st.2.2 hnx st.1 st.2.1 (by simp) fun h' he' => hQ h' s.toks fun b o hb e => he' b o (fun h => hb (by simp [h])) e
  self := fun _ _ _ _ st hQ => wpAny_pyIter_listiter st.1 hQ
/-- a tuple drawn from, the handled exception beside it -/
theorem draws_tuple_hot (it t : Addr) (hne : t ≠ it) (hnx : x1 ≠ it) (items : Array Value) :
    Draws prog w A it [it, t, x1] items.size (fun i v => items[i]? = some v) (fun i h => h.IsTupleIter it t i ∧ h.IsTuple t items ∧ HotAt A x1 h) where
  live := fun _ _ st => let ⟨o, ho, _⟩ := st.1; ⟨o, ho⟩
  frame := fun _ _ _ st hk => ⟨st.1.at fun o e => hk it (by simp) o e, st.2.1.at fun o e => hk t (by simp) o e, st.2.2.keep fun o e => hk x1 (by simp) o e⟩
  item := fun i s Q E hi st hQ => by
    refine wpAny_nextOf_tuple_item st.1 st.2.1 (x := items[i]) (by simp [hi]) fun h' hit' hs' => ?_
    exact hQ _ h' s.toks (by simp [hi]) ⟨hit', st.2.1.extBut hs'.extBut hne, st.2.2.keep fun o e => hs'.extBut x1 o hnx e⟩ hs'
  done := fun s Q E st hE => nextOf_tuple_end_hot st.2.2 hnx st.1 st.2.1 (by simp) hE
end
end HotX

/-! Walks of tuples, texts and enumerate where an exception is being handled; for loops and pairs there. -/
namespace Wl
open PySem PySem.Spec PyProof.Rows L2
theorem hot_of {X : Cx} {pins : List (Addr × Obj)} {s : Shared} {σ : L2.St} {H : Hp} {hd : Addr} (I : Inv X pins σ H s) (hot : X.A.handled = some (.ref hd)) (hh : HotH hd H) : HotX.HotAt X.A hd s.heap := by
  obtain ⟨cls, d, e⟩ := hh
  exact exH_hot I.hok e hot
theorem hot_ne {hd b : Addr} {H : Hp} (hh : HotH hd H) (hb : H b = none) : hd ≠ b := fun e => by
  obtain ⟨cls, d, q⟩ := hh
  subst e
  rw [hb] at q
  cases q
section
variable {P : Program} {w : World} {K : PySem.W.Frag} {hd : Addr} {tg : Expr}
theorem turn_tupleT (a it : Addr) : TurnT P w K hd tg (Itt K a) [it] it (fun i h => h.IsTupleIter it a i) where
  mem := by simp
  obj := fun i h st b hb => by
    have e : b = it := by simpa using hb
    subst e
    obtain ⟨o, e, c, d⟩ := st
    exact ⟨o, e, fun v z => by rw [d] at z; cases z⟩
  keep := fun i h h' st k => st.at fun o e => k it (by simp) o e
  item := by
    intro X hP hw hK hc i pins s σ H E I hf st hg
    subst hP hw hK
    obtain ⟨xs, x, hq, hx⟩ := hg
    obtain ⟨its, rv, p, hz⟩ := I.tuple hq
    obtain ⟨u, hu, ru⟩ := rv.get hx
    obtain ⟨f0, f1, f2, f3, f4, f5⟩ := hf it (by simp)
    refine wpAny_pyNext_tuple_item st (show s.heap.IsTuple a its.toArray from p) (x := u) (by simpa using hu) fun h' st' sb => ?_
    have I1 : Inv X pins σ H { s with heap := h' } := I.turned (t' := s.toks) (fun b o hb e => (sb.2 b hb).trans e) f0 f1 f3 f4 f5
    obtain ⟨o, e, c, d⟩ := id st'
    exact ⟨u, rfl, go_of (s := { s with heap := h' }) e c d (by decide) ⟨x, H, I1, ru, ⟨rfl, fun ys hy => by rw [I.tuple_inj hy hq]; exact hx⟩, st', fun b hb => (hf b hb).1⟩⟩
  done := by
    intro X hP hw hK hc i pins s σ H E I hf st hg hh
    subst hP hw hK
    obtain ⟨xs, hq, hx⟩ := hg
    obtain ⟨its, rv, p, hz⟩ := I.tuple hq
    obtain ⟨f0, f1, f2, f3, f4, f5⟩ := hf it (by simp)
    have hl := rv.length
    exact HotX.pyNext_tuple_end_hot (hot_of I hc hh) (hot_ne hh f0) st (show s.heap.IsTuple a its.toArray from p) (by simp; omega) fun h' eb => ⟨rfl, I.turned (t' := s.toks) (fun b o hb e => eb b o hb e) f0 f1 f3 f4 f5⟩
  self := fun _ _ _ _ _ st h => wpAny_pyIter_tupleiter st h
/-- a text of plain signs -/
theorem turn_strT (it : Addr) (x : Str) (t : Tok) : TurnT P w K hd tg (Its x) [it] it (fun i h => h.IsStrIter it "str_ascii_iterator" x t i) where
  mem := by simp
  obj := fun i h st b hb => by
    have e : b = it := by simpa using hb
    subst e
    obtain ⟨o, e, c, d⟩ := st
    exact ⟨o, e, fun v z => by rw [d] at z; cases z⟩
  keep := fun i h h' st k => let ⟨o, ho, r⟩ := st; ⟨o, k it (by simp) o ho, r⟩
  item := by
    intro X hP hw hK hc i pins s σ H E I hf st hg
    subst hP hw hK
    obtain ⟨f0, f1, f2, f3, f4, f5⟩ := hf it (by simp)
    have hlt : i < x.cps.size := hg
    refine wpAny_pyNext_ascii_item st (c := x.cps[i]) (by simp [hlt]) fun h' st' sb => ?_
    have I1 : Inv X pins σ H { s with heap := h', toks := s.toks + 1 } := I.turned (t' := s.toks + 1) (fun b o hb e => (sb.2 b hb).trans e) f0 f1 f3 f4 f5
    obtain ⟨oi, e, cc, dd⟩ := id st'
    exact ⟨_, rfl, go_of (s := { s with heap := h', toks := s.toks + 1 }) e cc dd (by decide) ⟨.str ⟨#[x.cps[i]]⟩, H, I1, ⟨s.toks, rfl⟩, ⟨rfl, x.cps[i], by simp [hlt], rfl⟩, st', fun b hb => (hf b hb).1⟩⟩
  done := by
    intro X hP hw hK hc i pins s σ H E I hf st hg hh
    subst hP hw hK
    obtain ⟨f0, f1, f2, f3, f4, f5⟩ := hf it (by simp)
    have hx : x.cps[i]? = none := Array.getElem?_eq_none hg
    exact HotX.pyNext_ascii_end_hot (hot_of I hc hh) (hot_ne hh f0) st hx fun h' eb => ⟨rfl, I.turned (t' := s.toks) (fun b o hb e => eb b o hb e) f0 f1 f3 f4 f5⟩
  self := fun A i s Q E st h => wpAny_pyIter_striter_ascii st h
/-- enumerate of a tuple -/
def IteTH (hd : Addr) (K : PySem.W.Frag) (a : Addr) : It where
  go := fun i H => (IteT K a).go i H ∧ HotH hd H
  yld := (IteT K a).yld
  stop := (IteT K a).stop
theorem turn_enumTT {elts : List Expr} {kk : Nat} {tpos : Pos} (a e it : Addr) :
    TurnT P w K hd (.Tuple elts kk tpos) (IteTH hd K a) [e, it] e (fun i h => (∃ old, IsEnum h e it ((i : Nat) : Int) old) ∧ h.IsTupleIter it a i ∧ e ≠ it) where
  mem := by simp
  obj := fun i h st b hb => by
    obtain ⟨⟨old, he⟩, ⟨o, ho, hc, hd⟩, _⟩ := st
    rcases (show b = e ∨ b = it by simpa using hb) with z | z
    · subst z; exact ⟨_, he, fun v q => nomatch q⟩
    · subst z; exact ⟨o, ho, fun v q => by rw [hd] at q; cases q⟩
  keep := fun i h h' st k => let ⟨⟨old, he⟩, hi, hne⟩ := st; ⟨⟨old, k e (by simp) _ he⟩, hi.at fun o q => k it (by simp) o q, hne⟩
  item := by
    intro X hP hw hK hc i pins s σ H E I hf st hg
    subst hP hw hK
    obtain ⟨⟨old, he⟩, hit, hne⟩ := st
    obtain ⟨⟨xs, x, hq, hx⟩, hh⟩ := hg
    obtain ⟨its, rv, p, hz⟩ := I.tuple hq
    obtain ⟨u, hu, ru⟩ := rv.get hx
    have hT : s.heap.IsTuple a its.toArray := p
    obtain ⟨oi, hoi, hci, _⟩ := id hit
    obtain ⟨oa, hoa, hca, _⟩ := id hT
    have hel : e < s.heap.objs.size := Heap.lt_size he
    have hil : it < s.heap.objs.size := Heap.lt_size hoi
    have nai : a ≠ it := apart_of hoa hoi (by rw [hca, hci]; decide)
    have nea : e ≠ a := apart_of he hoa (by rw [hca]; show Value.type "enumerate" ≠ Value.type "tuple"; decide)
    have hi : i < its.toArray.size := by
      have := (List.getElem?_eq_some_iff.mp hu).1
      simpa using this
    have nhe : hd ≠ e := hot_ne hh (hf e (by simp)).1
    have nhi : hd ≠ it := hot_ne hh (hf it (by simp)).1
    refine wpAny_pyNext_enum_itemD (HotX.draws_tuple_hot (prog := X.prog) (w := X.w) (A := X.A.in1) (x1 := hd) it a nai nhi its.toArray) he ⟨hit, hT, hot_of I hc hh⟩ hi hne (by simp [hne, nea, Ne.symm nhe]) fun y h' tk hy ho hst hTp hsz hk => ?_
    obtain rfl : u = y := by
      have q : its.toArray[i]? = some u := by simpa using hu
      exact Option.some.inj (q.symm.trans hy)
    refine ⟨_, rfl, wpAny_letOwnedTupleGo_enum (s := { s with heap := h', toks := tk + 1 }) ho fun h'' he' sb => ?_⟩
    have hT2 : h''.get? s.heap.objs.size = some { cls := .type "tuple", data := .seq #[.int i tk, u] } := (sb.2 _ (Nat.ne_of_gt hel)).trans hTp
    have new : ObjOk X.prog X.w (upd H s.heap.objs.size (.tup [.int (i : Nat), x])) h'' s.heap.objs.size (.tup [.int (i : Nat), x]) :=
      ⟨by show 2 ≤ sizeLine; decide, [.int i tk, u], .cons ⟨_, rfl⟩ (.cons ru .nil), ⟨_, hT2, rfl, _, rfl⟩⟩
    have I1 : L2.Inv X pins σ (upd H s.heap.objs.size (.tup [.int (i : Nat), x])) { s with heap := h'', toks := tk + 1 } :=
      I.turnedNew (ch := [e, it]) (fun b ob hb q => by
        simp only [List.mem_cons, List.not_mem_nil, or_false, not_or] at hb
        exact (sb.2 b hb.1).trans (hk b ob hb.1 hb.2 q)) hf (Nat.le_refl _) new
    have e1 : ((i + 1 : Nat) : Int) = (i : Int) + 1 := by omega
    refine ⟨.ref s.heap.objs.size, _, I1, rfl, ⟨_, x, rfl, I.hok.fresh (Nat.le_refl _), rfl, fun ys hy => by rw [I.tuple_inj hy hq]; exact hx⟩,
      ⟨⟨u, by rw [e1]; exact he'⟩, hst.1.at fun o q => (sb.2 it (Ne.symm hne)).trans q, hne⟩, fun b hb => ?_⟩
    have hb' : b < s.heap.objs.size := by
      rcases (show b = e ∨ b = it by simpa using hb) with z | z <;> subst z <;> assumption
    rw [upd_ne (Nat.ne_of_lt hb')]
    exact (hf b hb).1
  done := by
    intro X hP hw hK hc i pins s σ H E I hf st hg hh
    subst hP hw hK
    obtain ⟨⟨old, he⟩, hit, hne⟩ := st
    obtain ⟨xs, hq, hx⟩ := hg
    obtain ⟨its, rv, p, hz⟩ := I.tuple hq
    obtain ⟨f0, f1, f2, f3, f4, f5⟩ := hf it (by simp)
    have hT : s.heap.IsTuple a its.toArray := p
    have hl : xs.length = its.length := rv.length
    have hT2 : ¬ (i < its.toArray.size) := by simp; omega
    show wpAny _ _ (pyNext (.ref e)) _ _ s
    have hTy : s.TypeIs (.ref e) "enumerate" := ⟨_, he, rfl⟩
    unfold pyNext
    refine wpAny_bind (wpAny_attempt (wpAny_callSpecial?_slot (name := Str.ofString "__next__") hTy F.slot_enumerate_next (wpAny_call_entry F.slot_enumerate_next hTy F.entry_enumerate_next ?_ (F.args_enumerate_next_1 _))))
    show wpAny _ _ (field (.ref e) 2 >>= _) _ _ _
    refine wpAny_bind (wpAny_field he rfl (x := .ref it) rfl (wpAny_bind (HotX.nextOf_tuple_end_hot (A := X.A.in1) (hot_of I hc hh) (hot_ne hh f0) hit hT (Array.getElem?_eq_none (by omega)) fun h' x he' hx' => ?_)))
    obtain ⟨o, ho, hcc⟩ := hx'
    exact wpAny_bind (wpAny_isInstance (T := "StopIteration") (b := true) ⟨o, ho, hcc⟩ isSubtype_stop (wpAny_pure ⟨rfl, I.turned (t' := s.toks) (fun b o hb q => he' b o hb q) f0 f1 f3 f4 f5⟩))
  self := fun A i s Q E st h => let ⟨⟨_, he⟩, _⟩ := st; wpAny_pyIter_enum he h
end
section
variable {X : Cx} {hd : Addr} {tg : Expr}
theorem pi_oneT {pins : List (Addr × Obj)} {σ : L2.St} {H : Hp} {s : Shared} {R : It → Hp → Prop} {J : It} {tn : Nat → Heap → Prop} {tk : Nat} (I : Inv X pins σ H s) (o : Obj)
    (T : TurnT X.prog X.w X.K hd tg J [s.heap.objs.size] s.heap.objs.size tn) (st : tn 0 (s.heap.push o)) (q : R (ItHot hd J) H) : PIET X hd pins σ tg R (.ref s.heap.objs.size) { s with heap := s.heap.push o, toks := tk } := by
  refine ⟨s.heap.objs.size, [s.heap.objs.size], tn, J, H, rfl, I.kept fun b ob e => Heap.get?_push_of_some _ e, T, st, fun b hb => ?_, q⟩
  have e : b = s.heap.objs.size := by simpa using hb
  subst e
  exact I.fpOk (Nat.le_refl _) (I.hok.fresh (Nat.le_refl _))
def iTupT (hd : Addr) (K : PySem.W.Frag) (tl : TE) : TI := fun σ H R => tl σ H fun x H1 => ∃ a, x = .ref a ∧ (∃ xs, SqT K H1 a xs) ∧ R (ItHot hd (Itt K a)) H1
theorem pi_tupT {l : Expr} {tl : TE} (hl : PE X l tl) : PIT X hd tg l (iTupT hd X.K tl) := by
  refine ⟨fun pins s σ H R I h => ?_⟩
  refine thn (hl.run pins s σ H _ I h) fun v s1 ⟨x, H1, I1, r1, q1⟩ => ?_
  obtain ⟨a, e, ⟨xs, hq⟩, q⟩ := q1
  subst e
  cases r1
  obtain ⟨its, rv, p, hz⟩ := I1.tuple hq
  refine wpAny_pyIter_tuple (show s1.heap.IsTuple a its.toArray from p) ?_
  exact pi_oneT (tk := s1.toks) I1 _ (turn_tupleT a _) ⟨_, Heap.get?_push_size _ rfl, rfl, rfl⟩ q
def iStrT (hd : Addr) (te : TE) : TI := fun σ H R => te σ H fun v H1 => ∃ x, v = .str x ∧ x.cps.all (· < 128) = true ∧ R (ItHot hd (Its x)) H1
theorem pi_strT {e : Expr} {te : TE} (he : PE X e te) : PIT X hd tg e (iStrT hd te) := by
  refine ⟨fun pins s σ H R I h => ?_⟩
  refine thn (he.run pins s σ H _ I h) fun v s1 ⟨y, H1, I1, r1, x, ex, ha, q⟩ => ?_
  subst ex
  obtain ⟨t, rfl⟩ := r1
  exact wpAny_pyIter_ascii ha (pi_oneT (tk := s1.toks) I1 _ (turn_strT _ x t) ⟨_, Heap.get?_push_size _ rfl, rfl, rfl⟩ q)
def iEnumTT (hd : Addr) (K : PySem.W.Frag) (ta : TA) : TI := fun σ H R => ta σ H fun vs H1 => ∃ a xs, vs = [.ref a] ∧ SqT K H1 a xs ∧ R (ItHot hd (IteTH hd K a)) H1
theorem pi_enumTT {e : Expr} {ta : TA} {p pos tpos : Pos} {elts : List Expr} {kk : Nat} (hg : Gl X "enumerate") (hm : X.mg "enumerate" = none) (ha : PA X [e] ta) (hs : starEach [e] X.env = [(false, eval e X.env)] := by rfl) :
    PIT X hd (.Tuple elts kk tpos) (.Call (.Name "enumerate" p) [e] [] pos) (iEnumTT hd X.K ta) := by
  refine ⟨fun pins s σ H R I h => ?_⟩
  refine Call_ (ld_blt I hg hm boot_enumerate (PyProof.Rows.callWith_type1 (thn (ha.run pos pins s σ H _ I h) fun us s1 ⟨vs, H1, I1, r1, q1⟩ => ?_) hs rfl))
  obtain ⟨a, xs, rfl, hq, q⟩ := q1
  obtain ⟨u, rfl, ru⟩ := vals1 r1
  obtain rfl : u = Value.ref a := ru
  obtain ⟨its, rv, p', hz⟩ := I1.tuple hq
  refine make_enumT (show s1.heap.IsTuple a its.toArray from p') fun h' he hit hk => wpAny_pyIter_enum he ?_
  refine ⟨s1.heap.objs.size + 1, [s1.heap.objs.size + 1, s1.heap.objs.size], _, _, H1, rfl, I1.kept (t' := s1.toks) hk, turn_enumTT a (s1.heap.objs.size + 1) s1.heap.objs.size, ⟨⟨.none, he⟩, hit, Nat.succ_ne_self _⟩, fun b hb => ?_, q⟩
  have hle : s1.heap.objs.size ≤ b := by
    rcases (show b = s1.heap.objs.size + 1 ∨ b = s1.heap.objs.size by simpa using hb) with z | z <;> rw [z]
    · exact Nat.le_add_right _ _
    · exact Nat.le_refl _
  exact I1.fpOk hle (I1.hok.fresh hle)
theorem walk_hot {J : It} {n : Nat} {G : Hp → Prop} {Y : Nat → Hp → V → Hp → Prop} (w : L2.Walk J n G Y) : L2.Walk (ItHot hd J) n (fun H => G H ∧ HotH hd H) Y :=
  ⟨fun i H hi g => w.goes i H hi g.1, fun H g => ⟨w.stops H g.1, g.2⟩, fun i H x H' hi g y => w.yields i H x H' hi g.1 y⟩
theorem walk_enumTH {K : PySem.W.Frag} {a : Addr} {xs : List V} : L2.Walk (ItHot hd (IteTH hd K a)) xs.length (fun H => SqT K H a xs ∧ HotH hd H) (YPair (fun i => some (.int (i : Nat))) (fun i => xs[i]?)) :=
  ⟨fun i H hi g => ⟨(walk_enumT (K := K) (a := a) (xs := xs)).goes i H hi g.1, g.2⟩, fun H g => ⟨(walk_enumT (K := K) (a := a) (xs := xs)).stops H g.1, g.2⟩, fun i H x H' hi g y => (walk_enumT (K := K) (a := a) (xs := xs)).yields i H x H' hi g.1 y⟩
theorem ps_forT {iter : Expr} {body : List Stmt} {wi : TI} {g : TG} {tb : TS} {pos : Pos} (hot : X.A.handled = some (.ref hd)) (hp : PassesOwn (model X.prog X.w) X.A X.env X.xe) (hi : PIT X hd tg iter wi) (hg : PG X tg g) (hb : PSs X body tb)
    (hs : ∀ x, foldedSetIterable iter X.env x = pure x := by intro _; rfl) : PS X (.For tg iter body [] pos) (tFor wi g tb) := by
  refine ⟨fun pins s σ H D I h => ?_⟩
  refine wpAny_For (thn (hi.run pins s σ H _ I h) fun v s1 h1 => thn h1 fun itv s2 h2 => ?_) hs
  obtain ⟨it, fp, tn, J, H2, e, I2, T, st2, f2, W, ⟨m0, w0⟩, turn⟩ := h2
  subst e
  have stat : ∀ {H' : Hp}, (∀ b ∈ fp, H' b = none) → ∀ b ∈ fp, FpOk X pins H' b := fun hn b hb => ⟨hn b hb, (f2 b hb).2⟩
  refine codeAny_forLoop_any (fun n s' => ∃ i σ' H', Inv X pins σ' H' s' ∧ tn i s'.heap ∧ (∀ b ∈ fp, H' b = none) ∧ W i n σ' H') ?_ m0 ⟨0, σ, H2, I2, st2, fun b hb => (f2 b hb).1, w0⟩
  rintro n s3 ⟨i, σ3, H3, I3, st3, fr3, w3⟩
  rcases turn i n σ3 H3 w3 with ⟨stop, qn⟩ | ⟨go, N, hN, step⟩
  · refine wpAny_passesOwn hp (thn (T.done X rfl rfl rfl hot i pins s3 σ3 H3 X.xe I3 (stat fr3) st3 stop.1 stop.2) fun r s4 ⟨hr, I4⟩ => ?_)
    subst hr
    exact wpAny_execs_nil ⟨σ3, H3, I4, qn⟩
  · refine wpAny_passesOwn hp (thn (T.item X rfl rfl rfl hot i pins s3 σ3 H3 X.xe I3 (stat fr3) st3 go) fun r s4 ⟨u, hr, h4⟩ => ?_)
    subst hr
    refine wpAny_passesOwn hp (thn h4 fun _ s5 ⟨x, H5, I5, r5, y5, st5, fr5⟩ => ?_)
    have I5' := I5.pinned (stat fr5) (T.obj _ _ st5)
    refine wpAny_passesOwn hp (thn (hg.run _ s5 σ3 H5 x u _ I5' r5 (step x H5 y5)) fun _ s6 ⟨σ6, H6, I6, q6⟩ => ?_)
    refine wpAny_passesOwn hp (thn (hb.run _ s6 σ6 H6 _ I6 q6) fun f s7 q7 => ?_)
    have again : ∀ {σ7 : L2.St} {H7 : Hp}, Inv X (pins ++ pinsAt fp s5.heap) σ7 H7 s7 → N σ7 H7 → ∃ m, m < n ∧ ∃ i σ' H', Inv X pins σ' H' s7 ∧ tn i s7.heap ∧ (∀ b ∈ fp, H' b = none) ∧ W i m σ' H' := fun {σ7 H7} I7 n7 => by
      obtain ⟨m', hm, w7⟩ := hN σ7 H7 n7
      refine ⟨m', hm, i + 1, σ7, H7, I7.unpinned, T.keep _ _ _ st5 fun b hb o e => (I7.pin (b, o) (List.mem_append_right _ (List.mem_append_right _ (mem_pinsAt hb e)))).1, fun b hb => ?_, w7⟩
      obtain ⟨o, e, d⟩ := T.obj _ _ st5 b hb
      exact (I7.pin (b, o) (List.mem_append_right _ (List.mem_append_right _ (mem_pinsAt hb e)))).2.1
    cases f with
    | next => obtain ⟨σ7, H7, I7, n7⟩ := q7; exact again I7 n7
    | cont => obtain ⟨σ7, H7, I7, n7⟩ := q7; exact again I7 n7
    | brk => obtain ⟨σ7, H7, I7, q7⟩ := q7; exact ⟨σ7, H7, I7.unpinned, q7⟩
    | ret v => obtain ⟨x7, σ7, H7, I7, r7, q7⟩ := q7; exact ⟨x7, σ7, H7, I7.unpinned, r7, q7⟩
/-- (a, b, ..) = a tuple of that length, there -/
def gTupT (hd : Addr) (K : PySem.W.Frag) (n : Nat) (t : TGs) : TG := fun v σ H Q => HotH hd H ∧ ∃ a xs, v = .ref a ∧ SqT K H a xs ∧ xs.length = n ∧ t xs σ H Q
theorem pg_tupT {es : List Expr} {k : Nat} {t : TGs} {n : Nat} {pos : Pos} (hot : X.A.handled = some (.ref hd)) (h : PGs X es t)
    (hn : (assignEach es X.env).length = n := by rfl) (hst : (assignEach es X.env).findIdx? (·.1) = none := by rfl) : PG X (.Tuple es k pos) (gTupT hd X.K n t) := by
  refine ⟨fun pins s σ H v u Q I r hw => ?_⟩
  obtain ⟨hh, a, xs, e1, hq, hl, hw⟩ := hw
  subst e1
  cases r
  obtain ⟨its, rv, ht, hz⟩ := I.tuple hq
  refine HotX.assign_Tuple_hot (hot_of I hot hh) ht (by simp [hn, ← hl, rv.length]) hst fun h' hx => ?_
  have I1 : Inv X pins σ H { s with heap := h' } := I.kept (t' := s.toks) fun b o e => hx b o (Nat.ne_of_lt (Heap.lt_size e)) e
  exact h.run pins _ σ H xs _ Q I1 (by simpa using rv) hw
/-- all(xs) there -/
def rAllT (hd : Addr) (K : PySem.W.Frag) : List V → Hp → VK → Prop := fun vs H Q => HotH hd H ∧ rAll K vs H Q
theorem cr_allT (hot : X.A.handled = some (.ref hd)) : CallR X (.builtin "all") (rAllT hd X.K) := by
  intro pins s σ H vs us Q I r h
  obtain ⟨hh, a, bs, rfl, hs, q⟩ := h
  obtain ⟨its, rv, hl, _⟩ := I.list hs
  rw [Vals.ref1 r]
  have hb := rv.bls
  have hat := hot_of I hot hh
  obtain ⟨o1, e1⟩ := hat.there
  refine call_all_walk (iter_any hl.isList fun s₂ e2 st hne => ?_)
  subst e2
  refine ⟨_, _, _, _, _, _, _, rfl, HotX.walks_list_hot (A := X.A.in1) (x1 := hd) hot _ a hne (Nat.ne_of_lt (Heap.lt_size e1)) its.toArray, ⟨st.1, st.2, HotX.HotAt.keep hat fun o e => Heap.get?_push_of_some _ e⟩, truth_bools hb, fun h' tk hk => ?_⟩
  refine ⟨.bl _, H, I.kept fun b o eo => hk b o (fun hmem => ?_) (Heap.get?_push_of_some _ eo), ?_, q⟩
  · rcases List.mem_cons.mp hmem with e1 | hmem
    · exact absurd (e1 ▸ Heap.lt_size eo) (Nat.lt_irrefl _)
    · cases hmem
  · show Value.bool _ = Value.bool _
    rw [← L2.all_range, hb, List.size_toArray, List.length_map]
end
end Wl

/-! A dict comprehension of two clauses where an exception is being handled. -/
namespace Wl
open PySem PySem.Spec PyProof.Rows L2
section
variable {Y : Cx} {pins : List (Addr × Obj)} {σ : L2.St} {H : Hp} {s : Shared} {tg : Expr} {J : It} {fp : List Addr} {it : Addr} {tn : Nat → Heap → Prop}
/-- an item comes: stored and tested, the walk's objects held meanwhile -/
theorem clauseT {hd : Addr} {g : TG} {tt : TT} {fs : List Expr} {i : Nat} {C : L2.St → Prop} {Z : L2.St → Bool → Hp → Prop} {stop : Shared → Prop} {k : Bool → Shared → Prop} {E : Value → Shared → Prop}
    (quiet : Y.xe = fun _ _ => False) (hc : Y.A.handled = some (.ref hd)) (T : TurnT Y.prog Y.w Y.K hd tg J fp it tn) (pg : PG Y tg g) (pt : PTs Y fs tt) (I : L2.Inv Y pins σ H s)
    (free : ∀ {H' : Hp}, (∀ b ∈ fp, H' b = none) → ∀ b ∈ fp, FpOk Y pins H' b) (none0 : ∀ b ∈ fp, H b = none) (st : tn i s.heap) (go : J.go i H)
    (step : ∀ x H', J.yld i H x H' → g x σ H' fun σ2 H2 => C σ2 ∧ tt σ2 H2 (Z σ2))
    (next : ∀ {s1 s2 : Shared} {σ2 : L2.St} {b : Bool} {H2 : Hp}, tn (i + 1) s1.heap → C σ2 → L2.Inv Y (pins ++ pinsAt fp s1.heap) σ2 H2 s2 → Z σ2 b H2 → k b s2) :
    Turned (model Y.prog Y.w) Y.A Y.env tg (.ref it) fs stop k E s := by
  unfold Turned
  refine thnF (T.item Y rfl rfl rfl hc i pins s σ H (fun _ _ => False) I (free none0) st go) ?_
  rintro _ s1 ⟨u, rfl, h1⟩
  refine thnF h1 ?_
  rintro _ s2 ⟨x, H2, I2, rx, yx, st2, n2⟩
  have held := I2.pinned (free n2) (T.obj _ _ st2)
  have run1 := pg.run _ s2 _ H2 x u _ held rx (step x H2 yx)
  rw [quiet] at run1
  refine thnF run1 ?_
  rintro _ s3 ⟨σ3, H3, I3, c3, q3⟩
  have run2 := pt.run _ s3 σ3 H3 _ I3 q3
  rw [quiet] at run2
  refine thnF run2 ?_
  rintro b s4 ⟨H4, I4, q4⟩
  exact next st2 c3 I4 q4
/-- behind the turn the walk's objects stand as they did -/
theorem walk_staysT {hd : Addr} {i : Nat} {h : Heap} (T : TurnT Y.prog Y.w Y.K hd tg J fp it tn) (st : tn i h) (I : L2.Inv Y (pins ++ pinsAt fp h) σ H s) : tn i s.heap ∧ ∀ b ∈ fp, H b = none := by
  have each : ∀ b ∈ fp, ∀ o, h.get? b = some o → s.heap.get? b = some o ∧ H b = none := fun b hb o e => by
    have z := I.pin (b, o) (List.mem_append_right _ (List.mem_append_right _ (mem_pinsAt hb e)))
    exact ⟨z.1, z.2.1⟩
  refine ⟨T.keep i h s.heap st fun b hb o e => (each b hb o e).1, fun b hb => ?_⟩
  obtain ⟨o, e, _⟩ := T.obj i h st b hb
  exact (each b hb o e).2
end
section
variable {X : Cx}
theorem pe_dc2T {hd : Addr} {kx vx ta ia tb ib : Expr} {fa fb : List Expr} {sc : Scope} {own : List (Str × Nat)} {vs1 : List Nat} {pos : Pos} {wa wb : TI} {ga gb : TG} {tta ttb : TT} {tk tv : TE} (hc : X.A.handled = some (.ref hd)) (hN : X.N.Nodup) (hi : PIT X hd ta ia wa) (ok : BlkOk X.N X.env.scope sc own) (hv : ∀ i ∈ vs1, i ∈ own.map (·.2))
    (hga : ∀ s H C cl fp, PG (inBlk X sc s H C cl fp) ta ga) (hta : ∀ s H C cl fp, PTs (inBlk X sc s H C cl fp) fa tta) (hib : ∀ s H C cl fp, PIT (inBlk X sc s H C cl fp) hd tb ib wb) (hgb : ∀ s H C cl fp, PG (inBlk X sc s H C cl fp) tb gb) (htb : ∀ s H C cl fp, PTs (inBlk X sc s H C cl fp) fb ttb)
    (hk : ∀ s H C cl fp, PE (inBlk X sc s H C cl fp) kx tk) (he : ∀ s H C cl fp, PE (inBlk X sc s H C cl fp) vx tv)
    (pa : ∀ x, foldedSetIterable ia X.env x = pure x := by intro _; rfl) (pb : ∀ env x, foldedSetIterable ib env x = pure x := by intro _ _; rfl) :
    PE X (.DictComp kx vx [⟨ta, ia, fa, 0⟩, ⟨tb, ib, fb, 0⟩] sc pos) (tDc2 wa ga tta wb gb ttb tk tv (own.map (·.2)) vs1) := by
  refine ⟨fun pins s σ H Q I h => ?_⟩
  rw [arm_eval_DictComp]
  have clo : ∀ y ∈ sc.names, y.2 = .free → ∃ c, X.env.cells.lookup y.1 = some c := fun y hy e => (ok.free y hy e).elim (fun k => I.ok.has _ (.inl k)) fun k => I.ok.has _ (.inr k)
  refine wpAny_comprehension_free rfl pa (closure_ok clo) ok.kind (fun y hy e => by rw [ok.uniq y hy, e]) (thn (hi.run pins s σ H _ I h) fun _ _ h1 => thn h1 ?_)
  rintro _ s2 ⟨it, fp, tn, J, H2, rfl, I2, T, st2, f2, q⟩
  refine wpAny_newObj_type (newEnv_comp ?_)
  generalize hD : s2.heap.objs.size = D
  have newD : H2 D = none := I2.hok.fresh (Nat.le_of_eq hD)
  obtain ⟨W, ⟨m0, w0⟩, turn⟩ := q D newD
  generalize hs3 : ({ s2 with heap := s2.heap.push { cls := .type "dict", data := .dict #[] } } : Shared) = s3
  have e3 : s3.heap = s2.heap.push { cls := .type "dict", data := .dict #[] } := by rw [← hs3]
  have I3 : L2.Inv X pins σ (upd H2 D (.dK [])) s3 := by
    rw [← hs3]
    exact I2.laid (t' := s2.toks) (fun b o e => Heap.get?_push_of_some _ e) (Nat.le_of_eq hD) (hD ▸ dk_empty s2.heap I2.big)
  have f3 : ∀ b ∈ fp, FpOk X pins (upd H2 D (.dK [])) b ∧ b < s3.heap.objs.size := fun b hb => by
    obtain ⟨o, e, _⟩ := T.obj _ _ st2 b hb
    have small := Heap.lt_size e
    refine ⟨⟨?_, (f2 b hb).2⟩, ?_⟩
    · rw [upd_ne (Nat.ne_of_lt (hD ▸ small))]
      exact (f2 b hb).1
    · rw [e3, Heap.size_push]
      exact Nat.lt_succ_of_lt small
  have st3 : tn 0 s3.heap := T.keep _ _ _ st2 fun b _ o e => by
    rw [e3]
    exact Heap.get?_push_of_some _ e
  have I4 := block_start I3 ok hN f3
  generalize hcl : cellsFrom (s3.heap.objs.size + 1) sc.names (cloFrom X.env.cells sc.names []) = cl at I4
  show codeAny _ _ (.compStart (two kx vx ta ia tb ib fa fb sc pos) 0 (.ref it) (.ref D) (compEnvC sc cl s3.heap.objs.size X.env)) (compPost (model X.prog X.w) X.A X.xe none (EP X pins σ Q) (.ref D) s3.heap.objs.size) { s3 with heap := pushCells (s3.heap.push { cls := .type "dict", data := .dict #[] }) sc.names }
  have none3 : ∀ b ∈ fp, (upd H2 D (.dK [])) b = none := fun b hb => (f3 b hb).1.1
  generalize hH3 : upd H2 D (.dK []) = H3 at I3 I4 w0 none3 f3
  have jga : PG (X.blk s3 H3 sc (compEnvC sc cl s3.heap.objs.size X.env) fp) ta ga := hga s3 H3 s3.heap.objs.size cl fp
  have jta : PTs (X.blk s3 H3 sc (compEnvC sc cl s3.heap.objs.size X.env) fp) fa tta := hta s3 H3 s3.heap.objs.size cl fp
  have jib : PIT (X.blk s3 H3 sc (compEnvC sc cl s3.heap.objs.size X.env) fp) hd tb ib wb := hib s3 H3 s3.heap.objs.size cl fp
  have jgb : PG (X.blk s3 H3 sc (compEnvC sc cl s3.heap.objs.size X.env) fp) tb gb := hgb s3 H3 s3.heap.objs.size cl fp
  have jtb : PTs (X.blk s3 H3 sc (compEnvC sc cl s3.heap.objs.size X.env) fp) fb ttb := htb s3 H3 s3.heap.objs.size cl fp
  have jk : PE (X.blk s3 H3 sc (compEnvC sc cl s3.heap.objs.size X.env) fp) kx tk := hk s3 H3 s3.heap.objs.size cl fp
  have je : PE (X.blk s3 H3 sc (compEnvC sc cl s3.heap.objs.size X.env) fp) vx tv := he s3 H3 s3.heap.objs.size cl fp
  generalize hs4 : ({ s3 with heap := pushCells (s3.heap.push { cls := .type "dict", data := .dict #[] }) sc.names } : Shared) = s4 at I4 ⊢
  have st4 : tn 0 s4.heap := T.keep _ _ _ st3 fun b _ o e => by
    rw [← hs4]
    exact pushCells_keeps _ _ _ _ (Heap.get?_push_of_some _ e)
  generalize hce : compEnvC sc cl s3.heap.objs.size X.env = ce at I4 jga jta jib jgb jtb jk je ⊢
  have cL : ce.locals = s3.heap.objs.size := by
    subst hce
    rfl
  have free0 : ∀ {H' : Hp}, (∀ b ∈ fp, H' b = none) → ∀ b ∈ fp, FpOk (X.blk s3 H3 sc ce fp) [] H' b := fun n b hb =>
    ⟨n b hb, (I4.ok.exf b hb).1, I4.ok.exfs b hb, .inl hb, (I4.ok.exf b hb).2, fun p hp => nomatch (show p ∈ ([] : List (Addr × Obj)) from hp)⟩
  have loop : codeAny (model X.prog X.w) X.A (.compLoop (two kx vx ta ia tb ib fa fb sc pos) 0 (.ref it) (.ref D) ce) (compPost (model X.prog X.w) X.A X.xe none (EP X pins σ Q) (.ref D) s3.heap.objs.size) s4 := by
    refine loopA (pb ce) (fun n s' => ∃ i H', L2.Inv (X.blk s3 H3 sc ce fp) [] (wipe σ (own.map (·.2))) H' s' ∧ tn i s'.heap ∧ (∀ b ∈ fp, H' b = none) ∧ W i n H') ?_ m0 ⟨0, H3, I4, st4, none3, w0⟩
    rintro n s5 ⟨i, H5, I5, st5, n5, w5⟩
    rcases turn i n H5 w5 with ⟨stop, qq⟩ | ⟨go, Nx, hNx, step⟩
    · unfold Turned
      refine thnF (T.done (X.blk s3 H3 sc ce fp) rfl rfl rfl hc i [] s5 _ H5 (fun _ _ => False) I5 (free0 n5) st5 stop.1 stop.2) ?_
      rintro _ s6 ⟨rfl, I6⟩
      have I7 : L2.Inv X pins σ H5 s6 := I3.call' (ch := fp) I6.os I6.base I6.hok I6.bare fun b hb => by
        obtain ⟨⟨_, a1, _, a3, a4, a5⟩, _⟩ := f3 b hb
        exact ⟨a3, a1, a4, a5⟩
      have nC : H5 s3.heap.objs.size = none := cL ▸ (show H5 ce.locals = none from I6.free)
      obtain ⟨m, hn, _⟩ := I6.loc
      have hn : s6.heap.Ns s3.heap.objs.size m := cL ▸ (show s6.heap.Ns ce.locals m from hn)
      obtain ⟨g0, g1, _, g3, g4, g5⟩ := I3.fpOk (H' := H5) (Nat.le_refl _) nC
      exact ⟨m, hn, fun h2 sb => ⟨.ref D, H5, I7.turned (t' := s6.toks) (fun b o hb e => (sb.2 b hb).trans e) g0 g1 g3 g4 g5, rfl, qq⟩⟩
    · refine clauseT (Y := X.blk s3 H3 sc ce fp) rfl hc T jga jta I5 free0 n5 st5 go step ?_
      intro s6 s7 σ7 b H7 st6 w7 I7 q7
      have hl7 : (wipe σ (own.map (·.2))).length = σ7.length := by rw [← w7, wipe_length]
      have fin : ∀ {σ8 : L2.St} {s8 : Shared} {H8 : Hp}, L2.Inv (X.blk s3 H3 sc ce fp) ([] ++ pinsAt fp s6.heap) σ8 H8 s8 → (wipe σ (own.map (·.2))).length = σ8.length → (∀ (j : Nat) v, (wipe σ (own.map (·.2)))[j]? = some (some v) → σ8[j]? = some (some v)) → Nx H8 →
          ∃ m, m < n ∧ ∃ i H', L2.Inv (X.blk s3 H3 sc ce fp) [] (wipe σ (own.map (·.2))) H' s8 ∧ tn i s8.heap ∧ (∀ b ∈ fp, H' b = none) ∧ W i m H' := by
        intro σ8 s8 H8 I8 hl hk nx
        obtain ⟨m', hm, w'⟩ := hNx H8 nx
        obtain ⟨t1, t2⟩ := walk_staysT (Y := X.blk s3 H3 sc ce fp) T st6 I8
        exact ⟨m', hm, i + 1, H8, (I8.unpinned (pins := [])).weak hl hk, t1, t2, w'⟩
      cases b with
      | false =>
        rw [if_neg (by decide)] at q7 ⊢
        exact fin I7 hl7 (fun j v e => (wipe_some (w7.symm ▸ e)).1) q7
      | true =>
        rw [if_pos rfl] at q7 ⊢
        refine thnF (jib.run _ s7 σ7 H7 _ I7 q7) fun _ s8 h8 => thnF h8 ?_
        rintro _ s9 ⟨it1, fp1, tn1, J1, H9, rfl, I9, T1, st9, f9, W1, ⟨m1, w1⟩, turn1⟩
        have free1 : ∀ {H' : Hp}, (∀ b ∈ fp1, H' b = none) → ∀ b ∈ fp1, FpOk (X.blk s3 H3 sc ce fp) ([] ++ pinsAt fp s6.heap) H' b := fun n b hb => ⟨n b hb, (f9 b hb).2⟩
        have loop1 : codeAny (model X.prog X.w) X.A (.compLoop (two kx vx ta ia tb ib fa fb sc pos) 1 (.ref it1) (.ref D) ce) (fun r s' => (∃ f, r = .ok f) ∧ ∃ m, m < n ∧ ∃ i H', L2.Inv (X.blk s3 H3 sc ce fp) [] (wipe σ (own.map (·.2))) H' s' ∧ tn i s'.heap ∧ (∀ b ∈ fp, H' b = none) ∧ W i m H') s9 := by
          refine loopB (fun k s' => ∃ j H', L2.Inv (X.blk s3 H3 sc ce fp) ([] ++ pinsAt fp s6.heap) (wipe σ7 vs1) H' s' ∧ tn1 j s'.heap ∧ (∀ b ∈ fp1, H' b = none) ∧ W1 j k H') ?_ m1 ⟨0, H9, I9.weak (wipe_length _ _) (fun j v e => (wipe_some e).1), st9, fun b hb => (f9 b hb).1, w1⟩
          rintro k s10 ⟨j, H10, I10, st10, n10, w10⟩
          rcases turn1 j k H10 w10 with ⟨stop1, nx1⟩ | ⟨go1, Nx1, hNx1, step1⟩
          · unfold Turned
            refine thnF (T1.done (X.blk s3 H3 sc ce fp) rfl rfl rfl hc j _ s10 (wipe σ7 vs1) H10 (fun _ _ => False) I10 (free1 n10) st10 stop1.1 stop1.2) ?_
            rintro _ s11 ⟨rfl, I11⟩
            refine ⟨⟨_, rfl⟩, fin I11 (hl7.trans (wipe_length σ7 vs1).symm) (fun j v e => ?_) nx1⟩
            obtain ⟨e1, e2⟩ := wipe_some (w7.symm ▸ e)
            rw [wipe_out fun z => e2 (hv j z)]
            exact e1
          · refine clauseT (Y := X.blk s3 H3 sc ce fp) rfl hc T1 jgb jtb I10 free1 n10 st10 go1 step1 ?_
            intro s11 s12 σ12 b1 H12 st11 w12 I12 q12
            have fin1 : ∀ {s' : Shared} {H' : Hp}, L2.Inv (X.blk s3 H3 sc ce fp) (([] ++ pinsAt fp s6.heap) ++ pinsAt fp1 s11.heap) σ12 H' s' → Nx1 H' → ∃ m, m < k ∧ ∃ j H', L2.Inv (X.blk s3 H3 sc ce fp) ([] ++ pinsAt fp s6.heap) (wipe σ7 vs1) H' s' ∧ tn1 j s'.heap ∧ (∀ b ∈ fp1, H' b = none) ∧ W1 j m H' := by
              intro s' H' I' nx
              obtain ⟨m', hm, w'⟩ := hNx1 H' nx
              obtain ⟨t1, t2⟩ := walk_staysT (Y := X.blk s3 H3 sc ce fp) T1 st11 I'
              exact ⟨m', hm, j + 1, H', I'.unpinned.weak (by rw [← w12, wipe_length]) (fun i v e => (wipe_some (w12.symm ▸ e)).1), t1, t2, w'⟩
            cases b1 with
            | false =>
              rw [if_neg (by decide)] at q12 ⊢
              exact fin1 I12 q12
            | true =>
              rw [if_pos rfl] at q12 ⊢
              refine thnF (jk.run _ s12 σ12 H12 _ I12 q12) ?_
              rintro a s13 ⟨ya, H13, I13, ra, q13⟩
              refine thnF (je.run _ s13 σ12 H13 _ I13 q13) ?_
              rintro b s14 ⟨yb, H14, I14, rb, kvs, key, rfl, hD14, small, nx⟩
              exact d_dictSet (X := X.blk s3 H3 sc ce fp) I14 hD14 small ra rb fun s15 I15 => fin1 I15 nx
        exact startB loop1 (T1.self X.A 0 _ _ _ st9 loop1)
  exact codeAny_compStart_dict loop (T.self X.A 0 _ _ _ st4 loop)
end
end Wl

/-! Own classes made, compared and counted where an exception is being handled. -/
namespace Wl
open PySem PySem.Spec PyProof.Rows L2
section
variable {X : Cx} {n : Nat} {f : Addr} {fd : FuncData} {ps : List Str} {sp : Addr → Sp} {C hd : Addr}
/-- the walker stands below X's, with room, and handles what X handles -/
structure SubT (X : Cx) (n : Nat) (hd : Addr) (A : Around) : Prop where
  room : L2H.RoomH n A
  fr : A.frames = X.A.frames
  hot : A.handled = some (.ref hd)
theorem RoomH_in1 {k : Nat} {A : Around} (r : L2H.RoomH (k + 1) A) : L2H.RoomH k A.in1 :=
  ⟨by have := r.dp; show A.depth + 3 * k + 5 < _; omega, by have := r.un; show A.units + 1 + 16 * k + 200 < _; omega⟩
theorem SubT.in1 {A : Around} (s : SubT X (n + 1) hd A) : SubT X n hd A.in1 := ⟨RoomH_in1 s.room, s.fr, s.hot⟩
theorem run_ownT {A : Around} {pins : List (Addr × Obj)} {s : Shared} {σ : L2.St} {H : Hp} {vs : List V} {us : List Value} {Q : VK} (F : FnT X.prog X.w X.K X.mg X.base CX0 n f fd ps sp) (hb : Binds X.K fd ps []) (sb : SubT X n hd A) (I : L2.Inv X pins σ H s) (r : Vals vs us) (hh : HotH hd H) (hsp : sp hd vs H Q E0) :
    wpAny (model X.prog X.w) A (call (.ref f) us) (EP X pins σ Q) X.xe s := by
  have e0 : Env0 X.prog X.w X.K X.mg X.base A X.stack s H := by
    have e := I.env0
    exact ⟨by rw [sb.fr]; exact e.frames, e.mod, e.bs, e.bsz, e.funs, e.frf, e.hok, e.bare⟩
  have hl := F.len _ _ _ _ _ hsp
  have hb' : BindsTo s fd ⟨us, []⟩ (ps.zip us) := by
    have := hb s us I.kIn (by rw [List.append_nil, ← r.length]; exact hl)
    rw [List.append_nil] at this
    exact this
  refine wpAny_call (codeAny_mono (F.run A X.stack s H ⟨us, []⟩ us vs _ E0 hd sb.room sb.hot hh e0 hb' r hsp) fun r s' hq => ?_)
  cases r with
  | error e => exact pass0 pins σ H s e s' I hq
  | ok fl =>
    cases fl with
    | ret w => exact I.after hq
    | next => exact False.elim hq
    | brk => exact False.elim hq
    | cont => exact False.elim hq
/-- len(o) -/
def rLenOT (hd C : Addr) (sp : Addr → Sp) : List V → Hp → VK → Prop := fun xs H Q => HotH hd H ∧ rLenO C (sp hd) xs H Q
theorem cr_lenOT (F : FnT X.prog X.w X.K X.mg X.base CX0 n f fd ps sp) (hb : Binds X.K fd ps []) (m : Meth X.K C "__len__" f) (hr : L2H.RoomH (n + 1) X.A) (hot : X.A.handled = some (.ref hd)) : CallR X (.builtin "len") (rLenOT hd C sp) := by
  intro pins s σ H xs us Q I r h
  obtain ⟨hh, a, dx, fs, rfl, ha, hsp⟩ := h
  obtain ⟨u, rfl, ru⟩ := vals1 r
  obtain rfl : u = Value.ref a := ru
  obtain ⟨mA, J, _⟩ := ins_get I.hok ha
  obtain ⟨od, J, _⟩ := J.look
  obtain ⟨m', hF⟩ := I.fr
  refine PySem.W.len_K hF I.ok.mod.kin J m.at_ m.fn (wpAny_mono (run_ownT F hb (SubT.in1 ⟨hr, rfl, hot⟩) I (v1 a) hh hsp) (fun v s' hq => ?_) fun _ _ z => z)
  obtain ⟨z, H', I', rz, k, rfl, hk, q⟩ := hq
  obtain ⟨t, rfl⟩ := rz
  exact ⟨⟨by omega, by omega⟩, .int (k : Int), H', I'.tok _, ⟨_, rfl⟩, q⟩
/-- x == y of two of one class -/
def rEqOT (hd C : Addr) (sp : Addr → Sp) (g : Bool → Bool) : R2 := fun x y H Q => HotH hd H ∧ rEqO C (sp hd) g x y H Q
theorem op_eqOT (F : FnT X.prog X.w X.K X.mg X.base CX0 n f fd ps sp) (hb : Binds X.K fd ps []) (m : Meth X.K C "__eq__" f) (hr : L2H.RoomH n X.A) (hot : X.A.handled = some (.ref hd)) : OpR X (compareOp .Eq) (rEqOT hd C sp id) := by
  intro pins s σ H x y v u Q I rx ry h
  obtain ⟨hh, a, dx, fs, b, dy, gs, rfl, rfl, ha, hb', hsp⟩ := h
  cases rx
  cases ry
  show wpAny (model X.prog X.w) X.A (richCompare .Eq (.ref a) (.ref b)) (EP X pins σ Q) X.xe s
  obtain ⟨mA, J, _⟩ := ins_get I.hok ha
  obtain ⟨mB, J', _⟩ := ins_get I.hok hb'
  obtain ⟨od, J, _⟩ := J.look
  obtain ⟨od', J', _⟩ := J'.look
  obtain ⟨m', hF⟩ := I.fr
  refine PySem.W.cmp_K (op := .Eq) (tb := .ref C) (by have := hr.un; omega) hF I.ok.mod.kin J J'.type (by simp [PySem.W.notFirst]) m.at_ m.fn (wpAny_mono (run_ownT F hb ⟨hr, rfl, hot⟩ I (v2 a b) hh hsp) (fun v s' hq => ?_) fun _ _ z => z)
  obtain ⟨z, H', I', rz, c, rfl, q⟩ := hq
  cases rz
  exact ⟨.bl c, H', I', rfl, q⟩
/-- C(e, ..) -/
def tMakeT (hd C : Addr) (sp : Addr → Sp) (t : TA) : TE := fun σ H Q => t σ H fun vs H1 => HotH hd H1 ∧ ∀ x dx, H1 x = none → H1 dx = none → dx ≠ x → sp hd (.ref x :: vs) (upd (upd H1 dx (.own x)) x (.ins C dx [])) (fun v H2 => v = .non ∧ Q (.ref x) H2) E0
theorem pe_makeT {x : Str} {p pos : Pos} {e : Expr} {es : List Expr} {t : TA} {k : Nat} (M : Mk X.K C f) (F : FnT X.prog X.w X.K X.mg X.base CX0 k f fd ps sp) (hr : L2H.RoomH (k + 1) X.A) (hot : X.A.handled = some (.ref hd)) (hg : Gl X x) (hm : X.mg x = some (.ref C)) (hb : Binds X.K fd ps [])
    (ha : PA X (e :: es) t) (hdb : (x == ("__debug__" : Str)) = false := by decide) (he : starEach (e :: es) X.env = (false, eval e X.env) :: starEach es X.env := by rfl) (hpl : (backTo pos (starEach es X.env)).any (·.1) = false := by rfl) :
    PE X (.Call (.Name x p) (e :: es) [] pos) (tMakeT hd C sp t) := by
  refine ⟨fun pins s σ H Q I h => ?_⟩
  refine wpAny_Call_Name_kw (ld_glob I hg hm ?_ hdb)
  refine PySem.W.callWith_K (h₀ := X.base) I.ok.mod.kin M.kp (thn (ha.run pos pins s σ H _ I h) fun us s1 ⟨vs, H1, I1, r, hh, q⟩ => ⟨I1.kIn, ?_⟩) he hpl
  have hq := q (s1.heap.objs.size + 1) s1.heap.objs.size (I1.hok.fresh (Nat.le_succ _)) (I1.hok.fresh (Nat.le_refl _)) (Nat.ne_of_lt (Nat.lt_succ_self _))
  have I2 := Inv.made (C := C) I1
  have r2 : Vals (V.ref (s1.heap.objs.size + 1) :: vs) (Value.ref (s1.heap.objs.size + 1) :: us) := .cons rfl r
  have hl : (Value.ref (s1.heap.objs.size + 1) :: us).length = ps.length := by
    have e := r2.length
    rw [F.len _ _ _ _ _ hq] at e
    exact e.symm
  have bb : BindsTo { s1 with heap := (s1.heap.push PySem.W.emptyDict).push (PySem.W.instObj C s1.heap.objs.size) } fd ⟨Value.ref (s1.heap.objs.size + 1) :: us, []⟩ (ps.zip (Value.ref (s1.heap.objs.size + 1) :: us)) := by
    have b0 := hb { s1 with heap := (s1.heap.push PySem.W.emptyDict).push (PySem.W.instObj C s1.heap.objs.size) } (Value.ref (s1.heap.objs.size + 1) :: us) I2.kIn (by rw [List.append_nil]; exact hl)
    rw [List.append_nil] at b0
    exact b0
  have hh2 : HotH hd (upd (upd H1 s1.heap.objs.size (.own (s1.heap.objs.size + 1))) (s1.heap.objs.size + 1) (.ins C s1.heap.objs.size [])) := by
    obtain ⟨cls, d, e⟩ := hh
    refine ⟨cls, d, ?_⟩
    rw [upd_ne (ne_of_none e (I1.hok.fresh (Nat.le_succ _))), upd_ne (ne_of_none e (I1.hok.fresh (Nat.le_refl _)))]
    exact e
  refine wpAny_call (make_map (f := f) I1.kIn M.makes M.init (beq_iff_eq.mp M.fn) (codeAny_mono (F.run _ X.stack _ _ ⟨Value.ref (s1.heap.objs.size + 1) :: us, []⟩ (Value.ref (s1.heap.objs.size + 1) :: us) _ _ E0 hd (L2H.RoomH.make hr C us []) hot hh2
    (I2.env0.make C us []) bb r2 hq) fun r s' hq' => ?_))
  cases r with
  | error e => exact pass0 pins σ _ _ e s' I2 hq'
  | ok fl =>
    cases fl with
    | ret u =>
      obtain ⟨v, H', I3, rv, ev, q3⟩ := I2.after hq'
      subst ev
      exact ⟨rv, ⟨V.ref (s1.heap.objs.size + 1), H', I3, rfl, q3⟩⟩
    | next => exact False.elim hq'
    | brk => exact False.elim hq'
    | cont => exact False.elim hq'
end
theorem FunT_okN {P : Program} {w : World} {K : PySem.W.Frag} {mg : Str → Option Value} {base : Heap} {x qual : Str} {st : Stmt} {f : Addr} {fd : FuncData} {N ps : List Str} {k : Nat} {sp : Addr → Sp} (F : Fun K x qual st f fd) (S : FnScope N ps (defScope st)) (len : ∀ a vs H Q E, sp a vs H Q E → vs.length = ps.length)
    (hbody : ∀ (cdv : Value) (A : Around) (outer : List Env) (s : Shared) (H : Hp) (vs : List V) (Q : VK) (E : XK) (a : Addr), A.handled = some (.ref a) → HotH a H → L2H.RoomH k (A.deeper (envOfC qual (defScope st) s.heap.objs.size f cdv)) → sp a vs H Q E →
      ∃ t, PSs (cxT CX0 P w K mg base N qual (defScope st) f cdv A outer s H E).nox (defBody st) t ∧ t { nx := fun _ H' => Q .non H', rt := Q } (L2.start N vs) H) : FnT P w K mg base CX0 (k + 1) f fd ps sp :=
  FunT_ok F S len fun cdv A outer s H vs Q E a hot hh hr h =>
    let ⟨t, p, q⟩ := hbody cdv A outer s H vs Q E a hot hh hr h
    ⟨t, p.nox, q⟩
/-- a class that may be made there -/
def MakT (P : Program) (w : World) (K : PySem.W.Frag) (mg : Str → Option Value) (base : Heap) (C : Addr) (k : Nat) (ps : List Str) (sp : Addr → Sp) : Prop :=
  ∃ f fd, Mk K C f ∧ FnT P w K mg base CX0 k f fd ps sp ∧ Binds K fd ps []
/-- a method of that class that may be called there -/
def HasMT (P : Program) (w : World) (K : PySem.W.Frag) (mg : Str → Option Value) (base : Heap) (C : Addr) (m : Str) (k : Nat) (ps : List Str) (sp : Addr → Sp) : Prop :=
  ∃ f fd, FnT P w K mg base CX0 k f fd ps sp ∧ Meth K C m f ∧ Binds K fd ps []
end Wl

/-! Where an exception is being handled: lists walked, a comprehension's list assigned, {k: v for ..} with tuples for keys, methods with values left out, !=. -/
namespace Wl
open PySem PySem.Spec PyProof.Rows L2
section
variable {P : Program} {w : World} {K : PySem.W.Frag} {hd : Addr} {tg : Expr}
theorem turn_listH (a it : Addr) : TurnT P w K hd tg (Itl K a) [it] it (fun i h => h.IsListIter it a i) where
  mem := by simp
  obj := fun i h st b hb => by
    have e : b = it := by simpa using hb
    subst e
    obtain ⟨o, e, c, d⟩ := st
    exact ⟨o, e, fun v z => by rw [d] at z; cases z⟩
  keep := fun i h h' st k => st.at fun o e => k it (by simp) o e
  item := by
    intro X hP hw hK hc i pins s σ H E I hf st hg
    subst hP hw hK
    obtain ⟨xs, x, hq, hx⟩ := hg
    obtain ⟨its, rv, p, hz⟩ := I.list hq
    obtain ⟨u, hu, ru⟩ := rv.get hx
    obtain ⟨f0, f1, f2, f3, f4, f5⟩ := hf it (by simp)
    refine wpAny_pyNext_list_item st p.isList (x := u) (by simpa using hu) fun h' st' sb => ?_
    have I1 : Inv X pins σ H { s with heap := h' } := I.turned (t' := s.toks) (fun b o hb e => (sb.2 b hb).trans e) f0 f1 f3 f4 f5
    obtain ⟨o, e, c, d⟩ := id st'
    exact ⟨u, rfl, go_of (s := { s with heap := h' }) e c d (by decide) ⟨x, H, I1, ru, ⟨rfl, fun ys hy => by rw [I.list_inj hy hq]; exact hx⟩, st', fun b hb => (hf b hb).1⟩⟩
  done := by
    intro X hP hw hK hc i pins s σ H E I hf st hg hh
    subst hP hw hK
    obtain ⟨xs, hq, hx⟩ := hg
    obtain ⟨its, rv, p, hz⟩ := I.list hq
    obtain ⟨f0, f1, f2, f3, f4, f5⟩ := hf it (by simp)
    have hl := rv.length
    exact HotX.pyNext_list_end_hot (hot_of I hc hh) (hot_ne hh f0) st p.isList (by simp; omega) fun h' eb => ⟨rfl, I.turned (t' := s.toks) (fun b o hb e => eb b o hb e) f0 f1 f3 f4 f5⟩
  self := fun A i s Q E st h => wpAny_pyIter_listiter st h
end
section
variable {X : Cx} {hd : Addr} {tg : Expr}
def iListH (hd : Addr) (K : PySem.W.Frag) (tl : TE) : TI := fun σ H R => tl σ H fun x H1 => ∃ a, x = .ref a ∧ (∃ xs, SqL K H1 a xs) ∧ R (ItHot hd (Itl K a)) H1
theorem pi_listH {l : Expr} {tl : TE} (hl : PE X l tl) : PIT X hd tg l (iListH hd X.K tl) := by
  refine ⟨fun pins s σ H R I h => ?_⟩
  refine thn (hl.run pins s σ H _ I h) fun v s1 ⟨x, H1, I1, r1, q1⟩ => ?_
  obtain ⟨a, e, ⟨xs, hq⟩, q⟩ := q1
  subst e
  cases r1
  obtain ⟨its, rv, p, hz⟩ := I1.list hq
  refine wpAny_pyIter_list p.isList ?_
  exact pi_oneT (tk := s1.toks) I1 _ (turn_listH a _) ⟨_, Heap.get?_push_size _ rfl, rfl, rfl⟩ q
end
section
variable {X : Cx} {hd : Addr}
theorem dcT_coreH {pins : List (Addr × Obj)} {s : Shared} {σ : L2.St} {H : Hp} {Q : VK} {kx vx tg iter : Expr} {ifs : List Expr} {scope : Scope} {own : List (Str × Nat)} {pos pos' : Pos} {wi : TI} {g : TG} {tt : TT} {tk tv : TE} {use : Option (Value → Sem Unit)} {Qf : Value → Shared → Prop}
    (hot : X.A.handled = some (.ref hd)) (hu : X.A.units < cLine) (hN : X.N.Nodup) (I : Inv X pins σ H s) (hi : PIT X hd tg iter wi) (ok : BlkOk X.N X.env.scope scope own)
    (hg : ∀ (s : Shared) (H : Hp) (C : Addr) (cl : List (Str × Addr)) (fp : List Addr), PG (X.blk s H scope (compEnvC scope cl C X.env) fp) tg g)
    (ht : ∀ (s : Shared) (H : Hp) (C : Addr) (cl : List (Str × Addr)) (fp : List Addr), PTs (X.blk s H scope (compEnvC scope cl C X.env) fp) ifs tt)
    (hk : ∀ (s : Shared) (H : Hp) (C : Addr) (cl : List (Str × Addr)) (fp : List Addr), PE (X.blk s H scope (compEnvC scope cl C X.env) fp) kx tk)
    (he : ∀ (s : Shared) (H : Hp) (C : Addr) (cl : List (Str × Addr)) (fp : List Addr), PE (X.blk s H scope (compEnvC scope cl C X.env) fp) vx tv) (hs : ∀ x, foldedSetIterable iter X.env x = pure x) (h : tDcT wi g tt tk tv (own.map (·.2)) σ H Q)
    (hEnd : ∀ L C s' m H', Inv X pins σ H' s' → Q (.ref L) H' → s'.heap.Ns C m → FpOk X pins H' C → compPost (model X.prog X.w) X.A X.xe use Qf (.ref L) C (.ok .next) s') :
    wpAny (model X.prog X.w) X.A (comprehension (.DictComp kx vx [⟨tg, iter, ifs, 0⟩] scope pos) scope X.env pos' newDict false (eval iter X.env) use) Qf X.xe s := by
  refine wpAny_comprehension_free (use := use) rfl hs (closure_ok fun y hy e => ?_) ok.kind (fun y hy e => by rw [ok.uniq y hy, e]) (thn (hi.run pins s σ H _ I h) fun xv sA hx => thn hx fun itv sB hB => ?_)
  · exact (ok.free y hy e).elim (fun k => I.ok.has _ (.inl k)) (fun k => I.ok.has _ (.inr k))
  obtain ⟨it, fp, tn, J, HB, ei, IB, T, stB, fB, q⟩ := hB
  subst ei
  refine wpAny_newObj_type (newEnv_comp ?_)
  generalize hL : sB.heap.objs.size = L
  have hLn : HB L = none := IB.hok.fresh (Nat.le_of_eq hL)
  obtain ⟨W, ⟨m0, w0⟩, turn⟩ := q L hLn
  generalize hsC : ({ sB with heap := sB.heap.push { cls := .type "dict", data := .dict #[] } } : Shared) = sC
  have IC : Inv X pins σ (upd HB L (.dT [])) sC := by
    subst hsC
    refine IB.laid (t' := sB.toks) (fun b o e => Heap.get?_push_of_some _ e) (Nat.le_of_eq hL) ?_
    subst hL
    exact dt_empty sB.heap IB.big
  have eC : sC.heap = sB.heap.push { cls := .type "dict", data := .dict #[] } := by rw [← hsC]
  have fC : ∀ b ∈ fp, FpOk X pins (upd HB L (.dT [])) b ∧ b < sC.heap.objs.size := by
    intro b hb
    obtain ⟨o, e, _⟩ := T.obj _ _ stB b hb
    have hlt : b < sB.heap.objs.size := Heap.lt_size e
    refine ⟨⟨?_, (fB b hb).2⟩, by rw [eC, Heap.size_push]; exact Nat.lt_succ_of_lt hlt⟩
    rw [upd_ne (by rw [← hL]; exact Nat.ne_of_lt hlt)]
    exact (fB b hb).1
  have stC : tn 0 sC.heap := T.keep _ _ _ stB fun b _ o e => by rw [eC]; exact Heap.get?_push_of_some _ e
  have ID := block_start IC ok hN fC
  have pg := hg sC (upd HB L (.dT [])) sC.heap.objs.size (cellsFrom (sC.heap.objs.size + 1) scope.names (cloFrom X.env.cells scope.names [])) fp
  have pt := ht sC (upd HB L (.dT [])) sC.heap.objs.size (cellsFrom (sC.heap.objs.size + 1) scope.names (cloFrom X.env.cells scope.names [])) fp
  have pk := hk sC (upd HB L (.dT [])) sC.heap.objs.size (cellsFrom (sC.heap.objs.size + 1) scope.names (cloFrom X.env.cells scope.names [])) fp
  have pe := he sC (upd HB L (.dT [])) sC.heap.objs.size (cellsFrom (sC.heap.objs.size + 1) scope.names (cloFrom X.env.cells scope.names [])) fp
  show codeAny _ _ (.compStart (.DictComp kx vx [⟨tg, iter, ifs, 0⟩] scope pos) 0 (.ref it) (.ref L) (compEnvC scope (cellsFrom (sC.heap.objs.size + 1) scope.names (cloFrom X.env.cells scope.names [])) sC.heap.objs.size X.env)) (compPost (model X.prog X.w) X.A X.xe use Qf (.ref L) sC.heap.objs.size) { sC with heap := pushCells (sC.heap.push { cls := .type "dict", data := .dict #[] }) scope.names }
  have nfp : ∀ b ∈ fp, (upd HB L (.dT [])) b = none := fun b hb => (fC b hb).1.1
  generalize hce : compEnvC scope (cellsFrom (sC.heap.objs.size + 1) scope.names (cloFrom X.env.cells scope.names [])) sC.heap.objs.size X.env = ce at ID pg pt pk pe ⊢
  have cL : ce.locals = sC.heap.objs.size := by subst hce; rfl
  generalize hHC : upd HB L (.dT []) = HC at IC ID pg pt pk pe w0 nfp fC
  generalize hsD : ({ sC with heap := pushCells (sC.heap.push { cls := .type "dict", data := .dict #[] }) scope.names } : Shared) = sD at ID ⊢
  have stD : tn 0 sD.heap := T.keep _ _ _ stC fun b _ o e => by rw [← hsD]; exact pushCells_keeps _ _ _ _ (Heap.get?_push_of_some _ e)
  have stat : ∀ {σ' : L2.St} {H' : Hp} {s' : Shared}, Inv (X.blk sC HC scope ce fp) [] σ' H' s' → (∀ b ∈ fp, H' b = none) → ∀ b ∈ fp, FpOk (X.blk sC HC scope ce fp) [] H' b := by
    intro σ' H' s' I' hn b hb
    exact ⟨hn b hb, (I'.ok.exf b hb).1, I'.ok.exfs b hb, .inl hb, fun x c e => (I'.ok.exf b hb).2 x c e, fun p hp => absurd (show p ∈ ([] : List (Addr × Obj)) ++ [] from hp) (by simp)⟩
  have loop : codeAny (model X.prog X.w) X.A (.compLoop (.DictComp kx vx [⟨tg, iter, ifs, 0⟩] scope pos) 0 (.ref it) (.ref L) ce) (compPost (model X.prog X.w) X.A X.xe use Qf (.ref L) sC.heap.objs.size) sD := by
    refine compLoop_anyD (fun n s' => ∃ i H', Inv (X.blk sC HC scope ce fp) [] (wipe σ (own.map (·.2))) H' s' ∧ tn i s'.heap ∧ (∀ b ∈ fp, H' b = none) ∧ W i n H') ?_ m0 ⟨0, HC, ID, stD, nfp, w0⟩
    rintro n sE ⟨i, HE, IE, stE, nE, wE⟩
    rcases turn i n HE wE with ⟨stop, qq⟩ | ⟨go, Nx, hNx, step⟩
    · have td := T.done (X.blk sC HC scope ce fp) rfl rfl rfl hot i [] sE _ HE (fun _ _ => False) IE (stat IE nE) stE stop.1 stop.2
      refine thnF td fun r sF ⟨hr, IF⟩ => ?_
      subst hr
      have IG : Inv X pins σ HE sF := IC.call' (ch := fp) IF.os IF.base IF.hok IF.bare fun b hb => ⟨(fC b hb).1.2.2.2.1, (fC b hb).1.2.1, (fC b hb).1.2.2.2.2.1, (fC b hb).1.2.2.2.2.2⟩
      have nC : HE sC.heap.objs.size = none := by
        have z : HE ce.locals = none := IF.free
        rw [cL] at z
        exact z
      obtain ⟨m, hn, _⟩ := IF.loc
      have hn : sF.heap.Ns ce.locals m := hn
      rw [cL] at hn
      exact hEnd L sC.heap.objs.size sF m HE IG qq hn (IC.fpOk (Nat.le_refl _) nC)
    · have ti := T.item (X.blk sC HC scope ce fp) rfl rfl rfl hot i [] sE _ HE (fun _ _ => False) IE (stat IE nE) stE go
      refine thnF ti fun r sF ⟨u, hr, hF⟩ => ?_
      subst hr
      refine thnF hF fun _ sG ⟨x, HG, IG, rG, yG, stG, nG⟩ => ?_
      have IG' := IG.pinned (stat IG nG) (T.obj _ _ stG)
      refine thnF (pg.run _ sG _ HG x u _ IG' rG (step x HG yG)) fun _ sK ⟨σK, HK, IK, hwK, qK⟩ => ?_
      refine thnF (pt.run _ sK σK HK _ IK qK) fun b sM ⟨HM, IM, qM⟩ => ?_
      have fin : ∀ {s' : Shared} {H' : Hp}, Inv (X.blk sC HC scope ce fp) ([] ++ pinsAt fp sG.heap) σK H' s' → Nx H' → ∃ m, m < n ∧ ∃ i H', Inv (X.blk sC HC scope ce fp) [] (wipe σ (own.map (·.2))) H' s' ∧ tn i s'.heap ∧ (∀ b ∈ fp, H' b = none) ∧ W i m H' := by
        intro s' H' I' nx
        obtain ⟨m', hm, w'⟩ := hNx H' nx
        have pin' : ∀ b ∈ fp, ∀ o, sG.heap.get? b = some o → s'.heap.get? b = some o ∧ H' b = none := fun b hb o e =>
          have z := I'.pin (b, o) (List.mem_append_right _ (List.mem_append_right _ (mem_pinsAt hb e)))
          ⟨z.1, z.2.1⟩
        have hl : (wipe σ (own.map (·.2))).length = σK.length := by rw [← hwK, wipe_length]
        refine ⟨m', hm, i + 1, H', (I'.unpinned (pins := [])).weak hl (fun j v e => ?_), T.keep _ _ _ stG fun b hb o e => (pin' b hb o e).1, fun b hb => ?_, w'⟩
        · rw [← hwK] at e
          exact (wipe_some e).1
        · obtain ⟨o, e, _⟩ := T.obj _ _ stG b hb
          exact (pin' b hb o e).2
      cases b with
      | false =>
        simp only [Bool.false_eq_true, if_false] at qM ⊢
        exact fin IM qM
      | true =>
        simp only [if_true] at qM ⊢
        refine thnF (pk.run _ sM σK HM _ IM qM) fun zk sN ⟨yk, HN1, IN1, rN, qN⟩ => ?_
        refine thnF (pe.run _ sN σK HN1 _ IN1 qN) fun z sO ⟨yv, HO1, IO, rO, kvs, k, bk, ek, hbk, hDO, hzO, nx⟩ => ?_
        subst ek
        obtain rfl : zk = Value.ref bk := rN
        exact t_dictSet (X := X.blk sC HC scope ce fp) hu IO hDO hzO hbk rO fun sP IP => fin IP nx
  exact codeAny_compStart_dict loop (T.self X.A 0 _ _ _ stD loop)

theorem pe_dcTH {kx vx tg iter : Expr} {ifs : List Expr} {scope : Scope} {own : List (Str × Nat)} {pos : Pos} {wi : TI} {g : TG} {tt : TT} {tk tv : TE} (hot : X.A.handled = some (.ref hd)) (hu : X.A.units < cLine) (hN : X.N.Nodup) (hi : PIT X hd tg iter wi) (ok : BlkOk X.N X.env.scope scope own)
    (hg : ∀ (s : Shared) (H : Hp) (C : Addr) (cl : List (Str × Addr)) (fp : List Addr), PG (X.blk s H scope (compEnvC scope cl C X.env) fp) tg g)
    (ht : ∀ (s : Shared) (H : Hp) (C : Addr) (cl : List (Str × Addr)) (fp : List Addr), PTs (X.blk s H scope (compEnvC scope cl C X.env) fp) ifs tt)
    (hk : ∀ (s : Shared) (H : Hp) (C : Addr) (cl : List (Str × Addr)) (fp : List Addr), PE (X.blk s H scope (compEnvC scope cl C X.env) fp) kx tk)
    (he : ∀ (s : Shared) (H : Hp) (C : Addr) (cl : List (Str × Addr)) (fp : List Addr), PE (X.blk s H scope (compEnvC scope cl C X.env) fp) vx tv) (hs : ∀ x, foldedSetIterable iter X.env x = pure x := by intro _; rfl) :
    PE X (.DictComp kx vx [⟨tg, iter, ifs, 0⟩] scope pos) (tDcT wi g tt tk tv (own.map (·.2))) := by
  refine ⟨fun pins s σ H Q I h => ?_⟩
  rw [arm_eval_DictComp]
  refine dcT_coreH hot hu hN I hi ok hg ht hk he hs h fun L C s' m H' I' q hn f => ⟨m, hn, fun h'' sb => ?_⟩
  obtain ⟨u0, u1, u2, u3, u4, u5⟩ := f
  exact ⟨.ref L, H', I'.turned (t' := s'.toks) (fun b o hb e => (sb.2 b hb).trans e) u0 u1 u3 u4 u5, rfl, q⟩
theorem ps_setLcH {i : Nat} {y : Str} {py : Pos} {elt tg iter : Expr} {ifs : List Expr} {scope : Scope} {own : List (Str × Nat)} {pos spos : Pos} {wi : TI} {g : TG} {tt : TT} {te : TE} (hot : X.A.handled = some (.ref hd)) (hN : X.N.Nodup) (hy : X.N[i]? = some y) (hyl : X.env.scope.names.lookup y = some .local)
    (hsw : swapsWith (.ListComp elt [⟨tg, iter, ifs, 0⟩] scope pos) (some (.Name y py)) spos.line X.env = pure true) (hi : PIT X hd tg iter wi) (ok : BlkOk X.N X.env.scope scope own)
    (hg : ∀ (s : Shared) (H : Hp) (C : Addr) (cl : List (Str × Addr)) (fp : List Addr), PG (X.blk s H scope (compEnvC scope cl C X.env) fp) tg g) (ht : ∀ (s : Shared) (H : Hp) (C : Addr) (cl : List (Str × Addr)) (fp : List Addr), PTs (X.blk s H scope (compEnvC scope cl C X.env) fp) ifs tt)
    (he : ∀ (s : Shared) (H : Hp) (C : Addr) (cl : List (Str × Addr)) (fp : List Addr), PE (X.blk s H scope (compEnvC scope cl C X.env) fp) elt te) (hs : ∀ x, foldedSetIterable iter X.env x = pure x := by intro _; rfl) :
    PS X (.Assign [.Name y py] (.ListComp elt [⟨tg, iter, ifs, 0⟩] scope pos) spos) (tAsg (tLc wi g tt te (own.map (·.2))) (gName i)) := by
  refine ⟨fun pins s σ H D I h => ?_⟩
  rw [exec_Assign_Name_used _ _ _ _ hsw]
  refine wpAny_bind (wpAny_standAt (wpAny_bind ?_))
  show wpAny _ X.A (do let _ ← comprehension (.ListComp elt [⟨tg, iter, ifs, 0⟩] scope pos) scope X.env (firstIterPos [⟨tg, iter, ifs, 0⟩] pos) (newList []) false (eval iter X.env) (some (assign (.Name y py) X.env))) _ _ s
  have h : tLc wi g tt te (own.map (·.2)) σ H (fun x H1 => gName i x σ H1 D.nx) := h
  refine wpAny_bind (thn (lcT_core (Qf := fun _ s' => SP X pins D .next s') hot hN I hi ok hg ht he hs h fun L C s' m H' I' q hn f => ?_) fun _ s' hq => wpAny_pure (wpAny_pure hq))
  show wpAny _ _ (assign (.Name y py) X.env (.ref L)) _ _ _
  refine wpAny_assign_Name (store_ok2 (v := V.ref L) I' hN hy (.inl hyl) rfl (fun s2 I2 ⟨a, sb, ha⟩ => ?_) (.inr hyl))
  obtain ⟨f0, f1, f2, f3, f4, f5⟩ := f
  have haC : C ≠ a := by
    rcases ha with z | z
    · rw [z]; exact f1
    · exact fun e => f4 y a z e.symm
  refine ⟨m, hn.sameBut sb haC, fun h3 sb3 => ?_⟩
  exact ⟨_, H', I2.turned (t' := s2.toks) (fun b o hb e => (sb3.2 b hb).trans e) f0 f1 f3 f4 f5, q⟩
end
section
variable {X : Cx} {n k j : Nat} {f C hd : Addr} {fd : FuncData} {ps : List Str} {sp : Addr → Sp} {ds : List Value} {dvs : List V} {m : Str} {o : Expr} {apos pos : Pos} {ta : TE}
theorem run_fnH {pins : List (Addr × Obj)} {s : Shared} {σ : L2.St} {H : Hp} {vs : List V} {us : List Value} {Q : VK} (F : FnT X.prog X.w X.K X.mg X.base CX0 n f fd ps sp) (hr : L2H.RoomH n X.A) (hot : X.A.handled = some (.ref hd)) (hb : Binds X.K fd ps ds) (hdv : Vals dvs ds) (I : L2.Inv X pins σ H s) (r : Vals vs us) (hh : HotH hd H) (hsp : sp hd (vs ++ dvs) H Q E0) :
    wpAny (model X.prog X.w) X.A (call (.ref f) us) (EP X pins σ Q) X.xe s := by
  have hl := F.len _ _ _ _ _ hsp
  have r2 : Vals (vs ++ dvs) (us ++ ds) := r.append hdv
  have hb' : BindsTo s fd ⟨us, []⟩ (ps.zip (us ++ ds)) := hb s us I.kIn (by rw [← r2.length]; exact hl)
  refine wpAny_call (codeAny_mono (F.run X.A X.stack s H ⟨us, []⟩ (us ++ ds) (vs ++ dvs) _ E0 hd hr hot hh I.env0 hb' r2 hsp) fun r s' hq => ?_)
  cases r with
  | error e => exact pass0 pins σ H s e s' I hq
  | ok fl =>
    cases fl with
    | ret w => exact I.after hq
    | next => exact False.elim hq
    | brk => exact False.elim hq
    | cont => exact False.elim hq
def tMeth0H (hd C : Addr) (m : Str) (sp : Addr → Sp) (dvs : List V) (ta : TE) : TE := fun σ H Q => ta σ H fun x H1 => ∃ a dx fs, x = .ref a ∧ H1 a = some (.ins C dx fs) ∧ fs.lookup m = none ∧ HotH hd H1 ∧ sp hd (x :: dvs) H1 Q E0
/-- o.m(), there, values left out -/
theorem pe_meth0H {pl : Sem Bool} (F : FnT X.prog X.w X.K X.mg X.base CX0 n f fd ps sp) (hm : Meth X.K C m f) (c : Cls X.K C) (hr : L2H.RoomH n X.A) (hot : X.A.handled = some (.ref hd)) (hb : Binds X.K fd ps ds) (hdv : Vals dvs ds) (ho : PE X o ta)
    (ht : eval (.Call (.Attribute o m apos) [] [] pos) X.env = (do
      let ov ← eval o X.env
      standAt apos.atName
      let (f, first) ← holding [ov] (getMethod ov m pl)
      callWith pos f first (backTo pos (starEach [] X.env)) (backToKw pos (keywordEach [] X.env))) := by rfl) :
    PE X (.Call (.Attribute o m apos) [] [] pos) (tMeth0H hd C m sp dvs ta) := by
  refine ⟨fun pins s σ H Q I h => ?_⟩
  refine PySem.W.methodCall_KW (pl := pl) (thn (ho.run pins s σ H _ I h) fun u s1 ⟨x, H1, I1, rx, a, dx, fs, ex, ea, l, hh, q⟩ => ?_) ht
  subst ex
  obtain rfl : u = Value.ref a := rx
  refine getmeth_ok I1 ea c hm l ?_
  exact PySem.W.callWith_K0 (first := [.ref a]) I1.kIn hm.kp (run_fnH (us := [.ref a]) (vs := [.ref a]) F hr hot hb hdv I1 (.cons rfl .nil) hh q)
/-- x != y, there, by the class's == -/
theorem op_neOT (F : FnT X.prog X.w X.K X.mg X.base CX0 n f fd ps sp) (hb : Binds X.K fd ps []) (m : Meth X.K C "__eq__" f) (N : NeC X.K C) (hr : L2H.RoomH (n + 1) X.A) (hot : X.A.handled = some (.ref hd)) : OpR X (compareOp .NotEq) (rEqOT hd C sp not) := by
  intro pins s σ H x y v u Q I rx ry h
  obtain ⟨hh, a, dx, fs, b, dy, gs, rfl, rfl, ha, hb', hsp⟩ := h
  cases rx
  cases ry
  obtain ⟨mA, J, _⟩ := ins_get I.hok ha
  obtain ⟨mB, J', _⟩ := ins_get I.hok hb'
  obtain ⟨od, J, _⟩ := J.look
  obtain ⟨od', J', _⟩ := J'.look
  show wpAny (model X.prog X.w) X.A (richCompare .NotEq (.ref a) (.ref b)) (EP X pins σ Q) X.xe s
  refine ne_K (by have := hr.un; omega) I.kIn J J' N m.at_ m.fn (wpAny_mono (run_ownT F hb (SubT.in1 ⟨hr, rfl, hot⟩) I (v2 a b) hh hsp) (fun v s' hq => ?_) fun _ _ z => z)
  obtain ⟨z, H', I', rz, c, rfl, q⟩ := hq
  cases rz
  exact ⟨c, rfl, .bl (!c), H', I', rfl, q⟩
end
end Wl

/-! clashes, where an exception is being handled. -/
namespace Wl
open PySem PySem.Spec PyProof.Rows L2
section
variable {P : Program} {w : World} {K : PySem.W.Frag} {mg : Str → Option Value} {base : Heap} {f C D cM : Addr} {fd : FuncData}
theorem unitsH {k : Nat} {A : Around} (r : L2H.RoomH k A) : A.units + 64 < cLine := by have := r.un; omega
theorem okDT {x qual : Str} {params : Arguments} {body : List Stmt} {scope : Scope} {dvs : List V} {N ps : List Str} {k : Nat} {sp : Addr → Sp} (F : FunD K x qual params body scope dvs [] f fd) (S : FnScope N ps scope) (len : ∀ a vs H Q E, sp a vs H Q E → vs.length = ps.length)
    (hbody : ∀ (cdv : Value) (A : Around) (outer : List Env) (s : Shared) (H : Hp) (vs : List V) (Q : VK) (E : XK) (a : Addr), A.handled = some (.ref a) → HotH a H → L2H.RoomH k (A.deeper (envOfC qual scope s.heap.objs.size f cdv)) → sp a vs H Q E →
      ∃ t, PSs (cxT CX0 P w K mg base N qual scope f cdv A outer s H E).nox body t ∧ t { nx := fun _ H' => Q .non H', rt := Q } (L2.start N vs) H) : FnT P w K mg base CX0 (k + 1) f fd ps sp := by
  obtain ⟨oc, od, dV, kV, doc, pm, an, cdv, ct, osl, rfl, lk, hcd, _, _⟩ := F.ex
  exact fn_ofT lk hcd S len fun A outer s H vs Q E a hot hh hr hsp => let ⟨t, p, q⟩ := hbody cdv A outer s H vs Q E a hot hh hr hsp; ⟨t, p.nox, q⟩
def HasTlT (P : Program) (w : World) (K : PySem.W.Frag) (mg : Str → Option Value) (base : Heap) (C D : Addr) : Prop := ∃ f fd, FnT P w K mg base CX0 1 f fd ["self", "keying"] (fun _ => spTell C D) ∧ Meth K D "tellings" f ∧ FunT K f fd
theorem ok_keyofT (F : Fun K "key_of" "key_of" sKeyOf f fd) : FnT P w K mg base CX0 1 f fd ["telling"] (fun _ => spKeyOf) := by
  refine FunT_okN F scKeyOf (fun zz vs H Q E h => ?_) (fun cdv A outer s H vs Q E zz hot hh hr h => ?_)
  · obtain ⟨p, t, rfl, _⟩ := h
    rfl
  · obtain ⟨p, t, rfl, hp, q⟩ := h
    refine ⟨_, pss_one (ps_ret (pe_tup (pa_cons (pe_ix ix_tup (pv 0) pe_int (fun _ _ => rfl)) (pa_cons (pe_ix ix_tup (pv 0) pe_int (fun _ _ => rfl)) (pa_cons (pe_ix ix_tup (pv 0) pe_int (fun _ _ => rfl)) (pa_cons (pe_ix ix_tup (pv 0) pe_int (fun _ _ => rfl)) pa_nil)))))), ?_⟩
    refine ⟨_, rfl, p, _, _, _, rfl, rfl, .inl (.inl hp), atI_nat (j := 0) rfl, _, rfl, p, _, _, _, rfl, rfl, .inl (.inl hp), atI_nat (j := 3) rfl, _, rfl, p, _, _, _, rfl, rfl, .inl (.inl hp), atI_nat (j := 1) rfl, _, rfl, p, _, _, _, rfl, rfl, .inl (.inl hp), atI_nat (j := 5) rfl, lz, fun u hu => q u hu⟩
theorem ok_tellT (F : FunT K f fd) (B : Bi mg) (TG : TxtG K mg D) : FnT P w K mg base CX0 1 f fd ["self", "keying"] (fun _ => spTell C D) := by
  refine okDT F scTell (fun zz vs H Q E h => ?_) (fun cdv A outer s H vs Q E zz hot hh hr h => ?_)
  · obtain ⟨p, r, rfl, _⟩ := h
    rfl
  · obtain ⟨p, r, rfl, hG, q⟩ := h
    refine ⟨_, pss_cons (ps_if (pt_cmp (pc_isN (pv 1))) (pss_one (ps_ret (pe_callTy call_list_of (by rfl) B.list (by decide +kernel) (pa_cons (pe_fld (pv 0) rfl) pa_nil)))) pss_nil) (pss_one ps_never), ?_⟩
    obtain ⟨dx, hp⟩ := hG.at_
    exact ⟨_, rfl, _, rfl, iteT ⟨_, rfl, p, D, dx, _, _, rfl, hp, TG.cl, TG.nT, gf_told _ _ _, r.td, _, rfl, .inl (.inl (.inl hG.told)), q⟩⟩
theorem ok_leqT (F : Fun K "__eq__" "Land.__eq__" sEq f fd) (B : Bi mg) (T : Txt2 K mg C) : FnT P w K mg base CX0 1 f fd ["self", "other"] (fun _ => (spLEq C)) := by
  refine FunT_okN F scEq (fun zz vs H Q E h => ?_) (fun cdv A outer s H vs Q E zz hot hh hr h => ?_)
  · obtain ⟨p, L, q, M, g, g', wd, wd', rfl, _⟩ := h
    rfl
  · obtain ⟨p, L, q, M, g, g', wd, wd', rfl, h1, gd, h2, gd', qq⟩ := h
    refine ⟨_, pss_one (ps_ret (pe_and (pe_callB (C8.call_isC (C := C) T.ins) (by rfl) B.isi (by decide +kernel) (pa_cons (pv 1) (pa_cons (pe_glob (v := .ref C) rfl T.t.mgC rfl) pa_nil))) (pe_one (pe_cmpR (op_eqD (unitsH hr)) (pe_fld (pv 0) rfl) (pe_fld (pv 1) rfl) (nomark _))))), ?_⟩
    obtain ⟨dx, d, i1⟩ := h1.ins
    obtain ⟨dy, e, i2⟩ := h2.ins
    refine ⟨_, rfl, q, dy, _, rfl, i2, true, rfl, iteT ⟨_, rfl, p, C, dx, _, _, rfl, i1, T.t.cl, T.t.nR, lf_rows _ _, _, rfl, q, C, dy, _, _, rfl, i2, T.t.cl, T.t.nR, lf_rows _ _, _, _, dp_grid h1.grid, dp_grid h2.grid, shaped_grid gd, shaped_grid gd', ?_⟩⟩
    rw [grid_eqv]
    exact qq
theorem pick_telsXJ {J : It} {G : Hp → Prop} {H1 : Hp} {Dd : Addr} {as : List Addr} {ts : List Tel} {tt : TT} {te : TE} {slot : Nat} {vs : List Nat} {σ : L2.St} {Qd : Hp → Prop} (wk : L2.Walk J (as.map V.ref).length G (YAt (as.map V.ref))) (hG : ∀ H', Same H1 H' → G H') (hT : TelsAt H1 as ts) (hD : H1 Dd = none) (pr : Tel → Bool) (hn : ts.length ≤ 200)
    (hw : ∀ x, wipe ((wipe σ vs).set slot (some x)) vs = wipe σ vs)
    (ht : ∀ (p : Addr) (t : Tel) (H : Hp), t ∈ ts → H p = some (.tup (telV t)) → Same H1 H → ∀ Q : Bool → Hp → Prop, (∀ H', Same H H' → Q (pr t) H') → tt ((wipe σ vs).set slot (some (.ref p))) H Q)
    (he : ∀ (x : V) (H : Hp) (Q : VK), Q x H → te ((wipe σ vs).set slot (some x)) H Q)
    (hd : ∀ (bs : List Addr) (H : Hp), Same H1 H → H Dd = some (.lst (bs.map V.ref)) → TelsAt H bs (ts.filter pr) → Qd H) :
    ∃ W : Nat → Nat → Hp → Prop, (∃ m, W 0 m (upd H1 Dd (.lst []))) ∧ ∀ i m H, W i m H →
      (J.stop i H ∧ Qd H) ∨ (J.go i H ∧ ∃ Nx : Hp → Prop, (∀ H', Nx H' → ∃ m', m' < m ∧ W (i + 1) m' H') ∧ ∀ x H', J.yld i H x H' → gName slot x (wipe σ vs) H' fun σ2 H2 => wipe σ2 vs = wipe σ vs ∧ tt σ2 H2 fun b H3 =>
        if b = true then te σ2 H3 fun y H4 => ∃ acc, H4 Dd = some (.lst acc) ∧ acc.length < sizeLine ∧ Nx (upd H4 Dd (.lst (acc ++ [y]))) else Nx H3) := by
  have hlen := hT.length
  refine lc_keepX wk hD (keepBy H1 pr) hG hw ?_ he ?_ ?_
  · intro x H' hx s' Q' q'
    obtain ⟨p, hp, rfl⟩ := List.mem_map.mp hx
    obtain ⟨i, hi, ei⟩ := List.mem_iff_getElem.mp hp
    obtain ⟨t, htm, hH⟩ := Each.get hT (i := i) (a := p) (by rw [List.getElem?_eq_getElem hi, ei])
    rw [keepBy_at hH] at q'
    exact ht p t H' (List.mem_of_getElem? htm) (s' _ _ hH) s' Q' q'
  · rw [List.length_map]
    exact small1000 (by omega)
  · intro H2 s2 hD2
    obtain ⟨bs, e1, e2⟩ := tels_filter (pr := pr) hT (hT.keep (tk_same s2))
    rw [List.map_id] at e1
    rw [e1] at hD2
    exact hd bs H2 s2 hD2 e2
def spBothG (C D : Addr) : Sp := fun vs H Q _ => ∃ p q r s wd, vs = [.ref p, .ref q] ∧ TwoAt C D H p q r s wd ∧ ∀ H', Same H H' → Q .non H'
theorem ok_bothT (F : Fun K "check_both" "check_both" sBoth f fd) (B : Bi mg) (T : Txt2 K mg C) (TG : TxtG K mg D) (insD : C8.InsC K D) (hE : HasMT P w K mg base C "__eq__" 1 ["self", "other"] (fun _ => spLEq C)) : FnT P w K mg base CX0 3 f fd ["one", "other"] (fun _ => spBothG C D) := by
  obtain ⟨fE, fdE, FE, mE, bE⟩ := hE
  refine FunT_okN F scBoth (fun zz vs H Q E h => ?_) (fun cdv A outer s H vs Q E zz hot hh hr h => ?_)
  · obtain ⟨p, q, r, s', wd, rfl, _⟩ := h
    rfl
  · obtain ⟨p, q, r, s', wd, rfl, two, qq⟩ := h
    refine ⟨_, pss_cons (ps_if (pt_not (pt_val (pe_callB call_isi (by rfl) B.isi (by decide +kernel) (pa_cons (pv 0) (pa_cons (pe_glob (v := .ref D) rfl TG.mgD rfl) pa_nil))))) (pss_one ps_never) pss_nil)
      (pss_cons (ps_if (pt_not (pt_val (pe_callB call_isi (by rfl) B.isi (by decide +kernel) (pa_cons (pv 1) (pa_cons (pe_glob (v := .ref D) rfl TG.mgD rfl) pa_nil))))) (pss_one ps_never) pss_nil)
      (pss_one (ps_if (pt_cmpR (op_neOT FE bE mE T.ne (hr.mono (by decide)) hot) (pe_fld (pv 0) rfl) (pe_fld (pv 1) rfl) (nomark _)) (pss_one ps_never) pss_nil))), ?_⟩
    have isG : ∀ {H' : Hp} {p : Addr} {r : GR}, GatAt C D H' p r → TyX K H' (.ref p) (.ref D) := fun h => by
      obtain ⟨dx, e⟩ := h.at_
      exact .base (.ins e insD.cl insD.ha insD.hn insD.htk insD.hm)
    obtain ⟨dx, hp⟩ := two.g1.at_
    obtain ⟨dy, hq⟩ := two.g2.at_
    obtain ⟨dl, d0, hl0⟩ := two.g1.land.ins
    obtain ⟨dm, d1, hm0⟩ := two.g2.land.ins
    refine ⟨_, rfl, _, _, _, _, _, rfl, .own D, isG two.g1, insD.me, true, rfl, iteF ⟨_, rfl, _, _, _, _, _, rfl, .own D, isG two.g2, insD.me, true, rfl, iteF ?_⟩⟩
    refine ⟨_, rfl, p, D, dx, _, _, rfl, hp, TG.cl, TG.nL, gf_land _ _ _, _, rfl, q, D, dy, _, _, rfl, hq, TG.cl, TG.nL, gf_land _ _ _, hh, r.pl, dl, _, s'.pl, dm, _, rfl, rfl, hl0, hm0, r.pl, r.L, s'.pl, s'.L, r.g, s'.g, wd, wd, rfl, two.g1.land, two.gd, two.g2.land, two.eg ▸ two.gd, _, rfl, _, rfl, ?_⟩
    rw [decide_eq_true two.eg]
    exact iteF (qq H (Same.refl H))
def spClashT (C D : Addr) : Addr → Sp := fun _ => spClashG C D
theorem ok_clashT (F : Fun K "clashes" "clashes" sClash f fd) (B : Bi mg) (TG : TxtG K mg D) (hB : HasT P w K mg base "check_both" 3 ["one", "other"] (fun _ => spBothG C D)) (hK : HasT P w K mg base "key_of" 1 ["telling"] (fun _ => spKeyOf)) (hTl : HasTlT P w K mg base C D) : FnT P w K mg base CX0 4 f fd ["one", "other"] (spClashT C D) := by
  obtain ⟨fT, fdT, FT, mT, FnT⟩ := hTl
  obtain ⟨dsT, vT, bT⟩ := tell_b1 FnT
  refine FunT_okN F scClash (fun zz vs H Q E h => ?_) (fun cdv A outer s H vs Q E zz hot hh hr h => ?_)
  · obtain ⟨p, q, r, s', wd, rfl, _⟩ := h
    rfl
  · have hu : (A.deeper (envOfC "clashes" (defScope sClash) s.heap.objs.size f cdv)).units + 64 < cLine := unitsH hr
    have hu1 : (A.deeper (envOfC "clashes" (defScope sClash) s.heap.objs.size f cdv)).units < cLine := by omega
    have hu2 : (A.deeper (envOfC "clashes" (defScope sClash) s.heap.objs.size f cdv)).units + 1 < cLine := by omega
    obtain ⟨p, q, r, s', wd, rfl, two, qg⟩ := h
    refine ⟨_, pss_cons (ps_expr (pe_ht hB hr hot (pa_cons (pv 0) (pa_cons (pv 1) pa_nil))))
      (pss_cons (ps_set (i := 2) scClash.nd rfl (.inr rfl) (pe_dcTH (own := [("telling", 4)]) (g := gName 4) (tt := tYes) (tk := tCallT zz (fun _ => spKeyOf) (tCons (tVar 4) tNil)) (tv := tVar 4) hot hu1 scClash.nd (pi_listH (pe_meth0H FT mT TG.cl (hr.mono (by decide)) hot bT vT (pv 0))) (blkOk_by (N := nClash) (sc := defScope sClash) (by decide +kernel))
          (fun _ _ _ _ _ => pg_name (i := 4) scClash.nd rfl (.inl rfl)) (fun _ _ _ _ _ => pts_nil) (fun _ _ _ _ _ => pe_ht hK hr hot (pa_cons (pv 4) pa_nil)) (fun _ _ _ _ _ => pv 4)))
      (pss_cons (ps_setLcH (i := 3) (own := [("telling", 4)]) (g := gName 4) (tt := tTest (tOp (rNeD K) (tDGet2 (tVar 2) (tCallT zz (fun _ => spKeyOf) (tCons (tVar 4) tNil)) (tVar 4)) (tVar 4))) (te := tVar 4) hot scClash.nd rfl rfl (sw_true rfl rfl rfl (by decide +kernel)) (pi_listH (pe_meth0H FT mT TG.cl (hr.mono (by decide)) hot bT vT (pv 1))) (blkOk_by (N := nClash) (sc := defScope sClash) (by decide +kernel))
          (fun _ _ _ _ _ => pg_name (i := 4) scClash.nd rfl (.inl rfl)) (fun _ _ _ _ _ => pts_one (pt_cmpR (op_neD hu) (pe_dget2 hu2 (pv 2) (pe_ht hK hr hot (pa_cons (pv 4) pa_nil)) (pv 4) ⟨rfl, rfl, rfl, rfl⟩) (pv 4) (nomark _))) (fun _ _ _ _ _ => pv 4))
      (pss_one (ps_ret (pe_callTy call_tuple_of (by rfl) B.tuple (by decide +kernel) (pa_cons (pe_callB (cr_sortD hu) (by rfl) B.sorted (by decide +kernel) (pa_cons (pe_lcT (own := [("telling", 4)]) (g := gName 4) (tt := tYes) (te := tCallT zz (fun _ => spKeyOf) (tCons (tVar 4) tNil)) hot scClash.nd (pi_listH (pv 3)) (blkOk_by (N := nClash) (sc := defScope sClash) (by decide +kernel))
          (fun _ _ _ _ _ => pg_name (i := 4) scClash.nd rfl (.inl rfl)) (fun _ _ _ _ _ => pts_nil) (fun _ _ _ _ _ => pe_ht hK hr hot (pa_cons (pv 4) pa_nil))) pa_nil)) pa_nil)))))), ?_⟩
    refine ⟨_, rfl, _, rfl, hh, p, q, r, s', wd, rfl, two, fun H1 s1 => ?_⟩
    have two1 := two.same s1
    obtain ⟨dg, hg⟩ := two1.g1.at_
    refine ⟨_, rfl, p, dg, _, rfl, hg, gf_no _ _ _, hh.same s1, p, r, rfl, two1.g1, fun l hl => ⟨l, rfl, ⟨_, .inl (.inl upd_same)⟩, fun Dk hDk => ?_⟩⟩
    have s2 := same_new (o := .lst (r.as.map V.ref)) hl
    have hl2 : upd H1 l (.lst (r.as.map V.ref)) l = some (.lst (r.as.map V.ref)) := upd_same
    have two2 := two1.same s2
    generalize upd H1 l (.lst (r.as.map V.ref)) = H2 at s2 hl2 two2 hDk
    have S2 := s1.trans s2
    have hlen : r.as.length = r.ts.length := two2.g1.tels.length
    refine dcT_it (walk_hot (walk_list (K := K) (a := l) (xs := r.as.map V.ref))) (fun i H' => Same H2 H' ∧ ∃ kvs, H' Dk = some (.dT kvs) ∧ kvs.length ≤ i ∧ ∀ (k : Ky) (v : V), valV kvs (kyK k) = some v ↔ ∃ (j : Nat) (t : Tel) (a : Addr), j < i ∧ r.ts[j]? = some t ∧ r.as[j]? = some a ∧ kyOf t = k ∧ v = .ref a)
      ⟨same_new hDk, [], upd_same, Nat.le_refl _, fun k v => ⟨fun e => (by cases e), fun ⟨j, _, _, hj, _⟩ => absurd hj (Nat.not_lt_zero j)⟩⟩ (fun i H _ h => ⟨.inl (.inl (h.1 _ _ hl2)), (hh.same S2).same h.1⟩) ?_ ?_
    · rintro i x H3 H4 hi ⟨s3, kvs, hD3, hl3, hv⟩ ⟨rfl, hx⟩
      rw [List.length_map] at hi
      rw [List.getElem?_map] at hx
      obtain ⟨pa, hpa, rfl⟩ := Option.map_eq_some_iff.mp hx
      obtain ⟨t, ht, hH⟩ := Each.get two2.g1.tels hpa
      refine ⟨rfl, yes_it ⟨_, rfl, (hh.same S2).same s3, pa, t, rfl, s3 _ _ hH, fun kp hkp => ⟨_, rfl, kvs, kyK (kyOf t), kp, rfl, upd_same, (same_new hkp) _ _ hD3, small1000 (by have := two.l1; omega), same_mut (s3.trans (same_new hkp)) hDk, _, upd_same, Nat.le_trans (length_putK _ _ _) (by omega), fun k v => ?_⟩⟩⟩
      rw [valV_put]
      by_cases e : kyK k = kyK (kyOf t)
      · rw [if_pos e]
        constructor
        · intro h
          exact ⟨i, t, pa, Nat.lt_succ_self i, ht, hpa, (kyK_inj e).symm, (Option.some.inj h).symm⟩
        · rintro ⟨j, t', a', hj, ht', ha', hk, rfl⟩
          have ej := key_at two.n1 ht ht' ((kyK_inj e).symm.trans hk.symm)
          subst ej
          rw [hpa] at ha'
          rw [Option.some.inj ha']
      · rw [if_neg e, hv]
        constructor
        · rintro ⟨j, t', a', hj, h⟩
          exact ⟨j, t', a', Nat.lt_succ_of_lt hj, h⟩
        · rintro ⟨j, t', a', hj, ht', ha', hk, h⟩
          refine ⟨j, t', a', ?_, ht', ha', hk, h⟩
          rcases Nat.lt_succ_iff_lt_or_eq.mp hj with hj | rfl
          · exact hj
          · rw [ht] at ht'
            rw [← Option.some.inj ht'] at hk
            exact absurd (by rw [hk]) e
    rintro H5 ⟨s5, kvs, hDk5, hl5, hv⟩
    rw [List.length_map] at hv
    have two5 := two2.same s5
    have S5 := S2.trans s5
    have by1 : ByKy H5 r.as r.ts kvs := fun k v => by
      rw [hv]
      constructor
      · rintro ⟨j, t, a, _, h⟩
        exact ⟨j, t, a, h⟩
      · rintro ⟨j, t, a, ht, ha, h⟩
        exact ⟨j, t, a, (List.getElem?_eq_some_iff.mp ha).1, ht, ha, h⟩
    clear hv
    -- unlike
    obtain ⟨dg2, hg2⟩ := two5.g2.at_
    refine ⟨_, rfl, q, dg2, _, rfl, hg2, gf_no _ _ _, hh.same S5, q, s', rfl, two5.g2, fun l2 hlq => ⟨l2, rfl, ⟨_, .inl (.inl upd_same)⟩, fun Dd hDd => ?_⟩⟩
    have s6 := same_new (o := .lst (s'.as.map V.ref)) hlq
    have hl6 : upd H5 l2 (.lst (s'.as.map V.ref)) l2 = some (.lst (s'.as.map V.ref)) := upd_same
    have two6 := two5.same s6
    have hDk6 := s6 _ _ hDk5
    generalize upd H5 l2 (.lst (s'.as.map V.ref)) = H6 at s6 hl6 two6 hDk6 hDd
    have S6 := S5.trans s6
    refine pick_telsXJ (walk_hot (walk_list (K := K) (a := l2) (xs := s'.as.map V.ref))) (fun H' s' => ⟨.inl (.inl (s' _ _ hl6)), (hh.same S6).same s'⟩) two6.g2.tels hDd (fun u => r.ts.any fun t => decide (kyOf t = kyOf u) && decide (t ≠ u)) two.l2 (fun _ => rfl) ?_ (fun x H Q q => ⟨_, rfl, q⟩) ?_
    · intro pu u H' hu' hH s' Q' q'
      refine ⟨_, rfl, Dk, rfl, .inr ⟨kvs, .inl (s' _ _ hDk6)⟩, _, rfl, (hh.same S6).same s', pu, u, rfl, hH, fun kp hkp => ⟨_, rfl, valV kvs (kyK (kyOf u)), DGet.t (b := kp) ((same_new hkp) _ _ (s' _ _ hDk6)) upd_same, ?_⟩⟩
      have hH2 := (same_new (o := .tup (keyV u)) hkp) _ _ hH
      have okU := two.ok2 u hu'
      cases hvv : valV kvs (kyK (kyOf u)) with
      | none =>
        have no : ∀ t ∈ r.ts, kyOf t ≠ kyOf u := fun t ht e => by
          obtain ⟨j, hj⟩ := List.mem_iff_getElem?.mp ht
          have lj : j < r.as.length := by rw [hlen]; exact (List.getElem?_eq_some_iff.mp hj).1
          have := (by1 (kyOf u) (.ref r.as[j])).mpr ⟨j, t, _, hj, List.getElem?_eq_getElem lj, e, rfl⟩
          rw [hvv] at this
          cases this
        refine ⟨_, rfl, telD u, telD u, dp_tel hH2, dp_tel hH2, shaped_tel okU, shaped_tel okU, _, rfl, ?_⟩
        rw [tel_eqv, decide_eq_true rfl]
        have := q' _ (same_new (o := .tup (keyV u)) hkp)
        rw [clash_none no] at this
        exact this
      | some v =>
        obtain ⟨j, t, a, ht, ha, hk, rfl⟩ := (by1 (kyOf u) v).mp hvv
        obtain ⟨t', ht', hHa⟩ := Each.get two6.g1.tels ha
        rw [ht] at ht'
        obtain rfl := Option.some.inj ht'
        have hHa := (same_new (o := .tup (keyV u)) hkp) _ _ (s' _ _ hHa)
        refine ⟨_, rfl, telD t, telD u, dp_tel hHa, dp_tel hH2, shaped_tel (two.ok1 t (List.mem_of_getElem? ht)), shaped_tel okU, _, rfl, ?_⟩
        rw [tel_eqv]
        have := q' _ (same_new (o := .tup (keyV u)) hkp)
        rw [clash_one two.n1 ht hk] at this
        by_cases e : t = u
        · rw [decide_eq_true e]
          rw [decide_eq_false (by rw [e]; simp)] at this
          exact this
        · rw [decide_eq_false e]
          rw [decide_eq_true e] at this
          exact this
    intro bs H7 s7 hD7 hT7
    have S7 := S6.trans s7
    -- their KEYs, rising
    refine ⟨_, rfl, Dd, rfl, ⟨_, .inl (.inl hD7)⟩, fun De hDe => ?_⟩
    refine lc_rel (walk_hot (walk_list (K := K) (a := Dd) (xs := bs.map V.ref))) hDe (fun _ => true) (fun x y H' => ∃ q, y = V.ref q ∧ ∀ (pt : Addr) (t : Tel), x = .ref pt → H7 pt = some (.tup (telV t)) → H' q = some (.tup (kyV (kyOf t)))) (fun H' s' => ⟨.inl (.inl (s' _ _ hD7)), (hh.same S7).same s'⟩) (fun _ => rfl) (fun x H' _ _ Q' q' => q') ?_ ?_ ?_ ?_
    · intro x H' hx _ s' Q' q'
      obtain ⟨pt, hpt, rfl⟩ := List.mem_map.mp hx
      obtain ⟨i, hi, ei⟩ := List.mem_iff_getElem.mp hpt
      obtain ⟨t, ht, hH⟩ := Each.get hT7 (i := i) (a := pt) (by rw [List.getElem?_eq_getElem hi, ei])
      refine ⟨_, rfl, (hh.same S7).same s', pt, t, rfl, s' _ _ hH, fun kp hkp => q' _ _ (same_new hkp) ⟨kp, rfl, fun pt2 t2 e2 h2 => ?_⟩⟩
      obtain rfl : pt = pt2 := V.ref.inj e2
      rw [hH] at h2
      rw [← telV_inj (HO.tup.inj (Option.some.inj h2))]
      exact upd_same
    · rintro x y H' H'' acc hacc xs' ⟨kq, e, h⟩
      exact ⟨kq, e, fun pt t ep ht => xs' _ _ (ne_of (h pt t ep ht) hacc (by intro z; cases z)) (h pt t ep ht)⟩
    · rw [List.length_map, hT7.length]
      exact small1000 (Nat.le_trans (List.length_filter_le _ _) (Nat.le_trans two.l2 (by decide)))
    · intro zs H8 s8 hD8 hE
      rw [List.filter_eq_self.mpr fun _ _ => rfl] at hE
      obtain ⟨qs, rfl, hQ8⟩ := told_kys hT7 hE
      have hR := kys_each hQ8
      unfold tNil
      refine sort_enc (K := K) (enc := kyD) (.inl (.inl hD8)) (hR.mono fun x k ⟨pk, hx, hpk⟩ => by rw [hx]; exact .tup (.inl (.inl hpk)) (.cons (.str _) (.cons (.str _) (.cons (.str _) (.cons (.str _) .nil))))) ky_alike (fun k => ⟨_, _, rfl⟩) ky_depth fun p9 ys hp9 hy => ?_
      obtain ⟨ks, rfl, hK8⟩ := kys_of (hy _ hR)
      refine ⟨p9, _, rfl, .inl ⟨.inl (.inl upd_same), fun u hu => ?_⟩⟩
      have s10 := (same_new (o := .lst (ks.map V.ref)) hp9).trans (same_new (o := .tup (ks.map V.ref)) hu)
      exact qg u ks _ ((S7.trans s8).trans s10) upd_same (hK8.same s10)
end
end Wl

/-! three joined. -/
namespace Wl
open PySem PySem.Spec PyProof.Rows L2
theorem clash_nil {ts us : List Tel} : clashT ts us = [] ↔ ∀ t ∈ ts, ∀ u ∈ us, kyOf t = kyOf u → t = u := by
  unfold clashT
  rw [List.filter_eq_nil_iff]
  constructor
  · intro h t ht u hu e
    apply Classical.byContradiction
    intro ne
    exact h u hu (List.any_eq_true.mpr ⟨t, ht, by rw [Bool.and_eq_true, decide_eq_true_eq, decide_eq_true_eq]; exact ⟨e, ne⟩⟩)
  · intro h u hu e
    obtain ⟨t, ht, e⟩ := List.any_eq_true.mp e
    rw [Bool.and_eq_true, decide_eq_true_eq, decide_eq_true_eq] at e
    exact e.2 (h t ht u hu e.1)
theorem clash_joinL {ts us vs : List Tel} (h1 : clashT ts vs = []) (h2 : clashT us vs = []) : clashT (joinT ts us) vs = [] := by
  rw [clash_nil] at *
  intro t ht u hu e
  exact (mem_joinT.mp ht).elim (fun h => h1 t h u hu e) (fun h => h2 t h u hu e)
theorem clash_joinR {ts us vs : List Tel} (h1 : clashT ts us = []) (h2 : clashT ts vs = []) : clashT ts (joinT us vs) = [] := by
  rw [clash_nil] at *
  intro t ht u hu e
  exact (mem_joinT.mp hu).elim (fun h => h1 t ht u h e) (fun h => h2 t ht u h e)
theorem joinT_len (ts us : List Tel) : (joinT ts us).length ≤ ts.length + us.length := by
  unfold joinT
  rw [List.length_append]
  have := List.length_filter_le (fun u => !(ts.any fun t => decide (t = u))) us
  omega
section
variable {P : Program} {w : World} {K : PySem.W.Frag} {mg : Str → Option Value} {base : Heap} {f C D cM cL : Addr} {x : XA} {fd : FuncData}
theorem KysAt.app {H : Hp} {as bs : List Addr} {ks ls : List Ky} (h1 : KysAt H as ks) (h2 : KysAt H bs ls) : KysAt H (as ++ bs) (ks ++ ls) := Each.append h1 h2
theorem cat_kys {H : Hp} {Q : VK} {u1 u2 : Addr} {a1 a2 : List Addr} {l1 l2 : List Ky} (h1 : H u1 = some (.tup (a1.map V.ref))) (k1 : KysAt H a1 l1) (h2 : H u2 = some (.tup (a2.map V.ref))) (k2 : KysAt H a2 l2) (hz : l1.length + l2.length ≤ 1000)
    (q : ∀ u H', Same H H' → H' u = some (.tup ((a1 ++ a2).map V.ref)) → Q (.ref u) H') : rCatA K (.ref u1) (.ref u2) H Q := by
  have e1 := k1.length
  have e2 := k2.length
  refine ⟨u1, u2, _, _, rfl, rfl, .inl (.inl h1), .inl (.inl h2), lzl (by rw [List.length_map, List.length_map]; omega), fun e => ?_, fun _ e => ?_, fun _ _ p hp => ?_⟩
  · obtain rfl : a1 = [] := by simpa using e
    exact q u2 H (Same.refl H) h2
  · obtain rfl : a2 = [] := by simpa using e
    refine q u1 H (Same.refl H) ?_
    rw [List.append_nil]
    exact h1
  · refine q p _ (same_new hp) ?_
    rw [upd_same, List.map_append]
abbrev tCl (a C D : Addr) (i j : Nat) : TE := tCallT a (spClashT C D) (tCons (tVar i) (tCons (tVar j) tNil))
def tThreeC (K : PySem.W.Frag) (C D : Addr) : ClT := fun a => tRet (tOp (rNeD K) (tOp (rCatA K) (tOp (rCatA K) (tCl a C D 0 1) (tCl a C D 0 2)) (tCl a C D 1 2)) (tTup tNil))
theorem three_suite {H1 : Hp} {a p q o : Addr} {r s t : GR} {wd : Nat} {Dn : Ends} {y z : Option V} (hh : HotH a H1) (t12 : TwoAt C D H1 p q r s wd) (t13 : TwoAt C D H1 p o r t wd) (t23 : TwoAt C D H1 q o s t wd) (l2 : s.ts.length ≤ 30) (l3 : t.ts.length ≤ 30)
    (ne : ¬ (clashT r.ts s.ts = [] ∧ clashT r.ts t.ts = [] ∧ clashT s.ts t.ts = [])) (qq : ∀ H', Same H1 H' → Dn.rt (.bl true) H') : tThreeC K C D a Dn [some (.ref p), some (.ref q), some (.ref o), y, z] H1 := by
  refine ⟨_, rfl, _, rfl, hh, p, q, r, s, wd, rfl, t12, fun u1 ks1 H2 s2 h1 k1 => ?_⟩
  refine ⟨_, rfl, _, rfl, hh.same s2, p, o, r, t, wd, rfl, t13.same s2, fun u2 ks2 H3 s3 h2 k2 => ?_⟩
  have n1 := clashK_len r.ts s.ts
  have n2 := clashK_len r.ts t.ts
  have n3 := clashK_len s.ts t.ts
  refine cat_kys (s3 _ _ h1) (k1.same s3) h2 k2 (by omega) fun v1 H4 s4 h3 => ?_
  have k3 : KysAt H4 (ks1 ++ ks2) (clashK r.ts s.ts ++ clashK r.ts t.ts) := ((k1.same s3).same s4).app (k2.same s4)
  have S4 := s2.trans (s3.trans s4)
  refine ⟨_, rfl, _, rfl, hh.same S4, q, o, s, t, wd, rfl, t23.same S4, fun u3 ks3 H5 s5 h4 k4 => ?_⟩
  refine cat_kys (s5 _ _ h3) (k3.same s5) h4 k4 (by rw [List.length_append]; omega) fun v2 H6 s6 h5 => ?_
  have k5 : KysAt H6 ((ks1 ++ ks2) ++ ks3) ((clashK r.ts s.ts ++ clashK r.ts t.ts) ++ clashK s.ts t.ts) := ((k3.same s5).same s6).app (k4.same s6)
  have S6 := S4.trans (s5.trans s6)
  refine ⟨lz, fun e0 ne0 => ?_⟩
  have s7 := same_new (o := .tup []) ne0
  have ok : ∀ k ∈ (clashK r.ts s.ts ++ clashK r.ts t.ts) ++ clashK s.ts t.ts, OkKy k := fun k hk => by
    rcases List.mem_append.mp hk with hk | hk
    · rcases List.mem_append.mp hk with hk | hk
      · exact clashK_ok t12.ok2 k hk
      · exact clashK_ok t13.ok2 k hk
    · exact clashK_ok t23.ok2 k hk
  refine ⟨.tuple (((clashK r.ts s.ts ++ clashK r.ts t.ts) ++ clashK s.ts t.ts).map kyD), .tuple [], .tup (.inl (.inl (s7 _ _ h5))) (dp_kys (k5.same s7)), .tup (.inl (.inl upd_same)) .nil, ?_, by decide +kernel, ?_⟩
  · refine shaped_tuple (by simpa [PyData.canLay0] using lay_kys ok) ?_
    have := depth_kys ((clashK r.ts s.ts ++ clashK r.ts t.ts) ++ clashK s.ts t.ts)
    omega
  have e : PyData.eqv (.tuple (((clashK r.ts s.ts ++ clashK r.ts t.ts) ++ clashK s.ts t.ts).map kyD)) (.tuple []) = false := by
    rw [Bool.eq_false_iff]
    intro e
    apply ne
    have nil : (clashK r.ts s.ts ++ clashK r.ts t.ts) ++ clashK s.ts t.ts = [] := by
      cases hl : (clashK r.ts s.ts ++ clashK r.ts t.ts) ++ clashK s.ts t.ts with
      | nil => rfl
      | cons a b =>
        rw [hl] at e
        simp [PyData.eqv, PyData.eqvAll] at e
    simp only [List.append_eq_nil_iff] at nil
    exact ⟨clashK_nil.mp nil.1.1, clashK_nil.mp nil.1.2, clashK_nil.mp nil.2⟩
  rw [e]
  exact qq _ (S6.trans s7)
abbrev nThree : List Str := ["_law_first", "_law_second_here", "_law_third", "_law_lone", "_law_mate"]
theorem scThree : FnScope nThree psThree (defScope sThree) := ⟨rfl, rfl, rfl, by decide +kernel, rfl, by decide +kernel, by decide +kernel⟩
theorem ok_three (F : Fun K "_law_three_right" "_law_three_right" sThree f fd) (TL : OwnX K mg "Clash" "both" cL) (mCC : PySem.W.exmOne K (.ref cL) (.ref cL) = some true) (hJ : HasX P w K mg base "joined" 6 ["one", "other"] (spJoinA K C D cM cL x)) (hC : HasT P w K mg base "clashes" 4 ["one", "other"] (spClashT C D)) (hG : HasM P w K mg base D "__eq__" 3 ["self", "other"] (spGEq C D)) :
    FnOk P w K mg base CX0 7 f fd psThree (spThree C D) := by
  have hJG := joinG hJ
  obtain ⟨fG, fdG, FG, mG, bG⟩ := hG
  refine F.ok scThree (fun vs H Q E h => ?_) (fun cdv A outer s H vs Q E hr h => ?_)
  · obtain ⟨p, q, o, r, s, t, wd, rfl, _⟩ := h
    rfl
  · obtain ⟨p, q, o, r, s', t, wd, rfl, g1, g2, g3, gd, e2, e3, o1, o2, o3, v1, v2, v3, n1, n2, n3, l1, l2, l3, qq⟩ := h
    have rH : ∀ a : Addr, L2H.RoomH 6 ((A.deeper (envOfC "_law_three_right" (defScope sThree) s.heap.objs.size f cdv)).mark (some (.ref a))) := fun a => ⟨hr.dp, hr.un⟩
    refine ⟨_, pss_cons (ps_tryE (l := [(fun cls => PySem.W.exmOne K cls (.ref cL), tThreeC K C D)]) rfl rfl rfl scThree.nd takes_noN
        (fun W pn xe tk po => pss_one (ps_par (i := 3) (j := 4) (by rfl) scThree.nd rfl rfl (by decide) rfl rfl (pa_cons (pe_hxS hJ hr tk (pa_cons (pe_hxS hJ hr tk (pa_cons (pv 0) (pa_cons (pv 1) pa_nil))) (pa_cons (pv 2) pa_nil))) (pa_cons (pe_hxS hJ hr tk (pa_cons (pv 0) (pa_cons (pe_hxS hJ hr tk (pa_cons (pv 1) (pa_cons (pv 2) pa_nil))) pa_nil))) pa_nil)) (by rfl)))
        (.one (test_one ⟨by rfl, by decide, .inl TL.gC⟩) (fun a pn => pss_one (ps_ret (pe_cmpR (op_neD (unitsH (rH a))) (pe_op op_catA (pe_op op_catA (pe_ht hC (rH a) rfl (pa_cons (pv 0) (pa_cons (pv 1) pa_nil))) (pe_ht hC (rH a) rfl (pa_cons (pv 0) (pa_cons (pv 2) pa_nil)))) (pe_ht hC (rH a) rfl (pa_cons (pv 1) (pa_cons (pv 2) pa_nil)))) (pe_tup pa_nil) (nomark _)))) .nil))
      (pss_one (ps_ret (pe_chain (op_eqO FG bG mG (hr.mono (by decide))) (op_eqO FG bG mG (hr.mono (by decide))) (pv 3) (pv 4) (pe_h hJG hr (pa_cons (pv 2) (pa_cons (pe_h hJG hr (pa_cons (pv 1) (pa_cons (pv 0) pa_nil))) pa_nil)))))), ?_⟩
    have t12 : TwoAt C D H p q r s' wd := ⟨g1, g2, gd, e2.symm, o1, o2, by omega, by omega, n1, n2⟩
    have t13 : TwoAt C D H p o r t wd := ⟨g1, g3, gd, e3.symm, o1, o3, by omega, by omega, n1, n3⟩
    have t23 : TwoAt C D H q o s' t wd := ⟨g2, g3, by rw [e2]; exact gd, by rw [e2, e3], o2, o3, by omega, by omega, n2, n3⟩
    have clash : ∀ {H' : Hp} {Wo : WX} {Dn : Ends} {d : Option Addr} {y z : Option V}, Same H H' → (∀ v H', Dn.rt v H' = Q v H') → ¬ (clashT r.ts s'.ts = [] ∧ clashT r.ts t.ts = [] ∧ clashT s'.ts t.ts = []) →
        wCls Wo Dn [(fun cls => PySem.W.exmOne K cls (.ref cL), tThreeC K C D)] (.ref cL) d [some (.ref p), some (.ref q), some (.ref o), y, z] H' := fun {H' Wo Dn d y z} sm ed ne => by
      refine w_hit mCC fun a na => ?_
      have sa := same_new (o := exH a (.ref cL) d) na
      have S := sm.trans sa
      refine three_suite ⟨_, _, upd_same⟩ (t12.same S) (t13.same S) (t23.same S) l2 l3 ne fun H2 s2 => ?_
      rw [ed]
      exact qq _ (S.trans s2)
    have v2' : ∀ t ∈ s'.ts, t.v ∈ names s'.g := by rw [e2]; exact v2
    have v3' : ∀ u ∈ t.ts, u.v ∈ names t.g := by rw [e3]; exact v3
    have v3'' : ∀ u ∈ t.ts, u.v ∈ names s'.g := by rw [e2]; exact v3
    have j12 := joinT_len r.ts s'.ts
    have j23 := joinT_len s'.ts t.ts
    -- the first two
    refine ⟨_, rfl, _, rfl, .inr ⟨p, q, r, s', wd, rfl, t12, v1, v2, fun hc => ?_, fun _ h => absurd h (by omega), fun h12 _ u1 j1 H1 s1 hj1 jg1 jt1 jd1 _ _ => ?_⟩⟩
    · intro u qs d H' sm _ _ _
      exact clash sm (fun _ _ => rfl) fun e => hc e.1
    have okJ1 : ∀ u ∈ j1.ts, OkT u := by rw [jt1]; exact fun u hu => (joinT_mem hu).elim (o1 u) (o2 u)
    have vJ1 : ∀ u ∈ j1.ts, u.v ∈ names j1.g := by rw [jt1, jg1]; exact fun u hu => (joinT_mem hu).elim (v1 u) (v2 u)
    have nd12 := join_nodup n1 n2 h12
    have tJ : TwoAt C D H1 u1 o j1 t wd := ⟨hj1, g3.same s1, by rw [jg1]; exact gd, by rw [jg1, e3], okJ1, o3, by rw [jt1]; omega, by omega, by rw [jt1]; exact nd12, n3⟩
    have j123 := joinT_len (joinT r.ts s'.ts) t.ts
    refine ⟨_, rfl, .inr ⟨u1, o, j1, t, wd, rfl, tJ, vJ1, by rw [jg1]; exact v3, fun hc => ?_, fun _ h => absurd h (by rw [jt1]; omega), fun hJ3 _ u2 j2 H2 s2 hj2 jg2 jt2 jd2 _ _ => ?_⟩⟩
    · intro u qs d H' sm _ _ _
      refine clash (s1.trans sm) (fun _ _ => rfl) fun e => hc ?_
      rw [jt1]
      exact clash_joinL e.2.1 e.2.2
    rw [jt1] at jt2 hJ3
    have S2 := s1.trans s2
    -- the other way
    refine ⟨_, rfl, _, rfl, _, rfl, .inr ⟨q, o, s', t, wd, rfl, t23.same S2, v2', v3'', fun hc => ?_, fun _ h => absurd h (by omega), fun h23 _ u3 j3 H3 s3 hj3 jg3 jt3 jd3 _ _ => ?_⟩⟩
    · intro u qs d H' sm _ _ _
      exact clash (S2.trans sm) (fun _ _ => rfl) fun e => hc e.2.2
    have S3 := S2.trans s3
    have okJ3 : ∀ u ∈ j3.ts, OkT u := by rw [jt3]; exact fun u hu => (joinT_mem hu).elim (o2 u) (o3 u)
    have vJ3 : ∀ u ∈ j3.ts, u.v ∈ names r.g := by rw [jt3]; exact fun u hu => (joinT_mem hu).elim (v2 u) (v3 u)
    have nd23 := join_nodup n2 n3 h23
    have tK : TwoAt C D H3 p u3 r j3 wd := ⟨g1.same S3, hj3, gd, by rw [jg3, e2], o1, okJ3, by omega, by rw [jt3]; omega, n1, by rw [jt3]; exact nd23⟩
    have j1_23 := joinT_len r.ts (joinT s'.ts t.ts)
    refine .inr ⟨p, u3, r, j3, wd, rfl, tK, v1, vJ3, fun hc => ?_, fun _ h => absurd h (by rw [jt3]; omega), fun h1J _ u4 j4 H4 s4 hj4 jg4 jt4 jd4 _ _ => ?_⟩
    · intro u qs d H' sm _ _ _
      refine clash (S3.trans sm) (fun _ _ => rfl) fun e => hc ?_
      rw [jt3]
      exact clash_joinR e.1 e.2.1
    rw [jt3] at jt4 h1J
    have S4 := S3.trans s4
    refine ⟨_, _, rfl, ?_⟩
    -- alike
    have h13 : clashT r.ts t.ts = [] := by
      rw [clash_nil] at hJ3 ⊢
      exact fun a ha b hb e => hJ3 a (mem_joinT.mpr (.inl ha)) b hb e
    have okA : ∀ u ∈ j2.ts, OkT u := by rw [jt2]; exact fun u hu => (joinT_mem hu).elim (fun h => (joinT_mem h).elim (o1 u) (o2 u)) (o3 u)
    have okB : ∀ u ∈ j4.ts, OkT u := by rw [jt4]; exact fun u hu => (joinT_mem hu).elim (o1 u) (fun h => (joinT_mem h).elim (o2 u) (o3 u))
    have hj24 := hj2.same (s3.trans s4)
    obtain ⟨dx2, hu2⟩ := hj24.at_
    obtain ⟨dx4, hu4⟩ := hj4.at_
    have gA : Good j2.g wd := by rw [jg2, jg1]; exact gd
    have gB : Good j4.g wd := by rw [jg4]; exact gd
    have ndA := join_nodup nd12 n3 hJ3
    have ndB := join_nodup n1 nd23 h1J
    refine ⟨_, rfl, _, rfl, u2, dx2, _, u4, dx4, _, rfl, rfl, hu2, hu4, u2, u4, j2, j4, wd, wd, rfl, hj24, hj4, gA, gB, okA, okB, fun b H5 hb s5 => ?_⟩
    have hbt : b = true := hb.mpr ⟨by rw [jg2, jg1, jg4], by
      rw [jt2, jt4]
      refine (List.perm_ext_iff_of_nodup (nodup_of_keys ndA) (nodup_of_keys ndB)).mpr fun u => ?_
      simp only [mem_joinT]
      exact or_assoc⟩
    subst hbt
    refine ⟨true, rfl, _, rfl, iteT ?_⟩
    have S5 := S4.trans s5
    have h21 := clash_sym h12
    have nd21 := join_nodup n2 n1 h21
    refine ⟨_, rfl, _, rfl, _, rfl, q, p, s', r, wd, rfl, ⟨g2.same S5, g1.same S5, by rw [e2]; exact gd, e2, o2, o1, by omega, by omega, n2, n1⟩, v2', by rw [e2]; exact v1, h21, ?_, fun u5 j5 H6 s6 hj5 jg5 jt5 jd5 _ _ => ?_⟩
    · have := joinT_len s'.ts r.ts
      omega
    have S6 := S5.trans s6
    have okJ5 : ∀ u ∈ j5.ts, OkT u := by rw [jt5]; exact fun u hu => (joinT_mem hu).elim (o2 u) (o1 u)
    have vJ5 : ∀ u ∈ j5.ts, u.v ∈ names t.g := by rw [jt5, e3]; exact fun u hu => (joinT_mem hu).elim (v2 u) (v1 u)
    have j21 := joinT_len s'.ts r.ts
    have hc3 : clashT t.ts (joinT s'.ts r.ts) = [] := clash_joinR (clash_sym h23) (clash_sym h13)
    have j3_21 := joinT_len t.ts (joinT s'.ts r.ts)
    refine ⟨o, u5, t, j5, wd, rfl, ⟨g3.same S6, hj5, by rw [e3]; exact gd, by rw [e3, jg5, e2], o3, okJ5, by omega, by rw [jt5]; omega, n3, by rw [jt5]; exact nd21⟩, v3', vJ5, by rw [jt5]; exact hc3, by rw [jt5]; omega, fun u6 j6 H7 s7 hj6 jg6 jt6 jd6 _ _ => ?_⟩
    rw [jt5] at jt6
    have hj47 := (hj4.same s5).same (s6.trans s7)
    obtain ⟨dx7, hu7⟩ := hj47.at_
    obtain ⟨dx8, hu8⟩ := hj6.at_
    have okC : ∀ u ∈ j6.ts, OkT u := by rw [jt6]; exact fun u hu => (joinT_mem hu).elim (o3 u) (fun h => (joinT_mem h).elim (o2 u) (o1 u))
    refine ⟨u4, dx7, _, u6, dx8, _, rfl, rfl, hu7, hu8, u4, u6, j4, j6, wd, wd, rfl, hj47, hj6, gB, by rw [jg6, e3]; exact gd, okB, okC, fun b H8 hb s8 => ?_⟩
    have hbt : b = true := hb.mpr ⟨by rw [jg4, jg6, e3], by
      rw [jt4, jt6]
      refine (List.perm_ext_iff_of_nodup (nodup_of_keys ndB) (nodup_of_keys (join_nodup n3 nd21 hc3))).mpr fun u => ?_
      simp only [mem_joinT]
      constructor
      · rintro (h | h | h)
        · exact .inr (.inr h)
        · exact .inr (.inl h)
        · exact .inl h
      · rintro (h | h | h)
        · exact .inr (.inr h)
        · exact .inr (.inl h)
        · exact .inl h⟩
    subst hbt
    exact ⟨true, rfl, qq _ (S6.trans (s7.trans s8))⟩
end
end Wl

namespace Wl
open PySem PySem.Spec PyProof.Rows L2
/-- an exception's class that is not followed -/
def isExc (o : Obj) : Bool := match o.data with
  | .cls cd => (cd.mro.any fun v => match v with | .type n => n == "Exception" | _ => false) && !(decide (cd.name = "NoWord") || decide (cd.name = "NoAge") || decide (cd.name = "NoSure") || decide (cd.name = "NoName") || decide (cd.name = "NoMap") || decide (cd.name = "NoBack") || decide (cd.name = "Told") || decide (cd.name = "Full") || decide (cd.name = "Clash") || decide (cd.name = "WordError") || decide (cd.name = "LandError") || decide (cd.name = "JoinError"))
  | _ => false
/-- what these objects name, exceptions left out -/
def refsL (g : Addr → Option Obj) (as : List Addr) : List Addr := as.flatMap fun a => match g a with
  | some o => if isExc o then [] else He.refsD o
  | none => []
def layK (g : Addr → Option Obj) : Nat → List Addr → List Addr
  | 0, l => l
  | n + 1, l => l ++ layK g n (refsL g l)
def frK (g : Addr → Option Obj) : PySem.W.Frag := He.frG g (layK g 4 [mainGlobals])
/-- the hook of facts over such a frame, with one more test of the frame -/
def hookK (fa : List He.Fa) (fn : List He.DefD) (ex : PySem.W.Frag → Bool) : PySem.W.Hook where
  α := He.AlD × Bool
  obs := fun s => (He.obsD fa fn (frK s.heap.get?), ex (frK s.heap.get?))
  val := fun _ => (He.valD fn, true)
  says := fun _ h => ∃ K : PySem.W.Frag, K.In h ∧ He.SaysD fa fn K ∧ ex K = true
  of := fun _ _ e => ⟨_, He.frG_in, congrArg (fun z : He.AlD × Bool => z.1) e, congrArg (fun z : He.AlD × Bool => z.2) e⟩
  keeps := fun _ _ _ ⟨K, hK, c⟩ k => ⟨K, PySem.W.Frag.In.keeps hK k, c⟩
theorem map3 {α β γ δ : Type} {o : Option α} {f : α → β} {g : α → γ} {h : α → δ} {a : β} {b : γ} {c : δ} (h1 : o.map (fun s => (f s, g s)) = some (a, b)) (h2 : o.map h = some c) : o.map (fun s => (f s, g s, h s)) = some (a, b, c) := by
  cases o with
  | none => cases h1
  | some x =>
    have e1 := Option.some.inj h1
    have e2 := Option.some.inj h2
    show some (f x, g x, h x) = _
    rw [(Prod.mk.inj e1).1, (Prod.mk.inj e1).2, e2]
/-- what else a class says: isinstance -/
def exC (K : PySem.W.Frag) (x : Str) : Bool :=
  He.eqO (PySem.W.findIn K (.ref (He.ga K x)) "__class__") (some (some (.builtin "object.__class__"))) && (decide (PySem.W.mroIn K (He.ga K x) (.type "object") = some true) && decide (PySem.W.kitOne K (.ref (He.ga K x)) (.ref (He.ga K x)) = some true))
def exT0 (K : PySem.W.Frag) : Bool :=
  He.eqO (PySem.W.specialIn K (.builtin "object.__class__") "__get__") (some (some (.builtin "getset_descriptor.__get__"))) && (decide (PySem.W.takesIn K (.builtin "object.__class__") = some true) && (exC K "Land" && (exC K "Gathering" &&
  (He.eqO (PySem.W.findIn K (.ref (He.ga K "Land")) "__ne__") (some (some (.builtin "object.__ne__"))) && He.eqO (PySem.W.findIn K (.ref (He.ga K "Gathering")) "__ne__") (some (some (.builtin "object.__ne__")))))))
def exX (K : PySem.W.Frag) : Bool := errS K (He.ga K "NoWord") "word" 0 && (errS K (He.ga K "NoAge") "age" 3 && (errS K (He.ga K "NoSure") "sure" 4 && (errS K (He.ga K "NoName") "name" 10 && (errS K (He.ga K "NoMap") "place" 12 && (errS K (He.ga K "Told") "key" 15 && (errS K (He.ga K "Full") "many" 16 && (errS K (He.ga K "Clash") "both" 17 && (errSN K (He.ga K "NoBack") 14))))))))
def dOf (x : Str) (st : Stmt) (ds : List He.Dv) : He.DefD := ⟨(x, none), x, x, defArgs st, defBody st, defScope st, ds, []⟩
def dMet (cl m q : Str) (st : Stmt) (ds : List He.Dv) : He.DefD := ⟨(cl, some m), m, q, defArgs st, defBody st, defScope st, ds, []⟩
def exT (K : PySem.W.Frag) : Bool := exT0 K && exX K
def fn : List He.DefD := dMet "NoWord" "__init__" "NoWord.__init__" (inClass (topS 5) 0) [] :: dMet "NoAge" "__init__" "NoAge.__init__" (inClass (topS 6) 0) [] :: dMet "NoSure" "__init__" "NoSure.__init__" (inClass (topS 7) 0) [] :: dMet "NoName" "__init__" "NoName.__init__" (inClass (topS 9) 0) [] :: dMet "NoMap" "__init__" "NoMap.__init__" (inClass (topS 10) 0) [] :: dMet "Told" "__init__" "Told.__init__" (inClass (topS 13) 0) [] :: dMet "Full" "__init__" "Full.__init__" (inClass (topS 14) 0) [] :: dMet "Clash" "__init__" "Clash.__init__" (inClass (topS 15) 0) [] :: dOf "is_whole" sIsWhole [] :: dOf "is_number_from" sIsNum [] :: dOf "is_word" sIsWord [] :: dOf "check_word" sCheckW [] :: dOf "are_rows" sAreRows [] :: dOf "wrong_spot" sWrong [] :: dOf "spots_in" sSpotsIn [] :: dOf "checked_spots" sSpots [] :: dMet "Land" "__init__" "Land.__init__" sInit [] :: dMet "Land" "check_name" "Land.check_name" sCheck [] :: dMet "Land" "__eq__" "Land.__eq__" sEq [] :: dOf "check_age" sCheckA [] :: dOf "check_sure" sCheckS [] :: dOf "key_of" sKeyOf [] :: dMet "Gathering" "__init__" "Gathering.__init__" sGInit [] :: dMet "Gathering" "place_of" "Gathering.place_of" sGPlace [] :: dMet "Gathering" "put" "Gathering.put" sGPut [.str "self", .bl true] :: dMet "Gathering" "back" "Gathering.back" sGBack [] :: dMet "Gathering" "settle" "Gathering.settle" sSettle [] :: dMet "Gathering" "tellings" "Gathering.tellings" sGTell [.non] :: dMet "Gathering" "things" "Gathering.things" sGThings [] :: dMet "Gathering" "gatherers" "Gathering.gatherers" sGGathers [] :: dMet "Gathering" "__eq__" "Gathering.__eq__" sGEq [] :: dMet "Gathering" "__len__" "Gathering.__len__" sGLen [] :: dOf "check_both" sBoth [] :: dOf "clashes" sClash [] :: dOf "joined" sJoin [] :: dOf "_law_cell" sCell [] :: dOf "_law_purse" sPurse [] :: dOf "_law_pick" sPick [] :: dOf "_law_menu" sMenu [] :: dOf "_law_word" sWord [] :: dOf "_law_fresh" sFresh [] :: dOf "_law_land" sLand [] :: dOf "_law_names" sNames [] :: dOf "_law_pools" sPools [] :: dOf "_law_row" sRow [] :: dOf "_law_key" sKey [] :: dOf "_law_put" sPut [] :: dOf "_law_kept" sKept [] :: dOf "_law_filled" sLFilled [] :: dOf "_law_twisted" sTwist [] :: dOf "_law_second" sSecond [] :: dOf "_law_clashing" sClashing [] :: dOf "_law_no_back" sNoBack [] :: dOf "_law_lives_right" sLives [] :: dOf "_law_joined_right" sJoined [] :: dOf "_law_three_right" sThree [] :: dOf "law" sLaw [] :: []
def fa : List He.Fa := .glo "NoWord" :: .meth "NoWord" "__init__" :: .glo "NoAge" :: .meth "NoAge" "__init__" :: .glo "NoSure" :: .meth "NoSure" "__init__" :: .glo "NoName" :: .meth "NoName" "__init__" :: .glo "NoMap" :: .meth "NoMap" "__init__" :: .glo "Told" :: .meth "Told" "__init__" :: .glo "Full" :: .meth "Full" "__init__" :: .glo "Clash" :: .meth "Clash" "__init__" :: .glo "is_whole" :: .glo "is_number_from" :: .glo "is_word" :: .glo "check_word" :: .glo "are_rows" :: .glo "wrong_spot" :: .glo "spots_in" :: .glo "checked_spots" :: .glo "Land" :: .meth "Land" "check_name" :: .meth "Land" "__eq__" :: .glo "check_age" :: .glo "check_sure" :: .glo "key_of" :: .glo "Gathering" :: .meth "Gathering" "place_of" :: .meth "Gathering" "put" :: .meth "Gathering" "back" :: .meth "Gathering" "settle" :: .meth "Gathering" "tellings" :: .meth "Gathering" "things" :: .meth "Gathering" "gatherers" :: .meth "Gathering" "__eq__" :: .meth "Gathering" "__len__" :: .glo "check_both" :: .glo "clashes" :: .glo "joined" :: .glo "_law_cell" :: .glo "_law_purse" :: .glo "_law_pick" :: .glo "_law_menu" :: .glo "_law_word" :: .glo "_law_fresh" :: .glo "_law_land" :: .glo "_law_names" :: .glo "_law_pools" :: .glo "_law_row" :: .glo "_law_key" :: .glo "_law_put" :: .glo "_law_kept" :: .glo "_law_filled" :: .glo "_law_twisted" :: .glo "_law_second" :: .glo "_law_clashing" :: .glo "_law_no_back" :: .glo "_law_lives_right" :: .glo "_law_joined_right" :: .glo "_law_three_right" :: .glo "law" :: .str "LETTERS" "abcdefghijklmnopqrstuvwxyz" :: .int "LONGEST_WORD" 8 :: .int "MOST_ROWS" 6 :: .int "MOST_COLUMNS" 6 :: .int "OLDEST" 120 :: .int "MOST_TELLINGS" 200 :: .str "DOT" "." :: .str "DOUBT" "?" :: .str "LAKE" "-" :: .free "bool" :: .free "repr" :: .free "set" :: .glo "NoBack" :: .cls "Land" :: .mkr "Land" :: .noat "Land" "spots" :: .noat "Land" "rows" :: .cls "Gathering" :: .mkr "Gathering" :: .noat "Gathering" "land" :: .noat "Gathering" "told" :: .noat "Gathering" "deeds" :: .exm "NoBack" "NoBack" true :: .exm "Told" "Told" true :: .exm "Clash" "Clash" true :: .free "len" :: .free "range" :: .free "isinstance" :: .free "tuple" :: .free "list" :: .free "sorted" :: .free "all" :: .free "int" :: .free "max" :: .free "min" :: .free "enumerate" :: .free "str" :: []
abbrev R : PySem.W.OpenRow := PySem.W.OpenLaw.row PySem.Challenge.rw_wordlines_k38_joined_and_clashes
abbrev hk : PySem.W.Hook := hookK fa fn exT
def ob (s : PySem.W.SharedT) : He.AlD × Bool := (He.obsD fa fn (frK (HandSHeadRun.getT s)), exT (frK (HandSHeadRun.getT s)))
theorem ob_eq (s : PySem.W.SharedT) : ob s = hk.obs s.abs := by
  have e : HandSHeadRun.getT s = s.abs.heap.get? := funext (HandSHeadRun.getT_eq s)
  unfold ob
  rw [e]
  rfl
def others : List PySem.Str := "_wall" :: "WordError" :: "LandError" :: "JoinError" :: "NoWord" :: "NoAge" :: "NoSure" :: "NoLand" :: "NoName" :: "NoMap" :: "NoTelling" :: "NoBack" :: "Told" :: "Full" :: "Clash" :: "LETTERS" :: "LONGEST_WORD" :: "is_whole" :: "is_number_from" :: "is_word" :: "check_word" :: "MOST_ROWS" :: "MOST_COLUMNS" :: "LAKE" :: "are_rows" :: "wrong_spot" :: "spots_in" :: "checked_spots" :: "Land" :: "MOST_TELLINGS" :: "OLDEST" :: "DOT" :: "DOUBT" :: "check_age" :: "check_sure" :: "key_of" :: "telling_row" :: "Gathering" :: "check_both" :: "clashes" :: "joined" :: "_law_cell" :: "_law_purse" :: "_law_pick" :: "_law_menu" :: "_law_word" :: "_law_fresh" :: "_law_land" :: "_law_names" :: "_law_pools" :: "_law_row" :: "_law_key" :: "_law_put" :: "_law_kept" :: "_law_filled" :: "_law_twisted" :: "_law_second" :: "_law_clashing" :: "_law_no_back" :: "_law_lives_right" :: "_law_joined_right" :: "_law_three_right" :: []
theorem facts {P : Program} {w : World} {K : PySem.W.Frag} {h : Heap} {mg : Str → Option Value} {f : Addr} (X : K.In h) (G : h.Ns mainGlobals mg) (hfa : mg ("law" : Str) = some (.ref f)) (c : He.SaysD fa fn K) (cx : exT K = true) :
    ∃ fd : FuncData, (∀ (s : Shared) (v : Value), BindsTo s fd ⟨[v], []⟩ [("_law_script", v)]) ∧ ∀ base : Heap, K.In base → base.Ns mainGlobals mg → FnOkG P w K mg base 8 f fd ["_law_script"] (spLaw K) := by
  have B : Bi mg := ⟨He.free_ok X G (c.fact 90 (f := .free "len") rfl), He.free_ok X G (c.fact 91 (f := .free "range") rfl), He.free_ok X G (c.fact 92 (f := .free "isinstance") rfl), He.free_ok X G (c.fact 93 (f := .free "tuple") rfl), He.free_ok X G (c.fact 94 (f := .free "list") rfl), He.free_ok X G (c.fact 95 (f := .free "sorted") rfl), He.free_ok X G (c.fact 96 (f := .free "all") rfl), He.free_ok X G (c.fact 97 (f := .free "int") rfl), He.free_ok X G (c.fact 98 (f := .free "max") rfl), He.free_ok X G (c.fact 99 (f := .free "min") rfl), He.free_ok X G (c.fact 100 (f := .free "enumerate") rfl), He.free_ok X G (c.fact 101 (f := .free "str") rfl)⟩
  obtain ⟨fd0, F0⟩ := c.def_ 0 (d := dMet "NoWord" "__init__" "NoWord.__init__" (inClass (topS 5) 0) []) rfl
  obtain ⟨fd1, F1⟩ := c.def_ 1 (d := dMet "NoAge" "__init__" "NoAge.__init__" (inClass (topS 6) 0) []) rfl
  obtain ⟨fd2, F2⟩ := c.def_ 2 (d := dMet "NoSure" "__init__" "NoSure.__init__" (inClass (topS 7) 0) []) rfl
  obtain ⟨fd3, F3⟩ := c.def_ 3 (d := dMet "NoName" "__init__" "NoName.__init__" (inClass (topS 9) 0) []) rfl
  obtain ⟨fd4, F4⟩ := c.def_ 4 (d := dMet "NoMap" "__init__" "NoMap.__init__" (inClass (topS 10) 0) []) rfl
  obtain ⟨fd5, F5⟩ := c.def_ 5 (d := dMet "Told" "__init__" "Told.__init__" (inClass (topS 13) 0) []) rfl
  obtain ⟨fd6, F6⟩ := c.def_ 6 (d := dMet "Full" "__init__" "Full.__init__" (inClass (topS 14) 0) []) rfl
  obtain ⟨fd7, F7⟩ := c.def_ 7 (d := dMet "Clash" "__init__" "Clash.__init__" (inClass (topS 15) 0) []) rfl
  obtain ⟨fd8, F8⟩ := c.def_ 8 (d := dOf "is_whole" sIsWhole []) rfl
  obtain ⟨fd9, F9⟩ := c.def_ 9 (d := dOf "is_number_from" sIsNum []) rfl
  obtain ⟨fd10, F10⟩ := c.def_ 10 (d := dOf "is_word" sIsWord []) rfl
  obtain ⟨fd11, F11⟩ := c.def_ 11 (d := dOf "check_word" sCheckW []) rfl
  obtain ⟨fd12, F12⟩ := c.def_ 12 (d := dOf "are_rows" sAreRows []) rfl
  obtain ⟨fd13, F13⟩ := c.def_ 13 (d := dOf "wrong_spot" sWrong []) rfl
  obtain ⟨fd14, F14⟩ := c.def_ 14 (d := dOf "spots_in" sSpotsIn []) rfl
  obtain ⟨fd15, F15⟩ := c.def_ 15 (d := dOf "checked_spots" sSpots []) rfl
  obtain ⟨fd16, F16⟩ := c.def_ 16 (d := dMet "Land" "__init__" "Land.__init__" sInit []) rfl
  obtain ⟨fd17, F17⟩ := c.def_ 17 (d := dMet "Land" "check_name" "Land.check_name" sCheck []) rfl
  obtain ⟨fd18, F18⟩ := c.def_ 18 (d := dMet "Land" "__eq__" "Land.__eq__" sEq []) rfl
  obtain ⟨fd19, F19⟩ := c.def_ 19 (d := dOf "check_age" sCheckA []) rfl
  obtain ⟨fd20, F20⟩ := c.def_ 20 (d := dOf "check_sure" sCheckS []) rfl
  obtain ⟨fd21, F21⟩ := c.def_ 21 (d := dOf "key_of" sKeyOf []) rfl
  obtain ⟨fd22, F22⟩ := c.def_ 22 (d := dMet "Gathering" "__init__" "Gathering.__init__" sGInit []) rfl
  obtain ⟨fd23, F23⟩ := c.def_ 23 (d := dMet "Gathering" "place_of" "Gathering.place_of" sGPlace []) rfl
  obtain ⟨fd24, F24⟩ := c.def_ 24 (d := dMet "Gathering" "put" "Gathering.put" sGPut [.str "self", .bl true]) rfl
  obtain ⟨fd25, F25⟩ := c.def_ 25 (d := dMet "Gathering" "back" "Gathering.back" sGBack []) rfl
  obtain ⟨fd26, F26⟩ := c.def_ 26 (d := dMet "Gathering" "settle" "Gathering.settle" sSettle []) rfl
  obtain ⟨fd27, F27⟩ := c.def_ 27 (d := dMet "Gathering" "tellings" "Gathering.tellings" sGTell [.non]) rfl
  obtain ⟨fd28, F28⟩ := c.def_ 28 (d := dMet "Gathering" "things" "Gathering.things" sGThings []) rfl
  obtain ⟨fd29, F29⟩ := c.def_ 29 (d := dMet "Gathering" "gatherers" "Gathering.gatherers" sGGathers []) rfl
  obtain ⟨fd30, F30⟩ := c.def_ 30 (d := dMet "Gathering" "__eq__" "Gathering.__eq__" sGEq []) rfl
  obtain ⟨fd31, F31⟩ := c.def_ 31 (d := dMet "Gathering" "__len__" "Gathering.__len__" sGLen []) rfl
  obtain ⟨fd32, F32⟩ := c.def_ 32 (d := dOf "check_both" sBoth []) rfl
  obtain ⟨fd33, F33⟩ := c.def_ 33 (d := dOf "clashes" sClash []) rfl
  obtain ⟨fd34, F34⟩ := c.def_ 34 (d := dOf "joined" sJoin []) rfl
  obtain ⟨fd35, F35⟩ := c.def_ 35 (d := dOf "_law_cell" sCell []) rfl
  obtain ⟨fd36, F36⟩ := c.def_ 36 (d := dOf "_law_purse" sPurse []) rfl
  obtain ⟨fd37, F37⟩ := c.def_ 37 (d := dOf "_law_pick" sPick []) rfl
  obtain ⟨fd38, F38⟩ := c.def_ 38 (d := dOf "_law_menu" sMenu []) rfl
  obtain ⟨fd39, F39⟩ := c.def_ 39 (d := dOf "_law_word" sWord []) rfl
  obtain ⟨fd40, F40⟩ := c.def_ 40 (d := dOf "_law_fresh" sFresh []) rfl
  obtain ⟨fd41, F41⟩ := c.def_ 41 (d := dOf "_law_land" sLand []) rfl
  obtain ⟨fd42, F42⟩ := c.def_ 42 (d := dOf "_law_names" sNames []) rfl
  obtain ⟨fd43, F43⟩ := c.def_ 43 (d := dOf "_law_pools" sPools []) rfl
  obtain ⟨fd44, F44⟩ := c.def_ 44 (d := dOf "_law_row" sRow []) rfl
  obtain ⟨fd45, F45⟩ := c.def_ 45 (d := dOf "_law_key" sKey []) rfl
  obtain ⟨fd46, F46⟩ := c.def_ 46 (d := dOf "_law_put" sPut []) rfl
  obtain ⟨fd47, F47⟩ := c.def_ 47 (d := dOf "_law_kept" sKept []) rfl
  obtain ⟨fd48, F48⟩ := c.def_ 48 (d := dOf "_law_filled" sLFilled []) rfl
  obtain ⟨fd49, F49⟩ := c.def_ 49 (d := dOf "_law_twisted" sTwist []) rfl
  obtain ⟨fd50, F50⟩ := c.def_ 50 (d := dOf "_law_second" sSecond []) rfl
  obtain ⟨fd51, F51⟩ := c.def_ 51 (d := dOf "_law_clashing" sClashing []) rfl
  obtain ⟨fd52, F52⟩ := c.def_ 52 (d := dOf "_law_no_back" sNoBack []) rfl
  obtain ⟨fd53, F53⟩ := c.def_ 53 (d := dOf "_law_lives_right" sLives []) rfl
  obtain ⟨fd54, F54⟩ := c.def_ 54 (d := dOf "_law_joined_right" sJoined []) rfl
  obtain ⟨fd55, F55⟩ := c.def_ 55 (d := dOf "_law_three_right" sThree []) rfl
  obtain ⟨fd56, F56⟩ := c.def_ 56 (d := dOf "law" sLaw []) rfl
  have e := hfa.symm.trans (He.glo_ok X G (c.fact 64 (f := .glo "law") rfl))
  cases e
  have f0 : Fun K "__init__" "NoWord.__init__" (inClass (topS 5) 0) _ fd0 := He5.fun_of F0
  have f1 : Fun K "__init__" "NoAge.__init__" (inClass (topS 6) 0) _ fd1 := He5.fun_of F1
  have f2 : Fun K "__init__" "NoSure.__init__" (inClass (topS 7) 0) _ fd2 := He5.fun_of F2
  have f3 : Fun K "__init__" "NoName.__init__" (inClass (topS 9) 0) _ fd3 := He5.fun_of F3
  have f4 : Fun K "__init__" "NoMap.__init__" (inClass (topS 10) 0) _ fd4 := He5.fun_of F4
  have f5 : Fun K "__init__" "Told.__init__" (inClass (topS 13) 0) _ fd5 := He5.fun_of F5
  have f6 : Fun K "__init__" "Full.__init__" (inClass (topS 14) 0) _ fd6 := He5.fun_of F6
  have f7 : Fun K "__init__" "Clash.__init__" (inClass (topS 15) 0) _ fd7 := He5.fun_of F7
  have f8 : Fun K "is_whole" "is_whole" sIsWhole _ fd8 := He5.fun_of F8
  have f9 : Fun K "is_number_from" "is_number_from" sIsNum _ fd9 := He5.fun_of F9
  have f10 : Fun K "is_word" "is_word" sIsWord _ fd10 := He5.fun_of F10
  have f11 : Fun K "check_word" "check_word" sCheckW _ fd11 := He5.fun_of F11
  have f12 : Fun K "are_rows" "are_rows" sAreRows _ fd12 := He5.fun_of F12
  have f13 : Fun K "wrong_spot" "wrong_spot" sWrong _ fd13 := He5.fun_of F13
  have f14 : Fun K "spots_in" "spots_in" sSpotsIn _ fd14 := He5.fun_of F14
  have f15 : Fun K "checked_spots" "checked_spots" sSpots _ fd15 := He5.fun_of F15
  have f16 : Fun K "__init__" "Land.__init__" sInit _ fd16 := He5.fun_of F16
  have f17 : Fun K "check_name" "Land.check_name" sCheck _ fd17 := He5.fun_of F17
  have f18 : Fun K "__eq__" "Land.__eq__" sEq _ fd18 := He5.fun_of F18
  have f19 : Fun K "check_age" "check_age" sCheckA _ fd19 := He5.fun_of F19
  have f20 : Fun K "check_sure" "check_sure" sCheckS _ fd20 := He5.fun_of F20
  have f21 : Fun K "key_of" "key_of" sKeyOf _ fd21 := He5.fun_of F21
  have f22 : Fun K "__init__" "Gathering.__init__" sGInit _ fd22 := He5.fun_of F22
  have f23 : Fun K "place_of" "Gathering.place_of" sGPlace _ fd23 := He5.fun_of F23
  have f24 : FunP K _ fd24 := F24
  have f25 : Fun K "back" "Gathering.back" sGBack _ fd25 := He5.fun_of F25
  have f26 : Fun K "settle" "Gathering.settle" sSettle _ fd26 := He5.fun_of F26
  have f27 : FunT K _ fd27 := F27
  have f28 : Fun K "things" "Gathering.things" sGThings _ fd28 := He5.fun_of F28
  have f29 : Fun K "gatherers" "Gathering.gatherers" sGGathers _ fd29 := He5.fun_of F29
  have f30 : Fun K "__eq__" "Gathering.__eq__" sGEq _ fd30 := He5.fun_of F30
  have f31 : Fun K "__len__" "Gathering.__len__" sGLen _ fd31 := He5.fun_of F31
  have f32 : Fun K "check_both" "check_both" sBoth _ fd32 := He5.fun_of F32
  have f33 : Fun K "clashes" "clashes" sClash _ fd33 := He5.fun_of F33
  have f34 : Fun K "joined" "joined" sJoin _ fd34 := He5.fun_of F34
  have f35 : Fun K "_law_cell" "_law_cell" sCell _ fd35 := He5.fun_of F35
  have f36 : Fun K "_law_purse" "_law_purse" sPurse _ fd36 := He5.fun_of F36
  have f37 : Fun K "_law_pick" "_law_pick" sPick _ fd37 := He5.fun_of F37
  have f38 : Fun K "_law_menu" "_law_menu" sMenu _ fd38 := He5.fun_of F38
  have f39 : Fun K "_law_word" "_law_word" sWord _ fd39 := He5.fun_of F39
  have f40 : Fun K "_law_fresh" "_law_fresh" sFresh _ fd40 := He5.fun_of F40
  have f41 : Fun K "_law_land" "_law_land" sLand _ fd41 := He5.fun_of F41
  have f42 : Fun K "_law_names" "_law_names" sNames _ fd42 := He5.fun_of F42
  have f43 : Fun K "_law_pools" "_law_pools" sPools _ fd43 := He5.fun_of F43
  have f44 : Fun K "_law_row" "_law_row" sRow _ fd44 := He5.fun_of F44
  have f45 : Fun K "_law_key" "_law_key" sKey _ fd45 := He5.fun_of F45
  have f46 : Fun K "_law_put" "_law_put" sPut _ fd46 := He5.fun_of F46
  have f47 : Fun K "_law_kept" "_law_kept" sKept _ fd47 := He5.fun_of F47
  have f48 : Fun K "_law_filled" "_law_filled" sLFilled _ fd48 := He5.fun_of F48
  have f49 : Fun K "_law_twisted" "_law_twisted" sTwist _ fd49 := He5.fun_of F49
  have f50 : Fun K "_law_second" "_law_second" sSecond _ fd50 := He5.fun_of F50
  have f51 : Fun K "_law_clashing" "_law_clashing" sClashing _ fd51 := He5.fun_of F51
  have f52 : Fun K "_law_no_back" "_law_no_back" sNoBack _ fd52 := He5.fun_of F52
  have f53 : Fun K "_law_lives_right" "_law_lives_right" sLives _ fd53 := He5.fun_of F53
  have f54 : Fun K "_law_joined_right" "_law_joined_right" sJoined _ fd54 := He5.fun_of F54
  have f55 : Fun K "_law_three_right" "_law_three_right" sThree _ fd55 := He5.fun_of F55
  have f56 : Fun K "law" "law" sLaw _ fd56 := He5.fun_of F56
  refine ⟨fd56, fun s v => ?_, fun base _ _ => ?_⟩
  · obtain ⟨oc, od, kV, doc, pm, an, cdv, ct, osl, e, l, c⟩ := f56.ex
    subst e
    exact .of_eq rfl
  have hrepr : mg "repr" = none := He.free_ok X G (c.fact 75 (f := .free "repr") rfl)
  have hset : mg "set" = none := He.free_ok X G (c.fact 76 (f := .free "set") rfl)
  have hlk : ∃ t, mg "LAKE" = some (.str "-" t) := He.str_ok X G (c.fact 73 (f := .str "LAKE" "-") rfl)
  have B2 : Bg mg := ⟨He.free_ok X G (c.fact 74 (f := .free "bool") rfl), He.int_ok X G (c.fact 69 (f := .int "OLDEST" 120) rfl), He.int_ok X G (c.fact 70 (f := .int "MOST_TELLINGS" 200) rfl), He.str_ok X G (c.fact 71 (f := .str "DOT" ".") rfl), He.str_ok X G (c.fact 72 (f := .str "DOUBT" "?") rfl)⟩
  have Gk' : Gk mg := ⟨He.str_ok X G (c.fact 65 (f := .str "LETTERS" "abcdefghijklmnopqrstuvwxyz") rfl), He.int_ok X G (c.fact 66 (f := .int "LONGEST_WORD" 8) rfl), He.int_ok X G (c.fact 67 (f := .int "MOST_ROWS" 6) rfl), He.int_ok X G (c.fact 68 (f := .int "MOST_COLUMNS" 6) rfl)⟩
  have T : Txt K mg (He.ga K "Land") := ⟨He.cls_ok (c.fact 78 (f := .cls "Land") rfl), He.noat_ok (c.fact 80 (f := .noat "Land" "spots") rfl), He.noat_ok (c.fact 81 (f := .noat "Land" "rows") rfl), He.glo_ok X G (c.fact 24 (f := .glo "Land") rfl)⟩
  have TG : TxtG K mg (He.ga K "Gathering") := ⟨He.cls_ok (c.fact 82 (f := .cls "Gathering") rfl), He.noat_ok (c.fact 84 (f := .noat "Gathering" "land") rfl), He.noat_ok (c.fact 85 (f := .noat "Gathering" "told") rfl), He.noat_ok (c.fact 86 (f := .noat "Gathering" "deeds") rfl), He.glo_ok X G (c.fact 30 (f := .glo "Gathering") rfl)⟩
  unfold exT at cx
  rw [Bool.and_eq_true] at cx
  obtain ⟨cx, cz⟩ := cx
  unfold exT0 exC at cx
  simp only [Bool.and_eq_true] at cx
  obtain ⟨e2, e3, ⟨a1, a2, a3⟩, ⟨b1, b2, b3⟩, e6, e7⟩ := cx
  have T2 : Txt2 K mg (He.ga K "Land") := ⟨T, ⟨T.cl, He.eqO_ok a1, He.eqO_ok e2, of_decide_eq_true e3, of_decide_eq_true a2, of_decide_eq_true a3⟩, ⟨He.eqO_ok e6, of_decide_eq_true a2⟩⟩
  have insD : C8.InsC K (He.ga K "Gathering") := ⟨TG.cl, He.eqO_ok b1, He.eqO_ok e2, of_decide_eq_true e3, of_decide_eq_true b2, of_decide_eq_true b3⟩
  have NeD : NeC K (He.ga K "Gathering") := ⟨He.eqO_ok e7, of_decide_eq_true b2⟩
  unfold exX at cz
  simp only [Bool.and_eq_true] at cz
  obtain ⟨x0, x1, x2, x3, x4, x5, x6, x7, x8⟩ := cz
  have ENoWord := errS_ok (mg := mg) (C := He.ga K "NoWord") (f := "word") (n := 0) x0
  have ENoAge := errS_ok (mg := mg) (C := He.ga K "NoAge") (f := "age") (n := 3) x1
  have ENoSure := errS_ok (mg := mg) (C := He.ga K "NoSure") (f := "sure") (n := 4) x2
  have ENoName := errS_ok (mg := mg) (C := He.ga K "NoName") (f := "name") (n := 10) x3
  have ENoMap := errS_ok (mg := mg) (C := He.ga K "NoMap") (f := "place") (n := 12) x4
  have ETold := errS_ok (mg := mg) (C := He.ga K "Told") (f := "key") (n := 15) x5
  have EFull := errS_ok (mg := mg) (C := He.ga K "Full") (f := "many") (n := 16) x6
  have EClash := errS_ok (mg := mg) (C := He.ga K "Clash") (f := "both") (n := 17) x7
  have ENoBack := errSN_ok (mg := mg) (C := He.ga K "NoBack") (n := 14) x8
  have TNoBack : OwnN K mg "NoBack" (He.ga K "NoBack") := ENoBack.2 (He.glo_ok X G (c.fact 77 (f := .glo "NoBack") rfl))
  have emB := He.exm_ok (c.fact 87 (f := .exm "NoBack" "NoBack" true) rfl)
  have emT := He.exm_ok (c.fact 88 (f := .exm "Told" "Told" true) rfl)
  have emC := He.exm_ok (c.fact 89 (f := .exm "Clash" "Clash" true) rfl)
  have TNoWord : OwnX K mg "NoWord" "word" (He.ga K "NoWord") := ENoWord.2 (He.glo_ok X G (c.fact 0 (f := .glo "NoWord") rfl)) (He.meth_ok (c.fact 1 (f := .meth "NoWord" "__init__") rfl)) f0 (f0.binds fun _ _ _ _ _ _ us hl => match us, hl with | [_, _], _ => rfl) ⟨rfl, rfl, rfl, by decide +kernel, rfl, by decide +kernel, by decide +kernel⟩ (by decide +kernel) rfl
  have TNoAge : OwnX K mg "NoAge" "age" (He.ga K "NoAge") := ENoAge.2 (He.glo_ok X G (c.fact 2 (f := .glo "NoAge") rfl)) (He.meth_ok (c.fact 3 (f := .meth "NoAge" "__init__") rfl)) f1 (f1.binds fun _ _ _ _ _ _ us hl => match us, hl with | [_, _], _ => rfl) ⟨rfl, rfl, rfl, by decide +kernel, rfl, by decide +kernel, by decide +kernel⟩ (by decide +kernel) rfl
  have TNoSure : OwnX K mg "NoSure" "sure" (He.ga K "NoSure") := ENoSure.2 (He.glo_ok X G (c.fact 4 (f := .glo "NoSure") rfl)) (He.meth_ok (c.fact 5 (f := .meth "NoSure" "__init__") rfl)) f2 (f2.binds fun _ _ _ _ _ _ us hl => match us, hl with | [_, _], _ => rfl) ⟨rfl, rfl, rfl, by decide +kernel, rfl, by decide +kernel, by decide +kernel⟩ (by decide +kernel) rfl
  have TNoName : OwnX K mg "NoName" "name" (He.ga K "NoName") := ENoName.2 (He.glo_ok X G (c.fact 6 (f := .glo "NoName") rfl)) (He.meth_ok (c.fact 7 (f := .meth "NoName" "__init__") rfl)) f3 (f3.binds fun _ _ _ _ _ _ us hl => match us, hl with | [_, _], _ => rfl) ⟨rfl, rfl, rfl, by decide +kernel, rfl, by decide +kernel, by decide +kernel⟩ (by decide +kernel) rfl
  have TNoMap : OwnX K mg "NoMap" "place" (He.ga K "NoMap") := ENoMap.2 (He.glo_ok X G (c.fact 8 (f := .glo "NoMap") rfl)) (He.meth_ok (c.fact 9 (f := .meth "NoMap" "__init__") rfl)) f4 (f4.binds fun _ _ _ _ _ _ us hl => match us, hl with | [_, _], _ => rfl) ⟨rfl, rfl, rfl, by decide +kernel, rfl, by decide +kernel, by decide +kernel⟩ (by decide +kernel) rfl
  have TTold : OwnX K mg "Told" "key" (He.ga K "Told") := ETold.2 (He.glo_ok X G (c.fact 10 (f := .glo "Told") rfl)) (He.meth_ok (c.fact 11 (f := .meth "Told" "__init__") rfl)) f5 (f5.binds fun _ _ _ _ _ _ us hl => match us, hl with | [_, _], _ => rfl) ⟨rfl, rfl, rfl, by decide +kernel, rfl, by decide +kernel, by decide +kernel⟩ (by decide +kernel) rfl
  have TFull : OwnX K mg "Full" "many" (He.ga K "Full") := EFull.2 (He.glo_ok X G (c.fact 12 (f := .glo "Full") rfl)) (He.meth_ok (c.fact 13 (f := .meth "Full" "__init__") rfl)) f6 (f6.binds fun _ _ _ _ _ _ us hl => match us, hl with | [_, _], _ => rfl) ⟨rfl, rfl, rfl, by decide +kernel, rfl, by decide +kernel, by decide +kernel⟩ (by decide +kernel) rfl
  have TClash : OwnX K mg "Clash" "both" (He.ga K "Clash") := EClash.2 (He.glo_ok X G (c.fact 14 (f := .glo "Clash") rfl)) (He.meth_ok (c.fact 15 (f := .meth "Clash" "__init__") rfl)) f7 (f7.binds fun _ _ _ _ _ _ us hl => match us, hl with | [_, _], _ => rfl) ⟨rfl, rfl, rfl, by decide +kernel, rfl, by decide +kernel, by decide +kernel⟩ (by decide +kernel) rfl
  have h_is_whole : Has P w K mg base "is_whole" 1 ["thing"] spIsWhole := ⟨_, fd8, ok_iswhole f8 B B2, He.glo_ok X G (c.fact 16 (f := .glo "is_whole") rfl), f8.kp, f8.binds fun _ _ _ _ _ _ us hl => match us, hl with | [_], _ => rfl⟩
  have hO_is_whole : Has P w K mg base "is_whole" 1 ["thing"] spIsWholeO := ⟨_, fd8, ok_iswholeO f8 B B2, (He.glo_ok X G (c.fact 16 (f := .glo "is_whole") rfl)), f8.kp, (f8.binds fun _ _ _ _ _ _ us hl => match us, hl with | [_], _ => rfl)⟩
  have h_is_number_from : Has P w K mg base "is_number_from" 2 ["thing", "least", "most"] spIsNum := ⟨_, fd9, ok_isnum f9 h_is_whole, He.glo_ok X G (c.fact 17 (f := .glo "is_number_from") rfl), f9.kp, f9.binds fun _ _ _ _ _ _ us hl => match us, hl with | [_, _, _], _ => rfl⟩
  have hO_is_num : Has P w K mg base "is_number_from" 2 ["thing", "least", "most"] spIsNumO := ⟨_, fd9, ok_isnumO f9 hO_is_whole, (He.glo_ok X G (c.fact 17 (f := .glo "is_number_from") rfl)), f9.kp, (f9.binds fun _ _ _ _ _ _ us hl => match us, hl with | [_, _, _], _ => rfl)⟩
  have h_is_word : Has P w K mg base "is_word" 1 ["thing"] spIsWord := ⟨_, fd10, ok_isword f10 B Gk', He.glo_ok X G (c.fact 18 (f := .glo "is_word") rfl), f10.kp, f10.binds fun _ _ _ _ _ _ us hl => match us, hl with | [_], _ => rfl⟩
  have hI_is_word : Has P w K mg base "is_word" 1 ["thing"] (spIsW K) := ⟨_, fd10, ok_isw f10 B Gk', (He.glo_ok X G (c.fact 18 (f := .glo "is_word") rfl)), f10.kp, (f10.binds fun _ _ _ _ _ _ us hl => match us, hl with | [_], _ => rfl)⟩
  have h_check_word : Has P w K mg base "check_word" 2 ["word"] spCheckW := ⟨_, fd11, ok_checkw f11 h_is_word, He.glo_ok X G (c.fact 19 (f := .glo "check_word") rfl), f11.kp, f11.binds fun _ _ _ _ _ _ us hl => match us, hl with | [_], _ => rfl⟩
  have hX_check_word : HasX P w K mg base "check_word" 2 ["word"] (spWordA (He.ga K "NoWord")) := ⟨_, fd11, ok_wordA f11 TNoWord hI_is_word, (He.glo_ok X G (c.fact 19 (f := .glo "check_word") rfl)), f11.kp, (f11.binds fun _ _ _ _ _ _ us hl => match us, hl with | [_], _ => rfl)⟩
  have h_are_rows : Has P w K mg base "are_rows" 1 ["thing"] spAreRows := ⟨_, fd12, ok_arerows f12 B Gk', He.glo_ok X G (c.fact 20 (f := .glo "are_rows") rfl), f12.kp, f12.binds fun _ _ _ _ _ _ us hl => match us, hl with | [_], _ => rfl⟩
  have h_wrong_spot : Has P w K mg base "wrong_spot" 2 ["rows"] spWrong := ⟨_, fd13, ok_wrong f13 B h_is_word, He.glo_ok X G (c.fact 21 (f := .glo "wrong_spot") rfl), f13.kp, f13.binds fun _ _ _ _ _ _ us hl => match us, hl with | [_], _ => rfl⟩
  have h_spots_in : Has P w K mg base "spots_in" 1 ["rows"] spSpotsIn := ⟨_, fd14, ok_spotsin f14 B, He.glo_ok X G (c.fact 22 (f := .glo "spots_in") rfl), f14.kp, f14.binds fun _ _ _ _ _ _ us hl => match us, hl with | [_], _ => rfl⟩
  have h_checked_spots : Has P w K mg base "checked_spots" 3 ["rows"] spSpots := ⟨_, fd15, ok_spots f15 h_are_rows h_wrong_spot h_spots_in, He.glo_ok X G (c.fact 23 (f := .glo "checked_spots") rfl), f15.kp, f15.binds fun _ _ _ _ _ _ us hl => match us, hl with | [_], _ => rfl⟩
  have h_Land__init__ : HasI P w K mg base (He.ga K "Land") := ⟨_, fd16, He.mkr_ok (c.fact 79 (f := .mkr "Land") rfl), ok_init f16 T h_checked_spots, (f16.binds fun _ _ _ _ _ _ us hl => match us, hl with | [_, _], _ => rfl)⟩
  have h_check_name : HasM P w K mg base (He.ga K "Land") "check_name" 2 ["self", "name"] (spCheck (He.ga K "Land")) := ⟨_, fd17, ok_check f17 T h_is_word, He.meth_ok (c.fact 25 (f := .meth "Land" "check_name") rfl), f17.binds fun _ _ _ _ _ _ us hl => match us, hl with | [_, _], _ => rfl⟩
  have hX_check_name : HasMX P w K mg base (He.ga K "Land") "check_name" 2 ["self", "name"] (spNameA (He.ga K "Land") (He.ga K "NoName")) := ⟨_, fd17, ok_nameA f17 T TNoName hI_is_word, (He.meth_ok (c.fact 25 (f := .meth "Land" "check_name") rfl)), (f17.binds fun _ _ _ _ _ _ us hl => match us, hl with | [_, _], _ => rfl)⟩
  have h_Land__eq__ : HasM P w K mg base (He.ga K "Land") "__eq__" 1 ["self", "other"] (spLEq (He.ga K "Land")) := ⟨_, fd18, ok_leq f18 B T2, He.meth_ok (c.fact 26 (f := .meth "Land" "__eq__") rfl), f18.binds fun _ _ _ _ _ _ us hl => match us, hl with | [_, _], _ => rfl⟩
  have t_Land__eq__ : HasMT P w K mg base (He.ga K "Land") "__eq__" 1 ["self", "other"] (fun _ => spLEq (He.ga K "Land")) := ⟨_, fd18, ok_leqT f18 B T2, (He.meth_ok (c.fact 26 (f := .meth "Land" "__eq__") rfl)), (f18.binds fun _ _ _ _ _ _ us hl => match us, hl with | [_, _], _ => rfl)⟩
  have h_check_age : Has P w K mg base "check_age" 3 ["age"] spCheckA := ⟨_, fd19, ok_checka f19 B2 h_is_number_from, He.glo_ok X G (c.fact 27 (f := .glo "check_age") rfl), f19.kp, f19.binds fun _ _ _ _ _ _ us hl => match us, hl with | [_], _ => rfl⟩
  have hX_check_age : HasX P w K mg base "check_age" 3 ["age"] (spAgeA (He.ga K "NoAge")) := ⟨_, fd19, ok_ageA f19 TNoAge B2 hO_is_num, (He.glo_ok X G (c.fact 27 (f := .glo "check_age") rfl)), f19.kp, (f19.binds fun _ _ _ _ _ _ us hl => match us, hl with | [_], _ => rfl)⟩
  have h_check_sure : Has P w K mg base "check_sure" 1 ["sure"] spCheckS := ⟨_, fd20, ok_checks f20 B B2, He.glo_ok X G (c.fact 28 (f := .glo "check_sure") rfl), f20.kp, f20.binds fun _ _ _ _ _ _ us hl => match us, hl with | [_], _ => rfl⟩
  have hX_check_sure : HasX P w K mg base "check_sure" 1 ["sure"] (spSureA (He.ga K "NoSure")) := ⟨_, fd20, ok_sureA f20 B B2 TNoSure, (He.glo_ok X G (c.fact 28 (f := .glo "check_sure") rfl)), f20.kp, (f20.binds fun _ _ _ _ _ _ us hl => match us, hl with | [_], _ => rfl)⟩
  have h_key_of : Has P w K mg base "key_of" 1 ["telling"] spKeyOf := ⟨_, fd21, ok_keyof f21, He.glo_ok X G (c.fact 29 (f := .glo "key_of") rfl), f21.kp, f21.binds fun _ _ _ _ _ _ us hl => match us, hl with | [_], _ => rfl⟩
  have t_key_of : HasT P w K mg base "key_of" 1 ["telling"] (fun _ => spKeyOf) := ⟨_, fd21, ok_keyofT f21, (He.glo_ok X G (c.fact 29 (f := .glo "key_of") rfl)), f21.kp, (f21.binds fun _ _ _ _ _ _ us hl => match us, hl with | [_], _ => rfl)⟩
  have h_Gathering__init__ : HasG P w K mg base (He.ga K "Land") (He.ga K "Gathering") := ⟨_, fd22, He.mkr_ok (c.fact 83 (f := .mkr "Gathering") rfl), ok_ginit f22 B T2 TG, (f22.binds fun _ _ _ _ _ _ us hl => match us, hl with | [_, _], _ => rfl)⟩
  have h_place_of : HasM P w K mg base (He.ga K "Gathering") "place_of" 2 ["self", "key"] (spGPlace (He.ga K "Land") (He.ga K "Gathering")) := ⟨_, fd23, ok_gplace f23 B TG h_key_of, He.meth_ok (c.fact 31 (f := .meth "Gathering" "place_of") rfl), f23.binds fun _ _ _ _ _ _ us hl => match us, hl with | [_, _], _ => rfl⟩
  have h_put : HasP P w K mg base (He.ga K "Land") (He.ga K "Gathering") := ⟨_, fd24, ok_put f24 B B2 T TG h_check_name h_check_word h_check_age h_check_sure h_place_of, He.meth_ok (c.fact 32 (f := .meth "Gathering" "put") rfl), f24⟩
  have hA_put : HasPA P w K mg base (⟨(He.ga K "NoName"), (He.ga K "NoWord"), (He.ga K "NoAge"), (He.ga K "NoSure"), (He.ga K "Told"), (He.ga K "Full")⟩ : XA) (He.ga K "Land") (He.ga K "Gathering") := ⟨_, fd24, ok_putA (x := (⟨(He.ga K "NoName"), (He.ga K "NoWord"), (He.ga K "NoAge"), (He.ga K "NoSure"), (He.ga K "Told"), (He.ga K "Full")⟩ : XA)) f24 B B2 T TG TTold TFull hX_check_name hX_check_word hX_check_age hX_check_sure h_place_of, (He.meth_ok (c.fact 32 (f := .meth "Gathering" "put") rfl)), f24⟩
  have h_back : HasM P w K mg base (He.ga K "Gathering") "back" 1 ["self"] (spBack (He.ga K "Land") (He.ga K "Gathering")) := ⟨_, fd25, ok_back f25 TG, He.meth_ok (c.fact 33 (f := .meth "Gathering" "back") rfl), f25.binds fun _ _ _ _ _ _ us hl => match us, hl with | [_], _ => rfl⟩
  have hX_back : HasMX P w K mg base (He.ga K "Gathering") "back" 1 ["self"] (spBackX (He.ga K "NoBack") (He.ga K "Land") (He.ga K "Gathering")) := ⟨_, fd25, FnOk_xor (ok_back f25 TG) (ok_backR f25 TG TNoBack), (He.meth_ok (c.fact 33 (f := .meth "Gathering" "back") rfl)), (f25.binds fun _ _ _ _ _ _ us hl => match us, hl with | [_], _ => rfl)⟩
  have h_settle : HasM P w K mg base (He.ga K "Gathering") "settle" 1 ["self"] (spSettle (He.ga K "Land") (He.ga K "Gathering")) := ⟨_, fd26, ok_settle f26 TG, He.meth_ok (c.fact 34 (f := .meth "Gathering" "settle") rfl), f26.binds fun _ _ _ _ _ _ us hl => match us, hl with | [_], _ => rfl⟩
  have h_tellings : HasTl P w K mg base (He.ga K "Land") (He.ga K "Gathering") := ⟨_, fd27, ok_tell f27 B TG, He.meth_ok (c.fact 35 (f := .meth "Gathering" "tellings") rfl), f27⟩
  have tTl : HasTlT P w K mg base (He.ga K "Land") (He.ga K "Gathering") := ⟨_, fd27, ok_tellT f27 B TG, (He.meth_ok (c.fact 35 (f := .meth "Gathering" "tellings") rfl)), f27⟩
  have h_things : HasM P w K mg base (He.ga K "Gathering") "things" 1 ["self"] (spThings (He.ga K "Land") (He.ga K "Gathering")) := ⟨_, fd28, ok_things f28 B TG, He.meth_ok (c.fact 36 (f := .meth "Gathering" "things") rfl), f28.binds fun _ _ _ _ _ _ us hl => match us, hl with | [_], _ => rfl⟩
  have h_gatherers : HasM P w K mg base (He.ga K "Gathering") "gatherers" 1 ["self"] (spGathers (He.ga K "Land") (He.ga K "Gathering")) := ⟨_, fd29, ok_gatherers f29 B TG, He.meth_ok (c.fact 37 (f := .meth "Gathering" "gatherers") rfl), f29.binds fun _ _ _ _ _ _ us hl => match us, hl with | [_], _ => rfl⟩
  have h_Gathering__eq__ : HasM P w K mg base (He.ga K "Gathering") "__eq__" 3 ["self", "other"] (spGEq (He.ga K "Land") (He.ga K "Gathering")) := ⟨_, fd30, ok_geq f30 B TG insD h_Land__eq__, He.meth_ok (c.fact 38 (f := .meth "Gathering" "__eq__") rfl), f30.binds fun _ _ _ _ _ _ us hl => match us, hl with | [_, _], _ => rfl⟩
  have h_Gathering__len__ : HasM P w K mg base (He.ga K "Gathering") "__len__" 1 ["self"] (spGLen (He.ga K "Land") (He.ga K "Gathering")) := ⟨_, fd31, ok_glen f31 B TG, He.meth_ok (c.fact 39 (f := .meth "Gathering" "__len__") rfl), f31.binds fun _ _ _ _ _ _ us hl => match us, hl with | [_], _ => rfl⟩
  have hX_check_both : HasX P w K mg base "check_both" 3 ["one", "other"] (spBothA K (He.ga K "Land") (He.ga K "Gathering") (He.ga K "NoMap")) := ⟨_, fd32, ok_both f32 B T2 TG insD TNoMap h_Land__eq__, (He.glo_ok X G (c.fact 40 (f := .glo "check_both") rfl)), f32.kp, (f32.binds fun _ _ _ _ _ _ us hl => match us, hl with | [_, _], _ => rfl)⟩
  have t_check_both : HasT P w K mg base "check_both" 3 ["one", "other"] (fun _ => spBothG (He.ga K "Land") (He.ga K "Gathering")) := ⟨_, fd32, ok_bothT f32 B T2 TG insD t_Land__eq__, (He.glo_ok X G (c.fact 40 (f := .glo "check_both") rfl)), f32.kp, (f32.binds fun _ _ _ _ _ _ us hl => match us, hl with | [_, _], _ => rfl)⟩
  have hX_clashes : HasX P w K mg base "clashes" 4 ["one", "other"] (spClashA K (He.ga K "Land") (He.ga K "Gathering") (He.ga K "NoMap")) := ⟨_, fd33, ok_clash f33 B TG hX_check_both h_key_of h_tellings, (He.glo_ok X G (c.fact 41 (f := .glo "clashes") rfl)), f33.kp, (f33.binds fun _ _ _ _ _ _ us hl => match us, hl with | [_, _], _ => rfl)⟩
  have hG_clashes : HasCG P w K mg base (He.ga K "Land") (He.ga K "Gathering") := by
    obtain ⟨f, fd, F, z⟩ := clashG hX_clashes
    exact ⟨_, fd33, FnOk_calm (ok_clash f33 B TG hX_check_both h_key_of h_tellings) fun vs H Q E ⟨p, q, r, s, wd, e, t, z⟩ => .inr ⟨p, q, r, s, wd, e, t, z⟩, (He.glo_ok X G (c.fact 41 (f := .glo "clashes") rfl)), f33, (f33.binds fun _ _ _ _ _ _ us hl => match us, hl with | [_, _], _ => rfl)⟩
  have t_clashes : HasT P w K mg base "clashes" 4 ["one", "other"] (spClashT (He.ga K "Land") (He.ga K "Gathering")) := ⟨_, fd33, ok_clashT f33 B TG t_check_both t_key_of tTl, (He.glo_ok X G (c.fact 41 (f := .glo "clashes") rfl)), f33.kp, (f33.binds fun _ _ _ _ _ _ us hl => match us, hl with | [_, _], _ => rfl)⟩
  have hX_joined : HasX P w K mg base "joined" 6 ["one", "other"] (spJoinA K (He.ga K "Land") (He.ga K "Gathering") (He.ga K "NoMap") (He.ga K "Clash") (⟨(He.ga K "NoName"), (He.ga K "NoWord"), (He.ga K "NoAge"), (He.ga K "NoSure"), (He.ga K "Told"), (He.ga K "Full")⟩ : XA)) := ⟨_, fd34, ok_join f34 B TG TClash hX_clashes h_tellings h_Gathering__init__ hA_put h_settle, (He.glo_ok X G (c.fact 42 (f := .glo "joined") rfl)), f34.kp, (f34.binds fun _ _ _ _ _ _ us hl => match us, hl with | [_, _], _ => rfl)⟩
  have hG_joined : HasJG P w K mg base (He.ga K "Land") (He.ga K "Gathering") := ⟨_, fd34, FnOk_calm (ok_join (x := (⟨(He.ga K "NoName"), (He.ga K "NoWord"), (He.ga K "NoAge"), (He.ga K "NoSure"), (He.ga K "Told"), (He.ga K "Full")⟩ : XA)) f34 B TG TClash hX_clashes h_tellings h_Gathering__init__ hA_put h_settle) fun vs H Q E ⟨p, q, r, s, wd, e, t, v1, v2, c, l, z⟩ => .inr ⟨p, q, r, s, wd, e, t, v1, v2, fun n => (n c).elim, fun _ l2 => absurd l2 (by omega), fun _ _ => z⟩, (He.glo_ok X G (c.fact 42 (f := .glo "joined") rfl)), f34, (f34.binds fun _ _ _ _ _ _ us hl => match us, hl with | [_, _], _ => rfl)⟩
  have h__law_cell : Has P w K mg base "_law_cell" 1 ["_law_script", "_law_k"] (spCell K) := ⟨_, fd35, ok_cell f35 B, He.glo_ok X G (c.fact 43 (f := .glo "_law_cell") rfl), f35.kp, f35.binds fun _ _ _ _ _ _ us hl => match us, hl with | [_, _], _ => rfl⟩
  have h__law_purse : Has P w K mg base "_law_purse" 1 ["_law_cell_here"] spPurse := ⟨_, fd36, ok_purse f36 B, He.glo_ok X G (c.fact 44 (f := .glo "_law_purse") rfl), f36.kp, f36.binds fun _ _ _ _ _ _ us hl => match us, hl with | [_], _ => rfl⟩
  have h__law_pick : Has P w K mg base "_law_pick" 1 ["_law_purse_here", "_law_count"] spPick := ⟨_, fd37, ok_pick f37, He.glo_ok X G (c.fact 45 (f := .glo "_law_pick") rfl), f37.kp, f37.binds fun _ _ _ _ _ _ us hl => match us, hl with | [_, _], _ => rfl⟩
  have h__law_menu : Has P w K mg base "_law_menu" 1 [] spMenu := ⟨_, fd38, ok_menu f38, He.glo_ok X G (c.fact 46 (f := .glo "_law_menu") rfl), f38.kp, f38.binds fun _ _ _ _ _ _ us hl => match us, hl with | [], _ => rfl⟩
  have h__law_word : Has P w K mg base "_law_word" 2 ["_law_purse_here"] spWord := ⟨_, fd39, ok_word f39 B h__law_pick h__law_menu, He.glo_ok X G (c.fact 47 (f := .glo "_law_word") rfl), f39.kp, f39.binds fun _ _ _ _ _ _ us hl => match us, hl with | [_], _ => rfl⟩
  have h__law_fresh : Has P w K mg base "_law_fresh" 3 ["_law_purse_here", "_law_used"] spFresh := ⟨_, fd40, ok_fresh f40 B h__law_word, He.glo_ok X G (c.fact 48 (f := .glo "_law_fresh") rfl), f40.kp, f40.binds fun _ _ _ _ _ _ us hl => match us, hl with | [_, _], _ => rfl⟩
  have h__law_land : Has P w K mg base "_law_land" 4 ["_law_purse_here", "_law_topmost"] spLand := ⟨_, fd41, ok_land f41 B h__law_pick h__law_fresh, He.glo_ok X G (c.fact 49 (f := .glo "_law_land") rfl), f41.kp, f41.binds fun _ _ _ _ _ _ us hl => match us, hl with | [_, _], _ => rfl⟩
  have h__law_names : Has P w K mg base "_law_names" 1 ["_law_lots"] spNames := ⟨_, fd42, ok_names f42 B, He.glo_ok X G (c.fact 50 (f := .glo "_law_names") rfl), f42.kp, f42.binds fun _ _ _ _ _ _ us hl => match us, hl with | [_], _ => rfl⟩
  have h__law_pools : Has P w K mg base "_law_pools" 4 ["_law_purse_here", "_law_lots"] spPools := ⟨_, fd43, ok_pools f43 B h__law_pick h__law_fresh h__law_names, He.glo_ok X G (c.fact 51 (f := .glo "_law_pools") rfl), f43.kp, f43.binds fun _ _ _ _ _ _ us hl => match us, hl with | [_, _], _ => rfl⟩
  have h__law_row : Has P w K mg base "_law_row" 2 ["_law_purse_here", "_law_pools_here"] spRow := ⟨_, fd44, ok_row f44 B h__law_pick, He.glo_ok X G (c.fact 52 (f := .glo "_law_row") rfl), f44.kp, f44.binds fun _ _ _ _ _ _ us hl => match us, hl with | [_, _], _ => rfl⟩
  have h__law_key : Has P w K mg base "_law_key" 1 ["_law_row_here"] spKeyOf := ⟨_, fd45, ok_key f45, He.glo_ok X G (c.fact 53 (f := .glo "_law_key") rfl), f45.kp, f45.binds fun _ _ _ _ _ _ us hl => match us, hl with | [_], _ => rfl⟩
  have h__law_put : Has P w K mg base "_law_put" 5 ["_law_basket", "_law_row_here", "_law_way"] (spLPut (He.ga K "Land") (He.ga K "Gathering")) := ⟨_, fd46, ok_lput f46 TG h_put, He.glo_ok X G (c.fact 54 (f := .glo "_law_put") rfl), f46.kp, f46.binds fun _ _ _ _ _ _ us hl => match us, hl with | [_, _, _], _ => rfl⟩
  have h__law_kept : Has P w K mg base "_law_kept" 3 ["_law_purse_here", "_law_pools_here", "_law_count"] spKept := ⟨_, fd47, ok_kept f47 B h__law_row h__law_key, He.glo_ok X G (c.fact 55 (f := .glo "_law_kept") rfl), f47.kp, f47.binds fun _ _ _ _ _ _ us hl => match us, hl with | [_, _, _], _ => rfl⟩
  have h__law_filled : Has P w K mg base "_law_filled" 6 ["_law_lots", "_law_kept_here"] (spFilled (He.ga K "Land") (He.ga K "Gathering")) := ⟨_, fd48, ok_lfilled f48 T TG h_Land__init__ h_Gathering__init__ h__law_put, He.glo_ok X G (c.fact 56 (f := .glo "_law_filled") rfl), f48.kp, f48.binds fun _ _ _ _ _ _ us hl => match us, hl with | [_, _], _ => rfl⟩
  have h__law_twisted : Has P w K mg base "_law_twisted" 2 ["_law_purse_here", "_law_row_here"] spTwist := ⟨_, fd49, ok_twist f49 B h__law_pick, He.glo_ok X G (c.fact 57 (f := .glo "_law_twisted") rfl), f49.kp, f49.binds fun _ _ _ _ _ _ us hl => match us, hl with | [_, _], _ => rfl⟩
  have h__law_second : Has P w K mg base "_law_second" 4 ["_law_purse_here", "_law_pools_here", "_law_kept_here", "_law_often"] spSecond := ⟨_, fd50, ok_second f50 B h__law_pick h__law_twisted h__law_key h__law_kept, He.glo_ok X G (c.fact 58 (f := .glo "_law_second") rfl), f50.kp, f50.binds fun _ _ _ _ _ _ us hl => match us, hl with | [_, _, _, _], _ => rfl⟩
  have h__law_clashing : Has P w K mg base "_law_clashing" 2 ["_law_kept_here", "_law_others"] spClashing := ⟨_, fd51, ok_clashing f51 B h__law_key, He.glo_ok X G (c.fact 59 (f := .glo "_law_clashing") rfl), f51.kp, f51.binds fun _ _ _ _ _ _ us hl => match us, hl with | [_, _], _ => rfl⟩
  have h__law_no_back : Has P w K mg base "_law_no_back" 2 ["_law_basket"] (spNoBack (He.ga K "Land") (He.ga K "Gathering")) := ⟨_, fd52, ok_noback f52 TG TNoBack emB hX_back, He.glo_ok X G (c.fact 60 (f := .glo "_law_no_back") rfl), f52.kp, f52.binds fun _ _ _ _ _ _ us hl => match us, hl with | [_], _ => rfl⟩
  have h__law_lives_right : HasQ P w K mg base "_law_lives_right" 5 ["_law_both", "_law_due"] (spLives (He.ga K "Land") (He.ga K "Gathering")) := ⟨_, fd53, ok_lives (x := (⟨(He.ga K "NoName"), (He.ga K "NoWord"), (He.ga K "NoAge"), (He.ga K "NoSure"), (He.ga K "Told"), (He.ga K "Full")⟩ : XA)) f53 B hrepr hset TG TTold ETold.1.2 emT h_things h_gatherers hA_put h__law_key h_tellings h_Gathering__len__, He.glo_ok X G (c.fact 61 (f := .glo "_law_lives_right") rfl), f53.kp, f53.binds fun _ _ _ _ _ _ us hl => match us, hl with | [_, _], _ => rfl⟩
  have h__law_joined_right : HasQ P w K mg base "_law_joined_right" 7 ["_law_lots", "_law_stranger", "_law_first", "_law_second_here", "_law_kept_here", "_law_others"] (spJoined (He.ga K "Land") (He.ga K "Gathering")) := ⟨_, fd54, ok_joined f54 B hrepr T2 TG NeD hG_joined h_tellings h_Gathering__len__ h_Land__eq__ h_Gathering__eq__ h_Land__init__ h__law_filled h__law_no_back h__law_lives_right h_put h_back h__law_names, He.glo_ok X G (c.fact 62 (f := .glo "_law_joined_right") rfl), f54.kp, f54.binds fun _ _ _ _ _ _ us hl => match us, hl with | [_, _, _, _, _, _], _ => rfl⟩
  have h__law_three_right : Has P w K mg base "_law_three_right" 7 ["_law_first", "_law_second_here", "_law_third"] (spThree (He.ga K "Land") (He.ga K "Gathering")) := ⟨_, fd55, ok_three f55 TClash emC hX_joined t_clashes h_Gathering__eq__, He.glo_ok X G (c.fact 63 (f := .glo "_law_three_right") rfl), f55.kp, f55.binds fun _ _ _ _ _ _ us hl => match us, hl with | [_, _, _], _ => rfl⟩
  exact ok_law f56 B hrepr TG h__law_cell h__law_purse h__law_pick h__law_land h__law_pools h__law_kept h__law_second h__law_filled h__law_clashing hG_clashes h__law_joined_right h__law_three_right
end Wl

namespace Wl
open PySem PySem.Spec PyProof.Rows L2
noncomputable abbrev atEnd (w : World) (os : OsState) : Option PySem.W.SharedT := HandSHeadRun.endF (HandSHeadRun.stepQ (HandSHeadRun.denQ HandSHeadRun.tabQ) R.prog w) 12000 R.prog w os
theorem runA (w : World) (os : OsState) : (atEnd w os).map (fun s => (HandSHeadRun.looksF R.prog (PySem.W.boot_heap w.params) s.abs, HandSHeadRun.seenQ (PySem.W.view R.prog [68]) others (importedModules R.prog.main.body) (fun s => PySem.W.xlAt (PySem.W.view R.prog [68]) [] s && PySem.W.recOk R.toRowW.records s) s.abs)) = some (true, PySem.W.openGood (PySem.W.view R.prog [68]) others) := by
  kernel_rfl
theorem runB (w : World) (os : OsState) : (atEnd w os).map ob = some (He.valD fn, true) := by
  kernel_rfl
theorem run (w : World) : HandSHeadRun.RunEq R (PySem.W.view R.prog [68]) hk ob 12000 others w := fun os => map3 (runA w os) (runB w os)
end Wl

open PySem PySem.W PySem.Calls PyProof.Rows
theorem PySem.Challenge.cw_wordlines_k38_joined_and_clashes_holds : PySem.Challenge.rw_wordlines_k38_joined_and_clashes.Holds := by
  w_on; o_law
  refine HandSHeadRun.head_any (r := OpenLaw.row PySem.Challenge.rw_wordlines_k38_joined_and_clashes) (q := view (OpenLaw.row PySem.Challenge.rw_wordlines_k38_joined_and_clashes).prog [68]) (H := Wl.hk) (ob := Wl.ob) (M := 12000) (loose := Wl.others) (d := HandSHeadRun.topDef (OpenLaw.row PySem.Challenge.rw_wordlines_k38_joined_and_clashes).prog 68) (kwd := []) Wl.ob_eq
    (by kernel_rfl) (fun s => by kernel_rfl) Wl.run (by kernel_rfl) (by kernel_rfl) (by kernel_rfl) (by rfl) (by first | assumption | decide +kernel) (by decide +kernel) ⟨rfl, rfl, rfl, rfl, rfl, by decide +kernel⟩ ?hw ?hc
  case hw => w_witness2
  case hc =>
    refine Wl.walk_ofG (l := PySem.Challenge.rw_wordlines_k38_joined_and_clashes) (n := 63) (k := 8) (x := "_law_script") rfl (by decide) (by kernel_rfl) ⟨rfl, by decide, by decide⟩ ?F
    intro w mg fa h Y G hmg0
    obtain ⟨K, KX, c, cx⟩ := Y
    have hmg : mg ("law" : PySem.Str) = some (.ref fa) := by
      have e : (HandSHeadRun.topDef (OpenLaw.row PySem.Challenge.rw_wordlines_k38_joined_and_clashes).prog 68).name = ("law" : PySem.Str) := by kernel_rfl
      rw [← e]
      exact hmg0
    obtain ⟨fd, hb, hF⟩ := Wl.facts (P := (PySem.Challenge.rw_wordlines_k38_joined_and_clashes).prog) (w := w) KX G hmg c cx
    exact ⟨K, fd, Wl.spLaw K, KX, hb, fun H a ns hl _ hS => ⟨a, ns, rfl, hS, hl, fun _ => rfl⟩, hF⟩

