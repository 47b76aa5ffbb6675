import PyProof.Rows.All
import Wide.All
import OpenK.AllK
import Wide.FinOn
import HandS.ForMost
import HandS.Defaults
import HandS.MakeKwOnly
import HandS.Conv
import HandS.IsInst
import HandS.Walk
import HandS.Flow
import KE.SortData
import KE.DataMinMax
import KE.GoesMore
import HandS.Replace
import HandS.DictComp
import HandS.MakeKw
import HandS.Style
import KE.KExcIs
import HandS.HotCalls
import HandS.ExcField
import KE.KExcInit
import HandS.Ends
import HandS.Words
import HandS.Comp
import HandS.WordsExc
import HandS.OwnEq
import KE.KCallOwn
import KE.KFmtOwn
import HandS.Codes
import HandS.FStr
import HandS.More
import HandS.Strs
import HandS.SetFor
import HandS.SetTxt0
import HandS.SetBool
import HandS.TupSets
import PyProof.Transfer
import HandS.Deep
import PyProof.EqAt
import HandS.List
import HandS.Head0
import HandS.HeadHook1
import HandS.HeadHook2
import HandS.HeadNt
import PyProof.ReprRoads
import PyProof.Rows.RegFStrParts
import HandS.JoinGen
import KE.KEqNest
import HandS.TupMul
import HandS.TupAny
import HandS.HeadEnd
import KE.KStateDown
import Lean
import HandS.Head1
import HandS.Head2
import PySem.Challenge.RW_wordlines_k37_habits_refused
set_option Elab.async false
set_option linter.all false
set_option maxRecDepth 100000
set_option maxHeartbeats 0
/-! Rules of ours beside the layer: sorted of data, min and max of two texts, in of nested tuples, methods by keyword, enumerate of a tuple. -/
namespace Wl
open PySem PySem.Spec PyProof.Rows L2

/-! sorted(list of data) -/
def rSortD (K : PySem.W.Frag) : List V → Hp → VK → Prop := fun vs H Q =>
  ∃ (a : Addr) (bs : List (V × PyData)), vs = [V.ref a] ∧ SqL K H a (bs.map (·.1)) ∧ (∀ b ∈ bs, Dp K H b.1 b.2) ∧
    PySem.W.AllAlike (bs.map (·.2)) ∧ PySem.W.Sortable (bs.map (·.2)) ∧ (∀ b ∈ bs, b.2.depth ≤ 8) ∧
    ∀ p, H p = none → Q (.ref p) (upd H p (.lst ((bs.mergeSort (PySem.W.dataLe false (·.2))).map (·.1))))
theorem each_of_vals : ∀ {bs : List (V × PyData)} {its : List Value}, Vals (bs.map (·.1)) its → PySem.W.EachIs (fun u b => RelV b.1 u) its bs
  | [], [], _ => .nil
  | [], _ :: _, h => nomatch h
  | _ :: _, [], h => nomatch h
  | b :: bs, u :: us, h => by
    cases h with
    | cons r t => exact .cons r (each_of_vals t)
theorem vals_of_each : ∀ {bs : List (V × PyData)} {its : List Value}, PySem.W.EachIs (fun u b => RelV b.1 u) its bs → Vals (bs.map (·.1)) its
  | _, _, .nil => .nil
  | _, _, .cons r t => .cons r (vals_of_each t)
theorem each_reads {X : Cx} {pins : List (Addr × Obj)} {σ : L2.St} {H : Hp} {s : Shared} (I : Inv X pins σ H s) :
    ∀ {bs : List (V × PyData)} {its : List Value}, (∀ b ∈ bs, Dp X.K H b.1 b.2) → PySem.W.EachIs (fun u b => RelV b.1 u) its bs →
      PySem.W.EachIs (fun v b => ∃ as, Reads s.heap v b.2 as) its bs
  | _, _, _, .nil => .nil
  | _, _, hd, .cons r t => .cons (Dp.reads I _ _ _ (hd _ List.mem_cons_self) r) (each_reads I (fun b m => hd b (List.mem_cons_of_mem _ m)) t)
theorem cr_sortD {X : Cx} (hu : X.A.units + 64 < cLine) : CallR X (.builtin "sorted") (rSortD X.K) := by
  intro pins s σ H vs us Q I r h
  obtain ⟨a, bs, rfl, hs, hd, ha, hk, hz, q⟩ := h
  obtain ⟨its, rv, hl, hn⟩ := I.list hs
  obtain ⟨u, rfl, ru⟩ := vals1 r
  obtain rfl : u = Value.ref a := ru
  have e := each_of_vals rv
  have hbn : bs.length ≤ sizeLine := by
    rw [List.length_map] at hn
    exact hn
  refine PySem.W.sorted_data (R := fun u b => RelV b.1 u) (enc := (·.2)) hl.isList e (each_reads I hd e) ha hk hbn (fun b hb => ?_) fun out ho eo => ?_
  · have := hz b hb
    omega
  · have rv2 := vals_of_each eo
    obtain ⟨n, hn2⟩ := sortedAll_at s.heap its out.toArray
    have hlen : ((bs.mergeSort (PySem.W.dataLe false (·.2))).map (·.1)).length ≤ sizeLine := by
      rw [List.length_map, List.length_mergeSort]
      exact hbn
    exact ⟨.ref (s.heap.objs.size + 1), _, I.laid (t' := s.toks) (o := .lst ((bs.mergeSort (PySem.W.dataLe false (·.2))).map (·.1))) (fun b o e => sortedAll_old e) (Nat.le_succ _) ⟨hlen, out, n, rv2, hn2⟩, rfl, q _ (I.hok.fresh (Nat.le_succ _))⟩

/-! min, max of a tuple of two texts -/
def rTwo (K : PySem.W.Frag) (f : Str → Str → Str) : List V → Hp → VK → Prop := fun vs H Q =>
  ∃ (a : Addr) (x y : Str), vs = [V.ref a] ∧ SqT K H a [.str x, .str y] ∧ Q (.str (f x y)) H
def lessOf (x y : Str) : Str := if y.cps.toList < x.cps.toList then y else x
def moreOf (x y : Str) : Str := if x.cps.toList < y.cps.toList then y else x
theorem alike2 (x y : Str) : PySem.W.AlikeAll [PyData.str x, .str y] := by
  refine ⟨fun a ha b hb => ?_, fun a ha => ?_⟩
  · simp only [List.mem_cons, List.not_mem_nil, or_false] at ha hb
    rcases ha with rfl | rfl <;> rcases hb with rfl | rfl <;> rfl
  · simp only [List.mem_cons, List.not_mem_nil, or_false] at ha
    rcases ha with rfl | rfl <;> exact fun z => by cases z
theorem dp2 {K : PySem.W.Frag} {H : Hp} (x y : Str) : DpAll K H [.str x, .str y] [PyData.str x, .str y] := .cons (.str x) (.cons (.str y) .nil)
theorem cr_minT {X : Cx} (hc : X.calm = true) (hu : X.A.units + 64 < cLine) : CallR X (.builtin "min") (rTwo X.K lessOf) := by
  intro pins s σ H vs us Q I r h
  obtain ⟨a, x, y, rfl, hs, q⟩ := h
  obtain ⟨its, rv, hl, hn⟩ := I.tuple hs
  obtain ⟨u, rfl, ru⟩ := vals1 r
  obtain rfl : u = Value.ref a := ru
  obtain ⟨as, hr⟩ := Dp.readsAll I _ _ its (dp2 x y) rv
  refine PySem.W.min_tuple_data (I.ok.hd hc) (show s.heap.IsTuple a its.toArray from hl) (by simpa using hr) (alike2 x y) (by
    have : PyData.depthAll [PyData.str x, .str y] = 0 := rfl
    omega) fun i v h' tk bs hv hR hk => ?_
  have e : PySem.W.minD (.str x) [.str y] = .str (lessOf x y) := by
    unfold PySem.W.minD lessOf
    simp only [List.foldl_cons, List.foldl_nil, PySem.W.dataLt_str]
    by_cases c : y.cps.toList < x.cps.toList <;> simp [c]
  rw [e] at hR
  cases hR with
  | str z t => exact ⟨.str _, H, I.kept (t' := tk) hk, ⟨_, rfl⟩, q⟩
theorem cr_maxT {X : Cx} (hc : X.calm = true) (hu : X.A.units + 64 < cLine) : CallR X (.builtin "max") (rTwo X.K moreOf) := by
  intro pins s σ H vs us Q I r h
  obtain ⟨a, x, y, rfl, hs, q⟩ := h
  obtain ⟨its, rv, hl, hn⟩ := I.tuple hs
  obtain ⟨u, rfl, ru⟩ := vals1 r
  obtain rfl : u = Value.ref a := ru
  obtain ⟨as, hr⟩ := Dp.readsAll I _ _ its (dp2 x y) rv
  refine PySem.W.max_tuple_data (I.ok.hd hc) (show s.heap.IsTuple a its.toArray from hl) (by simpa using hr) (alike2 x y) (by
    have : PyData.depthAll [PyData.str x, .str y] = 0 := rfl
    omega) fun i v h' tk bs hv hR hk => ?_
  have e : PySem.W.maxD (.str x) [.str y] = .str (moreOf x y) := by
    unfold PySem.W.maxD moreOf
    simp only [List.foldl_cons, List.foldl_nil, PySem.W.dataLt_str]
    by_cases c : x.cps.toList < y.cps.toList <;> simp [c]
  rw [e] at hR
  cases hR with
  | str z t => exact ⟨.str _, H, I.kept (t' := tk) hk, ⟨_, rfl⟩, q⟩

/-! x in a tuple of data -/
def rInDT (K : PySem.W.Frag) : R2 := fun x y H Q => ∃ d ds, Dp K H x d ∧ Dp K H y (.tuple ds) ∧ SeqAt.shaped d = true ∧
  SeqAt.shaped (.tuple ds) = true ∧ Q (.bl (ds.any fun z => PyData.eqv z d)) H
theorem op_inDT {X : Cx} (hu : X.A.units + 65 < cLine) : OpR X (compareOp .In) (rInDT X.K) := by
  intro pins s σ H x y v u Q I rx ry h
  obtain ⟨d, ds, hd, he, sd, se, q⟩ := h
  obtain ⟨as, r1⟩ := Dp.reads I d x v hd rx
  obtain ⟨bs, r2⟩ := Dp.reads I (.tuple ds) y u he ry
  exact SeqAt.in_tuple_reads r2 r1 (SeqAt.canLay_of_shaped se) (SeqAt.canLay_of_shaped sd) (room_in_shaped sd hu) ⟨.bl _, H, I, rfl, q⟩

/-! o.m(k = e): one argument by its name -/
def g2 {α : Type} : List α → List α → List α
  | [a], [b] => [a, b]
  | _, _ => []
theorem g2_rel : ∀ {vs : List V} {us : List Value} {zs : List V} {ws : List Value}, Vals vs us → Vals zs ws → Vals (g2 vs zs) (g2 us ws)
  | _, _, _, _, .nil, _ => .nil
  | _, _, _, _, .cons a (.cons b c), _ => .nil
  | _, _, _, _, .cons a .nil, .nil => .nil
  | _, _, _, _, .cons a .nil, .cons b .nil => .cons a (.cons b .nil)
  | _, _, _, _, .cons a .nil, .cons b (.cons c d) => .nil
def tMethK (C : Addr) (m : Str) (sp : Sp) (E : XK) (ta : TE) (tk : TA) : TE := fun σ H Q => ta σ H fun x H1 =>
  ∃ a dx fs, x = .ref a ∧ H1 a = some (.ins C dx fs) ∧ fs.lookup m = none ∧ tk σ H1 fun zs H2 => sp (g2 [.ref a] zs) H2 Q E
theorem pe_methK {X : Cx} {CX : CXT} {k : Nat} {f C : Addr} {fd : FuncData} {ps ks : List Str} {sp : Sp} {E : XK} {m : Str} {pos apos : Pos} {o : Expr} {kws : List Keyword} {ta : TE} {tk : TA} {pl : Sem Bool}
    (he : PE X o ta) (c : Cls X.K C) (hm : Meth X.K C m f) (F : FnOk X.prog X.w X.K X.mg X.base CX k f fd ps sp) (hr : Room k X.A) (hb : KBinds X.K fd ps ks g2 g2) (hx : Passes CX X E) (hkw : PK X kws tk)
    (hall : (backToKw pos (keywordEach kws X.env)).all (·.1.isSome) = true := by rfl) (hks : (backToKw pos (keywordEach kws X.env)).filterMap (·.1) = ks := by rfl)
    (hpl : ((backTo pos (starEach [] X.env)).any (·.1) || (backToKw pos (keywordEach kws X.env)).any (·.1.isNone)) = false := by rfl)
    (ht : eval (.Call (.Attribute o m apos) [] kws pos) X.env = (do
      let ov ← eval o X.env
      standAt apos.atName
      let (f, first) ← holding [ov] (getMethod ov m pl)
      callWith pos f first (backTo pos (starEach [] X.env)) (backToKw pos (keywordEach kws X.env))) := by rfl) :
    PE X (.Call (.Attribute o m apos) [] kws pos) (tMethK C m sp E ta tk) := by
  refine ⟨fun pins s σ H Q I h => ?_⟩
  refine PySem.W.methodCall_KW (pl := pl) (thn (he.run pins s σ H _ I h) fun u s1 ⟨x, H1, I1, rx, a, dx, fs, ex, ea, l, q⟩ => ?_) ht
  subst ex
  obtain rfl : u = Value.ref a := rx
  refine getmeth_ok I1 ea c hm l ?_
  refine PySem.W.callWith_KW0 (first := [.ref a]) (h₀ := X.base) I.ok.mod.kin hm.kp hall (thn (hkw.run pos pins s1 σ H1 _ I1 q) fun ws s2 ⟨zs, H2, I2, rz, q2⟩ => ⟨I2.kIn, ?_⟩) hpl
  rw [hks]
  exact run_fnk (us := [.ref a]) (vs := [.ref a]) F hr hb hx I2 (.cons rfl .nil) rz q2

/-! enumerate(a tuple) -/
open AutoSeq1 (wpAny_loadPart') in
theorem new_enumT (l : Addr) (items : Array Value) (n : Nat) (dct : Option Addr) (sl : Array (Option Value)) :
    Meets (Builtin.«enumerate.__new__» ⟨[.type "enumerate", .ref l], []⟩) (fun _ R s =>
      s.heap.get? l = some { cls := .type "tuple", dict := dct, data := .seq items n, slots := sl } ∧
      R (.ok (.ret (.ref (s.heap.push { cls := .type "tuple_iterator", data := .fields #[.ref l, .int 0 0] }).objs.size)))
        { s with heap := (s.heap.push { cls := .type "tuple_iterator", data := .fields #[.ref l, .int 0 0] }).push { cls := .type "enumerate", data := .fields #[.none, .bool false, .ref s.heap.objs.size, rawInt 0, .none, .none] } }) :=
  .of_wp fun prog w A R s h => by
    obtain ⟨hp, g, d, tk, os⟩ := s
    obtain ⟨hl, h⟩ := h
    have hsub := sub_enumerate
    have hT : Heap.IsTuple (Shared.heap ⟨hp, g, d, tk, os⟩) l items := ⟨_, hl, rfl, n, rfl⟩
    wp_walk using wpAny_loadPart' hl
    refine wpAny_stack_any fun st => wpAny_pure ?_
    split
    · rename_i c _ _ _ _ _
      cases (c == Value.type "enumerate") <;> (wp_walk using wpAny_loadPart' hl, wpAny_pyIter_tuple hT; exact ⟨_, rfl, h⟩)
    · (wp_walk using wpAny_loadPart' hl, wpAny_pyIter_tuple hT); exact ⟨_, rfl, h⟩
section
variable {prog : Program} {w : World} {A : Around} {E : Value → Shared → Prop} {s : Shared}
theorem make_enumT {l : Addr} {items : Array Value} {Q : Value → Shared → Prop} (hL : s.heap.IsTuple l items)
    (h : ∀ h', IsEnum h' (s.heap.objs.size + 1) s.heap.objs.size 0 .none → h'.IsTupleIter s.heap.objs.size l 0 →
      (∀ b o, s.heap.get? b = some o → h'.get? b = some o) → Q (.ref (s.heap.objs.size + 1)) { s with heap := h' }) :
    wpAny (model prog w) A (call (.type "enumerate") [.ref l]) Q E s := by
  obtain ⟨⟨c, dct, dt, sl⟩, hl, hc, n, hd⟩ := hL
  obtain rfl : c = .type "tuple" := hc
  obtain rfl : dt = .seq items n := hd
  refine callType_new F.called_enumerate (by decide) (F.typeCall_enumerate_1 _) (F.newCall_enumerate_1 _) (fun obj => F.args_object_init_2 obj _) F.entry_enumerate_new (new_enumT l items n dct sl) ⟨hl, ?_⟩
  have hz : (s.heap.push { cls := .type "tuple_iterator", data := .fields #[.ref l, .int 0 0] }).objs.size = s.heap.objs.size + 1 := Heap.size_push ..
  rw [hz]
  have he : IsEnum ((s.heap.push { cls := .type "tuple_iterator", data := .fields #[.ref l, .int 0 0] }).push { cls := .type "enumerate", data := .fields #[.none, .bool false, .ref s.heap.objs.size, rawInt 0, .none, .none] })
      (s.heap.objs.size + 1) s.heap.objs.size 0 .none := hz ▸ Heap.get?_push_size (s.heap.push { cls := .type "tuple_iterator", data := .fields #[.ref l, .int 0 0] }) rfl
  exact ⟨⟨_, he, rfl⟩, h _ he ⟨_, Heap.get?_push_of_some _ (Heap.get?_push_size _ rfl), rfl, rfl⟩ fun b o x => Heap.get?_push_of_some _ (Heap.get?_push_of_some _ x)⟩
end
def IteT (K : PySem.W.Frag) (a : Addr) : It where
  go := fun i H => ∃ (xs : List V) (x : V), SqT K H a xs ∧ xs[i]? = some x
  yld := fun i H v H' => ∃ T x, v = .ref T ∧ H T = none ∧ H' = upd H T (.tup [.int (i : Nat), x]) ∧ ∀ xs, SqT K H a xs → xs[i]? = some x
  stop := fun i H => ∃ xs : List V, SqT K H a xs ∧ xs.length ≤ i
theorem apart_of {h : Heap} {a b : Addr} {o u : Obj} (ha : h.get? a = some o) (hb : h.get? b = some u) (hc : o.cls ≠ u.cls) : a ≠ b := fun e => by
  subst e
  rw [ha] at hb
  exact hc (congrArg Obj.cls (Option.some.inj hb))
theorem turn_enumT {P : Program} {w : World} {K : PySem.W.Frag} {elts : List Expr} {kk : Nat} {tpos : Pos} (a e it : Addr) :
    Turn P w K (.Tuple elts kk tpos) (IteT K a) [e, it] e (fun i h => (∃ old, IsEnum h e it ((i : Nat) : Int) old) ∧ h.IsTupleIter it a i ∧ e ≠ it) where
  mem := by simp
  obj := fun i h st b hb => by
    obtain ⟨⟨old, he⟩, ⟨o, ho, hc, hd⟩, _⟩ := st
    rcases (show b = e ∨ b = it by simpa using hb) with z | z
    · subst z; exact ⟨_, he, fun v q => nomatch q⟩
    · subst z; exact ⟨o, ho, fun v q => by rw [hd] at q; cases q⟩
  keep := fun i h h' st k => let ⟨⟨old, he⟩, hi, hne⟩ := st; ⟨⟨old, k e (by simp) _ he⟩, hi.at fun o q => k it (by simp) o q, hne⟩
  item := by
    intro X hP hw hK hc i pins s σ H E I hf st hg
    subst hP hw hK
    obtain ⟨⟨old, he⟩, hit, hne⟩ := st
    obtain ⟨xs, x, hq, hx⟩ := hg
    obtain ⟨its, rv, p, hz⟩ := I.tuple hq
    obtain ⟨u, hu, ru⟩ := rv.get hx
    have hT : s.heap.IsTuple a its.toArray := p
    obtain ⟨oi, hoi, hci, _⟩ := id hit
    obtain ⟨oa, hoa, hca, _⟩ := id hT
    have hel : e < s.heap.objs.size := Heap.lt_size he
    have hil : it < s.heap.objs.size := Heap.lt_size hoi
    have nai : a ≠ it := apart_of hoa hoi (by rw [hca, hci]; decide)
    have nea : e ≠ a := apart_of he hoa (by rw [hca]; show Value.type "enumerate" ≠ Value.type "tuple"; decide)
    have hi : i < its.toArray.size := by
      have := (List.getElem?_eq_some_iff.mp hu).1
      simpa using this
    refine wpAny_pyNext_enum_itemD (Draws.tuple (prog := X.prog) (w := X.w) (A := X.A.in1) (I.ok.hd hc) it a nai its.toArray) he ⟨hit, hT⟩ hi hne (by simp [hne, nea]) fun y h' tk hy ho hst hTp hsz hk => ?_
    obtain rfl : u = y := by
      have q : its.toArray[i]? = some u := by simpa using hu
      exact Option.some.inj (q.symm.trans hy)
    refine ⟨_, rfl, wpAny_letOwnedTupleGo_enum (s := { s with heap := h', toks := tk + 1 }) ho fun h'' he' sb => ?_⟩
    have hT2 : h''.get? s.heap.objs.size = some { cls := .type "tuple", data := .seq #[.int i tk, u] } := (sb.2 _ (Nat.ne_of_gt hel)).trans hTp
    have new : ObjOk X.prog X.w (upd H s.heap.objs.size (.tup [.int (i : Nat), x])) h'' s.heap.objs.size (.tup [.int (i : Nat), x]) :=
      ⟨by show 2 ≤ sizeLine; decide, [.int i tk, u], .cons ⟨_, rfl⟩ (.cons ru .nil), ⟨_, hT2, rfl, _, rfl⟩⟩
    have I1 : L2.Inv X pins σ (upd H s.heap.objs.size (.tup [.int (i : Nat), x])) { s with heap := h'', toks := tk + 1 } :=
      I.turnedNew (ch := [e, it]) (fun b ob hb q => by
        simp only [List.mem_cons, List.not_mem_nil, or_false, not_or] at hb
        exact (sb.2 b hb.1).trans (hk b ob hb.1 hb.2 q)) hf (Nat.le_refl _) new
    have e1 : ((i + 1 : Nat) : Int) = (i : Int) + 1 := by omega
    refine ⟨.ref s.heap.objs.size, _, I1, rfl, ⟨_, x, rfl, I.hok.fresh (Nat.le_refl _), rfl, fun ys hy => by rw [I.tuple_inj hy hq]; exact hx⟩,
      ⟨⟨u, by rw [e1]; exact he'⟩, hst.1.at fun o q => (sb.2 it (Ne.symm hne)).trans q, hne⟩, fun b hb => ?_⟩
    have hb' : b < s.heap.objs.size := by
      rcases (show b = e ∨ b = it by simpa using hb) with z | z <;> subst z <;> assumption
    rw [upd_ne (Nat.ne_of_lt hb')]
    exact (hf b hb).1
  done := by
    intro X hP hw hK hc i pins s σ H E I hf st hg
    subst hP hw hK
    obtain ⟨⟨old, he⟩, hit, hne⟩ := st
    obtain ⟨xs, hq, hx⟩ := hg
    obtain ⟨its, rv, p, hz⟩ := I.tuple hq
    obtain ⟨f0, f1, f2, f3, f4, f5⟩ := hf it (by simp)
    have hT : s.heap.IsTuple a its.toArray := p
    have hl : xs.length = its.length := rv.length
    have hT2 : ¬ (i < its.toArray.size) := by simp; omega
    show wpAny _ _ (pyNext (.ref e)) _ _ s
    have hTy : s.TypeIs (.ref e) "enumerate" := ⟨_, he, rfl⟩
    unfold pyNext
    refine wpAny_bind (wpAny_attempt (wpAny_callSpecial?_slot (name := Str.ofString "__next__") hTy F.slot_enumerate_next (wpAny_call_entry F.slot_enumerate_next hTy F.entry_enumerate_next ?_ (F.args_enumerate_next_1 _))))
    show wpAny _ _ (field (.ref e) 2 >>= _) _ _ _
    refine wpAny_bind (wpAny_field he rfl (x := .ref it) rfl (wpAny_bind (wpAny_nextOf_tuple_end (I.ok.hd hc) hit hT (Array.getElem?_eq_none (by omega)) fun h' x he' hx' => ?_)))
    obtain ⟨o, ho, hcc⟩ := hx'
    exact wpAny_bind (wpAny_isInstance (T := "StopIteration") (b := true) ⟨o, ho, hcc⟩ isSubtype_stop (wpAny_pure ⟨rfl, I.turned (t' := s.toks) (fun b o hb q => he' b o hb q) f0 f1 f3 f4 f5⟩))
  self := fun A i s Q E st h => let ⟨⟨_, he⟩, _⟩ := st; wpAny_pyIter_enum he h
def iEnumT (K : PySem.W.Frag) (ta : TA) : TI := fun σ H R => ta σ H fun vs H1 => ∃ a xs, vs = [.ref a] ∧ SqT K H1 a xs ∧ R (IteT K a) H1
theorem pi_enumT {X : Cx} {e : Expr} {ta : TA} {p pos tpos : Pos} {elts : List Expr} {kk : Nat} (hg : Gl X "enumerate") (hm : X.mg "enumerate" = none) (ha : PA X [e] ta) (hs : starEach [e] X.env = [(false, eval e X.env)] := by rfl) :
    PI X (.Tuple elts kk tpos) (.Call (.Name "enumerate" p) [e] [] pos) (iEnumT X.K ta) := by
  refine ⟨fun pins s σ H R I h => ?_⟩
  refine Call_ (ld_blt I hg hm boot_enumerate (PyProof.Rows.callWith_type1 (thn (ha.run pos pins s σ H _ I h) fun us s1 ⟨vs, H1, I1, r1, q1⟩ => ?_) hs rfl))
  obtain ⟨a, xs, rfl, hq, q⟩ := q1
  obtain ⟨u, rfl, ru⟩ := vals1 r1
  obtain rfl : u = Value.ref a := ru
  obtain ⟨its, rv, p', hz⟩ := I1.tuple hq
  refine make_enumT (show s1.heap.IsTuple a its.toArray from p') fun h' he hit hk => wpAny_pyIter_enum he ?_
  refine ⟨s1.heap.objs.size + 1, [s1.heap.objs.size + 1, s1.heap.objs.size], _, _, H1, rfl, I1.kept (t' := s1.toks) hk, turn_enumT a (s1.heap.objs.size + 1) s1.heap.objs.size, ⟨⟨.none, he⟩, hit, Nat.succ_ne_self _⟩, fun b hb => ?_, q⟩
  have hle : s1.heap.objs.size ≤ b := by
    rcases (show b = s1.heap.objs.size + 1 ∨ b = s1.heap.objs.size by simpa using hb) with z | z <;> rw [z]
    · exact Nat.le_add_right _ _
    · exact Nat.le_refl _
  exact I1.fpOk hle (I1.hok.fresh hle)
theorem walk_enumT {K : PySem.W.Frag} {a : Addr} {xs : List V} : Walk (IteT K a) xs.length (fun H => SqT K H a xs) (YPair (fun i => some (.int (i : Nat))) (fun i => xs[i]?)) := by
  refine ⟨fun i _ hi q => ⟨xs, xs[i], q, by simp [hi]⟩, fun _ q => ⟨xs, q, Nat.le_refl _⟩, ?_⟩
  rintro i H v H' _ q ⟨T, x, h1, h2, h3, h4⟩
  exact ⟨T, .int (i : Nat), x, h1, h2, h3, rfl, h4 xs q⟩
end Wl

namespace Wl
open PySem

/-! ### strictly rising lists -/
theorem rising_ext {α : Type} {lt : α → α → Prop} (ir : ∀ a, ¬ lt a a) (tr : ∀ a b c, lt a b → lt b c → lt a c) :
    ∀ {l m : List α}, l.Pairwise lt → m.Pairwise lt → (∀ x, x ∈ l ↔ x ∈ m) → l = m
  | [], [], _, _, _ => rfl
  | [], y :: m, _, _, h => absurd ((h y).mpr List.mem_cons_self) (by simp)
  | x :: l, [], _, _, h => absurd ((h x).mp List.mem_cons_self) (by simp)
  | x :: l, y :: m, hl, hm, h => by
    obtain ⟨hx, hl'⟩ := List.pairwise_cons.mp hl
    obtain ⟨hy, hm'⟩ := List.pairwise_cons.mp hm
    have e : x = y := by
      rcases List.mem_cons.mp ((h x).mp List.mem_cons_self) with e | h1
      · exact e
      · rcases List.mem_cons.mp ((h y).mpr List.mem_cons_self) with e | h2
        · exact e.symm
        · exact absurd (tr _ _ _ (hx y h2) (hy x h1)) (ir x)
    subst e
    have : l = m := rising_ext ir tr hl' hm' fun z => by
      constructor
      · intro hz
        rcases List.mem_cons.mp ((h z).mp (List.mem_cons_of_mem _ hz)) with e | q
        · exact absurd (hx z hz) (by rw [e]; exact ir x)
        · exact q
      · intro hz
        rcases List.mem_cons.mp ((h z).mpr (List.mem_cons_of_mem _ hz)) with e | q
        · exact absurd (hy z hz) (by rw [e]; exact ir x)
        · exact q
    rw [this]

/-! ### texts by their codes -/
theorem str_ext {a b : Str} (h : a.cps.toList = b.cps.toList) : a = b := by
  cases a; cases b
  exact congrArg Str.mk (Array.ext' h)
abbrev ltS (a b : Str) : Prop := a.cps.toList < b.cps.toList
theorem ltS_irr (a : Str) : ¬ ltS a a := List.lt_irrefl _
theorem ltS_tr (a b c : Str) (h : ltS a b) (k : ltS b c) : ltS a c := List.lt_trans h k
theorem ltS_tot {a b : Str} (h : ¬ ltS a b) (k : ¬ ltS b a) : a = b :=
  str_ext (List.le_antisymm (List.not_lt.mp k) (List.not_lt.mp h))
def leB (a b : Str) : Bool := !decide (ltS b a)
theorem leB_trans (a b c : Str) (h : leB a b = true) (k : leB b c = true) : leB a c = true := by
  simp only [leB, Bool.not_eq_true', decide_eq_false_iff_not] at h k ⊢
  exact fun q => by
    by_cases e : ltS a b
    · exact k (ltS_tr _ _ _ q e)
    · have := ltS_tot e h
      subst this
      exact k q
theorem leB_total (a b : Str) : (leB a b || leB b a) = true := by
  simp only [leB, Bool.or_eq_true, Bool.not_eq_true', decide_eq_false_iff_not]
  by_cases h : ltS b a
  · exact .inr fun q => ltS_irr _ (ltS_tr _ _ _ h q)
  · exact .inl h
def sortS (xs : List Str) : List Str := xs.mergeSort leB
theorem mem_sortS {xs : List Str} {z : Str} : z ∈ sortS xs ↔ z ∈ xs := List.mem_mergeSort
theorem sortS_len (xs : List Str) : (sortS xs).length = xs.length := List.length_mergeSort _
theorem sortS_rising {xs : List Str} (h : xs.Nodup) : (sortS xs).Pairwise ltS := by
  have h1 : (sortS xs).Pairwise (fun a b => leB a b = true) := List.pairwise_mergeSort leB_trans leB_total xs
  have h2 : (sortS xs).Pairwise (· ≠ ·) := (List.mergeSort_perm xs leB).nodup_iff.mpr h
  refine List.Pairwise.imp₂ ?_ h1 h2
  intro a b q n
  simp only [leB, Bool.not_eq_true', decide_eq_false_iff_not] at q
  exact Classical.byContradiction fun c => n (ltS_tot c q)
/-- what is strictly rising with the same members is the sorted list -/
theorem sortS_eq {xs l : List Str} (h : xs.Nodup) (hl : l.Pairwise ltS) (hm : ∀ z, z ∈ l ↔ z ∈ xs) : l = sortS xs :=
  rising_ext ltS_irr ltS_tr hl (sortS_rising h) fun z => (hm z).trans mem_sortS.symm

/-! ### pairs of texts -/
abbrev Two := Str × Str
def ltP (p q : Two) : Prop := ltS p.1 q.1 ∨ (p.1 = q.1 ∧ ltS p.2 q.2)
instance (p q : Two) : Decidable (ltP p q) := by unfold ltP; infer_instance
theorem ltP_irr (p : Two) : ¬ ltP p p := by
  rintro (h | ⟨_, h⟩) <;> exact ltS_irr _ h
theorem ltP_tr (p q r : Two) (h : ltP p q) (k : ltP q r) : ltP p r := by
  obtain ⟨p1, p2⟩ := p
  obtain ⟨q1, q2⟩ := q
  obtain ⟨r1, r2⟩ := r
  rcases h with h | ⟨e, h⟩ <;> rcases k with k | ⟨f, k⟩
  · exact .inl (ltS_tr _ _ _ h k)
  · simp only at f; subst f; exact .inl h
  · simp only at e; subst e; exact .inl k
  · simp only at e f; subst e f; exact .inr ⟨rfl, ltS_tr _ _ _ h k⟩
theorem ltP_tot {p q : Two} (h : ¬ ltP p q) (k : ¬ ltP q p) : p = q := by
  obtain ⟨p1, p2⟩ := p
  obtain ⟨q1, q2⟩ := q
  simp only [ltP, not_or, not_and] at h k
  have e : p1 = q1 := ltS_tot h.1 k.1
  subst e
  rw [ltS_tot (h.2 rfl) (k.2 rfl)]
def lePB (a b : Two) : Bool := !decide (ltP b a)
theorem lePB_trans (a b c : Two) (h : lePB a b = true) (k : lePB b c = true) : lePB a c = true := by
  simp only [lePB, Bool.not_eq_true', decide_eq_false_iff_not] at h k ⊢
  exact fun q => by
    by_cases e : ltP a b
    · exact k (ltP_tr _ _ _ q e)
    · have := ltP_tot e h
      subst this
      exact k q
theorem lePB_total (a b : Two) : (lePB a b || lePB b a) = true := by
  simp only [lePB, Bool.or_eq_true, Bool.not_eq_true', decide_eq_false_iff_not]
  by_cases h : ltP b a
  · exact .inr fun q => ltP_irr _ (ltP_tr _ _ _ h q)
  · exact .inl h
def sortP (xs : List Two) : List Two := xs.mergeSort lePB
theorem mem_sortP {xs : List Two} {z : Two} : z ∈ sortP xs ↔ z ∈ xs := List.mem_mergeSort
theorem sortP_len (xs : List Two) : (sortP xs).length = xs.length := List.length_mergeSort _
theorem sortP_rising {xs : List Two} (h : xs.Nodup) : (sortP xs).Pairwise ltP := by
  have h1 : (sortP xs).Pairwise (fun a b => lePB a b = true) := List.pairwise_mergeSort lePB_trans lePB_total xs
  have h2 : (sortP xs).Pairwise (· ≠ ·) := (List.mergeSort_perm xs lePB).nodup_iff.mpr h
  refine List.Pairwise.imp₂ ?_ h1 h2
  intro a b q n
  simp only [lePB, Bool.not_eq_true', decide_eq_false_iff_not] at q
  exact Classical.byContradiction fun c => n (ltP_tot c q)
theorem sortP_eq {xs l : List Two} (h : xs.Nodup) (hl : l.Pairwise ltP) (hm : ∀ z, z ∈ l ↔ z ∈ xs) : l = sortP xs :=
  rising_ext ltP_irr ltP_tr hl (sortP_rising h) fun z => (hm z).trans mem_sortP.symm

/-! ### the machine's order is ours -/
theorem le_data_str (a b : Str) : (!PySem.W.dataLt (.str b) (.str a)) = leB a b := by
  rw [PySem.W.dataLt_str]
  rfl
theorem le_data_two (a b : Two) : (!PySem.W.dataLt (.tuple [.str b.1, .str b.2]) (.tuple [.str a.1, .str a.2])) = lePB a b := by
  rw [PySem.W.dataLt_pair rfl rfl, PySem.W.dataLt_str, PySem.W.dataLt_str]
  unfold lePB
  congr 1
  have q : ∀ x y : Str, (PyData.eqv (.str x) (.str y) = true) = (x = y) := fun x y => by simp [PyData.eqv]
  simp only [q]
  by_cases h : b.1 = a.1
  · by_cases k : b.2 = a.2
    · have e : b = a := Prod.ext h k
      subst e
      simp [ltP_irr]
    · simp only [h, k, if_true, if_false, ltP]
      by_cases z : ltS b.2 a.2
      · simp [z]
      · simp [z, ltS_irr]
  · simp only [h, if_false, ltP]
    by_cases z : ltS b.1 a.1 <;> simp [z, h]
end Wl

namespace Wl
open PySem PySem.Spec PyProof.Rows L2

/-! ### defs that keep promises, by name -/
def Has (P : Program) (w : World) (K : PySem.W.Frag) (mg : Str → Option Value) (base : Heap) (x : Str) (k : Nat) (ps : List Str) (sp : Sp) : Prop :=
  ∃ f fd, FnOk P w K mg base CX0 k f fd ps sp ∧ mg x = some (.ref f) ∧ PySem.W.keepIn K (.ref f) = true ∧ Binds K fd ps []
def HasM (P : Program) (w : World) (K : PySem.W.Frag) (mg : Str → Option Value) (base : Heap) (C : Addr) (m : Str) (k : Nat) (ps : List Str) (sp : Sp) : Prop :=
  ∃ f fd, FnOk P w K mg base CX0 k f fd ps sp ∧ Meth K C m f ∧ Binds K fd ps []
section
variable {X : Cx} {k j : Nat} {C : Addr} {ps ks : List Str} {sp : Sp} {x m : Str} {p pos apos : Pos} {e o : Expr} {es : List Expr} {kws : List Keyword} {ta : TE} {t tk : TA}
theorem pe_h (h : Has X.prog X.w X.K X.mg X.base x k ps sp) (hr : Room j X.A) (ha : PA X (e :: es) t) (hkj : k ≤ j := by decide) (hg : Gl X x := by rfl) (hdb : (x == ("__debug__" : Str)) = false := by decide)
    (he : starEach (e :: es) X.env = (false, eval e X.env) :: starEach es X.env := by rfl) (hpl : (backTo pos (starEach es X.env)).any (·.1) = false := by rfl) :
    PE X (.Call (.Name x p) (e :: es) [] pos) (tCall sp [] E0 t) := by
  obtain ⟨f, fd, F, g, kp, b⟩ := h
  exact pe_call F (hr.mono hkj) hg g kp b .nil pass0 ha hdb he hpl
theorem pe_h0 (h : Has X.prog X.w X.K X.mg X.base x k ps sp) (hr : Room j X.A) (hkj : k ≤ j := by decide) (hg : Gl X x := by rfl) (hdb : (x == ("__debug__" : Str)) = false := by decide) :
    PE X (.Call (.Name x p) [] [] pos) (tCall sp [] E0 tNil) := by
  obtain ⟨f, fd, F, g, kp, b⟩ := h
  exact pe_call0 F (hr.mono hkj) hg g kp b .nil pass0 hdb
theorem pe_hm {pl : Sem Bool} (h : HasM X.prog X.w X.K X.mg X.base C m k ps sp) (c : Cls X.K C) (hr : Room j X.A) (ho : PE X o ta) (ha : PA X (e :: es) t) (hkj : k ≤ j := by decide)
    (hst : starEach (e :: es) X.env = (false, eval e X.env) :: starEach es X.env := by rfl) (hpl : (backTo pos (starEach es X.env)).any (·.1) = false := by rfl)
    (ht : eval (.Call (.Attribute o m apos) (e :: es) [] pos) X.env = (do
      let ov ← eval o X.env
      standAt apos.atName
      let (f, first) ← holding [ov] (getMethod ov m pl)
      callWith pos f first (backTo pos (starEach (e :: es) X.env)) (backToKw pos (keywordEach [] X.env))) := by rfl) :
    PE X (.Call (.Attribute o m apos) (e :: es) [] pos) (tMeth C m sp [] E0 ta t) := by
  obtain ⟨f, fd, F, g, b⟩ := h
  exact pe_meth ho c g F (hr.mono hkj) b .nil pass0 ha hst hpl ht
theorem pe_hm0 {pl : Sem Bool} (h : HasM X.prog X.w X.K X.mg X.base C m k ps sp) (c : Cls X.K C) (hr : Room j X.A) (ho : PE X o ta) (hkj : k ≤ j := by decide)
    (ht : eval (.Call (.Attribute o m apos) [] [] pos) X.env = (do
      let ov ← eval o X.env
      standAt apos.atName
      let (f, first) ← holding [ov] (getMethod ov m pl)
      callWith pos f first (backTo pos (starEach [] X.env)) (backToKw pos (keywordEach [] X.env))) := by rfl) :
    PE X (.Call (.Attribute o m apos) [] [] pos) (tMeth C m sp [] E0 ta tNil) := by
  obtain ⟨f, fd, F, g, b⟩ := h
  exact pe_meth0 ho c g F (hr.mono hkj) b .nil pass0 ht
end

/-! ### heaps -/
theorem same_new {H : Hp} {p : Addr} {o : HO} (h : H p = none) : Same H (upd H p o) := fun b x e => by
  rw [upd_ne (ne_of_none e h)]
  exact e
theorem same_mut {H H' : Hp} {p : Addr} {o : HO} (s : Same H H') (h : H p = none) : Same H (upd H' p o) := fun b x e => by
  rw [upd_ne (ne_of_none e h)]
  exact s b x e
theorem tup_same {K : PySem.W.Frag} {H H' : Hp} {a : Addr} {xs : List V} (e : Same H H') (h : SqT K H a xs) : SqT K H' a xs := by
  rcases h with (h | ⟨o, h⟩) | h
  · exact .inl (.inl (e _ _ h))
  · exact .inl (.inr ⟨o, e _ _ h⟩)
  · exact .inr h
/-- all but what stands at a is as it was -/
def SameX (a : Addr) (H H' : Hp) : Prop := ∀ b o, b ≠ a → H b = some o → H' b = some o
theorem SameX.refl (a : Addr) (H : Hp) : SameX a H H := fun _ _ _ h => h
theorem SameX.trans {a : Addr} {H H1 H2 : Hp} (s : SameX a H H1) (t : SameX a H1 H2) : SameX a H H2 := fun b o n h => t b o n (s b o n h)
theorem sx {a : Addr} {H H' : Hp} (s : Same H H') : SameX a H H' := fun b o _ h => s b o h
theorem sameX_upd {a : Addr} {H : Hp} {o : HO} : SameX a H (upd H a o) := fun b u n h => by rw [upd_ne n]; exact h
/-- an object that H does not know may change -/
theorem sameX_mut {a : Addr} {H H' : Hp} {p : Addr} {o : HO} (s : SameX a H H') (h : H p = none) : SameX a H (upd H' p o) := fun b u n e => by
  rw [upd_ne (ne_of_none e h)]
  exact s b u n e
theorem SameX.free {a l : Addr} {H H' : Hp} (e : SameX a H H') (n : l ≠ a) (h : H' l = none) : H l = none := by
  cases q : H l with
  | none => rfl
  | some o =>
    rw [e l o n q] at h
    cases h
theorem SameX.tup {K : PySem.W.Frag} {a p : Addr} {H H' : Hp} {xs ys : List V} (e : SameX a H H') (ha : H a = some (.lst ys)) (h : SqT K H p xs) : SqT K H' p xs := by
  rcases h with (h | ⟨o, h⟩) | h
  · exact .inl (.inl (e _ _ (ne_of h ha (by intro z; cases z)) h))
  · exact .inl (.inr ⟨o, e _ _ (ne_of h ha (by intro z; cases z)) h⟩)
  · exact .inr h

/-! ### tests whose answer is known -/
theorem ite_b {b : Bool} {A B : Prop} (h1 : b = true → A) (h2 : b = false → B) : if b = true then A else B := by
  cases b with
  | true => exact iteT (h1 rfl)
  | false => exact iteF (h2 rfl)
theorem not_b {b : Bool} {A B : Prop} (h1 : b = false → A) (h2 : b = true → B) : if (!b) = true then A else B := by
  cases b with
  | true => exact iteF (h2 rfl)
  | false => exact iteT (h1 rfl)

theorem yes_it {σ : L2.St} {H : Hp} {A B : Hp → Prop} (h : A H) : tYes σ H (fun b H' => if b = true then A H' else B H') := by
  show if true = true then A H else B H
  rw [if_pos rfl]
  exact h
theorem lz {n : Nat} (h : Nat.ble n 1000 = true := by rfl) : n ≤ sizeLine := Nat.le_trans (Nat.le_of_ble_eq_true h) (by decide)
theorem lzl {n : Nat} (h : n ≤ 1000) : n ≤ sizeLine := Nat.le_trans h (by decide)

/-! ### words -/
def wdB (z : Str) : Bool := decide (1 ≤ z.length) && decide (z.length ≤ 8) && z.cps.toList.all fun c => decide (97 ≤ c) && decide (c ≤ 122)
def IsWd (z : Str) : Prop := wdB z = true
instance (z : Str) : Decidable (IsWd z) := inferInstanceAs (Decidable (wdB z = true))
def oV : Option Str → V
  | none => .non
  | some z => .str z

/-! ### the built-ins that the text leaves as they are -/
structure Bi (mg : Str → Option Value) : Prop where
  len : mg "len" = none
  range : mg "range" = none
  isi : mg "isinstance" = none
  tuple : mg "tuple" = none
  list : mg "list" = none
  sorted : mg "sorted" = none
  all : mg "all" = none
  int : mg "int" = none
  max : mg "max" = none
  min : mg "min" = none
  enum : mg "enumerate" = none
  str : mg "str" = none
end Wl
namespace Wl
open PySem PySem.Spec PyProof.Rows L2
theorem atI_tab {ns : List Int} {r : Int} (h0 : 0 ≤ r) (h : r < ns.length) : ∃ n ∈ ns, atI (ns.map V.int) r = some (.int n) := by
  have hr : r.toNat < ns.length := by omega
  refine ⟨ns[r.toNat], List.getElem_mem hr, at_of (j := r.toNat) (by omega) ?_⟩
  rw [List.getElem?_map, List.getElem?_eq_getElem hr]
  rfl
theorem atI_strs {zs : List Str} {r : Int} (h0 : 0 ≤ r) (h : r < zs.length) : ∃ z ∈ zs, atI (zs.map V.str) r = some (.str z) := by
  have hr : r.toNat < zs.length := by omega
  refine ⟨zs[r.toNat], List.getElem_mem hr, at_of (j := r.toNat) (by omega) ?_⟩
  rw [List.getElem?_map, List.getElem?_eq_getElem hr]
  rfl
theorem letters_eq : ("abcdefghijklmnopqrstuvwxyz" : Str).cps.toList = List.range' 97 26 := by decide +kernel
theorem letter_at {r : Int} (h0 : 0 ≤ r) (h : r < 26) : atI ("abcdefghijklmnopqrstuvwxyz" : Str).cps.toList r = some (97 + r.toNat) := by
  rw [letters_eq]
  refine at_of' (j := r.toNat) (by omega) ?_
  rw [List.getElem?_range' (by omega)]
  congr 1
  omega
where
  at_of' {xs : List Nat} {z : Int} {j : Nat} {v : Nat} (e : z = (j : Int)) (h : xs[j]? = some v) : atI xs z = some v := by
    rw [e]
    exact atI_nat h
def sign (c : Nat) : Str := ⟨#[c]⟩
theorem joinL_flat : ∀ ps : List (List Nat), TL.joinL [] ps = ps.flatten
  | [] => rfl
  | [p] => by simp [TL.joinL]
  | p :: q :: r => by
    show p ++ ([] ++ TL.joinL [] (q :: r)) = _
    rw [joinL_flat (q :: r)]
    simp
theorem join_codes (ys : List Str) : (Txt.join ("" : Str) ys).cps.toList = (ys.map fun y => y.cps.toList).flatten := by
  have h := TL.tl_join ("" : Str) ys
  rw [show TL.tl ("" : Str) = [] by decide +kernel, joinL_flat] at h
  rw [TL.join_eq]
  exact h
theorem join_signs (cs : List Nat) : (Txt.join ("" : Str) (cs.map sign)).cps.toList = cs := by
  rw [join_codes, List.map_map]
  induction cs with
  | nil => rfl
  | cons c r ih => exact congrArg (c :: ·) ih
theorem isWd_of {z : Str} (h1 : 1 ≤ z.cps.toList.length) (h8 : z.cps.toList.length ≤ 8) (hc : ∀ c ∈ z.cps.toList, 97 ≤ c ∧ c ≤ 122) : IsWd z := by
  unfold IsWd wdB Str.length
  rw [Array.length_toList] at h1 h8
  simp only [Bool.and_eq_true, decide_eq_true_eq, List.all_eq_true]
  exact ⟨⟨h1, h8⟩, hc⟩
theorem IsWd.len {z : Str} (h : IsWd z) : 1 ≤ z.length ∧ z.length ≤ 8 := by
  unfold IsWd wdB at h
  simp only [Bool.and_eq_true, decide_eq_true_eq] at h
  exact h.1
end Wl

namespace Wl
open PySem PySem.Spec PyProof.Rows L2

inductive Each {α β : Type} (R : α → β → Prop) : List α → List β → Prop
  | nil : Each R [] []
  | cons {a : α} {b : β} {as : List α} {bs : List β} : R a b → Each R as bs → Each R (a :: as) (b :: bs)
section
variable {α β : Type} {R S : α → β → Prop}
theorem Each.length : ∀ {as : List α} {bs : List β}, Each R as bs → as.length = bs.length
  | _, _, .nil => rfl
  | _, _, .cons _ t => congrArg (· + 1) t.length
theorem Each.mono (h : ∀ a b, R a b → S a b) : ∀ {as : List α} {bs : List β}, Each R as bs → Each S as bs
  | _, _, .nil => .nil
  | _, _, .cons r t => .cons (h _ _ r) (t.mono h)
theorem Each.append : ∀ {as : List α} {bs : List β} {cs : List α} {ds : List β}, Each R as bs → Each R cs ds → Each R (as ++ cs) (bs ++ ds)
  | _, _, _, _, .nil, s => s
  | _, _, _, _, .cons r t, s => .cons r (t.append s)
theorem Each.get : ∀ {as : List α} {bs : List β} {i : Nat} {a : α}, Each R as bs → as[i]? = some a → ∃ b, bs[i]? = some b ∧ R a b
  | _, _, _, _, .nil, e => by simp at e
  | _, _, 0, _, .cons r _, e => by simp at e; subst e; exact ⟨_, rfl, r⟩
  | _, _, i + 1, x, .cons _ t, e => by
    obtain ⟨u, h1, h2⟩ := t.get (i := i) (a := x) (by simpa using e)
    exact ⟨u, by simpa using h1, h2⟩
theorem Each.get2 : ∀ {as : List α} {bs : List β} {i : Nat} {b : β}, Each R as bs → bs[i]? = some b → ∃ a, as[i]? = some a ∧ R a b
  | _, _, _, _, .nil, e => by simp at e
  | _, _, 0, _, .cons r _, e => by simp at e; subst e; exact ⟨_, rfl, r⟩
  | _, _, i + 1, x, .cons _ t, e => by
    obtain ⟨u, h1, h2⟩ := t.get2 (i := i) (b := x) (by simpa using e)
    exact ⟨u, by simpa using h1, h2⟩
theorem Each.mem2 : ∀ {as : List α} {bs : List β} {b : β}, Each R as bs → b ∈ bs → ∃ a ∈ as, R a b
  | _, _, _, .nil, h => by simp at h
  | _, _, _, .cons r t, h => by
    rcases List.mem_cons.mp h with rfl | h
    · exact ⟨_, List.mem_cons_self, r⟩
    · obtain ⟨a, ha, hr⟩ := t.mem2 h
      exact ⟨a, List.mem_cons_of_mem _ ha, hr⟩
theorem each_fn {f : α → β} : ∀ {as : List α} {bs : List β}, Each (fun a b => b = f a) as bs → bs = as.map f
  | _, _, .nil => rfl
  | _, _, .cons r t => by rw [List.map_cons, ← each_fn t, r]
theorem each_map_l {γ : Type} {g : γ → α} : ∀ {cs : List γ} {bs : List β}, Each R (cs.map g) bs → Each (fun c b => R (g c) b) cs bs
  | [], [], _ => .nil
  | [], _ :: _, h => nomatch h
  | _ :: _, [], h => nomatch h
  | _ :: _, _ :: _, .cons r t => .cons r (each_map_l t)
theorem each_map_r {γ : Type} {g : γ → α} : ∀ {cs : List γ} {bs : List β}, Each (fun c b => R (g c) b) cs bs → Each R (cs.map g) bs
  | _, _, .nil => .nil
  | _, _, .cons r t => .cons r (each_map_r t)
end

theorem filter_take_snoc {α : Type} {p : α → Bool} {ys : List α} {i : Nat} {x : α} (h : ys[i]? = some x) : (ys.take (i + 1)).filter p = (ys.take i).filter p ++ (if p x then [x] else []) := by
  rw [List.take_add_one, h, List.filter_append]
  congr 1
  by_cases c : p x = true
  · simp [c]
  · simp [c]

section
variable {J : It} {ys : List V} {G : Hp → Prop} {slot : Nat} {tt : TT} {te : TE} {vs : List Nat} {σ : L2.St} {H1 : Hp} {D : Addr} {Qd : Hp → Prop}
/-- a comprehension [e for x in ys if t]: each e a value that R tells of, the heap only growing -/
theorem lc_rel (w : L2.Walk J ys.length G (YAt ys)) (hD : H1 D = none) (keep : V → Bool) (R : V → V → Hp → Prop)
    (hG : ∀ H, Same H1 H → G H)
    (hw : ∀ x, wipe ((wipe σ vs).set slot (some x)) vs = wipe σ vs)
    (ht : ∀ (x : V) (H : Hp), x ∈ ys → Same H1 H → ∀ Q : Bool → Hp → Prop, Q (keep x) H → tt ((wipe σ vs).set slot (some x)) H Q)
    (he : ∀ (x : V) (H : Hp), x ∈ ys → keep x = true → Same H1 H → ∀ Q : VK, (∀ y H', Same H H' → R x y H' → Q y H') → te ((wipe σ vs).set slot (some x)) H Q)
    (hR : ∀ x y H H' acc, H D = some (.lst acc) → SameX D H H' → R x y H → R x y H')
    (hn : ys.length < sizeLine)
    (hd : ∀ zs H, Same H1 H → H D = some (.lst zs) → Each (fun x z => R x z H) (ys.filter keep) zs → Qd H) :
    ∃ W : Nat → Nat → Hp → Prop, (∃ m, W 0 m (upd H1 D (.lst []))) ∧ ∀ i m H, W i m H →
      (J.stop i H ∧ Qd H) ∨ (J.go i H ∧ ∃ Nx : Hp → Prop, (∀ H', Nx H' → ∃ m', m' < m ∧ W (i + 1) m' H') ∧ ∀ x H', J.yld i H x H' → gName slot x (wipe σ vs) H' fun σ2 H2 => wipe σ2 vs = wipe σ vs ∧ tt σ2 H2 fun b H3 =>
        if b = true then te σ2 H3 fun y H4 => ∃ acc, H4 D = some (.lst acc) ∧ acc.length < sizeLine ∧ Nx (upd H4 D (.lst (acc ++ [y]))) else Nx H3) := by
  refine lc_it w (fun i H => ∃ zs, Same H1 H ∧ H D = some (.lst zs) ∧ Each (fun x z => R x z H) ((ys.take i).filter keep) zs) ⟨[], same_new hD, upd_same, by simpa using Each.nil⟩ (fun i H _ h => ?_) ?_ ?_
  · obtain ⟨zs, s, _⟩ := h
    exact hG H s
  · rintro i x H H' hi ⟨zs, s, hz, ez⟩ ⟨rfl, hx⟩
    have hm : x ∈ ys := List.mem_of_getElem? hx
    refine ⟨hw x, ht x _ hm s _ ?_⟩
    have hf := filter_take_snoc (p := keep) hx
    refine ite_b (fun e => ?_) (fun e => ?_)
    · refine he x _ hm e s _ fun y H4 s4 r4 => ⟨zs, s4 _ _ hz, ?_, zs ++ [y], same_mut (s.trans s4) hD, upd_same, ?_⟩
      · have h1 := ez.length
        have h2 : ((ys.take i).filter keep).length ≤ (ys.take i).length := List.length_filter_le _ _
        have h3 : (ys.take i).length ≤ ys.length := List.length_take_le' _ _
        omega
      · rw [hf, if_pos e]
        have hD4 : H4 D = some (.lst zs) := s4 _ _ hz
        refine Each.append (ez.mono fun a b r => ?_) (.cons ?_ .nil)
        · exact hR _ _ _ _ _ hz (fun b o n h => by rw [upd_ne n]; exact s4 _ _ h) r
        · exact hR _ _ _ _ _ hD4 sameX_upd r4
    · refine ⟨zs, s, hz, ?_⟩
      rw [hf, if_neg (by rw [e]; decide), List.append_nil]
      exact ez
  · rintro H ⟨zs, s, hz, ez⟩
    rw [List.take_length] at ez
    exact hd zs H s hz ez
/-- the same, each e a plain value, the heap as it was -/
theorem lc_map (w : L2.Walk J ys.length G (YAt ys)) (hD : H1 D = none) (keep : V → Bool) (f : V → V)
    (hG : ∀ H, Same H1 H → G H)
    (hw : ∀ x, wipe ((wipe σ vs).set slot (some x)) vs = wipe σ vs)
    (ht : ∀ (x : V) (H : Hp), x ∈ ys → Same H1 H → ∀ Q : Bool → Hp → Prop, Q (keep x) H → tt ((wipe σ vs).set slot (some x)) H Q)
    (he : ∀ (x : V) (H : Hp), x ∈ ys → keep x = true → Same H1 H → ∀ Q : VK, Q (f x) H → te ((wipe σ vs).set slot (some x)) H Q)
    (hn : ys.length < sizeLine)
    (hd : ∀ H, Same H1 H → H D = some (.lst ((ys.filter keep).map f)) → Qd H) :
    ∃ W : Nat → Nat → Hp → Prop, (∃ m, W 0 m (upd H1 D (.lst []))) ∧ ∀ i m H, W i m H →
      (J.stop i H ∧ Qd H) ∨ (J.go i H ∧ ∃ Nx : Hp → Prop, (∀ H', Nx H' → ∃ m', m' < m ∧ W (i + 1) m' H') ∧ ∀ x H', J.yld i H x H' → gName slot x (wipe σ vs) H' fun σ2 H2 => wipe σ2 vs = wipe σ vs ∧ tt σ2 H2 fun b H3 =>
        if b = true then te σ2 H3 fun y H4 => ∃ acc, H4 D = some (.lst acc) ∧ acc.length < sizeLine ∧ Nx (upd H4 D (.lst (acc ++ [y]))) else Nx H3) :=
  lc_rel w hD keep (fun x y _ => y = f x) hG hw ht (fun x H hx hk s Q q => he x H hx hk s Q (q _ H (Same.refl H) rfl)) (fun _ _ _ _ _ _ _ r => r) hn fun zs H s hz ez => hd H s (by rw [hz, each_fn ez])
end
/-- a text's signs as a list -/
def signsOf (z : Str) : List V := z.cps.toList.map fun c => .str (sign c)
theorem walk_signs {z : Str} : L2.Walk (Its z) (signsOf z).length (fun _ => True) (YAt (signsOf z)) := by
  have e : (signsOf z).length = z.cps.size := by simp [signsOf]
  rw [e]
  refine ⟨fun _ _ hi _ => hi, fun _ _ => Nat.le_refl _, ?_⟩
  rintro i H x H' _ _ ⟨rfl, c, hc, rfl⟩
  refine ⟨rfl, ?_⟩
  have : z.cps.toList[i]? = some c := by simpa using hc
  simp only [signsOf, List.getElem?_map, this]
  rfl
theorem yes_pure {σ : L2.St} {H : Hp} {Q : Bool → Hp → Prop} (h : Q true H) : tYes σ H Q := h
theorem inV_strs (z : Str) (ws : List Str) : inV (.str z) (ws.map V.str) = decide (z ∈ ws) := by
  unfold inV
  induction ws with
  | nil => rfl
  | cons x r ih =>
    rw [List.map_cons, List.any_cons, ih]
    by_cases h : x = z
    · subst h
      simp [eqV]
    · have h2 : ¬ z = x := fun e => h e.symm
      simp [eqV, h, h2]
theorem flat_strs (ws : List Str) : (ws.map V.str).all flatV = true := by
  rw [List.all_eq_true]
  intro v hv
  obtain ⟨x, _, rfl⟩ := List.mem_map.mp hv
  rfl
theorem dp_strs {K : PySem.W.Frag} {H : Hp} : ∀ ws : List Str, DpAll K H (ws.map V.str) (ws.map PyData.str)
  | [] => .nil
  | z :: r => .cons (.str z) (dp_strs r)
theorem wd_ok {z : Str} (h : IsWd z) : PyData.strOk z = true := by
  unfold PyData.strOk
  rw [← Array.all_toList, List.all_eq_true]
  intro c hc
  unfold IsWd wdB at h
  simp only [Bool.and_eq_true, decide_eq_true_eq, List.all_eq_true] at h
  have := h.2 c hc
  exact decide_eq_true (by omega)
theorem lay_strs : ∀ {ws : List Str}, (∀ z ∈ ws, IsWd z) → PyData.canLayAll0 (ws.map PyData.str) = true
  | [], _ => by simp [PyData.canLayAll0]
  | z :: r, h => by
    have h1 := wd_ok (h z List.mem_cons_self)
    have h2 := lay_strs (ws := r) fun y hy => h y (List.mem_cons_of_mem _ hy)
    simp [PyData.canLayAll0, PyData.canLay0, h1, h2]
theorem depth_strs : ∀ ws : List Str, PyData.depthAll (ws.map PyData.str) = 0
  | [] => by simp [PyData.depthAll]
  | z :: r => by simp [PyData.depthAll, PyData.depth, depth_strs r]
theorem shaped_list {ds : List PyData} (h : PyData.canLayAll0 ds = true) (d : PyData.depthAll ds ≤ 60) : SeqAt.shaped (.list ds) = true := by
  unfold SeqAt.shaped
  rw [Bool.and_eq_true]
  refine ⟨by simpa [PyData.canLay0] using h, decide_eq_true ?_⟩
  simp only [PyData.depth]
  omega
theorem shaped_tuple {ds : List PyData} (h : PyData.canLayAll0 ds = true) (d : PyData.depthAll ds ≤ 60) : SeqAt.shaped (.tuple ds) = true := by
  unfold SeqAt.shaped
  rw [Bool.and_eq_true]
  refine ⟨by simpa [PyData.canLay0] using h, decide_eq_true ?_⟩
  simp only [PyData.depth]
  omega
theorem cut_hi (z : Str) (k : Nat) : (cutS z none (some (k : Int))).cps.toList = z.cps.toList.take k := by
  show ((z.cps.toList.drop (HT.sIx z.length 0 none)).take (HT.sIx z.length z.length (some (k : Int)) - HT.sIx z.length 0 none)) = _
  rw [HT.sIx_none, HT.sIx_nat, Nat.sub_zero, List.drop_zero]
  have : z.length = z.cps.toList.length := by simp [Str.length]
  rw [this]
  by_cases h : k ≤ z.cps.toList.length
  · rw [Nat.min_eq_left h]
  · rw [Nat.min_eq_right (by omega), List.take_length, List.take_of_length_le (by omega)]
end Wl

namespace Wl
open PySem PySem.Spec PyProof.Rows L2
inductive Wh where
  | first | last | any
  deriving DecidableEq
def whS : Wh → Str
  | .first => "first"
  | .last => "last"
  | .any => "any"
abbrev Chg := Nat × Nat × Wh
def isLet (c : Nat) : Prop := 97 ≤ c ∧ c ≤ 122
instance (c : Nat) : Decidable (isLet c) := by unfold isLet; infer_instance
def OkC (ch : Chg) : Prop := isLet ch.1 ∧ isLet ch.2.1 ∧ ch.1 ≠ ch.2.1
def acts (wh : Wh) (i n : Nat) : Bool := match wh with
  | .first => decide (i = 0)
  | .last => decide (i + 1 = n)
  | .any => true
abbrev Edges := List (Nat × Nat)
def es (chs : List Chg) (i n : Nat) : Edges := (chs.filter fun ch => acts ch.2.2 i n).map fun ch => (ch.1, ch.2.1)
def nbE (c : Nat) (e : Nat × Nat) : List Nat := (if e.1 = c then [e.2] else []) ++ (if e.2 = c then [e.1] else [])
def nbrs (E : Edges) (c : Nat) : List Nat := E.flatMap (nbE c)
theorem mem_nbrs {E : Edges} {c d : Nat} : d ∈ nbrs E c ↔ (c, d) ∈ E ∨ (d, c) ∈ E := by
  unfold nbrs nbE
  rw [List.mem_flatMap]
  constructor
  · rintro ⟨⟨x, y⟩, he, h⟩
    rcases List.mem_append.mp h with k | k
    · by_cases q : x = c
      · rw [if_pos q, List.mem_singleton] at k
        rw [k, ← q]
        exact .inl he
      · rw [if_neg q] at k
        cases k
    · by_cases q : y = c
      · rw [if_pos q, List.mem_singleton] at k
        rw [k, ← q]
        exact .inr he
      · rw [if_neg q] at k
        cases k
  · rintro (h | h)
    · exact ⟨(c, d), h, List.mem_append_left _ (by simp)⟩
    · exact ⟨(d, c), h, List.mem_append_right _ (by simp)⟩
theorem nbrs_symm {E : Edges} {c d : Nat} (h : d ∈ nbrs E c) : c ∈ nbrs E d := mem_nbrs.mpr ((mem_nbrs.mp h).symm)
theorem nbrs_snoc (E : Edges) (x y c : Nat) : nbrs (E ++ [(x, y)]) c = nbrs E c ++ ((if x = c then [y] else []) ++ (if y = c then [x] else [])) := by
  unfold nbrs
  rw [List.flatMap_append]
  simp [nbE]
inductive Conn (E : Edges) : Nat → Nat → Prop
  | refl (a : Nat) : Conn E a a
  | step {a b c : Nat} : Conn E a b → c ∈ nbrs E b → Conn E a c
theorem Conn.trans {E : Edges} {a b c : Nat} (h : Conn E a b) (k : Conn E b c) : Conn E a c := by
  induction k with
  | refl => exact h
  | step _ m ih => exact .step ih m
theorem Conn.symm {E : Edges} {a b : Nat} (h : Conn E a b) : Conn E b a := by
  induction h with
  | refl => exact .refl _
  | step _ m ih => exact (Conn.step (.refl _) (nbrs_symm m)).trans ih
def OkE (E : Edges) : Prop := ∀ e ∈ E, isLet e.1 ∧ isLet e.2
theorem conn_let {E : Edges} (ok : OkE E) {a b : Nat} (h : Conn E a b) (ha : isLet a) : isLet b := by
  induction h with
  | refl => exact ha
  | step _ m _ =>
    rcases mem_nbrs.mp m with m | m
    · exact (ok _ m).2
    · exact (ok _ m).1
theorem es_ok {chs : List Chg} (h : ∀ ch ∈ chs, OkC ch) (i n : Nat) : OkE (es chs i n) := fun e he => by
  obtain ⟨ch, hc, rfl⟩ := List.mem_map.mp he
  have := h ch (List.mem_filter.mp hc).1
  exact ⟨this.1, this.2.1⟩
theorem least_of (p : Nat → Prop) : ∀ n, p n → ∃ m, p m ∧ ∀ d, p d → m ≤ d := by
  intro n
  induction n using Nat.strongRecOn with
  | _ n ih =>
    intro hn
    by_cases h : ∃ k, k < n ∧ p k
    · obtain ⟨k, hk, pk⟩ := h
      exact ih k hk pk
    · exact ⟨n, hn, fun d hd => Nat.le_of_not_lt fun q => h ⟨d, q, hd⟩⟩
noncomputable def lo (E : Edges) (c : Nat) : Nat := Classical.choose (least_of (Conn E c) c (.refl c))
theorem lo_conn (E : Edges) (c : Nat) : Conn E c (lo E c) := (Classical.choose_spec (least_of (Conn E c) c (.refl c))).1
theorem lo_le {E : Edges} {c d : Nat} (h : Conn E c d) : lo E c ≤ d := (Classical.choose_spec (least_of (Conn E c) c (.refl c))).2 d h
theorem lo_self (E : Edges) (c : Nat) : lo E c ≤ c := lo_le (.refl c)
theorem lo_eq {E : Edges} {c d : Nat} : lo E c = lo E d ↔ Conn E c d := by
  constructor
  · intro e
    have h1 := lo_conn E c
    have h2 := lo_conn E d
    rw [← e] at h2
    exact h1.trans h2.symm
  · intro h
    exact Nat.le_antisymm (lo_le (h.trans (lo_conn E d))) (lo_le (h.symm.trans (lo_conn E c)))
theorem lo_of {E : Edges} {c m : Nat} (h : Conn E c m) (k : ∀ d, Conn E c d → m ≤ d) : lo E c = m := Nat.le_antisymm (lo_le h) (k _ (lo_conn E c))
/-! ### words -/
abbrev codes (z : Str) : List Nat := z.cps.toList
def ofC (l : List Nat) : Str := ⟨l.toArray⟩
theorem codes_ofC (l : List Nat) : codes (ofC l) = l := rfl
noncomputable def mean (chs : List Chg) (z : Str) : Str := ofC ((codes z).mapIdx fun i c => lo (es chs i (codes z).length) c)
theorem mean_len (chs : List Chg) (z : Str) : (codes (mean chs z)).length = (codes z).length := by
  unfold mean
  rw [codes_ofC, List.length_mapIdx]
theorem mean_at (chs : List Chg) (z : Str) {i c : Nat} (h : (codes z)[i]? = some c) : (codes (mean chs z))[i]? = some (lo (es chs i (codes z).length) c) := by
  unfold mean
  rw [codes_ofC, List.getElem?_mapIdx, h]
  rfl
/-- they are one: as long, and at each place the letters hang together -/
def OneP (chs : List Chg) (z y : Str) : Prop := (codes z).length = (codes y).length ∧ ∀ i a b, (codes z)[i]? = some a → (codes y)[i]? = some b → Conn (es chs i (codes z).length) b a
theorem one_iff {chs : List Chg} {z y : Str} : OneP chs z y ↔ (codes z).length = (codes y).length ∧ mean chs z = mean chs y := by
  constructor
  · rintro ⟨hl, h⟩
    refine ⟨hl, str_ext ?_⟩
    refine List.ext_getElem? fun i => ?_
    by_cases hi : i < (codes z).length
    · have h1 : (codes z)[i]? = some (codes z)[i] := List.getElem?_eq_getElem hi
      have h2 : (codes y)[i]? = some ((codes y)[i]'(by omega)) := List.getElem?_eq_getElem (by omega)
      have e1 := mean_at chs z h1
      have e2 := mean_at chs y h2
      rw [e1, e2, hl]
      rw [hl] at h
      exact congrArg some (lo_eq.mpr (h i _ _ h1 h2).symm)
    · have q1 : (codes (mean chs z))[i]? = none := List.getElem?_eq_none (by rw [mean_len]; omega)
      have q2 : (codes (mean chs y))[i]? = none := List.getElem?_eq_none (by rw [mean_len]; omega)
      exact q1.trans q2.symm
  · rintro ⟨hl, e⟩
    refine ⟨hl, fun i a b ha hb => ?_⟩
    have e1 := mean_at chs z ha
    have e2 := mean_at chs y hb
    rw [e, e2, ← hl] at e1
    exact lo_eq.mp (Option.some.inj e1)
theorem mean_mean {chs : List Chg} (z : Str) : mean chs (mean chs z) = mean chs z := by
  refine str_ext (List.ext_getElem? fun i => ?_)
  have l1 := mean_len chs z
  have l2 := mean_len chs (mean chs z)
  by_cases hi : i < (codes z).length
  · have h1 : (codes z)[i]? = some (codes z)[i] := List.getElem?_eq_getElem hi
    have e1 := mean_at chs z h1
    have e2 := mean_at chs (mean chs z) e1
    rw [e2, e1, l1]
    exact congrArg some (lo_eq.mpr (lo_conn _ _).symm)
  · have q1 : (codes (mean chs (mean chs z)))[i]? = none := List.getElem?_eq_none (by rw [mean_len, mean_len]; omega)
    have q2 : (codes (mean chs z))[i]? = none := List.getElem?_eq_none (by rw [mean_len]; omega)
    exact q1.trans q2.symm
theorem one_mean (chs : List Chg) (z : Str) : OneP chs (mean chs z) z := one_iff.mpr ⟨mean_len chs z, mean_mean z⟩
theorem one_symm {chs : List Chg} {z y : Str} : OneP chs z y ↔ OneP chs y z := by
  rw [one_iff, one_iff]
  constructor <;> rintro ⟨a, b⟩ <;> exact ⟨a.symm, b.symm⟩
theorem lt_no : ∀ {l m : List Nat}, l.length = m.length → (∀ (i a b : Nat), l[i]? = some a → m[i]? = some b → a ≤ b) → ¬ m < l
  | [], [], _, _ => List.lt_irrefl _
  | a :: l, b :: m, hl, h => by
    have h0 : a ≤ b := h 0 a b rfl rfl
    have ih := lt_no (l := l) (m := m) (by simpa using hl) fun i x y hx hy => h (i + 1) x y (by simpa using hx) (by simpa using hy)
    intro q
    rcases List.cons_lt_cons_iff.mp q with q | ⟨e, q⟩
    · omega
    · exact ih q
  | [], b :: m, hl, _ => by simp at hl
  | a :: l, [], hl, _ => by simp at hl
theorem mean_le (chs : List Chg) (z : Str) : ¬ ltS z (mean chs z) := by
  refine lt_no (mean_len chs z) fun i a b ha hb => ?_
  rw [mean_at chs z hb] at ha
  cases ha
  exact lo_self _ _
theorem es_nil (i n : Nat) : es [] i n = [] := rfl
theorem conn_nil {a b : Nat} (h : Conn [] a b) : a = b := by
  induction h with
  | refl => rfl
  | step _ m _ => cases m
theorem one_plain {z y : Str} : OneP [] z y ↔ z = y := by
  constructor
  · rintro ⟨hl, h⟩
    refine str_ext (List.ext_getElem? fun i => ?_)
    by_cases hi : i < (codes z).length
    · have h1 : (codes z)[i]? = some (codes z)[i] := List.getElem?_eq_getElem hi
      have h2 : (codes y)[i]? = some ((codes y)[i]'(by omega)) := List.getElem?_eq_getElem (by omega)
      exact h1.trans ((congrArg some (conn_nil (h i _ _ h1 h2)).symm).trans h2.symm)
    · have q1 : (codes z)[i]? = none := List.getElem?_eq_none (by omega)
      have q2 : (codes y)[i]? = none := List.getElem?_eq_none (by omega)
      exact q1.trans q2.symm
  · rintro rfl
    refine ⟨rfl, fun i a b h1 h2 => ?_⟩
    rw [h1] at h2
    cases h2
    exact .refl _
theorem mean_plain (z : Str) : mean [] z = z := by
  refine str_ext (List.ext_getElem? fun i => ?_)
  have l1 := mean_len [] z
  by_cases hi : i < (codes z).length
  · have h1 : (codes z)[i]? = some (codes z)[i] := List.getElem?_eq_getElem hi
    exact (mean_at [] z h1).trans ((congrArg some (conn_nil (lo_conn _ _)).symm).trans h1.symm)
  · have q1 : (codes (mean [] z))[i]? = none := List.getElem?_eq_none (by rw [mean_len]; omega)
    have q2 : (codes z)[i]? = none := List.getElem?_eq_none (by omega)
    exact q1.trans q2.symm
theorem wd_codes {z : Str} : IsWd z ↔ (1 ≤ (codes z).length ∧ (codes z).length ≤ 8) ∧ ∀ c ∈ codes z, isLet c := by
  unfold IsWd wdB isLet Str.length codes
  rw [Array.length_toList]
  simp only [Bool.and_eq_true, decide_eq_true_eq, List.all_eq_true]
theorem mean_wd {chs : List Chg} (h : ∀ ch ∈ chs, OkC ch) {z : Str} (hz : IsWd z) : IsWd (mean chs z) := by
  obtain ⟨h1, h2⟩ := wd_codes.mp hz
  refine wd_codes.mpr ⟨by rw [mean_len]; exact h1, fun c hc => ?_⟩
  obtain ⟨i, hi, rfl⟩ := List.mem_iff_getElem.mp hc
  have hi2 : i < (codes z).length := by rw [mean_len] at hi; exact hi
  have e := mean_at chs z (List.getElem?_eq_getElem hi2)
  rw [List.getElem?_eq_getElem hi] at e
  rw [Option.some.inj e]
  exact conn_let (es_ok h _ _) (lo_conn _ _) (h2 _ (List.getElem_mem hi2))
/-! ### the walk over letters, by breadth -/
structure Bfs (E : Edges) (goal : Nat) (tw : List (Nat × Option Nat)) (at' : Nat) : Prop where
  nd : (tw.map (·.1)).Nodup
  lets : ∀ x ∈ tw.map (·.1), isLet x
  conn : ∀ x ∈ tw.map (·.1), Conn E goal x
  head : tw[0]? = some (goal, none)
  par : ∀ (i c d : Nat), tw[i]? = some (c, some d) → ∃ j o, j < i ∧ tw[j]? = some (d, o)
  non : ∀ (i c : Nat), tw[i]? = some (c, none) → i = 0
  closed : ∀ (j x : Nat) (o : Option Nat), j < at' → tw[j]? = some (x, o) → ∀ y ∈ nbrs E x, y ∈ tw.map (·.1)
theorem Bfs.start {E : Edges} {goal : Nat} (h : isLet goal) : Bfs E goal [(goal, none)] 0 := by
  refine ⟨by simp, ?_, ?_, rfl, ?_, ?_, fun j x o hj => by omega⟩
  · intro x hx
    simp at hx
    subst hx
    exact h
  · intro x hx
    simp at hx
    subst hx
    exact .refl _
  · intro i c d hi
    match i, hi with
    | 0, e => cases e
    | n + 1, e => simp at e
  · intro i c hi
    match i, hi with
    | 0, _ => rfl
    | n + 1, e => simp at e
theorem Bfs.len {E : Edges} {goal : Nat} {tw : List (Nat × Option Nat)} {a : Nat} (b : Bfs E goal tw a) : tw.length ≤ 26 := by
  have h := b.nd.length_le_of_subset (l₂ := List.range' 97 26) fun x hx => by
    have := b.lets x hx
    rw [List.mem_range'_1]
    unfold isLet at this
    omega
  simpa using h
theorem Bfs.push {E : Edges} {goal x y : Nat} {tw : List (Nat × Option Nat)} {a : Nat} {o : Option Nat} (b : Bfs E goal tw a) (hx : tw[a]? = some (x, o)) (hy : y ∈ nbrs E x) (hl : isLet y) (hn : y ∉ tw.map (·.1)) : Bfs E goal (tw ++ [(y, some x)]) a := by
  have ha : a < tw.length := (List.getElem?_eq_some_iff.mp hx).1
  have old : ∀ {i : Nat} {p : Nat × Option Nat}, tw[i]? = some p → (tw ++ [(y, some x)])[i]? = some p := fun {i p} h => by
    rw [List.getElem?_append_left (List.getElem?_eq_some_iff.mp h).1]
    exact h
  have back : ∀ {i : Nat} {p : Nat × Option Nat}, (tw ++ [(y, some x)])[i]? = some p → tw[i]? = some p ∨ (i = tw.length ∧ p = (y, some x)) := fun {i p} h => by
    by_cases q : i < tw.length
    · rw [List.getElem?_append_left q] at h
      exact .inl h
    · rw [List.getElem?_append_right (by omega)] at h
      have : i - tw.length = 0 := by
        have := (List.getElem?_eq_some_iff.mp h).1
        simp at this
        omega
      rw [this] at h
      simp at h
      exact .inr ⟨by omega, h.symm⟩
  refine ⟨?_, ?_, ?_, old b.head, ?_, ?_, ?_⟩
  · rw [List.map_append, List.nodup_append]
    refine ⟨b.nd, by simp, fun u hu v hv e => ?_⟩
    simp at hv
    subst hv e
    exact hn hu
  · intro u hu
    rw [List.map_append] at hu
    rcases List.mem_append.mp hu with hu | hu
    · exact b.lets u hu
    · simp at hu
      subst hu
      exact hl
  · intro u hu
    rw [List.map_append] at hu
    rcases List.mem_append.mp hu with hu | hu
    · exact b.conn u hu
    · simp at hu
      subst hu
      exact .step (b.conn x (List.mem_map.mpr ⟨_, List.mem_of_getElem? hx, rfl⟩)) hy
  · intro i c d hi
    rcases back hi with h | ⟨e, h⟩
    · obtain ⟨j, o', hj, h'⟩ := b.par i c d h
      exact ⟨j, o', hj, old h'⟩
    · cases h
      exact ⟨a, o, by omega, old hx⟩
  · intro i c hi
    rcases back hi with h | ⟨e, h⟩
    · exact b.non i c h
    · cases h
  · intro j u o' hj h v hv
    rcases back h with h | ⟨e, h⟩
    · rw [List.map_append]
      exact List.mem_append_left _ (b.closed j u o' hj h v hv)
    · omega
theorem Bfs.next {E : Edges} {goal x : Nat} {tw : List (Nat × Option Nat)} {a : Nat} {o : Option Nat} (b : Bfs E goal tw a) (hx : tw[a]? = some (x, o)) (h : ∀ y ∈ nbrs E x, y ∈ tw.map (·.1)) : Bfs E goal tw (a + 1) := by
  refine ⟨b.nd, b.lets, b.conn, b.head, b.par, b.non, fun j u o' hj hu => ?_⟩
  by_cases q : j < a
  · exact b.closed j u o' q hu
  · have : j = a := by omega
    subst this
    rw [hx] at hu
    cases hu
    exact h
theorem Bfs.done {E : Edges} {goal : Nat} {tw : List (Nat × Option Nat)} {a : Nat} (b : Bfs E goal tw a) (ha : tw.length ≤ a) {c : Nat} : c ∈ tw.map (·.1) ↔ Conn E goal c := by
  refine ⟨b.conn c, fun h => ?_⟩
  induction h with
  | refl => exact List.mem_map.mpr ⟨_, List.mem_of_getElem? b.head, rfl⟩
  | step _ m ih =>
    obtain ⟨⟨u, o⟩, hu, rfl⟩ := List.mem_map.mp ih
    obtain ⟨j, hj, e⟩ := List.mem_iff_getElem.mp hu
    exact b.closed j u o (by omega) (by rw [List.getElem?_eq_getElem hj, e]) _ m
end Wl

namespace Wl
open PySem PySem.Spec PyProof.Rows L2
/-! enumerate(a text) -/
def IteS (z : Str) : It where
  go := fun i _ => i < z.cps.size
  yld := fun i H v H' => ∃ T c, v = .ref T ∧ H T = none ∧ z.cps[i]? = some c ∧ H' = upd H T (.tup [.int (i : Nat), .str (sign c)])
  stop := fun i _ => z.cps.size ≤ i
theorem turn_enumS {P : Program} {w : World} {K : PySem.W.Frag} {elts : List Expr} {kk : Nat} {tpos : Pos} (z : Str) (t : Tok) (e it : Addr) :
    Turn P w K (.Tuple elts kk tpos) (IteS z) [e, it] e (fun i h => (∃ old, IsEnum h e it ((i : Nat) : Int) old) ∧ h.IsStrIter it (strIterType z) z t i ∧ e ≠ it) where
  mem := by simp
  obj := fun i h st b hb => by
    obtain ⟨⟨old, he⟩, ⟨o, ho, hc, hd⟩, _⟩ := st
    rcases (show b = e ∨ b = it by simpa using hb) with q | q
    · subst q; exact ⟨_, he, fun v q => nomatch q⟩
    · subst q; exact ⟨o, ho, fun v q => by rw [hd] at q; cases q⟩
  keep := fun i h h' st k => let ⟨⟨old, he⟩, ⟨o, ho, r⟩, hne⟩ := st; ⟨⟨old, k e (by simp) _ he⟩, ⟨o, k it (by simp) o ho, r⟩, hne⟩
  item := by
    intro X hP hw hK hc i pins s σ H E I hf st hg
    subst hP hw hK
    obtain ⟨⟨old, he⟩, hit, hne⟩ := st
    have hi : i < z.cps.size := hg
    obtain ⟨oi, hoi, _⟩ := id hit
    have hel : e < s.heap.objs.size := Heap.lt_size he
    have hil : it < s.heap.objs.size := Heap.lt_size hoi
    refine wpAny_pyNext_enum_itemD (Draws.text (prog := X.prog) (w := X.w) (A := X.A.in1) (I.ok.hd hc) it z t) he hit hi hne (by simp [hne]) fun y h' tk hy ho hst hTp hsz hk => ?_
    obtain ⟨c, tu, hcz, rfl⟩ := hy
    refine ⟨_, rfl, wpAny_letOwnedTupleGo_enum (s := { s with heap := h', toks := tk + 1 }) ho fun h'' he' sb => ?_⟩
    have hT2 : h''.get? s.heap.objs.size = some { cls := .type "tuple", data := .seq #[.int i tk, .str ⟨#[c]⟩ tu] } := (sb.2 _ (Nat.ne_of_gt hel)).trans hTp
    have new : ObjOk X.prog X.w (upd H s.heap.objs.size (.tup [.int (i : Nat), .str (sign c)])) h'' s.heap.objs.size (.tup [.int (i : Nat), .str (sign c)]) :=
      ⟨by show 2 ≤ sizeLine; decide, [.int i tk, .str ⟨#[c]⟩ tu], .cons ⟨_, rfl⟩ (.cons ⟨_, rfl⟩ .nil), ⟨_, hT2, rfl, _, rfl⟩⟩
    have I1 : L2.Inv X pins σ (upd H s.heap.objs.size (.tup [.int (i : Nat), .str (sign c)])) { s with heap := h'', toks := tk + 1 } :=
      I.turnedNew (ch := [e, it]) (fun b ob hb q => by
        simp only [List.mem_cons, List.not_mem_nil, or_false, not_or] at hb
        exact (sb.2 b hb.1).trans (hk b ob hb.1 hb.2 q)) hf (Nat.le_refl _) new
    have e1 : ((i + 1 : Nat) : Int) = (i : Int) + 1 := by omega
    obtain ⟨o2, ho2, r2⟩ := hst
    refine ⟨.ref s.heap.objs.size, _, I1, rfl, ⟨_, c, rfl, I.hok.fresh (Nat.le_refl _), hcz, rfl⟩, ⟨⟨.str ⟨#[c]⟩ tu, by rw [e1]; exact he'⟩, ⟨o2, (sb.2 it (Ne.symm hne)).trans ho2, r2⟩, hne⟩, fun b hb => ?_⟩
    have hb' : b < s.heap.objs.size := by
      rcases (show b = e ∨ b = it by simpa using hb) with q | q <;> subst q <;> assumption
    rw [upd_ne (Nat.ne_of_lt hb')]
    exact (hf b hb).1
  done := by
    intro X hP hw hK hc i pins s σ H E I hf st hg
    subst hP hw hK
    obtain ⟨⟨old, he⟩, hit, hne⟩ := st
    have hi : z.cps.size ≤ i := hg
    obtain ⟨f0, f1, f2, f3, f4, f5⟩ := hf it (by simp)
    have hTy : s.TypeIs (.ref e) "enumerate" := ⟨_, he, rfl⟩
    show wpAny _ _ (pyNext (.ref e)) _ _ s
    unfold pyNext
    refine wpAny_bind (wpAny_attempt (wpAny_callSpecial?_slot (name := Str.ofString "__next__") hTy F.slot_enumerate_next (wpAny_call_entry F.slot_enumerate_next hTy F.entry_enumerate_next ?_ (F.args_enumerate_next_1 _))))
    show wpAny _ _ (field (.ref e) 2 >>= _) _ _ _
    refine wpAny_bind (wpAny_field he rfl (x := .ref it) rfl (wpAny_bind ?_))
    have hx : z.cps[i]? = none := Array.getElem?_eq_none hi
    cases ha : z.cps.all (· < 128)
    · simp only [strIterType, ha, Bool.false_eq_true, if_false] at hit
      refine wpAny_nextOf_wide_end (I.ok.hd hc) hit hx fun h' x he' hx' => ?_
      obtain ⟨o, ho, hcc⟩ := hx'
      exact wpAny_bind (wpAny_isInstance (T := "StopIteration") (b := true) ⟨o, ho, hcc⟩ isSubtype_stop (wpAny_pure ⟨rfl, I.turned (t' := s.toks) (fun b o hb q => he' b o hb q) f0 f1 f3 f4 f5⟩))
    · simp only [strIterType, ha, if_true] at hit
      refine wpAny_nextOf_ascii_end (I.ok.hd hc) hit hx fun h' x he' hx' => ?_
      obtain ⟨o, ho, hcc⟩ := hx'
      exact wpAny_bind (wpAny_isInstance (T := "StopIteration") (b := true) ⟨o, ho, hcc⟩ isSubtype_stop (wpAny_pure ⟨rfl, I.turned (t' := s.toks) (fun b o hb q => he' b o hb q) f0 f1 f3 f4 f5⟩))
  self := fun A i s Q E st h => let ⟨⟨_, he⟩, _⟩ := st; wpAny_pyIter_enum he h
def iEnumS (ta : TA) : TI := fun σ H R => ta σ H fun vs H1 => ∃ z, vs = [.str z] ∧ R (IteS z) H1
theorem pi_enumS {X : Cx} {e : Expr} {ta : TA} {p pos tpos : Pos} {elts : List Expr} {kk : Nat} (hg : Gl X "enumerate") (hm : X.mg "enumerate" = none) (ha : PA X [e] ta) (hs : starEach [e] X.env = [(false, eval e X.env)] := by rfl) :
    PI X (.Tuple elts kk tpos) (.Call (.Name "enumerate" p) [e] [] pos) (iEnumS ta) := by
  refine ⟨fun pins s σ H R I h => ?_⟩
  refine Call_ (ld_blt I hg hm boot_enumerate (PyProof.Rows.callWith_type1 (thn (ha.run pos pins s σ H _ I h) fun us s1 ⟨vs, H1, I1, r1, q1⟩ => ?_) hs rfl))
  obtain ⟨z, rfl, q⟩ := q1
  obtain ⟨u, rfl, ru⟩ := vals1 r1
  obtain ⟨t, rfl⟩ := ru
  refine call_enumerate_str fun h' he hit hsz hk => wpAny_pyIter_enum he ?_
  refine ⟨s1.heap.objs.size + 1, [s1.heap.objs.size + 1, s1.heap.objs.size], _, _, H1, rfl, I1.kept (t' := s1.toks) hk, turn_enumS z t (s1.heap.objs.size + 1) s1.heap.objs.size, ⟨⟨.none, he⟩, hit, Nat.succ_ne_self _⟩, fun b hb => ?_, q⟩
  have hle : s1.heap.objs.size ≤ b := by
    rcases (show b = s1.heap.objs.size + 1 ∨ b = s1.heap.objs.size by simpa using hb) with q | q <;> rw [q]
    · exact Nat.le_add_right _ _
    · exact Nat.le_refl _
  exact I1.fpOk hle (I1.hok.fresh hle)
theorem walk_enumS {z : Str} : L2.Walk (IteS z) (codes z).length (fun _ => True) (fun i H v H' => ∃ T c, v = .ref T ∧ H T = none ∧ (codes z)[i]? = some c ∧ H' = upd H T (.tup [.int (i : Nat), .str (sign c)])) := by
  have e : (codes z).length = z.cps.size := by simp [codes]
  rw [e]
  refine ⟨fun _ _ hi _ => hi, fun _ _ => Nat.le_refl _, ?_⟩
  rintro i H v H' _ _ ⟨T, c, h1, h2, h3, h4⟩
  exact ⟨T, c, h1, h2, by simpa [codes] using h3, h4⟩
/-! f(k = v, ..) with no place -/
theorem pe_callN0 {X : Cx} {CX : CXT} {k : Nat} {f : Addr} {fd : FuncData} {ps ks : List Str} {sp : Sp} {E : XK} {x : Str} {p pos : Pos} {kws : List Keyword} {tk : TA} {g : List Value → List Value → List Value} {gV : List V → List V → List V}
    (F : FnOk X.prog X.w X.K X.mg X.base CX k f fd ps sp) (hr : Room k X.A) (hg : Gl X x) (hm : X.mg x = some (.ref f)) (hk : PySem.W.keepIn X.K (.ref f) = true) (hb : KBn X.K fd ps 0 ks g gV) (hx : Passes CX X E) (hkw : PK X kws tk)
    (hall : (backToKw pos (keywordEach kws X.env)).all (·.1.isSome) = true := by rfl) (hks : (backToKw pos (keywordEach kws X.env)).filterMap (·.1) = ks := by rfl) (hdb : (x == ("__debug__" : Str)) = false := by decide)
    (hpl : ((backTo pos (starEach [] X.env)).any (·.1) || (backToKw pos (keywordEach kws X.env)).any (·.1.isNone)) = false := by rfl) :
    PE X (.Call (.Name x p) [] kws pos) (L2.tCallN 0 ks.length sp gV E tNil tk) := by
  refine ⟨fun pins s σ H Q I h => ?_⟩
  refine wpAny_Call_Name_kw (ld_glob I hg hm ?_ hdb)
  refine PySem.W.callWith_KW0 (h₀ := X.base) I.ok.mod.kin hk hall ?_ hpl
  refine thn (hkw.run pos pins s σ H _ I h) fun ws s2 ⟨zs, H2, I2, rz, l1, l2, q2⟩ => ⟨I2.kIn, ?_⟩
  rw [hks]
  exact run_fnN (us := []) (vs := []) F hr hb hx I2 .nil rz rfl l2 q2
/-! min of a list of signs -/
def sgV (c : Nat) : V := .str (sign c)
def rMinL (K : PySem.W.Frag) : List V → Hp → VK → Prop := fun vs H Q => ∃ (a : Addr) (cs : List Nat), vs = [V.ref a] ∧ SqL K H a (cs.map sgV) ∧ cs ≠ [] ∧ cs.length ≤ 1000 ∧ ∀ m ∈ cs, (∀ c ∈ cs, m ≤ c) → Q (sgV m) H
theorem dp_signs {K : PySem.W.Frag} {H : Hp} : ∀ cs : List Nat, DpAll K H (cs.map sgV) (cs.map fun c => PyData.str (sign c))
  | [] => .nil
  | c :: r => .cons (.str _) (dp_signs r)
theorem sign_lt (a b : Nat) : ((sign a).cps.toList < (sign b).cps.toList) ↔ a < b := by
  show ([a] < [b]) ↔ _
  constructor
  · intro h
    rcases List.cons_lt_cons_iff.mp h with h | ⟨_, h⟩
    · exact h
    · exact absurd h (List.lt_irrefl _)
  · intro h
    exact List.cons_lt_cons_iff.mpr (.inl h)
theorem minD_signs : ∀ (c : Nat) (cs : List Nat), ∃ m, m ∈ c :: cs ∧ (∀ d ∈ c :: cs, m ≤ d) ∧ PySem.W.minD (.str (sign c)) (cs.map fun c => PyData.str (sign c)) = .str (sign m)
  | c, [] => ⟨c, List.mem_cons_self, fun d hd => by simp at hd; omega, rfl⟩
  | c, d :: r => by
    by_cases h : d < c
    · obtain ⟨m, h1, h2, h3⟩ := minD_signs d r
      refine ⟨m, List.mem_cons_of_mem _ h1, fun x hx => ?_, ?_⟩
      · rcases List.mem_cons.mp hx with rfl | hx
        · have := h2 d List.mem_cons_self
          omega
        · exact h2 x hx
      · rw [← h3]
        unfold PySem.W.minD
        rw [List.map_cons, List.foldl_cons, PySem.W.dataLt_str, decide_eq_true ((sign_lt d c).mpr h)]
        rfl
    · obtain ⟨m, h1, h2, h3⟩ := minD_signs c r
      refine ⟨m, ?_, fun x hx => ?_, ?_⟩
      · rcases List.mem_cons.mp h1 with rfl | h1
        · exact List.mem_cons_self
        · exact List.mem_cons_of_mem _ (List.mem_cons_of_mem _ h1)
      · rcases List.mem_cons.mp hx with rfl | hx
        · exact h2 x List.mem_cons_self
        · rcases List.mem_cons.mp hx with rfl | hx
          · have := h2 c List.mem_cons_self
            omega
          · exact h2 x (List.mem_cons_of_mem _ hx)
      · rw [← h3]
        unfold PySem.W.minD
        rw [List.map_cons, List.foldl_cons, PySem.W.dataLt_str, decide_eq_false (fun q => h ((sign_lt d c).mp q))]
        rfl
theorem cr_minL {X : Cx} (hc : X.calm = true) (hu : X.A.units + 64 < cLine) : CallR X (.builtin "min") (rMinL X.K) := by
  intro pins s σ H vs us Q I r h
  obtain ⟨a, cs, rfl, hs, hne, hlen, q⟩ := h
  obtain ⟨its, rv, hl, hn⟩ := I.list hs
  obtain ⟨u, rfl, ru⟩ := vals1 r
  obtain rfl : u = Value.ref a := ru
  obtain ⟨as, hr⟩ := Dp.readsAll I _ _ its (dp_signs cs) rv
  cases cs with
  | nil => exact absurd rfl hne
  | cons c cs =>
    have al : PySem.W.AlikeAll (((c :: cs)).map fun c => PyData.str (sign c)) := by
      refine ⟨fun x hx y hy => ?_, fun x hx => ?_⟩
      · obtain ⟨i, _, rfl⟩ := List.mem_map.mp hx
        obtain ⟨j, _, rfl⟩ := List.mem_map.mp hy
        rfl
      · obtain ⟨i, _, rfl⟩ := List.mem_map.mp hx
        exact fun q => by cases q
    have dp : ∀ l : List Nat, PyData.depthAll (l.map fun c => PyData.str (sign c)) = 0 := fun l => by
      induction l with
      | nil => rfl
      | cons x r ih => simp [PyData.depthAll, PyData.depth, ih]
    refine PySem.W.min_list_data (x := .str (sign c)) (xs := cs.map fun c => PyData.str (sign c)) (I.ok.hd hc) hl.isList (by simpa using hr) al (by
      have := dp (c :: cs)
      rw [List.map_cons] at this
      omega) fun i v h' tk bs hv hR hk => ?_
    obtain ⟨m, h1, h2, h3⟩ := minD_signs c cs
    rw [h3] at hR
    cases hR with
    | str z t => exact ⟨.str _, H, I.kept (t' := tk) hk, ⟨_, rfl⟩, q m h1 h2⟩
/-! 'a' * 8 -/
def rMulA : R2 := fun x y H Q => x = .str "a" ∧ y = .int 8 ∧ Q (.str "aaaaaaaa") H
theorem op_mulA {X : Cx} : OpR X (binaryOp .Mult) rMulA := by
  intro pins s σ H x y v u Q I rx ry h
  obtain ⟨rfl, rfl, q⟩ := h
  obtain ⟨t, rfl⟩ := rx
  obtain ⟨t', rfl⟩ := ry
  refine P.mul_str (by decide) (fun _ _ => by decide +kernel) (fun _ _ => by decide +kernel) ?_
  have e1 : ((8 : Int) == 1 || ("a" : Str).length == 0) = false := by decide +kernel
  rw [if_neg (by decide), e1]
  have e2 : (⟨(List.replicate (8 : Int).toNat ("a" : Str).cps).foldl (· ++ ·) #[]⟩ : Str) = "aaaaaaaa" := by decide +kernel
  show Made.post (Made.str (⟨(List.replicate (8 : Int).toNat ("a" : Str).cps).foldl (· ++ ·) #[]⟩ : Str)) _ _
  rw [e2]
  exact ⟨by decide +kernel, .str _, H, I.tok _, ⟨_, rfl⟩, q⟩
end Wl

/-! sorted of a list of texts, as a reading; the least of sorted letters stands first. -/
namespace Wl
open PySem PySem.Spec PyProof.Rows L2
def dz (z : Str) : V × PyData := (.str z, .str z)
theorem srt_strs (xs : List Str) : ((xs.map dz).mergeSort (PySem.W.dataLe false (·.2))).map (·.1) = (sortS xs).map V.str := by
  have h : (sortS xs).map dz = (xs.map dz).mergeSort (PySem.W.dataLe false (·.2)) := List.map_mergeSort fun a _ b _ => by
    rw [PySem.W.dataLe_eq]
    exact (le_data_str a b).symm
  rw [← h, List.map_map]
  rfl
theorem srt_reads {K : PySem.W.Frag} {H : Hp} {Q : VK} {a : Addr} {xs : List Str} (h : SqL K H a (xs.map V.str)) (q : ∀ p, H p = none → Q (.ref p) (upd H p (.lst ((sortS xs).map V.str)))) : rSortD K [.ref a] H Q := by
  refine ⟨a, xs.map dz, rfl, ?_, ?_, ?_, ?_, ?_, fun p hp => ?_⟩
  · rw [List.map_map]
    exact h
  · intro b hb
    obtain ⟨x, _, rfl⟩ := List.mem_map.mp hb
    exact .str x
  · intro d hd e he
    obtain ⟨b, hb, rfl⟩ := List.mem_map.mp hd
    obtain ⟨x, _, rfl⟩ := List.mem_map.mp hb
    obtain ⟨c, hc, rfl⟩ := List.mem_map.mp he
    obtain ⟨y, _, rfl⟩ := List.mem_map.mp hc
    rfl
  · refine .inr fun d hd => ?_
    obtain ⟨b, hb, rfl⟩ := List.mem_map.mp hd
    obtain ⟨x, _, rfl⟩ := List.mem_map.mp hb
    exact ⟨(fun e => by cases e), (fun ys e => by cases e)⟩
  · intro b hb
    obtain ⟨x, _, rfl⟩ := List.mem_map.mp hb
    show PyData.depth (.str x) ≤ 8
    simp [PyData.depth]
  · rw [srt_strs]
    exact q p hp
theorem ltS_sign {c d : Nat} : ltS (sign c) (sign d) ↔ c < d := by
  show [c] < [d] ↔ c < d
  constructor
  · intro h
    cases h with
    | rel h => exact h
    | cons h => cases h
  · exact fun h => .rel h
theorem sg_inj1 {c d : Nat} (h : sign c = sign d) : c = d := by
  have e := congrArg (fun z : Str => z.cps.toList) h
  simpa [sign] using e
theorem head_sortS {cs : List Nat} {m : Nat} (hm : m ∈ cs) (hmin : ∀ d ∈ cs, m ≤ d) : (sortS (cs.map sign))[0]? = some (sign m) := by
  have h1 : (sortS (cs.map sign)).Pairwise (fun a b => leB a b = true) := List.pairwise_mergeSort leB_trans leB_total _
  have h2 : sign m ∈ sortS (cs.map sign) := mem_sortS.mpr (List.mem_map.mpr ⟨m, hm, rfl⟩)
  have h3 : ∀ x ∈ sortS (cs.map sign), ∃ c ∈ cs, sign c = x := fun x hx => List.mem_map.mp (mem_sortS.mp hx)
  cases e : sortS (cs.map sign) with
  | nil =>
    rw [e] at h2
    cases h2
  | cons x r =>
    rw [e] at h1 h2 h3
    obtain ⟨c, hc, rfl⟩ := h3 x List.mem_cons_self
    have e2 : c = m := by
      rcases List.mem_cons.mp h2 with h | h
      · exact (sg_inj1 h).symm
      · have q := (List.pairwise_cons.mp h1).1 _ h
        unfold leB at q
        rw [Bool.not_eq_true', decide_eq_false_iff_not, ltS_sign] at q
        have := hmin c hc
        omega
    rw [e2]
    rfl
end Wl

namespace Wl
open PySem PySem.Spec PyProof.Rows L2
def topS (i : Nat) : Stmt := PySem.Challenge.pw_wordlines_k37_habits_refused.main.body.getD i (.Pass ⟨0, 0, 0, 0⟩)
end Wl
namespace Wl
open PySem PySem.Spec PyProof.Rows L2
end Wl
namespace Wl
open PySem PySem.Spec PyProof.Rows L2
end Wl
namespace Wl
open PySem PySem.Spec PyProof.Rows L2
abbrev wIsWord : Stmt := topS 31
abbrev wCheck : Stmt := topS 32
abbrev wIsLetter : Stmt := topS 33
abbrev wIsChange : Stmt := topS 34
abbrev wTupTo : Stmt := topS 35
abbrev wChecked : Stmt := topS 36
abbrev wReaches : Stmt := topS 37
abbrev wTurned : Stmt := topS 38
/-! y = {k: v for x in ..} -/
theorem ps_setDc {X : Cx} {i : Nat} {y : Str} {py : Pos} {kx vx tg iter : Expr} {ifs : List Expr} {scope : Scope} {own : List (Str × Nat)} {pos spos : Pos} {wi : TI} {g : TG} {tt : TT} {tk tv : TE} (hc : X.calm = true) (hN : X.N.Nodup) (hy : X.N[i]? = some y) (hyl : X.env.scope.names.lookup y = some .local)
    (hsw : swapsWith (.DictComp kx vx [⟨tg, iter, ifs, 0⟩] scope pos) (some (.Name y py)) spos.line X.env = pure true) (hi : PI X tg iter wi) (ok : BlkOk X.N X.env.scope scope own)
    (hg : ∀ (s : Shared) (H : Hp) (C : Addr) (cl : List (Str × Addr)) (fp : List Addr), PG (X.blk s H scope (compEnvC scope cl C X.env) fp) tg g) (ht : ∀ (s : Shared) (H : Hp) (C : Addr) (cl : List (Str × Addr)) (fp : List Addr), PTs (X.blk s H scope (compEnvC scope cl C X.env) fp) ifs tt)
    (hk : ∀ (s : Shared) (H : Hp) (C : Addr) (cl : List (Str × Addr)) (fp : List Addr), PE (X.blk s H scope (compEnvC scope cl C X.env) fp) kx tk) (he : ∀ (s : Shared) (H : Hp) (C : Addr) (cl : List (Str × Addr)) (fp : List Addr), PE (X.blk s H scope (compEnvC scope cl C X.env) fp) vx tv)
    (hs : ∀ x, foldedSetIterable iter X.env x = pure x := by intro _; rfl) :
    PS X (.Assign [.Name y py] (.DictComp kx vx [⟨tg, iter, ifs, 0⟩] scope pos) spos) (tAsg (tDc wi g tt tk tv (own.map (·.2))) (gName i)) := by
  constructor
  intro pins s σ H D I h
  rw [exec_Assign_Name_used _ _ _ _ hsw]
  refine wpAny_bind (wpAny_standAt (wpAny_bind ?_))
  show wpAny _ X.A (do let _ ← comprehension (.DictComp kx vx [⟨tg, iter, ifs, 0⟩] scope pos) scope X.env (firstIterPos [⟨tg, iter, ifs, 0⟩] pos) newDict false (eval iter X.env) (some (assign (.Name y py) X.env))) _ _ s
  have h2 : tDc wi g tt tk tv (own.map (·.2)) σ H (fun x H1 => gName i x σ H1 D.nx) := h
  refine wpAny_bind (thn (dc_core (Qf := fun _ s' => SP X pins D .next s') hc hN I hi ok hg ht hk he hs h2 fun L C s' m H' I' q hn f => ?_) fun _ s' hq => wpAny_pure (wpAny_pure hq))
  show wpAny _ _ (assign (.Name y py) X.env (.ref L)) _ _ _
  obtain ⟨f0, f1, f2, f3, f4, f5⟩ := f
  refine wpAny_assign_Name (store_ok2 (v := V.ref L) I' hN hy (.inl hyl) rfl (fun s2 I2 ⟨a, sb, ha⟩ => ?_) (.inr hyl))
  have haC : C ≠ a := ha.elim (fun z => z ▸ f1) (fun z e => f4 y a z e.symm)
  exact ⟨m, hn.sameBut sb haC, fun h3 sb3 => ⟨_, H', I2.turned (t' := s2.toks) (fun b o hb e => (sb3.2 b hb).trans e) f0 f1 f3 f4 f5, q⟩⟩
theorem sw_dict {kx vx : Expr} {gs : List Comprehension} {scope : Scope} {pos py : Pos} {y : Str} {l : Nat} {env : Env} (hk : env.scope.kind = .function) (hy : env.scope.names.lookup y = some .local) (hl : (py.line == pos.line) = true)
    (ha : (scope.names.any fun (n, k) => n == y && (k == .local || k == .cell)) = false) : swapsWith (.DictComp kx vx gs scope pos) (some (.Name y py)) l env = pure true := by
  have ky : env.kindOf y = some .local := hy
  have hb : env.blockKind = .function := by
    show env.blockKind = _
    unfold Env.blockKind
    rw [hk]
    rfl
  show (do return env.blockKind == .function && env.kindOf y == some .local && py.line == pos.line && !(scope.names.any fun (n, k) => n == y && (k == .local || k == .cell)) : Sem Bool) = _
  rw [hb, ky, ha, hl]
  rfl

structure Bw (mg : Str → Option Value) : Prop where
  bool : mg "bool" = none
structure Gw (K : PySem.W.Frag) (mg : Str → Option Value) : Prop where
  letters : ∃ t, mg "LETTERS" = some (.str "abcdefghijklmnopqrstuvwxyz" t)
  longest : ∃ t, mg "LONGEST_WORD" = some (.int 8 t)
  mostch : ∃ t, mg "MOST_CHANGES" = some (.int 12 t)
  wheres : ∃ a, mg "WHERES" = some (.ref a) ∧ ∀ H, SqT K H a [.str "first", .str "last", .str "any"]
def letB (c : Nat) : Bool := decide (97 ≤ c) && decide (c ≤ 122)
def letV : V → V
  | .str s => .bl (s.cps.toList.all letB)
  | v => v
theorem letB_mem (c : Nat) : decide (c ∈ ("abcdefghijklmnopqrstuvwxyz" : Str).cps.toList) = letB c := by
  rw [letters_eq]
  unfold letB
  by_cases h : c ∈ List.range' 97 26
  · rw [decide_eq_true h]
    rw [List.mem_range'_1] at h
    simp
    omega
  · rw [decide_eq_false h]
    rw [List.mem_range'_1] at h
    symm
    rw [Bool.and_eq_false_iff, decide_eq_false_iff_not, decide_eq_false_iff_not]
    omega
/-- whether a thing of any kind is a word -/
def Wv (K : PySem.W.Frag) (H : Hp) (v : V) (b : Bool) : Prop := (∃ z, v = .str z ∧ z.length ≤ 1000 ∧ b = wdB z) ∨ (∃ t, TyX K H v t ∧ PySem.W.kitOne K t (.type "str") = some false ∧ b = false)
section
variable {P : Program} {w : World} {K : PySem.W.Frag} {mg : Str → Option Value} {base : Heap} {f : Addr} {fd : FuncData}
def spIsW (K : PySem.W.Frag) : Sp := fun vs H Q _ => ∃ (v : V) (b : Bool), vs = [v] ∧ Wv K H v b ∧ ∀ (H' : Hp), Same H H' → Q (.bl b) H'
abbrev nIsWord : List Str := ["thing", "letter"]
theorem scIsW : FnScope nIsWord ["thing"] (defScope wIsWord) := ⟨rfl, rfl, rfl, by decide +kernel, rfl, by decide +kernel, by decide +kernel⟩
theorem ok_isw (F : Fun K "is_word" "is_word" wIsWord f fd) (B : Bi mg) (G : Gw K mg) : FnOk P w K mg base CX0 1 f fd ["thing"] (spIsW K) := by
  obtain ⟨t1, g1⟩ := G.letters
  obtain ⟨t2, g2⟩ := G.longest
  refine F.ok scIsW (fun vs H Q E h => ?_) (fun cdv A outer s H vs Q E hr h => ?_)
  · obtain ⟨v, b, rfl, _⟩ := h
    rfl
  · obtain ⟨v, b, rfl, hw, q⟩ := h
    refine ⟨_, pss_cons (ps_if (PW.pt (pw_or (pt_not (pt_val (pe_callB call_isi (by rfl) B.isi (by decide +kernel) (pa_cons (pv 0) (pa_cons (pe_bltn (v := .ty "str") (by rfl) B.str (by decide +kernel) rfl) pa_nil)))))
        (pw_or1 (pt_not (pt_chain op_le op_le pe_int (pe_callB call_len_str (by rfl) B.len PySem.boot_len (pa_cons (pv 0) pa_nil)) (pe_glob (v := .int 8) rfl g2 ⟨_, rfl⟩)))))) (pss_one (ps_ret pe_bl)) pss_nil)
      (pss_one (ps_ret (pe_callB (cr_all rfl) (by rfl) B.all (by decide +kernel) (pa_cons (pe_lc (own := [("letter", 1)]) (g := gName 1) (tt := tYes) rfl scIsW.nd (pi_str (pv 0)) (blkOk_by (N := nIsWord) (sc := defScope wIsWord) (by decide +kernel))
        (fun _ _ _ _ _ => pg_name (i := 1) scIsW.nd rfl (.inl rfl)) (fun _ _ _ _ _ => pts_nil) (fun _ _ _ _ _ => pe_cmpR op_in_sign (pv 1) (pe_glob (v := .str "abcdefghijklmnopqrstuvwxyz") rfl g1 ⟨_, rfl⟩) rfl)) pa_nil)))), ?_⟩
    rcases hw with ⟨z, rfl, hz, rfl⟩ | ⟨t, ty, hk, rfl⟩
    · refine ⟨_, rfl, _, _, _, _, _, rfl, .ty "str", .base (.str z), kit_ty (r := true) (by decide +kernel), true, rfl, ?_⟩
      refine iteF ⟨_, rfl, _, rfl, lzl hz, _, _, rfl, rfl, _, rfl, ite_b (fun e1 => ?_) (fun e1 => ?_)⟩
      · refine ⟨_, _, rfl, rfl, _, rfl, not_b (fun e2 => ?_) (fun e2 => ?_)⟩
        · have e2' : ¬ ((z.length : Int) ≤ 8) := of_decide_eq_false e2
          have : wdB z = false := by
            unfold wdB
            rw [decide_eq_false (show ¬ z.length ≤ 8 by omega)]
            simp
          rw [← this]
          exact q H (Same.refl H)
        · have h1 : 1 ≤ z.length := by
            have := of_decide_eq_true e1
            omega
          have h8 : z.length ≤ 8 := by
            have := of_decide_eq_true e2
            omega
          refine ⟨_, rfl, _, rfl, fun D hD => lc_map walk_signs hD (fun _ => true) letV (fun _ _ => trivial) (fun _ => rfl) (fun x H' _ _ Q' q' => q') ?_ ?_ ?_⟩
          · intro x H' hx _ _ Q' q'
            obtain ⟨c, hc, rfl⟩ := List.mem_map.mp hx
            refine ⟨_, rfl, c, _, rfl, rfl, ?_⟩
            rw [letB_mem]
            have : letV (.str (sign c)) = .bl (letB c) := by
              show V.bl ([c].all letB) = _
              simp
            rw [this] at q'
            exact q'
          · unfold signsOf
            rw [List.length_map, Array.length_toList]
            exact small1000 (by have : z.length = z.cps.size := rfl; omega)
          · intro H' s' hD'
            have e0 : ((signsOf z).filter fun _ => true).map letV = (z.cps.toList.map letB).map V.bl := by
              rw [List.filter_eq_self.mpr fun _ _ => rfl]
              unfold signsOf
              rw [List.map_map, List.map_map]
              refine List.map_congr_left fun c _ => ?_
              show V.bl ([c].all letB) = _
              simp
            refine ⟨D, z.cps.toList.map letB, rfl, .inl (.inl (by rw [hD', e0])), ?_⟩
            have : (z.cps.toList.map letB).all id = wdB z := by
              unfold wdB
              rw [decide_eq_true h1, decide_eq_true h8, List.all_map]
              rfl
            rw [this]
            exact q H' s'
      · refine ⟨false, rfl, iteT ?_⟩
        have : wdB z = false := by
          have e1' : ¬ ((1 : Int) ≤ z.length) := of_decide_eq_false e1
          unfold wdB
          rw [decide_eq_false (show ¬ 1 ≤ z.length by omega)]
          simp
        rw [← this]
        exact q H (Same.refl H)
    · exact ⟨_, rfl, _, _, _, _, _, rfl, .ty "str", ty, hk, false, rfl, iteT (q H (Same.refl H))⟩
theorem wv_wd {K : PySem.W.Frag} {H : Hp} {z : Str} (h : IsWd z) : Wv K H (.str z) true := .inl ⟨z, rfl, by have := h.len; omega, (show wdB z = true from h).symm⟩
theorem sign_wd {c : Nat} (h : isLet c) : IsWd (sign c) := wd_codes.mpr ⟨⟨Nat.le_refl 1, Nat.le_of_ble_eq_true rfl⟩, fun d hd => by
  have : d = c := by simpa [codes, sign] using hd
  rw [this]
  exact h⟩
/-! ### check_word, is_letter -/
def spCheckW : Sp := fun vs H Q _ => ∃ (z : Str), vs = [.str z] ∧ IsWd z ∧ ∀ (H' : Hp), Same H H' → Q .non H'
theorem scCheckW : FnScope ["word"] ["word"] (defScope wCheck) := ⟨rfl, rfl, rfl, by decide +kernel, rfl, by decide +kernel, by decide +kernel⟩
theorem ok_checkw (F : Fun K "check_word" "check_word" wCheck f fd) (hI : Has P w K mg base "is_word" 1 ["thing"] (spIsW K)) : FnOk P w K mg base CX0 2 f fd ["word"] spCheckW := by
  refine F.ok scCheckW (fun vs H Q E h => ?_) (fun cdv A outer s H vs Q E hr h => ?_)
  · obtain ⟨z, rfl, _⟩ := h
    rfl
  · obtain ⟨z, rfl, hz, q⟩ := h
    exact ⟨_, pss_one (ps_if (pt_not (pt_val (pe_h hI hr (pa_cons (pv 0) pa_nil)))) (pss_one ps_never) pss_nil), _, rfl, _, true, rfl, wv_wd hz, fun H1 s1 => ⟨_, rfl, iteF (q H1 s1)⟩⟩
def spIsLet : Sp := fun vs H Q _ => ∃ (c : Nat), vs = [sgV c] ∧ isLet c ∧ ∀ (H' : Hp), Same H H' → Q (.bl true) H'
theorem scIsLet : FnScope ["thing"] ["thing"] (defScope wIsLetter) := ⟨rfl, rfl, rfl, by decide +kernel, rfl, by decide +kernel, by decide +kernel⟩
theorem ok_islet (F : Fun K "is_letter" "is_letter" wIsLetter f fd) (B : Bi mg) (hI : Has P w K mg base "is_word" 1 ["thing"] (spIsW K)) : FnOk P w K mg base CX0 2 f fd ["thing"] spIsLet := by
  refine F.ok scIsLet (fun vs H Q E h => ?_) (fun cdv A outer s H vs Q E hr h => ?_)
  · obtain ⟨z, rfl, _⟩ := h
    rfl
  · obtain ⟨c, rfl, hc, q⟩ := h
    refine ⟨_, pss_one (ps_ret (pe_and (pe_h hI hr (pa_cons (pv 0) pa_nil)) (pe_one (pe_cmpR op_eq (pe_callB call_len_str (by rfl) B.len PySem.boot_len (pa_cons (pv 0) pa_nil)) pe_int (nomark _))))), ?_⟩
    refine ⟨_, rfl, _, true, rfl, wv_wd (sign_wd hc), fun H1 s1 => ⟨true, rfl, iteT ⟨_, rfl, _, rfl, lz, rfl, ?_⟩⟩⟩
    rw [show decide (V.int ((sign c).length : Int) = V.int 1) = true from decide_eq_true rfl]
    exact q H1 s1
/-! ### changes -/
def chV (ch : Chg) : List V := [sgV ch.1, sgV ch.2.1, .str (whS ch.2.2)]
theorem wh_dec (a b : Wh) : decide (V.str (whS a) = V.str (whS b)) = decide (a = b) := by
  cases a <;> cases b <;> decide +kernel
theorem sg_dec (a b : Nat) : decide (sgV a = sgV b) = decide (a = b) := by
  by_cases h : a = b
  · subst h
    simp
  · have : sgV a ≠ sgV b := fun e => h (by
      have e2 := congrArg (fun z : Str => z.cps.toList) (V.str.inj e)
      simpa [sign] using e2)
    rw [decide_eq_false h, decide_eq_false this]
def spIsCh : Sp := fun vs H Q _ => ∃ (p : Addr) (ch : Chg), vs = [.ref p] ∧ H p = some (.tup (chV ch)) ∧ OkC ch ∧ ∀ (H' : Hp), Same H H' → Q (.bl true) H'
abbrev nIsCh : List Str := ["thing", "one", "other", "where"]
theorem scIsCh : FnScope nIsCh ["thing"] (defScope wIsChange) := ⟨rfl, rfl, rfl, by decide +kernel, rfl, by decide +kernel, by decide +kernel⟩
theorem ok_isch (F : Fun K "is_change" "is_change" wIsChange f fd) (B : Bi mg) (G : Gw K mg) (hL : Has P w K mg base "is_letter" 2 ["thing"] spIsLet) : FnOk P w K mg base CX0 3 f fd ["thing"] spIsCh := by
  obtain ⟨wa, gw, hw⟩ := G.wheres
  refine F.ok scIsCh (fun vs H Q E h => ?_) (fun cdv A outer s H vs Q E hr h => ?_)
  · obtain ⟨p, ch, rfl, _⟩ := h
    rfl
  · obtain ⟨p, ch, rfl, hp, ok, q⟩ := h
    refine ⟨_, pss_cons (ps_if (PW.pt (pw_or (pt_not (pt_val (pe_callB call_isi (by rfl) B.isi (by decide +kernel) (pa_cons (pv 0) (pa_cons (pe_bltn (v := .ty "tuple") (by rfl) B.tuple (by decide +kernel) rfl) pa_nil)))))
        (pw_or1 (pt_cmpR op_ne (pe_callB call_len_seq (by rfl) B.len PySem.boot_len (pa_cons (pv 0) pa_nil)) pe_int (nomark _))))) (pss_one (ps_ret pe_bl)) pss_nil)
      (pss_cons (ps_asg (pv 0) (pg_tup rfl (pgs_cons (pg_name (i := 1) scIsCh.nd rfl (.inl rfl)) (pgs_cons (pg_name (i := 2) scIsCh.nd rfl (.inl rfl)) (pgs_cons (pg_name (i := 3) scIsCh.nd rfl (.inl rfl)) pgs_nil)))))
      (pss_cons (ps_if (PW.pt (pw_or (pt_not (pt_val (pe_h hL hr (pa_cons (pv 1) pa_nil)))) (pw_or (pt_not (pt_val (pe_h hL hr (pa_cons (pv 2) pa_nil)))) (pw_or1 (pt_cmpR op_eq (pv 1) (pv 2) (nomark _)))))) (pss_one (ps_ret pe_bl)) pss_nil)
      (pss_one (ps_ret (pe_and (pe_callB call_isi (by rfl) B.isi (by decide +kernel) (pa_cons (pv 3) (pa_cons (pe_bltn (v := .ty "str") (by rfl) B.str (by decide +kernel) rfl) pa_nil))) (pe_one (pe_cmpR op_in_seq (pv 3) (pe_glob (v := .ref wa) rfl gw rfl) (by rfl)))))))), ?_⟩
    refine ⟨_, rfl, _, _, _, _, _, rfl, .ty "tuple", .base (.tup hp), kit_ty (r := true) (by decide +kernel), true, rfl, ?_⟩
    refine iteF ⟨_, rfl, p, _, rfl, .inr (.inl (.inl hp)), rfl, _, rfl, ?_⟩
    refine iteNS rfl ?_
    refine ⟨_, rfl, p, _, rfl, .inl (.inl hp), rfl, _, _, rfl, _, _, rfl, _, _, rfl, rfl, ?_⟩
    refine ⟨_, rfl, ch.1, rfl, ok.1, fun H1 s1 => ⟨true, rfl, iteF ⟨_, rfl, ch.2.1, rfl, ok.2.1, fun H2 s2 => ⟨true, rfl, iteF ⟨_, rfl, _, rfl, rfl, _, rfl, ?_⟩⟩⟩⟩⟩
    rw [sg_dec, decide_eq_false ok.2.2]
    refine iteF ⟨_, rfl, _, _, _, _, _, rfl, .ty "str", .base (.str _), kit_ty (r := true) (by decide +kernel), true, rfl, iteT ⟨_, rfl, wa, _, rfl, .inr (hw H2), rfl, rfl, ?_⟩⟩
    have e : inV (.str (whS ch.2.2)) [.str "first", .str "last", .str "any"] = true := by
      generalize ch.2.2 = wh
      cases wh <;> decide +kernel
    rw [if_neg (by decide), e]
    exact q H2 (s1.trans s2)
/-- a tuple of changes -/
def ChAt (H : Hp) (S : Addr) (chs : List Chg) : Prop := ∃ as : List Addr, H S = some (.tup (as.map V.ref)) ∧ Each (fun (p : Addr) (ch : Chg) => H p = some (.tup (chV ch))) as chs
theorem ChAt.keep {H H' : Hp} {S : Addr} {chs : List Chg} (h : ChAt H S chs) (k : ∀ p xs, H p = some (.tup xs) → H' p = some (.tup xs)) : ChAt H' S chs := by
  obtain ⟨as, h1, h2⟩ := h
  exact ⟨as, k _ _ h1, h2.mono fun p ch e => k _ _ e⟩
theorem ChAt.same {H H' : Hp} {S : Addr} {chs : List Chg} (h : ChAt H S chs) (s : Same H H') : ChAt H' S chs := h.keep fun p xs e => s _ _ e
def OkCs (chs : List Chg) : Prop := chs.length ≤ 12 ∧ ∀ ch ∈ chs, OkC ch
/-- what is handed in for changes: None, or a tuple of them -/
def ChV (H : Hp) (v : V) (chs : List Chg) : Prop := (v = .non ∧ chs = []) ∨ ∃ S, v = .ref S ∧ ChAt H S chs
theorem ChV.same {H H' : Hp} {v : V} {chs : List Chg} (h : ChV H v chs) (s : Same H H') : ChV H' v chs := by
  rcases h with h | ⟨S, e, h⟩
  · exact .inl h
  · exact .inr ⟨S, e, h.same s⟩
def spChecked : Sp := fun vs H Q _ => ∃ (v : V) (chs : List Chg), vs = [v] ∧ ChV H v chs ∧ OkCs chs ∧ ∀ (S : Addr) (H' : Hp), Same H H' → ChAt H' S chs → Q (.ref S) H'
abbrev nChecked : List Str := ["changes", "place", "change"]
theorem scChecked : FnScope nChecked ["changes"] (defScope wChecked) := ⟨rfl, rfl, rfl, by decide +kernel, rfl, by decide +kernel, by decide +kernel⟩
/-! ### is_tuple_up_to -/
def spTupTo : Sp := fun vs H Q _ => ∃ (S : Addr) (xs : List V) (n : Int), vs = [.ref S, .int n] ∧ H S = some (.tup xs) ∧ Q (.bl (decide ((xs.length : Int) ≤ n))) H
theorem scTupTo : FnScope ["thing", "most"] ["thing", "most"] (defScope wTupTo) := ⟨rfl, rfl, rfl, by decide +kernel, rfl, by decide +kernel, by decide +kernel⟩
theorem ok_tupto (F : Fun K "is_tuple_up_to" "is_tuple_up_to" wTupTo f fd) (B : Bi mg) : FnOk P w K mg base CX0 1 f fd ["thing", "most"] spTupTo := by
  refine F.ok scTupTo (fun vs H Q E h => ?_) (fun cdv A outer s H vs Q E hr h => ?_)
  · obtain ⟨S, xs, n, rfl, _⟩ := h
    rfl
  · obtain ⟨S, xs, n, rfl, hS, q⟩ := h
    refine ⟨_, pss_one (ps_ret (pe_and (pe_callB call_isi (by rfl) B.isi (by decide +kernel) (pa_cons (pv 0) (pa_cons (pe_bltn (v := .ty "tuple") (by rfl) B.tuple (by decide +kernel) rfl) pa_nil))) (pe_one (pe_cmpR op_le (pe_callB call_len_seq (by rfl) B.len PySem.boot_len (pa_cons (pv 0) pa_nil)) (pv 1) (nomark _))))), ?_⟩
    exact ⟨_, rfl, _, _, _, _, _, rfl, .ty "tuple", .base (.tup hS), kit_ty (r := true) (by decide +kernel), true, rfl, iteT ⟨_, rfl, S, _, rfl, .inr (.inl (.inl hS)), _, rfl, _, _, rfl, rfl, q⟩⟩
theorem ok_checked (F : Fun K "checked_changes" "checked_changes" wChecked f fd) (B : Bi mg) (G : Gw K mg) (hTu : Has P w K mg base "is_tuple_up_to" 1 ["thing", "most"] spTupTo) (hC : Has P w K mg base "is_change" 3 ["thing"] spIsCh) : FnOk P w K mg base CX0 4 f fd ["changes"] spChecked := by
  obtain ⟨t1, g1⟩ := G.mostch
  refine F.ok scChecked (fun vs H Q E h => ?_) (fun cdv A outer s H vs Q E hr h => ?_)
  · obtain ⟨v, chs, rfl, _⟩ := h
    rfl
  · obtain ⟨v, chs, rfl, hv, ok, q⟩ := h
    refine ⟨_, pss_cons (ps_if (pt_cmp (pc_isN (pv 0))) (pss_one (ps_ret (pe_tup pa_nil))) pss_nil)
      (pss_cons (ps_if (pt_not (pt_val (pe_h hTu hr (pa_cons (pv 0) (pa_cons (pe_glob (v := .int 12) rfl g1 ⟨_, rfl⟩) pa_nil))))) (pss_one ps_never) pss_nil)
      (pss_cons (ps_for PassesOwn.never rfl (pi_enumT (by rfl) B.enum (pa_cons (pv 0) pa_nil)) (pg_tup rfl (pgs_cons (pg_name (i := 1) scChecked.nd rfl (.inl rfl)) (pgs_cons (pg_name (i := 2) scChecked.nd rfl (.inl rfl)) pgs_nil)))
        (pss_one (ps_if (pt_not (pt_val (pe_h hC hr (pa_cons (pv 2) pa_nil)))) (pss_one ps_never) pss_nil)))
      (pss_one (ps_ret (pv 0))))), ?_⟩
    rcases hv with ⟨rfl, rfl⟩ | ⟨S, rfl, as, hS, hE⟩
    · exact ⟨_, rfl, _, rfl, iteT ⟨lz, fun p hp => q p _ (same_new hp) ⟨[], upd_same, .nil⟩⟩⟩
    · refine ⟨_, rfl, _, rfl, iteF ?_⟩
      have hl : (as.map V.ref).length = chs.length := by rw [List.length_map, hE.length]
      refine ⟨_, rfl, S, _, 12, rfl, hS, _, rfl, ?_⟩
      rw [hl, decide_eq_true (by have := ok.1; omega)]
      refine iteF ⟨_, rfl, S, _, rfl, .inl (.inl hS), for_it (walk_enumT (K := K) (a := S) (xs := as.map V.ref)) (fun i σ H' => (∃ y1 y2, σ = [some (.ref S), y1, y2]) ∧ Same H H') ⟨⟨_, _, rfl⟩, Same.refl H⟩ (fun i σ H' _ h => .inl (.inl (h.2 _ _ hS))) ?_ ?_⟩
      · rintro i x σ H1 H2 hi ⟨⟨y1, y2, rfl⟩, s1⟩ ⟨T, x1, x2, rfl, hT, rfl, ex1, ex2⟩
        cases ex1
        have ex2 : (as.map V.ref)[i]? = some x2 := ex2
        rw [List.getElem?_map] at ex2
        obtain ⟨p, hp, rfl⟩ := Option.map_eq_some_iff.mp ex2
        obtain ⟨ch, hch, hH⟩ := hE.get hp
        have s2 : Same H1 (upd H1 T (.tup [.int i, .ref p])) := same_new hT
        refine ⟨T, _, rfl, .inl (.inl upd_same), rfl, _, _, rfl, _, _, rfl, rfl, ?_⟩
        exact ⟨_, rfl, p, ch, rfl, s2 _ _ (s1 _ _ hH), ok.2 ch (List.mem_of_getElem? hch), fun H3 s3 => ⟨true, rfl, iteF ⟨⟨_, _, rfl⟩, (s1.trans s2).trans s3⟩⟩⟩
      · rintro σ H1 ⟨⟨y1, y2, rfl⟩, s1⟩
        exact ⟨_, rfl, q S H1 s1 ⟨as, s1 _ _ hS, hE.mono fun p ch e => s1 _ _ e⟩⟩
/-! ### reaches -/
def spReaches : Sp := fun vs H Q _ => ∃ (wh : Wh) (i n : Nat), vs = [.str (whS wh), .int i, .int n] ∧ Q (.bl (acts wh i n)) H
theorem scReaches : FnScope ["where", "place", "length"] ["where", "place", "length"] (defScope wReaches) := ⟨rfl, rfl, rfl, by decide +kernel, rfl, by decide +kernel, by decide +kernel⟩
theorem int_dec (a b : Int) : decide (V.int a = V.int b) = decide (a = b) := by
  by_cases h : a = b
  · subst h
    simp
  · rw [decide_eq_false h, decide_eq_false fun e => h (V.int.inj e)]
theorem ok_reaches (F : Fun K "reaches" "reaches" wReaches f fd) : FnOk P w K mg base CX0 1 f fd ["where", "place", "length"] spReaches := by
  refine F.ok scReaches (fun vs H Q E h => ?_) (fun cdv A outer s H vs Q E hr h => ?_)
  · obtain ⟨wh, i, n, rfl, _⟩ := h
    rfl
  · obtain ⟨wh, i, n, rfl, q⟩ := h
    refine ⟨_, pss_cons (ps_if (pt_cmpR op_eq (pv 0) pe_str (nomark _)) (pss_one (ps_ret (pe_cmpR op_eq (pv 1) pe_int (nomark _)))) pss_nil)
      (pss_cons (ps_if (pt_cmpR op_eq (pv 0) pe_str (nomark _)) (pss_one (ps_ret (pe_cmpR op_eq (pv 1) (pe_op op_sub (pv 2) pe_int) (nomark _)))) pss_nil)
      (pss_one (ps_ret pe_bl))), ?_⟩
    have e1 : decide (V.str (whS wh) = V.str "first") = decide (wh = .first) := wh_dec wh .first
    have e2 : decide (V.str (whS wh) = V.str "last") = decide (wh = .last) := wh_dec wh .last
    refine ⟨_, rfl, rfl, _, rfl, ?_⟩
    rw [e1]
    cases wh with
    | first =>
      refine iteT ⟨_, rfl, rfl, ?_⟩
      rw [int_dec]
      have : decide ((i : Int) = 0) = acts .first i n := by
        unfold acts
        by_cases h : i = 0
        · simp [h]
        · simp [h]
      rw [this]
      exact q
    | last =>
      refine iteF ⟨_, rfl, rfl, _, rfl, ?_⟩
      rw [e2]
      refine iteT ⟨_, rfl, _, rfl, _, _, rfl, rfl, rfl, ?_⟩
      rw [int_dec]
      have : decide ((i : Int) = (n : Int) - 1) = acts .last i n := by
        unfold acts
        by_cases h : i + 1 = n
        · rw [decide_eq_true h, decide_eq_true (by omega)]
        · rw [decide_eq_false h, decide_eq_false (by omega)]
      rw [this]
      exact q
    | any =>
      refine iteF ⟨_, rfl, rfl, _, rfl, ?_⟩
      rw [e2]
      exact iteF q
end
end Wl




namespace Wl
open PySem PySem.Spec PyProof.Rows L2
abbrev wSteps : Stmt := topS 39
/-! a dict comprehension over a walk -/
theorem dc_it {J : It} {n : Nat} {G : Hp → Prop} {Y : Nat → Hp → V → Hp → Prop} (w : L2.Walk J n G Y) {g : TG} {tt : TT} {tk tv : TE} {vs : List Nat} {σ : L2.St} {H1 : Hp} {D : Addr} {Qd : Hp → Prop} (Pv : Nat → Hp → Prop) (h0 : Pv 0 (upd H1 D (.dK []))) (hG : ∀ i H, i ≤ n → Pv i H → G H)
    (hs : ∀ i x H H', i < n → Pv i H → Y i H x H' → g x (wipe σ vs) H' fun σ2 H2 => wipe σ2 vs = wipe σ vs ∧ tt σ2 H2 fun b H3 =>
      if b = true then tk σ2 H3 fun y H4 => tv σ2 H4 fun z H5 => ∃ kvs k, y = kV k ∧ H5 D = some (.dK kvs) ∧ kvs.length < sizeLine ∧ Pv (i + 1) (upd H5 D (.dK (putK kvs k z))) else Pv (i + 1) H3) (hd : ∀ H, Pv n H → Qd H) :
    ∃ W : Nat → Nat → Hp → Prop, (∃ m, W 0 m (upd H1 D (.dK []))) ∧ ∀ i m H, W i m H →
      (J.stop i H ∧ Qd H) ∨ (J.go i H ∧ ∃ Nx : Hp → Prop, (∀ H', Nx H' → ∃ m', m' < m ∧ W (i + 1) m' H') ∧ ∀ x H', J.yld i H x H' → g x (wipe σ vs) H' fun σ2 H2 => wipe σ2 vs = wipe σ vs ∧ tt σ2 H2 fun b H3 =>
        if b = true then tk σ2 H3 fun y H4 => tv σ2 H4 fun z H5 => ∃ kvs k, y = kV k ∧ H5 D = some (.dK kvs) ∧ kvs.length < sizeLine ∧ Nx (upd H5 D (.dK (putK kvs k z))) else Nx H3) := by
  refine ⟨fun i m H => m = n - i ∧ i ≤ n ∧ Pv i H, ⟨n, by simp, Nat.zero_le _, h0⟩, ?_⟩
  rintro i m H ⟨rfl, hi, p⟩
  have q := hG i H hi p
  by_cases hlt : i < n
  · exact .inr ⟨w.goes i H hlt q, Pv (i + 1), fun H' p' => ⟨n - (i + 1), by omega, rfl, hlt, p'⟩, fun x H' y => hs i x H H' hlt p (w.yields i H x H' hlt q y)⟩
  · have e : i = n := by omega
    subst e
    exact .inl ⟨w.stops H q, hd H p⟩
abbrev kS (c : Nat) : Key := Sum.inr (sign c)
theorem kS_inj {a b : Nat} (h : kS a = kS b) : a = b := by
  have e := congrArg (fun z : Str => z.cps.toList) (Sum.inr.inj h)
  simpa [sign] using e
def kvL (ad : Nat → V) (l : List Nat) : List (Key × V) := l.map fun c => (kS c, ad c)
theorem valV_kvL (ad : Nat → V) (c : Nat) : ∀ l : List Nat, valV (kvL ad l) (kS c) = if c ∈ l then some (ad c) else none
  | [] => rfl
  | d :: r => by
    by_cases h : d = c
    · subst h
      rw [if_pos List.mem_cons_self]
      exact valV_pos rfl
    · have h1 : valV (kvL ad (d :: r)) (kS c) = valV (kvL ad r) (kS c) := valV_neg fun e => h (kS_inj e)
      rw [h1, valV_kvL ad c r]
      have h2 : (c ∈ d :: r) = (c ∈ r) := by
        simp only [List.mem_cons, eq_iff_iff]
        constructor
        · rintro (e | e)
          · exact absurd e.symm h
          · exact e
        · exact .inr
      simp only [h2]
theorem kvL_congr {a b : Nat → V} {l : List Nat} (h : ∀ c ∈ l, a c = b c) : kvL a l = kvL b l := List.map_congr_left fun c hc => by rw [h c hc]
structure TurnI (H : Hp) (D : Addr) (ad : Nat → Addr) (E : Edges) : Prop where
  dict : H D = some (.dK (kvL (fun c => .ref (ad c)) (List.range' 97 26)))
  lst : ∀ c, isLet c → H (ad c) = some (.lst ((nbrs E c).map sgV))
  inj : ∀ c d, isLet c → isLet d → ad c = ad d → c = d
theorem let_mem {c : Nat} : isLet c ↔ c ∈ List.range' 97 26 := by
  rw [List.mem_range'_1]
  unfold isLet
  omega
def TurnAt (H : Hp) (D : Addr) (E : Edges) : Prop := ∃ ad, TurnI H D ad E
theorem TurnI.val {H : Hp} {D : Addr} {ad : Nat → Addr} {E : Edges} (t : TurnI H D ad E) {c : Nat} (h : isLet c) : DGet H D (sgV c) (some (.ref (ad c))) := by
  have := DGet.k (k := kS c) t.dict
  rw [valV_kvL, if_pos (let_mem.mp h)] at this
  exact this
theorem TurnI.same {H H' : Hp} {D : Addr} {ad : Nat → Addr} {E : Edges} (t : TurnI H D ad E) (s : Same H H') : TurnI H' D ad E := ⟨s _ _ t.dict, fun c h => s _ _ (t.lst c h), t.inj⟩
theorem room1 {k : Nat} {A : Around} (r : Room k A) : A.units + 1 < cLine := by have := r.un; omega
theorem nbrs_len (E : Edges) (c : Nat) : (nbrs E c).length ≤ 2 * E.length := by
  induction E with
  | nil => simp [nbrs]
  | cons e r ih =>
    have h1 : nbrs (e :: r) c = nbE c e ++ nbrs r c := rfl
    have h2 : (nbE c e).length ≤ 2 := by
      unfold nbE
      split <;> split <;> simp
    rw [h1, List.length_append, List.length_cons]
    omega
theorem es_len (chs : List Chg) (i n : Nat) : (es chs i n).length ≤ chs.length := by
  unfold es
  rw [List.length_map]
  exact List.length_filter_le _ _
theorem es_snoc (l : List Chg) (ch : Chg) (i n : Nat) : es (l ++ [ch]) i n = es l i n ++ (if acts ch.2.2 i n = true then [(ch.1, ch.2.1)] else []) := by
  unfold es
  rw [List.filter_append, List.map_append]
  by_cases h : acts ch.2.2 i n = true
  · simp [h]
  · simp [h]
theorem signs_abc : signsOf "abcdefghijklmnopqrstuvwxyz" = (List.range' 97 26).map sgV := by
  unfold signsOf
  rw [letters_eq]
  rfl
theorem TurnI.push {H : Hp} {D : Addr} {ad : Nat → Addr} {E : Edges} (t : TurnI H D ad E) {a b : Nat} (ha : isLet a) (hb : isLet b) (hn : a ≠ b) :
    TurnI (upd (upd H (ad a) (.lst ((nbrs E a).map sgV ++ [sgV b]))) (ad b) (.lst ((nbrs E b).map sgV ++ [sgV a]))) D ad (E ++ [(a, b)]) := by
  have nab : ad a ≠ ad b := fun e => hn (t.inj a b ha hb e)
  have nd : ∀ c, isLet c → D ≠ ad c := fun c hc => ne_of t.dict (t.lst c hc) (by intro z; cases z)
  refine ⟨?_, fun c hc => ?_, t.inj⟩
  · rw [upd_ne (nd b hb), upd_ne (nd a ha)]
    exact t.dict
  · rw [nbrs_snoc]
    by_cases h1 : b = c
    · subst h1
      rw [upd_same, if_neg hn, if_pos rfl, List.map_append]
      rfl
    · have n1 : ad c ≠ ad b := fun e => h1 (t.inj c b hc hb e).symm
      rw [upd_ne n1, if_neg h1]
      by_cases h2 : a = c
      · subst h2
        rw [upd_same, if_pos rfl, List.map_append]
        rfl
      · have n2 : ad c ≠ ad a := fun e => h2 (t.inj c a hc ha e).symm
        rw [upd_ne n2, if_neg h2, t.lst c hc]
        simp
section
variable {P : Program} {w : World} {K : PySem.W.Frag} {mg : Str → Option Value} {base : Heap} {f : Addr} {fd : FuncData}
def spTurned : Sp := fun vs H Q _ => ∃ (S : Addr) (chs : List Chg) (i n : Nat), vs = [.ref S, .int i, .int n] ∧ ChAt H S chs ∧ OkCs chs ∧ ∀ (D : Addr) (H' : Hp), Same H H' → TurnAt H' D (es chs i n) → Q (.ref D) H'
abbrev nTurned : List Str := ["changes", "place", "length", "turned", "letter", "one", "other", "where"]
theorem scTurned : FnScope nTurned ["changes", "place", "length"] (defScope wTurned) := ⟨rfl, rfl, rfl, by decide +kernel, rfl, by decide +kernel, by decide +kernel⟩
theorem ok_turned (F : Fun K "turned_letters" "turned_letters" wTurned f fd) (G : Gw K mg) (hR : Has P w K mg base "reaches" 1 ["where", "place", "length"] spReaches) : FnOk P w K mg base CX0 2 f fd ["changes", "place", "length"] spTurned := by
  obtain ⟨t1, g1⟩ := G.letters
  refine F.ok scTurned (fun vs H Q E h => ?_) (fun cdv A outer s H vs Q E hr h => ?_)
  · obtain ⟨S, chs, i, n, rfl, _⟩ := h
    rfl
  · obtain ⟨S, chs, pl, n, rfl, ⟨as, hS, hE⟩, ok, q⟩ := h
    refine ⟨_, pss_cons (ps_setDc (i := 3) (own := [("letter", 4)]) (g := gName 4) (tt := tYes) rfl scTurned.nd rfl rfl (sw_dict rfl rfl rfl rfl) (pi_str (pe_glob (v := .str "abcdefghijklmnopqrstuvwxyz") rfl g1 ⟨_, rfl⟩)) (blkOk_by (N := nTurned) (sc := defScope wTurned) (by decide +kernel))
        (fun _ _ _ _ _ => pg_name (i := 4) scTurned.nd rfl (.inl rfl)) (fun _ _ _ _ _ => pts_nil) (fun _ _ _ _ _ => pv 4) (fun _ _ _ _ _ => pe_lst pa_nil))
      (pss_cons (ps_for PassesOwn.never rfl (pi_tup (pv 0)) (pg_tup rfl (pgs_cons (pg_name (i := 5) scTurned.nd rfl (.inl rfl)) (pgs_cons (pg_name (i := 6) scTurned.nd rfl (.inl rfl)) (pgs_cons (pg_name (i := 7) scTurned.nd rfl (.inl rfl)) pgs_nil))))
        (pss_one (ps_if (pt_val (pe_h hR hr (pa_cons (pv 7) (pa_cons (pv 1) (pa_cons (pv 2) pa_nil)))))
          (pss_cons (ps_expr (pe_bm PySem.F.plainAttrs_list PySem.F.slot_list_append PySem.F.type_list_append mt_append (pe_dget (room1 hr) (pv 3) (pv 5) (fun _ _ => rfl)) (pa_cons (pv 6) pa_nil)))
          (pss_one (ps_expr (pe_bm PySem.F.plainAttrs_list PySem.F.slot_list_append PySem.F.type_list_append mt_append (pe_dget (room1 hr) (pv 3) (pv 6) (fun _ _ => rfl)) (pa_cons (pv 5) pa_nil))))) pss_nil)))
      (pss_one (ps_ret (pv 3)))), ?_⟩
    refine ⟨_, rfl, fun D hD => dc_it walk_signs (fun i H' => ∃ ad : Nat → Addr, Same H H' ∧ H' D = some (.dK (kvL (fun c => .ref (ad c)) (List.range' 97 i))) ∧ (∀ c ∈ List.range' 97 i, H' (ad c) = some (.lst []) ∧ H (ad c) = none) ∧ ∀ c d, c ∈ List.range' 97 i → d ∈ List.range' 97 i → ad c = ad d → c = d) ⟨fun _ => 0, same_new hD, upd_same, fun c hc => by simp at hc, fun c d hc => by simp at hc⟩ (fun _ _ _ _ => trivial) ?_ ?_⟩
    · rintro i x H1 H2 hi ⟨ad, s1, hd, hl, hj⟩ ⟨rfl, hx⟩
      have hi26 : i < 26 := by
        rw [signs_abc, List.length_map, List.length_range'] at hi
        exact hi
      rw [signs_abc, List.getElem?_map, List.getElem?_range' hi26] at hx
      obtain rfl := Option.some.inj hx
      have e97 : 97 + 1 * i = 97 + i := by omega
      rw [e97]
      refine ⟨rfl, yes_it ⟨_, rfl, lz, fun p hp => ⟨_, kS (97 + i), rfl, (same_new hp) _ _ hd, ?_, fun c => if c = 97 + i then p else ad c, ?_, ?_, ?_, ?_⟩⟩⟩
      · unfold kvL
        rw [List.length_map, List.length_range']
        exact small1000 (by omega)
      · exact same_mut (s1.trans (same_new hp)) hD
      · rw [upd_same, putK_new]
        · have e : List.range' 97 (i + 1) = List.range' 97 i ++ [97 + i] := by
            have := List.range'_concat (s := 97) (n := i) (step := 1)
            simpa using this
          rw [e]
          unfold kvL
          rw [List.map_append]
          have e2 : (List.range' 97 i).map (fun c => (kS c, V.ref (if c = 97 + i then p else ad c))) = (List.range' 97 i).map fun c => (kS c, V.ref (ad c)) := List.map_congr_left fun c hc => by
            rw [List.mem_range'_1] at hc
            rw [if_neg (by omega)]
          rw [e2]
          simp
        · rw [valV_kvL, if_neg]
          rw [List.mem_range'_1]
          omega
      · intro c hc
        rw [List.mem_range'_1] at hc
        have nD : p ≠ D := (ne_of_none hd hp).symm
        dsimp only
        by_cases h : c = 97 + i
        · rw [if_pos h]
          exact ⟨by rw [upd_ne nD, upd_same], s1.free hp⟩
        · rw [if_neg h]
          obtain ⟨h1, h2⟩ := hl c (by rw [List.mem_range'_1]; omega)
          have n1 : ad c ≠ D := ne_of h1 hd (by intro z; cases z)
          exact ⟨by rw [upd_ne n1]; exact (same_new hp) _ _ h1, h2⟩
      · intro c d hc hd' e
        rw [List.mem_range'_1] at hc hd'
        dsimp only at e
        have np : ∀ c, c < 97 + i → 97 ≤ c → ad c ≠ p := fun c h1 h2 => ne_of_none (hl c (by rw [List.mem_range'_1]; omega)).1 hp
        by_cases h1 : c = 97 + i <;> by_cases h2 : d = 97 + i
        · omega
        · rw [if_pos h1, if_neg h2] at e
          exact absurd e.symm (np d (by omega) (by omega))
        · rw [if_neg h1, if_pos h2] at e
          exact absurd e (np c (by omega) (by omega))
        · rw [if_neg h1, if_neg h2] at e
          exact hj c d (by rw [List.mem_range'_1]; omega) (by rw [List.mem_range'_1]; omega) e
    · rintro H1 ⟨ad, s1, hd, hl, hj⟩
      have e26 : (signsOf "abcdefghijklmnopqrstuvwxyz").length = 26 := by rw [signs_abc, List.length_map, List.length_range']
      rw [e26] at hd hl hj
      have T1 : TurnI H1 D ad (es (chs.take 0) pl n) := ⟨hd, fun c hc => (hl c (let_mem.mp hc)).1, fun c d hc hd' e => hj c d (let_mem.mp hc) (let_mem.mp hd') e⟩
      refine ⟨_, rfl, S, rfl, ⟨_, .inl (.inl (s1 _ _ hS))⟩, for_it (walk_tup (K := K) (a := S) (xs := as.map V.ref)) (fun i σ H' => (∃ y4 y5 y6 y7, σ = [some (.ref S), some (.int pl), some (.int n), some (.ref D), y4, y5, y6, y7]) ∧ Same H H' ∧ TurnI H' D ad (es (chs.take i) pl n)) ⟨⟨_, _, _, _, rfl⟩, s1, T1⟩ (fun i σ H' _ h => .inl (.inl (h.2.1 _ _ hS))) ?_ ?_⟩
      · rintro i x σ H2 H3 hi ⟨⟨y4, y5, y6, y7, rfl⟩, s2, t2⟩ ⟨rfl, hx⟩
        rw [List.getElem?_map] at hx
        obtain ⟨p, hp, rfl⟩ := Option.map_eq_some_iff.mp hx
        obtain ⟨ch, hch, hH⟩ := hE.get hp
        obtain ⟨o1, o2, o3⟩ := ok.2 ch (List.mem_of_getElem? hch)
        have etk : chs.take (i + 1) = chs.take i ++ [ch] := by rw [List.take_add_one, hch]; rfl
        have lenE : ∀ c, ((nbrs (es (chs.take i) pl n) c).map sgV).length < sizeLine := fun c => by
          rw [List.length_map]
          have h1 := nbrs_len (es (chs.take i) pl n) c
          have h2 := es_len (chs.take i) pl n
          have h3 : (chs.take i).length ≤ chs.length := List.length_take_le' _ _
          have h4 := ok.1
          exact small1000 (by omega)
        refine ⟨p, _, rfl, .inl (.inl (s2 _ _ hH)), rfl, _, _, rfl, _, _, rfl, _, _, rfl, rfl, ?_⟩
        refine ⟨_, rfl, _, rfl, _, rfl, ch.2.2, pl, n, rfl, _, rfl, ite_b (fun e => ?_) (fun e => ?_)⟩
        · refine ⟨_, rfl, _, rfl, D, _, rfl, t2.val o1, .inl ⟨rfl, _, .inl (.inl (t2.lst _ o1))⟩, _, rfl, ad ch.1, _, _, rfl, rfl, t2.lst _ o1, lenE _, ?_⟩
          have nab : ad ch.2.1 ≠ ad ch.1 := fun e => o3 (t2.inj _ _ o2 o1 e).symm
          have hb : upd H3 (ad ch.1) (.lst ((nbrs (es (chs.take i) pl n) ch.1).map sgV ++ [sgV ch.2.1])) (ad ch.2.1) = some (.lst ((nbrs (es (chs.take i) pl n) ch.2.1).map sgV)) := by
            rw [upd_ne nab]
            exact t2.lst _ o2
          have hDg : DGet (upd H3 (ad ch.1) (.lst ((nbrs (es (chs.take i) pl n) ch.1).map sgV ++ [sgV ch.2.1]))) D (sgV ch.2.1) (some (.ref (ad ch.2.1))) := by
            have nD : D ≠ ad ch.1 := ne_of t2.dict (t2.lst _ o1) (by intro z; cases z)
            have := DGet.k (k := kS ch.2.1) (show upd H3 (ad ch.1) (.lst ((nbrs (es (chs.take i) pl n) ch.1).map sgV ++ [sgV ch.2.1])) D = _ by rw [upd_ne nD]; exact t2.dict)
            rw [valV_kvL, if_pos (let_mem.mp o2)] at this
            exact this
          refine ⟨_, rfl, _, rfl, D, _, rfl, hDg, .inl ⟨rfl, _, .inl (.inl hb)⟩, _, rfl, ad ch.2.1, _, _, rfl, rfl, hb, lenE _, ⟨_, _, _, _, rfl⟩, ?_, ?_⟩
          · exact same_mut (same_mut s2 (hl _ (let_mem.mp o1)).2) (hl _ (let_mem.mp o2)).2
          · rw [etk, es_snoc, if_pos e]
            exact t2.push o1 o2 o3
        · refine ⟨⟨_, _, _, _, rfl⟩, s2, ?_⟩
          rw [etk, es_snoc, if_neg (by rw [e]; decide), List.append_nil]
          exact t2
      · rintro σ H2 ⟨⟨y4, y5, y6, y7, rfl⟩, s2, t2⟩
        have : chs.take (as.map V.ref).length = chs := by rw [List.length_map, hE.length, List.take_length]
        rw [this] at t2
        exact ⟨_, rfl, q D H2 s2 ⟨ad, t2⟩⟩
end
end Wl




namespace Wl
open PySem PySem.Spec PyProof.Rows L2
abbrev wBetween : Stmt := topS 40
abbrev Tw := List (Nat × Option Nat)
def oS : Option Nat → V
  | none => .non
  | some d => sgV d
def twK (tw : Tw) : List (Key × V) := tw.map fun p => (kS p.1, oS p.2)
theorem twK_snoc (tw : Tw) (c : Nat) (o : Option Nat) : twK (tw ++ [(c, o)]) = twK tw ++ [(kS c, oS o)] := by
  unfold twK
  rw [List.map_append]
  rfl
theorem twK_in (tw : Tw) (c : Nat) : (valV (twK tw) (kS c)).isSome = decide (c ∈ tw.map (·.1)) := by
  rw [← valV_any]
  induction tw with
  | nil => rfl
  | cons p r ih =>
    have e : twK (p :: r) = (kS p.1, oS p.2) :: twK r := rfl
    rw [e, List.any_cons, ih, List.map_cons]
    by_cases h : p.1 = c
    · subst h
      simp
    · have h1 : ¬ kS p.1 = kS c := fun q => h (kS_inj q)
      have h2 : ¬ c = p.1 := fun q => h q.symm
      rw [decide_eq_false h1]
      simp [h2]
theorem twK_none {tw : Tw} {c : Nat} (h : c ∉ tw.map (·.1)) : valV (twK tw) (kS c) = none := by
  have := twK_in tw c
  rw [decide_eq_false h] at this
  cases q : valV (twK tw) (kS c) with
  | none => rfl
  | some v => rw [q] at this; cases this
theorem twK_val : ∀ {tw : Tw} {i c : Nat} {o : Option Nat}, (tw.map (·.1)).Nodup → tw[i]? = some (c, o) → valV (twK tw) (kS c) = some (oS o)
  | [], i, c, o, _, h => by simp at h
  | p :: r, 0, c, o, _, h => by
    simp at h
    subst h
    exact valV_pos rfl
  | p :: r, i + 1, c, o, nd, h => by
    rw [List.map_cons, List.nodup_cons] at nd
    have h' : r[i]? = some (c, o) := by simpa using h
    have hm : c ∈ r.map (·.1) := List.mem_map.mpr ⟨_, List.mem_of_getElem? h', rfl⟩
    have e : valV (twK (p :: r)) (kS c) = valV (twK r) (kS c) := valV_neg fun q => by
      have := kS_inj q
      rw [this] at nd
      exact nd.1 hm
    rw [e]
    exact twK_val nd.2 h'
section
variable {P : Program} {w : World} {K : PySem.W.Frag} {mg : Str → Option Value} {base : Heap} {f : Addr} {fd : FuncData}
def spSteps : Sp := fun vs H Q _ => ∃ (g : Nat) (D : Addr) (E : Edges), vs = [sgV g, .ref D] ∧ isLet g ∧ TurnAt H D E ∧ OkE E ∧ E.length ≤ 12 ∧ ∀ (W : Addr) (tw : Tw) (H' : Hp), Same H H' → H' W = some (.dK (twK tw)) → Bfs E g tw tw.length → Q (.ref W) H'
abbrev nSteps : List Str := ["goal", "turned", "toward", "waiting", "at", "letter", "ahead"]
theorem scSteps : FnScope nSteps ["goal", "turned"] (defScope wSteps) := ⟨rfl, rfl, rfl, by decide +kernel, rfl, by decide +kernel, by decide +kernel⟩
theorem ok_steps (F : Fun K "steps_toward" "steps_toward" wSteps f fd) (B : Bi mg) : FnOk P w K mg base CX0 1 f fd ["goal", "turned"] spSteps := by
  refine F.ok scSteps (fun vs H Q E h => ?_) (fun cdv A outer s H vs Q E hr h => ?_)
  · obtain ⟨g, D, E, rfl, _⟩ := h
    rfl
  · obtain ⟨g, D, Ed, rfl, hg, ⟨ad, t⟩, okE, lE, q⟩ := h
    refine ⟨_, pss_cons (ps_set (i := 2) scSteps.nd rfl (.inl rfl) (pe_disp (pps_cons (pv 0) pe_non pps_nil) rfl rfl (by simp) (by decide)))
      (pss_cons (ps_set (i := 3) scSteps.nd rfl (.inl rfl) (pe_lst (pa_cons (pv 0) pa_nil)))
      (pss_cons (ps_set (i := 4) scSteps.nd rfl (.inl rfl) pe_int)
      (pss_cons (ps_while PassesOwn.never (pt_cmpR op_lt (pv 4) (pe_callB call_len_seq (by rfl) B.len PySem.boot_len (pa_cons (pv 3) pa_nil)) (nomark _))
        (pss_cons (ps_set (i := 5) scSteps.nd rfl (.inl rfl) (pe_ix ix_list (pv 3) (pv 4) (fun _ _ => rfl)))
        (pss_cons (ps_for PassesOwn.never rfl (pi_list (pe_dget (room1 hr) (pv 1) (pv 5) (fun _ _ => rfl))) (pg_name (i := 6) scSteps.nd rfl (.inl rfl))
          (pss_one (ps_if (pt_cmp (pc_dnotin (room1 hr) (pv 6) (pv 2)))
            (pss_cons (ps_dput (room1 hr) (pv 2) (pv 6) (pv 5) rfl)
            (pss_one (ps_expr (pe_bm PySem.F.plainAttrs_list PySem.F.slot_list_append PySem.F.type_list_append mt_append (pv 3) (pa_cons (pv 6) pa_nil))))) pss_nil)))
        (pss_one (ps_aug (i := 4) scSteps.nd rfl (.inl rfl) pe_int ip_add)))))
      (pss_one (ps_ret (pv 2)))))), ?_⟩
    intro W hW
    refine ⟨_, rfl, upd_same, [(kS g, .non)], rfl, by simp, ?_⟩
    have sW : Same H (upd (upd H W (.dK [])) W (.dK (mergeK [] [(kS g, .non)]))) := same_mut (same_new hW) hW
    have eW : (upd (upd H W (.dK [])) W (.dK (mergeK [] [(kS g, .non)]))) W = some (.dK (twK [(g, none)])) := upd_same
    generalize upd (upd H W (.dK [])) W (.dK (mergeK [] [(kS g, .non)])) = H1 at sW eW
    refine ⟨_, rfl, lz, fun L hL => ?_⟩
    have nLW : L ≠ W := (ne_of_none eW hL).symm
    have hL0 : H L = none := sW.free hL
    refine ⟨fun m σ H' => ∃ (tw : Tw) (a : Nat) (y5 y6 : Option V), m = 26 - a ∧ σ = [some (sgV g), some (.ref D), some (.ref W), some (.ref L), some (.int a), y5, y6] ∧ Same H H' ∧ H' W = some (.dK (twK tw)) ∧ H' L = some (.lst (tw.map fun p => sgV p.1)) ∧ Bfs Ed g tw a ∧ a ≤ tw.length,
      ⟨26, [(g, none)], 0, _, _, rfl, rfl, sW.trans (same_new hL), (same_new hL) _ _ eW, upd_same, Bfs.start hg, by simp⟩, ?_⟩
    rintro m σ H2 ⟨tw, a, y5, y6, rfl, rfl, s2, hW2, hL2, b2, ha⟩
    have h26 := b2.len
    refine ⟨_, rfl, _, rfl, L, _, rfl, .inl (.inl (.inl hL2)), _, _, rfl, rfl, _, rfl, ite_b (fun e => ?_) (fun e => ?_)⟩
    · have hlt : a < tw.length := by
        have := of_decide_eq_true e
        rw [List.length_map] at this
        omega
      obtain ⟨⟨x, o⟩, hx⟩ : ∃ p, tw[a]? = some p := ⟨tw[a], List.getElem?_eq_getElem hlt⟩
      have hxl : isLet x := b2.lets x (List.mem_map.mpr ⟨_, List.mem_of_getElem? hx, rfl⟩)
      refine ⟨_, fun σ' H' h => h, ?_⟩
      refine ⟨_, rfl, _, rfl, L, _, _, sgV x, rfl, rfl, .inl (.inl hL2), atI_nat (j := a) (by rw [List.getElem?_map, hx]; rfl), ?_⟩
      have lenN : (nbrs Ed x).length ≤ 24 := by
        have := nbrs_len Ed x
        omega
      refine ⟨_, rfl, _, rfl, D, _, rfl, (t.same s2).val hxl, ad x, rfl, ⟨_, .inl (.inl ((t.same s2).lst x hxl))⟩, for_it (walk_list (K := K) (a := ad x) (xs := (nbrs Ed x).map sgV)) (fun j σ H' => ∃ (tw' : Tw) (y6 : Option V), σ = [some (sgV g), some (.ref D), some (.ref W), some (.ref L), some (.int a), some (sgV x), y6] ∧ Same H H' ∧ H' W = some (.dK (twK tw')) ∧ H' L = some (.lst (tw'.map fun p => sgV p.1)) ∧ Bfs Ed g tw' a ∧ tw'[a]? = some (x, o) ∧ ∀ y ∈ (nbrs Ed x).take j, y ∈ tw'.map (·.1))
        ⟨tw, _, rfl, s2, hW2, hL2, b2, hx, fun y hy => by simp at hy⟩ (fun j σ H' _ h => ?_) ?_ ?_⟩
      · obtain ⟨_, _, _, s3, _⟩ := h
        exact .inl (.inl ((t.same s3).lst x hxl))
      · rintro j v σ H3 H4 hj ⟨tw', y6', rfl, s3, hW3, hL3, b3, hx3, hin⟩ ⟨rfl, hv⟩
        rw [List.getElem?_map] at hv
        obtain ⟨c, hc, rfl⟩ := Option.map_eq_some_iff.mp hv
        have hcn : c ∈ nbrs Ed x := List.mem_of_getElem? hc
        have hcl : isLet c := conn_let okE (Conn.step (.refl x) hcn) hxl
        have l3 := b3.len
        have etk : (nbrs Ed x).take (j + 1) = (nbrs Ed x).take j ++ [c] := by rw [List.take_add_one, hc]; rfl
        refine ⟨_, rfl, _, rfl, W, _, rfl, DGet.k (k := kS c) hW3, _, rfl, ?_⟩
        rw [twK_in]
        refine not_b (fun e => ?_) (fun e => ?_)
        · have hnot := of_decide_eq_false e
          have lK : (twK tw').length < sizeLine := by
            unfold twK
            rw [List.length_map]
            exact small1000 (by omega)
          refine ⟨_, rfl, _, rfl, _, rfl, W, _, rfl, DPut.k (k := kS c) hW3 lK, ?_⟩
          rw [putK_new _ (twK_none hnot)]
          have hL4 : upd H4 W (.dK (twK tw' ++ [(kS c, sgV x)])) L = some (.lst (tw'.map fun p => sgV p.1)) := by
            rw [upd_ne nLW]
            exact hL3
          refine ⟨_, rfl, .inl ⟨rfl, _, .inl (.inl hL4)⟩, _, rfl, L, _, _, rfl, rfl, hL4, ?_, tw' ++ [(c, some x)], _, rfl, ?_, ?_, ?_, b3.push hx3 hcn hcl hnot, ?_, ?_⟩
          · rw [List.length_map]
            exact small1000 (by omega)
          · exact same_mut (same_mut s3 hW) hL0
          · rw [upd_ne nLW.symm, upd_same, twK_snoc]
            rfl
          · rw [upd_same, List.map_append]
            rfl
          · rw [List.getElem?_append_left (List.getElem?_eq_some_iff.mp hx3).1]
            exact hx3
          · intro y hy
            rw [etk] at hy
            rw [List.map_append]
            rcases List.mem_append.mp hy with hy | hy
            · exact List.mem_append_left _ (hin y hy)
            · rw [List.mem_singleton] at hy
              subst hy
              exact List.mem_append_right _ (by simp)
        · have hyes := of_decide_eq_true e
          refine ⟨tw', _, rfl, s3, hW3, hL3, b3, hx3, fun y hy => ?_⟩
          rw [etk] at hy
          rcases List.mem_append.mp hy with hy | hy
          · exact hin y hy
          · rw [List.mem_singleton] at hy
            subst hy
            exact hyes
      · rintro σ H3 ⟨tw', y6', rfl, s3, hW3, hL3, b3, hx3, hin⟩
        have hall : ∀ y ∈ nbrs Ed x, y ∈ tw'.map (·.1) := fun y hy => hin y (by rw [List.length_map, List.take_length]; exact hy)
        have hl3 : a < tw'.length := (List.getElem?_eq_some_iff.mp hx3).1
        exact ⟨_, rfl, _, _, rfl, rfl, 26 - (a + 1), by omega, tw', a + 1, _, _, rfl, rfl, s3, hW3, hL3, b3.next hx3 hall, hl3⟩
    · have hge : tw.length ≤ a := by
        have := of_decide_eq_false e
        rw [List.length_map] at this
        omega
      have : a = tw.length := by omega
      subst this
      exact ⟨_, rfl, q W tw H2 s2 hW2 b2⟩
end
end Wl




namespace Wl
open PySem PySem.Spec PyProof.Rows L2
section
variable {P : Program} {w : World} {K : PySem.W.Frag} {mg : Str → Option Value} {base : Heap} {f : Addr} {fd : FuncData}
def spBetween : Sp := fun vs H Q _ => ∃ (a b : Nat) (D : Addr) (E : Edges), vs = [sgV a, sgV b, .ref D] ∧ isLet b ∧ TurnAt H D E ∧ OkE E ∧ E.length ≤ 12 ∧
  (Conn E b a → ∀ (L : Addr) (cs : List Nat) (H' : Hp), H L = none → Same H H' → H' L = some (.lst (cs.map sgV)) → cs.length ≤ 26 → Q (.ref L) H') ∧ (¬ Conn E b a → ∀ H', Same H H' → Q .non H')
abbrev nBetween : List Str := ["one", "other", "turned", "toward", "row", "letter"]
theorem scBetween : FnScope nBetween ["one", "other", "turned"] (defScope wBetween) := ⟨rfl, rfl, rfl, by decide +kernel, rfl, by decide +kernel, by decide +kernel⟩
theorem ok_between (F : Fun K "letters_between" "letters_between" wBetween f fd) (hS : Has P w K mg base "steps_toward" 1 ["goal", "turned"] spSteps) : FnOk P w K mg base CX0 2 f fd ["one", "other", "turned"] spBetween := by
  refine F.ok scBetween (fun vs H Q E h => ?_) (fun cdv A outer s H vs Q E hr h => ?_)
  · obtain ⟨a, b, D, E, rfl, _⟩ := h
    rfl
  · obtain ⟨a, b, D, Ed, rfl, hb, t, okE, lE, q1, q2⟩ := h
    refine ⟨_, pss_cons (ps_set (i := 3) scBetween.nd rfl (.inl rfl) (pe_h hS hr (pa_cons (pv 1) (pa_cons (pv 2) pa_nil))))
      (pss_cons (ps_if (pt_cmp (pc_dnotin (room1 hr) (pv 0) (pv 3))) (pss_one (ps_ret pe_non)) pss_nil)
      (pss_cons (ps_set (i := 4) scBetween.nd rfl (.inl rfl) (pe_lst pa_nil))
      (pss_cons (ps_set (i := 5) scBetween.nd rfl (.inl rfl) (pe_dget (room1 hr) (pv 3) (pv 0) (fun _ _ => rfl)))
      (pss_cons (ps_while PassesOwn.never (pt_cmp (pc_notN (pv 5)))
        (pss_cons (ps_expr (pe_bm PySem.F.plainAttrs_list PySem.F.slot_list_append PySem.F.type_list_append mt_append (pv 4) (pa_cons (pv 5) pa_nil)))
        (pss_one (ps_set (i := 5) scBetween.nd rfl (.inl rfl) (pe_dget (room1 hr) (pv 3) (pv 5) (fun _ _ => rfl))))))
      (pss_one (ps_ret (pv 4))))))), ?_⟩
    refine ⟨_, rfl, _, rfl, b, D, Ed, rfl, hb, t, okE, lE, fun W tw H1 s1 hW bf => ?_⟩
    refine ⟨_, rfl, _, rfl, W, _, rfl, DGet.k (k := kS a) hW, _, rfl, ?_⟩
    rw [twK_in]
    refine not_b (fun e => ?_) (fun e => ?_)
    · exact q2 (fun c => of_decide_eq_false e ((bf.done (Nat.le_refl _)).mpr c)) H1 s1
    · have hin := of_decide_eq_true e
      have hc : Conn Ed b a := (bf.done (Nat.le_refl _)).mp hin
      obtain ⟨⟨a', o⟩, hm, e1⟩ := List.mem_map.mp hin
      have e1 : a' = a := e1
      subst e1
      obtain ⟨i, hi, e2⟩ := List.mem_iff_getElem.mp hm
      have hti : tw[i]? = some (a', o) := by rw [List.getElem?_eq_getElem hi, e2]
      refine ⟨lz, fun R hR => ?_⟩
      have sR : Same H1 (upd H1 R (.lst [])) := same_new hR
      have hv : DGet (upd H1 R (.lst [])) W (sgV a') (some (oS o)) := by
        have := DGet.k (k := kS a') (sR _ _ hW)
        rw [twK_val bf.nd hti] at this
        exact this
      refine ⟨_, rfl, _, rfl, W, _, rfl, hv, ?_⟩
      refine ⟨fun m σ H' => ∃ (c : Nat) (o : Option Nat) (cs : List Nat), σ = [some (sgV a'), some (sgV b), some (.ref D), some (.ref W), some (.ref R), some (oS o)] ∧ Same H1 H' ∧ H' R = some (.lst (cs.map sgV)) ∧ tw[m]? = some (c, o) ∧ cs.length + m ≤ 26,
        ⟨i, a', o, [], rfl, sR, upd_same, hti, by have := bf.len; simp; omega⟩, ?_⟩
      rintro m σ H2 ⟨c, o, cs, rfl, s2, hR2, ht, hl⟩
      cases o with
      | none =>
        refine ⟨_, rfl, _, rfl, iteF ⟨_, rfl, q1 hc R cs H2 (s1.free hR) (s1.trans s2) hR2 (by omega)⟩⟩
      | some d =>
        obtain ⟨j, o', hj, htj⟩ := bf.par m c d ht
        refine ⟨_, rfl, _, rfl, iteT ⟨_, fun σ' H' h => h, ?_⟩⟩
        have nW : W ≠ R := ne_of_none hW hR
        have hv2 : DGet (upd H2 R (.lst (cs.map sgV ++ [sgV d]))) W (sgV d) (some (oS o')) := by
          have := DGet.k (k := kS d) (show upd H2 R (.lst (cs.map sgV ++ [sgV d])) W = _ by rw [upd_ne nW]; exact s2 _ _ hW)
          rw [twK_val bf.nd htj] at this
          exact this
        refine ⟨_, rfl, .inl ⟨rfl, _, .inl (.inl hR2)⟩, _, rfl, R, _, _, rfl, rfl, hR2, ?_, ?_⟩
        · rw [List.length_map]
          exact small1000 (by omega)
        · refine ⟨_, rfl, _, rfl, W, _, rfl, hv2, j, hj, d, o', cs ++ [d], rfl, same_mut s2 hR, ?_, htj, ?_⟩
          · rw [upd_same, List.map_append]
            rfl
          · rw [List.length_append, List.length_singleton]
            omega
end
end Wl




namespace Wl
open PySem PySem.Spec PyProof.Rows L2
abbrev wRow : Stmt := topS 41
abbrev wAre : Stmt := topS 42
section
variable {P : Program} {w : World} {K : PySem.W.Frag} {mg : Str → Option Value} {base : Heap} {f : Addr} {fd : FuncData}
/-- a def whose last parameter may be left out: None -/
abbrev FunN (K : PySem.W.Frag) (x : Str) (st : Stmt) (f : Addr) (fd : FuncData) : Prop := FunD K x x (defArgs st) (defBody st) (defScope st) [.non] [] f fd
def HasN (P : Program) (w : World) (K : PySem.W.Frag) (mg : Str → Option Value) (base : Heap) (x : Str) (st : Stmt) (k : Nat) (ps : List Str) (sp : Sp) : Prop :=
  ∃ f fd, FnOk P w K mg base CX0 k f fd ps sp ∧ mg x = some (.ref f) ∧ FunN K x st f fd
abbrev ps3 : List Str := ["word", "other", "changes"]
theorem bind3 {x : Str} {st : Stmt} (F : FunN K x st f fd) (hs : st = wRow ∨ st = wAre) : Binds K fd ps3 [] := by
  rcases hs with rfl | rfl
  · obtain ⟨ds, h1, h2⟩ := F.binds1 (ps := ps3) 3 1 (by simp) rfl (fun T kV doc pm an cdv ct us its l1 l2 => by
      match us, its, l1, l2 with
      | [a, b, c], [d], _, _ => exact ⟨_, rfl, rfl⟩)
    cases h1
    exact h2
  · obtain ⟨ds, h1, h2⟩ := F.binds1 (ps := ps3) 3 1 (by simp) rfl (fun T kV doc pm an cdv ct us its l1 l2 => by
      match us, its, l1, l2 with
      | [a, b, c], [d], _, _ => exact ⟨_, rfl, rfl⟩)
    cases h1
    exact h2
theorem bindA2 {x : Str} (F : FunN K x wAre f fd) : ∃ ds, Vals [V.non] ds ∧ Binds K fd ps3 ds :=
  F.binds1 (ps := ps3) 2 0 (by simp) rfl (fun T kV doc pm an cdv ct us its l1 l2 => by
      match us, its, l1, l2 with
      | [a, b], [d], _, _ => exact ⟨_, rfl, rfl⟩)
/-! keywords -/
def gA3 {α : Type} : List α → List α → List α → List α
  | [], _, [c, b, a] => [a, b, c]
  | us, _, _ => us
def gA2 {α : Type} : List α → List α → List α → List α
  | [], ds, zs => zs ++ ds
  | us, _, _ => us
def gA1 {α : Type} : List α → List α → List α → List α
  | us, _, zs => us ++ zs
def gM2 {α : Type} : List α → List α → List α → List α
  | [], _, [c, a] => [a, c]
  | us, _, _ => us
theorem vals_app {vs zs : List V} {us ws : List Value} (r : Vals vs us) (s : Vals zs ws) : Vals (vs ++ zs) (us ++ ws) := r.append s
theorem gA3_rel {vs ds zs : List V} {us its ws : List Value} (r1 : Vals vs us) (r2 : Vals ds its) (r3 : Vals zs ws) : Vals (gA3 vs ds zs) (gA3 us its ws) := by
  cases r1 with
  | nil =>
    cases r3 with
    | nil => exact .nil
    | cons a r3 => cases r3 with
      | nil => exact .nil
      | cons b r3 => cases r3 with
        | nil => exact .nil
        | cons c r3 => cases r3 with
          | nil => exact .cons c (.cons b (.cons a .nil))
          | cons d r3 => exact .nil
  | cons a r => exact .cons a r
theorem gM2_rel {vs ds zs : List V} {us its ws : List Value} (r1 : Vals vs us) (r2 : Vals ds its) (r3 : Vals zs ws) : Vals (gM2 vs ds zs) (gM2 us its ws) := by
  cases r1 with
  | nil =>
    cases r3 with
    | nil => exact .nil
    | cons a r3 => cases r3 with
      | nil => exact .nil
      | cons b r3 => cases r3 with
        | nil => exact .cons b (.cons a .nil)
        | cons d r3 => exact .nil
  | cons a r => exact .cons a r
theorem gA2_rel {vs ds zs : List V} {us its ws : List Value} (r1 : Vals vs us) (r2 : Vals ds its) (r3 : Vals zs ws) : Vals (gA2 vs ds zs) (gA2 us its ws) := by
  cases r1 with
  | nil => exact vals_app r3 r2
  | cons a r => exact .cons a r
theorem kwA3 {x : Str} (F : FunN K x wAre f fd) : ∃ its : List Value, KBn K fd ps3 0 ["changes", "other", "word"] (fun us ws => gA3 us its ws) (fun vs zs => gA3 vs [.non] zs) :=
  F.kbindsD (ps := ps3) 0 ["changes", "other", "word"] gA3 (by simp) gA3_rel (fun T kV doc pm an cdv ct us its ws l1 l2 l3 => by
      match us, its, ws, l1, l2, l3 with
      | [], [d], [a, b, c], _, _, _ => exact ⟨_, rfl, rfl⟩)
theorem kwA2 {x : Str} (F : FunN K x wAre f fd) : ∃ its : List Value, KBn K fd ps3 0 ["word", "other"] (fun us ws => gA2 us its ws) (fun vs zs => gA2 vs [.non] zs) :=
  F.kbindsD (ps := ps3) 0 ["word", "other"] gA2 (by simp) gA2_rel (fun T kV doc pm an cdv ct us its ws l1 l2 l3 => by
      match us, its, ws, l1, l2, l3 with
      | [], [d], [a, b], _, _, _ => exact ⟨_, rfl, rfl⟩)
theorem kwA1 {x : Str} (F : FunN K x wAre f fd) : ∃ its : List Value, KBn K fd ps3 2 ["changes"] (fun us ws => gA1 us its ws) (fun vs zs => gA1 vs [.non] zs) :=
  F.kbindsD (ps := ps3) 2 ["changes"] gA1 (by simp) (fun r1 r2 r3 => vals_app r1 r3) (fun T kV doc pm an cdv ct us its ws l1 l2 l3 => by
      match us, its, ws, l1, l2, l3 with
      | [a, b], [d], [c], _, _, _ => exact ⟨_, rfl, rfl⟩)
end
end Wl




namespace Wl
open PySem PySem.Spec PyProof.Rows L2
theorem cut_len (z : Str) (lo hi : Option Int) : (cutS z lo hi).length ≤ z.length := by
  have e : ∀ x : Str, x.length = x.cps.toList.length := fun x => by simp [Str.length]
  rw [e, e]
  show (List.take _ (List.drop _ z.cps.toList)).length ≤ _
  rw [List.length_take, List.length_drop]
  omega
theorem add_len (x y : Str) : (x ++ y).length = x.length + y.length := by
  rw [TL.len_tl, TL.tl_append, List.length_append, ← TL.len_tl, ← TL.len_tl]
theorem codes_len (z : Str) : (codes z).length = z.length := by simp [codes, Str.length]
theorem ones_sum (l : List Nat) : (l.map fun _ => 1).sum = l.length := by
  induction l with
  | nil => rfl
  | cons x r ih => rw [List.map_cons, List.sum_cons, ih, List.length_cons]; omega
section
variable {P : Program} {w : World} {K : PySem.W.Frag} {mg : Str → Option Value} {base : Heap} {f : Addr} {fd : FuncData}
theorem okN {x : Str} {st : Stmt} {N ps : List Str} {k : Nat} {sp : Sp} (F : FunN K x st f fd) (S : FnScope N ps (defScope st)) (len : ∀ vs H Q E, sp vs H Q E → vs.length = ps.length)
    (hbody : ∀ (cdv : Value) (A : Around) (outer : List Env) (s : Shared) (H : Hp) (vs : List V) (Q : VK) (E : XK), Room k (A.deeper (envOfC x (defScope st) s.heap.objs.size f cdv)) → sp vs H Q E →
      ∃ t, PSs (cxOf CX0 P w K mg base N x (defScope st) f cdv A outer s H E).nox (defBody st) t ∧ t { nx := fun _ H' => Q .non H', rt := Q } (start N vs) H) : FnOk P w K mg base CX0 (k + 1) f fd ps sp :=
  F.ok S len fun cdv A outer s H vs Q E hr hsp => let ⟨t, h, q⟩ := hbody cdv A outer s H vs Q E hr hsp; ⟨t, h.nox, q⟩
def spRow : Sp := fun vs H Q _ => ∃ (z y : Str) (v : V) (chs : List Chg), vs = [.str z, .str y, v] ∧ IsWd z ∧ IsWd y ∧ ChV H v chs ∧ OkCs chs ∧
  (OneP chs z y → ∀ (T : Addr) (xs : List V) (H' : Hp), Same H H' → H' T = some (.tup xs) → Q (.ref T) H') ∧ (¬ OneP chs z y → ∀ H', Same H H' → Q .non H')
abbrev nRow : List Str := ["word", "other", "changes", "known", "row", "place", "goal", "letters", "letter"]
theorem scRow : FnScope nRow ps3 (defScope wRow) := ⟨rfl, rfl, rfl, by decide +kernel, rfl, by decide +kernel, by decide +kernel⟩
theorem ok_row (F : FunN K "row_between" wRow f fd) (B : Bi mg) (hCk : Has P w K mg base "check_word" 2 ["word"] spCheckW) (hCh : Has P w K mg base "checked_changes" 4 ["changes"] spChecked)
    (hB : Has P w K mg base "letters_between" 2 ["one", "other", "turned"] spBetween) (hT : Has P w K mg base "turned_letters" 2 ["changes", "place", "length"] spTurned) : FnOk P w K mg base CX0 5 f fd ps3 spRow := by
  refine okN F scRow (fun vs H Q E h => ?_) (fun cdv A outer s H vs Q E hr h => ?_)
  · obtain ⟨z, y, v, chs, rfl, _⟩ := h
    rfl
  · obtain ⟨z, y, v, chs, rfl, hz, hy, hv, ok, q1, q2⟩ := h
    refine ⟨_, pss_cons (ps_expr (pe_h hCk hr (pa_cons (pv 0) pa_nil))) (pss_cons (ps_expr (pe_h hCk hr (pa_cons (pv 1) pa_nil)))
      (pss_cons (ps_set (i := 3) scRow.nd rfl (.inl rfl) (pe_h hCh hr (pa_cons (pv 2) pa_nil)))
      (pss_cons (ps_if (pt_cmpR op_ne (pe_callB call_len_str (by rfl) B.len PySem.boot_len (pa_cons (pv 0) pa_nil)) (pe_callB call_len_str (by rfl) B.len PySem.boot_len (pa_cons (pv 1) pa_nil)) (nomark _)) (pss_one (ps_ret pe_non)) pss_nil)
      (pss_cons (ps_set (i := 4) scRow.nd rfl (.inl rfl) (pe_lst (pa_cons (pv 0) pa_nil)))
      (pss_cons (ps_for PassesOwn.never rfl (pi_enumS (by rfl) B.enum (pa_cons (pv 1) pa_nil)) (pg_tup rfl (pgs_cons (pg_name (i := 5) scRow.nd rfl (.inl rfl)) (pgs_cons (pg_name (i := 6) scRow.nd rfl (.inl rfl)) pgs_nil)))
        (pss_cons (ps_set (i := 7) scRow.nd rfl (.inl rfl) (pe_h hB hr (pa_cons (pe_ix ix_str (pv 0) (pv 5) (fun _ _ => rfl)) (pa_cons (pv 6) (pa_cons (pe_h hT hr (pa_cons (pv 3) (pa_cons (pv 5) (pa_cons (pe_callB call_len_str (by rfl) B.len PySem.boot_len (pa_cons (pv 0) pa_nil)) pa_nil)))) pa_nil)))))
        (pss_cons (ps_if (pt_cmp (pc_isN (pv 7))) (pss_one (ps_ret pe_non)) pss_nil)
        (pss_one (ps_for PassesOwn.never rfl (pi_list (pv 7)) (pg_name (i := 8) scRow.nd rfl (.inl rfl)) (pss_one (ps_expr (pe_bm PySem.F.plainAttrs_list PySem.F.slot_list_append PySem.F.type_list_append mt_append (pv 4) (pa_cons
          (pe_op op_add_str (pe_op op_add_str (pe_slice sl_str (pv 1) po_none (po_some (pv 5))) (pv 8)) (pe_slice sl_str (pv 0) (po_some (pe_op op_add (pv 5) pe_int)) po_none)) pa_nil)))))))))
      (pss_one (ps_ret (pe_callTy call_tuple_of (by rfl) B.tuple (by decide +kernel) (pa_cons (pv 4) pa_nil))))))))), ?_⟩
    have z8 := hz.len
    have y8 := hy.len
    refine ⟨_, rfl, z, rfl, hz, fun Ha sa => ⟨_, rfl, y, rfl, hy, fun Hb sb => ?_⟩⟩
    refine ⟨_, rfl, v, chs, rfl, hv.same (sa.trans sb), ok, fun S H1 s1 hS => ?_⟩
    have s01 : Same H H1 := (sa.trans sb).trans s1
    refine ⟨_, rfl, _, rfl, lzl (by omega), _, rfl, _, rfl, lzl (by omega), rfl, _, rfl, ?_⟩
    rw [int_dec]
    refine ite_b (fun e => ?_) (fun e => ?_)
    · refine q2 (fun o => ?_) H1 s01
      have := o.1
      rw [codes_len, codes_len] at this
      rw [decide_eq_true (by omega)] at e
      cases e
    · have hl : z.length = y.length := by
        by_cases q : z.length = y.length
        · exact q
        · rw [decide_eq_false (by omega)] at e
          cases e
      refine ⟨_, rfl, lz, fun R hR => ?_⟩
      refine ⟨_, rfl, y, rfl, for_it walk_enumS (fun i σ H' => (∃ y5 y6 y7 y8, σ = [some (.str z), some (.str y), some v, some (.ref S), some (.ref R), y5, y6, y7, y8]) ∧ Same H1 H' ∧ (∃ xs, H' R = some (.lst xs) ∧ xs.length ≤ 1 + 26 * i) ∧ ∀ j a b, j < i → (codes z)[j]? = some a → (codes y)[j]? = some b → Conn (es chs j (codes z).length) b a)
        ⟨⟨_, _, _, _, rfl⟩, same_new hR, ⟨_, upd_same, by simp⟩, fun j a b hj => by omega⟩ (fun _ _ _ _ _ => trivial) ?_ ?_⟩
      · rintro i x σ H2 H3 hi ⟨⟨y5, y6, y7, y8', rfl⟩, s2, ⟨xs, hx, lx⟩, hc⟩ ⟨T, b, rfl, hT, hb, rfl⟩
        have sT : Same H2 (upd H2 T (.tup [.int i, .str (sign b)])) := same_new hT
        refine ⟨T, _, rfl, .inl (.inl upd_same), rfl, _, _, rfl, _, _, rfl, rfl, ?_⟩
        have hiz : i < (codes z).length := by rw [codes_len] at hi ⊢; omega
        obtain ⟨a, ha⟩ : ∃ a, (codes z)[i]? = some a := ⟨_, List.getElem?_eq_getElem hiz⟩
        have hbl : isLet b := (wd_codes.mp hy).2 b (List.mem_of_getElem? hb)
        have hxT : upd H2 T (.tup [.int i, .str (sign b)]) R = some (.lst xs) := sT _ _ hx
        have s2T : Same H1 (upd H2 T (.tup [.int i, .str (sign b)])) := s2.trans sT
        generalize upd H2 T (.tup [.int i, .str (sign b)]) = H3 at hxT s2T
        refine ⟨_, rfl, _, rfl, z, _, a, rfl, rfl, lzl (by omega), atI_nat ha, _, rfl, _, rfl, _, rfl, _, rfl, _, rfl, lzl (by omega), S, chs, i, z.length, rfl, hS.same s2T, ok, fun D H4 s4 t4 => ?_⟩
        rw [← codes_len z] at t4
        refine ⟨a, b, D, es chs i (codes z).length, rfl, hbl, t4, es_ok ok.2 _ _, Nat.le_trans (es_len _ _ _) ok.1, fun cc L cs H5 hLn s5 hL hcs => ?_, fun nc H5 s5 => ?_⟩
        · refine ⟨_, rfl, _, rfl, iteF ⟨_, rfl, L, rfl, ⟨_, .inl (.inl hL)⟩, ?_⟩⟩
          have nLR : R ≠ L := ne_of_none (s4 _ _ hxT) hLn
          refine for_it (walk_list (K := K) (a := L) (xs := cs.map sgV)) (fun j σ H' => (∃ y8, σ = [some (.str z), some (.str y), some v, some (.ref S), some (.ref R), some (.int i), some (sgV b), some (.ref L), y8]) ∧ Same H1 H' ∧ H' L = some (.lst (cs.map sgV)) ∧ ∃ xs, H' R = some (.lst xs) ∧ xs.length ≤ 1 + 26 * i + j)
            ⟨⟨_, rfl⟩, s2T.trans (s4.trans s5), hL, ⟨xs, s5 _ _ (s4 _ _ hxT), by omega⟩⟩ (fun j σ H' _ h => .inl (.inl h.2.2.1)) ?_ ?_
          · rintro j x σ H6 H7 hj ⟨⟨y9, rfl⟩, s6, hL6, xs', hx6, lx6⟩ ⟨rfl, hxj⟩
            rw [List.getElem?_map] at hxj
            obtain ⟨c, hcj, rfl⟩ := Option.map_eq_some_iff.mp hxj
            have l1 : (cutS y none (some (i : Int))).length ≤ 8 := Nat.le_trans (cut_len _ _ _) y8.2
            have l2 : (cutS z (some ((i : Int) + 1)) none).length ≤ 8 := Nat.le_trans (cut_len _ _ _) z8.2
            have l3 : (sign c).length = 1 := rfl
            refine ⟨_, rfl, .inl ⟨rfl, _, .inl (.inl hx6)⟩, ?_⟩
            refine ⟨_, rfl, ⟨_, rfl, _, rfl, y, rfl, lzl (by omega), _, rfl, _, _, rfl, rfl, lzl (by omega), _, rfl, _, rfl, _, _, rfl, rfl, _, rfl, z, rfl, lzl (by omega), _, _, rfl, rfl, lzl (by rw [add_len]; omega), ?_⟩⟩
            refine ⟨R, xs', _, rfl, rfl, hx6, small1000 (by rw [codes_len] at hi; rw [List.length_map] at hj; omega), ⟨_, rfl⟩, same_mut s6 hR, ?_, _, upd_same, ?_⟩
            · rw [upd_ne nLR.symm]
              exact hL6
            · rw [List.length_append, List.length_singleton]
              omega
          · rintro σ H6 ⟨⟨y9, rfl⟩, s6, hL6, xs', hx6, lx6⟩
            refine ⟨⟨_, _, _, _, rfl⟩, s6, ⟨xs', hx6, ?_⟩, fun j a' b' hj h1 h2 => ?_⟩
            · rw [List.length_map] at lx6
              omega
            · by_cases hji : j < i
              · exact hc j a' b' hji h1 h2
              · have : j = i := by omega
                subst this
                rw [ha] at h1
                rw [hb] at h2
                cases h1
                cases h2
                exact cc
        · refine ⟨_, rfl, _, rfl, iteT ?_⟩
          exact q2 (fun o => nc (o.2 i a b ha hb)) H5 (s01.trans (s2T.trans (s4.trans s5)))
      · rintro σ H2 ⟨⟨y5, y6, y7, y8', rfl⟩, s2, ⟨xs, hx, lx⟩, hc⟩
        refine ⟨_, rfl, R, xs, rfl, .inl ⟨.inl (.inl hx), fun l hl2 => ?_⟩⟩
        refine q1 ⟨by rw [codes_len, codes_len]; exact hl, fun j a b h1 h2 => hc j a b ?_ h1 h2⟩ l xs _ (s01.trans (s2.trans (same_new hl2))) upd_same
        exact (List.getElem?_eq_some_iff.mp h2).1
def spAre : Sp := fun vs H Q _ => ∃ (z y : Str) (v : V) (chs : List Chg), vs = [.str z, .str y, v] ∧ IsWd z ∧ IsWd y ∧ ChV H v chs ∧ OkCs chs ∧
  ∀ (b : Bool) (H' : Hp), Same H H' → (b = true ↔ OneP chs z y) → Q (.bl b) H'
theorem scAre : FnScope ps3 ps3 (defScope wAre) := ⟨rfl, rfl, rfl, by decide +kernel, rfl, by decide +kernel, by decide +kernel⟩
theorem ok_are (F : FunN K "are_one" wAre f fd) (hR : HasN P w K mg base "row_between" wRow 5 ps3 spRow) : FnOk P w K mg base CX0 6 f fd ps3 spAre := by
  refine okN F scAre (fun vs H Q E h => ?_) (fun cdv A outer s H vs Q E hr h => ?_)
  · obtain ⟨z, y, v, chs, rfl, _⟩ := h
    rfl
  · obtain ⟨z, y, v, chs, rfl, hz, hy, hv, ok, q⟩ := h
    obtain ⟨f1, fd1, F1, m1, N1⟩ := hR
    have b1 := bind3 N1 (.inl rfl)
    refine ⟨_, pss_one (ps_ret (pe_cmp (pc_notN (pe_call F1 hr rfl m1 N1.kp b1 .nil pass0 (pa_cons (pv 0) (pa_cons (pv 1) (pa_cons (pv 2) pa_nil))))))), ?_⟩
    refine ⟨_, rfl, _, rfl, _, rfl, z, y, v, chs, rfl, hz, hy, hv, ok, fun o T xs H1 s1 hT => ?_, fun no H1 s1 => ?_⟩
    · exact q true H1 s1 ⟨fun _ => o, fun _ => rfl⟩
    · exact q false H1 s1 ⟨(fun e => by cases e), fun o => absurd o no⟩
theorem room64 {k : Nat} {A : Around} (r : Room k A) : A.units + 64 < cLine := by have := r.un; omega
end
end Wl




/-! An exception that was caught, as a tracked object: isinstance of it, its fields. -/
namespace Wl
open PySem PySem.Spec PyProof.Rows L2
/-- at a: a caught exception, its class, its own dict; its context is None -/
def exH (a : Addr) (cls : Value) (d : Option Addr) : HO := .ext fun h => ∃ (vs : Array Value) (sl : Array (Option Value)), h.get? a = some ⟨cls, d, .fields vs, sl⟩ ∧ vs[2]? = some .none
section
variable {P : Program} {w : World} {H : Hp} {h : Heap} {a : Addr} {cls : Value} {d : Option Addr}
theorem exH_ok {oe : Obj} {vs : Array Value} (he : h.get? a = some oe) (hz : L2N.Zn cls d oe) (hd : oe.data = .fields vs) : ObjOk P w H h a (exH a cls d) := by
  obtain ⟨c0, d0, dt, sl⟩ := oe
  obtain ⟨e1, e2, e3⟩ := hz
  obtain rfl : c0 = cls := e1
  obtain rfl : d0 = d := e2
  obtain rfl : dt = .fields vs := hd
  refine ⟨⟨vs, sl, he, e3 vs rfl⟩, ⟨_, he⟩, fun h1 h2 z k => ?_⟩
  obtain ⟨vs', sl', q, c⟩ := z
  exact ⟨vs', sl', k _ q, c⟩
theorem exH_at (hok : HOk P w H h) (e : H a = some (exH a cls d)) : ∃ (vs : Array Value) (sl : Array (Option Value)), h.get? a = some ⟨cls, d, .fields vs, sl⟩ ∧ vs[2]? = some .none := by
  have x : ObjOk P w H h a (exH a cls d) := hok a _ e
  exact x.1
theorem exH_hot {A : Around} (hok : HOk P w H h) (e : H a = some (exH a cls d)) (hh : A.handled = some (.ref a)) : HotX.HotAt A a h := by
  obtain ⟨vs, sl, q, c⟩ := exH_at hok e
  exact ⟨hh, _, vs, q, rfl, c⟩
theorem exH_tup {xs : List V} : exH a cls d ≠ .tup xs := fun z => by
  have z' : HO.ext _ = HO.tup xs := z
  cases z'
theorem exH_ne {o : HO} (hn : ∀ φ, o ≠ .ext φ) : exH a cls d ≠ o := fun z => hn _ z.symm
end
/-- what isinstance asks of an exception's class, and of its own dict -/
structure ExK (K : PySem.W.Frag) (C : Addr) : Prop where
  cl : (PySem.W.clsIn K C).isSome = true
  ga : PySem.W.findIn K (.ref C) "__getattribute__" = some (some (.builtin "BaseException.__getattribute__"))
  gg : PySem.W.findIn K (.ref C) "__getattr__" = some none
  sub : PySem.W.subIn K (.ref C) (.type "BaseException") = some true
  ca : PySem.W.findIn K (.ref C) "__class__" = some (some (.builtin "object.__class__"))
  gn : PySem.W.specialIn K (.builtin "object.__class__") "__get__" = some (some (.builtin "getset_descriptor.__get__"))
  tk : PySem.W.takesIn K (.builtin "object.__class__") = some true
  mo : PySem.W.mroIn K C (.type "object") = some true
/-- its own dict, if it has one, is tracked -/
def DxOk (H : Hp) (d : Option Addr) : Prop := ∀ dd, d = some dd → ∃ fs, H dd = some (.xd fs)
section
variable {X : Cx}
theorem inst_of {pins : List (Addr × Obj)} {σ : L2.St} {H : Hp} {s : Shared} {a C : Addr} {d : Option Addr} (I : Inv X pins σ H s) (e : H a = some (exH a (.ref C) d)) (hd : DxOk H d) : ∃ ox od, PySem.W.InstAt s.heap a ox C od := by
  obtain ⟨vs, sl, q, _⟩ := exH_at I.hok e
  cases d with
  | none => exact ⟨_, none, q, rfl, rfl, trivial⟩
  | some dd =>
    obtain ⟨fs, hf⟩ := hd dd rfl
    have hx : ObjOk X.prog X.w H s.heap dd (.xd fs) := I.hok dd _ hf
    obtain ⟨mA, hns, _⟩ := hx
    obtain ⟨od, ho, _⟩ := lookIn_ns hns
    exact ⟨_, some od, q, rfl, rfl, ho⟩
theorem kit_exc {C a : Addr} {ox : Obj} {od : Option Obj} {K : PySem.W.Frag} (E : ExK K C) : PySem.W.KitX K (.ref a) (.ref C) (fun h => PySem.W.InstAt h a ox C od) :=
  PySem.W.kitx_exc E.cl E.ga E.gg E.sub E.ca E.gn E.tk E.mo
/-- isinstance(e, c) -/
def rIsX (K : PySem.W.Frag) : List V → Hp → VK → Prop := fun xs H Q => ∃ (a C : Addr) (d : Option Addr) (c : V) (cv : Value) (b : Bool), xs = [.ref a, c] ∧ H a = some (exH a (.ref C) d) ∧ DxOk H d ∧ ExK K C ∧ ClsV c cv ∧ PySem.W.kitOne K (.ref C) cv = some b ∧ Q (.bl b) H
theorem call_isX : CallR X (.builtin "isinstance") (rIsX X.K) := by
  intro pins s σ H xs us Q I r h
  obtain ⟨a, C, d, c, cv, b, rfl, ea, hd, E, hc, hk, q⟩ := h
  cases r with
  | cons rx rr =>
    cases rr with
    | cons rt rr =>
      cases rr
      cases rx
      obtain rfl := hc.eq rt
      obtain ⟨ox, od, J⟩ := inst_of I ea hd
      exact PySem.W.kia_one (kit_exc E) I.kIn J hk (fun z => nomatch z) fun tk => ⟨.bl b, H, I.kept (t' := tk) fun _ _ z => z, rfl, q⟩
/-- isinstance(e, (c, ..)) -/
def rIsXT (K : PySem.W.Frag) : List V → Hp → VK → Prop := fun xs H Q => ∃ (a C : Addr) (d : Option Addr) (tp : Addr) (cs : List V) (us : List Value) (b : Bool), xs = [.ref a, .ref tp] ∧ H a = some (exH a (.ref C) d) ∧ DxOk H d ∧ ExK K C ∧
  H tp = some (.tup cs) ∧ Paired ClsV cs us ∧ PySem.W.kitAny K (.ref C) us = some b ∧ Q (.bl b) H
theorem call_isXT : CallR X (.builtin "isinstance") (rIsXT X.K) := by
  intro pins s σ H xs us Q I r h
  obtain ⟨a, C, d, tp, cs, uc, b, rfl, ea, hd, E, ht, hp, hk, q⟩ := h
  cases r with
  | cons rx rr =>
    cases rr with
    | cons rt rr =>
      cases rr
      cases rx
      cases rt
      obtain ⟨ox, od, J⟩ := inst_of I ea hd
      obtain ⟨z, its, rv, ⟨o, ho, hc, n, hdat⟩⟩ := I.hok tp _ ht
      obtain rfl := ClsV.all hp rv
      obtain ⟨c0, d0, dt, sl⟩ := o
      obtain rfl : c0 = .type "tuple" := hc
      obtain rfl : dt = .seq its.toArray n := hdat
      exact PySem.W.kia_tup (kit_exc E) I.kIn J ho hk (fun z => nomatch z) fun tk => ⟨.bl b, H, I.kept (t' := tk) fun _ _ z => z, rfl, q⟩
/-- e.f -/
def tXf (K : PySem.W.Frag) (f : Str) (te : TE) : TE := fun σ H Q => te σ H fun x H1 => ∃ (a C dd : Addr) (fs : List (Str × V)) (v : V), x = .ref a ∧ H1 a = some (exH a (.ref C) (some dd)) ∧ H1 dd = some (.xd fs) ∧ XfC K C ∧
  PySem.W.findIn K (.ref C) f = some none ∧ fs.lookup f = some v ∧ Q v H1
theorem pe_xf {e : Expr} {te : TE} {pos : Pos} {n : Str} (he : PE X e te) (hb : attributeBase e n X.env (eval e X.env) = eval e X.env := by rfl) : PE X (.Attribute e n pos) (tXf X.K n te) := by
  refine ⟨fun pins s σ H Q I h => ?_⟩
  refine attr_of hb (thn (he.run pins s σ H _ I h) fun u s1 hh => ?_)
  obtain ⟨x, H1, I1, rx, a, C, dd, fs, v, rfl, ea, ed, T, hno, hl, q⟩ := hh
  obtain rfl : u = Value.ref a := rx
  obtain ⟨vs, sl, hobj, _⟩ := exH_at I1.hok ea
  have hx : ObjOk X.prog X.w H1 s1.heap dd (.xd fs) := I1.hok dd _ ed
  obtain ⟨mA, hns, hr⟩ := hx
  obtain ⟨od, ho, hlk⟩ := lookIn_ns hns
  obtain ⟨u, hu, ru⟩ := RelO.some_of (v := v) (o := mA n) (by rw [← hl]; exact hr n)
  have J : PySem.W.InstAt s1.heap a _ C (some od) := ⟨hobj, rfl, rfl, ho⟩
  exact HandSPX.exc_get I1.kIn J T.ga T.gg T.exC (PySem.W.findObj_own T.hdC hno rfl (by rw [hlk, hu])) (handed_of ru) ⟨v, H1, I1.tok _, ru, q⟩
end
/-! a new object of the state is tracked -/
theorem Inv_track {X : Cx} {pins : List (Addr × Obj)} {σ : L2.St} {H : Hp} {s : Shared} {a : Addr} {o : HO} (I : Inv X pins σ H s) (na : H a = none) (h0 : X.s_0.heap.get? a = none) (hL : a ≠ X.env.locals) (hc : ∀ x c, X.env.cells.lookup x = some c → c ≠ a)
    (hp : ∀ p ∈ X.pn ++ pins, p.1 ≠ a) (ok : ObjOk X.prog X.w (upd H a o) s.heap a o) : Inv X pins σ (upd H a o) s := by
  have ne : ∀ {b u}, H b = some u → b ≠ a := fun {b u} e z => by
    rw [z, na] at e
    cases e
  refine ⟨I.ok, I.os, I.bare, ⟨I.base.keep, I.base.slot, fun b u e n hx => ?_, I.base.there, fun b xs e => ?_, fun b u v e => ?_, fun b ps e => ?_⟩, I.loc, I.cell, ?_, fun x c e => ?_, fun p h => ?_, fun b u e => ?_, I.len⟩
  · rw [upd_ne fun z => by rw [z, h0] at e; cases e]
    exact I.base.free b u e n hx
  · have q := I.base.tups b xs e
    rw [upd_ne (ne q)]
    exact q
  · have q := I.base.frzs b u v e
    rw [upd_ne (ne q)]
    exact q
  · obtain ⟨more, q⟩ := I.base.tbls b ps e
    exact ⟨more, by rw [upd_ne (ne q)]; exact q⟩
  · rw [upd_ne (Ne.symm hL)]
    exact I.free
  · rw [upd_ne (hc x c e)]
    exact I.freeC x c e
  · obtain ⟨q1, q2, q3, q4, q5⟩ := I.pin p h
    exact ⟨q1, by rw [upd_ne (hp p h)]; exact q2, q3, q4, q5⟩
  · by_cases hb : b = a
    · subst hb
      rw [upd_same] at e
      cases e
      exact ok
    · rw [upd_ne hb] at e
      exact (I.hok b u e).stay (fun c v _ q => q) (fun c hc => by rw [upd_ne (ne hc)]; exact hc) (fun c xs hc => by rw [upd_ne (ne hc)]; exact hc)
end Wl

/-! try .. except (A, B, C) as e, several clauses; the exception that was caught is tracked. -/
namespace Wl
open PySem PySem.Spec PyProof.Rows L2
theorem flying_keeps {B h h' : Heap} {l : List Env} {a : Addr} {Z : Obj → Prop} (fl : HandSPX.FlyingZ B l a Z h) (k : ∀ b o, h.get? b = some o → h'.get? b = some o) : HandSPX.FlyingZ B l a Z h' := by
  obtain ⟨f1, f2, f3, oe, vs, T, oT, ts, he, hz, hd, h1, hnT, hTe, hT, hdT, h3⟩ := fl
  exact ⟨fun b o e => k b o (f1 b o e), f2, f3.of_keeps fun b o e _ => ⟨o, k b o e, rfl⟩, oe, vs, T, oT, ts, k _ _ he, hz, hd, h1, hnT, hTe, k _ _ hT, hdT, h3⟩
theorem up_keeps {h h' : Heap} (k : ∀ b o, h.get? b = some o → h'.get? b = some o) : h.UpToSlots h' := Heap.UpToSlots.of_keeps k
/-- a clause's test: m tells of a class whether it is asked for -/
structure TestOk (X : Cx) (t : Expr) (m : Value → Option Bool) : Prop where
  run : ∀ (a : Addr) (pn pins : List (Addr × Obj)) (σ : L2.St) (H : Hp) (s : Shared) (cls : Value) (b : Bool) (Q : Bool → Shared → Prop) (E : Value → Shared → Prop), Inv (X.suite a pn) pins σ H s → m cls = some b →
    PySem.W.Looks (model X.prog X.w) s.heap (typeOf (.ref a)) cls → (∀ h' t', (∀ c o, s.heap.get? c = some o → h'.get? c = some o) → Q b { s with heap := h', toks := t' }) →
    wpAny (model X.prog X.w) (X.A.mark (some (.ref a))) (eval t X.env) (fun c s1 => wpAny (model X.prog X.w) (X.A.mark (some (.ref a))) (excMatches (.ref a) c) Q E s1) E s
theorem test_one {X : Cx} {x : Str} {c : Value} {np : Pos} (hc : Names X x c) : TestOk X (.Name x np) (fun cls => PySem.W.exmOne X.K cls c) := by
  refine ⟨fun a pn pins σ H s cls b Q E I hm LT q => ?_⟩
  have LM := PySem.W.exm_one (M := model X.prog X.w) I.kIn LT hm
  have go : wpAny (model X.prog X.w) (X.A.mark (some (.ref a))) (excMatches (.ref a) c) Q E s := LM.here (q s.heap s.toks fun _ _ z => z)
  obtain ⟨hg, hdbg, hg1 | ⟨hg1, hv, hnn⟩⟩ := hc
  · exact ld_glob (X := X.suite a pn) I hg hg1 go hdbg
  · exact ld_blt (X := X.suite a pn) I hg hg1 hv go hnn hdbg
theorem test_tup3 {X : Cx} {x1 x2 x3 : Str} {c1 c2 c3 : Value} {p1 p2 p3 tp : Pos} {k : Nat} (g1 : Gl X x1) (m1 : X.mg x1 = some c1) (g2 : Gl X x2) (m2 : X.mg x2 = some c2) (g3 : Gl X x3) (m3 : X.mg x3 = some c3)
    (d1 : (x1 == ("__debug__" : Str)) = false := by decide) (d2 : (x2 == ("__debug__" : Str)) = false := by decide) (d3 : (x3 == ("__debug__" : Str)) = false := by decide) :
    TestOk X (.Tuple [.Name x1 p1, .Name x2 p2, .Name x3 p3] k tp) (fun cls => PySem.W.exmAny X.K cls [c1, c2, c3]) := by
  refine ⟨fun a pn pins σ H s cls b Q E I hm LT q => ?_⟩
  refine wpAny_Tuple_spliced ?_
  show wpAny _ _ (spliced [(false, eval (.Name x1 p1) X.env), (false, eval (.Name x2 p2) X.env), (false, eval (.Name x3 p3) X.env)]) _ _ s
  refine Calls.spliced_cons (ld_glob (X := X.suite a pn) I g1 m1 ?_ d1)
  refine Calls.spliced_cons (ld_glob (X := X.suite a pn) I g2 m2 ?_ d2)
  refine Calls.spliced_cons (ld_glob (X := X.suite a pn) I g3 m3 ?_ d3)
  refine Calls.spliced_nil ⟨by show 3 ≤ sizeLine; decide, ?_⟩
  have kp : ∀ c o, s.heap.get? c = some o → (s.heap.push { cls := .type "tuple", data := .seq [c1, c2, c3].toArray }).get? c = some o := fun c o e => Heap.get?_push_of_some _ e
  have LM := PySem.W.exm_tup3 (M := model X.prog X.w) (I.kIn.keeps kp) (LT.keeps kp) (Heap.get?_push_size s.heap (o := { cls := .type "tuple", data := .seq [c1, c2, c3].toArray }) rfl) hm
  exact LM.here (q _ s.toks kp)
/-- what a suite does, the caught exception's address first -/
abbrev ClT := Addr → TS
/-- the clauses, one after the other; Wout: none of them asks for it -/
def wCls (Wout : WX) (D : Ends) : List ((Value → Option Bool) × ClT) → WX
  | [] => Wout
  | (m, ts) :: r => fun cls d σ H => ∃ b, m cls = some b ∧ (b = true → ∀ a, H a = none → ts a D σ (upd H a (exH a cls d))) ∧ (b = false → wCls Wout D r cls d σ H)
/-- .. as n, n in slot i: the name goes behind the suite -/
def tAs (i : Nat) (ts : ClT) : ClT := fun a D σ H => ts a { nx := fun σ' H' => D.nx (σ'.set i none) H', rt := D.rt, bk := fun σ' H' => D.bk (σ'.set i none) H', ct := fun σ' H' => D.ct (σ'.set i none) H' } (σ.set i (some (.ref a))) H
inductive HdsE (X : Cx) : List ExceptHandler → List ((Value → Option Bool) × ClT) → Prop
  | nil : HdsE X [] []
  | one {t : Expr} {m : Value → Option Bool} {ts : ClT} {b₀ : Stmt} {suite : List Stmt} {pos' : Pos} {hds : List ExceptHandler} {l : List ((Value → Option Bool) × ClT)} (ht : TestOk X t m)
      (hsu : ∀ (a : Addr) (pn : List (Addr × Obj)), PSs (X.suite a pn) (b₀ :: suite) (ts a)) (r : HdsE X hds l) : HdsE X (.ExceptHandler (some t) none (b₀ :: suite) pos' :: hds) ((m, ts) :: l)
  | as {t : Expr} {m : Value → Option Bool} {ts : ClT} {i : Nat} {n : Str} {b₀ : Stmt} {suite : List Stmt} {pos' : Pos} {hds : List ExceptHandler} {l : List ((Value → Option Bool) × ClT)} (hi : X.N[i]? = some n) (hln : X.env.kindOf n = some .local) (ht : TestOk X t m)
      (hsu : ∀ (a : Addr) (pn : List (Addr × Obj)), PSs (X.suite a pn) (b₀ :: suite) (ts a)) (r : HdsE X hds l) : HdsE X (.ExceptHandler (some t) (some n) (b₀ :: suite) pos' :: hds) ((m, tAs i ts) :: l)
section
variable {X : Cx} {pins : List (Addr × Obj)} {σ : L2.St} {H : Hp} {s : Shared}
theorem inv_suite {a : Addr} (I : Inv X pins σ H s) : Inv (X.suite a (X.pn ++ pins)) [] σ H s :=
  ⟨I.ok.suite _ _, I.os, I.bare, I.base, I.loc, I.cell, I.free, I.freeC, fun p hp => I.pin p (by rw [List.append_nil] at hp; exact hp), I.hok, I.len⟩
theorem inv_unsuite {a : Addr} {q : List (Addr × Obj)} (I : Inv (X.suite a (X.pn ++ pins)) q σ H s) (ok : X.Ok) : Inv X pins σ H s :=
  ⟨ok, I.os, I.bare, I.base, I.loc, I.cell, I.free, I.freeC, fun p hp => I.pin p (List.mem_append_left _ hp), I.hok, I.len⟩
end
section
variable {X : Cx} {body : List Stmt} {h₀ : ExceptHandler} {hds : List ExceptHandler} {l : List ((Value → Option Bool) × ClT)} {pos : Pos} {tb : WX → TS} {Wout : WX}
theorem ps_tryE (hs : X.stack = X.env :: X.outer) (hf : X.env.frame = some X.env.locals) (hex : X.ex = []) (hN : X.N.Nodup) (tk : L2N.Takes X Wout)
    (hb : ∀ (W : WX) (pn : List (Addr × Obj)) (xe : Value → Shared → Prop), L2N.Takes (X.tr pn xe) W → PassesOwn (model X.prog X.w) X.A X.env xe → PSs (X.tr pn xe) body (tb W))
    (hh : HdsE X (h₀ :: hds) l) : PS X (.Try body (h₀ :: hds) [] [] pos) (fun D σ H => tb (wCls Wout D l) D σ H) := by
  constructor
  intro pins s σ H D I h
  have ok := I.ok
  have hfr : X.A.frames = some (X.env :: X.outer) := by rw [ok.frames, hs]
  refine wpAny_Try_except ?_
  refine wpAny_mono ((hb (wCls Wout D l) (X.pn ++ pins) (fun e sa => wpAny (model X.prog X.w) X.A (noteFrame e X.env) (fun _ sb => wpAny (model X.prog X.w) X.A (setFlight e none) (fun _ sc =>
    wpAny (model X.prog X.w) X.A (handleBy e X.env (h₀ :: hds)) (SP X pins D) X.xe sc) X.xe sb) X.xe sa) (fun u s' xx => ?_) PassesOwn.looking).run [] s σ H D (I.toTry _) h) (fun f s1 hsp => ?_) (fun e s1 he => he)
  · obtain ⟨a, B, sI, pq, σ1, H1, cls, d, rfl, J', nb, up, sky, na, os, ag, wq⟩ := xx
    have J : Inv X pins σ1 H1 sI := J'.ofTry ok
    have sky' : Sky B (X.env :: X.outer) a (L2N.Zn cls d) X.env.locals s'.heap := by rw [← hs]; exact sky
    show wpAny (model X.prog X.w) X.A (noteFrame (.ref a) X.env) _ _ _
    refine L2N.Sky.land L2N.Zn.steady hfr hf sky' fun h3 fl3 up3 => ?_
    -- what holds of any state behind the landing
    have nfr : ∀ {hx : Heap}, HandSPX.FlyingZ B (X.env :: X.outer) a (L2N.Zn cls d) hx → a ∉ frs (X.env :: X.outer) := fun {hx} fl hm => by
      obtain ⟨oe, vs, he, _, hd⟩ := fl.there
      obtain ⟨_, o', e', hnf⟩ := fl.2.2.1.mem hm
      rw [he] at e'
      cases e'
      exact hnf _ hd
    have naI : sI.heap.get? a = none := by
      cases q : sI.heap.get? a with
      | none => rfl
      | some o =>
        have z := nb a o q (by rw [hs]; exact nfr fl3)
        rw [fl3.2.1] at z
        cases z
    have na0 : X.s_0.heap.get? a = none := by
      cases q : X.s_0.heap.get? a with
      | none => rfl
      | some o =>
        obtain ⟨o', z⟩ := J.base.there a o q (by rw [hex]; simp)
        rw [naI] at z
        cases z
    have nL : a ≠ X.env.locals := fun z => nfr fl3 (List.mem_filterMap.mpr ⟨X.env, List.mem_cons_self, by rw [hf, z]⟩)
    -- the clauses, one by one, over a heap that holds the landed one
    have go : ∀ {hds' : List ExceptHandler} {l' : List ((Value → Option Bool) × ClT)}, HdsE X hds' l' → wCls Wout D l' cls d σ1 H1 → ∀ (h5 : Heap) (t5 : Nat), (∀ b o, h3.get? b = some o → h5.get? b = some o) →
        wpAny (model X.prog X.w) X.A (handleBy (.ref a) X.env hds') (SP X pins D) X.xe { s' with heap := h5, toks := t5 } := by
      intro hds' l' hk
      induction hk with
      | nil =>
        intro wq h5 t5 k5
        have fl5 := flying_keeps fl3 k5
        refine wpAny_handleBy_nil ?_
        obtain ⟨k1, k2, k3, oe, vs, T, oT, ts', he, hz, hd, h1, hr⟩ := id fl5
        unfold PySem.passOn
        refine wpAny_bind (wpAny_field he hd h1 ?_)
        rw [if_neg (show ¬ ((Value.ref T == Value.none) = true) from by simp)]
        have fin : wpAny (model X.prog X.w) X.A (setFlight (.ref a) X.env.frame) (fun _ s4 => wpAny (model X.prog X.w) X.A (throw (.ref a) : Sem Flow) (SP X pins D) X.xe s4) X.xe { s' with heap := h5, toks := t5 } := by
          rw [hf]
          refine HandSPX.setFlight_upZ fl5 fun h4 hh4 up4 => wpAny_throw (tk _ _ ?_)
          exact ⟨a, B, sI, pins, σ1, H1, cls, d, rfl, J, nb, ((up.trans up3).trans (up_keeps k5)).trans up4, .inr (.inr (by rw [hs]; exact hh4)), na, os, ag, wq⟩
        first
          | exact wpAny_bind (wpAny_pure (wpAny_bind fin))
          | exact wpAny_bind fin
      | @one t m ts b₀ suite pos' hds2 l2 ht hsu r ih =>
        intro wq h5 t5 k5
        obtain ⟨b, hb1, hyes, hno⟩ := wq
        have fl5 := flying_keeps fl3 k5
        have J5 : Inv X pins σ1 H1 { s' with heap := h5, toks := t5 } := (J.landed (s' := { s' with heap := h5, toks := t5 }) nb fl5.1 ((up.trans up3).trans (up_keeps k5)) os ag)
        obtain ⟨oe5, vs5, he5, hz5, hd5⟩ := fl5.there
        have LT : PySem.W.Looks (model X.prog X.w) h5 (typeOf (.ref a)) cls := fun A Q E s k q => wpAny_typeOf_ref (k _ _ he5) (by rw [hz5.1]; exact q)
        refine wpAny_handleBy_cons (codeAny_handlers_test (ht.run a (X.pn ++ pins) [] σ1 H1 { s' with heap := h5, toks := t5 } cls b _ _ (inv_suite J5) hb1 LT fun h6 t6 k6 => ?_)) (by intro q; cases q)
        cases b with
        | false =>
          show wpAny _ X.A (handleBy (.ref a) X.env hds2) _ _ _
          exact ih (hno rfl) h6 t6 fun c o e => k6 c o (k5 c o e)
        | true =>
          have fl6 := flying_keeps fl5 k6
          refine codeAny_handlers_suite ?_
          refine HandSPX.lands_againZ fl6 fun h7 fl7 up7 => ?_
          have J7 : Inv X pins σ1 H1 { s' with heap := h7, toks := t6 } := J.landed (s' := { s' with heap := h7, toks := t6 }) nb fl7.1 ((((up.trans up3).trans (up_keeps k5)).trans (up_keeps k6)).trans up7) os ag
          obtain ⟨oe7, vs7, he7, hz7, hd7⟩ := fl7.there
          have T7 : Inv X pins σ1 (upd H1 a (exH a cls d)) { s' with heap := h7, toks := t6 } := Inv_track J7 na na0 nL (fun x c e z => by
              obtain ⟨v, o, ho, hdat⟩ := J7.cell x c e
              have ho : h7.get? c = some o := ho
              rw [z, he7] at ho
              cases ho
              rw [hd7] at hdat
              cases hdat) (fun p hp z => by
              have q := (J.pin p hp).1
              rw [z, naI] at q
              cases q) (exH_ok he7 hz7 hd7)
          refine wpAny_mono ((hsu a (X.pn ++ pins)).run [] _ _ _ D (inv_suite T7) (hyes rfl a na)) (fun f s8 hsp => ?_) (fun _ _ z => False.elim z)
          cases f with
          | next =>
            obtain ⟨σ8, H8, S8, q8⟩ := hsp
            exact ⟨_, _, inv_unsuite S8 ok, q8⟩
          | brk =>
            obtain ⟨σ8, H8, S8, q8⟩ := hsp
            exact ⟨_, _, inv_unsuite S8 ok, q8⟩
          | cont =>
            obtain ⟨σ8, H8, S8, q8⟩ := hsp
            exact ⟨_, _, inv_unsuite S8 ok, q8⟩
          | ret u =>
            obtain ⟨v8, σ8, H8, S8, r8, q8⟩ := hsp
            exact ⟨_, _, _, inv_unsuite S8 ok, r8, q8⟩
      | @as t m ts i n b₀ suite pos' hds2 l2 hi hln ht hsu r ih =>
        intro wq h5 t5 k5
        obtain ⟨b, hb1, hyes, hno⟩ := wq
        have fl5 := flying_keeps fl3 k5
        have J5 : Inv X pins σ1 H1 { s' with heap := h5, toks := t5 } := (J.landed (s' := { s' with heap := h5, toks := t5 }) nb fl5.1 ((up.trans up3).trans (up_keeps k5)) os ag)
        obtain ⟨oe5, vs5, he5, hz5, hd5⟩ := fl5.there
        have LT : PySem.W.Looks (model X.prog X.w) h5 (typeOf (.ref a)) cls := fun A Q E s k q => wpAny_typeOf_ref (k _ _ he5) (by rw [hz5.1]; exact q)
        refine wpAny_handleBy_cons (codeAny_handlers_test (ht.run a (X.pn ++ pins) [] σ1 H1 { s' with heap := h5, toks := t5 } cls b _ _ (inv_suite J5) hb1 LT fun h6 t6 k6 => ?_)) (by intro q; cases q)
        cases b with
        | false =>
          show wpAny _ X.A (handleBy (.ref a) X.env hds2) _ _ _
          exact ih (hno rfl) h6 t6 fun c o e => k6 c o (k5 c o e)
        | true =>
          have fl6 := flying_keeps fl5 k6
          refine codeAny_handlers_suite_as ?_
          refine HandSPX.lands_againZ fl6 fun h7 fl7 up7 => ?_
          have J7 : Inv X pins σ1 H1 { s' with heap := h7, toks := t6 } := J.landed (s' := { s' with heap := h7, toks := t6 }) nb fl7.1 ((((up.trans up3).trans (up_keeps k5)).trans (up_keeps k6)).trans up7) os ag
          obtain ⟨oe7, vs7, he7, hz7, hd7⟩ := fl7.there
          have T7 : Inv X pins σ1 (upd H1 a (exH a cls d)) { s' with heap := h7, toks := t6 } := Inv_track J7 na na0 nL (fun x c e z => by
              obtain ⟨v, o, ho, hdat⟩ := J7.cell x c e
              have ho : h7.get? c = some o := ho
              rw [z, he7] at ho
              cases ho
              rw [hd7] at hdat
              cases hdat) (fun p hp z => by
              have q := (J.pin p hp).1
              rw [z, naI] at q
              cases q) (exH_ok he7 hz7 hd7)
          refine store_ok (X := X.suite a (X.pn ++ pins)) (v := .ref a) (inv_suite T7) hN hi (.inl hln) rfl (fun s5 S5 => ?_) (.inr hln)
          refine wpAny_mono ((hsu a (X.pn ++ pins)).run [] s5 _ _ _ S5 (hyes rfl a na)) (fun f s8 hsp => ?_) (fun _ _ z => False.elim z)
          have end_ : ∀ {σ6 : L2.St} {H6 : Hp} {Q : Shared → Prop}, Inv (X.suite a (X.pn ++ pins)) [] σ6 H6 s8 → (∀ s7, Inv X pins (σ6.set i none) H6 s7 → Q s7) →
              wpAny (model X.prog X.w) X.A (do bindName X.env n .none; unbindBehindTheSuite X.env n pos') (fun _ s7 => Q s7) X.xe s8 := fun {σ6 H6 Q} S6 hq => gone_ok (inv_unsuite S6 ok) hN hi hln hq
          cases f with
          | next =>
            obtain ⟨σ8, H8, S8, q8⟩ := hsp
            exact end_ S8 fun s9 J9 => ⟨_, _, J9, q8⟩
          | brk =>
            obtain ⟨σ8, H8, S8, q8⟩ := hsp
            exact end_ S8 fun s9 J9 => ⟨_, _, J9, q8⟩
          | cont =>
            obtain ⟨σ8, H8, S8, q8⟩ := hsp
            exact end_ S8 fun s9 J9 => ⟨_, _, J9, q8⟩
          | ret u =>
            obtain ⟨v8, σ8, H8, S8, r8, q8⟩ := hsp
            exact end_ S8 fun s9 J9 => ⟨_, _, _, J9, r8, q8⟩
    exact go hh wq h3 s'.toks fun _ _ z => z
  · cases f with
    | next =>
      obtain ⟨σ', H', J', q⟩ := hsp
      exact wpAny_execs_nil ⟨σ', H', J'.ofTry ok, q⟩
    | brk =>
      obtain ⟨σ', H', J', q⟩ := hsp
      exact ⟨σ', H', J'.ofTry ok, q⟩
    | cont =>
      obtain ⟨σ', H', J', q⟩ := hsp
      exact ⟨σ', H', J'.ofTry ok, q⟩
    | ret u =>
      obtain ⟨v, σ', H', J', r, q⟩ := hsp
      exact ⟨v, σ', H', J'.ofTry ok, r, q⟩
theorem takes_noN {X : Cx} : L2N.Takes X (fun _ _ _ _ => False) := fun _ _ ⟨_, _, _, _, _, _, _, _, _, _, _, _, _, _, _, _, z⟩ => z.elim
end
end Wl

/-! Own exceptions over ValueError, LookupError or ArithmeticError, whose __init__ stores its one argument under its own name; raised. -/
namespace Wl
open PySem PySem.Spec PyProof.Rows L2
/-- a built-in base of an own exception -/
structure BaseX (B newId initId : String) (bm : List Value) : Prop where
  base : ExcBaseFacts B newId initId bm
  store : StoreFacts B bm "object.__setattr__" "object"
theorem baseVE : BaseX "ValueError" "ValueError.__new__" "ValueError.__init__" [.type "ValueError", .type "Exception", .type "BaseException", .type "object"] := ⟨F.excBase_ValueError, F.store_ValueError⟩
theorem baseLE : BaseX "LookupError" "LookupError.__new__" "LookupError.__init__" [.type "LookupError", .type "Exception", .type "BaseException", .type "object"] := ⟨F.excBase_LookupError, F.store_LookupError⟩
theorem baseAE : BaseX "ArithmeticError" "ArithmeticError.__new__" "ArithmeticError.__init__" [.type "ArithmeticError", .type "Exception", .type "BaseException", .type "object"] := ⟨F.excBase_ArithmeticError, F.store_ArithmeticError⟩
/-- the first store into an exception -/
theorem osa_first {prog : Program} {w : World} {A : Around} {R : Result → Shared → Prop} {hp : Heap} {g : Array GenState} {d : Drawn} {t : Nat} {os : OsState} {K : PySem.W.Frag} {name : Str} {tk : Tok} {v : Value} {x C : Addr} {fv : Array Value} {B newId initId : String} {bm : List Value}
    (BX : BaseX B newId initId bm) (X : K.In hp) (hx : hp.get? x = some { cls := .ref C, data := .fields fv }) (ho : PySem.W.excOver K C bm = true) (hh : PySem.W.hasDictIn K C = true) (ht : PySem.W.takerIn K C name = some none)
    (hq : ∀ h' tk' dx, (∀ b o, b ≠ x → hp.get? b = some o → h'.get? b = some o) → hp.objs.size ≤ dx → dx ≠ x → h'.get? x = some { cls := .ref C, dict := some dx, data := .fields fv } →
      h'.Ns1 dx (fun y => if y = name then some v else none) → R (.ok (.ret .none)) ⟨h', g, d, tk', os⟩) :
    codeAny (model prog w) A (.call (.builtin "object.__setattr__") ⟨[.ref x, .str name tk, v], []⟩) R ⟨hp, g, d, t, os⟩ := by
  have hxs : x ≠ hp.objs.size := Nat.ne_of_lt (Heap.lt_size hx)
  obtain ⟨cd, hc, hd⟩ := PySem.W.any_some hh
  have hcls : PySem.W.Looks (model prog w) hp (classData C) cd := PySem.W.looks_clsIn X hc
  refine PySem.W.osa_openX (s := ⟨hp, g, d, t, os⟩) (od := none) BX.store X ⟨hx, rfl, rfl, trivial⟩ ho ht fun b => ?_
  show wpAny _ _ (Builtin.ObjectAttr.storeInOwnDict (.ref x) (.ref C) (.str name tk) name v b) _ _ _
  obtain ⟨nm, bs, mro, ns, qn, hdd, sn, sb, ab, col, del⟩ := cd
  dsimp only at hd
  subst hd
  unfold Builtin.ObjectAttr.storeInOwnDict Builtin.ObjectAttr.ownDictForStores
  repeat (first | with_reducible refine PySem.HandSPX.store_in_new ?_ ?_ | with_reducible refine wpAny_loadPart_at hx ?_ | with_reducible refine hcls.at ?_ | wp_step)
  · exact ⟨_, #[], _, (Heap.get?_update_ne _ _ _ _ hxs.symm).trans (Heap.get?_push_at rfl rfl), rfl, fun e he => absurd he (by simp), fun _ => rfl⟩
  · intro h' tk' hn' hs
    have h1 : (hp.push { cls := .type "dict", data := .dict #[] }).get? x = some { cls := .ref C, data := .fields fv } := Heap.get?_push_of_some _ hx
    refine hq h' tk' hp.objs.size (fun b o hb ho => ?_) (Nat.le_refl _) hxs.symm ?_ hn'
    · exact (hs.2 b (Nat.ne_of_lt (Heap.lt_size ho))).trans ((Heap.get?_update_ne _ _ _ _ hb).trans (Heap.get?_push_of_some _ ho))
    · exact (hs.2 x hxs).trans (Heap.get?_update_self _ h1 rfl)
/-- what the written part says of the own exception class x, at C, whose __init__ (self, f) stores f -/
structure OwnX (K : PySem.W.Frag) (mg : Str → Option Value) (x f : Str) (C : Addr) : Prop where
  gC : mg x = some (.ref C)
  kC : PySem.W.keepIn K (.ref C) = true
  bas : ∃ B newId initId bm, BaseX B newId initId bm ∧ PySem.W.excInitIn K C bm newId = true ∧ PySem.W.excOver K C bm = true
  sa : PySem.W.findIn K (.ref C) "__setattr__" = some (some (.builtin "object.__setattr__"))
  tk : PySem.W.takerIn K C f = some none
  no : PySem.W.findIn K (.ref C) f = some none
  exC : PySem.W.subIn K (.ref C) (.type "BaseException") = some true
  tyC : PySem.W.typeIn K (.ref C) = some (.type "type")
  hdC : PySem.W.hasDictIn K C = true
  ini : ∃ (fI : Addr) (fd : FuncData) (q : Str) (st : Stmt) (q1 q2 q3 q4 : Pos), PySem.W.findIn K (.ref C) "__init__" = some (some (.ref fI)) ∧ PySem.W.typeIn K (.ref fI) = some (.type "function") ∧ Fun K "__init__" q st fI fd ∧
    Binds K fd ["self", f] [] ∧ FnScope ["self", f] ["self", f] (defScope st) ∧ (∀ y ∈ (["self", f] : List Str), (defScope st).names.lookup y = some .local) ∧ defBody st = [.Assign [.Attribute (.Name "self" q1) f q2] (.Name f q3) q4]
/-- what __init__ leaves of a fresh exception at x -/
structure InitDone (h h' : Heap) (x C dx t1 : Addr) (f : Str) (v : Value) : Prop where
  keep : ∀ b o, b ≠ x → h.get? b = some o → h'.get? b = some o
  obj : h'.get? x = some { cls := .ref C, dict := some dx, data := .fields #[.ref t1, .none, .none, .none, .bool false, .none] }
  dbig : h.objs.size ≤ dx
  dne : dx ≠ x
  ns : h'.Ns1 dx (fun y => if y = f then some v else none)
/-- a made one -/
structure MadeX (h h' : Heap) (e C d : Addr) (f : Str) (v : Value) : Prop where
  keep : ∀ b o, h.get? b = some o → h'.get? b = some o
  new : h.objs.size ≤ e
  obj : ∃ vs, h'.get? e = some { cls := .ref C, dict := some d, data := .fields vs } ∧ vs[1]? = some .none ∧ vs[2]? = some .none
  dbig : h.objs.size ≤ d
  dne : d ≠ e
  ns : h'.Ns1 d (fun y => if y = f then some v else none)
theorem one_line (v : Value) : [v].length ≤ sizeLine := by
  show 1 ≤ sizeLine
  decide
section
variable {prog : Program} {w : World} {A : Around} {R : Result → Shared → Prop} {s : Shared} {K : PySem.W.Frag} {mg : Str → Option Value} {x f : Str} {C : Addr}
theorem own_init (T : OwnX K mg x f C) (nf : f ≠ "self") (ndb : (f == ("__debug__" : Str)) = false) {e t0 fI : Addr} {v : Value} (hfI : PySem.W.findIn K (.ref C) "__init__" = some (some (.ref fI))) (X : K.In s.heap) (hlim : s.heap.NoLimit) (hx : s.heap.get? e = some (HandSPX.excO C t0)) (hnx : K.lookup e = none) (hroom : A.depth < recursionLimit)
    (hq : ∀ h' tk dx, InitDone s.heap h' e C dx t0 f v → R (.ok (.ret .none)) { s with heap := h', toks := tk }) : codeAny (model prog w) A (.call (.ref fI) ⟨[.ref e, v], []⟩) R s := by
  obtain ⟨f2, fd, q, st, q1, q2, q3, q4, hf2, tI, hF, hB, hS, hL, hbody⟩ := T.ini
  obtain rfl : f2 = fI := by
    rw [hfI] at hf2
    cases hf2
    rfl
  obtain ⟨oc, od, kV, doc, pm, an, cdv, ct, osl, rfl, lk, hcd⟩ := hF.ex
  obtain ⟨B, newId, initId, bm, BX, _, hov⟩ := T.bas
  have hb := hB s [.ref e, v] X rfl
  have hb : BindsTo s (PySem.W.fnOf "__init__" q (defArgs st) (defBody st) (defScope st) .none kV doc pm an cdv ct) ⟨[.ref e, v], []⟩ [("self", .ref e), (f, v)] := hb
  refine Att.call_fn (binds := [("self", .ref e), (f, v)]) X hlim lk hcd hroom hb ?_ (fun s₁ IC => ?_) hS.co hS.gen hS.kind
  · simp only [List.all_cons, List.all_nil, Bool.and_true]
    rw [hL "self" (by simp), hL f (by simp)]
    rfl
  obtain ⟨h₁, tk₁, rfl⟩ := IC.toInCall.same
  have k : ∀ b o, s.heap.get? b = some o → h₁.get? b = some o := IC.toInCall.keep
  have hn := IC.toInCall.ns
  have X₁ : K.In h₁ := X.keeps k
  have hx₁ := k _ _ hx
  have kself : (envOfC q (defScope st) s.heap.objs.size f2 cdv).kindOf "self" = some .local := hL "self" (by simp)
  have kf : (envOfC q (defScope st) s.heap.objs.size f2 cdv).kindOf f = some .local := hL f (by simp)
  have m1 : bindL (envOfC q (defScope st) s.heap.objs.size f2 cdv).kindOf [("self", .ref e), (f, v)] (fun _ => none) "self" = some (.ref e) := bindL_get (P := ["self", f]) (vs := [.ref e, v]) (i := 0) hS.nd rfl rfl kself
  have m2 : bindL (envOfC q (defScope st) s.heap.objs.size f2 cdv).kindOf [("self", .ref e), (f, v)] (fun _ => none) f = some v := bindL_get (P := ["self", f]) (vs := [.ref e, v]) (i := 1) hS.nd rfl rfl kf
  rw [hbody]
  show wpAny _ _ (execs _ _) _ _ _
  refine wpAny_execs_cons (plainObj_wpAny_Assign_Attribute ?_)
  refine wpAny_Name (wpAny_loadName_local hS.kind kf hn m2 ?_) ndb
  refine wpAny_Name (wpAny_loadName_local hS.kind kself hn m1 ?_) (by decide)
  refine PySem.W.set_plain X₁ (ox := HandSPX.excO C t0) (od := none) ⟨hx₁, rfl, rfl, trivial⟩ T.sa ?_
  refine osa_first BX X₁ hx₁ hov T.hdC T.tk (fun h₃ tk₃ dx k₃ dn dne hx₃ hn₃ => ?_)
  show wpAny _ _ (execs _ _) _ _ _
  have z : s.heap.objs.size < h₁.objs.size := hn.lt
  exact wpAny_execs_nil (hq h₃ tk₃ dx ⟨fun b o hb e => k₃ b o hb (k b o e), hx₃, Nat.le_of_lt (Nat.lt_of_lt_of_le z dn), dne, hn₃⟩)
theorem own_made (T : OwnX K mg x f C) (nf : f ≠ "self") (ndb : (f == ("__debug__" : Str)) = false) {v : Value} (X : K.In s.heap) (hlim : s.heap.NoLimit) (hroom : A.depth + 1 < recursionLimit)
    (hq : ∀ h' tk e d, MadeX s.heap h' e C d f v → R (.ok (.ret (.ref e))) { s with heap := h', toks := tk }) : codeAny (model prog w) A (.call (.ref C) ⟨[v], []⟩) R s := by
  obtain ⟨B, newId, initId, bm, BX, hini, hov⟩ := T.bas
  obtain ⟨nm, N', qn, bs, bmC, hdct, sn, sub, ab, col, dd, k0, k1, k2, k3, k5, hC, hT⟩ := PySem.W.excInit_of X hini
  obtain ⟨fI, _, _, _, _, _, _, _, hfI, tI, _⟩ := T.ini
  obtain ⟨hp, g, dr, tk, os⟩ := s
  have k : ∀ b o, hp.get? b = some o → ((hp.push (PySem.W.kdv_tup [v])).push (HandSPX.excO C hp.objs.size)).get? b = some o := fun b o e => Heap.get?_push_of_some _ (Heap.get?_push_of_some _ e)
  have hget : ((hp.push (PySem.W.kdv_tup [v])).push (HandSPX.excO C hp.objs.size)).get? (hp.objs.size + 1) = some (HandSPX.excO C hp.objs.size) := by heap_get
  have hnx : K.lookup (hp.objs.size + 1) = none := by
    cases e : K.lookup (hp.objs.size + 1) with
    | none => rfl
    | some o =>
      have z : hp.get? (hp.objs.size + 1) = some o := X _ _ e
      exact absurd (Nat.lt_of_succ_lt (Heap.lt_size z)) (Nat.lt_irrefl _)
  refine HandSPX.call_own BX.base hT hC (PySem.W.looks_findIn X hfI) (fun self => PySem.W.bind_fn X self tI) (one_line v) ?_
  refine own_init (s := ⟨(hp.push (PySem.W.kdv_tup [v])).push (HandSPX.excO C hp.objs.size), g, dr, tk, os⟩) T nf ndb hfI (X.keeps k) (hlim.keeps k) hget hnx ?_ fun h' tk' dx hD => ?_
  · show A.depth + 1 < recursionLimit
    exact hroom
  · obtain ⟨k', hx, dn, dne, hns⟩ := hD
    have old : ∀ b o, hp.get? b = some o → h'.get? b = some o := fun b o e => k' b o (Nat.ne_of_lt (Nat.lt_succ_of_lt (Heap.lt_size e))) (k b o e)
    have z : hp.objs.size + 1 + 1 ≤ dx := by
      have q := dn
      rw [Heap.size_push, Heap.size_push] at q
      exact q
    exact ⟨rfl, hq h' tk' (hp.objs.size + 1) dx ⟨old, Nat.le_succ _, ⟨_, hx, rfl, rfl⟩, Nat.le_trans (Nat.le_trans (Nat.le_succ _) (Nat.le_succ _)) z, dne, hns⟩⟩
end
theorem relO_one {v : V} {u : Value} (r : RelV v u) (f g : Str) : RelO (List.lookup g [(f, v)]) (if g = f then some u else none) := by
  by_cases h : g = f
  · subst h
    rw [if_pos rfl]
    have q : List.lookup g [(g, v)] = some v := by simp [List.lookup]
    rw [q]
    exact r
  · rw [if_neg h]
    have qw : (g == f) = false := by simpa using h
    have q : List.lookup g [(f, v)] = none := by simp [List.lookup, qw]
    rw [q]
    trivial
section
variable {X : Cx} {C : Addr}
/-- x(e) -/
def tMkX (C : Addr) (f : Str) (ta : TA) : L2.St → Hp → XK → Prop := fun σ H Q => ta σ H fun vs H1 => ∃ v, vs = [v] ∧ ∀ d, H1 d = none → Q (.ref C) (some d) (upd H1 d (.xd [(f, v)]))
theorem pmk_x {x f : Str} {a : Expr} {ta : TA} {p pos : Pos} {k : Nat} (T : OwnX X.K X.mg x f C) (hr : Room k X.A) (ha : PA X [a] ta) (nf : f ≠ "self" := by decide) (ndb : (f == ("__debug__" : Str)) = false := by decide) (hg : Gl X x := by rfl) (hdb : (x == ("__debug__" : Str)) = false := by decide)
    (he : starEach (a :: []) X.env = (false, eval a X.env) :: starEach [] X.env := by rfl) (hpl : (backTo pos (starEach [] X.env)).any (·.1) = false := by rfl) :
    L2N.PMk X (.Call (.Name x p) [a] [] pos) (tMkX C f ta) := by
  intro pins s σ H Q I h
  refine wpAny_Call_Name_kw (ld_glob I hg T.gC ?_ hdb)
  refine PySem.W.callWith_K (h₀ := X.base) I.ok.mod.kin T.kC (thn (ha.run pos pins s σ H _ I h) fun us s1 hh => ?_) he hpl
  obtain ⟨vs, H1, I1, r1, v, ev, q1⟩ := hh
  subst ev
  refine ⟨I1.kIn, ?_⟩
  cases r1 with
  | cons rv rn =>
    rename_i v' us'
    cases rn
    show wpAny _ _ (call (.ref C) [v']) _ _ _
    have hlim := I1.nolimit
    obtain ⟨hp, g, dr, tk, os⟩ := s1
    refine wpAny_call (own_made T nf ndb I1.kIn hlim (by have := hr.dp; omega) fun h' tk' e d M => ?_)
    show L2N.MkP X pins σ Q (.ref e) ⟨h', g, dr, tk', os⟩
    obtain ⟨fv, hoe, h1, h2⟩ := M.obj
    have hns := M.ns
    obtain ⟨G', g1, g2⟩ := restrict h' fun b => decide (b ≠ e)
    have gk : ∀ b, b ≠ e → G'.get? b = h'.get? b := fun b hb => g1 b (decide_eq_true hb)
    have ge : G'.get? e = none := g2 e (by simp)
    have old : ∀ b o, hp.get? b = some o → G'.get? b = some o := fun b o q => (gk b (Nat.ne_of_lt (Nat.lt_of_lt_of_le (Heap.lt_size q) M.new))).trans (M.keep b o q)
    have ob : ObjOk X.prog X.w (upd H1 d (.xd [(f, v)])) G' d (.xd [(f, v)]) := ⟨_, hns.at (fun o q => (gk d M.dne).trans q), fun y => relO_one rv f y⟩
    have J : Inv X pins σ (upd H1 d (.xd [(f, v)])) ⟨G', g, dr, tk', os⟩ := I1.laid (t' := tk') old M.dbig ob
    refine ⟨e, _, fv, ⟨G', g, dr, tk', os⟩, _, .ref C, some d, rfl, J, fun b o q => ?_, ge, hoe, ⟨rfl, rfl, fun vs q => ?_⟩, rfl, h1, ?_, rfl, I1.bare, raises_own T.exC T.tyC, q1 d (I1.hok.fresh M.dbig)⟩
    · by_cases hb : b = e
      · have q' : G'.get? b = some o := q
        rw [hb, ge] at q'
        cases q'
      · exact (gk b hb).symm.trans q
    · obtain rfl : fv = vs := Data.fields.inj q
      exact h2
    · rw [upd_ne (Ne.symm M.dne)]
      exact I1.hok.fresh M.new
theorem ps_raiseX {x f : Str} {a : Expr} {ta : TA} {W : WX} {p pos pos2 : Pos} {k : Nat} (hc : X.calm = true) (T : OwnX X.K X.mg x f C) (hr : Room k X.A) (tk : L2N.Takes X W) (ha : PA X [a] ta) (nf : f ≠ "self" := by decide) (ndb : (f == ("__debug__" : Str)) = false := by decide) (hg : Gl X x := by rfl)
    (hdb : (x == ("__debug__" : Str)) = false := by decide) (he : starEach (a :: []) X.env = (false, eval a X.env) :: starEach [] X.env := by rfl) (hpl : (backTo pos (starEach [] X.env)).any (·.1) = false := by rfl) :
    PS X (.Raise (some (.Call (.Name x p) [a] [] pos)) none pos2) (fun _ σ H => tMkX C f ta σ H fun cls d H' => W cls d σ H') := L2N.ps_raise hc tk (pmk_x T hr ha nf ndb hg hdb he hpl)
end
end Wl

/-! Where an exception is being handled: defs called, comprehensions over range. -/
namespace Wl
open PySem PySem.Spec PyProof.Rows L2
/-- what is handled stands at a, tracked -/
def HotH (a : Addr) (H : Hp) : Prop := ∃ cls d, H a = some (exH a cls d)
theorem HotH.same {a : Addr} {H H' : Hp} (h : HotH a H) (s : Same H H') : HotH a H' := by
  obtain ⟨cls, d, e⟩ := h
  exact ⟨cls, d, s _ _ e⟩
/-- a def called there, its promise -/
structure FnT (P : Program) (w : World) (K : PySem.W.Frag) (mg : Str → Option Value) (base : Heap) (CX : CXT) (k : Nat) (f : Addr) (fd : FuncData) (ps : List Str) (sp : Addr → Sp) : Prop where
  len : ∀ a vs H Q E, sp a vs H Q E → vs.length = ps.length
  run : ∀ (A : Around) (outer : List Env) (s : Shared) (H : Hp) (args : Args) (us : List Value) (vs : List V) (Q : VK) (E : XK) (a : Addr), L2H.RoomH k A → A.handled = some (.ref a) → HotH a H → Env0 P w K mg base A outer s H → BindsTo s fd args (ps.zip us) → Vals vs us → sp a vs H Q E →
    codeAny (model P w) A (.call (.ref f) args) (CR CX outer P w H s Q E) s
/-- the body's context -/
def cxT (CX : CXT) (P : Program) (w : World) (K : PySem.W.Frag) (mg : Str → Option Value) (base : Heap) (N : List Str) (qual : Str) (scope : Scope) (f : Addr) (cd : Value) (A : Around) (outer : List Env) (s : Shared) (H : Hp) (E : XK) : Cx :=
  { cxOf CX P w K mg base N qual scope f cd A outer s H E with calm := false }
section
variable {P : Program} {w : World} {K : PySem.W.Frag} {mg : Str → Option Value} {base : Heap} {CX : CXT}
theorem inv_startT {N ps : List Str} {qual : Str} {scope : Scope} {f : Addr} {cd : Value} {A : Around} {outer : List Env} {s s1 : Shared} {H : Hp} {E : XK} {us : List Value} {vs : List V} (S : FnScope N ps scope) (e0 : Env0 P w K mg base A outer s H) (hl : vs.length = ps.length) (r : Vals vs us)
    (x : InCallC s s.heap.objs.size (bindL (envOfC qual scope s.heap.objs.size f cd).kindOf (ps.zip us) fun _ => none) (cellsFrom (s.heap.objs.size + 1) scope.names []) (bindC (envOfC qual scope s.heap.objs.size f cd).kindOf (ps.zip us) fun _ => none) s1) :
    Inv (cxT CX P w K mg base N qual scope f cd A outer s H E) [] (L2.start N vs) H s1 := by
  obtain ⟨oG, es, ep, hG, hd, _⟩ := e0.mod.glob
  have b0 := e0.bs _ _ hG
  have pin : L2H.PinOk outer H s (mainGlobals, oG) := ⟨b0.1, b0.2, fun hm => (by
    have z := (e0.funs.mem hm).1
    rw [hG] at z
    cases z), fun v z => (by
    have z : oG.data = .cell v := z
    rw [hd] at z
    cases z)⟩
  have I := L2H.inv_startH (CX := CX) (E := E) S pin e0 hl r x
  refine ⟨(Cx.Ok.toTry I.ok [] (cxT CX P w K mg base N qual scope f cd A outer s H E).xe), I.os, I.bare, I.base, I.loc, I.cell, I.free, I.freeC, fun p hp => ?_, I.hok, I.len⟩
  exact absurd (show p ∈ ([] : List (Addr × Obj)) ++ [] from hp) (by simp)
theorem fn_ofT {k : Nat} {f : Addr} {name qual : Str} {params : Arguments} {body : List Stmt} {scope : Scope} {dV kV doc pm cdv ct oc : Value} {an od : Option Addr} {osl : Array (Option Value)} {N ps : List Str} {sp : Addr → Sp}
    (lk : K.lookup f = some ⟨oc, od, .func (PySem.W.fnOf name qual params body scope dV kV doc pm an cdv ct), osl⟩) (hcd : PySem.W.codeIn K cdv qual = true) (S : FnScope N ps scope) (len : ∀ a vs H Q E, sp a vs H Q E → vs.length = ps.length)
    (hbody : ∀ (A : Around) (outer : List Env) (s : Shared) (H : Hp) (vs : List V) (Q : VK) (E : XK) (a : Addr), A.handled = some (.ref a) → HotH a H → L2H.RoomH k (A.deeper (envOfC qual scope s.heap.objs.size f cdv)) → sp a vs H Q E →
      ∃ t, PSs (cxT CX P w K mg base N qual scope f cdv A outer s H E) body t ∧ t { nx := fun _ H' => Q .non H', rt := Q } (L2.start N vs) H) :
    FnT P w K mg base CX (k + 1) f (PySem.W.fnOf name qual params body scope dV kV doc pm an cdv ct) ps sp := by
  refine ⟨len, ?_⟩
  intro A outer s H args us vs Q E a hr hot hh e0 hb r hsp
  have hl := len _ _ _ _ _ hsp
  have KX : K.In s.heap := e0.mod.kin.keeps fun b o e => (e0.bs b o e).1
  have lim : s.heap.NoLimit := e0.mod.nolimit.keeps fun b o e => (e0.bs b o e).1
  refine codeAny_call_function hr.depth (KX _ _ lk) rfl S.co S.gen rfl (PySem.W.codeRec_of KX hcd) (hb _ _ _ _ ?_)
  refine wpAny_newFunctionEnv_cells S.kind (fun ⟨n, v⟩ hy => ?_) fun env he s1 x => ?_
  · rcases S.par n (List.of_mem_zip hy).1 with q | q
    · exact .inl q
    · exact .inr ⟨q, PySem.W.cellsFrom_some _ _ _ (.inl q)⟩
  subst he
  refine ⟨lim.keeps x.toInCall.keep, codeAny_func ?_⟩
  obtain ⟨t, ht, hq⟩ := hbody A outer s H vs Q E a hot hh (hr.deeper _) hsp
  refine wpAny_mono (ht.run [] s1 (L2.start N vs) H _ (inv_startT S e0 hl r x) hq) (fun fl s' hs => ?_) fun e s' hs => hs
  have fin : ∀ {σ' : L2.St} {H' : Hp} {v : V} {u : Value}, Inv (cxT CX P w K mg base N qual scope f cdv A outer s H E) [] σ' H' s' → RelV v u → Q v H' → CE outer P w H s Q u s' := by
    intro σ' H' v u J rv q
    exact ⟨v, H', J.os, J.bare, J.base, J.hok, rv, q⟩
  cases fl with
  | ret u =>
    obtain ⟨v, σ', H', J, rv, q⟩ := hs
    exact fin J rv q
  | next =>
    obtain ⟨σ', H', J, q⟩ := hs
    exact fin (v := V.non) (u := Value.none) J rfl q
  | brk =>
    obtain ⟨_, _, _, q⟩ := hs
    exact False.elim q
  | cont =>
    obtain ⟨_, _, _, q⟩ := hs
    exact False.elim q
theorem FunT_ok {x qual : Str} {st : Stmt} {f : Addr} {fd : FuncData} {N ps : List Str} {k : Nat} {sp : Addr → Sp} (F : Fun K x qual st f fd) (S : FnScope N ps (defScope st)) (len : ∀ a vs H Q E, sp a vs H Q E → vs.length = ps.length)
    (hbody : ∀ (cdv : Value) (A : Around) (outer : List Env) (s : Shared) (H : Hp) (vs : List V) (Q : VK) (E : XK) (a : Addr), A.handled = some (.ref a) → HotH a H → L2H.RoomH k (A.deeper (envOfC qual (defScope st) s.heap.objs.size f cdv)) → sp a vs H Q E →
      ∃ t, PSs (cxT CX P w K mg base N qual (defScope st) f cdv A outer s H E) (defBody st) t ∧ t { nx := fun _ H' => Q .non H', rt := Q } (L2.start N vs) H) : FnT P w K mg base CX (k + 1) f fd ps sp := by
  obtain ⟨oc, od, kV, doc, pm, an, cdv, ct, osl, rfl, lk, hcd⟩ := F.ex
  exact fn_ofT lk hcd S len fun A outer s H vs Q E a hot hh hr hsp => hbody cdv A outer s H vs Q E a hot hh hr hsp
/-- defs that keep promises there, by name -/
def HasT (P : Program) (w : World) (K : PySem.W.Frag) (mg : Str → Option Value) (base : Heap) (x : Str) (k : Nat) (ps : List Str) (sp : Addr → Sp) : Prop :=
  ∃ f fd, FnT P w K mg base CX0 k f fd ps sp ∧ mg x = some (.ref f) ∧ PySem.W.keepIn K (.ref f) = true ∧ Binds K fd ps []
end
section
variable {X : Cx} {k j : Nat} {ps : List Str} {sp : Addr → Sp} {x : Str} {p pos : Pos} {e : Expr} {es : List Expr} {t : TA} {hd : Addr}
/-- f(..), where what stands at hd is being handled -/
def tCallT (hd : Addr) (sp : Addr → Sp) (t : TA) : TE := fun σ H Q => t σ H fun vs H1 => HotH hd H1 ∧ sp hd vs H1 Q E0
theorem pe_ht (h : HasT X.prog X.w X.K X.mg X.base x k ps sp) (hr : L2H.RoomH j X.A) (hot : X.A.handled = some (.ref hd)) (ha : PA X (e :: es) t) (hkj : k ≤ j := by decide) (hg : Gl X x := by rfl) (hdb : (x == ("__debug__" : Str)) = false := by decide)
    (he : starEach (e :: es) X.env = (false, eval e X.env) :: starEach es X.env := by rfl) (hpl : (backTo pos (starEach es X.env)).any (·.1) = false := by rfl) :
    PE X (.Call (.Name x p) (e :: es) [] pos) (tCallT hd sp t) := by
  obtain ⟨f, fd, F, g, kp, b⟩ := h
  refine ⟨fun pins s σ H Q I h => ?_⟩
  refine wpAny_Call_Name_kw (ld_glob I hg g ?_ hdb)
  refine PySem.W.callWith_K (h₀ := X.base) I.ok.mod.kin kp (thn (ha.run pos pins s σ H _ I h) fun us s1 ⟨vs, H1, I1, r, hh, q⟩ => ⟨I1.kIn, ?_⟩) he hpl
  have hl : us.length = ps.length := by
    rw [← r.length]
    exact F.len _ _ _ _ _ q
  have bb := b s1 us I1.kIn (by rw [List.append_nil]; exact hl)
  rw [List.append_nil] at bb
  refine wpAny_call (codeAny_mono (F.run X.A X.stack s1 H1 ⟨us, []⟩ us vs Q E0 hd (hr.mono hkj) hot hh I1.env0 bb r q) fun r s' hq => ?_)
  cases r with
  | error e => exact False.elim hq
  | ok fl =>
    cases fl with
    | ret u => exact I1.after hq
    | next => exact False.elim hq
    | brk => exact False.elim hq
    | cont => exact False.elim hq
end
/-! ### comprehensions -/
/-- an iterator's turns, there: its end asks for what is handled -/
def ItHot (hd : Addr) (J : It) : It := { go := J.go, yld := J.yld, stop := fun i H => J.stop i H ∧ HotH hd H }
structure TurnT (P : Program) (w : World) (K : PySem.W.Frag) (hd : Addr) (tg : Expr) (J : It) (fp : List Addr) (it : Addr) (tn : Nat → Heap → Prop) : Prop where
  mem : it ∈ fp
  obj : ∀ i h, tn i h → ∀ b ∈ fp, ∃ o, h.get? b = some o ∧ ∀ v, o.data ≠ .cell v
  keep : ∀ i h h', tn i h → (∀ b ∈ fp, ∀ o, h.get? b = some o → h'.get? b = some o) → tn i h'
  item : ∀ (X : Cx), X.prog = P → X.w = w → X.K = K → X.A.handled = some (.ref hd) → ∀ (i : Nat) (pins : List (Addr × Obj)) (s : Shared) (σ : L2.St) (H : Hp) (E : Value → Shared → Prop), Inv X pins σ H s → (∀ b ∈ fp, FpOk X pins H b) → tn i s.heap → J.go i H →
    wpAny (model P w) X.A (pyNext (.ref it)) (fun r s1 => ∃ u, r = some u ∧
      wpAny (model P w) X.A (letOwnedTupleGo tg (.ref it) u) (fun _ s2 => ∃ x H', Inv X pins σ H' s2 ∧ RelV x u ∧ J.yld i H x H' ∧ tn (i + 1) s2.heap ∧ ∀ b ∈ fp, H' b = none) E s1) E s
  done : ∀ (X : Cx), X.prog = P → X.w = w → X.K = K → X.A.handled = some (.ref hd) → ∀ (i : Nat) (pins : List (Addr × Obj)) (s : Shared) (σ : L2.St) (H : Hp) (E : Value → Shared → Prop), Inv X pins σ H s → (∀ b ∈ fp, FpOk X pins H b) → tn i s.heap → J.stop i H → HotH hd H →
    wpAny (model P w) X.A (pyNext (.ref it)) (fun r s1 => r = none ∧ Inv X pins σ H s1) E s
  self : ∀ (A : Around) (i : Nat) (s : Shared) (Q : Value → Shared → Prop) (E : Value → Shared → Prop), tn i s.heap → Q (.ref it) s → wpAny (model P w) A (pyIter (.ref it)) Q E s
theorem turn_rangeT {P : Program} {w : World} {K : PySem.W.Frag} {hd : Addr} {tg : Expr} (it : Addr) (lo : Int) (n : Nat) : TurnT P w K hd tg (Itr lo n) [it] it (fun i h => IsRangeIter h it (lo + (i : Nat) * 1) ((n : Int) - (i : Nat)) 1) where
  mem := by simp
  obj := by
    intro i h st b hb
    obtain rfl : b = it := by simpa using hb
    refine ⟨_, st, fun v z => ?_⟩
    have z' : Data.fields _ = Data.cell v := z
    cases z'
  keep := fun i h h' st k => k it (by simp) _ st
  item := by
    intro X hP hw hK hc i pins s σ H E I hf st hg
    subst hP hw hK
    obtain ⟨f0, f1, f2, f3, f4, f5⟩ := hf it (by simp)
    have hlt : i < n := hg
    refine wpAny_pyNext_range_item st (by omega) fun h' st' sb => ?_
    have e1 : lo + ((i : Nat) : Int) * 1 + 1 = lo + ((i + 1 : Nat) : Int) * 1 := by omega
    have e2 : (n : Int) - ((i : Nat) : Int) - 1 = (n : Int) - ((i + 1 : Nat) : Int) := by omega
    rw [e1, e2] at st'
    have J1 : Inv X pins σ H { s with heap := h', toks := s.toks + 1 } := I.turned (fun b o hb e => (sb.2 b hb).trans e) f0 f1 f3 f4 f5
    refine ⟨_, rfl, go_of (s := { s with heap := h', toks := s.toks + 1 }) (n := "range_iterator") st' rfl rfl (by decide) ⟨.int (lo + i), H, J1, ⟨s.toks, ?_⟩, ⟨rfl, rfl⟩, st', fun b hb => (hf b hb).1⟩⟩
    rw [Int.mul_one]
  done := by
    intro X hP hw hK hc i pins s σ H E I hf st hg hh
    subst hP hw hK
    obtain ⟨f0, f1, f2, f3, f4, f5⟩ := hf it (by simp)
    obtain ⟨cls, d, ea⟩ := hh
    exact HotX.pyNext_range_end_hot (exH_hot I.hok ea hc) st (by have : n ≤ i := hg; omega) fun h' eb => ⟨rfl, I.turned (t' := s.toks) (fun b o _ e => eb b o e) f0 f1 f3 f4 f5⟩
  self := fun _ _ _ _ _ st h => wpAny_pyIter_rangeiter st h
def PIET (X : Cx) (hd : Addr) (pins : List (Addr × Obj)) (σ : L2.St) (tg : Expr) (R : It → Hp → Prop) (itv : Value) (s2 : Shared) : Prop :=
  ∃ (it : Addr) (fp : List Addr) (tn : Nat → Heap → Prop) (J : It) (H' : Hp), itv = .ref it ∧ Inv X pins σ H' s2 ∧ TurnT X.prog X.w X.K hd tg J fp it tn ∧ tn 0 s2.heap ∧ (∀ b ∈ fp, FpOk X pins H' b) ∧ R (ItHot hd J) H'
structure PIT (X : Cx) (hd : Addr) (tg iter : Expr) (wi : TI) : Prop where
  run : ∀ (pins : List (Addr × Obj)) (s : Shared) (σ : L2.St) (H : Hp) (R : It → Hp → Prop), Inv X pins σ H s → wi σ H R →
    wpAny (model X.prog X.w) X.A (eval iter X.env) (fun v s1 => wpAny (model X.prog X.w) X.A (pyIter v) (PIET X hd pins σ tg R) X.xe s1) X.xe s
/-- range(n) there -/
def iRngT (hd : Addr) (ta : TA) : TI := fun σ H R => ta σ H fun vs H1 => ∃ n : Nat, vs = [.int n] ∧ n ≤ 1000 ∧ R (ItHot hd (Itr 0 n)) H1
theorem pi_rangeT {X : Cx} {hd : Addr} {tg : Expr} {a : Expr} {ta : TA} {p pos : Pos} (hg : Gl X "range") (hm : X.mg "range" = none) (ha : PA X [a] ta) (hs : starEach [a] X.env = [(false, eval a X.env)] := by rfl) : PIT X hd tg (.Call (.Name "range" p) [a] [] pos) (iRngT hd ta) := by
  refine ⟨fun pins s σ H R I h => ?_⟩
  refine Call_ (ld_blt I hg hm boot_range (PyProof.Rows.callWith_type1 (thn (ha.run pos pins s σ H _ I h) fun us s1 hh => ?_) hs rfl))
  obtain ⟨vs, H1, J1, r1, n, e, hn, q⟩ := hh
  subst e
  obtain ⟨u, rfl, t, rfl⟩ := vals1 r1
  refine call_range_1 ?_
  refine wpAny_pyIter_range (IsRange.new ..) (small_one (by omega) (by omega) (by omega) (by omega)) ?_
  have J2 : Inv X pins σ H1 { s1 with heap := s1.heap.push { cls := .type "range", data := .fields #[.int 0 s1.toks, .int n t, .int 1 (s1.toks + 1)] }, toks := s1.toks + 2 } := J1.kept fun b o e => Heap.get?_push_of_some _ e
  refine ⟨_, [_], _, _, H1, rfl, J2.kept (t' := s1.toks + 2) fun b o e => Heap.get?_push_of_some _ e, turn_rangeT _ 0 n, ?_, fun b hb => ?_, q⟩
  · have e2 : ((n : Int)) - ((0 : Nat) : Int) = Builtin.Range.rangeSize 0 n 1 := by rw [rangeSize_one]; split <;> omega
    show IsRangeIter _ _ ((0 : Int) + ((0 : Nat) : Int) * 1) ((n : Int) - ((0 : Nat) : Int)) 1
    rw [e2]
    exact Heap.get?_push_size _ rfl
  · obtain rfl := List.mem_singleton.mp hb
    exact J2.fpOk (Nat.le_refl _) (J2.hok.fresh (Nat.le_refl _))
end Wl

/-! [e for x in it if ..] where an exception is being handled. -/
namespace Wl
open PySem PySem.Spec PyProof.Rows L2
section
variable {X : Cx} {hd : Addr}
theorem lcT_core {pins : List (Addr × Obj)} {s : Shared} {σ : L2.St} {H : Hp} {Q : VK} {elt tg iter : Expr} {ifs : List Expr} {scope : Scope} {own : List (Str × Nat)} {pos pos' : Pos} {wi : TI} {g : TG} {tt : TT} {te : TE} {use : Option (Value → Sem Unit)} {Qf : Value → Shared → Prop}
    (hot : X.A.handled = some (.ref hd)) (hN : X.N.Nodup) (I : Inv X pins σ H s) (hi : PIT X hd tg iter wi) (ok : BlkOk X.N X.env.scope scope own)
    (hg : ∀ (s : Shared) (H : Hp) (C : Addr) (cl : List (Str × Addr)) (fp : List Addr), PG (X.blk s H scope (compEnvC scope cl C X.env) fp) tg g)
    (ht : ∀ (s : Shared) (H : Hp) (C : Addr) (cl : List (Str × Addr)) (fp : List Addr), PTs (X.blk s H scope (compEnvC scope cl C X.env) fp) ifs tt)
    (he : ∀ (s : Shared) (H : Hp) (C : Addr) (cl : List (Str × Addr)) (fp : List Addr), PE (X.blk s H scope (compEnvC scope cl C X.env) fp) elt te) (hs : ∀ x, foldedSetIterable iter X.env x = pure x) (h : tLc wi g tt te (own.map (·.2)) σ H Q)
    (hEnd : ∀ L C s' m H', Inv X pins σ H' s' → Q (.ref L) H' → s'.heap.Ns C m → FpOk X pins H' C → compPost (model X.prog X.w) X.A X.xe use Qf (.ref L) C (.ok .next) s') :
    wpAny (model X.prog X.w) X.A (comprehension (.ListComp elt [⟨tg, iter, ifs, 0⟩] scope pos) scope X.env pos' (newList []) false (eval iter X.env) use) Qf X.xe s := by
  refine wpAny_comprehension_free (use := use) rfl hs (closure_ok fun y hy e => ?_) ok.kind (fun y hy e => by rw [ok.uniq y hy, e]) (thn (hi.run pins s σ H _ I h) fun xv sA hx => thn hx fun itv sB hB => ?_)
  · exact (ok.free y hy e).elim (fun k => I.ok.has _ (.inl k)) (fun k => I.ok.has _ (.inr k))
  obtain ⟨it, fp, tn, J, HB, ei, IB, T, stB, fB, q⟩ := hB
  subst ei
  refine wpAny_newObj_type (newEnv_comp ?_) (by show 0 ≤ sizeLine; decide)
  generalize hL : sB.heap.objs.size = L
  have hLn : HB L = none := IB.hok.fresh (Nat.le_of_eq hL)
  obtain ⟨W, ⟨m0, w0⟩, turn⟩ := q L hLn
  generalize hsC : ({ sB with heap := sB.heap.push { cls := .type "list", data := .seq ([] : List Value).toArray } } : Shared) = sC
  have IC : Inv X pins σ (upd HB L (.lst [])) sC := by
    subst hsC
    refine IB.laid (t' := sB.toks) (fun b o e => Heap.get?_push_of_some _ e) (Nat.le_of_eq hL) ⟨Nat.zero_le _, [], 0, .nil, ?_⟩
    subst hL
    exact Heap.get?_push_size _ rfl
  have eC : sC.heap = sB.heap.push { cls := .type "list", data := .seq ([] : List Value).toArray } := by rw [← hsC]
  have fC : ∀ b ∈ fp, FpOk X pins (upd HB L (.lst [])) b ∧ b < sC.heap.objs.size := by
    intro b hb
    obtain ⟨o, e, _⟩ := T.obj _ _ stB b hb
    have hlt : b < sB.heap.objs.size := Heap.lt_size e
    refine ⟨⟨?_, (fB b hb).2⟩, by rw [eC, Heap.size_push]; exact Nat.lt_succ_of_lt hlt⟩
    rw [upd_ne (by rw [← hL]; exact Nat.ne_of_lt hlt)]
    exact (fB b hb).1
  have stC : tn 0 sC.heap := T.keep _ _ _ stB fun b _ o e => by rw [eC]; exact Heap.get?_push_of_some _ e
  have ID := block_start IC ok hN fC
  have pg := hg sC (upd HB L (.lst [])) sC.heap.objs.size (cellsFrom (sC.heap.objs.size + 1) scope.names (cloFrom X.env.cells scope.names [])) fp
  have pt := ht sC (upd HB L (.lst [])) sC.heap.objs.size (cellsFrom (sC.heap.objs.size + 1) scope.names (cloFrom X.env.cells scope.names [])) fp
  have pe := he sC (upd HB L (.lst [])) sC.heap.objs.size (cellsFrom (sC.heap.objs.size + 1) scope.names (cloFrom X.env.cells scope.names [])) fp
  show codeAny _ _ (.compStart (.ListComp elt [⟨tg, iter, ifs, 0⟩] scope pos) 0 (.ref it) (.ref L) (compEnvC scope (cellsFrom (sC.heap.objs.size + 1) scope.names (cloFrom X.env.cells scope.names [])) sC.heap.objs.size X.env)) (compPost (model X.prog X.w) X.A X.xe use Qf (.ref L) sC.heap.objs.size) { sC with heap := pushCells (sC.heap.push { cls := .type "dict", data := .dict #[] }) scope.names }
  have nfp : ∀ b ∈ fp, (upd HB L (.lst [])) b = none := fun b hb => (fC b hb).1.1
  generalize hce : compEnvC scope (cellsFrom (sC.heap.objs.size + 1) scope.names (cloFrom X.env.cells scope.names [])) sC.heap.objs.size X.env = ce at ID pg pt pe ⊢
  have cL : ce.locals = sC.heap.objs.size := by subst hce; rfl
  generalize hHC : upd HB L (.lst []) = HC at IC ID pg pt pe w0 nfp fC
  generalize hsD : ({ sC with heap := pushCells (sC.heap.push { cls := .type "dict", data := .dict #[] }) scope.names } : Shared) = sD at ID ⊢
  have stD : tn 0 sD.heap := T.keep _ _ _ stC fun b _ o e => by rw [← hsD]; exact pushCells_keeps _ _ _ _ (Heap.get?_push_of_some _ e)
  have stat : ∀ {σ' : L2.St} {H' : Hp} {s' : Shared}, Inv (X.blk sC HC scope ce fp) [] σ' H' s' → (∀ b ∈ fp, H' b = none) → ∀ b ∈ fp, FpOk (X.blk sC HC scope ce fp) [] H' b := by
    intro σ' H' s' I' hn b hb
    exact ⟨hn b hb, (I'.ok.exf b hb).1, I'.ok.exfs b hb, .inl hb, fun x c e => (I'.ok.exf b hb).2 x c e, fun p hp => absurd (show p ∈ ([] : List (Addr × Obj)) ++ [] from hp) (by simp)⟩
  have loop : codeAny (model X.prog X.w) X.A (.compLoop (.ListComp elt [⟨tg, iter, ifs, 0⟩] scope pos) 0 (.ref it) (.ref L) ce) (compPost (model X.prog X.w) X.A X.xe use Qf (.ref L) sC.heap.objs.size) sD := by
    refine compLoop_any (fun n s' => ∃ i H', Inv (X.blk sC HC scope ce fp) [] (wipe σ (own.map (·.2))) H' s' ∧ tn i s'.heap ∧ (∀ b ∈ fp, H' b = none) ∧ W i n H') ?_ m0 ⟨0, HC, ID, stD, nfp, w0⟩
    rintro n sE ⟨i, HE, IE, stE, nE, wE⟩
    rcases turn i n HE wE with ⟨stop, qq⟩ | ⟨go, Nx, hNx, step⟩
    · have td := T.done (X.blk sC HC scope ce fp) rfl rfl rfl hot i [] sE _ HE (fun _ _ => False) IE (stat IE nE) stE stop.1 stop.2
      refine thnF td fun r sF ⟨hr, IF⟩ => ?_
      subst hr
      have IG : Inv X pins σ HE sF := IC.call' (ch := fp) IF.os IF.base IF.hok IF.bare fun b hb => ⟨(fC b hb).1.2.2.2.1, (fC b hb).1.2.1, (fC b hb).1.2.2.2.2.1, (fC b hb).1.2.2.2.2.2⟩
      have nC : HE sC.heap.objs.size = none := by
        have z : HE ce.locals = none := IF.free
        rw [cL] at z
        exact z
      obtain ⟨m, hn, _⟩ := IF.loc
      have hn : sF.heap.Ns ce.locals m := hn
      rw [cL] at hn
      exact hEnd L sC.heap.objs.size sF m HE IG qq hn (IC.fpOk (Nat.le_refl _) nC)
    · have ti := T.item (X.blk sC HC scope ce fp) rfl rfl rfl hot i [] sE _ HE (fun _ _ => False) IE (stat IE nE) stE go
      refine thnF ti fun r sF ⟨u, hr, hF⟩ => ?_
      subst hr
      refine thnF hF fun _ sG ⟨x, HG, IG, rG, yG, stG, nG⟩ => ?_
      have IG' := IG.pinned (stat IG nG) (T.obj _ _ stG)
      refine thnF (pg.run _ sG _ HG x u _ IG' rG (step x HG yG)) fun _ sK ⟨σK, HK, IK, hwK, qK⟩ => ?_
      refine thnF (pt.run _ sK σK HK _ IK qK) fun b sM ⟨HM, IM, qM⟩ => ?_
      have fin : ∀ {s' : Shared} {H' : Hp}, Inv (X.blk sC HC scope ce fp) ([] ++ pinsAt fp sG.heap) σK H' s' → Nx H' → ∃ m, m < n ∧ ∃ i H', Inv (X.blk sC HC scope ce fp) [] (wipe σ (own.map (·.2))) H' s' ∧ tn i s'.heap ∧ (∀ b ∈ fp, H' b = none) ∧ W i m H' := by
        intro s' H' I' nx
        obtain ⟨m', hm, w'⟩ := hNx H' nx
        have pin' : ∀ b ∈ fp, ∀ o, sG.heap.get? b = some o → s'.heap.get? b = some o ∧ H' b = none := fun b hb o e =>
          have z := I'.pin (b, o) (List.mem_append_right _ (List.mem_append_right _ (mem_pinsAt hb e)))
          ⟨z.1, z.2.1⟩
        have hl : (wipe σ (own.map (·.2))).length = σK.length := by rw [← hwK, wipe_length]
        refine ⟨m', hm, i + 1, H', (I'.unpinned (pins := [])).weak hl (fun j v e => ?_), T.keep _ _ _ stG fun b hb o e => (pin' b hb o e).1, fun b hb => ?_, w'⟩
        · rw [← hwK] at e
          exact (wipe_some e).1
        · obtain ⟨o, e, _⟩ := T.obj _ _ stG b hb
          exact (pin' b hb o e).2
      cases b with
      | false =>
        simp only [Bool.false_eq_true, if_false] at qM ⊢
        exact fin IM qM
      | true =>
        simp only [if_true] at qM ⊢
        refine thnF (pe.run _ sM σK HM _ IM qM) fun z sO ⟨yv, HO1, IO, rO, acc, hDO, hzO, nx⟩ => ?_
        exact app_ok (X := X.blk sC HC scope ce fp) IO hDO hzO rO fun sP IP => fin IP nx
  exact codeAny_compStart_list loop (T.self X.A 0 _ _ _ stD loop)
theorem pe_lcT {elt tg iter : Expr} {ifs : List Expr} {scope : Scope} {own : List (Str × Nat)} {pos : Pos} {wi : TI} {g : TG} {tt : TT} {te : TE} (hot : X.A.handled = some (.ref hd)) (hN : X.N.Nodup) (hi : PIT X hd tg iter wi) (ok : BlkOk X.N X.env.scope scope own)
    (hg : ∀ (s : Shared) (H : Hp) (C : Addr) (cl : List (Str × Addr)) (fp : List Addr), PG (X.blk s H scope (compEnvC scope cl C X.env) fp) tg g)
    (ht : ∀ (s : Shared) (H : Hp) (C : Addr) (cl : List (Str × Addr)) (fp : List Addr), PTs (X.blk s H scope (compEnvC scope cl C X.env) fp) ifs tt)
    (he : ∀ (s : Shared) (H : Hp) (C : Addr) (cl : List (Str × Addr)) (fp : List Addr), PE (X.blk s H scope (compEnvC scope cl C X.env) fp) elt te) (hs : ∀ x, foldedSetIterable iter X.env x = pure x := by intro _; rfl) :
    PE X (.ListComp elt [⟨tg, iter, ifs, 0⟩] scope pos) (tLc wi g tt te (own.map (·.2))) := by
  refine ⟨fun pins s σ H Q I h => ?_⟩
  rw [eval_ListComp]
  refine lcT_core hot hN I hi ok hg ht he hs h fun L C s' m H' I' q hn f => ⟨m, hn, fun h'' sb => ?_⟩
  obtain ⟨u0, u1, u2, u3, u4, u5⟩ := f
  exact ⟨.ref L, H', I'.turned (t' := s'.toks) (fun b o hb e => (sb.2 b hb).trans e) u0 u1 u3 u4 u5, rfl, q⟩
end
theorem walk_rangeT {a : Addr} {n : Nat} : L2.Walk (ItHot a (Itr 0 n)) n (HotH a) (YFn fun i => .int ((0 : Int) + i)) :=
  ⟨fun _ _ hi _ => hi, fun _ h => ⟨Nat.le_refl _, h⟩, fun _ _ _ _ _ _ y => y⟩
section
variable {a : Addr} {n slot : Nat} {te : TE} {vs : List Nat} {σ : L2.St} {H1 : Hp} {D : Addr} {Qd : Hp → Prop}
theorem lc_rangeT (hD : H1 D = none) (hot : HotH a H1) (f : Nat → V) (hw : ∀ x, wipe ((wipe σ vs).set slot (some x)) vs = wipe σ vs)
    (he : ∀ (k : Nat) (H : Hp), k < n → Same H1 H → ∀ Q : VK, Q (f k) H → te ((wipe σ vs).set slot (some (.int ((0 : Int) + k)))) H Q) (hn : n ≤ 1000)
    (hd : ∀ H, Same H1 H → H D = some (.lst ((List.range n).map f)) → Qd H) :
    ∃ W : Nat → Nat → Hp → Prop, (∃ m, W 0 m (upd H1 D (.lst []))) ∧ ∀ i m H, W i m H →
      ((ItHot a (Itr 0 n)).stop i H ∧ Qd H) ∨ ((ItHot a (Itr 0 n)).go i H ∧ ∃ Nx : Hp → Prop, (∀ H', Nx H' → ∃ m', m' < m ∧ W (i + 1) m' H') ∧ ∀ x H', (ItHot a (Itr 0 n)).yld i H x H' → gName slot x (wipe σ vs) H' fun σ2 H2 => wipe σ2 vs = wipe σ vs ∧ tYes σ2 H2 fun b H3 =>
        if b = true then te σ2 H3 fun y H4 => ∃ acc, H4 D = some (.lst acc) ∧ acc.length < sizeLine ∧ Nx (upd H4 D (.lst (acc ++ [y]))) else Nx H3) := by
  refine lc_it walk_rangeT (fun i H => Same H1 H ∧ H D = some (.lst ((List.range i).map f))) ⟨same_new hD, upd_same⟩ (fun i H _ h => hot.same h.1) ?_ (fun H h => hd H h.1 h.2)
  rintro i x H H' hi ⟨s, hz⟩ ⟨rfl, rfl⟩
  refine ⟨hw _, yes_it (he i _ hi s _ ⟨_, hz, ?_, same_mut s hD, ?_⟩)⟩
  · rw [List.length_map, List.length_range]
    exact small1000 (by omega)
  · rw [upd_same, List.range_succ, List.map_append]
    rfl
end
end Wl

/-! Defs that may raise: promises put together, called by name, the wishes. -/
namespace Wl
open PySem PySem.Spec PyProof.Rows L2
section
variable {P : Program} {w : World} {K : PySem.W.Frag} {mg : Str → Option Value} {base : Heap} {f : Addr} {fd : FuncData} {ps : List Str} {k j : Nat} {sp sp' : Sp} {CX : CXT}
/-- a def that lets nothing out, where exceptions are told -/
theorem FnOk_x (F : FnOk P w K mg base CX0 k f fd ps sp) : FnOk P w K mg base (L2N.CX P w) k f fd ps sp :=
  ⟨F.len, fun A outer s H args us vs Q E hr e0 hb r h => codeAny_mono (F.run A outer s H args us vs Q E hr e0 hb r h) fun r s' z => by
    cases r with
    | error e => exact False.elim z
    | ok fl => cases fl <;> exact z⟩
/-- two promises of one def -/
theorem FnOk_or (F : FnOk P w K mg base CX k f fd ps sp) (G : FnOk P w K mg base CX j f fd ps sp') : FnOk P w K mg base CX (max k j) f fd ps (fun vs H Q E => sp vs H Q E ∨ sp' vs H Q E) := by
  refine ⟨fun vs H Q E h => h.elim (F.len vs H Q E) (G.len vs H Q E), fun A outer s H args us vs Q E hr e0 hb r h => ?_⟩
  rcases h with h | h
  · exact F.run A outer s H args us vs Q E (hr.mono (Nat.le_max_left _ _)) e0 hb r h
  · exact G.run A outer s H args us vs Q E (hr.mono (Nat.le_max_right _ _)) e0 hb r h
theorem FnOk_xor (F : FnOk P w K mg base CX0 k f fd ps sp) (G : FnOk P w K mg base (L2N.CX P w) k f fd ps sp') : FnOk P w K mg base (L2N.CX P w) k f fd ps (fun vs H Q E => sp vs H Q E ∨ sp' vs H Q E) := by
  have z := FnOk_or (FnOk_x F) G
  rwa [Nat.max_self] at z
/-- as Fun.ok, for a def that may raise; what it raises has no context -/
theorem Fun_okN {x qual : Str} {st : Stmt} {N : List Str} (F : Fun K x qual st f fd) (S : FnScope N ps (defScope st)) (len : ∀ vs H Q E, sp vs H Q E → vs.length = ps.length)
    (hbody : ∀ (cdv : Value) (A : Around) (outer : List Env) (s : Shared) (H : Hp) (vs : List V) (Q : VK) (E : XK), Room k (A.deeper (envOfC qual (defScope st) s.heap.objs.size f cdv)) → sp vs H Q E →
      ∃ t, PSs (cxOf (L2N.CX P w) P w K mg base N qual (defScope st) f cdv A outer s H E) (defBody st) t ∧ t { nx := fun _ H' => Q .non H', rt := Q } (L2.start N vs) H) : FnOk P w K mg base (L2N.CX P w) (k + 1) f fd ps sp := by
  obtain ⟨oc, od, kV, doc, pm, an, cdv, ct, osl, rfl, lk, hcd⟩ := F.ex
  exact fn_of lk hcd S len fun A outer s H vs Q E hr hsp => hbody cdv A outer s H vs Q E hr hsp
def HasX (P : Program) (w : World) (K : PySem.W.Frag) (mg : Str → Option Value) (base : Heap) (x : Str) (k : Nat) (ps : List Str) (sp : Sp) : Prop :=
  ∃ f fd, FnOk P w K mg base (L2N.CX P w) k f fd ps sp ∧ mg x = some (.ref f) ∧ PySem.W.keepIn K (.ref f) = true ∧ Binds K fd ps []
def HasMX (P : Program) (w : World) (K : PySem.W.Frag) (mg : Str → Option Value) (base : Heap) (C : Addr) (m : Str) (k : Nat) (ps : List Str) (sp : Sp) : Prop :=
  ∃ f fd, FnOk P w K mg base (L2N.CX P w) k f fd ps sp ∧ Meth K C m f ∧ Binds K fd ps []
end
section
variable {X : Cx} {k j : Nat} {C : Addr} {ps : List Str} {sp : Sp} {x m : Str} {p pos apos : Pos} {e o : Expr} {es : List Expr} {ta : TE} {t : TA} {W : WX} {E : XK}
/-- what is wished, whatever the slots hold -/
def EW (n : Nat) (W : WX) : XK := fun cls d H => ∀ σ : L2.St, σ.length = n → W cls d σ H
theorem passU {n : Nat} (tk : L2N.Takes X W) (hn : X.N.length = n) : Passes (L2N.CX X.prog X.w) X (EW n W) := fun _ σ _ _ e s' I c => tk e s' (L2N.XE.of_call I (fun _ _ _ h => h σ (I.len.trans hn)) c)
theorem passE (tk : L2N.Takes X (fun cls d _ H => E cls d H)) : Passes (L2N.CX X.prog X.w) X E := fun _ _ _ _ e s' I c => tk e s' (L2N.XE.of_call (W := fun cls d _ H => E cls d H) I (fun _ _ _ h => h) c)
theorem pe_hx (h : HasX X.prog X.w X.K X.mg X.base x k ps sp) (hr : Room j X.A) (hx : Passes (L2N.CX X.prog X.w) X E) (ha : PA X (e :: es) t) (hkj : k ≤ j := by decide) (hg : Gl X x := by rfl) (hdb : (x == ("__debug__" : Str)) = false := by decide)
    (he : starEach (e :: es) X.env = (false, eval e X.env) :: starEach es X.env := by rfl) (hpl : (backTo pos (starEach es X.env)).any (·.1) = false := by rfl) :
    PE X (.Call (.Name x p) (e :: es) [] pos) (tCall sp [] E t) := by
  obtain ⟨f, fd, F, g, kp, b⟩ := h
  exact pe_call F (hr.mono hkj) hg g kp b .nil hx ha hdb he hpl
theorem pe_hmx {pl : Sem Bool} (h : HasMX X.prog X.w X.K X.mg X.base C m k ps sp) (c : Cls X.K C) (hr : Room j X.A) (hx : Passes (L2N.CX X.prog X.w) X E) (ho : PE X o ta) (ha : PA X (e :: es) t) (hkj : k ≤ j := by decide)
    (hst : starEach (e :: es) X.env = (false, eval e X.env) :: starEach es X.env := by rfl) (hpl : (backTo pos (starEach es X.env)).any (·.1) = false := by rfl)
    (ht : eval (.Call (.Attribute o m apos) (e :: es) [] pos) X.env = (do
      let ov ← eval o X.env
      standAt apos.atName
      let (f, first) ← holding [ov] (getMethod ov m pl)
      callWith pos f first (backTo pos (starEach (e :: es) X.env)) (backToKw pos (keywordEach [] X.env))) := by rfl) :
    PE X (.Call (.Attribute o m apos) (e :: es) [] pos) (tMeth C m sp [] E ta t) := by
  obtain ⟨f, fd, F, g, b⟩ := h
  exact pe_meth ho c g F (hr.mono hkj) b .nil hx ha hst hpl ht
theorem pe_hmx0 {pl : Sem Bool} (h : HasMX X.prog X.w X.K X.mg X.base C m k ps sp) (c : Cls X.K C) (hr : Room j X.A) (hx : Passes (L2N.CX X.prog X.w) X E) (ho : PE X o ta) (hkj : k ≤ j := by decide)
    (ht : eval (.Call (.Attribute o m apos) [] [] pos) X.env = (do
      let ov ← eval o X.env
      standAt apos.atName
      let (f, first) ← holding [ov] (getMethod ov m pl)
      callWith pos f first (backTo pos (starEach [] X.env)) (backToKw pos (keywordEach [] X.env))) := by rfl) :
    PE X (.Call (.Attribute o m apos) [] [] pos) (tMeth C m sp [] E ta tNil) := by
  obtain ⟨f, fd, F, g, b⟩ := h
  exact pe_meth0 ho c g F (hr.mono hkj) b .nil hx ht
end
end Wl

/-! What the words' functions refuse. -/
namespace Wl
open PySem PySem.Spec PyProof.Rows L2
/-- an error of the class at C whose field f holds v -/
def Refuses (C : Addr) (f : Str) (v : V) (H : Hp) (E : XK) : Prop := ∀ (d : Addr) (H' : Hp), Same H H' → H' d = some (.xd [(f, v)]) → E (.ref C) (some d) H'
theorem Refuses.same {C : Addr} {f : Str} {v : V} {H H' : Hp} {E : XK} (h : Refuses C f v H E) (s : Same H H') : Refuses C f v H' E := fun d H2 s2 e => h d H2 (s.trans s2) e
theorem Refuses.new {C : Addr} {f : Str} {v : V} {H H' : Hp} {E : XK} (h : Refuses C f v H E) (s : Same H H') : ∀ d, H' d = none → E (.ref C) (some d) (upd H' d (.xd [(f, v)])) := fun d hd => h d _ (s.trans (same_new hd)) upd_same
/-- a thing of some kind -/
def OddV (H : Hp) (v : V) : Prop := (∃ z, v = .str z ∧ z.length ≤ 1000) ∨ v = .non ∨ (∃ b, v = .bl b) ∨ (∃ i, v = .int i) ∨ ∃ p, v = .ref p ∧ ((∃ xs, H p = some (.tup xs)) ∨ (∃ xs, H p = some (.lst xs)) ∨ ∃ kvs, H p = some (.dK kvs))
theorem OddV.same {H H' : Hp} {v : V} (h : OddV H v) (s : Same H H') : OddV H' v := by
  rcases h with h | h | h | h | ⟨p, e, ⟨xs, h⟩ | ⟨xs, h⟩ | ⟨xs, h⟩⟩
  · exact .inl h
  · exact .inr (.inl h)
  · exact .inr (.inr (.inl h))
  · exact .inr (.inr (.inr (.inl h)))
  · exact .inr (.inr (.inr (.inr ⟨p, e, .inl ⟨xs, s _ _ h⟩⟩)))
  · exact .inr (.inr (.inr (.inr ⟨p, e, .inr (.inl ⟨xs, s _ _ h⟩)⟩)))
  · exact .inr (.inr (.inr (.inr ⟨p, e, .inr (.inr ⟨xs, s _ _ h⟩)⟩)))
def wvB : V → Bool
  | .str z => wdB z
  | _ => false
theorem OddV.wv {K : PySem.W.Frag} {H : Hp} {v : V} (h : OddV H v) : Wv K H v (wvB v) := by
  rcases h with ⟨z, e, h⟩ | h | ⟨b, h⟩ | ⟨i, h⟩ | ⟨p, e, ⟨xs, h⟩ | ⟨xs, h⟩ | ⟨xs, h⟩⟩
  · subst e
    exact .inl ⟨z, rfl, h, rfl⟩
  · subst h
    exact .inr ⟨_, .base .non, kit_ty (r := false) (by decide +kernel), rfl⟩
  · subst h
    exact .inr ⟨_, .base (.bl b), kit_ty (r := false) (by decide +kernel), rfl⟩
  · subst h
    exact .inr ⟨_, .base (.int i), kit_ty (r := false) (by decide +kernel), rfl⟩
  · subst e
    exact .inr ⟨_, .base (.tup h), kit_ty (r := false) (by decide +kernel), rfl⟩
  · subst e
    exact .inr ⟨_, .base (.lst h), kit_ty (r := false) (by decide +kernel), rfl⟩
  · subst e
    exact .inr ⟨_, .base (.dK h), kit_ty (r := false) (by decide +kernel), rfl⟩
/-- is it a tuple, and of what; is it a text -/
theorem OddV.tupQ {K : PySem.W.Frag} {H : Hp} {v : V} (h : OddV H v) : (∃ p xs, v = .ref p ∧ H p = some (.tup xs)) ∨ ∃ t, TyX K H v t ∧ PySem.W.kitOne K t (.type "tuple") = some false := by
  rcases h with ⟨z, e, h⟩ | h | ⟨b, h⟩ | ⟨i, h⟩ | ⟨p, e, ⟨xs, h⟩ | ⟨xs, h⟩ | ⟨xs, h⟩⟩
  · subst e
    exact .inr ⟨_, .base (.str z), kit_ty (r := false) (by decide +kernel)⟩
  · subst h
    exact .inr ⟨_, .base .non, kit_ty (r := false) (by decide +kernel)⟩
  · subst h
    exact .inr ⟨_, .base (.bl b), kit_ty (r := false) (by decide +kernel)⟩
  · subst h
    exact .inr ⟨_, .base (.int i), kit_ty (r := false) (by decide +kernel)⟩
  · subst e
    exact .inl ⟨p, xs, rfl, h⟩
  · subst e
    exact .inr ⟨_, .base (.lst h), kit_ty (r := false) (by decide +kernel)⟩
  · subst e
    exact .inr ⟨_, .base (.dK h), kit_ty (r := false) (by decide +kernel)⟩
theorem OddV.strQ {K : PySem.W.Frag} {H : Hp} {v : V} (h : OddV H v) : (∃ z, v = .str z ∧ z.length ≤ 1000) ∨ ∃ t, TyX K H v t ∧ PySem.W.kitOne K t (.type "str") = some false ∧ wvB v = false := by
  rcases h.wv (K := K) with ⟨z, e, l, _⟩ | ⟨t, ty, k, e⟩
  · exact .inl ⟨z, e, l⟩
  · exact .inr ⟨t, ty, k, e⟩
section
variable {P : Program} {w : World} {K : PySem.W.Frag} {mg : Str → Option Value} {base : Heap} {f : Addr} {fd : FuncData} {cW cC : Addr}
/-! ### check_word -/
def spCheckWR (cW : Addr) : Sp := fun vs H Q E => ∃ v, vs = [v] ∧ OddV H v ∧ wvB v = false ∧ Refuses cW "word" v H E
theorem ok_checkwR (F : Fun K "check_word" "check_word" wCheck f fd) (T : OwnX K mg "NoWord" "word" cW) (hI : Has P w K mg base "is_word" 1 ["thing"] (spIsW K)) : FnOk P w K mg base (L2N.CX P w) 2 f fd ["word"] (spCheckWR cW) := by
  refine Fun_okN F scCheckW (fun vs H Q E h => ?_) (fun cdv A outer s H vs Q E hr h => ?_)
  · obtain ⟨v, rfl, _⟩ := h
    rfl
  · obtain ⟨v, rfl, ho, hb, q⟩ := h
    refine ⟨_, pss_one (ps_if (pt_not (pt_val (pe_h hI hr (pa_cons (pv 0) pa_nil)))) (pss_one (ps_raiseX rfl T hr (L2N.takes_of rfl rfl rfl rfl) (pa_cons (pv 0) pa_nil))) pss_nil), ?_⟩
    refine ⟨_, rfl, v, false, rfl, hb ▸ ho.wv, fun H1 s1 => ⟨false, rfl, iteT ⟨_, rfl, v, rfl, fun d hd => ?_⟩⟩⟩
    exact q.new s1 d hd
def spCheckWX (cW : Addr) : Sp := fun vs H Q E => spCheckW vs H Q E ∨ spCheckWR cW vs H Q E
theorem ok_checkwX (F : Fun K "check_word" "check_word" wCheck f fd) (T : OwnX K mg "NoWord" "word" cW) (hI : Has P w K mg base "is_word" 1 ["thing"] (spIsW K)) : FnOk P w K mg base (L2N.CX P w) 2 f fd ["word"] (spCheckWX cW) := FnOk_xor (ok_checkw F hI) (ok_checkwR F T hI)
/-! ### is_letter, is_change of things of any kind -/
def lettB : V → Bool
  | .str z => wdB z && decide (z.length = 1)
  | _ => false
def spIsLetO : Sp := fun vs H Q _ => ∃ v, vs = [v] ∧ OddV H v ∧ ∀ H', Same H H' → Q (.bl (lettB v)) H'
theorem ok_isletO (F : Fun K "is_letter" "is_letter" wIsLetter f fd) (B : Bi mg) (hI : Has P w K mg base "is_word" 1 ["thing"] (spIsW K)) : FnOk P w K mg base CX0 2 f fd ["thing"] spIsLetO := by
  refine F.ok scIsLet (fun vs H Q E h => ?_) (fun cdv A outer s H vs Q E hr h => ?_)
  · obtain ⟨v, rfl, _⟩ := h
    rfl
  · obtain ⟨v, rfl, ho, q⟩ := h
    refine ⟨_, pss_one (ps_ret (pe_and (pe_h hI hr (pa_cons (pv 0) pa_nil)) (pe_one (pe_cmpR op_eq (pe_callB call_len_str (by rfl) B.len PySem.boot_len (pa_cons (pv 0) pa_nil)) pe_int (nomark _))))), ?_⟩
    rcases ho.strQ (K := K) with ⟨z, rfl, lz0⟩ | ⟨t, ty, hk, hb⟩
    · refine ⟨_, rfl, _, wdB z, rfl, ho.wv, fun H1 s1 => ⟨_, rfl, ite_b (fun e => ⟨_, rfl, _, rfl, lzl lz0, rfl, ?_⟩) (fun e => ?_)⟩⟩
      · rw [int_dec]
        have e2 : lettB (.str z) = decide ((z.length : Int) = 1) := by
          show (wdB z && decide (z.length = 1)) = _
          rw [e, Bool.true_and]
          by_cases h1 : z.length = 1
          · rw [decide_eq_true h1, decide_eq_true (by omega)]
          · rw [decide_eq_false h1, decide_eq_false (by omega)]
        rw [← e2]
        exact q H1 s1
      · have e2 : lettB (.str z) = false := by
          show (wdB z && decide (z.length = 1)) = _
          rw [e, Bool.false_and]
        rw [← e2]
        exact q H1 s1
    · have e2 : lettB v = false := by
        cases v with
        | str z => rw [show lettB (.str z) = (wdB z && decide (z.length = 1)) from rfl, show wdB z = false from hb, Bool.false_and]
        | _ => rfl
      refine ⟨_, rfl, v, false, rfl, hb ▸ ho.wv, fun H1 s1 => ⟨_, rfl, iteF ?_⟩⟩
      rw [← e2]
      exact q H1 s1
def whB : V → Bool
  | .str z => inV (.str z) [.str "first", .str "last", .str "any"]
  | _ => false
def chB (x y z : V) : Bool := lettB x && (lettB y && (!decide (x = y) && whB z))
theorem lettB_str {v : V} (h : lettB v = true) : ∃ z, v = .str z := by
  cases v with
  | str z => exact ⟨z, rfl⟩
  | _ => cases h
/-- a thing that is no change -/
def NoChg (H : Hp) (v : V) : Prop := OddV H v ∧ ∀ p xs, v = .ref p → H p = some (.tup xs) → xs.length ≤ 1000 ∧ (xs.length = 3 → ∃ x y z, xs = [x, y, z] ∧ OddV H x ∧ OddV H y ∧ OddV H z ∧ chB x y z = false)
theorem NoChg.same {H H' : Hp} {v : V} (h : NoChg H v) (s : Same H H') : NoChg H' v := by
  refine ⟨h.1.same s, fun p xs e hp => ?_⟩
  subst e
  have e2 : H p = some (.tup xs) := by
    rcases h.1 with ⟨z, e, _⟩ | e | ⟨b, e⟩ | ⟨i, e⟩ | ⟨p', e, ⟨ys, hq⟩ | ⟨ys, hq⟩ | ⟨ys, hq⟩⟩
    · cases e
    · cases e
    · cases e
    · cases e
    · cases e
      have := s _ _ hq
      rw [hp] at this
      rw [hq, ← this]
    · cases e
      have := s _ _ hq
      rw [hp] at this
      cases this
    · cases e
      have := s _ _ hq
      rw [hp] at this
      cases this
  obtain ⟨l, k⟩ := h.2 p xs rfl e2
  refine ⟨l, fun l3 => ?_⟩
  obtain ⟨x, y, z, e, o1, o2, o3, c⟩ := k l3
  exact ⟨x, y, z, e, o1.same s, o2.same s, o3.same s, c⟩
def spIsChO : Sp := fun vs H Q _ => ∃ v, vs = [v] ∧ NoChg H v ∧ ∀ H', Same H H' → Q (.bl false) H'
theorem ok_ischO (F : Fun K "is_change" "is_change" wIsChange f fd) (B : Bi mg) (G : Gw K mg) (hL : Has P w K mg base "is_letter" 2 ["thing"] spIsLetO) : FnOk P w K mg base CX0 3 f fd ["thing"] spIsChO := by
  obtain ⟨wa, gw, hw⟩ := G.wheres
  refine F.ok scIsCh (fun vs H Q E h => ?_) (fun cdv A outer s H vs Q E hr h => ?_)
  · obtain ⟨v, rfl, _⟩ := h
    rfl
  · obtain ⟨v, rfl, hn, q⟩ := h
    refine ⟨_, pss_cons (ps_if (PW.pt (pw_or (pt_not (pt_val (pe_callB call_isi (by rfl) B.isi (by decide +kernel) (pa_cons (pv 0) (pa_cons (pe_bltn (v := .ty "tuple") (by rfl) B.tuple (by decide +kernel) rfl) pa_nil)))))
        (pw_or1 (pt_cmpR op_ne (pe_callB call_len_seq (by rfl) B.len PySem.boot_len (pa_cons (pv 0) pa_nil)) pe_int (nomark _))))) (pss_one (ps_ret pe_bl)) pss_nil)
      (pss_cons (ps_asg (pv 0) (pg_tup rfl (pgs_cons (pg_name (i := 1) scIsCh.nd rfl (.inl rfl)) (pgs_cons (pg_name (i := 2) scIsCh.nd rfl (.inl rfl)) (pgs_cons (pg_name (i := 3) scIsCh.nd rfl (.inl rfl)) pgs_nil)))))
      (pss_cons (ps_if (PW.pt (pw_or (pt_not (pt_val (pe_h hL hr (pa_cons (pv 1) pa_nil)))) (pw_or (pt_not (pt_val (pe_h hL hr (pa_cons (pv 2) pa_nil)))) (pw_or1 (pt_cmpR op_eq (pv 1) (pv 2) (nomark _)))))) (pss_one (ps_ret pe_bl)) pss_nil)
      (pss_one (ps_ret (pe_and (pe_callB call_isi (by rfl) B.isi (by decide +kernel) (pa_cons (pv 3) (pa_cons (pe_bltn (v := .ty "str") (by rfl) B.str (by decide +kernel) rfl) pa_nil))) (pe_one (pe_cmpR op_in_seq (pv 3) (pe_glob (v := .ref wa) rfl gw rfl) (by rfl)))))))), ?_⟩
    rcases hn.1.tupQ (K := K) with ⟨p, xs, rfl, hp⟩ | ⟨t, ty, hk⟩
    · refine ⟨_, rfl, _, _, _, _, _, rfl, .ty "tuple", .base (.tup hp), kit_ty (r := true) (by decide +kernel), true, rfl, ?_⟩
      obtain ⟨l1000, h3⟩ := hn.2 p xs rfl hp
      refine iteF ⟨_, rfl, p, _, rfl, .inr (.inl (.inl hp)), rfl, _, rfl, ?_⟩
      rw [int_dec]
      by_cases l3 : xs.length = 3
      · obtain ⟨x, y, z, rfl, o1, o2, o3, hc⟩ := h3 l3
        rw [decide_eq_true (by simp : (([x, y, z] : List V).length : Int) = 3)]
        refine iteF ⟨_, rfl, p, _, rfl, .inl (.inl hp), rfl, _, _, rfl, _, _, rfl, _, _, rfl, rfl, ?_⟩
        refine ⟨_, rfl, x, rfl, o1, fun H1 s1 => ⟨_, rfl, not_b (fun e1 => ?_) (fun e1 => ?_)⟩⟩
        · exact q H1 s1
        · refine ⟨_, rfl, y, rfl, o2.same s1, fun H2 s2 => ⟨_, rfl, not_b (fun e2 => ?_) (fun e2 => ?_)⟩⟩
          · exact q H2 (s1.trans s2)
          · obtain ⟨z1, rfl⟩ := lettB_str e1
            obtain ⟨z2, rfl⟩ := lettB_str e2
            refine ⟨_, rfl, _, rfl, rfl, _, rfl, ?_⟩
            refine ite_b (fun e3 => q H2 (s1.trans s2)) (fun e3 => ?_)
            have e4 : whB z = false := by
              have hc := hc
              unfold chB at hc
              rw [e1, e2, e3] at hc
              simpa using hc
            rcases (o3.same (s1.trans s2)).strQ (K := K) with ⟨z3, rfl, l3⟩ | ⟨t, ty, hk, _⟩
            · refine ⟨_, rfl, _, _, _, _, _, rfl, .ty "str", .base (.str _), kit_ty (r := true) (by decide +kernel), true, rfl, iteT ⟨_, rfl, wa, _, rfl, .inr (hw H2), rfl, rfl, ?_⟩⟩
              rw [if_neg (by decide)]
              have : inV (.str z3) [.str "first", .str "last", .str "any"] = false := e4
              rw [this]
              exact q H2 (s1.trans s2)
            · exact ⟨_, rfl, _, _, _, _, _, rfl, .ty "str", ty, hk, false, rfl, iteF (q H2 (s1.trans s2))⟩
      · rw [decide_eq_false (by omega : ¬ (xs.length : Int) = 3)]
        exact iteT (q H (Same.refl H))
    · exact ⟨_, rfl, _, _, _, _, _, rfl, .ty "tuple", ty, hk, false, rfl, iteT (q H (Same.refl H))⟩
end
end Wl


namespace Wl
open PySem PySem.Spec PyProof.Rows L2
/-- what is no tuple of changes: its place, of the first that is none -/
def NoChs (H : Hp) (v : V) : Option Nat → Prop
  | none => OddV H v ∧ v ≠ .non ∧ ∀ p xs, v = .ref p → H p = some (.tup xs) → 12 < xs.length
  | some i => ∃ (p : Addr) (xs : List V), v = .ref p ∧ H p = some (.tup xs) ∧ xs.length ≤ 12 ∧ i < xs.length ∧ (∀ j, j < i → ∃ q ch, xs[j]? = some (.ref q) ∧ H q = some (.tup (chV ch)) ∧ OkC ch) ∧ ∃ u, xs[i]? = some u ∧ NoChg H u
def plcV : Option Nat → V
  | none => .non
  | some i => .int i
theorem OddV.tup_same {H H' : Hp} {p : Addr} {xs : List V} (h : OddV H (.ref p)) (s : Same H H') (hp : H' p = some (.tup xs)) : H p = some (.tup xs) := by
  rcases h with ⟨z, e, _⟩ | e | ⟨b, e⟩ | ⟨i, e⟩ | ⟨p', e, ⟨ys, hq⟩ | ⟨ys, hq⟩ | ⟨ys, hq⟩⟩
  · cases e
  · cases e
  · cases e
  · cases e
  · cases e
    have := s _ _ hq
    rw [hp] at this
    rw [hq, ← this]
  · cases e
    have := s _ _ hq
    rw [hp] at this
    cases this
  · cases e
    have := s _ _ hq
    rw [hp] at this
    cases this
theorem NoChs.same {H H' : Hp} {v : V} {o : Option Nat} (h : NoChs H v o) (s : Same H H') : NoChs H' v o := by
  cases o with
  | none =>
    refine ⟨h.1.same s, h.2.1, fun p xs e hp => h.2.2 p xs e ?_⟩
    subst e
    exact h.1.tup_same s hp
  | some i =>
    obtain ⟨p, xs, e, hp, l, hi, ha, u, hu, hn⟩ := h
    refine ⟨p, xs, e, s _ _ hp, l, hi, fun j hj => ?_, u, hu, hn.same s⟩
    obtain ⟨q, ch, e1, e2, e3⟩ := ha j hj
    exact ⟨q, ch, e1, s _ _ e2, e3⟩
section
variable {P : Program} {w : World} {K : PySem.W.Frag} {mg : Str → Option Value} {base : Heap} {f : Addr} {fd : FuncData} {cW cC : Addr}
/-! ### is_tuple_up_to of what is no tuple -/
def spTupToO : Sp := fun vs H Q _ => ∃ (v : V) (n : Int), vs = [v, .int n] ∧ OddV H v ∧ (∀ p xs, v = .ref p → H p = some (.tup xs) → n < xs.length) ∧ Q (.bl false) H
theorem ok_tuptoO (F : Fun K "is_tuple_up_to" "is_tuple_up_to" wTupTo f fd) (B : Bi mg) : FnOk P w K mg base CX0 1 f fd ["thing", "most"] spTupToO := by
  refine F.ok scTupTo (fun vs H Q E h => ?_) (fun cdv A outer s H vs Q E hr h => ?_)
  · obtain ⟨v, n, rfl, _⟩ := h
    rfl
  · obtain ⟨v, n, rfl, ho, hn, q⟩ := h
    refine ⟨_, pss_one (ps_ret (pe_and (pe_callB call_isi (by rfl) B.isi (by decide +kernel) (pa_cons (pv 0) (pa_cons (pe_bltn (v := .ty "tuple") (by rfl) B.tuple (by decide +kernel) rfl) pa_nil))) (pe_one (pe_cmpR op_le (pe_callB call_len_seq (by rfl) B.len PySem.boot_len (pa_cons (pv 0) pa_nil)) (pv 1) (nomark _))))), ?_⟩
    rcases ho.tupQ (K := K) with ⟨p, xs, rfl, hp⟩ | ⟨t, ty, hk⟩
    · refine ⟨_, rfl, _, _, _, _, _, rfl, .ty "tuple", .base (.tup hp), kit_ty (r := true) (by decide +kernel), true, rfl, iteT ⟨_, rfl, p, _, rfl, .inr (.inl (.inl hp)), _, rfl, _, _, rfl, rfl, ?_⟩⟩
      show Q (.bl (decide ((xs.length : Int) ≤ n))) H
      rw [decide_eq_false (by have := hn p xs rfl hp; omega)]
      exact q
    · exact ⟨_, rfl, _, _, _, _, _, rfl, .ty "tuple", ty, hk, false, rfl, iteF q⟩
/-! ### checked_changes -/
def spTupToX : Sp := fun vs H Q E => spTupTo vs H Q E ∨ spTupToO vs H Q E
def spIsChX : Sp := fun vs H Q E => spIsCh vs H Q E ∨ spIsChO vs H Q E
def spCheckedR (cC : Addr) : Sp := fun vs H Q E => ∃ (v : V) (o : Option Nat), vs = [v] ∧ NoChs H v o ∧ Refuses cC "place" (plcV o) H E
theorem ok_checkedR (F : Fun K "checked_changes" "checked_changes" wChecked f fd) (T : OwnX K mg "NoChanges" "place" cC) (B : Bi mg) (G : Gw K mg) (hTu : Has P w K mg base "is_tuple_up_to" 1 ["thing", "most"] spTupToX) (hC : Has P w K mg base "is_change" 3 ["thing"] spIsChX) :
    FnOk P w K mg base (L2N.CX P w) 4 f fd ["changes"] (spCheckedR cC) := by
  obtain ⟨t1, g1⟩ := G.mostch
  refine Fun_okN F scChecked (fun vs H Q E h => ?_) (fun cdv A outer s H vs Q E hr h => ?_)
  · obtain ⟨v, o, rfl, _⟩ := h
    rfl
  · obtain ⟨v, o, rfl, hn, q⟩ := h
    refine ⟨_, pss_cons (ps_if (pt_cmp (pc_isN (pv 0))) (pss_one ps_never) pss_nil)
      (pss_cons (ps_if (pt_not (pt_val (pe_h hTu hr (pa_cons (pv 0) (pa_cons (pe_glob (v := .int 12) rfl g1 ⟨_, rfl⟩) pa_nil))))) (pss_one (ps_raiseX rfl T hr (L2N.takes_of rfl rfl rfl rfl) (pa_cons pe_non pa_nil))) pss_nil)
      (pss_cons (ps_for (passes_of rfl) rfl (pi_enumT (by rfl) B.enum (pa_cons (pv 0) pa_nil)) (pg_tup rfl (pgs_cons (pg_name (i := 1) scChecked.nd rfl (.inl rfl)) (pgs_cons (pg_name (i := 2) scChecked.nd rfl (.inl rfl)) pgs_nil)))
        (pss_one (ps_if (pt_not (pt_val (pe_h hC hr (pa_cons (pv 2) pa_nil)))) (pss_one (ps_raiseX rfl T hr (L2N.takes_of rfl rfl rfl rfl) (pa_cons (pv 1) pa_nil))) pss_nil)))
      (pss_one ps_never))), ?_⟩
    cases o with
    | none =>
      obtain ⟨ho, hnn, hl⟩ := hn
      refine ⟨_, rfl, _, rfl, ?_⟩
      rw [decide_eq_false hnn]
      refine iteF ⟨_, rfl, .inr ⟨v, 12, rfl, ho, fun p xs e hp => ?_, ?_⟩⟩
      · have := hl p xs e hp
        omega
      · exact ⟨_, rfl, iteT ⟨.non, rfl, fun d hd => q.new (Same.refl H) d hd⟩⟩
    | some i =>
      obtain ⟨p, xs, rfl, hp, l12, hi, ha, u, hu, hn⟩ := hn
      refine ⟨_, rfl, _, rfl, iteF ⟨_, rfl, .inl ⟨p, xs, 12, rfl, hp, ?_⟩⟩⟩
      rw [decide_eq_true (by omega)]
      refine ⟨_, rfl, iteF ⟨_, rfl, p, _, rfl, .inl (.inl hp), for_it (walk_enumT (K := K) (a := p) (xs := xs)) (fun j σ H' => (∃ y1 y2, σ = [some (.ref p), y1, y2]) ∧ Same H H' ∧ j ≤ i) ⟨⟨_, _, rfl⟩, Same.refl H, Nat.zero_le _⟩ (fun j σ H' _ h => .inl (.inl (h.2.1 _ _ hp))) ?_ ?_⟩⟩
      · rintro j x σ H1 H2 hj ⟨⟨y1, y2, rfl⟩, s1, hji⟩ ⟨T1, x1, x2, rfl, hT, rfl, ex1, ex2⟩
        cases ex1
        have ex2 : xs[j]? = some x2 := ex2
        have s2 : Same H1 (upd H1 T1 (.tup [.int j, x2])) := same_new hT
        refine ⟨T1, _, rfl, .inl (.inl upd_same), rfl, _, _, rfl, _, _, rfl, rfl, ?_⟩
        rcases Nat.lt_or_eq_of_le hji with hlt | rfl
        · obtain ⟨q1, ch, e1, e2, e3⟩ := ha j hlt
          rw [e1] at ex2
          cases ex2
          exact ⟨_, rfl, .inl ⟨q1, ch, rfl, s2 _ _ (s1 _ _ e2), e3, fun H3 s3 => ⟨true, rfl, iteF ⟨⟨_, _, rfl⟩, (s1.trans s2).trans s3, hlt⟩⟩⟩⟩
        · rw [hu] at ex2
          cases ex2
          exact ⟨_, rfl, .inr ⟨u, rfl, hn.same (s1.trans s2), fun H3 s3 => ⟨false, rfl, iteT ⟨_, rfl, _, rfl, fun d hd => q.new ((s1.trans s2).trans s3) d hd⟩⟩⟩⟩
      · rintro σ H1 ⟨_, _, hle⟩
        omega
def spCheckedX (cC : Addr) : Sp := fun vs H Q E => spChecked vs H Q E ∨ spCheckedR cC vs H Q E
/-! ### row_between, are_one, meaning -/
/-- the first that is refused, of words, then of changes -/
def RefW2 (cW cC : Addr) (H : Hp) (a b v : V) (E : XK) : Prop :=
  (OddV H a ∧ wvB a = false ∧ Refuses cW "word" a H E) ∨ (∃ z, a = .str z ∧ IsWd z ∧ ((OddV H b ∧ wvB b = false ∧ Refuses cW "word" b H E) ∨ ∃ y, b = .str y ∧ IsWd y ∧ ∃ o, NoChs H v o ∧ Refuses cC "place" (plcV o) H E))
def spRowR (cW cC : Addr) : Sp := fun vs H Q E => ∃ a b v, vs = [a, b, v] ∧ RefW2 cW cC H a b v E
theorem ok_rowR (F : FunN K "row_between" wRow f fd) (hCk : HasX P w K mg base "check_word" 2 ["word"] (spCheckWX cW)) (hCh : HasX P w K mg base "checked_changes" 4 ["changes"] (spCheckedX cC)) : FnOk P w K mg base (L2N.CX P w) 5 f fd ps3 (spRowR cW cC) := by
  refine F.ok scRow (fun vs H Q E h => ?_) (fun cdv A outer s H vs Q E hr h => ?_)
  · obtain ⟨a, b, v, rfl, _⟩ := h
    rfl
  · obtain ⟨a, b, v, rfl, h⟩ := h
    have px : Passes (L2N.CX P w) (cxOf (L2N.CX P w) P w K mg base nRow "row_between" (defScope wRow) f cdv A outer s H E) E := passE (L2N.takes_of rfl rfl rfl rfl)
    refine ⟨_, pss_cons (ps_expr (pe_hx hCk hr px (pa_cons (pv 0) pa_nil))) (pss_cons (ps_expr (pe_hx hCk hr px (pa_cons (pv 1) pa_nil)))
      (pss_cons (ps_set (i := 3) scRow.nd rfl (.inl rfl) (pe_hx hCh hr px (pa_cons (pv 2) pa_nil))) pss_never)), ?_⟩
    rcases h with ⟨o, e, q⟩ | ⟨z, rfl, hz, ⟨o, e, q⟩ | ⟨y, rfl, hy, o, hn, q⟩⟩
    · exact ⟨_, rfl, .inr ⟨a, rfl, o, e, q⟩⟩
    · exact ⟨_, rfl, .inl ⟨z, rfl, hz, fun H1 s1 => ⟨_, rfl, .inr ⟨b, rfl, o.same s1, e, q.same s1⟩⟩⟩⟩
    · exact ⟨_, rfl, .inl ⟨z, rfl, hz, fun H1 s1 => ⟨_, rfl, .inl ⟨y, rfl, hy, fun H2 s2 => ⟨_, rfl, .inr ⟨v, o, rfl, hn.same (s1.trans s2), q.same (s1.trans s2)⟩⟩⟩⟩⟩⟩
def HasNX (P : Program) (w : World) (K : PySem.W.Frag) (mg : Str → Option Value) (base : Heap) (x : Str) (st : Stmt) (k : Nat) (ps : List Str) (sp : Sp) : Prop :=
  ∃ f fd, FnOk P w K mg base (L2N.CX P w) k f fd ps sp ∧ mg x = some (.ref f) ∧ FunN K x st f fd
def spRowX (cW cC : Addr) : Sp := fun vs H Q E => spRow vs H Q E ∨ spRowR cW cC vs H Q E
theorem ok_areR (F : FunN K "are_one" wAre f fd) (hR : HasNX P w K mg base "row_between" wRow 5 ps3 (spRowX cW cC)) : FnOk P w K mg base (L2N.CX P w) 6 f fd ps3 (spRowR cW cC) := by
  obtain ⟨f1, fd1, F1, m1, N1⟩ := hR
  have b1 := bind3 N1 (.inl rfl)
  refine F.ok scAre (fun vs H Q E h => ?_) (fun cdv A outer s H vs Q E hr h => ?_)
  · obtain ⟨a, b, v, rfl, _⟩ := h
    rfl
  · obtain ⟨a, b, v, rfl, h⟩ := h
    refine ⟨_, pss_one (ps_ret (pe_cmp (pc_notN (pe_call F1 hr rfl m1 N1.kp b1 .nil (passE (L2N.takes_of rfl rfl rfl rfl)) (pa_cons (pv 0) (pa_cons (pv 1) (pa_cons (pv 2) pa_nil))))))), ?_⟩
    exact ⟨_, rfl, _, rfl, _, rfl, .inr ⟨a, b, v, rfl, h⟩⟩
def RefW1 (cW cC : Addr) (H : Hp) (a v : V) (E : XK) : Prop :=
  (OddV H a ∧ wvB a = false ∧ Refuses cW "word" a H E) ∨ (∃ z, a = .str z ∧ IsWd z ∧ ∃ o, NoChs H v o ∧ Refuses cC "place" (plcV o) H E)
end
end Wl


namespace Wl
open PySem PySem.Spec PyProof.Rows L2

/-! ### the text by places -/
abbrev sCell : Stmt := topS 69
abbrev sPurse : Stmt := topS 70
abbrev sPick : Stmt := topS 71
abbrev sMenu : Stmt := topS 72
abbrev sWord : Stmt := topS 73

section
variable {P : Program} {w : World} {K : PySem.W.Frag} {mg : Str → Option Value} {base : Heap} {f : Addr} {fd : FuncData}

/-! ### a cell of the script: some int -/
def spCell (K : PySem.W.Frag) : Sp := fun vs H Q _ => ∃ (a : Addr) (ns : List Int) (k : Int), vs = [.ref a, .int k] ∧ SqL K H a (ns.map V.int) ∧ 0 ≤ k ∧ k ≤ 63 ∧
  ∀ (v : Int) (H' : Hp), Same H H' → Q (.int v) H'
theorem scCell : FnScope ["_law_script", "_law_k", "_law_state", "_law_cell_here"] ["_law_script", "_law_k"] (defScope sCell) :=
  ⟨rfl, rfl, rfl, by decide +kernel, rfl, by decide +kernel, by decide +kernel⟩
theorem mem_cut {xs : List V} {lo hi : Option Int} {v : V} (h : v ∈ cutV xs lo hi) : v ∈ xs := List.mem_of_mem_drop (List.mem_of_mem_take h)
theorem ok_cell (F : Fun K "_law_cell" "_law_cell" sCell f fd) (B : Bi mg) : FnOk P w K mg base CX0 1 f fd ["_law_script", "_law_k"] (spCell K) := by
  refine F.ok scCell (fun vs H Q E h => ?_) (fun cdv A outer s H vs Q E hr h => ?_)
  · obtain ⟨a, ns, k, rfl, _⟩ := h
    rfl
  · obtain ⟨a, ns, k, rfl, hS, k0, k1, q⟩ := h
    refine ⟨_, pss_cons (ps_if (pt_cmpR op_lt (pv 1) (pe_callB call_len_seq (by rfl) B.len PySem.boot_len (pa_cons (pv 0) pa_nil)) (nomark _)) (pss_one (ps_ret (pe_ix ix_list (pv 0) (pv 1) (fun _ _ => rfl)))) pss_nil)
      (pss_cons (ps_set (i := 2) scCell.nd rfl (.inl rfl) (pe_op op_mod (pe_op op_mul pe_int (pe_op op_add (pe_op op_add (pe_op op_mul (pv 1) (pv 1)) (pe_op op_mul pe_int (pv 1))) pe_int)) pe_int))
      (pss_cons (ps_for PassesOwn.never rfl (pi_list (pe_slice sl_list (pv 0) po_none (po_some pe_int))) (pg_name (i := 3) scCell.nd rfl (.inl rfl))
        (pss_one (ps_set (i := 2) scCell.nd rfl (.inl rfl) (pe_op op_mod (pe_op op_add (pe_op op_mul (pv 2) pe_int) (pv 3)) pe_int))))
      (pss_one (ps_ret (pv 2))))), ?_⟩
    refine ⟨_, rfl, .ref a, rfl, a, _, rfl, .inl hS, _, _, rfl, rfl, _, rfl, ite_b (fun e => ?_) (fun e => ?_)⟩
    · have hk : k < ((ns.map V.int).length : Int) := of_decide_eq_true e
      rw [List.length_map] at hk
      have hk2 : k.toNat < ns.length := by omega
      refine ⟨_, rfl, _, rfl, a, _, k, .int ns[k.toNat], rfl, rfl, hS, at_of (j := k.toNat) (by omega) ?_, q _ H (Same.refl H)⟩
      rw [List.getElem?_map, List.getElem?_eq_getElem hk2]
      rfl
    · refine ⟨_, rfl, _, rfl, k, k, rfl, rfl, .inl ⟨by omega, by omega⟩, _, rfl, 5, k, rfl, rfl, .inl ⟨by decide, by decide⟩, _, _, rfl, rfl, _, _, rfl, rfl, _, _, rfl, rfl, .inl ⟨by decide, by decide⟩, _, _, rfl, rfl, (show (0 : Int) < 1000000033 by decide), ?_⟩
      refine ⟨_, rfl, 4, rfl, a, _, rfl, hS, fun p hp => ?_⟩
      have hc : SqL K (upd H p (.lst (cutV (ns.map V.int) none (some 4)))) p (cutV (ns.map V.int) none (some 4)) := .inl (.inl upd_same)
      refine ⟨p, rfl, ⟨_, hc⟩, for_list (K := K) (a := p) (xs := cutV (ns.map V.int) none (some 4)) (fun i σ H' => (∃ (z : Int) (y : Option V), σ = [some (.ref a), some (.int k), some (.int z), y]) ∧ H' = upd H p (.lst (cutV (ns.map V.int) none (some 4))))
        ⟨⟨_, _, rfl⟩, rfl⟩ (fun i σ H' _ h => by rw [h.2]; exact hc) ?_ ?_⟩
      · rintro i x σ H' hx ⟨⟨z, y, rfl⟩, rfl⟩
        obtain ⟨n, rfl⟩ : ∃ n, x = V.int n := by
          obtain ⟨n, _, e⟩ := List.mem_map.mp (mem_cut (List.mem_of_getElem? hx))
          exact ⟨n, e.symm⟩
        refine ⟨_, rfl, z, 30029, rfl, rfl, .inr ⟨by decide, by decide⟩, _, rfl, _, _, rfl, rfl, _, _, rfl, rfl, (show (0 : Int) < 1000000033 by decide), ⟨⟨_, _, rfl⟩, rfl⟩⟩
      · rintro σ H' ⟨⟨z, y, rfl⟩, rfl⟩
        exact ⟨_, rfl, q _ _ (same_new hp)⟩

/-! ### the purse -/
def PurseAt (H : Hp) (a : Addr) : Prop := ∃ s b c : Int, H a = some (.lst [.int s, .int b, .int c]) ∧ 0 ≤ b
theorem PurseAt.same {H H' : Hp} {a : Addr} (h : PurseAt H a) (s : Same H H') : PurseAt H' a := by
  obtain ⟨s0, b, c, ha, hb⟩ := h
  exact ⟨s0, b, c, s _ _ ha, hb⟩
theorem PurseAt.ne {H : Hp} {a p : Addr} (h : PurseAt H a) (hp : H p = none) : p ≠ a := by
  obtain ⟨s0, b, c, ha, hb⟩ := h
  exact (ne_of_none ha hp).symm
theorem PurseAt.lst {H : Hp} {a : Addr} (h : PurseAt H a) : ∃ ys, H a = some (.lst ys) := by
  obtain ⟨s0, b, c, ha, hb⟩ := h
  exact ⟨_, ha⟩
def spPurse : Sp := fun vs H Q _ => ∃ (n : Int), vs = [.int n] ∧ ∀ (a : Addr) (H' : Hp), H a = none → Same H H' → PurseAt H' a → Q (.ref a) H'
theorem scPurse : FnScope ["_law_cell_here"] ["_law_cell_here"] (defScope sPurse) :=
  ⟨rfl, rfl, rfl, by decide +kernel, rfl, by decide +kernel, by decide +kernel⟩
theorem ok_purse (F : Fun K "_law_purse" "_law_purse" sPurse f fd) (B : Bi mg) : FnOk P w K mg base CX0 1 f fd ["_law_cell_here"] spPurse := by
  refine F.ok scPurse (fun vs H Q E h => ?_) (fun cdv A outer s H vs Q E hr h => ?_)
  · obtain ⟨n, rfl, _⟩ := h
    rfl
  · obtain ⟨n, rfl, q⟩ := h
    refine ⟨_, pss_one (ps_ret (pe_lst (pa_cons (pe_op op_add (pe_op op_mul (pe_op op_mod (pv 0) pe_int) pe_int) pe_int)
      (pa_cons (pe_ix ix_list (pe_lst (pa_cons pe_int (pa_cons (pv 0) pa_nil))) (pe_callTy call_int1 (by rfl) B.int (by decide +kernel) (pa_cons (pe_cmpR op_ge (pv 0) (pe_op op_pow pe_int pe_int) (nomark _)) pa_nil)) (fun _ _ => rfl))
      (pa_cons pe_int pa_nil))))), ?_⟩
    refine ⟨_, rfl, _, _, rfl, rfl, (show (0 : Int) < 1000000033 by decide), _, _, rfl, rfl, .inr ⟨by decide, by decide⟩, _, _, rfl, rfl, _, rfl, lz, fun p hp => ?_⟩
    have e18 : (10 : Int) ^ (18 : Int).toNat = 1000000000000000000 := by decide
    refine ⟨_, rfl, 10, 18, rfl, rfl, ⟨by decide, by decide, by decide⟩, _, _, rfl, rfl, .inr ⟨_, rfl, ?_⟩⟩
    refine ⟨p, [.int 0, .int n], _, .int (if decide ((10 : Int) ^ (18 : Int).toNat ≤ n) = true then n else 0), rfl, rfl, .inl (.inl upd_same), ?_, lz, fun a ha => ?_⟩
    · by_cases c : (10 : Int) ^ (18 : Int).toNat ≤ n
      · simp only [decide_eq_true c, if_true]
        exact atI_nat (j := 1) rfl
      · simp only [decide_eq_false c]
        exact atI_nat (j := 0) rfl
    · have hp2 : Same H (upd H p (.lst [.int 0, .int n])) := same_new hp
      refine q a _ (hp2.free ha) (hp2.trans (same_new ha)) ⟨_, _, _, upd_same, ?_⟩
      by_cases c : (10 : Int) ^ (18 : Int).toNat ≤ n
      · simp only [decide_eq_true c, if_true]
        rw [e18] at c
        omega
      · simp only [decide_eq_false c]
        exact Int.le_refl 0
/-! ### a pick: some number below many -/
def spPick : Sp := fun vs H Q _ => ∃ (a : Addr) (m : Int), vs = [.ref a, .int m] ∧ PurseAt H a ∧ 0 < m ∧ m < 1073741824 ∧
  ∀ (r : Int) (H' : Hp), 0 ≤ r → r < m → PurseAt H' a → SameX a H H' → (∀ p, H p = none → H' p = none) → Q (.int r) H'
theorem scPick : FnScope ["_law_purse_here", "_law_count", "_law_state", "_law_taken"] ["_law_purse_here", "_law_count"] (defScope sPick) :=
  ⟨rfl, rfl, rfl, by decide +kernel, rfl, by decide +kernel, by decide +kernel⟩
theorem none_upd {H : Hp} {a : Addr} {o u : HO} (h : H a = some o) : ∀ p, H p = none → upd H a u p = none := fun p hp => by
  rw [upd_ne (ne_of_none h hp).symm]
  exact hp
theorem ok_pick (F : Fun K "_law_pick" "_law_pick" sPick f fd) : FnOk P w K mg base CX0 1 f fd ["_law_purse_here", "_law_count"] spPick := by
  refine F.ok scPick (fun vs H Q E h => ?_) (fun cdv A outer s H vs Q E hr h => ?_)
  · obtain ⟨a, m, rfl, _⟩ := h
    rfl
  · obtain ⟨a, m, rfl, ⟨s0, b, c, ha, hb⟩, m0, m1, q⟩ := h
    refine ⟨_, pss_cons (ps_asg (pe_op op_add (pe_ix ix_list (pv 0) pe_int (fun _ _ => rfl)) pe_int) (pg_sub (pv 0) pe_int set_list))
      (pss_cons (ps_set (i := 2) scPick.nd rfl (.inl rfl) (pe_op op_mod (pe_ix ix_list (pv 0) pe_int (fun _ _ => rfl)) pe_int))
      (pss_cons (ps_asg (pe_op op_add (pe_op op_mul (pv 2) (pe_op op_add (pe_op op_mod (pv 2) pe_int) pe_int)) (pe_op op_mul pe_int (pe_ix ix_list (pv 0) pe_int (fun _ _ => rfl)))) (pg_sub (pv 0) pe_int set_list))
      (pss_cons (ps_if (pt_cmpR op_gt (pe_ix ix_list (pv 0) pe_int (fun _ _ => rfl)) pe_int (nomark _))
        (pss_cons (ps_set (i := 3) scPick.nd rfl (.inl rfl) (pe_op op_mod (pe_ix ix_list (pv 0) pe_int (fun _ _ => rfl)) (pv 1)))
        (pss_cons (ps_asg (pe_op op_fdiv (pe_ix ix_list (pv 0) pe_int (fun _ _ => rfl)) (pv 1)) (pg_sub (pv 0) pe_int set_list))
        (pss_one (ps_ret (pv 3))))) pss_nil)
      (pss_one (ps_ret (pe_op op_mod (pe_op op_fdiv (pe_op op_mod (pe_ix ix_list (pv 0) pe_int (fun _ _ => rfl)) pe_int) pe_int) (pv 1))))))), ?_⟩
    have hmod : ∀ x : Int, 0 ≤ x % 1000000033 ∧ x % 1000000033 < 1000000033 := fun x => by omega
    refine ⟨_, rfl, a, _, 2, .int c, rfl, rfl, .inl (.inl ha), atI_nat (j := 2) rfl, _, _, rfl, rfl, _, rfl, a, _, 2, 2, rfl, rfl, ha, rfl, ?_⟩
    refine ⟨_, rfl, a, _, 0, .int s0, rfl, rfl, .inl (.inl upd_same), atI_nat (j := 0) rfl, _, _, rfl, rfl, (show (0 : Int) < 1000000033 by decide), ?_⟩
    refine ⟨_, rfl, _, rfl, _, _, rfl, rfl, (show (0 : Int) < 60013 by decide), _, _, rfl, rfl, _, _, rfl, rfl, .inl ⟨by have := hmod s0; omega, by have := hmod s0; omega⟩,
      _, rfl, a, _, 2, _, rfl, rfl, .inl (.inl upd_same), atI_nat (j := 2) rfl, _, _, rfl, rfl, .inl ⟨by decide, by decide⟩, _, _, rfl, rfl, _, rfl, a, _, 0, 0, rfl, rfl, upd_same, rfl, ?_⟩
    refine ⟨_, rfl, a, _, 1, .int b, rfl, rfl, .inl (.inl upd_same), atI_nat (j := 1) rfl, _, _, rfl, rfl, _, rfl, ite_b (fun e => ?_) (fun e => ?_)⟩
    · refine ⟨_, rfl, a, _, 1, .int b, rfl, rfl, .inl (.inl upd_same), atI_nat (j := 1) rfl, _, rfl, b, m, rfl, rfl, m0, ?_⟩
      refine ⟨_, rfl, a, _, 1, .int b, rfl, rfl, .inl (.inl upd_same), atI_nat (j := 1) rfl, _, rfl, b, m, rfl, rfl, ⟨m0, m1⟩, _, rfl, a, _, 1, 1, rfl, rfl, upd_same, rfl, ?_⟩
      refine ⟨_, rfl, q _ _ (Int.emod_nonneg _ (by omega)) (Int.emod_lt_of_pos _ m0) ⟨_, _, _, upd_same, ?_⟩ (((sameX_upd).trans sameX_upd).trans sameX_upd) fun p hp => ?_⟩
      · exact Int.ediv_nonneg hb (by omega)
      · exact none_upd upd_same p (none_upd upd_same p (none_upd ha p hp))
    · refine ⟨_, rfl, a, _, 0, _, rfl, rfl, .inl (.inl upd_same), atI_nat (j := 0) rfl, _, _, rfl, rfl, (show (0 : Int) < 1000000033 by decide), _, _, rfl, rfl, ⟨by decide, by decide⟩, _, rfl, _, m, rfl, rfl, m0, ?_⟩
      exact q _ _ (Int.emod_nonneg _ (by omega)) (Int.emod_lt_of_pos _ m0) ⟨_, _, _, upd_same, hb⟩ ((sameX_upd).trans sameX_upd) fun p hp => none_upd upd_same p (none_upd ha p hp)

/-! ### the menu, a word -/
def menuW : List Str := ["put", "doubt", "strike", "back", "change", "one", "map", "words", "parted", "line", "rings", "thin", "fate", "asks", "habit", "apart", "near", "paper", "ok", "no", "none", "self", "may", "not", "has", "any"]
theorem menu_wd : ∀ z ∈ menuW, IsWd z := by decide +kernel
theorem menu_len : menuW.length = 26 := by decide +kernel
def spMenu : Sp := fun vs H Q _ => vs = [] ∧ ∀ (p : Addr) (H' : Hp), H p = none → Same H H' → H' p = some (.lst (menuW.map V.str)) → Q (.ref p) H'
theorem scMenu : FnScope ["_law_some"] [] (defScope sMenu) := ⟨rfl, rfl, rfl, by decide +kernel, rfl, by decide +kernel, by decide +kernel⟩
theorem ok_menu (F : Fun K "_law_menu" "_law_menu" sMenu f fd) : FnOk P w K mg base CX0 1 f fd [] spMenu := by
  refine F.ok scMenu (fun vs H Q E h => ?_) (fun cdv A outer s H vs Q E hr h => ?_)
  · obtain ⟨rfl, _⟩ := h
    rfl
  · obtain ⟨rfl, q⟩ := h
    refine ⟨_, pss_cons (ps_set (i := 0) scMenu.nd rfl (.inl rfl) (pe_lst (pa_cons pe_str (pa_cons pe_str (pa_cons pe_str (pa_cons pe_str (pa_cons pe_str (pa_cons pe_str (pa_cons pe_str (pa_cons pe_str (pa_cons pe_str (pa_cons pe_str (pa_cons pe_str (pa_cons pe_str pa_nil))))))))))))))
      (pss_cons (ps_set (i := 0) scMenu.nd rfl (.inl rfl) (pe_op op_cat (pv 0) (pe_lst (pa_cons pe_str (pa_cons pe_str (pa_cons pe_str (pa_cons pe_str (pa_cons pe_str (pa_cons pe_str (pa_cons pe_str (pa_cons pe_str (pa_cons pe_str (pa_cons pe_str (pa_cons pe_str (pa_cons pe_str pa_nil)))))))))))))))
      (pss_one (ps_ret (pe_op op_cat (pv 0) (pe_lst (pa_cons pe_str (pa_cons pe_str pa_nil))))))), ?_⟩
    refine ⟨lz, fun p1 h1 => ?_⟩
    refine ⟨_, rfl, lz, fun p2 h2 => ⟨p1, p2, _, _, rfl, rfl, (same_new h2) _ _ upd_same, upd_same, lz, fun p3 h3 => ?_⟩⟩
    refine ⟨_, rfl, lz, fun p4 h4 => ⟨p3, p4, _, _, rfl, rfl, (same_new h4) _ _ upd_same, upd_same, lz, fun p5 h5 => ?_⟩⟩
    exact q p5 _ (Same.free (((same_new h1).trans (same_new h2)).trans ((same_new h3).trans (same_new h4))) h5) ((((same_new h1).trans (same_new h2)).trans ((same_new h3).trans (same_new h4))).trans (same_new h5)) upd_same

def spWord : Sp := fun vs H Q _ => ∃ (a : Addr), vs = [.ref a] ∧ PurseAt H a ∧ ∀ (z : Str) (H' : Hp), IsWd z → PurseAt H' a → SameX a H H' → Q (.str z) H'
abbrev nWord : List Str := ["_law_purse_here", "_law_way", "_law_wide", "_law_size", "_law_k"]
theorem scWord : FnScope nWord ["_law_purse_here"] (defScope sWord) :=
  ⟨rfl, rfl, rfl, by decide +kernel, rfl, by decide +kernel, by decide +kernel⟩
theorem ok_word (F : Fun K "_law_word" "_law_word" sWord f fd) (B : Bi mg) (hp : Has P w K mg base "_law_pick" 1 ["_law_purse_here", "_law_count"] spPick) (hm : Has P w K mg base "_law_menu" 1 [] spMenu) :
    FnOk P w K mg base CX0 2 f fd ["_law_purse_here"] spWord := by
  refine F.ok scWord (fun vs H Q E h => ?_) (fun cdv A outer s H vs Q E hr h => ?_)
  · obtain ⟨a, rfl, _⟩ := h
    rfl
  · obtain ⟨a, rfl, hA, q⟩ := h
    refine ⟨_, pss_cons (ps_asg (pe_tup (pa_cons (pe_h hp hr (pa_cons (pv 0) (pa_cons pe_int pa_nil))) (pa_cons (pe_ix ix_list (pe_lst (pa_cons pe_int (pa_cons pe_int (pa_cons pe_int pa_nil)))) (pe_h hp hr (pa_cons (pv 0) (pa_cons pe_int pa_nil))) (fun _ _ => rfl)) pa_nil)))
        (pg_tup rfl (pgs_cons (pg_name (i := 1) scWord.nd rfl (.inl rfl)) (pgs_cons (pg_name (i := 2) scWord.nd rfl (.inr rfl)) pgs_nil))))
      (pss_cons (ps_if (pt_cmpR op_eq (pv 1) pe_int (nomark _)) (pss_one (ps_ret (pe_ix ix_list (pe_h0 hm hr) (pe_h hp hr (pa_cons (pv 0) (pa_cons pe_int pa_nil))) (fun _ _ => rfl)))) pss_nil)
      (pss_cons (ps_set (i := 3) scWord.nd rfl (.inl rfl) (pe_ix ix_list (pe_lst (pa_cons pe_int (pa_cons pe_int (pa_cons pe_int (pa_cons pe_int (pa_cons (pe_op op_add pe_int (pe_h hp hr (pa_cons (pv 0) (pa_cons pe_int pa_nil)))) pa_nil)))))) (pe_h hp hr (pa_cons (pv 0) (pa_cons pe_int pa_nil))) (fun _ _ => rfl)))
      (pss_one (ps_ret (pe_join pe_str (pe_lc (own := [("_law_k", 4)]) (g := gName 4) (tt := tYes) rfl scWord.nd (pi_range1 (by rfl) B.range (pa_cons (pv 3) pa_nil)) (blkOk_by (N := nWord) (sc := defScope sWord) (by decide +kernel))
        (fun _ _ _ _ _ => pg_name (i := 4) scWord.nd rfl (.inl rfl)) (fun _ _ _ _ _ => pts_nil) (fun _ _ _ _ _ => pe_ix ix_str pe_str (pe_h hp hr (pa_cons (pv 0) (pa_cons (pv 2) pa_nil))) (fun _ _ => rfl)))))))), ?_⟩
    -- way, wide
    refine ⟨_, rfl, a, 4, rfl, hA, by decide, by decide, fun r1 H1 r10 r11 hA1 s1 n1 => ?_⟩
    refine ⟨lz, fun p hp => ⟨_, rfl, a, 3, rfl, hA1.same (same_new hp), by decide, by decide, fun r2 H2 r20 r21 hA2 s2 n2 => ?_⟩⟩
    have npa := hA1.ne hp
    obtain ⟨wd, hwm, hwd⟩ := atI_tab (ns := [3, 5, 26]) r20 r21
    have hw : 0 < wd ∧ wd ≤ 26 := by
      simp only [List.mem_cons, List.not_mem_nil, or_false] at hwm
      omega
    have s2' : SameX a H H2 := (s1.trans (sx (same_new hp))).trans s2
    refine ⟨p, _, r2, .int wd, rfl, rfl, .inl (.inl (s2 _ _ npa upd_same)), hwd, lz, fun t ht => ?_⟩
    refine ⟨t, _, rfl, .inl (.inl upd_same), rfl, _, _, rfl, _, _, rfl, rfl, ?_⟩
    have hA3 := hA2.same (same_new (o := .tup [.int r1, .int wd]) ht)
    have s3 : SameX a H _ := s2'.trans (sx (same_new (o := .tup [.int r1, .int wd]) ht))
    generalize upd H2 t (.tup [.int r1, .int wd]) = H3 at hA3 s3
    refine ⟨_, rfl, rfl, _, rfl, ite_b (fun e => ?_) (fun e => ?_)⟩
    · -- menu()[..]
      refine ⟨rfl, fun p4 H4 hp4 s4 h4 => ⟨_, rfl, a, 26, rfl, hA3.same s4, by decide, by decide, fun r5 H5 r50 r51 hA5 s5 n5 => ?_⟩⟩
      obtain ⟨z, hz, hzi⟩ := atI_strs (zs := menuW) r50 (by rw [menu_len]; exact r51)
      exact ⟨p4, _, r5, .str z, rfl, rfl, .inl (.inl (s5 _ _ (hA3.ne hp4) h4)), hzi, q z H5 (menu_wd z hz) hA5 ((s3.trans (sx s4)).trans s5)⟩
    · -- size
      refine ⟨_, rfl, a, 8, rfl, hA3, by decide, by decide, fun r4 H4 r40 r41 hA4 s4 n4 => ⟨_, _, rfl, rfl, lz, fun p5 hp5 => ⟨_, rfl, a, 5, rfl, hA4.same (same_new hp5), by decide, by decide, fun r6 H6 r60 r61 hA6 s6 n6 => ?_⟩⟩⟩
      have np5 := hA4.ne hp5
      obtain ⟨sz, hsm, hsz⟩ := atI_tab (ns := [1, 2, 3, 4, 1 + r4]) r60 r61
      have hs8 : 1 ≤ sz ∧ sz ≤ 8 := by
        simp only [List.mem_cons, List.not_mem_nil, or_false] at hsm
        omega
      refine ⟨p5, _, r6, .int sz, rfl, rfl, .inl (.inl (s6 _ _ np5 upd_same)), hsz, ?_⟩
      have s6' : SameX a H H6 := ((s3.trans s4).trans (sx (same_new hp5))).trans s6
      -- join of the signs
      refine ⟨⟨_, rfl⟩, _, rfl, sz, rfl, by omega, by omega, fun D hD => lc_range (lo := 0) (n := sz.toNat)
        (fun i H' => ∃ cs : List Nat, cs.length = i ∧ (∀ c ∈ cs, 97 ≤ c ∧ c ≤ 122) ∧ H' D = some (.lst ((cs.map sign).map V.str)) ∧ PurseAt H' a ∧ SameX a H6 H')
        ⟨[], rfl, fun c hc => by simp at hc, upd_same, hA6.same (same_new hD), sx (same_new hD)⟩ ?_ ?_⟩
      · rintro i H7 hi ⟨cs, hcl, hcs, hDl, hA7, s7⟩
        refine ⟨rfl, yes_it ⟨_, rfl, _, rfl, a, wd, rfl, hA7, hw.1, by omega, fun r8 H8 r80 r81 hA8 s8 n8 => ?_⟩⟩
        have nD := hA6.ne hD
        refine ⟨_, r8, _, rfl, rfl, lz, letter_at r80 (by omega), _, s8 _ _ nD hDl, ?_, ?_⟩
        · rw [List.length_map, List.length_map]
          exact small1000 (by omega)
        · refine ⟨cs ++ [97 + r8.toNat], by simp [hcl], fun c hc => ?_, ?_, ?_, sameX_mut (s7.trans s8) hD⟩
          · rcases List.mem_append.mp hc with hc | hc
            · exact hcs c hc
            · rw [List.mem_singleton.mp hc]
              omega
          · rw [upd_same, List.map_append, List.map_append]
            rfl
          · obtain ⟨x0, x1, x2, hx, hx1⟩ := hA8
            exact ⟨x0, x1, x2, by rw [upd_ne nD.symm]; exact hx, hx1⟩
      · rintro H7 ⟨cs, hcl, hcs, hDl, hA7, s7⟩
        refine ⟨_, D, cs.map sign, rfl, rfl, .inl (.inl (.inl hDl)), ?_, ?_⟩
        · have e0 : ("" : Str).length = 0 := by decide +kernel
          have e1 : (cs.map sign).map (·.length) = cs.map fun _ => 1 := by
            rw [List.map_map]
            rfl
          rw [e0, e1, Nat.mul_zero]
          have e2 : ∀ l : List Nat, (l.map fun _ => 1).sum = l.length := fun l => by
            induction l with
            | nil => rfl
            | cons x r ih => rw [List.map_cons, List.sum_cons, ih, List.length_cons]; omega
          rw [e2]
          omega
        · refine q _ H7 (isWd_of ?_ ?_ ?_) hA7 (s6'.trans s7)
          · rw [join_signs]; omega
          · rw [join_signs]; omega
          · rw [join_signs]; exact hcs
end
end Wl




namespace Wl
open PySem
def Closed (E : Edges) (l : List Nat) : Prop := ∀ e ∈ E, (e.1 ∈ l ↔ e.2 ∈ l)
theorem closed_conn {E : Edges} {l : List Nat} (h : Closed E l) {c d : Nat} (hc : c ∈ l) (k : Conn E c d) : d ∈ l := by
  induction k with
  | refl => exact hc
  | step _ m ih =>
    rcases mem_nbrs.mp m with m | m
    · exact (h _ m).mp ih
    · exact (h _ m).mpr ih
theorem filt_more {p q : Nat × Nat → Bool} : ∀ {E : Edges}, (∀ e, p e = true → q e = true) → (∃ e ∈ E, p e = false ∧ q e = true) → (E.filter p).length + 1 ≤ (E.filter q).length
  | [], _, ⟨_, h, _⟩ => nomatch h
  | e :: E, h, ⟨x, hx, h1, h2⟩ => by
    have sub : ∀ E : Edges, (E.filter p).length ≤ (E.filter q).length := fun E => by
      induction E with
      | nil => exact Nat.le_refl _
      | cons y r ih =>
        rw [List.filter_cons, List.filter_cons]
        by_cases c : p y = true
        · rw [if_pos c, if_pos (h y c), List.length_cons, List.length_cons]
          omega
        · rw [if_neg c]
          split
          · rw [List.length_cons]
            omega
          · exact ih
    have s1 := sub E
    rw [List.filter_cons, List.filter_cons]
    rcases List.mem_cons.mp hx with rfl | hx
    · rw [if_neg (by rw [h1]; decide), if_pos h2, List.length_cons]
      omega
    · have ih := filt_more (E := E) h ⟨x, hx, h1, h2⟩
      by_cases c : p e = true
      · rw [if_pos c, if_pos (h e c), List.length_cons, List.length_cons]
        omega
      · rw [if_neg c]
        split
        · rw [List.length_cons]
          omega
        · exact ih
/-- the edges within -/
def inE (E : Edges) (l : List Nat) : Nat := (E.filter fun e => decide (e.1 ∈ l) && decide (e.2 ∈ l)).length
structure KinB (E : Edges) (c : Nat) (l : List Nat) : Prop where
  nd : l.Nodup
  lets : ∀ x ∈ l, isLet x
  conn : ∀ x ∈ l, Conn E c x
  mem : c ∈ l
  few : l.length ≤ inE E l + 1
theorem KinB.start {E : Edges} {c : Nat} (h : isLet c) : KinB E c [c] := ⟨by simp, fun x hx => by simp at hx; subst hx; exact h, fun x hx => by simp at hx; subst hx; exact .refl _, by simp, by simp⟩
theorem KinB.push {E : Edges} {c x y : Nat} {l : List Nat} (b : KinB E c l) (hx : x ∈ l) (hy : y ∉ l) (hn : y ∈ nbrs E x) (hl : isLet y) : KinB E c (l ++ [y]) := by
  have hfew : inE E l + 1 ≤ inE E (l ++ [y]) := by
    refine filt_more (fun e he => ?_) ?_
    · simp only [Bool.and_eq_true, decide_eq_true_eq] at he ⊢
      exact ⟨List.mem_append_left _ he.1, List.mem_append_left _ he.2⟩
    · rcases mem_nbrs.mp hn with m | m
      · exact ⟨_, m, by simp [hy], by simp [hx]⟩
      · exact ⟨_, m, by simp [hy], by simp [hx]⟩
  refine ⟨?_, fun u hu => ?_, fun u hu => ?_, List.mem_append_left _ b.mem, by have := b.few; rw [List.length_append, List.length_singleton]; omega⟩
  · rw [List.nodup_append]
    refine ⟨b.nd, by simp, fun u hu v hv e => ?_⟩
    simp at hv
    subst hv e
    exact hy hu
  · rcases List.mem_append.mp hu with hu | hu
    · exact b.lets u hu
    · simp at hu; subst hu; exact hl
  · rcases List.mem_append.mp hu with hu | hu
    · exact b.conn u hu
    · simp at hu; subst hu; exact .step (b.conn x hx) hn
theorem KinB.len {E : Edges} {c : Nat} {l : List Nat} (b : KinB E c l) : l.length ≤ 26 := by
  have h := b.nd.length_le_of_subset (l₂ := List.range' 97 26) fun x hx => by
    have := b.lets x hx
    rw [List.mem_range'_1]
    unfold isLet at this
    omega
  simpa using h
def KinP (E : Edges) (c : Nat) (l0 : List Nat) (Ej : Edges) (l : List Nat) : Prop := KinB E c l ∧ ((l = l0 ∧ ∀ e ∈ Ej, (e.1 ∈ l ↔ e.2 ∈ l)) ∨ (¬ Closed E l0 ∧ l0.length + 1 ≤ l.length))
theorem KinP.add {E : Edges} {c a b : Nat} {l0 l : List Nat} {Ej Ek : Edges} (p : KinP E c l0 Ej l) (he : (a, b) ∈ E ∨ (b, a) ∈ E) (ha : a ∈ l) (hb : b ∉ l) (hl : isLet b) : KinP E c l0 Ek (l ++ [b]) := by
  obtain ⟨p1, p2⟩ := p
  refine ⟨p1.push ha hb (mem_nbrs.mpr he) hl, .inr ?_⟩
  rw [List.length_append, List.length_singleton]
  rcases p2 with ⟨e, _⟩ | ⟨h1, h2⟩
  · subst e
    refine ⟨fun cl => ?_, Nat.le_refl _⟩
    rcases he with he | he
    · exact hb ((cl _ he).mp ha)
    · exact hb ((cl _ he).mpr ha)
  · exact ⟨h1, by omega⟩
theorem KinP.skip {E : Edges} {c a b : Nat} {l0 l : List Nat} {Ej : Edges} (p : KinP E c l0 Ej l) (h : a ∈ l ↔ b ∈ l) : KinP E c l0 (Ej ++ [(a, b)]) l := by
  obtain ⟨p1, p2⟩ := p
  refine ⟨p1, ?_⟩
  rcases p2 with ⟨e, q⟩ | q
  · refine .inl ⟨e, fun x hx => ?_⟩
    rcases List.mem_append.mp hx with hx | hx
    · exact q x hx
    · rw [List.mem_singleton] at hx
      subst hx
      exact h
  · exact .inr q
def KinK (E : Edges) (c k : Nat) (l : List Nat) : Prop := KinB E c l ∧ (Closed E l ∨ k + 1 ≤ l.length)
theorem KinK.begin {E : Edges} {c k : Nat} {l : List Nat} (h : KinK E c k l) : KinP E c l [] l := ⟨h.1, .inl ⟨rfl, fun e he => by cases he⟩⟩
theorem KinK.next {E : Edges} {c k : Nat} {l0 l : List Nat} (h : KinK E c k l0) (p : KinP E c l0 E l) : KinK E c (k + 1) l := by
  refine ⟨p.1, ?_⟩
  rcases p.2 with ⟨_, q⟩ | ⟨q1, q2⟩
  · exact .inl q
  · rcases h.2 with h2 | h2
    · exact absurd h2 q1
    · exact .inr (by omega)
theorem KinK.done {E : Edges} {c : Nat} {l : List Nat} (h : KinK E c 26 l) {d : Nat} : d ∈ l ↔ Conn E c d := by
  have hl := h.1.len
  rcases h.2 with h2 | h2
  · exact ⟨h.1.conn d, closed_conn h2 h.1.mem⟩
  · omega
theorem KinK.doneE {E : Edges} {c k : Nat} {l : List Nat} (h : KinK E c k l) {d : Nat} (hk : E.length + 1 ≤ k) : d ∈ l ↔ Conn E c d := by
  have hl := h.1.few
  have h3 : inE E l ≤ E.length := List.length_filter_le _ _
  rcases h.2 with h2 | h2
  · exact ⟨h.1.conn d, closed_conn h2 h.1.mem⟩
  · omega
end Wl

namespace Wl
open PySem PySem.Spec PyProof.Rows L2
abbrev sKin : Stmt := topS 76
abbrev sMeaning : Stmt := topS 77
def sd (z : Str) : V × PyData := (.str z, .str z)
theorem sort_strs (xs : List Str) : ((xs.map sd).mergeSort (PySem.W.dataLe false (·.2))).map (·.1) = (sortS xs).map V.str := by
  have h : (sortS xs).map sd = (xs.map sd).mergeSort (PySem.W.dataLe false (·.2)) := List.map_mergeSort fun a _ b _ => by
    rw [PySem.W.dataLe_eq]
    exact (le_data_str a b).symm
  rw [← h, List.map_map]
  rfl
theorem alike_strs (xs : List Str) : PySem.W.AllAlike ((xs.map sd).map (·.2)) := by
  intro d hd e he
  obtain ⟨b, hb, rfl⟩ := List.mem_map.mp hd
  obtain ⟨x, _, rfl⟩ := List.mem_map.mp hb
  obtain ⟨c, hc, rfl⟩ := List.mem_map.mp he
  obtain ⟨y, _, rfl⟩ := List.mem_map.mp hc
  rfl
theorem sortable_strs (xs : List Str) : PySem.W.Sortable ((xs.map sd).map (·.2)) := .inr fun d hd => by
  obtain ⟨b, hb, rfl⟩ := List.mem_map.mp hd
  obtain ⟨x, _, rfl⟩ := List.mem_map.mp hb
  exact ⟨(fun e => by cases e), (fun ys e => by cases e)⟩
/-- sorted of a list of texts, as a reading -/
theorem sort_readsK {K : PySem.W.Frag} {H : Hp} {Q : VK} {a : Addr} {xs : List Str} (h : SqL K H a (xs.map V.str)) (q : ∀ p, H p = none → Q (.ref p) (upd H p (.lst ((sortS xs).map V.str)))) : rSortD K [.ref a] H Q := by
  refine ⟨a, xs.map sd, rfl, ?_, ?_, alike_strs xs, sortable_strs xs, ?_, fun p hp => ?_⟩
  · rw [List.map_map]
    exact h
  · intro b hb
    obtain ⟨x, _, rfl⟩ := List.mem_map.mp hb
    exact .str x
  · intro b hb
    obtain ⟨x, _, rfl⟩ := List.mem_map.mp hb
    show PyData.depth (.str x) ≤ 8
    simp [PyData.depth]
  · rw [sort_strs]
    exact q p hp
theorem sign_inj {a b : Nat} (h : sign a = sign b) : a = b := by
  have e := congrArg (fun z : Str => z.cps.toList) h
  simpa [sign] using e
theorem mem_signs {a : Nat} {l : List Nat} : sign a ∈ l.map sign ↔ a ∈ l := by
  constructor
  · intro h
    obtain ⟨b, hb, e⟩ := List.mem_map.mp h
    rw [← sign_inj e]
    exact hb
  · exact fun h => List.mem_map.mpr ⟨a, h, rfl⟩
theorem inV_signs (a : Nat) (l : List Nat) : inV (.str (sign a)) ((l.map sign).map V.str) = decide (a ∈ l) := by
  rw [inV_strs]
  by_cases h : a ∈ l
  · rw [decide_eq_true h, decide_eq_true (mem_signs.mpr h)]
  · rw [decide_eq_false h, decide_eq_false fun q => h (mem_signs.mp q)]
section
variable {a : Nat} {l : List Nat}
theorem inT (h : a ∈ l) : V.bl (if (false : Bool) then !inV (.str (sign a)) ((l.map sign).map V.str) else inV (.str (sign a)) ((l.map sign).map V.str)) = .bl true := by
  rw [if_neg (by decide), inV_signs, decide_eq_true h]
theorem inF (h : a ∉ l) : V.bl (if (false : Bool) then !inV (.str (sign a)) ((l.map sign).map V.str) else inV (.str (sign a)) ((l.map sign).map V.str)) = .bl false := by
  rw [if_neg (by decide), inV_signs, decide_eq_false h]
theorem niT (h : a ∉ l) : V.bl (if (true : Bool) then !inV (.str (sign a)) ((l.map sign).map V.str) else inV (.str (sign a)) ((l.map sign).map V.str)) = .bl true := by
  rw [if_pos rfl, inV_signs, decide_eq_false h]
  rfl
theorem niF (h : a ∈ l) : V.bl (if (true : Bool) then !inV (.str (sign a)) ((l.map sign).map V.str) else inV (.str (sign a)) ((l.map sign).map V.str)) = .bl false := by
  rw [if_pos rfl, inV_signs, decide_eq_true h]
  rfl
end
theorem sorted_least {l : List Nat} {E : Edges} {c : Nat} (nd : l.Nodup) (hm : ∀ d, d ∈ l ↔ Conn E c d) : ∃ r, (sortS (l.map sign)).map V.str = sgV (lo E c) :: r := by
  have nd2 : (l.map sign).Nodup := by
    exact List.pairwise_map.mpr (nd.imp fun h e => h (sign_inj e))
  have hr := sortS_rising nd2
  cases hs : sortS (l.map sign) with
  | nil =>
    have : sign c ∈ sortS (l.map sign) := mem_sortS.mpr (mem_signs.mpr ((hm c).mpr (.refl c)))
    rw [hs] at this
    cases this
  | cons m r =>
    rw [hs] at hr
    have hmm : m ∈ l.map sign := mem_sortS.mp (by rw [hs]; exact List.mem_cons_self)
    obtain ⟨d, hd, rfl⟩ := List.mem_map.mp hmm
    refine ⟨r.map V.str, ?_⟩
    have : lo E c = d := lo_of ((hm d).mp hd) fun x hx => by
      have hx2 : sign x ∈ sortS (l.map sign) := mem_sortS.mpr (mem_signs.mpr ((hm x).mpr hx))
      rw [hs] at hx2
      rcases List.mem_cons.mp hx2 with e | e
      · rw [sign_inj e]
        exact Nat.le_refl _
      · have := (List.pairwise_cons.mp hr).1 _ e
        exact Nat.le_of_lt ((sign_lt d x).mp this)
    rw [this]
    rfl
section
variable {P : Program} {w : World} {K : PySem.W.Frag} {mg : Str → Option Value} {base : Heap} {f : Addr} {fd : FuncData}
theorem kin_tt {σ : L2.St} {H : Hp} {Q : Bool → Hp → Prop} {wh : Wh} {pl n : Nat} (h8 : σ[8]? = some (some (.str (whS wh)))) (h2 : σ[2]? = some (some (.bl (decide (pl = 0))))) (h3 : σ[3]? = some (some (.bl (decide (pl + 1 = n))))) (q : Q (acts wh pl n) H) :
    tOr (tTest (tOp rEq (tVar 8) (tC (V.str "any")))) (tOr (tAnd (tTest (tOp rEq (tVar 8) (tC (V.str "first")))) fun σ H Q => tVar 2 σ H fun x H' => ∃ k, TruV K x H' k ∧ Q k H')
      (tAnd (tTest (tOp rEq (tVar 8) (tC (V.str "last")))) fun σ H Q => tVar 3 σ H fun x H' => ∃ k, TruV K x H' k ∧ Q k H')) σ H Q := by
  have e1 : decide (V.str (whS wh) = V.str "any") = decide (wh = .any) := wh_dec wh .any
  have e2 : decide (V.str (whS wh) = V.str "first") = decide (wh = .first) := wh_dec wh .first
  have e3 : decide (V.str (whS wh) = V.str "last") = decide (wh = .last) := wh_dec wh .last
  refine ⟨_, h8, rfl, _, rfl, ?_⟩
  rw [e1]
  cases wh with
  | any => exact iteT q
  | first =>
    refine iteF ⟨_, h8, rfl, _, rfl, ?_⟩
    rw [e2]
    refine iteT ⟨_, h2, _, rfl, ite_b (fun e => ?_) (fun e => ?_)⟩
    · rw [← e]
      exact q
    · refine ⟨_, h8, rfl, _, rfl, ?_⟩
      rw [e3]
      refine iteF ?_
      rw [← e]
      exact q
  | last =>
    refine iteF ⟨_, h8, rfl, _, rfl, ?_⟩
    rw [e2]
    refine iteF (iteF ⟨_, h8, rfl, _, rfl, ?_⟩)
    rw [e3]
    exact iteT ⟨_, h3, _, rfl, q⟩
def spKin : Sp := fun vs H Q _ => ∃ (S : Addr) (chs : List Chg) (c i n : Nat), vs = [.ref S, sgV c, .bl (decide (i = 0)), .bl (decide (i + 1 = n))] ∧ ChAt H S chs ∧ OkCs chs ∧ isLet c ∧
  ∀ (p : Addr) (xs : List V) (H' : Hp), Same H H' → H' p = some (.lst (sgV (lo (es chs i n) c) :: xs)) → (∃ ys : List Str, sgV (lo (es chs i n) c) :: xs = ys.map V.str ∧ ys.length ≤ 26 ∧ ∀ y ∈ ys, ∃ d, isLet d ∧ y = sign d) → Q (.ref p) H'
abbrev nKin : List Str := ["_law_swaps", "_law_letter", "_law_first", "_law_last", "_law_found", "_law_turn", "_law_lone", "_law_rival", "_law_where"]
theorem scKin : FnScope nKin ["_law_swaps", "_law_letter", "_law_first", "_law_last"] (defScope sKin) := ⟨rfl, rfl, rfl, by decide +kernel, rfl, by decide +kernel, by decide +kernel⟩
theorem ok_kin (F : Fun K "_law_kin" "_law_kin" sKin f fd) (B : Bi mg) : FnOk P w K mg base CX0 1 f fd ["_law_swaps", "_law_letter", "_law_first", "_law_last"] spKin := by
  refine F.ok scKin (fun vs H Q E h => ?_) (fun cdv A outer s H vs Q E hr h => ?_)
  · obtain ⟨S, chs, c, i, n, rfl, _⟩ := h
    rfl
  · obtain ⟨S, chs, c, pl, n, rfl, ⟨as, hS, hE⟩, ok, hc, q⟩ := h
    refine ⟨_, pss_cons (ps_set (i := 4) scKin.nd rfl (.inl rfl) (pe_lst (pa_cons (pv 1) pa_nil)))
      (pss_cons (ps_for PassesOwn.never rfl (pi_range1 (by rfl) B.range (pa_cons pe_int pa_nil)) (pg_name (i := 5) scKin.nd rfl (.inl rfl))
        (pss_one (ps_for PassesOwn.never rfl (pi_tup (pv 0)) (pg_tup rfl (pgs_cons (pg_name (i := 6) scKin.nd rfl (.inl rfl)) (pgs_cons (pg_name (i := 7) scKin.nd rfl (.inl rfl)) (pgs_cons (pg_name (i := 8) scKin.nd rfl (.inl rfl)) pgs_nil))))
          (pss_one (ps_if (PW.pt (pw_or (pt_cmpR op_eq (pv 8) pe_str (nomark _)) (pw_or (PW.pt (pw_and (pt_cmpR op_eq (pv 8) pe_str (nomark _)) (pw_and1 (pt_truth (pv 2) (by intro _; rfl))))) (pw_or1 (PW.pt (pw_and (pt_cmpR op_eq (pv 8) pe_str (nomark _)) (pw_and1 (pt_truth (pv 3) (by intro _; rfl)))))))))
            (pss_cons (ps_if (PW.pt (pw_and (pt_cmpR op_in_seq (pv 6) (pv 4) (by rfl)) (pw_and1 (pt_cmpR op_notIn_seq (pv 7) (pv 4) (by rfl))))) (pss_one (ps_expr (pe_bm PySem.F.plainAttrs_list PySem.F.slot_list_append PySem.F.type_list_append mt_append (pv 4) (pa_cons (pv 7) pa_nil)))) pss_nil)
            (pss_one (ps_if (PW.pt (pw_and (pt_cmpR op_in_seq (pv 7) (pv 4) (by rfl)) (pw_and1 (pt_cmpR op_notIn_seq (pv 6) (pv 4) (by rfl))))) (pss_one (ps_expr (pe_bm PySem.F.plainAttrs_list PySem.F.slot_list_append PySem.F.type_list_append mt_append (pv 4) (pa_cons (pv 6) pa_nil)))) pss_nil)))
            pss_nil)))))
      (pss_one (ps_ret (pe_callB (cr_sortD hr.units) (by rfl) B.sorted (by decide +kernel) (pa_cons (pv 4) pa_nil))))), ?_⟩
    refine ⟨_, rfl, lz, fun R hR => ?_⟩
    have eE : ∀ k, as.length ≤ k → es (chs.take k) pl n = es chs pl n := fun k hk => by rw [List.take_of_length_le (by rw [← hE.length]; exact hk)]
    refine ⟨26, rfl, by decide, by decide, for_it (walk_range (lo := 0) (n := 26)) (fun k σ H' => ∃ (l : List Nat) (y5 y6 y7 y8 : Option V), σ = [some (.ref S), some (sgV c), some (.bl (decide (pl = 0))), some (.bl (decide (pl + 1 = n))), some (.ref R), y5, y6, y7, y8] ∧ Same H H' ∧ H' R = some (.lst ((l.map sign).map V.str)) ∧ KinK (es chs pl n) c k l)
      ⟨[c], _, _, _, _, rfl, same_new hR, upd_same, KinB.start hc, .inr (by simp)⟩ (fun _ _ _ _ _ => trivial) ?_ ?_⟩
    · rintro k x σ H1 H2 hk ⟨l0, y5, y6, y7, y8, rfl, s1, hR1, hK⟩ ⟨rfl, rfl⟩
      refine ⟨_, rfl, S, rfl, ⟨_, .inl (.inl (s1 _ _ hS))⟩, for_it (walk_tup (K := K) (a := S) (xs := as.map V.ref)) (fun j σ H' => ∃ (l : List Nat) (y6 y7 y8 : Option V), σ = [some (.ref S), some (sgV c), some (.bl (decide (pl = 0))), some (.bl (decide (pl + 1 = n))), some (.ref R), some (.int (0 + (k : Int))), y6, y7, y8] ∧ Same H H' ∧ H' R = some (.lst ((l.map sign).map V.str)) ∧ KinP (es chs pl n) c l0 (es (chs.take j) pl n) l)
        ⟨l0, _, _, _, rfl, s1, hR1, hK.begin⟩ (fun j σ H' _ h => ?_) ?_ ?_⟩
      · obtain ⟨_, _, _, _, _, s', _⟩ := h
        exact .inl (.inl (s' _ _ hS))
      · rintro j x σ H3 H4 hj ⟨l, z6, z7, z8, rfl, s3, hR3, hP⟩ ⟨rfl, hx⟩
        rw [List.getElem?_map] at hx
        obtain ⟨p, hp, rfl⟩ := Option.map_eq_some_iff.mp hx
        obtain ⟨⟨a, b, wh⟩, hch, hH⟩ := hE.get hp
        obtain ⟨o1, o2, o3⟩ := ok.2 _ (List.mem_of_getElem? hch)
        have etk : chs.take (j + 1) = chs.take j ++ [(a, b, wh)] := by rw [List.take_add_one, hch]; rfl
        have hmE : acts wh pl n = true → (a, b) ∈ es chs pl n := fun e => List.mem_map.mpr ⟨(a, b, wh), List.mem_filter.mpr ⟨List.mem_of_getElem? hch, e⟩, rfl⟩
        have l26 := hP.1.len
        refine ⟨p, _, rfl, .inl (.inl (s3 _ _ hH)), rfl, _, _, rfl, _, _, rfl, _, _, rfl, rfl, ?_⟩
        refine kin_tt (K := K) (wh := wh) (pl := pl) (n := n) rfl rfl rfl (ite_b (fun e => ?_) (fun e => ?_))
        · have hm := hmE e
          have fl := fun l : List Nat => flat_strs (l.map sign)
          have lL : ∀ l : List Nat, l.length ≤ 26 → ((l.map sign).map V.str).length < sizeLine := fun l hl => by
            rw [List.length_map, List.length_map]
            exact small1000 (by omega)
          rw [etk, es_snoc, if_pos e]
          by_cases ha : a ∈ l <;> by_cases hb : b ∈ l
          · -- both
            refine ⟨_, rfl, _, rfl, R, _, rfl, .inl (.inl (.inl hR3)), rfl, fl l, true, inT ha, iteT ?_⟩
            refine ⟨_, rfl, _, rfl, R, _, rfl, .inl (.inl (.inl hR3)), rfl, fl l, false, niF hb, iteF ?_⟩
            refine ⟨_, rfl, _, rfl, R, _, rfl, .inl (.inl (.inl hR3)), rfl, fl l, true, inT hb, iteT ?_⟩
            refine ⟨_, rfl, _, rfl, R, _, rfl, .inl (.inl (.inl hR3)), rfl, fl l, false, niF ha, iteF ?_⟩
            exact ⟨l, _, _, _, rfl, s3, hR3, hP.skip ⟨fun _ => hb, fun _ => ha⟩⟩
          · -- b is new
            refine ⟨_, rfl, _, rfl, R, _, rfl, .inl (.inl (.inl hR3)), rfl, fl l, true, inT ha, iteT ?_⟩
            refine ⟨_, rfl, _, rfl, R, _, rfl, .inl (.inl (.inl hR3)), rfl, fl l, true, niT hb, iteT ?_⟩
            refine ⟨_, rfl, .inl ⟨rfl, _, .inl (.inl hR3)⟩, _, rfl, R, _, _, rfl, rfl, hR3, lL l l26, ?_⟩
            have hR5 : upd H4 R (.lst ((l.map sign).map V.str ++ [sgV b])) R = some (.lst (((l ++ [b]).map sign).map V.str)) := by
              rw [upd_same, List.map_append, List.map_append]
              rfl
            have s5 : Same H (upd H4 R (.lst ((l.map sign).map V.str ++ [sgV b]))) := same_mut s3 hR
            refine ⟨_, rfl, _, rfl, R, _, rfl, .inl (.inl (.inl hR5)), rfl, fl (l ++ [b]), true, inT (List.mem_append_right _ (by simp)), iteT ?_⟩
            refine ⟨_, rfl, _, rfl, R, _, rfl, .inl (.inl (.inl hR5)), rfl, fl (l ++ [b]), false, niF (List.mem_append_left _ ha), iteF ?_⟩
            exact ⟨l ++ [b], _, _, _, rfl, s5, hR5, hP.add (.inl hm) ha hb o2⟩
          · -- a is new
            refine ⟨_, rfl, _, rfl, R, _, rfl, .inl (.inl (.inl hR3)), rfl, fl l, false, inF ha, iteF ?_⟩
            refine ⟨_, rfl, _, rfl, R, _, rfl, .inl (.inl (.inl hR3)), rfl, fl l, true, inT hb, iteT ?_⟩
            refine ⟨_, rfl, _, rfl, R, _, rfl, .inl (.inl (.inl hR3)), rfl, fl l, true, niT ha, iteT ?_⟩
            refine ⟨_, rfl, .inl ⟨rfl, _, .inl (.inl hR3)⟩, _, rfl, R, _, _, rfl, rfl, hR3, lL l l26, ?_⟩
            refine ⟨l ++ [a], _, _, _, rfl, same_mut s3 hR, ?_, hP.add (.inr hm) hb ha o1⟩
            rw [upd_same, List.map_append, List.map_append]
            rfl
          · -- none
            refine ⟨_, rfl, _, rfl, R, _, rfl, .inl (.inl (.inl hR3)), rfl, fl l, false, inF ha, iteF ?_⟩
            refine ⟨_, rfl, _, rfl, R, _, rfl, .inl (.inl (.inl hR3)), rfl, fl l, false, inF hb, iteF ?_⟩
            exact ⟨l, _, _, _, rfl, s3, hR3, hP.skip ⟨fun x => absurd x ha, fun x => absurd x hb⟩⟩
        · refine ⟨l, _, _, _, rfl, s3, hR3, ?_⟩
          rw [etk, es_snoc, if_neg (by rw [e]; decide), List.append_nil]
          exact hP
      · rintro σ H3 ⟨l, z6, z7, z8, rfl, s3, hR3, hP⟩
        rw [eE _ (by simp)] at hP
        exact ⟨l, _, _, _, _, rfl, s3, hR3, hK.next hP⟩
    · rintro σ H1 ⟨l, y5, y6, y7, y8, rfl, s1, hR1, hK⟩
      obtain ⟨r, hr2⟩ := sorted_least hK.1.nd fun d => hK.done (d := d)
      refine ⟨_, rfl, ?_⟩
      dsimp only [tNil]
      refine sort_readsK (K := K) (.inl (.inl hR1)) fun p hp => ?_
      refine q p r _ (s1.trans (same_new hp)) (by rw [upd_same, hr2]) ⟨_, hr2.symm, by rw [sortS_len, List.length_map]; exact hK.1.len, fun y hy => ?_⟩
      obtain ⟨d, hd, rfl⟩ := List.mem_map.mp (mem_sortS.mp hy)
      exact ⟨d, hK.1.lets d hd, rfl⟩
end
end Wl




namespace Wl
open PySem PySem.Spec PyProof.Rows L2
abbrev sChanges : Stmt := topS 75
section
variable {P : Program} {w : World} {K : PySem.W.Frag} {mg : Str → Option Value} {base : Heap} {f : Addr} {fd : FuncData}
def spLMean : Sp := fun vs H Q _ => ∃ (S : Addr) (chs : List Chg) (z : Str), vs = [.ref S, .str z] ∧ ChAt H S chs ∧ OkCs chs ∧ IsWd z ∧ ∀ (H' : Hp), Same H H' → Q (.str (mean chs z)) H'
abbrev nLMean : List Str := ["_law_swaps", "_law_sound", "_law_size", "_law_k"]
theorem scLMean : FnScope nLMean ["_law_swaps", "_law_sound"] (defScope sMeaning) := ⟨rfl, rfl, rfl, by decide +kernel, rfl, by decide +kernel, by decide +kernel⟩
theorem ok_lmean (F : Fun K "_law_meaning" "_law_meaning" sMeaning f fd) (B : Bi mg) (hK : Has P w K mg base "_law_kin" 1 ["_law_swaps", "_law_letter", "_law_first", "_law_last"] spKin) : FnOk P w K mg base CX0 2 f fd ["_law_swaps", "_law_sound"] spLMean := by
  refine F.ok scLMean (fun vs H Q E h => ?_) (fun cdv A outer s H vs Q E hr h => ?_)
  · obtain ⟨S, chs, z, rfl, _⟩ := h
    rfl
  · obtain ⟨S, chs, z, rfl, hS, ok, hz, q⟩ := h
    have z8 := hz.len
    refine ⟨_, pss_cons (ps_set (i := 2) scLMean.nd rfl (.inr rfl) (pe_callB call_len_str (by rfl) B.len PySem.boot_len (pa_cons (pv 1) pa_nil)))
      (pss_one (ps_ret (pe_join pe_str (pe_lc (own := [("_law_k", 3)]) (g := gName 3) (tt := tYes) (te := tOp (rIxL K) (tCall spKin [] E0 (tCons (tVar 0) (tCons (tOp rIxS (tVar 1) (tVar 3)) (tCons (tOp rEq (tVar 3) (tC (.int 0))) (tCons (tOp rEq (tVar 3) (tOp (rI0 fun i j => .int (i - j)) (tVar 2) (tC (.int 1)))) tNil))))) (tC (.int 0))) rfl scLMean.nd (pi_range1 (by rfl) B.range (pa_cons (pv 2) pa_nil)) (blkOk_by (N := nLMean) (sc := defScope sMeaning) (by decide +kernel))
        (fun _ _ _ _ _ => pg_name (i := 3) scLMean.nd rfl (.inl rfl)) (fun _ _ _ _ _ => pts_nil) (fun _ _ _ _ _ => pe_ix ix_list (pe_h hK hr (pa_cons (pv 0) (pa_cons (pe_ix ix_str (pv 1) (pv 3) (fun _ _ => rfl)) (pa_cons (pe_cmpR op_eq (pv 3) pe_int (nomark _)) (pa_cons (pe_cmpR op_eq (pv 3) (pe_op op_sub (pv 2) pe_int) (nomark _)) pa_nil))))) pe_int (fun _ _ => rfl)))))), ?_⟩
    refine ⟨_, rfl, _, rfl, lzl (by omega), ⟨_, rfl⟩, _, rfl, (z.length : Int), rfl, by omega, by omega, fun D hD => lc_range (lo := 0) (n := z.length)
      (fun i H' => Same H H' ∧ H' D = some (.lst ((((codes (mean chs z)).take i).map sign).map V.str))) ⟨same_new hD, upd_same⟩ ?_ ?_⟩
    · rintro i H1 hi ⟨s1, hD1⟩
      have hi2 : i < (codes z).length := by rw [codes_len]; exact hi
      obtain ⟨c, hc⟩ : ∃ c, (codes z)[i]? = some c := ⟨_, List.getElem?_eq_getElem hi2⟩
      have hcl : isLet c := (wd_codes.mp hz).2 c (List.mem_of_getElem? hc)
      have hat := mean_at chs z hc
      rw [codes_len] at hat
      refine ⟨rfl, yes_it ⟨_, rfl, _, rfl, _, rfl, z, _, c, rfl, rfl, lzl (by omega), ?_, ?_⟩⟩
      · rw [Int.zero_add]
        exact atI_nat hc
      · refine ⟨_, rfl, rfl, _, rfl, _, rfl, _, _, rfl, rfl, rfl, S, chs, c, i, z.length, ?_, hS.same s1, ok, hcl, fun p xs H2 s2 hp _ => ?_⟩
        · rw [int_dec, int_dec]
          have e1 : decide ((0 : Int) + (i : Int) = 0) = decide (i = 0) := by
            by_cases h : i = 0
            · simp [h]
            · rw [decide_eq_false h, decide_eq_false (by omega)]
          have e2 : decide ((0 : Int) + (i : Int) = (z.length : Int) - 1) = decide (i + 1 = z.length) := by
            by_cases h : i + 1 = z.length
            · rw [decide_eq_true h, decide_eq_true (by omega)]
            · rw [decide_eq_false h, decide_eq_false (by omega)]
          rw [e1, e2]
          rfl
        · refine ⟨p, _, 0, _, rfl, rfl, .inl (.inl hp), atI_nat (j := 0) rfl, _, s2 _ _ hD1, ?_, same_mut (s1.trans s2) hD, ?_⟩
          · rw [List.length_map, List.length_map]
            have h1 : ((codes (mean chs z)).take i).length ≤ (codes (mean chs z)).length := List.length_take_le' _ _
            rw [mean_len, codes_len] at h1
            exact small1000 (by omega)
          · rw [upd_same, List.take_add_one, hat, List.map_append, List.map_append]
            rfl
    · rintro H1 ⟨s1, hD1⟩
      have e1 : (codes (mean chs z)).take z.length = codes (mean chs z) := by rw [← codes_len z, ← mean_len chs z, List.take_length]
      rw [e1] at hD1
      refine ⟨_, D, (codes (mean chs z)).map sign, rfl, rfl, .inl (.inl (.inl hD1)), ?_, ?_⟩
      · have e0 : ("" : Str).length = 0 := by decide +kernel
        have e1 : ((codes (mean chs z)).map sign).map (·.length) = (codes (mean chs z)).map fun _ => 1 := by
          rw [List.map_map]
          rfl
        rw [e0, e1, Nat.mul_zero, ones_sum, mean_len, codes_len]
        omega
      · have e2 : Txt.join ("" : Str) ((codes (mean chs z)).map sign) = mean chs z := str_ext (join_signs _)
        rw [e2]
        exact q H1 s1
end
end Wl





namespace Wl
open PySem PySem.Spec PyProof.Rows L2
theorem abcde_eq : ("abcde" : Str).cps.toList = List.range' 97 5 := by decide +kernel
theorem abcde_at {r : Int} (h0 : 0 ≤ r) (h : r < 5) : atI ("abcde" : Str).cps.toList r = some (97 + r.toNat) := by
  rw [abcde_eq]
  have e : r = ((r.toNat : Nat) : Int) := by omega
  rw [e]
  refine atI_nat ?_
  rw [List.getElem?_range' (by omega)]
  congr 1
  omega
theorem ChAt.X {H H' : Hp} {a S : Addr} {chs : List Chg} {ys : List V} (h : ChAt H S chs) (ha : H a = some (.lst ys)) (s : SameX a H H') : ChAt H' S chs :=
  h.keep fun p xs e => s p _ (ne_of e ha (by intro z; cases z)) e
theorem each_X {H H' : Hp} {a : Addr} {as : List Addr} {chs : List Chg} {ys : List V} (h : Each (fun (p : Addr) (ch : Chg) => H p = some (.tup (chV ch))) as chs) (ha : H a = some (.lst ys)) (s : SameX a H H') : Each (fun (p : Addr) (ch : Chg) => H' p = some (.tup (chV ch))) as chs :=
  h.mono fun p ch e => s p _ (ne_of e ha (by intro z; cases z)) e
section
variable {P : Program} {w : World} {K : PySem.W.Frag} {mg : Str → Option Value} {base : Heap} {f : Addr} {fd : FuncData}
def spChanges : Sp := fun vs H Q _ => ∃ (a : Addr) (m : Int), vs = [.ref a, .int m] ∧ PurseAt H a ∧ 0 ≤ m ∧ m ≤ 12 ∧ ∀ (S : Addr) (chs : List Chg) (H' : Hp), PurseAt H' a → SameX a H H' → ChAt H' S chs → OkCs chs → Q (.ref S) H'
abbrev nChanges : List Str := ["_law_purse_here", "_law_topmost", "_law_found", "_law_k", "_law_lone", "_law_wide", "_law_rival", "_law_where"]
theorem scChanges : FnScope nChanges ["_law_purse_here", "_law_topmost"] (defScope sChanges) := ⟨rfl, rfl, rfl, by decide +kernel, rfl, by decide +kernel, by decide +kernel⟩
theorem ok_changes (F : Fun K "_law_changes" "_law_changes" sChanges f fd) (B : Bi mg) (hp : Has P w K mg base "_law_pick" 1 ["_law_purse_here", "_law_count"] spPick) : FnOk P w K mg base CX0 2 f fd ["_law_purse_here", "_law_topmost"] spChanges := by
  refine F.ok scChanges (fun vs H Q E h => ?_) (fun cdv A outer s H vs Q E hr h => ?_)
  · obtain ⟨a, m, rfl, _⟩ := h
    rfl
  · obtain ⟨a, m, rfl, hA, m0, m12, q⟩ := h
    refine ⟨_, pss_cons (ps_set (i := 2) scChanges.nd rfl (.inl rfl) (pe_lst pa_nil))
      (pss_cons (ps_for PassesOwn.never rfl (pi_range1 (by rfl) B.range (pa_cons (pe_h hp hr (pa_cons (pv 0) (pa_cons (pe_op op_add (pv 1) pe_int) pa_nil))) pa_nil)) (pg_name (i := 3) scChanges.nd rfl (.inl rfl))
        (pss_cons (ps_par (i := 4) (j := 5) (by rfl) scChanges.nd rfl rfl (by decide) rfl rfl (pa_cons (pe_h hp hr (pa_cons (pv 0) (pa_cons pe_int pa_nil))) (pa_cons (pe_h hp hr (pa_cons (pv 0) (pa_cons pe_int pa_nil))) pa_nil)) (by rfl))
        (pss_cons (ps_set (i := 6) scChanges.nd rfl (.inl rfl) (pe_op op_mod (pe_op op_add (pe_op op_add (pv 4) pe_int) (pv 5)) pe_int))
        (pss_cons (ps_set (i := 7) scChanges.nd rfl (.inl rfl) (pe_ix ix_list (pe_lst (pa_cons pe_str (pa_cons pe_str (pa_cons pe_str (pa_cons pe_str pa_nil))))) (pe_h hp hr (pa_cons (pv 0) (pa_cons pe_int pa_nil))) (fun _ _ => rfl)))
        (pss_one (ps_expr (pe_bm PySem.F.plainAttrs_list PySem.F.slot_list_append PySem.F.type_list_append mt_append (pv 2) (pa_cons (pe_tup (pa_cons (pe_ix ix_str pe_str (pv 4) (fun _ _ => rfl)) (pa_cons (pe_ix ix_str pe_str (pv 6) (fun _ _ => rfl)) (pa_cons (pv 7) pa_nil)))) pa_nil))))))))
      (pss_one (ps_ret (pe_callTy call_tuple_of (by rfl) B.tuple (by decide +kernel) (pa_cons (pv 2) pa_nil))))), ?_⟩
    refine ⟨lz, fun R hR => ?_⟩
    have nRa : R ≠ a := hA.ne hR
    refine ⟨_, rfl, _, rfl, _, _, rfl, rfl, a, m + 1, rfl, hA.same (same_new hR), by omega, by omega, fun r0 H1 r00 r01 hA1 s1 n1 => ?_⟩
    have hR1 := s1 _ _ nRa upd_same
    refine ⟨r0, rfl, by omega, by omega, for_it (walk_range (lo := 0) (n := r0.toNat)) (fun i σ H' => (∃ y3 y4 y5 y6 y7, σ = [some (.ref a), some (.int m), some (.ref R), y3, y4, y5, y6, y7]) ∧ PurseAt H' a ∧ SameX a H H' ∧ ∃ (as : List Addr) (chs : List Chg), H' R = some (.lst (as.map V.ref)) ∧ Each (fun (p : Addr) (ch : Chg) => H' p = some (.tup (chV ch))) as chs ∧ chs.length = i ∧ ∀ ch ∈ chs, OkC ch)
      ⟨⟨_, _, _, _, _, rfl⟩, hA1, (sx (same_new hR)).trans s1, [], [], hR1, .nil, rfl, fun ch hc => by cases hc⟩ (fun _ _ _ _ _ => trivial) ?_ ?_⟩
    · rintro i x σ Hq H2 hi ⟨⟨y3, y4, y5, y6, y7, rfl⟩, hA2, s2, as, chs, hR2, hE2, hl2, ok2⟩ ⟨rfl, rfl⟩
      refine ⟨_, rfl, a, 5, rfl, hA2, by decide, by decide, fun u H3 u0 u1 hA3 s3 n3 => ⟨_, rfl, a, 4, rfl, hA3, by decide, by decide, fun v H4 v0 v1 hA4 s4 n4 => ⟨_, _, rfl, ?_⟩⟩⟩
      refine ⟨_, rfl, _, _, rfl, rfl, _, rfl, _, _, rfl, rfl, _, _, rfl, rfl, (show (0 : Int) < 5 by decide), ?_⟩
      refine ⟨lz, fun p hpn => ⟨_, rfl, a, 4, rfl, hA4.same (same_new hpn), by decide, by decide, fun t H5 t0 t1 hA5 s5 n5 => ?_⟩⟩
      have npa := hA4.ne hpn
      obtain ⟨zw, hzm, hzi⟩ := atI_strs (zs := ["first", "last", "any", "any"]) t0 t1
      obtain ⟨wh, rfl⟩ : ∃ wh, zw = whS wh := by
        simp only [List.mem_cons, List.not_mem_nil, or_false] at hzm
        rcases hzm with rfl | rfl | rfl | rfl
        · exact ⟨.first, rfl⟩
        · exact ⟨.last, rfl⟩
        · exact ⟨.any, rfl⟩
        · exact ⟨.any, rfl⟩
      refine ⟨p, _, t, .str (whS wh), rfl, rfl, .inl (.inl (s5 _ _ npa upd_same)), hzi, ?_⟩
      have s25 : SameX a H2 H5 := (s3.trans s4).trans ((sx (same_new hpn)).trans s5)
      have hR5 := s25 _ _ nRa hR2
      obtain ⟨ya, hya⟩ := hA2.lst
      have hE5 := each_X hE2 hya s25
      have b0 : 0 ≤ (u + 1 + v) % 5 := Int.emod_nonneg _ (by decide)
      have b1 : (u + 1 + v) % 5 < 5 := Int.emod_lt_of_pos _ (by decide)
      refine ⟨_, rfl, .inl ⟨rfl, _, .inl (.inl hR5)⟩, ?_⟩
      refine ⟨_, rfl, ⟨_, u, _, rfl, rfl, lz, abcde_at u0 u1, _, rfl, _, _, _, rfl, rfl, lz, abcde_at b0 b1, _, rfl, lz, fun T hT => ?_⟩⟩
      refine ⟨R, _, _, rfl, rfl, (same_new hT) _ _ hR5, ?_, ⟨_, _, _, _, _, rfl⟩, ?_, ?_, as ++ [T], chs ++ [(97 + u.toNat, 97 + ((u + 1 + v) % 5).toNat, wh)], ?_, ?_, ?_, ?_⟩
      · rw [List.length_map, hE2.length]
        exact small1000 (by omega)
      · have hA6 := hA5.same (same_new (o := .tup [sgV (97 + u.toNat), sgV (97 + ((u + 1 + v) % 5).toNat), .str (whS wh)]) hT)
        obtain ⟨x0, x1, x2, hx, hx1⟩ := hA6
        exact ⟨x0, x1, x2, by rw [upd_ne nRa.symm]; exact hx, hx1⟩
      · exact sameX_mut ((s2.trans s25).trans (sx (same_new hT))) hR
      · rw [upd_same, List.map_append]
        rfl
      · have nTR : T ≠ R := (ne_of_none hR5 hT).symm
        refine Each.append (hE5.mono fun p ch e => ?_) (.cons ?_ .nil)
        · rw [upd_ne (ne_of e hR5 (by intro z; cases z))]
          exact (same_new hT) _ _ e
        · rw [upd_ne nTR, upd_same]
          rfl
      · rw [List.length_append, hl2]
        rfl
      · intro ch hch
        rcases List.mem_append.mp hch with hch | hch
        · exact ok2 ch hch
        · rw [List.mem_singleton] at hch
          subst hch
          refine ⟨?_, ?_, ?_⟩
          · show 97 ≤ 97 + u.toNat ∧ 97 + u.toNat ≤ 122
            omega
          · show 97 ≤ 97 + ((u + 1 + v) % 5).toNat ∧ 97 + ((u + 1 + v) % 5).toNat ≤ 122
            omega
          · show 97 + u.toNat ≠ 97 + ((u + 1 + v) % 5).toNat
            omega
    · rintro σ H2 ⟨⟨y3, y4, y5, y6, y7, rfl⟩, hA2, s2, as, chs, hR2, hE2, hl2, ok2⟩
      refine ⟨_, rfl, R, _, rfl, .inl ⟨.inl (.inl hR2), fun l hl => ?_⟩⟩
      refine q l chs _ (hA2.same (same_new hl)) (s2.trans (sx (same_new hl))) ⟨as, upd_same, hE2.mono fun p ch e => (same_new hl) _ _ e⟩ ⟨?_, ok2⟩
      omega
end
end Wl





namespace Wl
open PySem PySem.Spec PyProof.Rows L2
abbrev sFresh : Stmt := topS 74
abbrev sLand : Stmt := topS 78
abbrev sNames : Stmt := topS 79

/-! ### a word that is not in use -/
def spareS (A B : Str) : List Str := ((List.range' 97 26).map fun c => A ++ sign c) ++ (List.range' 97 13).map fun c => B ++ sign c ++ ("z" : Str)
theorem codes_add (x y : Str) : (x ++ y).cps.toList = x.cps.toList ++ y.cps.toList := TL.tl_append x y
theorem spare_free (A B : Str) (ws : List Str) (h : ws.length ≤ 35) : ∃ z ∈ spareS A B, z ∉ ws := by
  refine Classical.byContradiction fun no => ?_
  have all : ∀ z ∈ spareS A B, z ∈ ws := fun z hz => Classical.byContradiction fun k => no ⟨z, hz, k⟩
  have nd : (((List.range' 97 25).map fun c => A ++ sign c) ++ (List.range' 97 13).map fun c => B ++ sign c ++ ("z" : Str)).Nodup := by
    have zc : ("z" : Str).cps.toList = [122] := by decide +kernel
    have c1 : ∀ c, (A ++ sign c).cps.toList = A.cps.toList ++ [c] := fun c => codes_add A (sign c)
    have c2 : ∀ c, (B ++ sign c ++ ("z" : Str)).cps.toList = B.cps.toList ++ [c] ++ [122] := fun c => by
      rw [codes_add, codes_add, zc]
      rfl
    rw [List.nodup_append]
    refine ⟨?_, ?_, ?_⟩
    · refine List.pairwise_map.mpr ((List.nodup_range' (s := 97) (n := 25) (step := 1)).imp fun {a b} ne e => ne ?_)
      have := congrArg (fun z : Str => z.cps.toList) e
      simp only [c1] at this
      simpa using this
    · refine List.pairwise_map.mpr ((List.nodup_range' (s := 97) (n := 13) (step := 1)).imp fun {a b} ne e => ne ?_)
      have := congrArg (fun z : Str => z.cps.toList) e
      simp only [c2] at this
      simpa using this
    · intro x hx y hy e
      obtain ⟨c, hc, rfl⟩ := List.mem_map.mp hx
      obtain ⟨d, hd, rfl⟩ := List.mem_map.mp hy
      have := congrArg (fun z : Str => z.cps.toList.getLast?) e
      simp only [c1, c2, List.getLast?_append, List.getLast?_singleton, Option.some_or, Option.some.injEq] at this
      rw [List.mem_range'_1] at hc
      omega
  have sub : (((List.range' 97 25).map fun c => A ++ sign c) ++ (List.range' 97 13).map fun c => B ++ sign c ++ ("z" : Str)) ⊆ ws := by
    intro z hz
    refine all z ?_
    rcases List.mem_append.mp hz with hz | hz
    · obtain ⟨c, hc, rfl⟩ := List.mem_map.mp hz
      refine List.mem_append.mpr (.inl (List.mem_map.mpr ⟨c, ?_, rfl⟩))
      rw [List.mem_range'_1] at hc ⊢
      omega
    · exact List.mem_append.mpr (.inr hz)
  have := nd.length_le_of_subset sub
  simp at this
  omega
theorem spare_wd {z : Str} (h : IsWd z) : ∀ y ∈ spareS (cutS z none (some 7)) (cutS z none (some 6)), IsWd y := by
  have hl := h.len
  have hz : z.length = z.cps.toList.length := by simp [Str.length]
  have hc : ∀ c ∈ z.cps.toList, 97 ≤ c ∧ c ≤ 122 := by
    unfold IsWd wdB at h
    simp only [Bool.and_eq_true, decide_eq_true_eq, List.all_eq_true] at h
    exact h.2
  have zc : ("z" : Str).cps.toList = [122] := by decide +kernel
  intro y hy
  rcases List.mem_append.mp hy with hy | hy
  · obtain ⟨c, hcm, rfl⟩ := List.mem_map.mp hy
    rw [List.mem_range'_1] at hcm
    have e : (cutS z none (some 7) ++ sign c).cps.toList = z.cps.toList.take 7 ++ [c] := by
      rw [codes_add, show ((7 : Int)) = ((7 : Nat) : Int) from rfl, cut_hi]
      rfl
    refine isWd_of ?_ ?_ ?_
    · rw [e]; simp
    · rw [e]; simp; omega
    · rw [e]
      intro d hd
      rcases List.mem_append.mp hd with hd | hd
      · exact hc d (List.mem_of_mem_take hd)
      · rw [List.mem_singleton.mp hd]; omega
  · obtain ⟨c, hcm, rfl⟩ := List.mem_map.mp hy
    rw [List.mem_range'_1] at hcm
    have e : (cutS z none (some 6) ++ sign c ++ ("z" : Str)).cps.toList = z.cps.toList.take 6 ++ [c] ++ [122] := by
      rw [codes_add, codes_add, show ((6 : Int)) = ((6 : Nat) : Int) from rfl, cut_hi, zc]
      rfl
    refine isWd_of ?_ ?_ ?_
    · rw [e]; simp
    · rw [e]; simp; omega
    · rw [e]
      intro d hd
      rcases List.mem_append.mp hd with hd | hd
      · rcases List.mem_append.mp hd with hd | hd
        · exact hc d (List.mem_of_mem_take hd)
        · rw [List.mem_singleton.mp hd]; omega
      · rw [List.mem_singleton.mp hd]; omega

section
variable {P : Program} {w : World} {K : PySem.W.Frag} {mg : Str → Option Value} {base : Heap} {f : Addr} {fd : FuncData}
def spFresh : Sp := fun vs H Q _ => ∃ (a u : Addr) (ws : List Str), vs = [.ref a, .ref u] ∧ PurseAt H a ∧ H u = some (.lst (ws.map V.str)) ∧ u ≠ a ∧ ws.length ≤ 35 ∧
  ∀ (z : Str) (H' : Hp), IsWd z → z ∉ ws → PurseAt H' a → SameX a H H' → Q (.str z) H'
abbrev nFresh : List Str := ["_law_purse_here", "_law_used", "_law_sound", "_law_spare", "_law_sign", "_law_lone"]
theorem scFresh : FnScope nFresh ["_law_purse_here", "_law_used"] (defScope sFresh) :=
  ⟨rfl, rfl, rfl, by decide +kernel, rfl, by decide +kernel, by decide +kernel⟩
def addS (A : Str) (B : Str) : V → V
  | .str s => .str (A ++ s ++ B)
  | v => v
theorem wd_line {z : Str} (h : IsWd z) : z.length ≤ sizeLine := lzl (by have := h.len; omega)
theorem ok_fresh (F : Fun K "_law_fresh" "_law_fresh" sFresh f fd) (B : Bi mg) (hW : Has P w K mg base "_law_word" 2 ["_law_purse_here"] spWord) :
    FnOk P w K mg base CX0 3 f fd ["_law_purse_here", "_law_used"] spFresh := by
  refine F.ok scFresh (fun vs H Q E h => ?_) (fun cdv A outer s H vs Q E hr h => ?_)
  · obtain ⟨a, u, ws, rfl, _⟩ := h
    rfl
  · obtain ⟨a, u, ws, rfl, hA, hu, nua, hl, q⟩ := h
    refine ⟨_, pss_cons (ps_set (i := 2) scFresh.nd rfl (.inr rfl) (pe_h hW hr (pa_cons (pv 0) pa_nil)))
      (pss_cons (ps_if (pt_cmpR op_notIn_seq (pv 2) (pv 1) (by rfl)) (pss_one (ps_ret (pv 2))) pss_nil)
      (pss_cons (ps_setLc (i := 3) (own := [("_law_sign", 4)]) (g := gName 4) (tt := tYes) rfl scFresh.nd rfl rfl (sw_true rfl rfl rfl (by decide +kernel)) (pi_str pe_str) (blkOk_by (N := nFresh) (sc := defScope sFresh) (by decide +kernel))
        (fun _ _ _ _ _ => pg_name (i := 4) scFresh.nd rfl (.inl rfl)) (fun _ _ _ _ _ => pts_nil) (fun _ _ _ _ _ => pe_op op_add_str (pe_slice sl_str (pv 2) po_none (po_some pe_int)) (pv 4)))
      (pss_cons (ps_set (i := 3) scFresh.nd rfl (.inl rfl) (pe_op op_cat (pv 3) (pe_lc (own := [("_law_sign", 4)]) (g := gName 4) (tt := tYes) rfl scFresh.nd (pi_str pe_str) (blkOk_by (N := nFresh) (sc := defScope sFresh) (by decide +kernel))
        (fun _ _ _ _ _ => pg_name (i := 4) scFresh.nd rfl (.inl rfl)) (fun _ _ _ _ _ => pts_nil) (fun _ _ _ _ _ => pe_op op_add_str (pe_op op_add_str (pe_slice sl_str (pv 2) po_none (po_some pe_int)) (pv 4)) pe_str))))
      (pss_one (ps_ret (pe_ix ix_list (pe_lc (own := [("_law_lone", 5)]) (g := gName 5) (tt := tTest (tOp (rIn K true) (tVar 5) (tVar 1))) rfl scFresh.nd (pi_list (pv 3)) (blkOk_by (N := nFresh) (sc := defScope sFresh) (by decide +kernel))
        (fun _ _ _ _ _ => pg_name (i := 5) scFresh.nd rfl (.inl rfl)) (fun _ _ _ _ _ => pts_one (pt_cmpR op_notIn_seq (pv 5) (pv 1) (by rfl))) (fun _ _ _ _ _ => pv 5)) pe_int (fun _ _ => rfl))))))), ?_⟩
    refine ⟨_, rfl, a, rfl, hA, fun z H1 hz hA1 s1 => ?_⟩
    have hu1 : H1 u = some (.lst (ws.map V.str)) := s1 _ _ nua hu
    refine ⟨_, rfl, _, rfl, u, ws.map V.str, rfl, .inl (.inl (.inl hu1)), rfl, flat_strs ws, _, rfl, ite_b (fun e => ?_) (fun e => ?_)⟩
    · rw [if_pos rfl, inV_strs, Bool.not_eq_true', decide_eq_false_iff_not] at e
      exact ⟨_, rfl, q z H1 hz e hA1 s1⟩
    · refine ⟨_, rfl, fun D hD => lc_map walk_signs hD (fun _ => true) (addS (cutS z none (some 7)) ⟨#[]⟩) (fun _ _ => trivial) (fun _ => rfl) (fun x H' _ _ Q' q' => q') ?_ lz ?_⟩
      · intro x H' hx _ _ Q' q'
        obtain ⟨c, hc, rfl⟩ := List.mem_map.mp hx
        refine ⟨_, rfl, 7, rfl, z, rfl, wd_line hz, _, rfl, _, _, rfl, rfl, ?_, ?_⟩
        · have := cutS_length z none (some 7)
          have := hz.len
          exact lzl (by show (cutS z none (some 7)).length + 1 ≤ 1000; omega)
        · have e0 : addS (cutS z none (some 7)) ⟨#[]⟩ (.str (sign c)) = .str (cutS z none (some 7) ++ sign c) := by
            refine congrArg V.str (str_ext ?_)
            rw [codes_add]
            simp
          rw [e0] at q'
          exact q'
      · intro H2 s2 hD2
        have hu2 := s2 _ _ hu1
        have hA2 := hA1.same s2
        refine ⟨_, rfl, _, rfl, fun D3 hD3 => lc_map walk_signs hD3 (fun _ => true) (addS (cutS z none (some 6)) "z") (fun _ _ => trivial) (fun _ => rfl) (fun x H' _ _ Q' q' => q') ?_ lz ?_⟩
        · intro x H' hx _ _ Q' q'
          obtain ⟨c, hc, rfl⟩ := List.mem_map.mp hx
          have h6 := cutS_length z none (some 6)
          have hl8 := hz.len
          have hz1 : ("z" : Str).length = 1 := by decide +kernel
          have hadd : (cutS z none (some 6) ++ sign c).length = (cutS z none (some 6)).length + 1 := by
            rw [TL.len_tl, TL.tl_append, List.length_append, ← TL.len_tl]
            rfl
          refine ⟨_, rfl, 6, rfl, z, rfl, wd_line hz, _, rfl, _, _, rfl, rfl, ?_, _, _, rfl, rfl, ?_, q'⟩
          · exact lzl (by show (cutS z none (some 6)).length + 1 ≤ 1000; omega)
          · exact lzl (by rw [hz1]; show (cutS z none (some 6) ++ sign c).length + 1 ≤ 1000; omega)
        · intro H4 s4 hD4
          have e26 : (signsOf ("abcdefghijklmnopqrstuvwxyz" : Str)).filter (fun _ => true) = signsOf ("abcdefghijklmnopqrstuvwxyz" : Str) := List.filter_eq_self.mpr fun _ _ => rfl
          have e13 : (signsOf ("abcdefghijklm" : Str)).filter (fun _ => true) = signsOf ("abcdefghijklm" : Str) := List.filter_eq_self.mpr fun _ _ => rfl
          have c13 : ("abcdefghijklm" : Str).cps.toList = List.range' 97 13 := by decide +kernel
          have eall : ((signsOf ("abcdefghijklmnopqrstuvwxyz" : Str)).filter (fun _ => true)).map (addS (cutS z none (some 7)) ⟨#[]⟩) ++ ((signsOf ("abcdefghijklm" : Str)).filter (fun _ => true)).map (addS (cutS z none (some 6)) "z")
              = (spareS (cutS z none (some 7)) (cutS z none (some 6))).map V.str := by
            rw [e26, e13]
            unfold signsOf spareS
            rw [letters_eq, c13, List.map_append, List.map_map, List.map_map, List.map_map, List.map_map]
            congr 1
          refine ⟨D, D3, _, _, rfl, rfl, s4 _ _ hD2, hD4, lz, fun p5 hp5 => ?_⟩
          rw [eall]
          have s5 : Same H1 (upd H4 p5 (.lst ((spareS (cutS z none (some 7)) (cutS z none (some 6))).map V.str))) := (s2.trans s4).trans (same_new hp5)
          refine ⟨_, rfl, p5, rfl, ⟨_, .inl (.inl upd_same)⟩, fun D6 hD6 => lc_map (walk_list (K := K) (a := p5) (xs := (spareS (cutS z none (some 7)) (cutS z none (some 6))).map V.str)) hD6 (fun v => !inV v (ws.map V.str)) id (fun H' s' => .inl (.inl (s' _ _ upd_same))) (fun _ => rfl) ?_ ?_ lz ?_⟩
          · intro x H' hx s' Q' q'
            obtain ⟨y, hy, rfl⟩ := List.mem_map.mp hx
            exact ⟨_, rfl, _, rfl, u, _, rfl, .inl (.inl (.inl (s' _ _ (s5 _ _ hu1)))), rfl, flat_strs ws, _, rfl, q'⟩
          · intro x H' hx _ _ Q' q'
            exact ⟨_, rfl, q'⟩
          · intro H7 s7 hD7
            obtain ⟨y0, hy0, hn0⟩ := spare_free (cutS z none (some 7)) (cutS z none (some 6)) ws hl
            have hf : ((spareS (cutS z none (some 7)) (cutS z none (some 6))).map V.str).filter (fun v => !inV v (ws.map V.str)) = ((spareS (cutS z none (some 7)) (cutS z none (some 6))).filter fun y => decide (y ∉ ws)).map V.str := by
              rw [List.filter_map]
              congr 1
              refine List.filter_congr fun y _ => ?_
              simp only [Function.comp, inV_strs]
              by_cases c : y ∈ ws <;> simp [c]
            rw [List.map_id, hf] at hD7
            have hm0 : y0 ∈ (spareS (cutS z none (some 7)) (cutS z none (some 6))).filter fun y => decide (y ∉ ws) := List.mem_filter.mpr ⟨hy0, decide_eq_true hn0⟩
            cases hcl : (spareS (cutS z none (some 7)) (cutS z none (some 6))).filter fun y => decide (y ∉ ws) with
            | nil =>
              rw [hcl] at hm0
              cases hm0
            | cons y r =>
              have hym : y ∈ (spareS (cutS z none (some 7)) (cutS z none (some 6))).filter fun y => decide (y ∉ ws) := by
                rw [hcl]
                exact List.mem_cons_self
              obtain ⟨hy1, hy2⟩ := List.mem_filter.mp hym
              refine ⟨D6, _, 0, .str y, rfl, rfl, .inl (.inl hD7), atI_nat (j := 0) (by rw [hcl]; rfl), ?_⟩
              exact q y H7 (spare_wd hz y hy1) (of_decide_eq_true hy2) (hA1.same (s5.trans s7)) (s1.trans (sx (s5.trans s7)))
end
end Wl




namespace Wl
open PySem PySem.Spec PyProof.Rows L2
abbrev Row := List (Option Str)
abbrev Grid := List Row
def rnames (r : Row) : List Str := r.filterMap id
def names (g : Grid) : List Str := g.flatten.filterMap id
theorem names_nil : names [] = [] := rfl
theorem names_snoc (g : Grid) (r : Row) : names (g ++ [r]) = names g ++ rnames r := by
  unfold names rnames
  rw [List.flatten_append, List.filterMap_append]
  simp
theorem names_cons (r : Row) (g : Grid) : names (r :: g) = rnames r ++ names g := by
  unfold names rnames
  rw [List.flatten_cons, List.filterMap_append]
theorem rnames_snoc (r : Row) (o : Option Str) : rnames (r ++ [o]) = rnames r ++ o.toList := by
  unfold rnames
  rw [List.filterMap_append]
  cases o <;> rfl
structure Good (g : Grid) (wd : Nat) : Prop where
  h1 : 1 ≤ g.length
  h6 : g.length ≤ 6
  w1 : 1 ≤ wd
  w6 : wd ≤ 6
  rows : ∀ r ∈ g, r.length = wd
  nd : (names g).Nodup
  wd : ∀ z ∈ names g, IsWd z
  ne : names g ≠ []
/-- the heap keeps its tuples -/
def TupKeep (H H' : Hp) : Prop := ∀ p xs, H p = some (.tup xs) → H' p = some (.tup xs)
theorem TupKeep.refl (H : Hp) : TupKeep H H := fun _ _ h => h
theorem TupKeep.trans {H H1 H2 : Hp} (a : TupKeep H H1) (b : TupKeep H1 H2) : TupKeep H H2 := fun p xs h => b p xs (a p xs h)
theorem tk_same {H H' : Hp} (s : Same H H') : TupKeep H H' := fun p xs h => s p _ h
theorem tk_x {a : Addr} {H H' : Hp} {ys : List V} (s : SameX a H H') (ha : H a = some (.lst ys)) : TupKeep H H' := fun p xs h => s p _ (ne_of h ha (by intro z; cases z)) h
theorem tk_upd {a : Addr} {H : Hp} {ys : List V} {o : HO} (ha : H a = some (.lst ys)) : TupKeep H (upd H a o) := tk_x sameX_upd ha
theorem tk_new {p : Addr} {H : Hp} {o : HO} (hp : H p = none) : TupKeep H (upd H p o) := tk_same (same_new hp)
/-- rows of a grid as tuples -/
def RowsAt (H : Hp) (as : List Addr) (g : Grid) : Prop := Each (fun (p : Addr) (row : Row) => H p = some (.tup (row.map oV))) as g
theorem RowsAt.keep {H H' : Hp} {as : List Addr} {g : Grid} (h : RowsAt H as g) (k : TupKeep H H') : RowsAt H' as g := Each.mono (fun p row e => k p _ e) h
def GridAt (H : Hp) (L : Addr) (g : Grid) : Prop := ∃ as : List Addr, H L = some (.tup (as.map V.ref)) ∧ RowsAt H as g
theorem GridAt.keep {H H' : Hp} {L : Addr} {g : Grid} (h : GridAt H L g) (k : TupKeep H H') : GridAt H' L g := by
  obtain ⟨as, h1, h2⟩ := h
  exact ⟨as, k _ _ h1, h2.keep k⟩
/-- the part at a row and a column, none where there is none -/
def cellAt (g : Grid) (r c : Nat) : Option Str := match g[r]? with
  | some row => (row[c]?).getD none
  | none => none
theorem cellAt_some {g : Grid} {r c : Nat} {z : Str} (h : cellAt g r c = some z) : ∃ row, g[r]? = some row ∧ row[c]? = some (some z) := by
  unfold cellAt at h
  cases e : g[r]? with
  | none => rw [e] at h; cases h
  | some row =>
    rw [e] at h
    refine ⟨row, rfl, ?_⟩
    cases e2 : row[c]? with
    | none => simp only [e2] at h; cases h
    | some o => simp only [e2, Option.getD_some] at h; rw [h]
theorem cellAt_of {g : Grid} {r c : Nat} {row : Row} {o : Option Str} (h : g[r]? = some row) (k : row[c]? = some o) : cellAt g r c = o := by
  unfold cellAt
  rw [h]
  simp [k]
/-! ### the spots -/
def spR (i j : Nat) : Row → List (Str × Nat × Nat)
  | [] => []
  | none :: r => spR i (j + 1) r
  | some z :: r => (z, i, j) :: spR i (j + 1) r
def spG (i : Nat) : Grid → List (Str × Nat × Nat)
  | [] => []
  | row :: g => spR i 0 row ++ spG (i + 1) g
theorem spR_snoc (i : Nat) : ∀ (r : Row) (j : Nat) (o : Option Str), spR i j (r ++ [o]) = spR i j r ++ (o.toList.map fun z => (z, i, j + r.length))
  | [], j, none => rfl
  | [], j, some z => rfl
  | none :: r, j, o => by
    show spR i (j + 1) (r ++ [o]) = spR i (j + 1) r ++ _
    rw [spR_snoc i r (j + 1) o, List.length_cons]
    congr 2
    funext z
    rw [Nat.add_right_comm, Nat.add_assoc]
  | some y :: r, j, o => by
    show (y, i, j) :: spR i (j + 1) (r ++ [o]) = (y, i, j) :: spR i (j + 1) r ++ _
    rw [spR_snoc i r (j + 1) o, List.length_cons, List.cons_append]
    congr 3
    funext z
    rw [Nat.add_right_comm, Nat.add_assoc]
theorem spG_snoc : ∀ (g : Grid) (i : Nat) (r : Row), spG i (g ++ [r]) = spG i g ++ spR (i + g.length) 0 r
  | [], i, r => by simp [spG]
  | x :: g, i, r => by
    show spR i 0 x ++ spG (i + 1) (g ++ [r]) = spR i 0 x ++ spG (i + 1) g ++ _
    rw [spG_snoc g (i + 1) r, List.length_cons, List.append_assoc]
    congr 3
    omega
theorem spR_fst (i : Nat) : ∀ (r : Row) (j : Nat), (spR i j r).map (·.1) = rnames r
  | [], _ => rfl
  | none :: r, j => spR_fst i r (j + 1)
  | some z :: r, j => congrArg (z :: ·) (spR_fst i r (j + 1))
theorem spG_fst : ∀ (g : Grid) (i : Nat), (spG i g).map (·.1) = names g
  | [], _ => rfl
  | r :: g, i => by
    show (spR i 0 r ++ spG (i + 1) g).map (·.1) = _
    rw [List.map_append, spR_fst, spG_fst g (i + 1), names_cons]
theorem spR_mem (i : Nat) {z : Str} {a b : Nat} : ∀ (r : Row) (j : Nat), (z, a, b) ∈ spR i j r ↔ a = i ∧ ∃ k, b = j + k ∧ r[k]? = some (some z)
  | [], j => by simp [spR]
  | none :: r, j => by
    show (z, a, b) ∈ spR i (j + 1) r ↔ _
    rw [spR_mem i r (j + 1)]
    constructor
    · rintro ⟨h, k, e, q⟩
      exact ⟨h, k + 1, by omega, by simpa using q⟩
    · rintro ⟨h, k, e, q⟩
      cases k with
      | zero => simp at q
      | succ k => exact ⟨h, k, by omega, by simpa using q⟩
  | some y :: r, j => by
    show (z, a, b) ∈ (y, i, j) :: spR i (j + 1) r ↔ _
    rw [List.mem_cons, spR_mem i r (j + 1)]
    constructor
    · rintro (h | ⟨h, k, e, q⟩)
      · cases h
        exact ⟨rfl, 0, rfl, rfl⟩
      · exact ⟨h, k + 1, by omega, by simpa using q⟩
    · rintro ⟨h, k, e, q⟩
      cases k with
      | zero =>
        simp at q
        subst q h
        exact .inl (by rw [e, Nat.add_zero])
      | succ k => exact .inr ⟨h, k, by omega, by simpa using q⟩
theorem spG_mem {z : Str} {a b : Nat} : ∀ (g : Grid) (i : Nat), (z, a, b) ∈ spG i g ↔ ∃ k row, a = i + k ∧ g[k]? = some row ∧ row[b]? = some (some z)
  | [], i => by simp [spG]
  | r :: g, i => by
    show (z, a, b) ∈ spR i 0 r ++ spG (i + 1) g ↔ _
    rw [List.mem_append, spR_mem, spG_mem g (i + 1)]
    constructor
    · rintro (⟨h, k, e, q⟩ | ⟨k, row, e, q, t⟩)
      · exact ⟨0, r, by omega, rfl, by rw [e, Nat.zero_add]; exact q⟩
      · exact ⟨k + 1, row, by omega, by simpa using q, t⟩
    · rintro ⟨k, row, e, q, t⟩
      cases k with
      | zero =>
        simp at q
        subst q
        exact .inl ⟨by omega, b, by omega, t⟩
      | succ k => exact .inr ⟨k, row, by omega, by simpa using q, t⟩
theorem spG_cell {g : Grid} {z : Str} {r c : Nat} : (z, r, c) ∈ spG 0 g ↔ cellAt g r c = some z := by
  rw [spG_mem]
  constructor
  · rintro ⟨k, row, e, q, t⟩
    have : r = k := by omega
    subst this
    exact cellAt_of q t
  · intro h
    obtain ⟨row, q, t⟩ := cellAt_some h
    exact ⟨r, row, by omega, q, t⟩
theorem mem_names {g : Grid} {z : Str} : z ∈ names g ↔ ∃ r c, cellAt g r c = some z := by
  rw [← spG_fst g 0]
  constructor
  · intro h
    obtain ⟨⟨y, r, c⟩, hm, rfl⟩ := List.mem_map.mp h
    exact ⟨r, c, spG_cell.mp hm⟩
  · rintro ⟨r, c, h⟩
    exact List.mem_map.mpr ⟨_, spG_cell.mpr h, rfl⟩
theorem nodup_fst {α β : Type} : ∀ {l : List (α × β)}, (l.map (·.1)).Nodup → ∀ {a : α} {b b' : β}, (a, b) ∈ l → (a, b') ∈ l → b = b'
  | [], _, _, _, _, h, _ => by cases h
  | x :: l, nd, a, b, b', h, k => by
    obtain ⟨h1, h2⟩ := List.nodup_cons.mp nd
    rcases List.mem_cons.mp h with e | h <;> rcases List.mem_cons.mp k with e' | k
    · rw [← e] at e'
      exact (Prod.mk.inj e').2.symm
    · exact absurd (List.mem_map.mpr ⟨_, k, by rw [← e]⟩) h1
    · exact absurd (List.mem_map.mpr ⟨_, h, by rw [← e']⟩) h1
    · exact nodup_fst h2 h k
theorem cell_inj {g : Grid} (nd : (names g).Nodup) {z : Str} {r c r' c' : Nat} (h : cellAt g r c = some z) (k : cellAt g r' c' = some z) : r = r' ∧ c = c' := by
  have := nodup_fst (l := spG 0 g) (by rw [spG_fst]; exact nd) (spG_cell.mpr h) (spG_cell.mpr k)
  exact Prod.mk.inj this
theorem Good.cell {g : Grid} {wd : Nat} (G : Good g wd) {r c : Nat} {z : Str} (h : cellAt g r c = some z) : r < g.length ∧ c < wd := by
  obtain ⟨row, h1, h2⟩ := cellAt_some h
  obtain ⟨a, e⟩ := List.getElem?_eq_some_iff.mp h1
  obtain ⟨b, _⟩ := List.getElem?_eq_some_iff.mp h2
  have := G.rows row (List.mem_of_getElem? h1)
  exact ⟨a, by omega⟩
theorem Good.len {g : Grid} {wd : Nat} (G : Good g wd) : (names g).length ≤ 36 := by
  have h : ∀ l : Grid, (∀ r ∈ l, r.length = wd) → (names l).length ≤ l.length * wd := by
    intro l
    induction l with
    | nil => intro _; simp [names]
    | cons r l ih =>
      intro h
      rw [names_cons, List.length_append, List.length_cons]
      have h1 : (rnames r).length ≤ wd := by
        have := List.length_filterMap_le id r
        have := h r List.mem_cons_self
        unfold rnames
        omega
      have h2 := ih fun r hr => h r (List.mem_cons_of_mem _ hr)
      rw [Nat.succ_mul]
      omega
  have h1 := h g G.rows
  have h2 : g.length * wd ≤ 6 * 6 := Nat.mul_le_mul G.h6 G.w6
  omega
end Wl

namespace Wl
open PySem PySem.Spec PyProof.Rows L2
section
variable {P : Program} {w : World} {K : PySem.W.Frag} {mg : Str → Option Value} {base : Heap} {f : Addr} {fd : FuncData}
def spLand : Sp := fun vs H Q _ => ∃ (a : Addr) (m : Int), vs = [.ref a, .int m] ∧ PurseAt H a ∧ 1 ≤ m ∧ m ≤ 6 ∧
  ∀ (L : Addr) (g : Grid) (wd : Nat) (H' : Hp), Good g wd → GridAt H' L g → PurseAt H' a → SameX a H H' → Q (.ref L) H'
abbrev nLand : List Str := ["_law_purse_here", "_law_topmost", "_law_high", "_law_wide", "_law_names_here", "_law_lots", "_law_row", "_law_parts", "_law_column", "_law_lake", "_law_label"]
theorem scLand : FnScope nLand ["_law_purse_here", "_law_topmost"] (defScope sLand) :=
  ⟨rfl, rfl, rfl, by decide +kernel, rfl, by decide +kernel, by decide +kernel⟩
/-- what holds of the heap while the land is laid: the rows laid so far, the parts of this one -/
structure Laying (H0 H : Hp) (a tA lA : Addr) (g : Grid) (wd : Nat) (ps : Row) : Prop where
  purse : PurseAt H a
  same : SameX a H0 H
  towns : H tA = some (.lst ((names g ++ rnames ps).map V.str))
  laid : ∃ as, H lA = some (.lst (as.map V.ref)) ∧ RowsAt H as g
  rows : ∀ r ∈ g, r.length = wd
  nd : (names g ++ rnames ps).Nodup
  wds : ∀ z ∈ names g ++ rnames ps, IsWd z
theorem len_names {g : Grid} {wd : Nat} (h : ∀ r ∈ g, r.length = wd) : (names g).length ≤ g.length * wd := by
  induction g with
  | nil => simp [names]
  | cons r l ih =>
    rw [names_cons, List.length_append, List.length_cons]
    have h1 : (rnames r).length ≤ wd := by
      have := List.length_filterMap_le id r
      have := h r List.mem_cons_self
      unfold rnames
      omega
    have h2 := ih fun r hr => h r (List.mem_cons_of_mem _ hr)
    rw [Nat.succ_mul]
    omega
theorem lake_reads {σ : L2.St} {H : Hp} {Q : VK} {a tA : Addr} {ws : List Str} {x y hi wd : Int} (e0 : σ[0]? = some (some (.ref a))) (e4 : σ[4]? = some (some (.ref tA))) (e6 : σ[6]? = some (some (.int x))) (e8 : σ[8]? = some (some (.int y)))
    (e2 : σ[2]? = some (some (.int hi))) (e3 : σ[3]? = some (some (.int wd))) (hA : PurseAt H a) (ht : H tA = some (.lst (ws.map V.str))) (nta : tA ≠ a) (hws : ∀ z ∈ ws, IsWd z)
    (q : ∀ (b : Bool) (H' : Hp), PurseAt H' a → SameX a H H' → (b = true → ws ≠ [] ∨ x + y + 2 < hi + wd) → Q (.bl b) H') :
    tAndV (tOp rEq (tCall spPick [] E0 (tCons (tVar 0) (tCons (tC (.int 6)) tNil))) (tC (.int 5)))
      (tOrV (tOp (rNeD K) (tVar 4) (tLst tNil)) (tOp (rI0 fun i j => .bl (decide (i < j))) (tOp (rI0 fun i j => .int (i + j)) (tOp (rI0 fun i j => .int (i + j)) (tVar 6) (tVar 8)) (tC (.int 2))) (tOp (rI0 fun i j => .int (i + j)) (tVar 2) (tVar 3)))) σ H Q := by
  refine ⟨_, e0, a, 6, rfl, hA, by decide, by decide, fun r H1 r0 r1 hA1 s1 n1 => ⟨rfl, _, rfl, ite_b (fun e => ?_) (fun e => ?_)⟩⟩
  · refine ⟨_, e4, lz, fun p hp => ⟨.list (ws.map .str), .list [], .lst (.inl (.inl ((same_new hp) _ _ (s1 _ _ nta ht)))) (dp_strs ws), .lst (.inl (.inl upd_same)) .nil, shaped_list (lay_strs hws) (by rw [depth_strs]; decide), rfl, _, rfl, ite_b (fun e => ?_) (fun e => ?_)⟩⟩
    · refine q true _ (hA1.same (same_new hp)) (s1.trans (sx (same_new hp))) fun _ => .inl fun z => ?_
      subst z
      cases e
    · refine ⟨_, e6, _, e8, _, _, rfl, rfl, _, _, rfl, rfl, _, e2, _, e3, _, _, rfl, rfl, _, _, rfl, rfl, ?_⟩
      exact q _ _ (hA1.same (same_new hp)) (s1.trans (sx (same_new hp))) fun z => .inr (of_decide_eq_true z)
  · exact q false _ hA1 s1 fun z => by cases z
theorem Laying.go {H0 H H' : Hp} {a tA lA : Addr} {g : Grid} {wd : Nat} {ps : Row} (h : Laying H0 H a tA lA g wd ps) (nt : tA ≠ a) (nl : lA ≠ a) (hp : PurseAt H' a) (s : SameX a H H') : Laying H0 H' a tA lA g wd ps := by
  obtain ⟨as, hl, hR⟩ := h.laid
  obtain ⟨ys, ha⟩ := h.purse.lst
  exact ⟨hp, h.same.trans s, s _ _ nt h.towns, ⟨as, s _ _ nl hl, hR.keep (tk_x s ha)⟩, h.rows, h.nd, h.wds⟩
theorem ok_land (F : Fun K "_law_land" "_law_land" sLand f fd) (B : Bi mg) (hp : Has P w K mg base "_law_pick" 1 ["_law_purse_here", "_law_count"] spPick) (hF : Has P w K mg base "_law_fresh" 3 ["_law_purse_here", "_law_used"] spFresh) :
    FnOk P w K mg base CX0 4 f fd ["_law_purse_here", "_law_topmost"] spLand := by
  refine F.ok scLand (fun vs H Q E h => ?_) (fun cdv A outer s H vs Q E hr h => ?_)
  · obtain ⟨a, m, rfl, _⟩ := h
    rfl
  · obtain ⟨a, m, rfl, hA, m1, m6, q⟩ := h
    refine ⟨_, pss_cons (ps_par3 (i := 2) (j := 3) (l := 4) (by rfl) scLand.nd rfl rfl rfl (by decide) (by decide) (by decide) rfl rfl rfl (pa_cons (pe_op op_add pe_int (pe_h hp hr (pa_cons (pv 0) (pa_cons (pv 1) pa_nil)))) (pa_cons (pe_op op_add pe_int (pe_h hp hr (pa_cons (pv 0) (pa_cons (pv 1) pa_nil)))) (pa_cons (pe_lst pa_nil) pa_nil))) (by rfl))
      (pss_cons (ps_set (i := 5) scLand.nd rfl (.inl rfl) (pe_lst pa_nil))
      (pss_cons (ps_for PassesOwn.never rfl (pi_range1 rfl B.range (pa_cons (pv 2) pa_nil)) (pg_name (i := 6) scLand.nd rfl (.inl rfl))
        (pss_cons (ps_set (i := 7) scLand.nd rfl (.inl rfl) (pe_lst pa_nil))
        (pss_cons (ps_for PassesOwn.never rfl (pi_range1 rfl B.range (pa_cons (pv 3) pa_nil)) (pg_name (i := 8) scLand.nd rfl (.inl rfl))
          (pss_cons (ps_set (i := 9) scLand.nd rfl (.inl rfl) (pe_and (pe_cmpR op_eq (pe_h hp hr (pa_cons (pv 0) (pa_cons pe_int pa_nil))) pe_int (nomark _)) (pe_one (pe_or (pe_cmpR (op_neD hr.units) (pv 4) (pe_lst pa_nil) (nomark _)) (pe_one (pe_cmpR op_lt (pe_op op_add (pe_op op_add (pv 6) (pv 8)) pe_int) (pe_op op_add (pv 2) (pv 3)) (nomark _)))))))
          (pss_cons (ps_set (i := 10) scLand.nd rfl (.inl rfl) (pe_h hF hr (pa_cons (pv 0) (pa_cons (pv 4) pa_nil))))
          (pss_cons (ps_if (pt_truth (pv 9) (by intro _; rfl)) (pss_one (ps_set (i := 10) scLand.nd rfl (.inl rfl) pe_non)) (pss_one (ps_expr (pe_bm PySem.F.plainAttrs_list PySem.F.slot_list_append PySem.F.type_list_append mt_append (pv 4) (pa_cons (pv 10) pa_nil)))))
          (pss_one (ps_expr (pe_bm PySem.F.plainAttrs_list PySem.F.slot_list_append PySem.F.type_list_append mt_append (pv 7) (pa_cons (pv 10) pa_nil))))))))
        (pss_one (ps_expr (pe_bm PySem.F.plainAttrs_list PySem.F.slot_list_append PySem.F.type_list_append mt_append (pv 5) (pa_cons (pe_callTy call_tuple_of (by rfl) B.tuple (by decide +kernel) (pa_cons (pv 7) pa_nil)) pa_nil)))))))
      (pss_one (ps_ret (pe_callTy call_tuple_of (by rfl) B.tuple (by decide +kernel) (pa_cons (pv 5) pa_nil)))))), ?_⟩
    refine ⟨_, rfl, _, rfl, a, m, rfl, hA, by omega, by omega, fun r1 H1 r10 r11 hA1 s1 n1 => ⟨_, _, rfl, rfl, ?_⟩⟩
    refine ⟨_, rfl, _, rfl, a, m, rfl, hA1, by omega, by omega, fun r2 H2 r20 r21 hA2 s2 n2 => ⟨_, _, rfl, rfl, ?_⟩⟩
    refine ⟨lz, fun tA htA => ⟨_, _, _, rfl, lz, fun lA hlA => ?_⟩⟩
    have nta : tA ≠ a := hA2.ne htA
    have nla : lA ≠ a := (hA2.same (same_new htA)).ne hlA
    have nlt : lA ≠ tA := (ne_of_none upd_same hlA).symm
    have htA0 : H tA = none := SameX.free (s1.trans s2) nta htA
    have hlA0 : H lA = none := SameX.free ((s1.trans s2).trans (sx (same_new htA))) nla hlA
    obtain ⟨hi, ehi⟩ : ∃ hi : Nat, 1 + r1 = (hi : Int) := ⟨(1 + r1).toNat, by omega⟩
    obtain ⟨wd, ewd⟩ : ∃ wd : Nat, 1 + r2 = (wd : Int) := ⟨(1 + r2).toNat, by omega⟩
    have n1 : (1 + r1).toNat = hi := by omega
    have n2 : (1 + r2).toNat = wd := by omega
    have hhi : 1 ≤ hi ∧ hi ≤ 6 := by omega
    have hwd : 1 ≤ wd ∧ wd ≤ 6 := by omega
    have L0 : Laying H (upd (upd H2 tA (.lst [])) lA (.lst [])) a tA lA [] wd [] := by
      refine ⟨(hA2.same (same_new htA)).same (same_new hlA), sameX_mut (sameX_mut (s1.trans s2) htA0) hlA0, ?_, ⟨[], upd_same, .nil⟩, (fun r hr => nomatch hr), List.nodup_nil, (fun z hz => nomatch hz)⟩
      rw [upd_ne nlt.symm, upd_same]
      rfl
    generalize upd (upd H2 tA (.lst [])) lA (.lst []) = H3 at L0
    refine ⟨_, rfl, 1 + r1, rfl, by omega, by omega, ?_⟩
    rw [n1]
    refine for_range (lo := 0) (n := hi) (fun i σ H' => ∃ (g : Grid) (y6 y7 y8 y9 y10 : Option V), σ = [some (.ref a), some (.int m), some (.int (1 + r1)), some (.int (1 + r2)), some (.ref tA), some (.ref lA), y6, y7, y8, y9, y10] ∧ g.length = i ∧ Laying H H' a tA lA g wd [] ∧ (i = hi → names g ≠ []))
      ⟨[], none, none, none, none, none, rfl, rfl, L0, fun e => by omega⟩ ?_ ?_
    · rintro i σ H4 hi4 ⟨g, y6, y7, y8, y9, y10, rfl, hgl, L4, _⟩
      refine ⟨lz, fun pA hpA => ?_⟩
      have npa : pA ≠ a := L4.purse.ne hpA
      have npt : pA ≠ tA := (ne_of_none L4.towns hpA).symm
      obtain ⟨as4, hl4, hR4⟩ := L4.laid
      have npl : pA ≠ lA := (ne_of_none hl4 hpA).symm
      have L5 := L4.go nta nla (L4.purse.same (same_new (o := .lst []) hpA)) (sx (same_new hpA))
      refine ⟨_, rfl, 1 + r2, rfl, by omega, by omega, ?_⟩
      rw [n2]
      refine for_range (lo := 0) (n := wd) (fun j σ H' => ∃ (ps : Row) (y8 y9 y10 : Option V), σ = [some (.ref a), some (.int m), some (.int (1 + r1)), some (.int (1 + r2)), some (.ref tA), some (.ref lA), some (.int (0 + i)), some (.ref pA), y8, y9, y10] ∧ ps.length = j ∧ Laying H H' a tA lA g wd ps ∧ H' pA = some (.lst (ps.map oV)) ∧ (i + 1 = hi → j = wd → names g ++ rnames ps ≠ []))
        ⟨[], _, _, _, rfl, rfl, L5, upd_same, fun _ e => by omega⟩ ?_ ?_
      · rintro j σ H6 hj ⟨ps, z8, z9, z10, rfl, hpl, L6, hp6, _⟩
        refine lake_reads (a := a) (tA := tA) (x := 0 + i) (y := 0 + j) (hi := 1 + r1) (wd := 1 + r2) rfl rfl rfl rfl rfl rfl L6.purse L6.towns nta L6.wds fun b H7 hA7 s7 hb => ?_
        have L7 := L6.go nta nla hA7 s7
        have hp7 := s7 _ _ npa hp6
        have hlen : (names g ++ rnames ps).length ≤ 35 := by
          have h1 := len_names L6.rows
          have h2 : (rnames ps).length ≤ ps.length := List.length_filterMap_le id ps
          rw [List.length_append]
          have h3 : g.length * wd ≤ 5 * wd := Nat.mul_le_mul_right _ (by omega)
          omega
        refine ⟨_, rfl, _, rfl, a, tA, names g ++ rnames ps, rfl, L7.purse, L7.towns, nta, hlen, fun z H8 hz hzn hA8 s8 => ?_⟩
        have L8 := L7.go nta nla hA8 s8
        have hp8 := s8 _ _ npa hp7
        have hlt : ((names g ++ rnames ps).map V.str).length < sizeLine := by
          rw [List.length_map]
          exact small1000 (by omega)
        have hpl2 : (ps.map oV).length < sizeLine := by
          rw [List.length_map]
          exact small1000 (by omega)
        refine ⟨_, rfl, b, rfl, ite_b (fun e => ?_) (fun e => ?_)⟩
        · -- a lake
          refine ⟨_, rfl, .inl ⟨rfl, _, .inl (.inl hp8)⟩, _, rfl, pA, _, _, rfl, rfl, hp8, hpl2, ?_⟩
          obtain ⟨as8, hl8, hR8⟩ := L8.laid
          refine ⟨ps ++ [none], _, _, _, rfl, by simp [hpl], ⟨?_, ?_, ?_, ⟨as8, ?_, hR8.keep (tk_upd hp8)⟩, L8.rows, ?_, ?_⟩, ?_, ?_⟩
          · obtain ⟨x0, x1, x2, hx, hx1⟩ := L8.purse
            exact ⟨x0, x1, x2, by rw [upd_ne npa.symm]; exact hx, hx1⟩
          · exact sameX_mut L8.same (SameX.free L4.same npa hpA)
          · rw [upd_ne npt.symm, rnames_snoc]
            simpa using L8.towns
          · rw [upd_ne npl.symm]
            exact hl8
          · rw [rnames_snoc]
            simpa using L8.nd
          · rw [rnames_snoc]
            simpa using L8.wds
          · rw [upd_same, List.map_append]
            rfl
          · intro e1 e2
            rw [rnames_snoc]
            rcases hb e with h | h
            · simpa using h
            · omega
        · -- a village
          refine ⟨_, rfl, .inl ⟨rfl, _, .inl (.inl L8.towns)⟩, _, rfl, tA, _, _, rfl, rfl, L8.towns, hlt, ?_⟩
          have hp9 : upd H8 tA (.lst ((names g ++ rnames ps).map V.str ++ [.str z])) pA = some (.lst (ps.map oV)) := by
            rw [upd_ne npt]
            exact hp8
          refine ⟨_, rfl, .inl ⟨rfl, _, .inl (.inl hp9)⟩, _, rfl, pA, _, _, rfl, rfl, hp9, hpl2, ?_⟩
          obtain ⟨as8, hl8, hR8⟩ := L8.laid
          have en : names g ++ rnames (ps ++ [some z]) = (names g ++ rnames ps) ++ [z] := by
            rw [rnames_snoc, List.append_assoc]
            rfl
          refine ⟨ps ++ [some z], _, _, _, rfl, by simp [hpl], ⟨?_, ?_, ?_, ⟨as8, ?_, (hR8.keep (tk_upd L8.towns)).keep (tk_upd hp9)⟩, L8.rows, ?_, ?_⟩, ?_, ?_⟩
          · obtain ⟨x0, x1, x2, hx, hx1⟩ := L8.purse
            exact ⟨x0, x1, x2, by rw [upd_ne npa.symm, upd_ne nta.symm]; exact hx, hx1⟩
          · exact sameX_mut (sameX_mut L8.same htA0) (SameX.free L4.same npa hpA)
          · rw [upd_ne npt.symm, upd_same, en]
            simp
          · rw [upd_ne npl.symm, upd_ne nlt]
            exact hl8
          · rw [en, List.nodup_append]
            refine ⟨L8.nd, by simp, fun x hx y hy e => ?_⟩
            rw [List.mem_singleton.mp hy] at e
            rw [e] at hx
            exact hzn hx
          · rw [en]
            intro y hy
            rcases List.mem_append.mp hy with hy | hy
            · exact L8.wds y hy
            · rw [List.mem_singleton.mp hy]
              exact hz
          · rw [upd_same, List.map_append]
            rfl
          · intro _ _
            rw [en]
            simp
      · rintro σ H6 ⟨ps, z8, z9, z10, rfl, hpl, L6, hp6, hne⟩
        obtain ⟨as6, hl6, hR6⟩ := L6.laid
        refine ⟨_, rfl, .inl ⟨rfl, _, .inl (.inl hl6)⟩, _, rfl, pA, _, rfl, .inl ⟨.inl (.inl hp6), fun t ht => ?_⟩⟩
        have nlt6 : lA ≠ t := ne_of_none hl6 ht
        refine ⟨lA, _, _, rfl, rfl, (same_new ht) _ _ hl6, ?_, ?_⟩
        · rw [List.length_map, hR6.length]
          exact small1000 (by omega)
        · refine ⟨g ++ [ps], _, _, _, _, _, rfl, by simp [hgl], ⟨?_, ?_, ?_, ⟨as6 ++ [t], ?_, ?_⟩, ?_, ?_, ?_⟩, ?_⟩
          · obtain ⟨x0, x1, x2, hx, hx1⟩ := L6.purse.same (same_new (o := .tup (ps.map oV)) ht)
            exact ⟨x0, x1, x2, by rw [upd_ne nla.symm]; exact hx, hx1⟩
          · exact sameX_mut (L6.same.trans (sx (same_new ht))) hlA0
          · rw [upd_ne nlt.symm, (same_new ht) _ _ L6.towns, names_snoc]
            simp [rnames]
          · rw [upd_same, List.map_append]
            rfl
          · refine Each.append ((hR6.keep (tk_new ht)).keep (tk_upd ((same_new ht) _ _ hl6))) (.cons ?_ .nil)
            rw [upd_ne nlt6.symm, upd_same]
          · intro r hr
            rcases List.mem_append.mp hr with hr | hr
            · exact L6.rows r hr
            · rw [List.mem_singleton.mp hr]
              exact hpl
          · rw [names_snoc]
            simpa [rnames] using L6.nd
          · rw [names_snoc]
            simpa [rnames] using L6.wds
          · intro e
            rw [names_snoc]
            exact hne e rfl
    · rintro σ H4 ⟨g, y6, y7, y8, y9, y10, rfl, hgl, L4, hne⟩
      obtain ⟨as4, hl4, hR4⟩ := L4.laid
      refine ⟨_, rfl, lA, _, rfl, .inl ⟨.inl (.inl hl4), fun t ht => ?_⟩⟩
      refine q t g wd _ ⟨by omega, by omega, hwd.1, hwd.2, L4.rows, ?_, ?_, hne rfl⟩ ⟨as4, upd_same, hR4.keep (tk_new ht)⟩ (L4.purse.same (same_new ht)) (L4.same.trans (sx (same_new ht)))
      · simpa [rnames] using L4.nd
      · simpa [rnames] using L4.wds
end
end Wl




namespace Wl
open PySem PySem.Spec PyProof.Rows L2
abbrev sAreRows : Stmt := topS 47
abbrev sWrong : Stmt := topS 48
abbrev sSpotsIn : Stmt := topS 49
abbrev sSpots : Stmt := topS 50
structure Gk (mg : Str → Option Value) : Prop where
  letters : ∃ t, mg "LETTERS" = some (.str "abcdefghijklmnopqrstuvwxyz" t)
  longest : ∃ t, mg "LONGEST_WORD" = some (.int 8 t)
  mrows : ∃ t, mg "MOST_ROWS" = some (.int 6 t)
  mcols : ∃ t, mg "MOST_COLUMNS" = some (.int 6 t)
section
variable {P : Program} {w : World} {K : PySem.W.Frag} {mg : Str → Option Value} {base : Heap} {f : Addr} {fd : FuncData}

/-! ### is_word of a text -/
def spIsWord : Sp := fun vs H Q _ => ∃ (z : Str), vs = [.str z] ∧ z.length ≤ 1000 ∧ ∀ (H' : Hp), Same H H' → Q (.bl (wdB z)) H'
end
end Wl




namespace Wl
open PySem PySem.Spec PyProof.Rows L2
section
variable {P : Program} {w : World} {K : PySem.W.Frag} {mg : Str → Option Value} {base : Heap} {f : Addr} {fd : FuncData}

/-! ### are_rows of a good grid -/
def spAreRows : Sp := fun vs H Q _ => ∃ (L : Addr) (g : Grid) (wd : Nat), vs = [.ref L] ∧ GridAt H L g ∧ Good g wd ∧ Q (.bl true) H
abbrev nAreRows : List Str := ["thing", "row"]
theorem scAreRows : FnScope nAreRows ["thing"] (defScope sAreRows) := ⟨rfl, rfl, rfl, by decide +kernel, rfl, by decide +kernel, by decide +kernel⟩
theorem ok_arerows (F : Fun K "are_rows" "are_rows" sAreRows f fd) (B : Bi mg) (G : Gk mg) : FnOk P w K mg base CX0 1 f fd ["thing"] spAreRows := by
  obtain ⟨t1, g1⟩ := G.mrows
  obtain ⟨t2, g2⟩ := G.mcols
  refine F.ok scAreRows (fun vs H Q E h => ?_) (fun cdv A outer s H vs Q E hr h => ?_)
  · obtain ⟨L, g, wd, rfl, _⟩ := h
    rfl
  · obtain ⟨L, g, wd, rfl, ⟨as, hL, hR⟩, gd, q⟩ := h
    refine ⟨_, pss_cons (ps_if (PW.pt (pw_or (pt_not (pt_val (pe_callB call_isi (by rfl) B.isi (by decide +kernel) (pa_cons (pv 0) (pa_cons (pe_bltn (v := .ty "tuple") (by rfl) B.tuple (by decide +kernel) rfl) pa_nil)))))
        (pw_or1 (pt_not (pt_chain op_le op_le pe_int (pe_callB call_len_seq (by rfl) B.len PySem.boot_len (pa_cons (pv 0) pa_nil)) (pe_glob (v := .int 6) rfl g1 ⟨_, rfl⟩)))))) (pss_one (ps_ret pe_bl)) pss_nil)
      (pss_cons (ps_for PassesOwn.never rfl (pi_tup (pv 0)) (pg_name (i := 1) scAreRows.nd rfl (.inl rfl))
        (pss_one (ps_if (PW.pt (pw_or (pt_not (pt_val (pe_callB call_isi (by rfl) B.isi (by decide +kernel) (pa_cons (pv 1) (pa_cons (pe_bltn (v := .ty "tuple") (by rfl) B.tuple (by decide +kernel) rfl) pa_nil)))))
          (pw_or (pt_not (pt_chain op_le op_le pe_int (pe_callB call_len_seq (by rfl) B.len PySem.boot_len (pa_cons (pv 1) pa_nil)) (pe_glob (v := .int 6) rfl g2 ⟨_, rfl⟩)))
          (pw_or1 (pt_cmpR op_ne (pe_callB call_len_seq (by rfl) B.len PySem.boot_len (pa_cons (pv 1) pa_nil)) (pe_callB call_len_seq (by rfl) B.len PySem.boot_len (pa_cons (pe_ix ix_tup (pv 0) pe_int (fun _ _ => rfl)) pa_nil)) (nomark _)))))) (pss_one (ps_ret pe_bl)) pss_nil)))
      (pss_one (ps_ret pe_bl))), ?_⟩
    have hlen : (as.map V.ref).length = g.length := by rw [List.length_map, hR.length]
    have hST : SqT K H L (as.map V.ref) := .inl (.inl hL)
    have h16 : 1 ≤ g.length ∧ g.length ≤ 6 := ⟨gd.h1, gd.h6⟩
    have w16 : 1 ≤ wd ∧ wd ≤ 6 := ⟨gd.w1, gd.w6⟩
    refine ⟨_, rfl, _, _, _, _, _, rfl, .ty "tuple", .base (.tup hL), kit_ty (r := true) (by decide +kernel), true, rfl, ?_⟩
    refine iteF ⟨_, rfl, L, _, rfl, .inr hST, _, _, rfl, rfl, _, rfl, ite_b (fun e1 => ?_) (fun e1 => ?_)⟩
    · refine ⟨_, _, rfl, rfl, _, rfl, not_b (fun e2 => ?_) (fun e2 => ?_)⟩
      · have := of_decide_eq_false e2
        omega
      · refine ⟨_, rfl, L, rfl, ⟨_, hST⟩, for_tup (K := K) (a := L) (xs := as.map V.ref) (fun i σ H' => (∃ y, σ = [some (.ref L), y]) ∧ H' = H) ⟨⟨_, rfl⟩, rfl⟩ (fun i σ H' _ h => by rw [h.2]; exact hST) ?_ ?_⟩
        · rintro i x σ H' hx ⟨⟨y, rfl⟩, rfl⟩
          rw [List.getElem?_map] at hx
          obtain ⟨p, hp, rfl⟩ := Option.map_eq_some_iff.mp hx
          obtain ⟨row, hrow, hH⟩ := hR.get hp
          have hrl : (row.map oV).length = wd := by rw [List.length_map]; exact gd.rows row (List.mem_of_getElem? hrow)
          have hrT : SqT K H' p (row.map oV) := .inl (.inl hH)
          obtain ⟨p0, hp0⟩ : ∃ p0, as[0]? = some p0 := by
            cases as with
            | nil =>
              have := hR.length
              simp at this
              omega
            | cons a0 r => exact ⟨a0, rfl⟩
          obtain ⟨row0, hrow0, hH0⟩ := hR.get hp0
          have hr0l : (row0.map oV).length = wd := by rw [List.length_map]; exact gd.rows row0 (List.mem_of_getElem? hrow0)
          refine ⟨_, rfl, _, _, _, _, _, rfl, .ty "tuple", .base (.tup hH), kit_ty (r := true) (by decide +kernel), true, rfl, ?_⟩
          refine iteF ⟨_, rfl, p, _, rfl, .inr hrT, _, _, rfl, rfl, _, rfl, ite_b (fun e3 => ?_) (fun e3 => ?_)⟩
          · refine ⟨_, _, rfl, rfl, _, rfl, not_b (fun e4 => ?_) (fun e4 => ?_)⟩
            · have := of_decide_eq_false e4
              omega
            · refine ⟨_, rfl, p, _, rfl, .inr hrT, _, rfl, L, _, 0, .ref p0, rfl, rfl, hST, atI_nat (j := 0) (by rw [List.getElem?_map, hp0]; rfl), p0, _, rfl, .inr (.inl (.inl hH0)), rfl, _, rfl, ?_⟩
              refine iteNS (by rw [hrl, hr0l]) ?_
              exact ⟨⟨_, rfl⟩, rfl⟩
          · have := of_decide_eq_false e3
            omega
        · rintro σ H' ⟨⟨y, rfl⟩, rfl⟩
          exact q
    · have := of_decide_eq_false e1
      omega
end
end Wl




/-! A dict comprehension of two clauses: {k: v for a in .. if .. for b in .. if ..}. -/
namespace Wl
open PySem PySem.Spec PyProof.Rows L2
/-- the whole of it -/
abbrev two (kx vx ta ia tb ib : Expr) (fa fb : List Expr) (sc : Scope) (pos : Pos) : Expr := .DictComp kx vx [⟨ta, ia, fa, 0⟩, ⟨tb, ib, fb, 0⟩] sc pos
/-- a clause's tests -/
abbrev testsOf (fs : List Expr) (env : Env) : Sem Bool :=
  forIn fs true fun c r => if r = true then (do let y ← isTrue c env (eval c env); pure (ForInStep.yield y)) else pure (ForInStep.yield r)
/-- a turn of a clause: no item is left, or one comes, is stored and tested -/
def Turned (M : Model) (A : Around) (env : Env) (tg : Expr) (it : Value) (fs : List Expr) (stop : Shared → Prop) (k : Bool → Shared → Prop) (E : Value → Shared → Prop) (s : Shared) : Prop :=
  wpAny M A (pyNext it) (fun r s1 => match r with
    | none => stop s1
    | some u => wpAny M A (letOwnedTupleGo tg it u) (fun _ s2 => wpAny M A (assign tg env u) (fun _ s3 => wpAny M A (testsOf fs env) k E s3) E s2) E s1) E s
section
variable {kx vx ta ia tb ib : Expr} {fa fb : List Expr} {sc : Scope} {pos : Pos} {it : Value} {D : Addr} {env : Env}
theorem turnA : compTurn (two kx vx ta ia tb ib fa fb sc pos) 0 it (.ref D) env = (do
    standAt ia.pos
    match ← pyNext it with
    | none => pure (.done .next)
    | some u =>
      letOwnedTupleGo ta it u
      assign ta env u
      let yes ← testsOf fa env
      if yes = true then
        let x ← eval ib env
        standAt ib.pos
        let z ← foldedSetIterable ib env x
        let _ ← runOwn (.compStart (two kx vx ta ia tb ib fa fb sc pos) 1 (← holding [z] (pyIter z)) (.ref D) env) env
      again (.compLoop (two kx vx ta ia tb ib fa fb sc pos) 0 it (.ref D) env)) := rfl
theorem turnB : compTurn (two kx vx ta ia tb ib fa fb sc pos) 1 it (.ref D) env = (do
    standAt ib.pos
    match ← pyNext it with
    | none => pure (.done .next)
    | some u =>
      letOwnedTupleGo tb it u
      assign tb env u
      let yes ← testsOf fb env
      if yes = true then
        (do
          let a ← eval kx env
          let b ← holding [a] (eval vx env)
          standAt { kx.pos with endLine := vx.pos.endLine, endCol := vx.pos.endCol }
          holding [a, b] (dictSet D a b))
      again (.compLoop (two kx vx ta ia tb ib fa fb sc pos) 1 it (.ref D) env)) := rfl
variable {prog : Program} {w : World} {A : Around} {R : Result → Shared → Prop} {s : Shared}
/-- what an error leaves behind it -/
abbrev errs (prog : Program) (w : World) (A : Around) (env : Env) (R : Result → Shared → Prop) : Value → Shared → Prop := notedBy (model prog w) A env fun e s' => R (.error e) s'
theorem loopA (plain : ∀ x, foldedSetIterable ib env x = pure x) (I : Nat → Shared → Prop)
    (turn : ∀ n s, I n s → Turned (model prog w) A env ta it fa (R (.ok .next)) (fun yes s1 => if yes = true then
        wpAny (model prog w) A (eval ib env) (fun x s2 => wpAny (model prog w) A (pyIter x) (fun j s3 => codeAny (model prog w) A (.compStart (two kx vx ta ia tb ib fa fb sc pos) 1 j (.ref D) env) (fun r s4 => (∃ f, r = .ok f) ∧ ∃ m, m < n ∧ I m s4) s3) (errs prog w A env R) s2) (errs prog w A env R) s1
      else ∃ m, m < n ∧ I m s1) (errs prog w A env R) s)
    (n : Nat) (h : I n s) : codeAny (model prog w) A (.compLoop (two kx vx ta ia tb ib fa fb sc pos) 0 it (.ref D) env) R s := by
  refine codeAny_loop rfl I (fun n s hI => wpAny_noted ?_) n h
  have key := turn n s hI
  unfold Turned at key
  show wpAny _ A (compTurn (two kx vx ta ia tb ib fa fb sc pos) 0 it (.ref D) env) _ _ s
  rw [turnA]
  refine wpAny_bind (wpAny_standAt (wpAny_bind (wpAny_mono key ?_ fun _ _ z => z)))
  rintro (_ | u) s1 k1
  · exact wpAny_pure k1
  · refine wpAny_bind (wpAny_mono k1 (fun _ s2 k2 => wpAny_bind (wpAny_mono k2 (fun _ s3 k3 => wpAny_bind (wpAny_mono k3 ?_ fun _ _ z => z)) fun _ _ z => z)) fun _ _ z => z)
    rintro (_ | _) s4 k4
    · exact wpAny_pure ⟨rfl, k4⟩
    · refine wpAny_bind (wpAny_mono k4 (fun x s5 k5 => wpAny_bind (wpAny_standAt (wpAny_bind (wpAny_of_eq (plain x) (wpAny_bind (wpAny_holding (wpAny_mono k5 (fun j s6 k6 => ?_) fun _ _ z => z))))))) fun _ _ z => z)
      refine wpAny_bind (wpAny_runOwn ?_)
      rw [Around.mark_none]
      refine codeAny_mono k6 ?_
      rintro (e | f) s7 ⟨⟨g, eg⟩, k7⟩
      · cases eg
      · first
          | exact wpAny_pure ⟨rfl, k7⟩
          | exact wpAny_bind (wpAny_pure (wpAny_pure ⟨rfl, k7⟩))
theorem loopB (I : Nat → Shared → Prop)
    (turn : ∀ n s, I n s → Turned (model prog w) A env tb it fb (R (.ok .next)) (fun yes s1 => if yes = true then
        wpAny (model prog w) A (eval kx env) (fun a s2 => wpAny (model prog w) A (eval vx env) (fun b s3 => wpAny (model prog w) A (dictSet D a b) (fun _ s4 => ∃ m, m < n ∧ I m s4) (errs prog w A env R) s3) (errs prog w A env R) s2) (errs prog w A env R) s1
      else ∃ m, m < n ∧ I m s1) (errs prog w A env R) s)
    (n : Nat) (h : I n s) : codeAny (model prog w) A (.compLoop (two kx vx ta ia tb ib fa fb sc pos) 1 it (.ref D) env) R s := by
  refine codeAny_loop rfl I (fun n s hI => wpAny_noted ?_) n h
  have key := turn n s hI
  unfold Turned at key
  show wpAny _ A (compTurn (two kx vx ta ia tb ib fa fb sc pos) 1 it (.ref D) env) _ _ s
  rw [turnB]
  refine wpAny_bind (wpAny_standAt (wpAny_bind (wpAny_mono key ?_ fun _ _ z => z)))
  rintro (_ | u) s1 k1
  · exact wpAny_pure k1
  · refine wpAny_bind (wpAny_mono k1 (fun _ s2 k2 => wpAny_bind (wpAny_mono k2 (fun _ s3 k3 => wpAny_bind (wpAny_mono k3 ?_ fun _ _ z => z)) fun _ _ z => z)) fun _ _ z => z)
    rintro (_ | _) s4 k4
    · exact wpAny_pure ⟨rfl, k4⟩
    · refine wpAny_bind (wpAny_bind (wpAny_mono k4 (fun a s5 k5 => ?_) fun _ _ z => z))
      refine wpAny_bind (wpAny_holding (wpAny_mono k5 (fun b s6 k6 => ?_) fun _ _ z => z))
      exact wpAny_bind (wpAny_standAt (wpAny_holding (wpAny_mono k6 (fun _ s7 k7 => wpAny_pure ⟨rfl, k7⟩) fun _ _ z => z)))
theorem startB (h0 : codeAny (model prog w) A (.compLoop (two kx vx ta ia tb ib fa fb sc pos) 1 it (.ref D) env) R s)
    (h1 : wpAny (model prog w) A (pyIter it) (fun j s' => codeAny (model prog w) A (.compLoop (two kx vx ta ia tb ib fa fb sc pos) 1 j (.ref D) env) R s') (errs prog w A env R) s) :
    codeAny (model prog w) A (.compStart (two kx vx ta ia tb ib fa fb sc pos) 1 it (.ref D) env) R s := by
  refine codeAny_of_tree (wpAny_notedAt (?_ : wpAny _ _ (compStart (two kx vx ta ia tb ib fa fb sc pos) 1 it (.ref D) env) _ _ s))
  unfold compStart
  show wpAny _ _ (ask >>= _) _ _ s
  refine wpAny_bind (wpAny_askSetting (wpAny_ite ?_))
  split
  · first
      | exact wpAny_pure ⟨rfl, h0⟩
      | exact wpAny_bind (wpAny_pure (wpAny_pure ⟨rfl, h0⟩))
  · refine wpAny_bind (wpAny_rule ?_)
    show wpAny _ _ (standAt ib.pos >>= _) _ _ s
    exact wpAny_bind (wpAny_standAt (wpAny_bind (wpAny_mono h1 (fun j s' h' => wpAny_pure ⟨rfl, h'⟩) fun _ _ z => z)))
end
section
variable {Y : Cx} {pins : List (Addr × Obj)} {σ : L2.St} {H : Hp} {s : Shared} {tg : Expr} {J : It} {fp : List Addr} {it : Addr} {tn : Nat → Heap → Prop}
/-- an item comes: stored and tested, the walk's objects held meanwhile -/
theorem clause {g : TG} {tt : TT} {fs : List Expr} {i : Nat} {C : L2.St → Prop} {Z : L2.St → Bool → Hp → Prop} {stop : Shared → Prop} {k : Bool → Shared → Prop} {E : Value → Shared → Prop}
    (quiet : Y.xe = fun _ _ => False) (hc : Y.calm = true) (T : Turn Y.prog Y.w Y.K tg J fp it tn) (pg : PG Y tg g) (pt : PTs Y fs tt) (I : L2.Inv Y pins σ H s)
    (free : ∀ {H' : Hp}, (∀ b ∈ fp, H' b = none) → ∀ b ∈ fp, FpOk Y pins H' b) (none0 : ∀ b ∈ fp, H b = none) (st : tn i s.heap) (go : J.go i H)
    (step : ∀ x H', J.yld i H x H' → g x σ H' fun σ2 H2 => C σ2 ∧ tt σ2 H2 (Z σ2))
    (next : ∀ {s1 s2 : Shared} {σ2 : L2.St} {b : Bool} {H2 : Hp}, tn (i + 1) s1.heap → C σ2 → L2.Inv Y (pins ++ pinsAt fp s1.heap) σ2 H2 s2 → Z σ2 b H2 → k b s2) :
    Turned (model Y.prog Y.w) Y.A Y.env tg (.ref it) fs stop k E s := by
  unfold Turned
  refine thnF (T.item Y rfl rfl rfl hc i pins s σ H (fun _ _ => False) I (free none0) st go) ?_
  rintro _ s1 ⟨u, rfl, h1⟩
  refine thnF h1 ?_
  rintro _ s2 ⟨x, H2, I2, rx, yx, st2, n2⟩
  have held := I2.pinned (free n2) (T.obj _ _ st2)
  have run1 := pg.run _ s2 _ H2 x u _ held rx (step x H2 yx)
  rw [quiet] at run1
  refine thnF run1 ?_
  rintro _ s3 ⟨σ3, H3, I3, c3, q3⟩
  have run2 := pt.run _ s3 σ3 H3 _ I3 q3
  rw [quiet] at run2
  refine thnF run2 ?_
  rintro b s4 ⟨H4, I4, q4⟩
  exact next st2 c3 I4 q4
/-- behind the turn the walk's objects stand as they did -/
theorem walk_stays {i : Nat} {h : Heap} (T : Turn Y.prog Y.w Y.K tg J fp it tn) (st : tn i h) (I : L2.Inv Y (pins ++ pinsAt fp h) σ H s) : tn i s.heap ∧ ∀ b ∈ fp, H b = none := by
  have each : ∀ b ∈ fp, ∀ o, h.get? b = some o → s.heap.get? b = some o ∧ H b = none := fun b hb o e => by
    have z := I.pin (b, o) (List.mem_append_right _ (List.mem_append_right _ (mem_pinsAt hb e)))
    exact ⟨z.1, z.2.1⟩
  refine ⟨T.keep i h s.heap st fun b hb o e => (each b hb o e).1, fun b hb => ?_⟩
  obtain ⟨o, e, _⟩ := T.obj i h st b hb
  exact (each b hb o e).2
end
section
variable {X : Cx}
/-- the second clause: its walk, in each turn of it a pair put -/
def InnD (gb : TG) (ttb : TT) (tk tv : TE) (vs1 : List Nat) (D : Addr) (σ2 : L2.St) (Nx : Hp → Prop) (J1 : It) (H4 : Hp) : Prop :=
  ∃ W1 : Nat → Nat → Hp → Prop, (∃ m, W1 0 m H4) ∧ ∀ j k H, W1 j k H → (J1.stop j H ∧ Nx H) ∨ (J1.go j H ∧ ∃ Nx1 : Hp → Prop, (∀ H', Nx1 H' → ∃ k', k' < k ∧ W1 (j + 1) k' H') ∧
    ∀ x H', J1.yld j H x H' → gb x (wipe σ2 vs1) H' fun σ3 H5 => wipe σ3 vs1 = wipe σ2 vs1 ∧ ttb σ3 H5 fun yes H6 =>
      if yes = true then tk σ3 H6 fun y H7 => tv σ3 H7 fun z H8 => ∃ kvs k, y = kV k ∧ H8 D = some (.dK kvs) ∧ kvs.length < sizeLine ∧ Nx1 (upd H8 D (.dK (putK kvs k z))) else Nx1 H6)
/-- what the comprehension asks: the first clause's walk, in each turn the second's; vs: the names of both clauses, vs1: of the second -/
def tDc2 (wa : TI) (ga : TG) (tta : TT) (wb : TI) (gb : TG) (ttb : TT) (tk tv : TE) (vs vs1 : List Nat) : TE := fun σ H Q => wa σ H fun J H1 => ∀ D, H1 D = none →
  ∃ W : Nat → Nat → Hp → Prop, (∃ m, W 0 m (upd H1 D (.dK []))) ∧ ∀ i m H, W i m H → (J.stop i H ∧ Q (.ref D) H) ∨ (J.go i H ∧ ∃ Nx : Hp → Prop, (∀ H', Nx H' → ∃ m', m' < m ∧ W (i + 1) m' H') ∧
    ∀ x H', J.yld i H x H' → ga x (wipe σ vs) H' fun σ2 H2 => wipe σ2 vs = wipe σ vs ∧ tta σ2 H2 fun yes H3 => if yes = true then wb σ2 H3 (InnD gb ttb tk tv vs1 D σ2 Nx) else Nx H3)
/-- the first clause by a walk that is known -/
theorem dc2_it {J : It} {n : Nat} {G : Hp → Prop} {Y : Nat → Hp → V → Hp → Prop} (w : L2.Walk J n G Y) {ga gb : TG} {tta ttb : TT} {wb : TI} {tk tv : TE} {vs vs1 : List Nat} {σ : L2.St} {H1 : Hp} {D : Addr} {Qd : Hp → Prop} (Pv : Nat → Hp → Prop) (h0 : Pv 0 (upd H1 D (.dK []))) (hG : ∀ i H, i ≤ n → Pv i H → G H)
    (hs : ∀ i x H H', i < n → Pv i H → Y i H x H' → ga x (wipe σ vs) H' fun σ2 H2 => wipe σ2 vs = wipe σ vs ∧ tta σ2 H2 fun yes H3 => if yes = true then wb σ2 H3 (InnD gb ttb tk tv vs1 D σ2 (Pv (i + 1))) else Pv (i + 1) H3) (hd : ∀ H, Pv n H → Qd H) :
    ∃ W : Nat → Nat → Hp → Prop, (∃ m, W 0 m (upd H1 D (.dK []))) ∧ ∀ i m H, W i m H → (J.stop i H ∧ Qd H) ∨ (J.go i H ∧ ∃ Nx : Hp → Prop, (∀ H', Nx H' → ∃ m', m' < m ∧ W (i + 1) m' H') ∧
      ∀ x H', J.yld i H x H' → ga x (wipe σ vs) H' fun σ2 H2 => wipe σ2 vs = wipe σ vs ∧ tta σ2 H2 fun yes H3 => if yes = true then wb σ2 H3 (InnD gb ttb tk tv vs1 D σ2 Nx) else Nx H3) := by
  refine ⟨fun i m H => m + i = n ∧ Pv i H, ⟨n, by simp, h0⟩, fun i m H ⟨e, p⟩ => ?_⟩
  have q := hG i H (by omega) p
  by_cases lt : i < n
  · exact .inr ⟨w.goes i H lt q, Pv (i + 1), fun H' p' => ⟨m - 1, by omega, by omega, p'⟩, fun x H' y => hs i x H H' lt p (w.yields i H x H' lt q y)⟩
  · obtain rfl : i = n := by omega
    exact .inl ⟨w.stops H q, hd H p⟩
/-- the second clause by a walk that is known -/
theorem inn_it {J1 : It} {n : Nat} {G : Hp → Prop} {Y : Nat → Hp → V → Hp → Prop} (w : L2.Walk J1 n G Y) {gb : TG} {ttb : TT} {tk tv : TE} {vs1 : List Nat} {σ2 : L2.St} {H4 : Hp} {D : Addr} {Nx : Hp → Prop} (Pv : Nat → Hp → Prop) (h0 : Pv 0 H4) (hG : ∀ i H, i ≤ n → Pv i H → G H)
    (hs : ∀ j x H H', j < n → Pv j H → Y j H x H' → gb x (wipe σ2 vs1) H' fun σ3 H5 => wipe σ3 vs1 = wipe σ2 vs1 ∧ ttb σ3 H5 fun yes H6 =>
      if yes = true then tk σ3 H6 fun y H7 => tv σ3 H7 fun z H8 => ∃ kvs k, y = kV k ∧ H8 D = some (.dK kvs) ∧ kvs.length < sizeLine ∧ Pv (j + 1) (upd H8 D (.dK (putK kvs k z))) else Pv (j + 1) H6) (hd : ∀ H, Pv n H → Nx H) :
    InnD gb ttb tk tv vs1 D σ2 Nx J1 H4 := by
  refine ⟨fun j k H => k + j = n ∧ Pv j H, ⟨n, by simp, h0⟩, fun j k H ⟨e, p⟩ => ?_⟩
  have q := hG j H (by omega) p
  by_cases lt : j < n
  · exact .inr ⟨w.goes j H lt q, Pv (j + 1), fun H' p' => ⟨k - 1, by omega, by omega, p'⟩, fun x H' y => hs j x H H' lt p (w.yields j H x H' lt q y)⟩
  · obtain rfl : j = n := by omega
    exact .inl ⟨w.stops H q, hd H p⟩
/-- a block of this scope -/
abbrev inBlk (X : Cx) (sc : Scope) (s : Shared) (H : Hp) (C : Addr) (cl : List (Str × Addr)) (fp : List Addr) : Cx := X.blk s H sc (compEnvC sc cl C X.env) fp
theorem pe_dc2 {kx vx ta ia tb ib : Expr} {fa fb : List Expr} {sc : Scope} {own : List (Str × Nat)} {vs1 : List Nat} {pos : Pos} {wa wb : TI} {ga gb : TG} {tta ttb : TT} {tk tv : TE} (hc : X.calm = true) (hN : X.N.Nodup) (hi : PI X ta ia wa) (ok : BlkOk X.N X.env.scope sc own) (hv : ∀ i ∈ vs1, i ∈ own.map (·.2))
    (hga : ∀ s H C cl fp, PG (inBlk X sc s H C cl fp) ta ga) (hta : ∀ s H C cl fp, PTs (inBlk X sc s H C cl fp) fa tta) (hib : ∀ s H C cl fp, PI (inBlk X sc s H C cl fp) tb ib wb) (hgb : ∀ s H C cl fp, PG (inBlk X sc s H C cl fp) tb gb) (htb : ∀ s H C cl fp, PTs (inBlk X sc s H C cl fp) fb ttb)
    (hk : ∀ s H C cl fp, PE (inBlk X sc s H C cl fp) kx tk) (he : ∀ s H C cl fp, PE (inBlk X sc s H C cl fp) vx tv)
    (pa : ∀ x, foldedSetIterable ia X.env x = pure x := by intro _; rfl) (pb : ∀ env x, foldedSetIterable ib env x = pure x := by intro _ _; rfl) :
    PE X (.DictComp kx vx [⟨ta, ia, fa, 0⟩, ⟨tb, ib, fb, 0⟩] sc pos) (tDc2 wa ga tta wb gb ttb tk tv (own.map (·.2)) vs1) := by
  refine ⟨fun pins s σ H Q I h => ?_⟩
  rw [arm_eval_DictComp]
  have clo : ∀ y ∈ sc.names, y.2 = .free → ∃ c, X.env.cells.lookup y.1 = some c := fun y hy e => (ok.free y hy e).elim (fun k => I.ok.has _ (.inl k)) fun k => I.ok.has _ (.inr k)
  refine wpAny_comprehension_free rfl pa (closure_ok clo) ok.kind (fun y hy e => by rw [ok.uniq y hy, e]) (thn (hi.run pins s σ H _ I h) fun _ _ h1 => thn h1 ?_)
  rintro _ s2 ⟨it, fp, tn, J, H2, rfl, I2, T, st2, f2, q⟩
  refine wpAny_newObj_type (newEnv_comp ?_)
  generalize hD : s2.heap.objs.size = D
  have newD : H2 D = none := I2.hok.fresh (Nat.le_of_eq hD)
  obtain ⟨W, ⟨m0, w0⟩, turn⟩ := q D newD
  generalize hs3 : ({ s2 with heap := s2.heap.push { cls := .type "dict", data := .dict #[] } } : Shared) = s3
  have e3 : s3.heap = s2.heap.push { cls := .type "dict", data := .dict #[] } := by rw [← hs3]
  have I3 : L2.Inv X pins σ (upd H2 D (.dK [])) s3 := by
    rw [← hs3]
    exact I2.laid (t' := s2.toks) (fun b o e => Heap.get?_push_of_some _ e) (Nat.le_of_eq hD) (hD ▸ dk_empty s2.heap I2.big)
  have f3 : ∀ b ∈ fp, FpOk X pins (upd H2 D (.dK [])) b ∧ b < s3.heap.objs.size := fun b hb => by
    obtain ⟨o, e, _⟩ := T.obj _ _ st2 b hb
    have small := Heap.lt_size e
    refine ⟨⟨?_, (f2 b hb).2⟩, ?_⟩
    · rw [upd_ne (Nat.ne_of_lt (hD ▸ small))]
      exact (f2 b hb).1
    · rw [e3, Heap.size_push]
      exact Nat.lt_succ_of_lt small
  have st3 : tn 0 s3.heap := T.keep _ _ _ st2 fun b _ o e => by
    rw [e3]
    exact Heap.get?_push_of_some _ e
  have I4 := block_start I3 ok hN f3
  generalize hcl : cellsFrom (s3.heap.objs.size + 1) sc.names (cloFrom X.env.cells sc.names []) = cl at I4
  show codeAny _ _ (.compStart (two kx vx ta ia tb ib fa fb sc pos) 0 (.ref it) (.ref D) (compEnvC sc cl s3.heap.objs.size X.env)) (compPost (model X.prog X.w) X.A X.xe none (EP X pins σ Q) (.ref D) s3.heap.objs.size) { s3 with heap := pushCells (s3.heap.push { cls := .type "dict", data := .dict #[] }) sc.names }
  have none3 : ∀ b ∈ fp, (upd H2 D (.dK [])) b = none := fun b hb => (f3 b hb).1.1
  generalize hH3 : upd H2 D (.dK []) = H3 at I3 I4 w0 none3 f3
  have jga : PG (X.blk s3 H3 sc (compEnvC sc cl s3.heap.objs.size X.env) fp) ta ga := hga s3 H3 s3.heap.objs.size cl fp
  have jta : PTs (X.blk s3 H3 sc (compEnvC sc cl s3.heap.objs.size X.env) fp) fa tta := hta s3 H3 s3.heap.objs.size cl fp
  have jib : PI (X.blk s3 H3 sc (compEnvC sc cl s3.heap.objs.size X.env) fp) tb ib wb := hib s3 H3 s3.heap.objs.size cl fp
  have jgb : PG (X.blk s3 H3 sc (compEnvC sc cl s3.heap.objs.size X.env) fp) tb gb := hgb s3 H3 s3.heap.objs.size cl fp
  have jtb : PTs (X.blk s3 H3 sc (compEnvC sc cl s3.heap.objs.size X.env) fp) fb ttb := htb s3 H3 s3.heap.objs.size cl fp
  have jk : PE (X.blk s3 H3 sc (compEnvC sc cl s3.heap.objs.size X.env) fp) kx tk := hk s3 H3 s3.heap.objs.size cl fp
  have je : PE (X.blk s3 H3 sc (compEnvC sc cl s3.heap.objs.size X.env) fp) vx tv := he s3 H3 s3.heap.objs.size cl fp
  generalize hs4 : ({ s3 with heap := pushCells (s3.heap.push { cls := .type "dict", data := .dict #[] }) sc.names } : Shared) = s4 at I4 ⊢
  have st4 : tn 0 s4.heap := T.keep _ _ _ st3 fun b _ o e => by
    rw [← hs4]
    exact pushCells_keeps _ _ _ _ (Heap.get?_push_of_some _ e)
  generalize hce : compEnvC sc cl s3.heap.objs.size X.env = ce at I4 jga jta jib jgb jtb jk je ⊢
  have cL : ce.locals = s3.heap.objs.size := by
    subst hce
    rfl
  have free0 : ∀ {H' : Hp}, (∀ b ∈ fp, H' b = none) → ∀ b ∈ fp, FpOk (X.blk s3 H3 sc ce fp) [] H' b := fun n b hb =>
    ⟨n b hb, (I4.ok.exf b hb).1, I4.ok.exfs b hb, .inl hb, (I4.ok.exf b hb).2, fun p hp => nomatch (show p ∈ ([] : List (Addr × Obj)) from hp)⟩
  have loop : codeAny (model X.prog X.w) X.A (.compLoop (two kx vx ta ia tb ib fa fb sc pos) 0 (.ref it) (.ref D) ce) (compPost (model X.prog X.w) X.A X.xe none (EP X pins σ Q) (.ref D) s3.heap.objs.size) s4 := by
    refine loopA (pb ce) (fun n s' => ∃ i H', L2.Inv (X.blk s3 H3 sc ce fp) [] (wipe σ (own.map (·.2))) H' s' ∧ tn i s'.heap ∧ (∀ b ∈ fp, H' b = none) ∧ W i n H') ?_ m0 ⟨0, H3, I4, st4, none3, w0⟩
    rintro n s5 ⟨i, H5, I5, st5, n5, w5⟩
    rcases turn i n H5 w5 with ⟨stop, qq⟩ | ⟨go, Nx, hNx, step⟩
    · unfold Turned
      refine thnF (T.done (X.blk s3 H3 sc ce fp) rfl rfl rfl hc i [] s5 _ H5 (fun _ _ => False) I5 (free0 n5) st5 stop) ?_
      rintro _ s6 ⟨rfl, I6⟩
      have I7 : L2.Inv X pins σ H5 s6 := I3.call' (ch := fp) I6.os I6.base I6.hok I6.bare fun b hb => by
        obtain ⟨⟨_, a1, _, a3, a4, a5⟩, _⟩ := f3 b hb
        exact ⟨a3, a1, a4, a5⟩
      have nC : H5 s3.heap.objs.size = none := cL ▸ (show H5 ce.locals = none from I6.free)
      obtain ⟨m, hn, _⟩ := I6.loc
      have hn : s6.heap.Ns s3.heap.objs.size m := cL ▸ (show s6.heap.Ns ce.locals m from hn)
      obtain ⟨g0, g1, _, g3, g4, g5⟩ := I3.fpOk (H' := H5) (Nat.le_refl _) nC
      exact ⟨m, hn, fun h2 sb => ⟨.ref D, H5, I7.turned (t' := s6.toks) (fun b o hb e => (sb.2 b hb).trans e) g0 g1 g3 g4 g5, rfl, qq⟩⟩
    · refine clause (Y := X.blk s3 H3 sc ce fp) rfl hc T jga jta I5 free0 n5 st5 go step ?_
      intro s6 s7 σ7 b H7 st6 w7 I7 q7
      have hl7 : (wipe σ (own.map (·.2))).length = σ7.length := by rw [← w7, wipe_length]
      have fin : ∀ {σ8 : L2.St} {s8 : Shared} {H8 : Hp}, L2.Inv (X.blk s3 H3 sc ce fp) ([] ++ pinsAt fp s6.heap) σ8 H8 s8 → (wipe σ (own.map (·.2))).length = σ8.length → (∀ (j : Nat) v, (wipe σ (own.map (·.2)))[j]? = some (some v) → σ8[j]? = some (some v)) → Nx H8 →
          ∃ m, m < n ∧ ∃ i H', L2.Inv (X.blk s3 H3 sc ce fp) [] (wipe σ (own.map (·.2))) H' s8 ∧ tn i s8.heap ∧ (∀ b ∈ fp, H' b = none) ∧ W i m H' := by
        intro σ8 s8 H8 I8 hl hk nx
        obtain ⟨m', hm, w'⟩ := hNx H8 nx
        obtain ⟨t1, t2⟩ := walk_stays (Y := X.blk s3 H3 sc ce fp) T st6 I8
        exact ⟨m', hm, i + 1, H8, (I8.unpinned (pins := [])).weak hl hk, t1, t2, w'⟩
      cases b with
      | false =>
        rw [if_neg (by decide)] at q7 ⊢
        exact fin I7 hl7 (fun j v e => (wipe_some (w7.symm ▸ e)).1) q7
      | true =>
        rw [if_pos rfl] at q7 ⊢
        refine thnF (jib.run _ s7 σ7 H7 _ I7 q7) fun _ s8 h8 => thnF h8 ?_
        rintro _ s9 ⟨it1, fp1, tn1, J1, H9, rfl, I9, T1, st9, f9, W1, ⟨m1, w1⟩, turn1⟩
        have free1 : ∀ {H' : Hp}, (∀ b ∈ fp1, H' b = none) → ∀ b ∈ fp1, FpOk (X.blk s3 H3 sc ce fp) ([] ++ pinsAt fp s6.heap) H' b := fun n b hb => ⟨n b hb, (f9 b hb).2⟩
        have loop1 : codeAny (model X.prog X.w) X.A (.compLoop (two kx vx ta ia tb ib fa fb sc pos) 1 (.ref it1) (.ref D) ce) (fun r s' => (∃ f, r = .ok f) ∧ ∃ m, m < n ∧ ∃ i H', L2.Inv (X.blk s3 H3 sc ce fp) [] (wipe σ (own.map (·.2))) H' s' ∧ tn i s'.heap ∧ (∀ b ∈ fp, H' b = none) ∧ W i m H') s9 := by
          refine loopB (fun k s' => ∃ j H', L2.Inv (X.blk s3 H3 sc ce fp) ([] ++ pinsAt fp s6.heap) (wipe σ7 vs1) H' s' ∧ tn1 j s'.heap ∧ (∀ b ∈ fp1, H' b = none) ∧ W1 j k H') ?_ m1 ⟨0, H9, I9.weak (wipe_length _ _) (fun j v e => (wipe_some e).1), st9, fun b hb => (f9 b hb).1, w1⟩
          rintro k s10 ⟨j, H10, I10, st10, n10, w10⟩
          rcases turn1 j k H10 w10 with ⟨stop1, nx1⟩ | ⟨go1, Nx1, hNx1, step1⟩
          · unfold Turned
            refine thnF (T1.done (X.blk s3 H3 sc ce fp) rfl rfl rfl hc j _ s10 (wipe σ7 vs1) H10 (fun _ _ => False) I10 (free1 n10) st10 stop1) ?_
            rintro _ s11 ⟨rfl, I11⟩
            refine ⟨⟨_, rfl⟩, fin I11 (hl7.trans (wipe_length σ7 vs1).symm) (fun j v e => ?_) nx1⟩
            obtain ⟨e1, e2⟩ := wipe_some (w7.symm ▸ e)
            rw [wipe_out fun z => e2 (hv j z)]
            exact e1
          · refine clause (Y := X.blk s3 H3 sc ce fp) rfl hc T1 jgb jtb I10 free1 n10 st10 go1 step1 ?_
            intro s11 s12 σ12 b1 H12 st11 w12 I12 q12
            have fin1 : ∀ {s' : Shared} {H' : Hp}, L2.Inv (X.blk s3 H3 sc ce fp) (([] ++ pinsAt fp s6.heap) ++ pinsAt fp1 s11.heap) σ12 H' s' → Nx1 H' → ∃ m, m < k ∧ ∃ j H', L2.Inv (X.blk s3 H3 sc ce fp) ([] ++ pinsAt fp s6.heap) (wipe σ7 vs1) H' s' ∧ tn1 j s'.heap ∧ (∀ b ∈ fp1, H' b = none) ∧ W1 j m H' := by
              intro s' H' I' nx
              obtain ⟨m', hm, w'⟩ := hNx1 H' nx
              obtain ⟨t1, t2⟩ := walk_stays (Y := X.blk s3 H3 sc ce fp) T1 st11 I'
              exact ⟨m', hm, j + 1, H', I'.unpinned.weak (by rw [← w12, wipe_length]) (fun i v e => (wipe_some (w12.symm ▸ e)).1), t1, t2, w'⟩
            cases b1 with
            | false =>
              rw [if_neg (by decide)] at q12 ⊢
              exact fin1 I12 q12
            | true =>
              rw [if_pos rfl] at q12 ⊢
              refine thnF (jk.run _ s12 σ12 H12 _ I12 q12) ?_
              rintro a s13 ⟨ya, H13, I13, ra, q13⟩
              refine thnF (je.run _ s13 σ12 H13 _ I13 q13) ?_
              rintro b s14 ⟨yb, H14, I14, rb, kvs, key, rfl, hD14, small, nx⟩
              exact d_dictSet (X := X.blk s3 H3 sc ce fp) I14 hD14 small ra rb fun s15 I15 => fin1 I15 nx
        exact startB loop1 (T1.self X.A 0 _ _ _ st9 loop1)
  exact codeAny_compStart_dict loop (T.self X.A 0 _ _ _ st4 loop)
end
end Wl

namespace Wl
open PySem PySem.Spec PyProof.Rows L2
/-- the heap keeps all but its lists -/
def Keep (H H' : Hp) : Prop := ∀ p o, (∀ xs, o ≠ .lst xs) → H p = some o → H' p = some o
theorem Keep.refl (H : Hp) : Keep H H := fun _ _ _ h => h
theorem Keep.trans {H H1 H2 : Hp} (a : Keep H H1) (b : Keep H1 H2) : Keep H H2 := fun p o n h => b p o n (a p o n h)
theorem kp_same {H H' : Hp} (s : Same H H') : Keep H H' := fun p o _ h => s p _ h
theorem kp_x {a : Addr} {H H' : Hp} {ys : List V} (s : SameX a H H') (ha : H a = some (.lst ys)) : Keep H H' := fun p o n h => s p _ (fun e => by
  subst e
  rw [ha] at h
  exact n _ (Option.some.inj h).symm) h
theorem kp_upd {a : Addr} {H : Hp} {ys : List V} {o : HO} (ha : H a = some (.lst ys)) : Keep H (upd H a o) := kp_x sameX_upd ha
theorem kp_new {p : Addr} {H : Hp} {o : HO} (hp : H p = none) : Keep H (upd H p o) := kp_same (same_new hp)
theorem Keep.tk {H H' : Hp} (k : Keep H H') : TupKeep H H' := fun p xs h => k p _ (fun ys e => by cases e) h
theorem tk_updD {a : Addr} {H : Hp} {kvs : List (Key × V)} {o : HO} (ha : H a = some (.dK kvs)) : TupKeep H (upd H a o) := fun p xs h => by
  rw [upd_ne (ne_of h ha (by intro z; cases z))]
  exact h
/-- the dict's pairs tell these spots -/
def Ent (H : Hp) (kv : Key × V) (s : Str × Nat × Nat) : Prop := kv.1 = Sum.inr s.1 ∧ ∃ t, kv.2 = .ref t ∧ H t = some (.tup [.int s.2.1, .int s.2.2])
def SpotsAt (H : Hp) (d : Addr) (sp : List (Str × Nat × Nat)) : Prop := ∃ kvs, H d = some (.dK kvs) ∧ Each (Ent H) kvs sp
theorem ent_keep {H H' : Hp} (k : TupKeep H H') {kvs : List (Key × V)} {sp : List (Str × Nat × Nat)} (h : Each (Ent H) kvs sp) : Each (Ent H') kvs sp :=
  Each.mono (fun _ _ ⟨e, t, e2, ht⟩ => ⟨e, t, e2, k _ _ ht⟩) h
theorem SpotsAt.keep {H H' : Hp} {d : Addr} {sp : List (Str × Nat × Nat)} (h : SpotsAt H d sp) (k : Keep H H') : SpotsAt H' d sp := by
  obtain ⟨kvs, h1, h2⟩ := h
  exact ⟨kvs, k _ _ (fun ys e => by cases e) h1, ent_keep k.tk h2⟩
theorem ent_none {H : Hp} {z : Str} : ∀ {kvs : List (Key × V)} {sp : List (Str × Nat × Nat)}, Each (Ent H) kvs sp → z ∉ sp.map (·.1) → valV kvs (Sum.inr z : Key) = none
  | _, _, .nil, _ => rfl
  | _, _, .cons (a := kv) (b := s) r t, h => by
    rw [List.map_cons, List.mem_cons, not_or] at h
    rw [valV_neg (fun e => h.1 (Sum.inr.inj (e.symm.trans r.1)))]
    exact ent_none t h.2
theorem ent_some {H : Hp} {z : Str} {r c : Nat} : ∀ {kvs : List (Key × V)} {sp : List (Str × Nat × Nat)}, Each (Ent H) kvs sp → (sp.map (·.1)).Nodup → (z, r, c) ∈ sp → ∃ t, valV kvs (Sum.inr z : Key) = some (.ref t) ∧ H t = some (.tup [.int r, .int c])
  | _, _, .nil, _, h => by cases h
  | _, _, .cons (a := kv) (b := s) e t, nd, h => by
    obtain ⟨n1, n2⟩ := List.nodup_cons.mp nd
    rcases List.mem_cons.mp h with h | h
    · subst h
      obtain ⟨e1, u, e2, hu⟩ := e
      exact ⟨u, by rw [valV_pos e1, e2], hu⟩
    · have ne : ¬ s.1 = z := fun q => n1 (List.mem_map.mpr ⟨_, h, q.symm⟩)
      obtain ⟨u, e2, hu⟩ := ent_some t n2 h
      exact ⟨u, by rw [valV_neg (fun q => ne (Sum.inr.inj (e.1.symm.trans q)))]; exact e2, hu⟩
theorem ent_keys {H : Hp} : ∀ {kvs : List (Key × V)} {sp : List (Str × Nat × Nat)}, Each (Ent H) kvs sp → kvs.map (fun kv => kV kv.1) = (sp.map (·.1)).map V.str
  | _, _, .nil => rfl
  | _, _, .cons e t => by
    rw [List.map_cons, List.map_cons, List.map_cons, ent_keys t, e.1]
    rfl
section
variable {P : Program} {w : World} {K : PySem.W.Frag} {mg : Str → Option Value} {base : Heap} {f : Addr} {fd : FuncData}
/-! ### wrong_spot of a good grid -/
def spWrong : Sp := fun vs H Q _ => ∃ (L : Addr) (g : Grid) (wd : Nat), vs = [.ref L] ∧ GridAt H L g ∧ Good g wd ∧ ∀ (H' : Hp), Same H H' → Q .non H'
abbrev nWrong : List Str := ["rows", "names", "at", "row", "column", "part"]
theorem scWrong : FnScope nWrong ["rows"] (defScope sWrong) := ⟨rfl, rfl, rfl, by decide +kernel, rfl, by decide +kernel, by decide +kernel⟩
theorem take_snoc {α : Type} {l : List α} {i : Nat} {x : α} (h : l[i]? = some x) : l.take (i + 1) = l.take i ++ [x] := by
  rw [List.take_add_one, h]
  rfl
theorem len_take {α : Type} {l : List α} {i : Nat} {x : α} (h : l[i]? = some x) : (l.take i).length = i := by
  have := (List.getElem?_eq_some_iff.mp h).1
  rw [List.length_take]
  omega
/-- a name isn't among those ahead of it -/
theorem ahead_new {g : Grid} {wd : Nat} (gd : Good g wd) {i j : Nat} {row : Row} {z : Str} (hrow : g[i]? = some row) (ho : row[j]? = some (some z)) : z ∉ (spG 0 (g.take i) ++ spR i 0 (row.take j)).map (·.1) := by
  have hcz : cellAt g i j = some z := cellAt_of hrow ho
  intro hm
  obtain ⟨⟨y, r', c'⟩, hm2, rfl⟩ := List.mem_map.mp hm
  have hlt : (r', c') = (i, j) := by
    have hc2 : cellAt g r' c' = some y := by
      rcases List.mem_append.mp hm2 with h | h
      · obtain ⟨k, row2, e, h1, h2⟩ := (spG_mem _ 0).mp h
        have : r' = k := by omega
        subst this
        rw [List.getElem?_take] at h1
        split at h1
        · exact cellAt_of h1 h2
        · cases h1
      · obtain ⟨e, k, e2, h1⟩ := (spR_mem i _ 0).mp h
        have : c' = k := by omega
        subst this e
        rw [List.getElem?_take] at h1
        split at h1
        · exact cellAt_of hrow h1
        · cases h1
    obtain ⟨h1, h2⟩ := cell_inj gd.nd hc2 hcz
    rw [h1, h2]
  cases hlt
  rcases List.mem_append.mp hm2 with h | h
  · obtain ⟨k, row2, e, h1, h2⟩ := (spG_mem _ 0).mp h
    rw [List.getElem?_take] at h1
    split at h1
    · omega
    · cases h1
  · obtain ⟨e, k, e2, h1⟩ := (spR_mem i _ 0).mp h
    rw [List.getElem?_take] at h1
    split at h1
    · omega
    · cases h1
theorem ahead_len {g : Grid} {wd : Nat} (gd : Good g wd) {i j : Nat} {row : Row} (hrow : g[i]? = some row) : ((spG 0 (g.take i) ++ spR i 0 (row.take j)).map (·.1)).length ≤ 42 := by
  rw [List.map_append, spG_fst, spR_fst, List.length_append]
  have a1 := len_names (g := g.take i) (wd := wd) fun r hr => gd.rows r (List.mem_of_mem_take hr)
  have a2 : (g.take i).length ≤ 6 := by rw [List.length_take]; have := gd.h6; omega
  have a3 : (g.take i).length * wd ≤ 6 * 6 := Nat.mul_le_mul a2 gd.w6
  have a4 : (rnames (row.take j)).length ≤ (row.take j).length := List.length_filterMap_le id _
  have a5 : (row.take j).length ≤ row.length := List.length_take_le' _ _
  have a6 := gd.rows row (List.mem_of_getElem? hrow)
  have a7 := gd.w6
  omega
theorem ahead_snoc {g : Grid} {i j : Nat} {row : Row} {o : Option Str} (ho : row[j]? = some o) : spG 0 (g.take i) ++ spR i 0 (row.take (j + 1)) = spG 0 (g.take i) ++ spR i 0 (row.take j) ++ (o.toList.map fun z => (z, i, j)) := by
  rw [take_snoc ho, spR_snoc, len_take ho, Nat.zero_add, List.append_assoc]
theorem ok_wrong (F : Fun K "wrong_spot" "wrong_spot" sWrong f fd) (B : Bi mg) (hI : Has P w K mg base "is_word" 1 ["thing"] spIsWord) : FnOk P w K mg base CX0 2 f fd ["rows"] spWrong := by
  refine F.ok scWrong (fun vs H Q E h => ?_) (fun cdv A outer s H vs Q E hr h => ?_)
  · obtain ⟨L, g, wd, rfl, _⟩ := h
    rfl
  · obtain ⟨L, g, wd, rfl, hG, gd, q⟩ := h
    refine ⟨_, pss_cons (ps_set (i := 1) scWrong.nd rfl (.inl rfl) (pe_lst pa_nil))
      (pss_cons (ps_for PassesOwn.never rfl (pi_enumT (by rfl) B.enum (pa_cons (pv 0) pa_nil)) (pg_tup rfl (pgs_cons (pg_name (i := 2) scWrong.nd rfl (.inl rfl)) (pgs_cons (pg_name (i := 3) scWrong.nd rfl (.inl rfl)) pgs_nil)))
        (pss_one (ps_for PassesOwn.never rfl (pi_enumT (by rfl) B.enum (pa_cons (pv 3) pa_nil)) (pg_tup rfl (pgs_cons (pg_name (i := 4) scWrong.nd rfl (.inl rfl)) (pgs_cons (pg_name (i := 5) scWrong.nd rfl (.inl rfl)) pgs_nil)))
          (pss_cons (ps_if (pt_cmp (pc_isN (pv 5))) (pss_one ps_continue) pss_nil)
          (pss_cons (ps_if (PW.pt (pw_or (pt_not (pt_val (pe_h hI hr (pa_cons (pv 5) pa_nil)))) (pw_or1 (pt_cmpR op_in_seq (pv 5) (pv 1) (by rfl))))) (pss_one ps_never) pss_nil)
          (pss_one (ps_expr (pe_bm PySem.F.plainAttrs_list PySem.F.slot_list_append PySem.F.type_list_append mt_append (pv 1) (pa_cons (pv 5) pa_nil)))))))))
      (pss_one (ps_ret pe_non))), ?_⟩
    refine ⟨lz, fun d hd => ?_⟩
    obtain ⟨as, hL, hR⟩ := id hG
    have s0 : Same H (upd H d (.lst [])) := same_new hd
    refine ⟨_, rfl, L, _, rfl, .inl (.inl (s0 _ _ hL)), for_it (walk_enumT (K := K) (a := L) (xs := as.map V.ref)) (fun i σ H' => (∃ y2 y3 y4 y5, σ = [some (.ref L), some (.ref d), y2, y3, y4, y5]) ∧ Same H H' ∧ H' d = some (.lst (((spG 0 (g.take i)).map (·.1)).map V.str)))
      ⟨⟨_, _, _, _, rfl⟩, s0, upd_same⟩ (fun i σ H' _ h => .inl (.inl (h.2.1 _ _ hL))) ?_ ?_⟩
    · rintro i x σ H1 H2 hi ⟨⟨y2, y3, y4, y5, rfl⟩, s1, hd1⟩ ⟨T, x1, x2, rfl, hT, rfl, ex1, ex2⟩
      cases ex1
      have ex2 : (as.map V.ref)[i]? = some x2 := ex2
      rw [List.getElem?_map] at ex2
      obtain ⟨p, hp, rfl⟩ := Option.map_eq_some_iff.mp ex2
      obtain ⟨row, hrow, hH⟩ := hR.get hp
      have s2 : Same H1 (upd H1 T (.tup [.int i, .ref p])) := same_new hT
      have hp2 := s2 _ _ (s1 _ _ hH)
      refine ⟨T, _, rfl, .inl (.inl upd_same), rfl, _, _, rfl, _, _, rfl, rfl, ?_⟩
      refine ⟨_, rfl, p, _, rfl, .inl (.inl hp2), for_it (walk_enumT (K := K) (a := p) (xs := row.map oV)) (fun j σ H' => (∃ y4 y5, σ = [some (.ref L), some (.ref d), some (.int i), some (.ref p), y4, y5]) ∧ Same H H' ∧ H' d = some (.lst (((spG 0 (g.take i) ++ spR i 0 (row.take j)).map (·.1)).map V.str)))
        ⟨⟨_, _, rfl⟩, s1.trans s2, by simpa [spR] using s2 _ _ hd1⟩ (fun j σ H' _ h => .inl (.inl (h.2.1 _ _ hH))) ?_ ?_⟩
      · rintro j x σ H3 H4 hj ⟨⟨z4, z5, rfl⟩, s3, hd3⟩ ⟨T2, x1, x2, rfl, hT2, rfl, ex1, ex2⟩
        cases ex1
        have ex2 : (row.map oV)[j]? = some x2 := ex2
        rw [List.getElem?_map] at ex2
        obtain ⟨o, ho, rfl⟩ := Option.map_eq_some_iff.mp ex2
        have s4 : Same H3 (upd H3 T2 (.tup [.int j, oV o])) := same_new hT2
        refine ⟨T2, _, rfl, .inl (.inl upd_same), rfl, _, _, rfl, _, _, rfl, rfl, ?_⟩
        cases o with
        | none =>
          refine ⟨_, rfl, _, rfl, iteT ?_⟩
          refine ⟨⟨_, _, rfl⟩, s3.trans s4, ?_⟩
          rw [ahead_snoc ho]
          simpa using s4 _ _ hd3
        | some z =>
          have hzw : IsWd z := gd.wd z (mem_names.mpr ⟨i, j, cellAt_of hrow ho⟩)
          refine ⟨_, rfl, _, rfl, iteF ?_⟩
          refine ⟨_, rfl, z, rfl, by have := hzw.len; omega, fun H5 s5 => ⟨_, rfl, ?_⟩⟩
          rw [show wdB z = true from hzw]
          have hd5 := s5 _ _ (s4 _ _ hd3)
          have hin : inV (.str z) (((spG 0 (g.take i) ++ spR i 0 (row.take j)).map (·.1)).map V.str) = false := by
            rw [inV_strs]
            exact decide_eq_false (ahead_new gd hrow ho)
          refine iteF ⟨_, rfl, _, rfl, d, _, rfl, .inl (.inl (.inl hd5)), rfl, flat_strs _, false, ?_, ?_⟩
          · exact congrArg V.bl hin
          refine iteF ⟨_, rfl, .inl ⟨rfl, _, .inl (.inl hd5)⟩, _, rfl, d, _, _, rfl, rfl, hd5, ?_, ?_⟩
          · rw [List.length_map]
            exact small1000 (by have := ahead_len gd hrow (j := j); omega)
          · refine ⟨⟨_, _, rfl⟩, same_mut ((s3.trans s4).trans s5) hd, ?_⟩
            rw [upd_same, ahead_snoc ho]
            simp [oV]
      · rintro σ H3 ⟨⟨z4, z5, rfl⟩, s3, hd3⟩
        refine ⟨⟨_, _, _, _, rfl⟩, s3, ?_⟩
        rw [List.length_map, List.take_length] at hd3
        rw [take_snoc hrow, spG_snoc, len_take hrow, Nat.zero_add]
        exact hd3
    · rintro σ H3 ⟨⟨y2, y3, y4, y5, rfl⟩, s3, hd3⟩
      exact q H3 s3
/-! ### spots_in of a good grid -/
def spSpotsIn : Sp := fun vs H Q _ => ∃ (L : Addr) (g : Grid) (wd : Nat), vs = [.ref L] ∧ GridAt H L g ∧ Good g wd ∧
  ∀ (d : Addr) (H' : Hp), H d = none → Same H H' → SpotsAt H' d (spG 0 g) → Q (.ref d) H'
abbrev nSpotsIn : List Str := ["rows", "at", "row", "column", "part"]
theorem scSpotsIn : FnScope nSpotsIn ["rows"] (defScope sSpotsIn) := ⟨rfl, rfl, rfl, by decide +kernel, rfl, by decide +kernel, by decide +kernel⟩
theorem ok_spotsin (F : Fun K "spots_in" "spots_in" sSpotsIn f fd) (B : Bi mg) : FnOk P w K mg base CX0 1 f fd ["rows"] spSpotsIn := by
  refine F.ok scSpotsIn (fun vs H Q E h => ?_) (fun cdv A outer s H vs Q E hr h => ?_)
  · obtain ⟨L, g, wd, rfl, _⟩ := h
    rfl
  · obtain ⟨L, g, wd, rfl, hG, gd, q⟩ := h
    refine ⟨_, pss_one (ps_ret (pe_dc2 (own := [("at", 1), ("row", 2), ("column", 3), ("part", 4)]) (vs1 := [3, 4]) (ga := gTup K 2 (gCons (gName 1) (gCons (gName 2) gNil))) (tta := tYes) (wb := iEnumT K (tCons (tVar 2) tNil)) (gb := gTup K 2 (gCons (gName 3) (gCons (gName 4) gNil))) (ttb := tB (tNotN (tVar 4))) (tk := tVar 4) (tv := tTup (tCons (tVar 1) (tCons (tVar 3) tNil))) rfl scSpotsIn.nd (pi_enumT (by rfl) B.enum (pa_cons (pv 0) pa_nil)) (blkOk_by (N := nSpotsIn) (sc := defScope sSpotsIn) (by decide +kernel)) (by decide)
      (fun _ _ _ _ _ => pg_tup rfl (pgs_cons (pg_name (i := 1) scSpotsIn.nd rfl (.inl rfl)) (pgs_cons (pg_name (i := 2) scSpotsIn.nd rfl (.inl rfl)) pgs_nil))) (fun _ _ _ _ _ => pts_nil)
      (fun _ _ _ _ _ => pi_enumT (by rfl) B.enum (pa_cons (pv 2) pa_nil)) (fun _ _ _ _ _ => pg_tup rfl (pgs_cons (pg_name (i := 3) scSpotsIn.nd rfl (.inl rfl)) (pgs_cons (pg_name (i := 4) scSpotsIn.nd rfl (.inl rfl)) pgs_nil)))
      (fun _ _ _ _ _ => pts_one (pt_cmp (pc_notN (pv 4)))) (fun _ _ _ _ _ => pv 4) (fun _ _ _ _ _ => pe_tup (pa_cons (pv 1) (pa_cons (pv 3) pa_nil))))), ?_⟩
    obtain ⟨as, hL, hR⟩ := id hG
    refine ⟨_, rfl, L, _, rfl, .inl (.inl hL), fun d hd => dc2_it (walk_enumT (K := K) (a := L) (xs := as.map V.ref)) (fun i H' => Same H H' ∧ SpotsAt H' d (spG 0 (g.take i))) ⟨same_new hd, [], upd_same, .nil⟩ (fun i H' _ h => .inl (.inl (h.1 _ _ hL))) ?_ ?_⟩
    · rintro i x H1 H2 hi ⟨s1, kvs1, hd1, e1⟩ ⟨T, x1, x2, rfl, hT, rfl, ex1, ex2⟩
      cases ex1
      have ex2 : (as.map V.ref)[i]? = some x2 := ex2
      rw [List.getElem?_map] at ex2
      obtain ⟨p, hp, rfl⟩ := Option.map_eq_some_iff.mp ex2
      obtain ⟨row, hrow, hH⟩ := hR.get hp
      have s2 : Same H1 (upd H1 T (.tup [.int i, .ref p])) := same_new hT
      have hp2 := s2 _ _ (s1 _ _ hH)
      refine ⟨T, _, rfl, .inl (.inl upd_same), rfl, _, _, rfl, _, _, rfl, rfl, rfl, yes_it ?_⟩
      refine ⟨_, rfl, p, _, rfl, .inl (.inl hp2), inn_it (walk_enumT (K := K) (a := p) (xs := row.map oV)) (fun j H' => Same H H' ∧ SpotsAt H' d (spG 0 (g.take i) ++ spR i 0 (row.take j)))
        ⟨s1.trans s2, kvs1, s2 _ _ hd1, by simpa [spR] using ent_keep (tk_same s2) e1⟩ (fun j H' _ h => .inl (.inl (h.1 _ _ hH))) ?_ ?_⟩
      · rintro j x H3 H4 hj ⟨s3, kvs3, hd3, e3⟩ ⟨T2, x1, x2, rfl, hT2, rfl, ex1, ex2⟩
        cases ex1
        have ex2 : (row.map oV)[j]? = some x2 := ex2
        rw [List.getElem?_map] at ex2
        obtain ⟨o, ho, rfl⟩ := Option.map_eq_some_iff.mp ex2
        have s4 : Same H3 (upd H3 T2 (.tup [.int j, oV o])) := same_new hT2
        refine ⟨T2, _, rfl, .inl (.inl upd_same), rfl, _, _, rfl, _, _, rfl, rfl, rfl, ?_⟩
        cases o with
        | none =>
          refine ⟨_, rfl, _, rfl, iteF ?_⟩
          refine ⟨s3.trans s4, kvs3, s4 _ _ hd3, ?_⟩
          rw [ahead_snoc ho]
          simpa using ent_keep (tk_same s4) e3
        | some z =>
          refine ⟨_, rfl, _, rfl, iteT ?_⟩
          have hd5 := s4 _ _ hd3
          have e5 := ent_keep (tk_same s4) e3
          have hv : valV kvs3 (Sum.inr z : Key) = none := ent_none e5 (ahead_new gd hrow ho)
          refine ⟨_, rfl, _, rfl, _, rfl, lz, fun T6 hT6 => ?_⟩
          have hd6 := (same_new (o := .tup [.int i, .int j]) hT6) _ _ hd5
          refine ⟨kvs3, Sum.inr z, rfl, hd6, ?_, same_mut ((s3.trans s4).trans (same_new hT6)) hd, kvs3 ++ [(Sum.inr z, .ref T6)], ?_, ?_⟩
          · have h1 := e5.length
            have h2 := ahead_len gd hrow (j := j)
            rw [List.length_map] at h2
            exact small1000 (by omega)
          · rw [putK_new _ hv, upd_same]
          · rw [ahead_snoc ho]
            refine Each.append (ent_keep (tk_updD hd6) (ent_keep (tk_new hT6) e5)) (.cons ⟨rfl, T6, rfl, ?_⟩ .nil)
            exact (tk_updD hd6) _ _ upd_same
      · rintro H3 ⟨s3, kvs3, hd3, e3⟩
        refine ⟨s3, kvs3, hd3, ?_⟩
        rw [List.length_map, List.take_length] at e3
        rw [take_snoc hrow, spG_snoc, len_take hrow, Nat.zero_add]
        exact e3
    · rintro H3 ⟨s3, kvs3, hd3, e3⟩
      have hlen : (as.map V.ref).length = g.length := by rw [List.length_map, hR.length]
      rw [hlen, List.take_length] at e3
      exact q d H3 hd s3 ⟨kvs3, hd3, e3⟩
/-! ### checked_spots of a good grid -/
def spSpots : Sp := fun vs H Q _ => ∃ (L : Addr) (g : Grid) (wd : Nat), vs = [.ref L] ∧ GridAt H L g ∧ Good g wd ∧
  ∀ (d : Addr) (H' : Hp), H d = none → Same H H' → SpotsAt H' d (spG 0 g) → Q (.ref d) H'
abbrev nSpots : List Str := ["rows", "wrong", "spots"]
theorem scSpots : FnScope nSpots ["rows"] (defScope sSpots) := ⟨rfl, rfl, rfl, by decide +kernel, rfl, by decide +kernel, by decide +kernel⟩
theorem ok_spots (F : Fun K "checked_spots" "checked_spots" sSpots f fd) (hA : Has P w K mg base "are_rows" 1 ["thing"] spAreRows) (hW : Has P w K mg base "wrong_spot" 2 ["rows"] spWrong) (hS : Has P w K mg base "spots_in" 1 ["rows"] spSpotsIn) :
    FnOk P w K mg base CX0 3 f fd ["rows"] spSpots := by
  refine F.ok scSpots (fun vs H Q E h => ?_) (fun cdv A outer s H vs Q E hr h => ?_)
  · obtain ⟨L, g, wd, rfl, _⟩ := h
    rfl
  · obtain ⟨L, g, wd, rfl, hG, gd, q⟩ := h
    refine ⟨_, pss_cons (ps_if (pt_not (pt_val (pe_h hA hr (pa_cons (pv 0) pa_nil)))) (pss_one ps_never) pss_nil)
      (pss_cons (ps_set (i := 1) scSpots.nd rfl (.inl rfl) (pe_h hW hr (pa_cons (pv 0) pa_nil)))
      (pss_cons (ps_if (pt_cmp (pc_notN (pv 1))) (pss_one ps_never) pss_nil)
      (pss_cons (ps_set (i := 2) scSpots.nd rfl (.inl rfl) (pe_h hS hr (pa_cons (pv 0) pa_nil)))
      (pss_cons (ps_if (pt_not (pt_truth (pv 2) (by intro _; rfl))) (pss_one ps_never) pss_nil)
      (pss_one (ps_ret (pv 2))))))), ?_⟩
    refine ⟨_, rfl, L, g, wd, rfl, hG, gd, true, rfl, iteF ?_⟩
    refine ⟨_, rfl, L, g, wd, rfl, hG, gd, fun H1 s1 => ⟨_, rfl, _, rfl, iteF ?_⟩⟩
    have hG1 : GridAt H1 L g := hG.keep (tk_same s1)
    refine ⟨_, rfl, L, g, wd, rfl, hG1, gd, fun d H2 hd s2 ⟨kvs, hk, he⟩ => ?_⟩
    have hne : kvs.isEmpty = false := by
      cases kvs with
      | nil =>
        have h1 := he.length
        have h2 : ((spG 0 g).map (·.1)).length = (names g).length := by rw [spG_fst]
        rw [List.length_map] at h2
        have h3 : names g = [] := List.eq_nil_of_length_eq_zero (by rw [← h2, ← h1]; rfl)
        exact absurd h3 gd.ne
      | cons a r => rfl
    refine ⟨_, rfl, _, .inr (.inr ⟨kvs, hk, rfl⟩), ?_⟩
    rw [hne]
    refine iteF ⟨_, rfl, q d H2 (s1.free hd) (s1.trans s2) ⟨kvs, hk, he⟩⟩
end
end Wl




namespace Wl
open PySem PySem.Spec PyProof.Rows L2
section
variable {J : It} {ys : List V} {G : Hp → Prop} {slot slot1 : Nat} {wi1 : TI} {tt1 : TT} {te : TE} {vs vs1 : List Nat} {σ : L2.St} {H1 : Hp} {D : Addr} {Qd : Hp → Prop}
theorem flat_take_snoc {α β : Type} {f : α → List β} {ys : List α} {i : Nat} {x : α} (h : ys[i]? = some x) : (ys.take (i + 1)).flatMap f = (ys.take i).flatMap f ++ f x := by
  rw [List.take_add_one, h, List.flatMap_append]
  simp
/-- [e for x in ys for y in inn x if t]: the heap only growing -/
theorem lc2_rel (w : L2.Walk J ys.length G (YAt ys)) (hD : H1 D = none) (inn : V → List V) (keep : V → V → Bool) (R : V → V → V → Hp → Prop) (N : Nat)
    (hG : ∀ H, Same H1 H → G H)
    (hw : ∀ x, wipe ((wipe σ vs).set slot (some x)) vs = wipe σ vs)
    (hw1 : ∀ x y, wipe ((wipe ((wipe σ vs).set slot (some x)) vs1).set slot1 (some y)) vs1 = wipe ((wipe σ vs).set slot (some x)) vs1)
    (hi : ∀ (x : V) (H : Hp) (acc : List V), x ∈ ys → Same H1 H → H D = some (.lst acc) → ∀ Rr : It → Hp → Prop,
      (∀ J1 H4 G1, Same H H4 → L2.Walk J1 (inn x).length G1 (YAt (inn x)) → (∀ H', SameX D H4 H' → G1 H') → Rr J1 H4) → wi1 ((wipe σ vs).set slot (some x)) H Rr)
    (ht : ∀ (x y : V) (H : Hp), x ∈ ys → y ∈ inn x → Same H1 H → ∀ Q : Bool → Hp → Prop, Q (keep x y) H → tt1 ((wipe ((wipe σ vs).set slot (some x)) vs1).set slot1 (some y)) H Q)
    (he : ∀ (x y : V) (H : Hp), x ∈ ys → y ∈ inn x → keep x y = true → Same H1 H → ∀ Q : VK, (∀ z H', Same H H' → R x y z H' → Q z H') → te ((wipe ((wipe σ vs).set slot (some x)) vs1).set slot1 (some y)) H Q)
    (hR : ∀ x y z H H' acc, H D = some (.lst acc) → SameX D H H' → R x y z H → R x y z H')
    (hl : ∀ x ∈ ys, (inn x).length ≤ N) (hn : ys.length * N < sizeLine)
    (hd : ∀ zs H, Same H1 H → H D = some (.lst zs) → Each (fun (xy : V × V) z => R xy.1 xy.2 z H) (ys.flatMap fun x => ((inn x).filter (keep x)).map fun y => (x, y)) zs → Qd H) :
    ∃ W : Nat → Nat → Hp → Prop, (∃ m, W 0 m (upd H1 D (.lst []))) ∧ ∀ i m H, W i m H →
      (J.stop i H ∧ Qd H) ∨ (J.go i H ∧ ∃ Nx : Hp → Prop, (∀ H', Nx H' → ∃ m', m' < m ∧ W (i + 1) m' H') ∧ ∀ x H', J.yld i H x H' → gName slot x (wipe σ vs) H' fun σ2 H2 => wipe σ2 vs = wipe σ vs ∧ tYes σ2 H2 fun b H3 =>
        if b = true then wi1 σ2 H3 fun J1 H4 => ∃ W1 : Nat → Nat → Hp → Prop, (∃ m, W1 0 m H4) ∧ ∀ j k H, W1 j k H →
          (J1.stop j H ∧ Nx H) ∨ (J1.go j H ∧ ∃ Nx1 : Hp → Prop, (∀ H', Nx1 H' → ∃ k', k' < k ∧ W1 (j + 1) k' H') ∧ ∀ x H', J1.yld j H x H' → gName slot1 x (wipe σ2 vs1) H' fun σ3 H5 => wipe σ3 vs1 = wipe σ2 vs1 ∧ tt1 σ3 H5 fun b H6 =>
            if b = true then te σ3 H6 fun y H7 => ∃ acc, H7 D = some (.lst acc) ∧ acc.length < sizeLine ∧ Nx1 (upd H7 D (.lst (acc ++ [y]))) else Nx1 H6)
        else Nx H3) := by
  have cnt : ∀ (l : List V), (∀ x ∈ l, (inn x).length ≤ N) → (l.flatMap fun x => ((inn x).filter (keep x)).map fun y => (x, y)).length ≤ l.length * N := by
    intro l
    induction l with
    | nil => intro _; simp
    | cons x r ih =>
      intro h
      rw [List.flatMap_cons, List.length_append, List.length_map, List.length_cons, Nat.succ_mul]
      have h1 : ((inn x).filter (keep x)).length ≤ (inn x).length := List.length_filter_le _ _
      have h2 := h x List.mem_cons_self
      have h3 := ih fun y hy => h y (List.mem_cons_of_mem _ hy)
      omega
  refine ⟨fun i m H => m = ys.length - i ∧ i ≤ ys.length ∧ ∃ zs, Same H1 H ∧ H D = some (.lst zs) ∧ Each (fun (xy : V × V) z => R xy.1 xy.2 z H) ((ys.take i).flatMap fun x => ((inn x).filter (keep x)).map fun y => (x, y)) zs,
    ⟨ys.length, by simp, Nat.zero_le _, [], same_new hD, upd_same, by simpa using Each.nil⟩, ?_⟩
  rintro i m H ⟨rfl, hi0, zs, s, hz, ez⟩
  by_cases hlt : i < ys.length
  · refine .inr ⟨w.goes i H hlt (hG H s), fun H' => ∃ zs, Same H1 H' ∧ H' D = some (.lst zs) ∧ Each (fun (xy : V × V) z => R xy.1 xy.2 z H') ((ys.take (i + 1)).flatMap fun x => ((inn x).filter (keep x)).map fun y => (x, y)) zs,
      fun H' h => ⟨ys.length - (i + 1), by omega, rfl, hlt, h⟩, fun x H' y => ?_⟩
    obtain ⟨rfl, hx⟩ := w.yields i H x H' hlt (hG H s) y
    have hm : x ∈ ys := List.mem_of_getElem? hx
    have hf := flat_take_snoc (f := fun x => ((inn x).filter (keep x)).map fun y => (x, y)) hx
    refine ⟨hw x, yes_it ?_⟩
    refine hi x _ zs hm s hz _ fun J1 H4 G1 s4 w1 hG1 => ?_
    have hz4 := s4 _ _ hz
    refine ⟨fun j k H => k = (inn x).length - j ∧ j ≤ (inn x).length ∧ ∃ ws, Same H1 H ∧ SameX D H4 H ∧ H D = some (.lst ws) ∧ Each (fun (xy : V × V) z => R xy.1 xy.2 z H) (((ys.take i).flatMap fun x => ((inn x).filter (keep x)).map fun y => (x, y)) ++ (((inn x).take j).filter (keep x)).map fun y => (x, y)) ws,
      ⟨(inn x).length, by simp, Nat.zero_le _, zs, s.trans s4, SameX.refl _ _, hz4, ?_⟩, ?_⟩
    · simpa using ez.mono fun a b r => hR _ _ _ _ _ _ hz (sx s4) r
    · rintro j k H5 ⟨rfl, hj0, ws, s5, x5, hz5, ez5⟩
      by_cases hjt : j < (inn x).length
      · refine .inr ⟨w1.goes j H5 hjt (hG1 H5 x5), fun H' => ∃ ws, Same H1 H' ∧ SameX D H4 H' ∧ H' D = some (.lst ws) ∧ Each (fun (xy : V × V) z => R xy.1 xy.2 z H') (((ys.take i).flatMap fun x => ((inn x).filter (keep x)).map fun y => (x, y)) ++ (((inn x).take (j + 1)).filter (keep x)).map fun y => (x, y)) ws,
          fun H' h => ⟨(inn x).length - (j + 1), by omega, rfl, hjt, h⟩, fun y H' yy => ?_⟩
        obtain ⟨rfl, hy⟩ := w1.yields j H5 y H' hjt (hG1 H5 x5) yy
        have hym : y ∈ inn x := List.mem_of_getElem? hy
        have hf2 := filter_take_snoc (p := keep x) hy
        refine ⟨hw1 x y, ht x y _ hm hym s5 _ ?_⟩
        refine ite_b (fun e => ?_) (fun e => ?_)
        · refine he x y _ hm hym e s5 _ fun z H6 s6 r6 => ⟨ws, s6 _ _ hz5, ?_, ws ++ [z], same_mut (s5.trans s6) hD, ?_, upd_same, ?_⟩
          · have h1 := ez5.length
            have h2 := cnt (ys.take i) fun x hx => hl x (List.mem_of_mem_take hx)
            have h3 : (((inn x).take j).filter (keep x)).length ≤ N := by
              have a1 : (((inn x).take j).filter (keep x)).length ≤ ((inn x).take j).length := List.length_filter_le _ _
              have a2 : ((inn x).take j).length ≤ (inn x).length := List.length_take_le' _ _
              have a3 := hl x hm
              omega
            rw [List.length_append, List.length_map] at h1
            have h4 : (ys.take i).length * N + N ≤ ys.length * N := by
              rw [← Nat.succ_mul]
              refine Nat.mul_le_mul_right N ?_
              rw [List.length_take]
              omega
            omega
          · exact (x5.trans (sx s6)).trans sameX_upd
          · rw [hf2, if_pos e, List.map_append, ← List.append_assoc]
            refine Each.append (ez5.mono fun a b r => ?_) (.cons ?_ .nil)
            · exact hR _ _ _ _ _ _ hz5 (fun b o n h => by rw [upd_ne n]; exact s6 _ _ h) r
            · exact hR _ _ _ _ _ _ (s6 _ _ hz5) sameX_upd r6
        · refine ⟨ws, s5, x5, hz5, ?_⟩
          rw [hf2, if_neg (by rw [e]; decide), List.append_nil]
          exact ez5
      · have e : j = (inn x).length := by omega
        subst e
        refine .inl ⟨w1.stops H5 (hG1 H5 x5), ws, s5, hz5, ?_⟩
        rw [List.take_length] at ez5
        rw [hf]
        exact ez5
  · have e : i = ys.length := by omega
    subst e
    rw [List.take_length] at ez
    exact .inl ⟨w.stops H (hG H s), hd zs H s hz ez⟩
end
end Wl

namespace Wl
open PySem PySem.Spec PyProof.Rows L2
abbrev sCls : Stmt := topS 51
abbrev sInit : Stmt := inClass sCls 0
abbrev sCheck : Stmt := inClass sCls 1
abbrev sLNames : Stmt := inClass sCls 2
abbrev sSpot : Stmt := inClass sCls 3
abbrev sNeigh : Stmt := inClass sCls 4
abbrev sBord : Stmt := inClass sCls 5
structure Txt (K : PySem.W.Frag) (mg : Str → Option Value) (C : Addr) : Prop where
  cl : Cls K C
  nS : NoAttr K C "spots"
  nR : NoAttr K C "rows"
  mgC : mg "Land" = some (.ref C)
theorem srne : ¬ (("spots" : Str) = "rows") := by decide +kernel
def lf (d L : Addr) : List (Str × V) := putF "rows" (.ref L) (putF "spots" (.ref d) [])
theorem lf_spots (d L : Addr) : (lf d L).lookup ("spots" : Str) = some (.ref d) := by
  unfold lf
  rw [lookup_putF, if_neg srne, lookup_putF, if_pos rfl]
theorem lf_rows (d L : Addr) : (lf d L).lookup ("rows" : Str) = some (.ref L) := by
  unfold lf
  rw [lookup_putF, if_pos rfl]
theorem lf_no (d L : Addr) {m : Str} (h1 : ¬ m = "rows") (h2 : ¬ m = "spots") : (lf d L).lookup m = none := by
  unfold lf
  rw [lookup_putF, if_neg h1, lookup_putF, if_neg h2]
  rfl
def LandAt (C : Addr) (H : Hp) (p L : Addr) (g : Grid) : Prop := ∃ d dx, H p = some (.ins C dx (lf d L)) ∧ SpotsAt H d (spG 0 g) ∧ GridAt H L g
theorem LandAt.keep {C p L : Addr} {H H' : Hp} {g : Grid} (h : LandAt C H p L g) (k : Keep H H') : LandAt C H' p L g := by
  obtain ⟨d, dx, h1, h2, h3⟩ := h
  exact ⟨d, dx, k _ _ (fun xs e => by cases e) h1, h2.keep k, h3.keep k.tk⟩
theorem tk_updI {a : Addr} {H : Hp} {C dx : Addr} {fs : List (Str × V)} {o : HO} (ha : H a = some (.ins C dx fs)) : TupKeep H (upd H a o) := fun p xs h => by
  rw [upd_ne (ne_of h ha (by intro z; cases z))]
  exact h
theorem spots_updI {a d : Addr} {H : Hp} {C dx : Addr} {fs : List (Str × V)} {o : HO} {sp : List (Str × Nat × Nat)} (ha : H a = some (.ins C dx fs)) (h : SpotsAt H d sp) : SpotsAt (upd H a o) d sp := by
  obtain ⟨kvs, h1, h2⟩ := h
  exact ⟨kvs, by rw [upd_ne (ne_of h1 ha (by intro z; cases z))]; exact h1, ent_keep (tk_updI ha) h2⟩
section
variable {P : Program} {w : World} {K : PySem.W.Frag} {mg : Str → Option Value} {base : Heap} {f C : Addr} {fd : FuncData}
def spInit (C : Addr) : Sp := fun vs H Q _ => ∃ (p dx L : Addr) (g : Grid) (wd : Nat), vs = [.ref p, .ref L] ∧ H p = some (.ins C dx []) ∧ GridAt H L g ∧ Good g wd ∧
  ∀ (H' : Hp), (∀ b o, b ≠ p → H b = some o → H' b = some o) → LandAt C H' p L g → Q .non H'
theorem scInit : FnScope ["self", "rows"] ["self", "rows"] (defScope sInit) := ⟨rfl, rfl, rfl, by decide +kernel, rfl, by decide +kernel, by decide +kernel⟩
theorem ok_init (F : Fun K "__init__" "Land.__init__" sInit f fd) (T : Txt K mg C) (hS : Has P w K mg base "checked_spots" 3 ["rows"] spSpots) : FnOk P w K mg base CX0 4 f fd ["self", "rows"] (spInit C) := by
  refine F.ok scInit (fun vs H Q E h => ?_) (fun cdv A outer s H vs Q E hr h => ?_)
  · obtain ⟨p, dx, L, g, wd, rfl, _⟩ := h
    rfl
  · obtain ⟨p, dx, L, g, wd, rfl, hp, hG, gd, q⟩ := h
    refine ⟨_, pss_cons (ps_fld (pv 0) (pe_h hS hr (pa_cons (pv 1) pa_nil)) rfl) (pss_one (ps_fld (pv 0) (pv 1) rfl)), ?_⟩
    refine ⟨_, rfl, L, g, wd, rfl, hG, gd, fun d H1 hd s1 sp1 => ?_⟩
    have hp1 := s1 _ _ hp
    refine ⟨_, rfl, p, C, dx, [], rfl, hp1, T.cl, T.nS, (by show 0 < 1000; decide), ?_⟩
    refine ⟨_, rfl, _, rfl, p, C, dx, _, rfl, upd_same, T.cl, T.nR, (by show 1 < 1000; decide), ?_⟩
    refine q _ (fun b o n e => ?_) ⟨d, dx, upd_same, spots_updI upd_same (spots_updI hp1 sp1), ((hG.keep (tk_same s1)).keep (tk_updI hp1)).keep (tk_updI upd_same)⟩
    rw [upd_ne n, upd_ne n]
    exact s1 _ _ e

/-! ### names -/
def spLNames (C : Addr) : Sp := fun vs H Q _ => ∃ (p L : Addr) (g : Grid) (wd : Nat), vs = [.ref p] ∧ LandAt C H p L g ∧ Good g wd ∧
  ∀ (t : Addr) (H' : Hp), H t = none → Same H H' → H' t = some (.tup ((sortS (names g)).map V.str)) → Q (.ref t) H'
theorem scLNames : FnScope ["self"] ["self"] (defScope sLNames) := ⟨rfl, rfl, rfl, by decide +kernel, rfl, by decide +kernel, by decide +kernel⟩
/-- sorted of a list of texts, as a reading -/
theorem sort_reads {H : Hp} {Q : VK} {a : Addr} {xs : List Str} (h : SqL K H a (xs.map V.str)) (q : ∀ p, H p = none → Q (.ref p) (upd H p (.lst ((sortS xs).map V.str)))) : rSortD K [.ref a] H Q := by
  refine ⟨a, xs.map sd, rfl, ?_, ?_, alike_strs xs, sortable_strs xs, ?_, fun p hp => ?_⟩
  · rw [List.map_map]
    exact h
  · intro b hb
    obtain ⟨x, _, rfl⟩ := List.mem_map.mp hb
    exact .str x
  · intro b hb
    obtain ⟨x, _, rfl⟩ := List.mem_map.mp hb
    show PyData.depth (.str x) ≤ 8
    simp [PyData.depth]
  · rw [sort_strs]
    exact q p hp
theorem ok_lnames (F : Fun K "names" "Land.names" sLNames f fd) (B : Bi mg) (T : Txt K mg C) : FnOk P w K mg base CX0 1 f fd ["self"] (spLNames C) := by
  refine F.ok scLNames (fun vs H Q E h => ?_) (fun cdv A outer s H vs Q E hr h => ?_)
  · obtain ⟨p, L, g, wd, rfl, _⟩ := h
    rfl
  · obtain ⟨p, L, g, wd, rfl, ⟨d, dx, hp, ⟨kvs, hd, he⟩, hG⟩, gd, q⟩ := h
    refine ⟨_, pss_one (ps_ret (pe_callTy call_tuple_of (by rfl) B.tuple (by decide +kernel) (pa_cons (pe_callB (cr_sortD hr.units) (by rfl) B.sorted (by decide +kernel) (pa_cons (pe_callTy (call_list_dK rfl) (by rfl) B.list (by decide +kernel) (pa_cons (pe_fld (pv 0) rfl) pa_nil)) pa_nil)) pa_nil))), ?_⟩
    refine ⟨_, rfl, p, C, dx, _, _, rfl, hp, T.cl, T.nS, lf_spots _ _, d, kvs, rfl, hd, fun a1 h1 => ?_⟩
    rw [ent_keys he, spG_fst]
    dsimp only [tNil]
    refine sort_reads (K := K) (.inl (.inl upd_same)) fun a2 h2 => ?_
    refine ⟨a2, _, rfl, .inl ⟨.inl (.inl upd_same), fun a3 h3 => ?_⟩⟩
    exact q a3 _ (Same.free ((same_new h1).trans (same_new h2)) h3) (((same_new h1).trans (same_new h2)).trans (same_new h3)) upd_same

/-! ### check_name, spot -/
def spCheck (C : Addr) : Sp := fun vs H Q _ => ∃ (p L : Addr) (g : Grid) (wd : Nat) (z : Str), vs = [.ref p, .str z] ∧ LandAt C H p L g ∧ Good g wd ∧ z ∈ names g ∧ ∀ (H' : Hp), Same H H' → Q .non H'
theorem scCheck : FnScope ["self", "name"] ["self", "name"] (defScope sCheck) := ⟨rfl, rfl, rfl, by decide +kernel, rfl, by decide +kernel, by decide +kernel⟩
theorem ok_check (F : Fun K "check_name" "Land.check_name" sCheck f fd) (T : Txt K mg C) (hI : Has P w K mg base "is_word" 1 ["thing"] spIsWord) : FnOk P w K mg base CX0 2 f fd ["self", "name"] (spCheck C) := by
  refine F.ok scCheck (fun vs H Q E h => ?_) (fun cdv A outer s H vs Q E hr h => ?_)
  · obtain ⟨p, L, g, wd, z, rfl, _⟩ := h
    rfl
  · obtain ⟨p, L, g, wd, z, rfl, hLa, gd, hz, q⟩ := h
    have hu := hu_of hr
    have hzw := gd.wd z hz
    refine ⟨_, pss_one (ps_if (PW.pt (pw_or (pt_not (pt_val (pe_h hI hr (pa_cons (pv 1) pa_nil)))) (pw_or1 (pt_cmp (pc_dnotin hu (pv 1) (pe_fld (pv 0) rfl)))))) (pss_one ps_never) pss_nil), ?_⟩
    refine ⟨_, rfl, z, rfl, by have := hzw.len; omega, fun H1 s1 => ⟨_, rfl, ?_⟩⟩
    rw [show wdB z = true from hzw]
    refine iteF ?_
    obtain ⟨d, dx, hp, ⟨kvs, hd, he⟩, hG⟩ := hLa.keep (kp_same s1)
    obtain ⟨r, c, hc⟩ := mem_names.mp hz
    obtain ⟨t, hv, ht⟩ := ent_some he (by rw [spG_fst]; exact gd.nd) (spG_cell.mpr hc)
    refine ⟨_, rfl, _, rfl, p, C, dx, _, _, rfl, hp, T.cl, T.nS, lf_spots _ _, d, _, rfl, DGet.k (k := Sum.inr z) hd, _, rfl, ?_⟩
    rw [hv]
    exact iteF (q H1 s1)
def spSpot (C : Addr) : Sp := fun vs H Q _ => ∃ (p L : Addr) (g : Grid) (wd : Nat) (z : Str) (r c : Nat), vs = [.ref p, .str z] ∧ LandAt C H p L g ∧ Good g wd ∧ cellAt g r c = some z ∧
  ∀ (t : Addr) (H' : Hp), Same H H' → H' t = some (.tup [.int r, .int c]) → Q (.ref t) H'
theorem scSpot : FnScope ["self", "name"] ["self", "name"] (defScope sSpot) := ⟨rfl, rfl, rfl, by decide +kernel, rfl, by decide +kernel, by decide +kernel⟩
end
end Wl




namespace Wl
open PySem PySem.Spec PyProof.Rows L2
/-- at most six rows of at most six -/
structure Sized (g : Grid) (wd : Nat) : Prop where
  h6 : g.length ≤ 6
  w6 : wd ≤ 6
  rows : ∀ r ∈ g, r.length = wd
theorem Good.sized {g : Grid} {wd : Nat} (G : Good g wd) : Sized g wd := ⟨G.h6, G.w6, G.rows⟩
section
variable {P : Program} {w : World} {K : PySem.W.Frag} {mg : Str → Option Value} {base : Heap} {f C : Addr} {fd : FuncData}
/-! ### the law's own names -/
def spNames : Sp := fun vs H Q _ => ∃ (L : Addr) (g : Grid) (wd : Nat), vs = [.ref L] ∧ GridAt H L g ∧ Sized g wd ∧
  ∀ (t : Addr) (H' : Hp), H t = none → Same H H' → H' t = some (.lst ((sortS (names g)).map V.str)) → Q (.ref t) H'
abbrev nNames : List Str := ["_law_lots", "_law_found", "_law_row", "_law_label"]
theorem scNames : FnScope nNames ["_law_lots"] (defScope sNames) := ⟨rfl, rfl, rfl, by decide +kernel, rfl, by decide +kernel, by decide +kernel⟩
theorem row_filter (row : Row) : ((row.map oV).filter fun v => !decide (v = .non)).map id = (rnames row).map V.str := by
  rw [List.map_id]
  induction row with
  | nil => rfl
  | cons o r ih =>
    cases o with
    | none => exact ih
    | some z => exact congrArg (V.str z :: ·) ih
theorem names_take {g : Grid} {i : Nat} {row : Row} (h : g[i]? = some row) : names (g.take (i + 1)) = names (g.take i) ++ rnames row := by
  rw [take_snoc h, names_snoc]
theorem ok_names (F : Fun K "_law_names" "_law_names" sNames f fd) (B : Bi mg) : FnOk P w K mg base CX0 1 f fd ["_law_lots"] spNames := by
  refine F.ok scNames (fun vs H Q E h => ?_) (fun cdv A outer s H vs Q E hr h => ?_)
  · obtain ⟨L, g, wd, rfl, _⟩ := h
    rfl
  · obtain ⟨L, g, wd, rfl, ⟨as, hL, hR⟩, gd, q⟩ := h
    refine ⟨_, pss_cons (ps_set (i := 1) scNames.nd rfl (.inl rfl) (pe_lst pa_nil))
      (pss_cons (ps_for PassesOwn.never rfl (pi_tup (pv 0)) (pg_name (i := 2) scNames.nd rfl (.inl rfl))
        (pss_one (ps_expr (pe_bm PySem.F.plainAttrs_list PySem.F.slot_list_extend PySem.F.type_list_extend mt_extend (pv 1) (pa_cons
          (pe_lc (own := [("_law_label", 3)]) (g := gName 3) (tt := tB (tNotN (tVar 3))) rfl scNames.nd (pi_tup (pv 2)) (blkOk_by (N := nNames) (sc := defScope sNames) (by decide +kernel)) (fun _ _ _ _ _ => pg_name (i := 3) scNames.nd rfl (.inl rfl))
            (fun _ _ _ _ _ => pts_one (pt_cmp (pc_notN (pv 3)))) (fun _ _ _ _ _ => pv 3)) pa_nil)))))
      (pss_one (ps_ret (pe_callB (cr_sortD hr.units) (by rfl) B.sorted (by decide +kernel) (pa_cons (pv 1) pa_nil))))), ?_⟩
    refine ⟨lz, fun fA hf => ?_⟩
    have s0 : Same H (upd H fA (.lst [])) := same_new hf
    have hlen : (as.map V.ref).length = g.length := by rw [List.length_map, hR.length]
    refine ⟨_, rfl, L, rfl, ⟨_, .inl (.inl (s0 _ _ hL))⟩, for_tup (K := K) (a := L) (xs := as.map V.ref) (fun i σ H' => (∃ y2 y3, σ = [some (.ref L), some (.ref fA), y2, y3]) ∧ Same H H' ∧ H' fA = some (.lst ((names (g.take i)).map V.str)))
      ⟨⟨_, _, rfl⟩, s0, upd_same⟩ (fun i σ H' _ h => .inl (.inl (h.2.1 _ _ hL))) ?_ ?_⟩
    · rintro i x σ H1 hx ⟨⟨y2, y3, rfl⟩, s1, hf1⟩
      rw [List.getElem?_map] at hx
      obtain ⟨p, hp, rfl⟩ := Option.map_eq_some_iff.mp hx
      obtain ⟨row, hrow, hH⟩ := hR.get hp
      have hrl := gd.rows row (List.mem_of_getElem? hrow)
      refine ⟨_, rfl, .inl ⟨rfl, _, .inl (.inl hf1)⟩, _, rfl, p, rfl, ⟨_, .inl (.inl (s1 _ _ hH))⟩, fun D hD => ?_⟩
      refine lc_map (walk_tup (K := K) (a := p) (xs := row.map oV)) hD (fun v => !decide (v = .non)) id (fun H' s' => .inl (.inl (s' _ _ (s1 _ _ hH)))) (fun _ => rfl) ?_ ?_ ?_ ?_
      · intro x H' hx s' Q' q'
        exact ⟨_, rfl, _, rfl, q'⟩
      · intro x H' hx _ _ Q' q'
        exact ⟨_, rfl, q'⟩
      · rw [List.length_map]
        exact small1000 (by have := gd.w6; omega)
      · intro H2 s2 hD2
        rw [row_filter] at hD2
        have hf2 := s2 _ _ hf1
        refine ⟨fA, D, _, _, rfl, rfl, hf2, hD2, ?_, ⟨_, _, rfl⟩, same_mut (s1.trans s2) hf, ?_⟩
        · rw [List.length_map, List.length_map]
          have a1 := len_names (g := g.take i) (wd := wd) fun r hr => gd.rows r (List.mem_of_mem_take hr)
          have a2 : (g.take i).length ≤ 6 := by rw [List.length_take]; have := gd.h6; omega
          have a3 : (g.take i).length * wd ≤ 6 * 6 := Nat.mul_le_mul a2 gd.w6
          have a4 : (rnames row).length ≤ row.length := List.length_filterMap_le id _
          have a7 := gd.w6
          exact lzl (by omega)
        · rw [upd_same, names_take hrow, List.map_append]
    · rintro σ H1 ⟨⟨y2, y3, rfl⟩, s1, hf1⟩
      rw [hlen, List.take_length] at hf1
      refine ⟨_, rfl, ?_⟩
      dsimp only [tNil]
      refine sort_reads (K := K) (.inl (.inl hf1)) fun p hp => ?_
      exact q p _ (s1.free hp) (s1.trans (same_new hp)) upd_same

theorem grid_get {H : Hp} {L : Addr} {g : Grid} {wd : Nat} (gd : Good g wd) {as : List Addr} (hL : H L = some (.tup (as.map V.ref))) (hR : RowsAt H as g) {x y : Int} (hx : 0 ≤ x ∧ x < g.length) (hy : 0 ≤ y ∧ y < wd) :
    ∃ (p : Addr) (row : Row), atI (as.map V.ref) x = some (.ref p) ∧ H p = some (.tup (row.map oV)) ∧ row.length = wd ∧ atI (row.map oV) y = some (oV (cellAt g x.toNat y.toNat)) := by
  have hx2 : x.toNat < g.length := by omega
  have hg : g[x.toNat]? = some g[x.toNat] := List.getElem?_eq_getElem hx2
  obtain ⟨p, hp, hH⟩ := hR.get2 hg
  have hw := gd.rows _ (List.mem_of_getElem? hg)
  have hy2 : y.toNat < g[x.toNat].length := by omega
  refine ⟨p, g[x.toNat], at_of (j := x.toNat) (by omega) (by rw [List.getElem?_map, hp]; rfl), hH, hw, at_of (j := y.toNat) (by omega) ?_⟩
  rw [List.getElem?_map, List.getElem?_eq_getElem hy2, cellAt_of hg (List.getElem?_eq_getElem hy2)]
  rfl
end
end Wl




/-! A land's text. -/
namespace Wl
open PySem PySem.Spec PyProof.Rows L2
def partS : Option Str → Str
  | none => "-"
  | some z => z
def lineS (row : Row) : Str := Txt.join (" " : Str) (row.map partS)
def landS (g : Grid) : Str := Txt.join ("\n" : Str) (g.map lineS)
theorem tl_dash : TL.tl ("-" : Str) = [45] := by decide +kernel
theorem tl_blank : TL.tl (" " : Str) = [32] := by decide +kernel
theorem tl_end : TL.tl ("\n" : Str) = [10] := by decide +kernel
theorem wd_tl {z : Str} (h : IsWd z) : (1 ≤ (TL.tl z).length ∧ (TL.tl z).length ≤ 8) ∧ ∀ c ∈ TL.tl z, 97 ≤ c ∧ c ≤ 122 := by
  refine ⟨by rw [← TL.len_tl]; exact h.len, ?_⟩
  unfold IsWd wdB at h
  simp only [Bool.and_eq_true, decide_eq_true_eq, List.all_eq_true] at h
  exact h.2
theorem wd_dash {z : Str} (h : IsWd z) : z ≠ "-" := fun e => by
  have := (wd_tl h).2 45 (by rw [e, tl_dash]; simp)
  omega
/-- a part of a row -/
def OkP (o : Option Str) : Prop := ∀ z, o = some z → IsWd z
theorem part_tl {o : Option Str} (h : OkP o) : (TL.tl (partS o)).length ≤ 8 ∧ ∀ c ∈ TL.tl (partS o), 45 ≤ c ∧ c ≤ 122 := by
  cases o with
  | none =>
    show (TL.tl ("-" : Str)).length ≤ 8 ∧ ∀ c ∈ TL.tl ("-" : Str), 45 ≤ c ∧ c ≤ 122
    rw [tl_dash]
    exact ⟨by decide, fun c hc => by rw [List.mem_singleton.mp hc]; decide⟩
  | some z =>
    have := wd_tl (h z rfl)
    exact ⟨this.1.2, fun c hc => ⟨by have := this.2 c hc; omega, (this.2 c hc).2⟩⟩
theorem join_mem {S : List Nat} {c : Nat} : ∀ {ps : List (List Nat)}, c ∈ TL.joinL S ps → c ∈ S ∨ ∃ p ∈ ps, c ∈ p
  | [], h => by cases h
  | [p], h => .inr ⟨p, List.mem_singleton.mpr rfl, h⟩
  | p :: q :: r, h => by
    have h : c ∈ p ++ (S ++ TL.joinL S (q :: r)) := h
    rcases List.mem_append.mp h with h | h
    · exact .inr ⟨p, List.mem_cons_self, h⟩
    · rcases List.mem_append.mp h with h | h
      · exact .inl h
      · rcases join_mem h with h | ⟨u, hu, h⟩
        · exact .inl h
        · exact .inr ⟨u, List.mem_cons_of_mem _ hu, h⟩
theorem join_size {S : List Nat} {m : Nat} : ∀ {ps : List (List Nat)}, (∀ p ∈ ps, p.length ≤ m) → (TL.joinL S ps).length ≤ ps.length * (m + S.length)
  | [], _ => by simp [TL.joinL]
  | [p], h => by
    have := h p (List.mem_singleton.mpr rfl)
    show p.length ≤ _
    simp
    omega
  | p :: q :: r, h => by
    have h1 := h p List.mem_cons_self
    have h2 := join_size (S := S) (m := m) (ps := q :: r) fun u hu => h u (List.mem_cons_of_mem _ hu)
    show (p ++ (S ++ TL.joinL S (q :: r))).length ≤ _
    rw [List.length_append, List.length_append, List.length_cons, Nat.succ_mul]
    omega
theorem line_tl (row : Row) : TL.tl (lineS row) = TL.joinL [32] (row.map fun o => TL.tl (partS o)) := by
  unfold lineS
  rw [TL.join_eq, TL.tl_join, tl_blank, List.map_map]
  rfl
theorem line_codes {row : Row} (h : ∀ o ∈ row, OkP o) {c : Nat} (hc : c ∈ TL.tl (lineS row)) : c = 32 ∨ (45 ≤ c ∧ c ≤ 122) := by
  rw [line_tl] at hc
  rcases join_mem hc with hc | ⟨p, hp, hc⟩
  · exact .inl (List.mem_singleton.mp hc)
  · obtain ⟨o, ho, rfl⟩ := List.mem_map.mp hp
    exact .inr ((part_tl (h o ho)).2 c hc)
theorem line_len {row : Row} (h : ∀ o ∈ row, OkP o) (h6 : row.length ≤ 6) : (lineS row).length ≤ 54 := by
  rw [TL.len_tl, line_tl]
  have := join_size (S := [32]) (m := 8) (ps := row.map fun o => TL.tl (partS o)) fun p hp => by
    obtain ⟨o, ho, rfl⟩ := List.mem_map.mp hp
    exact (part_tl (h o ho)).1
  rw [List.length_map] at this
  simp at this
  omega
theorem line_split {row : Row} (h : ∀ o ∈ row, OkP o) (ne : row ≠ []) : Txt.split (lineS row) (" " : Str) = row.map partS := by
  unfold lineS
  refine TL.split_join tl_blank (by decide +kernel) (fun e => ne (List.map_eq_nil_iff.mp e)) fun p hp hc => ?_
  obtain ⟨o, ho, rfl⟩ := List.mem_map.mp hp
  have := (part_tl (h o ho)).2 32 hc
  omega
theorem land_split {g : Grid} (h : ∀ r ∈ g, ∀ o ∈ r, OkP o) (ne : g ≠ []) : Txt.split (landS g) ("\n" : Str) = g.map lineS := by
  unfold landS
  refine TL.split_join tl_end (by decide +kernel) (fun e => ne (List.map_eq_nil_iff.mp e)) fun p hp hc => ?_
  obtain ⟨r, hr, rfl⟩ := List.mem_map.mp hp
  have := line_codes (h r hr) hc
  omega
theorem land_len {g : Grid} (h : ∀ r ∈ g, ∀ o ∈ r, OkP o) (hg : g.length ≤ 6) (hr : ∀ r ∈ g, r.length ≤ 6) : (landS g).length ≤ 330 := by
  unfold landS
  rw [TL.len_tl, TL.join_eq, TL.tl_join, tl_end]
  have := join_size (S := [10]) (m := 54) (ps := (g.map lineS).map TL.tl) fun p hp => by
    obtain ⟨z, hz, rfl⟩ := List.mem_map.mp hp
    obtain ⟨r, hr', rfl⟩ := List.mem_map.mp hz
    rw [← TL.len_tl]
    exact line_len (h r hr') (hr r hr')
  rw [List.length_map, List.length_map] at this
  have e : (54 + [10].length) = 55 := rfl
  rw [e] at this
  omega
theorem names_part {g : Grid} (h : ∀ z ∈ names g, IsWd z) : ∀ r ∈ g, ∀ o ∈ r, OkP o := fun r hr o ho z e => h z (by
  unfold names
  rw [List.mem_filterMap]
  exact ⟨o, List.mem_flatten.mpr ⟨r, hr, ho⟩, e⟩)
theorem Good.parts {g : Grid} {wd : Nat} (G : Good g wd) : ∀ r ∈ g, ∀ o ∈ r, OkP o := names_part G.wd
theorem Good.nn {g : Grid} {wd : Nat} (G : Good g wd) : g ≠ [] := fun e => by
  have := G.h1
  rw [e] at this
  simp at this
theorem Good.six {g : Grid} {wd : Nat} (G : Good g wd) : ∀ r ∈ g, r.length ≤ 6 := fun r hr => by
  rw [G.rows r hr]
  exact G.w6
theorem part_inj {o u : Option Str} (h : OkP o) (k : OkP u) (e : partS o = partS u) : o = u := by
  cases o with
  | none =>
    cases u with
    | none => rfl
    | some z => exact absurd e.symm (wd_dash (k z rfl))
  | some y =>
    cases u with
    | none => exact absurd e (wd_dash (h y rfl))
    | some z => exact congrArg some e
theorem map_part_inj : ∀ {r q : Row}, (∀ o ∈ r, OkP o) → (∀ o ∈ q, OkP o) → r.map partS = q.map partS → r = q
  | [], [], _, _, _ => rfl
  | [], _ :: _, _, _, e => by simp at e
  | _ :: _, [], _, _, e => by simp at e
  | o :: r, u :: q, h, k, e => by
    simp only [List.map_cons, List.cons.injEq] at e
    rw [part_inj (h o List.mem_cons_self) (k u List.mem_cons_self) e.1, map_part_inj (fun x hx => h x (List.mem_cons_of_mem _ hx)) (fun x hx => k x (List.mem_cons_of_mem _ hx)) e.2]
theorem line_inj {r q : Row} (h : ∀ o ∈ r, OkP o) (k : ∀ o ∈ q, OkP o) (nr : r ≠ []) (nq : q ≠ []) (e : lineS r = lineS q) : r = q := by
  have := congrArg (fun z => Txt.split z (" " : Str)) e
  simp only [line_split h nr, line_split k nq] at this
  exact map_part_inj h k this
/-- unlike lands have unlike texts -/
theorem land_inj {g g' : Grid} {wd wd' : Nat} (G : Good g wd) (G' : Good g' wd') (e : landS g = landS g') : g = g' := by
  have h := congrArg (fun z => Txt.split z ("\n" : Str)) e
  simp only [land_split G.parts G.nn, land_split G'.parts G'.nn] at h
  have ne : ∀ {l : Grid} {v : Nat}, Good l v → ∀ r ∈ l, r ≠ [] := fun {l v} L r hr q => by
    have h1 := L.rows r hr
    have h2 := L.w1
    rw [q] at h1
    simp at h1
    omega
  have key : ∀ {l m : Grid}, (∀ r ∈ l, r ≠ [] ∧ ∀ o ∈ r, OkP o) → (∀ r ∈ m, r ≠ [] ∧ ∀ o ∈ r, OkP o) → l.map lineS = m.map lineS → l = m := by
    intro l
    induction l with
    | nil =>
      intro m _ _ e
      cases m with
      | nil => rfl
      | cons _ _ => simp at e
    | cons r l ih =>
      intro m hl hm e
      cases m with
      | nil => simp at e
      | cons q m =>
        simp only [List.map_cons, List.cons.injEq] at e
        have a := hl r List.mem_cons_self
        have b := hm q List.mem_cons_self
        rw [line_inj a.2 b.2 a.1 b.1 e.1, ih (fun x hx => hl x (List.mem_cons_of_mem _ hx)) (fun x hx => hm x (List.mem_cons_of_mem _ hx)) e.2]
  exact key (fun r hr => ⟨ne G r hr, G.parts r hr⟩) (fun r hr => ⟨ne G' r hr, G'.parts r hr⟩) h
end Wl

/-! Rules of ours for objects of own classes: len, str, repr, ==, !=, in a list of one, each by the class's own method. -/
namespace Wl
open PySem PySem.Spec PyProof.Rows L2
section
variable {X : Cx} {n : Nat} {f : Addr} {fd : FuncData} {ps : List Str} {sp : Sp} {C : Addr}
theorem v1 (a : Addr) : Vals [V.ref a] [Value.ref a] := .cons rfl .nil
theorem v2 (a b : Addr) : Vals [V.ref a, V.ref b] [Value.ref a, Value.ref b] := .cons rfl (.cons rfl .nil)
/-- an own def called somewhere below the running body -/
theorem run_own {A : Around} {pins : List (Addr × Obj)} {s : Shared} {σ : L2.St} {H : Hp} {vs : List V} {us : List Value} {Q : VK} (F : FnOk X.prog X.w X.K X.mg X.base CX0 n f fd ps sp) (hb : Binds X.K fd ps []) (sb : Sub X n A) (I : L2.Inv X pins σ H s) (r : Vals vs us) (hsp : sp vs H Q E0) :
    wpAny (model X.prog X.w) A (call (.ref f) us) (EP X pins σ Q) X.xe s := by
  have e0 : Env0 X.prog X.w X.K X.mg X.base A X.stack s H := by
    have e := I.env0
    exact ⟨by rw [sb.fr]; exact e.frames, e.mod, e.bs, e.bsz, e.funs, e.frf, e.hok, e.bare⟩
  have hl := F.len _ _ _ _ hsp
  have hb' : BindsTo s fd ⟨us, []⟩ (ps.zip us) := by
    have := hb s us I.kIn (by rw [List.append_nil, ← r.length]; exact hl)
    rw [List.append_nil] at this
    exact this
  refine wpAny_call (codeAny_mono (F.run A X.stack s H ⟨us, []⟩ us vs _ E0 sb.room e0 hb' r hsp) fun r s' hq => ?_)
  cases r with
  | error e => exact pass0 pins σ H s e s' I hq
  | ok fl =>
    cases fl with
    | ret w => exact I.after hq
    | next => exact False.elim hq
    | brk => exact False.elim hq
    | cont => exact False.elim hq
/-- len(o) -/
def rLenO (C : Addr) (sp : Sp) : List V → Hp → VK → Prop := fun xs H Q => ∃ a dx fs, xs = [V.ref a] ∧ H a = some (.ins C dx fs) ∧ sp [.ref a] H (fun v H' => ∃ k : Nat, v = .int (k : Int) ∧ k < 2 ^ 62 ∧ Q (.int (k : Int)) H') E0
theorem cr_lenO (F : FnOk X.prog X.w X.K X.mg X.base CX0 n f fd ps sp) (hb : Binds X.K fd ps []) (m : Meth X.K C "__len__" f) (hr : Room (n + 1) X.A) : CallR X (.builtin "len") (rLenO C sp) := by
  intro pins s σ H xs us Q I r h
  obtain ⟨a, dx, fs, rfl, ha, hsp⟩ := h
  obtain ⟨u, rfl, ru⟩ := vals1 r
  obtain rfl : u = Value.ref a := ru
  obtain ⟨mA, J, _⟩ := ins_get I.hok ha
  obtain ⟨od, J, _⟩ := J.look
  obtain ⟨m', hF⟩ := I.fr
  refine PySem.W.len_K hF I.ok.mod.kin J m.at_ m.fn (wpAny_mono (run_own F hb (Sub.in1 ⟨hr, rfl⟩) I (v1 a) hsp) (fun v s' hq => ?_) fun _ _ z => z)
  obtain ⟨z, H', I', rz, k, rfl, hk, q⟩ := hq
  obtain ⟨t, rfl⟩ := rz
  exact ⟨⟨by omega, by omega⟩, .int (k : Int), H', I'.tok _, ⟨_, rfl⟩, q⟩
/-- str(o) -/
def rStrO (C : Addr) (sp : Sp) : List V → Hp → VK → Prop := fun xs H Q => ∃ a dx fs, xs = [V.ref a] ∧ H a = some (.ins C dx fs) ∧ sp [.ref a] H (fun v H' => ∃ z, v = .str z ∧ Q (.str z) H') E0
theorem room_u2 {k : Nat} {A : Around} (r : Room k A) : A.units + 2 < cLine := by have := r.un; omega
theorem cr_strO (F : FnOk X.prog X.w X.K X.mg X.base CX0 n f fd ps sp) (hb : Binds X.K fd ps []) (m : Meth X.K C "__str__" f) (hr : Room (n + 2) X.A) : CallR X (.type "str") (rStrO C sp) := by
  intro pins s σ H xs us Q I r h
  obtain ⟨a, dx, fs, rfl, ha, hsp⟩ := h
  obtain ⟨u, rfl, ru⟩ := vals1 r
  obtain rfl : u = Value.ref a := ru
  obtain ⟨mA, J, _⟩ := ins_get I.hok ha
  obtain ⟨od, J, _⟩ := J.look
  refine PySem.W.kso_call (show X.A.units + 1 + 1 < cLine from room_u2 hr) I.kIn J m.at_ m.fn (wpAny_mono (run_own F hb (Sub.in1 (Sub.in1 ⟨hr, rfl⟩)) I (v1 a) hsp) (fun v s' hq => ?_) fun _ _ z => z)
  obtain ⟨z, H', I', rz, y, rfl, q⟩ := hq
  obtain ⟨t, rfl⟩ := rz
  exact ⟨.str y, H', I', ⟨_, rfl⟩, q⟩
/-- repr(o) -/
theorem cr_reprO (F : FnOk X.prog X.w X.K X.mg X.base CX0 n f fd ps sp) (hb : Binds X.K fd ps []) (m : Meth X.K C "__repr__" f) (hr : Room (n + 1) X.A) : CallR X (.builtin "repr") (rStrO C sp) := by
  intro pins s σ H xs us Q I r h
  obtain ⟨a, dx, fs, rfl, ha, hsp⟩ := h
  obtain ⟨u, rfl, ru⟩ := vals1 r
  obtain rfl : u = Value.ref a := ru
  obtain ⟨mA, J, _⟩ := ins_get I.hok ha
  obtain ⟨od, J, _⟩ := J.look
  obtain ⟨m', hF⟩ := I.fr
  refine PySem.W.repr_K (show X.A.units + 1 < cLine from by have := room_u2 hr; omega) hF I.ok.mod.kin J m.at_ m.fn (wpAny_mono (run_own F hb (Sub.in1 ⟨hr, rfl⟩) I (v1 a) hsp) (fun v s' hq => ?_) fun _ _ z => z)
  obtain ⟨z, H', I', rz, y, rfl, q⟩ := hq
  obtain ⟨t, rfl⟩ := rz
  exact ⟨.str y, H', I', ⟨_, rfl⟩, q⟩
/-- x == y of two of one class -/
def rEqO (C : Addr) (sp : Sp) (g : Bool → Bool) : R2 := fun x y H Q => ∃ a dx fs b dy gs, x = V.ref a ∧ y = V.ref b ∧ H a = some (.ins C dx fs) ∧ H b = some (.ins C dy gs) ∧ sp [.ref a, .ref b] H (fun v H' => ∃ c, v = .bl c ∧ Q (.bl (g c)) H') E0
theorem rc_eqO {A : Around} {pins : List (Addr × Obj)} {s : Shared} {σ : L2.St} {H : Hp} {a b dx dy : Addr} {fs gs : List (Str × V)} {Q : Bool → Hp → Prop} (F : FnOk X.prog X.w X.K X.mg X.base CX0 n f fd ps sp) (hb : Binds X.K fd ps []) (m : Meth X.K C "__eq__" f) (sb : Sub X n A) (I : L2.Inv X pins σ H s)
    (ha : H a = some (.ins C dx fs)) (hb' : H b = some (.ins C dy gs)) (hsp : sp [.ref a, .ref b] H (fun v H' => ∃ c, v = .bl c ∧ Q c H') E0) :
    wpAny (model X.prog X.w) A (richCompare .Eq (.ref a) (.ref b)) (fun v s' => ∃ c, v = .bool c ∧ ∃ H', L2.Inv X pins σ H' s' ∧ Q c H') X.xe s := by
  obtain ⟨mA, J, _⟩ := ins_get I.hok ha
  obtain ⟨mB, J', _⟩ := ins_get I.hok hb'
  obtain ⟨od, J, _⟩ := J.look
  obtain ⟨od', J', _⟩ := J'.look
  obtain ⟨m', hF⟩ := I.fr
  refine PySem.W.cmp_K (op := .Eq) (tb := .ref C) sb.room.units0 hF I.ok.mod.kin J J'.type (by simp [PySem.W.notFirst]) m.at_ m.fn (wpAny_mono (run_own F hb sb I (v2 a b) hsp) (fun v s' hq => ?_) fun _ _ z => z)
  obtain ⟨z, H', I', rz, c, rfl, q⟩ := hq
  cases rz
  exact ⟨c, rfl, H', I', q⟩
theorem op_eqO (F : FnOk X.prog X.w X.K X.mg X.base CX0 n f fd ps sp) (hb : Binds X.K fd ps []) (m : Meth X.K C "__eq__" f) (hr : Room n X.A) : OpR X (compareOp .Eq) (rEqO C sp id) := by
  intro pins s σ H x y v u Q I rx ry h
  obtain ⟨a, dx, fs, b, dy, gs, rfl, rfl, ha, hb', hsp⟩ := h
  cases rx
  cases ry
  show wpAny (model X.prog X.w) X.A (richCompare .Eq (.ref a) (.ref b)) (EP X pins σ Q) X.xe s
  refine wpAny_mono (rc_eqO F hb m ⟨hr, rfl⟩ I ha hb' hsp) (fun v s' hq => ?_) fun _ _ z => z
  obtain ⟨c, rfl, H', I', q⟩ := hq
  exact ⟨.bl c, H', I', rfl, q⟩
/-- what the class says of != -/
structure NeC (K : PySem.W.Frag) (C : Addr) : Prop where
  ne : PySem.W.findIn K (.ref C) "__ne__" = some (some (.builtin "object.__ne__"))
  ob : PySem.W.mroIn K C (.type "object") = some true
theorem ifBound_B {M : Model} {A : Around} {E : Value → Shared → Prop} {s : Shared} {K : PySem.W.Frag} {x C : Addr} {ox : Obj} {od : Option Obj} {name : Str} {id : String} {args : List Value} {Q : Option Value → Shared → Prop} (X : K.In s.heap) (I : PySem.W.InstAt s.heap x ox C od) (hs : PySem.W.findIn K (.ref C) name = some (some (.builtin id)))
    (hb : ∀ self, bindSpecial (.builtin id) self = pure (.builtin id, [self])) (h : wpAny M A (call (.builtin id) (.ref x :: args)) (fun v => Q (some v)) E s) : wpAny M A (callSpecialIfBound? (.ref x) name args) Q E s := by
  simp only [callSpecialIfBound?, bindSpecialIfBound?]
  refine wpAny_holding (wpAny_bind (wpAny_bind (wpAny_bind (I.type.here ((PySem.W.looks_findIn X hs).here ?_)))))
  refine wpAny_bind (wpAny_askSetting (wpAny_ite ?_))
  have fin : wpAny M A (call (.builtin id) ([.ref x] ++ args) >>= fun v => pure (some v)) Q E s := wpAny_bind (wpAny_mono h (fun v s' h' => wpAny_pure h') fun _ _ h' => h')
  split
  · exact wpAny_bind ((PySem.W.Looks.of_pure (hb _)).here (wpAny_pure (by exact fin)))
  · exact wpAny_tryCatch (wpAny_bind ((PySem.W.Looks.of_pure (hb _)).here (wpAny_pure (by exact fin))))
theorem obj_neK {A : Around} {E : Value → Shared → Prop} {s : Shared} {prog : Program} {w : World} {K : PySem.W.Frag} {x C f : Addr} {y : Value} {ox : Obj} {od : Option Obj} {Q : Value → Shared → Prop} (hu : A.units + 1 < cLine) (X : K.In s.heap) (I : PySem.W.InstAt s.heap x ox C od) (N : NeC K C) (he : PySem.W.findIn K (.ref C) "__eq__" = some (some (.ref f))) (hf : PySem.W.isFn K (.ref f) = true)
    (h : wpAny (model prog w) A.in1 (call (.ref f) [.ref x, y]) (fun v s' => ∃ c, v = .bool c ∧ Q (.bool (!c)) s') E s) : wpAny (model prog w) A (call (.builtin "object.__ne__") [.ref x, y]) Q E s := by
  refine wpAny_call (codeAny_call_builtin PySem.F.slot_object_ne.plain PySem.F.cmpEntry_ne (PySem.W.check_slot (i := "object.__ne__") (owner := "object") (n := "__ne__") (by decide +kernel) (by decide +kernel) (I.type.andThen (PySem.W.looks_mroIn X N.ob)) (PySem.F.cmpArgs_ne _ _) ?_))
  unfold Builtin.«object.__ne__»
  refine wpAny_bind (m := slotArgs "__ne__" 1 _) (wpAny_pure ?_)
  refine wpAny_bind (m := cRoomFor _ _) (wpAny_cRoomFor (show A.in1.units < cLine from hu) ?_)
  refine wpAny_bind (m := callSpecialIfBound? (.ref x) (Str.ofString "__eq__") _) (PySem.W.ifBound_K X I he hf (wpAny_mono h (fun r s' hq => ?_) fun _ _ z => z))
  obtain ⟨c, rfl, q⟩ := hq
  exact wpAny_bind (wpAny_truthy_bool (wpAny_pure q))
end
end Wl
namespace Wl
open PySem PySem.Spec PyProof.Rows L2
theorem ne_K {A : Around} {E : Value → Shared → Prop} {s : Shared} {prog : Program} {w : World} {K : PySem.W.Frag} {x C f : Addr} {y : Addr} {ox oy : Obj} {od od' : Option Obj} {Q : Value → Shared → Prop} (hu : A.units + 2 < cLine) (X : K.In s.heap) (I : PySem.W.InstAt s.heap x ox C od) (I' : PySem.W.InstAt s.heap y oy C od') (N : NeC K C) (he : PySem.W.findIn K (.ref C) "__eq__" = some (some (.ref f))) (hf : PySem.W.isFn K (.ref f) = true)
    (h : wpAny (model prog w) A.in1 (call (.ref f) [.ref x, .ref y]) (fun v s' => ∃ c, v = .bool c ∧ Q (.bool (!c)) s') E s) : wpAny (model prog w) A (richCompare .NotEq (.ref x) (.ref y)) Q E s := by
  have one : wpAny (model prog w) A (tryCompare (.ref x) "__ne__" (.ref y)) (fun r s' => ∃ v, r = some v ∧ Q v s') E s := by
    unfold tryCompare
    refine wpAny_bind (ifBound_B X I N.ne PySem.F.slot_object_ne.bind (wpAny_mono (obj_neK (Q := fun v s' => ∃ c, v = .bool c ∧ Q v s') (by omega) X I N he hf (wpAny_mono h (fun v s' hv => ?_) fun _ _ z => z)) (fun v s' hv => ?_) fun _ _ z => z))
    · obtain ⟨c, rfl, q⟩ := hv
      exact ⟨c, rfl, _, rfl, q⟩
    · obtain ⟨c, rfl, q⟩ := hv
      exact wpAny_pure ⟨_, rfl, q⟩
  unfold richCompare
  simp only [oneThing_ref]
  refine wpAny_holding (wpAny_bind (wpAny_cRoomFor (by omega) ?_))
  refine wpAny_bind (I.type.here (wpAny_bind (I'.type.here ?_)))
  rw [show (Value.ref C != Value.ref C) = false from by simp]
  simp only [Bool.false_eq_true, if_false]
  refine wpAny_bind (wpAny_pure ?_)
  simp only [Bool.false_eq_true, if_false]
  refine wpAny_bind (wpAny_mono one (fun r s' z => ?_) fun _ _ e => e)
  obtain ⟨v, rfl, hq⟩ := z
  exact wpAny_pure hq
section
variable {X : Cx} {n : Nat} {f : Addr} {fd : FuncData} {ps : List Str} {sp : Sp} {C : Addr}
theorem op_neO (F : FnOk X.prog X.w X.K X.mg X.base CX0 n f fd ps sp) (hb : Binds X.K fd ps []) (m : Meth X.K C "__eq__" f) (N : NeC X.K C) (hr : Room (n + 1) X.A) : OpR X (compareOp .NotEq) (rEqO C sp not) := by
  intro pins s σ H x y v u Q I rx ry h
  obtain ⟨a, dx, fs, b, dy, gs, rfl, rfl, ha, hb', hsp⟩ := h
  cases rx
  cases ry
  obtain ⟨mA, J, _⟩ := ins_get I.hok ha
  obtain ⟨mB, J', _⟩ := ins_get I.hok hb'
  obtain ⟨od, J, _⟩ := J.look
  obtain ⟨od', J', _⟩ := J'.look
  show wpAny (model X.prog X.w) X.A (richCompare .NotEq (.ref a) (.ref b)) (EP X pins σ Q) X.xe s
  refine ne_K (room_u2 hr) I.kIn J J' N m.at_ m.fn (wpAny_mono (run_own F hb (Sub.in1 ⟨hr, rfl⟩) I (v2 a b) hsp) (fun v s' hq => ?_) fun _ _ z => z)
  obtain ⟨z, H', I', rz, c, rfl, q⟩ := hq
  cases rz
  exact ⟨c, rfl, .bl (!c), H', I', rfl, q⟩
/-! x in xs, x not in xs, of objects -/
open GQ MeetsSeq MeetsSeq2 MeetsSeq3 SeqRoads2 in
open AutoSeq1 (wpAny_loadPart') in
theorem contains_loopO {prog : Program} {w : World} {A : Around} {R : Result → Shared → Prop} {l : Addr} {items : Array Value} {x : Value} (P : Nat → Shared → Prop)
    (hl : ∀ i s, P i s → ∃ k, s.heap.get? l = some { cls := .type "list", data := .seq items k })
    (turn : ∀ (i : Nat) (h : i < items.size) (s : Shared), P i s → wpAny (model prog w) A.in1 (eqBool items[i] x) (fun b s' => if b = true then R (.ok (.ret (.bool true))) s' else P (i + 1) s') (fun e s' => R (.error e) s') s)
    (fin : ∀ s, P items.size s → R (.ok (.ret (.bool false))) s) (k : Nat) :
    ∀ i : Nat, items.size - i = k → i ≤ items.size → ∀ s, P i s → wpAny (model prog w) A.in1 (Builtin.«list.__contains__.loop» ⟨[.ref l, x, rawInt i], []⟩) (FinOf prog w A R) (fun e s' => R (.error e) s') s := by
  induction k with
  | zero =>
    intro i hk hi s h
    obtain ⟨k, hl1⟩ := hl i s h
    have e : i = items.size := by omega
    have q := fin s (e ▸ h)
    obtain ⟨hp, g, d, tk, os⟩ := s
    wp_walk using wpAny_loadPart' hl1
    have hi1 : items[((i : Nat) : Int).toNat]? = none := by simp; omega
    rw [hi1]
    wp_walk
    exact q
  | succ k ih =>
    intro i hk hi s h
    obtain ⟨k1, hl1⟩ := hl i s h
    have hlt : i < items.size := by omega
    have ht := turn i hlt s h
    obtain ⟨hp, g, d, tk, os⟩ := s
    wp_walk using wpAny_loadPart' hl1
    have hi1 : items[((i : Nat) : Int).toNat]? = some items[i] := by simp [hlt]
    rw [hi1]
    refine wpAny_bind (wpAny_mono ht (fun b s2 h2 => ?_) fun _ _ z => z)
    cases b with
    | true =>
      rw [if_pos rfl] at h2
      wp_walk
      exact h2
    | false =>
      rw [if_neg (by decide)] at h2
      have hrec := ih (i + 1) (by omega) (by omega) s2 h2
      obtain ⟨hp2, g2, d2, tk2, os2⟩ := s2
      have hc : ((i : Int) + 1) = ((i + 1 : Nat) : Int) := by omega
      wp_walk
      rw [hc]
      exact ⟨plainId_quiet plain_contains_loop _, codeAny_builtin entry_contains_loop (by
        rw [Around.under_plainId plain_contains_loop _]
        exact hrec)⟩
open GQ MeetsSeq MeetsSeq2 MeetsSeq3 SeqRoads2 in
open AutoSeq1 (wpAny_loadPart') in
theorem containsO {prog : Program} {w : World} {A : Around} {R : Result → Shared → Prop} {s : Shared} {l : Addr} {items : Array Value} {x : Value} (P : Nat → Shared → Prop)
    (hl : ∀ i s, P i s → ∃ k, s.heap.get? l = some { cls := .type "list", data := .seq items k })
    (turn : ∀ (i : Nat) (h : i < items.size) (s : Shared), P i s → wpAny (model prog w) A.in1 (eqBool items[i] x) (fun b s' => if b = true then R (.ok (.ret (.bool true))) s' else P (i + 1) s') (fun e s' => R (.error e) s') s)
    (fin : ∀ s, P items.size s → R (.ok (.ret (.bool false))) s) (h : P 0 s) :
    wpAny (model prog w) A.in1 (Builtin.«list.__contains__» ⟨[.ref l, x], []⟩) (FinOf prog w A R) (fun e s' => R (.error e) s') s := by
  have hrec := contains_loopO (A := A) (R := R) P hl turn fin _ 0 rfl (Nat.zero_le _) s h
  obtain ⟨k, hl1⟩ := hl 0 s h
  obtain ⟨hp, g, d, tk, os⟩ := s
  wp_walk using wpAny_loadPart' hl1
  exact ⟨plainId_quiet plain_contains_loop _, codeAny_builtin entry_contains_loop (by
    rw [Around.under_plainId plain_contains_loop _]
    exact hrec)⟩
/-- x in [y]: both of one class -/
def rInO (C : Addr) (sp : Sp) (g : Bool → Bool) : R2 := fun x y H Q => ∃ a dx fs l b dy gs, x = V.ref a ∧ y = V.ref l ∧ H l = some (.lst [.ref b]) ∧ H a = some (.ins C dx fs) ∧ H b = some (.ins C dy gs) ∧ (a = b → Q (.bl (g true)) H) ∧
  (a ≠ b → sp [.ref b, .ref a] H (fun v H' => ∃ c, v = .bl c ∧ H' l = some (.lst [.ref b]) ∧ Q (.bl (g c)) H') E0)
theorem op_inO' (F : FnOk X.prog X.w X.K X.mg X.base CX0 n f fd ps sp) (hb : Binds X.K fd ps []) (m : Meth X.K C "__eq__" f) (hr : Room (n + 1) X.A) {g : Bool → Bool} {pins : List (Addr × Obj)} {s : Shared} {σ : L2.St} {H : Hp} {x y : V} {v u : Value} {Q : VK} (I : L2.Inv X pins σ H s) (rx : RelV x v) (ry : RelV y u) (h : rInO C sp g x y H Q) :
    wpAny (model X.prog X.w) X.A (contains u v) (fun b s' => EP X pins σ Q (.bool (g b)) s') X.xe s := by
  obtain ⟨a, dx, fs, l, b, dy, gs, rfl, rfl, hl, ha, hb', q1, q2⟩ := h
  cases rx
  cases ry
  obtain ⟨z, its, k, r, ho⟩ := I.hok l _ hl
  obtain ⟨u, rfl, ru⟩ := vals1 r
  obtain rfl : u = Value.ref b := ru
  refine wpAny_contains_slot ⟨_, ho, rfl⟩ PySem.F.slot_list_contains (wpAny_mono (GQ.call_here PySem.F.slot_list_contains ⟨_, ho, rfl⟩ PySem.F.entry_list_contains (PySem.F.args_list_contains_2 _ _)
    (containsO (R := wants (fun v s' => ∃ c, v = .bool c ∧ EP X pins σ Q (.bool (g c)) s') X.xe) (items := #[.ref b]) (fun i s' => (i = 0 ∧ s' = s) ∨ (i = 1 ∧ ∃ H', L2.Inv X pins σ H' s' ∧ H' l = some (.lst [.ref b]) ∧ Q (.bl (g false)) H')) (fun i s' h => ?_) (fun i hi s' h => ?_) (fun s' h => ?_) (.inl ⟨rfl, rfl⟩))) (fun v s' hv => ?_) fun _ _ e => e)
  · rcases h with ⟨rfl, rfl⟩ | ⟨rfl, H', I', hl', _⟩
    · exact ⟨k, ho⟩
    · obtain ⟨z', its', k', r', ho'⟩ := I'.hok l _ hl'
      obtain ⟨u, rfl, ru⟩ := vals1 r'
      obtain rfl : u = Value.ref b := ru
      exact ⟨k', ho'⟩
  · have e0 : i = 0 := by simp at hi; omega
    subst e0
    rcases h with ⟨_, rfl⟩ | ⟨e, _⟩
    · show wpAny (model X.prog X.w) X.A.in1 (eqBool (.ref b) (.ref a)) _ _ _
      by_cases e : b = a
      · subst e
        refine SeqAt.EqAt.same (A := X.A.in1) (s := s') (.ref b) X.prog X.w _ _ ?_
        rw [if_pos rfl]
        exact ⟨_, rfl, .bl (g true), H, I, rfl, q1 rfl⟩
      · refine GQ.eqBool_refG e (wpAny_mono (rc_eqO F hb m (Sub.in1 ⟨hr, rfl⟩) I hb' ha (Q := fun c H' => H' l = some (.lst [.ref b]) ∧ Q (.bl (g c)) H') (q2 (Ne.symm e))) (fun v s2 hq => ?_) fun _ _ z => z)
        obtain ⟨c, rfl, H', I', hl', q⟩ := hq
        refine ⟨c, rfl, ?_⟩
        cases c with
        | true =>
          rw [if_pos rfl]
          exact ⟨_, rfl, .bl (g true), H', I', rfl, q⟩
        | false =>
          rw [if_neg (by decide)]
          exact .inr ⟨rfl, H', I', hl', q⟩
    · omega
  · rcases h with ⟨e, _⟩ | ⟨_, H', I', hl', q⟩
    · simp at e
    · exact ⟨_, rfl, .bl (g false), H', I', rfl, q⟩
  · obtain ⟨c, rfl, q⟩ := hv
    exact wpAny_truthy_bool q
theorem op_inO (F : FnOk X.prog X.w X.K X.mg X.base CX0 n f fd ps sp) (hb : Binds X.K fd ps []) (m : Meth X.K C "__eq__" f) (hr : Room (n + 1) X.A) : OpR X (compareOp .In) (rInO C sp id) := by
  intro pins s σ H x y v u Q I rx ry h
  show wpAny _ X.A (do return Value.bool (← contains u v)) _ _ s
  exact wpAny_bind (wpAny_mono (op_inO' F hb m hr I rx ry h) (fun b s' q => wpAny_pure q) fun _ _ z => z)
theorem op_notInO (F : FnOk X.prog X.w X.K X.mg X.base CX0 n f fd ps sp) (hb : Binds X.K fd ps []) (m : Meth X.K C "__eq__" f) (hr : Room (n + 1) X.A) : OpR X (compareOp .NotIn) (rInO C sp not) := by
  intro pins s σ H x y v u Q I rx ry h
  show wpAny _ X.A (do return Value.bool (!(← contains u v))) _ _ s
  exact wpAny_bind (wpAny_mono (op_inO' F hb m hr I rx ry h) (fun b s' q => wpAny_pure q) fun _ _ z => z)
end
end Wl

namespace Wl
open PySem PySem.Spec PyProof.Rows L2
def oD : Option Str → PyData
  | none => .none
  | some z => .str z
def rD (row : Row) : PyData := .tuple (row.map oD)
def gD (g : Grid) : PyData := .tuple (g.map rD)
theorem dp_row {K : PySem.W.Frag} {H : Hp} : ∀ row : Row, DpAll K H (row.map oV) (row.map oD)
  | [] => .nil
  | none :: r => .cons .non (dp_row r)
  | some z :: r => .cons (.str z) (dp_row r)
theorem dp_rows {K : PySem.W.Frag} {H : Hp} : ∀ {as : List Addr} {g : Grid}, RowsAt H as g → DpAll K H (as.map V.ref) (g.map rD)
  | _, _, .nil => .nil
  | _, _, .cons e t => .cons (.tup (.inl (.inl e)) (dp_row _)) (dp_rows t)
theorem dp_grid {K : PySem.W.Frag} {H : Hp} {L : Addr} {g : Grid} (h : GridAt H L g) : Dp K H (.ref L) (gD g) := by
  obtain ⟨as, hL, hR⟩ := h
  exact .tup (.inl (.inl hL)) (dp_rows hR)
theorem lay_row : ∀ {row : Row}, (∀ z ∈ rnames row, IsWd z) → PyData.canLayAll0 (row.map oD) = true
  | [], _ => by simp [PyData.canLayAll0]
  | none :: r, h => by simp [PyData.canLayAll0, oD, PyData.canLay0, lay_row (row := r) h]
  | some z :: r, h => by
    have h1 := wd_ok (h z (by simp [rnames]))
    have h2 := lay_row (row := r) fun y hy => h y (by simp only [rnames, List.filterMap_cons] at hy ⊢; exact List.mem_cons_of_mem _ hy)
    simp [PyData.canLayAll0, oD, PyData.canLay0, h1, h2]
theorem depth_row : ∀ row : Row, PyData.depthAll (row.map oD) = 0
  | [] => by simp [PyData.depthAll]
  | none :: r => by simp [PyData.depthAll, PyData.depth, oD, depth_row r]
  | some z :: r => by simp [PyData.depthAll, PyData.depth, oD, depth_row r]
theorem lay_grid : ∀ {g : Grid}, (∀ z ∈ names g, IsWd z) → PyData.canLayAll0 (g.map rD) = true
  | [], _ => by simp [PyData.canLayAll0]
  | r :: g, h => by
    rw [names_cons] at h
    have h1 := lay_row (row := r) fun z hz => h z (List.mem_append_left _ hz)
    have h2 := lay_grid (g := g) fun z hz => h z (List.mem_append_right _ hz)
    simp [PyData.canLayAll0, rD, PyData.canLay0, h1, h2]
theorem depth_grid : ∀ g : Grid, PyData.depthAll (g.map rD) ≤ 1
  | [] => by simp [PyData.depthAll]
  | r :: g => by
    have := depth_grid g
    have := depth_row r
    simp only [List.map_cons, PyData.depthAll, rD, PyData.depth]
    omega
theorem shaped_grid {g : Grid} {wd : Nat} (gd : Good g wd) : SeqAt.shaped (gD g) = true := shaped_tuple (lay_grid gd.wd) (by have := depth_grid g; omega)
theorem same_x {H0 H1 H2 : Hp} {a : Addr} (s : Same H0 H1) (x : SameX a H1 H2) (h : H0 a = none) : Same H0 H2 := fun b o e => x b o (ne_of_none e h) (s b o e)
theorem made_same {H1 H' : Hp} {x dx C : Addr} (nx : H1 x = none) (ndx : H1 dx = none) (h : ∀ b o, b ≠ x → (upd (upd H1 dx (.own x)) x (.ins C dx [])) b = some o → H' b = some o) : Same H1 H' := fun b o e => by
  have n1 : b ≠ x := ne_of_none e nx
  refine h b o n1 ?_
  rw [upd_ne n1, upd_ne (ne_of_none e ndx)]
  exact e

theorem o_eqv (a b : Option Str) : PyData.eqv (oD a) (oD b) = decide (a = b) := by
  cases a with
  | none => cases b <;> simp [oD, PyData.eqv]
  | some x =>
    cases b with
    | none => simp [oD, PyData.eqv]
    | some y =>
      simp only [oD, PyData.eqv, Option.some.injEq]
      by_cases h : x = y
      · subst h
        simp
      · rw [decide_eq_false h]
        exact beq_eq_false_iff_ne.mpr h
theorem row_eqv : ∀ r q : Row, PyData.eqvAll (r.map oD) (q.map oD) = decide (r = q)
  | [], [] => by simp [PyData.eqvAll]
  | [], _ :: _ => by simp [PyData.eqvAll]
  | _ :: _, [] => by simp [PyData.eqvAll]
  | o :: r, u :: q => by
    simp only [List.map_cons, PyData.eqvAll, o_eqv, row_eqv r q, List.cons.injEq]
    by_cases h1 : o = u <;> by_cases h2 : r = q <;> simp [h1, h2]
theorem rows_eqv : ∀ g g' : Grid, PyData.eqvAll (g.map rD) (g'.map rD) = decide (g = g')
  | [], [] => by simp [PyData.eqvAll]
  | [], _ :: _ => by simp [PyData.eqvAll]
  | _ :: _, [] => by simp [PyData.eqvAll]
  | r :: g, q :: g' => by
    simp only [List.map_cons, PyData.eqvAll, rD, PyData.eqv, row_eqv, rows_eqv g g', List.cons.injEq]
    by_cases h1 : r = q <;> by_cases h2 : g = g' <;> simp [h1, h2]
theorem grid_eqv (g g' : Grid) : PyData.eqv (gD g) (gD g') = decide (g = g') := by
  unfold gD
  simp only [PyData.eqv, rows_eqv]
/-- what the class says of itself, for isinstance and != -/
structure Txt2 (K : PySem.W.Frag) (mg : Str → Option Value) (C : Addr) : Prop where
  t : Txt K mg C
  ins : C8.InsC K C
  ne : NeC K C
theorem fs_no {m : Str} {d L : Addr} (h1 : ¬ m = "rows" := by decide +kernel) (h2 : ¬ m = "spots" := by decide +kernel) : (lf d L).lookup m = none := lf_no d L h1 h2
abbrev sEq : Stmt := inClass sCls 6
abbrev sLen : Stmt := inClass sCls 7
abbrev sStr : Stmt := inClass sCls 8
abbrev sRepr : Stmt := inClass sCls 9
section
variable {P : Program} {w : World} {K : PySem.W.Frag} {mg : Str → Option Value} {base : Heap} {f C : Addr} {fd : FuncData}
theorem LandAt.ins {H : Hp} {p L : Addr} {g : Grid} (h : LandAt C H p L g) : ∃ dx d, H p = some (.ins C dx (lf d L)) := by
  obtain ⟨d, dx, h1, _⟩ := h
  exact ⟨dx, d, h1⟩
theorem LandAt.grid {H : Hp} {p L : Addr} {g : Grid} (h : LandAt C H p L g) : GridAt H L g := by
  obtain ⟨d, dx, _, _, h3⟩ := h
  exact h3
theorem LandAt.same {H H' : Hp} {p L : Addr} {g : Grid} (h : LandAt C H p L g) (s : Same H H') : LandAt C H' p L g := h.keep (kp_same s)
/-! ### == -/
def spLEq (C : Addr) : Sp := fun vs H Q _ => ∃ (p L q M : Addr) (g g' : Grid) (wd wd' : Nat), vs = [.ref p, .ref q] ∧ LandAt C H p L g ∧ Good g wd ∧ LandAt C H q M g' ∧ Good g' wd' ∧ Q (.bl (decide (g = g'))) H
theorem scEq : FnScope ["self", "other"] ["self", "other"] (defScope sEq) := ⟨rfl, rfl, rfl, by decide +kernel, rfl, by decide +kernel, by decide +kernel⟩
theorem ok_leq (F : Fun K "__eq__" "Land.__eq__" sEq f fd) (B : Bi mg) (T : Txt2 K mg C) : FnOk P w K mg base CX0 1 f fd ["self", "other"] (spLEq C) := by
  refine F.ok scEq (fun vs H Q E h => ?_) (fun cdv A outer s H vs Q E hr h => ?_)
  · obtain ⟨p, L, q, M, g, g', wd, wd', rfl, _⟩ := h
    rfl
  · obtain ⟨p, L, q, M, g, g', wd, wd', rfl, h1, gd, h2, gd', qq⟩ := h
    refine ⟨_, pss_one (ps_ret (pe_and (pe_callB (C8.call_isC (C := C) T.ins) (by rfl) B.isi (by decide +kernel) (pa_cons (pv 1) (pa_cons (pe_glob (v := .ref C) rfl T.t.mgC rfl) pa_nil))) (pe_one (pe_cmpR (op_eqD hr.units) (pe_fld (pv 0) rfl) (pe_fld (pv 1) rfl) (nomark _))))), ?_⟩
    obtain ⟨dx, d, i1⟩ := h1.ins
    obtain ⟨dy, e, i2⟩ := h2.ins
    refine ⟨_, rfl, q, dy, _, rfl, i2, true, rfl, iteT ⟨_, rfl, p, C, dx, _, _, rfl, i1, T.t.cl, T.t.nR, lf_rows _ _, _, rfl, q, C, dy, _, _, rfl, i2, T.t.cl, T.t.nR, lf_rows _ _, _, _, dp_grid h1.grid, dp_grid h2.grid, shaped_grid gd, shaped_grid gd', ?_⟩⟩
    rw [grid_eqv]
    exact qq
/-! ### len -/
def spLLen (C : Addr) : Sp := fun vs H Q _ => ∃ (p L : Addr) (g : Grid), vs = [.ref p] ∧ LandAt C H p L g ∧ Q (.int (names g).length) H
theorem scLen : FnScope ["self"] ["self"] (defScope sLen) := ⟨rfl, rfl, rfl, by decide +kernel, rfl, by decide +kernel, by decide +kernel⟩
theorem ok_llen (F : Fun K "__len__" "Land.__len__" sLen f fd) (B : Bi mg) (T : Txt K mg C) : FnOk P w K mg base CX0 1 f fd ["self"] (spLLen C) := by
  refine F.ok scLen (fun vs H Q E h => ?_) (fun cdv A outer s H vs Q E hr h => ?_)
  · obtain ⟨p, L, g, rfl, _⟩ := h
    rfl
  · obtain ⟨p, L, g, rfl, ⟨d, dx, i1, ⟨kvs, hk, he⟩, _⟩, q⟩ := h
    refine ⟨_, pss_one (ps_ret (pe_callB call_lenD (by rfl) B.len PySem.boot_len (pa_cons (pe_fld (pv 0) rfl) pa_nil))), ?_⟩
    refine ⟨_, rfl, p, C, dx, _, _, rfl, i1, T.cl, T.nS, lf_spots _ _, d, kvs, rfl, hk, ?_⟩
    have : kvs.length = (names g).length := by
      rw [he.length, ← spG_fst g 0, List.length_map]
    rw [this]
    exact q
/-! ### repr -/
def reprS (n : Nat) : Str := ("Land(" : Str) ++ (toString (n : Int) : String) ++ (")" : Str)
def spLRepr (C : Addr) : Sp := fun vs H Q _ => ∃ (p L : Addr) (g : Grid), vs = [.ref p] ∧ LandAt C H p L g ∧ (names g).length ≤ 36 ∧ Q (.str (reprS (names g).length)) H
theorem scRepr : FnScope ["self"] ["self"] (defScope sRepr) := ⟨rfl, rfl, rfl, by decide +kernel, rfl, by decide +kernel, by decide +kernel⟩
theorem dig_len {n : Nat} (h : n ≤ 36) : ((toString (n : Int) : String) : Str).length ≤ 2 := by
  have : ∀ k : Fin 37, ((toString ((k.val : Nat) : Int) : String) : Str).length ≤ 2 := by decide +kernel
  exact this ⟨n, by omega⟩
theorem str_n (n : Nat) (h : n ≤ 36) : (((n : Nat) : Int).natAbs).log2 < 1920 := by
  have : ((n : Nat) : Int).natAbs = n := Int.natAbs_natCast n
  rw [this]
  have h2 : n.log2 ≤ n := Nat.log2_le_self n
  omega
theorem ok_lrepr (F : Fun K "__repr__" "Land.__repr__" sRepr f fd) (B : Bi mg) (T : Txt K mg C) : FnOk P w K mg base CX0 1 f fd ["self"] (spLRepr C) := by
  refine F.ok scRepr (fun vs H Q E h => ?_) (fun cdv A outer s H vs Q E hr h => ?_)
  · obtain ⟨p, L, g, rfl, _⟩ := h
    rfl
  · obtain ⟨p, L, g, rfl, ⟨d, dx, i1, ⟨kvs, hk, he⟩, _⟩, h36, q⟩ := h
    refine ⟨_, pss_one (ps_ret (pe_joined (.cons pe_str (.cons (pe_fmt (pe_callB call_lenD (by rfl) B.len PySem.boot_len (pa_cons (pe_fld (pv 0) rfl) pa_nil))) (.cons pe_str .nil))))), ?_⟩
    have ek : kvs.length = (names g).length := by
      rw [he.length, ← spG_fst g 0, List.length_map]
    refine ⟨_, rfl, by decide +kernel, _, rfl, p, C, dx, _, _, rfl, i1, T.cl, T.nS, lf_spots _ _, d, kvs, rfl, hk, .inr ⟨_, rfl, ?_, _, rfl, ?_, _, rfl, ?_, ?_⟩⟩
    · rw [ek]
      exact str_n _ h36
    · rw [ek]
      exact lzl (by rw [add_len, add_len]; have := dig_len h36; have : (Str.empty).length = 0 := rfl; have : ("Land(" : Str).length = 5 := (by decide +kernel); omega)
    · rw [ek]
      exact lzl (by rw [add_len, add_len, add_len]; have := dig_len h36; have : (Str.empty).length = 0 := rfl; have : ("Land(" : Str).length = 5 := (by decide +kernel); have : (")" : Str).length = 1 := (by decide +kernel); omega)
    · have e0 : (Str.empty ++ ("Land(" : Str)) = ("Land(" : Str) := by decide +kernel
      rw [ek]
      show Q (.str (Str.empty ++ ("Land(" : Str) ++ _ ++ (")" : Str))) H
      rw [e0]
      exact q
/-! ### str -/
def showV : V → V
  | .non => .str "-"
  | v => v
theorem sum_len {m : Nat} : ∀ {l : List Str}, (∀ z ∈ l, z.length ≤ m) → (l.map (·.length)).sum ≤ l.length * m
  | [], _ => by simp
  | z :: r, h => by
    have h1 := h z List.mem_cons_self
    have h2 := sum_len (m := m) (l := r) fun y hy => h y (List.mem_cons_of_mem _ hy)
    rw [List.map_cons, List.sum_cons, List.length_cons, Nat.succ_mul]
    omega
theorem oV_inj {o u : Option Str} (h : oV o = oV u) : o = u := by
  cases o with
  | none =>
    cases u with
    | none => rfl
    | some z => cases h
  | some y =>
    cases u with
    | none => cases h
    | some z =>
      cases h
      rfl
theorem map_oV_inj : ∀ {r q : Row}, r.map oV = q.map oV → r = q
  | [], [], _ => rfl
  | [], _ :: _, e => by simp at e
  | _ :: _, [], e => by simp at e
  | o :: r, u :: q, e => by
    simp only [List.map_cons, List.cons.injEq] at e
    rw [oV_inj e.1, map_oV_inj e.2]
theorem lines_of {H : Hp} : ∀ {as : List Addr} {g : Grid} {zs : List V}, RowsAt H as g → Each (fun (x z : V) => ∀ (pr : Addr) (row : Row), x = .ref pr → H pr = some (.tup (row.map oV)) → z = .str (lineS row)) (as.map V.ref) zs → zs = (g.map lineS).map V.str
  | [], [], [], _, _ => rfl
  | [], [], _ :: _, _, h => nomatch h
  | [], _ :: _, _, h, _ => nomatch h
  | _ :: _, [], _, h, _ => nomatch h
  | _ :: _, _ :: _, [], _, h => nomatch h
  | a :: as, r :: g, z :: zs, .cons e t, .cons e' t' => by
    rw [e' a r rfl e, lines_of t t']
    rfl
def spLStr (C : Addr) : Sp := fun vs H Q _ => ∃ (p L : Addr) (g : Grid) (wd : Nat), vs = [.ref p] ∧ LandAt C H p L g ∧ Good g wd ∧ ∀ (H' : Hp), Same H H' → Q (.str (landS g)) H'
abbrev nStr : List Str := ["self", "row", "part"]
theorem scStr : FnScope nStr ["self"] (defScope sStr) := ⟨rfl, rfl, rfl, by decide +kernel, rfl, by decide +kernel, by decide +kernel⟩
theorem ok_lstr (F : Fun K "__str__" "Land.__str__" sStr f fd) (T : Txt K mg C) (hlk : ∃ t, mg "LAKE" = some (.str "-" t)) : FnOk P w K mg base CX0 1 f fd ["self"] (spLStr C) := by
  obtain ⟨tl, gl⟩ := hlk
  refine F.ok scStr (fun vs H Q E h => ?_) (fun cdv A outer s H vs Q E hr h => ?_)
  · obtain ⟨p, L, g, wd, rfl, _⟩ := h
    rfl
  · obtain ⟨p, L, g, wd, rfl, ⟨d, dx, i1, _, as, hL, hR⟩, gd, q⟩ := h
    refine ⟨_, pss_one (ps_ret (pe_join pe_str (pe_lc (own := [("row", 1)]) (g := gName 1) (tt := tYes) (te := tM1 (fun x xs H Q => ∃ a p, ∃ ys : List Str, x = .str a ∧ xs = [.ref p] ∧ (SqL K H p (ys.map V.str) ∨ SqT K H p (ys.map V.str)) ∧ (ys.map (·.length)).sum + ys.length * a.length ≤ 16777216 ∧ Q (.str (Txt.join a ys)) H) (tC (.str " ")) (tLc (iTup K (tVar 1)) (gName 2) tYes (tIf (tB (tIsN (tVar 2))) (tC (.str "-")) (tVar 2)) [2])) rfl scStr.nd (pi_tup (pe_fld (pv 0) rfl)) (blkOk_by (N := nStr) (sc := defScope sStr) (by decide +kernel)) (fun _ _ _ _ _ => pg_name (i := 1) scStr.nd rfl (.inl rfl)) (fun _ _ _ _ _ => pts_nil)
      (fun _ _ _ _ _ => pe_join pe_str (pe_lc (own := [("part", 2)]) (g := gName 2) (tt := tYes) rfl scStr.nd (pi_tup (pv 1)) (blkOk_by (N := nStr) (sc := { kind := .function, names := [(".0", .local), ("row", .local)], isGenerator := false, isCoroutine := false }) (by decide +kernel)) (fun _ _ _ _ _ => pg_name (i := 2) scStr.nd rfl (.inl rfl)) (fun _ _ _ _ _ => pts_nil) (fun _ _ _ _ _ => pe_ifExp (pt_cmp (pc_isN (pv 2))) (pe_glob (v := .str "-") (by rfl) gl ⟨_, rfl⟩) (pv 2))))))), ?_⟩
    refine ⟨⟨_, rfl⟩, _, rfl, p, C, dx, _, _, rfl, i1, T.cl, T.nR, lf_rows _ _, L, rfl, ⟨_, .inl (.inl hL)⟩, fun D hD => ?_⟩
    have h6 : as.length ≤ 6 := by rw [hR.length]; exact gd.h6
    refine lc_rel (walk_tup (K := K) (a := L) (xs := as.map V.ref)) hD (fun _ => true) (fun x y _ => ∀ (pr : Addr) (row : Row), x = .ref pr → H pr = some (.tup (row.map oV)) → y = .str (lineS row)) (fun H' s' => .inl (.inl (s' _ _ hL))) (fun _ => rfl) (fun x H' _ _ Q' q' => q') ?_ (fun _ _ _ _ _ _ _ r => r) ?_ ?_
    · intro x H' hx _ s' Q' q'
      obtain ⟨pr, hpr, rfl⟩ := List.mem_map.mp hx
      obtain ⟨i, hi, ei⟩ := List.mem_iff_getElem.mp hpr
      obtain ⟨row, hrow, hH⟩ := hR.get (i := i) (a := pr) (by rw [List.getElem?_eq_getElem hi, ei])
      have hrm := List.mem_of_getElem? hrow
      have hr6 : row.length ≤ 6 := gd.six row hrm
      refine ⟨⟨_, rfl⟩, _, rfl, pr, rfl, ⟨_, .inl (.inl (s' _ _ hH))⟩, fun D2 hD2 => ?_⟩
      refine lc_map (walk_tup (K := K) (a := pr) (xs := row.map oV)) hD2 (fun _ => true) showV (fun H2 s2 => .inl (.inl (s2 _ _ (s' _ _ hH)))) (fun _ => rfl) (fun x H' _ _ Q' q' => q') ?_ ?_ ?_
      · intro x H2 hx2 _ _ Q2 q2
        obtain ⟨o, _, rfl⟩ := List.mem_map.mp hx2
        refine ⟨_, rfl, _, rfl, ?_⟩
        cases o with
        | none => exact iteT q2
        | some z => exact iteF ⟨_, rfl, q2⟩
      · rw [List.length_map]
        exact small1000 (by omega)
      · intro H2 s2 hD3
        have e1 : ((row.map oV).filter fun _ => true).map showV = (row.map partS).map V.str := by
          rw [List.filter_eq_self.mpr fun _ _ => rfl, List.map_map, List.map_map]
          refine List.map_congr_left fun o _ => ?_
          cases o <;> rfl
        rw [e1] at hD3
        refine ⟨_, D2, row.map partS, rfl, rfl, .inl (.inl (.inl hD3)), ?_, q' _ H2 s2 fun pr2 row2 e2 h2 => ?_⟩
        · have := sum_len (l := row.map partS) (m := 8) fun z hz => by
            obtain ⟨o, ho, rfl⟩ := List.mem_map.mp hz
            rw [TL.len_tl]
            exact (part_tl (gd.parts row hrm o ho)).1
          rw [List.length_map] at this ⊢
          have e : (" " : Str).length = 1 := by decide +kernel
          rw [e]
          omega
        · obtain rfl : pr = pr2 := V.ref.inj e2
          rw [hH] at h2
          have : row = row2 := map_oV_inj (HO.tup.inj (Option.some.inj h2))
          rw [← this]
          rfl
    · rw [List.length_map]
      exact small1000 (by omega)
    · intro zs H1 s1 hD1 he
      rw [List.filter_eq_self.mpr fun _ _ => rfl] at he
      have e1 : zs = (g.map lineS).map V.str := lines_of hR he
      rw [e1] at hD1
      refine ⟨_, D, g.map lineS, rfl, rfl, .inl (.inl (.inl hD1)), ?_, q H1 s1⟩
      have := sum_len (l := g.map lineS) (m := 54) fun z hz => by
        obtain ⟨r, hr', rfl⟩ := List.mem_map.mp hz
        exact line_len (gd.parts r hr') (gd.six r hr')
      rw [List.length_map] at this ⊢
      have e : ("\n" : Str).length = 1 := by decide +kernel
      have := gd.h6
      rw [e]
      omega
end
end Wl




namespace Wl
open PySem PySem.Spec PyProof.Rows L2
abbrev sIsWhole : Stmt := topS 29
abbrev sIsNum : Stmt := topS 30
abbrev sCheckW : Stmt := topS 32
abbrev sCheckA : Stmt := topS 57
abbrev sCheckS : Stmt := topS 58
abbrev sKeyOf : Stmt := topS 59
abbrev sGat : Stmt := topS 61
abbrev sGInit : Stmt := inClass sGat 0
abbrev sGPlace : Stmt := inClass sGat 1
abbrev sGPut : Stmt := inClass sGat 2
/-- what was told -/
structure Tel where
  v : Str
  th : Str
  wo : Str
  tl : Str
  age : Nat
  g : Str
  sure : Bool
deriving DecidableEq
def telV (t : Tel) : List V := [.str t.v, .str t.th, .str t.wo, .str t.tl, .int (t.age : Int), .str t.g, .bl t.sure]
def keyV (t : Tel) : List V := [.str t.v, .str t.tl, .str t.th, .str t.g]
structure OkT (t : Tel) : Prop where
  v : IsWd t.v
  th : IsWd t.th
  wo : IsWd t.wo
  tl : IsWd t.tl
  age : t.age ≤ 120
  g : IsWd t.g
def TelsAt (H : Hp) (as : List Addr) (ts : List Tel) : Prop := Each (fun (p : Addr) (t : Tel) => H p = some (.tup (telV t))) as ts
theorem TelsAt.keep {H H' : Hp} {as : List Addr} {ts : List Tel} (h : TelsAt H as ts) (k : TupKeep H H') : TelsAt H' as ts := Each.mono (fun p t e => k p _ e) h
section
variable {P : Program} {w : World} {K : PySem.W.Frag} {mg : Str → Option Value} {base : Heap} {f C : Addr} {fd : FuncData}
structure Bg (mg : Str → Option Value) : Prop where
  bool : mg "bool" = none
  oldest : ∃ t, mg "OLDEST" = some (.int 120 t)
  most : ∃ t, mg "MOST_TELLINGS" = some (.int 200 t)
  dot : ∃ t, mg "DOT" = some (.str "." t)
  doubt : ∃ t, mg "DOUBT" = some (.str "?" t)
/-! ### is_whole, is_number_from -/
def spIsWhole : Sp := fun vs H Q _ => ∃ (n : Int), vs = [.int n] ∧ Q (.bl true) H
theorem scIsWhole : FnScope ["thing"] ["thing"] (defScope sIsWhole) := ⟨rfl, rfl, rfl, by decide +kernel, rfl, by decide +kernel, by decide +kernel⟩
theorem ok_iswhole (F : Fun K "is_whole" "is_whole" sIsWhole f fd) (B : Bi mg) (B2 : Bg mg) : FnOk P w K mg base CX0 1 f fd ["thing"] spIsWhole := by
  refine F.ok scIsWhole (fun vs H Q E h => ?_) (fun cdv A outer s H vs Q E hr h => ?_)
  · obtain ⟨n, rfl, _⟩ := h
    rfl
  · obtain ⟨n, rfl, q⟩ := h
    refine ⟨_, pss_one (ps_ret (pe_and (pe_callB call_isi (by rfl) B.isi (by decide +kernel) (pa_cons (pv 0) (pa_cons (pe_bltn (v := .ty "int") (by rfl) B.int (by decide +kernel) rfl) pa_nil)))
      (pe_one (pe_not (pe_callB call_isi (by rfl) B.isi (by decide +kernel) (pa_cons (pv 0) (pa_cons (pe_bltn (v := .ty "bool") (by rfl) B2.bool (by decide +kernel) rfl) pa_nil))))))), ?_⟩
    refine ⟨_, rfl, _, _, _, _, _, rfl, .ty "int", .base (.int n), kit_ty (r := true) (by decide +kernel), true, rfl, iteT ?_⟩
    exact ⟨_, rfl, _, _, _, _, _, rfl, .ty "bool", .base (.int n), kit_ty (r := false) (by decide +kernel), false, rfl, q⟩
def spIsNum : Sp := fun vs H Q _ => ∃ (n lo hi : Int), vs = [.int n, .int lo, .int hi] ∧ lo ≤ n ∧ n ≤ hi ∧ Q (.bl true) H
theorem scIsNum : FnScope ["thing", "least", "most"] ["thing", "least", "most"] (defScope sIsNum) := ⟨rfl, rfl, rfl, by decide +kernel, rfl, by decide +kernel, by decide +kernel⟩
theorem ok_isnum (F : Fun K "is_number_from" "is_number_from" sIsNum f fd) (hI : Has P w K mg base "is_whole" 1 ["thing"] spIsWhole) : FnOk P w K mg base CX0 2 f fd ["thing", "least", "most"] spIsNum := by
  refine F.ok scIsNum (fun vs H Q E h => ?_) (fun cdv A outer s H vs Q E hr h => ?_)
  · obtain ⟨n, lo, hi, rfl, _⟩ := h
    rfl
  · obtain ⟨n, lo, hi, rfl, h1, h2, q⟩ := h
    refine ⟨_, pss_one (ps_ret (pe_and (pe_h hI hr (pa_cons (pv 0) pa_nil)) (pe_one (pe_chain op_le op_le (pv 1) (pv 0) (pv 2))))), ?_⟩
    refine ⟨_, rfl, n, rfl, true, rfl, iteT ?_⟩
    refine ⟨_, rfl, _, rfl, _, _, rfl, rfl, _, rfl, ?_⟩
    rw [decide_eq_true h1]
    refine iteT ⟨_, rfl, _, _, rfl, rfl, ?_⟩
    show Q (.bl (decide (n ≤ hi))) H
    rw [decide_eq_true h2]
    exact q
/-! ### check_word -/
/-! ### check_age -/
def spCheckA : Sp := fun vs H Q _ => ∃ (n : Nat), vs = [.int (n : Int)] ∧ n ≤ 120 ∧ Q .non H
theorem scCheckA : FnScope ["age"] ["age"] (defScope sCheckA) := ⟨rfl, rfl, rfl, by decide +kernel, rfl, by decide +kernel, by decide +kernel⟩
theorem ok_checka (F : Fun K "check_age" "check_age" sCheckA f fd) (B2 : Bg mg) (hI : Has P w K mg base "is_number_from" 2 ["thing", "least", "most"] spIsNum) : FnOk P w K mg base CX0 3 f fd ["age"] spCheckA := by
  obtain ⟨t, gt⟩ := B2.oldest
  refine F.ok scCheckA (fun vs H Q E h => ?_) (fun cdv A outer s H vs Q E hr h => ?_)
  · obtain ⟨z, rfl, _⟩ := h
    rfl
  · obtain ⟨n, rfl, hn, q⟩ := h
    refine ⟨_, pss_one (ps_if (pt_not (pt_val (pe_h hI hr (pa_cons (pv 0) (pa_cons pe_int (pa_cons (pe_glob (v := .int 120) rfl gt ⟨_, rfl⟩) pa_nil)))))) (pss_one ps_never) pss_nil), ?_⟩
    exact ⟨_, rfl, n, 0, 120, rfl, by omega, by omega, true, rfl, iteF q⟩
/-! ### check_sure -/
def spCheckS : Sp := fun vs H Q _ => ∃ (b : Bool), vs = [.bl b] ∧ Q .non H
theorem scCheckS : FnScope ["sure"] ["sure"] (defScope sCheckS) := ⟨rfl, rfl, rfl, by decide +kernel, rfl, by decide +kernel, by decide +kernel⟩
theorem ok_checks (F : Fun K "check_sure" "check_sure" sCheckS f fd) (B : Bi mg) (B2 : Bg mg) : FnOk P w K mg base CX0 1 f fd ["sure"] spCheckS := by
  refine F.ok scCheckS (fun vs H Q E h => ?_) (fun cdv A outer s H vs Q E hr h => ?_)
  · obtain ⟨z, rfl, _⟩ := h
    rfl
  · obtain ⟨b, rfl, q⟩ := h
    refine ⟨_, pss_one (ps_if (pt_not (pt_val (pe_callB call_isi (by rfl) B.isi (by decide +kernel) (pa_cons (pv 0) (pa_cons (pe_bltn (v := .ty "bool") (by rfl) B2.bool (by decide +kernel) rfl) pa_nil))))) (pss_one ps_never) pss_nil), ?_⟩
    exact ⟨_, rfl, _, _, _, _, _, rfl, .ty "bool", .base (.bl b), kit_ty (r := true) (by decide +kernel), true, rfl, iteF q⟩
/-! ### key_of -/
def spKeyOf : Sp := fun vs H Q _ => ∃ (p : Addr) (t : Tel), vs = [.ref p] ∧ H p = some (.tup (telV t)) ∧ ∀ u, H u = none → Q (.ref u) (upd H u (.tup (keyV t)))
theorem scKeyOf : FnScope ["telling"] ["telling"] (defScope sKeyOf) := ⟨rfl, rfl, rfl, by decide +kernel, rfl, by decide +kernel, by decide +kernel⟩
theorem ok_keyof (F : Fun K "key_of" "key_of" sKeyOf f fd) : FnOk P w K mg base CX0 1 f fd ["telling"] spKeyOf := by
  refine F.ok scKeyOf (fun vs H Q E h => ?_) (fun cdv A outer s H vs Q E hr h => ?_)
  · obtain ⟨p, t, rfl, _⟩ := h
    rfl
  · obtain ⟨p, t, rfl, hp, q⟩ := h
    refine ⟨_, pss_one (ps_ret (pe_tup (pa_cons (pe_ix ix_tup (pv 0) pe_int (fun _ _ => rfl)) (pa_cons (pe_ix ix_tup (pv 0) pe_int (fun _ _ => rfl)) (pa_cons (pe_ix ix_tup (pv 0) pe_int (fun _ _ => rfl)) (pa_cons (pe_ix ix_tup (pv 0) pe_int (fun _ _ => rfl)) pa_nil)))))), ?_⟩
    refine ⟨_, rfl, p, _, _, _, rfl, rfl, .inl (.inl hp), atI_nat (j := 0) rfl, _, rfl, p, _, _, _, rfl, rfl, .inl (.inl hp), atI_nat (j := 3) rfl, _, rfl, p, _, _, _, rfl, rfl, .inl (.inl hp), atI_nat (j := 1) rfl, _, rfl, p, _, _, _, rfl, rfl, .inl (.inl hp), atI_nat (j := 5) rfl, lz, fun u hu => q u hu⟩
end
end Wl




namespace Wl
open PySem PySem.Spec PyProof.Rows L2
/-! A Gathering on the heap. -/
def gf (l t d : Addr) : List (Str × V) := putF "deeds" (.ref d) (putF "told" (.ref t) (putF "land" (.ref l) []))
theorem gf_land (l t d : Addr) : (gf l t d).lookup ("land" : Str) = some (.ref l) := by
  unfold gf
  rw [lookup_putF, if_neg (by decide +kernel), lookup_putF, if_neg (by decide +kernel), lookup_putF, if_pos rfl]
theorem gf_told (l t d : Addr) : (gf l t d).lookup ("told" : Str) = some (.ref t) := by
  unfold gf
  rw [lookup_putF, if_neg (by decide +kernel), lookup_putF, if_pos rfl]
theorem gf_deeds (l t d : Addr) : (gf l t d).lookup ("deeds" : Str) = some (.ref d) := by
  unfold gf
  rw [lookup_putF, if_pos rfl]
theorem gf_no (l t d : Addr) {m : Str} (h1 : ¬ m = "deeds" := by decide +kernel) (h2 : ¬ m = "told" := by decide +kernel) (h3 : ¬ m = "land" := by decide +kernel) : (gf l t d).lookup m = none := by
  unfold gf
  rw [lookup_putF, if_neg h1, lookup_putF, if_neg h2, lookup_putF, if_neg h3]
  rfl
structure GR where
  pl : Addr
  L : Addr
  td : Addr
  dd : Addr
  g : Grid
  as : List Addr
  ts : List Tel
  ds : List V
structure GatAt (C D : Addr) (H : Hp) (p : Addr) (r : GR) : Prop where
  at_ : ∃ dx, H p = some (.ins D dx (gf r.pl r.td r.dd))
  land : LandAt C H r.pl r.L r.g
  told : H r.td = some (.lst (r.as.map V.ref))
  tels : TelsAt H r.as r.ts
  deeds : H r.dd = some (.lst r.ds)
  ne : r.td ≠ r.dd
theorem GatAt.same {C D : Addr} {H H' : Hp} {p : Addr} {r : GR} (h : GatAt C D H p r) (s : Same H H') : GatAt C D H' p r :=
  ⟨let ⟨dx, e⟩ := h.at_; ⟨dx, s _ _ e⟩, h.land.keep (kp_same s), s _ _ h.told, h.tels.keep (tk_same s), s _ _ h.deeds, h.ne⟩
/-- all but what stands at a and b is as it was -/
def Same2 (a b : Addr) (H H' : Hp) : Prop := ∀ c o, c ≠ a → c ≠ b → H c = some o → H' c = some o
theorem Same2.of {a b : Addr} {H H' : Hp} (s : Same H H') : Same2 a b H H' := fun c o _ _ h => s c o h
theorem Same2.trans {a b : Addr} {H H1 H2 : Hp} (s : Same2 a b H H1) (t : Same2 a b H1 H2) : Same2 a b H H2 := fun c o n m h => t c o n m (s c o n m h)
structure TxtG (K : PySem.W.Frag) (mg : Str → Option Value) (D : Addr) : Prop where
  cl : Cls K D
  nL : NoAttr K D "land"
  nT : NoAttr K D "told"
  nD : NoAttr K D "deeds"
  mgD : mg "Gathering" = some (.ref D)
def keyS (t : Tel) : List Str := [t.v, t.tl, t.th, t.g]
theorem keyV_eq (t : Tel) : keyV t = (keyS t).map V.str := rfl
theorem strs_eqv : ∀ a b : List Str, PyData.eqvAll (a.map PyData.str) (b.map PyData.str) = decide (a = b)
  | [], [] => by simp [PyData.eqvAll]
  | [], _ :: _ => by simp [PyData.eqvAll]
  | _ :: _, [] => by simp [PyData.eqvAll]
  | x :: a, y :: b => by
    have e : PyData.eqv (.str x) (.str y) = decide (x = y) := o_eqv (some x) (some y) |>.trans (by simp)
    simp only [List.map_cons, PyData.eqvAll, e, strs_eqv a b, List.cons.injEq]
    by_cases h1 : x = y <;> by_cases h2 : a = b <;> simp [h1, h2]
theorem tup_eqv (a b : List Str) : PyData.eqv (.tuple (a.map PyData.str)) (.tuple (b.map PyData.str)) = decide (a = b) := by
  simp only [PyData.eqv, strs_eqv]
theorem shaped_strs {a : List Str} (h : ∀ z ∈ a, IsWd z) : SeqAt.shaped (.tuple (a.map PyData.str)) = true := shaped_tuple (lay_strs h) (by rw [depth_strs]; omega)
theorem OkT.key {t : Tel} (h : OkT t) : ∀ z ∈ keyS t, IsWd z := fun z hz => by
  simp only [keyS, List.mem_cons, List.not_mem_nil, or_false] at hz
  rcases hz with rfl | rfl | rfl | rfl
  · exact h.v
  · exact h.tl
  · exact h.th
  · exact h.g
section
variable {P : Program} {w : World} {K : PySem.W.Frag} {mg : Str → Option Value} {base : Heap} {f C D : Addr} {fd : FuncData}
theorem land_but {H H' : Hp} {p pl L dx : Addr} {g : Grid} {fs : List (Str × V)} (h : LandAt C H pl L g) (hp : H p = some (.ins D dx fs)) (n : p ≠ pl) (k : ∀ b o, b ≠ p → H b = some o → H' b = some o) : LandAt C H' pl L g := by
  obtain ⟨d, dl, k1, ⟨kvs, k2, k3⟩, k4⟩ := h
  have tk : TupKeep H H' := fun b xs e => k b _ (ne_of e hp (by intro z; cases z)) e
  exact ⟨d, dl, k _ _ n.symm k1, ⟨kvs, k _ _ (ne_of k2 hp (by intro z; cases z)) k2, ent_keep tk k3⟩, k4.keep tk⟩
/-! ### a new one -/
def spGInit (C D : Addr) : Sp := fun vs H Q _ => ∃ (p dx pl L : Addr) (g : Grid), vs = [.ref p, .ref pl] ∧ H p = some (.ins D dx []) ∧ LandAt C H pl L g ∧ p ≠ pl ∧
  ∀ (td dd : Addr) (H' : Hp), H td = none → H dd = none → (∀ b o, b ≠ p → H b = some o → H' b = some o) → GatAt C D H' p ⟨pl, L, td, dd, g, [], [], []⟩ → Q .non H'
theorem scGInit : FnScope ["self", "land"] ["self", "land"] (defScope sGInit) := ⟨rfl, rfl, rfl, by decide +kernel, rfl, by decide +kernel, by decide +kernel⟩
theorem ok_ginit (F : Fun K "__init__" "Gathering.__init__" sGInit f fd) (B : Bi mg) (T : Txt2 K mg C) (TG : TxtG K mg D) : FnOk P w K mg base CX0 1 f fd ["self", "land"] (spGInit C D) := by
  refine F.ok scGInit (fun vs H Q E h => ?_) (fun cdv A outer s H vs Q E hr h => ?_)
  · obtain ⟨p, dx, pl, L, g, rfl, _⟩ := h
    rfl
  · obtain ⟨p, dx, pl, L, g, rfl, hp, hLa, npl, q⟩ := h
    refine ⟨_, pss_cons (ps_if (pt_not (pt_val (pe_callB (C8.call_isC (C := C) T.ins) (by rfl) B.isi (by decide +kernel) (pa_cons (pv 1) (pa_cons (pe_glob (v := .ref C) rfl T.t.mgC rfl) pa_nil))))) (pss_one ps_never) pss_nil)
      (pss_cons (ps_fld (pv 0) (pv 1) rfl) (pss_cons (ps_fld (pv 0) (pe_lst pa_nil) rfl) (pss_one (ps_fld (pv 0) (pe_lst pa_nil) rfl)))), ?_⟩
    obtain ⟨dl, d, i1⟩ := hLa.ins
    refine ⟨_, rfl, pl, dl, _, rfl, i1, true, rfl, iteF ?_⟩
    refine ⟨_, rfl, _, rfl, p, D, dx, [], rfl, hp, TG.cl, TG.nL, (by show 0 < 1000; decide), ?_⟩
    refine ⟨lz, fun td htd => ⟨_, rfl, p, D, dx, putF "land" (.ref pl) [], rfl, (same_new htd) _ _ upd_same, TG.cl, TG.nT, (by show 1 < 1000; decide), ?_⟩⟩
    refine ⟨lz, fun dd hdd => ⟨_, rfl, p, D, dx, putF "told" (.ref td) (putF "land" (.ref pl) []), rfl, (same_new hdd) _ _ upd_same, TG.cl, TG.nD, (by show 2 < 1000; decide), ?_⟩⟩
    have ntp : td ≠ p := fun e => by
      rw [e, upd_same] at htd
      cases htd
    have htd0 : H td = none := by
      rw [upd_ne ntp] at htd
      exact htd
    have ndp : dd ≠ p := fun e => by
      rw [e, upd_same] at hdd
      cases hdd
    have ndt : dd ≠ td := fun e => by
      rw [e, upd_ne ntp, upd_same] at hdd
      cases hdd
    have hdd0 : H dd = none := by
      rw [upd_ne ndp, upd_ne ndt, upd_ne ndp] at hdd
      exact hdd
    have all : ∀ b o, b ≠ p → H b = some o → upd (upd (upd (upd (upd H p (.ins D dx (putF "land" (.ref pl) []))) td (.lst [])) p (.ins D dx (putF "told" (.ref td) (putF "land" (.ref pl) [])))) dd (.lst [])) p (.ins D dx (gf pl td dd)) b = some o := fun b o n e => by
      rw [upd_ne n, upd_ne (ne_of_none e hdd0), upd_ne n, upd_ne (ne_of_none e htd0), upd_ne n]
      exact e
    refine q td dd _ htd0 hdd0 all ⟨⟨dx, upd_same⟩, ?_, ?_, .nil, ?_, ndt.symm⟩
    · exact land_but hLa hp npl all
    · rw [upd_ne ntp, upd_ne ndt.symm, upd_ne ntp, upd_same]
      rfl
    · rw [upd_ne ndp, upd_same]
/-! ### where a key stands -/
def plV (o : Option Nat) : V := match o with
  | some i => .int (i : Int)
  | none => .non
def spGPlace (C D : Addr) : Sp := fun vs H Q _ => ∃ (p kp : Addr) (r : GR) (ks : List Str), vs = [.ref p, .ref kp] ∧ GatAt C D H p r ∧ (∀ t ∈ r.ts, OkT t) ∧ r.ts.length ≤ 200 ∧ H kp = some (.tup (ks.map V.str)) ∧ (∀ z ∈ ks, IsWd z) ∧
  ∀ (H' : Hp), Same H H' → Q (plV (r.ts.findIdx? fun t => decide (keyS t = ks))) H'
abbrev nGPlace : List Str := ["self", "key", "place", "telling"]
theorem scGPlace : FnScope nGPlace ["self", "key"] (defScope sGPlace) := ⟨rfl, rfl, rfl, by decide +kernel, rfl, by decide +kernel, by decide +kernel⟩
theorem find_at {α : Type} {q : α → Bool} {l : List α} {i : Nat} {x : α} (h : l[i]? = some x) (hq : q x = true) (hn : ∀ j y, j < i → l[j]? = some y → q y = false) : l.findIdx? q = some i := by
  rw [List.findIdx?_eq_some_iff_getElem]
  obtain ⟨hi, e⟩ := List.getElem?_eq_some_iff.mp h
  refine ⟨hi, by rw [e]; exact hq, fun j hj => ?_⟩
  rw [hn j _ hj (List.getElem?_eq_getElem (by omega))]
  decide
theorem ok_gplace (F : Fun K "place_of" "Gathering.place_of" sGPlace f fd) (B : Bi mg) (TG : TxtG K mg D) (hK : Has P w K mg base "key_of" 1 ["telling"] spKeyOf) : FnOk P w K mg base CX0 2 f fd ["self", "key"] (spGPlace C D) := by
  refine F.ok scGPlace (fun vs H Q E h => ?_) (fun cdv A outer s H vs Q E hr h => ?_)
  · obtain ⟨p, kp, r, ks, rfl, _⟩ := h
    rfl
  · obtain ⟨p, kp, r, ks, rfl, hG, hok, h200, hk, hkw, q⟩ := h
    refine ⟨_, pss_cons (ps_for PassesOwn.never rfl (pi_enum (by rfl) B.enum (pa_cons (pe_fld (pv 0) rfl) pa_nil)) (pg_tup rfl (pgs_cons (pg_name (i := 2) scGPlace.nd rfl (.inl rfl)) (pgs_cons (pg_name (i := 3) scGPlace.nd rfl (.inl rfl)) pgs_nil)))
        (pss_one (ps_if (pt_cmpR (op_eqD hr.units) (pe_h hK hr (pa_cons (pv 3) pa_nil)) (pv 1) (nomark _)) (pss_one (ps_ret (pv 2))) pss_nil)))
      (pss_one (ps_ret pe_non)), ?_⟩
    obtain ⟨dx, hp⟩ := hG.at_
    refine ⟨_, rfl, p, D, dx, _, _, rfl, hp, TG.cl, TG.nT, gf_told _ _ _, r.td, _, rfl, .inl (.inl hG.told), for_it (walk_enum (K := K) (a := r.td) (xs := r.as.map V.ref)) (fun i σ H' => (∃ y2 y3, σ = [some (.ref p), some (.ref kp), y2, y3]) ∧ Same H H' ∧ ∀ j t, j < i → r.ts[j]? = some t → keyS t ≠ ks)
      ⟨⟨_, _, rfl⟩, Same.refl H, fun j t hj => absurd hj (Nat.not_lt_zero _)⟩ (fun i σ H' _ h => .inl (.inl (h.2.1 _ _ hG.told))) ?_ ?_⟩
    · rintro i x σ H1 H2 hi ⟨⟨y2, y3, rfl⟩, s1, hno⟩ ⟨T, x1, x2, rfl, hT, rfl, ex1, ex2⟩
      have ex1 : (some (V.int (i : Nat)) : Option V) = some x1 := ex1
      cases ex1
      have ex2 : (r.as.map V.ref)[i]? = some x2 := ex2
      rw [List.getElem?_map] at ex2
      obtain ⟨pt, hpt, rfl⟩ := Option.map_eq_some_iff.mp ex2
      obtain ⟨t, ht, hpt1⟩ := Each.get hG.tels hpt
      have okt := hok t (List.mem_of_getElem? ht)
      have sT : Same H1 (upd H1 T (.tup [V.int (i : Nat), .ref pt])) := same_new hT
      refine ⟨T, _, rfl, .inl (.inl upd_same), rfl, _, _, rfl, _, _, rfl, rfl, ?_⟩
      have s2 := s1.trans sT
      generalize upd H1 T (.tup [V.int (i : Nat), .ref pt]) = H2 at s2
      refine ⟨_, rfl, pt, t, rfl, s2 _ _ hpt1, fun u hu => ?_⟩
      have s3 := same_new (o := .tup (keyV t)) hu
      refine ⟨_, rfl, .tuple ((keyS t).map .str), .tuple (ks.map .str), .tup (.inl (.inl upd_same)) (dp_strs (keyS t)), .tup (.inl (.inl (s3 _ _ (s2 _ _ hk)))) (dp_strs ks), shaped_strs okt.key, shaped_strs hkw, _, rfl, ?_⟩
      rw [tup_eqv]
      refine ite_b (fun e => ?_) (fun e => ?_)
      · refine ⟨_, rfl, ?_⟩
        have := q _ (s2.trans s3)
        rw [find_at ht e fun j y hj hy => decide_eq_false (hno j y hj hy)] at this
        exact this
      · refine ⟨⟨_, _, rfl⟩, s2.trans s3, fun j y hj hy => ?_⟩
        by_cases c : j = i
        · subst c
          rw [ht] at hy
          cases hy
          exact of_decide_eq_false e
        · exact hno j y (by omega) hy
    · rintro σ H1 ⟨⟨y2, y3, rfl⟩, s1, hno⟩
      have e : (r.ts.findIdx? fun t => decide (keyS t = ks)) = none := by
        rw [List.findIdx?_eq_none_iff]
        intro t ht
        obtain ⟨j, hj, ej⟩ := List.mem_iff_getElem.mp ht
        refine decide_eq_false (hno j t ?_ (by rw [List.getElem?_eq_getElem hj, ej]))
        rw [List.length_map]
        have := hG.tels.length
        omega
      have := q H1 s1
      rw [e] at this
      exact this
end
end Wl




namespace Wl
open PySem PySem.Spec PyProof.Rows L2
abbrev psPut : List Str := ["self", "village", "thing", "word", "teller", "age", "gatherer", "sure"]
abbrev nPut : List Str := ["self", "village", "thing", "word", "teller", "age", "gatherer", "sure", "key"]
theorem scPut : FnScope nPut psPut (defScope sGPut) := ⟨rfl, rfl, rfl, by decide +kernel, rfl, by decide +kernel, by decide +kernel⟩
def GR.add (r : GR) (q : Addr) (t : Tel) : GR := { r with as := r.as ++ [q], ts := r.ts ++ [t], ds := r.ds ++ [.non] }
section
variable {P : Program} {w : World} {K : PySem.W.Frag} {mg : Str → Option Value} {base : Heap} {f C D : Addr} {fd : FuncData}
/-- put: the last two may be left out -/
abbrev FunP (K : PySem.W.Frag) (f : Addr) (fd : FuncData) : Prop := FunD K "put" "Gathering.put" (defArgs sGPut) (defBody sGPut) (defScope sGPut) [.str "self", .bl true] [] f fd
theorem okD {x qual : Str} {params : Arguments} {body : List Stmt} {scope : Scope} {dvs : List V} {N ps : List Str} {k : Nat} {sp : Sp} (F : FunD K x qual params body scope dvs [] f fd) (S : FnScope N ps scope) (len : ∀ vs H Q E, sp vs H Q E → vs.length = ps.length)
    (hbody : ∀ (cdv : Value) (A : Around) (outer : List Env) (s : Shared) (H : Hp) (vs : List V) (Q : VK) (E : XK), Room k (A.deeper (envOfC qual scope s.heap.objs.size f cdv)) → sp vs H Q E →
      ∃ t, PSs (cxOf CX0 P w K mg base N qual scope f cdv A outer s H E).nox body t ∧ t { nx := fun _ H' => Q .non H', rt := Q } (start N vs) H) : FnOk P w K mg base CX0 (k + 1) f fd ps sp :=
  F.ok S len fun cdv A outer s H vs Q E hr hsp => let ⟨t, h, q⟩ := hbody cdv A outer s H vs Q E hr hsp; ⟨t, h.nox, q⟩
def spPut (C D : Addr) : Sp := fun vs H Q _ => ∃ (p : Addr) (r : GR) (wd : Nat) (t : Tel), vs = .ref p :: telV t ∧ GatAt C D H p r ∧ Good r.g wd ∧ (∀ u ∈ r.ts, OkT u) ∧ OkT t ∧ t.v ∈ names r.g ∧ keyS t ∉ r.ts.map keyS ∧ r.ts.length < 200 ∧ r.ds.length < 1000 ∧
  ∀ (q : Addr) (H' : Hp), H q = none → Same2 r.td r.dd H H' → GatAt C D H' p (r.add q t) → Q .non H'
theorem find_no {l : List Tel} {t : Tel} (h : keyS t ∉ l.map keyS) : (l.findIdx? fun u => decide (keyS u = keyS t)) = none := by
  rw [List.findIdx?_eq_none_iff]
  intro u hu
  exact decide_eq_false fun e => h (List.mem_map.mpr ⟨u, hu, e⟩)
theorem ok_put (F : FunP K f fd) (B : Bi mg) (B2 : Bg mg) (T : Txt K mg C) (TG : TxtG K mg D) (hCk : HasM P w K mg base C "check_name" 2 ["self", "name"] (spCheck C)) (hW : Has P w K mg base "check_word" 2 ["word"] spCheckW)
    (hA : Has P w K mg base "check_age" 3 ["age"] spCheckA) (hS : Has P w K mg base "check_sure" 1 ["sure"] spCheckS) (hP : HasM P w K mg base D "place_of" 2 ["self", "key"] (spGPlace C D)) : FnOk P w K mg base CX0 4 f fd psPut (spPut C D) := by
  obtain ⟨t200, g200⟩ := B2.most
  refine okD F scPut (fun vs H Q E h => ?_) (fun cdv A outer s H vs Q E hr h => ?_)
  · obtain ⟨p, r, wd, t, rfl, _⟩ := h
    rfl
  · obtain ⟨p, r, wd, t, rfl, hG, gd, hok, okt, hv, hnew, h200, hds, q⟩ := h
    refine ⟨_, pss_cons (ps_expr (pe_hm hCk T.cl hr (pe_fld (pv 0) rfl) (pa_cons (pv 1) pa_nil)))
      (pss_cons (ps_expr (pe_h hW hr (pa_cons (pv 2) pa_nil)))
      (pss_cons (ps_expr (pe_h hW hr (pa_cons (pv 3) pa_nil)))
      (pss_cons (ps_expr (pe_h hW hr (pa_cons (pv 4) pa_nil)))
      (pss_cons (ps_expr (pe_h hA hr (pa_cons (pv 5) pa_nil)))
      (pss_cons (ps_expr (pe_h hW hr (pa_cons (pv 6) pa_nil)))
      (pss_cons (ps_expr (pe_h hS hr (pa_cons (pv 7) pa_nil)))
      (pss_cons (ps_set (i := 8) scPut.nd rfl (.inl rfl) (pe_tup (pa_cons (pv 1) (pa_cons (pv 4) (pa_cons (pv 2) (pa_cons (pv 6) pa_nil))))))
      (pss_cons (ps_if (pt_cmp (pc_notN (pe_hm hP TG.cl hr (pv 0) (pa_cons (pv 8) pa_nil)))) (pss_one ps_never) pss_nil)
      (pss_cons (ps_if (pt_cmpR op_ge (pe_callB call_len_seq (by rfl) B.len PySem.boot_len (pa_cons (pe_fld (pv 0) rfl) pa_nil)) (pe_glob (v := .int 200) rfl g200 ⟨_, rfl⟩) (nomark _)) (pss_one ps_never) pss_nil)
      (pss_cons (ps_expr (pe_bm PySem.F.plainAttrs_list PySem.F.slot_list_append PySem.F.type_list_append mt_append (pe_fld (pv 0) rfl) (pa_cons (pe_tup (pa_cons (pv 1) (pa_cons (pv 2) (pa_cons (pv 3) (pa_cons (pv 4) (pa_cons (pv 5) (pa_cons (pv 6) (pa_cons (pv 7) pa_nil)))))))) pa_nil)))
      (pss_one (ps_expr (pe_bm PySem.F.plainAttrs_list PySem.F.slot_list_append PySem.F.type_list_append mt_append (pe_fld (pv 0) rfl) (pa_cons pe_non pa_nil)))))))))))))), ?_⟩
    obtain ⟨dx, hp⟩ := hG.at_
    obtain ⟨dl, d, hl⟩ := hG.land.ins
    refine ⟨_, rfl, p, D, dx, _, _, rfl, hp, TG.cl, TG.nL, gf_land _ _ _, r.pl, dl, _, rfl, hl, fs_no, _, rfl, r.pl, r.L, r.g, wd, t.v, rfl, hG.land, gd, hv, fun H1 s1 => ?_⟩
    refine ⟨_, rfl, t.th, rfl, okt.th, fun H2 s2 => ?_⟩
    refine ⟨_, rfl, t.wo, rfl, okt.wo, fun H3 s3 => ?_⟩
    refine ⟨_, rfl, t.tl, rfl, okt.tl, fun H4 s4 => ?_⟩
    refine ⟨_, rfl, t.age, rfl, okt.age, ?_⟩
    refine ⟨_, rfl, t.g, rfl, okt.g, fun H5 s5 => ?_⟩
    refine ⟨_, rfl, t.sure, rfl, ?_⟩
    have s15 := ((s1.trans s2).trans (s3.trans s4)).trans s5
    refine ⟨_, rfl, _, rfl, _, rfl, _, rfl, lz, fun kp hkp => ?_⟩
    have s6 := same_new (o := .tup [V.str t.v, V.str t.tl, V.str t.th, V.str t.g]) hkp
    have hkp6 : upd H5 kp (.tup [V.str t.v, V.str t.tl, V.str t.th, V.str t.g]) kp = some (.tup ((keyS t).map V.str)) := upd_same
    have s16 := s15.trans s6
    have hG6 := hG.same s16
    generalize upd H5 kp (.tup [V.str t.v, V.str t.tl, V.str t.th, V.str t.g]) = H6 at hkp6 s16 hG6
    obtain ⟨dx6, hp6⟩ := hG6.at_
    refine ⟨_, rfl, p, dx6, _, rfl, hp6, gf_no _ _ _, _, rfl, p, kp, r, keyS t, rfl, hG6, hok, by omega, hkp6, okt.key, fun H7 s7 => ?_⟩
    rw [find_no hnew]
    refine ⟨_, rfl, iteF ?_⟩
    have hG7 := hG6.same s7
    obtain ⟨dx7, hp7⟩ := hG7.at_
    have hlen : r.as.length = r.ts.length := hG.tels.length
    refine ⟨_, rfl, p, D, dx7, _, _, rfl, hp7, TG.cl, TG.nT, gf_told _ _ _, r.td, _, rfl, .inl (.inl (.inl hG7.told)), _, _, rfl, rfl, _, rfl, ?_⟩
    have hno : decide ((200 : Int) ≤ ((r.as.map V.ref).length : Int)) = false := decide_eq_false (by rw [List.length_map]; omega)
    rw [hno]
    refine iteF ⟨_, rfl, p, D, dx7, _, _, rfl, hp7, TG.cl, TG.nT, gf_told _ _ _, .inl ⟨rfl, _, .inl (.inl hG7.told)⟩, _, rfl, _, rfl, _, rfl, _, rfl, _, rfl, _, rfl, _, rfl, lz, fun qa hqa => ?_⟩
    have s8 := same_new (o := .tup [V.str t.v, V.str t.th, V.str t.wo, V.str t.tl, V.int (t.age : Int), V.str t.g, V.bl t.sure]) hqa
    have hG8 := hG7.same s8
    have hqa8 : upd H7 qa (.tup [V.str t.v, V.str t.th, V.str t.wo, V.str t.tl, V.int (t.age : Int), V.str t.g, V.bl t.sure]) qa = some (.tup (telV t)) := upd_same
    have s18 := s16.trans (s7.trans s8)
    have hqa0 : H qa = none := (s16.trans s7).free hqa
    refine ⟨r.td, _, _, rfl, rfl, hG8.told, by rw [List.length_map]; exact small1000 (by omega), ?_⟩
    obtain ⟨dx8, hp8⟩ := hG8.at_
    have hd8 := hG8.deeds
    have ht8 := hG8.told
    generalize upd H7 qa (.tup [V.str t.v, V.str t.th, V.str t.wo, V.str t.tl, V.int (t.age : Int), V.str t.g, V.bl t.sure]) = H8 at hG8 hqa8 s18 hp8 hd8 ht8
    have k9 : Keep H8 (upd H8 r.td (.lst (r.as.map V.ref ++ [.ref qa]))) := kp_upd ht8
    have hp9 := k9 _ _ (fun xs e => by cases e) hp8
    have hd9 : upd H8 r.td (.lst (r.as.map V.ref ++ [.ref qa])) r.dd = some (.lst r.ds) := by
      rw [upd_ne hG.ne.symm]
      exact hd8
    have ht9 : upd H8 r.td (.lst (r.as.map V.ref ++ [.ref qa])) r.td = some (.lst (r.as.map V.ref ++ [.ref qa])) := upd_same
    have m9 : Same2 r.td r.dd H8 (upd H8 r.td (.lst (r.as.map V.ref ++ [.ref qa]))) := fun c o n _ e => by
      rw [upd_ne n]
      exact e
    generalize upd H8 r.td (.lst (r.as.map V.ref ++ [.ref qa])) = H9 at k9 hp9 hd9 ht9 m9
    refine ⟨_, rfl, p, D, dx8, _, _, rfl, hp9, TG.cl, TG.nD, gf_deeds _ _ _, .inl ⟨rfl, _, .inl (.inl hd9)⟩, r.dd, _, _, rfl, rfl, hd9, small1000 (by omega), ?_⟩
    have k10 : Keep H9 (upd H9 r.dd (.lst (r.ds ++ [.non]))) := kp_upd hd9
    have kk := k9.trans k10
    refine q qa _ hqa0 ?_ ⟨⟨dx8, k10 _ _ (fun xs e => by cases e) hp9⟩, hG8.land.keep kk, ?_, ?_, upd_same, hG.ne⟩
    · refine (Same2.of s18).trans (m9.trans fun c o _ n e => ?_)
      rw [upd_ne n]
      exact e
    · show upd H9 r.dd (.lst (r.ds ++ [.non])) r.td = some (.lst ((r.as ++ [qa]).map V.ref))
      rw [upd_ne hG.ne, ht9, List.map_append]
      rfl
    · exact Each.append (hG8.tels.keep kk.tk) (.cons (kk.tk _ _ hqa8) .nil)
end
end Wl




namespace Wl
open PySem PySem.Spec PyProof.Rows L2
/-! o.m(e, .., k = v, ..) of a method that may leave some out. -/
def tMethN (C : Addr) (m : Str) (n j : Nat) (sp : Sp) (gV : List V → List V → List V) (E : XK) (ta : TE) (t tk : TA) : TE := fun σ H Q => ta σ H fun x H1 =>
  ∃ a dx fs, x = .ref a ∧ H1 a = some (.ins C dx fs) ∧ fs.lookup m = none ∧ t σ H1 fun vs H2 => tk σ H2 fun zs H3 => vs.length = n ∧ zs.length = j ∧ sp (gV (.ref a :: vs) zs) H3 Q E
section
variable {X : Cx} {CX : CXT} {k n : Nat} {f C : Addr} {fd : FuncData} {ps ks : List Str} {sp : Sp} {E : XK} {m : Str} {pos apos : Pos} {o e : Expr} {es : List Expr} {kws : List Keyword} {ta : TE} {t tk : TA} {pl : Sem Bool} {g : List Value → List Value → List Value} {gV : List V → List V → List V}
theorem pe_methN0 (he : PE X o ta) (c : Cls X.K C) (hm : Meth X.K C m f) (F : FnOk X.prog X.w X.K X.mg X.base CX k f fd ps sp) (hr : Room k X.A) (hb : KBn X.K fd ps 1 ks g gV) (hx : Passes CX X E) (hkw : PK X kws tk)
    (hall : (backToKw pos (keywordEach kws X.env)).all (·.1.isSome) = true := by rfl) (hks : (backToKw pos (keywordEach kws X.env)).filterMap (·.1) = ks := by rfl)
    (hpl : ((backTo pos (starEach [] X.env)).any (·.1) || (backToKw pos (keywordEach kws X.env)).any (·.1.isNone)) = false := by rfl)
    (ht : eval (.Call (.Attribute o m apos) [] kws pos) X.env = (do
      let ov ← eval o X.env
      standAt apos.atName
      let (f, first) ← holding [ov] (getMethod ov m pl)
      callWith pos f first (backTo pos (starEach [] X.env)) (backToKw pos (keywordEach kws X.env))) := by rfl) :
    PE X (.Call (.Attribute o m apos) [] kws pos) (tMethN C m 0 ks.length sp gV E ta tNil tk) := by
  refine ⟨fun pins s σ H Q I h => ?_⟩
  refine PySem.W.methodCall_KW (pl := pl) (thn (he.run pins s σ H _ I h) fun u s1 ⟨x, H1, I1, rx, a, dx, fs, ex, ea, l, q⟩ => ?_) ht
  subst ex
  obtain rfl : u = Value.ref a := rx
  refine getmeth_ok I1 ea c hm l ?_
  refine PySem.W.callWith_KW0 (first := [.ref a]) (h₀ := X.base) I.ok.mod.kin hm.kp hall (thn (hkw.run pos pins s1 σ H1 _ I1 q) fun ws s2 ⟨zs, H2, I2, rz, _, l2, q2⟩ => ⟨I2.kIn, ?_⟩) hpl
  rw [hks]
  exact run_fnN (us := [.ref a]) (vs := [.ref a]) F hr hb hx I2 (.cons rfl .nil) rz rfl l2 q2
theorem pe_methN (he : PE X o ta) (c : Cls X.K C) (hm : Meth X.K C m f) (F : FnOk X.prog X.w X.K X.mg X.base CX k f fd ps sp) (hr : Room k X.A) (hb : KBn X.K fd ps (n + 1) ks g gV) (hx : Passes CX X E) (ha : PA X (e :: es) t) (hkw : PK X kws tk)
    (hall : (backToKw pos (keywordEach kws X.env)).all (·.1.isSome) = true := by rfl) (hks : (backToKw pos (keywordEach kws X.env)).filterMap (·.1) = ks := by rfl)
    (hst : starEach (e :: es) X.env = (false, eval e X.env) :: starEach es X.env := by rfl)
    (hpl : ((backTo pos (starEach (e :: es) X.env)).any (·.1) || (backToKw pos (keywordEach kws X.env)).any (·.1.isNone)) = false := by rfl)
    (ht : eval (.Call (.Attribute o m apos) (e :: es) kws pos) X.env = (do
      let ov ← eval o X.env
      standAt apos.atName
      let (f, first) ← holding [ov] (getMethod ov m pl)
      callWith pos f first (backTo pos (starEach (e :: es) X.env)) (backToKw pos (keywordEach kws X.env))) := by rfl) :
    PE X (.Call (.Attribute o m apos) (e :: es) kws pos) (tMethN C m n ks.length sp gV E ta t tk) := by
  refine ⟨fun pins s σ H Q I h => ?_⟩
  refine PySem.W.methodCall_KW (pl := pl) (thn (he.run pins s σ H _ I h) fun u s1 ⟨x, H1, I1, rx, a, dx, fs, ex, ea, l, q⟩ => ?_) ht
  subst ex
  obtain rfl : u = Value.ref a := rx
  refine getmeth_ok I1 ea c hm l ?_
  refine PySem.W.callWith_KW (first := [.ref a]) (h₀ := X.base) I.ok.mod.kin hm.kp hall (thn (ha.run pos pins s1 σ H1 _ I1 q) fun us s2 ⟨vs, H2, I2, r, q2⟩ => ?_) hpl hst
  refine thn (hkw.run pos pins s2 σ H2 _ I2 q2) fun ws s3 ⟨zs, H3, I3, rz, l1, l2, q3⟩ => ⟨I3.kIn, ?_⟩
  rw [hks]
  exact run_fnN (us := .ref a :: us) (vs := .ref a :: vs) F hr hb hx I3 (.cons rfl r) rz (by rw [List.length_cons, l1]) l2 q3
end
/-! the ways to call put -/
/-- age, village, gatherer, word, teller, thing; sure left out -/
def gP1 {α : Type} : List α → List α → List α → List α
  | [s], [_, b], [ag, v, g, w, tl, th] => [s, v, th, w, tl, ag, g, b]
  | _, _, _ => []
/-- five by place, sure by name -/
def gP2 {α : Type} : List α → List α → List α → List α
  | [s, v, th, w, tl, ag], [g, _], [b] => [s, v, th, w, tl, ag, g, b]
  | _, _, _ => []
/-- all by name: sure, gatherer, age, teller, word, thing, village -/
def gP3 {α : Type} : List α → List α → List α → List α
  | [s], [_, _], [b, g, ag, tl, w, th, v] => [s, v, th, w, tl, ag, g, b]
  | _, _, _ => []
theorem gP1_rel {vs ds zs : List V} {us its ws : List Value} (r1 : Vals vs us) (r2 : Vals ds its) (r3 : Vals zs ws) : Vals (gP1 vs ds zs) (gP1 us its ws) := by
  rcases r1 with _ | ⟨a1, _ | ⟨_, _⟩⟩
  · exact .nil
  · rcases r2 with _ | ⟨b1, _ | ⟨b2, _ | ⟨_, _⟩⟩⟩
    · exact .nil
    · exact .nil
    · rcases r3 with _ | ⟨c1, _ | ⟨c2, _ | ⟨c3, _ | ⟨c4, _ | ⟨c5, _ | ⟨c6, _ | ⟨_, _⟩⟩⟩⟩⟩⟩⟩
      all_goals first | exact .nil | exact .cons a1 (.cons c2 (.cons c6 (.cons c4 (.cons c5 (.cons c1 (.cons c3 (.cons b2 .nil)))))))
    · exact .nil
  · exact .nil
theorem gP2_rel {vs ds zs : List V} {us its ws : List Value} (r1 : Vals vs us) (r2 : Vals ds its) (r3 : Vals zs ws) : Vals (gP2 vs ds zs) (gP2 us its ws) := by
  rcases r1 with _ | ⟨a1, _ | ⟨a2, _ | ⟨a3, _ | ⟨a4, _ | ⟨a5, _ | ⟨a6, _ | ⟨_, _⟩⟩⟩⟩⟩⟩⟩
  all_goals first | exact .nil | skip
  rcases r2 with _ | ⟨b1, _ | ⟨b2, _ | ⟨_, _⟩⟩⟩
  all_goals first | exact .nil | skip
  rcases r3 with _ | ⟨c1, _ | ⟨_, _⟩⟩
  all_goals first | exact .nil | exact .cons a1 (.cons a2 (.cons a3 (.cons a4 (.cons a5 (.cons a6 (.cons b1 (.cons c1 .nil)))))))
theorem gP3_rel {vs ds zs : List V} {us its ws : List Value} (r1 : Vals vs us) (r2 : Vals ds its) (r3 : Vals zs ws) : Vals (gP3 vs ds zs) (gP3 us its ws) := by
  rcases r1 with _ | ⟨a1, _ | ⟨_, _⟩⟩
  all_goals first | exact .nil | skip
  rcases r2 with _ | ⟨b1, _ | ⟨b2, _ | ⟨_, _⟩⟩⟩
  all_goals first | exact .nil | skip
  rcases r3 with _ | ⟨c1, _ | ⟨c2, _ | ⟨c3, _ | ⟨c4, _ | ⟨c5, _ | ⟨c6, _ | ⟨c7, _ | ⟨_, _⟩⟩⟩⟩⟩⟩⟩⟩
  all_goals first | exact .nil | exact .cons a1 (.cons c7 (.cons c6 (.cons c5 (.cons c4 (.cons c3 (.cons c2 (.cons c1 .nil)))))))
section
variable {K : PySem.W.Frag} {f : Addr} {fd : FuncData}
theorem put_b8 (F : FunP K f fd) : Binds K fd psPut [] := by
  obtain ⟨ds, h1, h2⟩ := F.binds1 (ps := psPut) 8 2 (by simp) rfl (fun T kV doc pm an cdv ct us its l1 l2 => by
      match us, its, l1, l2 with
      | [_, _, _, _, _, _, _, _], [_, _], _, _ => exact ⟨_, rfl, rfl⟩)
  cases h1
  exact h2
theorem put_b6 (F : FunP K f fd) : ∃ ds, Vals [V.str "self", V.bl true] ds ∧ Binds K fd psPut ds :=
  F.binds1 (ps := psPut) 6 0 (by simp) rfl (fun T kV doc pm an cdv ct us its l1 l2 => by
      match us, its, l1, l2 with
      | [_, _, _, _, _, _], [_, _], _, _ => exact ⟨_, rfl, rfl⟩)
theorem put_k1 (F : FunP K f fd) : ∃ its : List Value, KBn K fd psPut 1 ["age", "village", "gatherer", "word", "teller", "thing"] (fun us ws => gP1 us its ws) (fun vs zs => gP1 vs [.str "self", .bl true] zs) :=
  F.kbindsD 1 _ gP1 (by simp) gP1_rel (fun T kV doc pm an cdv ct us its ws l1 l2 l3 => by
      match us, its, ws, l1, l2, l3 with
      | [_], [_, _], [_, _, _, _, _, _], _, _, _ => exact ⟨_, rfl, rfl⟩)
theorem put_k2 (F : FunP K f fd) : ∃ its : List Value, KBn K fd psPut 6 ["sure"] (fun us ws => gP2 us its ws) (fun vs zs => gP2 vs [.str "self", .bl true] zs) :=
  F.kbindsD 6 _ gP2 (by simp) gP2_rel (fun T kV doc pm an cdv ct us its ws l1 l2 l3 => by
      match us, its, ws, l1, l2, l3 with
      | [_, _, _, _, _, _], [_, _], [_], _, _, _ => exact ⟨_, rfl, rfl⟩)
theorem put_k3 (F : FunP K f fd) : ∃ its : List Value, KBn K fd psPut 1 ["sure", "gatherer", "age", "teller", "word", "thing", "village"] (fun us ws => gP3 us its ws) (fun vs zs => gP3 vs [.str "self", .bl true] zs) :=
  F.kbindsD 1 _ gP3 (by simp) gP3_rel (fun T kV doc pm an cdv ct us its ws l1 l2 l3 => by
      match us, its, ws, l1, l2, l3 with
      | [_], [_, _], [_, _, _, _, _, _, _], _, _, _ => exact ⟨_, rfl, rfl⟩)
end
end Wl




namespace Wl
open PySem PySem.Spec PyProof.Rows L2
abbrev sTelRow : Stmt := topS 60
abbrev sGLen : Stmt := inClass sGat 11
abbrev sGStr : Stmt := inClass sGat 12
abbrev sGRepr : Stmt := inClass sGat 13
def ageS (n : Nat) : Str := (toString (n : Int) : String)
def partsS (t : Tel) : List Str := [t.v, t.th, t.wo, t.tl, ageS t.age, t.g]
def rowS (t : Tel) : Str := Txt.join (" " : Str) (if t.sure = true then partsS t else partsS t ++ [("?" : Str)])
theorem age_len {n : Nat} (h : n ≤ 120) : (ageS n).length ≤ 3 := by
  have : ∀ k : Fin 121, (ageS k.val).length ≤ 3 := by decide +kernel
  exact this ⟨n, by omega⟩
theorem age_log {n : Nat} (h : n ≤ 120) : (((n : Nat) : Int).natAbs).log2 < 1920 := by
  have : ((n : Nat) : Int).natAbs = n := Int.natAbs_natCast n
  rw [this]
  have h2 : n.log2 ≤ n := Nat.log2_le_self n
  omega
theorem parts_len {t : Tel} (h : OkT t) : ∀ z ∈ partsS t ++ [("?" : Str)], z.length ≤ 8 := fun z hz => by
  simp only [partsS, List.cons_append, List.nil_append, List.mem_cons, List.not_mem_nil, or_false] at hz
  rcases hz with rfl | rfl | rfl | rfl | rfl | rfl | rfl
  · exact h.v.len.2
  · exact h.th.len.2
  · exact h.wo.len.2
  · exact h.tl.len.2
  · have := age_len h.age
    omega
  · exact h.g.len.2
  · decide +kernel
section
variable {P : Program} {w : World} {K : PySem.W.Frag} {mg : Str → Option Value} {base : Heap} {f C D : Addr} {fd : FuncData}
/-! ### len -/
def spGLen (C D : Addr) : Sp := fun vs H Q _ => ∃ (p : Addr) (r : GR), vs = [.ref p] ∧ GatAt C D H p r ∧ Q (.int r.ts.length) H
theorem scGLen : FnScope ["self"] ["self"] (defScope sGLen) := ⟨rfl, rfl, rfl, by decide +kernel, rfl, by decide +kernel, by decide +kernel⟩
theorem ok_glen (F : Fun K "__len__" "Gathering.__len__" sGLen f fd) (B : Bi mg) (TG : TxtG K mg D) : FnOk P w K mg base CX0 1 f fd ["self"] (spGLen C D) := by
  refine F.ok scGLen (fun vs H Q E h => ?_) (fun cdv A outer s H vs Q E hr h => ?_)
  · obtain ⟨p, r, rfl, _⟩ := h
    rfl
  · obtain ⟨p, r, rfl, hG, q⟩ := h
    refine ⟨_, pss_one (ps_ret (pe_callB call_len_seq (by rfl) B.len PySem.boot_len (pa_cons (pe_fld (pv 0) rfl) pa_nil))), ?_⟩
    obtain ⟨dx, hp⟩ := hG.at_
    refine ⟨_, rfl, p, D, dx, _, _, rfl, hp, TG.cl, TG.nT, gf_told _ _ _, r.td, _, rfl, .inl (.inl (.inl hG.told)), ?_⟩
    rw [List.length_map, hG.tels.length]
    exact q
/-! ### a telling's row -/
def spTelRow : Sp := fun vs H Q _ => ∃ (p : Addr) (t : Tel), vs = [.ref p] ∧ H p = some (.tup (telV t)) ∧ OkT t ∧ ∀ (H' : Hp), Same H H' → Q (.str (rowS t)) H'
abbrev nTelRow : List Str := ["telling", "village", "thing", "word", "teller", "age", "gatherer", "sure", "parts"]
theorem scTelRow : FnScope nTelRow ["telling"] (defScope sTelRow) := ⟨rfl, rfl, rfl, by decide +kernel, rfl, by decide +kernel, by decide +kernel⟩
theorem ok_telrow (F : Fun K "telling_row" "telling_row" sTelRow f fd) (B : Bi mg) (B2 : Bg mg) : FnOk P w K mg base CX0 1 f fd ["telling"] spTelRow := by
  obtain ⟨tq, gq⟩ := B2.doubt
  refine F.ok scTelRow (fun vs H Q E h => ?_) (fun cdv A outer s H vs Q E hr h => ?_)
  · obtain ⟨p, t, rfl, _⟩ := h
    rfl
  · obtain ⟨p, t, rfl, hp, ok, q⟩ := h
    refine ⟨_, pss_cons (ps_asg (pv 0) (pg_tup rfl (pgs_cons (pg_name (i := 1) scTelRow.nd rfl (.inl rfl)) (pgs_cons (pg_name (i := 2) scTelRow.nd rfl (.inl rfl)) (pgs_cons (pg_name (i := 3) scTelRow.nd rfl (.inl rfl)) (pgs_cons (pg_name (i := 4) scTelRow.nd rfl (.inl rfl)) (pgs_cons (pg_name (i := 5) scTelRow.nd rfl (.inl rfl)) (pgs_cons (pg_name (i := 6) scTelRow.nd rfl (.inl rfl)) (pgs_cons (pg_name (i := 7) scTelRow.nd rfl (.inl rfl)) pgs_nil)))))))))
      (pss_cons (ps_set (i := 8) scTelRow.nd rfl (.inl rfl) (pe_lst (pa_cons (pv 1) (pa_cons (pv 2) (pa_cons (pv 3) (pa_cons (pv 4) (pa_cons (pe_callTy call_str_int (by rfl) B.str (by decide +kernel) (pa_cons (pv 5) pa_nil)) (pa_cons (pv 6) pa_nil))))))))
      (pss_one (ps_ret (pe_join pe_str (pe_ifExp (pt_val (pv 7)) (pv 8) (pe_op op_cat (pv 8) (pe_lst (pa_cons (pe_glob (v := .str "?") rfl gq ⟨_, rfl⟩) pa_nil)))))))), ?_⟩
    refine ⟨_, rfl, p, _, rfl, .inl (.inl hp), rfl, _, _, rfl, _, _, rfl, _, _, rfl, _, _, rfl, _, _, rfl, _, _, rfl, _, _, rfl, rfl, ?_⟩
    refine ⟨_, rfl, _, rfl, _, rfl, _, rfl, _, rfl, _, rfl, age_log ok.age, _, rfl, lz, fun u hu => ?_⟩
    have s1 := same_new (o := .lst ((partsS t).map V.str)) hu
    have hu1 : upd H u (.lst ((partsS t).map V.str)) u = some (.lst ((partsS t).map V.str)) := upd_same
    have pl := parts_len ok
    have e1 : (" " : Str).length = 1 := by decide +kernel
    have fin : ∀ (l : List Str), (∀ z ∈ l, z.length ≤ 8) → l.length ≤ 7 → (l.map (·.length)).sum + l.length * (" " : Str).length ≤ 16777216 := fun l h hl => by
      have := sum_len (l := l) (m := 8) h
      rw [e1]
      omega
    refine ⟨⟨_, rfl⟩, _, rfl, _, rfl, ite_b (fun e => ?_) (fun e => ?_)⟩
    · refine ⟨_, rfl, _, u, partsS t, rfl, rfl, .inl (.inl (.inl hu1)), fin _ (fun z hz => pl z (List.mem_append_left _ hz)) (by show 6 ≤ 7; decide), ?_⟩
      have := q _ s1
      unfold rowS at this
      rw [if_pos e] at this
      exact this
    · refine ⟨_, rfl, lz, fun v hv => ?_⟩
      have s2 := same_new (o := .lst [V.str ("?" : Str)]) hv
      refine ⟨u, v, (partsS t).map V.str, _, rfl, rfl, s2 _ _ hu1, upd_same, lz, fun x hx => ?_⟩
      refine ⟨_, x, partsS t ++ [("?" : Str)], rfl, rfl, .inl (.inl (.inl upd_same)), fin _ pl (by show 7 ≤ 7; decide), ?_⟩
      have := q _ ((s1.trans s2).trans (same_new (o := .lst ((partsS t).map V.str ++ [V.str ("?" : Str)])) hx))
      unfold rowS at this
      rw [if_neg (by rw [e]; decide)] at this
      exact this
/-! ### repr -/
def grS (n : Nat) : Str := ("Gathering(" : Str) ++ (toString (n : Int) : String) ++ (")" : Str)
def spGRepr (C D : Addr) : Sp := fun vs H Q _ => ∃ (p : Addr) (r : GR), vs = [.ref p] ∧ GatAt C D H p r ∧ r.ts.length ≤ 200 ∧ Q (.str (grS r.ts.length)) H
theorem scGRepr : FnScope ["self"] ["self"] (defScope sGRepr) := ⟨rfl, rfl, rfl, by decide +kernel, rfl, by decide +kernel, by decide +kernel⟩
theorem dig3_len {n : Nat} (h : n ≤ 200) : ((toString (n : Int) : String) : Str).length ≤ 3 := by
  have : ∀ k : Fin 201, ((toString ((k.val : Nat) : Int) : String) : Str).length ≤ 3 := by decide +kernel
  exact this ⟨n, by omega⟩
theorem log200 {n : Nat} (h : n ≤ 200) : (((n : Nat) : Int).natAbs).log2 < 1920 := by
  have : ((n : Nat) : Int).natAbs = n := Int.natAbs_natCast n
  rw [this]
  have h2 : n.log2 ≤ n := Nat.log2_le_self n
  omega
theorem ok_grepr (F : Fun K "__repr__" "Gathering.__repr__" sGRepr f fd) (B : Bi mg) (TG : TxtG K mg D) : FnOk P w K mg base CX0 1 f fd ["self"] (spGRepr C D) := by
  refine F.ok scGRepr (fun vs H Q E h => ?_) (fun cdv A outer s H vs Q E hr h => ?_)
  · obtain ⟨p, r, rfl, _⟩ := h
    rfl
  · obtain ⟨p, r, rfl, hG, h200, q⟩ := h
    refine ⟨_, pss_one (ps_ret (pe_joined (.cons pe_str (.cons (pe_fmt (pe_callB call_len_seq (by rfl) B.len PySem.boot_len (pa_cons (pe_fld (pv 0) rfl) pa_nil))) (.cons pe_str .nil))))), ?_⟩
    obtain ⟨dx, hp⟩ := hG.at_
    have ek : (r.as.map V.ref).length = r.ts.length := by rw [List.length_map, hG.tels.length]
    refine ⟨_, rfl, by decide +kernel, _, rfl, p, D, dx, _, _, rfl, hp, TG.cl, TG.nT, gf_told _ _ _, r.td, _, rfl, .inl (.inl (.inl hG.told)), .inr ⟨_, rfl, ?_, _, rfl, ?_, _, rfl, ?_, ?_⟩⟩
    · rw [ek]
      exact log200 h200
    · rw [ek]
      exact lzl (by rw [add_len, add_len]; have := dig3_len h200; have : (Str.empty).length = 0 := rfl; have : ("Gathering(" : Str).length = 10 := (by decide +kernel); omega)
    · rw [ek]
      exact lzl (by rw [add_len, add_len, add_len]; have := dig3_len h200; have : (Str.empty).length = 0 := rfl; have : ("Gathering(" : Str).length = 10 := (by decide +kernel); have : (")" : Str).length = 1 := (by decide +kernel); omega)
    · have e0 : (Str.empty ++ ("Gathering(" : Str)) = ("Gathering(" : Str) := by decide +kernel
      rw [ek]
      show Q (.str (Str.empty ++ ("Gathering(" : Str) ++ _ ++ (")" : Str))) H
      rw [e0]
      exact q
/-! ### str -/
def gatS (g : Grid) (ts : List Tel) : Str := Txt.join ("\n" : Str) ([landS g, ("." : Str)] ++ ts.map rowS)
theorem telV_inj {t u : Tel} (h : telV t = telV u) : t = u := by
  cases t
  cases u
  simp only [telV, List.cons.injEq, V.str.injEq, V.int.injEq, V.bl.injEq, and_true] at h
  obtain ⟨h1, h2, h3, h4, h5, h6, h7⟩ := h
  have h5 := Int.ofNat.inj h5
  subst h1 h2 h3 h4 h5 h6 h7
  rfl
theorem told_rows {H : Hp} : ∀ {as : List Addr} {ts : List Tel} {zs : List V}, TelsAt H as ts → Each (fun (x z : V) => ∀ (pt : Addr) (t : Tel), x = .ref pt → H pt = some (.tup (telV t)) → z = .str (rowS t)) (as.map V.ref) zs → zs = (ts.map rowS).map V.str
  | [], [], [], _, _ => rfl
  | [], [], _ :: _, _, h => nomatch h
  | [], _ :: _, _, h, _ => nomatch h
  | _ :: _, [], _, h, _ => nomatch h
  | _ :: _, _ :: _, [], _, h => nomatch h
  | a :: as, r :: g, z :: zs, .cons e t, .cons e' t' => by
    rw [e' a r rfl e, told_rows t t']
    rfl
def spGStr (C D : Addr) : Sp := fun vs H Q _ => ∃ (p : Addr) (r : GR) (wd : Nat), vs = [.ref p] ∧ GatAt C D H p r ∧ Good r.g wd ∧ r.ts.length ≤ 200 ∧ (∀ t ∈ r.ts, OkT t) ∧ ∀ (H' : Hp), Same H H' → Q (.str (gatS r.g r.ts)) H'
abbrev nGStr : List Str := ["self", "telling"]
theorem scGStr : FnScope nGStr ["self"] (defScope sGStr) := ⟨rfl, rfl, rfl, by decide +kernel, rfl, by decide +kernel, by decide +kernel⟩
theorem row_len {t : Tel} (h : OkT t) : (rowS t).length ≤ 63 := by
  have key : ∀ l : List Str, (∀ z ∈ l, z.length ≤ 8) → l.length ≤ 7 → (Txt.join (" " : Str) l).length ≤ 63 := fun l hl h7 => by
    rw [TL.len_tl, TL.join_eq, TL.tl_join, tl_blank]
    have := join_size (S := [32]) (m := 8) (ps := l.map TL.tl) fun p hp => by
      obtain ⟨z, hz, rfl⟩ := List.mem_map.mp hp
      rw [← TL.len_tl]
      exact hl z hz
    rw [List.length_map] at this
    simp at this
    omega
  unfold rowS
  split
  · exact key _ (fun z hz => parts_len h z (List.mem_append_left _ hz)) (by show 6 ≤ 7; decide)
  · exact key _ (parts_len h) (by show 7 ≤ 7; decide)
theorem ok_gstr (F : Fun K "__str__" "Gathering.__str__" sGStr f fd) (B : Bi mg) (B2 : Bg mg) (TG : TxtG K mg D) (hS : HasM P w K mg base C "__str__" 1 ["self"] (spLStr C)) (hT : Has P w K mg base "telling_row" 1 ["telling"] spTelRow) : FnOk P w K mg base CX0 4 f fd ["self"] (spGStr C D) := by
  obtain ⟨td, gd⟩ := B2.dot
  obtain ⟨fS, fdS, FS, mS, bS⟩ := hS
  refine F.ok scGStr (fun vs H Q E h => ?_) (fun cdv A outer s H vs Q E hr h => ?_)
  · obtain ⟨p, r, wd, rfl, _⟩ := h
    rfl
  · obtain ⟨p, r, wd, rfl, hG, gg, h200, hok, q⟩ := h
    refine ⟨_, pss_one (ps_ret (pe_join pe_str (pe_op op_cat (pe_lst (pa_cons (pe_callTy (cr_strO FS bS mS (hr.mono (by decide))) (by rfl) B.str (by decide +kernel) (pa_cons (pe_fld (pv 0) rfl) pa_nil)) (pa_cons (pe_glob (v := .str ".") rfl gd ⟨_, rfl⟩) pa_nil)))
      (pe_lc (own := [("telling", 1)]) (g := gName 1) (tt := tYes) (te := tCall spTelRow [] E0 (tCons (tVar 1) tNil)) rfl scGStr.nd (pi_list (pe_fld (pv 0) rfl)) (blkOk_by (N := nGStr) (sc := defScope sGStr) (by decide +kernel)) (fun _ _ _ _ _ => pg_name (i := 1) scGStr.nd rfl (.inl rfl)) (fun _ _ _ _ _ => pts_nil) (fun _ _ _ _ _ => pe_h hT hr (pa_cons (pv 1) pa_nil)))))), ?_⟩
    obtain ⟨dx, hp⟩ := hG.at_
    obtain ⟨dl, d, hl⟩ := hG.land.ins
    refine ⟨⟨_, rfl⟩, _, rfl, p, D, dx, _, _, rfl, hp, TG.cl, TG.nL, gf_land _ _ _, r.pl, dl, _, rfl, hl, r.pl, r.L, r.g, wd, rfl, hG.land, gg, fun H1 s1 => ⟨_, rfl, lz, fun u hu => ?_⟩⟩
    have s2 := same_new (o := .lst [V.str (landS r.g), V.str ("." : Str)]) hu
    have hu2 : upd H1 u (.lst [V.str (landS r.g), V.str ("." : Str)]) u = some (.lst [V.str (landS r.g), V.str ("." : Str)]) := upd_same
    have s02 := s1.trans s2
    have hG2 := hG.same s02
    generalize upd H1 u (.lst [V.str (landS r.g), V.str ("." : Str)]) = H2 at hu2 s02 hG2
    obtain ⟨dx2, hp2⟩ := hG2.at_
    refine ⟨_, rfl, p, D, dx2, _, _, rfl, hp2, TG.cl, TG.nT, gf_told _ _ _, r.td, rfl, ⟨_, .inl (.inl hG2.told)⟩, fun Dd hD => ?_⟩
    have hlen : r.as.length = r.ts.length := hG.tels.length
    refine lc_rel (walk_list (K := K) (a := r.td) (xs := r.as.map V.ref)) hD (fun _ => true) (fun x y _ => ∀ (pt : Addr) (t : Tel), x = .ref pt → H2 pt = some (.tup (telV t)) → y = .str (rowS t)) (fun H' s' => .inl (.inl (s' _ _ hG2.told))) (fun _ => rfl) (fun x H' _ _ Q' q' => q') ?_ (fun _ _ _ _ _ _ _ r => r) ?_ ?_
    · intro x H' hx _ s' Q' q'
      obtain ⟨pt, hpt, rfl⟩ := List.mem_map.mp hx
      obtain ⟨i, hi, ei⟩ := List.mem_iff_getElem.mp hpt
      obtain ⟨t, ht, hH⟩ := Each.get hG2.tels (i := i) (a := pt) (by rw [List.getElem?_eq_getElem hi, ei])
      refine ⟨_, rfl, pt, t, rfl, s' _ _ hH, hok t (List.mem_of_getElem? ht), fun H3 s3 => q' _ H3 s3 fun pt2 t2 e2 h2 => ?_⟩
      obtain rfl : pt = pt2 := V.ref.inj e2
      rw [hH] at h2
      rw [telV_inj (HO.tup.inj (Option.some.inj h2))]
    · rw [List.length_map]
      exact small1000 (by omega)
    · intro zs H3 s3 hD3 he
      rw [List.filter_eq_self.mpr fun _ _ => rfl] at he
      have e1 : zs = (r.ts.map rowS).map V.str := told_rows hG2.tels he
      rw [e1] at hD3
      refine ⟨u, Dd, _, _, rfl, rfl, s3 _ _ hu2, hD3, ?_, fun x hx => ?_⟩
      · rw [List.length_map, List.length_map]
        exact lzl (by simp only [List.length_cons, List.length_nil]; omega)
      refine ⟨_, x, [landS r.g, ("." : Str)] ++ r.ts.map rowS, rfl, rfl, .inl (.inl (.inl (by rw [upd_same, List.map_append]; rfl))), ?_, q _ ((s02.trans s3).trans (same_new hx))⟩
      have hll := land_len gg.parts gg.h6 gg.six
      have hdot : ("." : Str).length = 1 := by decide +kernel
      have := sum_len (l := [landS r.g, ("." : Str)] ++ r.ts.map rowS) (m := 330) fun z hz => by
        rcases List.mem_append.mp hz with hz | hz
        · simp only [List.mem_cons, List.not_mem_nil, or_false] at hz
          rcases hz with rfl | rfl
          · exact hll
          · omega
        · obtain ⟨t, ht, rfl⟩ := List.mem_map.mp hz
          have := row_len (hok t ht)
          omega
      have e : ("\n" : Str).length = 1 := by decide +kernel
      have hl2 : ([landS r.g, ("." : Str)] ++ r.ts.map rowS).length ≤ 202 := by
        rw [List.length_append, List.length_map]
        simp only [List.length_cons, List.length_nil]
        omega
      rw [e]
      omega
end
end Wl




namespace Wl
open PySem PySem.Spec PyProof.Rows L2
abbrev sGStrike : Stmt := inClass sGat 3
abbrev psStrike : List Str := ["self", "village", "teller", "thing", "gatherer"]
abbrev nStrike : List Str := ["self", "village", "teller", "thing", "gatherer", "key", "place", "part"]
theorem scStrike : FnScope nStrike psStrike (defScope sGStrike) := ⟨rfl, rfl, rfl, by decide +kernel, rfl, by decide +kernel, by decide +kernel⟩
def GR.cut (r : GR) (i : Nat) (q : Addr) : GR := { r with as := r.as.eraseIdx i, ts := r.ts.eraseIdx i, ds := r.ds ++ [.ref q] }
theorem each_erase {α β : Type} {R : α → β → Prop} : ∀ {as : List α} {bs : List β} (n : Nat), Each R as bs → Each R (as.eraseIdx n) (bs.eraseIdx n)
  | _, _, n, .nil => by simpa using Each.nil
  | _, _, 0, .cons r t => by simpa using t
  | _, _, n + 1, .cons r t => .cons r (each_erase n t)
theorem map_erase {α β : Type} (f : α → β) : ∀ (l : List α) (n : Nat), (l.map f).eraseIdx n = (l.eraseIdx n).map f
  | [], n => by simp
  | a :: l, 0 => by simp
  | a :: l, n + 1 => by simp [map_erase f l n]
theorem seq_idx {i n : Nat} (h : i < n) : seqIndex? (i : Int) n = some i := by
  unfold seqIndex?
  have e1 : ¬ ((i : Int) < 0) := by omega
  simp only [e1, if_false]
  have e2 : (decide (0 ≤ (i : Int)) && decide ((i : Int) < (n : Int))) = true := by simp; omega
  rw [if_pos e2, Int.toNat_natCast]
section
variable {P : Program} {w : World} {K : PySem.W.Frag} {mg : Str → Option Value} {base : Heap} {f C D : Addr} {fd : FuncData}
abbrev FunS (K : PySem.W.Frag) (f : Addr) (fd : FuncData) : Prop := FunD K "strike" "Gathering.strike" (defArgs sGStrike) (defBody sGStrike) (defScope sGStrike) [.str "self"] [] f fd
def spStrike (C D : Addr) : Sp := fun vs H Q _ => ∃ (p : Addr) (r : GR) (t : Tel) (i : Nat), vs = .ref p :: keyV t ∧ GatAt C D H p r ∧ (∀ u ∈ r.ts, OkT u) ∧ r.ts.length ≤ 200 ∧ r.ds.length < 1000 ∧ (r.ts.findIdx? fun u => decide (keyS u = keyS t)) = some i ∧ OkT t ∧
  ∀ (q pa : Addr) (H' : Hp), H q = none → r.as[i]? = some pa → Same2 r.td r.dd H H' → GatAt C D H' p (r.cut i q) → H' q = some (.tup [.int (i : Int), .ref pa]) → Q .non H'
theorem ok_strike (F : FunS K f fd) (B : Bi mg) (TG : TxtG K mg D) (hW : Has P w K mg base "is_word" 1 ["thing"] spIsWord) (hP : HasM P w K mg base D "place_of" 2 ["self", "key"] (spGPlace C D)) : FnOk P w K mg base CX0 3 f fd psStrike (spStrike C D) := by
  refine okD F scStrike (fun vs H Q E h => ?_) (fun cdv A outer s H vs Q E hr h => ?_)
  · obtain ⟨p, r, t, i, rfl, _⟩ := h
    rfl
  · obtain ⟨p, r, t, i, rfl, hG, hok, h200, hds, hi, okt, q⟩ := h
    refine ⟨_, pss_cons (ps_set (i := 5) scStrike.nd rfl (.inl rfl) (pe_tup (pa_cons (pv 1) (pa_cons (pv 2) (pa_cons (pv 3) (pa_cons (pv 4) pa_nil))))))
      (pss_cons (ps_set (i := 6) scStrike.nd rfl (.inl rfl) (pe_ifExp (pt_val (pe_callB (cr_all rfl) (by rfl) B.all (by decide +kernel) (pa_cons (pe_lc (own := [("part", 7)]) (g := gName 7) (tt := tYes) (te := tCall spIsWord [] E0 (tCons (tVar 7) tNil)) rfl scStrike.nd (pi_tup (pv 5)) (blkOk_by (N := nStrike) (sc := defScope sGStrike) (by decide +kernel)) (fun _ _ _ _ _ => pg_name (i := 7) scStrike.nd rfl (.inl rfl)) (fun _ _ _ _ _ => pts_nil) (fun _ _ _ _ _ => pe_h hW hr (pa_cons (pv 7) pa_nil))) pa_nil))) (pe_hm hP TG.cl hr (pv 0) (pa_cons (pv 5) pa_nil)) pe_non))
      (pss_cons (ps_if (pt_cmp (pc_isN (pv 6))) (pss_one ps_never) pss_nil)
      (pss_one (ps_expr (pe_bm PySem.F.plainAttrs_list PySem.F.slot_list_append PySem.F.type_list_append mt_append (pe_fld (pv 0) rfl) (pa_cons (pe_tup (pa_cons (pv 6) (pa_cons (pe_bm PySem.F.plainAttrs_list PySem.F.slot_list_pop PySem.F.type_list_pop mt_popAt (pe_fld (pv 0) rfl) (pa_cons (pv 6) pa_nil)) pa_nil))) pa_nil)))))), ?_⟩
    refine ⟨_, rfl, _, rfl, _, rfl, _, rfl, lz, fun kp hkp => ?_⟩
    have s1 := same_new (o := .tup [V.str t.v, V.str t.tl, V.str t.th, V.str t.g]) hkp
    have hk1 : upd H kp (.tup [V.str t.v, V.str t.tl, V.str t.th, V.str t.g]) kp = some (.tup [V.str t.v, V.str t.tl, V.str t.th, V.str t.g]) := upd_same
    generalize upd H kp (.tup [V.str t.v, V.str t.tl, V.str t.th, V.str t.g]) = H1 at s1 hk1
    refine ⟨_, rfl, kp, rfl, ⟨_, .inl (.inl hk1)⟩, fun Dd hD => ?_⟩
    refine lc_rel (walk_tup (K := K) (a := kp) (xs := [V.str t.v, V.str t.tl, V.str t.th, V.str t.g])) hD (fun _ => true) (fun x y _ => y = .bl true) (fun H' s' => .inl (.inl (s' _ _ hk1))) (fun _ => rfl) (fun x H' _ _ Q' q' => q') ?_ (fun _ _ _ _ _ _ _ r => r) lz ?_
    · intro x H' hx _ s' Q' q'
      obtain ⟨z, hz, rfl⟩ : ∃ z, z ∈ keyS t ∧ x = .str z := by
        simp only [List.mem_cons, List.not_mem_nil, or_false] at hx
        rcases hx with rfl | rfl | rfl | rfl
        · exact ⟨_, by simp [keyS], rfl⟩
        · exact ⟨_, by simp [keyS], rfl⟩
        · exact ⟨_, by simp [keyS], rfl⟩
        · exact ⟨_, by simp [keyS], rfl⟩
      have hzw := okt.key z hz
      refine ⟨_, rfl, z, rfl, by have := hzw.len; omega, fun H2 s2 => q' _ H2 s2 ?_⟩
      rw [show wdB z = true from hzw]
    · intro zs H2 s2 hD2 he
      have ez := each_fn (f := fun _ : V => V.bl true) he
      have ez2 : zs = [true, true, true, true].map V.bl := ez
      rw [ez2] at hD2
      refine ⟨Dd, [true, true, true, true], rfl, .inl (.inl hD2), true, rfl, iteT ?_⟩
      have s02 := s1.trans s2
      have hG2 := hG.same s02
      obtain ⟨dx2, hp2⟩ := hG2.at_
      refine ⟨_, rfl, p, dx2, _, rfl, hp2, gf_no _ _ _, _, rfl, p, kp, r, keyS t, rfl, hG2, hok, h200, s2 _ _ hk1, okt.key, fun H3 s3 => ?_⟩
      rw [hi]
      obtain ⟨hil, _⟩ := List.findIdx?_eq_some_iff_getElem.mp hi
      have hla : r.as.length = r.ts.length := hG.tels.length
      have hia : i < r.as.length := by omega
      have hpa : r.as[i]? = some r.as[i] := List.getElem?_eq_getElem hia
      generalize r.as[i] = pa at hpa
      have hG3 := hG2.same s3
      obtain ⟨dx3, hp3⟩ := hG3.at_
      have s03 := s02.trans s3
      refine ⟨_, rfl, _, rfl, iteF ?_⟩
      refine ⟨_, rfl, p, D, dx3, _, _, rfl, hp3, TG.cl, TG.nD, gf_deeds _ _ _, .inl ⟨rfl, _, .inl (.inl hG3.deeds)⟩, _, rfl, _, rfl, p, D, dx3, _, _, rfl, hp3, TG.cl, TG.nT, gf_told _ _ _, .inl ⟨rfl, _, .inl (.inl hG3.told)⟩, _, rfl, r.td, _, (i : Int), i, .ref pa, rfl, rfl, hG3.told, by omega, by omega, ?_, ?_, lz, fun q1 hq1 => ?_⟩
      · rw [List.length_map]
        exact seq_idx hia
      · rw [List.getElem?_map, hpa]
        rfl
      have k4 : Keep H3 (upd H3 r.td (.lst ((r.as.map V.ref).eraseIdx i))) := kp_upd hG3.told
      have hp4 := k4 _ _ (fun xs e => by cases e) hp3
      have hd4 : upd H3 r.td (.lst ((r.as.map V.ref).eraseIdx i)) r.dd = some (.lst r.ds) := by
        rw [upd_ne hG.ne.symm]
        exact hG3.deeds
      have ht4 : upd H3 r.td (.lst ((r.as.map V.ref).eraseIdx i)) r.td = some (.lst ((r.as.eraseIdx i).map V.ref)) := by
        rw [upd_same, map_erase]
      have m4 : Same2 r.td r.dd H3 (upd H3 r.td (.lst ((r.as.map V.ref).eraseIdx i))) := fun c o n _ e => by
        rw [upd_ne n]
        exact e
      have hq3 : H3 q1 = none := by
        by_cases c : q1 = r.td
        · rw [c, ht4] at hq1
          cases hq1
        · rw [upd_ne c] at hq1
          exact hq1
      generalize upd H3 r.td (.lst ((r.as.map V.ref).eraseIdx i)) = H4 at k4 hp4 hd4 ht4 m4 hq1
      have s5 := same_new (o := .tup [V.int (i : Int), V.ref pa]) hq1
      have hq5 : upd H4 q1 (.tup [V.int (i : Int), V.ref pa]) q1 = some (.tup [V.int (i : Int), V.ref pa]) := upd_same
      have hd5 := s5 _ _ hd4
      have ht5 := s5 _ _ ht4
      have hp5 := s5 _ _ hp4
      refine ⟨r.dd, _, _, rfl, rfl, hd5, small1000 (by omega), ?_⟩
      have k6 := kp_upd (o := .lst (r.ds ++ [V.ref q1])) hd5
      have kk := (k4.trans (kp_same s5)).trans k6
      refine q q1 pa _ (s03.free hq3) hpa ?_ ⟨⟨dx3, k6 _ _ (fun xs e => by cases e) hp5⟩, hG3.land.keep kk, ?_, ?_, upd_same, hG.ne⟩ (k6 _ _ (fun xs e => by cases e) hq5)
      · refine (Same2.of s03).trans (m4.trans ((Same2.of s5).trans fun c o _ n e => ?_))
        rw [upd_ne n]
        exact e
      · show upd _ r.dd _ r.td = some (.lst ((r.as.eraseIdx i).map V.ref))
        rw [upd_ne hG.ne]
        exact ht5
      · exact each_erase i (hG3.tels.keep kk.tk)
end
end Wl




namespace Wl
open PySem PySem.Spec PyProof.Rows L2
abbrev sGBack : Stmt := inClass sGat 4
abbrev nBack : List Str := ["self", "struck", "place", "telling"]
theorem scBack : FnScope nBack ["self"] (defScope sGBack) := ⟨rfl, rfl, rfl, by decide +kernel, rfl, by decide +kernel, by decide +kernel⟩
theorem last_snoc {α : Type} (l : List α) (x : α) : (l ++ [x])[(l ++ [x]).length - 1]? = some x := by
  rw [List.length_append]
  simp
theorem each_take {α β : Type} {R : α → β → Prop} : ∀ {as : List α} {bs : List β} (n : Nat), Each R as bs → Each R (as.take n) (bs.take n)
  | _, _, 0, _ => by simpa using Each.nil
  | _, _, n + 1, .nil => by simpa using Each.nil
  | _, _, n + 1, .cons r t => .cons r (each_take n t)
theorem each_drop {α β : Type} {R : α → β → Prop} : ∀ {as : List α} {bs : List β} (n : Nat), Each R as bs → Each R (as.drop n) (bs.drop n)
  | _, _, 0, h => by simpa using h
  | _, _, n + 1, .nil => by simpa using Each.nil
  | _, _, n + 1, .cons r t => each_drop n t
section
variable {P : Program} {w : World} {K : PySem.W.Frag} {mg : Str → Option Value} {base : Heap} {f C D : Addr} {fd : FuncData}
def spBack (C D : Addr) : Sp := fun vs H Q _ => ∃ (p : Addr) (r : GR), vs = [.ref p] ∧ GatAt C D H p r ∧ r.ts.length ≤ 200 ∧
  ((∃ (as : List Addr) (pa : Addr) (ts : List Tel) (t : Tel) (ds : List V), r.as = as ++ [pa] ∧ r.ts = ts ++ [t] ∧ r.ds = ds ++ [.non] ∧
      ∀ (H' : Hp), Same2 r.td r.dd H H' → GatAt C D H' p { r with as := as, ts := ts, ds := ds } → Q .non H') ∨
   (∃ (i : Nat) (q pa : Addr) (t : Tel) (ds : List V), r.ds = ds ++ [.ref q] ∧ H q = some (.tup [.int (i : Int), .ref pa]) ∧ H pa = some (.tup (telV t)) ∧ i ≤ 200 ∧
      ∀ (H' : Hp), Same2 r.td r.dd H H' → GatAt C D H' p { r with as := r.as.take i ++ [pa] ++ r.as.drop i, ts := r.ts.take i ++ [t] ++ r.ts.drop i, ds := ds } → Q .non H'))
theorem ok_back (F : Fun K "back" "Gathering.back" sGBack f fd) (TG : TxtG K mg D) : FnOk P w K mg base CX0 1 f fd ["self"] (spBack C D) := by
  refine F.ok scBack (fun vs H Q E h => ?_) (fun cdv A outer s H vs Q E hr h => ?_)
  · obtain ⟨p, r, rfl, _⟩ := h
    rfl
  · obtain ⟨p, r, rfl, hG, h200, hh⟩ := h
    refine ⟨_, pss_cons (ps_if (pt_not (pt_truth (pe_fld (pv 0) rfl) (fun _ => rfl))) (pss_one ps_never) pss_nil)
      (pss_cons (ps_set (i := 1) scBack.nd rfl (.inl rfl) (pe_bm0 PySem.F.plainAttrs_list PySem.F.slot_list_pop PySem.F.type_list_pop mt_pop (pe_fld (pv 0) rfl)))
      (pss_one (ps_if (pt_cmp (pc_isN (pv 1))) (pss_one (ps_expr (pe_bm0 PySem.F.plainAttrs_list PySem.F.slot_list_pop PySem.F.type_list_pop mt_pop (pe_fld (pv 0) rfl))))
        (pss_cons (ps_asg (pv 1) (pg_tup rfl (pgs_cons (pg_name (i := 2) scBack.nd rfl (.inl rfl)) (pgs_cons (pg_name (i := 3) scBack.nd rfl (.inl rfl)) pgs_nil))))
        (pss_one (ps_expr (pe_bm PySem.F.plainAttrs_list PySem.F.slot_list_insert PySem.F.type_list_insert mt_insert (pe_fld (pv 0) rfl) (pa_cons (pv 2) (pa_cons (pv 3) pa_nil))))))))), ?_⟩
    obtain ⟨dx, hp⟩ := hG.at_
    have hds : r.ds ≠ [] := by
      rcases hh with ⟨_, _, _, _, _, _, _, e, _⟩ | ⟨_, _, _, _, _, e, _⟩
      · rw [e]
        simp
      · rw [e]
        simp
    refine ⟨_, rfl, p, D, dx, _, _, rfl, hp, TG.cl, TG.nD, gf_deeds _ _ _, !r.ds.isEmpty, .inl ⟨_, .inl (.inl hG.deeds), rfl⟩, ?_⟩
    have e0 : r.ds.isEmpty = false := by
      cases hq : r.ds with
      | nil => exact absurd hq hds
      | cons _ _ => rfl
    rw [e0]
    refine iteF ?_
    have kd : ∀ o, Keep H (upd H r.dd o) := fun o => kp_upd hG.deeds
    rcases hh with ⟨as, pa, ts, t, ds, ea, et, ed, q⟩ | ⟨i, q0, pa, t, ds, ed, hq0, hpa, hi, q⟩
    · have hdd := hG.deeds
      rw [ed] at hdd
      refine ⟨_, rfl, p, D, dx, _, _, rfl, hp, TG.cl, TG.nD, gf_deeds _ _ _, .inl ⟨rfl, _, .inl (.inl hdd)⟩, r.dd, _, .non, rfl, rfl, hdd, last_snoc _ _, ?_⟩
      rw [List.dropLast_concat]
      have k1 := kd (.lst ds)
      have ht1 : upd H r.dd (.lst ds) r.td = some (.lst ((as ++ [pa]).map V.ref)) := by
        rw [upd_ne hG.ne, ← ea]
        exact hG.told
      have hp1 := k1 _ _ (fun xs e => by cases e) hp
      have hd1 : upd H r.dd (.lst ds) r.dd = some (.lst ds) := upd_same
      have m1 : Same2 r.td r.dd H (upd H r.dd (.lst ds)) := fun c o _ n e => by
        rw [upd_ne n]
        exact e
      generalize upd H r.dd (.lst ds) = H1 at k1 ht1 hp1 hd1 m1
      rw [List.map_append] at ht1
      refine ⟨_, rfl, _, rfl, iteT ⟨_, rfl, p, D, dx, _, _, rfl, hp1, TG.cl, TG.nT, gf_told _ _ _, .inl ⟨rfl, _, .inl (.inl ht1)⟩, r.td, _, .ref pa, rfl, rfl, ht1, last_snoc _ _, ?_⟩⟩
      rw [show (as.map V.ref ++ [pa].map V.ref).dropLast = as.map V.ref from List.dropLast_concat]
      have k2 := kp_upd (o := .lst (as.map V.ref)) ht1
      have kk := k1.trans k2
      refine q _ ?_ ⟨⟨dx, k2 _ _ (fun xs e => by cases e) hp1⟩, hG.land.keep kk, upd_same, ?_, ?_, hG.ne⟩
      · exact m1.trans fun c o n _ e => by
          rw [upd_ne n]
          exact e
      · have h1 := hG.tels.keep kk.tk
        rw [ea, et] at h1
        have la : as.length = ts.length := by
          have := h1.length
          simpa using this
        have h2 := each_take as.length h1
        rw [List.take_left, la, List.take_left] at h2
        exact h2
      · show upd H1 r.td _ r.dd = some (.lst ds)
        rw [upd_ne hG.ne.symm]
        exact hd1
    · have hdd := hG.deeds
      rw [ed] at hdd
      refine ⟨_, rfl, p, D, dx, _, _, rfl, hp, TG.cl, TG.nD, gf_deeds _ _ _, .inl ⟨rfl, _, .inl (.inl hdd)⟩, r.dd, _, .ref q0, rfl, rfl, hdd, last_snoc _ _, ?_⟩
      rw [List.dropLast_concat]
      have k1 := kd (.lst ds)
      have ht1 : upd H r.dd (.lst ds) r.td = some (.lst (r.as.map V.ref)) := by
        rw [upd_ne hG.ne]
        exact hG.told
      have hp1 := k1 _ _ (fun xs e => by cases e) hp
      have hq1 := k1 _ _ (fun xs e => by cases e) hq0
      have hd1 : upd H r.dd (.lst ds) r.dd = some (.lst ds) := upd_same
      have m1 : Same2 r.td r.dd H (upd H r.dd (.lst ds)) := fun c o _ n e => by
        rw [upd_ne n]
        exact e
      generalize upd H r.dd (.lst ds) = H1 at k1 ht1 hp1 hd1 m1 hq1
      have hla : r.as.length = r.ts.length := hG.tels.length
      refine ⟨_, rfl, _, rfl, iteF ⟨_, rfl, q0, _, rfl, .inl (.inl hq1), rfl, _, _, rfl, _, _, rfl, rfl, ?_⟩⟩
      refine ⟨_, rfl, p, D, dx, _, _, rfl, hp1, TG.cl, TG.nT, gf_told _ _ _, .inl ⟨rfl, _, .inl (.inl ht1)⟩, _, rfl, _, rfl, r.td, _, (i : Int), .ref pa, rfl, rfl, ht1, by rw [List.length_map]; exact small1000 (by omega), by omega, by omega, ?_⟩
      rw [Int.toNat_natCast]
      have k2 := kp_upd (o := .lst ((r.as.map V.ref).take i ++ [.ref pa] ++ (r.as.map V.ref).drop i)) ht1
      have kk := k1.trans k2
      refine q _ ?_ ⟨⟨dx, k2 _ _ (fun xs e => by cases e) hp1⟩, hG.land.keep kk, ?_, ?_, ?_, hG.ne⟩
      · exact m1.trans fun c o n _ e => by
          rw [upd_ne n]
          exact e
      · show upd H1 r.td _ r.td = some (.lst ((r.as.take i ++ [pa] ++ r.as.drop i).map V.ref))
        rw [upd_same, List.map_append, List.map_append, List.map_take, List.map_drop]
        rfl
      · have h1 := hG.tels.keep kk.tk
        exact Each.append (Each.append (each_take i h1) (.cons (kk.tk _ _ hpa) .nil)) (each_drop i h1)
      · show upd H1 r.td _ r.dd = some (.lst ds)
        rw [upd_ne hG.ne.symm]
        exact hd1
end
end Wl




/-! Texts each once, as first met; dicts by texts. -/
namespace Wl
open PySem PySem.Spec PyProof.Rows L2
def addK (acc : List Str) (z : Str) : List Str := if z ∈ acc then acc else acc ++ [z]
def keysOf (l : List Str) : List Str := l.foldl addK []
theorem keysOf_snoc (l : List Str) (z : Str) : keysOf (l ++ [z]) = addK (keysOf l) z := by
  unfold keysOf
  rw [List.foldl_append]
  rfl
theorem mem_addK {acc : List Str} {z y : Str} : y ∈ addK acc z ↔ y ∈ acc ∨ y = z := by
  unfold addK
  split
  · constructor
    · exact .inl
    · rintro (h | rfl) <;> assumption
  · simp
theorem foldK_mem {y : Str} : ∀ {l acc : List Str}, y ∈ l.foldl addK acc ↔ y ∈ acc ∨ y ∈ l
  | [], acc => by simp
  | z :: l, acc => by
    rw [List.foldl_cons, foldK_mem (l := l), mem_addK, List.mem_cons]
    constructor
    · rintro ((h | h) | h)
      · exact .inl h
      · exact .inr (.inl h)
      · exact .inr (.inr h)
    · rintro (h | h | h)
      · exact .inl (.inl h)
      · exact .inl (.inr h)
      · exact .inr h
theorem mem_keysOf {l : List Str} {y : Str} : y ∈ keysOf l ↔ y ∈ l := by
  unfold keysOf
  rw [foldK_mem]
  simp
theorem addK_nodup {acc : List Str} {z : Str} (h : acc.Nodup) : (addK acc z).Nodup := by
  unfold addK
  split
  · exact h
  · rename_i n
    rw [List.nodup_append]
    exact ⟨h, by simp, fun a ha b hb e => n (by rw [List.mem_singleton.mp hb] at e; exact e ▸ ha)⟩
theorem foldK_nodup : ∀ {l acc : List Str}, acc.Nodup → (l.foldl addK acc).Nodup
  | [], _, h => h
  | _ :: l, _, h => foldK_nodup (l := l) (addK_nodup h)
theorem keysOf_nodup (l : List Str) : (keysOf l).Nodup := foldK_nodup List.nodup_nil
theorem addK_len (acc : List Str) (z : Str) : (addK acc z).length ≤ acc.length + 1 := by
  unfold addK
  split
  · omega
  · simp
theorem foldK_len : ∀ (l acc : List Str), (l.foldl addK acc).length ≤ acc.length + l.length
  | [], acc => by simp
  | z :: l, acc => by
    have h1 := foldK_len l (addK acc z)
    have h2 := addK_len acc z
    rw [List.foldl_cons, List.length_cons]
    omega
theorem keysOf_len (l : List Str) : (keysOf l).length ≤ l.length := by
  have := foldK_len l []
  simpa [keysOf] using this
/-- the pairs of a dict whose keys are these texts -/
def kvZ (ad : Str → V) (l : List Str) : List (Key × V) := l.map fun z => (Sum.inr z, ad z)
theorem valV_kvZ (ad : Str → V) (z : Str) : ∀ l : List Str, valV (kvZ ad l) (Sum.inr z : Key) = if z ∈ l then some (ad z) else none
  | [] => rfl
  | d :: r => by
    by_cases h : d = z
    · subst h
      rw [if_pos List.mem_cons_self]
      exact valV_pos rfl
    · have h1 : valV (kvZ ad (d :: r)) (Sum.inr z : Key) = valV (kvZ ad r) (Sum.inr z : Key) := valV_neg fun e => h (Sum.inr.inj e)
      rw [h1, valV_kvZ ad z r]
      have h2 : (z ∈ d :: r) = (z ∈ r) := by
        simp only [List.mem_cons, eq_iff_iff]
        constructor
        · rintro (e | e)
          · exact absurd e.symm h
          · exact e
        · exact .inr
      simp only [h2]
theorem valV_in {ad : Str → V} {z : Str} {l : List Str} (h : z ∈ l) : valV (kvZ ad l) (Sum.inr z : Key) = some (ad z) := by
  rw [valV_kvZ, if_pos h]
theorem valV_out {ad : Str → V} {z : Str} {l : List Str} (h : z ∉ l) : valV (kvZ ad l) (Sum.inr z : Key) = none := by
  rw [valV_kvZ, if_neg h]
theorem kvZ_congr {a b : Str → V} {l : List Str} (h : ∀ c ∈ l, a c = b c) : kvZ a l = kvZ b l := List.map_congr_left fun c hc => by rw [h c hc]
theorem kvZ_keys (ad : Str → V) (l : List Str) : (kvZ ad l).map (fun kv => kV kv.1) = l.map V.str := by
  unfold kvZ
  rw [List.map_map]
  rfl
theorem kvZ_len (ad : Str → V) (l : List Str) : (kvZ ad l).length = l.length := List.length_map _
theorem sortS_nodup {l : List Str} (h : l.Nodup) : (sortS l).Nodup := (List.mergeSort_perm l leB).nodup_iff.mpr h
end Wl

namespace Wl
open PySem PySem.Spec PyProof.Rows L2
abbrev sGTell : Stmt := inClass sGat 6
abbrev sCheckG : Stmt := topS 62
/-- what was told of a word: rows that begin with these words -/
def RowsT (H : Hp) (t : Addr) (ws : List Str) : Prop := ∃ as : List Addr, H t = some (.tup (as.map V.ref)) ∧ Each (fun (p : Addr) (z : Str) => ∃ a b n : Int, H p = some (.tup [.str z, .int a, .int b, .int n])) as ws
theorem RowsT.keep {H H' : Hp} {t : Addr} {ws : List Str} (h : RowsT H t ws) (k : TupKeep H H') : RowsT H' t ws := by
  obtain ⟨as, h1, h2⟩ := h
  exact ⟨as, k _ _ h1, h2.mono fun p z ⟨a, b, n, e⟩ => ⟨a, b, n, k _ _ e⟩⟩
noncomputable def wordsIn (chs : List Chg) (ts : List Tel) : List Str := sortS (keysOf (ts.map fun t => mean chs t.wo))
theorem mem_wordsIn {chs : List Chg} {ts : List Tel} {z : Str} : z ∈ wordsIn chs ts ↔ ∃ t ∈ ts, mean chs t.wo = z := by
  unfold wordsIn
  rw [mem_sortS, mem_keysOf, List.mem_map]
section
variable {P : Program} {w : World} {K : PySem.W.Frag} {mg : Str → Option Value} {base : Heap} {f C D : Addr} {fd : FuncData}
/-! ### tellings, as put in -/
abbrev FunT (K : PySem.W.Frag) (f : Addr) (fd : FuncData) : Prop := FunD K "tellings" "Gathering.tellings" (defArgs sGTell) (defBody sGTell) (defScope sGTell) [.non] [] f fd
def spTell (C D : Addr) : Sp := fun vs H Q _ => ∃ (p : Addr) (r : GR), vs = [.ref p, .non] ∧ GatAt C D H p r ∧ ∀ (l : Addr), H l = none → Q (.ref l) (upd H l (.lst (r.as.map V.ref)))
theorem scTell : FnScope ["self", "keying"] ["self", "keying"] (defScope sGTell) := ⟨rfl, rfl, rfl, by decide +kernel, rfl, by decide +kernel, by decide +kernel⟩
theorem tell_b1 (F : FunT K f fd) : ∃ ds, Vals [V.non] ds ∧ Binds K fd ["self", "keying"] ds :=
  F.binds1 (ps := ["self", "keying"]) 1 0 (by simp) rfl (fun T kV doc pm an cdv ct us its l1 l2 => by
      match us, its, l1, l2 with
      | [_], [_], _, _ => exact ⟨_, rfl, rfl⟩)
theorem ok_tell (F : FunT K f fd) (B : Bi mg) (TG : TxtG K mg D) : FnOk P w K mg base CX0 1 f fd ["self", "keying"] (spTell C D) := by
  refine okD F scTell (fun vs H Q E h => ?_) (fun cdv A outer s H vs Q E hr h => ?_)
  · obtain ⟨p, r, rfl, _⟩ := h
    rfl
  · obtain ⟨p, r, rfl, hG, q⟩ := h
    refine ⟨_, pss_cons (ps_if (pt_cmp (pc_isN (pv 1))) (pss_one (ps_ret (pe_callTy call_list_of (by rfl) B.list (by decide +kernel) (pa_cons (pe_fld (pv 0) rfl) pa_nil)))) pss_nil) (pss_one ps_never), ?_⟩
    obtain ⟨dx, hp⟩ := hG.at_
    exact ⟨_, rfl, _, rfl, iteT ⟨_, rfl, p, D, dx, _, _, rfl, hp, TG.cl, TG.nT, gf_told _ _ _, r.td, _, rfl, .inl (.inl (.inl hG.told)), q⟩⟩
/-! ### check_gathering -/
def spCheckG (C D : Addr) : Sp := fun vs H Q _ => ∃ (p : Addr) (r : GR), vs = [.ref p] ∧ GatAt C D H p r ∧ Q .non H
theorem scCheckG : FnScope ["thing"] ["thing"] (defScope sCheckG) := ⟨rfl, rfl, rfl, by decide +kernel, rfl, by decide +kernel, by decide +kernel⟩
theorem ok_checkg (F : Fun K "check_gathering" "check_gathering" sCheckG f fd) (B : Bi mg) (TG : TxtG K mg D) (ins : C8.InsC K D) : FnOk P w K mg base CX0 1 f fd ["thing"] (spCheckG C D) := by
  refine F.ok scCheckG (fun vs H Q E h => ?_) (fun cdv A outer s H vs Q E hr h => ?_)
  · obtain ⟨p, r, rfl, _⟩ := h
    rfl
  · obtain ⟨p, r, rfl, hG, q⟩ := h
    refine ⟨_, pss_one (ps_if (pt_not (pt_val (pe_callB (C8.call_isC (C := D) ins) (by rfl) B.isi (by decide +kernel) (pa_cons (pv 0) (pa_cons (pe_glob (v := .ref D) rfl TG.mgD rfl) pa_nil))))) (pss_one ps_never) pss_nil), ?_⟩
    obtain ⟨dx, hp⟩ := hG.at_
    exact ⟨_, rfl, p, dx, _, rfl, hp, true, rfl, iteF q⟩
/-! ### summed_up -/
structure AgesI (H0 H : Hp) (d : Addr) (ks : List Str) (ad : Str → Addr) (m : Nat) : Prop where
  dict : H d = some (.dK (kvZ (fun z => .ref (ad z)) ks))
  lst : ∀ z ∈ ks, ∃ ns : List Int, H (ad z) = some (.lst (ns.map V.int)) ∧ ns ≠ [] ∧ ns.length ≤ m
  inj : ∀ z ∈ ks, ∀ y ∈ ks, ad z = ad y → z = y
  new : ∀ z ∈ ks, H0 (ad z) = none
theorem AgesI.same {H0 H H' : Hp} {d : Addr} {ks : List Str} {ad : Str → Addr} {m : Nat} (h : AgesI H0 H d ks ad m) (s : Same H H') : AgesI H0 H' d ks ad m :=
  ⟨s _ _ h.dict, fun z hz => let ⟨ns, e, k⟩ := h.lst z hz; ⟨ns, s _ _ e, k⟩, h.inj, h.new⟩
end
end Wl




/-! A comprehension whose test makes objects. -/
namespace Wl
open PySem PySem.Spec PyProof.Rows L2
section
variable {J : It} {ys : List V} {G : Hp → Prop} {slot : Nat} {tt : TT} {te : TE} {vs : List Nat} {σ : L2.St} {H1 : Hp} {D : Addr} {Qd : Hp → Prop}
theorem lc_keepX (w : L2.Walk J ys.length G (YAt ys)) (hD : H1 D = none) (keep : V → Bool) (hG : ∀ H, Same H1 H → G H) (hw : ∀ x, wipe ((wipe σ vs).set slot (some x)) vs = wipe σ vs)
    (ht : ∀ (x : V) (H : Hp), x ∈ ys → Same H1 H → ∀ Q : Bool → Hp → Prop, (∀ H', Same H H' → Q (keep x) H') → tt ((wipe σ vs).set slot (some x)) H Q)
    (he : ∀ (x : V) (H : Hp) (Q : VK), Q x H → te ((wipe σ vs).set slot (some x)) H Q)
    (hn : ys.length < sizeLine)
    (hd : ∀ H, Same H1 H → H D = some (.lst (ys.filter keep)) → Qd H) :
    ∃ W : Nat → Nat → Hp → Prop, (∃ m, W 0 m (upd H1 D (.lst []))) ∧ ∀ i m H, W i m H →
      (J.stop i H ∧ Qd H) ∨ (J.go i H ∧ ∃ Nx : Hp → Prop, (∀ H', Nx H' → ∃ m', m' < m ∧ W (i + 1) m' H') ∧ ∀ x H', J.yld i H x H' → gName slot x (wipe σ vs) H' fun σ2 H2 => wipe σ2 vs = wipe σ vs ∧ tt σ2 H2 fun b H3 =>
        if b = true then te σ2 H3 fun y H4 => ∃ acc, H4 D = some (.lst acc) ∧ acc.length < sizeLine ∧ Nx (upd H4 D (.lst (acc ++ [y]))) else Nx H3) := by
  refine lc_it w (fun i H => Same H1 H ∧ H D = some (.lst ((ys.take i).filter keep))) ⟨same_new hD, upd_same⟩ (fun i H _ h => hG H h.1) ?_ ?_
  · rintro i x H H' hi ⟨s, hz⟩ ⟨rfl, hx⟩
    have hm : x ∈ ys := List.mem_of_getElem? hx
    refine ⟨hw x, ht x _ hm s _ fun H3 s3 => ?_⟩
    have hf := filter_take_snoc (p := keep) hx
    refine ite_b (fun e => ?_) (fun e => ?_)
    · refine he x _ _ ⟨_, s3 _ _ hz, ?_, same_mut (s.trans s3) hD, ?_⟩
      · have h2 : ((ys.take i).filter keep).length ≤ (ys.take i).length := List.length_filter_le _ _
        have h3 : (ys.take i).length ≤ ys.length := List.length_take_le' _ _
        omega
      · rw [upd_same, hf, if_pos e]
    · refine ⟨s.trans s3, ?_⟩
      rw [hf, if_neg (by rw [e]; decide), List.append_nil]
      exact s3 _ _ hz
  · rintro H ⟨s, hz⟩
    rw [List.take_length] at hz
    exact hd H s hz
end
end Wl

namespace Wl
open PySem PySem.Spec PyProof.Rows L2
theorem telV_inj' {t u : Tel} (h : telV t = telV u) : t = u := by
  cases t
  cases u
  simp only [telV, List.cons.injEq, V.str.injEq, V.int.injEq, V.bl.injEq, and_true] at h
  obtain ⟨h1, h2, h3, h4, h5, h6, h7⟩ := h
  have h5 := Int.ofNat.inj h5
  subst h1 h2 h3 h4 h5 h6 h7
  rfl
/-- a test of tellings, as a test of values -/
noncomputable def keepBy (H : Hp) (pr : Tel → Bool) (x : V) : Bool := open Classical in if h : ∃ t : Tel, ∃ p, x = .ref p ∧ H p = some (.tup (telV t)) then pr h.choose else false
theorem keepBy_at {H : Hp} {pr : Tel → Bool} {p : Addr} {t : Tel} (h : H p = some (.tup (telV t))) : keepBy H pr (.ref p) = pr t := by
  unfold keepBy
  have e : ∃ t : Tel, ∃ q, V.ref p = .ref q ∧ H q = some (.tup (telV t)) := ⟨t, p, rfl, h⟩
  rw [dif_pos e]
  obtain ⟨q, e1, e2⟩ := e.choose_spec
  have e1 := V.ref.inj e1
  subst e1
  rw [h] at e2
  rw [← telV_inj' (HO.tup.inj (Option.some.inj e2))]
theorem tels_filter {H H' : Hp} {pr : Tel → Bool} : ∀ {as : List Addr} {ts : List Tel}, TelsAt H as ts → TelsAt H' as ts → ∃ bs : List Addr, ((as.map V.ref).filter (keepBy H pr)).map id = bs.map V.ref ∧ TelsAt H' bs (ts.filter pr)
  | _, _, .nil, .nil => ⟨[], rfl, .nil⟩
  | _, _, .cons (a := p) (b := t) e r, .cons e' r' => by
    obtain ⟨bs, h1, h2⟩ := tels_filter (pr := pr) r r'
    rw [List.map_cons, List.filter_cons, keepBy_at e, List.filter_cons]
    by_cases c : pr t = true
    · rw [if_pos c, if_pos c]
      exact ⟨p :: bs, by rw [List.map_cons, h1]; rfl, .cons e' h2⟩
    · rw [if_neg c, if_neg c]
      exact ⟨bs, h1, h2⟩
section
variable {P : Program} {w : World} {K : PySem.W.Frag} {mg : Str → Option Value} {base : Heap} {f C D : Addr} {fd : FuncData}
/-- [t for t in tellings if ..] -/
theorem pick_tels {H1 : Hp} {a Dd : Addr} {as : List Addr} {ts : List Tel} {tt : TT} {te : TE} {slot : Nat} {vs : List Nat} {σ : L2.St} {Qd : Hp → Prop} (hl : H1 a = some (.lst (as.map V.ref))) (hT : TelsAt H1 as ts) (hD : H1 Dd = none) (pr : Tel → Bool) (hn : ts.length ≤ 200)
    (hw : ∀ x, wipe ((wipe σ vs).set slot (some x)) vs = wipe σ vs)
    (ht : ∀ (p : Addr) (t : Tel) (H : Hp), t ∈ ts → H p = some (.tup (telV t)) → Same H1 H → ∀ Q : Bool → Hp → Prop, Q (pr t) H → tt ((wipe σ vs).set slot (some (.ref p))) H Q)
    (he : ∀ (x : V) (H : Hp) (Q : VK), Q x H → te ((wipe σ vs).set slot (some x)) H Q)
    (hd : ∀ (bs : List Addr) (H : Hp), Same H1 H → H Dd = some (.lst (bs.map V.ref)) → TelsAt H bs (ts.filter pr) → Qd H) :
    ∃ W : Nat → Nat → Hp → Prop, (∃ m, W 0 m (upd H1 Dd (.lst []))) ∧ ∀ i m H, W i m H →
      ((Itl K a).stop i H ∧ Qd H) ∨ ((Itl K a).go i H ∧ ∃ Nx : Hp → Prop, (∀ H', Nx H' → ∃ m', m' < m ∧ W (i + 1) m' H') ∧ ∀ x H', (Itl K a).yld i H x H' → gName slot x (wipe σ vs) H' fun σ2 H2 => wipe σ2 vs = wipe σ vs ∧ tt σ2 H2 fun b H3 =>
        if b = true then te σ2 H3 fun y H4 => ∃ acc, H4 Dd = some (.lst acc) ∧ acc.length < sizeLine ∧ Nx (upd H4 Dd (.lst (acc ++ [y]))) else Nx H3) := by
  have hlen := hT.length
  refine lc_map (walk_list (K := K) (a := a) (xs := as.map V.ref)) hD (keepBy H1 pr) id (fun H' s' => .inl (.inl (s' _ _ hl))) hw ?_ ?_ ?_ ?_
  · intro x H' hx s' Q' q'
    obtain ⟨p, hp, rfl⟩ := List.mem_map.mp hx
    obtain ⟨i, hi, ei⟩ := List.mem_iff_getElem.mp hp
    obtain ⟨t, htm, hH⟩ := Each.get hT (i := i) (a := p) (by rw [List.getElem?_eq_getElem hi, ei])
    rw [keepBy_at hH] at q'
    exact ht p t H' (List.mem_of_getElem? htm) (s' _ _ hH) s' Q' q'
  · intro x H' hx _ _ Q' q'
    exact he x H' Q' q'
  · rw [List.length_map]
    exact small1000 (by omega)
  · intro H2 s2 hD2
    obtain ⟨bs, e1, e2⟩ := tels_filter (pr := pr) hT (hT.keep (tk_same s2))
    rw [e1] at hD2
    exact hd bs H2 s2 hD2 e2
/-! ### by_village -/
end
end Wl




namespace Wl
open PySem PySem.Spec PyProof.Rows L2
abbrev sTwo : Stmt := topS 64
theorem str_dec {x y : Str} : decide (V.str x = V.str y) = decide (x = y) := by
  by_cases h : x = y
  · rw [h, decide_eq_true rfl, decide_eq_true rfl]
  · rw [decide_eq_false h, decide_eq_false fun e => h (V.str.inj e)]
theorem one_mean_eq {chs : List Chg} {z y : Str} : OneP chs z y ↔ mean chs z = mean chs y := by
  rw [one_iff]
  constructor
  · exact fun h => h.2
  · intro h
    refine ⟨?_, h⟩
    have e := congrArg (fun u : Str => (codes u).length) h
    simp only [mean_len] at e
    exact e
/-- the sure tellings of a thing that mean a word -/
noncomputable def saysT (chs : List Chg) (z a : Str) (ts : List Tel) : List Tel := (ts.filter fun t => decide (t.th = z) && t.sure).filter fun t => decide (mean chs t.wo = mean chs a)
theorem says_mem {chs : List Chg} {z a : Str} {ts : List Tel} {t : Tel} (h : t ∈ saysT chs z a ts) : t ∈ ts := (List.mem_filter.mp (List.mem_filter.mp h).1).1
theorem says_len (chs : List Chg) (z a : Str) (ts : List Tel) : (saysT chs z a ts).length ≤ ts.length := Nat.le_trans (List.length_filter_le _ _) (List.length_filter_le _ _)
def howN (t1 t2 : List Tel) (c : Nat) : Nat := (t1.filter fun t => decide (t.age < c)).length + (t2.filter fun t => decide (c ≤ t.age)).length
/-- the least number, and the least age with it -/
def BestAt (h : Nat → Nat) (c : Nat) : Prop := c < 122 ∧ ∀ d < 122, ¬ (h d < h c ∨ (h d = h c ∧ d < c))
theorem best_one {h : Nat → Nat} {c d : Nat} (a : BestAt h c) (b : BestAt h d) : c = d := by
  have h1 := a.2 d b.1
  have h2 := b.2 c a.1
  omega
section
variable {P : Program} {w : World} {K : PySem.W.Frag} {mg : Str → Option Value} {base : Heap} {f C D : Addr} {fd : FuncData}
/-- [t for t in tellings if ..], the test makes objects -/
theorem pick_telsX {H1 : Hp} {a Dd : Addr} {as : List Addr} {ts : List Tel} {tt : TT} {te : TE} {slot : Nat} {vs : List Nat} {σ : L2.St} {Qd : Hp → Prop} (hl : H1 a = some (.lst (as.map V.ref))) (hT : TelsAt H1 as ts) (hD : H1 Dd = none) (pr : Tel → Bool) (hn : ts.length ≤ 200)
    (hw : ∀ x, wipe ((wipe σ vs).set slot (some x)) vs = wipe σ vs)
    (ht : ∀ (p : Addr) (t : Tel) (H : Hp), t ∈ ts → H p = some (.tup (telV t)) → Same H1 H → ∀ Q : Bool → Hp → Prop, (∀ H', Same H H' → Q (pr t) H') → tt ((wipe σ vs).set slot (some (.ref p))) H Q)
    (he : ∀ (x : V) (H : Hp) (Q : VK), Q x H → te ((wipe σ vs).set slot (some x)) H Q)
    (hd : ∀ (bs : List Addr) (H : Hp), Same H1 H → H Dd = some (.lst (bs.map V.ref)) → TelsAt H bs (ts.filter pr) → Qd H) :
    ∃ W : Nat → Nat → Hp → Prop, (∃ m, W 0 m (upd H1 Dd (.lst []))) ∧ ∀ i m H, W i m H →
      ((Itl K a).stop i H ∧ Qd H) ∨ ((Itl K a).go i H ∧ ∃ Nx : Hp → Prop, (∀ H', Nx H' → ∃ m', m' < m ∧ W (i + 1) m' H') ∧ ∀ x H', (Itl K a).yld i H x H' → gName slot x (wipe σ vs) H' fun σ2 H2 => wipe σ2 vs = wipe σ vs ∧ tt σ2 H2 fun b H3 =>
        if b = true then te σ2 H3 fun y H4 => ∃ acc, H4 Dd = some (.lst acc) ∧ acc.length < sizeLine ∧ Nx (upd H4 Dd (.lst (acc ++ [y]))) else Nx H3) := by
  have hlen := hT.length
  refine lc_keepX (walk_list (K := K) (a := a) (xs := as.map V.ref)) hD (keepBy H1 pr) (fun H' s' => .inl (.inl (s' _ _ hl))) hw ?_ he ?_ ?_
  · intro x H' hx s' Q' q'
    obtain ⟨p, hp, rfl⟩ := List.mem_map.mp hx
    obtain ⟨i, hi, ei⟩ := List.mem_iff_getElem.mp hp
    obtain ⟨t, htm, hH⟩ := Each.get hT (i := i) (a := p) (by rw [List.getElem?_eq_getElem hi, ei])
    rw [keepBy_at hH] at q'
    exact ht p t H' (List.mem_of_getElem? htm) (s' _ _ hH) s' Q' q'
  · rw [List.length_map]
    exact small1000 (by omega)
  · intro H2 s2 hD2
    obtain ⟨bs, e1, e2⟩ := tels_filter (pr := pr) hT (hT.keep (tk_same s2))
    rw [List.map_id] at e1
    rw [e1] at hD2
    exact hd bs H2 s2 hD2 e2
/-! ### tellings_of_two -/
def spTwo (C D : Addr) : Sp := fun vs H Q _ => ∃ (g : Addr) (r : GR) (z a b : Str) (v : V) (chs : List Chg), vs = [.ref g, .str z, .str a, .str b, v] ∧ GatAt C D H g r ∧ (∀ t ∈ r.ts, OkT t) ∧ r.ts.length ≤ 200 ∧ IsWd z ∧ IsWd a ∧ IsWd b ∧ ChV H v chs ∧ OkCs chs ∧ mean chs a ≠ mean chs b ∧
  ∀ (t l1 l2 : Addr) (as1 as2 : List Addr) (H' : Hp), Same H H' → H' t = some (.tup [.ref l1, .ref l2]) → H' l1 = some (.lst (as1.map V.ref)) → H' l2 = some (.lst (as2.map V.ref)) → TelsAt H' as1 (saysT chs z a r.ts) → TelsAt H' as2 (saysT chs z b r.ts) → Q (.ref t) H'
abbrev psTwo : List Str := ["gathering", "thing", "one", "other", "changes"]
abbrev nTwo : List Str := ["gathering", "thing", "one", "other", "changes", "known", "sure", "ones", "others", "telling"]
theorem scTwo : FnScope nTwo psTwo (defScope sTwo) := ⟨rfl, rfl, rfl, by decide +kernel, rfl, by decide +kernel, by decide +kernel⟩
def HasTl (P : Program) (w : World) (K : PySem.W.Frag) (mg : Str → Option Value) (base : Heap) (C D : Addr) : Prop := ∃ f fd, FnOk P w K mg base CX0 1 f fd ["self", "keying"] (spTell C D) ∧ Meth K D "tellings" f ∧ FunT K f fd
theorem ok_two (F : Fun K "tellings_of_two" "tellings_of_two" sTwo f fd) (TG : TxtG K mg D) (hCG : Has P w K mg base "check_gathering" 1 ["thing"] (spCheckG C D)) (hW : Has P w K mg base "check_word" 2 ["word"] spCheckW)
    (hCh : Has P w K mg base "checked_changes" 4 ["changes"] spChecked) (hA : HasN P w K mg base "are_one" wAre 6 ps3 spAre) (hT : HasTl P w K mg base C D) : FnOk P w K mg base CX0 7 f fd psTwo (spTwo C D) := by
  obtain ⟨fT, fdT, FT, mT, FnT⟩ := hT
  obtain ⟨dsT, vT, bT⟩ := tell_b1 FnT
  obtain ⟨fA, fdA, FA, mA, NA⟩ := hA
  have bA := bind3 NA (.inr rfl)
  refine F.ok scTwo (fun vs H Q E h => ?_) (fun cdv A outer s H vs Q E hr h => ?_)
  · obtain ⟨g, r, z, a, b, v, chs, rfl, _⟩ := h
    rfl
  · obtain ⟨g, r, z, a, b, v, chs, rfl, hG, hok, h200, hz, ha, hb, hv, okc, hne, q⟩ := h
    refine ⟨_, pss_cons (ps_expr (pe_h hCG hr (pa_cons (pv 0) pa_nil)))
      (pss_cons (ps_expr (pe_h hW hr (pa_cons (pv 1) pa_nil)))
      (pss_cons (ps_expr (pe_h hW hr (pa_cons (pv 2) pa_nil)))
      (pss_cons (ps_expr (pe_h hW hr (pa_cons (pv 3) pa_nil)))
      (pss_cons (ps_set (i := 5) scTwo.nd rfl (.inr rfl) (pe_h hCh hr (pa_cons (pv 4) pa_nil)))
      (pss_cons (ps_if (pt_val (pe_call FA hr rfl mA NA.kp bA .nil pass0 (pa_cons (pv 2) (pa_cons (pv 3) (pa_cons (pv 5) pa_nil))))) (pss_one ps_never) pss_nil)
      (pss_cons (ps_setLc (i := 6) (own := [("telling", 9)]) (g := gName 9) (tt := tAnd (tTest (tOp rEq (tOp (rIxT K) (tVar 9) (tC (.int 1))) (tVar 1))) (tB (tOp (rIxT K) (tVar 9) (tC (.int 6))))) (te := tVar 9) rfl scTwo.nd rfl rfl (sw_true rfl rfl rfl (by decide +kernel)) (pi_list (pe_meth0 (pv 0) TG.cl mT FT (hr.mono (by decide)) bT vT pass0)) (blkOk_by (N := nTwo) (sc := defScope sTwo) (by decide +kernel))
        (fun _ _ _ _ _ => pg_name (i := 9) scTwo.nd rfl (.inl rfl)) (fun _ _ _ _ _ => pts_one (PW.pt (pw_and (pt_cmpR op_eq (pe_ix ix_tup (pv 9) pe_int (fun _ _ => rfl)) (pv 1) (nomark _)) (pw_and1 (pt_val (pe_ix ix_tup (pv 9) pe_int (fun _ _ => rfl))))))) (fun _ _ _ _ _ => pv 9))
      (pss_cons (ps_setLc (i := 7) (own := [("telling", 9)]) (g := gName 9) (tt := tB (tCall spAre [] E0 (tCons (tOp (rIxT K) (tVar 9) (tC (.int 2))) (tCons (tVar 2) (tCons (tVar 5) tNil))))) (te := tVar 9) rfl scTwo.nd rfl rfl (sw_true rfl rfl rfl (by decide +kernel)) (pi_list (pv 6)) (blkOk_by (N := nTwo) (sc := defScope sTwo) (by decide +kernel))
        (fun _ _ _ _ _ => pg_name (i := 9) scTwo.nd rfl (.inl rfl)) (fun _ _ _ _ _ => pts_one (pt_val (pe_call FA hr rfl mA NA.kp bA .nil pass0 (pa_cons (pe_ix ix_tup (pv 9) pe_int (fun _ _ => rfl)) (pa_cons (pv 2) (pa_cons (pv 5) pa_nil)))))) (fun _ _ _ _ _ => pv 9))
      (pss_cons (ps_setLc (i := 8) (own := [("telling", 9)]) (g := gName 9) (tt := tB (tCall spAre [] E0 (tCons (tOp (rIxT K) (tVar 9) (tC (.int 2))) (tCons (tVar 3) (tCons (tVar 5) tNil))))) (te := tVar 9) rfl scTwo.nd rfl rfl (sw_true rfl rfl rfl (by decide +kernel)) (pi_list (pv 6)) (blkOk_by (N := nTwo) (sc := defScope sTwo) (by decide +kernel))
        (fun _ _ _ _ _ => pg_name (i := 9) scTwo.nd rfl (.inl rfl)) (fun _ _ _ _ _ => pts_one (pt_val (pe_call FA hr rfl mA NA.kp bA .nil pass0 (pa_cons (pe_ix ix_tup (pv 9) pe_int (fun _ _ => rfl)) (pa_cons (pv 3) (pa_cons (pv 5) pa_nil)))))) (fun _ _ _ _ _ => pv 9))
      (pss_one (ps_ret (pe_tup (pa_cons (pv 7) (pa_cons (pv 8) pa_nil)))))))))))))  , ?_⟩
    refine ⟨_, rfl, g, r, rfl, hG, ?_⟩
    refine ⟨_, rfl, z, rfl, hz, fun H1 s1 => ?_⟩
    refine ⟨_, rfl, a, rfl, ha, fun H2 s2 => ?_⟩
    refine ⟨_, rfl, b, rfl, hb, fun H3 s3 => ?_⟩
    have s03 := (s1.trans s2).trans s3
    refine ⟨_, rfl, v, chs, rfl, hv.same s03, okc, fun S H4 s4 hS => ?_⟩
    refine ⟨_, rfl, _, rfl, _, rfl, a, b, .ref S, chs, rfl, ha, hb, .inr ⟨S, rfl, hS⟩, okc, fun k H5 s5 hk => ⟨k, rfl, ?_⟩⟩
    have ek : k = false := by
      cases k with
      | false => rfl
      | true => exact absurd (one_mean_eq.mp (hk.mp rfl)) hne
    rw [ek]
    refine iteF ?_
    have s05 := (s03.trans s4).trans s5
    have hG5 := hG.same s05
    have hS5 := hS.same s5
    obtain ⟨dg5, hg5⟩ := hG5.at_
    refine ⟨_, rfl, g, dg5, _, rfl, hg5, gf_no _ _ _, g, r, rfl, hG5, fun l hl => ⟨l, rfl, ⟨_, .inl (.inl upd_same)⟩, fun Dd hD => ?_⟩⟩
    have s6 := same_new (o := .lst (r.as.map V.ref)) hl
    have hl6 : L2.upd H5 l (.lst (r.as.map V.ref)) l = some (.lst (r.as.map V.ref)) := upd_same
    generalize L2.upd H5 l (.lst (r.as.map V.ref)) = H6 at s6 hl6 hD
    refine pick_tels (K := K) hl6 (hG5.tels.keep (tk_same s6)) hD (fun t => decide (t.th = z) && t.sure) h200 (fun _ => rfl) ?_ (fun x H' Q' q' => ⟨_, rfl, q'⟩) ?_
    · intro pt t H' _ hpt _ Q' q'
      refine ⟨_, rfl, pt, _, _, _, rfl, rfl, .inl (.inl hpt), atI_nat (j := 1) rfl, _, rfl, rfl, _, rfl, ?_⟩
      rw [str_dec]
      refine ite_b (fun e => ?_) (fun e => ?_)
      · rw [e, Bool.true_and] at q'
        exact ⟨_, rfl, pt, _, _, _, rfl, rfl, .inl (.inl hpt), atI_nat (j := 6) rfl, _, rfl, q'⟩
      · rw [e, Bool.false_and] at q'
        exact q'
    intro bs H7 s7 hD7 hb7
    have okS : ∀ t ∈ (r.ts.filter fun t => decide (t.th = z) && t.sure), OkT t := fun t ht => hok t (List.mem_filter.mp ht).1
    have lenS : (r.ts.filter fun t => decide (t.th = z) && t.sure).length ≤ 200 := Nat.le_trans (List.length_filter_le _ _) h200
    have s57 := s6.trans s7
    have hS7 := hS5.same s57
    refine ⟨_, rfl, Dd, rfl, ⟨_, .inl (.inl hD7)⟩, fun D2 hD2 => ?_⟩
    refine pick_telsX (K := K) hD7 hb7 hD2 (fun t => decide (mean chs t.wo = mean chs a)) lenS (fun _ => rfl) ?_ (fun x H' Q' q' => ⟨_, rfl, q'⟩) ?_
    · intro pt t H' htm hpt s' Q' q'
      refine ⟨_, rfl, pt, _, _, _, rfl, rfl, .inl (.inl hpt), atI_nat (j := 2) rfl, _, rfl, _, rfl, t.wo, a, .ref S, chs, rfl, (okS t htm).wo, ha, .inr ⟨S, rfl, hS7.same s'⟩, okc, fun k2 H8 s8 hk2 => ⟨k2, rfl, ?_⟩⟩
      have e2 : decide (mean chs t.wo = mean chs a) = k2 := by
        rw [Bool.eq_iff_iff, decide_eq_true_eq, hk2]
        exact one_mean_eq.symm
      rw [← e2]
      exact q' H8 s8
    intro as1 H8 s8 hD8 ht8
    have hS8 := hS7.same s8
    refine ⟨_, rfl, Dd, rfl, ⟨_, .inl (.inl (s8 _ _ hD7))⟩, fun D3 hD3 => ?_⟩
    refine pick_telsX (K := K) (s8 _ _ hD7) (hb7.keep (tk_same s8)) hD3 (fun t => decide (mean chs t.wo = mean chs b)) lenS (fun _ => rfl) ?_ (fun x H' Q' q' => ⟨_, rfl, q'⟩) ?_
    · intro pt t H' htm hpt s' Q' q'
      refine ⟨_, rfl, pt, _, _, _, rfl, rfl, .inl (.inl hpt), atI_nat (j := 2) rfl, _, rfl, _, rfl, t.wo, b, .ref S, chs, rfl, (okS t htm).wo, hb, .inr ⟨S, rfl, hS8.same s'⟩, okc, fun k2 H9 s9 hk2 => ⟨k2, rfl, ?_⟩⟩
      have e2 : decide (mean chs t.wo = mean chs b) = k2 := by
        rw [Bool.eq_iff_iff, decide_eq_true_eq, hk2]
        exact one_mean_eq.symm
      rw [← e2]
      exact q' H9 s9
    intro as2 H9 s9 hD9 ht9
    refine ⟨_, rfl, _, rfl, lz, fun tp htp => ?_⟩
    have s10 := same_new (o := .tup [V.ref D2, V.ref D3]) htp
    exact q tp D2 D3 as1 as2 _ (((s05.trans s57).trans s8).trans (s9.trans s10)) upd_same (s10 _ _ (s9 _ _ hD8)) (s10 _ _ hD9) (ht8.keep (tk_same (s9.trans s10))) (ht9.keep (tk_same s10))
/-! ### how_otherwise -/
abbrev nHow : List Str := ["ones", "others", "age", "young_ones", "old_others", "telling"]
/-! ### age_cut -/
noncomputable def cutH (chs : List Chg) (z a b : Str) (ts : List Tel) (c : Nat) : Nat := howN (saysT chs z a ts) (saysT chs z b ts) c
abbrev nCut : List Str := ["gathering", "thing", "one", "other", "changes", "ones", "others", "how", "age", "cut"]
end
end Wl



/-! Sets of texts, whole: set(xs), {e for ..}, sorted(a set). -/
namespace Wl
open PySem PySem.Spec PyProof.Rows L2
open PySem.Froz (SD sObj TxOk addTx tailTx)
theorem tail_ris {ep : Nat} {es : Array (Int × Value)} {t : SetTable} {b : Bool} (r : Ris t.place.toList) : Ris (tailTx ep es t b).2.2.place.toList := by
  unfold tailTx
  split
  · exact relayAll_ris _ _ _
  · exact r
theorem tail_led {ep : Nat} {es : Array (Int × Value)} {t : SetTable} {b : Bool} : (tailTx ep es t b).2.2.led = t.led := by
  unfold tailTx
  split
  · exact relayAll_led _ _ _
  · rfl
theorem add_ris {h : Int} {v : Value} {D : SD} (r : Ris D.2.2.place.toList) : Ris (addTx h v D).2.2.place.toList := by
  unfold addTx
  refine tail_ris ?_
  split
  · exact layNew_ris _ _ _ _ r
  · exact layNew_ris _ _ _ _ r
theorem add_led {h : Int} {v : Value} {D : SD} : (addTx h v D).2.2.led = D.2.2.led := by
  unfold addTx
  rw [tail_led]
  split
  · exact layNew_led _ _ _ _
  · exact layNew_led _ _ _ _
/-- the set at a holds the texts l, each once -/
structure SetX (P : Program) (w : World) (h : Heap) (a : Addr) (l : List Str) : Prop where
  nd : l.Nodup
  ob : ∃ D : SD, h.get? a = some (sObj "set" D) ∧ TxOk P w D l ∧ Ris D.2.2.place.toList ∧ (w.params.followText "set-order" = true ∨ D.2.2.led = true)
section
variable {P : Program} {w : World} {A : Around} {E : Value → Shared → Prop} {s : Shared} {a : Addr} {l : List Str} {k : Str} {u : Tok}
theorem SetX.at {h h' : Heap} (R : SetX P w h a l) (q : ∀ o, h.get? a = some o → h'.get? a = some o) : SetX P w h' a l := by
  obtain ⟨D, h1, h2⟩ := R.ob
  exact ⟨R.nd, D, q _ h1, h2⟩
/-- a text that is there already -/
theorem add_old {T : String} {D : SD} {Q : Bool → Shared → Prop} (hob : s.heap.get? a = some (sObj T D)) (F : TxOk P w D l) (hk : k ∈ l) (hb : l.length < scanBound) (h : Q false s) : wpAny (model P w) A (setAddHashed a (.str k u) (hashStr w k)) Q E s := by
  obtain ⟨es, ep, t⟩ := D
  have hdt : (sObj T (es, ep, t)).data = .set es ep t := rfl
  have hft : t.fits es.size = true := F.fit
  have hels : ElemsOf (strKind P w) es.toList := F.el
  have hn : es.size < scanBound := by rw [show es.size = l.length from F.sz]; exact hb
  have hks : (strKind P w).is k (.str k u) = true := PySem.Froz.is_str k u
  obtain ⟨j, hj⟩ : ∃ j, List.findIdx? (fun e => (strKind P w).is k e.2) es.toList = some j := by
    obtain ⟨e, he, hq⟩ := (F.mem k).mp hk
    cases hr : List.findIdx? (fun e => (strKind P w).is k e.2) es.toList with
    | some j => exact ⟨j, rfl⟩
    | none =>
      have := List.findIdx?_eq_none_iff.mp hr e he
      rw [hq] at this
      cases this
  unfold setAddHashed setAddHashedIn
  refine wpAny_holding (wpAny_bind (wpAny_setState_of hob hdt hft ?_))
  dsimp only
  rw [byScan_of rfl hn hels]
  simp only [↓reduceIte]
  unfold setAddByScan
  refine wpAny_bind (wpAny_bind (wpAny_rule (wpAny_bind (wpAny_setScan_of (knd := strKind P w) (k := k) hks hob hdt hft hels ?_))))
  rw [hj]
  dsimp only
  exact wpAny_pure (wpAny_pure h)
/-- a text put in -/
theorem setX_put {Q : Bool → Shared → Prop} (R : SetX P w s.heap a l) (room : l.length + 1 < scanBound)
    (hQ : ∀ (b : Bool) (h' : Heap) (l' : List Str), (∀ c o, c ≠ a → s.heap.get? c = some o → h'.get? c = some o) → SetX P w h' a l' → (∀ z, z ∈ l' ↔ z ∈ l ∨ z = k) → l'.length ≤ l.length + 1 → Q b { s with heap := h', toks := s.toks + 1 }) :
    wpAny (model P w) A (setAdd a (.str k u)) Q E s := by
  obtain ⟨D, h1, F, r, hl⟩ := R.ob
  unfold setAdd
  refine wpAny_holding (wpAny_bind ((PySem.strKind P w).pyHash (k := k) (strKind_is _ _ _ _) ?_))
  by_cases hk : k ∈ l
  · refine add_old (s := { s with toks := s.toks + 1 }) h1 F hk (by omega) (hQ false s.heap l (fun _ _ _ e => e) R (fun z => ?_) (Nat.le_succ _))
    constructor
    · exact .inl
    · rintro (e | e)
      · exact e
      · rw [e]
        exact hk
  · refine PySem.Froz.add_x (s := { s with toks := s.toks + 1 }) h1 F hk room (hQ true _ (k :: l) (fun c o n e => ?_) ⟨List.nodup_cons.mpr ⟨hk, R.nd⟩, _, PySem.Froz.get_upd _ h1 rfl, PySem.Froz.add_ok u F, add_ris r, ?_⟩ (fun z => ?_) (Nat.le_refl _))
    · exact (Heap.get?_update_other _ _ (Ne.symm n)).trans e
    · rw [add_led]
      exact hl
    · rw [List.mem_cons]
      exact Or.comm
end
section
variable {P : Program} {w : World} {A : Around} {R : Result → Shared → Prop} {I S : Addr} {fp wr : List Addr} {G : Array GenState → Array GenState → Prop} {n : Nat} {Pv : Nat → Value → Prop} {St : Nat → Shared → Prop} {xs : List Str}
/-- the texts of a walk, put in one by one -/
theorem walk_setX (W : WalksS P w A.in1 I fp wr G n Pv St) (hS : S ∉ fp) (hn : n = xs.length) (hb : n + 1 < scanBound) (hv : ∀ i v, Pv i v → ∃ x t, xs[i]? = some x ∧ v = .str x t) :
    ∀ (m i : Nat) (s : Shared) (l : List Str), n - i = m → i ≤ n → St i s → SetX P w s.heap S l → (∀ z, z ∈ l ↔ z ∈ xs.take i) → l.length ≤ i →
      (∀ s' l', Moved (S :: wr) G s s' → SetX P w s'.heap S l' → (∀ z, z ∈ l' ↔ z ∈ xs) → l'.length ≤ n → R (.ok (.ret .none)) s') → codeAny (model P w) A (.builtin "set.update.loop" ⟨[.ref S, .ref I], []⟩) R s := by
  have nS : S ∉ wr := fun q => hS (W.sub _ q)
  have wide : ∀ b ∈ wr, b ∈ S :: wr := fun b q => List.mem_cons_of_mem _ q
  intro m
  induction m with
  | zero =>
    intro i s l hm hi st X hz hl fin
    have e : i = n := by omega
    subst e
    refine codeAny_builtin PyProof.Rows.F.entry_set_update_loop ((Around.under_plainId PyProof.Rows.F.plain_set_update_loop _).symm ▸ ?_)
    show wpAny _ A.in1 (pyNext (.ref I) >>= _) _ _ s
    refine wpAny_bind (W.done s _ _ st fun s' mv => wpAny_pure (fin s' l (mv.mono wide) (X.at fun o q => mv.heap S o nS q) (fun z => ?_) hl))
    rw [hz, hn, List.take_length]
  | succ m ih =>
    intro i s l hm hi st X hz hl fin
    have lt : i < n := by omega
    refine codeAny_builtin PyProof.Rows.F.entry_set_update_loop ((Around.under_plainId PyProof.Rows.F.plain_set_update_loop _).symm ▸ ?_)
    show wpAny _ A.in1 (pyNext (.ref I) >>= _) _ _ s
    refine wpAny_bind (W.item i s _ _ lt st fun v s' pv st' mv => ?_)
    obtain ⟨x, t, hx, rfl⟩ := hv i v pv
    have X1 := X.at (h' := s'.heap) fun o q => mv.heap S o nS q
    show wpAny _ A.in1 (holding [Value.str x t] (setAdd S (.str x t)) >>= _) _ _ s'
    refine wpAny_bind (wpAny_holding (setX_put X1 (by omega) fun b h' l' kp X2 hz2 hl2 => ?_))
    refine wpAny_pure ⟨plainId_quiet PyProof.Rows.F.plain_set_update_loop _, ih (i + 1) _ l' (by omega) lt (W.frame _ s' _ _ st' (Nat.le_succ _) fun c hc o q => ?_) X2 (fun z => ?_) (by omega) fun s'' l'' mv2 X3 hz3 hl3 => fin s'' l'' (Moved.trans W.gtrans ((mv.mono wide).then_heap (Nat.le_succ _) fun c o hc q => ?_) mv2) X3 hz3 hl3⟩
    · exact kp c o (fun e => hS (e ▸ hc)) q
    · rw [hz2, hz, List.take_add_one, hx, List.mem_append]
      simp
    · exact kp c o (fun e => hc (e ▸ List.mem_cons_self)) q
end
theorem texts_each : ∀ {ys : List Str} {us : List Value}, Vals (ys.map V.str) us → ∀ (i : Nat) (v : Value), us[i]? = some v → ∃ x t, ys[i]? = some x ∧ v = .str x t
  | [], [], _, i, v, h => by simp at h
  | [], _ :: _, r, _, _, _ => nomatch r
  | _ :: _, [], r, _, _, _ => nomatch r
  | y :: ys, u :: us, .cons r t, 0, v, h => by
    obtain ⟨k, rfl⟩ := r
    exact ⟨y, k, rfl, (Option.some.inj h).symm⟩
  | y :: ys, u :: us, .cons r t, i + 1, v, h => by
    obtain ⟨x, k, h1, h2⟩ := texts_each t i v (by simpa using h)
    exact ⟨x, k, by simpa using h1, h2⟩
end Wl

namespace Wl
open PySem PySem.Spec PyProof.Rows L2
open PySem.Froz (SD sObj TxOk addTx tailTx)
/-- a new set, as the world lays it -/
abbrev setN (w : World) : Obj := { cls := .type "set", dict := none, data := .set #[] 0 (.fresh 0 0 (!w.params.followText "set-order")) }
theorem setX_new {P : Program} {w : World} {h : Heap} {a : Addr} (ho : h.get? a = some (setN w)) : SetX P w h a [] := by
  refine ⟨List.nodup_nil, (#[], 0, .fresh 0 0 (!w.params.followText "set-order")), ho, PySem.Froz.TxOk.nil rfl, List.Pairwise.nil, ?_⟩
  show _ ∨ (!w.params.followText "set-order") = true
  cases w.params.followText "set-order"
  · exact .inr rfl
  · exact .inl rfl
section
variable {P : Program} {w : World} {A : Around} {E : Value → Shared → Prop} {s : Shared} {xs : List Str}
theorem make_setX {l : Addr} {items : Array Value} {Q : Value → Shared → Prop} (hh : A.handled = none) (hl : s.heap.IsList l items) (r : Vals (xs.map V.str) items.toList) (hb : xs.length + 1 < scanBound)
    (h : ∀ (h' : Heap) (tk : Nat) (ys : List Str), SetX P w h' s.heap.objs.size ys → (∀ z, z ∈ ys ↔ z ∈ xs) → ys.length ≤ xs.length → (∀ b o, b < s.heap.objs.size → s.heap.get? b = some o → h'.get? b = some o) → Q (.ref s.heap.objs.size) { s with heap := h', toks := tk }) :
    wpAny (model P w) A (call (.type "set") [.ref l]) Q E s := by
  have hsz : xs.length = items.size := by
    have := r.length
    rw [List.length_map, Array.length_toList] at this
    exact this
  obtain ⟨c, tl, hmro⟩ := PySem.F.called_set.mro
  have a1 := PySem.F.called_set.made
  have a2 := PySem.F.called_set.sub
  have a3 := PySem.F.called_set.notType
  have a4 := PySem.F.called_set.canCreate
  have a5 := PySem.F.typeCall_set_1 (.ref l)
  refine wpAny_call (codeAny_of_tree (show wpAny _ _ (callAny (.type "set") _) _ _ _ from wpAny_pure ⟨Code.quiet_builtin _ (by decide +kernel), codeAny_builtin PySem.F.entry_type_call ?_⟩))
  rw [Around.under_plain (weight_type_call_type "set" [.ref l] []) rfl]
  repeat (any_goals (first | assumption | wp_step))
  refine codeAny_mono (code_set_led1 (.ref l) (E := E) (Q₁ := fun obj s₁ => obj = .ref s.heap.objs.size ∧ s₁ = { s with heap := s.heap.push (setN w) }) ⟨rfl, rfl⟩) fun r₁ s₁ h₁ => ?_
  cases r₁ with
  | error e => exact h₁
  | ok fl =>
    cases fl with
    | ret obj =>
      obtain ⟨rfl, rfl⟩ := h₁
      have g1 : (s.heap.push (setN w)).get? s.heap.objs.size = some (setN w) := Heap.get?_push_size _ rfl
      have g2 : Shared.TypeIs { s with heap := s.heap.push (setN w) } (.ref s.heap.objs.size) "set" := ⟨_, g1, rfl⟩
      have g3 := PySem.F.called_set.init.lookup
      have g4 := PySem.F.called_set.init.bind (.ref s.heap.objs.size)
      repeat (any_goals (first | assumption | wp_step))
      refine codeAny_mono (codeAny_call_builtin (R := wants (fun v s₂ => v = .none ∧ ∃ h' tk ys, s₂ = { s with heap := h', toks := tk } ∧ SetX P w h' s.heap.objs.size ys ∧ (∀ z, z ∈ ys ↔ z ∈ xs) ∧ ys.length ≤ xs.length ∧ (∀ b o, b < s.heap.objs.size → s.heap.get? b = some o → h'.get? b = some o)) E) PySem.F.called_set.init.plain PySem.F.entry_set_init (check_set_init_1 g2 ?_)) fun r₂ s₂ h₂ => ?_
      · obtain ⟨⟨oc, odt, oda, osl⟩, e1, e2, nl, e3⟩ := hl
        simp only at e2 e3
        subst e2 e3
        have e4 : (s.heap.push (setN w)).get? l = some { cls := .type "list", dict := odt, data := .seq items nl, slots := osl } := Heap.get?_push_of_some _ e1
        have b1 := PySem.F.sub_list_set
        have b2 := PySem.F.sub_list_frozenset
        have b3 : (Value.type "list" == Value.type "dict") = false := by decide
        have il : (s.heap.push (setN w)).IsList l items := ⟨_, e4, rfl, nl, rfl⟩
        have ll : l < s.heap.objs.size := Heap.lt_size e1
        have zz : (s.heap.push (setN w)).objs.size = s.heap.objs.size + 1 := Heap.size_push ..
        unfold Builtin.«set.__init__» noKeywords Builtin.Frozenset.updateFrom
        generalize hPI : pyIter = PI
        wp_walk
        subst hPI
        refine wpAny_pyIter_list il (wpAny_bind (wpAny_runValue ?_))
        have hh3 : A.in1.in1.in1.handled = none := by simp [hh]
        refine walk_setX (S := s.heap.objs.size) (xs := xs) (n := items.size) ((Walks.list hh3 _ l (by rw [zz]; exact Nat.ne_of_lt (Nat.lt_succ_of_lt ll)) items).toS) (by rw [zz]; simp only [List.mem_cons, List.not_mem_nil, or_false, not_or]; exact ⟨Nat.ne_of_lt (Nat.lt_succ_self _), Nat.ne_of_gt ll⟩) hsz.symm (by omega) (fun i v q => texts_each r i v (by rw [Array.getElem?_toList]; exact q)) (items.size - 0) 0 _ [] (by omega) (Nat.zero_le _) ⟨⟨_, Heap.get?_push_size _ rfl, rfl, rfl⟩, il.push _⟩ (setX_new (Heap.get?_push_of_some _ g1)) (fun z => by simp) (Nat.le_refl _) ?_
        intro s' ys mv X hz hy
        obtain ⟨h', g', d', tk', os'⟩ := s'
        obtain rfl : g' = s.gens := mv.gens
        obtain rfl : d' = s.drawn := mv.drawn
        obtain rfl : os' = s.os := mv.os
        refine wpAny_pure (show wpAny _ _ (ret Value.none) _ _ _ from wpAny_pure ⟨rfl, h', tk', ys, rfl, X, hz, by rw [hsz]; exact hy, fun b' o hb' q => mv.heap b' o ?_ (Heap.get?_push_of_some _ (Heap.get?_push_of_some _ q))⟩)
        rw [zz]
        simp only [List.mem_cons, List.not_mem_nil, or_false, not_or]
        exact ⟨Nat.ne_of_lt hb', Nat.ne_of_lt (Nat.lt_succ_of_lt hb')⟩
      · cases r₂ with
        | error e => exact h₂
        | ok fl₂ =>
          cases fl₂ with
          | ret v =>
            obtain ⟨rfl, h', tk, ys, rfl, X, hz, hy, kk⟩ := h₂
            repeat (any_goals (first | assumption | wp_step))
            exact h _ _ ys X hz hy kk
          | _ => exact h₂.elim
    | _ => exact h₁.elim
end
/-! as tracked things -/
def SetXO (P : Program) (w : World) (a : Addr) (l : List Str) : HO := .ext fun h => SetX P w h a l
theorem setXO_ok {P : Program} {w : World} {H : Hp} {h : Heap} {a : Addr} {l : List Str} (R : SetX P w h a l) : ObjOk P w H h a (SetXO P w a l) := by
  obtain ⟨D, h1, _⟩ := R.ob
  exact ⟨R, ⟨_, h1⟩, fun _ _ p k => p.at k⟩
theorem same_members {ks : List Str} : ∀ {l : List Str}, l.Nodup → (∀ z ∈ l, z ∈ ks) → ks.length = l.length → ks.Perm l := by
  intro l
  induction l generalizing ks with
  | nil =>
    intro _ _ h
    rw [List.eq_nil_of_length_eq_zero h]
  | cons x l ih =>
    intro nd hs hl
    rw [List.nodup_cons] at nd
    have hx := hs x List.mem_cons_self
    have p := List.perm_cons_erase hx
    refine p.trans (List.Perm.cons x (ih nd.2 (fun z hz => ?_) ?_))
    · have hne : z ≠ x := fun e => nd.1 (e ▸ hz)
      exact (List.mem_erase_of_ne hne).mpr (hs z (List.mem_cons_of_mem _ hz))
    · have := p.length_eq
      rw [List.length_cons] at this
      rw [List.length_cons] at hl
      omega
def txtV : Value → Str
  | .str k _ => k
  | _ => ""
theorem strs_srt (ks : List Str) : ks.mergeSort (PySem.W.dataLe false PyData.str) = sortS ks := by
  unfold sortS
  congr 1
  funext a b
  exact le_data_str a b
theorem each_txt : ∀ {vs : List Value}, (∀ v ∈ vs, ∃ k t, v = .str k t) → PySem.W.EachIs (fun u z => RelV (.str z) u) vs (vs.map txtV)
  | [], _ => .nil
  | v :: vs, h => by
    obtain ⟨k, t, rfl⟩ := h v List.mem_cons_self
    exact .cons ⟨t, rfl⟩ (each_txt fun u hu => h u (List.mem_cons_of_mem _ hu))
theorem vals_txt : ∀ {out : List Value} {ks : List Str}, PySem.W.EachIs (fun u z => RelV (.str z) u) out ks → Vals (ks.map V.str) out
  | _, _, .nil => .nil
  | _, _, .cons r t => .cons r (vals_txt t)
theorem sortS_perm {a b : List Str} (nd : b.Nodup) (p : a.Perm b) : sortS a = sortS b := by
  refine sortS_eq nd (sortS_rising (p.nodup_iff.mpr nd)) fun z => ?_
  rw [mem_sortS, p.mem_iff]
section
variable {X : Cx}
/-- set(xs), xs a list of texts -/
def rSetX (K : PySem.W.Frag) (P : Program) (w : World) : List V → Hp → VK → Prop := fun xs H Q => ∃ (p : Addr) (ys : List Str), xs = [V.ref p] ∧ SqL K H p (ys.map V.str) ∧ ys.length ≤ 1000 ∧
  ∀ (a : Addr) (l : List Str), H a = none → l.Nodup → (∀ z, z ∈ l ↔ z ∈ ys) → l.length ≤ ys.length → Q (.ref a) (upd H a (SetXO P w a l))
theorem cr_setX (hc : X.calm = true) : CallR X (.type "set") (rSetX X.K X.prog X.w) := by
  intro pins s σ H xs us Q I r h
  obtain ⟨p, ys, rfl, hp, hy, q⟩ := h
  rw [Vals.ref1 r]
  obtain ⟨its, rv, pl, hz⟩ := I.list hp
  refine make_setX (P := X.prog) (w := X.w) (I.ok.hd hc) pl.isList (by simpa using rv) (by unfold scanBound; omega) fun h' tk l R hm hl k => ?_
  exact ⟨.ref s.heap.objs.size, upd H s.heap.objs.size (SetXO X.prog X.w s.heap.objs.size l), I.laid (t' := tk) (fun b o e => k b o (Heap.lt_size e) e) (Nat.le_refl _) (setXO_ok R), rfl, q _ l (I.hok.fresh (Nat.le_refl _)) R.nd hm hl⟩
/-- sorted(a set of texts) -/
def rSortX (P : Program) (w : World) : List V → Hp → VK → Prop := fun vs H Q => ∃ (a : Addr) (l : List Str), vs = [V.ref a] ∧ H a = some (SetXO P w a l) ∧ l.length ≤ 1000 ∧ ∀ p, H p = none → Q (.ref p) (upd H p (.lst ((sortS l).map V.str)))
theorem cr_sortX (hc : X.calm = true) (hu : X.A.units + 64 < cLine) : CallR X (.builtin "sorted") (rSortX X.prog X.w) := by
  intro pins s σ H vs us Q I r h
  obtain ⟨a, l, rfl, ha, hl, q⟩ := h
  have R : SetX X.prog X.w s.heap a l := (I.hok a _ ha).1
  rw [Vals.ref1 r]
  obtain ⟨⟨es, ep, t⟩, ho, F, ri, led⟩ := R.ob
  have hes : es.size = l.length := F.sz
  refine Calls.call_function_entry PyProof.Rows.kind_sorted PyProof.Rows.plain_sorted PyProof.Rows.entry_sorted (PyProof.Rows.args_sorted1 _) ?_
  unfold Builtin.«sorted»
  refine wpAny_bind (m := checkCount "sorted" 1 1 _) (wpAny_pure ?_)
  refine wpAny_bind (collect_set (A := X.A.in1) (I.ok.hd hc) ⟨_, ho, rfl, rfl⟩ F.fit (by show es.size < scanBound; unfold scanBound; omega) ri led fun s1 out k1 z1 g1 o1 pm => ?_)
  have hv : ∀ v ∈ out, ∃ k t, v = Value.str k t := fun v hv => by
    obtain ⟨e, he, rfl⟩ := List.mem_map.mp (pm.mem_iff.mp hv)
    obtain ⟨⟨k, hk, _⟩, _⟩ := F.el e he
    obtain ⟨t, ht⟩ := Value.isStrOf_shape (x := k) (v := e.2) hk
    exact ⟨k, t, ht⟩
  have hol : out.length = l.length := by
    rw [pm.length_eq, List.length_map, Array.length_toList]
    exact hes
  have pl : (out.map txtV).Perm l := by
    refine same_members R.nd (fun z hz => ?_) (by rw [List.length_map]; exact hol)
    obtain ⟨e, he, hk⟩ := (F.mem z).mp hz
    obtain ⟨t, ht⟩ := Value.isStrOf_shape (x := z) (v := e.2) hk
    refine List.mem_map.mpr ⟨e.2, pm.mem_iff.mpr (List.mem_map.mpr ⟨e, he, rfl⟩), ?_⟩
    rw [ht]
    rfl
  have hS := each_txt hv
  have hsl : (out.map txtV).length ≤ sizeLine := by
    rw [List.length_map, hol]
    exact Nat.le_trans hl (by decide)
  refine wpAny_bind (wpAny_newList ?_ (by rw [hol]; exact Nat.le_trans hl (by decide)))
  have hoL : (s1.heap.push (seqObj "list" out.toArray 0)).get? s1.heap.objs.size = some (seqObj "list" out.toArray 0) := Heap.get?_push_size _ rfl
  refine wpAny_bind (wpAny_holding (PySem.W.list_sort_data (R := fun u z => RelV (.str z) u) (enc := PyData.str) (s := { s1 with heap := s1.heap.push (seqObj "list" out.toArray 0) }) hoL hS (hS.mono fun v b r => ?_) (PySem.W.AllAlike.of fun _ _ => rfl) (PySem.W.Sortable.others fun b => ⟨(fun e => by cases e), (fun xs e => by cases e)⟩) hsl (fun b _ => ?_) fun srt hso eo => ?_))
  · obtain ⟨t, rfl⟩ := r
    exact ⟨[], .str _ _, by simp⟩
  · show X.A.units + 1 + 1 + 0 < cLine
    omega
  · rw [strs_srt, sortS_perm R.nd pl] at eo
    obtain ⟨e', he'⟩ := PyProof.Rows.sortedHeap_at (vs := out) (out := srt.toArray) hoL
    have hlen : ((sortS l).map V.str).length ≤ sizeLine := by
      rw [List.length_map, sortS_len]
      exact Nat.le_trans hl (by decide)
    have hn : H s1.heap.objs.size = none := I.hok.fresh z1
    have kp : ∀ b o, s.heap.get? b = some o → (PyProof.Rows.sortedHeap (s1.heap.push (seqObj "list" out.toArray 0)) s1.heap.objs.size out srt.toArray).get? b = some o := fun b o e => by
      have q1 := k1 b o e
      have hb := Heap.lt_size q1
      rw [PyProof.Rows.sortedHeap_old (Nat.ne_of_lt hb) (by rw [size_push']; exact Nat.lt_succ_of_lt hb)]
      exact Heap.get?_push_of_some _ q1
    have J : L2.Inv X pins σ (upd H s1.heap.objs.size (.lst ((sortS l).map V.str))) { s with heap := PyProof.Rows.sortedHeap (s1.heap.push (seqObj "list" out.toArray 0)) s1.heap.objs.size out srt.toArray, gens := s1.gens, drawn := s1.drawn, toks := s1.toks } :=
      I.call (ch := []) (Un.laid kp z1 hn) (I.hok.laid kp z1 ⟨hlen, srt, e', vals_txt eo, he'⟩) (by rw [g1]; exact I.bare) (fun _ z => nomatch z)
    have es1 : ({ s1 with heap := PyProof.Rows.sortedHeap (s1.heap.push (seqObj "list" out.toArray 0)) s1.heap.objs.size out srt.toArray } : Shared) = { s with heap := PyProof.Rows.sortedHeap (s1.heap.push (seqObj "list" out.toArray 0)) s1.heap.objs.size out srt.toArray, gens := s1.gens, drawn := s1.drawn, toks := s1.toks } := by
      cases s1
      cases s
      cases o1
      rfl
    refine wpAny_pure ⟨_, rfl, .ref s1.heap.objs.size, upd H s1.heap.objs.size (.lst ((sortS l).map V.str)), ?_, rfl, q _ hn⟩
    show L2.Inv X pins σ _ { s1 with heap := PyProof.Rows.sortedHeap (s1.heap.push (seqObj "list" out.toArray 0)) s1.heap.objs.size out srt.toArray }
    rw [es1]
    exact J
end
end Wl

/-! {e for x in xs if t}, e a text. -/
namespace Wl
open PySem PySem.Spec PyProof.Rows L2
section
variable {X : Cx}
/-- set.add of a text to a tracked set -/
theorem putX_ok {pins : List (Addr × Obj)} {σ : L2.St} {H : Hp} {s : Shared} {E : Value → Shared → Prop} {D : Addr} {l : List Str} {z : Str} {tk : Tok} {Q : Value → Shared → Prop} (I : L2.Inv X pins σ H s) (hD : H D = some (SetXO X.prog X.w D l)) (room : l.length + 1 < scanBound)
    (h : ∀ s' l', l'.Nodup → (∀ y, y ∈ l' ↔ y ∈ l ∨ y = z) → l'.length ≤ l.length + 1 → L2.Inv X pins σ (upd H D (SetXO X.prog X.w D l')) s' → Q .none s') : wpAny (model X.prog X.w) X.A (call (.builtin "set.add") [.ref D, .str z tk]) Q E s := by
  have R : SetX X.prog X.w s.heap D l := (I.hok D _ hD).1
  obtain ⟨D0, ho, _⟩ := R.ob
  refine wpAny_call_entry F.slot_set_add ⟨_, ho, rfl⟩ F.entry_set_add ?_ (F.args_set_add_2 _ _)
  unfold Builtin.«set.add» Builtin.Frozenset.oneOther
  simp only [List.isEmpty_nil, bind_assoc]
  unfold Builtin.Frozenset.addrOf
  refine wpAny_bind (wpAny_pure (wpAny_bind (wpAny_pure (wpAny_bind ?_))))
  refine setX_put R room fun b h' l' kp R' hm hl => ?_
  show wpAny _ _ (ret Value.none) _ _ _
  obtain ⟨D1, ho1, _⟩ := R'.ob
  exact wpAny_pure ⟨_, rfl, h _ l' R'.nd hm hl (I.write (e := D) (t' := s.toks + 1) (by rw [hD]; trivial) (.inl rfl) (fun c u hc hu => kp c u hc hu) ⟨_, ho1⟩ (setXO_ok R'))⟩
/-- what {e for x in xs if t} asks: D the new set, grown text by text -/
def tScX (P : Program) (w : World) (wi : TI) (g : TG) (tt : TT) (te : TE) (vs : List Nat) : TE := fun σ H Q => wi σ H fun J H1 => ∀ D, H1 D = none → ∃ W : Nat → Nat → Hp → Prop, (∃ m, W 0 m (upd H1 D (SetXO P w D []))) ∧ ∀ i m H, W i m H →
  (J.stop i H ∧ Q (.ref D) H) ∨ (J.go i H ∧ ∃ Nx : Hp → Prop, (∀ H', Nx H' → ∃ m', m' < m ∧ W (i + 1) m' H') ∧ ∀ x H', J.yld i H x H' → g x (wipe σ vs) H' fun σ2 H2 => wipe σ2 vs = wipe σ vs ∧ tt σ2 H2 fun b H3 =>
    if b = true then te σ2 H3 fun y H4 => ∃ (z : Str) (l : List Str), y = .str z ∧ H4 D = some (SetXO P w D l) ∧ l.length + 1 < scanBound ∧ ∀ l', l'.Nodup → (∀ u, u ∈ l' ↔ u ∈ l ∨ u = z) → l'.length ≤ l.length + 1 → Nx (upd H4 D (SetXO P w D l')) else Nx H3)
theorem pe_scX {elt tg iter : Expr} {ifs : List Expr} {scope : Scope} {own : List (PySem.Str × Nat)} {pos : Pos} {wi : TI} {g : TG} {tt : TT} {te : TE} (hcalm : X.calm = true) (nd : X.N.Nodup) (pit : PI X tg iter wi) (bok : BlkOk X.N X.env.scope scope own)
    (gg : ∀ (s : Shared) (H : Hp) (C : Addr) (cl : List (PySem.Str × Addr)) (fp : List Addr), PG (X.blk s H scope (compEnvC scope cl C X.env) fp) tg g) (gt : ∀ (s : Shared) (H : Hp) (C : Addr) (cl : List (PySem.Str × Addr)) (fp : List Addr), PTs (X.blk s H scope (compEnvC scope cl C X.env) fp) ifs tt)
    (ge : ∀ (s : Shared) (H : Hp) (C : Addr) (cl : List (PySem.Str × Addr)) (fp : List Addr), PE (X.blk s H scope (compEnvC scope cl C X.env) fp) elt te) (hfold : ∀ x, foldedSetIterable iter X.env x = pure x := by intro _; rfl) :
    PE X (.SetComp elt [⟨tg, iter, ifs, 0⟩] scope pos) (tScX X.prog X.w wi g tt te (own.map (·.2))) := by
  refine ⟨fun pins s σ H Q I rd => ?_⟩
  rw [PpSet.eval_SetComp]
  have frees : ∀ y ∈ scope.names, y.2 = .free → ∃ c, X.env.cells.lookup y.1 = some c := fun y hy e => by
    rcases bok.free y hy e with q | q
    · exact I.ok.has _ (.inl q)
    · exact I.ok.has _ (.inr q)
  refine wpAny_comprehension_free (use := none) rfl hfold (closure_ok frees) bok.kind (fun y hy e => by rw [bok.uniq y hy, e]) (thn (pit.run pins s σ H _ I rd) fun xv s1 hx => thn hx fun itv s2 h2 => ?_)
  obtain ⟨it, fp, tn, J, H2, e, I2, T, st2, f2, q⟩ := h2
  subst e
  refine PpSet.newSet_ok (newEnv_comp ?_)
  obtain ⟨D, hD⟩ : ∃ D, s2.heap.objs.size = D := ⟨_, rfl⟩
  obtain ⟨W, ⟨m0, w0⟩, turn⟩ := q D (I2.hok.fresh (Nat.le_of_eq hD))
  obtain ⟨s3, hs3⟩ : ∃ s3 : Shared, ({ s2 with heap := s2.heap.push (setN X.w) } : Shared) = s3 := ⟨_, rfl⟩
  obtain ⟨H3, hH3⟩ : ∃ H3, upd H2 D (SetXO X.prog X.w D []) = H3 := ⟨_, rfl⟩
  have heap3 : s3.heap = s2.heap.push (setN X.w) := by rw [← hs3]
  have I3 : L2.Inv X pins σ H3 s3 := by
    rw [← hs3, ← hH3]
    refine I2.laid (t' := s2.toks) (fun b o e => Heap.get?_push_of_some _ e) (Nat.le_of_eq hD) ?_
    rw [← hD]
    exact setXO_ok (setX_new (Heap.get?_push_size _ rfl))
  have f3 : ∀ b ∈ fp, FpOk X pins H3 b ∧ b < s3.heap.objs.size := fun b hb => by
    obtain ⟨o, e, _⟩ := T.obj _ _ st2 b hb
    have lt := Heap.lt_size e
    refine ⟨⟨?_, (f2 b hb).2⟩, by rw [heap3, Heap.size_push]; exact Nat.lt_succ_of_lt lt⟩
    rw [← hH3, upd_ne (by rw [← hD]; exact Nat.ne_of_lt lt)]
    exact (f2 b hb).1
  have none3 : ∀ b ∈ fp, H3 b = none := fun b hb => (f3 b hb).1.1
  rw [hH3] at w0
  show codeAny _ _ (.compStart (.SetComp elt [⟨tg, iter, ifs, 0⟩] scope pos) 0 (.ref it) (.ref s2.heap.objs.size) (compEnvC scope (cellsFrom ((s2.heap.push (setN X.w)).objs.size + 1) scope.names (cloFrom X.env.cells scope.names [])) (s2.heap.push (setN X.w)).objs.size X.env)) (compPost (model X.prog X.w) X.A X.xe none _ (.ref s2.heap.objs.size) (s2.heap.push (setN X.w)).objs.size) { s2 with heap := pushCells ((s2.heap.push (setN X.w)).push { cls := .type "dict", data := .dict #[] }) scope.names }
  rw [← heap3, hD]
  have st3 : tn 0 s3.heap := T.keep _ _ _ st2 fun b _ o e => by rw [heap3]; exact Heap.get?_push_of_some _ e
  have I4 := block_start I3 bok nd f3
  obtain ⟨ce, hce⟩ : ∃ ce, compEnvC scope (cellsFrom (s3.heap.objs.size + 1) scope.names (cloFrom X.env.cells scope.names [])) s3.heap.objs.size X.env = ce := ⟨_, rfl⟩
  have pg := gg s3 H3 s3.heap.objs.size (cellsFrom (s3.heap.objs.size + 1) scope.names (cloFrom X.env.cells scope.names [])) fp
  have pt := gt s3 H3 s3.heap.objs.size (cellsFrom (s3.heap.objs.size + 1) scope.names (cloFrom X.env.cells scope.names [])) fp
  have pe := ge s3 H3 s3.heap.objs.size (cellsFrom (s3.heap.objs.size + 1) scope.names (cloFrom X.env.cells scope.names [])) fp
  have locs : ce.locals = s3.heap.objs.size := by rw [← hce]; rfl
  rw [hce] at I4 pg pt pe ⊢
  obtain ⟨s4, hs4⟩ : ∃ s4 : Shared, ({ s3 with heap := pushCells (s3.heap.push { cls := .type "dict", data := .dict #[] }) scope.names } : Shared) = s4 := ⟨_, rfl⟩
  have es4 : ({ s2 with heap := pushCells (s3.heap.push { cls := .type "dict", data := .dict #[] }) scope.names } : Shared) = s4 := by
    rw [← hs4, ← hs3]
  rw [hs4] at I4
  rw [es4]
  have st4 : tn 0 s4.heap := T.keep _ _ _ st3 fun b _ o e => by rw [← hs4]; exact pushCells_keeps _ _ _ _ (Heap.get?_push_of_some _ e)
  have calmFp : ∀ {σ' : L2.St} {H' : Hp} {s' : Shared}, L2.Inv (X.blk s3 H3 scope ce fp) [] σ' H' s' → (∀ b ∈ fp, H' b = none) → ∀ b ∈ fp, FpOk (X.blk s3 H3 scope ce fp) [] H' b := fun {σ' H' s'} I' hn b hb =>
    ⟨hn b hb, (I'.ok.exf b hb).1, I'.ok.exfs b hb, .inl hb, fun x c e => (I'.ok.exf b hb).2 x c e, fun r hr => absurd (show r ∈ ([] : List (Addr × Obj)) ++ [] from hr) (by simp)⟩
  have loop : codeAny (model X.prog X.w) X.A (.compLoop (.SetComp elt [⟨tg, iter, ifs, 0⟩] scope pos) 0 (.ref it) (.ref D) ce) (compPost (model X.prog X.w) X.A X.xe none (fun v s' => ∃ x H', L2.Inv X pins σ H' s' ∧ RelV x v ∧ Q x H') (.ref D) s3.heap.objs.size) s4 := by
    refine PpSet.compLoopS_any (fun n s' => ∃ i H', L2.Inv (X.blk s3 H3 scope ce fp) [] (wipe σ (own.map (·.2))) H' s' ∧ tn i s'.heap ∧ (∀ b ∈ fp, H' b = none) ∧ W i n H') ?_ m0 ⟨0, H3, I4, st4, none3, w0⟩
    rintro n s5 ⟨i, H5, I5, st5, n5, w5⟩
    rcases turn i n H5 w5 with ⟨stop, qq⟩ | ⟨go, Nx, hNx, step⟩
    · refine thnF (T.done (X.blk s3 H3 scope ce fp) rfl rfl rfl hcalm i [] s5 _ H5 (fun _ _ => False) I5 (calmFp I5 n5) st5 stop) fun r s6 ⟨hr, I6⟩ => ?_
      subst hr
      have I7 : L2.Inv X pins σ H5 s6 := I3.call' (ch := fp) I6.os I6.base I6.hok I6.bare fun b hb => ⟨(f3 b hb).1.2.2.2.1, (f3 b hb).1.2.1, (f3 b hb).1.2.2.2.2.1, (f3 b hb).1.2.2.2.2.2⟩
      have nC : H5 s3.heap.objs.size = none := by
        have z : H5 ce.locals = none := I6.free
        rw [locs] at z
        exact z
      obtain ⟨m, hn, _⟩ := I6.loc
      have hn : s6.heap.Ns ce.locals m := hn
      rw [locs] at hn
      obtain ⟨k0, k1, k2, k3, k4, k5⟩ := I3.fpOk (Nat.le_refl _) nC
      exact ⟨m, hn, fun h'' sb => ⟨.ref D, H5, I7.turned (t' := s6.toks) (fun b o hb e => (sb.2 b hb).trans e) k0 k1 k3 k4 k5, rfl, qq⟩⟩
    · refine thnF (T.item (X.blk s3 H3 scope ce fp) rfl rfl rfl hcalm i [] s5 _ H5 (fun _ _ => False) I5 (calmFp I5 n5) st5 go) fun r s6 ⟨u, hr, h6⟩ => ?_
      subst hr
      refine thnF h6 fun _ s7 ⟨x, H7, I7, r7, y7, st7, n7⟩ => ?_
      have I7' := I7.pinned (calmFp I7 n7) (T.obj _ _ st7)
      refine thnF (pg.run _ s7 _ H7 x u _ I7' r7 (step x H7 y7)) fun _ s8 ⟨σ8, H8, I8, hw8, q8⟩ => thnF (pt.run _ s8 σ8 H8 _ I8 q8) fun b s9 ⟨H9, I9, q9⟩ => ?_
      have next : ∀ {s' : Shared} {H' : Hp}, L2.Inv (X.blk s3 H3 scope ce fp) ([] ++ pinsAt fp s7.heap) σ8 H' s' → Nx H' → ∃ m, m < n ∧ ∃ i H', L2.Inv (X.blk s3 H3 scope ce fp) [] (wipe σ (own.map (·.2))) H' s' ∧ tn i s'.heap ∧ (∀ b ∈ fp, H' b = none) ∧ W i m H' := fun {s' H'} I' nx => by
        obtain ⟨m', hm, w'⟩ := hNx H' nx
        have held : ∀ b ∈ fp, ∀ o, s7.heap.get? b = some o → s'.heap.get? b = some o ∧ H' b = none := fun b hb o e => by
          have z := I'.pin (b, o) (List.mem_append_right _ (List.mem_append_right _ (mem_pinsAt hb e)))
          exact ⟨z.1, z.2.1⟩
        have len : (wipe σ (own.map (·.2))).length = σ8.length := by rw [← hw8, wipe_length]
        refine ⟨m', hm, i + 1, H', (I'.unpinned (pins := [])).weak len (fun j v e => ?_), T.keep _ _ _ st7 fun b hb o e => (held b hb o e).1, fun b hb => ?_, w'⟩
        · rw [← hw8] at e
          exact (wipe_some e).1
        · obtain ⟨o, e, _⟩ := T.obj _ _ st7 b hb
          exact (held b hb o e).2
      cases b with
      | false =>
        simp only [Bool.false_eq_true, if_false] at q9 ⊢
        exact next I9 q9
      | true =>
        simp only [if_true] at q9 ⊢
        refine thnF (pe.run _ s9 σ8 H9 _ I9 q9) fun z s10 ⟨yv, H10, I10, r10, zt, l0, ey, hD10, hz10, nx⟩ => ?_
        subst ey
        obtain ⟨tk, rfl⟩ := r10
        exact putX_ok (X := X.blk s3 H3 scope ce fp) I10 hD10 hz10 fun s11 l' n1 n2 n3 I11 => next I11 (nx l' n1 n2 n3)
  exact PpSet.codeAny_compStart_set loop (T.self X.A 0 _ _ _ st4 loop)
end
section
variable {P : Program} {w : World} {J : It} {ys : List V} {G : Hp → Prop} {slot : Nat} {tt : TT} {te : TE} {vs : List Nat} {σ : L2.St} {H1 : Hp} {D : Addr} {Qd : Hp → Prop}
/-- {e for x in ys if t}: each e a text, the heap only growing -/
theorem sc_texts (wk : L2.Walk J ys.length G (YAt ys)) (hD : H1 D = none) (keep : V → Bool) (f : V → Str) (hG : ∀ H, Same H1 H → G H)
    (hw : ∀ x, wipe ((wipe σ vs).set slot (some x)) vs = wipe σ vs)
    (ht : ∀ (x : V) (H : Hp), x ∈ ys → Same H1 H → ∀ Q : Bool → Hp → Prop, Q (keep x) H → tt ((wipe σ vs).set slot (some x)) H Q)
    (he : ∀ (x : V) (H : Hp), x ∈ ys → keep x = true → Same H1 H → ∀ Q : VK, Q (.str (f x)) H → te ((wipe σ vs).set slot (some x)) H Q)
    (hn : ys.length ≤ 1000)
    (hd : ∀ (l : List Str) (H : Hp), Same H1 H → H D = some (SetXO P w D l) → l.Nodup → (∀ z, z ∈ l ↔ z ∈ (ys.filter keep).map f) → l.length ≤ ys.length → Qd H) :
    ∃ W : Nat → Nat → Hp → Prop, (∃ m, W 0 m (upd H1 D (SetXO P w D []))) ∧ ∀ i m H, W i m H →
      (J.stop i H ∧ Qd H) ∨ (J.go i H ∧ ∃ Nx : Hp → Prop, (∀ H', Nx H' → ∃ m', m' < m ∧ W (i + 1) m' H') ∧ ∀ x H', J.yld i H x H' → gName slot x (wipe σ vs) H' fun σ2 H2 => wipe σ2 vs = wipe σ vs ∧ tt σ2 H2 fun b H3 =>
        if b = true then te σ2 H3 fun y H4 => ∃ (z : Str) (l : List Str), y = .str z ∧ H4 D = some (SetXO P w D l) ∧ l.length + 1 < scanBound ∧ ∀ l', l'.Nodup → (∀ u, u ∈ l' ↔ u ∈ l ∨ u = z) → l'.length ≤ l.length + 1 → Nx (upd H4 D (SetXO P w D l')) else Nx H3) := by
  refine ⟨fun i m H => m = ys.length - i ∧ i ≤ ys.length ∧ Same H1 H ∧ ∃ l, H D = some (SetXO P w D l) ∧ l.Nodup ∧ (∀ z, z ∈ l ↔ z ∈ ((ys.take i).filter keep).map f) ∧ l.length ≤ i, ⟨ys.length, by simp, Nat.zero_le _, same_new hD, [], upd_same, List.nodup_nil, fun z => by simp, Nat.le_refl _⟩, ?_⟩
  rintro i m H ⟨rfl, hi, s, l, hl, nd, hm, hll⟩
  by_cases hlt : i < ys.length
  · refine .inr ⟨wk.goes i H hlt (hG H s), fun H' => i + 1 ≤ ys.length ∧ Same H1 H' ∧ ∃ l, H' D = some (SetXO P w D l) ∧ l.Nodup ∧ (∀ z, z ∈ l ↔ z ∈ ((ys.take (i + 1)).filter keep).map f) ∧ l.length ≤ i + 1, fun H' h' => ⟨ys.length - (i + 1), by omega, rfl, h'⟩, fun x H' hy => ?_⟩
    obtain ⟨rfl, hx⟩ := wk.yields i H x H' hlt (hG H s) hy
    have hxm : x ∈ ys := List.mem_of_getElem? hx
    have hf := filter_take_snoc (p := keep) hx
    refine ⟨hw x, ht x _ hxm s _ ?_⟩
    refine ite_b (fun e => ?_) (fun e => ?_)
    · refine he x _ hxm e s _ ⟨f x, l, rfl, hl, by unfold scanBound; omega, fun l' n1 n2 n3 => ⟨hlt, same_mut s hD, l', upd_same, n1, fun z => ?_, by omega⟩⟩
      rw [n2, hm, hf, if_pos e, List.map_append, List.mem_append]
      simp
    · refine ⟨hlt, s, l, hl, nd, fun z => ?_, by omega⟩
      rw [hm, hf, if_neg (by rw [e]; decide), List.append_nil]
  · have e : i = ys.length := by omega
    subst e
    rw [List.take_length] at hm
    exact .inl ⟨wk.stops H (hG H s), hd l H s hl nd hm hll⟩
end
end Wl

/-! Sets of tuples of texts: what a table of them does when one more is looked for and put in. -/
namespace Wl
open PySem PySem.Spec PyProof.Rows L2
/-! ### a table of hashes alone -/
def spotAt (m : Nat) (h : Int) (c : Nat) : SetTable.Probe := nth m (runAt m (SetTable.bits h % (m + 1)) (SetTable.bits h)) c
theorem spot_on (m : Nat) (h : Int) (c q : Nat) : nth m (spotAt m h c) q = spotAt m h (c + q) := (nth_add m c _ q).symm
theorem spot_j (m : Nat) (h : Int) (c : Nat) : (spotAt m h c).j = way m h c := rfl
theorem nth_plain (m : Nat) : ∀ (n : Nat) (p : SetTable.Probe), p.dummy = none → (nth m p n).dummy = none
  | 0, _, e => e
  | n + 1, p, e => nth_plain m n (adv m p) (by unfold adv; split <;> exact e)
theorem spot_plain (m : Nat) (h : Int) (c : Nat) : (spotAt m h c).dummy = none := nth_plain m c _ rfl
/-- nothing with this hash stands on the way from c up to d -/
abbrev NoneOn (t : SetTable) (hs : List Int) (h : Int) (c d : Nat) : Prop := ∀ e i : Nat, c ≤ e → e < d → t.place.toList[i]? = some (way t.mask h e) → hs[i]? ≠ some h
theorem look_on {t : SetTable} {hs : List Int} (T : TabOk t hs) {at_ : Nat → Int} (ha : ∀ i, i < hs.length → hs[i]? = some (at_ i)) {h : Int} {K c : Nat} (hc : c ≤ K) (hK : K < 10 * SetTable.turns t.mask) (fr : way t.mask h K ∉ t.place.toList) (fu : ∀ e, e < K → way t.mask h e ∈ t.place.toList) :
    (∃ d i, c ≤ d ∧ d < K ∧ t.place.toList[i]? = some (way t.mask h d) ∧ hs[i]? = some h ∧ NoneOn t hs h c d ∧ t.probe at_ h (spotAt t.mask h c) = some (.candidate (way t.mask h d) i (spotAt t.mask h (d + 1)))) ∨
    (NoneOn t hs h c K ∧ t.probe at_ h (spotAt t.mask h c) = some (.empty (way t.mask h K) none)) := by
  have wj : ∀ q, (nth t.mask (spotAt t.mask h c) q).j = way t.mask h (c + q) := fun q => by rw [spot_on, spot_j]
  have inL : ∀ {i j : Nat}, t.place.toList[i]? = some j → i < hs.length := fun {i j} e => by
    have e1 := (List.getElem?_eq_some_iff.mp e).1
    rw [Array.length_toList, T.sz] at e1
    exact e1
  have eK : c + (K - c) = K := by omega
  have key := go_spec t T.ris T.dm at_ h (10 * SetTable.turns t.mask) (K - c) (spotAt t.mask h c) (spot_plain _ _ _) (by omega) (fun q hq => by rw [wj]; exact fu _ (by omega)) (by rw [wj, eK]; exact fr)
  have none_ : ∀ d, (∀ k' i', k' < d - c → t.place.toList[i']? = some (nth t.mask (spotAt t.mask h c) k').j → at_ i' ≠ h) → NoneOn t hs h c d := fun d hn e i h1 h2 h3 h4 => by
    refine hn (e - c) i (by omega) (by rw [wj, show c + (e - c) = e by omega]; exact h3) ?_
    have h5 := ha i (inL h3)
    rw [h4] at h5
    exact (Option.some.inj h5).symm
  rcases key with ⟨q, i, hq, hi, hh, hn, hp⟩ | ⟨hn, hp⟩
  · rw [wj] at hi
    refine .inl ⟨c + q, i, by omega, by omega, hi, ?_, none_ _ fun k' i' h1 => hn k' i' (by omega), ?_⟩
    · rw [ha i (inL hi), hh]
    · rw [wj, spot_on] at hp
      exact hp
  · refine .inr ⟨none_ _ hn, ?_⟩
    rw [wj, eK] at hp
    exact hp
/-! ### tuples of texts -/
abbrev TupX (P : Program) (w : World) (h : Heap) (k : List Str) (b : Addr) : Prop := IsTupleKey (strKind P w) h k b
abbrev hX (P : Program) (w : World) (k : List Str) : Int := tupleKeyHash (strKind P w) k
def lineX (P : Program) (w : World) (p : Addr × List Str) : Int × Value := (hX P w p.2, Value.ref p.1)
section
variable {P : Program} {w : World} {A : Around} {E : Value → Shared → Prop} {s : Shared}
theorem each_text {k : List Str} {vs : List Value} (h : ItemsAre (strKind P w) k vs) : ∀ v ∈ vs, ∃ x t, v = Value.str x t := by
  induction h with
  | nil => exact fun v hv => nomatch hv
  | cons r _ ih =>
    intro v hv
    cases hv with
    | head => exact ⟨_, Value.isStrOf_shape r⟩
    | tail _ hv => exact ih v hv
theorem TupX.items {h : Heap} {k : List Str} {b : Addr} (x : TupX P w h k b) : ∃ o items n, h.get? b = some o ∧ o.data = .seq items n ∧ ∀ v ∈ items.toList, ∃ z t, v = Value.str z t := by
  obtain ⟨o, items, n, h1, _, h3, h4⟩ := x
  exact ⟨o, items, n, h1, h3, each_text h4⟩
theorem TupX.keep {h h' : Heap} {k : List Str} {b : Addr} (x : TupX P w h k b) (q : ∀ o, h.get? b = some o → h'.get? b = some o) : TupX P w h' k b := by
  obtain ⟨o, items, n, h1, h2⟩ := x
  exact ⟨o, items, n, q o h1, h2⟩
/-- what a tuple of texts answers to the search's own questions -/
theorem class_tupX {k : List Str} {b : Addr} {Q : Bool → Shared → Prop} (x : TupX P w s.heap k b) (q : Q false s) : wpAny (model P w) A (ofAClassStatement 8 (.ref b)) Q E s := by
  obtain ⟨o, items, n, g1, g2, g3⟩ := x.items
  unfold ofAClassStatement
  refine wpAny_bind (wpAny_typeOf x.typeIs ?_)
  dsimp only
  simp only [show (("tuple" : String) == "tuple") = true from by decide, if_true, Bool.not_true, Bool.false_eq_true, if_false]
  try refine wpAny_bind (wpAny_pure ?_)
  try simp only [Bool.not_true, Bool.false_eq_true, if_false]
  show wpAny _ _ (seqItems? (.ref b) >>= _) _ _ s
  refine wpAny_bind (wpAny_seqItems g1 g2 ?_)
  dsimp only
  refine wpAny_bind ?_
  show wpAny _ _ (forIn items _ _) _ _ s
  rw [← Array.forIn_toList]
  refine wpAny_forIn_list _ (fun todo got at_ => at_ = s ∧ got.1 = none ∧ ∀ v ∈ todo, ∃ z t, v = Value.str z t) _ (fun v todo got at_ hI => ?_) (fun got at_ hI => ?_) _ _ ⟨rfl, rfl, g3⟩
  · obtain ⟨rfl, h2, h3⟩ := hI
    obtain ⟨z, t, rfl⟩ := h3 v List.mem_cons_self
    rw [show ofAClassStatement 7 (Value.str z t) = pure false from rfl]
    refine wpAny_bind (wpAny_pure ?_)
    simp only [Bool.false_eq_true, if_false]
    exact wpAny_pure ⟨rfl, rfl, fun u hu => h3 u (List.mem_cons_of_mem _ hu)⟩
  · obtain ⟨g, _⟩ := got
    obtain ⟨rfl, h2, _⟩ := hI
    cases h2
    exact wpAny_pure q
theorem byv_tupX {k : List Str} {b : Addr} {Q : Bool → Shared → Prop} (x : TupX P w s.heap k b) (q : ∀ r, Q r s) : wpAny (model P w) A (hashByValue 8 (.ref b)) Q E s := by
  obtain ⟨o, items, n, g1, g2, g3⟩ := x.items
  unfold hashByValue
  refine wpAny_bind (wpAny_specialOf x.typeIs F.slot_tuple_hash.lookup ?_)
  show wpAny _ _ (seqItems? (.ref b) >>= _) _ _ s
  refine wpAny_bind (wpAny_seqItems g1 g2 ?_)
  refine wpAny_bind ?_
  show wpAny _ _ (forIn items _ _) _ _ s
  rw [← Array.forIn_toList]
  refine wpAny_forIn_list _ (fun todo got at_ => at_ = s ∧ ∀ v ∈ todo, ∃ z t, v = Value.str z t) _ (fun v todo got at_ hI => ?_) (fun got at_ hI => ?_) _ _ ⟨rfl, g3⟩
  · obtain ⟨rfl, h3⟩ := hI
    obtain ⟨z, t, rfl⟩ := h3 v List.mem_cons_self
    rw [show hashByValue 7 (Value.str z t) = pure false from rfl]
    refine wpAny_bind (wpAny_pure ?_)
    simp only [Bool.not_false, if_true]
    exact wpAny_pure (wpAny_pure (q _))
  · obtain ⟨rfl, _⟩ := hI
    obtain ⟨g, _⟩ := got
    cases g with
    | none => exact wpAny_pure (q _)
    | some r => exact wpAny_pure (q _)
theorem seen_tupX {k : List Str} {b : Addr} {Q : Bool → Shared → Prop} (x : TupX P w s.heap k b) {ys : List Value} (hy : ∀ y ∈ ys, ∃ k' c, y = Value.ref c ∧ TupX P w s.heap k' c) (q : Q false s) : wpAny (model P w) A (searchCouldBeSeen (.ref b) ys) Q E s := by
  unfold searchCouldBeSeen
  refine wpAny_bind (wpAny_forIn_list _ (fun todo got at_ => at_ = s ∧ got.1 = none ∧ ∀ y ∈ todo, ∃ k' c, y = Value.ref c ∧ TupX P w s.heap k' c) _ (fun v todo got at_ hI => ?_) (fun got at_ hI => ?_) _ _ ⟨rfl, rfl, hy⟩)
  · obtain ⟨rfl, h2, h3⟩ := hI
    obtain ⟨k', c, rfl, hc⟩ := h3 v List.mem_cons_self
    have h4 : ∀ y ∈ todo, ∃ k' c, y = Value.ref c ∧ TupX P w at_.heap k' c := fun u hu => h3 u (List.mem_cons_of_mem _ hu)
    dsimp only
    by_cases hv : (b == c || (carriedByValue (.ref b) && carriedByValue (.ref c))) = true
    · exact wp_if_pos hv (wpAny_pure ⟨rfl, rfl, h4⟩)
    · refine wp_if_neg hv (wpAny_bind (wpAny_eqIsQuiet_tuple x ?_))
      rw [Bool.not_true]
      refine wp_if_neg Bool.false_ne_true (wpAny_bind (wpAny_eqIsQuiet_tuple hc ?_))
      rw [Bool.not_true]
      refine wp_if_neg Bool.false_ne_true (wpAny_bind (class_tupX x ?_))
      refine wp_if_neg Bool.false_ne_true (wpAny_bind (class_tupX hc ?_))
      exact wp_if_neg Bool.false_ne_true (wpAny_pure ⟨rfl, rfl, h4⟩)
  · obtain ⟨g, _⟩ := got
    obtain ⟨rfl, h2, _⟩ := hI
    cases h2
    exact wpAny_pure q
/-! ### the set -/
structure QTab (P : Program) (w : World) (h : Heap) (a : Addr) (L : List (Addr × List Str)) (es : Array (Int × Value)) (ep : Nat) (t : SetTable) : Prop where
  obj : ∃ o, h.get? a = some o ∧ o.ExactSet ∧ o.data = .set es ep t
  lines : es.toList = L.map (lineX P w)
  tab : TabOk t (L.map fun p => hX P w p.2)
  nd : (L.map (·.2)).Nodup
  led : w.params.followText "set-order" = true ∨ t.led = true
  room : L.length * 5 < t.mask * 3
  few : L.length < 64
variable {a : Addr} {L : List (Addr × List Str)} {es : Array (Int × Value)} {ep : Nat} {t : SetTable}
theorem lines_len (h : es.toList = L.map (lineX P w)) : es.size = L.length := by
  rw [← Array.length_toList, h, List.length_map]
theorem fits_of {hs : List Int} (T : TabOk t hs) {n : Nat} (hn : n = hs.length) (hm : n ≤ t.mask) : t.fits n = true := by
  have h1 := T.sz
  unfold SetTable.fits SetTable.fill
  rw [T.dm, Bool.and_eq_true, beq_iff_eq, decide_eq_true_eq]
  exact ⟨by omega, by show t.place.size + 0 ≤ t.mask; omega⟩
theorem QTab.fits (R : QTab P w s.heap a L es ep t) : t.fits es.size = true := by
  have h1 := R.room
  have h2 := lines_len R.lines
  exact fits_of R.tab (by rw [h2, List.length_map]) (by omega)
theorem QTab.line (R : QTab P w s.heap a L es ep t) {i : Nat} {p : Addr × List Str} (h : L[i]? = some p) : es[i]? = some (lineX P w p) := by
  rw [← Array.getElem?_toList, R.lines, List.getElem?_map, h]
  rfl
theorem QTab.hash (R : QTab P w s.heap a L es ep t) : ∀ i, i < (L.map fun p => hX P w p.2).length → (L.map fun p => hX P w p.2)[i]? = some ((es[i]?.map (·.1)).getD 0) := fun i hi => by
  rw [List.length_map] at hi
  have e := List.getElem?_eq_getElem hi
  rw [List.getElem?_map, R.line e, e]
  rfl
/-- from the c-th spot on: k is found, or the first free spot -/
theorem seekX (R : QTab P w s.heap a L es ep t) (tp : ∀ p ∈ L, TupX P w s.heap p.2 p.1) {x : Addr} {k : List Str} (hx : TupX P w s.heap k x) (hu : A.units < cLine) {K : Nat} (hKf : K < 10 * SetTable.turns t.mask)
    (fr : way t.mask (hX P w k) K ∉ t.place.toList) (fu : ∀ e, e < K → way t.mask (hX P w k) e ∈ t.place.toList) {Q : SetFound → Shared → Prop} (yes : k ∈ L.map (·.2) → Q (.there none) s) (no : k ∉ L.map (·.2) → Q (.free (way t.mask (hX P w k) K) false) s) :
    ∀ (f c : Nat) (st : Option SetTable.Probe), st.getD (t.probeStart (hX P w k)) = spotAt t.mask (hX P w k) c → c ≤ K → K - c < f →
      (∀ (i : Nat) p, L[i]? = some p → p.2 = k → ∃ e, c ≤ e ∧ e < K ∧ t.place.toList[i]? = some (way t.mask (hX P w k) e)) → wpAny (model P w) A (setSearchFrom a (.ref x) (hX P w k) true f st) Q E s := by
  obtain ⟨o, ho, _, hd⟩ := R.obj
  intro f
  induction f with
  | zero => exact fun c st _ _ h => absurd h (Nat.not_lt_zero _)
  | succ f ih =>
    intro c st est hc hf ahead
    rw [setSearchFrom_succ]
    refine wpAny_bind (wpAny_setState_of ho hd R.fits ?_)
    dsimp only
    refine wp_if_neg (by unfold SetTable.gaveWay; rw [mask_odd R.tab.mok]; decide) ?_
    try refine wpAny_bind (wpAny_pure ?_)
    rw [est]
    rcases look_on R.tab R.hash hc hKf fr fu with ⟨d, i, d1, d2, d3, d4, d5, e⟩ | ⟨d5, e⟩
    · rw [e]
      dsimp only
      obtain ⟨p, hp, hpk⟩ : ∃ p, L[i]? = some p ∧ hX P w p.2 = hX P w k := by
        rw [List.getElem?_map] at d4
        cases hL : L[i]? with
        | none => rw [hL] at d4; exact nomatch d4
        | some p => rw [hL] at d4; exact ⟨p, rfl, Option.some.inj d4⟩
      have hm := List.mem_of_getElem? hp
      have sl : t.slot (way t.mask (hX P w k) d) = .live i := slot_live R.tab.ris d3
      have rest : wpAny (model P w) A (searchRest a (.ref x) (hX P w k) true f es t (way t.mask (hX P w k) d) i (spotAt t.mask (hX P w k) (d + 1))) Q E s := by
        unfold searchRest
        rw [R.line hp]
        unfold lineX
        dsimp only
        refine wpAny_bind (wpAny_holding (wpAny_eqBool_tuple hu (tp p hm) hx ?_))
        refine wpAny_bind (wpAny_setState_of ho hd R.fits ?_)
        dsimp only
        by_cases ek : p.2 = k
        · exact wp_if_pos (by simp [ek]) (wpAny_pure (yes (List.mem_map.mpr ⟨p, hm, ek⟩)))
        · refine wp_if_neg (by simp [ek]) ?_
          try refine wpAny_bind (wpAny_pure ?_)
          rw [sameMem]
          dsimp only
          simp only [if_true, sl, R.line hp, lineX]
          refine wpAny_bind (wpAny_isSame_ref_self (wpAny_bind (wpAny_pure ?_)))
          simp only [if_true]
          refine wp_if_neg (by simp [ek]) ?_
          refine ih (d + 1) _ rfl (by omega) (by omega) fun i0 p0 h0 k0 => ?_
          obtain ⟨b, b1, b2, b3⟩ := ahead i0 p0 h0 k0
          refine ⟨b, ?_, b2, b3⟩
          have nb : ¬ b < d := fun lt => d5 b i0 b1 lt b3 (by rw [List.getElem?_map, h0, ← k0]; rfl)
          have nd : b ≠ d := fun eb => by
            rw [eb] at b3
            have s0 := slot_live R.tab.ris b3
            rw [sl] at s0
            injection s0 with s0
            rw [← s0, hp] at h0
            exact ek (by rw [Option.some.inj h0, k0])
          omega
      by_cases hl : t.led = true
      · refine wp_if_neg (by simp [hl]) ?_
        try refine wpAny_bind (wpAny_pure ?_)
        exact rest
      · refine wp_if_pos (by simp [hl]) (wpAny_bind (seen_tupX hx (fun y hy => ?_) ?_))
        · obtain ⟨v, hv, rfl⟩ := List.mem_map.mp hy
          have h1 : v ∈ es := by
            have : v ∈ es ∧ v.1 = hX P w k := by simpa using hv
            exact this.1
          have h2 : v ∈ L.map (lineX P w) := by
            rw [← R.lines]
            simpa using h1
          obtain ⟨u, hu2, rfl⟩ := List.mem_map.mp h2
          exact ⟨u.2, u.1, rfl, tp u hu2⟩
        · refine wp_if_neg (by decide) ?_
          try refine wpAny_bind (wpAny_pure ?_)
          exact rest
    · rw [e]
      dsimp only
      refine wpAny_pure (no fun hm => ?_)
      obtain ⟨p0, hp0, k0⟩ := List.mem_map.mp hm
      obtain ⟨i0, hi0⟩ := List.getElem?_of_mem hp0
      obtain ⟨b, b1, b2, b3⟩ := ahead i0 p0 hi0 k0
      exact d5 b i0 b1 b2 b3 (by rw [List.getElem?_map, hi0, ← k0]; rfl)
end
end Wl

/-! Sets of tuples of texts: one more put in; set.add; as a tracked thing. -/
namespace Wl
open PySem PySem.Spec PyProof.Rows L2
section
variable {α β : Type}
theorem all_there (L : List α) : (List.range L.length).filterMap (fun i => L[i]?) = L := by
  have e : (List.range L.length).map (fun i => L[i]?) = L.map some := by
    refine List.ext_getElem? fun i => ?_
    rw [List.getElem?_map, List.getElem?_map]
    by_cases h : i < L.length
    · rw [List.getElem?_range h]
      show some (L[i]?) = (L[i]?).map some
      rw [List.getElem?_eq_getElem h]
      rfl
    · rw [List.getElem?_eq_none (by rw [List.length_range]; omega), List.getElem?_eq_none (by omega)]
      rfl
  have e2 : (List.range L.length).filterMap (fun i => L[i]?) = ((List.range L.length).map (fun i => L[i]?)).filterMap id := by rw [List.filterMap_map]; rfl
  rw [e2, e, List.filterMap_map]
  exact List.filterMap_some
/-- what is taken in another turn -/
theorem turned_all {L : List α} {is : List Nat} (p : is.Perm (List.range L.length)) (g : α → β) {v : Nat → β} (hv : ∀ i x, L[i]? = some x → v i = g x) :
    (is.filterMap fun i => L[i]?).Perm L ∧ (is.filterMap fun i => (L[i]?).map g) = (is.filterMap fun i => L[i]?).map g ∧ (is.filterMap fun i => L[i]?).map g = is.map v := by
  refine ⟨?_, ?_, ?_⟩
  · have h := p.filterMap fun i => L[i]?
    rw [all_there] at h
    exact h
  · rw [List.map_filterMap]
  · have lt : ∀ i ∈ is, i < L.length := fun i hi => List.mem_range.mp (p.mem_iff.mp hi)
    clear p
    induction is with
    | nil => rfl
    | cons i is ih =>
      have e := List.getElem?_eq_getElem (lt i List.mem_cons_self)
      rw [List.filterMap_cons_some e, List.map_cons, List.map_cons, ih fun j hj => lt j (List.mem_cons_of_mem _ hj), hv i _ e]
end
theorem tab_plain {t : SetTable} {hs : List Int} (T : TabOk t hs) : TabOk { t with plain := false } hs := ⟨T.ris, T.dm, T.sz, T.mok, T.bd, T.reach⟩
section
variable {P : Program} {w : World} {A : Around} {E : Value → Shared → Prop} {s : Shared} {a : Addr} {L : List (Addr × List Str)} {es : Array (Int × Value)} {ep : Nat} {t : SetTable}
/-- laid anew -/
theorem relayX {o : Obj} (ho : s.heap.get? a = some o) (hex : o.ExactSet) (hd : o.data = .set es ep t) (hl : es.toList = L.map (lineX P w)) (T0 : TabOk t (L.map fun p => hX P w p.2)) (hfl : L.length ≤ t.mask) (nd : (L.map (·.2)).Nodup)
    (ld : w.params.followText "set-order" = true ∨ t.led = true) (few : L.length < 64) {wanted M : Nat} (hw : SetTable.sizeAbove wanted - 1 = M) (hM : MaskOk M) (hw2 : SetTable.sizeAbove wanted ≤ 128) (hn : L.length * 5 < M * 3) {Q : Unit → Shared → Prop}
    (q : ∀ h' L' es' ep' t', Heap.SameBut a s.heap h' → QTab P w h' a L' es' ep' t' → L'.Perm L → Q () { s with heap := h' }) : wpAny (model P w) A (setRelay a wanted) Q E s := by
  have n1 := lines_len hl
  obtain ⟨t', order, e, hp, T, em, el, _, _⟩ := relaid_ok t (hs := es.map (·.1)) hw hM (by rw [Array.size_map, n1]; omega)
  rw [Array.size_map, n1] at hp
  obtain ⟨r1, r2, r3⟩ := turned_all hp (lineX P w) (v := fun i => (es[i]?).getD (0, .none)) fun i x hx => by
    rw [← Array.getElem?_toList, hl, List.getElem?_map, hx]
    rfl
  obtain ⟨_, _, r4⟩ := turned_all hp (fun p => hX P w p.2) (v := fun i => (es.map (·.1)).getD i 0) fun i x hx => by
    have e5 : (es.map (·.1))[i]? = some (hX P w x.2) := by
      rw [Array.getElem?_map, ← Array.getElem?_toList, hl, List.getElem?_map, hx]
      rfl
    simp [Array.getD_eq_getD_getElem?, e5]
  have r5 : (order.filterMap (es[·]?)).toList = (order.toList.filterMap fun i => L[i]?).map (lineX P w) := by
    rw [Array.toList_filterMap, ← r2]
    congr 1
    funext i
    rw [← Array.getElem?_toList, hl, List.getElem?_map]
  rw [← r4] at T
  generalize order.toList.filterMap (fun i => L[i]?) = L2 at r1 r3 r4 r5 T
  have n2 := lines_len r5
  rw [r1.length_eq] at n2
  rw [setRelay_eq]
  refine wpAny_bind (wpAny_setState_of ho hd (fits_of T0 (by rw [n1, List.length_map]) (by omega)) ?_)
  dsimp only
  refine wp_if_neg (by rw [sizeLine_eq]; omega) ?_
  try refine wpAny_bind (wpAny_pure ?_)
  rw [e]
  dsimp only
  refine wpAny_bind (wp_if_neg (by rw [n2, n1]; simp) ?_)
  try refine wpAny_bind (wpAny_pure ?_)
  refine wpAny_pure ?_
  dsimp only
  refine wpAny_storeSet_of ho hd ?_ (by rw [n2, sizeLine_eq]; omega)
  have sb : Heap.SameBut a s.heap (s.heap.update a (Obj.putSet (order.filterMap (es[·]?)) t')) := Heap.SameBut.update ..
  exact q _ L2 _ (ep + 1) t' sb ⟨⟨_, store_at ho hd, ⟨hex.1, hex.2.1, hex.2.2⟩, rfl⟩, r5, T, (r1.map (·.2)).nodup_iff.mpr nd, by rw [el]; exact ld, by rw [r1.length_eq, em]; exact hn, by rw [r1.length_eq]; exact few⟩ r1
/-- one more -/
theorem putQ (R : QTab P w s.heap a L es ep t) (tp : ∀ p ∈ L, TupX P w s.heap p.2 p.1) {x : Addr} {k : List Str} (hx : TupX P w s.heap k x) (hu : A.units < cLine) (more : L.length + 1 < 64) {Q : Bool → Shared → Prop}
    (q : ∀ b h' L' es' ep' t', Heap.SameBut a s.heap h' → QTab P w h' a L' es' ep' t' → (k ∈ L.map (·.2) → L' = L) → (k ∉ L.map (·.2) → L'.Perm ((x, k) :: L)) → Q b { s with heap := h' }) : wpAny (model P w) A (setAddHashed a (.ref x) (hX P w k)) Q E s := by
  obtain ⟨o, ho, hex, hd⟩ := R.obj
  have hr := R.room
  have n1 := lines_len R.lines
  have mk := R.tab.mok
  obtain ⟨K, hKf, fr, fu⟩ := R.tab.first (by rw [List.length_map]; omega) (hX P w k)
  have turns : 10 * SetTable.turns t.mask ≤ 1420 := by
    unfold SetTable.turns
    rcases mk with e | e | e <;> omega
  unfold setAddHashed
  refine wpAny_holding ?_
  rw [show (100000 : Nat) = 99999 + 1 from rfl, setAddHashedIn_succ]
  refine wpAny_bind (wpAny_setState_of ho hd R.fits ?_)
  dsimp only
  refine wp_if_neg (by simp [byScan, Value.scannable]) ?_
  try refine wpAny_bind (wpAny_pure ?_)
  unfold setSearch
  refine wpAny_bind (seekX R tp hx hu hKf fr fu (fun hm => ?_) (fun hm => ?_) 100000 0 none rfl (Nat.zero_le _) (by omega) fun i p hp hk => ?_)
  · dsimp only
    exact wpAny_pure (q false s.heap L es ep t (Heap.SameBut.refl a s.heap) R (fun _ => rfl) fun z => absurd hm z)
  · dsimp only
    refine wpAny_bind (wpAny_setState_of ho hd R.fits ?_)
    dsimp only
    obtain ⟨q1, q2, q3, q4, q5, _, _, _, q9⟩ := R.tab.put fr fu
    generalize hpt : t.put (way t.mask (hX P w k) K) = pt at q1 q3 q4 q5 q9 ⊢
    obtain ⟨t1, p⟩ := pt
    dsimp only at q1 q3 q4 q5 q9 ⊢
    subst q1
    generalize SetTable.below t.place (way t.mask (hX P w k) K) = p at q2 q3 ⊢
    rw [List.length_map] at q2 q9
    have pm : (L.take p ++ (x, k) :: L.drop p).Perm ((x, k) :: L) := by
      refine List.perm_middle.trans (List.Perm.cons _ ?_)
      rw [List.take_append_drop]
    have l1 : (SetTable.insertAt es p (hX P w k, Value.ref x)).toList = (L.take p ++ (x, k) :: L.drop p).map (lineX P w) := by
      rw [SetTable.toList_insertAt, R.lines, List.map_append, List.map_cons, List.map_take, List.map_drop]
      rfl
    have h1 : (L.take p ++ (x, k) :: L.drop p).map (fun p => hX P w p.2) = (L.map fun p => hX P w p.2).take p ++ hX P w k :: (L.map fun p => hX P w p.2).drop p := by
      rw [List.map_append, List.map_cons, List.map_take, List.map_drop]
    rw [← h1] at q3
    clear h1
    have nd1 : ((L.take p ++ (x, k) :: L.drop p).map (·.2)).Nodup := (pm.map (·.2)).nodup_iff.mpr (List.nodup_cons.mpr ⟨hm, R.nd⟩)
    have n2 := lines_len l1
    have len1 : (L.take p ++ (x, k) :: L.drop p).length = L.length + 1 := pm.length_eq
    generalize SetTable.insertAt es p (hX P w k, Value.ref x) = es1 at l1 n2 ⊢
    generalize L.take p ++ (x, k) :: L.drop p = L1 at pm l1 q3 nd1 n2 len1
    rw [len1] at n2
    -- behind the question of its value
    have on : ∀ t2 : SetTable, TabOk t2 (L1.map fun p => hX P w p.2) → t2.mask = t.mask → t2.led = t.led → t2.fill = L.length + 1 →
        wpAny (model P w) A (do
          storeSet a es1 t2
          if !false && t2.tooFull then setRelay a (SetTable.grown (es.size + 1))
          return true : Sem Bool) Q E s := fun t2 T2 m2 g2 f2 => by
      refine wpAny_bind (wpAny_storeSet_of ho hd ?_ (by rw [n2, sizeLine_eq]; omega))
      have sb : Heap.SameBut a s.heap (s.heap.update a (Obj.putSet es1 t2)) := Heap.SameBut.update ..
      have ho1 := store_at (es' := es1) (t' := t2) ho hd
      generalize s.heap.update a (Obj.putSet es1 t2) = hp at sb ho1 ⊢
      have ld : w.params.followText "set-order" = true ∨ t2.led = true := by rw [g2]; exact R.led
      by_cases hf : t2.tooFull = true
      · first
          | (refine wpAny_bind ?_; refine wp_if_pos (by simp [hf]) ?_)
          | (refine wp_if_pos (by simp [hf]) ?_; refine wpAny_bind ?_)
        have full : (L.length + 1) * 5 ≥ t2.mask * 3 := by
          unfold SetTable.tooFull at hf
          rw [decide_eq_true_eq, f2] at hf
          exact hf
        rw [m2] at full
        have go : ∀ n M, L.length + 1 = n → SetTable.sizeAbove (SetTable.grown n) - 1 = M → MaskOk M → SetTable.sizeAbove (SetTable.grown n) ≤ 128 → n * 5 < M * 3 →
            wpAny (model P w) A (setRelay a (SetTable.grown (es.size + 1))) (fun _ s' => wpAny (model P w) A (pure true) Q E s') E { s with heap := hp } := fun n M en a1 a2 a3 a4 => by
          rw [n1, en]
          refine relayX (s := { s with heap := hp }) ho1 ⟨hex.1, hex.2.1, hex.2.2⟩ rfl l1 T2 (by rw [len1, m2]; omega) nd1 ld (by rw [len1]; exact more) a1 a2 a3 (by rw [len1, en]; exact a4) fun h2 L2 es2 ep2 t2 sb2 R2 pm2 => ?_
          exact wpAny_pure (q true h2 L2 es2 ep2 t2 (sb.trans sb2) R2 (fun z => absurd z hm) fun _ => pm2.trans pm)
        have two : (t.mask = 7 ∧ L.length + 1 = 5) ∨ (t.mask = 31 ∧ L.length + 1 = 19) := by
          rcases mk with e | e | e
          · exact .inl ⟨e, by omega⟩
          · exact .inr ⟨e, by omega⟩
          · omega
        rcases two with ⟨_, e2⟩ | ⟨_, e2⟩
        · exact go 5 31 e2 (by rw [size_20]) (.inr (.inl rfl)) (by rw [size_20]; decide) (by omega)
        · exact go 19 127 e2 (by rw [size_76]) (.inr (.inr rfl)) (by rw [size_76]; decide) (by omega)
      · first
          | refine wp_if_neg (by simp [hf]) ?_
          | (refine wpAny_bind ?_; refine wp_if_neg (by simp [hf]) ?_; refine wpAny_pure ?_)
        refine wpAny_pure (q true hp L1 es1 (ep + 1) t2 sb ⟨⟨_, ho1, ⟨hex.1, hex.2.1, hex.2.2⟩, rfl⟩, l1, T2, nd1, ld, ?_, by rw [len1]; exact more⟩ (fun z => absurd z hm) fun _ => pm)
        unfold SetTable.tooFull at hf
        rw [decide_eq_true_eq, f2] at hf
        rw [len1]
        omega
    by_cases pl : t1.plain = true
    · have both : ∀ r : Bool, wpAny (model P w) A (do
          storeSet a es1 (if r = true then t1 else { t1 with plain := false })
          if !false && (if r = true then t1 else { t1 with plain := false }).tooFull then setRelay a (SetTable.grown (es.size + 1))
          return true : Sem Bool) Q E s := fun r => by
        cases r with
        | true => exact on t1 q3 q4 q5 q9
        | false => exact on { t1 with plain := false } (tab_plain q3) q4 q5 q9
      first
        | (refine wpAny_bind ?_; refine wp_if_pos pl ?_; exact byv_tupX hx both)
        | exact wp_if_pos pl (wpAny_bind (byv_tupX hx both))
    · first
        | (refine wpAny_bind ?_; refine wp_if_neg pl ?_; refine wpAny_pure ?_; exact on t1 q3 q4 q5 q9)
        | (refine wp_if_neg pl ?_; refine wpAny_bind (wpAny_pure ?_); exact on t1 q3 q4 q5 q9)
        | (refine wp_if_neg pl ?_; exact on t1 q3 q4 q5 q9)
  · have hi : (L.map fun p => hX P w p.2)[i]? = some (hX P w k) := by
      rw [List.getElem?_map, hp, ← hk]
      rfl
    have lt : i < t.place.toList.length := by
      have h1 := (List.getElem?_eq_some_iff.mp hp).1
      have h2 := R.tab.sz
      rw [List.length_map] at h2
      rw [Array.length_toList]
      omega
    have hj := List.getElem?_eq_getElem lt
    obtain ⟨c, hc, e⟩ := R.tab.before fr hi hj
    exact ⟨c, Nat.zero_le _, hc, by rw [hj, e]⟩
theorem qtab_new {h : Heap} (ho : h.get? a = some (setN w)) : QTab P w h a [] #[] 0 (.fresh 0 0 (!w.params.followText "set-order")) where
  obj := ⟨_, ho, ⟨rfl, rfl, rfl⟩, rfl⟩
  lines := rfl
  tab := ⟨List.Pairwise.nil, rfl, rfl, .inl rfl, (fun _ h => nomatch h), fun i _ _ h => nomatch (show (none : Option Int) = some _ from h)⟩
  nd := List.nodup_nil
  led := by
    show _ ∨ (!w.params.followText "set-order") = true
    by_cases h : w.params.followText "set-order" = true
    · exact .inl h
    · exact .inr (by simpa using h)
  room := by
    show 0 * 5 < 7 * 3
    decide
  few := by
    show 0 < 64
    decide
end
/-! as a tracked thing -/
def SetQ (P : Program) (w : World) (h : Heap) (a : Addr) (L : List (Addr × List Str)) : Prop := ∃ es ep t, QTab P w h a L es ep t
def SetQO (P : Program) (w : World) (a : Addr) (L : List (Addr × List Str)) : HO := .ext fun h => SetQ P w h a L
theorem SetQ.at {P : Program} {w : World} {h h' : Heap} {a : Addr} {L : List (Addr × List Str)} (R : SetQ P w h a L) (q : ∀ o, h.get? a = some o → h'.get? a = some o) : SetQ P w h' a L := by
  obtain ⟨es, ep, t, ⟨o, ho, r⟩, r1, r2, r3, r4, r5, r6⟩ := R
  exact ⟨es, ep, t, ⟨o, q o ho, r⟩, r1, r2, r3, r4, r5, r6⟩
theorem setQO_ok {P : Program} {w : World} {H : Hp} {h : Heap} {a : Addr} {L : List (Addr × List Str)} (R : SetQ P w h a L) : ObjOk P w H h a (SetQO P w a L) := by
  have ⟨_, _, _, R1⟩ := R
  obtain ⟨o, ho, _⟩ := R1.obj
  exact ⟨R, ⟨o, ho⟩, fun _ _ p k => SetQ.at p k⟩
theorem items_txt {P : Program} {w : World} : ∀ {k : List Str} {us : List Value}, Vals (k.map V.str) us → ItemsAre (strKind P w) k us
  | [], [], _ => .nil
  | [], _ :: _, r => nomatch r
  | _ :: _, [], r => nomatch r
  | z :: k, u :: us, .cons r t => by
    obtain ⟨n, rfl⟩ := r
    exact .cons (strKind_is P w z n) (items_txt t)
section
variable {X : Cx}
theorem tupX_of {pins : List (Addr × Obj)} {σ : L2.St} {H : Hp} {s : Shared} {b : Addr} {k : List Str} (I : L2.Inv X pins σ H s) (h : SqT X.K H b (k.map V.str)) : TupX X.prog X.w s.heap k b := by
  obtain ⟨its, r, ⟨o, ho, hc, n, hd⟩, _⟩ := I.tuple h
  exact ⟨o, its.toArray, n, ho, hc, hd, by simpa using items_txt r⟩
/-- set.add of a tuple of texts -/
theorem putQ_ok {pins : List (Addr × Obj)} {σ : L2.St} {H : Hp} {s : Shared} {E : Value → Shared → Prop} {D x : Addr} {L : List (Addr × List Str)} {k : List Str} {Q : Value → Shared → Prop} (hu : X.A.units + 64 < cLine) (I : L2.Inv X pins σ H s) (hD : H D = some (SetQO X.prog X.w D L)) (hx : SqT X.K H x (k.map V.str)) (tp : ∀ p ∈ L, SqT X.K H p.1 (p.2.map V.str)) (more : L.length + 1 < 64)
    (h : ∀ s' L', (k ∈ L.map (·.2) → L' = L) → (k ∉ L.map (·.2) → L'.Perm ((x, k) :: L)) → L2.Inv X pins σ (upd H D (SetQO X.prog X.w D L')) s' → Q .none s') : wpAny (model X.prog X.w) X.A (call (.builtin "set.add") [.ref D, .ref x]) Q E s := by
  have RR : SetQ X.prog X.w s.heap D L := (I.hok D _ hD).1
  obtain ⟨es, ep, t, R⟩ := RR
  obtain ⟨o, ho, hex, _⟩ := R.obj
  refine wpAny_call_entry F.slot_set_add ⟨_, ho, hex.1⟩ F.entry_set_add ?_ (F.args_set_add_2 _ _)
  unfold Builtin.«set.add» Builtin.Frozenset.oneOther
  simp only [List.isEmpty_nil, bind_assoc]
  unfold Builtin.Frozenset.addrOf
  refine wpAny_bind (wpAny_pure (wpAny_bind (wpAny_pure (wpAny_bind ?_))))
  unfold setAdd
  refine wpAny_holding (wpAny_bind (wpAny_pyHash_tuple (knd := strKind X.prog X.w) (ks := k) (by show X.A.units + 1 < cLine; omega) (tupX_of I hx) ?_))
  have t1 : ∀ p ∈ L, TupX X.prog X.w s.heap p.2 p.1 := fun p hp => tupX_of I (tp p hp)
  have t2 : TupX X.prog X.w s.heap k x := tupX_of I hx
  refine putQ (s := { s with toks := s.toks + (k.length + 1) }) R t1 t2 (by show X.A.units + 1 < cLine; omega) more fun b h' L' es' ep' t' sb R' c1 c2 => ?_
  show wpAny _ _ (ret Value.none) _ _ _
  obtain ⟨o1, ho1, _⟩ := R'.obj
  exact wpAny_pure ⟨_, rfl, h _ L' c1 c2 (I.write (e := D) (t' := s.toks + (k.length + 1)) (by rw [hD]; trivial) (.inl rfl) (fun c u hc hu => (sb.2 c hc).trans hu) ⟨_, ho1⟩ (setQO_ok ⟨es', ep', t', R'⟩))⟩
end
end Wl

/-! {e for x in xs if t}, e all texts or all tuples of texts; sorted of such a set. -/
namespace Wl
open PySem PySem.Spec PyProof.Rows L2
/-- an empty set, of texts or of tuples -/
def set0 (P : Program) (w : World) (txt : Bool) (a : Addr) : HO := if txt then SetXO P w a [] else SetQO P w a []
theorem set0_ok {P : Program} {w : World} {H : Hp} {h : Heap} {a : Addr} (txt : Bool) (ho : h.get? a = some (setN w)) : ObjOk P w H h a (set0 P w txt a) := by
  cases txt with
  | true => exact setXO_ok (setX_new ho)
  | false => exact setQO_ok ⟨_, _, _, qtab_new ho⟩
/-- y put into the set at D -/
def grownBy (K : PySem.W.Frag) (P : Program) (w : World) (D : Addr) (y : V) (H : Hp) (Nx : Hp → Prop) : Prop :=
  (∃ (z : Str) (l : List Str), y = .str z ∧ H D = some (SetXO P w D l) ∧ l.length + 1 < scanBound ∧ ∀ l', l'.Nodup → (∀ u, u ∈ l' ↔ u ∈ l ∨ u = z) → l'.length ≤ l.length + 1 → Nx (upd H D (SetXO P w D l'))) ∨
  (∃ (x : Addr) (k : List Str) (L : List (Addr × List Str)), y = .ref x ∧ SqT K H x (k.map V.str) ∧ H D = some (SetQO P w D L) ∧ (∀ p ∈ L, SqT K H p.1 (p.2.map V.str)) ∧ L.length + 1 < 64 ∧ ∀ L', (k ∈ L.map (·.2) → L' = L) → (k ∉ L.map (·.2) → L'.Perm ((x, k) :: L)) → Nx (upd H D (SetQO P w D L')))
section
variable {X : Cx}
/-- what {e for x in xs if t} asks: D the new set, grown text by text -/
def tScG (K : PySem.W.Frag) (P : Program) (w : World) (wi : TI) (g : TG) (tt : TT) (te : TE) (vs : List Nat) : TE := fun σ H Q => wi σ H fun J H1 => ∀ D, H1 D = none → ∃ (k0 : Bool) (W : Nat → Nat → Hp → Prop), (∃ m, W 0 m (upd H1 D (set0 P w k0 D))) ∧ ∀ i m H, W i m H →
  (J.stop i H ∧ Q (.ref D) H) ∨ (J.go i H ∧ ∃ Nx : Hp → Prop, (∀ H', Nx H' → ∃ m', m' < m ∧ W (i + 1) m' H') ∧ ∀ x H', J.yld i H x H' → g x (wipe σ vs) H' fun σ2 H2 => wipe σ2 vs = wipe σ vs ∧ tt σ2 H2 fun b H3 =>
    if b = true then te σ2 H3 fun y H4 => grownBy K P w D y H4 Nx else Nx H3)
theorem pe_scG {elt tg iter : Expr} {ifs : List Expr} {scope : Scope} {own : List (PySem.Str × Nat)} {pos : Pos} {wi : TI} {g : TG} {tt : TT} {te : TE} (hcalm : X.calm = true) (hu : X.A.units + 64 < cLine) (nd : X.N.Nodup) (pit : PI X tg iter wi) (bok : BlkOk X.N X.env.scope scope own)
    (gg : ∀ (s : Shared) (H : Hp) (C : Addr) (cl : List (PySem.Str × Addr)) (fp : List Addr), PG (X.blk s H scope (compEnvC scope cl C X.env) fp) tg g) (gt : ∀ (s : Shared) (H : Hp) (C : Addr) (cl : List (PySem.Str × Addr)) (fp : List Addr), PTs (X.blk s H scope (compEnvC scope cl C X.env) fp) ifs tt)
    (ge : ∀ (s : Shared) (H : Hp) (C : Addr) (cl : List (PySem.Str × Addr)) (fp : List Addr), PE (X.blk s H scope (compEnvC scope cl C X.env) fp) elt te) (hfold : ∀ x, foldedSetIterable iter X.env x = pure x := by intro _; rfl) :
    PE X (.SetComp elt [⟨tg, iter, ifs, 0⟩] scope pos) (tScG X.K X.prog X.w wi g tt te (own.map (·.2))) := by
  refine ⟨fun pins s σ H Q I rd => ?_⟩
  rw [PpSet.eval_SetComp]
  have frees : ∀ y ∈ scope.names, y.2 = .free → ∃ c, X.env.cells.lookup y.1 = some c := fun y hy e => by
    rcases bok.free y hy e with q | q
    · exact I.ok.has _ (.inl q)
    · exact I.ok.has _ (.inr q)
  refine wpAny_comprehension_free (use := none) rfl hfold (closure_ok frees) bok.kind (fun y hy e => by rw [bok.uniq y hy, e]) (thn (pit.run pins s σ H _ I rd) fun xv s1 hx => thn hx fun itv s2 h2 => ?_)
  obtain ⟨it, fp, tn, J, H2, e, I2, T, st2, f2, q⟩ := h2
  subst e
  refine PpSet.newSet_ok (newEnv_comp ?_)
  obtain ⟨D, hD⟩ : ∃ D, s2.heap.objs.size = D := ⟨_, rfl⟩
  obtain ⟨k0, W, ⟨m0, w0⟩, turn⟩ := q D (I2.hok.fresh (Nat.le_of_eq hD))
  obtain ⟨s3, hs3⟩ : ∃ s3 : Shared, ({ s2 with heap := s2.heap.push (setN X.w) } : Shared) = s3 := ⟨_, rfl⟩
  obtain ⟨H3, hH3⟩ : ∃ H3, upd H2 D (set0 X.prog X.w k0 D) = H3 := ⟨_, rfl⟩
  have heap3 : s3.heap = s2.heap.push (setN X.w) := by rw [← hs3]
  have I3 : L2.Inv X pins σ H3 s3 := by
    rw [← hs3, ← hH3]
    refine I2.laid (t' := s2.toks) (fun b o e => Heap.get?_push_of_some _ e) (Nat.le_of_eq hD) ?_
    rw [← hD]
    exact set0_ok k0 (Heap.get?_push_size _ rfl)
  have f3 : ∀ b ∈ fp, FpOk X pins H3 b ∧ b < s3.heap.objs.size := fun b hb => by
    obtain ⟨o, e, _⟩ := T.obj _ _ st2 b hb
    have lt := Heap.lt_size e
    refine ⟨⟨?_, (f2 b hb).2⟩, by rw [heap3, Heap.size_push]; exact Nat.lt_succ_of_lt lt⟩
    rw [← hH3, upd_ne (by rw [← hD]; exact Nat.ne_of_lt lt)]
    exact (f2 b hb).1
  have none3 : ∀ b ∈ fp, H3 b = none := fun b hb => (f3 b hb).1.1
  rw [hH3] at w0
  show codeAny _ _ (.compStart (.SetComp elt [⟨tg, iter, ifs, 0⟩] scope pos) 0 (.ref it) (.ref s2.heap.objs.size) (compEnvC scope (cellsFrom ((s2.heap.push (setN X.w)).objs.size + 1) scope.names (cloFrom X.env.cells scope.names [])) (s2.heap.push (setN X.w)).objs.size X.env)) (compPost (model X.prog X.w) X.A X.xe none _ (.ref s2.heap.objs.size) (s2.heap.push (setN X.w)).objs.size) { s2 with heap := pushCells ((s2.heap.push (setN X.w)).push { cls := .type "dict", data := .dict #[] }) scope.names }
  rw [← heap3, hD]
  have st3 : tn 0 s3.heap := T.keep _ _ _ st2 fun b _ o e => by rw [heap3]; exact Heap.get?_push_of_some _ e
  have I4 := block_start I3 bok nd f3
  obtain ⟨ce, hce⟩ : ∃ ce, compEnvC scope (cellsFrom (s3.heap.objs.size + 1) scope.names (cloFrom X.env.cells scope.names [])) s3.heap.objs.size X.env = ce := ⟨_, rfl⟩
  have pg := gg s3 H3 s3.heap.objs.size (cellsFrom (s3.heap.objs.size + 1) scope.names (cloFrom X.env.cells scope.names [])) fp
  have pt := gt s3 H3 s3.heap.objs.size (cellsFrom (s3.heap.objs.size + 1) scope.names (cloFrom X.env.cells scope.names [])) fp
  have pe := ge s3 H3 s3.heap.objs.size (cellsFrom (s3.heap.objs.size + 1) scope.names (cloFrom X.env.cells scope.names [])) fp
  have locs : ce.locals = s3.heap.objs.size := by rw [← hce]; rfl
  rw [hce] at I4 pg pt pe ⊢
  obtain ⟨s4, hs4⟩ : ∃ s4 : Shared, ({ s3 with heap := pushCells (s3.heap.push { cls := .type "dict", data := .dict #[] }) scope.names } : Shared) = s4 := ⟨_, rfl⟩
  have es4 : ({ s2 with heap := pushCells (s3.heap.push { cls := .type "dict", data := .dict #[] }) scope.names } : Shared) = s4 := by
    rw [← hs4, ← hs3]
  rw [hs4] at I4
  rw [es4]
  have st4 : tn 0 s4.heap := T.keep _ _ _ st3 fun b _ o e => by rw [← hs4]; exact pushCells_keeps _ _ _ _ (Heap.get?_push_of_some _ e)
  have calmFp : ∀ {σ' : L2.St} {H' : Hp} {s' : Shared}, L2.Inv (X.blk s3 H3 scope ce fp) [] σ' H' s' → (∀ b ∈ fp, H' b = none) → ∀ b ∈ fp, FpOk (X.blk s3 H3 scope ce fp) [] H' b := fun {σ' H' s'} I' hn b hb =>
    ⟨hn b hb, (I'.ok.exf b hb).1, I'.ok.exfs b hb, .inl hb, fun x c e => (I'.ok.exf b hb).2 x c e, fun r hr => absurd (show r ∈ ([] : List (Addr × Obj)) ++ [] from hr) (by simp)⟩
  have loop : codeAny (model X.prog X.w) X.A (.compLoop (.SetComp elt [⟨tg, iter, ifs, 0⟩] scope pos) 0 (.ref it) (.ref D) ce) (compPost (model X.prog X.w) X.A X.xe none (fun v s' => ∃ x H', L2.Inv X pins σ H' s' ∧ RelV x v ∧ Q x H') (.ref D) s3.heap.objs.size) s4 := by
    refine PpSet.compLoopS_any (fun n s' => ∃ i H', L2.Inv (X.blk s3 H3 scope ce fp) [] (wipe σ (own.map (·.2))) H' s' ∧ tn i s'.heap ∧ (∀ b ∈ fp, H' b = none) ∧ W i n H') ?_ m0 ⟨0, H3, I4, st4, none3, w0⟩
    rintro n s5 ⟨i, H5, I5, st5, n5, w5⟩
    rcases turn i n H5 w5 with ⟨stop, qq⟩ | ⟨go, Nx, hNx, step⟩
    · refine thnF (T.done (X.blk s3 H3 scope ce fp) rfl rfl rfl hcalm i [] s5 _ H5 (fun _ _ => False) I5 (calmFp I5 n5) st5 stop) fun r s6 ⟨hr, I6⟩ => ?_
      subst hr
      have I7 : L2.Inv X pins σ H5 s6 := I3.call' (ch := fp) I6.os I6.base I6.hok I6.bare fun b hb => ⟨(f3 b hb).1.2.2.2.1, (f3 b hb).1.2.1, (f3 b hb).1.2.2.2.2.1, (f3 b hb).1.2.2.2.2.2⟩
      have nC : H5 s3.heap.objs.size = none := by
        have z : H5 ce.locals = none := I6.free
        rw [locs] at z
        exact z
      obtain ⟨m, hn, _⟩ := I6.loc
      have hn : s6.heap.Ns ce.locals m := hn
      rw [locs] at hn
      obtain ⟨k0, k1, k2, k3, k4, k5⟩ := I3.fpOk (Nat.le_refl _) nC
      exact ⟨m, hn, fun h'' sb => ⟨.ref D, H5, I7.turned (t' := s6.toks) (fun b o hb e => (sb.2 b hb).trans e) k0 k1 k3 k4 k5, rfl, qq⟩⟩
    · refine thnF (T.item (X.blk s3 H3 scope ce fp) rfl rfl rfl hcalm i [] s5 _ H5 (fun _ _ => False) I5 (calmFp I5 n5) st5 go) fun r s6 ⟨u, hr, h6⟩ => ?_
      subst hr
      refine thnF h6 fun _ s7 ⟨x, H7, I7, r7, y7, st7, n7⟩ => ?_
      have I7' := I7.pinned (calmFp I7 n7) (T.obj _ _ st7)
      refine thnF (pg.run _ s7 _ H7 x u _ I7' r7 (step x H7 y7)) fun _ s8 ⟨σ8, H8, I8, hw8, q8⟩ => thnF (pt.run _ s8 σ8 H8 _ I8 q8) fun b s9 ⟨H9, I9, q9⟩ => ?_
      have next : ∀ {s' : Shared} {H' : Hp}, L2.Inv (X.blk s3 H3 scope ce fp) ([] ++ pinsAt fp s7.heap) σ8 H' s' → Nx H' → ∃ m, m < n ∧ ∃ i H', L2.Inv (X.blk s3 H3 scope ce fp) [] (wipe σ (own.map (·.2))) H' s' ∧ tn i s'.heap ∧ (∀ b ∈ fp, H' b = none) ∧ W i m H' := fun {s' H'} I' nx => by
        obtain ⟨m', hm, w'⟩ := hNx H' nx
        have held : ∀ b ∈ fp, ∀ o, s7.heap.get? b = some o → s'.heap.get? b = some o ∧ H' b = none := fun b hb o e => by
          have z := I'.pin (b, o) (List.mem_append_right _ (List.mem_append_right _ (mem_pinsAt hb e)))
          exact ⟨z.1, z.2.1⟩
        have len : (wipe σ (own.map (·.2))).length = σ8.length := by rw [← hw8, wipe_length]
        refine ⟨m', hm, i + 1, H', (I'.unpinned (pins := [])).weak len (fun j v e => ?_), T.keep _ _ _ st7 fun b hb o e => (held b hb o e).1, fun b hb => ?_, w'⟩
        · rw [← hw8] at e
          exact (wipe_some e).1
        · obtain ⟨o, e, _⟩ := T.obj _ _ st7 b hb
          exact (held b hb o e).2
      cases b with
      | false =>
        simp only [Bool.false_eq_true, if_false] at q9 ⊢
        exact next I9 q9
      | true =>
        simp only [if_true] at q9 ⊢
        refine thnF (pe.run _ s9 σ8 H9 _ I9 q9) fun z s10 ⟨yv, H10, I10, r10, gr⟩ => ?_
        rcases gr with ⟨zt, l0, ey, hD10, hz10, nx⟩ | ⟨x, k, L, ey, hx, hD10, tp, more, nx⟩
        · subst ey
          obtain ⟨tk, rfl⟩ := r10
          exact putX_ok (X := X.blk s3 H3 scope ce fp) I10 hD10 hz10 fun s11 l' n1 n2 n3 I11 => next I11 (nx l' n1 n2 n3)
        · subst ey
          cases r10
          exact putQ_ok (X := X.blk s3 H3 scope ce fp) hu I10 hD10 hx tp more fun s11 L' c1 c2 I11 => next I11 (nx L' c1 c2)
  exact PpSet.codeAny_compStart_set loop (T.self X.A 0 _ _ _ st4 loop)
end
end Wl

/-! sorted(a list of things told by data), and when two such lists are sorted alike -/
namespace Wl
open PySem PySem.Spec PyProof.Rows L2
theorem each_pairs {α β : Type} {R : α → β → Prop} : ∀ {as : List α} {bs : List β}, Each R as bs → ∃ zs : List (α × β), zs.map (·.1) = as ∧ zs.map (·.2) = bs ∧ ∀ z ∈ zs, R z.1 z.2
  | _, _, .nil => ⟨[], rfl, rfl, fun z h => by cases h⟩
  | _, _, .cons (a := a) (b := b) r t => by
    obtain ⟨zs, h1, h2, h3⟩ := each_pairs t
    refine ⟨(a, b) :: zs, by rw [List.map_cons, h1], by rw [List.map_cons, h2], fun z hz => ?_⟩
    rcases List.mem_cons.mp hz with rfl | hz
    · exact r
    · exact h3 z hz
theorem pairs_each {α β : Type} {R : α → β → Prop} : ∀ (zs : List (α × β)), (∀ z ∈ zs, R z.1 z.2) → Each R (zs.map (·.1)) (zs.map (·.2))
  | [], _ => .nil
  | z :: zs, h => .cons (h z List.mem_cons_self) (pairs_each zs fun y hy => h y (List.mem_cons_of_mem _ hy))
def sortE {β : Type} (enc : β → PyData) (bs : List β) : List β := bs.mergeSort (PySem.W.dataLe false enc)
section
variable {β : Type} {enc : β → PyData}
theorem sortE_ind {enc : β → PyData} (bs : List β) : (sortE enc bs).Perm bs := List.mergeSort_perm _ _
theorem le_enc (a b : β) : PySem.W.dataLe false enc a b = !PyProof.Rows.lexLt PyProof.Rows.itemOrd (PySem.W.keyToks (enc b)) (PySem.W.keyToks (enc a)) := by
  rw [PySem.W.dataLe_eq]
  rfl
theorem le_tr (a b c : β) (h1 : PySem.W.dataLe false enc a b = true) (h2 : PySem.W.dataLe false enc b c = true) : PySem.W.dataLe false enc a c = true := by
  rw [le_enc, Bool.not_eq_true'] at h1 h2 ⊢
  cases e : PyProof.Rows.lexLt PyProof.Rows.itemOrd (PySem.W.keyToks (enc c)) (PySem.W.keyToks (enc a)) with
  | false => rfl
  | true =>
    rcases PyProof.Rows.lex_negTrans _ (PySem.W.keyToks (enc b)) _ e with z | z
    · rw [h2] at z
      cases z
    · rw [h1] at z
      cases z
theorem le_tot (a b : β) : (PySem.W.dataLe false enc a b || PySem.W.dataLe false enc b a) = true := by
  rw [le_enc, le_enc]
  cases e : PyProof.Rows.lexLt PyProof.Rows.itemOrd (PySem.W.keyToks (enc b)) (PySem.W.keyToks (enc a)) with
  | false => rfl
  | true =>
    cases e2 : PyProof.Rows.lexLt PyProof.Rows.itemOrd (PySem.W.keyToks (enc a)) (PySem.W.keyToks (enc b)) with
    | false => rfl
    | true =>
      have := PyProof.Rows.lex_trans _ _ _ e e2
      rw [PyProof.Rows.lex_irrefl] at this
      cases this
theorem le_anti (inj : ∀ a b : β, PySem.W.keyToks (enc a) = PySem.W.keyToks (enc b) → a = b) (a b : β) (h1 : PySem.W.dataLe false enc a b = true) (h2 : PySem.W.dataLe false enc b a = true) : a = b := by
  rw [le_enc, Bool.not_eq_true'] at h1 h2
  exact inj a b (PyProof.Rows.lex_total _ _ h2 h1)
theorem sorted_same {le : β → β → Bool} (anti : ∀ a b : β, le a b = true → le b a = true → a = b) : ∀ {l m : List β}, l.Pairwise (fun a b => le a b = true) → m.Pairwise (fun a b => le a b = true) → l.Perm m → l = m
  | [], m, _, _, p => p.nil_eq
  | a :: l, [], _, _, p => absurd p.symm.nil_eq (by simp)
  | a :: l, b :: m, h1, h2, p => by
    have e : a = b := by
      have ha : a ∈ b :: m := p.mem_iff.mp List.mem_cons_self
      have hb : b ∈ a :: l := p.mem_iff.mpr List.mem_cons_self
      rcases List.mem_cons.mp ha with e | ha
      · exact e
      · rcases List.mem_cons.mp hb with e | hb
        · exact e.symm
        · exact anti a b ((List.pairwise_cons.mp h1).1 b hb) ((List.pairwise_cons.mp h2).1 a ha)
    subst e
    rw [sorted_same anti (List.pairwise_cons.mp h1).2 (List.pairwise_cons.mp h2).2 (List.Perm.cons_inv p)]
theorem sortE_perm (inj : ∀ a b : β, PySem.W.keyToks (enc a) = PySem.W.keyToks (enc b) → a = b) {l m : List β} : sortE enc l = sortE enc m ↔ l.Perm m := by
  refine ⟨fun e => ?_, fun p => ?_⟩
  · have h1 := sortE_ind (enc := enc) l
    have h2 := sortE_ind (enc := enc) m
    rw [e] at h1
    exact h1.symm.trans h2
  · refine sorted_same (le := PySem.W.dataLe false enc) (le_anti inj) (List.pairwise_mergeSort le_tr le_tot l) (List.pairwise_mergeSort le_tr le_tot m) ?_
    exact (sortE_ind l).trans (p.trans (sortE_ind m).symm)
/-- sorted(xs) -/
theorem sort_enc {K : PySem.W.Frag} {H : Hp} {Q : VK} {a : Addr} {xs : List V} {bs : List β} (h : SqL K H a xs) (hd : Each (fun x b => Dp K H x (enc b)) xs bs) (al : ∀ b b' : β, PySem.W.alike (enc b) (enc b') = true) (sb : ∀ b, ∃ x r, enc b = .tuple (x :: r)) (dep : ∀ b, (enc b).depth ≤ 8)
    (q : ∀ p ys, H p = none → (∀ R : V → β → Prop, Each R xs bs → Each R ys (sortE enc bs)) → Q (.ref p) (upd H p (.lst ys))) : rSortD K [.ref a] H Q := by
  obtain ⟨zs, e1, e2, hz⟩ := each_pairs hd
  refine ⟨a, zs.map fun z => (z.1, enc z.2), rfl, ?_, ?_, ?_, ?_, ?_, fun p hp => ?_⟩
  · rw [List.map_map]
    exact e1 ▸ h
  · intro b hb
    obtain ⟨z, hzm, rfl⟩ := List.mem_map.mp hb
    exact hz z hzm
  · intro d hd e he
    obtain ⟨b, hb, rfl⟩ := List.mem_map.mp hd
    obtain ⟨x, _, rfl⟩ := List.mem_map.mp hb
    obtain ⟨c, hc, rfl⟩ := List.mem_map.mp he
    obtain ⟨y, _, rfl⟩ := List.mem_map.mp hc
    exact al _ _
  · refine .inl fun d hd => ?_
    obtain ⟨b, hb, rfl⟩ := List.mem_map.mp hd
    obtain ⟨x, _, rfl⟩ := List.mem_map.mp hb
    exact sb _
  · intro b hb
    obtain ⟨x, _, rfl⟩ := List.mem_map.mp hb
    exact dep _
  · have m1 : (zs.mergeSort fun x y => PySem.W.dataLe false enc x.2 y.2).map (fun z => (z.1, enc z.2)) = (zs.map fun z => (z.1, enc z.2)).mergeSort (PySem.W.dataLe false (·.2)) := List.map_mergeSort fun x _ y _ => by
      rw [PySem.W.dataLe_eq, PySem.W.dataLe_eq]
    have m2 : (zs.mergeSort fun x y => PySem.W.dataLe false enc x.2 y.2).map (·.2) = (zs.map (·.2)).mergeSort (PySem.W.dataLe false enc) := List.map_mergeSort fun x _ y _ => rfl
    rw [← m1, List.map_map]
    refine q p _ hp fun R hR => ?_
    have hall : ∀ z ∈ zs, R z.1 z.2 := by
      have : ∀ (zs : List (V × β)), Each R (zs.map (·.1)) (zs.map (·.2)) → ∀ z ∈ zs, R z.1 z.2 := by
        intro zs
        induction zs with
        | nil => intro _ z hz; cases hz
        | cons y ys ih =>
          intro h z hz
          cases h with
          | cons r t =>
            rcases List.mem_cons.mp hz with rfl | hz
            · exact r
            · exact ih t z hz
      rw [← e1, ← e2] at hR
      exact this zs hR
    have e3 := pairs_each (R := R) (zs.mergeSort fun x y => PySem.W.dataLe false enc x.2 y.2) fun z hzm => hall z (List.mem_mergeSort.mp hzm)
    rw [m2, e2] at e3
    exact e3
end
end Wl

/-! Sets of texts or of tuples of texts: filled by a walk, sorted. -/
namespace Wl
open PySem PySem.Spec PyProof.Rows L2
section
variable {K : PySem.W.Frag} {P : Program} {w : World} {J : It} {G : Hp → Prop} {slot : Nat} {tt : TT} {te : TE} {vs : List Nat} {σ : L2.St} {H1 : Hp} {D : Addr} {Qd : Hp → Prop}
theorem sc_txtGX {ys : List V} (wk : L2.Walk J ys.length G (YAt ys)) (hD : H1 D = none) (keep : V → Bool) (f : V → Str) (hG : ∀ H, Same H1 H → G H)
    (hw : ∀ x, wipe ((wipe σ vs).set slot (some x)) vs = wipe σ vs)
    (ht : ∀ (x : V) (H : Hp), x ∈ ys → Same H1 H → ∀ Q : Bool → Hp → Prop, Q (keep x) H → tt ((wipe σ vs).set slot (some x)) H Q)
    (he : ∀ (x : V) (H : Hp), x ∈ ys → keep x = true → Same H1 H → ∀ Q : VK, Q (.str (f x)) H → te ((wipe σ vs).set slot (some x)) H Q)
    (hn : ys.length ≤ 1000)
    (hd : ∀ (l : List Str) (H : Hp), Same H1 H → H D = some (SetXO P w D l) → l.Nodup → (∀ z, z ∈ l ↔ z ∈ (ys.filter keep).map f) → l.length ≤ ys.length → Qd H) :
    ∃ (k0 : Bool) (W : Nat → Nat → Hp → Prop), (∃ m, W 0 m (upd H1 D (set0 P w k0 D))) ∧ ∀ i m H, W i m H →
      (J.stop i H ∧ Qd H) ∨ (J.go i H ∧ ∃ Nx : Hp → Prop, (∀ H', Nx H' → ∃ m', m' < m ∧ W (i + 1) m' H') ∧ ∀ x H', J.yld i H x H' → gName slot x (wipe σ vs) H' fun σ2 H2 => wipe σ2 vs = wipe σ vs ∧ tt σ2 H2 fun b H3 =>
        if b = true then te σ2 H3 fun y H4 => grownBy K P w D y H4 Nx else Nx H3) := by
  refine ⟨true, fun i m H => m = ys.length - i ∧ i ≤ ys.length ∧ Same H1 H ∧ ∃ l, H D = some (SetXO P w D l) ∧ l.Nodup ∧ (∀ z, z ∈ l ↔ z ∈ ((ys.take i).filter keep).map f) ∧ l.length ≤ i, ⟨ys.length, by simp, Nat.zero_le _, same_new hD, [], upd_same, List.nodup_nil, fun z => by simp, Nat.le_refl _⟩, ?_⟩
  rintro i m H ⟨rfl, hi, s, l, hl, nd, hm, hll⟩
  by_cases hlt : i < ys.length
  · refine .inr ⟨wk.goes i H hlt (hG H s), fun H' => i + 1 ≤ ys.length ∧ Same H1 H' ∧ ∃ l, H' D = some (SetXO P w D l) ∧ l.Nodup ∧ (∀ z, z ∈ l ↔ z ∈ ((ys.take (i + 1)).filter keep).map f) ∧ l.length ≤ i + 1, fun H' h' => ⟨ys.length - (i + 1), by omega, rfl, h'⟩, fun x H' hy => ?_⟩
    obtain ⟨rfl, hx⟩ := wk.yields i H x H' hlt (hG H s) hy
    have hxm : x ∈ ys := List.mem_of_getElem? hx
    have hf := filter_take_snoc (p := keep) hx
    refine ⟨hw x, ht x _ hxm s _ ?_⟩
    refine ite_b (fun e => ?_) (fun e => ?_)
    · refine he x _ hxm e s _ (.inl ⟨f x, l, rfl, hl, by unfold scanBound; omega, fun l' n1 n2 n3 => ⟨hlt, same_mut s hD, l', upd_same, n1, fun z => ?_, by omega⟩⟩)
      rw [n2, hm, hf, if_pos e, List.map_append, List.mem_append]
      simp
    · refine ⟨hlt, s, l, hl, nd, fun z => ?_, by omega⟩
      rw [hm, hf, if_neg (by rw [e]; decide), List.append_nil]
  · have e : i = ys.length := by omega
    subst e
    rw [List.take_length] at hm
    exact .inl ⟨wk.stops H (hG H s), hd l H s hl nd hm hll⟩
abbrev RowX := Addr × List Str
def TupsAtX (K : PySem.W.Frag) (H : Hp) (ks : List RowX) : Prop := ∀ p ∈ ks, SqT K H p.1 (p.2.map V.str)
theorem sc_tupGX {ks : List RowX} (wk : L2.Walk J ks.length G (YAt (ks.map fun p => V.ref p.1))) (hD : H1 D = none) (hk : ∀ H, Same H1 H → TupsAtX K H ks) (keep : RowX → Bool) (hG : ∀ H, Same H1 H → G H)
    (hw : ∀ x, wipe ((wipe σ vs).set slot (some x)) vs = wipe σ vs)
    (ht : ∀ (x : RowX) (H : Hp), x ∈ ks → Same H1 H → ∀ Q : Bool → Hp → Prop, Q (keep x) H → tt ((wipe σ vs).set slot (some (.ref x.1))) H Q)
    (he : ∀ (x : RowX) (H : Hp), x ∈ ks → keep x = true → Same H1 H → ∀ Q : VK, Q (.ref x.1) H → te ((wipe σ vs).set slot (some (.ref x.1))) H Q)
    (hn : ks.length < 63)
    (hd : ∀ (L : List RowX) (H : Hp), Same H1 H → H D = some (SetQO P w D L) → (L.map (·.2)).Nodup → (∀ k, k ∈ L.map (·.2) ↔ k ∈ (ks.filter keep).map (·.2)) → (∀ p ∈ L, p ∈ ks) → L.length ≤ ks.length → Qd H) :
    ∃ (k0 : Bool) (W : Nat → Nat → Hp → Prop), (∃ m, W 0 m (upd H1 D (set0 P w k0 D))) ∧ ∀ i m H, W i m H →
      (J.stop i H ∧ Qd H) ∨ (J.go i H ∧ ∃ Nx : Hp → Prop, (∀ H', Nx H' → ∃ m', m' < m ∧ W (i + 1) m' H') ∧ ∀ x H', J.yld i H x H' → gName slot x (wipe σ vs) H' fun σ2 H2 => wipe σ2 vs = wipe σ vs ∧ tt σ2 H2 fun b H3 =>
        if b = true then te σ2 H3 fun y H4 => grownBy K P w D y H4 Nx else Nx H3) := by
  refine ⟨false, fun i m H => m = ks.length - i ∧ i ≤ ks.length ∧ Same H1 H ∧ ∃ L, H D = some (SetQO P w D L) ∧ (L.map (·.2)).Nodup ∧ (∀ k, k ∈ L.map (·.2) ↔ k ∈ ((ks.take i).filter keep).map (·.2)) ∧ (∀ p ∈ L, p ∈ ks) ∧ L.length ≤ i, ⟨ks.length, by simp, Nat.zero_le _, same_new hD, [], upd_same, List.nodup_nil, fun z => by simp, (fun p hp => nomatch hp), Nat.le_refl _⟩, ?_⟩
  rintro i m H ⟨rfl, hi, s, L, hl, nd, hm, hs, hll⟩
  by_cases hlt : i < ks.length
  · refine .inr ⟨wk.goes i H hlt (hG H s), fun H' => i + 1 ≤ ks.length ∧ Same H1 H' ∧ ∃ L, H' D = some (SetQO P w D L) ∧ (L.map (·.2)).Nodup ∧ (∀ k, k ∈ L.map (·.2) ↔ k ∈ ((ks.take (i + 1)).filter keep).map (·.2)) ∧ (∀ p ∈ L, p ∈ ks) ∧ L.length ≤ i + 1, fun H' h' => ⟨ks.length - (i + 1), by omega, rfl, h'⟩, fun x H' hy => ?_⟩
    obtain ⟨rfl, hx⟩ := wk.yields i H x H' hlt (hG H s) hy
    rw [List.getElem?_map] at hx
    obtain ⟨p, hp, rfl⟩ := Option.map_eq_some_iff.mp hx
    have hpm : p ∈ ks := List.mem_of_getElem? hp
    have hf := filter_take_snoc (p := keep) hp
    refine ⟨hw _, ht p _ hpm s _ ?_⟩
    refine ite_b (fun e => ?_) (fun e => ?_)
    · refine he p _ hpm e s _ (.inr ⟨p.1, p.2, L, rfl, hk _ s p hpm, hl, fun q hq => hk _ s q (hs q hq), by omega, fun L' c1 c2 => ?_⟩)
      by_cases c : p.2 ∈ L.map (·.2)
      · rw [c1 c]
        refine ⟨hlt, same_mut s hD, L, upd_same, nd, fun k => ?_, hs, by omega⟩
        rw [hm, hf, if_pos e, List.map_append, List.mem_append]
        refine ⟨.inl, fun h => h.elim id fun h => ?_⟩
        rw [List.map_singleton, List.mem_singleton] at h
        rw [h, ← hm]
        exact c
      · have pm := c2 c
        refine ⟨hlt, same_mut s hD, L', upd_same, (pm.map (·.2)).nodup_iff.mpr (List.nodup_cons.mpr ⟨c, nd⟩), fun k => ?_, fun q hq => ?_, by rw [pm.length_eq, List.length_cons]; omega⟩
        · rw [(pm.map (·.2)).mem_iff, List.map_cons, List.mem_cons, hm, hf, if_pos e, List.map_append, List.mem_append, List.map_singleton, List.mem_singleton]
          exact Or.comm
        · rcases List.mem_cons.mp (pm.mem_iff.mp hq) with rfl | hq
          · exact hpm
          · exact hs q hq
    · refine ⟨hlt, s, L, hl, nd, fun k => ?_, hs, by omega⟩
      rw [hm, hf, if_neg (by rw [e]; decide), List.append_nil]
  · have e : i = ks.length := by omega
    subst e
    rw [List.take_length] at hm
    exact .inl ⟨wk.stops H (hG H s), hd L H s hl nd hm hs hll⟩
end
/-! ### sorted -/
def rowDX (k : List Str) : PyData := .tuple (k.map PyData.str)
theorem rows_alikeX : ∀ k j : List Str, PySem.W.alike (rowDX k) (rowDX j) = true := fun k j => by
  show PySem.W.alikeAll (k.map PyData.str) (j.map PyData.str) = true
  induction k generalizing j with
  | nil => rfl
  | cons x k ih =>
    cases j with
    | nil => rfl
    | cons y j =>
      show (true && PySem.W.alikeAll (k.map PyData.str) (j.map PyData.str)) = true
      rw [ih j]
      rfl
theorem row_depthX (k : List Str) : (rowDX k).depth ≤ 1 := by
  have : PyData.depthAll (k.map PyData.str) = 0 := by
    induction k with
    | nil => rfl
    | cons x k ih => rw [List.map_cons, PyData.depthAll, ih]; rfl
  show PyData.depth (.tuple _) ≤ 1
  rw [PyData.depth, this]
  exact Nat.le_refl _
theorem dp_textsX {K : PySem.W.Frag} {H : Hp} : ∀ k : List Str, DpAll K H (k.map V.str) (k.map PyData.str)
  | [] => .nil
  | x :: k => .cons (.str x) (dp_textsX k)
theorem dp_rowX {K : PySem.W.Frag} {H : Hp} {a : Addr} {k : List Str} (h : SqT K H a (k.map V.str)) : Dp K H (.ref a) (rowDX k) := .tup h (dp_textsX k)
theorem each_inX {α β : Type} {R : α → β → Prop} : ∀ {as : List α} {bs : List β}, PySem.W.EachIs R as bs → ∀ b ∈ bs, ∃ a ∈ as, R a b
  | _, _, .nil, b, h => nomatch h
  | _, _, .cons r t, b, h => by
    rcases List.mem_cons.mp h with rfl | h
    · exact ⟨_, List.mem_cons_self, r⟩
    · obtain ⟨a, ha, e⟩ := each_inX t b h
      exact ⟨a, List.mem_cons_of_mem _ ha, e⟩
theorem refs_backX {L : List RowX} : ∀ {vs : List Value}, (∀ v ∈ vs, ∃ q ∈ L, v = Value.ref q.1) → ∃ M : List RowX, vs = M.map (fun q => Value.ref q.1) ∧ ∀ q ∈ M, q ∈ L
  | [], _ => ⟨[], rfl, fun q h => nomatch h⟩
  | v :: vs, h => by
    obtain ⟨q, hq, rfl⟩ := h v List.mem_cons_self
    obtain ⟨M, e, hM⟩ := refs_backX fun u hu => h u (List.mem_cons_of_mem _ hu)
    exact ⟨q :: M, by rw [e, List.map_cons], fun r hr => (List.mem_cons.mp hr).elim (fun e => e ▸ hq) (hM r)⟩
theorem each_refsX : ∀ M : List RowX, PySem.W.EachIs (fun (u : Value) (p : RowX) => u = Value.ref p.1) (M.map fun q => Value.ref q.1) M
  | [] => .nil
  | _ :: M => .cons rfl (each_refsX M)
theorem refs_eachX : ∀ {vs : List Value} {M : List RowX}, PySem.W.EachIs (fun (u : Value) (p : RowX) => u = Value.ref p.1) vs M → vs = M.map fun q => Value.ref q.1
  | _, _, .nil => rfl
  | _, _, .cons r t => by rw [r, refs_eachX t]; rfl
theorem vals_refsX : ∀ M : List RowX, Vals (M.map fun q => V.ref q.1) (M.map fun q => Value.ref q.1)
  | [] => .nil
  | _ :: M => .cons rfl (vals_refsX M)
abbrev leTX (p q : RowX) : Bool := PySem.W.dataLe false (fun p : RowX => rowDX p.2) p q
section
variable {X : Cx}
/-- sorted(a set), of texts or of tuples of texts -/
def rSortGX (K : PySem.W.Frag) (P : Program) (w : World) : List V → Hp → VK → Prop := fun vs H Q => rSortX P w vs H Q ∨ ∃ (a : Addr) (L : List RowX), vs = [V.ref a] ∧ H a = some (SetQO P w a L) ∧ TupsAtX K H L ∧ (∀ p ∈ L, p.2 ≠ []) ∧ L.length < 64 ∧ (L.map (·.2)).Nodup ∧
  ∀ (p : Addr) (M : List RowX), H p = none → M.Perm L → M.Pairwise (fun p q => leTX p q = true) → Q (.ref p) (upd H p (.lst (M.map fun q => V.ref q.1)))
theorem cr_sortGX (hc : X.calm = true) (hu : X.A.units + 64 < cLine) : CallR X (.builtin "sorted") (rSortGX X.K X.prog X.w) := by
  intro pins s σ H vs us Q I r h
  rcases h with h | ⟨a, L, rfl, ha, tp, ne, few, ndk, q⟩
  · exact cr_sortX hc hu pins s σ H vs us Q I r h
  have RR : SetQ X.prog X.w s.heap a L := (I.hok a _ ha).1
  obtain ⟨es, ep, t, R⟩ := RR
  rw [Vals.ref1 r]
  obtain ⟨o, ho, hex, hd⟩ := R.obj
  have n1 := lines_len R.lines
  refine Calls.call_function_entry PyProof.Rows.kind_sorted PyProof.Rows.plain_sorted PyProof.Rows.entry_sorted (PyProof.Rows.args_sorted1 _) ?_
  unfold Builtin.«sorted»
  refine wpAny_bind (m := checkCount "sorted" 1 1 _) (wpAny_pure ?_)
  refine wpAny_bind (collect_set (A := X.A.in1) (I.ok.hd hc) ⟨o, ho, hex.1, hd⟩ R.fits (by unfold scanBound; omega) R.tab.ris R.led fun s1 out k1 z1 g1 o1 pm => ?_)
  rw [R.lines, List.map_map] at pm
  obtain ⟨M, rfl, hM⟩ := refs_backX (L := L) fun v hv => by
    obtain ⟨p, hp, e⟩ := List.mem_map.mp (pm.mem_iff.mp hv)
    exact ⟨p, hp, e.symm⟩
  have one : ∀ p ∈ L, ∀ p' ∈ L, p.1 = p'.1 → p = p' := fun p hp p' hp' e => by
    have e2 := tupX_of I (tp p hp)
    rw [e] at e2
    exact Prod.ext e (e2.inj (tupX_of I (tp p' hp')))
  have ndL : L.Nodup := (List.pairwise_map.mp ndk).imp fun h e => h (by rw [e])
  have ndr : (L.map ((fun x => x.2) ∘ lineX X.prog X.w)).Nodup := List.pairwise_map.mpr (ndL.imp_of_mem fun {p p'} hp hp' h e => by
    injection e with e
    exact h (one p hp p' hp' e))
  have ndM : M.Nodup := (List.pairwise_map.mp (pm.nodup_iff.mpr ndr)).imp fun h e => h (by rw [e])
  have pML : M.Perm L := by
    refine (List.perm_ext_iff_of_nodup ndM ndL).mpr fun p => ⟨hM p, fun hp => ?_⟩
    obtain ⟨p', hp', e⟩ := List.mem_map.mp (pm.mem_iff.mpr (List.mem_map.mpr ⟨p, hp, rfl⟩))
    injection e with e
    rw [← one p' (hM p' hp') p hp e]
    exact hp'
  have mlen : M.length < 64 := by rw [pML.length_eq]; exact few
  have msz : M.length ≤ sizeLine := Nat.le_trans (Nat.le_of_lt mlen) (by decide)
  refine wpAny_bind (wpAny_newList ?_ (by rw [List.length_map]; exact msz))
  generalize hout : M.map (fun q => Value.ref q.1) = out at *
  have hoL : (s1.heap.push (seqObj "list" out.toArray 0)).get? s1.heap.objs.size = some (seqObj "list" out.toArray 0) := Heap.get?_push_size _ rfl
  have rd : PySem.W.EachIs (fun v (p : RowX) => ∃ as, Reads (s1.heap.push (seqObj "list" out.toArray 0)) v (rowDX p.2) as ∧ s1.heap.objs.size ∉ as) out M := by
    have key : ∀ (N : List RowX), (∀ p ∈ N, p ∈ L) → PySem.W.EachIs (fun v (p : RowX) => ∃ as, Reads (s1.heap.push (seqObj "list" out.toArray 0)) v (rowDX p.2) as ∧ s1.heap.objs.size ∉ as) (N.map fun q => Value.ref q.1) N := by
      intro N
      induction N with
      | nil => exact fun _ => .nil
      | cons p N ih =>
        intro h
        refine .cons ?_ (ih fun u hu => h u (List.mem_cons_of_mem _ hu))
        obtain ⟨as, r1⟩ := Dp.reads I (rowDX p.2) (.ref p.1) (.ref p.1) (dp_rowX (tp p (h p List.mem_cons_self))) rfl
        have r2 : Reads s1.heap (.ref p.1) (rowDX p.2) as := Reads.keeps k1 r1
        refine ⟨as, Reads.keeps (fun b u e => Heap.get?_push_of_some _ e) r2, fun hm => ?_⟩
        obtain ⟨o, e⟩ := PyProof.On.reads_mem_get r2 _ hm
        exact Nat.lt_irrefl _ (Heap.lt_size e)
    have h0 := key M hM
    rw [hout] at h0
    exact h0
  refine wpAny_bind (wpAny_holding (PySem.W.list_sort_data (R := fun (u : Value) (p : RowX) => u = Value.ref p.1) (enc := fun p : RowX => rowDX p.2) (s := { s1 with heap := s1.heap.push (seqObj "list" out.toArray 0) }) hoL (hout ▸ each_refsX M) rd (PySem.W.AllAlike.of fun _ _ => rows_alikeX _ _) (.inl fun d hd => ?_) msz (fun p _ => ?_) fun srt hso eo => ?_))
  · obtain ⟨p, hp, rfl⟩ := List.mem_map.mp hd
    cases hk : p.2 with
    | nil => exact absurd hk (ne p (hM p hp))
    | cons x k => exact ⟨.str x, k.map PyData.str, rfl⟩
  · have := row_depthX p.2
    show X.A.units + 1 + 1 + (rowDX p.2).depth < cLine
    omega
  · have es := refs_eachX eo
    obtain ⟨S, hS⟩ : ∃ S, S = M.mergeSort (PySem.W.dataLe false fun p : RowX => rowDX p.2) := ⟨_, rfl⟩
    rw [← hS] at es
    have pS : S.Perm L := by rw [hS]; exact (List.mergeSort_perm _ _).trans pML
    have wS : S.Pairwise (fun p q => leTX p q = true) := by
      rw [hS]
      exact List.pairwise_mergeSort le_tr le_tot M
    obtain ⟨e', he'⟩ := PyProof.Rows.sortedHeap_at (vs := out) (out := srt.toArray) hoL
    have hlen : (S.map fun q => V.ref q.1).length ≤ sizeLine := by
      rw [List.length_map, pS.length_eq]
      exact Nat.le_trans (Nat.le_of_lt few) (by decide)
    have hn : H s1.heap.objs.size = none := I.hok.fresh z1
    have kp : ∀ b o, s.heap.get? b = some o → (PyProof.Rows.sortedHeap (s1.heap.push (seqObj "list" out.toArray 0)) s1.heap.objs.size out srt.toArray).get? b = some o := fun b o e => by
      have q1 := k1 b o e
      have hb := Heap.lt_size q1
      rw [PyProof.Rows.sortedHeap_old (Nat.ne_of_lt hb) (by rw [size_push']; exact Nat.lt_succ_of_lt hb)]
      exact Heap.get?_push_of_some _ q1
    have J : L2.Inv X pins σ (upd H s1.heap.objs.size (.lst (S.map fun q => V.ref q.1))) { s with heap := PyProof.Rows.sortedHeap (s1.heap.push (seqObj "list" out.toArray 0)) s1.heap.objs.size out srt.toArray, gens := s1.gens, drawn := s1.drawn, toks := s1.toks } :=
      I.call (ch := []) (Un.laid kp z1 hn) (I.hok.laid kp z1 ⟨hlen, srt, e', es ▸ vals_refsX S, he'⟩) (by rw [g1]; exact I.bare) (fun _ z => nomatch z)
    have es1 : ({ s1 with heap := PyProof.Rows.sortedHeap (s1.heap.push (seqObj "list" out.toArray 0)) s1.heap.objs.size out srt.toArray } : Shared) = { s with heap := PyProof.Rows.sortedHeap (s1.heap.push (seqObj "list" out.toArray 0)) s1.heap.objs.size out srt.toArray, gens := s1.gens, drawn := s1.drawn, toks := s1.toks } := by
      cases s1
      cases s
      cases o1
      rfl
    refine wpAny_pure ⟨_, rfl, .ref s1.heap.objs.size, upd H s1.heap.objs.size (.lst (S.map fun q => V.ref q.1)), ?_, rfl, q _ S hn pS wS⟩
    show L2.Inv X pins σ _ { s1 with heap := PyProof.Rows.sortedHeap (s1.heap.push (seqObj "list" out.toArray 0)) s1.heap.objs.size out srt.toArray }
    rw [es1]
    exact J
end
end Wl

namespace Wl
open PySem PySem.Spec PyProof.Rows L2
abbrev sBothP : Stmt := topS 66
abbrev sHabit : Stmt := topS 67
/-! ### what stands in both, the least of it -/
abbrev leTxX : Str → Str → Bool := PySem.W.dataLe false PyData.str
abbrev leRowX : List Str → List Str → Bool := PySem.W.dataLe false rowDX
theorem toks_strX {a b : Str} (h : PySem.W.keyToks (PyData.str a) = PySem.W.keyToks (PyData.str b)) : a = b := by
  have h1 : [Sum.inr a.cps.toList] = ([Sum.inr b.cps.toList] : List (Int ⊕ List Nat)) := h
  injection h1 with h1
  injection h1 with h1
  cases a
  cases b
  exact congrArg _ (Array.toList_inj.mp h1)
theorem toks_rowX : ∀ {k j : List Str}, PySem.W.keyToks (rowDX k) = PySem.W.keyToks (rowDX j) → k = j := by
  have key : ∀ {k j : List Str}, PySem.W.keyToksAll (k.map PyData.str) = PySem.W.keyToksAll (j.map PyData.str) → k = j := by
    intro k
    induction k with
    | nil =>
      intro j h
      cases j with
      | nil => rfl
      | cons y j => simp [PySem.W.keyToksAll] at h
    | cons x k ih =>
      intro j h
      cases j with
      | nil => simp [PySem.W.keyToksAll] at h
      | cons y j =>
        simp only [List.map_cons, PySem.W.keyToksAll, PySem.W.keyToks, List.cons_append, List.nil_append, List.cons.injEq, Sum.inr.injEq, true_and] at h
        rw [ih h.2, show x = y from toks_strX (by simp [PySem.W.keyToks, h.1])]
  intro k j h
  exact key h
def Least {α : Type} (le : α → α → Bool) (A B : List α) (k : α) : Prop := k ∈ A ∧ k ∈ B ∧ ∀ j, j ∈ A → j ∈ B → le k j = true
theorem Least.symm {α : Type} {le : α → α → Bool} {A B : List α} {k : α} (h : Least le A B k) : Least le B A k := ⟨h.2.1, h.1, fun j a b => h.2.2 j b a⟩
theorem least_one {α : Type} {enc : α → PyData} (inj : ∀ a b : α, PySem.W.keyToks (enc a) = PySem.W.keyToks (enc b) → a = b) {A B : List α} {k j : α} (h : Least (PySem.W.dataLe false enc) A B k) (h' : Least (PySem.W.dataLe false enc) A B j) : k = j :=
  le_anti inj k j (h.2.2 j h'.1 h'.2.1) (h'.2.2 k h.1 h.2.1)
theorem head_leX {α : Type} {enc : α → PyData} {l : List α} {k : α} (p : l.Pairwise fun a b => PySem.W.dataLe false enc a b = true) (h : l[0]? = some k) : k ∈ l ∧ ∀ j ∈ l, PySem.W.dataLe false enc k j = true := by
  cases l with
  | nil => cases h
  | cons x l =>
    cases h
    refine ⟨List.mem_cons_self, fun j hj => ?_⟩
    rcases List.mem_cons.mp hj with rfl | hj
    · have := le_tot (enc := enc) j j
      simpa using this
    · exact (List.pairwise_cons.mp p).1 j hj
/-! ### what habit tells -/
inductive Hab
  | no
  | sho (v t : Str)
  | nay (g : Str)
  | may (xs ys : List Str)
def mouthsOf (ts : List Tel) : List (List Str) := ts.map fun t => [t.v, t.tl]
def handsOf (ts : List Tel) : List Str := ts.map (·.g)
noncomputable def hands1 (ts : List Tel) : List Str := sortS (keysOf (handsOf ts))
/-- the first that is so -/
def HabOf (s1 s2 : List Tel) (h : Hab) : Prop :=
  ((s1 = [] ∨ s2 = []) ∧ h = .no) ∨ (s1 ≠ [] ∧ s2 ≠ [] ∧
    ((∃ v t, Least leRowX (mouthsOf s1) (mouthsOf s2) [v, t] ∧ h = .sho v t) ∨ ((∀ k, k ∈ mouthsOf s1 → k ∉ mouthsOf s2) ∧
      ((∃ g, Least leTxX (handsOf s1) (handsOf s2) g ∧ h = .nay g) ∨ ((∀ g, g ∈ handsOf s1 → g ∉ handsOf s2) ∧ h = .may (hands1 s1) (hands1 s2))))))
theorem hab_one {s1 s2 : List Tel} {h h' : Hab} (a : HabOf s1 s2 h) (b : HabOf s1 s2 h') : h = h' := by
  rcases a with ⟨a1, rfl⟩ | ⟨a1, a2, a⟩ <;> rcases b with ⟨b1, rfl⟩ | ⟨b1, b2, b⟩
  · rfl
  · exact absurd a1 (fun e => e.elim b1 b2)
  · exact absurd b1 (fun e => e.elim a1 a2)
  · rcases a with ⟨v, t, a3, rfl⟩ | ⟨a3, a⟩ <;> rcases b with ⟨v', t', b3, rfl⟩ | ⟨b3, b⟩
    · have e := least_one (fun _ _ => toks_rowX) a3 b3
      simp only [List.cons.injEq, and_true] at e
      rw [e.1, e.2]
    · exact absurd a3.2.1 (b3 _ a3.1)
    · exact absurd b3.2.1 (a3 _ b3.1)
    · rcases a with ⟨g, a4, rfl⟩ | ⟨a4, rfl⟩ <;> rcases b with ⟨g', b4, rfl⟩ | ⟨b4, rfl⟩
      · rw [least_one (fun _ _ => toks_strX) a4 b4]
      · exact absurd a4.2.1 (b4 _ a4.1)
      · exact absurd b4.2.1 (a4 _ b4.1)
      · rfl
def Hab.turn : Hab → Hab
  | .may xs ys => .may ys xs
  | h => h
theorem hab_turn {s1 s2 : List Tel} {h : Hab} (a : HabOf s1 s2 h) : HabOf s2 s1 h.turn := by
  rcases a with ⟨a1, rfl⟩ | ⟨a1, a2, a⟩
  · exact .inl ⟨a1.symm, rfl⟩
  · refine .inr ⟨a2, a1, ?_⟩
    rcases a with ⟨v, t, a3, rfl⟩ | ⟨a3, a⟩
    · exact .inl ⟨v, t, a3.symm, rfl⟩
    · refine .inr ⟨fun k x y => a3 k y x, ?_⟩
      rcases a with ⟨g, a4, rfl⟩ | ⟨a4, rfl⟩
      · exact .inl ⟨g, a4.symm, rfl⟩
      · exact .inr ⟨fun k x y => a4 k y x, rfl⟩
def HabAt (H : Hp) (t : Addr) : Hab → Prop
  | .no => H t = some (.tup [.str "none"])
  | .sho v u => H t = some (.tup [.str "shown", .str v, .str u])
  | .nay g => H t = some (.tup [.str "not", .str g])
  | .may xs ys => ∃ p q : Addr, H t = some (.tup [.str "may", .ref p, .ref q]) ∧ H p = some (.tup (xs.map V.str)) ∧ H q = some (.tup (ys.map V.str))
theorem HabAt.keep {H H' : Hp} {t : Addr} {h : Hab} (a : HabAt H t h) (k : TupKeep H H') : HabAt H' t h := by
  cases h with
  | no => exact k _ _ a
  | sho v u => exact k _ _ a
  | nay g => exact k _ _ a
  | may xs ys =>
    obtain ⟨p, q, a1, a2, a3⟩ := a
    exact ⟨p, q, k _ _ a1, k _ _ a2, k _ _ a3⟩
theorem shaped_str1X {z : Str} (h : IsWd z) : SeqAt.shaped (.str z) = true := by
  have h1 := lay_strs (ws := [z]) fun y hy => by rw [List.mem_singleton.mp hy]; exact h
  have h2 : PyData.canLay0 (.str z) = true := by simpa [PyData.canLayAll0] using h1
  unfold SeqAt.shaped
  rw [h2]
  rfl
/-! ### tuples of texts in the heap -/
def RowsHX (H : Hp) (ks : List RowX) : Prop := ∀ p ∈ ks, H p.1 = some (.tup (p.2.map V.str)) ∧ p.2 ≠ [] ∧ ∀ z ∈ p.2, IsWd z
theorem RowsHX.keep {H H' : Hp} {ks : List RowX} (h : RowsHX H ks) (k : TupKeep H H') : RowsHX H' ks := fun p hp => ⟨k _ _ (h p hp).1, (h p hp).2⟩
theorem dp_rowsX {K : PySem.W.Frag} {H : Hp} : ∀ {ks : List RowX}, RowsHX H ks → DpAll K H (ks.map fun p => V.ref p.1) (ks.map fun p => rowDX p.2)
  | [], _ => .nil
  | p :: ks, h => .cons (dp_rowX (.inl (.inl (h p List.mem_cons_self).1))) (dp_rowsX fun q hq => h q (List.mem_cons_of_mem _ hq))
theorem lay_rowsX {H : Hp} : ∀ {ks : List RowX}, RowsHX H ks → PyData.canLayAll0 (ks.map fun p => rowDX p.2) = true
  | [], _ => by simp [PyData.canLayAll0]
  | p :: ks, h => by
    have h1 := lay_strs (h p List.mem_cons_self).2.2
    have h2 := lay_rowsX (ks := ks) fun q hq => h q (List.mem_cons_of_mem _ hq)
    show (PyData.canLay0 (rowDX p.2) && PyData.canLayAll0 (ks.map fun p => rowDX p.2)) = true
    rw [h2, show PyData.canLay0 (rowDX p.2) = true from by simpa [rowDX, PyData.canLay0] using h1]
    rfl
theorem depth_rowsX : ∀ ks : List RowX, PyData.depthAll (ks.map fun p => rowDX p.2) ≤ 1
  | [] => by simp [PyData.depthAll]
  | p :: ks => by
    have h1 := depth_rowsX ks
    have h2 := row_depthX p.2
    simp only [List.map_cons, PyData.depthAll]
    omega
theorem any_rowsX (k : List Str) : ∀ ks : List RowX, ((ks.map fun p => rowDX p.2).any fun z => PyData.eqv z (rowDX k)) = decide (k ∈ ks.map (·.2))
  | [] => by simp
  | q :: ks => by
    rw [List.map_cons, List.any_cons, any_rowsX k ks, show PyData.eqv (rowDX q.2) (rowDX k) = decide (q.2 = k) from tup_eqv _ _, List.map_cons, ← Bool.decide_or]
    refine decide_eq_decide.mpr ?_
    rw [List.mem_cons]
    exact or_congr_left ⟨Eq.symm, Eq.symm⟩
theorem any_textsX (z : Str) : ∀ ys : List Str, ((ys.map PyData.str).any fun y => PyData.eqv y (.str z)) = decide (z ∈ ys)
  | [] => by simp
  | y :: ys => by
    rw [List.map_cons, List.any_cons, any_textsX z ys, show PyData.eqv (.str y) (.str z) = decide (y = z) from by rw [Bool.eq_iff_iff]; simp [PyData.eqv], ← Bool.decide_or]
    refine decide_eq_decide.mpr ?_
    rw [List.mem_cons]
    exact or_congr_left ⟨Eq.symm, Eq.symm⟩
section
variable {P : Program} {w : World} {K : PySem.W.Frag} {mg : Str → Option Value} {base : Heap} {f C D : Addr} {fd : FuncData}
def spBothP : Sp := fun vs H Q _ => ∃ (l1 l2 : Addr), vs = [.ref l1, .ref l2] ∧
  ((∃ zs ys : List Str, H l1 = some (.lst (zs.map V.str)) ∧ H l2 = some (.lst (ys.map V.str)) ∧ (∀ z ∈ zs, IsWd z) ∧ (∀ z ∈ ys, IsWd z) ∧ zs.length ≤ 60 ∧
      ∀ (t : Addr) (M : List Str) (H' : Hp), Same H H' → H' t = some (.tup (M.map V.str)) → (∀ z, z ∈ M ↔ z ∈ zs ∧ z ∈ ys) → M.Pairwise (fun a b => leTxX a b = true) → Q (.ref t) H') ∨
   (∃ ks js : List RowX, H l1 = some (.lst (ks.map fun p => V.ref p.1)) ∧ H l2 = some (.lst (js.map fun p => V.ref p.1)) ∧ RowsHX H ks ∧ RowsHX H js ∧ ks.length ≤ 60 ∧
      ∀ (t : Addr) (M : List RowX) (H' : Hp), Same H H' → H' t = some (.tup (M.map fun p => V.ref p.1)) → (∀ p ∈ M, p ∈ ks) → (∀ k, k ∈ M.map (·.2) ↔ k ∈ ks.map (·.2) ∧ k ∈ js.map (·.2)) → M.Pairwise (fun p q => leTX p q = true) → Q (.ref t) H'))
theorem scBothP : FnScope ["ones", "others", "part"] ["ones", "others"] (defScope sBothP) := ⟨rfl, rfl, rfl, by decide +kernel, rfl, by decide +kernel, by decide +kernel⟩
theorem ok_bothp (F : Fun K "in_both" "in_both" sBothP f fd) (B : Bi mg) : FnOk P w K mg base CX0 1 f fd ["ones", "others"] spBothP := by
  refine F.ok scBothP (fun vs H Q E h => ?_) (fun cdv A outer s H vs Q E hr h => ?_)
  · obtain ⟨l1, l2, rfl, _⟩ := h
    rfl
  · obtain ⟨l1, l2, rfl, h⟩ := h
    have hu65 : (A.deeper (envOfC "in_both" (defScope sBothP) s.heap.objs.size f cdv)).units + 65 < cLine := by have := hr.un; omega
    refine ⟨_, pss_one (ps_ret (pe_callTy call_tuple_of (by rfl) B.tuple (by decide +kernel) (pa_cons (pe_callB (cr_sortGX rfl hr.units) (by rfl) B.sorted (by decide +kernel) (pa_cons (pe_scG (own := [("part", 2)]) (g := gName 2) (tt := tTest (tOp (rInD K) (tVar 2) (tVar 1))) (te := tVar 2) rfl hr.units scBothP.nd (pi_list (pv 0)) (blkOk_by (N := ["ones", "others", "part"]) (sc := defScope sBothP) (by decide +kernel))
      (fun _ _ _ _ _ => pg_name (i := 2) scBothP.nd rfl (.inl rfl)) (fun _ _ _ _ _ => pts_one (pt_cmpR (op_inD hu65) (pv 2) (pv 1) (by rfl))) (fun _ _ _ _ _ => pv 2)) pa_nil)) pa_nil))), ?_⟩
    rcases h with ⟨zs, ys, h1, h2, w1, w2, n60, q⟩ | ⟨ks, js, h1, h2, r1, r2, n60, q⟩
    · refine ⟨_, rfl, l1, rfl, ⟨_, .inl (.inl h1)⟩, fun Dd hD => ?_⟩
      refine sc_txtGX (K := K) (P := P) (w := w) (walk_list (K := K) (a := l1) (xs := zs.map V.str)) hD (fun v => match v with | .str z => decide (z ∈ ys) | _ => false) (fun v => match v with | .str z => z | _ => "") (fun H' s' => .inl (.inl (s' _ _ h1))) (fun _ => rfl) ?_ ?_ (by rw [List.length_map]; omega) ?_
      · intro x H' hx s' Q' q'
        obtain ⟨z, hz, rfl⟩ := List.mem_map.mp hx
        refine ⟨_, rfl, _, rfl, .str z, ys.map PyData.str, .str z, .lst (.inl (.inl (s' _ _ h2))) (dp_strs ys), shaped_str1X (w1 z hz), shaped_list (lay_strs w2) (by have := depth_strs ys; omega), _, rfl, ?_⟩
        rw [any_textsX]
        exact q'
      · intro x H' hx _ _ Q' q'
        obtain ⟨z, hz, rfl⟩ := List.mem_map.mp hx
        exact ⟨_, rfl, q'⟩
      · intro l H' s' hD' nd hm hl
        rw [List.length_map] at hl
        refine .inl ⟨Dd, l, rfl, hD', by omega, fun p hp => ⟨p, _, rfl, .inl ⟨.inl (.inl upd_same), fun tp htp => ?_⟩⟩⟩
        have s2 := same_new (o := .lst ((sortS l).map V.str)) hp
        have s3 := same_new (o := .tup ((sortS l).map V.str)) htp
        refine q tp (sortS l) _ ((s'.trans s2).trans s3) upd_same (fun z => ?_) ?_
        · rw [mem_sortS, hm]
          simp only [List.mem_map, List.mem_filter]
          constructor
          · rintro ⟨v, ⟨⟨y, hy, rfl⟩, hk⟩, rfl⟩
            exact ⟨hy, of_decide_eq_true hk⟩
          · exact fun h => ⟨.str z, ⟨⟨z, h.1, rfl⟩, decide_eq_true h.2⟩, rfl⟩
        · rw [← strs_srt]
          exact List.pairwise_mergeSort le_tr le_tot l
    · refine ⟨_, rfl, l1, rfl, ⟨_, .inl (.inl h1)⟩, fun Dd hD => ?_⟩
      have wk := walk_list (K := K) (a := l1) (xs := ks.map fun p => V.ref p.1)
      rw [List.length_map] at wk
      refine sc_tupGX (K := K) (P := P) (w := w) wk hD (fun H' s' p hp => .inl (.inl (s' _ _ (r1 p hp).1))) (fun p => decide (p.2 ∈ js.map (·.2))) (fun H' s' => .inl (.inl (s' _ _ h1))) (fun _ => rfl) ?_ ?_ (by omega) ?_
      · intro x H' hx s' Q' q'
        have rx := r1 x hx
        refine ⟨_, rfl, _, rfl, rowDX x.2, js.map fun p => rowDX p.2, dp_rowX (.inl (.inl (s' _ _ rx.1))), .lst (.inl (.inl (s' _ _ h2))) (dp_rowsX (r2.keep (tk_same s'))), shaped_tuple (lay_strs rx.2.2) (by have := depth_strs x.2; omega), shaped_list (lay_rowsX r2) (by have := depth_rowsX js; omega), _, rfl, ?_⟩
        rw [any_rowsX]
        exact q'
      · intro x H' hx _ _ Q' q'
        exact ⟨_, rfl, q'⟩
      · intro L H' s' hD' nd hm hs hl
        refine .inr ⟨Dd, L, rfl, hD', fun p hp => .inl (.inl (s' _ _ (r1 p (hs p hp)).1)), fun p hp => (r1 p (hs p hp)).2.1, by omega, nd, fun p M hp pm pw => ⟨p, _, rfl, .inl ⟨.inl (.inl upd_same), fun tp htp => ?_⟩⟩⟩
        have s2 := same_new (o := .lst (M.map fun p => V.ref p.1)) hp
        have s3 := same_new (o := .tup (M.map fun p => V.ref p.1)) htp
        refine q tp M _ ((s'.trans s2).trans s3) upd_same (fun p hp => hs p (pm.mem_iff.mp hp)) (fun k => ?_) pw
        rw [(pm.map (·.2)).mem_iff, hm]
        simp only [List.mem_map, List.mem_filter, decide_eq_true_eq]
        constructor
        · rintro ⟨p, ⟨h3, h4⟩, rfl⟩
          exact ⟨⟨p, h3, rfl⟩, h4⟩
        · rintro ⟨⟨p, h3, rfl⟩, h4⟩
          exact ⟨p, ⟨h3, h4⟩, rfl⟩
/-! ### parts of tellings, read -/
def ixAt (H : Hp) (n : Nat) : V → V
  | .ref p => match H p with
    | some (.tup l) => l.getD n .non
    | _ => .non
  | _ => .non
theorem ix_hands {H : Hp} : ∀ {as : List Addr} {ts : List Tel}, TelsAt H as ts → (as.map V.ref).map (ixAt H 5) = (handsOf ts).map V.str
  | [], [], _ => rfl
  | [], _ :: _, h => nomatch h
  | _ :: _, [], h => nomatch h
  | a :: as, t :: ts, .cons e r => by
    have e2 : ixAt H 5 (V.ref a) = .str t.g := by
      show (match H a with | some (.tup l) => l.getD 5 .non | _ => .non) = _
      rw [e]
      rfl
    rw [List.map_cons, List.map_cons, e2, ix_hands r]
    rfl
section
variable {H1 : Hp} {a Dd : Addr} {as : List Addr} {ts : List Tel} {slot : Nat} {vs : List Nat} {σ : L2.St} {Qd : Hp → Prop}
/-- [t[5] for t in tellings] -/
theorem lc_hands (hl : H1 a = some (.lst (as.map V.ref))) (hT : TelsAt H1 as ts) (hD : H1 Dd = none) (hn : ts.length ≤ 200)
    (hw : ∀ x, wipe ((wipe σ vs).set slot (some x)) vs = wipe σ vs) (hs : ∀ x, ((wipe σ vs).set slot (some x))[slot]? = some (some x))
    (hd : ∀ (H : Hp), Same H1 H → H Dd = some (.lst ((handsOf ts).map V.str)) → Qd H) :
    ∃ W : Nat → Nat → Hp → Prop, (∃ m, W 0 m (upd H1 Dd (.lst []))) ∧ ∀ i m H, W i m H →
      ((Itl K a).stop i H ∧ Qd H) ∨ ((Itl K a).go i H ∧ ∃ Nx : Hp → Prop, (∀ H', Nx H' → ∃ m', m' < m ∧ W (i + 1) m' H') ∧ ∀ x H', (Itl K a).yld i H x H' → gName slot x (wipe σ vs) H' fun σ2 H2 => wipe σ2 vs = wipe σ vs ∧ tYes σ2 H2 fun b H3 =>
        if b = true then tOp (rIxT K) (tVar slot) (tC (.int 5)) σ2 H3 fun y H4 => ∃ acc, H4 Dd = some (.lst acc) ∧ acc.length < sizeLine ∧ Nx (upd H4 Dd (.lst (acc ++ [y]))) else Nx H3) := by
  have hlen := hT.length
  refine lc_map (walk_list (K := K) (a := a) (xs := as.map V.ref)) hD (fun _ => true) (ixAt H1 5) (fun H' s' => .inl (.inl (s' _ _ hl))) hw (fun x H' _ _ Q' q' => q') ?_ (by rw [List.length_map]; exact small1000 (by omega)) ?_
  · intro x H' hx _ s' Q' q'
    obtain ⟨p, hp, rfl⟩ := List.mem_map.mp hx
    obtain ⟨i, hi, ei⟩ := List.mem_iff_getElem.mp hp
    obtain ⟨t, htm, hH⟩ := Each.get hT (i := i) (a := p) (by rw [List.getElem?_eq_getElem hi, ei])
    have e2 : ixAt H1 5 (V.ref p) = .str t.g := by
      show (match H1 p with | some (.tup l) => l.getD 5 .non | _ => .non) = _
      rw [hH]
      rfl
    rw [e2] at q'
    exact ⟨_, hs _, p, _, _, _, rfl, rfl, .inl (.inl (s' _ _ hH)), atI_nat (j := 5) rfl, q'⟩
  · intro H' s' h
    rw [List.filter_eq_self.mpr fun _ _ => rfl, ix_hands hT] at h
    exact hd H' s' h
theorem rows_of {H0 H : Hp} : ∀ {as : List Addr} {ts : List Tel} {zs : List V}, TelsAt H0 as ts → (∀ t ∈ ts, OkT t) → Each (fun (x z : V) => ∃ q, z = .ref q ∧ ∀ (p : Addr) (t : Tel), x = .ref p → H0 p = some (.tup (telV t)) → H q = some (.tup [.str t.v, .str t.tl])) (as.map V.ref) zs →
    ∃ ks : List RowX, zs = ks.map (fun p => V.ref p.1) ∧ ks.map (·.2) = mouthsOf ts ∧ RowsHX H ks
  | [], [], [], _, _, _ => ⟨[], rfl, rfl, fun p hp => nomatch hp⟩
  | [], [], _ :: _, _, _, h => nomatch h
  | [], _ :: _, _, h, _, _ => nomatch h
  | _ :: _, [], _, h, _, _ => nomatch h
  | _ :: _, _ :: _, [], _, _, h => nomatch h
  | a :: as, t :: ts, z :: zs, .cons e r, ok, .cons e' r' => by
    obtain ⟨ks, h1, h2, h3⟩ := rows_of r (fun u hu => ok u (List.mem_cons_of_mem _ hu)) r'
    obtain ⟨q, rfl, h4⟩ := e'
    have ot := ok t List.mem_cons_self
    refine ⟨(q, [t.v, t.tl]) :: ks, by rw [h1]; rfl, by rw [List.map_cons, h2]; rfl, fun p hp => ?_⟩
    rcases List.mem_cons.mp hp with rfl | hp
    · refine ⟨h4 a t rfl e, by simp, fun y hy => ?_⟩
      simp only [List.mem_cons, List.not_mem_nil, or_false] at hy
      rcases hy with rfl | rfl
      · exact ot.v
      · exact ot.tl
    · exact h3 p hp
/-- [(t[0], t[3]) for t in tellings] -/
theorem lc_mouths (hl : H1 a = some (.lst (as.map V.ref))) (hT : TelsAt H1 as ts) (ok : ∀ t ∈ ts, OkT t) (hD : H1 Dd = none) (hn : ts.length ≤ 200)
    (hw : ∀ x, wipe ((wipe σ vs).set slot (some x)) vs = wipe σ vs) (hs : ∀ x, ((wipe σ vs).set slot (some x))[slot]? = some (some x))
    (hd : ∀ (ks : List RowX) (H : Hp), Same H1 H → H Dd = some (.lst (ks.map fun p => V.ref p.1)) → ks.map (·.2) = mouthsOf ts → RowsHX H ks → Qd H) :
    ∃ W : Nat → Nat → Hp → Prop, (∃ m, W 0 m (upd H1 Dd (.lst []))) ∧ ∀ i m H, W i m H →
      ((Itl K a).stop i H ∧ Qd H) ∨ ((Itl K a).go i H ∧ ∃ Nx : Hp → Prop, (∀ H', Nx H' → ∃ m', m' < m ∧ W (i + 1) m' H') ∧ ∀ x H', (Itl K a).yld i H x H' → gName slot x (wipe σ vs) H' fun σ2 H2 => wipe σ2 vs = wipe σ vs ∧ tYes σ2 H2 fun b H3 =>
        if b = true then tTup (tCons (tOp (rIxT K) (tVar slot) (tC (.int 0))) (tCons (tOp (rIxT K) (tVar slot) (tC (.int 3))) tNil)) σ2 H3 fun y H4 => ∃ acc, H4 Dd = some (.lst acc) ∧ acc.length < sizeLine ∧ Nx (upd H4 Dd (.lst (acc ++ [y]))) else Nx H3) := by
  have hlen := hT.length
  refine lc_rel (walk_list (K := K) (a := a) (xs := as.map V.ref)) hD (fun _ => true) (fun x y H => ∃ q, y = .ref q ∧ ∀ (p : Addr) (t : Tel), x = .ref p → H1 p = some (.tup (telV t)) → H q = some (.tup [.str t.v, .str t.tl])) (fun H' s' => .inl (.inl (s' _ _ hl))) hw (fun x H' _ _ Q' q' => q') ?_ ?_ (by rw [List.length_map]; exact small1000 (by omega)) ?_
  · intro x H' hx _ s' Q' q'
    obtain ⟨p, hp, rfl⟩ := List.mem_map.mp hx
    obtain ⟨i, hi, ei⟩ := List.mem_iff_getElem.mp hp
    obtain ⟨t, htm, hH⟩ := Each.get hT (i := i) (a := p) (by rw [List.getElem?_eq_getElem hi, ei])
    refine ⟨_, hs _, p, _, _, _, rfl, rfl, .inl (.inl (s' _ _ hH)), atI_nat (j := 0) rfl, ?_⟩
    refine ⟨_, hs _, p, _, _, _, rfl, rfl, .inl (.inl (s' _ _ hH)), atI_nat (j := 3) rfl, ?_⟩
    refine ⟨lz, fun tp htp => q' _ _ (same_new htp) ⟨tp, rfl, fun p' t' e1 e2 => ?_⟩⟩
    cases e1
    rw [hH] at e2
    rw [upd_same]
    injection e2 with e2
    injection e2 with e2
    injection e2 with e3 e4
    injection e4 with _ e5
    injection e5 with _ e6
    injection e6 with e7 _
    rw [← e3, ← e7]
  · rintro x y H' H'' acc hacc sx ⟨q, rfl, h⟩
    refine ⟨q, rfl, fun p t e1 e2 => ?_⟩
    have h2 := h p t e1 e2
    refine sx _ _ (fun e => ?_) h2
    rw [e, hacc] at h2
    cases h2
  · intro zs H' s' hD' hE
    rw [List.filter_eq_self.mpr fun _ _ => rfl] at hE
    obtain ⟨ks, rfl, h2, h3⟩ := rows_of hT ok hE
    exact hd ks H' s' hD' h2 h3
/-- {t[5] for t in tellings} -/
theorem sc_hands (hl : H1 a = some (.lst (as.map V.ref))) (hT : TelsAt H1 as ts) (hD : H1 Dd = none) (hn : ts.length ≤ 200)
    (hw : ∀ x, wipe ((wipe σ vs).set slot (some x)) vs = wipe σ vs) (hs : ∀ x, ((wipe σ vs).set slot (some x))[slot]? = some (some x))
    (hd : ∀ (l : List Str) (H : Hp), Same H1 H → H Dd = some (SetXO P w Dd l) → sortS l = hands1 ts → l.length ≤ ts.length → Qd H) :
    ∃ (k0 : Bool) (W : Nat → Nat → Hp → Prop), (∃ m, W 0 m (upd H1 Dd (set0 P w k0 Dd))) ∧ ∀ i m H, W i m H →
      ((Itl K a).stop i H ∧ Qd H) ∨ ((Itl K a).go i H ∧ ∃ Nx : Hp → Prop, (∀ H', Nx H' → ∃ m', m' < m ∧ W (i + 1) m' H') ∧ ∀ x H', (Itl K a).yld i H x H' → gName slot x (wipe σ vs) H' fun σ2 H2 => wipe σ2 vs = wipe σ vs ∧ tYes σ2 H2 fun b H3 =>
        if b = true then tOp (rIxT K) (tVar slot) (tC (.int 5)) σ2 H3 fun y H4 => grownBy K P w Dd y H4 Nx else Nx H3) := by
  have hlen := hT.length
  refine sc_txtGX (K := K) (P := P) (w := w) (walk_list (K := K) (a := a) (xs := as.map V.ref)) hD (fun _ => true) (fun v => match ixAt H1 5 v with | .str z => z | _ => "") (fun H' s' => .inl (.inl (s' _ _ hl))) hw (fun x H' _ _ Q' q' => q') ?_ (by rw [List.length_map]; omega) ?_
  · intro x H' hx _ s' Q' q'
    obtain ⟨p, hp, rfl⟩ := List.mem_map.mp hx
    obtain ⟨i, hi, ei⟩ := List.mem_iff_getElem.mp hp
    obtain ⟨t, htm, hH⟩ := Each.get hT (i := i) (a := p) (by rw [List.getElem?_eq_getElem hi, ei])
    have e2 : ixAt H1 5 (V.ref p) = .str t.g := by
      show (match H1 p with | some (.tup l) => l.getD 5 .non | _ => .non) = _
      rw [hH]
      rfl
    rw [e2] at q'
    exact ⟨_, hs _, p, _, _, _, rfl, rfl, .inl (.inl (s' _ _ hH)), atI_nat (j := 5) rfl, q'⟩
  · intro l H' s' h nd hm hl'
    rw [List.length_map, hlen] at hl'
    refine hd l H' s' h ?_ hl'
    refine sortS_perm (keysOf_nodup _) ((List.perm_ext_iff_of_nodup nd (keysOf_nodup _)).mpr fun z => ?_)
    rw [hm, mem_keysOf, List.filter_eq_self.mpr fun _ _ => rfl]
    have e : (as.map V.ref).map (fun v => match ixAt H1 5 v with | .str z => z | _ => ("" : Str)) = handsOf ts := by
      have e3 : (as.map V.ref).map (fun v => match ixAt H1 5 v with | .str z => z | _ => ("" : Str)) = ((as.map V.ref).map (ixAt H1 5)).map (fun v => match v with | .str z => z | _ => ("" : Str)) := by
        rw [List.map_map, List.map_map, List.map_map]
        rfl
      rw [e3, ix_hands hT, List.map_map]
      exact List.map_id _
    rw [e]
end
/-! ### habit -/
def spHabit (C D : Addr) : Sp := fun vs H Q _ => ∃ (g : Addr) (r : GR) (z a b : Str) (v : V) (chs : List Chg), vs = [.ref g, .str z, .str a, .str b, v] ∧ GatAt C D H g r ∧ (∀ t ∈ r.ts, OkT t) ∧ r.ts.length ≤ 60 ∧ IsWd z ∧ IsWd a ∧ IsWd b ∧ ChV H v chs ∧ OkCs chs ∧ mean chs a ≠ mean chs b ∧
  ∀ (t : Addr) (h : Hab) (H' : Hp), Same H H' → HabOf (saysT chs z a r.ts) (saysT chs z b r.ts) h → HabAt H' t h → Q (.ref t) H'
abbrev nHabit : List Str := ["gathering", "thing", "one", "other", "changes", "ones", "others", "tellers", "village", "teller", "gatherers", "told"]
theorem scHabit : FnScope nHabit psTwo (defScope sHabit) := ⟨rfl, rfl, rfl, by decide +kernel, rfl, by decide +kernel, by decide +kernel⟩
theorem pair_of {k : List Str} {ts : List Tel} (h : k ∈ mouthsOf ts) : ∃ v t, k = [v, t] := by
  obtain ⟨t, _, rfl⟩ := List.mem_map.mp h
  exact ⟨_, _, rfl⟩
theorem ok_habit (F : FunN K "habit" sHabit f fd) (B : Bi mg) (hTw : Has P w K mg base "tellings_of_two" 7 psTwo (spTwo C D)) (hBo : Has P w K mg base "in_both" 1 ["ones", "others"] spBothP) : FnOk P w K mg base CX0 8 f fd psTwo (spHabit C D) := by
  refine okD F scHabit (fun vs H Q E h => ?_) (fun cdv A outer s H vs Q E hr h => ?_)
  · obtain ⟨g, r, z, a, b, v, chs, rfl, _⟩ := h
    rfl
  · obtain ⟨g, r, z, a, b, v, chs, rfl, hG, hok, h60, hz, ha, hb, hv, okc, hne, q⟩ := h
    refine ⟨_, pss_cons (ps_asg (pe_h hTw hr (pa_cons (pv 0) (pa_cons (pv 1) (pa_cons (pv 2) (pa_cons (pv 3) (pa_cons (pv 4) pa_nil)))))) (pg_tup rfl (pgs_cons (pg_name (i := 5) scHabit.nd rfl (.inl rfl)) (pgs_cons (pg_name (i := 6) scHabit.nd rfl (.inl rfl)) pgs_nil))))
      (pss_cons (ps_if (PW.pt (pw_or (pt_not (pt_truth (pv 5) (fun _ => rfl))) (pw_or1 (pt_not (pt_truth (pv 6) (fun _ => rfl)))))) (pss_one (ps_ret (pe_tup (pa_cons pe_str pa_nil)))) pss_nil)
      (pss_cons (ps_set (i := 7) scHabit.nd rfl (.inl rfl) (pe_h hBo hr (pa_cons (pe_lc (own := [("told", 11)]) (g := gName 11) (tt := tYes) (te := tTup (tCons (tOp (rIxT K) (tVar 11) (tC (.int 0))) (tCons (tOp (rIxT K) (tVar 11) (tC (.int 3))) tNil))) rfl scHabit.nd (pi_list (pv 5)) (blkOk_by (N := nHabit) (sc := defScope sHabit) (by decide +kernel))
          (fun _ _ _ _ _ => pg_name (i := 11) scHabit.nd rfl (.inl rfl)) (fun _ _ _ _ _ => pts_nil) (fun _ _ _ _ _ => pe_tup (pa_cons (pe_ix ix_tup (pv 11) pe_int (fun _ _ => rfl)) (pa_cons (pe_ix ix_tup (pv 11) pe_int (fun _ _ => rfl)) pa_nil))))
        (pa_cons (pe_lc (own := [("told", 11)]) (g := gName 11) (tt := tYes) (te := tTup (tCons (tOp (rIxT K) (tVar 11) (tC (.int 0))) (tCons (tOp (rIxT K) (tVar 11) (tC (.int 3))) tNil))) rfl scHabit.nd (pi_list (pv 6)) (blkOk_by (N := nHabit) (sc := defScope sHabit) (by decide +kernel))
          (fun _ _ _ _ _ => pg_name (i := 11) scHabit.nd rfl (.inl rfl)) (fun _ _ _ _ _ => pts_nil) (fun _ _ _ _ _ => pe_tup (pa_cons (pe_ix ix_tup (pv 11) pe_int (fun _ _ => rfl)) (pa_cons (pe_ix ix_tup (pv 11) pe_int (fun _ _ => rfl)) pa_nil)))) pa_nil))))
      (pss_cons (ps_if (pt_truth (pv 7) (fun _ => rfl)) (pss_cons (ps_asg (pe_ix ix_tup (pv 7) pe_int (fun _ _ => rfl)) (pg_tup rfl (pgs_cons (pg_name (i := 8) scHabit.nd rfl (.inl rfl)) (pgs_cons (pg_name (i := 9) scHabit.nd rfl (.inl rfl)) pgs_nil)))) (pss_one (ps_ret (pe_tup (pa_cons pe_str (pa_cons (pv 8) (pa_cons (pv 9) pa_nil))))))) pss_nil)
      (pss_cons (ps_set (i := 10) scHabit.nd rfl (.inl rfl) (pe_h hBo hr (pa_cons (pe_lc (own := [("told", 11)]) (g := gName 11) (tt := tYes) (te := tOp (rIxT K) (tVar 11) (tC (.int 5))) rfl scHabit.nd (pi_list (pv 5)) (blkOk_by (N := nHabit) (sc := defScope sHabit) (by decide +kernel))
          (fun _ _ _ _ _ => pg_name (i := 11) scHabit.nd rfl (.inl rfl)) (fun _ _ _ _ _ => pts_nil) (fun _ _ _ _ _ => pe_ix ix_tup (pv 11) pe_int (fun _ _ => rfl)))
        (pa_cons (pe_lc (own := [("told", 11)]) (g := gName 11) (tt := tYes) (te := tOp (rIxT K) (tVar 11) (tC (.int 5))) rfl scHabit.nd (pi_list (pv 6)) (blkOk_by (N := nHabit) (sc := defScope sHabit) (by decide +kernel))
          (fun _ _ _ _ _ => pg_name (i := 11) scHabit.nd rfl (.inl rfl)) (fun _ _ _ _ _ => pts_nil) (fun _ _ _ _ _ => pe_ix ix_tup (pv 11) pe_int (fun _ _ => rfl))) pa_nil))))
      (pss_cons (ps_if (pt_truth (pv 10) (fun _ => rfl)) (pss_one (ps_ret (pe_tup (pa_cons pe_str (pa_cons (pe_ix ix_tup (pv 10) pe_int (fun _ _ => rfl)) pa_nil))))) pss_nil)
      (pss_one (ps_ret (pe_tup (pa_cons pe_str
        (pa_cons (pe_callTy call_tuple_of (by rfl) B.tuple (by decide +kernel) (pa_cons (pe_callB (cr_sortGX rfl hr.units) (by rfl) B.sorted (by decide +kernel) (pa_cons (pe_scG (own := [("told", 11)]) (g := gName 11) (tt := tYes) (te := tOp (rIxT K) (tVar 11) (tC (.int 5))) rfl hr.units scHabit.nd (pi_list (pv 5)) (blkOk_by (N := nHabit) (sc := defScope sHabit) (by decide +kernel))
          (fun _ _ _ _ _ => pg_name (i := 11) scHabit.nd rfl (.inl rfl)) (fun _ _ _ _ _ => pts_nil) (fun _ _ _ _ _ => pe_ix ix_tup (pv 11) pe_int (fun _ _ => rfl))) pa_nil)) pa_nil))
        (pa_cons (pe_callTy call_tuple_of (by rfl) B.tuple (by decide +kernel) (pa_cons (pe_callB (cr_sortGX rfl hr.units) (by rfl) B.sorted (by decide +kernel) (pa_cons (pe_scG (own := [("told", 11)]) (g := gName 11) (tt := tYes) (te := tOp (rIxT K) (tVar 11) (tC (.int 5))) rfl hr.units scHabit.nd (pi_list (pv 6)) (blkOk_by (N := nHabit) (sc := defScope sHabit) (by decide +kernel))
          (fun _ _ _ _ _ => pg_name (i := 11) scHabit.nd rfl (.inl rfl)) (fun _ _ _ _ _ => pts_nil) (fun _ _ _ _ _ => pe_ix ix_tup (pv 11) pe_int (fun _ _ => rfl))) pa_nil)) pa_nil)) pa_nil))))))))))), ?_⟩
    refine ⟨_, rfl, _, rfl, _, rfl, _, rfl, _, rfl, g, r, z, a, b, v, chs, rfl, hG, hok, by omega, hz, ha, hb, hv, okc, hne, fun t l1 l2 as1 as2 H1 s1 ht hl1 hl2 hT1 hT2 => ?_⟩
    have n1 := Nat.le_trans (says_len chs z a r.ts) h60
    have n2 := Nat.le_trans (says_len chs z b r.ts) h60
    have ok1 : ∀ t ∈ saysT chs z a r.ts, OkT t := fun t ht => hok t (says_mem ht)
    have ok2 : ∀ t ∈ saysT chs z b r.ts, OkT t := fun t ht => hok t (says_mem ht)
    generalize saysT chs z a r.ts = t1 at q hT1 n1 ok1
    generalize saysT chs z b r.ts = t2 at q hT2 n2 ok2
    have len1 := hT1.length
    have len2 := hT2.length
    refine ⟨t, _, rfl, .inl (.inl ht), rfl, _, _, rfl, _, _, rfl, rfl, ?_⟩
    have e1 : (as1.map V.ref).isEmpty = t1.isEmpty := by cases hT1 <;> rfl
    have e2 : (as2.map V.ref).isEmpty = t2.isEmpty := by cases hT2 <;> rfl
    have none_ : (t1 = [] ∨ t2 = []) → ∀ tp, H1 tp = none → Q (.ref tp) (upd H1 tp (.tup [.str "none"])) := fun c tp htp => q tp .no _ (s1.trans (same_new htp)) (.inl ⟨c, rfl⟩) upd_same
    cases c1 : t1.isEmpty with
    | true => exact ⟨_, rfl, false, .inl ⟨_, .inl (.inl hl1), by rw [e1, c1]; rfl⟩, iteT (iteT ⟨lz, fun tp htp => none_ (.inl (List.isEmpty_iff.mp c1)) tp htp⟩)⟩
    | false =>
    refine ⟨_, rfl, true, .inl ⟨_, .inl (.inl hl1), by rw [e1, c1]; rfl⟩, iteF ?_⟩
    cases c2 : t2.isEmpty with
    | true => exact ⟨_, rfl, false, .inl ⟨_, .inl (.inl hl2), by rw [e2, c2]; rfl⟩, iteT ⟨lz, fun tp htp => none_ (.inr (List.isEmpty_iff.mp c2)) tp htp⟩⟩
    | false =>
    have ne1 : t1 ≠ [] := fun e => by rw [e] at c1; cases c1
    have ne2 : t2 ≠ [] := fun e => by rw [e] at c2; cases c2
    refine ⟨_, rfl, true, .inl ⟨_, .inl (.inl hl2), by rw [e2, c2]; rfl⟩, iteF ?_⟩
    refine ⟨_, rfl, l1, rfl, ⟨_, .inl (.inl hl1)⟩, fun D1 hD1 => ?_⟩
    refine lc_mouths (K := K) hl1 hT1 ok1 hD1 (by omega) (fun _ => rfl) (fun _ => rfl) fun ks H2 s2 hks ek rk => ?_
    refine ⟨_, rfl, l2, rfl, ⟨_, .inl (.inl (s2 _ _ hl2))⟩, fun D2 hD2 => ?_⟩
    refine lc_mouths (K := K) (s2 _ _ hl2) (hT2.keep (tk_same s2)) ok2 hD2 (by omega) (fun _ => rfl) (fun _ => rfl) fun js H3 s3 hjs ej rj => ?_
    have lk : ks.length = t1.length := by
      have := congrArg List.length ek
      simpa [mouthsOf] using this
    refine ⟨D1, D2, rfl, .inr ⟨ks, js, s3 _ _ hks, hjs, rk.keep (tk_same s3), rj, by omega, fun tm M H4 s4 htm hsub hmem hpw => ?_⟩⟩
    have s14 := (s2.trans s3).trans s4
    rw [ek, ej] at hmem
    refine ⟨_, rfl, _, .inr (.inl ⟨_, .inl (.inl htm), rfl⟩), ?_⟩
    cases M with
    | cons p M =>
      refine iteT ?_
      have hp : p ∈ ks := hsub p List.mem_cons_self
      have hpm := (hmem p.2).mp List.mem_cons_self
      obtain ⟨y, u, eyu⟩ := pair_of hpm.1
      have hp4 := s4 _ _ (s3 _ _ (rk p hp).1)
      rw [eyu] at hp4
      refine ⟨_, rfl, tm, _, _, _, rfl, rfl, .inl (.inl htm), atI_nat (j := 0) rfl, p.1, _, rfl, .inl (.inl hp4), rfl, _, _, rfl, _, _, rfl, rfl, ?_⟩
      refine ⟨_, rfl, _, rfl, lz, fun tp htp => ?_⟩
      refine q tp (.sho y u) _ ((s1.trans s14).trans (same_new htp)) (.inr ⟨ne1, ne2, .inl ⟨y, u, ?_, rfl⟩⟩) upd_same
      rw [eyu] at hpm
      refine ⟨hpm.1, hpm.2, fun j a b => ?_⟩
      have hpw' : (p :: M).Pairwise (fun a b => PySem.W.dataLe false rowDX a.2 b.2 = true) := hpw.imp fun {a b} h => by
        have h' : PySem.W.dataLe false (fun p : RowX => rowDX p.2) a b = true := h
        rw [PySem.W.dataLe_eq] at h' ⊢
        exact h'
      have hh := head_leX (enc := rowDX) (l := (p :: M).map (·.2)) (k := p.2) (List.pairwise_map.mpr hpw') rfl
      rw [← eyu]
      exact hh.2 j ((hmem j).mpr ⟨a, b⟩)
    | nil =>
    have no1 : ∀ k, k ∈ mouthsOf t1 → k ∉ mouthsOf t2 := fun k a b => nomatch (hmem k).mpr ⟨a, b⟩
    refine iteF ?_
    refine ⟨_, rfl, l1, rfl, ⟨_, .inl (.inl (s14 _ _ hl1))⟩, fun D3 hD3 => ?_⟩
    refine lc_hands (K := K) (s14 _ _ hl1) (hT1.keep (tk_same s14)) hD3 (by omega) (fun _ => rfl) (fun _ => rfl) fun H5 s5 h5 => ?_
    have s15 := s14.trans s5
    refine ⟨_, rfl, l2, rfl, ⟨_, .inl (.inl (s15 _ _ hl2))⟩, fun D4 hD4 => ?_⟩
    refine lc_hands (K := K) (s15 _ _ hl2) (hT2.keep (tk_same s15)) hD4 (by omega) (fun _ => rfl) (fun _ => rfl) fun H6 s6 h6 => ?_
    have wd1 : ∀ {ts : List Tel}, (∀ t ∈ ts, OkT t) → ∀ y ∈ handsOf ts, IsWd y := fun ok y hy => by
      obtain ⟨u, hu, rfl⟩ := List.mem_map.mp hy
      exact (ok u hu).g
    refine ⟨D3, D4, rfl, .inl ⟨handsOf t1, handsOf t2, s6 _ _ h5, h6, wd1 ok1, wd1 ok2, by show (t1.map _).length ≤ 60; rw [List.length_map]; exact n1, fun tg M H7 s7 htg hmem2 hpw2 => ?_⟩⟩
    have s17 := (s15.trans s6).trans s7
    refine ⟨_, rfl, _, .inr (.inl ⟨_, .inl (.inl htg), rfl⟩), ?_⟩
    cases M with
    | cons y M =>
      have hym := (hmem2 y).mp List.mem_cons_self
      refine iteT ⟨_, rfl, tg, _, _, _, rfl, rfl, .inl (.inl htg), atI_nat (j := 0) rfl, lz, fun tp htp => ?_⟩
      refine q tp (.nay y) _ ((s1.trans s17).trans (same_new htp)) (.inr ⟨ne1, ne2, .inr ⟨no1, .inl ⟨y, ⟨hym.1, hym.2, fun j a b => ?_⟩, rfl⟩⟩⟩) upd_same
      exact (head_leX (enc := PyData.str) (l := y :: M) (k := y) hpw2 rfl).2 j ((hmem2 j).mpr ⟨a, b⟩)
    | nil =>
    have no2 : ∀ k, k ∈ handsOf t1 → k ∉ handsOf t2 := fun k a b => nomatch (hmem2 k).mpr ⟨a, b⟩
    refine iteF ?_
    refine ⟨_, rfl, l1, rfl, ⟨_, .inl (.inl (s17 _ _ hl1))⟩, fun D5 hD5 => ?_⟩
    refine sc_hands (K := K) (P := P) (w := w) (s17 _ _ hl1) (hT1.keep (tk_same s17)) hD5 (by omega) (fun _ => rfl) (fun _ => rfl) fun x1 H8 s8 h8 ex1 lx1 => ?_
    refine .inl ⟨D5, x1, rfl, h8, by omega, fun p1 hp1 => ⟨p1, _, rfl, .inl ⟨.inl (.inl upd_same), fun q1 hq1 => ?_⟩⟩⟩
    have s9 := (s8.trans (same_new (o := .lst ((sortS x1).map V.str)) hp1)).trans (same_new (o := .tup ((sortS x1).map V.str)) hq1)
    have hq9 : upd (upd H8 p1 (.lst ((sortS x1).map V.str))) q1 (.tup ((sortS x1).map V.str)) q1 = some (.tup ((sortS x1).map V.str)) := upd_same
    generalize upd (upd H8 p1 (.lst ((sortS x1).map V.str))) q1 (.tup ((sortS x1).map V.str)) = H9 at s9 hq9
    have s19 := s17.trans s9
    refine ⟨_, rfl, l2, rfl, ⟨_, .inl (.inl (s19 _ _ hl2))⟩, fun D6 hD6 => ?_⟩
    refine sc_hands (K := K) (P := P) (w := w) (s19 _ _ hl2) (hT2.keep (tk_same s19)) hD6 (by omega) (fun _ => rfl) (fun _ => rfl) fun x2 H10 s10 h10 ex2 lx2 => ?_
    refine .inl ⟨D6, x2, rfl, h10, by omega, fun p2 hp2 => ⟨p2, _, rfl, .inl ⟨.inl (.inl upd_same), fun q2 hq2 => ?_⟩⟩⟩
    have s11 := (s10.trans (same_new (o := .lst ((sortS x2).map V.str)) hp2)).trans (same_new (o := .tup ((sortS x2).map V.str)) hq2)
    have hq11 : upd (upd H10 p2 (.lst ((sortS x2).map V.str))) q2 (.tup ((sortS x2).map V.str)) q2 = some (.tup ((sortS x2).map V.str)) := upd_same
    generalize upd (upd H10 p2 (.lst ((sortS x2).map V.str))) q2 (.tup ((sortS x2).map V.str)) = H11 at s11 hq11
    refine ⟨lz, fun tp htp => ?_⟩
    have s12 := same_new (o := .tup [V.str "may", V.ref q1, V.ref q2]) htp
    refine q tp (.may (hands1 t1) (hands1 t2)) _ (((s1.trans s19).trans s11).trans s12) (.inr ⟨ne1, ne2, .inr ⟨no1, .inr ⟨no2, rfl⟩⟩⟩) ⟨q1, q2, upd_same, ?_, ?_⟩
    · rw [← ex1]
      exact s12 _ _ (s11 _ _ hq9)
    · rw [← ex2]
      exact s12 _ _ hq11
end
end Wl


/-! An own exception class without own __init__, raised with a text: no own dict. -/
namespace Wl
open PySem PySem.Spec PyProof.Rows L2
structure OwnN (K : PySem.W.Frag) (mg : Str → Option Value) (x : Str) (C : Addr) : Prop where
  gC : mg x = some (.ref C)
  kC : PySem.W.keepIn K (.ref C) = true
  bas : ∃ B newId initId bm, BaseX B newId initId bm ∧ PySem.W.excIn K C bm newId = true
  exC : PySem.W.subIn K (.ref C) (.type "BaseException") = some true
  tyC : PySem.W.typeIn K (.ref C) = some (.type "type")
section
variable {X : Cx} {C : Addr}
theorem ps_raiseN {x m : Str} {j : Nat} {W : WX} {p p2 pos pos2 : Pos} (hc : X.calm = true) (T : OwnN X.K X.mg x C) (tk : L2N.Takes X W) (hg : Gl X x := by rfl) (hdb : (x == ("__debug__" : Str)) = false := by decide) :
    PS X (.Raise (some (.Call (.Name x p) [.Constant (.str m) j p2] [] pos)) none pos2) (fun _ σ H => W (.ref C) none σ H) := by
  obtain ⟨B, nI, iI, bm, BX, q⟩ := T.bas
  exact L2N.ps_raise hc tk (L2N.pmk_own BX.base q T.gC T.kC (raises_own T.exC T.tyC) hg hdb)
end
end Wl

namespace Wl
open PySem PySem.Spec PyProof.Rows L2
/-! ### what habit refuses -/
inductive Rsn
  | gath
  | word (u : V)
  | chs (o : Option Nat)
/-- the first that is refused -/
def RefTwo (K : PySem.W.Frag) (C D : Addr) (H : Hp) (g z a b v : V) : Rsn → Prop
  | .gath => ∃ t, TyX K H g t ∧ PySem.W.kitOne K t (.ref D) = some false
  | .word u => ∃ p r, g = .ref p ∧ GatAt C D H p r ∧ ((u = z ∧ OddV H z ∧ wvB z = false) ∨ ∃ zz, z = .str zz ∧ IsWd zz ∧ ((u = a ∧ OddV H a ∧ wvB a = false) ∨ ∃ aa, a = .str aa ∧ IsWd aa ∧ ((u = b ∧ OddV H b ∧ wvB b = false) ∨
      ∃ bb chs, b = .str bb ∧ u = b ∧ IsWd bb ∧ ChV H v chs ∧ OkCs chs ∧ mean chs aa = mean chs bb)))
  | .chs o => ∃ p r zz aa bb, g = .ref p ∧ GatAt C D H p r ∧ z = .str zz ∧ a = .str aa ∧ b = .str bb ∧ IsWd zz ∧ IsWd aa ∧ IsWd bb ∧ NoChs H v o
def RefE (cG cW cC : Addr) (H : Hp) (E : XK) : Rsn → Prop
  | .gath => ∀ H', Same H H' → E (.ref cG) none H'
  | .word u => Refuses cW "word" u H E
  | .chs o => Refuses cC "place" (plcV o) H E
section
variable {P : Program} {w : World} {K : PySem.W.Frag} {mg : Str → Option Value} {base : Heap} {f C D cG cW cC : Addr} {fd : FuncData}
def spCheckGR (K : PySem.W.Frag) (D cG : Addr) : Sp := fun vs H Q E => ∃ v t, vs = [v] ∧ TyX K H v t ∧ PySem.W.kitOne K t (.ref D) = some false ∧ E (.ref cG) none H
theorem ok_checkgR (F : Fun K "check_gathering" "check_gathering" sCheckG f fd) (B : Bi mg) (TG : TxtG K mg D) (TN : OwnN K mg "NoGathering" cG) : FnOk P w K mg base (L2N.CX P w) 1 f fd ["thing"] (spCheckGR K D cG) := by
  refine Fun_okN F scCheckG (fun vs H Q E h => ?_) (fun cdv A outer s H vs Q E hr h => ?_)
  · obtain ⟨v, t, rfl, _⟩ := h
    rfl
  · obtain ⟨v, t, rfl, ty, k, q⟩ := h
    refine ⟨_, pss_one (ps_if (pt_not (pt_val (pe_callB call_isi (by rfl) B.isi (by decide +kernel) (pa_cons (pv 0) (pa_cons (pe_glob (v := .ref D) rfl TG.mgD rfl) pa_nil))))) (pss_one (ps_raiseN rfl TN (L2N.takes_of rfl rfl rfl rfl))) pss_nil), ?_⟩
    exact ⟨_, rfl, _, _, _, _, _, rfl, .own D, ty, k, false, rfl, iteT q⟩
def spCheckGX (K : PySem.W.Frag) (C D cG : Addr) : Sp := fun vs H Q E => spCheckG C D vs H Q E ∨ spCheckGR K D cG vs H Q E
def spTwoR (K : PySem.W.Frag) (C D cG cW cC : Addr) : Sp := fun vs H Q E => ∃ g z a b v n, vs = [g, z, a, b, v] ∧ RefTwo K C D H g z a b v n ∧ RefE cG cW cC H E n
theorem ok_twoR (F : Fun K "tellings_of_two" "tellings_of_two" sTwo f fd) (TW : OwnX K mg "NoWord" "word" cW) (hCG : HasX P w K mg base "check_gathering" 1 ["thing"] (spCheckGX K C D cG)) (hW : HasX P w K mg base "check_word" 2 ["word"] (spCheckWX cW))
    (hCh : HasX P w K mg base "checked_changes" 4 ["changes"] (spCheckedX cC)) (hA : HasN P w K mg base "are_one" wAre 6 ps3 spAre) : FnOk P w K mg base (L2N.CX P w) 7 f fd psTwo (spTwoR K C D cG cW cC) := by
  obtain ⟨fA, fdA, FA, mA, NA⟩ := hA
  have bA := bind3 NA (.inr rfl)
  refine Fun_okN F scTwo (fun vs H Q E h => ?_) (fun cdv A outer s H vs Q E hr h => ?_)
  · obtain ⟨g, z, a, b, v, n, rfl, _⟩ := h
    rfl
  · obtain ⟨g, z, a, b, v, n, rfl, h, q⟩ := h
    have px : Passes (L2N.CX P w) (cxOf (L2N.CX P w) P w K mg base nTwo "tellings_of_two" (defScope sTwo) f cdv A outer s H E) E := passE (L2N.takes_of rfl rfl rfl rfl)
    refine ⟨_, pss_cons (ps_expr (pe_hx hCG hr px (pa_cons (pv 0) pa_nil)))
      (pss_cons (ps_expr (pe_hx hW hr px (pa_cons (pv 1) pa_nil)))
      (pss_cons (ps_expr (pe_hx hW hr px (pa_cons (pv 2) pa_nil)))
      (pss_cons (ps_expr (pe_hx hW hr px (pa_cons (pv 3) pa_nil)))
      (pss_cons (ps_set (i := 5) scTwo.nd rfl (.inr rfl) (pe_hx hCh hr px (pa_cons (pv 4) pa_nil)))
      (pss_cons (ps_if (pt_val (pe_call FA hr rfl mA NA.kp bA .nil pass0 (pa_cons (pv 2) (pa_cons (pv 3) (pa_cons (pv 5) pa_nil))))) (pss_one (ps_raiseX rfl TW hr (L2N.takes_of rfl rfl rfl rfl) (pa_cons (pv 3) pa_nil))) pss_nil)
      pss_never))))), ?_⟩
    cases n with
    | gath =>
      obtain ⟨t, ty, k⟩ := h
      exact ⟨_, rfl, .inr ⟨g, t, rfl, ty, k, q H (Same.refl H)⟩⟩
    | word u =>
      obtain ⟨p, r, rfl, hG, h⟩ := h
      have q : Refuses cW "word" u H E := q
      refine ⟨_, rfl, .inl ⟨p, r, rfl, hG, ?_⟩⟩
      rcases h with ⟨rfl, o, e⟩ | ⟨zz, rfl, hz, h⟩
      · exact ⟨_, rfl, .inr ⟨_, rfl, o, e, q⟩⟩
      refine ⟨_, rfl, .inl ⟨zz, rfl, hz, fun H1 s1 => ?_⟩⟩
      rcases h with ⟨rfl, o, e⟩ | ⟨aa, rfl, ha, h⟩
      · exact ⟨_, rfl, .inr ⟨_, rfl, o.same s1, e, q.same s1⟩⟩
      refine ⟨_, rfl, .inl ⟨aa, rfl, ha, fun H2 s2 => ?_⟩⟩
      have s02 := s1.trans s2
      rcases h with ⟨rfl, o, e⟩ | ⟨bb, chs, rfl, rfl, hb, hv, okc, em⟩
      · exact ⟨_, rfl, .inr ⟨_, rfl, o.same s02, e, q.same s02⟩⟩
      refine ⟨_, rfl, .inl ⟨bb, rfl, hb, fun H3 s3 => ?_⟩⟩
      have s03 := s02.trans s3
      refine ⟨_, rfl, .inl ⟨v, chs, rfl, hv.same s03, okc, fun S H4 s4 hS => ?_⟩⟩
      refine ⟨_, rfl, _, rfl, _, rfl, aa, bb, .ref S, chs, rfl, ha, hb, .inr ⟨S, rfl, hS⟩, okc, fun k H5 s5 hk => ?_⟩
      have ek : k = true := hk.mpr (one_mean_eq.mpr em)
      subst ek
      exact ⟨_, rfl, iteT ⟨_, rfl, _, rfl, fun d hd => q.new ((s03.trans s4).trans s5) d hd⟩⟩
    | chs o =>
      obtain ⟨p, r, zz, aa, bb, rfl, hG, rfl, rfl, rfl, hz, ha, hb, hn⟩ := h
      have q : Refuses cC "place" (plcV o) H E := q
      refine ⟨_, rfl, .inl ⟨p, r, rfl, hG, ?_⟩⟩
      refine ⟨_, rfl, .inl ⟨zz, rfl, hz, fun H1 s1 => ⟨_, rfl, .inl ⟨aa, rfl, ha, fun H2 s2 => ⟨_, rfl, .inl ⟨bb, rfl, hb, fun H3 s3 => ?_⟩⟩⟩⟩⟩⟩
      exact ⟨_, rfl, .inr ⟨v, o, rfl, hn.same ((s1.trans s2).trans s3), q.same ((s1.trans s2).trans s3)⟩⟩
def spTwoX (K : PySem.W.Frag) (C D cG cW cC : Addr) : Sp := fun vs H Q E => spTwo C D vs H Q E ∨ spTwoR K C D cG cW cC vs H Q E
theorem ok_habitR (F : FunN K "habit" sHabit f fd) (hTw : HasX P w K mg base "tellings_of_two" 7 psTwo (spTwoX K C D cG cW cC)) : FnOk P w K mg base (L2N.CX P w) 8 f fd psTwo (spTwoR K C D cG cW cC) := by
  refine F.ok scHabit (fun vs H Q E h => ?_) (fun cdv A outer s H vs Q E hr h => ?_)
  · obtain ⟨g, z, a, b, v, n, rfl, _⟩ := h
    rfl
  · obtain ⟨g, z, a, b, v, n, rfl, h, q⟩ := h
    have px : Passes (L2N.CX P w) (cxOf (L2N.CX P w) P w K mg base nHabit "habit" (defScope sHabit) f cdv A outer s H E) E := passE (L2N.takes_of rfl rfl rfl rfl)
    refine ⟨_, pss_cons (ps_asg (pe_hx hTw hr px (pa_cons (pv 0) (pa_cons (pv 1) (pa_cons (pv 2) (pa_cons (pv 3) (pa_cons (pv 4) pa_nil)))))) (pg_tup rfl (pgs_cons (pg_name (i := 5) scHabit.nd rfl (.inl rfl)) (pgs_cons (pg_name (i := 6) scHabit.nd rfl (.inl rfl)) pgs_nil)))) pss_never, ?_⟩
    exact ⟨_, rfl, _, rfl, _, rfl, _, rfl, _, rfl, .inr ⟨g, z, a, b, v, n, rfl, h, q⟩⟩
def spHabX (K : PySem.W.Frag) (C D cG cW cC : Addr) : Sp := fun vs H Q E => spHabit C D vs H Q E ∨ spTwoR K C D cG cW cC vs H Q E
def HasHbX (P : Program) (w : World) (K : PySem.W.Frag) (mg : Str → Option Value) (base : Heap) (C D cG cW cC : Addr) : Prop := HasNX P w K mg base "habit" sHabit 8 psTwo (spHabX K C D cG cW cC)
end
end Wl

/-! xs.count(y), items and y flat. -/
namespace Wl
open PySem PySem.Spec PyProof.Rows L2
theorem countP_vals {y : V} {uy : Value} : ∀ {ys : List V} {its : List Value}, Vals ys its → ys.all flatV = true → (∀ z u, RelV z u → flatV z = true → eqU y u = eqV z y) → its.countP (eqU y) = ys.countP fun z => eqV z y
  | _, _, .nil, _, _ => rfl
  | _, _, .cons r t, f, k => by
    rw [List.all_cons, Bool.and_eq_true] at f
    rw [List.countP_cons, List.countP_cons, countP_vals (uy := uy) t f.2 k, k _ _ r f.1]
def rCntF (K : PySem.W.Frag) : V → List V → Hp → VK → Prop := fun x xs H Q => ∃ (a : Addr) (ys : List V) (y : V), x = V.ref a ∧ xs = [y] ∧ SqL K H a ys ∧ flatV y = true ∧ ys.all flatV = true ∧ Q (.int ((ys.countP fun z => eqV z y : Nat) : Int)) H
theorem mt_countF {X : Cx} : MtR X "list.count" (rCntF X.K) := by
  intro pins s σ H x xs v us Q I rx rxs h
  obtain ⟨a, ys, y, rfl, rfl, hs, fy, fys, q⟩ := h
  cases rx
  obtain ⟨uy, rfl, ry⟩ := rxs.one
  obtain ⟨its, rv, ⟨⟨cls, dd, data, sl⟩, n, ho, hc, hdn, hd⟩, hlen⟩ := I.list hs
  simp only at hc hd
  subst hc hd
  refine call_meets PySem.F.slot_list_count ⟨_, ho, rfl⟩ PySem.F.entry_list_count (PySem.F.args_list_count_2 _ _)
    (SeqAt.list_countAt a its.toArray n dd sl uy (eqU y)) ⟨ho, fun u' hu' => mem_eqAt ry fy rv fys u' (by simpa using hu'), ?_⟩
  have ec : its.toArray.toList.countP (eqU y) = ys.countP fun z => eqV z y := countP_vals (uy := uy) rv fys fun z u r f => eqU_of r f
  refine ⟨.int ((ys.countP fun z => eqV z y : Nat) : Int), H, I.tok _, ⟨s.toks, ?_⟩, q⟩
  rw [ec]
end Wl

/-! Of which class a caught exception is: what the laws' own sorting asks. -/
namespace Wl
open PySem PySem.Spec PyProof.Rows L2
/-- the program's exceptions, in their order -/
def exL : List Str := ["NoWord", "NoChanges", "NoText", "NoAge", "NoSure", "NoRings", "NoThings", "NoCount", "NoRow", "NoLand", "NoName", "NoGathering", "NoMap", "NoTelling", "NoBack", "Told", "Full", "Clash", "TooMany"]
def exN (i : Nat) : Str := exL.getD i ""
def baL : List Str := ["WordError", "LandError", "JoinError"]
def baN (i : Nat) : Str := baL.getD i ""
/-- which base the n-th has -/
def baOf (n : Nat) : Nat := if n ≤ 8 then 0 else if n ≤ 14 then 1 else 2
/-- the globals that hold the classes -/
structure SortG (mg : Str → Option Value) (ad bd : Nat → Addr) : Prop where
  own : ∀ i, i < 19 → mg (exN i) = some (.ref (ad i))
  bas : ∀ i, i < 3 → mg (baN i) = some (.ref (bd i))
  ve : mg "ValueError" = none
  le : mg "LookupError" = none
  ae : mg "ArithmeticError" = none
/-- C is the n-th class, as isinstance answers -/
structure SortC (K : PySem.W.Frag) (ad bd : Nat → Addr) (C : Addr) (n : Nat) : Prop where
  ex : ExK K C
  lt : n < 19
  own : ∀ i, i < 19 → PySem.W.kitOne K (.ref C) (.ref (ad i)) = some (decide (i = n))
  bas : ∀ i, i < 3 → PySem.W.kitOne K (.ref C) (.ref (bd i)) = some (decide (i = baOf n))
  ve : PySem.W.kitOne K (.ref C) (.type "ValueError") = some (decide (0 = baOf n))
  le : PySem.W.kitOne K (.ref C) (.type "LookupError") = some (decide (1 = baOf n))
  ae : PySem.W.kitOne K (.ref C) (.type "ArithmeticError") = some (decide (2 = baOf n))
/-- at e: a caught exception, the n-th -/
structure ExcAt (K : PySem.W.Frag) (ad bd : Nat → Addr) (H : Hp) (e : Addr) (n : Nat) : Prop where
  ex : ∃ (C : Addr) (d : Option Addr), H e = some (exH e (.ref C) d) ∧ DxOk H d ∧ SortC K ad bd C n
theorem ExcAt.same {K : PySem.W.Frag} {ad bd : Nat → Addr} {H H' : Hp} {e : Addr} {n : Nat} (h : ExcAt K ad bd H e n) (s : Same H H') : ExcAt K ad bd H' e n := by
  obtain ⟨C, d, h1, h2, h3⟩ := h.ex
  refine ⟨C, d, s _ _ h1, fun dd e => ?_, h3⟩
  obtain ⟨fs, q⟩ := h2 dd e
  exact ⟨fs, s _ _ q⟩
theorem ExcAt.hot {K : PySem.W.Frag} {ad bd : Nat → Addr} {H : Hp} {e : Addr} {n : Nat} (h : ExcAt K ad bd H e n) : HotH e H := by
  obtain ⟨C, d, h1, _⟩ := h.ex
  exact ⟨_, _, h1⟩
/-- isinstance(e, c) of it -/
abbrev tIs (K : PySem.W.Frag) (i : Nat) (c : V) : TE := tCB (rIsX K) (tCons (tVar i) (tCons (tC c) tNil))
section
variable {K : PySem.W.Frag} {ad bd : Nat → Addr} {H : Hp} {e : Addr} {n j : Nat} {σ : L2.St} {R : VK}
theorem is_own (i : Nat) (h : ExcAt K ad bd H e n) (h0 : σ[j]? = some (some (.ref e))) (hi : i < 19) (q : R (.bl (decide (i = n))) H) : tIs K j (.ref (ad i)) σ H R := by
  obtain ⟨C, d, h1, h2, h3⟩ := h.ex
  exact ⟨_, h0, e, C, d, _, _, _, rfl, h1, h2, h3.ex, .own _, h3.own i hi, q⟩
theorem is_bas (i : Nat) (h : ExcAt K ad bd H e n) (h0 : σ[j]? = some (some (.ref e))) (hi : i < 3) (q : R (.bl (decide (i = baOf n))) H) : tIs K j (.ref (bd i)) σ H R := by
  obtain ⟨C, d, h1, h2, h3⟩ := h.ex
  exact ⟨_, h0, e, C, d, _, _, _, rfl, h1, h2, h3.ex, .own _, h3.bas i hi, q⟩
theorem is_ve (h : ExcAt K ad bd H e n) (h0 : σ[j]? = some (some (.ref e))) (q : R (.bl (decide (0 = baOf n))) H) : tIs K j (.ty "ValueError") σ H R := by
  obtain ⟨C, d, h1, h2, h3⟩ := h.ex
  exact ⟨_, h0, e, C, d, _, _, _, rfl, h1, h2, h3.ex, .ty _, h3.ve, q⟩
theorem is_le (h : ExcAt K ad bd H e n) (h0 : σ[j]? = some (some (.ref e))) (q : R (.bl (decide (1 = baOf n))) H) : tIs K j (.ty "LookupError") σ H R := by
  obtain ⟨C, d, h1, h2, h3⟩ := h.ex
  exact ⟨_, h0, e, C, d, _, _, _, rfl, h1, h2, h3.ex, .ty _, h3.le, q⟩
theorem is_ae (h : ExcAt K ad bd H e n) (h0 : σ[j]? = some (some (.ref e))) (q : R (.bl (decide (2 = baOf n))) H) : tIs K j (.ty "ArithmeticError") σ H R := by
  obtain ⟨C, d, h1, h2, h3⟩ := h.ex
  exact ⟨_, h0, e, C, d, _, _, _, rfl, h1, h2, h3.ex, .ty _, h3.ae, q⟩
end
section
variable {X : Cx} {ad bd : Nat → Addr} {j : Nat} {x y z : Str} {p q r s pos : Pos}
/-- the terms of isinstance(e, ..) -/
theorem pe_own (i : Nat) (B : X.mg "isinstance" = none) (G : SortG X.mg ad bd) (hi : i < 19) (hg : Gl X (exN i)) (hN : X.N[j]? = some y) (hv : Vis X.env.scope y) (g1 : Gl X "isinstance" := by rfl) (h1 : (y == ("__debug__" : Str)) = false := by decide) (h2 : (y == ("__classdict__" : Str)) = false := by decide)
    (h3 : (exN i == ("__debug__" : Str)) = false := by decide)
    (he : starEach [.Name y q, .Name (exN i) r] X.env = [(false, eval (.Name y q) X.env), (false, eval (.Name (exN i) r) X.env)] := by rfl) : PE X (.Call (.Name "isinstance" p) [.Name y q, .Name (exN i) r] [] pos) (tIs X.K j (.ref (ad i))) :=
  pe_callB call_isX g1 B (by decide +kernel) (pa_cons (pe_var hN hv h1 h2) (pa_cons (pe_glob (v := .ref (ad i)) hg (G.own i hi) rfl h3) pa_nil) he)
end
def kinds (n : Nat) : List V := (List.range 19).map fun i => .bl (decide (i = n))
theorem kinds_flat (n : Nat) (h : n < 19) : (kinds n).all flatV = true := by
  have : ∀ m : Fin 19, (kinds m.1).all flatV = true := by decide +kernel
  exact this ⟨n, h⟩
theorem kinds_count (n : Nat) (h : n < 19) : (kinds n).countP (fun z => eqV z (.bl true)) = 1 := by
  have : ∀ m : Fin 19, (kinds m.1).countP (fun z => eqV z (.bl true)) = 1 := by decide +kernel
  exact this ⟨n, h⟩
theorem kinds_at (n : Nat) (h : n < 19) : (kinds n)[n]? = some (.bl true) := by
  unfold kinds
  rw [List.getElem?_map, List.getElem?_range h]
  simp
theorem kinds_none (n : Nat) (h : n < 19) (m : Nat) (z : V) (hm : m < n) (hz : (kinds n)[m]? = some z) : eqV z (.bl true) = false := by
  unfold kinds at hz
  rw [List.getElem?_map, List.getElem?_range (by omega)] at hz
  have e : z = .bl (decide (m = n)) := (Option.some.inj hz).symm
  rw [e, decide_eq_false (by omega)]
  decide +kernel
end Wl

namespace Wl
open PySem PySem.Spec PyProof.Rows L2
abbrev sSort : Stmt := topS 80
abbrev bN (n i : Nat) : V := .bl (decide (i = n))
abbrev sW (n : Nat) : List V := [bN n 0, bN n 3, bN n 4, bN n 1]
abbrev sL4 (n : Nat) : List V := [bN n 9, bN n 10, bN n 13, bN n 14]
abbrev sL5 (n : Nat) : List V := [bN n 9, bN n 10, bN n 13, bN n 14, bN n 12]
abbrev sJ (n : Nat) : List V := [bN n 15, bN n 16, bN n 17, bN n 18]
abbrev sB (n : Nat) : List V := [.bl (decide (0 = baOf n)), .bl (decide (1 = baOf n)), .bl (decide (2 = baOf n))]
def posW (n : Nat) : Nat := if n = 0 then 0 else 3
def nameW (n : Nat) : Str := if n = 0 then "word" else "changes"
theorem two_cases {p : Nat → Prop} (n : Nat) (h : n < 2) (h0 : p 0) (h1 : p 1) : p n := by
  rcases n with _ | _ | n
  · exact h0
  · exact h1
  · omega
section
variable {P : Program} {w : World} {K : PySem.W.Frag} {mg : Str → Option Value} {base : Heap} {f : Addr} {fd : FuncData} {ad bd : Nat → Addr}
theorem kit6 {C : Addr} {n : Nat} (h : SortC K ad bd C n) (hn : n < 2) : PySem.W.kitAny K (.ref C) [.ref (ad 2), .ref (ad 5), .ref (ad 6), .ref (ad 7), .ref (ad 8), .ref (ad 11)] = some false := by
  have e : ∀ i, 1 < i → i < 19 → PySem.W.kitOne K (.ref C) (.ref (ad i)) = some false := fun i h1 h2 => by
    rw [h.own i h2, decide_eq_false (by omega)]
  simp only [PySem.W.kitAny, e 2 (by decide) (by decide), e 5 (by decide) (by decide), e 6 (by decide) (by decide), e 7 (by decide) (by decide), e 8 (by decide) (by decide), e 11 (by decide) (by decide)]
def spSort (K : PySem.W.Frag) (ad bd : Nat → Addr) : Addr → Sp := fun a vs H Q _ => ∃ n, vs = [.ref a] ∧ ExcAt K ad bd H a n ∧ n < 2 ∧ ∀ H', Same H H' → Q (.str (nameW n)) H'
abbrev nSort : List Str := ["_law_e", "_law_words", "_law_lands", "_law_joins", "_law_bases", "_law_python", "_law_told_here"]
theorem scSort : FnScope nSort ["_law_e"] (defScope sSort) := ⟨rfl, rfl, rfl, by decide +kernel, rfl, by decide +kernel, by decide +kernel⟩
abbrev told13 : List V := [.str "word", .str "age", .str "sure", .str "changes", .str "land", .str "name", .str "telling", .str "back", .str "map", .str "told", .str "full", .str "clash", .str "many"]
theorem ok_sort (F : Fun K "_law_sort" "_law_sort" sSort f fd) (B : Bi mg) (G : SortG mg ad bd) : FnT P w K mg base CX0 1 f fd ["_law_e"] (spSort K ad bd) := by
  refine FunT_ok F scSort (fun a vs H Q E h => ?_) (fun cdv A outer s H vs Q E a hot hh hr h => ?_)
  · obtain ⟨n, rfl, _⟩ := h
    rfl
  · obtain ⟨n, rfl, hE, hn, q⟩ := h
    have io : ∀ (i : Nat) (hi : i < 19) {r p q pos : Pos} (hg : Gl (cxT CX0 P w K mg base nSort "_law_sort" (defScope sSort) f cdv A outer s H E) (exN i)) (h3 : (exN i == ("__debug__" : Str)) = false)
      (he : starEach [.Name "_law_e" q, .Name (exN i) r] (cxT CX0 P w K mg base nSort "_law_sort" (defScope sSort) f cdv A outer s H E).env = [(false, eval (.Name "_law_e" q) (cxT CX0 P w K mg base nSort "_law_sort" (defScope sSort) f cdv A outer s H E).env), (false, eval (.Name (exN i) r) (cxT CX0 P w K mg base nSort "_law_sort" (defScope sSort) f cdv A outer s H E).env)]),
      PE (cxT CX0 P w K mg base nSort "_law_sort" (defScope sSort) f cdv A outer s H E) (.Call (.Name "isinstance" p) [.Name "_law_e" q, .Name (exN i) r] [] pos) (tIs K 0 (.ref (ad i))) :=
      fun i hi {r p q pos} hg h3 he => pe_own (j := 0) i B.isi G hi hg rfl (.inl rfl) rfl (by decide) (by decide) h3 he
    have ib : ∀ (x : Str) (c : V) (u : Value) {r p q pos : Pos} (hm : mg x = some u) (rc : RelV c u) (hg : Gl (cxT CX0 P w K mg base nSort "_law_sort" (defScope sSort) f cdv A outer s H E) x) (h3 : (x == ("__debug__" : Str)) = false)
      (he : starEach [.Name "_law_e" q, .Name x r] (cxT CX0 P w K mg base nSort "_law_sort" (defScope sSort) f cdv A outer s H E).env = [(false, eval (.Name "_law_e" q) (cxT CX0 P w K mg base nSort "_law_sort" (defScope sSort) f cdv A outer s H E).env), (false, eval (.Name x r) (cxT CX0 P w K mg base nSort "_law_sort" (defScope sSort) f cdv A outer s H E).env)]),
      PE (cxT CX0 P w K mg base nSort "_law_sort" (defScope sSort) f cdv A outer s H E) (.Call (.Name "isinstance" p) [.Name "_law_e" q, .Name x r] [] pos) (tIs K 0 c) :=
      fun x c u {r p q pos} hm rc hg h3 he => pe_callB call_isX (by rfl) B.isi (by decide +kernel) (pa_cons (pv 0) (pa_cons (pe_glob (v := c) hg hm rc h3) pa_nil) he)
    have hu : (cxT CX0 P w K mg base nSort "_law_sort" (defScope sSort) f cdv A outer s H E).A.units + 64 < cLine := by
      have := hr.un
      show (A.deeper (envOfC "_law_sort" (defScope sSort) s.heap.objs.size f cdv)).units + 64 < cLine
      omega
    refine ⟨_, pss_cons (ps_set (i := 1) scSort.nd rfl (.inl rfl) (pe_lst (pa_cons (io 0 (by decide) (by rfl) (by decide) (by rfl)) (pa_cons (io 3 (by decide) (by rfl) (by decide) (by rfl)) (pa_cons (io 4 (by decide) (by rfl) (by decide) (by rfl)) (pa_cons (io 1 (by decide) (by rfl) (by decide) (by rfl)) pa_nil))))))
      (pss_cons (ps_if (pt_val (pe_callB call_isXT (by rfl) B.isi (by decide +kernel) (pa_cons (pv 0) (pa_cons (pe_tup (pa_cons (pe_glob (v := .ref (ad 2)) (by rfl) (G.own 2 (by decide)) rfl (by decide)) (pa_cons (pe_glob (v := .ref (ad 5)) (by rfl) (G.own 5 (by decide)) rfl (by decide)) (pa_cons (pe_glob (v := .ref (ad 6)) (by rfl) (G.own 6 (by decide)) rfl (by decide))
          (pa_cons (pe_glob (v := .ref (ad 7)) (by rfl) (G.own 7 (by decide)) rfl (by decide)) (pa_cons (pe_glob (v := .ref (ad 8)) (by rfl) (G.own 8 (by decide)) rfl (by decide)) (pa_cons (pe_glob (v := .ref (ad 11)) (by rfl) (G.own 11 (by decide)) rfl (by decide)) pa_nil))))))) pa_nil)))) (pss_one ps_never) pss_nil)
      (pss_cons (ps_set (i := 2) scSort.nd rfl (.inl rfl) (pe_lst (pa_cons (io 9 (by decide) (by rfl) (by decide) (by rfl)) (pa_cons (io 10 (by decide) (by rfl) (by decide) (by rfl)) (pa_cons (io 13 (by decide) (by rfl) (by decide) (by rfl)) (pa_cons (io 14 (by decide) (by rfl) (by decide) (by rfl)) pa_nil))))))
      (pss_cons (ps_expr (pe_bm PySem.F.plainAttrs_list PySem.F.slot_list_append PySem.F.type_list_append mt_append (pv 2) (pa_cons (io 12 (by decide) (by rfl) (by decide) (by rfl)) pa_nil)))
      (pss_cons (ps_set (i := 3) scSort.nd rfl (.inl rfl) (pe_lst (pa_cons (io 15 (by decide) (by rfl) (by decide) (by rfl)) (pa_cons (io 16 (by decide) (by rfl) (by decide) (by rfl)) (pa_cons (io 17 (by decide) (by rfl) (by decide) (by rfl)) (pa_cons (io 18 (by decide) (by rfl) (by decide) (by rfl)) pa_nil))))))
      (pss_cons (ps_set (i := 4) scSort.nd rfl (.inl rfl) (pe_lst (pa_cons (ib "WordError" (.ref (bd 0)) _ (G.bas 0 (by decide)) rfl (by rfl) (by decide) (by rfl)) (pa_cons (ib "LandError" (.ref (bd 1)) _ (G.bas 1 (by decide)) rfl (by rfl) (by decide) (by rfl)) (pa_cons (ib "JoinError" (.ref (bd 2)) _ (G.bas 2 (by decide)) rfl (by rfl) (by decide) (by rfl)) pa_nil)))))
      (pss_cons (ps_set (i := 5) scSort.nd rfl (.inl rfl) (pe_lst (pa_cons (pe_callB call_isX (by rfl) B.isi (by decide +kernel) (pa_cons (pv 0) (pa_cons (pe_bltn (v := .ty "ValueError") (by rfl) G.ve (by decide +kernel) rfl) pa_nil))) (pa_cons (pe_callB call_isX (by rfl) B.isi (by decide +kernel) (pa_cons (pv 0) (pa_cons (pe_bltn (v := .ty "LookupError") (by rfl) G.le (by decide +kernel) rfl) pa_nil)))
          (pa_cons (pe_callB call_isX (by rfl) B.isi (by decide +kernel) (pa_cons (pv 0) (pa_cons (pe_bltn (v := .ty "ArithmeticError") (by rfl) G.ae (by decide +kernel) rfl) pa_nil))) pa_nil)))))
      (pss_cons (ps_if (PW.pt (pw_or (pt_cmpR op_ne (pe_bm PySem.F.plainAttrs_list PySem.F.slot_list_count PySem.F.type_list_count mt_countF (pe_op op_cat (pe_op op_cat (pv 1) (pv 2)) (pv 3)) (pa_cons pe_bl pa_nil)) pe_int (nomark _))
          (pw_or (pt_cmpR (op_neD hu) (pv 4) (pv 5) (nomark _)) (pw_or1 (pt_cmpR op_ne (pe_bm PySem.F.plainAttrs_list PySem.F.slot_list_count PySem.F.type_list_count mt_countF (pv 4) (pa_cons pe_bl pa_nil)) pe_int (nomark _)))))) (pss_one ps_never) pss_nil)
      (pss_cons (ps_if (pt_cmpR (op_neD hu) (pv 4) (pe_lst (pa_cons (pe_cmpR op_in_seq pe_bl (pv 1) (by rfl)) (pa_cons (pe_cmpR op_in_seq pe_bl (pv 2) (by rfl)) (pa_cons (pe_cmpR op_in_seq pe_bl (pv 3) (by rfl)) pa_nil)))) (nomark _)) (pss_one ps_never) pss_nil)
      (pss_cons (ps_set (i := 6) scSort.nd rfl (.inl rfl) (pe_lst (pa_cons pe_str (pa_cons pe_str (pa_cons pe_str (pa_cons pe_str (pa_cons pe_str (pa_cons pe_str (pa_cons pe_str (pa_cons pe_str (pa_cons pe_str (pa_cons pe_str (pa_cons pe_str (pa_cons pe_str (pa_cons pe_str pa_nil)))))))))))))))
      (pss_one (ps_ret (pe_ix ix_list (pv 6) (pe_bm PySem.F.plainAttrs_list PySem.F.slot_list_index PySem.F.type_list_index mt_index (pe_op op_cat (pe_op op_cat (pv 1) (pv 2)) (pv 3)) (pa_cons pe_bl pa_nil)) (fun _ _ => rfl))))))))))))), ?_⟩
    clear io ib
    refine (is_own 0 hE rfl (by decide) (is_own 3 hE rfl (by decide) (is_own 4 hE rfl (by decide) (is_own 1 hE rfl (by decide) ⟨lz, fun p1 h1 => ?_⟩))))
    have s1 : Same H (upd H p1 (.lst (sW n))) := same_new h1
    have aW : upd H p1 (.lst (sW n)) p1 = some (.lst (sW n)) := upd_same
    have hE := hE.same s1
    generalize upd H p1 (.lst (sW n)) = H1 at hE s1 aW
    obtain ⟨C, d, e1, e2, e3⟩ := hE.ex
    refine ⟨_, rfl, lz, fun tp htp => ⟨a, C, d, tp, _, _, false, rfl, (same_new htp) _ _ e1, fun dd e => ?_, e3.ex, upd_same, .cons (.own _) (.cons (.own _) (.cons (.own _) (.cons (.own _) (.cons (.own _) (.cons (.own _) .nil))))), kit6 e3 hn, false, rfl, iteF ?_⟩⟩
    · obtain ⟨fs, qq⟩ := e2 dd e
      exact ⟨fs, (same_new htp) _ _ qq⟩
    clear e1 e2 e3
    have hE := hE.same (same_new (o := .tup [.ref (ad 2), .ref (ad 5), .ref (ad 6), .ref (ad 7), .ref (ad 8), .ref (ad 11)]) htp)
    have s1 := s1.trans (same_new (o := .tup [.ref (ad 2), .ref (ad 5), .ref (ad 6), .ref (ad 7), .ref (ad 8), .ref (ad 11)]) htp)
    have aW := (same_new (o := .tup [.ref (ad 2), .ref (ad 5), .ref (ad 6), .ref (ad 7), .ref (ad 8), .ref (ad 11)]) htp) _ _ aW
    generalize upd H1 tp (.tup [.ref (ad 2), .ref (ad 5), .ref (ad 6), .ref (ad 7), .ref (ad 8), .ref (ad 11)]) = H2 at hE s1 aW
    refine (is_own 9 hE rfl (by decide) (is_own 10 hE rfl (by decide) (is_own 13 hE rfl (by decide) (is_own 14 hE rfl (by decide) ⟨lz, fun p2 h2 => ?_⟩))))
    have k2 : Same H2 (upd H2 p2 (.lst (sL4 n))) := same_new h2
    have hE2 := hE.same k2
    refine ⟨_, rfl, .inl ⟨rfl, _, .inl (.inl upd_same)⟩, is_own 12 hE2 rfl (by decide) ⟨p2, _, _, rfl, rfl, upd_same, lz, ?_⟩⟩
    have k3 : Same H2 (upd (upd H2 p2 (.lst (sL4 n))) p2 (.lst (sL4 n ++ [bN n 12]))) := same_mut k2 h2
    have hE := hE.same k3
    have s1 := s1.trans k3
    have aW := k3 _ _ aW
    have aL : upd (upd H2 p2 (.lst (sL4 n))) p2 (.lst (sL4 n ++ [bN n 12])) p2 = some (.lst (sL4 n ++ [bN n 12])) := upd_same
    generalize upd (upd H2 p2 (.lst (sL4 n))) p2 (.lst (sL4 n ++ [bN n 12])) = H3 at hE s1 aW aL
    have aL : H3 p2 = some (.lst (sL5 n)) := aL
    clear k2 k3 hE2 h2
    refine (is_own 15 hE rfl (by decide) (is_own 16 hE rfl (by decide) (is_own 17 hE rfl (by decide) (is_own 18 hE rfl (by decide) ⟨lz, fun p3 h3 => ?_⟩))))
    have k4 : Same H3 (upd H3 p3 (.lst (sJ n))) := same_new h3
    have hE := hE.same k4
    have s1 := s1.trans k4
    have aW := k4 _ _ aW
    have aL := k4 _ _ aL
    have aJ : upd H3 p3 (.lst (sJ n)) p3 = some (.lst (sJ n)) := upd_same
    generalize upd H3 p3 (.lst (sJ n)) = H4 at hE s1 aW aL aJ
    clear k4
    refine is_bas 0 hE rfl (by decide) (is_bas 1 hE rfl (by decide) (is_bas 2 hE rfl (by decide) ⟨lz, fun p4 h4 => ?_⟩))
    have k5 : Same H4 (upd H4 p4 (.lst (sB n))) := same_new h4
    have hE := hE.same k5
    have s1 := s1.trans k5
    have aW := k5 _ _ aW
    have aL := k5 _ _ aL
    have aJ := k5 _ _ aJ
    have aB : upd H4 p4 (.lst (sB n)) p4 = some (.lst (sB n)) := upd_same
    generalize upd H4 p4 (.lst (sB n)) = H5 at hE s1 aW aL aJ aB
    clear k5
    refine is_ve hE rfl (is_le hE rfl (is_ae hE rfl ⟨lz, fun p5 h5 => ?_⟩))
    have k6 : Same H5 (upd H5 p5 (.lst (sB n))) := same_new h5
    have s1 := s1.trans k6
    have aW := k6 _ _ aW
    have aL := k6 _ _ aL
    have aJ := k6 _ _ aJ
    have aB := k6 _ _ aB
    have aP : upd H5 p5 (.lst (sB n)) p5 = some (.lst (sB n)) := upd_same
    generalize upd H5 p5 (.lst (sB n)) = H6 at s1 aW aL aJ aB aP
    clear k6
    have fl : (sW n ++ sL5 n ++ sJ n).all flatV = true := rfl
    have ct : (sW n ++ sL5 n ++ sJ n).countP (fun z => eqV z (.bl true)) = 1 := two_cases (p := fun n => (sW n ++ sL5 n ++ sJ n).countP (fun z => eqV z (.bl true)) = 1) n hn (by decide +kernel) (by decide +kernel)
    refine ⟨_, rfl, _, rfl, p1, p2, _, _, rfl, rfl, aW, aL, lz, fun r0 k0 => ⟨_, rfl, r0, p3, _, _, rfl, rfl, upd_same, (same_new k0) _ _ aJ, lz, fun r1 k1 => ⟨.inl ⟨rfl, _, .inl (.inl upd_same)⟩, r1, _, .bl true, rfl, rfl, .inl (.inl upd_same), rfl, fl, rfl, _, rfl, ?_⟩⟩⟩
    rw [ct]
    have k7 : Same H6 (upd (upd H6 r0 (.lst (sW n ++ sL5 n))) r1 (.lst (sW n ++ sL5 n ++ sJ n))) := (same_new k0).trans (same_new k1)
    have s1 := s1.trans k7
    have aW := k7 _ _ aW
    have aL := k7 _ _ aL
    have aJ := k7 _ _ aJ
    have aB := k7 _ _ aB
    have aP := k7 _ _ aP
    generalize upd (upd H6 r0 (.lst (sW n ++ sL5 n))) r1 (.lst (sW n ++ sL5 n ++ sJ n)) = H7 at s1 aW aL aJ aB aP
    clear k7 k0 k1
    refine iteNS (by simp) ?_
    have cb : (sB n).countP (fun z => eqV z (.bl true)) = 1 := two_cases (p := fun n => (sB n).countP (fun z => eqV z (.bl true)) = 1) n hn (by decide +kernel) (by decide +kernel)
    have dB : ∀ {p : Addr}, H7 p = some (.lst (sB n)) → Dp K H7 (.ref p) (.list [.bool (decide (0 = baOf n)), .bool (decide (1 = baOf n)), .bool (decide (2 = baOf n))]) := fun h => .lst (.inl (.inl h)) (.cons (.bl _) (.cons (.bl _) (.cons (.bl _) .nil)))
    have eB : PyData.eqv (.list [.bool (decide (0 = baOf n)), .bool (decide (1 = baOf n)), .bool (decide (2 = baOf n))]) (.list [.bool (decide (0 = baOf n)), .bool (decide (1 = baOf n)), .bool (decide (2 = baOf n))]) = true :=
      two_cases (p := fun n => PyData.eqv (.list [.bool (decide (0 = baOf n)), .bool (decide (1 = baOf n)), .bool (decide (2 = baOf n))]) (.list [.bool (decide (0 = baOf n)), .bool (decide (1 = baOf n)), .bool (decide (2 = baOf n))]) = true) n hn (by decide +kernel) (by decide +kernel)
    refine ⟨_, rfl, _, rfl, _, _, dB aB, dB aP, rfl, rfl, _, rfl, ?_⟩
    rw [eB]
    refine iteF ⟨_, rfl, .inl ⟨rfl, _, .inl (.inl aB)⟩, p4, _, .bl true, rfl, rfl, .inl (.inl aB), rfl, rfl, rfl, _, rfl, ?_⟩
    rw [cb]
    refine iteNS (by simp) ?_
    refine ⟨_, rfl, _, rfl, p1, _, rfl, .inl (.inl (.inl aW)), rfl, rfl, _, rfl, p2, _, rfl, .inl (.inl (.inl aL)), rfl, rfl, _, rfl, p3, _, rfl, .inl (.inl (.inl aJ)), rfl, rfl, lz, fun p9 h9 => ?_⟩
    have eI : PyData.eqv (.list [.bool (decide (0 = baOf n)), .bool (decide (1 = baOf n)), .bool (decide (2 = baOf n))]) (.list [.bool (inV (.bl true) (sW n)), .bool (inV (.bl true) (sL5 n)), .bool (inV (.bl true) (sJ n))]) = true :=
      two_cases (p := fun n => PyData.eqv (.list [.bool (decide (0 = baOf n)), .bool (decide (1 = baOf n)), .bool (decide (2 = baOf n))]) (.list [.bool (inV (.bl true) (sW n)), .bool (inV (.bl true) (sL5 n)), .bool (inV (.bl true) (sJ n))]) = true) n hn (by decide +kernel) (by decide +kernel)
    refine ⟨_, .list [.bool (inV (.bl true) (sW n)), .bool (inV (.bl true) (sL5 n)), .bool (inV (.bl true) (sJ n))], .lst (.inl (.inl ((same_new h9) _ _ aB))) (.cons (.bl _) (.cons (.bl _) (.cons (.bl _) .nil))), .lst (.inl (.inl upd_same)) (.cons (.bl _) (.cons (.bl _) (.cons (.bl _) .nil))), rfl, rfl, _, rfl, ?_⟩
    rw [eI]
    refine iteF ?_
    have k8 := same_new (o := .lst [.bl (inV (.bl true) (sW n)), .bl (inV (.bl true) (sL5 n)), .bl (inV (.bl true) (sJ n))]) h9
    have s1 := s1.trans k8
    have aW := k8 _ _ aW
    have aL := k8 _ _ aL
    have aJ := k8 _ _ aJ
    show tSeq _ _ _ _ (upd H7 p9 (.lst [.bl (inV (.bl true) (sW n)), .bl (inV (.bl true) (sL5 n)), .bl (inV (.bl true) (sJ n))]))
    generalize upd H7 p9 (.lst [.bl (inV (.bl true) (sW n)), .bl (inV (.bl true) (sL5 n)), .bl (inV (.bl true) (sJ n))]) = H8 at s1 aW aL aJ
    refine ⟨lz, fun t1 m1 => ?_⟩
    have k9 := same_new (o := .lst told13) m1
    have a13 : upd H8 t1 (.lst told13) t1 = some (.lst told13) := upd_same
    have s1 := s1.trans k9
    have aW := k9 _ _ aW
    have aL := k9 _ _ aL
    have aJ := k9 _ _ aJ
    generalize upd H8 t1 (.lst told13) = H9 at s1 aW aL aJ a13
    have at1 : (sW n ++ sL5 n ++ sJ n)[posW n]? = some (.bl true) := two_cases (p := fun n => (sW n ++ sL5 n ++ sJ n)[posW n]? = some (.bl true)) n hn (by decide +kernel) (by decide +kernel)
    have no1 : ∀ m z, m < posW n → (sW n ++ sL5 n ++ sJ n)[m]? = some z → eqV z (.bl true) = false := by
      refine two_cases (p := fun n => ∀ m z, m < posW n → (sW n ++ sL5 n ++ sJ n)[m]? = some z → eqV z (.bl true) = false) n hn (fun m z h => absurd h (Nat.not_lt_zero _)) (fun m z h e => ?_)
      have h : m < 3 := h
      rcases m with _ | _ | _ | m
      · cases e; decide +kernel
      · cases e; decide +kernel
      · cases e; decide +kernel
      · omega
    have atN : told13[posW n]? = some (.str (nameW n)) := two_cases (p := fun n => told13[posW n]? = some (.str (nameW n))) n hn rfl rfl
    refine ⟨_, rfl, _, rfl, _, rfl, p1, p2, _, _, rfl, rfl, aW, aL, lz, fun r0 k0 => ⟨_, rfl, r0, p3, _, _, rfl, rfl, upd_same, (same_new k0) _ _ aJ, lz, fun r1 k1 => ⟨.inl ⟨rfl, _, .inl (.inl upd_same)⟩, r1, _, .bl true, posW n, .bl true, rfl, rfl, .inl (.inl upd_same), rfl, fl, at1, rfl, fun m z' hm hz => no1 m z' hm hz, ?_⟩⟩⟩
    have kA := (same_new (o := .lst (sW n ++ sL5 n)) k0).trans (same_new (o := .lst (sW n ++ sL5 n ++ sJ n)) k1)
    exact ⟨t1, _, (posW n : Int), _, rfl, rfl, .inl (.inl (kA _ _ a13)), atI_nat atN, q _ (s1.trans kA)⟩
end
end Wl

/-! What the head reads off the frame of an own exception's class. -/
namespace Wl
open PySem PySem.Spec PyProof.Rows L2
/-- an exception's class: which it is, its field read, caught by its base -/
structure ErrC (K : PySem.W.Frag) (ad bd : Nat → Addr) (C : Addr) (n : Nat) : Prop where
  sort : SortC K ad bd C n
  xf : XfC K C
  all : PySem.W.exmAny K (.ref C) [.ref (bd 0), .ref (bd 1), .ref (bd 2)] = some true
def adK (K : PySem.W.Frag) (i : Nat) : Addr := He.ga K (exN i)
def bdK (K : PySem.W.Frag) (i : Nat) : Addr := He.ga K (baN i)
/-- what is asked of the n-th exception's class, at C; bm: its built-in bases -/
def errB (K : PySem.W.Frag) (C : Addr) (f : Str) (n : Nat) (bm : List Value) (newId : String) : Bool :=
  PySem.W.excInitIn K C bm newId && (PySem.W.excOver K C bm && (He.eqO (PySem.W.findIn K (.ref C) "__setattr__") (some (some (.builtin "object.__setattr__"))) && (He.eqO (PySem.W.takerIn K C f) (some none) &&
  (He.eqO (PySem.W.findIn K (.ref C) f) (some none) && (decide (PySem.W.subIn K (.ref C) (.type "BaseException") = some true) && (decide (PySem.W.typeIn K (.ref C) = some (.type "type")) && (PySem.W.hasDictIn K C && (PySem.W.keepIn K (.ref C) &&
  ((PySem.W.clsIn K C).isSome && (He.eqO (PySem.W.findIn K (.ref C) "__getattribute__") (some (some (.builtin "BaseException.__getattribute__"))) && (He.eqO (PySem.W.findIn K (.ref C) "__getattr__") (some none) &&
  (He.eqO (PySem.W.findIn K (.ref C) "__class__") (some (some (.builtin "object.__class__"))) && (He.eqO (PySem.W.specialIn K (.builtin "object.__class__") "__get__") (some (some (.builtin "getset_descriptor.__get__"))) &&
  (decide (PySem.W.takesIn K (.builtin "object.__class__") = some true) && (decide (PySem.W.mroIn K C (.type "object") = some true) && (((List.range 19).all fun i => decide (PySem.W.kitOne K (.ref C) (.ref (adK K i)) = some (decide (i = n)))) &&
  (((List.range 3).all fun i => decide (PySem.W.kitOne K (.ref C) (.ref (bdK K i)) = some (decide (i = baOf n)))) && (decide (PySem.W.kitOne K (.ref C) (.type "ValueError") = some (decide (0 = baOf n))) &&
  (decide (PySem.W.kitOne K (.ref C) (.type "LookupError") = some (decide (1 = baOf n))) && (decide (PySem.W.kitOne K (.ref C) (.type "ArithmeticError") = some (decide (2 = baOf n))) &&
  (decide (PySem.W.exmAny K (.ref C) [.ref (bdK K 0), .ref (bdK K 1), .ref (bdK K 2)] = some true) && decide (n < 19))))))))))))))))))))))
def bmOf (n : Nat) : List Value := if n ≤ 8 then [.type "ValueError", .type "Exception", .type "BaseException", .type "object"] else if n ≤ 14 then [.type "LookupError", .type "Exception", .type "BaseException", .type "object"] else [.type "ArithmeticError", .type "Exception", .type "BaseException", .type "object"]
def newOf (n : Nat) : String := if n ≤ 8 then "ValueError.__new__" else if n ≤ 14 then "LookupError.__new__" else "ArithmeticError.__new__"
theorem base_of (n : Nat) : ∃ B initId, BaseX B (newOf n) initId (bmOf n) := by
  unfold newOf bmOf
  by_cases h : n ≤ 8
  · rw [if_pos h, if_pos h]
    exact ⟨_, _, baseVE⟩
  · rw [if_neg h, if_neg h]
    by_cases h2 : n ≤ 14
    · rw [if_pos h2, if_pos h2]
      exact ⟨_, _, baseLE⟩
    · rw [if_neg h2, if_neg h2]
      exact ⟨_, _, baseAE⟩
section
variable {K : PySem.W.Frag} {mg : Str → Option Value} {C : Addr} {f x : Str} {n : Nat}
def errOf (K : PySem.W.Frag) (n : Nat) (f : Str) : Bool := errB K (adK K n) f n (bmOf n) (newOf n)
theorem err_ok (h : errB K C f n (bmOf n) (newOf n) = true) : ErrC K (adK K) (bdK K) C n ∧
    ∀ {q : Str} {st : Stmt} {fI : Addr} {fd : FuncData} {x : Str} {q1 q2 q3 q4 : Pos}, mg x = some (.ref C) → Meth K C "__init__" fI → Fun K "__init__" q st fI fd → Binds K fd ["self", f] [] → FnScope ["self", f] ["self", f] (defScope st) → ((["self", f] : List Str).all fun y => decide ((defScope st).names.lookup y = some .local)) = true →
      defBody st = [.Assign [.Attribute (.Name "self" q1) f q2] (.Name f q3) q4] → OwnX K mg x f C := by
  unfold errB at h
  simp only [Bool.and_eq_true] at h
  obtain ⟨h1, h2, h3, h4, h5, h6, h7, h8, h9, h10, h11, h12, h13, h14, h15, h16, h17, h18, h19, h20, h21, h22, h23⟩ := h
  have hsub := of_decide_eq_true h6
  refine ⟨⟨⟨⟨h10, He.eqO_ok h11, He.eqO_ok h12, hsub, He.eqO_ok h13, He.eqO_ok h14, of_decide_eq_true h15, of_decide_eq_true h16⟩, of_decide_eq_true h23, fun i hi => of_decide_eq_true (List.all_eq_true.mp h17 i (List.mem_range.mpr hi)), fun i hi => of_decide_eq_true (List.all_eq_true.mp h18 i (List.mem_range.mpr hi)),
    of_decide_eq_true h19, of_decide_eq_true h20, of_decide_eq_true h21⟩, ⟨He.eqO_ok h11, He.eqO_ok h12, hsub, h8⟩, of_decide_eq_true h22⟩, ?_⟩
  intro q st fI fd x q1 q2 q3 q4 hg hm hF hB hS hL hb
  obtain ⟨B, ini, BX⟩ := base_of n
  refine ⟨hg, h9, ⟨B, newOf n, ini, bmOf n, BX, h1, h2⟩, He.eqO_ok h3, He.eqO_ok h4, He.eqO_ok h5, hsub, of_decide_eq_true h7, h8, ⟨fI, fd, q, st, q1, q2, q3, q4, hm.at_, ?_, hF, hB, hS, fun y hy => of_decide_eq_true (List.all_eq_true.mp hL y hy), hb⟩⟩
  have z : (PySem.W.typeIn K (.ref fI) == some (.type "function")) = true := hm.fn
  exact beq_iff_eq.mp z
/-- the globals -/
def sortB (K : PySem.W.Frag) : Bool := ((List.range 19).all fun i => (He.Fa.glo (exN i)).ok K) && (((List.range 3).all fun i => (He.Fa.glo (baN i)).ok K) && ((He.Fa.free "ValueError").ok K && ((He.Fa.free "LookupError").ok K && (He.Fa.free "ArithmeticError").ok K)))
theorem sort_ok {h : Heap} (X : K.In h) (G : h.Ns mainGlobals mg) (c : sortB K = true) : SortG mg (adK K) (bdK K) := by
  unfold sortB at c
  simp only [Bool.and_eq_true] at c
  obtain ⟨c1, c2, c3, c4, c5⟩ := c
  exact ⟨fun i hi => He.glo_ok X G (List.all_eq_true.mp c1 i (List.mem_range.mpr hi)), fun i hi => He.glo_ok X G (List.all_eq_true.mp c2 i (List.mem_range.mpr hi)), He.free_ok X G c3, He.free_ok X G c4, He.free_ok X G c5⟩
end
end Wl

namespace Wl
open PySem PySem.Spec PyProof.Rows L2
abbrev sTold : Stmt := topS 81
/-- how the three are caught -/
structure HdC (K : PySem.W.Frag) (cG cW cC : Addr) : Prop where
  gg : PySem.W.exmOne K (.ref cG) (.ref cG) = some true
  wg : PySem.W.exmOne K (.ref cW) (.ref cG) = some false
  ww : PySem.W.exmOne K (.ref cW) (.ref cW) = some true
  cg : PySem.W.exmOne K (.ref cC) (.ref cG) = some false
  cw : PySem.W.exmOne K (.ref cC) (.ref cW) = some false
  cc : PySem.W.exmOne K (.ref cC) (.ref cC) = some true
def gHo {α : Type} : List α → List α → List α → List α
  | [], _, [ot, ch, on, g, th] => [g, th, on, ot, ch]
  | _, _, _ => []
theorem gHo_rel {vs ds zs : List V} {us its ws : List Value} (r1 : Vals vs us) (r2 : Vals ds its) (r3 : Vals zs ws) : Vals (gHo vs ds zs) (gHo us its ws) := by
  rcases r1 with _ | ⟨a1, a2⟩
  · rcases r3 with _ | ⟨c1, _ | ⟨c2, _ | ⟨c3, _ | ⟨c4, _ | ⟨c5, _ | ⟨_, _⟩⟩⟩⟩⟩⟩
    all_goals first | exact .nil | exact .cons c4 (.cons c5 (.cons c3 (.cons c1 (.cons c2 .nil))))
  · exact .nil
/-- what is told of what is asked -/
def TellR (K : PySem.W.Frag) (C D : Addr) (H : Hp) (g z a b v : V) : Option Rsn → Prop
  | none => ∃ (p : Addr) (r : GR) (zz aa bb : Str) (chs : List Chg), g = .ref p ∧ z = .str zz ∧ a = .str aa ∧ b = .str bb ∧ GatAt C D H p r ∧ (∀ t ∈ r.ts, OkT t) ∧ r.ts.length ≤ 60 ∧ IsWd zz ∧ IsWd aa ∧ IsWd bb ∧ ChV H v chs ∧ OkCs chs ∧ mean chs aa ≠ mean chs bb
  | some n => RefTwo K C D H g z a b v n
def ansN : Option Rsn → Str
  | none => "taken"
  | some .gath => "gathering"
  | some (.word _) => "word"
  | some (.chs _) => "changes"
def ansV : Option Rsn → V
  | some (.word u) => u
  | some (.chs o) => plcV o
  | _ => .non
def rI1 : List V → Hp → VK → Prop := fun xs H Q => (∃ i, xs = [.int i] ∧ Q (.int i) H) ∨ ∃ k, xs = [.bl k] ∧ Q (.int (if k then 1 else 0)) H
/-! the three suites -/
def suG (K : PySem.W.Frag) (ad bd : Nat → Addr) : ClT := fun _ => tSeq (tAsg (tAndV (tIs K 6 (.ref (bd 1))) (tAndV (tIs K 6 (.ty "LookupError")) (tNotV (tCB (rIsXT K) (tCons (tVar 6) (tCons (tTup (tCons (tC (.ref (bd 0))) (tCons (tC (.ref (bd 2))) tNil))) tNil)))))) (gName 7))
  (tRet (tTup (tCons (tOp (rIxL K) (tLst (tCons (tC (.str "other")) (tCons (tC (.str "gathering")) tNil))) (tCB rI1 (tCons (tAndV (tVar 7) (tNotV (tCB (rIsXT K) (tCons (tVar 6) (tCons (tTup (tCons (tC (.ref (ad 9))) (tCons (tC (.ref (ad 10))) (tCons (tC (.ref (ad 12))) tNil)))) tNil))))) tNil))) (tCons (tC .non) tNil))))
def suE (K : PySem.W.Frag) (ad bd : Nat → Addr) (fl : Str) : ClT := fun a => tRet (tTup (tCons (tCallT a (spSort K ad bd) (tCons (tVar 6) tNil)) (tCons (tXf K fl (tVar 6)) tNil)))
section
variable {K : PySem.W.Frag} {ad bd : Nat → Addr}
theorem suG_read {C a : Addr} {H H0 : Hp} {D : Ends} {σ : L2.St} (S : SortC K ad bd C 11) (hl : σ.length = 8) (s : Same H H0) (ha : H0 a = none) (h : ∀ p H', Same H H' → H' p = some (.tup [.str "gathering", .non]) → D.rt (.ref p) H') : tAs 6 (suG K ad bd) a D σ (upd H0 a (exH a (.ref C) none)) := by
  have s1 : Same H0 (upd H0 a (exH a (.ref C) none)) := same_new ha
  have e1 : upd H0 a (exH a (.ref C) none) a = some (exH a (.ref C) none) := upd_same
  have s := s.trans s1
  generalize upd H0 a (exH a (.ref C) none) = H1 at e1 s
  have hX : ExcAt K ad bd H1 a 11 := ⟨C, none, e1, fun dd z => by (cases z), S⟩
  have kb : ∀ i, i < 3 → i ≠ 1 → PySem.W.kitOne K (.ref C) (.ref (bd i)) = some false := fun i h1 h2 => by
    rw [S.bas i h1, decide_eq_false (by show ¬ i = 1; omega)]
  have ko : ∀ i, i < 19 → i ≠ 11 → PySem.W.kitOne K (.ref C) (.ref (ad i)) = some false := fun i h1 h2 => by
    rw [S.own i h1, decide_eq_false h2]
  match σ, hl with
  | [s0, s1, s2, s3, s4, s5, s6, s7], _ =>
    refine is_bas 1 hX rfl (by decide) ⟨true, rfl, iteT (is_le hX rfl ⟨true, rfl, iteT ⟨_, rfl, lz, fun tp htp => ⟨a, C, none, tp, _, _, false, rfl, (same_new htp) _ _ e1, fun dd z => by (cases z), S.ex, upd_same, .cons (.own _) (.cons (.own _) .nil), ?_, false, rfl, ?_⟩⟩⟩)⟩
    · simp only [PySem.W.kitAny, kb 0 (by decide) (by decide), kb 2 (by decide) (by decide)]
    have s := s.trans (same_new (o := .tup [.ref (bd 0), .ref (bd 2)]) htp)
    have e1 := (same_new (o := .tup [.ref (bd 0), .ref (bd 2)]) htp) _ _ e1
    generalize upd H1 tp (.tup [.ref (bd 0), .ref (bd 2)]) = H2 at s e1
    refine ⟨lz, fun l hl => ⟨_, rfl, true, rfl, iteT ⟨_, rfl, lz, fun t2 ht2 => ⟨a, C, none, t2, _, _, false, rfl, (same_new ht2) _ _ ((same_new hl) _ _ e1), fun dd z => by (cases z), S.ex, upd_same, .cons (.own _) (.cons (.own _) (.cons (.own _) .nil)), ?_, false, rfl, .inr ⟨true, rfl, ?_⟩⟩⟩⟩⟩
    · simp only [PySem.W.kitAny, ko 9 (by decide) (by decide), ko 10 (by decide) (by decide), ko 12 (by decide) (by decide)]
    have k := (same_new (o := .lst [.str "other", .str "gathering"]) hl).trans (same_new (o := .tup [.ref (ad 9), .ref (ad 10), .ref (ad 12)]) ht2)
    exact ⟨l, _, 1, .str "gathering", rfl, rfl, .inl (.inl ((same_new ht2) _ _ upd_same)), atI_nat (j := 1) rfl, lz, fun p hp => h p _ ((s.trans k).trans (same_new hp)) upd_same⟩
theorem suE_read {C a d : Addr} {n : Nat} {fl : Str} {v : V} {H H0 : Hp} {D : Ends} {σ : L2.St} (hE : ErrC K ad bd C n) (hn : n < 2) (hf : PySem.W.findIn K (.ref C) fl = some none)
    (hl : σ.length = 8) (s : Same H H0) (hd : H0 d = some (.xd [(fl, v)])) (ha : H0 a = none) (h : ∀ p H', Same H H' → H' p = some (.tup [.str (nameW n), v]) → D.rt (.ref p) H') : tAs 6 (suE K ad bd fl) a D σ (upd H0 a (exH a (.ref C) (some d))) := by
  have hda : d ≠ a := fun z => by rw [z, ha] at hd; cases hd
  have s1 : Same H0 (upd H0 a (exH a (.ref C) (some d))) := same_new ha
  have e1 : upd H0 a (exH a (.ref C) (some d)) a = some (exH a (.ref C) (some d)) := upd_same
  have hd := s1 _ _ hd
  have s := s.trans s1
  generalize upd H0 a (exH a (.ref C) (some d)) = H1 at e1 hd s
  have hX : ExcAt K ad bd H1 a n := ⟨C, some d, e1, fun dd z => by cases z; exact ⟨_, hd⟩, hE.sort⟩
  match σ, hl with
  | [s0, s1, s2, s3, s4, s5, s6, s7], _ =>
    refine ⟨_, rfl, hX.hot, n, rfl, hX, hn, fun H2 t2 => ?_⟩
    have hd := t2 _ _ hd
    have e1 := t2 _ _ e1
    have s := s.trans t2
    exact ⟨_, rfl, a, C, d, _, v, rfl, e1, hd, hE.xf, hf, by simp [List.lookup], lz, fun p hp => h p _ (s.trans (same_new hp)) upd_same⟩
end
abbrev nTold : List Str := ["_law_basket", "_law_matter", "_law_lone", "_law_mate", "_law_shifts", "_law_named", "_law_e", "_law_own"]
abbrev psTold : List Str := ["_law_basket", "_law_matter", "_law_lone", "_law_mate", "_law_shifts", "_law_named"]
theorem scTold : FnScope nTold psTold (defScope sTold) := ⟨rfl, rfl, rfl, by decide +kernel, rfl, by decide +kernel, by decide +kernel⟩
section
variable {P : Program} {w : World} {K : PySem.W.Frag} {mg : Str → Option Value} {base : Heap} {f C D cG cW cC : Addr} {fd : FuncData} {ad bd : Nat → Addr}
theorem hab_b5 (F : FunN K "habit" sHabit f fd) : Binds K fd psTwo [] := by
  obtain ⟨ds, h1, h2⟩ := F.binds1 (ps := psTwo) 5 1 (by simp) rfl (fun T kV doc pm an cdv ct us its l1 l2 => by
      match us, its, l1, l2 with
      | [_, _, _, _, _], [_], _, _ => exact ⟨_, rfl, rfl⟩)
  cases h1
  exact h2
theorem hab_ko (F : FunN K "habit" sHabit f fd) : ∃ its : List Value, KBn K fd psTwo 0 ["other", "changes", "one", "gathering", "thing"] (fun us ws => gHo us its ws) (fun vs zs => gHo vs [.non] zs) :=
  F.kbindsD 0 _ gHo (by simp) gHo_rel (fun T kV doc pm an cdv ct us its ws l1 l2 l3 => by
      match us, its, ws, l1, l2, l3 with
      | [], [_], [_, _, _, _, _], _, _, _ => exact ⟨_, rfl, rfl⟩)
def spTold (K : PySem.W.Frag) (C D : Addr) : Sp := fun vs H Q _ => ∃ g z a b v named n, vs = [g, z, a, b, v, .bl named] ∧ TellR K C D H g z a b v n ∧ ∀ (p : Addr) (H' : Hp), Same H H' → H' p = some (.tup [.str (ansN n), ansV n]) → Q (.ref p) H'
theorem ok_told (F : Fun K "_law_told" "_law_told" sTold f fd) (B : Bi mg) (G : SortG mg ad bd) (TW : OwnX K mg "NoWord" "word" cW) (TC : OwnX K mg "NoChanges" "place" cC) (TN : OwnN K mg "NoGathering" cG) (HC : HdC K cG cW cC) (SG : SortC K ad bd cG 11) (EW0 : ErrC K ad bd cW 0) (EC1 : ErrC K ad bd cC 1)
    (hH : HasHbX P w K mg base C D cG cW cC) (hS : HasT P w K mg base "_law_sort" 1 ["_law_e"] (spSort K ad bd)) :
    FnOk P w K mg base CX0 9 f fd psTold (spTold K C D) := by
  obtain ⟨fA, fdA, FA, mA, NA⟩ := hH
  have bA := hab_b5 NA
  obtain ⟨itK, kK⟩ := hab_ko NA
  refine F.ok scTold (fun vs H Q E h => ?_) (fun cdv A outer s H vs Q E hr h => ?_)
  · obtain ⟨g, z, a, b, v, named, n, rfl, _⟩ := h
    rfl
  · obtain ⟨g, z, a, b, v, named, n, rfl, hT, q⟩ := h
    have rH : ∀ a : Addr, L2H.RoomH 8 ((A.deeper (envOfC "_law_told" (defScope sTold) s.heap.objs.size f cdv)).mark (some (.ref a))) := fun a => ⟨hr.dp, hr.un⟩
    refine ⟨_, pss_cons (ps_tryE (l := [(fun cls => PySem.W.exmOne K cls (.ref cG), tAs 6 (suG K ad bd)), (fun cls => PySem.W.exmOne K cls (.ref cW), tAs 6 (suE K ad bd "word")), (fun cls => PySem.W.exmOne K cls (.ref cC), tAs 6 (suE K ad bd "place"))]) rfl rfl rfl scTold.nd takes_noN
      (fun W pn xe tk po => pss_one (ps_if (pt_val (pv 5)) (pss_one (ps_expr (pe_callN0 FA hr rfl mA NA.kp kK (passU (n := 8) tk rfl) (pk_cons (pv 3) (pk_cons (pv 4) (pk_cons (pv 2) (pk_cons (pv 0) (pk_cons (pv 1) pk_nil))))))))
        (pss_one (ps_expr (pe_call FA hr rfl mA NA.kp bA .nil (passU (n := 8) tk rfl) (pa_cons (pv 0) (pa_cons (pv 1) (pa_cons (pv 2) (pa_cons (pv 3) (pa_cons (pv 4) pa_nil))))))))))
      (.as (i := 6) rfl rfl (test_one ⟨by rfl, by decide, .inl TN.gC⟩) (fun a pn =>
        pss_cons (ps_set (i := 7) scTold.nd rfl (.inl rfl) (pe_and (pe_callB call_isX (by rfl) B.isi (by decide +kernel) (pa_cons (pv 6) (pa_cons (pe_glob (v := .ref (bd 1)) (by rfl) (G.bas 1 (by decide)) rfl (by decide)) pa_nil))) (pe_and (pe_callB call_isX (by rfl) B.isi (by decide +kernel) (pa_cons (pv 6) (pa_cons (pe_bltn (v := .ty "LookupError") (by rfl) G.le (by decide +kernel) rfl) pa_nil)))
            (pe_one (pe_not (pe_callB call_isXT (by rfl) B.isi (by decide +kernel) (pa_cons (pv 6) (pa_cons (pe_tup (pa_cons (pe_glob (v := .ref (bd 0)) (by rfl) (G.bas 0 (by decide)) rfl (by decide)) (pa_cons (pe_glob (v := .ref (bd 2)) (by rfl) (G.bas 2 (by decide)) rfl (by decide)) pa_nil))) pa_nil)))))))) 
        (pss_one (ps_ret (pe_tup (pa_cons (pe_ix ix_list (pe_lst (pa_cons pe_str (pa_cons pe_str pa_nil))) (pe_callTy call_int1 (by rfl) B.int (by decide +kernel) (pa_cons (pe_and (pv 7) (pe_one (pe_not (pe_callB call_isXT (by rfl) B.isi (by decide +kernel) (pa_cons (pv 6) (pa_cons (pe_tup (pa_cons (pe_glob (v := .ref (ad 9)) (by rfl) (G.own 9 (by decide)) rfl (by decide)) (pa_cons (pe_glob (v := .ref (ad 10)) (by rfl) (G.own 10 (by decide)) rfl (by decide)) (pa_cons (pe_glob (v := .ref (ad 12)) (by rfl) (G.own 12 (by decide)) rfl (by decide)) pa_nil)))) pa_nil)))))) pa_nil)) (fun _ _ => rfl)) (pa_cons pe_non pa_nil))))))
      (.as (i := 6) rfl rfl (test_one ⟨by rfl, by decide, .inl TW.gC⟩) (fun a pn => pss_one (ps_ret (pe_tup (pa_cons (pe_ht hS (rH a) rfl (pa_cons (pv 6) pa_nil)) (pa_cons (Wl.pe_xf (pv 6)) pa_nil)))))
      (.as (i := 6) rfl rfl (test_one ⟨by rfl, by decide, .inl TC.gC⟩) (fun a pn => pss_one (ps_ret (pe_tup (pa_cons (pe_ht hS (rH a) rfl (pa_cons (pv 6) pa_nil)) (pa_cons (Wl.pe_xf (pv 6)) pa_nil))))) .nil))))
      (pss_one (ps_ret (pe_tup (pa_cons pe_str (pa_cons pe_non pa_nil))))), ?_⟩
    have all : ∀ {W : WX} {Dn : Ends} {m : Rsn}, n = some m → Dn.rt = Q → W = wCls (fun _ _ _ _ => False) Dn [(fun cls => PySem.W.exmOne K cls (.ref cG), tAs 6 (suG K ad bd)), (fun cls => PySem.W.exmOne K cls (.ref cW), tAs 6 (suE K ad bd "word")), (fun cls => PySem.W.exmOne K cls (.ref cC), tAs 6 (suE K ad bd "place"))] → RefE cG cW cC H (EW 8 W) m := by
      intro W Dn m hn hD hW
      subst hn hW hD
      cases m with
      | gath => exact fun H1 s1 σ hl => ⟨true, HC.gg, fun _ a ha => suG_read SG hl s1 ha (fun p H' s' e => q p H' s' e), fun z => by cases z⟩
      | word u => exact fun d H1 s1 e σ hl => ⟨false, HC.wg, fun z => (by cases z), fun _ => ⟨true, HC.ww, fun _ a ha => suE_read EW0 (by decide) TW.no hl s1 e ha (fun p H' s' e => q p H' s' e), fun z => by cases z⟩⟩
      | chs o => exact fun d H1 s1 e σ hl => ⟨false, HC.cg, fun z => (by cases z), fun _ => ⟨false, HC.cw, fun z => (by cases z), fun _ => ⟨true, HC.cc, fun _ a ha => suE_read EC1 (by decide) TC.no hl s1 e ha (fun p H' s' e => q p H' s' e), fun z => by cases z⟩⟩⟩
    have fin : ∀ {H1 : Hp}, n = none → Same H H1 → (∀ p, H1 p = none → Q (.ref p) (upd H1 p (.tup [.str "taken", .non]))) := by
      intro H1 e1 s1 p hp
      subst e1
      exact q p _ (s1.trans (same_new hp)) upd_same
    refine ⟨_, rfl, named, rfl, ?_⟩
    cases named with
    | true =>
      refine iteT ⟨_, rfl, _, rfl, _, rfl, _, rfl, _, rfl, rfl, rfl, ?_⟩
      cases n with
      | none =>
        obtain ⟨p, r, zz, aa, bb, chs, rfl, rfl, rfl, rfl, hG, hok, h60, hz, ha, hb, hv, okc, hne⟩ := hT
        exact .inl ⟨p, r, zz, aa, bb, v, chs, rfl, hG, hok, h60, hz, ha, hb, hv, okc, hne, fun t h H1 s1 _ _ => ⟨lz, fun p hp => fin rfl s1 p hp⟩⟩
      | some m => exact .inr ⟨g, z, a, b, v, m, rfl, hT, all rfl rfl rfl⟩
    | false =>
      refine iteF ⟨_, rfl, _, rfl, _, rfl, _, rfl, _, rfl, ?_⟩
      cases n with
      | none =>
        obtain ⟨p, r, zz, aa, bb, chs, rfl, rfl, rfl, rfl, hG, hok, h60, hz, ha, hb, hv, okc, hne⟩ := hT
        exact .inl ⟨p, r, zz, aa, bb, v, chs, rfl, hG, hok, h60, hz, ha, hb, hv, okc, hne, fun t h H1 s1 _ _ => ⟨lz, fun p hp => fin rfl s1 p hp⟩⟩
      | some m => exact .inr ⟨g, z, a, b, v, m, rfl, hT, all rfl rfl rfl⟩
end
end Wl

/-! repr of data of any depth: a text that the data alone says. -/
namespace Wl
open PySem PySem.Spec PyProof.Rows L2
/-- data that can be shown -/
structure Shows (d : PyData) : Prop where
  lay : PyData.canLay0 d = true
  deep : d.depth ≤ 8
  wgt : d.weight ≤ 2 ^ 20
  sh : d.showable = true
  ish : d.intsShort 13 = true
theorem Shows.size {d : PyData} (h : Shows d) : d.shown.length ≤ sizeLine := by
  have h1 : PyData.layable0 d = true := by
    show (PyData.canLay0 d && decide (PyData.depth d ≤ 64) && decide (PyData.weight d ≤ 2 ^ 20)) = true
    rw [h.lay, decide_eq_true (Nat.le_trans h.deep (by decide)), decide_eq_true h.wgt]
    rfl
  exact Nat.le_trans (shown_le13 h1 h.ish) (by decide)
section
variable {X : Cx}
def rReprD (K : PySem.W.Frag) : List V → Hp → VK → Prop := fun xs H Q => ∃ (a : Addr) (d : PyData), xs = [V.ref a] ∧ Dp K H (.ref a) d ∧ Shows d ∧ Q (.str d.shown) H
theorem cr_reprD (hg : X.A.guards = some []) (hu : X.A.units + 64 < cLine) : CallR X (.builtin "repr") (rReprD X.K) := by
  intro pins s σ H xs us Q I r h
  obtain ⟨a, d, rfl, hd, hs, q⟩ := h
  rw [Vals.ref1 r]
  obtain ⟨as, r1⟩ := Dp.reads I d (.ref a) (.ref a) hd rfl
  have := hs.deep
  refine repr_of_reads' r1 hs.sh (PyData.noDict_hsm (PyData.hasDict_of_canLay d hs.lay)) hg (by omega) (fun _ _ e => e) (fun h' u tk hk => ?_) hs.size
  exact ⟨.str _, H, I.kept hk, ⟨u, rfl⟩, q⟩
end
end Wl

/-! repr of a pair (text, thing): the thing data, or an empty dict, by itself or in a tuple. x.upper() of a text. -/
namespace Wl
open PySem PySem.Spec PyProof.Rows L2
/-- d is what v holds -/
def RepV (K : PySem.W.Frag) (H : Hp) (v : V) (d : PyData) : Prop := (d.hasDict = false ∧ Dp K H v d) ∨ (∃ p, v = .ref p ∧ H p = some (.dK []) ∧ d = .dict []) ∨ ∃ p q, v = .ref p ∧ H p = some (.tup [.ref q]) ∧ H q = some (.dK []) ∧ d = .tuple [.dict []]
/-- the pair can be shown -/
structure ShowsP (nm : Str) (d : PyData) : Prop where
  sh : (PyData.tuple [.str nm, d]).showable = true
  deep : (PyData.tuple [.str nm, d]).depth ≤ 8
  size : (PyData.tuple [.str nm, d]).shown.length ≤ sizeLine
theorem ShowsP.of {nm : Str} {d : PyData} (h : Shows (.tuple [.str nm, d])) : ShowsP nm d := ⟨h.sh, h.deep, h.size⟩
section
variable {X : Cx} {pins : List (Addr × Obj)} {σ : L2.St} {H : Hp} {s : Shared}
theorem edict_reads (I : Inv X pins σ H s) {p : Addr} (h : H p = some (.dK [])) : Reads s.heap (.ref p) (.dict []) (p :: [] ++ []) ∧ p ≠ sysModules := by
  obtain ⟨_, hs, vs, kv, o, es, ep, ho, hx, hd, _, hp, _⟩ := I.hok p _ h
  cases kv
  have he : es.toList = [] := by
    generalize es.toList = l at hp
    cases hp
    rfl
  refine ⟨Reads.dict ho hx.1 hd ?_ ?_, fun e => ?_⟩
  · rw [he]
    exact ReadsAll.nil
  · rw [he]
    exact ReadsAll.nil
  · rw [e] at hs
    exact absurd hs (by decide)
theorem RepV.reads (I : Inv X pins σ H s) {v : V} {u : Value} {d : PyData} (h : RepV X.K H v d) (r : RelV v u) : ∃ as, Reads s.heap u d as ∧ (d.hasDict = true → sysModules ∉ as) := by
  rcases h with ⟨hd, h⟩ | ⟨p, rfl, hp, rfl⟩ | ⟨p, q, rfl, hp, hq, rfl⟩
  · obtain ⟨as, r1⟩ := Dp.reads I d v u h r
    exact ⟨as, r1, fun z => by rw [hd] at z; cases z⟩
  · cases (show u = Value.ref p from r)
    obtain ⟨r1, ne⟩ := edict_reads I hp
    exact ⟨_, r1, fun _ => by simpa using Ne.symm ne⟩
  · cases (show u = Value.ref p from r)
    obtain ⟨r1, ne⟩ := edict_reads I hq
    obtain ⟨z, its, rv, ⟨o, ho, hc, n, hdat⟩⟩ := I.hok p _ hp
    cases rv with
    | cons rq rn =>
      cases rn
      cases rq
      exact ⟨_, Reads.tuple ho hc hdat (ReadsAll.cons r1 ReadsAll.nil), fun _ => by simpa using Ne.symm ne⟩
def rReprP (K : PySem.W.Frag) : List V → Hp → VK → Prop := fun xs H Q => ∃ (a : Addr) (nm : Str) (v : V) (d : PyData), xs = [V.ref a] ∧ H a = some (.tup [.str nm, v]) ∧ RepV K H v d ∧ ShowsP nm d ∧ Q (.str (PyData.tuple [.str nm, d]).shown) H
theorem cr_reprP (hg : X.A.guards = some []) (hu : X.A.units + 64 < cLine) : CallR X (.builtin "repr") (rReprP X.K) := by
  intro pins s σ H xs us Q I r h
  obtain ⟨a, nm, v, d, rfl, ha, hv, hs, q⟩ := h
  rw [Vals.ref1 r]
  obtain ⟨z, its, rv, ⟨o, ho, hc, n, hdat⟩⟩ := I.hok a _ ha
  cases rv with
  | cons rn rv =>
    cases rv with
    | cons rx rv =>
      cases rv
      obtain ⟨t, rfl⟩ := rn
      obtain ⟨as, r1, hsm⟩ := hv.reads I rx
      have r2 := Reads.tuple ho hc hdat (ReadsAll.cons (Reads.str nm t) (ReadsAll.cons r1 ReadsAll.nil))
      have := hs.deep
      refine repr_of_reads' r2 hs.sh (fun z => ?_) hg (by omega) (fun _ _ e => e) (fun h' u tk hk => ?_) hs.size
      · have z2 : d.hasDict = true := by simpa [PyData.hasDict, PyData.hasDictAll] using z
        simpa using hsm z2
      · exact ⟨.str _, H, I.kept hk, ⟨u, rfl⟩, q⟩
end
section
variable {X : Cx}
def tUp (te : TE) : TE := fun σ H Q => te σ H fun x H1 => ∃ z, x = .str z ∧ z.length ≤ 5592405 ∧ Q (.str (Txt.upper z)) H1
theorem pe_upper {o : Expr} {te : TE} {p1 p2 : Pos} (he : PE X o te) (hb : attributeBase o "upper" X.env (eval o X.env) = eval o X.env := by rfl) (hl : (p1.endLine == p2.line) = true := by rfl) : PE X (.Call (.Attribute o "upper" p1) [] [] p2) (tUp te) := by
  refine ⟨fun pins s σ H Q I h => ?_⟩
  refine J1.ev_upper hb hl (thn (he.run pins s σ H _ I h) fun u s1 hh => ?_)
  obtain ⟨x, H1, I1, rx, z, rfl, hz, q⟩ := hh
  obtain ⟨t, rfl⟩ := rx
  exact ⟨z, t, rfl, hz, fun t' k => ⟨.str _, H1, I1.tok _, ⟨t', rfl⟩, q⟩⟩
theorem upper_wd {z : Str} (h : IsWd z) : (Txt.upper z).length = z.length ∧ wdB (Txt.upper z) = false := by
  have h0 : wdB z = true := h
  unfold wdB at h0
  simp only [Bool.and_eq_true, decide_eq_true_eq, List.all_eq_true] at h0
  obtain ⟨⟨h1, h2⟩, h3⟩ := h0
  have e : Txt.upper z = ⟨z.cps.map PyProof.Rows.up1⟩ := PyProof.Rows.upper_ascii fun c hc => by
    have := h3 c hc
    omega
  rw [e]
  have l : (Str.mk (z.cps.map PyProof.Rows.up1)).length = z.length := by
    show (z.cps.map PyProof.Rows.up1).size = z.cps.size
    exact Array.size_map ..
  refine ⟨l, ?_⟩
  unfold wdB
  have : (((Str.mk (z.cps.map PyProof.Rows.up1)).cps.toList.all fun c => decide (97 ≤ c) && decide (c ≤ 122))) = false := by
    rw [Array.toList_map]
    have hne : z.cps.toList ≠ [] := fun q => by
      have h1 : 1 ≤ z.cps.size := h1
      rw [← Array.length_toList] at h1
      rw [q] at h1
      simp at h1
    cases ez : z.cps.toList with
    | nil => exact absurd ez hne
    | cons c r =>
      have := h3 c (by rw [ez]; exact List.mem_cons_self)
      rw [List.map_cons, List.all_cons]
      have : PyProof.Rows.up1 c = c - 32 := by
        unfold PyProof.Rows.up1
        rw [if_pos this]
      rw [this]
      have : decide (97 ≤ c - 32) = false := decide_eq_false (by omega)
      rw [this]
      rfl
  rw [this, Bool.and_false]
end
end Wl

/-! d == e of two dicts of the same texts, their values told by data. -/
namespace Wl
open PySem PySem.Spec PyProof.Rows L2
def rEqDT (K : PySem.W.Frag) : R2 := fun x y H Q => ∃ (a b : Addr) (nms : List Str) (f g : Str → V) (fd gd : Str → PyData), x = .ref a ∧ y = .ref b ∧ H a = some (.dK (kvZ f nms)) ∧ H b = some (.dK (kvZ g nms)) ∧
  (∀ z ∈ nms, Dp K H (f z) (fd z) ∧ Dp K H (g z) (gd z) ∧ (fd z).canLay0 = true ∧ (gd z).canLay0 = true ∧ (fd z).depth ≤ 3) ∧ Q (.bl (nms.all fun z => PyData.eqv (fd z) (gd z))) H
theorem kv_mem {f : Str → V} : ∀ {nms : List Str} {va : List (Key × Value)}, KV (kvZ f nms) va → ∀ {k : Key} {v : Value}, (k, v) ∈ va → ∃ z ∈ nms, k = Sum.inr z ∧ RelV (f z) v
  | [], va, r, k, v, h => by
    cases r
    cases h
  | z :: nms, va, r, k, v, h => by
    have r' : Paired (fun (p : Key × V) (q : Key × Value) => p.1 = q.1 ∧ RelV p.2 q.2) ((Sum.inr z, f z) :: kvZ f nms) va := r
    cases r' with
    | cons e t =>
      rcases List.mem_cons.mp h with h1 | h1
      · obtain ⟨e1, e2⟩ := e
        rw [← h1] at e1 e2
        exact ⟨z, List.mem_cons_self, e1.symm, e2⟩
      · obtain ⟨y, hy, q⟩ := kv_mem (f := f) (nms := nms) t h1
        exact ⟨y, List.mem_cons_of_mem _ hy, q⟩
theorem kv_keys {f : Str → V} : ∀ {nms : List Str} {va : List (Key × Value)}, KV (kvZ f nms) va → va.map (·.1) = nms.map Sum.inr
  | [], va, r => by
    cases r
    rfl
  | z :: nms, va, r => by
    have r' : Paired (fun (p : Key × V) (q : Key × Value) => p.1 = q.1 ∧ RelV p.2 q.2) ((Sum.inr z, f z) :: kvZ f nms) va := r
    cases r' with
    | cons e t =>
      rw [List.map_cons, List.map_cons, kv_keys (f := f) (nms := nms) t, ← e.1]
section
variable {X : Cx}
theorem op_eqDT (hu : X.A.units + 64 < cLine) : OpR X (compareOp .Eq) (rEqDT X.K) := by
  intro pins s σ H x y v u Q I rx ry h
  obtain ⟨a, b, nms, f, g, fd, gd, rfl, rfl, ea, eb, hv, q⟩ := h
  obtain rfl : v = Value.ref a := rx
  obtain rfl : u = Value.ref b := ry
  obtain ⟨_, ya, va, ra, da⟩ := (show ObjOk X.prog X.w H s.heap a (.dK (kvZ f nms)) from I.hok a _ ea)
  obtain ⟨_, yb, vb, rb, db⟩ := (show ObjOk X.prog X.w H s.heap b (.dK (kvZ g nms)) from I.hok b _ eb)
  let e : Key → Bool := fun k => match k with
    | .inl _ => true
    | .inr z => PyData.eqv (fd z) (gd z)
  refine PySem.W.eq_dictsT (knd := mixKind X.prog X.w) (n := 3) (e := e) ya yb da db (fun k v' y' hm hva => ?_) (by omega) ?_
  · obtain ⟨z, hz, rfl, rv⟩ := kv_mem ra hm
    have rr := rb.val (Sum.inr z : Key)
    rw [valV_in hz] at rr
    obtain ⟨y2, hy2, ry2⟩ := rr.some_of
    rw [hva] at hy2
    obtain rfl := Option.some.inj hy2
    obtain ⟨d1, d2, c1, c2, dp⟩ := hv z hz
    obtain ⟨as, r1⟩ := Dp.reads I _ _ _ d1 rv
    obtain ⟨bs, r2⟩ := Dp.reads I _ _ _ d2 ry2
    exact .leaf fun A hA => SeqAt.eqAt_reads _ _ A s _ _ _ _ r1 r2 c1 c2 (by
      have := Nat.min_le_left (fd z).depth (gd z).depth
      omega)
  · have e1 : va.length = nms.length := by
      have := congrArg List.length (kv_keys ra)
      simpa using this
    have e2 : vb.length = nms.length := by
      have := congrArg List.length (kv_keys rb)
      simpa using this
    have e3 : (va.all fun p => (valueAt vb p.1).isSome && e p.1) = nms.all fun z => PyData.eqv (fd z) (gd z) := by
      have h1 : (va.all fun p => (valueAt vb p.1).isSome && e p.1) = (va.map (·.1)).all fun k => (valueAt vb k).isSome && e k := by
        rw [List.all_map]
        rfl
      rw [h1, kv_keys ra, List.all_map, Bool.eq_iff_iff, List.all_eq_true, List.all_eq_true]
      have sm : ∀ z ∈ nms, (valueAt vb (Sum.inr z : Key)).isSome = true := fun z hz => by
        have rr := rb.val (Sum.inr z : Key)
        rw [valV_in hz] at rr
        obtain ⟨y2, hy2, _⟩ := rr.some_of
        rw [hy2]
        rfl
      constructor
      · intro h z hz
        have := h z hz
        simp only [Function.comp, Bool.and_eq_true] at this
        exact this.2
      · intro h z hz
        simp only [Function.comp, Bool.and_eq_true]
        exact ⟨sm z hz, h z hz⟩
    rw [e3, e1, e2]
    refine ⟨.bl _, H, I, ?_, q⟩
    show _ = Value.bool _
    simp
end
end Wl

/-! v == v: a thing beside itself, data or a dict of texts with data. -/
namespace Wl
open PySem PySem.Spec PyProof.Rows L2
def SelfV (K : PySem.W.Frag) (H : Hp) (v : V) : Prop := (∃ d, Dp K H v d ∧ SeqAt.shaped d = true) ∨
  ∃ (p : Addr) (nms : List Str) (g : Str → V) (gd : Str → PyData), v = .ref p ∧ H p = some (.dK (kvZ g nms)) ∧ ∀ z ∈ nms, Dp K H (g z) (gd z) ∧ (gd z).canLay0 = true ∧ (gd z).depth ≤ 3
def rEqSelf (K : PySem.W.Frag) : R2 := fun x y H Q => x = y ∧ SelfV K H x ∧ Q (.bl true) H
theorem op_eqSelf {X : Cx} (hu : X.A.units + 64 < cLine) : OpR X (compareOp .Eq) (rEqSelf X.K) := by
  intro pins s σ H x y v u Q I rx ry h
  obtain ⟨rfl, h | h, q⟩ := h
  · obtain ⟨d, hd, sd⟩ := h
    refine op_eqD hu pins s σ H x x v u Q I rx ry ⟨d, d, hd, hd, sd, sd, ?_⟩
    rw [SeqAt.eqv_refl _ (SeqAt.canLay_of_shaped sd)]
    exact q
  · obtain ⟨p, nms, g, gd, rfl, hp, hz⟩ := h
    refine op_eqDT hu pins s σ H _ _ v u Q I rx ry ⟨p, p, nms, g, g, gd, gd, rfl, rfl, hp, hp, fun z hm => ?_, ?_⟩
    · obtain ⟨h1, h2, h3⟩ := hz z hm
      exact ⟨h1, h1, h2, h2, h3⟩
    · have : (nms.all fun z => PyData.eqv (gd z) (gd z)) = true := List.all_eq_true.mpr fun z hm => SeqAt.eqv_refl _ (hz z hm).2.1
      rw [this]
      exact q
end Wl

/-! Data of any depth under a heap that grows; a heap with one object left out. -/
namespace Wl
open PySem PySem.Spec PyProof.Rows L2
mutual
theorem dp_same {K : PySem.W.Frag} {H H' : Hp} (s : Same H H') : ∀ {v : V} {d : PyData}, Dp K H v d → Dp K H' v d
  | _, _, .non => .non
  | _, _, .bl b => .bl b
  | _, _, .int i => .int i
  | _, _, .str x => .str x
  | _, _, .lst h t => .lst (s.seq h) (dpAll_same s t)
  | _, _, .tup h t => .tup (tup_same s h) (dpAll_same s t)
theorem dpAll_same {K : PySem.W.Frag} {H H' : Hp} (s : Same H H') : ∀ {vs : List V} {ds : List PyData}, DpAll K H vs ds → DpAll K H' vs ds
  | _, _, .nil => .nil
  | _, _, .cons r t => .cons (dp_same s r) (dpAll_same s t)
end
theorem SelfV.same {K : PySem.W.Frag} {H H' : Hp} {v : V} (h : SelfV K H v) (s : Same H H') : SelfV K H' v := by
  rcases h with ⟨d, h1, h2⟩ | ⟨p, nms, g, gd, e, hp, hz⟩
  · exact .inl ⟨d, dp_same s h1, h2⟩
  · exact .inr ⟨p, nms, g, gd, e, s _ _ hp, fun z hm => ⟨dp_same s (hz z hm).1, (hz z hm).2⟩⟩
/-- new behind, new ahead -/
theorem hq_of {H H' : Hp} {p : Addr} (s : Same H H') (h : H' p = none) : H p = none := by
  cases q : H p with
  | none => rfl
  | some o =>
    rw [s p o q] at h
    cases h
/-- H without what stands at a -/
def hid (a : Addr) (H : Hp) : Hp := fun b => if b = a then none else H b
theorem hid_same {a : Addr} {H : Hp} : Same (hid a H) H := fun b o e => by
  unfold hid at e
  by_cases h : b = a
  · rw [if_pos h] at e
    cases e
  · rw [if_neg h] at e
    exact e
theorem hid_x {a : Addr} {H H' : Hp} (s : SameX a H H') : Same (hid a H) (hid a H') := fun b o e => by
  unfold hid at e ⊢
  by_cases h : b = a
  · rw [if_pos h] at e
    cases e
  · rw [if_neg h] at e ⊢
    exact s b o h e
theorem hid_at {a p : Addr} {H : Hp} {o : HO} (h : H p = some o) (hne : p ≠ a) : hid a H p = some o := by
  unfold hid
  rw [if_neg hne]
  exact h
/-- what H' has that H has not -/
def newH (H H' : Hp) : Hp := fun p => match H p with
  | none => H' p
  | some _ => none
theorem new_at {H H' : Hp} {p : Addr} {o : HO} (hn : H p = none) (h : H' p = some o) : newH H H' p = some o := by
  unfold newH
  rw [hn]
  exact h
theorem new_hid {H H' : Hp} {a : Addr} {o : HO} (h : H a = some o) : Same (newH H H') (hid a H') := fun p u e => by
  unfold newH at e
  cases q : H p with
  | some _ =>
    rw [q] at e
    cases e
  | none =>
    rw [q] at e
    exact hid_at e fun z => by
      rw [z, h] at q
      cases q
end Wl

/-! Displays of things that G tells of, whatever they are, while I stands. -/
namespace Wl
open PySem PySem.Spec PyProof.Rows L2
/-- G and I bear a growing heap -/
def Grows (G : Hp → V → Prop) : Prop := ∀ (H H' : Hp) (v : V), G H v → Same H H' → G H' v
def GrowsH (I : Hp → Prop) : Prop := ∀ (H H' : Hp), I H → Same H H' → I H'
def Bld (σ : L2.St) (I : Hp → Prop) (G : Hp → V → Prop) (te : TE) : Prop := ∀ (H : Hp) (Q : VK), I H → (∀ v H', Same H H' → G H' v → Q v H') → te σ H Q
def BldA (σ : L2.St) (I : Hp → Prop) (G : Hp → V → Prop) (n : Nat) (ta : TA) : Prop := ∀ (H : Hp) (Q : List V → Hp → Prop), I H → (∀ vs H', Same H H' → vs.length = n → (∀ v ∈ vs, G H' v) → Q vs H') → ta σ H Q
section
variable {σ : L2.St} {I : Hp → Prop} {G : Hp → V → Prop} {te : TE} {ta : TA} {n : Nat}
theorem bld_nil : BldA σ I G 0 tNil := fun H Q _ q => q [] H (Same.refl H) rfl (fun v hv => by cases hv)
theorem bld_cons (gI : GrowsH I) (gG : Grows G) (h : Bld σ I G te) (k : BldA σ I G n ta) : BldA σ I G (n + 1) (tCons te ta) := fun H Q i q => h H _ i fun v H1 s1 g1 => k H1 _ (gI _ _ i s1) fun vs H2 s2 l2 g2 => q (v :: vs) H2 (s1.trans s2) (by rw [List.length_cons, l2]) (fun u hu => by
  rcases List.mem_cons.mp hu with rfl | hu
  · exact gG _ _ _ g1 s2
  · exact g2 u hu)
/-- a constant -/
theorem bld_c {v : V} (h : ∀ H, I H → G H v) : Bld σ I G (tC v) := fun H Q i q => q v H (Same.refl H) (h H i)
/-- a display of such, as a new list -/
theorem bld_lst (gG : Grows G) (h : BldA σ I G n ta) (hn : n ≤ 1000) {H : Hp} {Q : VK} (i : I H) (q : ∀ p vs H', Same H H' → H p = none → H' p = some (.lst vs) → vs.length = n → (∀ v ∈ vs, G H' v) → Q (.ref p) H') : tLst ta σ H Q :=
  h H _ i fun vs H1 s1 l1 g1 => ⟨lzl (by omega), fun p hp => q p vs _ (s1.trans (same_new hp)) (hq_of s1 hp) upd_same l1 fun v hv => gG _ _ _ (g1 v hv) (same_new hp)⟩
/-- xs + [..] -/
theorem bld_cat (gI : GrowsH I) (gG : Grows G) {i0 m : Nat} (h : BldA σ I G n ta) (hn : n + m ≤ 1000) {H : Hp} {Q : VK} {p : Addr} {xs : List V} (i : I H) (hσ : σ[i0]? = some (some (.ref p))) (hp : H p = some (.lst xs)) (hm : xs.length = m) (hg : ∀ v ∈ xs, G H v)
    (q : ∀ r vs H', Same H H' → H r = none → H' r = some (.lst vs) → vs.length = m + n → (∀ v ∈ vs, G H' v) → Q (.ref r) H') : tOp rCat (tVar i0) (tLst ta) σ H Q := by
  refine ⟨_, hσ, bld_lst (n := n) gG h (by omega) i fun r vs H1 s1 n1 e1 l1 g1 => ⟨p, r, xs, vs, rfl, rfl, s1 _ _ hp, e1, lzl (by omega), fun t ht => ?_⟩⟩
  refine q t (xs ++ vs) _ (s1.trans (same_new ht)) (hq_of s1 ht) upd_same (by rw [List.length_append, hm, l1]) fun v hv => ?_
  rcases List.mem_append.mp hv with hv | hv
  · exact gG _ _ _ (hg v hv) (s1.trans (same_new ht))
  · exact gG _ _ _ (g1 v hv) (same_new ht)
/-- what a display's parts are, all at once -/
def BldX (σ : L2.St) (I : Hp → Prop) (R : Hp → List V → Prop) (ta : TA) : Prop := ∀ (H : Hp) (Q : List V → Hp → Prop), I H → (∀ xs H', Same H H' → I H' → R H' xs → Q xs H') → ta σ H Q
theorem bldx_c {xs : List V} (h : ∀ (H : Hp) (Q : List V → Hp → Prop), Q xs H → ta σ H Q) : BldX σ I (fun _ ys => ys = xs) ta := fun H Q i q => h H Q (q xs H (Same.refl H) i rfl)
theorem bld_tup {R : Hp → List V → Prop} (ht : BldX σ I R ta) (hl : ∀ H xs, R H xs → xs.length ≤ 1000) (g : ∀ (H : Hp) (p : Addr) (xs : List V), I H → R H xs → H p = none → G (upd H p (.tup xs)) (.ref p)) : Bld σ I G (tTup ta) := fun H Q i q =>
  ht H _ i fun xs H1 s1 i1 r1 => ⟨lzl (hl _ _ r1), fun p hp => q (.ref p) _ (s1.trans (same_new hp)) (g H1 p xs i1 r1 hp)⟩
theorem bld_lstX {R : Hp → List V → Prop} (ht : BldX σ I R ta) (hl : ∀ H xs, R H xs → xs.length ≤ 1000) (g : ∀ (H : Hp) (p : Addr) (xs : List V), I H → R H xs → H p = none → G (upd H p (.lst xs)) (.ref p)) : Bld σ I G (tLst ta) := fun H Q i q =>
  ht H _ i fun xs H1 s1 i1 r1 => ⟨lzl (hl _ _ r1), fun p hp => q (.ref p) _ (s1.trans (same_new hp)) (g H1 p xs i1 r1 hp)⟩
end
end Wl

/-! Single steps of a reading, so that the kernel need not unfold what stands in it. -/
namespace Wl
open PySem PySem.Spec PyProof.Rows L2
section
variable {te ta tb : TE} {i : Nat} {B : TS} {D : Ends} {σ : L2.St} {H : Hp} {Q : VK} {r : R2}
theorem st_asg (h : te σ H fun x H1 => B D (σ.set i (some x)) H1) : tSeq (tAsg te (gName i)) B D σ H := h
theorem st_ret (h : te σ H D.rt) : tRet te D σ H := h
theorem st_next (h : D.nx σ H) : tNext D σ H := h
theorem st_nextR {rt : VK} {bk ct : L2.St → Hp → Prop} (h : te σ H D.rt) : tNext { nx := tRet te D, rt := rt, bk := bk, ct := ct } σ H := h
theorem st_op (h : ta σ H fun x H1 => tb σ H1 fun y H2 => r x y H2 Q) : tOp r ta tb σ H Q := h
/-- behind branches: what J says -/
theorem st_join {A : TS} (J : L2.St → Hp → Prop) (h2 : ∀ σ' H', J σ' H' → B D σ' H') (h1 : ∀ D' : Ends, (∀ σ' H', J σ' H' → D'.nx σ' H') → D'.rt = D.rt → A D' σ H) : tSeq A B D σ H := h1 _ (fun σ' H' j => h2 σ' H' j) rfl
end
end Wl

namespace Wl
open PySem PySem.Spec PyProof.Rows L2
abbrev sNoW : Stmt := topS 82
theorem RepV.same {K : PySem.W.Frag} {H H' : Hp} {v : V} {d : PyData} (h : RepV K H v d) (s : Same H H') : RepV K H' v d := by
  rcases h with ⟨h0, h⟩ | ⟨p, e, h, ed⟩ | ⟨p, q, e, h, hq, ed⟩
  · exact .inl ⟨h0, dp_same s h⟩
  · exact .inr (.inl ⟨p, e, s _ _ h, ed⟩)
  · exact .inr (.inr ⟨p, q, e, s _ _ h, s _ _ hq, ed⟩)
/-- v shown in a pair -/
def RepN (K : PySem.W.Frag) (H : Hp) (nm : Str) (v : V) : Prop := ∃ d, RepV K H v d ∧ ShowsP nm d
theorem RepN.same {K : PySem.W.Frag} {H H' : Hp} {nm : Str} {v : V} (h : RepN K H nm v) (s : Same H H') : RepN K H' nm v := by
  obtain ⟨d, h1, h2⟩ := h
  exact ⟨d, h1.same s, h2⟩
/-- no word, as drawn -/
def OddR (K : PySem.W.Frag) (H : Hp) (v : V) : Prop := OddV H v ∧ wvB v = false ∧ RepN K H "word" v
theorem OddR.same {K : PySem.W.Frag} {H H' : Hp} {v : V} (h : OddR K H v) (s : Same H H') : OddR K H' v := ⟨h.1.same s, h.2.1, h.2.2.same s⟩
theorem str_ok8 {y : Str} (h : ∀ c ∈ y.cps.toList, c < 128) : PyData.canLay0 (.str y) = true := by
  show PyData.strOk y = true
  unfold PyData.strOk
  rw [← Array.all_toList, List.all_eq_true]
  intro c hc
  have := h c hc
  exact decide_eq_true (by omega)
theorem shows_s {nm y : Str} (hn : PyData.canLay0 (.str nm) = true) (ln : nm.length ≤ 100) (h : PyData.canLay0 (.str y) = true) (l : y.length ≤ 100) : ShowsP nm (.str y) := by
  refine .of ⟨?_, ?_, ?_, ?_, ?_⟩
  · show (PyData.canLay0 (.str nm) && (PyData.canLay0 (.str y) && true)) = true
    rw [hn, h]
    rfl
  · simp [PyData.depth, PyData.depthAll]
  · have l1 : y.cps.size ≤ 100 := l
    have l2 : nm.cps.size ≤ 100 := ln
    simp only [PyData.weight, PyData.weightAll]
    omega
  · simp [PyData.showable, PyData.showableAll]
  · simp [PyData.intsShort, PyData.intsShortAll]
theorem shows_t {nm y : Str} (hn : PyData.canLay0 (.str nm) = true) (ln : nm.length ≤ 100) (h : PyData.canLay0 (.str y) = true) (l : y.length ≤ 100) : ShowsP nm (.tuple [.str y]) := by
  refine .of ⟨?_, ?_, ?_, ?_, ?_⟩
  · show (PyData.canLay0 (.str nm) && ((PyData.canLay0 (.str y) && true) && true)) = true
    rw [hn, h]
    rfl
  · simp [PyData.depth, PyData.depthAll]
  · have l1 : y.cps.size ≤ 100 := l
    have l2 : nm.cps.size ≤ 100 := ln
    simp only [PyData.weight, PyData.weightAll]
    omega
  · simp [PyData.showable, PyData.showableAll]
  · simp [PyData.intsShort, PyData.intsShortAll]
theorem shows_c {nm : Str} {d : PyData} (h1 : (PyData.tuple [.str nm, d]).showable = true := by decide +kernel) (h2 : Nat.ble (PyData.tuple [.str nm, d]).depth 8 = true := by decide +kernel) (h3 : Nat.ble (PyData.tuple [.str nm, d]).shown.length 1000 = true := by decide +kernel) : ShowsP nm d :=
  ⟨h1, Nat.le_of_ble_eq_true h2, Nat.le_trans (Nat.le_of_ble_eq_true h3) (by rw [sizeLine_eq]; omega)⟩
theorem wd_ascii {z : Str} (h : IsWd z) : ∀ c ∈ z.cps.toList, c < 128 := by
  have h0 : wdB z = true := h
  unfold wdB at h0
  simp only [Bool.and_eq_true, decide_eq_true_eq, List.all_eq_true] at h0
  intro c hc
  have := h0.2 c hc
  omega
theorem nl_wd (z : Str) : wdB (z ++ "\n") = false := by
  unfold wdB
  have : ((z ++ ("\n" : Str)).cps.toList.all fun c => decide (97 ≤ c) && decide (c ≤ 122)) = false := by
    have e : (z ++ ("\n" : Str)).cps.toList = z.cps.toList ++ [10] := by
      show (z.cps ++ ("\n" : Str).cps).toList = _
      rw [Array.toList_append]
      rfl
    rw [e, List.all_append]
    simp
  rw [this, Bool.and_false]
theorem up_ascii {z : Str} (h : IsWd z) : ∀ c ∈ (Txt.upper z).cps.toList, c < 128 := by
  have e : Txt.upper z = ⟨z.cps.map PyProof.Rows.up1⟩ := PyProof.Rows.upper_ascii (wd_ascii h)
  rw [e]
  intro c hc
  rw [Array.toList_map] at hc
  obtain ⟨b, hb, rfl⟩ := List.mem_map.mp hc
  have := wd_ascii h b hb
  unfold PyProof.Rows.up1
  split <;> omega
section
variable {K : PySem.W.Frag} {a : Addr} {σ : L2.St} {H0 : Hp}
/-- since H0 the purse alone is changed -/
abbrev IN (a : Addr) (H0 : Hp) : Hp → Prop := fun H => PurseAt H a ∧ SameX a H0 H
theorem in_grows : GrowsH (IN a H0) := fun _ _ h s => ⟨h.1.same s, h.2.trans (sx s)⟩
theorem new_mono {H H' : Hp} (s : Same H H') : Same (newH H0 H) (newH H0 H') := fun p o e => by
  unfold newH at e ⊢
  cases q : H0 p with
  | none =>
    rw [q] at e
    exact s _ _ e
  | some _ =>
    rw [q] at e
    cases e
theorem in_none {H : Hp} {p : Addr} (i : IN a H0 H) (hp : H p = none) : H0 p = none := by
  cases q : H0 p with
  | none => rfl
  | some o =>
    have := i.2 _ _ (i.1.ne hp) q
    rw [hp] at this
    cases this
theorem nw_at {H : Hp} {p : Addr} {o : HO} (i : IN a H0 H) (hp : H p = none) : newH H0 (upd H p o) p = some o := new_at (in_none i hp) upd_same
theorem OddR.grows : Grows (fun H v => OddR K (newH H0 H) v) := fun _ _ _ h s => h.same (new_mono s)
theorem purse_grows : GrowsH (fun H => PurseAt H a) := fun _ _ h s => h.same s
theorem hid_newP {H : Hp} {p : Addr} {o : HO} (h : PurseAt H a) (hp : H p = none) : hid a (upd H p o) p = some o := hid_at upd_same (h.ne hp)
theorem or_s {H : Hp} {z : Str} (l : Nat.ble z.length 100 = true := by decide +kernel) (hw : wdB z = false := by decide +kernel) (hc : PyData.canLay0 (.str z) = true := by decide +kernel) : OddR K H (.str z) :=
  ⟨.inl ⟨z, rfl, Nat.le_trans (Nat.le_of_ble_eq_true l) (by decide)⟩, hw, _, .inl ⟨rfl, .str z⟩, shows_s (by decide +kernel) (by decide +kernel) hc (Nat.le_of_ble_eq_true l)⟩
theorem or_S {H : Hp} {z : Str} (l : z.length ≤ 100) (hw : wdB z = false) (hc : ∀ c ∈ z.cps.toList, c < 128) : OddR K H (.str z) :=
  ⟨.inl ⟨z, rfl, by omega⟩, hw, _, .inl ⟨rfl, .str z⟩, shows_s (by decide +kernel) (by decide +kernel) (str_ok8 hc) l⟩
theorem or_n {H : Hp} : OddR K H .non := ⟨.inr (.inl rfl), rfl, _, .inl ⟨rfl, .non⟩, shows_c⟩
theorem or_b {H : Hp} : OddR K H (.bl true) := ⟨.inr (.inr (.inl ⟨_, rfl⟩)), rfl, _, .inl ⟨rfl, .bl true⟩, shows_c⟩
theorem or_i {H : Hp} : OddR K H (.int 0) := ⟨.inr (.inr (.inr (.inl ⟨0, rfl⟩))), rfl, _, .inl ⟨rfl, .int 0⟩, shows_c⟩
theorem od_t {H : Hp} {p : Addr} {xs : List V} (h : H p = some (.tup xs)) : OddV H (.ref p) := .inr (.inr (.inr (.inr ⟨p, rfl, .inl ⟨xs, h⟩⟩)))
theorem od_l {H : Hp} {p : Addr} {xs : List V} (h : H p = some (.lst xs)) : OddV H (.ref p) := .inr (.inr (.inr (.inr ⟨p, rfl, .inr (.inl ⟨xs, h⟩)⟩)))
theorem od_d {H : Hp} {p : Addr} (h : H p = some (.dK [])) : OddV H (.ref p) := .inr (.inr (.inr (.inr ⟨p, rfl, .inr (.inr ⟨_, h⟩)⟩)))
theorem bo_t0 : Bld σ (IN a H0) (fun H v => OddR K (newH H0 H) v) (tTup tNil) := fun H Q i q => ⟨lz, fun p hp => q _ _ (same_new hp) ⟨od_t (nw_at i hp), rfl, _, .inl ⟨rfl, .tup (.inl (.inl (nw_at i hp))) .nil⟩, shows_c⟩⟩
theorem bo_l0 : Bld σ (IN a H0) (fun H v => OddR K (newH H0 H) v) (tLst tNil) := fun H Q i q => ⟨lz, fun p hp => q _ _ (same_new hp) ⟨od_l (nw_at i hp), rfl, _, .inl ⟨rfl, .lst (.inl (.inl (nw_at i hp))) .nil⟩, shows_c⟩⟩
theorem bo_l1 : Bld σ (IN a H0) (fun H v => OddR K (newH H0 H) v) (tLst (tCons (tC (.str "a")) tNil)) := fun H Q i q => ⟨lz, fun p hp => q _ _ (same_new hp) ⟨od_l (nw_at i hp), rfl, _, .inl ⟨rfl, .lst (.inl (.inl (nw_at i hp))) (.cons (.str _) .nil)⟩, shows_c⟩⟩
theorem bo_d : Bld σ (IN a H0) (fun H v => OddR K (newH H0 H) v) tDNewK := fun H Q i q d hd => q _ _ (same_new hd) ⟨od_d (nw_at i hd), rfl, _, .inr (.inl ⟨d, rfl, nw_at i hd, rfl⟩), shows_c⟩
theorem bo_td : Bld σ (IN a H0) (fun H v => OddR K (newH H0 H) v) (tTup (tCons tDNewK tNil)) := fun H Q i q d hd => ⟨lz, fun p hp => by
  have i1 : IN a H0 (upd H d (.dK [])) := in_grows _ _ i (same_new hd)
  exact q _ _ ((same_new hd).trans (same_new hp)) ⟨od_t (nw_at i1 hp), rfl, _, .inr (.inr ⟨p, d, rfl, nw_at i1 hp, new_mono (same_new hp) _ _ (nw_at i hd), rfl⟩), shows_c⟩⟩
theorem bo_tz {z : Str} (hz : IsWd z) (h1 : σ[1]? = some (some (.str z))) : Bld σ (IN a H0) (fun H v => OddR K (newH H0 H) v) (tTup (tCons (tVar 1) tNil)) := fun H Q i q => ⟨_, h1, lz, fun p hp =>
  q _ _ (same_new hp) ⟨od_t (nw_at i hp), rfl, _, .inl ⟨rfl, .tup (.inl (.inl (nw_at i hp))) (.cons (.str z) .nil)⟩, shows_t (by decide +kernel) (by decide +kernel) (str_ok8 (wd_ascii hz)) (Nat.le_trans hz.len.2 (by decide))⟩⟩
theorem bo_nl {z : Str} (hz : IsWd z) (h1 : σ[1]? = some (some (.str z))) : Bld σ (IN a H0) (fun H v => OddR K (newH H0 H) v) (tOp (fun x y H Q => ∃ i j, x = .str i ∧ y = .str j ∧ i.length + j.length ≤ sizeLine ∧ Q (.str (i ++ j)) H) (tVar 1) (tC (.str "\n"))) := fun H Q i q => by
  have l8 := hz.len.2
  have l1 : ("\n" : Str).length = 1 := rfl
  have ll : (z ++ ("\n" : Str)).length = z.length + 1 := by
    show (z.cps ++ ("\n" : Str).cps).size = _
    rw [Array.size_append]
    rfl
  refine ⟨_, h1, z, "\n", rfl, rfl, by rw [l1, sizeLine_eq]; omega, q _ _ (Same.refl H) (or_S (by omega) (nl_wd z) fun c hc => ?_)⟩
  have e : (z ++ ("\n" : Str)).cps.toList = z.cps.toList ++ [10] := by
    show (z.cps ++ ("\n" : Str).cps).toList = _
    rw [Array.toList_append]
    rfl
  rw [e] at hc
  rcases List.mem_append.mp hc with hc | hc
  · exact wd_ascii hz c hc
  · rw [List.mem_singleton.mp hc]
    decide
theorem bo_up {z : Str} (hz : IsWd z) (h1 : σ[1]? = some (some (.str z))) : Bld σ (IN a H0) (fun H v => OddR K (newH H0 H) v) (tUp (tVar 1)) := fun H Q i q => by
  have l8 := hz.len.2
  obtain ⟨e1, e2⟩ := upper_wd hz
  exact ⟨_, h1, z, rfl, by omega, q _ _ (Same.refl H) (or_S (by omega) e2 (up_ascii hz))⟩
end
section
variable {P : Program} {w : World} {K : PySem.W.Frag} {mg : Str → Option Value} {base : Heap} {f : Addr} {fd : FuncData}
def spNoW (K : PySem.W.Frag) : Sp := fun vs H Q _ => ∃ a z, vs = [.ref a, .str z] ∧ PurseAt H a ∧ IsWd z ∧ ∀ v H', SameX a H H' → PurseAt H' a → OddR K (newH H H') v → Q v H'
theorem scNoW : FnScope ["_law_purse_here", "_law_said", "_law_some"] ["_law_purse_here", "_law_said"] (defScope sNoW) := ⟨rfl, rfl, rfl, by decide +kernel, rfl, by decide +kernel, by decide +kernel⟩
theorem ok_now (F : Fun K "_law_no_word" "_law_no_word" sNoW f fd) (hP : Has P w K mg base "_law_pick" 1 ["_law_purse_here", "_law_count"] spPick) : FnOk P w K mg base CX0 2 f fd ["_law_purse_here", "_law_said"] (spNoW K) := by
  refine F.ok scNoW (fun vs H Q E h => ?_) (fun cdv A outer s H vs Q E hr h => ?_)
  · obtain ⟨a, z, rfl, _⟩ := h
    rfl
  · obtain ⟨a, z, rfl, hA, hz, q⟩ := h
    refine ⟨_, pss_cons (ps_set (i := 2) scNoW.nd rfl (.inl rfl) (pe_lst (pa_cons pe_non (pa_cons pe_int (pa_cons pe_bl (pa_cons pe_str (pa_cons pe_str (pa_cons pe_str (pa_cons pe_str (pa_cons pe_str (pa_cons (pe_tup pa_nil) (pa_cons (pe_lst pa_nil) (pa_cons (pe_lst (pa_cons pe_str pa_nil)) (pa_cons pe_dnewK (pa_cons (pe_tup (pa_cons (pv 1) pa_nil)) (pa_cons (pe_op op_add_str (pv 1) pe_str) (pa_cons (pe_tup (pa_cons pe_dnewK pa_nil)) pa_nil)))))))))))))))))
      (pss_one (ps_ret (pe_ix ix_list (pe_op op_cat (pv 2) (pe_lst (pa_cons (pe_upper (pv 1)) pa_nil))) (pe_h hP hr (pa_cons (pv 0) (pa_cons pe_int pa_nil))) (fun _ _ => rfl)))), ?_⟩
    have gI : GrowsH (IN a H) := in_grows
    have gG : Grows (fun H' v => OddR K (newH H H') v) := OddR.grows
    refine st_asg (bld_lst (n := 15) gG (bld_cons gI gG (bld_c fun _ _ => or_n) (bld_cons gI gG (bld_c fun _ _ => or_i) (bld_cons gI gG (bld_c fun _ _ => or_b) (bld_cons gI gG (bld_c fun _ _ => or_s) (bld_cons gI gG (bld_c fun _ _ => or_s) (bld_cons gI gG (bld_c fun _ _ => or_s) (bld_cons gI gG (bld_c fun _ _ => or_s) (bld_cons gI gG (bld_c fun _ _ => or_s)
      (bld_cons gI gG bo_t0 (bld_cons gI gG bo_l0 (bld_cons gI gG bo_l1 (bld_cons gI gG bo_d (bld_cons gI gG (bo_tz hz rfl) (bld_cons gI gG (bo_nl hz rfl) (bld_cons gI gG bo_td bld_nil))))))))))))))) (by decide) ⟨hA, fun b o _ e => e⟩ fun p0 x0 H0 s0 n0 e0 l0 g0 => ?_)
    have i0 := gI _ _ ⟨hA, fun b o _ e => e⟩ s0
    refine st_ret (st_op (bld_cat (n := 1) (m := 15) gI gG (i0 := 2) (bld_cons gI gG (bo_up hz rfl) bld_nil) (by decide) i0 rfl e0 l0 g0 fun p1 x1 H1 s1 n1 e1 l1 g1 => ?_))
    have i1 := gI _ _ i0 s1
    have S1 := s0.trans s1
    refine ⟨_, rfl, a, 16, rfl, i1.1, by decide, by decide, fun i H8 h0 h1 hp8 sx8 _ => ?_⟩
    have hl : x1.length = 16 := l1
    obtain ⟨v, hv⟩ : ∃ v, x1[i.toNat]? = some v := ⟨_, List.getElem?_eq_getElem (by omega)⟩
    have e8 : H8 p1 = some (.lst x1) := sx8 _ _ (hA.ne (hq_of s0 n1)) e1
    have ei : (i.toNat : Int) = i := Int.toNat_of_nonneg h0
    refine ⟨p1, x1, i, v, rfl, rfl, .inl (.inl e8), ?_, q v H8 ((sx S1).trans sx8) hp8 ((g1 v (List.mem_of_getElem? hv)).same (fun b o e => by
      unfold newH at e ⊢
      cases qb : H b with
      | none =>
        rw [qb] at e
        exact sx8 _ _ (hA.ne qb) e
      | some _ =>
        rw [qb] at e
        cases e))⟩
    rw [← ei]
    exact atI_nat hv
end
end Wl

namespace Wl
open PySem PySem.Spec PyProof.Rows L2
section
variable {a : Addr} {σ : L2.St}
theorem purse_ne {H : Hp} {p : Addr} (h : PurseAt H a) (hp : H p = none) : p ≠ a := h.ne hp
theorem PurseAt.grows : GrowsH (fun H => PurseAt H a) := fun _ _ h s => h.same s
theorem NoChg.grows : Grows (fun H v => NoChg (hid a H) v) := fun _ _ _ h s => h.same (hid_x (sx s))
theorem hid_new {H : Hp} {p : Addr} {o : HO} (h : PurseAt H a) (hp : H p = none) : hid a (upd H p o) p = some o := hid_at upd_same (h.ne hp)
theorem nc_flat {H : Hp} {v : V} (h : OddV H v) (hr : ∀ p, v ≠ .ref p) : NoChg H v := ⟨h, fun p xs e => absurd e (hr p)⟩
theorem nc_tup {H : Hp} {p : Addr} {xs : List V} (h : H p = some (.tup xs)) (hl : xs.length ≤ 1000) (h3 : xs.length = 3 → ∃ x y z, xs = [x, y, z] ∧ OddV H x ∧ OddV H y ∧ OddV H z ∧ chB x y z = false) : NoChg H (.ref p) := by
  refine ⟨.inr (.inr (.inr (.inr ⟨p, rfl, .inl ⟨xs, h⟩⟩))), fun p' ys e hp => ?_⟩
  cases e
  rw [h] at hp
  cases hp
  exact ⟨hl, h3⟩
theorem nc_other {H : Hp} {p : Addr} {o : HO} (h : H p = some o) (ho : OddV H (.ref p)) (hn : ∀ xs, o ≠ .tup xs) : NoChg H (.ref p) := by
  refine ⟨ho, fun p' ys e hp => ?_⟩
  cases e
  rw [h] at hp
  exact absurd (Option.some.inj hp) (hn ys)
/-- three constants -/
theorem nc3 {x y z : V} (ox : ∀ H, OddV H x) (oy : ∀ H, OddV H y) (oz : ∀ H, OddV H z) (hc : chB x y z = false) : Bld σ (fun H => PurseAt H a) (fun H v => NoChg (hid a H) v) (tTup (tCons (tC x) (tCons (tC y) (tCons (tC z) tNil)))) :=
  bld_tup (bldx_c (xs := [x, y, z]) fun _ _ q => q) (fun _ xs e => by subst e; show 3 ≤ 1000; omega) fun H p xs i e hp => by
    subst e
    exact nc_tup (hid_new i hp) (by show 3 ≤ 1000; omega) fun _ => ⟨x, y, z, rfl, ox _, oy _, oz _, hc⟩
theorem ncN {xs : List V} {ta : TA} (h : ∀ (H : Hp) (Q : List V → Hp → Prop), Q xs H → ta σ H Q) (hl : xs.length ≤ 1000) (hn : xs.length ≠ 3) : Bld σ (fun H => PurseAt H a) (fun H v => NoChg (hid a H) v) (tTup ta) :=
  bld_tup (bldx_c h) (fun _ ys e => by subst e; exact hl) fun H p ys i e hp => by
    subst e
    exact nc_tup (hid_new i hp) hl fun e => absurd e hn
theorem ncL {xs : List V} {ta : TA} (h : ∀ (H : Hp) (Q : List V → Hp → Prop), Q xs H → ta σ H Q) (hl : xs.length ≤ 1000) : Bld σ (fun H => PurseAt H a) (fun H v => NoChg (hid a H) v) (tLst ta) :=
  bld_lstX (bldx_c h) (fun _ ys e => by subst e; exact hl) fun H p ys i e hp => by
    subst e
    exact nc_other (hid_new i hp) (.inr (.inr (.inr (.inr ⟨p, rfl, .inr (.inl ⟨_, hid_new i hp⟩)⟩)))) fun xs => by intro z; cases z
theorem ncC {v : V} (o : ∀ H, OddV H v) (hr : ∀ p, v ≠ .ref p) : Bld σ (fun H => PurseAt H a) (fun H v => NoChg (hid a H) v) (tC v) := bld_c fun H _ => nc_flat (o _) hr
theorem odS {z : Str} (h : Nat.ble z.length 1000 = true := by decide +kernel) : ∀ H, OddV H (.str z) := fun _ => .inl ⟨z, rfl, Nat.le_of_ble_eq_true h⟩
theorem odN : ∀ H, OddV H .non := fun _ => .inr (.inl rfl)
theorem odB {b : Bool} : ∀ H, OddV H (.bl b) := fun _ => .inr (.inr (.inl ⟨b, rfl⟩))
theorem odI {i : Int} : ∀ H, OddV H (.int i) := fun _ => .inr (.inr (.inr (.inl ⟨i, rfl⟩)))
theorem ncz : Bld σ (fun H => PurseAt H a) (fun H v => NoChg (hid a H) v) (tTup (tCons (tC (.str "a")) (tCons (tC (.str "b")) (tCons (tLst (tCons (tC (.str "any")) tNil)) tNil)))) :=
  bld_tup (R := fun H xs => ∃ l, xs = [.str "a", .str "b", .ref l] ∧ hid a H l = some (.lst [.str "any"])) (fun H Q i q => ⟨by decide, fun l hl => q _ _ (same_new hl) (i.same (same_new hl)) ⟨l, rfl, hid_new i hl⟩⟩) (fun _ xs ⟨_, e, _⟩ => by subst e; show 3 ≤ 1000; omega) fun H p xs i ⟨l, e, hl⟩ hp => by
    subst e
    exact nc_tup (hid_new i hp) (by show 3 ≤ 1000; omega) fun _ => ⟨_, _, _, rfl, (odS (by decide +kernel) _), (odS (by decide +kernel) _), .inr (.inr (.inr (.inr ⟨l, rfl, .inr (.inl ⟨_, hid_x (sx (same_new hp)) _ _ hl⟩)⟩))), rfl⟩
theorem ncx : Bld σ (fun H => PurseAt H a) (fun H v => NoChg (hid a H) v) (tTup (tCons (tLst (tCons (tC (.str "a")) tNil)) (tCons (tC (.str "b")) (tCons (tC (.str "any")) tNil)))) :=
  bld_tup (R := fun H xs => ∃ l, xs = [.ref l, .str "b", .str "any"] ∧ hid a H l = some (.lst [.str "a"])) (fun H Q i q => ⟨by decide, fun l hl => q _ _ (same_new hl) (i.same (same_new hl)) ⟨l, rfl, hid_new i hl⟩⟩) (fun _ xs ⟨_, e, _⟩ => by subst e; show 3 ≤ 1000; omega) fun H p xs i ⟨l, e, hl⟩ hp => by
    subst e
    exact nc_tup (hid_new i hp) (by show 3 ≤ 1000; omega) fun _ => ⟨_, _, _, rfl, .inr (.inr (.inr (.inr ⟨l, rfl, .inr (.inl ⟨_, hid_x (sx (same_new hp)) _ _ hl⟩)⟩))), (odS (by decide +kernel) _), (odS (by decide +kernel) _), rfl⟩
theorem ncd : Bld σ (fun H => PurseAt H a) (fun H v => NoChg (hid a H) v) tDNewK := fun H Q i q d hd => q (.ref d) _ (same_new hd) (nc_other (hid_new i hd) (.inr (.inr (.inr (.inr ⟨d, rfl, .inr (.inr ⟨_, hid_new i hd⟩)⟩)))) fun xs => by intro z; cases z)
theorem ncy : Bld σ (fun H => PurseAt H a) (fun H v => NoChg (hid a H) v) (tTup (tCons tDNewK (tCons (tC (.str "b")) (tCons (tC (.str "any")) tNil)))) :=
  bld_tup (R := fun H xs => ∃ l, xs = [.ref l, .str "b", .str "any"] ∧ hid a H l = some (.dK [])) (fun H Q i q d hd => q _ _ (same_new hd) (i.same (same_new hd)) ⟨d, rfl, hid_new i hd⟩) (fun _ xs ⟨_, e, _⟩ => by subst e; show 3 ≤ 1000; omega) fun H p xs i ⟨l, e, hl⟩ hp => by
    subst e
    exact nc_tup (hid_new i hp) (by show 3 ≤ 1000; omega) fun _ => ⟨_, _, _, rfl, .inr (.inr (.inr (.inr ⟨l, rfl, .inr (.inr ⟨_, hid_x (sx (same_new hp)) _ _ hl⟩)⟩))), (odS (by decide +kernel) _), (odS (by decide +kernel) _), rfl⟩
end
section
variable {P : Program} {w : World} {K : PySem.W.Frag} {mg : Str → Option Value} {base : Heap} {f : Addr} {fd : FuncData}
end
end Wl


/-! A tuple times 0 or 1. -/
namespace Wl
open PySem PySem.Spec PyProof.Rows L2
theorem times_same (l : Addr) (items : Array Value) (n : Nat) (dd : Option Addr) (sl : Array (Option Value)) (x : Int) (u : Tok) (c0 : (decide (x < -(2 ^ 63)) || decide (x ≥ 2 ^ 63)) = false) (c1 : (items.isEmpty || x == 1) = true) :
    Meets (Builtin.«tuple.__mul__» ⟨[.ref l, .int x u], []⟩) (fun _ R s => s.heap.get? l = some { cls := .type "tuple", dict := dd, data := .seq items n, slots := sl } ∧ R (.ok (.ret (Value.ref l))) s) :=
  .of_wp fun prog w A R s h => by
    obtain ⟨hp, g, d, tk, os⟩ := s
    obtain ⟨hl, h⟩ := h
    have f1 := AutoSeq1.idx_int
    have tl : Shared.TypeIs ⟨hp, g, d, tk, os⟩ (.ref l) "tuple" := ⟨_, hl, rfl⟩
    wp_walk using wpAny_loadPart' hl
    all_goals (try (refine wpAny_ite_false (decide_eq_false (by rw [c0]; exact Bool.false_ne_true)) ?_; wp_walk using wpAny_loadPart' hl))
    exact ⟨_, rfl, h⟩
theorem times_none (l : Addr) (items : Array Value) (n : Nat) (dd : Option Addr) (sl : Array (Option Value)) (u : Tok) (c1 : (items.isEmpty || (0 : Int) == 1) = false) :
    Meets (Builtin.«tuple.__mul__» ⟨[.ref l, .int 0 u], []⟩) (fun _ R s => s.heap.get? l = some { cls := .type "tuple", dict := dd, data := .seq items n, slots := sl } ∧
      R (.ok (.ret (Value.ref s.heap.objs.size))) { s with heap := s.heap.push { cls := Value.type "tuple", data := Data.seq #[] }, toks := s.toks }) :=
  .of_wp fun prog w A R s h => by
    obtain ⟨hp, g, d, tk, os⟩ := s
    obtain ⟨hl, h⟩ := h
    have f1 := AutoSeq1.idx_int
    have c2 : (decide ((0 : Int) ≤ 0) || items.isEmpty) = true := by rw [decide_eq_true (Int.le_refl 0)]; rfl
    wp_walk using wpAny_loadPart' hl
    refine wpAny_ite_false (decide_eq_false (fun e => by rw [c1] at e; cases e)) ?_
    wp_walk using wpAny_loadPart' hl
    all_goals (try (refine wpAny_ite_true (decide_eq_true c2) ?_; wp_walk using wpAny_loadPart' hl))
    exact ⟨_, rfl, h⟩
def rTimesT (K : PySem.W.Frag) : R2 := fun x y H Q => ∃ l k xs, x = .ref l ∧ y = .int k ∧ SqT K H l xs ∧ ((k = 1 ∧ Q (.ref l) H) ∨ (k = 0 ∧ (xs = [] → Q (.ref l) H) ∧ ∀ p, H p = none → Q (.ref p) (upd H p (.tup []))))
section
variable {X : Cx}
theorem op_timesT : OpR X (binaryOp .Mult) (rTimesT X.K) := by
  intro pins s σ H x y v u Q I rx ry h
  obtain ⟨l, k, xs, rfl, rfl, hT, q⟩ := h
  cases rx
  obtain ⟨t, rfl⟩ := ry
  obtain ⟨its, r, ⟨⟨cls, dd, data, sl⟩, ho, hc, n, hd⟩, hs⟩ := I.tuple hT
  simp only at hc hd
  subst hc hd
  have road : ∀ {Q' : Value → Shared → Prop}, wpAny (model X.prog X.w) X.A (call (.builtin "tuple.__mul__") [.ref l, .int k t]) Q' X.xe s → wpAny (model X.prog X.w) X.A (binaryOp .Mult (.ref l) (.int k t)) Q' X.xe s := fun {Q'} hq =>
    wpAny_binaryOp_repeat_ref (T := "tuple") (U := "int") (by decide) ⟨_, ho, rfl⟩ (fun s' => typeIs_int s' k t) noFill_tuple_mul F.fills_int_mul F.slot_int_rmul repeat_tuple F.slot_int_index.lookup
      (call_meets F.slot_int_rmul (typeIs_int s k t) F.entry_int_rmul (F.args_int_rmul_2 _ _) (int_rmul_tuple k t l its.toArray n dd sl) ⟨ho, rfl, ⟨_, ho, rfl⟩, hq⟩)
  refine road ?_
  rcases q with ⟨rfl, q⟩ | ⟨rfl, q0, q1⟩
  · exact call_meets F.slot_tuple_mul ⟨_, ho, rfl⟩ F.entry_tuple_mul (F.args_tuple_mul_2 _ _) (times_same l its.toArray n dd sl 1 t (by decide) (by simp)) ⟨ho, ⟨.ref l, H, I, rfl, q⟩⟩
  · cases its with
    | nil =>
      have e : xs = [] := by
        cases xs with
        | nil => rfl
        | cons a b => cases r
      exact call_meets F.slot_tuple_mul ⟨_, ho, rfl⟩ F.entry_tuple_mul (F.args_tuple_mul_2 _ _) (times_same l _ n dd sl 0 t (by decide) (by simp)) ⟨ho, ⟨.ref l, H, I, rfl, q0 e⟩⟩
    | cons a b =>
      refine call_meets F.slot_tuple_mul ⟨_, ho, rfl⟩ F.entry_tuple_mul (F.args_tuple_mul_2 _ _) (times_none l _ n dd sl t (by simp)) ⟨ho, ?_⟩
      have hn : H s.heap.objs.size = none := I.hok.fresh (Nat.le_refl _)
      refine ⟨.ref s.heap.objs.size, upd H s.heap.objs.size (.tup []), ?_, rfl, q1 _ hn⟩
      refine I.laid (t' := s.toks) (fun b o e => Heap.get?_push_of_some _ e) (Nat.le_refl _) ?_
      exact ⟨by simp, [], .nil, ⟨_, Heap.get?_push_size _ rfl, rfl, _, rfl⟩⟩
end
end Wl

/-! A tuple times a number, whichever object it gives. -/
namespace Wl
open PySem PySem.Spec PyProof.Rows L2
def rMulTu (K : PySem.W.Frag) : R2 := fun x y H Q => ∃ l k xs, x = .ref l ∧ y = .int k ∧ H l = some (.tup xs) ∧ xs ≠ [] ∧ 0 ≤ k ∧ k ≤ 1000 ∧ xs.length ≤ 1000 ∧ ∀ u H', Same H H' → H' u = some (.tup (List.replicate k.toNat xs).flatten) → Q (.ref u) H'
theorem op_mulTu {X : Cx} : OpR X (binaryOp .Mult) (rMulTu X.K) := by
  intro pins s σ H x y v u Q I rx ry h
  obtain ⟨l, k, xs, rfl, rfl, hT, hne, h0, h1, hz, q⟩ := h
  rcases Int.lt_or_le k 2 with h2 | h2
  · refine op_timesT pins s σ H _ _ v u Q I rx ry ⟨l, k, xs, rfl, rfl, .inl (.inl hT), ?_⟩
    rcases (by omega : k = 1 ∨ k = 0) with rfl | rfl
    · exact .inl ⟨rfl, q l H (Same.refl H) (by rw [hT]; simp)⟩
    · exact .inr ⟨rfl, fun e => absurd e hne, fun p hp => q p _ (same_new hp) upd_same⟩
  · exact op_repT pins s σ H _ _ v u Q I rx ry ⟨l, k, xs, rfl, rfl, .inl (.inl hT), hne, h2, h1, hz, fun p hp => q p _ (same_new hp) upd_same⟩
end Wl

/-! Slices and sums of tuples, whichever object they give. -/
namespace Wl
open PySem PySem.Spec PyProof.Rows L2
section
variable {K : PySem.W.Frag} {H : Hp} {Q : VK}
theorem slA_rd {a : Addr} {xs : List V} {lo hi : Option Int} (ha : H a = some (.tup xs)) (q : ∀ u H', Same H H' → H' u = some (.tup (cutV xs lo hi)) → Q (.ref u) H') : rSlA K (.ref a) lo hi H Q := by
  refine ⟨a, xs, rfl, .inl (.inl ha), fun w => q a H (Same.refl H) ?_, fun _ p hp => q p _ (same_new hp) upd_same⟩
  rw [ha]
  unfold cutV
  rw [w.1, w.2, List.drop_zero, Nat.sub_zero, List.take_length]
theorem catA_rd {a b : Addr} {xs ys : List V} (ha : H a = some (.tup xs)) (hb : H b = some (.tup ys)) (hl : xs.length + ys.length ≤ 1000) (q : ∀ u H', Same H H' → H' u = some (.tup (xs ++ ys)) → Q (.ref u) H') : rCatA K (.ref a) (.ref b) H Q := by
  refine ⟨a, b, xs, ys, rfl, rfl, .inl (.inl ha), .inl (.inl hb), lzl hl, fun e => ?_, fun _ e => ?_, fun _ _ p hp => q p _ (same_new hp) upd_same⟩
  · subst e
    exact q b H (Same.refl H) hb
  · subst e
    exact q a H (Same.refl H) (by rw [List.append_nil]; exact ha)
theorem cutA_to (xs : List V) (c : Nat) : cutV xs none (some (c : Int)) = xs.take c := by
  unfold cutV
  rw [HT.sIx_none, HT.sIx_nat, List.drop_zero, Nat.sub_zero]
  by_cases h : c ≤ xs.length
  · rw [Nat.min_eq_left h]
  · rw [Nat.min_eq_right (by omega), List.take_length, List.take_of_length_le (by omega)]
theorem cutA_from (xs : List V) (c : Nat) : cutV xs (some (c : Int)) none = xs.drop c := by
  unfold cutV
  rw [HT.sIx_none, HT.sIx_nat]
  by_cases h : c ≤ xs.length
  · rw [Nat.min_eq_left h, List.take_of_length_le (by rw [List.length_drop]; omega)]
  · rw [Nat.min_eq_right (by omega), List.drop_length, List.drop_of_length_le (by omega), List.take_nil]
end
end Wl

namespace Wl
open PySem PySem.Spec PyProof.Rows L2
abbrev sNoC : Stmt := topS 83
section
variable {K : PySem.W.Frag} {a g : Addr} {σ : L2.St}
theorem NoChs.grows {o : Option Nat} : Grows (fun H v => NoChs (hid a H) v o) := fun _ _ _ h s => h.same (hid_x (sx s))
theorem no_flat {v : V} {H : Hp} (h : OddV H v) (hn : v ≠ .non) (hr : ∀ p, v ≠ .ref p) : NoChs H v none := ⟨h, hn, fun p xs e => absurd e (hr p)⟩
theorem no_obj {p : Addr} {o : HO} {H : Hp} (h : H p = some o) (ho : OddV H (.ref p)) (hn : ∀ xs, o = .tup xs → 12 < xs.length) : NoChs H (.ref p) none := by
  refine ⟨ho, (fun e => nomatch e), fun p' xs e hp => ?_⟩
  cases e
  rw [h] at hp
  exact hn xs (Option.some.inj hp)
/-- the purse, the good change -/
abbrev gdC : List V := [.str "a", .str "b", .str "any"]
abbrev IPG (a g : Addr) : Hp → Prop := fun H => PurseAt H a ∧ H g = some (.tup gdC)
theorem ipg_grows : GrowsH (IPG a g) := fun _ _ h s => ⟨h.1.same s, s _ _ h.2⟩
theorem bld_I {I J : Hp → Prop} {G : Hp → V → Prop} {te : TE} (h : Bld σ I G te) (k : ∀ H, J H → I H) : Bld σ J G te := fun H Q i q => h H Q (k H i) q
/-- ('a', ['b'], 'any') -/
theorem ncz2 : Bld σ (fun H => PurseAt H a) (fun H v => NoChg (hid a H) v) (tTup (tCons (tC (.str "a")) (tCons (tLst (tCons (tC (.str "b")) tNil)) (tCons (tC (.str "any")) tNil)))) :=
  bld_tup (R := fun H xs => ∃ l, xs = [.str "a", .ref l, .str "any"] ∧ hid a H l = some (.lst [.str "b"])) (fun H Q i q => ⟨by decide, fun l hl => q _ _ (same_new hl) (i.same (same_new hl)) ⟨l, rfl, hid_new i hl⟩⟩) (fun _ xs ⟨_, e, _⟩ => by subst e; show 3 ≤ 1000; omega) fun H p xs i ⟨l, e, hl⟩ hp => by
    subst e
    exact nc_tup (hid_new i hp) (by show 3 ≤ 1000; omega) fun _ => ⟨_, _, _, rfl, (odS (by decide +kernel) _), .inr (.inr (.inr (.inr ⟨l, rfl, .inr (.inl ⟨_, hid_x (sx (same_new hp)) _ _ hl⟩)⟩))), (odS (by decide +kernel) _), rfl⟩
/-- ([],) -/
theorem ncl1 : Bld σ (fun H => PurseAt H a) (fun H v => NoChg (hid a H) v) (tTup (tCons (tLst tNil) tNil)) :=
  bld_tup (R := fun H xs => xs.length = 1) (fun H Q i q => ⟨by decide, fun l hl => q _ _ (same_new hl) (i.same (same_new hl)) rfl⟩) (fun _ xs e => by omega) fun H p xs i e hp => nc_tup (hid_new i hp) (by omega) fun z => by omega
theorem no_l0 : Bld σ (IPG a g) (fun H v => NoChs (hid a H) v none) (tLst tNil) := fun H Q i q => ⟨lz, fun p hp => q _ _ (same_new hp) (no_obj (hid_newP i.1 hp) (od_l (hid_newP i.1 hp)) fun xs e => by cases e)⟩
theorem no_lg (h1 : σ[1]? = some (some (.ref g))) : Bld σ (IPG a g) (fun H v => NoChs (hid a H) v none) (tLst (tCons (tVar 1) tNil)) := fun H Q i q => ⟨_, h1, lz, fun p hp => q _ _ (same_new hp) (no_obj (hid_newP i.1 hp) (od_l (hid_newP i.1 hp)) fun xs e => by cases e)⟩
theorem no_d : Bld σ (IPG a g) (fun H v => NoChs (hid a H) v none) tDNewK := fun H Q i q d hd => q _ _ (same_new hd) (no_obj (hid_newP i.1 hd) (od_d (hid_newP i.1 hd)) fun xs e => by cases e)
theorem rep_tup {H H' : Hp} {u : Addr} {xs : List V} (hA : PurseAt H a) (s : Same H H') (h : H' u = some (.tup xs)) : u ≠ a := fun z => by
  obtain ⟨ys, hy⟩ := (hA.same s).lst
  rw [z, hy] at h
  cases h
theorem no_13 (h1 : σ[1]? = some (some (.ref g))) : Bld σ (IPG a g) (fun H v => NoChs (hid a H) v none) (tOp (rMulTu K) (tTup (tCons (tVar 1) tNil)) (tC (.int 13))) := fun H Q i q => ⟨_, h1, lz, fun t ht => ⟨t, 13, _, rfl, rfl, upd_same, by simp, by decide, by decide, by simp, fun u H' s' hu => by
  have s2 := (same_new (o := .tup [.ref g]) ht).trans s'
  have hu2 := hid_at hu (rep_tup i.1 s2 hu)
  exact q _ _ s2 (no_obj hu2 (od_t hu2) fun xs e => by
    cases e
    show 12 < 13
    omega)⟩⟩
end
section
variable {P : Program} {w : World} {K : PySem.W.Frag} {mg : Str → Option Value} {base : Heap} {f : Addr} {fd : FuncData}
theorem rep_oneV (c : Nat) (x : V) : (List.replicate c [x]).flatten = List.replicate c x := by
  induction c with
  | zero => rfl
  | succ c ih => rw [List.replicate_succ, List.flatten_cons, ih, List.replicate_succ]; rfl
abbrev nNoC : List Str := ["_law_purse_here", "_law_good", "_law_bad", "_law_way", "_law_at", "_law_some", "_law_lone"]
theorem scNoC : FnScope nNoC ["_law_purse_here"] (defScope sNoC) := ⟨rfl, rfl, rfl, by decide +kernel, rfl, by decide +kernel, by decide +kernel⟩
def spNoC : Sp := fun vs H Q _ => ∃ (a : Addr), vs = [.ref a] ∧ PurseAt H a ∧ ∀ (p : Addr) (v : V) (o : Option Nat) (H' : Hp), SameX a H H' → PurseAt H' a → H' p = some (.tup [v, plcV o]) → (∀ i, o = some i → i ≤ 3) → NoChs (hid a H') v o → Q (.ref p) H'
theorem ok_noc (F : Fun K "_law_no_changes" "_law_no_changes" sNoC f fd) (hP : Has P w K mg base "_law_pick" 1 ["_law_purse_here", "_law_count"] spPick) : FnOk P w K mg base CX0 2 f fd ["_law_purse_here"] spNoC := by
  refine F.ok scNoC (fun vs H Q E h => ?_) (fun cdv A outer s H vs Q E hr h => ?_)
  · obtain ⟨a, rfl, _⟩ := h
    rfl
  · obtain ⟨a, rfl, hA, q⟩ := h
    have t3 : ∀ {X : Cx} {j1 j2 j3 : Nat} {x y z : Str} {p1 p2 p3 p : Pos} {k : Nat}, PE X (.Tuple [.Constant (.str x) j1 p1, .Constant (.str y) j2 p2, .Constant (.str z) j3 p3] k p) (tTup (tCons (tC (.str x)) (tCons (tC (.str y)) (tCons (tC (.str z)) tNil)))) := fun {X j1 j2 j3 x y z p1 p2 p3 p k} => pe_tup (pa_cons pe_str (pa_cons pe_str (pa_cons pe_str pa_nil)))
    refine ⟨_, pss_cons (ps_set (i := 1) scNoC.nd rfl (.inl rfl) t3)
      (pss_cons (ps_set (i := 2) scNoC.nd rfl (.inl rfl) (pe_lst (pa_cons t3 (pa_cons t3 (pa_cons t3 (pa_cons t3 (pa_cons (pe_tup (pa_cons pe_str (pa_cons pe_str pa_nil))) (pa_cons (pe_lst (pa_cons pe_str (pa_cons pe_str (pa_cons pe_str pa_nil)))) pa_nil))))))))
      (pss_cons (ps_set (i := 2) scNoC.nd rfl (.inl rfl) (pe_op op_cat (pv 2) (pe_lst (pa_cons pe_non (pa_cons pe_str (pa_cons (pe_tup (pa_cons pe_str (pa_cons pe_str (pa_cons pe_str (pa_cons pe_int pa_nil))))) (pa_cons t3 (pa_cons (pe_tup (pa_cons pe_int (pa_cons pe_str (pa_cons pe_str pa_nil)))) (pa_cons (pe_tup (pa_cons pe_str (pa_cons pe_str (pa_cons pe_non pa_nil)))) pa_nil)))))))))
      (pss_cons (ps_set (i := 2) scNoC.nd rfl (.inl rfl) (pe_op op_cat (pv 2) (pe_lst (pa_cons (pe_tup (pa_cons pe_str (pa_cons (pe_lst (pa_cons pe_str pa_nil)) (pa_cons pe_str pa_nil)))) (pa_cons (pe_tup (pa_cons pe_dnewK (pa_cons pe_str (pa_cons pe_str pa_nil)))) (pa_cons t3 (pa_cons (pe_tup (pa_cons (pe_lst pa_nil) pa_nil)) pa_nil)))))))
      (pss_cons (ps_par (i := 3) (j := 4) (by rfl) scNoC.nd rfl rfl (by decide) rfl rfl (pa_cons (pe_h hP hr (pa_cons (pv 0) (pa_cons pe_int pa_nil))) (pa_cons (pe_h hP hr (pa_cons (pv 0) (pa_cons pe_int pa_nil))) pa_nil)) (by rfl))
      (pss_cons (ps_if (pt_cmpR op_eq (pv 3) pe_int (nomark _))
        (pss_cons (ps_set (i := 5) scNoC.nd rfl (.inl rfl) (pe_lst (pa_cons (pe_lst pa_nil) (pa_cons (pe_lst (pa_cons (pv 1) pa_nil)) (pa_cons pe_str (pa_cons pe_dnewK (pa_cons (pe_op op_mulTu (pe_tup (pa_cons (pv 1) pa_nil)) pe_int) (pa_cons pe_int pa_nil))))))))
        (pss_one (ps_ret (pe_tup (pa_cons (pe_ix ix_list (pv 5) (pe_h hP hr (pa_cons (pv 0) (pa_cons pe_int pa_nil))) (fun _ _ => rfl)) (pa_cons pe_non pa_nil)))))) pss_nil)
      (pss_cons (ps_set (i := 6) scNoC.nd rfl (.inl rfl) (pe_ix ix_list (pv 2) (pe_h hP hr (pa_cons (pv 0) (pa_cons pe_int pa_nil))) (fun _ _ => rfl)))
      (pss_one (ps_ret (pe_tup (pa_cons (pe_op op_catA (pe_op op_catA (pe_op op_mulTu (pe_tup (pa_cons (pv 1) pa_nil)) (pv 4)) (pe_tup (pa_cons (pv 6) pa_nil))) (pe_slice sl_tupA (pe_tup (pa_cons (pv 1) (pa_cons pe_non pa_nil))) po_none (po_some (pe_h hP hr (pa_cons (pv 0) (pa_cons pe_int pa_nil)))))) (pa_cons (pv 4) pa_nil))))))))))), ?_⟩
    have gG : Grows (fun H v => NoChg (hid a H) v) := NoChg.grows
    refine st_asg ⟨lz, fun g hg => ?_⟩
    have S0 : Same H (upd H g (.tup gdC)) := same_new hg
    have i0 : IPG a g (upd H g (.tup gdC)) := ⟨hA.same S0, upd_same⟩
    have nga : g ≠ a := hA.ne hg
    generalize upd H g (.tup gdC) = H0 at S0 i0
    have gI : GrowsH (fun H => PurseAt H a) := PurseAt.grows
    refine st_asg (bld_lst (n := 6) gG (bld_cons gI gG (nc3 odS odS odS (by decide +kernel)) (bld_cons gI gG (nc3 odS odS odS (by decide +kernel)) (bld_cons gI gG (nc3 odS odS odS (by decide +kernel)) (bld_cons gI gG (nc3 odS odS odS (by decide +kernel)) (bld_cons gI gG (ncN (xs := [.str "a", .str "b"]) (fun _ _ q => q) (by decide) (by decide)) (bld_cons gI gG (ncL (xs := [.str "a", .str "b", .str "any"]) (fun _ _ q => q) (by decide)) bld_nil)))))) (by decide) i0.1 fun p0 x0 H1 s1 n1 e1 l1 g1 => ?_)
    have S1 := S0.trans s1
    have i1 := ipg_grows _ _ i0 s1
    refine st_asg (bld_cat (n := 6) (m := 6) gI gG (i0 := 2) (bld_cons gI gG (ncC odN (fun p e => nomatch e)) (bld_cons gI gG (ncC odS (fun p e => nomatch e)) (bld_cons gI gG (ncN (xs := [.str "a", .str "b", .str "any", .int 1]) (fun _ _ q => q) (by decide) (by decide)) (bld_cons gI gG (nc3 odS odS odS (by decide +kernel)) (bld_cons gI gG (nc3 odI odS odS (by decide +kernel)) (bld_cons gI gG (nc3 odS odS odN (by decide +kernel)) bld_nil)))))) (by decide) i1.1 rfl e1 l1 g1 fun p1 x1 H2 s2 n2 e2 l2 g2 => ?_)
    have S2 := S1.trans s2
    have i2 := ipg_grows _ _ i1 s2
    refine st_asg (bld_cat (n := 4) (m := 12) gI gG (i0 := 2) (bld_cons gI gG ncz2 (bld_cons gI gG ncy (bld_cons gI gG (nc3 odS odS odS (by decide +kernel)) (bld_cons gI gG ncl1 bld_nil)))) (by decide) i2.1 rfl e2 l2 g2 fun p2 x2 H3 s3 n3 e3 l3 g3 => ?_)
    have S3 := S2.trans s3
    have i3 := ipg_grows _ _ i2 s3
    have np2 : p2 ≠ a := hA.ne (hq_of S2 n3)
    have l16 : x2.length = 16 := l3
    refine ⟨_, rfl, a, 4, rfl, i3.1, by decide, by decide, fun u H4 u0 u1 hA4 x4 _ => ⟨_, rfl, a, 4, rfl, hA4, by decide, by decide, fun at_ H5 t0 t1 hA5 x5 _ => ⟨_, _, rfl, ?_⟩⟩⟩
    have X5 : SameX a H H5 := ((sx S3).trans x4).trans x5
    have i5 : IPG a g H5 := ⟨hA5, (x4.trans x5) _ _ nga i3.2⟩
    have e5 : H5 p2 = some (.lst x2) := (x4.trans x5) _ _ np2 e3
    have g5 : ∀ v ∈ x2, NoChg (hid a H5) v := fun v hv => (g3 v hv).same (hid_x (x4.trans x5))
    clear e1 e2 e3 l1 l2 g1 g2 g3 n1 n2 n3 i0 i1 i2 i3 l3
    refine ⟨_, rfl, rfl, _, rfl, ite_b (fun _ => ?_) (fun _ => ?_)⟩
    · have gN : Grows (fun H v => NoChs (hid a H) v none) := NoChs.grows
      refine st_asg (bld_lst (n := 6) gN (bld_cons ipg_grows gN no_l0 (bld_cons ipg_grows gN (no_lg rfl) (bld_cons ipg_grows gN (bld_c fun _ _ => no_flat (odS (by decide +kernel) _) (fun e => nomatch e) (fun p e => nomatch e)) (bld_cons ipg_grows gN no_d (bld_cons ipg_grows gN (no_13 rfl) (bld_cons ipg_grows gN (bld_c fun _ _ => no_flat (odI _) (fun e => nomatch e) (fun p e => nomatch e)) bld_nil)))))) (by decide) i5 fun p6 x6 H6 s6 n6 e6 l6 g6 => ?_)
      have np6 : p6 ≠ a := hA5.ne n6
      refine ⟨_, rfl, _, rfl, a, 6, rfl, hA5.same s6, by decide, by decide, fun k H7 k0 k1 hA7 x7 _ => ?_⟩
      have l6' : x6.length = 6 := l6
      obtain ⟨v, hv⟩ : ∃ v, x6[k.toNat]? = some v := ⟨_, List.getElem?_eq_getElem (by omega)⟩
      have ek : (k.toNat : Int) = k := Int.toNat_of_nonneg k0
      refine ⟨p6, x6, k, v, rfl, rfl, .inl (.inl (x7 _ _ np6 e6)), by rw [← ek]; exact atI_nat hv, lz, fun p hp => ?_⟩
      have S8 := same_new (o := .tup [v, .non]) hp
      exact q p v none _ ((X5.trans (sx s6)).trans (x7.trans (sx S8))) (hA7.same S8) upd_same (fun i e => by cases e) ((g6 v (List.mem_of_getElem? hv)).same (hid_x (x7.trans (sx S8))))
    · refine ⟨_, rfl, _, rfl, a, 16, rfl, hA5, by decide, by decide, fun k H6 k0 k1 hA6 x6 _ => ?_⟩
      obtain ⟨v, hv⟩ : ∃ v, x2[k.toNat]? = some v := ⟨_, List.getElem?_eq_getElem (by omega)⟩
      have ek : (k.toNat : Int) = k := Int.toNat_of_nonneg k0
      refine ⟨p2, x2, k, v, rfl, rfl, .inl (.inl (x6 _ _ np2 e5)), by rw [← ek]; exact atI_nat hv, ?_⟩
      have hv6 : NoChg (hid a H6) v := (g5 v (List.mem_of_getElem? hv)).same (hid_x x6)
      have hg6 : H6 g = some (.tup gdC) := x6 _ _ nga i5.2
      obtain ⟨c, rfl⟩ : ∃ c : Nat, at_ = (c : Int) := ⟨at_.toNat, by omega⟩
      refine ⟨_, rfl, lz, fun t1 ht1 => ⟨_, rfl, t1, (c : Int), _, rfl, rfl, upd_same, by simp, t0, by omega, by simp, fun u7 H7 s7 hu7 => ?_⟩⟩
      have s67 := (same_new (o := .tup [.ref g]) ht1).trans s7
      refine ⟨_, rfl, lz, fun t2 ht2 => catA_rd ((same_new ht2) _ _ hu7) upd_same ?_ fun u8 H8 s8 hu8 => ?_⟩
      · rw [PyProof.Rows.lm_len_rep_flat]
        simp only [List.length_cons, List.length_nil, Int.toNat_natCast]
        omega
      have s78 := (same_new (o := .tup [v]) ht2).trans s8
      refine ⟨_, rfl, lz, fun t3 ht3 => ?_⟩
      have s9 := same_new (o := .tup [.ref g, .non]) ht3
      have hA9 := hA6.same ((s67.trans s78).trans s9)
      refine ⟨_, rfl, a, 3, rfl, hA9, by decide, by decide, fun m HA m0 m1 hAA xA _ => ?_⟩
      have nt3 : t3 ≠ a := (hA6.same (s67.trans s78)).ne ht3
      have nu8 : u8 ≠ a := rep_tup hA6 (s67.trans s78) hu8
      refine ⟨m, rfl, slA_rd (xA _ _ nt3 upd_same) fun u10 HB sB hu10 => ?_⟩
      obtain ⟨m', rfl⟩ : ∃ m' : Nat, m = (m' : Int) := ⟨m.toNat, by omega⟩
      rw [cutA_to] at hu10
      have hu8B := sB _ _ (xA _ _ nu8 (s9 _ _ hu8))
      refine catA_rd hu8B hu10 ?_ fun u11 HC sC hu11 => ⟨_, rfl, lz, fun p hp => ?_⟩
      · rw [List.length_append, PyProof.Rows.lm_len_rep_flat, List.length_take]
        simp only [List.length_cons, List.length_nil, Int.toNat_natCast]
        omega
      have sD := same_new (o := .tup [.ref u11, .int (c : Int)]) hp
      have X6D : SameX a H6 (upd HC p (.tup [.ref u11, .int (c : Int)])) := (sx ((s67.trans s78).trans s9)).trans (xA.trans (sx ((sB.trans sC).trans sD)))
      have nu11 : u11 ≠ a := rep_tup (hAA.same sB) sC hu11
      have hB : (upd HC p (.tup [.ref u11, .int (c : Int)])) u11 = some (.tup ((List.replicate (c : Int).toNat [V.ref g]).flatten ++ [v] ++ [V.ref g, .non].take m')) := sD _ _ hu11
      have hF : (List.replicate (c : Int).toNat [V.ref g]).flatten = List.replicate c (V.ref g) := by
        rw [Int.toNat_natCast, rep_oneV]
      rw [hF] at hB
      refine q p (.ref u11) (some c) _ ((X5.trans x6).trans X6D) (hAA.same ((sB.trans sC).trans sD)) upd_same (fun i e => by cases e; omega) ⟨u11, _, rfl, hid_at hB nu11, ?_, ?_, fun j hj => ⟨g, (97, 98, .any), ?_, hid_x X6D _ _ (hid_at hg6 nga), ?_⟩, v, ?_, hv6.same (hid_x X6D)⟩
      · simp only [List.length_append, List.length_replicate, List.length_cons, List.length_nil, List.length_take]
        omega
      · simp only [List.length_append, List.length_replicate, List.length_cons, List.length_nil, List.length_take]
        omega
      · rw [List.append_assoc, List.getElem?_append_left (by rw [List.length_replicate]; exact hj), List.getElem?_replicate, if_pos hj]
      · exact ⟨⟨by decide, by decide⟩, ⟨by decide, by decide⟩, by decide⟩
      · rw [List.append_assoc, List.getElem?_append_right (by rw [List.length_replicate]; exact Nat.le_refl _), List.length_replicate, Nat.sub_self]
        rfl
end
end Wl

namespace Wl
open PySem PySem.Spec PyProof.Rows L2
abbrev sDue : Stmt := topS 84
/-- a list of pairs -/
def PrAt (H : Hp) (v : V) (pr : Str × V) : Prop := ∃ p, v = .ref p ∧ H p = some (.tup [.str pr.1, pr.2])
def PL (H : Hp) (l : Addr) (ps : List (Str × V)) : Prop := ∃ xs, H l = some (.lst xs) ∧ Each (PrAt H) xs ps
theorem PrAt.same {H H' : Hp} {v : V} {pr : Str × V} (h : PrAt H v pr) (s : Same H H') : PrAt H' v pr := by
  obtain ⟨p, e, h⟩ := h
  exact ⟨p, e, s _ _ h⟩
theorem PL.same {H H' : Hp} {l : Addr} {ps : List (Str × V)} (h : PL H l ps) (s : Same H H') : PL H' l ps := by
  obtain ⟨xs, e, h⟩ := h
  exact ⟨xs, s _ _ e, h.mono fun v pr q => q.same s⟩
/-- the first that is due -/
def dueX (b0 b1 b2 b3 b4 alike : Bool) (x1 x2 x3 pl : V) : Str × V :=
  if b0 then ("gathering", .non) else if b1 then ("word", x1) else if b2 then ("word", x2) else if b3 then ("word", x3) else if b4 then ("changes", pl) else if alike then ("word", x3) else ("taken", .non)
abbrev w3 (b1 b2 b3 : Bool) : V → Bool := fun v => match v with
  | .int 1 => b1
  | .int 2 => b2
  | .int 3 => b3
  | _ => false
abbrev x3o (x1 x2 x3 : V) : V → V := fun v => match v with
  | .int 1 => x1
  | .int 2 => x2
  | _ => x3
abbrev prG (b : Bool) : List (Str × V) := if b then [("gathering", .non)] else []
abbrev prC (b : Bool) (pl : V) : List (Str × V) := if b then [("changes", pl)] else []
abbrev prE (b : Bool) (x : V) : List (Str × V) := if b then [("word", x)] else []
abbrev prT : List (Str × V) := [("taken", .non)]
theorem rep1 {b : Bool} {v : V} : (List.replicate (if b = true then (1 : Int) else 0).toNat [v]).flatten = if b then [v] else [] := by cases b <;> rfl
theorem one_b {b : Bool} : -(2 ^ 63) ≤ (if b = true then (1 : Int) else 0) ∧ (if b = true then (1 : Int) else 0) < 2 ^ 63 ∧ 1 * (if b = true then (1 : Int) else 0).toNat ≤ sizeLine := by
  rw [sizeLine_eq]
  cases b <;> decide
theorem each_one {H : Hp} {t : Addr} {nm : Str} {v : V} {b : Bool} (ht : H t = some (.tup [.str nm, v])) : Each (PrAt H) (if b then [.ref t] else []) (if b then [(nm, v)] else []) := by
  cases b
  · exact .nil
  · exact .cons ⟨t, rfl, ht⟩ .nil
theorem each_pr {H : Hp} {f : V → Str × V} : ∀ {xs zs : List V}, Each (fun x z => PrAt H z (f x)) xs zs → Each (PrAt H) zs (xs.map f)
  | _, _, .nil => .nil
  | _, _, .cons a b => .cons a (each_pr b)
theorem each_head {H : Hp} {pr : Str × V} {xs : List V} {ps : List (Str × V)} (h : Each (PrAt H) xs ps) (e : ps[0]? = some pr) : ∃ p, xs[0]? = some (.ref p) ∧ H p = some (.tup [.str pr.1, pr.2]) := by
  cases h with
  | nil => cases e
  | cons r _ =>
    obtain ⟨p, ev, hp⟩ := r
    cases e
    exact ⟨p, by rw [ev]; rfl, hp⟩
theorem due_eq (b0 b1 b2 b3 b4 alike : Bool) (x1 x2 x3 pl : V) (c : Bool) (hc : c = (!inV (.bl true) [.bl b0, .bl b1, .bl b2, .bl b3, .bl b4] && alike)) :
    ((((prG b0) ++ ([V.int 1, .int 2, .int 3].filter (w3 b1 b2 b3)).map (fun x => (("word" : Str), x3o x1 x2 x3 x))) ++ (prC b4 pl) ++ (prE c x3)) ++ prT)[0]? = some (dueX b0 b1 b2 b3 b4 alike x1 x2 x3 pl) := by
  subst hc
  cases b0 <;> cases b1 <;> cases b2 <;> cases b3 <;> cases b4 <;> cases alike <;> rfl
section
variable {P : Program} {w : World} {K : PySem.W.Frag} {mg : Str → Option Value} {base : Heap} {f : Addr} {fd : FuncData}
abbrev psDue : List Str := ["_law_basket", "_law_things", "_law_bad", "_law_place", "_law_alike"]
abbrev nDue : List Str := ["_law_basket", "_law_things", "_law_bad", "_law_place", "_law_alike", "_law_some", "_law_k"]
theorem scDue : FnScope nDue psDue (defScope sDue) := ⟨rfl, rfl, rfl, by decide +kernel, rfl, by decide +kernel, by decide +kernel⟩
def spDue : Sp := fun vs H Q _ => ∃ (ba : V) (T Bd : Addr) (pl : V) (alike : Bool) (x0 x1 x2 x3 x4 : V) (b0 b1 b2 b3 b4 : Bool), vs = [ba, .ref T, .ref Bd, pl, .bl alike] ∧ H T = some (.lst [x0, x1, x2, x3, x4]) ∧ H Bd = some (.lst [.bl b0, .bl b1, .bl b2, .bl b3, .bl b4]) ∧
  ∀ (p : Addr) (H' : Hp), Same H H' → H' p = some (.tup [.str (dueX b0 b1 b2 b3 b4 alike x1 x2 x3 pl).1, (dueX b0 b1 b2 b3 b4 alike x1 x2 x3 pl).2]) → Q (.ref p) H'
theorem ok_due (F : Fun K "_law_due" "_law_due" sDue f fd) (B : Bi mg) : FnOk P w K mg base CX0 1 f fd psDue spDue := by
  refine F.ok scDue (fun vs H Q E h => ?_) (fun cdv A outer s H vs Q E hr h => ?_)
  · obtain ⟨ba, T, Bd, pl, alike, x0, x1, x2, x3, x4, b0, b1, b2, b3, b4, rfl, _⟩ := h
    rfl
  · obtain ⟨ba, T, Bd, pl, alike, x0, x1, x2, x3, x4, b0, b1, b2, b3, b4, rfl, hT, hB, q⟩ := h
    refine ⟨_, pss_cons (ps_set (i := 5) scDue.nd rfl (.inl rfl) (pe_op op_rep (pe_lst (pa_cons (pe_tup (pa_cons pe_str (pa_cons pe_non pa_nil))) pa_nil)) (pe_callTy call_int1 (by rfl) B.int (by decide +kernel) (pa_cons (pe_ix ix_list (pv 2) pe_int (fun _ _ => rfl)) pa_nil))))
      (pss_cons (ps_set (i := 5) scDue.nd rfl (.inl rfl) (pe_op op_cat (pv 5) (pe_lc (own := [("_law_k", 6)]) (g := gName 6) (tt := tB (tOp (rIxL K) (tVar 2) (tVar 6))) (te := tTup (tCons (tC (.str "word")) (tCons (tOp (rIxL K) (tVar 1) (tVar 6)) tNil))) rfl scDue.nd (pi_list (pe_lst (pa_cons pe_int (pa_cons pe_int (pa_cons pe_int pa_nil))))) (blkOk_by (N := nDue) (sc := defScope sDue) (by decide +kernel))
          (fun _ _ _ _ _ => pg_name (i := 6) scDue.nd rfl (.inl rfl)) (fun _ _ _ _ _ => pts_one (pt_val (pe_ix ix_list (pv 2) (pv 6) (fun _ _ => rfl)))) (fun _ _ _ _ _ => pe_tup (pa_cons pe_str (pa_cons (pe_ix ix_list (pv 1) (pv 6) (fun _ _ => rfl)) pa_nil))))))
      (pss_cons (ps_set (i := 5) scDue.nd rfl (.inl rfl) (pe_op op_cat (pv 5) (pe_op op_rep (pe_lst (pa_cons (pe_tup (pa_cons pe_str (pa_cons (pv 3) pa_nil))) pa_nil)) (pe_callTy call_int1 (by rfl) B.int (by decide +kernel) (pa_cons (pe_ix ix_list (pv 2) pe_int (fun _ _ => rfl)) pa_nil)))))
      (pss_cons (ps_if (PW.pt (pw_and (pt_cmpR op_notIn_seq pe_bl (pv 2) (by rfl)) (pw_and1 (pt_val (pv 4))))) (pss_one (ps_expr (pe_bm PySem.F.plainAttrs_list PySem.F.slot_list_append PySem.F.type_list_append mt_append (pv 5) (pa_cons (pe_tup (pa_cons pe_str (pa_cons (pe_ix ix_list (pv 1) pe_int (fun _ _ => rfl)) pa_nil))) pa_nil)))) pss_nil)
      (pss_one (ps_ret (pe_ix ix_list (pe_op op_cat (pv 5) (pe_lst (pa_cons (pe_tup (pa_cons pe_str (pa_cons pe_non pa_nil))) pa_nil))) pe_int (fun _ _ => rfl))))))), ?_⟩
    refine st_asg ⟨lz, fun t ht => ⟨lz, fun l hl => ⟨_, rfl, Bd, _, 0, .bl b0, rfl, rfl, .inl (.inl ((same_new hl) _ _ ((same_new ht) _ _ hB))), atI_nat (j := 0) rfl, .inr ⟨b0, rfl, l, _, [.ref t], rfl, rfl, upd_same, one_b.1, one_b.2.1, one_b.2.2, fun l2 hl2 => ?_⟩⟩⟩⟩
    rw [rep1]
    have s1 : Same H (upd (upd (upd H t (.tup [.str "gathering", .non])) l (.lst [.ref t])) l2 (.lst (if b0 then [.ref t] else []))) := ((same_new ht).trans (same_new hl)).trans (same_new hl2)
    have e1 : Each (PrAt (upd (upd (upd H t (.tup [.str "gathering", .non])) l (.lst [.ref t])) l2 (.lst (if b0 then [.ref t] else [])))) (if b0 then [.ref t] else []) (prG b0) := each_one ((same_new hl2) _ _ ((same_new hl) _ _ upd_same))
    have h1 : upd (upd (upd H t (.tup [.str "gathering", .non])) l (.lst [.ref t])) l2 (.lst (if b0 then [.ref t] else [])) l2 = some (.lst (if b0 then [.ref t] else [])) := upd_same
    have z1 : (if b0 then [V.ref t] else []).length ≤ 1 := by cases b0 <;> simp
    generalize upd (upd (upd H t (.tup [.str "gathering", .non])) l (.lst [.ref t])) l2 (.lst (if b0 then [.ref t] else [])) = H1 at s1 e1 h1
    generalize (if b0 then [V.ref t] else []) = xs1 at e1 h1 z1
    have hT1 := s1 _ _ hT
    have hB1 := s1 _ _ hB
    refine st_asg ⟨_, rfl, lz, fun L hL => ⟨L, rfl, ⟨_, .inl (.inl upd_same)⟩, fun D hD => ?_⟩⟩
    have sL : Same H1 (upd H1 L (.lst [.int 1, .int 2, .int 3])) := same_new hL
    have hL1 : upd H1 L (.lst [.int 1, .int 2, .int 3]) L = some (.lst [.int 1, .int 2, .int 3]) := upd_same
    have hT1 := sL _ _ hT1
    have hB1 := sL _ _ hB1
    have h1 := sL _ _ h1
    have e1 := e1.mono fun v pr q => q.same sL
    have s1 := s1.trans sL
    generalize upd H1 L (.lst [.int 1, .int 2, .int 3]) = H2 at s1 hL1 hT1 hB1 h1 e1 hD
    refine lc_rel (walk_list (K := K) (a := L) (xs := [.int 1, .int 2, .int 3])) hD (w3 b1 b2 b3) (fun x y H => PrAt H y ("word", x3o x1 x2 x3 x)) (fun H' s' => .inl (.inl (s' _ _ hL1))) (fun _ => rfl) ?_ ?_ (fun x y Ha Hb acc hd sx ⟨p, e, h⟩ => ⟨p, e, sx _ _ (fun z => by rw [z, hd] at h; cases h) h⟩) (by decide +kernel) ?_
    · intro x Hx hx s' Q' q'
      simp only [List.mem_cons, List.not_mem_nil, or_false] at hx
      rcases hx with rfl | rfl | rfl
      · exact ⟨_, rfl, _, rfl, Bd, _, 1, .bl b1, rfl, rfl, .inl (.inl (s' _ _ hB1)), atI_nat (j := 1) rfl, b1, rfl, q'⟩
      · exact ⟨_, rfl, _, rfl, Bd, _, 2, .bl b2, rfl, rfl, .inl (.inl (s' _ _ hB1)), atI_nat (j := 2) rfl, b2, rfl, q'⟩
      · exact ⟨_, rfl, _, rfl, Bd, _, 3, .bl b3, rfl, rfl, .inl (.inl (s' _ _ hB1)), atI_nat (j := 3) rfl, b3, rfl, q'⟩
    · intro x Hx hx _ s' Q' q'
      simp only [List.mem_cons, List.not_mem_nil, or_false] at hx
      rcases hx with rfl | rfl | rfl
      · exact ⟨_, rfl, _, rfl, T, _, 1, x1, rfl, rfl, .inl (.inl (s' _ _ hT1)), atI_nat (j := 1) rfl, lz, fun p hp => q' (.ref p) _ (same_new hp) ⟨p, rfl, upd_same⟩⟩
      · exact ⟨_, rfl, _, rfl, T, _, 2, x2, rfl, rfl, .inl (.inl (s' _ _ hT1)), atI_nat (j := 2) rfl, lz, fun p hp => q' (.ref p) _ (same_new hp) ⟨p, rfl, upd_same⟩⟩
      · exact ⟨_, rfl, _, rfl, T, _, 3, x3, rfl, rfl, .inl (.inl (s' _ _ hT1)), atI_nat (j := 3) rfl, lz, fun p hp => q' (.ref p) _ (same_new hp) ⟨p, rfl, upd_same⟩⟩
    intro zs H3 s3 hD3 ez
    have e2 := each_pr (f := fun x => (("word" : Str), x3o x1 x2 x3 x)) ez
    have z2 : zs.length ≤ 3 := by
      have q1 := ez.length
      have q2 : ([V.int 1, .int 2, .int 3].filter (w3 b1 b2 b3)).length ≤ 3 := List.length_filter_le _ _
      omega
    have h1 := s3 _ _ h1
    have e1 := e1.mono fun v pr q => q.same s3
    have hT3 := s3 _ _ hT1
    have hB3 := s3 _ _ hB1
    have s3 := s1.trans s3
    refine ⟨l2, D, xs1, zs, rfl, rfl, h1, hD3, lzl (by omega), fun l3 hl3 => ?_⟩
    have k4 : Same H3 (upd H3 l3 (.lst (xs1 ++ zs))) := same_new hl3
    have h4 : upd H3 l3 (.lst (xs1 ++ zs)) l3 = some (.lst (xs1 ++ zs)) := upd_same
    have e4 := (e1.append e2).mono fun v pr q => q.same k4
    have hT4 := k4 _ _ hT3
    have hB4 := k4 _ _ hB3
    have s4 := s3.trans k4
    generalize upd H3 l3 (.lst (xs1 ++ zs)) = H4 at h4 e4 hT4 hB4 s4
    refine st_asg ⟨_, rfl, _, rfl, lz, fun t4 ht4 => ⟨lz, fun l5 hl5 => ⟨_, rfl, Bd, _, 4, .bl b4, rfl, rfl, .inl (.inl ((same_new hl5) _ _ ((same_new ht4) _ _ hB4))), atI_nat (j := 4) rfl, .inr ⟨b4, rfl, l5, _, [.ref t4], rfl, rfl, upd_same, one_b.1, one_b.2.1, one_b.2.2, fun l6 hl6 => ?_⟩⟩⟩⟩
    rw [rep1]
    have k5 := ((same_new (o := .tup [.str "changes", pl]) ht4).trans (same_new (o := .lst [.ref t4]) hl5)).trans (same_new (o := .lst (if b4 then [.ref t4] else [])) hl6)
    have z5 : (if b4 then [V.ref t4] else []).length ≤ 1 := by cases b4 <;> simp
    refine ⟨l3, l6, xs1 ++ zs, (if b4 then [.ref t4] else []), rfl, rfl, k5 _ _ h4, upd_same, lzl (by rw [List.length_append]; omega), fun l7 hl7 => ?_⟩
    have k6 := same_new (o := .lst (xs1 ++ zs ++ (if b4 then [.ref t4] else []))) hl7
    have e6 := ((e4.mono fun v pr q => q.same (k5.trans k6)).append (each_one (b := b4) (H := upd (upd (upd (upd H4 t4 (.tup [.str "changes", pl])) l5 (.lst [.ref t4])) l6 (.lst (if b4 then [.ref t4] else []))) l7 (.lst (xs1 ++ zs ++ (if b4 then [.ref t4] else [])))) (t := t4) (nm := "changes") (v := pl) (k6 _ _ ((same_new hl6) _ _ ((same_new hl5) _ _ upd_same)))))
    have h6 : upd (upd (upd (upd H4 t4 (.tup [.str "changes", pl])) l5 (.lst [.ref t4])) l6 (.lst (if b4 then [.ref t4] else []))) l7 (.lst (xs1 ++ zs ++ (if b4 then [.ref t4] else []))) l7 = some (.lst (xs1 ++ zs ++ (if b4 then [.ref t4] else []))) := upd_same
    have hT6 := k6 _ _ (k5 _ _ hT4)
    have hB6 := k6 _ _ (k5 _ _ hB4)
    have s6 := (s4.trans k5).trans k6
    have z6 : (xs1 ++ zs ++ (if b4 then [V.ref t4] else [])).length ≤ 5 := by
      rw [List.length_append, List.length_append]
      omega
    have n7 : H l7 = none := hq_of (s4.trans k5) hl7
    generalize upd (upd (upd (upd H4 t4 (.tup [.str "changes", pl])) l5 (.lst [.ref t4])) l6 (.lst (if b4 then [.ref t4] else []))) l7 (.lst (xs1 ++ zs ++ (if b4 then [.ref t4] else []))) = H6 at e6 h6 hT6 hB6 s6
    generalize xs1 ++ zs ++ (if b4 then [V.ref t4] else []) = xs6 at e6 h6 z6
    have fin : ∀ (c : Bool) (H7 : Hp) (xs7 : List V), c = (!inV (.bl true) [.bl b0, .bl b1, .bl b2, .bl b3, .bl b4] && alike) → Same H H7 → H7 l7 = some (.lst xs7) → xs7.length ≤ 6 → Each (PrAt H7) xs7 ((((prG b0) ++ ([V.int 1, .int 2, .int 3].filter (w3 b1 b2 b3)).map (fun x => (("word" : Str), x3o x1 x2 x3 x))) ++ (prC b4 pl) ++ (prE c x3))) →
        tOp (rIxL K) (tOp rCat (tVar 5) (tLst (tCons (tTup (tCons (tC (.str "taken")) (tCons (tC .non) tNil))) tNil))) (tC (.int 0)) [some ba, some (.ref T), some (.ref Bd), some pl, some (.bl alike), some (.ref l7), none] H7 Q := by
      intro c H7 xs7 hc s7 h7 z7 e7
      refine ⟨_, rfl, lz, fun t8 ht8 => ⟨lz, fun l8 hl8 => ⟨l7, l8, xs7, [.ref t8], rfl, rfl, (same_new hl8) _ _ ((same_new ht8) _ _ h7), upd_same, lzl (by rw [List.length_cons, List.length_nil]; omega), fun l9 hl9 => ?_⟩⟩⟩
      have k8 := ((same_new (o := .tup [.str "taken", .non]) ht8).trans (same_new (o := .lst [.ref t8]) hl8)).trans (same_new (o := .lst (xs7 ++ [.ref t8])) hl9)
      have e8 := (e7.mono fun v pr q => q.same k8).append (.cons (b := (("taken", V.non) : Str × V)) ⟨t8, rfl, (same_new hl9) _ _ ((same_new hl8) _ _ upd_same)⟩ .nil)
      have hd := due_eq b0 b1 b2 b3 b4 alike x1 x2 x3 pl c hc
      obtain ⟨p, hx, hp⟩ := each_head e8 hd
      exact ⟨l9, _, 0, .ref p, rfl, rfl, .inl (.inl upd_same), atI_nat (j := 0) hx, q p _ (s7.trans k8) hp⟩
    have noA : ∀ {c : Bool}, c = (!inV (.bl true) [.bl b0, .bl b1, .bl b2, .bl b3, .bl b4] && alike) → c = false → tOp (rIxL K) (tOp rCat (tVar 5) (tLst (tCons (tTup (tCons (tC (.str "taken")) (tCons (tC .non) tNil))) tNil))) (tC (.int 0)) [some ba, some (.ref T), some (.ref Bd), some pl, some (.bl alike), some (.ref l7), none] H6 Q := fun hc e => fin _ H6 xs6 hc s6 h6 (by omega) (by subst e; rw [show prE false x3 = [] from rfl, List.append_nil]; exact e6)
    refine ⟨_, rfl, Bd, _, rfl, .inl (.inl (.inl hB6)), rfl, rfl, _, rfl, ite_b (fun e => ⟨_, rfl, alike, rfl, ite_b (fun e2 => ?_) (fun e2 => ?_)⟩) (fun e => ?_)⟩
    · refine ⟨_, rfl, .inl ⟨rfl, _, .inl (.inl h6)⟩, _, rfl, T, _, 3, x3, rfl, rfl, .inl (.inl hT6), atI_nat (j := 3) rfl, lz, fun t7 ht7 => ⟨l7, xs6, _, rfl, rfl, (same_new ht7) _ _ h6, small1000 (by omega), ?_⟩⟩
      have kA : Same H (upd (upd H6 t7 (.tup [.str "word", x3])) l7 (.lst (xs6 ++ [.ref t7]))) := same_mut (s6.trans (same_new ht7)) n7
      have ne : ∀ {p : Addr} {o : List V}, upd H6 t7 (.tup [.str "word", x3]) p = some (.tup o) → p ≠ l7 := fun {p o} hp z => by
        rw [z, (same_new ht7) _ _ h6] at hp
        cases hp
      have eA : Each (PrAt (upd (upd H6 t7 (.tup [.str "word", x3])) l7 (.lst (xs6 ++ [.ref t7])))) (xs6 ++ [.ref t7]) _ := (e6.mono fun v pr q => by
        obtain ⟨p, ev, hp⟩ := q
        have hp2 := (same_new (o := .tup [.str "word", x3]) ht7) _ _ hp
        exact ⟨p, ev, by rw [upd_ne (ne hp2)]; exact hp2⟩).append (.cons (b := (("word", x3) : Str × V)) ⟨t7, rfl, by rw [upd_ne (ne upd_same)]; exact upd_same⟩ .nil)
      have hc : true = (!inV (.bl true) [.bl b0, .bl b1, .bl b2, .bl b3, .bl b4] && alike) := by
        have e' : (!inV (.bl true) [.bl b0, .bl b1, .bl b2, .bl b3, .bl b4]) = true := e
        rw [e', e2]
        rfl
      exact fin true _ _ hc kA upd_same (by rw [List.length_append, List.length_cons, List.length_nil]; omega) eA
    · exact st_nextR (noA (c := false) (by rw [e2, Bool.and_false]) rfl)
    · have e' : (!inV (.bl true) [.bl b0, .bl b1, .bl b2, .bl b3, .bl b4]) = false := e
      exact st_nextR (noA (c := false) (by rw [e', Bool.false_and]) rfl)
end
end Wl

namespace Wl
open PySem PySem.Spec PyProof.Rows L2
section
variable {K : PySem.W.Frag} {f : Addr} {fd : FuncData}
theorem put_b7 (F : FunP K f fd) : ∃ ds, Vals [V.bl true] ds ∧ Binds K fd psPut ds :=
  F.binds1 (ps := psPut) 7 1 (by simp) rfl (fun T kV doc pm an cdv ct us its l1 l2 => by
      match us, its, l1, l2 with
      | [_, _, _, _, _, _, _], [_, _], _, _ => exact ⟨_, rfl, rfl⟩)
theorem strike_b5 (F : FunS K f fd) : Binds K fd psStrike [] := by
  obtain ⟨ds, h1, h2⟩ := F.binds1 (ps := psStrike) 5 1 (by simp) rfl (fun T kV doc pm an cdv ct us its l1 l2 => by
      match us, its, l1, l2 with
      | [_, _, _, _, _], [_], _, _ => exact ⟨_, rfl, rfl⟩)
  cases h1
  exact h2
end
theorem GatAt.keep {C D : Addr} {H H' : Hp} {p : Addr} {r : GR} (h : GatAt C D H p r) (k : Keep H H') (ht : H' r.td = some (.lst (r.as.map V.ref))) (hd : H' r.dd = some (.lst r.ds)) : GatAt C D H' p r :=
  ⟨let ⟨dx, e⟩ := h.at_; ⟨dx, k _ _ (fun xs e => by cases e) e⟩, h.land.keep k, ht, h.tels.keep k.tk, hd, h.ne⟩
theorem GatAt.x {C D : Addr} {H H' : Hp} {p a : Addr} {r : GR} (h : GatAt C D H p r) (hA : PurseAt H a) (s : SameX a H H') (n1 : r.td ≠ a) (n2 : r.dd ≠ a) : GatAt C D H' p r := by
  obtain ⟨ys, hy⟩ := hA.lst
  exact h.keep (kp_x s hy) (s _ _ n1 h.told) (s _ _ n2 h.deeds)
theorem kp_2 {a b : Addr} {H H' : Hp} {xs ys : List V} (s : Same2 a b H H') (ha : H a = some (.lst xs)) (hb : H b = some (.lst ys)) : Keep H H' := fun p o n h => s p o (fun e => by
    rw [e, ha] at h
    exact n xs (Option.some.inj h).symm) (fun e => by
    rw [e, hb] at h
    exact n ys (Option.some.inj h).symm) h
theorem purse_2 {a b c : Addr} {H H' : Hp} (h : PurseAt H a) (s : Same2 b c H H') (n1 : a ≠ b) (n2 : a ≠ c) : PurseAt H' a := by
  obtain ⟨y0, y1, y2, hy, hy1⟩ := h
  exact ⟨y0, y1, y2, s _ _ n1 n2 hy, hy1⟩
section
variable {P : Program} {w : World} {K : PySem.W.Frag} {mg : Str → Option Value} {base : Heap} {f C D : Addr} {fd : FuncData}
def HasI (P : Program) (w : World) (K : PySem.W.Frag) (mg : Str → Option Value) (base : Heap) (C : Addr) : Prop :=
  ∃ f fd, Mk K C f ∧ FnOk P w K mg base CX0 4 f fd ["self", "rows"] (spInit C) ∧ Binds K fd ["self", "rows"] []
def HasG (P : Program) (w : World) (K : PySem.W.Frag) (mg : Str → Option Value) (base : Heap) (C D : Addr) : Prop :=
  ∃ f fd, Mk K D f ∧ FnOk P w K mg base CX0 1 f fd ["self", "land"] (spGInit C D) ∧ Binds K fd ["self", "land"] []
def HasP (P : Program) (w : World) (K : PySem.W.Frag) (mg : Str → Option Value) (base : Heap) (C D : Addr) : Prop := ∃ f fd, FnOk P w K mg base CX0 4 f fd psPut (spPut C D) ∧ Meth K D "put" f ∧ FunP K f fd
def HasS (P : Program) (w : World) (K : PySem.W.Frag) (mg : Str → Option Value) (base : Heap) (C D : Addr) : Prop := ∃ f fd, FnOk P w K mg base CX0 3 f fd psStrike (spStrike C D) ∧ Meth K D "strike" f ∧ FunS K f fd
/-! ### a Gathering of these tellings -/
end
end Wl



namespace Wl
open PySem PySem.Spec PyProof.Rows L2
/-- one of two -/
abbrev pk2 (b : Bool) (g n : V) : V := if b then n else g
/-- what is told is what is due -/
theorem agree {K : PySem.W.Frag} {C D : Addr} {H : Hp} {b0 b1 b2 b3 b4 alike : Bool} {p S : Addr} {r : GR} {zz aa bb : Str} {chs : List Chg} {g' z' a' b' v' : V} {o : Option Nat} {t : Value} (hG : GatAt C D H p r) (hok : ∀ t ∈ r.ts, OkT t) (h60 : r.ts.length ≤ 60)
    (hz : IsWd zz) (ha : IsWd aa) (hb : IsWd bb) (hS : ChAt H S chs) (okc : OkCs chs) (ty : b0 = true → TyX K H g' t ∧ PySem.W.kitOne K t (.ref D) = some false) (oz : b1 = true → OddR K H z') (oa : b2 = true → OddR K H a') (ob' : b3 = true → OddR K H b') (ov : b4 = true → NoChs H v' o ∧ ∀ i, o = some i → i ≤ 3)
    (hal : alike = decide (mean chs aa = mean chs bb)) :
    ∃ n, TellR K C D H (pk2 b0 (.ref p) g') (pk2 b1 (.str zz) z') (pk2 b2 (.str aa) a') (pk2 b3 (.str bb) b') (pk2 b4 (.ref S) v') n ∧
      ((ansN n, ansV n) : Str × V) = dueX b0 b1 b2 b3 b4 alike (pk2 b1 (.str zz) z') (pk2 b2 (.str aa) a') (pk2 b3 (.str bb) b') (plcV o) ∧ RepN K H (ansN n) (ansV n) := by
  have rn : ∀ {nm : Str}, ShowsP nm .none → RepN K H nm .non := fun h => ⟨_, .inl ⟨rfl, .non⟩, h⟩
  cases b0 with
  | true => exact ⟨some .gath, ⟨t, ty rfl⟩, rfl, rn shows_c⟩
  | false =>
    cases b1 with
    | true =>
      obtain ⟨o1, o2, o3⟩ := oz rfl
      exact ⟨some (.word z'), ⟨p, r, rfl, hG, .inl ⟨rfl, o1, o2⟩⟩, rfl, o3⟩
    | false =>
      cases b2 with
      | true =>
        obtain ⟨o1, o2, o3⟩ := oa rfl
        exact ⟨some (.word a'), ⟨p, r, rfl, hG, .inr ⟨zz, rfl, hz, .inl ⟨rfl, o1, o2⟩⟩⟩, rfl, o3⟩
      | false =>
        cases b3 with
        | true =>
          obtain ⟨o1, o2, o3⟩ := ob' rfl
          exact ⟨some (.word b'), ⟨p, r, rfl, hG, .inr ⟨zz, rfl, hz, .inr ⟨aa, rfl, ha, .inl ⟨rfl, o1, o2⟩⟩⟩⟩, rfl, o3⟩
        | false =>
          cases b4 with
          | true =>
            obtain ⟨o1, o2⟩ := ov rfl
            refine ⟨some (.chs o), ⟨p, r, zz, aa, bb, rfl, hG, rfl, rfl, rfl, hz, ha, hb, o1⟩, rfl, ?_⟩
            cases o with
            | none => exact rn shows_c
            | some i =>
              have hi := o2 i rfl
              rcases i with _ | _ | _ | _ | i
              · exact ⟨_, .inl ⟨rfl, .int 0⟩, shows_c⟩
              · exact ⟨_, .inl ⟨rfl, .int 1⟩, shows_c⟩
              · exact ⟨_, .inl ⟨rfl, .int 2⟩, shows_c⟩
              · exact ⟨_, .inl ⟨rfl, .int 3⟩, shows_c⟩
              · omega
          | false =>
            by_cases h : mean chs aa = mean chs bb
            · rw [decide_eq_true h] at hal
              subst hal
              exact ⟨some (.word (.str bb)), ⟨p, r, rfl, hG, .inr ⟨zz, rfl, hz, .inr ⟨aa, rfl, ha, .inr ⟨bb, chs, rfl, rfl, hb, .inr ⟨S, rfl, hS⟩, okc, h⟩⟩⟩⟩, rfl, _, .inl ⟨rfl, .str bb⟩, shows_s (nm := "word") (by decide +kernel) (by decide +kernel) (str_ok8 (wd_ascii hb)) (Nat.le_trans hb.len.2 (by decide))⟩
            · rw [decide_eq_false h] at hal
              subst hal
              exact ⟨none, ⟨p, r, zz, aa, bb, chs, rfl, rfl, rfl, rfl, hG, hok, h60, hz, ha, hb, .inr ⟨S, rfl, hS⟩, okc, h⟩, rfl, rn shows_c⟩
/-- things that are no Gathering -/
structure KitNoG (K : PySem.W.Frag) (C D : Addr) : Prop where
  non : PySem.W.kitOne K (.type "NoneType") (.ref D) = some false
  bl : PySem.W.kitOne K (.type "bool") (.ref D) = some false
  int : PySem.W.kitOne K (.type "int") (.ref D) = some false
  str : PySem.W.kitOne K (.type "str") (.ref D) = some false
  lst : PySem.W.kitOne K (.type "list") (.ref D) = some false
  tup : PySem.W.kitOne K (.type "tuple") (.ref D) = some false
  dK : PySem.W.kitOne K (.type "dict") (.ref D) = some false
  land : PySem.W.kitOne K (.ref C) (.ref D) = some false
def NoG (K : PySem.W.Frag) (D : Addr) (H : Hp) (v : V) : Prop := ∃ t, TyX K H v t ∧ PySem.W.kitOne K t (.ref D) = some false
theorem NoG.odd {K : PySem.W.Frag} {C D : Addr} {H : Hp} {v : V} (k : KitNoG K C D) (h : OddV H v) : NoG K D H v := by
  rcases h with ⟨z, e, h⟩ | h | ⟨b, h⟩ | ⟨i, h⟩ | ⟨p, e, ⟨xs, h⟩ | ⟨xs, h⟩ | ⟨xs, h⟩⟩
  · subst e
    exact ⟨_, .base (.str z), k.str⟩
  · subst h
    exact ⟨_, .base .non, k.non⟩
  · subst h
    exact ⟨_, .base (.bl b), k.bl⟩
  · subst h
    exact ⟨_, .base (.int i), k.int⟩
  · subst e
    exact ⟨_, .base (.tup h), k.tup⟩
  · subst e
    exact ⟨_, .base (.lst h), k.lst⟩
  · subst e
    exact ⟨_, .base (.dK h), k.dK⟩
end Wl

namespace Wl
open PySem PySem.Spec PyProof.Rows L2
section
variable {K : PySem.W.Frag} {C D a p L : Addr} {r : GR} {wd : Nat} {σ : L2.St}
/-- what stands while the list of things that are no Gathering is made -/
abbrev IG (C D a p L : Addr) (r : GR) : Hp → Prop := fun H => PurseAt H a ∧ GatAt C D H p r ∧ GridAt H L r.g
theorem ig_grows : GrowsH (IG C D a p L r) := fun _ _ h s => ⟨h.1.same s, h.2.1.same s, h.2.2.keep (tk_same s)⟩
/-- of another kind -/
def OtG (C a : Addr) (H : Hp) (v : V) : Prop := OddV (hid a H) v ∨ ∃ x dx fs, v = .ref x ∧ hid a H x = some (.ins C dx fs)
theorem OtG.x {H H' : Hp} {v : V} (h : OtG C a H v) (s : SameX a H H') : OtG C a H' v := by
  rcases h with h | ⟨x, dx, fs, e, h⟩
  · exact .inl (h.same (hid_x s))
  · exact .inr ⟨x, dx, fs, e, hid_x s _ _ h⟩
theorem otg_grows : Grows (fun H v => OtG C a H v) := fun _ _ _ h s => h.x (sx s)
theorem og_t0 : Bld σ (IG C D a p L r) (fun H v => OtG C a H v) (tTup tNil) := fun H Q i q => ⟨lz, fun t ht => q _ _ (same_new ht) (.inl (od_t (hid_newP i.1 ht)))⟩
theorem og_l0 : Bld σ (IG C D a p L r) (fun H v => OtG C a H v) (tLst tNil) := fun H Q i q => ⟨lz, fun t ht => q _ _ (same_new ht) (.inl (od_l (hid_newP i.1 ht)))⟩
theorem og_d : Bld σ (IG C D a p L r) (fun H v => OtG C a H v) tDNewK := fun H Q i q t ht => q _ _ (same_new ht) (.inl (od_d (hid_newP i.1 ht)))
theorem og_lots (h2 : σ[2]? = some (some (.ref L))) : Bld σ (IG C D a p L r) (fun H v => OtG C a H v) (tVar 2) := fun H Q i q => by
  obtain ⟨as, hL, _⟩ := i.2.2
  exact ⟨_, h2, q _ _ (Same.refl H) (.inl (od_t (hid_at hL fun z => by
    obtain ⟨ys, hy⟩ := i.1.lst
    rw [z, hy] at hL
    cases hL)))⟩
theorem og_land (gd : Good r.g wd) (h2 : σ[2]? = some (some (.ref L))) : Bld σ (IG C D a p L r) (fun H v => OtG C a H v) (tMake C (spInit C) [] E0 (tCons (tVar 2) tNil)) := fun H Q i q => ⟨_, h2, fun x dx nx ndx ne => by
  have kp1 : TupKeep H (upd (upd H dx (.own x)) x (.ins C dx [])) := fun b0 xs h => by
    rw [upd_ne (ne_of_none h nx), upd_ne (ne_of_none h ndx)]
    exact h
  refine ⟨x, dx, L, r.g, wd, rfl, upd_same, i.2.2.keep kp1, gd, fun H9 k9 hLa9 => ⟨rfl, ?_⟩⟩
  obtain ⟨d1, d0, hi⟩ := hLa9.ins
  exact q (.ref x) H9 (made_same nx ndx k9) (.inr ⟨x, _, _, rfl, hid_at hi (i.1.ne nx)⟩)⟩
theorem og_tels (cl : Cls K D) (h1 : σ[1]? = some (some (.ref p))) : Bld σ (IG C D a p L r) (fun H v => OtG C a H v) (tMeth D "tellings" (spTell C D) [.non] E0 (tVar 1) tNil) := fun H Q i q => by
  obtain ⟨dg, hg⟩ := i.2.1.at_
  exact ⟨_, h1, p, dg, _, rfl, hg, gf_no _ _ _, p, r, rfl, i.2.1, fun l hl => q _ _ (same_new hl) (.inl (od_l (hid_newP i.1 hl)))⟩
theorem og_tb (h1 : σ[1]? = some (some (.ref p))) : Bld σ (IG C D a p L r) (fun H v => OtG C a H v) (tTup (tCons (tVar 1) tNil)) := fun H Q i q => ⟨_, h1, lz, fun t ht => q _ _ (same_new ht) (.inl (od_t (hid_newP i.1 ht)))⟩
theorem og_tl : Bld σ (IG C D a p L r) (fun H v => OtG C a H v) (tTup (tCons (tLst tNil) tNil)) := fun H Q i q => ⟨lz, fun l hl => ⟨lz, fun t ht => q _ _ ((same_new hl).trans (same_new ht)) (.inl (od_t (hid_newP (i.1.same (same_new hl)) ht)))⟩⟩
theorem og_all (gd : Good r.g wd) (cl : Cls K D) (h1 : σ[1]? = some (some (.ref p))) (h2 : σ[2]? = some (some (.ref L))) : BldA σ (IG C D a p L r) (fun H v => OtG C a H v) 12 (tCons (tC .non) (tCons (tC (.int 0)) (tCons (tC (.bl true)) (tCons (tC (.str "")) (tCons (tTup tNil) (tCons (tLst tNil) (tCons tDNewK (tCons (tVar 2)
    (tCons (tMake C (spInit C) [] E0 (tCons (tVar 2) tNil)) (tCons (tMeth D "tellings" (spTell C D) [.non] E0 (tVar 1) tNil) (tCons (tTup (tCons (tVar 1) tNil)) (tCons (tTup (tCons (tLst tNil) tNil)) tNil)))))))))))) :=
  bld_cons ig_grows otg_grows (bld_c fun _ _ => .inl (odN _)) (bld_cons ig_grows otg_grows (bld_c fun _ _ => .inl (odI _)) (bld_cons ig_grows otg_grows (bld_c fun _ _ => .inl (odB _)) (bld_cons ig_grows otg_grows (bld_c fun _ _ => .inl (odS (by decide +kernel) _)) (bld_cons ig_grows otg_grows og_t0 (bld_cons ig_grows otg_grows og_l0 (bld_cons ig_grows otg_grows og_d (bld_cons ig_grows otg_grows (og_lots h2)
    (bld_cons ig_grows otg_grows (og_land gd h2) (bld_cons ig_grows otg_grows (og_tels cl h1) (bld_cons ig_grows otg_grows (og_tb h1) (bld_cons ig_grows otg_grows og_tl bld_nil)))))))))))
end
end Wl

/-! Promises of defs that are kept where no text of a list, tuple or dict is being made around them: what repr of a list needs. -/
namespace Wl
open PySem PySem.Spec PyProof.Rows L2
structure FnOkG (P : Program) (w : World) (K : PySem.W.Frag) (mg : Str → Option Value) (base : Heap) (k : Nat) (f : Addr) (fd : FuncData) (ps : List Str) (sp : Sp) : Prop where
  len : ∀ vs H Q E, sp vs H Q E → vs.length = ps.length
  run : ∀ (A : Around) (outer : List Env) (s : Shared) (H : Hp) (args : Args) (us : List Value) (vs : List V) (Q : VK) (E : XK), A.guards = some [] → Room k A →
    Env0 P w K mg base A outer s H → BindsTo s fd args (ps.zip us) → Vals vs us → sp vs H Q E → codeAny (model P w) A (.call (.ref f) args) (CR CX0 outer P w H s Q E) s
section
variable {P : Program} {w : World} {K : PySem.W.Frag} {mg : Str → Option Value} {base : Heap} {k : Nat} {f : Addr} {fd : FuncData} {ps N : List Str} {sp : Sp}
theorem FnOkG.of (F : FnOk P w K mg base CX0 k f fd ps sp) : FnOkG P w K mg base k f fd ps sp := ⟨F.len, fun A o s H ar us vs Q E _ => F.run A o s H ar us vs Q E⟩
/-- a def's promise by its body, no such text being made -/
theorem okG {x qual : Str} {st : Stmt} (F : Fun K x qual st f fd) (S : FnScope N ps (defScope st)) (ln : ∀ vs H Q E, sp vs H Q E → vs.length = ps.length)
    (bd : ∀ (cdv : Value) (A : Around) (outer : List Env) (s : Shared) (H : Hp) (vs : List V) (Q : VK) (E : XK), A.guards = some [] → Room k (A.deeper (envOfC qual (defScope st) s.heap.objs.size f cdv)) → sp vs H Q E →
      ∃ t, PSs (cxOf CX0 P w K mg base N qual (defScope st) f cdv A outer s H E).nox (defBody st) t ∧ t { nx := fun _ H' => Q .non H', rt := Q } (start N vs) H) : FnOkG P w K mg base (k + 1) f fd ps sp := by
  obtain ⟨oc, od, kV, doc, pm, an, cd, ct, sl, rfl, at_, hc⟩ := F.ex
  refine ⟨ln, fun A ou s H ar us vs Q E hg room ev bnd rel pr => ?_⟩
  have lv := ln _ _ _ _ pr
  have inK : K.In s.heap := ev.mod.kin.keeps fun b o q => (ev.bs b o q).1
  have nol : s.heap.NoLimit := ev.mod.nolimit.keeps fun b o q => (ev.bs b o q).1
  refine codeAny_call_function room.depth (inK _ _ at_) rfl S.co S.gen rfl (PySem.W.codeRec_of inK hc) (bnd _ _ _ _ ?_)
  refine wpAny_newFunctionEnv_cells S.kind (fun y hy => ?_) fun env ee s1 ic => ?_
  · rcases S.par y.1 (List.of_mem_zip hy).1 with q | q
    · exact .inl q
    · exact .inr ⟨q, PySem.W.cellsFrom_some _ _ _ (.inl q)⟩
  · subst ee
    refine ⟨nol.keeps ic.toInCall.keep, codeAny_func ?_⟩
    obtain ⟨t, der, rd⟩ := bd cd A ou s H vs Q E hg (room.deeper _) pr
    have J0 : L2.Inv (cxOf CX0 P w K mg base N qual (defScope st) f cd A ou s H E) [] (start N vs) H s1 := inv_start S room.hd ev lv rel ic
    refine wpAny_mono (der.nox.run [] s1 (start N vs) H _ J0 rd) (fun fl s2 z => ?_) fun _ _ z => z
    cases fl with
    | ret u => exact let ⟨v, _, H2, J, rv, q⟩ := z; ⟨v, H2, J.os, J.bare, J.base, J.hok, rv, q⟩
    | next => exact let ⟨_, H2, J, q⟩ := z; ⟨V.non, H2, J.os, J.bare, J.base, J.hok, rfl, q⟩
    | brk => exact let ⟨_, _, _, q⟩ := z; q.elim
    | cont => exact let ⟨_, _, _, q⟩ := z; q.elim
/-- such a def by its name -/
def HasQ (P : Program) (w : World) (K : PySem.W.Frag) (mg : Str → Option Value) (base : Heap) (x : Str) (k : Nat) (ps : List Str) (sp : Sp) : Prop :=
  ∃ f fd, FnOkG P w K mg base k f fd ps sp ∧ mg x = some (.ref f) ∧ PySem.W.keepIn K (.ref f) = true ∧ Binds K fd ps []
end
section
variable {X : Cx} {k j : Nat} {ps : List Str} {sp : Sp} {x : Str} {p pos : Pos} {e : Expr} {es : List Expr} {t : TA}
theorem pe_hQ (h : HasQ X.prog X.w X.K X.mg X.base x k ps sp) (hgd : X.A.guards = some []) (hr : Room j X.A) (ha : PA X (e :: es) t) (hkj : k ≤ j := by decide) (hg : Gl X x := by rfl) (hdb : (x == ("__debug__" : Str)) = false := by decide)
    (he : starEach (e :: es) X.env = (false, eval e X.env) :: starEach es X.env := by rfl) (hpl : (backTo pos (starEach es X.env)).any (·.1) = false := by rfl) :
    PE X (.Call (.Name x p) (e :: es) [] pos) (tCall sp [] E0 t) := by
  obtain ⟨f, fd, F, g, kp, b⟩ := h
  refine ⟨fun pins s σ H Q I hh => ?_⟩
  refine wpAny_Call_Name_kw (ld_glob I hg g ?_ hdb)
  refine PySem.W.callWith_K (h₀ := X.base) I.ok.mod.kin kp (thn (ha.run pos pins s σ H _ I hh) fun us s1 ⟨vs, H1, I1, r, q⟩ => ⟨I1.kIn, ?_⟩) he hpl
  have q' : sp vs H1 Q E0 := by
    have z : sp (vs ++ []) H1 Q E0 := q
    rw [List.append_nil] at z
    exact z
  have hl := F.len _ _ _ _ q'
  have hb' : BindsTo s1 fd ⟨us, []⟩ (ps.zip us) := by
    have z := b s1 us I1.kIn (by rw [List.append_nil, ← r.length]; exact hl)
    rw [List.append_nil] at z
    exact z
  refine wpAny_call (codeAny_mono (F.run X.A X.stack s1 H1 ⟨us, []⟩ us vs _ E0 hgd (hr.mono hkj) I1.env0 hb' r q') fun r s' hq => ?_)
  cases r with
  | error e => exact pass0 pins σ H1 s1 e s' I1 hq
  | ok fl =>
    cases fl with
    | ret w => exact I1.after hq
    | next => exact hq.elim
    | brk => exact hq.elim
    | cont => exact hq.elim
end
/-- the law's own call, by such a promise -/
theorem law_callG {P : Program} {w : World} {K : PySem.W.Frag} {mg mb : Str → Option Value} {k : Nat} {fa a : Addr} {fd : FuncData} {x : Str} {sp : Sp} {s₁ : Shared} {vs : List Value} {ns : List Int}
    (KX : K.In s₁.heap) (hns : s₁.heap.Ns mainGlobals mg) (hb : s₁.heap.Ns builtinsNs mb) (hbb : ∀ x : Str, x ≠ "__name__" → mb x = bootBuiltins x) (lim : s₁.heap.NoLimit) (gens : s₁.gens = #[])
    (ha : s₁.heap.get? a = some { cls := .type "list", data := .seq vs.toArray }) (hi : IntsAre vs ns) (hl : ns.length ≤ sizeLine) (room : Room k callerA)
    (F : ∀ base : Heap, K.In base → base.Ns mainGlobals mg → FnOkG P w K mg base k fa fd [x] sp) (bnd : ∀ (s : Shared) (u : Value), BindsTo s fd ⟨[u], []⟩ [(x, u)])
    (pr : ∀ H : Hp, Only H → SqL K H a (ns.map V.int) → sp [.ref a] H (fun v _ => v = .bl true) E0) :
    codeAny (model P w) callerA (.call (.ref fa) ⟨[.ref a], []⟩) (fun r s' => r = .ok (.ret (.bool true)) ∧ OldK s₁.heap s'.heap ∧ s'.os = s₁.os ∧ AllBare s'.gens) s₁ := by
  have rv := vals_ints hi
  have main : ∀ H : Hp, Only H → SqL K H a (ns.map V.int) → HOk P w H s₁.heap → (∀ b u, H b = some u → b = a ∧ K.lookup a = none) →
      codeAny (model P w) callerA (.call (.ref fa) ⟨[.ref a], []⟩) (fun r s' => r = .ok (.ret (.bool true)) ∧ OldK s₁.heap s'.heap ∧ s'.os = s₁.os ∧ AllBare s'.gens) s₁ := by
    intro H only sq hok own
    have free : ∀ b, (b = a → K.lookup a ≠ none) → H b = none := fun b hn => by
      cases q : H b with
      | none => rfl
      | some u => exact absurd (own b u q).2 (hn (own b u q).1)
    have dictN : ∀ {b : Addr} {o : Obj} {es : Array DictEntry} {ep : Nat}, s₁.heap.get? b = some o → o.data = .dict es ep → H b = none := fun {b o es ep} e d => by
      cases q : H b with
      | none => rfl
      | some u =>
        obtain ⟨rfl, _⟩ := own b u q
        rw [ha] at e
        cases e
        cases d
    have nsB : ∀ {b : Addr} {m : Str → Option Value}, s₁.heap.Ns b m → (hidT s₁.heap H).Ns b m := fun {b m} ⟨o, es, ep, e, d, r⟩ => ⟨o, es, ep, hidT_get e (dictN e d), d, r⟩
    have kB : K.In (hidT s₁.heap H) := fun b o e => hidT_get (KX b o e) (free b fun z q => by rw [z, q] at e; cases e)
    have md : Mod K mg (hidT s₁.heap H) := ⟨kB, nsB hns, ⟨mb, nsB hb, hbb⟩, let ⟨mc, h1, h2⟩ := lim; ⟨mc, nsB h1, h2⟩⟩
    have ev : Env0 P w K mg (hidT s₁.heap H) callerA [] s₁ H := ⟨rfl, md, fun _ _ e => of_hidT e, Nat.le_of_eq (hidT_size _ _), trivial, fun b z => absurd (show b ∈ ([] : List Addr) from z) (by simp), hok, .of_eq gens⟩
    refine codeAny_mono ((F _ kB (nsB hns)).run callerA [] s₁ H ⟨[.ref a], []⟩ [.ref a] [.ref a] _ _ rfl room ev (bnd s₁ (.ref a)) (.cons rfl .nil) (pr H only sq)) fun r s' h => ?_
    match r, h with
    | .error e, h => exact (show False from h).elim
    | .ok .next, h => exact h.elim
    | .ok .brk, h => exact h.elim
    | .ok .cont, h => exact h.elim
    | .ok (.ret u), ⟨v, H', os, bare, un, hok', r', q⟩ =>
      obtain rfl : v = .bl true := q
      obtain rfl : u = Value.bool true := r'
      refine ⟨rfl, OldK.of_keep fun b o e => ?_, os, bare⟩
      rcases only b with z | ⟨ob, xs, z⟩
      · exact un.keep b o e z (fun y => absurd (show b ∈ ([] : List Addr) from y) (by simp)) (by simp)
      · have e1 := (hok b _ z).1
        rw [e] at e1
        cases e1
        exact (hok' b _ (un.frzs b _ _ z)).1
  cases hk : K.lookup a with
  | some o =>
    have e := KX a o hk
    rw [ha] at e
    cases e
    refine main (fun _ => none) (fun _ => .inl rfl) (.inr ⟨_, vs.toArray, _, hk, rfl, rfl, rfl, ?_, by simpa using rv⟩) (fun b u z => nomatch z) fun b u z => nomatch z
    rw [List.size_toArray, hi.length]
    exact hl
  | none =>
    have at_ : ∀ b u, (if b = a then some (HO.frz { cls := .type "list", data := .seq vs.toArray } (.lst (ns.map V.int))) else none) = some u → b = a ∧ u = HO.frz { cls := .type "list", data := .seq vs.toArray } (.lst (ns.map V.int)) := fun b u z => by
      by_cases c : b = a
      · rw [if_pos c] at z
        exact ⟨c, (Option.some.inj z).symm⟩
      · rw [if_neg c] at z
        cases z
    refine main (fun b => if b = a then some (.frz { cls := .type "list", data := .seq vs.toArray } (.lst (ns.map V.int))) else none) (fun b => ?_) (.inl (.inr ⟨_, if_pos rfl⟩)) (fun b u z => ?_) fun b u z => ⟨(at_ b u z).1, hk⟩
    · by_cases c : b = a
      · exact .inr ⟨_, _, if_pos c⟩
      · exact .inl (if_neg c)
    · obtain ⟨rfl, rfl⟩ := at_ b u z
      exact ⟨ha, by rw [List.length_map]; exact hl, vs, _, rv, ha⟩
theorem walk_ofG {l : PySem.W.OpenLaw} {n k : Nat} {q : Program} {loose : List Str} {XP : (Str → Option Value) → Heap → Prop} {YP : World → Heap → Prop} {d : DefRec} {x : Str}
    (hn : l.most = some n) (hn2 : n ≤ sizeLine) (hdf : d.params.defaults = []) (hr : Room k callerA)
    (F : ∀ (w : World) (mg : Str → Option Value) (fa : Addr) (h : Heap), YP w h → h.Ns mainGlobals mg → mg d.name = some (.ref fa) →
      ∃ (K : PySem.W.Frag) (fd : FuncData) (sp : Sp), K.In h ∧ (∀ (s : Shared) (u : Value), BindsTo s fd ⟨[u], []⟩ [(x, u)]) ∧ (∀ (H : Hp) (a : Addr) (ns : List Int), ns.length ≤ n → Only H → SqL K H a (ns.map V.int) → sp [.ref a] H (fun v _ => v = .bl true) E0) ∧
        ∀ base : Heap, K.In base → base.Ns mainGlobals mg → FnOkG l.prog w K mg base k fa fd [x] sp) :
    PySem.W.WalkO q loose XP YP l.row.toRowW d [] (fun f vs => PySem.call f vs) := by
  refine Att.attach_call hn hdf fun w s₀ s₁ mg mb fa o pm cd doc a vs ns G Y ho hd hcd hmg hobj hints hlen hg => ?_
  obtain ⟨K, fd, sp, inK, bnd, pr, keeps⟩ := F w mg fa _ Y G.T.g hmg
  exact law_callG inK G.T.g G.T.b G.T.builtins G.T.nolimit hg hobj hints (Nat.le_trans hlen hn2) hr keeps bnd fun H only sq => pr H a ns hlen only sq
end Wl

namespace Wl
open PySem PySem.Spec PyProof.Rows L2
abbrev sRight : Stmt := topS 85
abbrev psRight : List Str := ["_law_purse_here", "_law_basket", "_law_lots"]
abbrev nRight : List Str := ["_law_purse_here", "_law_basket", "_law_lots", "_law_bad", "_law_shifts", "_law_lone", "_law_mate", "_law_way", "_law_kin_here", "_law_some", "_law_alike", "_law_odd", "_law_place", "_law_none", "_law_good", "_law_things", "_law_told_here", "_law_k"]
theorem scRight : FnScope nRight psRight (defScope sRight) := ⟨rfl, rfl, rfl, by decide +kernel, rfl, by decide +kernel, by decide +kernel⟩
/-- at v: a list of letters, one at least -/
def LetsAt (H : Hp) (v : V) : Prop := ∃ q ys, v = .ref q ∧ H q = some (.lst (ys.map V.str)) ∧ ys ≠ [] ∧ ∀ y ∈ ys, ∃ d, isLet d ∧ y = sign d
theorem LetsAt.x {H H' : Hp} {D : Addr} {ls : List V} {v : V} (h : LetsAt H v) (hD : H D = some (.lst ls)) (hr : ∀ u ∈ ls, ∃ q, u = V.ref q) (s : SameX D H H') : LetsAt H' v := by
  obtain ⟨q, ys, e, hq, hn, hy⟩ := h
  refine ⟨q, ys, e, s _ _ (fun z => ?_) hq, hn, hy⟩
  rw [z, hD] at hq
  have e2 := HO.lst.inj (Option.some.inj hq)
  cases ys with
  | nil => exact hn rfl
  | cons y ys =>
    have hm : V.str y ∈ ls := by
      rw [e2]
      exact List.mem_cons_self
    obtain ⟨q', e'⟩ := hr _ hm
    cases e'
theorem each_lets : ∀ {xs zs : List V}, Each (fun (_ : V) z => ∃ d, isLet d ∧ z = V.str (sign d)) xs zs → ∃ cs : List Nat, zs = (cs.map sign).map V.str ∧ cs.length = xs.length ∧ ∀ c ∈ cs, isLet c
  | _, _, .nil => ⟨[], rfl, rfl, fun c hc => by cases hc⟩
  | _, _, .cons a b => by
    obtain ⟨d, hd, rfl⟩ := a
    obtain ⟨cs, rfl, hl, hc⟩ := each_lets b
    refine ⟨d :: cs, rfl, by simp [hl], fun c h => ?_⟩
    rcases List.mem_cons.mp h with rfl | h
    · exact hd
    · exact hc c h
theorem pk_at {b : Bool} {g n : V} : atI [g, n] (if b = true then 1 else 0) = some (pk2 b g n) := by cases b <;> rfl
theorem h2_x {a D : Addr} {H H' : Hp} (s : ∀ b o, b ≠ a → b ≠ D → H b = some o → H' b = some o) : Same (hid D (hid a H)) (hid D (hid a H')) := fun b o e => by
  unfold hid at e ⊢
  by_cases h1 : b = D
  · rw [if_pos h1] at e
    cases e
  · rw [if_neg h1] at e ⊢
    by_cases h2 : b = a
    · rw [if_pos h2] at e
      cases e
    · rw [if_neg h2] at e ⊢
      exact s b o h2 h1 e
theorem h2_new {a D : Addr} {Ha Hb Hc : Hp} {o1 o2 : HO} (hD : Ha D = some o1) (ha : Ha a = some o2) (s : ∀ b o, b ≠ D → Hb b = some o → Hc b = some o) : Same (newH Ha Hb) (hid D (hid a Hc)) := fun b o e => by
  unfold newH at e
  cases q : Ha b with
  | some _ =>
    rw [q] at e
    cases e
  | none =>
    rw [q] at e
    have n1 : b ≠ D := fun z => by rw [z, hD] at q; cases q
    have n2 : b ≠ a := fun z => by rw [z, ha] at q; cases q
    exact hid_at (hid_at (s b o n1 e) n2) n1
section
variable {P : Program} {w : World} {K : PySem.W.Frag} {mg : Str → Option Value} {base : Heap} {f C D : Addr} {fd : FuncData}
def spRight (C D : Addr) : Sp := fun vs H Q _ => ∃ (a p L : Addr) (r : GR) (wd : Nat), vs = [.ref a, .ref p, .ref L] ∧ PurseAt H a ∧ GatAt C D H p r ∧ (∀ t ∈ r.ts, OkT t) ∧ r.ts.length ≤ 60 ∧ GridAt H L r.g ∧ Good r.g wd ∧ r.td ≠ a ∧ r.dd ≠ a ∧ ∀ H', SameX a H H' → PurseAt H' a → Q (.bl true) H'
theorem ok_right (F : Fun K "_law_right" "_law_right" sRight f fd) (B : Bi mg) (hrep : mg "repr" = none) (KN : KitNoG K C D) (insL : C8.InsC K C) (T : Txt K mg C) (TG : TxtG K mg D) (hI : HasI P w K mg base C) (hTl : HasTl P w K mg base C D) (hP : Has P w K mg base "_law_pick" 1 ["_law_purse_here", "_law_count"] spPick) (hCh : Has P w K mg base "_law_changes" 2 ["_law_purse_here", "_law_topmost"] spChanges)
    (hW : Has P w K mg base "_law_word" 2 ["_law_purse_here"] spWord) (hK : Has P w K mg base "_law_kin" 1 ["_law_swaps", "_law_letter", "_law_first", "_law_last"] spKin) (hM : Has P w K mg base "_law_meaning" 2 ["_law_swaps", "_law_sound"] spLMean) (hNC : Has P w K mg base "_law_no_changes" 2 ["_law_purse_here"] spNoC) (hNW : Has P w K mg base "_law_no_word" 2 ["_law_purse_here", "_law_said"] (spNoW K))
    (hTo : Has P w K mg base "_law_told" 9 psTold (spTold K C D)) (hDu : Has P w K mg base "_law_due" 1 psDue spDue) : FnOkG P w K mg base 10 f fd psRight (spRight C D) := by
  obtain ⟨fI, fdI, MI, GI, bI⟩ := hI
  obtain ⟨fT, fdT, FT, mT, FnT⟩ := hTl
  obtain ⟨dsT, vT, bT⟩ := tell_b1 FnT
  refine okG F scRight (fun vs H Q E h => ?_) (fun cdv A outer s H vs Q E hgd hr h => ?_)
  · obtain ⟨a, p, L, r, wd, rfl, _⟩ := h
    rfl
  · obtain ⟨a, p, L, r, wd, rfl, hA, hG, hok, h60, hL, gd, ntd, ndd, q⟩ := h
    refine ⟨_, pss_cons (ps_set (i := 3) scRight.nd rfl (.inr rfl) (pe_lc (own := [("_law_k", 17)]) (g := gName 17) (tt := tYes) (te := tOp rEq (tCall spPick [] E0 (tCons (tVar 0) (tCons (tC (.int 4)) tNil))) (tC (.int 1))) rfl scRight.nd (pi_range1 (by rfl) B.range (pa_cons pe_int pa_nil)) (blkOk_by (N := nRight) (sc := defScope sRight) (by decide +kernel))
          (fun _ _ _ _ _ => pg_name (i := 17) scRight.nd rfl (.inl rfl)) (fun _ _ _ _ _ => pts_nil) (fun _ _ _ _ _ => pe_cmpR op_eq (pe_h hP hr (pa_cons (pv 0) (pa_cons pe_int pa_nil))) pe_int (nomark _))))
      (pss_cons (ps_asg (pe_tup (pa_cons (pe_h hCh hr (pa_cons (pv 0) (pa_cons pe_int pa_nil))) (pa_cons (pe_h hW hr (pa_cons (pv 0) pa_nil)) (pa_cons (pe_h hW hr (pa_cons (pv 0) pa_nil)) pa_nil)))) (pg_tup rfl (pgs_cons (pg_name (i := 4) scRight.nd rfl (.inr rfl)) (pgs_cons (pg_name (i := 5) scRight.nd rfl (.inr rfl)) (pgs_cons (pg_name (i := 6) scRight.nd rfl (.inl rfl)) pgs_nil)))))
      (pss_cons (ps_set (i := 7) scRight.nd rfl (.inl rfl) (pe_h hP hr (pa_cons (pv 0) (pa_cons pe_int pa_nil))))
      (pss_cons (ps_if (pt_cmpR op_eq (pv 7) pe_int (nomark _)) (pss_one (ps_set (i := 6) scRight.nd rfl (.inl rfl) (pv 5))) pss_nil)
      (pss_cons (ps_if (pt_cmpR op_eq (pv 7) pe_int (nomark _))
        (pss_cons (ps_setLc (i := 8) (own := [("_law_k", 17)]) (g := gName 17) (tt := tYes) (te := tCall spKin [] E0 (tCons (tVar 4) (tCons (tOp rIxS (tVar 5) (tVar 17)) (tCons (tOp rEq (tVar 17) (tC (.int 0))) (tCons (tOp rEq (tVar 17) (tOp (rI0 fun i j => .int (i - j)) (tCB (fun xs H Q => ∃ z, xs = [.str z] ∧ z.length ≤ sizeLine ∧ Q (.int z.length) H) (tCons (tVar 5) tNil)) (tC (.int 1)))) tNil))))) rfl scRight.nd rfl rfl (sw_true rfl rfl rfl (by decide +kernel)) (pi_range1 (by rfl) B.range (pa_cons (pe_callB call_len_str (by rfl) B.len PySem.boot_len (pa_cons (pv 5) pa_nil)) pa_nil)) (blkOk_by (N := nRight) (sc := defScope sRight) (by decide +kernel))
          (fun _ _ _ _ _ => pg_name (i := 17) scRight.nd rfl (.inl rfl)) (fun _ _ _ _ _ => pts_nil) (fun _ _ _ _ _ => pe_h hK hr (pa_cons (pv 4) (pa_cons (pe_ix ix_str (pv 5) (pv 17) (fun _ _ => rfl)) (pa_cons (pe_cmpR op_eq (pv 17) pe_int (nomark _)) (pa_cons (pe_cmpR op_eq (pv 17) (pe_op op_sub (pe_callB call_len_str (by rfl) B.len PySem.boot_len (pa_cons (pv 5) pa_nil)) pe_int) (nomark _)) pa_nil))))))
        (pss_one (ps_set (i := 6) scRight.nd rfl (.inl rfl) (pe_join pe_str (pe_lc (own := [("_law_some", 9)]) (g := gName 9) (tt := tYes) (te := tOp (rIxL K) (tVar 9) (tUn (rU fun i => .int (-i)) (tC (.int 1)))) rfl scRight.nd (pi_list (pv 8)) (blkOk_by (N := nRight) (sc := defScope sRight) (by decide +kernel))
          (fun _ _ _ _ _ => pg_name (i := 9) scRight.nd rfl (.inl rfl)) (fun _ _ _ _ _ => pts_nil) (fun _ _ _ _ _ => pe_ix ix_list (pv 9) (pe_un un_neg pe_int) (fun _ _ => rfl))))))) pss_nil)
      (pss_cons (ps_set (i := 10) scRight.nd rfl (.inl rfl) (pe_cmpR op_eq (pe_h hM hr (pa_cons (pv 4) (pa_cons (pv 5) pa_nil))) (pe_h hM hr (pa_cons (pv 4) (pa_cons (pv 6) pa_nil))) (nomark _)))
      (pss_cons (ps_set (i := 9) scRight.nd rfl (.inl rfl) (pe_lst (pa_cons pe_non (pa_cons pe_int (pa_cons pe_bl (pa_cons pe_str (pa_cons (pe_tup pa_nil) (pa_cons (pe_lst pa_nil) (pa_cons pe_dnewK (pa_cons (pv 2) (pa_cons (pe_make MI GI (hr.mono (by decide)) rfl T.mgC bI .nil pass0 (pa_cons (pv 2) pa_nil)) (pa_cons (pe_meth0 (pv 1) TG.cl mT FT (hr.mono (by decide)) bT vT pass0) (pa_cons (pe_tup (pa_cons (pv 1) pa_nil)) (pa_cons (pe_tup (pa_cons (pe_lst pa_nil) pa_nil)) pa_nil))))))))))))))
      (pss_cons (ps_asg (pe_h hNC hr (pa_cons (pv 0) pa_nil)) (pg_tup rfl (pgs_cons (pg_name (i := 11) scRight.nd rfl (.inl rfl)) (pgs_cons (pg_name (i := 12) scRight.nd rfl (.inl rfl)) pgs_nil))))
      (pss_cons (ps_set (i := 13) scRight.nd rfl (.inr rfl) (pe_op op_cat (pe_op op_cat (pe_lst (pa_cons (pe_ix ix_list (pv 9) (pe_h hP hr (pa_cons (pv 0) (pa_cons pe_int pa_nil))) (fun _ _ => rfl)) pa_nil))
          (pe_lc (own := [("_law_k", 17)]) (g := gName 17) (tt := tYes) (te := tCall (spNoW K) [] E0 (tCons (tVar 0) (tCons (tVar 5) tNil))) rfl scRight.nd (pi_range1 (by rfl) B.range (pa_cons pe_int pa_nil)) (blkOk_by (N := nRight) (sc := defScope sRight) (by decide +kernel))
            (fun _ _ _ _ _ => pg_name (i := 17) scRight.nd rfl (.inl rfl)) (fun _ _ _ _ _ => pts_nil) (fun _ _ _ _ _ => pe_h hNW hr (pa_cons (pv 0) (pa_cons (pv 5) pa_nil))))) (pe_lst (pa_cons (pv 11) pa_nil))))
      (pss_cons (ps_set (i := 14) scRight.nd rfl (.inr rfl) (pe_lst (pa_cons (pv 1) (pa_cons (pe_h hW hr (pa_cons (pv 0) pa_nil)) (pa_cons (pv 5) (pa_cons (pv 6) (pa_cons (pv 4) pa_nil)))))))
      (pss_cons (ps_setLc (i := 15) (own := [("_law_k", 17)]) (g := gName 17) (tt := tYes) (te := tOp (rIxL K) (tLst (tCons (tOp (rIxL K) (tVar 14) (tVar 17)) (tCons (tOp (rIxL K) (tVar 13) (tVar 17)) tNil))) (tCB rI1 (tCons (tOp (rIxL K) (tVar 3) (tVar 17)) tNil))) rfl scRight.nd rfl rfl (sw_true rfl rfl rfl (by decide +kernel)) (pi_range1 (by rfl) B.range (pa_cons pe_int pa_nil)) (blkOk_by (N := nRight) (sc := defScope sRight) (by decide +kernel))
          (fun _ _ _ _ _ => pg_name (i := 17) scRight.nd rfl (.inl rfl)) (fun _ _ _ _ _ => pts_nil) (fun _ _ _ _ _ => pe_ix ix_list (pe_lst (pa_cons (pe_ix ix_list (pv 14) (pv 17) (fun _ _ => rfl)) (pa_cons (pe_ix ix_list (pv 13) (pv 17) (fun _ _ => rfl)) pa_nil))) (pe_callTy call_int1 (by rfl) B.int (by decide +kernel) (pa_cons (pe_ix ix_list (pv 3) (pv 17) (fun _ _ => rfl)) pa_nil)) (fun _ _ => rfl)))
      (pss_cons (ps_set (i := 16) scRight.nd rfl (.inl rfl) (pe_h hTo hr (pa_cons (pe_ix ix_list (pv 15) pe_int (fun _ _ => rfl)) (pa_cons (pe_ix ix_list (pv 15) pe_int (fun _ _ => rfl)) (pa_cons (pe_ix ix_list (pv 15) pe_int (fun _ _ => rfl)) (pa_cons (pe_ix ix_list (pv 15) pe_int (fun _ _ => rfl)) (pa_cons (pe_ix ix_list (pv 15) pe_int (fun _ _ => rfl)) (pa_cons (pe_cmpR op_eq (pe_h hP hr (pa_cons (pv 0) (pa_cons pe_int pa_nil))) pe_int (nomark _)) pa_nil))))))))
      (pss_one (ps_ret (pe_cmpR op_eq (pe_callB (cr_reprP hgd hr.units) (by rfl) hrep (by decide +kernel) (pa_cons (pv 16) pa_nil)) (pe_callB (cr_reprP hgd hr.units) (by rfl) hrep (by decide +kernel) (pa_cons (pe_h hDu hr (pa_cons (pv 1) (pa_cons (pv 15) (pa_cons (pv 3) (pa_cons (pv 12) (pa_cons (pv 10) pa_nil)))))) pa_nil)) (nomark _))))))))))))))), ?_⟩
    have nof : ∀ {H' : Hp} {q : Addr}, PurseAt H' a → H' q = none → q ≠ a := fun h e => h.ne e
    refine st_asg ⟨5, rfl, by decide, by decide, fun D1 hD1 => lc_range (lo := 0) (n := 5) (fun i H' => ∃ bs : List Bool, bs.length = i ∧ H' D1 = some (.lst (bs.map V.bl)) ∧ PurseAt H' a ∧ SameX a H H')
      ⟨[], rfl, upd_same, hA.same (same_new hD1), sx (same_new hD1)⟩ ?_ ?_⟩
    · rintro i H1 hi ⟨bs, hl, hDl, hA1, s1⟩
      refine ⟨rfl, yes_it ⟨_, rfl, a, 4, rfl, hA1, by decide, by decide, fun r8 H2 r80 r81 hA2 s2 n2 => ⟨rfl, _, s2 _ _ (hA.ne hD1) hDl, ?_, ?_⟩⟩⟩
      · rw [List.length_map]
        exact small1000 (by omega)
      · refine ⟨bs ++ [decide (V.int r8 = .int 1)], by simp [hl], by rw [upd_same, List.map_append]; rfl, ?_, sameX_mut (s1.trans s2) hD1⟩
        obtain ⟨x0, x1, x2, hx, hx1⟩ := hA2
        exact ⟨x0, x1, x2, by rw [upd_ne (hA.ne hD1).symm]; exact hx, hx1⟩
    rintro H1 ⟨bs, hl, hB1, hA1, s1⟩
    obtain ⟨b0, b1, b2, b3, b4, rfl⟩ : ∃ b0 b1 b2 b3 b4, bs = [b0, b1, b2, b3, b4] := by
      match bs, hl with
      | [b0, b1, b2, b3, b4], _ => exact ⟨_, _, _, _, _, rfl⟩
    have nD1 : D1 ≠ a := hA.ne hD1
    -- shifts, lone, mate
    refine ⟨_, rfl, a, 3, rfl, hA1, by decide, by decide, fun S chs H2 hA2 s2 hS okc => ⟨_, rfl, a, rfl, hA2, fun aa H3 ha hA3 s3 => ⟨_, rfl, a, rfl, hA3, fun m0 H4 hm0 hA4 s4 => ⟨lz, fun t ht => ?_⟩⟩⟩⟩
    refine ⟨t, _, rfl, .inl (.inl upd_same), rfl, _, _, rfl, _, _, rfl, _, _, rfl, rfl, ?_⟩
    have k5 := same_new (o := .tup [.ref S, .str aa, .str m0]) ht
    have hA5 := hA4.same k5
    have s5 : SameX a H _ := (((s1.trans s2).trans s3).trans s4).trans (sx k5)
    have hB5 := (sx k5) _ _ nD1 (s4 _ _ nD1 (s3 _ _ nD1 (s2 _ _ nD1 hB1)))
    obtain ⟨yp, hyp⟩ := hA2.lst
    have hS5 : ChAt _ S chs := hS.X hyp ((s3.trans s4).trans (sx k5))
    generalize upd H4 t (.tup [.ref S, .str aa, .str m0]) = H5 at hA5 s5 hB5 hS5
    -- way
    refine st_asg (te := tCall spPick [] E0 (tCons (tVar 0) (tCons (tC (.int 4)) tNil))) ⟨_, rfl, a, 4, rfl, hA5, by decide, by decide, fun way H6 w0 w1 hA6 s6 n6 => ?_⟩
    have hB6 := s6 _ _ nD1 hB5
    obtain ⟨yq, hyq⟩ := hA5.lst
    have hS6 : ChAt H6 S chs := hS5.X hyq s6
    have s06 := s5.trans s6
    -- what stands behind the two ifs
    refine st_join (fun σ' H' => ∃ mm : Str, IsWd mm ∧ H6 = H' ∧ σ' = [some (.ref a), some (.ref p), some (.ref L), some (.ref D1), some (.ref S), some (.str aa), some (.str mm), some (.int way), none, none, none, none, none, none, none, none, none, none]) ?_ (fun D' hn _ => ⟨_, rfl, rfl, _, rfl, ite_b (fun _ => ⟨_, rfl, hn _ _ ⟨aa, ha, rfl, rfl⟩⟩) (fun _ => hn _ _ ⟨m0, hm0, rfl, rfl⟩)⟩)
    rintro _ _ ⟨m1, hm1, rfl, rfl⟩
    have hB := hB6
    refine st_join (fun σ' H' => ∃ (mm : Str) (y8 : Option V), IsWd mm ∧ Same H6 H' ∧ σ' = [some (.ref a), some (.ref p), some (.ref L), some (.ref D1), some (.ref S), some (.str aa), some (.str mm), some (.int way), y8, none, none, none, none, none, none, none, none, none]) ?_ (fun D' hn _ => ⟨_, rfl, rfl, _, rfl, ite_b (fun _ => ?_) (fun _ => hn _ _ ⟨m1, none, hm1, Same.refl _, rfl⟩)⟩)
    case refine_2 =>
      have l8 := ha.len.2
      refine ⟨_, rfl, aa, rfl, lzl (by omega), (aa.length : Int), rfl, by omega, by omega, fun D2 hD2 => lc_range (lo := 0) (n := aa.length)
        (fun i H' => Same H6 H' ∧ ∃ ls : List V, H' D2 = some (.lst ls) ∧ ls.length = i ∧ ∀ v ∈ ls, LetsAt H' v) ⟨same_new hD2, [], upd_same, rfl, fun v hv => by cases hv⟩ ?_ ?_⟩
      · rintro i Ha hi ⟨sa, ls, hl2, hll, hla⟩
        have hi2 : i < (codes aa).length := by rw [codes_len]; exact hi
        obtain ⟨c, hc⟩ : ∃ c, (codes aa)[i]? = some c := ⟨_, List.getElem?_eq_getElem hi2⟩
        have hcl : isLet c := (wd_codes.mp ha).2 c (List.mem_of_getElem? hc)
        refine ⟨rfl, yes_it ⟨_, rfl, _, rfl, _, rfl, aa, _, c, rfl, rfl, lzl (by omega), ?_, ?_⟩⟩
        · rw [Int.zero_add]
          exact atI_nat hc
        · refine ⟨_, rfl, rfl, _, rfl, _, rfl, aa, rfl, lzl (by omega), _, _, rfl, rfl, rfl, S, chs, c, i, aa.length, ?_, hS6.same sa, okc, hcl, fun q2 xs Hb sb hq2 hy => ?_⟩
          · rw [int_dec, int_dec]
            have e1 : decide ((0 : Int) + (i : Int) = 0) = decide (i = 0) := by
              by_cases h : i = 0
              · simp [h]
              · rw [decide_eq_false h, decide_eq_false (by omega)]
            have e2 : decide ((0 : Int) + (i : Int) = (aa.length : Int) - 1) = decide (i + 1 = aa.length) := by
              by_cases h : i + 1 = aa.length
              · rw [decide_eq_true h, decide_eq_true (by omega)]
              · rw [decide_eq_false h, decide_eq_false (by omega)]
            rw [e1, e2]
            rfl
          · obtain ⟨ys, ey, _, hys⟩ := hy
            have hrf : ∀ u ∈ ls, ∃ q, u = V.ref q := fun u hu => by
              obtain ⟨q3, _, e, _⟩ := hla u hu
              exact ⟨q3, e⟩
            have hl3 := sb _ _ hl2
            refine ⟨ls, hl3, small1000 (by omega), same_mut (sa.trans sb) hD2, ls ++ [.ref q2], upd_same, by simp [hll], fun v hv => ?_⟩
            have sx3 : SameX D2 Hb (upd Hb D2 (.lst (ls ++ [.ref q2]))) := fun b o n e => by rw [upd_ne n]; exact e
            rcases List.mem_append.mp hv with hv | hv
            · obtain ⟨q3, zs, e, hq3, n3, hz3⟩ := hla v hv
              exact LetsAt.x ⟨q3, zs, e, sb _ _ hq3, n3, hz3⟩ hl3 hrf sx3
            · rw [List.mem_singleton.mp hv]
              refine LetsAt.x ⟨q2, ys, rfl, by rw [← ey]; exact hq2, fun z => ?_, hys⟩ hl3 hrf sx3
              rw [z] at ey
              cases ey
      · rintro Ha ⟨sa, ls, hl2, hll, hla⟩
        refine ⟨⟨_, rfl⟩, _, rfl, D2, rfl, ⟨_, .inl (.inl hl2)⟩, fun D3 hD3 => lc_rel (walk_list (K := K) (a := D2) (xs := ls)) hD3 (fun _ => true) (fun x y _ => ∃ d, isLet d ∧ y = .str (sign d)) (fun H' s' => .inl (.inl (s' _ _ hl2))) (fun _ => rfl) (fun x H' _ _ Q' q' => q') ?_ (fun _ _ _ _ _ _ _ r => r) (small1000 (by omega)) ?_⟩
        · intro x Hx hx _ s' Q' q'
          obtain ⟨q3, ys, rfl, hq3, hne, hys⟩ := hla x hx
          obtain ⟨zs, y, rfl⟩ : ∃ zs y, ys = zs ++ [y] := ⟨ys.dropLast, ys.getLast hne, (List.dropLast_concat_getLast hne).symm⟩
          obtain ⟨d, hd, rfl⟩ := hys y (List.mem_append_right _ List.mem_cons_self)
          exact ⟨_, rfl, 1, rfl, q3, _, -1, .str (sign d), rfl, rfl, .inl (.inl (s' _ _ hq3)), by rw [List.map_append]; exact L2.atI_last _ _, q' _ _ (Same.refl _) ⟨d, hd, rfl⟩⟩
        · intro zs Hb sb hzs ez
          obtain ⟨cs, rfl, hcl, hcs⟩ := each_lets ez
          rw [List.filter_eq_self.mpr (fun _ _ => rfl)] at hcl
          refine ⟨_, D3, cs.map sign, rfl, rfl, .inl (.inl (.inl hzs)), ?_, ?_⟩
          · have e0 : ("" : Str).length = 0 := by decide +kernel
            have e1 : (cs.map sign).map (·.length) = cs.map fun _ => 1 := by
              rw [List.map_map]
              rfl
            rw [e0, e1, Nat.mul_zero, ones_sum]
            omega
          · have l1 := ha.len.1
            exact hn _ _ ⟨_, some (.ref D2), isWd_of (by rw [join_signs]; omega) (by rw [join_signs]; omega) (by rw [join_signs]; exact hcs), sa.trans sb, rfl⟩
    rintro _ H7 ⟨bb, y8, hb, s7, rfl⟩
    have hS7 := hS6.same s7
    refine st_asg ⟨_, rfl, _, rfl, S, chs, aa, rfl, hS7, okc, ha, fun H8 s8 => ⟨_, rfl, _, rfl, S, chs, bb, rfl, hS7.same s8, okc, hb, fun H9 s9 => ⟨rfl, ?_⟩⟩⟩
    rw [str_dec]
    have s69 := (s7.trans s8).trans s9
    have hA9 := hA6.same s69
    have hG6 := hG.x hA s06 ntd ndd
    have hG9 := hG6.same s69
    obtain ⟨ya, hya⟩ := hA.lst
    have hL6 : GridAt H6 L r.g := hL.keep fun b xs h => s06 _ _ (fun z => by rw [z, hya] at h; cases h) h
    have hL9 := hL6.keep (tk_same s69)
    have hB9 := s69 _ _ hB
    have hS9 := hS6.same s69
    -- things that are no Gathering
    refine st_asg (bld_lst (n := 12) otg_grows (og_all gd TG.cl rfl rfl) (by decide) ⟨hA9, hG9, hL9⟩ fun p9 x9 H10 s10 n10 e10 l10 g10 => ?_)
    have hA10 := hA9.same s10
    have hG10 := hG9.same s10
    have hB10 := s10 _ _ hB9
    have hS10 := hS9.same s10
    have np9 : p9 ≠ a := hA9.ne n10
    have x10 : SameX a H H10 := s06.trans (sx (s69.trans s10))
    -- no changes
    refine ⟨_, rfl, a, rfl, hA10, fun q1 vo o H11 x11 hA11 h11 hno hNo => ⟨q1, _, rfl, .inl (.inl h11), rfl, _, _, rfl, _, _, rfl, rfl, ?_⟩⟩
    have hG11 := hG10.x hA10 x11 ntd ndd
    have hB11 := x11 _ _ nD1 hB10
    obtain ⟨yb, hyb⟩ := hA10.lst
    have hS11 := hS10.X hyb x11
    have e11 := x11 _ _ np9 e10
    have g11 : ∀ v ∈ x9, OtG C a H11 v := fun v hv => (g10 v hv).x x11
    have x11' := x10.trans x11
    have l12 : x9.length = 12 := l10
    refine ⟨_, rfl, _, rfl, a, 12, rfl, hA11, by decide, by decide, fun k H12 k0 k1 hA12 x12 _ => ?_⟩
    obtain ⟨gv, hgv⟩ : ∃ v, x9[k.toNat]? = some v := ⟨_, List.getElem?_eq_getElem (by omega)⟩
    have ek : (k.toNat : Int) = k := Int.toNat_of_nonneg k0
    refine ⟨p9, x9, k, gv, rfl, rfl, .inl (.inl (x12 _ _ np9 e11)), by rw [← ek]; exact atI_nat hgv, lz, fun lg hlg => ?_⟩
    have k13 := same_new (o := .lst [gv]) hlg
    have hA13 := hA12.same k13
    have h13 : upd H12 lg (.lst [gv]) lg = some (.lst [gv]) := upd_same
    have og : OtG C a (upd H12 lg (.lst [gv])) gv := (g11 gv (List.mem_of_getElem? hgv)).x (x12.trans (sx k13))
    have x13 : SameX a H11 (upd H12 lg (.lst [gv])) := x12.trans (sx k13)
    have nlg : lg ≠ a := hA12.ne hlg
    generalize upd H12 lg (.lst [gv]) = H13 at hA13 h13 og x13
    refine ⟨3, rfl, by decide, by decide, fun D2 hD2 => lc_range (lo := 0) (n := 3) (fun i H' => ∃ ws : List V, ws.length = i ∧ H' D2 = some (.lst ws) ∧ PurseAt H' a ∧ SameX a H13 H' ∧ ∀ v ∈ ws, OddR K (hid D2 (hid a H')) v)
      ⟨[], rfl, upd_same, hA13.same (same_new hD2), sx (same_new hD2), fun v hv => by cases hv⟩ ?_ ?_⟩
    · rintro i Ha hi ⟨ws, hl, hDw, hAa, sa, hws⟩
      have nD2 : D2 ≠ a := hA13.ne hD2
      refine ⟨rfl, yes_it ⟨_, rfl, _, rfl, a, aa, rfl, hAa, ha, fun v Hb sb hAb ho => ⟨ws, sb _ _ nD2 hDw, small1000 (by omega), ws ++ [v], by simp [hl], upd_same, ?_, sameX_mut (sa.trans sb) hD2, fun u hu => ?_⟩⟩⟩
      · obtain ⟨x0, x1, x2, hx, hx1⟩ := hAb
        exact ⟨x0, x1, x2, by rw [upd_ne nD2.symm]; exact hx, hx1⟩
      · obtain ⟨yc, hyc⟩ := hAa.lst
        rcases List.mem_append.mp hu with hu | hu
        · exact (hws u hu).same (h2_x fun b o n1 n2 e => by rw [upd_ne n2]; exact sb _ _ n1 e)
        · rw [List.mem_singleton.mp hu]
          exact ho.same (h2_new hDw hyc fun b o n e => by rw [upd_ne n]; exact e)
    rintro H14 ⟨ws, hwl, hD14, hA14, x14, hws⟩
    have nD2 : D2 ≠ a := hA13.ne hD2
    obtain ⟨w1, w2, w3, rfl⟩ : ∃ w1 w2 w3, ws = [w1, w2, w3] := by
      match ws, hwl with
      | [w1, w2, w3], _ => exact ⟨_, _, _, rfl⟩
    have oW : ∀ v, v ∈ [w1, w2, w3] → OddR K (hid a H14) v := fun v hv => (hws v hv).same hid_same
    refine ⟨lg, D2, [gv], _, rfl, rfl, x14 _ _ nlg h13, hD14, lz, fun l3 hl3 => ⟨_, rfl, lz, fun lo hlo => ⟨l3, lo, _, [vo], rfl, rfl, (same_new hlo) _ _ upd_same, upd_same, lz, fun l4 hl4 => ?_⟩⟩⟩
    have k15 := ((same_new (o := .lst ([gv] ++ [w1, w2, w3])) hl3).trans (same_new (o := .lst [vo]) hlo)).trans (same_new (o := .lst ([gv] ++ [w1, w2, w3] ++ [vo])) hl4)
    have hN15 : upd (upd (upd H14 l3 (.lst ([gv] ++ [w1, w2, w3]))) lo (.lst [vo])) l4 (.lst ([gv] ++ [w1, w2, w3] ++ [vo])) l4 = some (.lst [gv, w1, w2, w3, vo]) := upd_same
    have x15 : SameX a H11 (upd (upd (upd H14 l3 (.lst ([gv] ++ [w1, w2, w3]))) lo (.lst [vo])) l4 (.lst ([gv] ++ [w1, w2, w3] ++ [vo]))) := (x13.trans x14).trans (sx k15)
    have hA15 := hA14.same k15
    have og15 : OtG C a _ gv := og.x (x14.trans (sx k15))
    have oW15 : ∀ v, v ∈ [w1, w2, w3] → OddR K (hid a (upd (upd (upd H14 l3 (.lst ([gv] ++ [w1, w2, w3]))) lo (.lst [vo])) l4 (.lst ([gv] ++ [w1, w2, w3] ++ [vo])))) v := fun v hv => (oW v hv).same (hid_x (sx k15))
    generalize upd (upd (upd H14 l3 (.lst ([gv] ++ [w1, w2, w3]))) lo (.lst [vo])) l4 (.lst ([gv] ++ [w1, w2, w3] ++ [vo])) = H15 at hN15 x15 hA15 og15 oW15
    have hB15 := x15 _ _ nD1 hB11
    obtain ⟨yd, hyd⟩ := hA11.lst
    have hS15 := hS11.X hyd x15
    have hG15 := hG11.x hA11 x15 ntd ndd
    have hNo15 := hNo.same (hid_x x15)
    have nl4 : l4 ≠ a := fun z => by
      obtain ⟨ye, hye⟩ := hA14.lst
      have z2 := hq_of ((same_new (o := .lst ([gv] ++ [w1, w2, w3])) hl3).trans (same_new (o := .lst [vo]) hlo)) hl4
      rw [z, hye] at z2
      cases z2
    -- the good ones
    refine ⟨_, rfl, _, rfl, a, rfl, hA15, fun zz H16 hz hA16 x16 => ⟨_, rfl, _, rfl, _, rfl, lz, fun lgd hlgd => ?_⟩⟩
    have k17 := same_new (o := .lst [.ref p, .str zz, .str aa, .str bb, .ref S]) hlgd
    have hG17 : upd H16 lgd (.lst [.ref p, .str zz, .str aa, .str bb, .ref S]) lgd = some (.lst [.ref p, .str zz, .str aa, .str bb, .ref S]) := upd_same
    have hA17 := hA16.same k17
    have x17 : SameX a H15 (upd H16 lgd (.lst [.ref p, .str zz, .str aa, .str bb, .ref S])) := x16.trans (sx k17)
    generalize upd H16 lgd (.lst [.ref p, .str zz, .str aa, .str bb, .ref S]) = H17 at hG17 hA17 x17
    have hB17 := x17 _ _ nD1 hB15
    have hN17 := x17 _ _ nl4 hN15
    -- what is handed in
    refine ⟨5, rfl, by decide, by decide, fun D5 hD5 => lc_range (lo := 0) (n := 5) (fun i H' => Same H17 H' ∧ H' D5 = some (.lst ([pk2 b0 (.ref p) gv, pk2 b1 (.str zz) w1, pk2 b2 (.str aa) w2, pk2 b3 (.str bb) w3, pk2 b4 (.ref S) vo].take i))) ⟨same_new hD5, upd_same⟩ ?_ ?_⟩
    · rintro i Ha hi ⟨sa, hDa⟩
      obtain ⟨gi, ni, bi, e1, e2, e3, e4⟩ : ∃ gi ni bi, [V.ref p, .str zz, .str aa, .str bb, .ref S][i]? = some gi ∧ [gv, w1, w2, w3, vo][i]? = some ni ∧ ([b0, b1, b2, b3, b4].map V.bl)[i]? = some (.bl bi) ∧ [pk2 b0 (.ref p) gv, pk2 b1 (.str zz) w1, pk2 b2 (.str aa) w2, pk2 b3 (.str bb) w3, pk2 b4 (.ref S) vo][i]? = some (pk2 bi gi ni) := by
        rcases i with _ | _ | _ | _ | _ | i
        · exact ⟨_, _, _, rfl, rfl, rfl, rfl⟩
        · exact ⟨_, _, _, rfl, rfl, rfl, rfl⟩
        · exact ⟨_, _, _, rfl, rfl, rfl, rfl⟩
        · exact ⟨_, _, _, rfl, rfl, rfl, rfl⟩
        · exact ⟨_, _, _, rfl, rfl, rfl, rfl⟩
        · omega
      refine ⟨rfl, yes_it ⟨_, rfl, _, rfl, lgd, _, _, gi, rfl, rfl, .inl (.inl (sa _ _ hG17)), by rw [Int.zero_add]; exact atI_nat e1, _, rfl, _, rfl, l4, _, _, ni, rfl, rfl, .inl (.inl (sa _ _ hN17)), by rw [Int.zero_add]; exact atI_nat e2, lz, fun lp hlp => ⟨_, rfl, _, rfl, D1, _, _, .bl bi, rfl, rfl, .inl (.inl ((same_new hlp) _ _ (sa _ _ hB17))), by rw [Int.zero_add]; exact atI_nat e3,
        .inr ⟨bi, rfl, lp, [gi, ni], _, pk2 bi gi ni, rfl, rfl, .inl (.inl upd_same), pk_at, _, (same_new hlp) _ _ hDa, small1000 (Nat.le_trans (List.length_take_le' _ _) (by simp)), same_mut (sa.trans (same_new hlp)) hD5, by rw [upd_same, List.take_add_one, e4]; rfl⟩⟩⟩⟩
    rintro H18 ⟨s18, hT18⟩
    have hT18 : H18 D5 = some (.lst [pk2 b0 (.ref p) gv, pk2 b1 (.str zz) w1, pk2 b2 (.str aa) w2, pk2 b3 (.str bb) w3, pk2 b4 (.ref S) vo]) := hT18
    have hA18 := hA17.same s18
    have nD5 : D5 ≠ a := hA17.ne hD5
    refine ⟨_, rfl, D5, _, 0, _, rfl, rfl, .inl (.inl hT18), atI_nat (j := 0) rfl, _, rfl, D5, _, 1, _, rfl, rfl, .inl (.inl hT18), atI_nat (j := 1) rfl, _, rfl, D5, _, 2, _, rfl, rfl, .inl (.inl hT18), atI_nat (j := 2) rfl, _, rfl, D5, _, 3, _, rfl, rfl, .inl (.inl hT18), atI_nat (j := 3) rfl, _, rfl, D5, _, 4, _, rfl, rfl, .inl (.inl hT18), atI_nat (j := 4) rfl, _, rfl, a, 2, rfl, hA18, by decide, by decide, fun m H19 m0' m1' hA19 x19 _ => ⟨rfl, ?_⟩⟩
    have X19 : SameX a H15 H19 := x17.trans ((sx s18).trans x19)
    have hG19 := hG15.x hA15 X19 ntd ndd
    obtain ⟨yf, hyf⟩ := hA15.lst
    have hS19 := hS15.X hyf X19
    have oW19 : ∀ v, v ∈ [w1, w2, w3] → OddR K H19 v := fun v hv => ((oW15 v hv).same (hid_x X19)).same hid_same
    obtain ⟨t, ty, kt⟩ : NoG K D H19 gv := by
      rcases og15.x X19 with h | ⟨x, dx, fs, rfl, h⟩
      · exact .odd KN (h.same hid_same)
      · exact ⟨_, .base (.ins (hid_same _ _ h) insL.cl insL.ha insL.hn insL.htk insL.hm), KN.land⟩
    obtain ⟨n, hTell, hEq, d, hRV, hSP⟩ := agree (K := K) (C := C) (D := D) (H := H19) (b0 := b0) (b1 := b1) (b2 := b2) (b3 := b3) (b4 := b4) (g' := gv) (z' := w1) (a' := w2) (b' := w3) (v' := vo) (o := o) (t := t) hG19 hok h60 hz ha hb hS19 okc (fun _ => ⟨ty, kt⟩) (fun _ => oW19 _ (by simp)) (fun _ => oW19 _ (by simp)) (fun _ => oW19 _ (by simp)) (fun _ => ⟨(hNo15.same (hid_x X19)).same hid_same, hno⟩) rfl
    refine ⟨_, _, _, _, _, _, n, rfl, hTell, fun pt H20 s20 hpt => ?_⟩
    have hB20 := s20 _ _ (x19 _ _ nD1 (s18 _ _ hB17))
    have hT20 := s20 _ _ (x19 _ _ nD5 hT18)
    refine ⟨_, rfl, pt, ansN n, ansV n, d, rfl, hpt, hRV.same s20, hSP, _, rfl, _, rfl, _, rfl, _, rfl, _, rfl, _, D5, D1, _, _, _, _, _, _, _, b0, b1, b2, b3, b4, rfl, hT20, hB20, fun pd H21 s21 hpd => ?_⟩
    rw [← hEq] at hpd
    refine ⟨pd, ansN n, ansV n, d, rfl, hpd, (hRV.same s20).same s21, hSP, rfl, ?_⟩
    rw [decide_eq_true rfl]
    exact q H21 ((((x11'.trans x15).trans X19).trans (sx s20)).trans (sx s21)) (hA19.same (s20.trans s21))
end
end Wl

namespace Wl
open PySem PySem.Spec PyProof.Rows L2
abbrev sLaw : Stmt := topS 86
abbrev nLaw : List Str := ["_law_script", "_law_k", "_law_purse_here", "_law_lots", "_law_basket", "_law_before", "_law_turn"]
theorem scLaw : FnScope nLaw ["_law_script"] (defScope sLaw) := ⟨rfl, rfl, rfl, by decide +kernel, rfl, by decide +kernel, by decide +kernel⟩
def spLaw (K : PySem.W.Frag) : Sp := fun vs H Q _ => ∃ (a : Addr) (ns : List Int), vs = [.ref a] ∧ SqL K H a (ns.map V.int) ∧ ns.length ≤ 63 ∧ ∀ H', Q (.bl true) H'
section
variable {P : Program} {w : World} {K : PySem.W.Frag} {mg : Str → Option Value} {base : Heap} {f C D : Addr} {fd : FuncData}
theorem ok_law (F : Fun K "law" "law" sLaw f fd) (B : Bi mg) (T : Txt K mg C) (TG : TxtG K mg D) (hI : HasI P w K mg base C) (hGi : HasG P w K mg base C D) (hP : HasP P w K mg base C D) (hStr : HasM P w K mg base D "__str__" 4 ["self"] (spGStr C D))
    (hCell : Has P w K mg base "_law_cell" 1 ["_law_script", "_law_k"] (spCell K)) (hPurse : Has P w K mg base "_law_purse" 1 ["_law_cell_here"] spPurse) (hLand : Has P w K mg base "_law_land" 4 ["_law_purse_here", "_law_topmost"] spLand) (hN : Has P w K mg base "_law_names" 1 ["_law_lots"] spNames)
    (hR : HasQ P w K mg base "_law_right" 10 psRight (spRight C D)) : FnOkG P w K mg base 11 f fd ["_law_script"] (spLaw K) := by
  obtain ⟨fI, fdI, MI, GI, bI⟩ := hI
  obtain ⟨fG, fdG, MG, GG, bG⟩ := hGi
  obtain ⟨fp, fdp, FP, mP, fnP⟩ := hP
  obtain ⟨ds6, v6, b6⟩ := put_b6 fnP
  obtain ⟨ds7, v7, b7⟩ := put_b7 fnP
  obtain ⟨fS, fdS, FS, mS, bS⟩ := hStr
  refine okG F scLaw (fun vs H Q E h => ?_) (fun cdv A outer s H vs Q E hgd hr h => ?_)
  · obtain ⟨a, ns, rfl, _⟩ := h
    rfl
  · obtain ⟨a, ns, rfl, hSc, hlen, q⟩ := h
    refine ⟨_, pss_cons (ps_for PassesOwn.never rfl (pi_range1 rfl B.range (pa_cons (pe_callB (call_max2 rfl) (by rfl) B.max (by decide +kernel) (pa_cons pe_int (pa_cons (pe_callB (call_min2 rfl) (by rfl) B.min (by decide +kernel) (pa_cons (pe_callB call_len_seq (by rfl) B.len PySem.boot_len (pa_cons (pv 0) pa_nil)) (pa_cons pe_int pa_nil))) pa_nil))) pa_nil)) (pg_name (i := 1) scLaw.nd rfl (.inl rfl))
        (pss_cons (ps_set (i := 2) scLaw.nd rfl (.inr rfl) (pe_h hPurse hr (pa_cons (pe_h hCell hr (pa_cons (pv 0) (pa_cons (pv 1) pa_nil))) pa_nil)))
        (pss_cons (ps_set (i := 3) scLaw.nd rfl (.inr rfl) (pe_h hLand hr (pa_cons (pv 2) (pa_cons pe_int pa_nil))))
        (pss_cons (ps_set (i := 4) scLaw.nd rfl (.inr rfl) (pe_make MG GG (hr.mono (by decide)) rfl TG.mgD bG .nil pass0 (pa_cons (pe_make MI GI (hr.mono (by decide)) rfl T.mgC bI .nil pass0 (pa_cons (pv 3) pa_nil)) pa_nil)))
        (pss_cons (ps_expr (pe_meth (pv 4) TG.cl mP FP (hr.mono (by decide)) b6 v6 pass0 (pa_cons (pe_ix ix_list (pe_h hN hr (pa_cons (pv 3) pa_nil)) pe_int (fun _ _ => rfl)) (pa_cons pe_str (pa_cons pe_str (pa_cons pe_str (pa_cons pe_int pa_nil)))))))
        (pss_cons (ps_expr (pe_meth (pv 4) TG.cl mP FP (hr.mono (by decide)) b7 v7 pass0 (pa_cons (pe_ix ix_list (pe_h hN hr (pa_cons (pv 3) pa_nil)) (pe_un un_neg pe_int) (fun _ _ => rfl)) (pa_cons pe_str (pa_cons pe_str (pa_cons pe_str (pa_cons pe_int (pa_cons pe_str pa_nil))))))))
        (pss_cons (ps_set (i := 5) scLaw.nd rfl (.inl rfl) (pe_callTy (cr_strO FS bS mS (hr.mono (by decide))) (by rfl) B.str (by decide +kernel) (pa_cons (pv 4) pa_nil)))
        (pss_one (ps_if (PW.pt (pw_or (pt_not (pt_val (pe_callB (cr_all rfl) (by rfl) B.all (by decide +kernel) (pa_cons (pe_lc (own := [("_law_turn", 6)]) (g := gName 6) (tt := tYes) (te := tCall (spRight C D) [] E0 (tCons (tVar 2) (tCons (tVar 4) (tCons (tVar 3) tNil)))) rfl scLaw.nd (pi_range1 (by rfl) B.range (pa_cons pe_int pa_nil)) (blkOk_by (N := nLaw) (sc := defScope sLaw) (by decide +kernel)) (fun _ _ _ _ _ => pg_name (i := 6) scLaw.nd rfl (.inl rfl)) (fun _ _ _ _ _ => pts_nil)
            (fun _ _ _ _ _ => pe_hQ hR hgd hr (pa_cons (pv 2) (pa_cons (pv 4) (pa_cons (pv 3) pa_nil))))) pa_nil)))) (pw_or1 (pt_cmpR op_ne (pe_callTy (cr_strO FS bS mS (hr.mono (by decide))) (by rfl) B.str (by decide +kernel) (pa_cons (pv 4) pa_nil)) (pv 5) (nomark _))))) (pss_one (ps_ret pe_bl)) pss_nil)))))))))
      (pss_one (ps_ret pe_bl)), ?_⟩
    have hln : ((ns.map V.int).length : Int) = ns.length := by rw [List.length_map]
    refine ⟨_, rfl, a, _, rfl, .inl hSc, _, _, rfl, _, _, rfl, _, rfl, ?_, ?_, ?_⟩
    · rw [hln]; split <;> split <;> omega
    · rw [hln]; split <;> split <;> omega
    rw [hln]
    refine for_range (lo := 0) (n := _) (fun i σ H' => (∃ y1 y2 y3 y4 y5 y6, σ = [some (.ref a), y1, y2, y3, y4, y5, y6]) ∧ Same H H') ⟨⟨_, _, _, _, _, _, rfl⟩, Same.refl H⟩ ?_ ?_
    · rintro i σ H1 hi ⟨⟨y1, y2, y3, y4, y5, y6, rfl⟩, s1⟩
      have hi5 : i < 6 := by
        have : ∀ n : Int, (if (if (6 : Int) < n then 6 else n) > 2 then (if (6 : Int) < n then 6 else n) else 2).toNat ≤ 6 := fun n => by
          split <;> split <;> omega
        exact Nat.lt_of_lt_of_le hi (this _)
      refine ⟨_, rfl, _, rfl, a, ns, 0 + i, rfl, s1.seq hSc, by omega, by omega, fun v H2 s2 => ⟨v, rfl, fun pu H3 hpu s3 hP3 => ?_⟩⟩
      have hpu0 : H pu = none := (s1.trans s2).free hpu
      have sP3 : Same H H3 := (s1.trans s2).trans s3
      refine ⟨_, rfl, pu, 2, rfl, hP3, by decide, by decide, fun L g wd H4 gd hL4 hP4 x4 => ?_⟩
      have sP4 : Same H H4 := same_x sP3 x4 hpu0
      obtain ⟨t0, rest, e0⟩ : ∃ t0 rest, sortS (names g) = t0 :: rest := by
        cases e : sortS (names g) with
        | nil =>
          obtain ⟨z, hz⟩ := List.exists_mem_of_ne_nil _ gd.ne
          have := mem_sortS.mpr hz
          rw [e] at this
          exact (List.not_mem_nil this).elim
        | cons z t => exact ⟨z, t, rfl⟩
      obtain ⟨ini, tl, e1⟩ : ∃ ini tl, sortS (names g) = ini ++ [tl] := ⟨(sortS (names g)).dropLast, (sortS (names g)).getLast (by rw [e0]; simp), (List.dropLast_concat_getLast _).symm⟩
      have m0 : t0 ∈ names g := mem_sortS.mp (by rw [e0]; exact List.mem_cons_self)
      have m1 : tl ∈ names g := mem_sortS.mp (by rw [e1]; exact List.mem_append_right _ List.mem_cons_self)
      have kp1 : ∀ {pl dl : Addr}, H4 pl = none → H4 dl = none → TupKeep H4 (upd (upd H4 dl (.own pl)) pl (.ins C dl [])) := fun npl ndl b0 xs h => by
        rw [upd_ne (ne_of_none h npl), upd_ne (ne_of_none h ndl)]
        exact h
      refine ⟨_, rfl, fun pl dl npl ndl nel => ⟨pl, dl, L, g, wd, rfl, upd_same, hL4.keep (kp1 npl ndl), gd, fun H5 k5 hLa5 => ⟨rfl, ?_⟩⟩⟩
      have s5 := made_same npl ndl k5
      intro p dp np ndp nep
      have s5' : Same H5 (upd (upd H5 dp (.own p)) p (.ins D dp [])) := fun b0 o e => by
        rw [upd_ne (ne_of_none e np), upd_ne (ne_of_none e ndp)]
        exact e
      have npp : p ≠ pl := fun e => by
        obtain ⟨_, _, h1⟩ := hLa5.ins
        rw [← e, np] at h1
        cases h1
      refine ⟨p, dp, pl, L, g, rfl, upd_same, hLa5.same s5', npp, fun td dd H6 htd hdd k6 hG6 => ⟨rfl, ?_⟩⟩
      have s56 : Same H5 H6 := fun b0 o e => k6 b0 o (ne_of_none e np) (s5' b0 o e)
      have s46 := s5.trans s56
      have htd4 : H4 td = none := s5.free (s5'.free htd)
      have hdd4 : H4 dd = none := s5.free (s5'.free hdd)
      have ntd : td ≠ pu := hP4.ne htd4
      have ndd : dd ≠ pu := hP4.ne hdd4
      have td0 : H td = none := sP4.free htd4
      have dd0 : H dd = none := sP4.free hdd4
      have hL6 := hL4.keep (tk_same s46)
      have hP6 := hP4.same s46
      obtain ⟨dx6, hp6⟩ := hG6.at_
      obtain ⟨n1, en1⟩ : ∃ n : Tel, n = ⟨t0, "dew", "a", "al", 5, "self", true⟩ := ⟨_, rfl⟩
      obtain ⟨n2, en2⟩ : ∃ n : Tel, n = ⟨tl, "dew", "b", "be", 50, "ann", true⟩ := ⟨_, rfl⟩
      have ok1 : OkT n1 := by rw [en1]; exact ⟨gd.wd t0 m0, (by decide +kernel : IsWd "dew"), (by decide +kernel : IsWd "a"), (by decide +kernel : IsWd "al"), Nat.le_of_ble_eq_true rfl, (by decide +kernel : IsWd "self")⟩
      have ok2 : OkT n2 := by rw [en2]; exact ⟨gd.wd tl m1, (by decide +kernel : IsWd "dew"), (by decide +kernel : IsWd "b"), (by decide +kernel : IsWd "be"), Nat.le_of_ble_eq_true rfl, (by decide +kernel : IsWd "ann")⟩
      refine ⟨_, rfl, p, dx6, _, rfl, hp6, gf_no _ _ _, _, rfl, L, g, wd, rfl, hL6, gd.sized, fun tn H7 ntn s7 htn => ⟨tn, _, 0, .str t0, rfl, rfl, .inl (.inl htn), by rw [e0]; exact atI_nat (j := 0) rfl, p, _, wd, n1, by rw [en1]; rfl, hG6.same s7, gd, fun u hu => (by cases hu), ok1, by rw [en1]; exact m0, (fun h => by cases h), (by show 0 < 200; omega), (by show 0 < 1000; omega), fun q1 H8 hq1 m8 hG8 => ?_⟩⟩
      have hL7 := hL6.keep (tk_same s7)
      have hP7 := hP6.same s7
      have hG7 := hG6.same s7
      have k8 := kp_2 m8 hG7.told hG7.deeds
      have hL8 := hL7.keep k8.tk
      have hP8 := purse_2 hP7 m8 ntd.symm ndd.symm
      obtain ⟨dx8, hp8⟩ := hG8.at_
      have sP7 : Same H H7 := (sP4.trans s46).trans s7
      have sP8 : Same H H8 := fun b o e => m8 b o (fun z => by rw [z, td0] at e; cases e) (fun z => by rw [z, dd0] at e; cases e) (sP7 b o e)
      have k21 : keyS n2 ∉ [keyS n1] := fun h => by
        have h := List.mem_singleton.mp h
        rw [en1, en2] at h
        simp only [keyS, List.cons.injEq] at h
        exact absurd h.2.1 (by decide +kernel)
      refine ⟨_, rfl, p, dx8, _, rfl, hp8, gf_no _ _ _, _, rfl, L, g, wd, rfl, hL8, gd.sized, fun tn2 H9 ntn2 s9 htn2 => ⟨1, rfl, tn2, _, -1, .str tl, rfl, rfl, .inl (.inl htn2), by rw [e1, List.map_append]; exact L2.atI_last _ _, p, _, wd, n2, by rw [en2]; rfl, hG8.same s9, gd, fun u hu => (by rw [List.mem_singleton.mp hu]; exact ok1), ok2, by rw [en2]; exact m1, k21, (by show 1 < 200; omega), (by show 1 < 1000; omega), fun q2 H10 hq2 m10 hG10 => ?_⟩⟩
      have m10 : Same2 td dd H9 H10 := m10
      have hL9 := hL8.keep (tk_same s9)
      have hP9 := hP8.same s9
      have hG9 := hG8.same s9
      have k10 := kp_2 m10 hG9.told hG9.deeds
      have hL10 := hL9.keep k10.tk
      have hP10 := purse_2 hP9 m10 ntd.symm ndd.symm
      obtain ⟨dx10, hp10⟩ := hG10.at_
      have sP9 : Same H H9 := sP8.trans s9
      have sP10 : Same H H10 := fun b o e => m10 b o (fun z => by rw [z, td0] at e; cases e) (fun z => by rw [z, dd0] at e; cases e) (sP9 b o e)
      obtain ⟨r2, er2⟩ : ∃ r2 : GR, r2 = (GR.add (GR.add ⟨pl, L, td, dd, g, [], [], []⟩ q1 n1) q2 n2) := ⟨_, rfl⟩
      rw [← er2] at hG10
      have g2 : r2.g = g := by rw [er2]; rfl
      have td2 : r2.td = td := by rw [er2]; rfl
      have dd2 : r2.dd = dd := by rw [er2]; rfl
      have ts2 : r2.ts = [n1, n2] := by rw [er2]; rfl
      have okr : ∀ t ∈ r2.ts, OkT t := fun t ht => by
        rw [ts2] at ht
        simp only [List.mem_cons, List.not_mem_nil, or_false] at ht
        rcases ht with rfl | rfl <;> assumption
      have gd2 : Good r2.g wd := by rw [g2]; exact gd
      clear er2
      refine ⟨_, rfl, p, dx10, _, rfl, hp10, p, r2, wd, rfl, hG10, gd2, by rw [ts2]; simp, okr, fun H11 s11 => ⟨_, rfl, ?_⟩⟩
      have hG11 := hG10.same s11
      have hP11 := hP10.same s11
      have hL11 := hL10.keep (tk_same s11)
      have nd2 : r2.td ≠ pu := by rw [td2]; exact ntd
      have ndd2 : r2.dd ≠ pu := by rw [dd2]; exact ndd
      have sP11 : Same H H11 := sP10.trans s11
      refine ⟨4, rfl, by decide, by decide, fun Dd hDd => lc_range (lo := 0) (n := 4) (fun j H' => H' Dd = some (.lst ((List.replicate j true).map V.bl)) ∧ PurseAt H' pu ∧ SameX pu H11 H') ⟨upd_same, hP11.same (same_new hDd), sx (same_new hDd)⟩ ?_ ?_⟩
      · rintro j Ha hj ⟨hDa, hPa, xa⟩
        have nDd : Dd ≠ pu := hP11.ne hDd
        obtain ⟨yk, hyk⟩ := hP11.lst
        refine ⟨rfl, yes_it ⟨_, rfl, _, rfl, _, rfl, pu, p, L, r2, wd, rfl, hPa, hG11.x hP11 xa nd2 ndd2, okr, by rw [ts2]; simp, by rw [g2]; exact hL11.keep (tk_x xa hyk), gd2, nd2, ndd2, fun Hb xb hPb => ⟨_, xb _ _ nDd hDa, ?_, ?_, ?_, sameX_mut (xa.trans xb) hDd⟩⟩⟩
        · rw [List.length_map, List.length_replicate]
          exact small1000 (by omega)
        · rw [upd_same, List.replicate_succ', List.map_append]
          rfl
        · obtain ⟨x0, x1, x2, hx, hx1⟩ := hPb
          exact ⟨x0, x1, x2, by rw [upd_ne nDd.symm]; exact hx, hx1⟩
      · rintro H12 ⟨hD12, hP12, x12⟩
        have hG12 := hG11.x hP11 x12 nd2 ndd2
        obtain ⟨dx12, hp12⟩ := hG12.at_
        refine ⟨Dd, List.replicate 4 true, rfl, .inl (.inl hD12), true, rfl, iteF ⟨_, rfl, p, dx12, _, rfl, hp12, p, r2, wd, rfl, hG12, gd2, by rw [ts2]; simp, okr, fun H13 s13 => ⟨_, rfl, _, rfl, rfl, _, rfl, ?_⟩⟩⟩
        refine iteNS (by simp) ⟨⟨_, _, _, _, _, _, rfl⟩, (same_x sP11 x12 hpu0).trans s13⟩
    · rintro σ H1 ⟨⟨y1, y2, y3, y4, y5, y6, rfl⟩, s1⟩
      exact q H1
end
end Wl

/-! What the head reads off the frame of an own exception's class without own __init__. -/
namespace Wl
open PySem PySem.Spec PyProof.Rows L2
def errNB (K : PySem.W.Frag) (C : Addr) (n : Nat) (bm : List Value) (newId : String) : Bool :=
  PySem.W.excIn K C bm newId && (decide (PySem.W.subIn K (.ref C) (.type "BaseException") = some true) && (decide (PySem.W.typeIn K (.ref C) = some (.type "type")) && (PySem.W.keepIn K (.ref C) &&
  ((PySem.W.clsIn K C).isSome && (He.eqO (PySem.W.findIn K (.ref C) "__getattribute__") (some (some (.builtin "BaseException.__getattribute__"))) && (He.eqO (PySem.W.findIn K (.ref C) "__getattr__") (some none) &&
  (He.eqO (PySem.W.findIn K (.ref C) "__class__") (some (some (.builtin "object.__class__"))) && (He.eqO (PySem.W.specialIn K (.builtin "object.__class__") "__get__") (some (some (.builtin "getset_descriptor.__get__"))) &&
  (decide (PySem.W.takesIn K (.builtin "object.__class__") = some true) && (decide (PySem.W.mroIn K C (.type "object") = some true) && (((List.range 19).all fun i => decide (PySem.W.kitOne K (.ref C) (.ref (adK K i)) = some (decide (i = n)))) &&
  (((List.range 3).all fun i => decide (PySem.W.kitOne K (.ref C) (.ref (bdK K i)) = some (decide (i = baOf n)))) && (decide (PySem.W.kitOne K (.ref C) (.type "ValueError") = some (decide (0 = baOf n))) &&
  (decide (PySem.W.kitOne K (.ref C) (.type "LookupError") = some (decide (1 = baOf n))) && (decide (PySem.W.kitOne K (.ref C) (.type "ArithmeticError") = some (decide (2 = baOf n))) &&
  decide (n < 19))))))))))))))))
def errNOf (K : PySem.W.Frag) (n : Nat) : Bool := errNB K (adK K n) n (bmOf n) (newOf n)
theorem errN_ok {K : PySem.W.Frag} {mg : Str → Option Value} {C : Addr} {n : Nat} (h : errNB K C n (bmOf n) (newOf n) = true) : SortC K (adK K) (bdK K) C n ∧ ∀ {x : Str}, mg x = some (.ref C) → OwnN K mg x C := by
  unfold errNB at h
  simp only [Bool.and_eq_true] at h
  obtain ⟨h1, h6, h7, h9, h10, h11, h12, h13, h14, h15, h16, h17, h18, h19, h20, h21, h23⟩ := h
  have hsub := of_decide_eq_true h6
  obtain ⟨B, ini, BX⟩ := base_of n
  exact ⟨⟨⟨h10, He.eqO_ok h11, He.eqO_ok h12, hsub, He.eqO_ok h13, He.eqO_ok h14, of_decide_eq_true h15, of_decide_eq_true h16⟩, of_decide_eq_true h23, fun i hi => of_decide_eq_true (List.all_eq_true.mp h17 i (List.mem_range.mpr hi)), fun i hi => of_decide_eq_true (List.all_eq_true.mp h18 i (List.mem_range.mpr hi)),
    of_decide_eq_true h19, of_decide_eq_true h20, of_decide_eq_true h21⟩, fun hg => ⟨hg, h9, ⟨B, newOf n, ini, bmOf n, BX, h1⟩, hsub, of_decide_eq_true h7⟩⟩
end Wl

namespace Wl
open PySem PySem.Spec PyProof.Rows L2
/-- an exception's class that is not followed -/
def isExc (o : Obj) : Bool := match o.data with
  | .cls cd => (cd.mro.any fun v => match v with | .type n => n == "Exception" | _ => false) && !(decide (cd.name = "NoWord") || decide (cd.name = "NoChanges") || decide (cd.name = "NoGathering") || decide (cd.name = "WordError") || decide (cd.name = "LandError"))
  | _ => false
/-- what these objects name, exceptions left out -/
def refsL (g : Addr → Option Obj) (as : List Addr) : List Addr := as.flatMap fun a => match g a with
  | some o => if isExc o then [] else He.refsD o
  | none => []
def layK (g : Addr → Option Obj) : Nat → List Addr → List Addr
  | 0, l => l
  | n + 1, l => l ++ layK g n (refsL g l)
def frK (g : Addr → Option Obj) : PySem.W.Frag := He.frG g (layK g 4 [mainGlobals])
/-- the hook of facts over such a frame, with one more test of the frame -/
def hookK (fa : List He.Fa) (fn : List He.DefD) (ex : PySem.W.Frag → Bool) : PySem.W.Hook where
  α := He.AlD × Bool
  obs := fun s => (He.obsD fa fn (frK s.heap.get?), ex (frK s.heap.get?))
  val := fun _ => (He.valD fn, true)
  says := fun _ h => ∃ K : PySem.W.Frag, K.In h ∧ He.SaysD fa fn K ∧ ex K = true
  of := fun _ _ e => ⟨_, He.frG_in, congrArg (fun z : He.AlD × Bool => z.1) e, congrArg (fun z : He.AlD × Bool => z.2) e⟩
  keeps := fun _ _ _ ⟨K, hK, c⟩ k => ⟨K, PySem.W.Frag.In.keeps hK k, c⟩
theorem map3 {α β γ δ : Type} {o : Option α} {f : α → β} {g : α → γ} {h : α → δ} {a : β} {b : γ} {c : δ} (h1 : o.map (fun s => (f s, g s)) = some (a, b)) (h2 : o.map h = some c) : o.map (fun s => (f s, g s, h s)) = some (a, b, c) := by
  cases o with
  | none => cases h1
  | some x =>
    have e1 := Option.some.inj h1
    have e2 := Option.some.inj h2
    show some (f x, g x, h x) = _
    rw [(Prod.mk.inj e1).1, (Prod.mk.inj e1).2, e2]
/-- what else a class says: isinstance -/
def exC (K : PySem.W.Frag) (x : Str) : Bool :=
  He.eqO (PySem.W.findIn K (.ref (He.ga K x)) "__class__") (some (some (.builtin "object.__class__"))) && (decide (PySem.W.mroIn K (He.ga K x) (.type "object") = some true) && decide (PySem.W.kitOne K (.ref (He.ga K x)) (.ref (He.ga K x)) = some true))
def exT0 (K : PySem.W.Frag) : Bool :=
  He.eqO (PySem.W.specialIn K (.builtin "object.__class__") "__get__") (some (some (.builtin "getset_descriptor.__get__"))) && (decide (PySem.W.takesIn K (.builtin "object.__class__") = some true) && (exC K "Land" && (exC K "Gathering" &&
  (He.eqO (PySem.W.findIn K (.ref (He.ga K "Land")) "__ne__") (some (some (.builtin "object.__ne__"))) && He.tupB K "WHERES" [.str "first", .str "last", .str "any"]))))
def kitNoB (K : PySem.W.Frag) : Bool := decide (PySem.W.kitOne K (.type "NoneType") (.ref (He.ga K "Gathering")) = some false) && (decide (PySem.W.kitOne K (.type "bool") (.ref (He.ga K "Gathering")) = some false) && (decide (PySem.W.kitOne K (.type "int") (.ref (He.ga K "Gathering")) = some false) && (decide (PySem.W.kitOne K (.type "str") (.ref (He.ga K "Gathering")) = some false) && (decide (PySem.W.kitOne K (.type "list") (.ref (He.ga K "Gathering")) = some false) && (decide (PySem.W.kitOne K (.type "tuple") (.ref (He.ga K "Gathering")) = some false) && (decide (PySem.W.kitOne K (.type "dict") (.ref (He.ga K "Gathering")) = some false) && (decide (PySem.W.kitOne K (.ref (He.ga K "Land")) (.ref (He.ga K "Gathering")) = some false))))))))
def exX (K : PySem.W.Frag) : Bool := sortB K && (errOf K 0 "word" && (errOf K 1 "place" && (errNOf K 11 && kitNoB K)))
def dOf (x : Str) (st : Stmt) (ds : List He.Dv) : He.DefD := ⟨(x, none), x, x, defArgs st, defBody st, defScope st, ds, []⟩
def dMet (cl m q : Str) (st : Stmt) (ds : List He.Dv) : He.DefD := ⟨(cl, some m), m, q, defArgs st, defBody st, defScope st, ds, []⟩
def exT (K : PySem.W.Frag) : Bool := exT0 K && exX K
def fn : List He.DefD := dMet "NoWord" "__init__" "NoWord.__init__" (inClass (topS 5) 0) [] :: dMet "NoChanges" "__init__" "NoChanges.__init__" (inClass (topS 6) 0) [] :: dOf "is_word" wIsWord [] :: dOf "is_whole" sIsWhole [] :: dOf "is_number_from" sIsNum [] :: dOf "check_word" wCheck [] :: dOf "is_letter" wIsLetter [] :: dOf "is_change" wIsChange [] :: dOf "is_tuple_up_to" wTupTo [] :: dOf "checked_changes" wChecked [] :: dOf "reaches" wReaches [] :: dOf "turned_letters" wTurned [] :: dOf "steps_toward" wSteps [] :: dOf "letters_between" wBetween [] :: dOf "row_between" wRow [.non] :: dOf "are_one" wAre [.non] :: dOf "are_rows" sAreRows [] :: dOf "wrong_spot" sWrong [] :: dOf "spots_in" sSpotsIn [] :: dOf "checked_spots" sSpots [] :: dMet "Land" "__init__" "Land.__init__" sInit [] :: dMet "Land" "check_name" "Land.check_name" sCheck [] :: dMet "Land" "__str__" "Land.__str__" sStr [] :: dOf "check_age" sCheckA [] :: dOf "check_sure" sCheckS [] :: dOf "key_of" sKeyOf [] :: dOf "telling_row" sTelRow [] :: dMet "Gathering" "__init__" "Gathering.__init__" sGInit [] :: dMet "Gathering" "place_of" "Gathering.place_of" sGPlace [] :: dMet "Gathering" "put" "Gathering.put" sGPut [.str "self", .bl true] :: dMet "Gathering" "tellings" "Gathering.tellings" sGTell [.non] :: dMet "Gathering" "__str__" "Gathering.__str__" sGStr [] :: dOf "check_gathering" sCheckG [] :: dOf "tellings_of_two" sTwo [] :: dOf "in_both" sBothP [] :: dOf "habit" sHabit [.non] :: dOf "_law_cell" sCell [] :: dOf "_law_purse" sPurse [] :: dOf "_law_pick" sPick [] :: dOf "_law_menu" sMenu [] :: dOf "_law_word" sWord [] :: dOf "_law_fresh" sFresh [] :: dOf "_law_changes" sChanges [] :: dOf "_law_kin" sKin [] :: dOf "_law_meaning" sMeaning [] :: dOf "_law_land" sLand [] :: dOf "_law_names" sNames [] :: dOf "_law_sort" sSort [] :: dOf "_law_told" sTold [] :: dOf "_law_no_word" sNoW [] :: dOf "_law_no_changes" sNoC [] :: dOf "_law_due" sDue [] :: dOf "_law_right" sRight [] :: dOf "law" sLaw [] :: []
def fa : List He.Fa := .glo "NoWord" :: .meth "NoWord" "__init__" :: .glo "NoChanges" :: .meth "NoChanges" "__init__" :: .glo "is_word" :: .glo "is_whole" :: .glo "is_number_from" :: .glo "check_word" :: .glo "is_letter" :: .glo "is_change" :: .glo "is_tuple_up_to" :: .glo "checked_changes" :: .glo "reaches" :: .glo "turned_letters" :: .glo "steps_toward" :: .glo "letters_between" :: .glo "row_between" :: .glo "are_one" :: .glo "are_rows" :: .glo "wrong_spot" :: .glo "spots_in" :: .glo "checked_spots" :: .glo "Land" :: .meth "Land" "check_name" :: .meth "Land" "__str__" :: .glo "check_age" :: .glo "check_sure" :: .glo "key_of" :: .glo "telling_row" :: .glo "Gathering" :: .meth "Gathering" "place_of" :: .meth "Gathering" "put" :: .meth "Gathering" "tellings" :: .meth "Gathering" "__str__" :: .glo "check_gathering" :: .glo "tellings_of_two" :: .glo "in_both" :: .glo "habit" :: .glo "_law_cell" :: .glo "_law_purse" :: .glo "_law_pick" :: .glo "_law_menu" :: .glo "_law_word" :: .glo "_law_fresh" :: .glo "_law_changes" :: .glo "_law_kin" :: .glo "_law_meaning" :: .glo "_law_land" :: .glo "_law_names" :: .glo "_law_sort" :: .glo "_law_told" :: .glo "_law_no_word" :: .glo "_law_no_changes" :: .glo "_law_due" :: .glo "_law_right" :: .glo "law" :: .str "LETTERS" "abcdefghijklmnopqrstuvwxyz" :: .int "LONGEST_WORD" 8 :: .int "MOST_CHANGES" 12 :: .int "MOST_ROWS" 6 :: .int "MOST_COLUMNS" 6 :: .int "OLDEST" 120 :: .int "MOST_TELLINGS" 200 :: .str "DOT" "." :: .str "DOUBT" "?" :: .str "LAKE" "-" :: .glo "WHERES" :: .free "bool" :: .free "repr" :: .glo "NoGathering" :: .cls "Land" :: .mkr "Land" :: .noat "Land" "spots" :: .noat "Land" "rows" :: .cls "Gathering" :: .mkr "Gathering" :: .noat "Gathering" "land" :: .noat "Gathering" "told" :: .noat "Gathering" "deeds" :: .exm "NoGathering" "NoGathering" true :: .exm "NoWord" "NoGathering" false :: .exm "NoWord" "NoWord" true :: .exm "NoChanges" "NoGathering" false :: .exm "NoChanges" "NoWord" false :: .exm "NoChanges" "NoChanges" true :: .free "len" :: .free "range" :: .free "isinstance" :: .free "tuple" :: .free "list" :: .free "sorted" :: .free "all" :: .free "int" :: .free "max" :: .free "min" :: .free "enumerate" :: .free "str" :: []
abbrev R : PySem.W.OpenRow := PySem.W.OpenLaw.row PySem.Challenge.rw_wordlines_k37_habits_refused
abbrev hk : PySem.W.Hook := hookK fa fn exT
def ob (s : PySem.W.SharedT) : He.AlD × Bool := (He.obsD fa fn (frK (HandSHeadRun.getT s)), exT (frK (HandSHeadRun.getT s)))
theorem ob_eq (s : PySem.W.SharedT) : ob s = hk.obs s.abs := by
  have e : HandSHeadRun.getT s = s.abs.heap.get? := funext (HandSHeadRun.getT_eq s)
  unfold ob
  rw [e]
  rfl
def others : List PySem.Str := "_wall" :: "WordError" :: "LandError" :: "JoinError" :: "NoWord" :: "NoChanges" :: "NoText" :: "NoAge" :: "NoSure" :: "NoRings" :: "NoThings" :: "NoCount" :: "NoRow" :: "NoLand" :: "NoName" :: "NoGathering" :: "NoMap" :: "NoTelling" :: "NoBack" :: "Told" :: "Full" :: "Clash" :: "TooMany" :: "LETTERS" :: "WHERES" :: "LONGEST_WORD" :: "MOST_CHANGES" :: "is_whole" :: "is_number_from" :: "is_word" :: "check_word" :: "is_letter" :: "is_change" :: "is_tuple_up_to" :: "checked_changes" :: "reaches" :: "turned_letters" :: "steps_toward" :: "letters_between" :: "row_between" :: "are_one" :: "MOST_ROWS" :: "MOST_COLUMNS" :: "LAKE" :: "are_rows" :: "wrong_spot" :: "spots_in" :: "checked_spots" :: "Land" :: "MOST_TELLINGS" :: "OLDEST" :: "DOT" :: "DOUBT" :: "check_age" :: "check_sure" :: "key_of" :: "telling_row" :: "Gathering" :: "check_gathering" :: "tellings_of_two" :: "in_both" :: "habit" :: "_law_cell" :: "_law_purse" :: "_law_pick" :: "_law_menu" :: "_law_word" :: "_law_fresh" :: "_law_changes" :: "_law_kin" :: "_law_meaning" :: "_law_land" :: "_law_names" :: "_law_sort" :: "_law_told" :: "_law_no_word" :: "_law_no_changes" :: "_law_due" :: "_law_right" :: []
theorem facts {P : Program} {w : World} {K : PySem.W.Frag} {h : Heap} {mg : Str → Option Value} {f : Addr} (X : K.In h) (G : h.Ns mainGlobals mg) (hfa : mg ("law" : Str) = some (.ref f)) (c : He.SaysD fa fn K) (cx : exT K = true) :
    ∃ fd : FuncData, (∀ (s : Shared) (v : Value), BindsTo s fd ⟨[v], []⟩ [("_law_script", v)]) ∧ ∀ base : Heap, K.In base → base.Ns mainGlobals mg → FnOkG P w K mg base 11 f fd ["_law_script"] (spLaw K) := by
  have B : Bi mg := ⟨He.free_ok X G (c.fact 85 (f := .free "len") rfl), He.free_ok X G (c.fact 86 (f := .free "range") rfl), He.free_ok X G (c.fact 87 (f := .free "isinstance") rfl), He.free_ok X G (c.fact 88 (f := .free "tuple") rfl), He.free_ok X G (c.fact 89 (f := .free "list") rfl), He.free_ok X G (c.fact 90 (f := .free "sorted") rfl), He.free_ok X G (c.fact 91 (f := .free "all") rfl), He.free_ok X G (c.fact 92 (f := .free "int") rfl), He.free_ok X G (c.fact 93 (f := .free "max") rfl), He.free_ok X G (c.fact 94 (f := .free "min") rfl), He.free_ok X G (c.fact 95 (f := .free "enumerate") rfl), He.free_ok X G (c.fact 96 (f := .free "str") rfl)⟩
  obtain ⟨fd0, F0⟩ := c.def_ 0 (d := dMet "NoWord" "__init__" "NoWord.__init__" (inClass (topS 5) 0) []) rfl
  obtain ⟨fd1, F1⟩ := c.def_ 1 (d := dMet "NoChanges" "__init__" "NoChanges.__init__" (inClass (topS 6) 0) []) rfl
  obtain ⟨fd2, F2⟩ := c.def_ 2 (d := dOf "is_word" wIsWord []) rfl
  obtain ⟨fd3, F3⟩ := c.def_ 3 (d := dOf "is_whole" sIsWhole []) rfl
  obtain ⟨fd4, F4⟩ := c.def_ 4 (d := dOf "is_number_from" sIsNum []) rfl
  obtain ⟨fd5, F5⟩ := c.def_ 5 (d := dOf "check_word" wCheck []) rfl
  obtain ⟨fd6, F6⟩ := c.def_ 6 (d := dOf "is_letter" wIsLetter []) rfl
  obtain ⟨fd7, F7⟩ := c.def_ 7 (d := dOf "is_change" wIsChange []) rfl
  obtain ⟨fd8, F8⟩ := c.def_ 8 (d := dOf "is_tuple_up_to" wTupTo []) rfl
  obtain ⟨fd9, F9⟩ := c.def_ 9 (d := dOf "checked_changes" wChecked []) rfl
  obtain ⟨fd10, F10⟩ := c.def_ 10 (d := dOf "reaches" wReaches []) rfl
  obtain ⟨fd11, F11⟩ := c.def_ 11 (d := dOf "turned_letters" wTurned []) rfl
  obtain ⟨fd12, F12⟩ := c.def_ 12 (d := dOf "steps_toward" wSteps []) rfl
  obtain ⟨fd13, F13⟩ := c.def_ 13 (d := dOf "letters_between" wBetween []) rfl
  obtain ⟨fd14, F14⟩ := c.def_ 14 (d := dOf "row_between" wRow [.non]) rfl
  obtain ⟨fd15, F15⟩ := c.def_ 15 (d := dOf "are_one" wAre [.non]) rfl
  obtain ⟨fd16, F16⟩ := c.def_ 16 (d := dOf "are_rows" sAreRows []) rfl
  obtain ⟨fd17, F17⟩ := c.def_ 17 (d := dOf "wrong_spot" sWrong []) rfl
  obtain ⟨fd18, F18⟩ := c.def_ 18 (d := dOf "spots_in" sSpotsIn []) rfl
  obtain ⟨fd19, F19⟩ := c.def_ 19 (d := dOf "checked_spots" sSpots []) rfl
  obtain ⟨fd20, F20⟩ := c.def_ 20 (d := dMet "Land" "__init__" "Land.__init__" sInit []) rfl
  obtain ⟨fd21, F21⟩ := c.def_ 21 (d := dMet "Land" "check_name" "Land.check_name" sCheck []) rfl
  obtain ⟨fd22, F22⟩ := c.def_ 22 (d := dMet "Land" "__str__" "Land.__str__" sStr []) rfl
  obtain ⟨fd23, F23⟩ := c.def_ 23 (d := dOf "check_age" sCheckA []) rfl
  obtain ⟨fd24, F24⟩ := c.def_ 24 (d := dOf "check_sure" sCheckS []) rfl
  obtain ⟨fd25, F25⟩ := c.def_ 25 (d := dOf "key_of" sKeyOf []) rfl
  obtain ⟨fd26, F26⟩ := c.def_ 26 (d := dOf "telling_row" sTelRow []) rfl
  obtain ⟨fd27, F27⟩ := c.def_ 27 (d := dMet "Gathering" "__init__" "Gathering.__init__" sGInit []) rfl
  obtain ⟨fd28, F28⟩ := c.def_ 28 (d := dMet "Gathering" "place_of" "Gathering.place_of" sGPlace []) rfl
  obtain ⟨fd29, F29⟩ := c.def_ 29 (d := dMet "Gathering" "put" "Gathering.put" sGPut [.str "self", .bl true]) rfl
  obtain ⟨fd30, F30⟩ := c.def_ 30 (d := dMet "Gathering" "tellings" "Gathering.tellings" sGTell [.non]) rfl
  obtain ⟨fd31, F31⟩ := c.def_ 31 (d := dMet "Gathering" "__str__" "Gathering.__str__" sGStr []) rfl
  obtain ⟨fd32, F32⟩ := c.def_ 32 (d := dOf "check_gathering" sCheckG []) rfl
  obtain ⟨fd33, F33⟩ := c.def_ 33 (d := dOf "tellings_of_two" sTwo []) rfl
  obtain ⟨fd34, F34⟩ := c.def_ 34 (d := dOf "in_both" sBothP []) rfl
  obtain ⟨fd35, F35⟩ := c.def_ 35 (d := dOf "habit" sHabit [.non]) rfl
  obtain ⟨fd36, F36⟩ := c.def_ 36 (d := dOf "_law_cell" sCell []) rfl
  obtain ⟨fd37, F37⟩ := c.def_ 37 (d := dOf "_law_purse" sPurse []) rfl
  obtain ⟨fd38, F38⟩ := c.def_ 38 (d := dOf "_law_pick" sPick []) rfl
  obtain ⟨fd39, F39⟩ := c.def_ 39 (d := dOf "_law_menu" sMenu []) rfl
  obtain ⟨fd40, F40⟩ := c.def_ 40 (d := dOf "_law_word" sWord []) rfl
  obtain ⟨fd41, F41⟩ := c.def_ 41 (d := dOf "_law_fresh" sFresh []) rfl
  obtain ⟨fd42, F42⟩ := c.def_ 42 (d := dOf "_law_changes" sChanges []) rfl
  obtain ⟨fd43, F43⟩ := c.def_ 43 (d := dOf "_law_kin" sKin []) rfl
  obtain ⟨fd44, F44⟩ := c.def_ 44 (d := dOf "_law_meaning" sMeaning []) rfl
  obtain ⟨fd45, F45⟩ := c.def_ 45 (d := dOf "_law_land" sLand []) rfl
  obtain ⟨fd46, F46⟩ := c.def_ 46 (d := dOf "_law_names" sNames []) rfl
  obtain ⟨fd47, F47⟩ := c.def_ 47 (d := dOf "_law_sort" sSort []) rfl
  obtain ⟨fd48, F48⟩ := c.def_ 48 (d := dOf "_law_told" sTold []) rfl
  obtain ⟨fd49, F49⟩ := c.def_ 49 (d := dOf "_law_no_word" sNoW []) rfl
  obtain ⟨fd50, F50⟩ := c.def_ 50 (d := dOf "_law_no_changes" sNoC []) rfl
  obtain ⟨fd51, F51⟩ := c.def_ 51 (d := dOf "_law_due" sDue []) rfl
  obtain ⟨fd52, F52⟩ := c.def_ 52 (d := dOf "_law_right" sRight []) rfl
  obtain ⟨fd53, F53⟩ := c.def_ 53 (d := dOf "law" sLaw []) rfl
  have e := hfa.symm.trans (He.glo_ok X G (c.fact 55 (f := .glo "law") rfl))
  cases e
  have f0 : Fun K "__init__" "NoWord.__init__" (inClass (topS 5) 0) _ fd0 := He5.fun_of F0
  have f1 : Fun K "__init__" "NoChanges.__init__" (inClass (topS 6) 0) _ fd1 := He5.fun_of F1
  have f2 : Fun K "is_word" "is_word" wIsWord _ fd2 := He5.fun_of F2
  have f3 : Fun K "is_whole" "is_whole" sIsWhole _ fd3 := He5.fun_of F3
  have f4 : Fun K "is_number_from" "is_number_from" sIsNum _ fd4 := He5.fun_of F4
  have f5 : Fun K "check_word" "check_word" wCheck _ fd5 := He5.fun_of F5
  have f6 : Fun K "is_letter" "is_letter" wIsLetter _ fd6 := He5.fun_of F6
  have f7 : Fun K "is_change" "is_change" wIsChange _ fd7 := He5.fun_of F7
  have f8 : Fun K "is_tuple_up_to" "is_tuple_up_to" wTupTo _ fd8 := He5.fun_of F8
  have f9 : Fun K "checked_changes" "checked_changes" wChecked _ fd9 := He5.fun_of F9
  have f10 : Fun K "reaches" "reaches" wReaches _ fd10 := He5.fun_of F10
  have f11 : Fun K "turned_letters" "turned_letters" wTurned _ fd11 := He5.fun_of F11
  have f12 : Fun K "steps_toward" "steps_toward" wSteps _ fd12 := He5.fun_of F12
  have f13 : Fun K "letters_between" "letters_between" wBetween _ fd13 := He5.fun_of F13
  have f14 : FunN K "row_between" wRow _ fd14 := F14
  have f15 : FunN K "are_one" wAre _ fd15 := F15
  have f16 : Fun K "are_rows" "are_rows" sAreRows _ fd16 := He5.fun_of F16
  have f17 : Fun K "wrong_spot" "wrong_spot" sWrong _ fd17 := He5.fun_of F17
  have f18 : Fun K "spots_in" "spots_in" sSpotsIn _ fd18 := He5.fun_of F18
  have f19 : Fun K "checked_spots" "checked_spots" sSpots _ fd19 := He5.fun_of F19
  have f20 : Fun K "__init__" "Land.__init__" sInit _ fd20 := He5.fun_of F20
  have f21 : Fun K "check_name" "Land.check_name" sCheck _ fd21 := He5.fun_of F21
  have f22 : Fun K "__str__" "Land.__str__" sStr _ fd22 := He5.fun_of F22
  have f23 : Fun K "check_age" "check_age" sCheckA _ fd23 := He5.fun_of F23
  have f24 : Fun K "check_sure" "check_sure" sCheckS _ fd24 := He5.fun_of F24
  have f25 : Fun K "key_of" "key_of" sKeyOf _ fd25 := He5.fun_of F25
  have f26 : Fun K "telling_row" "telling_row" sTelRow _ fd26 := He5.fun_of F26
  have f27 : Fun K "__init__" "Gathering.__init__" sGInit _ fd27 := He5.fun_of F27
  have f28 : Fun K "place_of" "Gathering.place_of" sGPlace _ fd28 := He5.fun_of F28
  have f29 : FunP K _ fd29 := F29
  have f30 : FunT K _ fd30 := F30
  have f31 : Fun K "__str__" "Gathering.__str__" sGStr _ fd31 := He5.fun_of F31
  have f32 : Fun K "check_gathering" "check_gathering" sCheckG _ fd32 := He5.fun_of F32
  have f33 : Fun K "tellings_of_two" "tellings_of_two" sTwo _ fd33 := He5.fun_of F33
  have f34 : Fun K "in_both" "in_both" sBothP _ fd34 := He5.fun_of F34
  have f35 : FunN K "habit" sHabit _ fd35 := F35
  have f36 : Fun K "_law_cell" "_law_cell" sCell _ fd36 := He5.fun_of F36
  have f37 : Fun K "_law_purse" "_law_purse" sPurse _ fd37 := He5.fun_of F37
  have f38 : Fun K "_law_pick" "_law_pick" sPick _ fd38 := He5.fun_of F38
  have f39 : Fun K "_law_menu" "_law_menu" sMenu _ fd39 := He5.fun_of F39
  have f40 : Fun K "_law_word" "_law_word" sWord _ fd40 := He5.fun_of F40
  have f41 : Fun K "_law_fresh" "_law_fresh" sFresh _ fd41 := He5.fun_of F41
  have f42 : Fun K "_law_changes" "_law_changes" sChanges _ fd42 := He5.fun_of F42
  have f43 : Fun K "_law_kin" "_law_kin" sKin _ fd43 := He5.fun_of F43
  have f44 : Fun K "_law_meaning" "_law_meaning" sMeaning _ fd44 := He5.fun_of F44
  have f45 : Fun K "_law_land" "_law_land" sLand _ fd45 := He5.fun_of F45
  have f46 : Fun K "_law_names" "_law_names" sNames _ fd46 := He5.fun_of F46
  have f47 : Fun K "_law_sort" "_law_sort" sSort _ fd47 := He5.fun_of F47
  have f48 : Fun K "_law_told" "_law_told" sTold _ fd48 := He5.fun_of F48
  have f49 : Fun K "_law_no_word" "_law_no_word" sNoW _ fd49 := He5.fun_of F49
  have f50 : Fun K "_law_no_changes" "_law_no_changes" sNoC _ fd50 := He5.fun_of F50
  have f51 : Fun K "_law_due" "_law_due" sDue _ fd51 := He5.fun_of F51
  have f52 : Fun K "_law_right" "_law_right" sRight _ fd52 := He5.fun_of F52
  have f53 : Fun K "law" "law" sLaw _ fd53 := He5.fun_of F53
  refine ⟨fd53, fun s v => ?_, fun base _ _ => ?_⟩
  · obtain ⟨oc, od, kV, doc, pm, an, cdv, ct, osl, e, l, c⟩ := f53.ex
    subst e
    exact .of_eq rfl
  have B2 : Bg mg := ⟨He.free_ok X G (c.fact 67 (f := .free "bool") rfl), He.int_ok X G (c.fact 61 (f := .int "OLDEST" 120) rfl), He.int_ok X G (c.fact 62 (f := .int "MOST_TELLINGS" 200) rfl), He.str_ok X G (c.fact 63 (f := .str "DOT" ".") rfl), He.str_ok X G (c.fact 64 (f := .str "DOUBT" "?") rfl)⟩
  have Gk' : Gk mg := ⟨He.str_ok X G (c.fact 56 (f := .str "LETTERS" "abcdefghijklmnopqrstuvwxyz") rfl), He.int_ok X G (c.fact 57 (f := .int "LONGEST_WORD" 8) rfl), He.int_ok X G (c.fact 59 (f := .int "MOST_ROWS" 6) rfl), He.int_ok X G (c.fact 60 (f := .int "MOST_COLUMNS" 6) rfl)⟩
  have T : Txt K mg (He.ga K "Land") := ⟨He.cls_ok (c.fact 70 (f := .cls "Land") rfl), He.noat_ok (c.fact 72 (f := .noat "Land" "spots") rfl), He.noat_ok (c.fact 73 (f := .noat "Land" "rows") rfl), He.glo_ok X G (c.fact 22 (f := .glo "Land") rfl)⟩
  have TG : TxtG K mg (He.ga K "Gathering") := ⟨He.cls_ok (c.fact 74 (f := .cls "Gathering") rfl), He.noat_ok (c.fact 76 (f := .noat "Gathering" "land") rfl), He.noat_ok (c.fact 77 (f := .noat "Gathering" "told") rfl), He.noat_ok (c.fact 78 (f := .noat "Gathering" "deeds") rfl), He.glo_ok X G (c.fact 29 (f := .glo "Gathering") rfl)⟩
  unfold exT at cx
  rw [Bool.and_eq_true] at cx
  obtain ⟨cx, cz⟩ := cx
  unfold exT0 exC at cx
  simp only [Bool.and_eq_true] at cx
  obtain ⟨e2, e3, ⟨a1, a2, a3⟩, ⟨b1, b2, b3⟩, e6, e7⟩ := cx
  have T2 : Txt2 K mg (He.ga K "Land") := ⟨T, ⟨T.cl, He.eqO_ok a1, He.eqO_ok e2, of_decide_eq_true e3, of_decide_eq_true a2, of_decide_eq_true a3⟩, ⟨He.eqO_ok e6, of_decide_eq_true a2⟩⟩
  have insD : C8.InsC K (He.ga K "Gathering") := ⟨TG.cl, He.eqO_ok b1, He.eqO_ok e2, of_decide_eq_true e3, of_decide_eq_true b2, of_decide_eq_true b3⟩
  have Gw' : Gw K mg := ⟨He.str_ok X G (c.fact 56 (f := .str "LETTERS" "abcdefghijklmnopqrstuvwxyz") rfl), He.int_ok X G (c.fact 57 (f := .int "LONGEST_WORD" 8) rfl), He.int_ok X G (c.fact 58 (f := .int "MOST_CHANGES" 12) rfl), _, He.glo_ok X G (c.fact 66 (f := .glo "WHERES") rfl), fun H => He.tupB_ok e7 H⟩
  unfold exX kitNoB at cz
  simp only [Bool.and_eq_true] at cz
  obtain ⟨z1, z2, z3, z4, y1, y2, y3, y4, y5, y6, y7, y8⟩ := cz
  have SG : SortG mg (adK K) (bdK K) := sort_ok X G z1
  have ENoWord := err_ok (mg := mg) (C := He.ga K "NoWord") (f := "word") (n := 0) z2
  have ENoChanges := err_ok (mg := mg) (C := He.ga K "NoChanges") (f := "place") (n := 1) z3
  have ENG := errN_ok (mg := mg) (C := He.ga K "NoGathering") (n := 11) z4
  have SN : SortC K (adK K) (bdK K) (He.ga K "NoGathering") 11 := ENG.1
  have TN : OwnN K mg "NoGathering" (He.ga K "NoGathering") := ENG.2 (He.glo_ok X G (c.fact 69 (f := .glo "NoGathering") rfl))
  have HC : HdC K (He.ga K "NoGathering") (He.ga K "NoWord") (He.ga K "NoChanges") := ⟨He.exm_ok (c.fact 79 (f := .exm "NoGathering" "NoGathering" true) rfl), He.exm_ok (c.fact 80 (f := .exm "NoWord" "NoGathering" false) rfl), He.exm_ok (c.fact 81 (f := .exm "NoWord" "NoWord" true) rfl), He.exm_ok (c.fact 82 (f := .exm "NoChanges" "NoGathering" false) rfl), He.exm_ok (c.fact 83 (f := .exm "NoChanges" "NoWord" false) rfl), He.exm_ok (c.fact 84 (f := .exm "NoChanges" "NoChanges" true) rfl)⟩
  have KN : KitNoG K (He.ga K "Land") (He.ga K "Gathering") := ⟨of_decide_eq_true y1, of_decide_eq_true y2, of_decide_eq_true y3, of_decide_eq_true y4, of_decide_eq_true y5, of_decide_eq_true y6, of_decide_eq_true y7, of_decide_eq_true y8⟩
  have hlk : ∃ t, mg "LAKE" = some (.str "-" t) := He.str_ok X G (c.fact 65 (f := .str "LAKE" "-") rfl)
  have hrepr : mg "repr" = none := He.free_ok X G (c.fact 68 (f := .free "repr") rfl)
  have TNoWord : OwnX K mg "NoWord" "word" (He.ga K "NoWord") := ENoWord.2 (He.glo_ok X G (c.fact 0 (f := .glo "NoWord") rfl)) (He.meth_ok (c.fact 1 (f := .meth "NoWord" "__init__") rfl)) f0 (f0.binds fun _ _ _ _ _ _ us hl => match us, hl with | [_, _], _ => rfl) ⟨rfl, rfl, rfl, by decide +kernel, rfl, by decide +kernel, by decide +kernel⟩ (by decide +kernel) rfl
  have TNoChanges : OwnX K mg "NoChanges" "place" (He.ga K "NoChanges") := ENoChanges.2 (He.glo_ok X G (c.fact 2 (f := .glo "NoChanges") rfl)) (He.meth_ok (c.fact 3 (f := .meth "NoChanges" "__init__") rfl)) f1 (f1.binds fun _ _ _ _ _ _ us hl => match us, hl with | [_, _], _ => rfl) ⟨rfl, rfl, rfl, by decide +kernel, rfl, by decide +kernel, by decide +kernel⟩ (by decide +kernel) rfl
  have h_is_word : Has P w K mg base "is_word" 1 ["thing"] (spIsW K) := ⟨_, fd2, ok_isw f2 B Gw', He.glo_ok X G (c.fact 4 (f := .glo "is_word") rfl), f2.kp, f2.binds fun _ _ _ _ _ _ us hl => match us, hl with | [_], _ => rfl⟩
  have h_is_wordL : Has P w K mg base "is_word" 1 ["thing"] spIsWord := ⟨_, fd2, FnOk.imp (ok_isw f2 B Gw') (fun vs H Q E ⟨z, e, hz, q⟩ => ⟨.str z, wdB z, e, .inl ⟨z, rfl, hz, rfl⟩, q⟩), (He.glo_ok X G (c.fact 4 (f := .glo "is_word") rfl)), f2.kp, (f2.binds fun _ _ _ _ _ _ us hl => match us, hl with | [_], _ => rfl)⟩
  have h_is_whole : Has P w K mg base "is_whole" 1 ["thing"] spIsWhole := ⟨_, fd3, ok_iswhole f3 B B2, He.glo_ok X G (c.fact 5 (f := .glo "is_whole") rfl), f3.kp, f3.binds fun _ _ _ _ _ _ us hl => match us, hl with | [_], _ => rfl⟩
  have h_is_number_from : Has P w K mg base "is_number_from" 2 ["thing", "least", "most"] spIsNum := ⟨_, fd4, ok_isnum f4 h_is_whole, He.glo_ok X G (c.fact 6 (f := .glo "is_number_from") rfl), f4.kp, f4.binds fun _ _ _ _ _ _ us hl => match us, hl with | [_, _, _], _ => rfl⟩
  have h_check_word : Has P w K mg base "check_word" 2 ["word"] spCheckW := ⟨_, fd5, ok_checkw f5 h_is_word, He.glo_ok X G (c.fact 7 (f := .glo "check_word") rfl), f5.kp, f5.binds fun _ _ _ _ _ _ us hl => match us, hl with | [_], _ => rfl⟩
  have hX_check_word : HasX P w K mg base "check_word" 2 ["word"] (spCheckWX (He.ga K "NoWord")) := ⟨_, fd5, ok_checkwX f5 TNoWord h_is_word, (He.glo_ok X G (c.fact 7 (f := .glo "check_word") rfl)), f5.kp, (f5.binds fun _ _ _ _ _ _ us hl => match us, hl with | [_], _ => rfl)⟩
  have h_is_letter : Has P w K mg base "is_letter" 2 ["thing"] spIsLet := ⟨_, fd6, ok_islet f6 B h_is_word, He.glo_ok X G (c.fact 8 (f := .glo "is_letter") rfl), f6.kp, f6.binds fun _ _ _ _ _ _ us hl => match us, hl with | [_], _ => rfl⟩
  have hO_is_letter : Has P w K mg base "is_letter" 2 ["thing"] spIsLetO := ⟨_, fd6, ok_isletO f6 B h_is_word, (He.glo_ok X G (c.fact 8 (f := .glo "is_letter") rfl)), f6.kp, (f6.binds fun _ _ _ _ _ _ us hl => match us, hl with | [_], _ => rfl)⟩
  have h_is_change : Has P w K mg base "is_change" 3 ["thing"] spIsCh := ⟨_, fd7, ok_isch f7 B Gw' h_is_letter, He.glo_ok X G (c.fact 9 (f := .glo "is_change") rfl), f7.kp, f7.binds fun _ _ _ _ _ _ us hl => match us, hl with | [_], _ => rfl⟩
  have hX_is_change : Has P w K mg base "is_change" 3 ["thing"] spIsChX := ⟨_, fd7, FnOk_or (ok_isch f7 B Gw' h_is_letter) (ok_ischO f7 B Gw' hO_is_letter), (He.glo_ok X G (c.fact 9 (f := .glo "is_change") rfl)), f7.kp, (f7.binds fun _ _ _ _ _ _ us hl => match us, hl with | [_], _ => rfl)⟩
  have h_is_tuple_up_to : Has P w K mg base "is_tuple_up_to" 1 ["thing", "most"] spTupTo := ⟨_, fd8, ok_tupto f8 B, He.glo_ok X G (c.fact 10 (f := .glo "is_tuple_up_to") rfl), f8.kp, f8.binds fun _ _ _ _ _ _ us hl => match us, hl with | [_, _], _ => rfl⟩
  have hX_tupto : Has P w K mg base "is_tuple_up_to" 1 ["thing", "most"] spTupToX := ⟨_, fd8, FnOk_or (ok_tupto f8 B) (ok_tuptoO f8 B), (He.glo_ok X G (c.fact 10 (f := .glo "is_tuple_up_to") rfl)), f8.kp, (f8.binds fun _ _ _ _ _ _ us hl => match us, hl with | [_, _], _ => rfl)⟩
  have h_checked_changes : Has P w K mg base "checked_changes" 4 ["changes"] spChecked := ⟨_, fd9, ok_checked f9 B Gw' h_is_tuple_up_to h_is_change, He.glo_ok X G (c.fact 11 (f := .glo "checked_changes") rfl), f9.kp, f9.binds fun _ _ _ _ _ _ us hl => match us, hl with | [_], _ => rfl⟩
  have hX_checked_changes : HasX P w K mg base "checked_changes" 4 ["changes"] (spCheckedX (He.ga K "NoChanges")) := ⟨_, fd9, FnOk_xor (ok_checked f9 B Gw' h_is_tuple_up_to h_is_change) (ok_checkedR f9 TNoChanges B Gw' hX_tupto hX_is_change), (He.glo_ok X G (c.fact 11 (f := .glo "checked_changes") rfl)), f9.kp, (f9.binds fun _ _ _ _ _ _ us hl => match us, hl with | [_], _ => rfl)⟩
  have h_reaches : Has P w K mg base "reaches" 1 ["where", "place", "length"] spReaches := ⟨_, fd10, ok_reaches f10, He.glo_ok X G (c.fact 12 (f := .glo "reaches") rfl), f10.kp, f10.binds fun _ _ _ _ _ _ us hl => match us, hl with | [_, _, _], _ => rfl⟩
  have h_turned_letters : Has P w K mg base "turned_letters" 2 ["changes", "place", "length"] spTurned := ⟨_, fd11, ok_turned f11 Gw' h_reaches, He.glo_ok X G (c.fact 13 (f := .glo "turned_letters") rfl), f11.kp, f11.binds fun _ _ _ _ _ _ us hl => match us, hl with | [_, _, _], _ => rfl⟩
  have h_steps_toward : Has P w K mg base "steps_toward" 1 ["goal", "turned"] spSteps := ⟨_, fd12, ok_steps f12 B, He.glo_ok X G (c.fact 14 (f := .glo "steps_toward") rfl), f12.kp, f12.binds fun _ _ _ _ _ _ us hl => match us, hl with | [_, _], _ => rfl⟩
  have h_letters_between : Has P w K mg base "letters_between" 2 ["one", "other", "turned"] spBetween := ⟨_, fd13, ok_between f13 h_steps_toward, He.glo_ok X G (c.fact 15 (f := .glo "letters_between") rfl), f13.kp, f13.binds fun _ _ _ _ _ _ us hl => match us, hl with | [_, _, _], _ => rfl⟩
  have h_row_between : HasN P w K mg base "row_between" wRow 5 ["word", "other", "changes"] spRow := ⟨_, fd14, ok_row f14 B h_check_word h_checked_changes h_letters_between h_turned_letters, He.glo_ok X G (c.fact 16 (f := .glo "row_between") rfl), f14⟩
  have h_are_one : HasN P w K mg base "are_one" wAre 6 ["word", "other", "changes"] spAre := ⟨_, fd15, ok_are f15 h_row_between, He.glo_ok X G (c.fact 17 (f := .glo "are_one") rfl), f15⟩
  have h_are_rows : Has P w K mg base "are_rows" 1 ["thing"] spAreRows := ⟨_, fd16, ok_arerows f16 B Gk', He.glo_ok X G (c.fact 18 (f := .glo "are_rows") rfl), f16.kp, f16.binds fun _ _ _ _ _ _ us hl => match us, hl with | [_], _ => rfl⟩
  have h_wrong_spot : Has P w K mg base "wrong_spot" 2 ["rows"] spWrong := ⟨_, fd17, ok_wrong f17 B h_is_wordL, He.glo_ok X G (c.fact 19 (f := .glo "wrong_spot") rfl), f17.kp, f17.binds fun _ _ _ _ _ _ us hl => match us, hl with | [_], _ => rfl⟩
  have h_spots_in : Has P w K mg base "spots_in" 1 ["rows"] spSpotsIn := ⟨_, fd18, ok_spotsin f18 B, He.glo_ok X G (c.fact 20 (f := .glo "spots_in") rfl), f18.kp, f18.binds fun _ _ _ _ _ _ us hl => match us, hl with | [_], _ => rfl⟩
  have h_checked_spots : Has P w K mg base "checked_spots" 3 ["rows"] spSpots := ⟨_, fd19, ok_spots f19 h_are_rows h_wrong_spot h_spots_in, He.glo_ok X G (c.fact 21 (f := .glo "checked_spots") rfl), f19.kp, f19.binds fun _ _ _ _ _ _ us hl => match us, hl with | [_], _ => rfl⟩
  have h_Land__init__ : HasI P w K mg base (He.ga K "Land") := ⟨_, fd20, He.mkr_ok (c.fact 71 (f := .mkr "Land") rfl), ok_init f20 T h_checked_spots, (f20.binds fun _ _ _ _ _ _ us hl => match us, hl with | [_, _], _ => rfl)⟩
  have h_check_name : HasM P w K mg base (He.ga K "Land") "check_name" 2 ["self", "name"] (spCheck (He.ga K "Land")) := ⟨_, fd21, ok_check f21 T h_is_wordL, He.meth_ok (c.fact 23 (f := .meth "Land" "check_name") rfl), f21.binds fun _ _ _ _ _ _ us hl => match us, hl with | [_, _], _ => rfl⟩
  have h_Land__str__ : HasM P w K mg base (He.ga K "Land") "__str__" 1 ["self"] (spLStr (He.ga K "Land")) := ⟨_, fd22, ok_lstr f22 T hlk, He.meth_ok (c.fact 24 (f := .meth "Land" "__str__") rfl), f22.binds fun _ _ _ _ _ _ us hl => match us, hl with | [_], _ => rfl⟩
  have h_check_age : Has P w K mg base "check_age" 3 ["age"] spCheckA := ⟨_, fd23, ok_checka f23 B2 h_is_number_from, He.glo_ok X G (c.fact 25 (f := .glo "check_age") rfl), f23.kp, f23.binds fun _ _ _ _ _ _ us hl => match us, hl with | [_], _ => rfl⟩
  have h_check_sure : Has P w K mg base "check_sure" 1 ["sure"] spCheckS := ⟨_, fd24, ok_checks f24 B B2, He.glo_ok X G (c.fact 26 (f := .glo "check_sure") rfl), f24.kp, f24.binds fun _ _ _ _ _ _ us hl => match us, hl with | [_], _ => rfl⟩
  have h_key_of : Has P w K mg base "key_of" 1 ["telling"] spKeyOf := ⟨_, fd25, ok_keyof f25, He.glo_ok X G (c.fact 27 (f := .glo "key_of") rfl), f25.kp, f25.binds fun _ _ _ _ _ _ us hl => match us, hl with | [_], _ => rfl⟩
  have h_telling_row : Has P w K mg base "telling_row" 1 ["telling"] spTelRow := ⟨_, fd26, ok_telrow f26 B B2, He.glo_ok X G (c.fact 28 (f := .glo "telling_row") rfl), f26.kp, f26.binds fun _ _ _ _ _ _ us hl => match us, hl with | [_], _ => rfl⟩
  have h_Gathering__init__ : HasG P w K mg base (He.ga K "Land") (He.ga K "Gathering") := ⟨_, fd27, He.mkr_ok (c.fact 75 (f := .mkr "Gathering") rfl), ok_ginit f27 B T2 TG, (f27.binds fun _ _ _ _ _ _ us hl => match us, hl with | [_, _], _ => rfl)⟩
  have h_place_of : HasM P w K mg base (He.ga K "Gathering") "place_of" 2 ["self", "key"] (spGPlace (He.ga K "Land") (He.ga K "Gathering")) := ⟨_, fd28, ok_gplace f28 B TG h_key_of, He.meth_ok (c.fact 30 (f := .meth "Gathering" "place_of") rfl), f28.binds fun _ _ _ _ _ _ us hl => match us, hl with | [_, _], _ => rfl⟩
  have h_put : HasP P w K mg base (He.ga K "Land") (He.ga K "Gathering") := ⟨_, fd29, ok_put f29 B B2 T TG h_check_name h_check_word h_check_age h_check_sure h_place_of, He.meth_ok (c.fact 31 (f := .meth "Gathering" "put") rfl), f29⟩
  have h_tellings : HasTl P w K mg base (He.ga K "Land") (He.ga K "Gathering") := ⟨_, fd30, ok_tell f30 B TG, He.meth_ok (c.fact 32 (f := .meth "Gathering" "tellings") rfl), f30⟩
  have h_Gathering__str__ : HasM P w K mg base (He.ga K "Gathering") "__str__" 4 ["self"] (spGStr (He.ga K "Land") (He.ga K "Gathering")) := ⟨_, fd31, ok_gstr f31 B B2 TG h_Land__str__ h_telling_row, He.meth_ok (c.fact 33 (f := .meth "Gathering" "__str__") rfl), f31.binds fun _ _ _ _ _ _ us hl => match us, hl with | [_], _ => rfl⟩
  have h_check_gathering : Has P w K mg base "check_gathering" 1 ["thing"] (spCheckG (He.ga K "Land") (He.ga K "Gathering")) := ⟨_, fd32, ok_checkg f32 B TG insD, He.glo_ok X G (c.fact 34 (f := .glo "check_gathering") rfl), f32.kp, f32.binds fun _ _ _ _ _ _ us hl => match us, hl with | [_], _ => rfl⟩
  have hX_check_gathering : HasX P w K mg base "check_gathering" 1 ["thing"] (spCheckGX K (He.ga K "Land") (He.ga K "Gathering") (He.ga K "NoGathering")) := ⟨_, fd32, FnOk_xor (ok_checkg f32 B TG insD) (ok_checkgR f32 B TG TN), (He.glo_ok X G (c.fact 34 (f := .glo "check_gathering") rfl)), f32.kp, (f32.binds fun _ _ _ _ _ _ us hl => match us, hl with | [_], _ => rfl)⟩
  have h_tellings_of_two : Has P w K mg base "tellings_of_two" 7 ["gathering", "thing", "one", "other", "changes"] (spTwo (He.ga K "Land") (He.ga K "Gathering")) := ⟨_, fd33, ok_two f33 TG h_check_gathering h_check_word h_checked_changes h_are_one h_tellings, He.glo_ok X G (c.fact 35 (f := .glo "tellings_of_two") rfl), f33.kp, f33.binds fun _ _ _ _ _ _ us hl => match us, hl with | [_, _, _, _, _], _ => rfl⟩
  have hX_tellings_of_two : HasX P w K mg base "tellings_of_two" 7 ["gathering", "thing", "one", "other", "changes"] (spTwoX K (He.ga K "Land") (He.ga K "Gathering") (He.ga K "NoGathering") (He.ga K "NoWord") (He.ga K "NoChanges")) := ⟨_, fd33, FnOk_xor (ok_two f33 TG h_check_gathering h_check_word h_checked_changes h_are_one h_tellings) (ok_twoR f33 TNoWord hX_check_gathering hX_check_word hX_checked_changes h_are_one), (He.glo_ok X G (c.fact 35 (f := .glo "tellings_of_two") rfl)), f33.kp, (f33.binds fun _ _ _ _ _ _ us hl => match us, hl with | [_, _, _, _, _], _ => rfl)⟩
  have h_in_both : Has P w K mg base "in_both" 1 ["ones", "others"] spBothP := ⟨_, fd34, ok_bothp f34 B, He.glo_ok X G (c.fact 36 (f := .glo "in_both") rfl), f34.kp, f34.binds fun _ _ _ _ _ _ us hl => match us, hl with | [_, _], _ => rfl⟩
  have hX_habit : HasHbX P w K mg base (He.ga K "Land") (He.ga K "Gathering") (He.ga K "NoGathering") (He.ga K "NoWord") (He.ga K "NoChanges") := ⟨_, fd35, FnOk_xor (ok_habit f35 B h_tellings_of_two h_in_both) (ok_habitR f35 hX_tellings_of_two), (He.glo_ok X G (c.fact 37 (f := .glo "habit") rfl)), f35⟩
  have h__law_cell : Has P w K mg base "_law_cell" 1 ["_law_script", "_law_k"] (spCell K) := ⟨_, fd36, ok_cell f36 B, He.glo_ok X G (c.fact 38 (f := .glo "_law_cell") rfl), f36.kp, f36.binds fun _ _ _ _ _ _ us hl => match us, hl with | [_, _], _ => rfl⟩
  have h__law_purse : Has P w K mg base "_law_purse" 1 ["_law_cell_here"] spPurse := ⟨_, fd37, ok_purse f37 B, He.glo_ok X G (c.fact 39 (f := .glo "_law_purse") rfl), f37.kp, f37.binds fun _ _ _ _ _ _ us hl => match us, hl with | [_], _ => rfl⟩
  have h__law_pick : Has P w K mg base "_law_pick" 1 ["_law_purse_here", "_law_count"] spPick := ⟨_, fd38, ok_pick f38, He.glo_ok X G (c.fact 40 (f := .glo "_law_pick") rfl), f38.kp, f38.binds fun _ _ _ _ _ _ us hl => match us, hl with | [_, _], _ => rfl⟩
  have h__law_menu : Has P w K mg base "_law_menu" 1 [] spMenu := ⟨_, fd39, ok_menu f39, He.glo_ok X G (c.fact 41 (f := .glo "_law_menu") rfl), f39.kp, f39.binds fun _ _ _ _ _ _ us hl => match us, hl with | [], _ => rfl⟩
  have h__law_word : Has P w K mg base "_law_word" 2 ["_law_purse_here"] spWord := ⟨_, fd40, ok_word f40 B h__law_pick h__law_menu, He.glo_ok X G (c.fact 42 (f := .glo "_law_word") rfl), f40.kp, f40.binds fun _ _ _ _ _ _ us hl => match us, hl with | [_], _ => rfl⟩
  have h__law_fresh : Has P w K mg base "_law_fresh" 3 ["_law_purse_here", "_law_used"] spFresh := ⟨_, fd41, ok_fresh f41 B h__law_word, He.glo_ok X G (c.fact 43 (f := .glo "_law_fresh") rfl), f41.kp, f41.binds fun _ _ _ _ _ _ us hl => match us, hl with | [_, _], _ => rfl⟩
  have h__law_changes : Has P w K mg base "_law_changes" 2 ["_law_purse_here", "_law_topmost"] spChanges := ⟨_, fd42, ok_changes f42 B h__law_pick, He.glo_ok X G (c.fact 44 (f := .glo "_law_changes") rfl), f42.kp, f42.binds fun _ _ _ _ _ _ us hl => match us, hl with | [_, _], _ => rfl⟩
  have h__law_kin : Has P w K mg base "_law_kin" 1 ["_law_swaps", "_law_letter", "_law_first", "_law_last"] spKin := ⟨_, fd43, ok_kin f43 B, He.glo_ok X G (c.fact 45 (f := .glo "_law_kin") rfl), f43.kp, f43.binds fun _ _ _ _ _ _ us hl => match us, hl with | [_, _, _, _], _ => rfl⟩
  have h__law_meaning : Has P w K mg base "_law_meaning" 2 ["_law_swaps", "_law_sound"] spLMean := ⟨_, fd44, ok_lmean f44 B h__law_kin, He.glo_ok X G (c.fact 46 (f := .glo "_law_meaning") rfl), f44.kp, f44.binds fun _ _ _ _ _ _ us hl => match us, hl with | [_, _], _ => rfl⟩
  have h__law_land : Has P w K mg base "_law_land" 4 ["_law_purse_here", "_law_topmost"] spLand := ⟨_, fd45, ok_land f45 B h__law_pick h__law_fresh, He.glo_ok X G (c.fact 47 (f := .glo "_law_land") rfl), f45.kp, f45.binds fun _ _ _ _ _ _ us hl => match us, hl with | [_, _], _ => rfl⟩
  have h__law_names : Has P w K mg base "_law_names" 1 ["_law_lots"] spNames := ⟨_, fd46, ok_names f46 B, He.glo_ok X G (c.fact 48 (f := .glo "_law_names") rfl), f46.kp, f46.binds fun _ _ _ _ _ _ us hl => match us, hl with | [_], _ => rfl⟩
  have h__law_sort : HasT P w K mg base "_law_sort" 1 ["_law_e"] (spSort K (adK K) (bdK K)) := ⟨_, fd47, ok_sort f47 B SG, He.glo_ok X G (c.fact 49 (f := .glo "_law_sort") rfl), f47.kp, f47.binds fun _ _ _ _ _ _ us hl => match us, hl with | [_], _ => rfl⟩
  have h__law_told : Has P w K mg base "_law_told" 9 ["_law_basket", "_law_matter", "_law_lone", "_law_mate", "_law_shifts", "_law_named"] (spTold K (He.ga K "Land") (He.ga K "Gathering")) := ⟨_, fd48, ok_told f48 B SG TNoWord TNoChanges TN HC SN ENoWord.1 ENoChanges.1 hX_habit h__law_sort, He.glo_ok X G (c.fact 50 (f := .glo "_law_told") rfl), f48.kp, f48.binds fun _ _ _ _ _ _ us hl => match us, hl with | [_, _, _, _, _, _], _ => rfl⟩
  have h__law_no_word : Has P w K mg base "_law_no_word" 2 ["_law_purse_here", "_law_said"] (spNoW K) := ⟨_, fd49, ok_now f49 h__law_pick, He.glo_ok X G (c.fact 51 (f := .glo "_law_no_word") rfl), f49.kp, f49.binds fun _ _ _ _ _ _ us hl => match us, hl with | [_, _], _ => rfl⟩
  have h__law_no_changes : Has P w K mg base "_law_no_changes" 2 ["_law_purse_here"] spNoC := ⟨_, fd50, ok_noc f50 h__law_pick, He.glo_ok X G (c.fact 52 (f := .glo "_law_no_changes") rfl), f50.kp, f50.binds fun _ _ _ _ _ _ us hl => match us, hl with | [_], _ => rfl⟩
  have h__law_due : Has P w K mg base "_law_due" 1 ["_law_basket", "_law_things", "_law_bad", "_law_place", "_law_alike"] spDue := ⟨_, fd51, ok_due f51 B, He.glo_ok X G (c.fact 53 (f := .glo "_law_due") rfl), f51.kp, f51.binds fun _ _ _ _ _ _ us hl => match us, hl with | [_, _, _, _, _], _ => rfl⟩
  have h__law_right : HasQ P w K mg base "_law_right" 10 ["_law_purse_here", "_law_basket", "_law_lots"] (spRight (He.ga K "Land") (He.ga K "Gathering")) := ⟨_, fd52, ok_right f52 B hrepr KN T2.ins T TG h_Land__init__ h_tellings h__law_pick h__law_changes h__law_word h__law_kin h__law_meaning h__law_no_changes h__law_no_word h__law_told h__law_due, He.glo_ok X G (c.fact 54 (f := .glo "_law_right") rfl), f52.kp, f52.binds fun _ _ _ _ _ _ us hl => match us, hl with | [_, _, _], _ => rfl⟩
  exact ok_law f53 B T TG h_Land__init__ h_Gathering__init__ h_put h_Gathering__str__ h__law_cell h__law_purse h__law_land h__law_names h__law_right
end Wl

namespace Wl
open PySem PySem.Spec PyProof.Rows L2
noncomputable abbrev atEnd (w : World) (os : OsState) : Option PySem.W.SharedT := HandSHeadRun.endF (HandSHeadRun.stepQ (HandSHeadRun.denQ HandSHeadRun.tabQ) R.prog w) 12000 R.prog w os
theorem runA (w : World) (os : OsState) : (atEnd w os).map (fun s => (HandSHeadRun.looksF R.prog (PySem.W.boot_heap w.params) s.abs, HandSHeadRun.seenQ (PySem.W.view R.prog [86]) others (importedModules R.prog.main.body) (fun s => PySem.W.xlAt (PySem.W.view R.prog [86]) [] s && PySem.W.recOk R.toRowW.records s) s.abs)) = some (true, PySem.W.openGood (PySem.W.view R.prog [86]) others) := by
  kernel_rfl
theorem runB (w : World) (os : OsState) : (atEnd w os).map ob = some (He.valD fn, true) := by
  kernel_rfl
theorem run (w : World) : HandSHeadRun.RunEq R (PySem.W.view R.prog [86]) hk ob 12000 others w := fun os => map3 (runA w os) (runB w os)
end Wl

open PySem PySem.W PySem.Calls PyProof.Rows
theorem PySem.Challenge.cw_wordlines_k37_habits_refused_holds : PySem.Challenge.rw_wordlines_k37_habits_refused.Holds := by
  w_on; o_law
  refine HandSHeadRun.head_any (r := OpenLaw.row PySem.Challenge.rw_wordlines_k37_habits_refused) (q := view (OpenLaw.row PySem.Challenge.rw_wordlines_k37_habits_refused).prog [86]) (H := Wl.hk) (ob := Wl.ob) (M := 12000) (loose := Wl.others) (d := HandSHeadRun.topDef (OpenLaw.row PySem.Challenge.rw_wordlines_k37_habits_refused).prog 86) (kwd := []) Wl.ob_eq
    (by kernel_rfl) (fun s => by kernel_rfl) Wl.run (by kernel_rfl) (by kernel_rfl) (by kernel_rfl) (by rfl) (by first | assumption | decide +kernel) (by decide +kernel) ⟨rfl, rfl, rfl, rfl, rfl, by decide +kernel⟩ ?hw ?hc
  case hw => w_witness2
  case hc =>
    refine Wl.walk_ofG (l := PySem.Challenge.rw_wordlines_k37_habits_refused) (n := 63) (k := 11) (x := "_law_script") rfl (by decide) (by kernel_rfl) ⟨rfl, by decide, by decide⟩ ?F
    intro w mg fa h Y G hmg0
    obtain ⟨K, KX, c, cx⟩ := Y
    have hmg : mg ("law" : PySem.Str) = some (.ref fa) := by
      have e : (HandSHeadRun.topDef (OpenLaw.row PySem.Challenge.rw_wordlines_k37_habits_refused).prog 86).name = ("law" : PySem.Str) := by kernel_rfl
      rw [← e]
      exact hmg0
    obtain ⟨fd, hb, hF⟩ := Wl.facts (P := (PySem.Challenge.rw_wordlines_k37_habits_refused).prog) (w := w) KX G hmg c cx
    exact ⟨K, fd, Wl.spLaw K, KX, hb, fun H a ns hl _ hS => ⟨a, ns, rfl, hS, hl, fun _ => rfl⟩, hF⟩

