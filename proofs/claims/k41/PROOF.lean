import PyProof.Rows.All
import Wide.All
import OpenK.AllK
import Wide.FinOn
import HandS.ForMost
import HandS.Defaults
import HandS.MakeKwOnly
import HandS.Conv
import HandS.IsInst
import HandS.Walk
import HandS.Flow
import KE.SortData
import KE.DataMinMax
import KE.GoesMore
import HandS.Replace
import HandS.DictComp
import HandS.MakeKw
import HandS.Style
import HandS.OwnEq
import KE.KCallOwn
import KE.KFmtOwn
import HandS.Codes
import HandS.FStr
import HandS.Strs
import HandS.SetFor
import HandS.SetTxt0
import HandS.SetBool
import HandS.More
import HandS.TupSets
import HandS.Iter
import HandS.TupAny
import HandS.Deep
import KE.KExcIs
import HandS.HotCalls
import HandS.ExcField
import KE.KExcInit
import HandS.Ends
import HandS.Words
import HandS.Comp
import HandS.WordsExc
import PyProof.EqAt
import HandS.List
import HandS.Head0
import HandS.HeadHook1
import HandS.HeadHook2
import HandS.HeadNt
import PyProof.ReprRoads
import PyProof.Rows.RegFStrParts
import HandS.JoinGen
import HandS.HeadEnd
import KE.KEqNest
import HandS.TupMul
import HandS.TryOnly
import KE.KStateDown
import Lean
import HandS.Head1
import HandS.Head2
import PySem.Challenge.RW_wordlines_k41_near_refused
set_option Elab.async false
set_option linter.all false
set_option maxRecDepth 100000
set_option maxHeartbeats 0
/-! Rules of ours beside the layer: sorted of data, min and max of two texts, in of nested tuples, methods by keyword, enumerate of a tuple. -/
namespace Wl
open PySem PySem.Spec PyProof.Rows L2

/-! sorted(list of data) -/
def rSortD (K : PySem.W.Frag) : List V → Hp → VK → Prop := fun vs H Q =>
  ∃ (a : Addr) (bs : List (V × PyData)), vs = [V.ref a] ∧ SqL K H a (bs.map (·.1)) ∧ (∀ b ∈ bs, Dp K H b.1 b.2) ∧
    PySem.W.AllAlike (bs.map (·.2)) ∧ PySem.W.Sortable (bs.map (·.2)) ∧ (∀ b ∈ bs, b.2.depth ≤ 8) ∧
    ∀ p, H p = none → Q (.ref p) (upd H p (.lst ((bs.mergeSort (PySem.W.dataLe false (·.2))).map (·.1))))
theorem each_of_vals : ∀ {bs : List (V × PyData)} {its : List Value}, Vals (bs.map (·.1)) its → PySem.W.EachIs (fun u b => RelV b.1 u) its bs
  | [], [], _ => .nil
  | [], _ :: _, h => nomatch h
  | _ :: _, [], h => nomatch h
  | b :: bs, u :: us, h => by
    cases h with
    | cons r t => exact .cons r (each_of_vals t)
theorem vals_of_each : ∀ {bs : List (V × PyData)} {its : List Value}, PySem.W.EachIs (fun u b => RelV b.1 u) its bs → Vals (bs.map (·.1)) its
  | _, _, .nil => .nil
  | _, _, .cons r t => .cons r (vals_of_each t)
theorem each_reads {X : Cx} {pins : List (Addr × Obj)} {σ : L2.St} {H : Hp} {s : Shared} (I : Inv X pins σ H s) :
    ∀ {bs : List (V × PyData)} {its : List Value}, (∀ b ∈ bs, Dp X.K H b.1 b.2) → PySem.W.EachIs (fun u b => RelV b.1 u) its bs →
      PySem.W.EachIs (fun v b => ∃ as, Reads s.heap v b.2 as) its bs
  | _, _, _, .nil => .nil
  | _, _, hd, .cons r t => .cons (Dp.reads I _ _ _ (hd _ List.mem_cons_self) r) (each_reads I (fun b m => hd b (List.mem_cons_of_mem _ m)) t)
theorem cr_sortD {X : Cx} (hu : X.A.units + 64 < cLine) : CallR X (.builtin "sorted") (rSortD X.K) := by
  intro pins s σ H vs us Q I r h
  obtain ⟨a, bs, rfl, hs, hd, ha, hk, hz, q⟩ := h
  obtain ⟨its, rv, hl, hn⟩ := I.list hs
  obtain ⟨u, rfl, ru⟩ := vals1 r
  obtain rfl : u = Value.ref a := ru
  have e := each_of_vals rv
  have hbn : bs.length ≤ sizeLine := by
    rw [List.length_map] at hn
    exact hn
  refine PySem.W.sorted_data (R := fun u b => RelV b.1 u) (enc := (·.2)) hl.isList e (each_reads I hd e) ha hk hbn (fun b hb => ?_) fun out ho eo => ?_
  · have := hz b hb
    omega
  · have rv2 := vals_of_each eo
    obtain ⟨n, hn2⟩ := sortedAll_at s.heap its out.toArray
    have hlen : ((bs.mergeSort (PySem.W.dataLe false (·.2))).map (·.1)).length ≤ sizeLine := by
      rw [List.length_map, List.length_mergeSort]
      exact hbn
    exact ⟨.ref (s.heap.objs.size + 1), _, I.laid (t' := s.toks) (o := .lst ((bs.mergeSort (PySem.W.dataLe false (·.2))).map (·.1))) (fun b o e => sortedAll_old e) (Nat.le_succ _) ⟨hlen, out, n, rv2, hn2⟩, rfl, q _ (I.hok.fresh (Nat.le_succ _))⟩

/-! min, max of a tuple of two texts -/
def rTwo (K : PySem.W.Frag) (f : Str → Str → Str) : List V → Hp → VK → Prop := fun vs H Q =>
  ∃ (a : Addr) (x y : Str), vs = [V.ref a] ∧ SqT K H a [.str x, .str y] ∧ Q (.str (f x y)) H
def lessOf (x y : Str) : Str := if y.cps.toList < x.cps.toList then y else x
def moreOf (x y : Str) : Str := if x.cps.toList < y.cps.toList then y else x
theorem alike2 (x y : Str) : PySem.W.AlikeAll [PyData.str x, .str y] := by
  refine ⟨fun a ha b hb => ?_, fun a ha => ?_⟩
  · simp only [List.mem_cons, List.not_mem_nil, or_false] at ha hb
    rcases ha with rfl | rfl <;> rcases hb with rfl | rfl <;> rfl
  · simp only [List.mem_cons, List.not_mem_nil, or_false] at ha
    rcases ha with rfl | rfl <;> exact fun z => by cases z
theorem dp2 {K : PySem.W.Frag} {H : Hp} (x y : Str) : DpAll K H [.str x, .str y] [PyData.str x, .str y] := .cons (.str x) (.cons (.str y) .nil)
theorem cr_minT {X : Cx} (hc : X.calm = true) (hu : X.A.units + 64 < cLine) : CallR X (.builtin "min") (rTwo X.K lessOf) := by
  intro pins s σ H vs us Q I r h
  obtain ⟨a, x, y, rfl, hs, q⟩ := h
  obtain ⟨its, rv, hl, hn⟩ := I.tuple hs
  obtain ⟨u, rfl, ru⟩ := vals1 r
  obtain rfl : u = Value.ref a := ru
  obtain ⟨as, hr⟩ := Dp.readsAll I _ _ its (dp2 x y) rv
  refine PySem.W.min_tuple_data (I.ok.hd hc) (show s.heap.IsTuple a its.toArray from hl) (by simpa using hr) (alike2 x y) (by
    have : PyData.depthAll [PyData.str x, .str y] = 0 := rfl
    omega) fun i v h' tk bs hv hR hk => ?_
  have e : PySem.W.minD (.str x) [.str y] = .str (lessOf x y) := by
    unfold PySem.W.minD lessOf
    simp only [List.foldl_cons, List.foldl_nil, PySem.W.dataLt_str]
    by_cases c : y.cps.toList < x.cps.toList <;> simp [c]
  rw [e] at hR
  cases hR with
  | str z t => exact ⟨.str _, H, I.kept (t' := tk) hk, ⟨_, rfl⟩, q⟩
theorem cr_maxT {X : Cx} (hc : X.calm = true) (hu : X.A.units + 64 < cLine) : CallR X (.builtin "max") (rTwo X.K moreOf) := by
  intro pins s σ H vs us Q I r h
  obtain ⟨a, x, y, rfl, hs, q⟩ := h
  obtain ⟨its, rv, hl, hn⟩ := I.tuple hs
  obtain ⟨u, rfl, ru⟩ := vals1 r
  obtain rfl : u = Value.ref a := ru
  obtain ⟨as, hr⟩ := Dp.readsAll I _ _ its (dp2 x y) rv
  refine PySem.W.max_tuple_data (I.ok.hd hc) (show s.heap.IsTuple a its.toArray from hl) (by simpa using hr) (alike2 x y) (by
    have : PyData.depthAll [PyData.str x, .str y] = 0 := rfl
    omega) fun i v h' tk bs hv hR hk => ?_
  have e : PySem.W.maxD (.str x) [.str y] = .str (moreOf x y) := by
    unfold PySem.W.maxD moreOf
    simp only [List.foldl_cons, List.foldl_nil, PySem.W.dataLt_str]
    by_cases c : x.cps.toList < y.cps.toList <;> simp [c]
  rw [e] at hR
  cases hR with
  | str z t => exact ⟨.str _, H, I.kept (t' := tk) hk, ⟨_, rfl⟩, q⟩

/-! x in a tuple of data -/
def rInDT (K : PySem.W.Frag) : R2 := fun x y H Q => ∃ d ds, Dp K H x d ∧ Dp K H y (.tuple ds) ∧ SeqAt.shaped d = true ∧
  SeqAt.shaped (.tuple ds) = true ∧ Q (.bl (ds.any fun z => PyData.eqv z d)) H
theorem op_inDT {X : Cx} (hu : X.A.units + 65 < cLine) : OpR X (compareOp .In) (rInDT X.K) := by
  intro pins s σ H x y v u Q I rx ry h
  obtain ⟨d, ds, hd, he, sd, se, q⟩ := h
  obtain ⟨as, r1⟩ := Dp.reads I d x v hd rx
  obtain ⟨bs, r2⟩ := Dp.reads I (.tuple ds) y u he ry
  exact SeqAt.in_tuple_reads r2 r1 (SeqAt.canLay_of_shaped se) (SeqAt.canLay_of_shaped sd) (room_in_shaped sd hu) ⟨.bl _, H, I, rfl, q⟩

/-! o.m(k = e): one argument by its name -/
def g2 {α : Type} : List α → List α → List α
  | [a], [b] => [a, b]
  | _, _ => []
theorem g2_rel : ∀ {vs : List V} {us : List Value} {zs : List V} {ws : List Value}, Vals vs us → Vals zs ws → Vals (g2 vs zs) (g2 us ws)
  | _, _, _, _, .nil, _ => .nil
  | _, _, _, _, .cons a (.cons b c), _ => .nil
  | _, _, _, _, .cons a .nil, .nil => .nil
  | _, _, _, _, .cons a .nil, .cons b .nil => .cons a (.cons b .nil)
  | _, _, _, _, .cons a .nil, .cons b (.cons c d) => .nil
def tMethK (C : Addr) (m : Str) (sp : Sp) (E : XK) (ta : TE) (tk : TA) : TE := fun σ H Q => ta σ H fun x H1 =>
  ∃ a dx fs, x = .ref a ∧ H1 a = some (.ins C dx fs) ∧ fs.lookup m = none ∧ tk σ H1 fun zs H2 => sp (g2 [.ref a] zs) H2 Q E
theorem pe_methK {X : Cx} {CX : CXT} {k : Nat} {f C : Addr} {fd : FuncData} {ps ks : List Str} {sp : Sp} {E : XK} {m : Str} {pos apos : Pos} {o : Expr} {kws : List Keyword} {ta : TE} {tk : TA} {pl : Sem Bool}
    (he : PE X o ta) (c : Cls X.K C) (hm : Meth X.K C m f) (F : FnOk X.prog X.w X.K X.mg X.base CX k f fd ps sp) (hr : Room k X.A) (hb : KBinds X.K fd ps ks g2 g2) (hx : Passes CX X E) (hkw : PK X kws tk)
    (hall : (backToKw pos (keywordEach kws X.env)).all (·.1.isSome) = true := by rfl) (hks : (backToKw pos (keywordEach kws X.env)).filterMap (·.1) = ks := by rfl)
    (hpl : ((backTo pos (starEach [] X.env)).any (·.1) || (backToKw pos (keywordEach kws X.env)).any (·.1.isNone)) = false := by rfl)
    (ht : eval (.Call (.Attribute o m apos) [] kws pos) X.env = (do
      let ov ← eval o X.env
      standAt apos.atName
      let (f, first) ← holding [ov] (getMethod ov m pl)
      callWith pos f first (backTo pos (starEach [] X.env)) (backToKw pos (keywordEach kws X.env))) := by rfl) :
    PE X (.Call (.Attribute o m apos) [] kws pos) (tMethK C m sp E ta tk) := by
  refine ⟨fun pins s σ H Q I h => ?_⟩
  refine PySem.W.methodCall_KW (pl := pl) (thn (he.run pins s σ H _ I h) fun u s1 ⟨x, H1, I1, rx, a, dx, fs, ex, ea, l, q⟩ => ?_) ht
  subst ex
  obtain rfl : u = Value.ref a := rx
  refine getmeth_ok I1 ea c hm l ?_
  refine PySem.W.callWith_KW0 (first := [.ref a]) (h₀ := X.base) I.ok.mod.kin hm.kp hall (thn (hkw.run pos pins s1 σ H1 _ I1 q) fun ws s2 ⟨zs, H2, I2, rz, q2⟩ => ⟨I2.kIn, ?_⟩) hpl
  rw [hks]
  exact run_fnk (us := [.ref a]) (vs := [.ref a]) F hr hb hx I2 (.cons rfl .nil) rz q2

/-! enumerate(a tuple) -/
open AutoSeq1 (wpAny_loadPart') in
theorem new_enumT (l : Addr) (items : Array Value) (n : Nat) (dct : Option Addr) (sl : Array (Option Value)) :
    Meets (Builtin.«enumerate.__new__» ⟨[.type "enumerate", .ref l], []⟩) (fun _ R s =>
      s.heap.get? l = some { cls := .type "tuple", dict := dct, data := .seq items n, slots := sl } ∧
      R (.ok (.ret (.ref (s.heap.push { cls := .type "tuple_iterator", data := .fields #[.ref l, .int 0 0] }).objs.size)))
        { s with heap := (s.heap.push { cls := .type "tuple_iterator", data := .fields #[.ref l, .int 0 0] }).push { cls := .type "enumerate", data := .fields #[.none, .bool false, .ref s.heap.objs.size, rawInt 0, .none, .none] } }) :=
  .of_wp fun prog w A R s h => by
    obtain ⟨hp, g, d, tk, os⟩ := s
    obtain ⟨hl, h⟩ := h
    have hsub := sub_enumerate
    have hT : Heap.IsTuple (Shared.heap ⟨hp, g, d, tk, os⟩) l items := ⟨_, hl, rfl, n, rfl⟩
    wp_walk using wpAny_loadPart' hl
    refine wpAny_stack_any fun st => wpAny_pure ?_
    split
    · rename_i c _ _ _ _ _
      cases (c == Value.type "enumerate") <;> (wp_walk using wpAny_loadPart' hl, wpAny_pyIter_tuple hT; exact ⟨_, rfl, h⟩)
    · (wp_walk using wpAny_loadPart' hl, wpAny_pyIter_tuple hT); exact ⟨_, rfl, h⟩
section
variable {prog : Program} {w : World} {A : Around} {E : Value → Shared → Prop} {s : Shared}
theorem make_enumT {l : Addr} {items : Array Value} {Q : Value → Shared → Prop} (hL : s.heap.IsTuple l items)
    (h : ∀ h', IsEnum h' (s.heap.objs.size + 1) s.heap.objs.size 0 .none → h'.IsTupleIter s.heap.objs.size l 0 →
      (∀ b o, s.heap.get? b = some o → h'.get? b = some o) → Q (.ref (s.heap.objs.size + 1)) { s with heap := h' }) :
    wpAny (model prog w) A (call (.type "enumerate") [.ref l]) Q E s := by
  obtain ⟨⟨c, dct, dt, sl⟩, hl, hc, n, hd⟩ := hL
  obtain rfl : c = .type "tuple" := hc
  obtain rfl : dt = .seq items n := hd
  refine callType_new F.called_enumerate (by decide) (F.typeCall_enumerate_1 _) (F.newCall_enumerate_1 _) (fun obj => F.args_object_init_2 obj _) F.entry_enumerate_new (new_enumT l items n dct sl) ⟨hl, ?_⟩
  have hz : (s.heap.push { cls := .type "tuple_iterator", data := .fields #[.ref l, .int 0 0] }).objs.size = s.heap.objs.size + 1 := Heap.size_push ..
  rw [hz]
  have he : IsEnum ((s.heap.push { cls := .type "tuple_iterator", data := .fields #[.ref l, .int 0 0] }).push { cls := .type "enumerate", data := .fields #[.none, .bool false, .ref s.heap.objs.size, rawInt 0, .none, .none] })
      (s.heap.objs.size + 1) s.heap.objs.size 0 .none := hz ▸ Heap.get?_push_size (s.heap.push { cls := .type "tuple_iterator", data := .fields #[.ref l, .int 0 0] }) rfl
  exact ⟨⟨_, he, rfl⟩, h _ he ⟨_, Heap.get?_push_of_some _ (Heap.get?_push_size _ rfl), rfl, rfl⟩ fun b o x => Heap.get?_push_of_some _ (Heap.get?_push_of_some _ x)⟩
end
def IteT (K : PySem.W.Frag) (a : Addr) : It where
  go := fun i H => ∃ (xs : List V) (x : V), SqT K H a xs ∧ xs[i]? = some x
  yld := fun i H v H' => ∃ T x, v = .ref T ∧ H T = none ∧ H' = upd H T (.tup [.int (i : Nat), x]) ∧ ∀ xs, SqT K H a xs → xs[i]? = some x
  stop := fun i H => ∃ xs : List V, SqT K H a xs ∧ xs.length ≤ i
theorem apart_of {h : Heap} {a b : Addr} {o u : Obj} (ha : h.get? a = some o) (hb : h.get? b = some u) (hc : o.cls ≠ u.cls) : a ≠ b := fun e => by
  subst e
  rw [ha] at hb
  exact hc (congrArg Obj.cls (Option.some.inj hb))
theorem turn_enumT {P : Program} {w : World} {K : PySem.W.Frag} {elts : List Expr} {kk : Nat} {tpos : Pos} (a e it : Addr) :
    Turn P w K (.Tuple elts kk tpos) (IteT K a) [e, it] e (fun i h => (∃ old, IsEnum h e it ((i : Nat) : Int) old) ∧ h.IsTupleIter it a i ∧ e ≠ it) where
  mem := by simp
  obj := fun i h st b hb => by
    obtain ⟨⟨old, he⟩, ⟨o, ho, hc, hd⟩, _⟩ := st
    rcases (show b = e ∨ b = it by simpa using hb) with z | z
    · subst z; exact ⟨_, he, fun v q => nomatch q⟩
    · subst z; exact ⟨o, ho, fun v q => by rw [hd] at q; cases q⟩
  keep := fun i h h' st k => let ⟨⟨old, he⟩, hi, hne⟩ := st; ⟨⟨old, k e (by simp) _ he⟩, hi.at fun o q => k it (by simp) o q, hne⟩
  item := by
    intro X hP hw hK hc i pins s σ H E I hf st hg
    subst hP hw hK
    obtain ⟨⟨old, he⟩, hit, hne⟩ := st
    obtain ⟨xs, x, hq, hx⟩ := hg
    obtain ⟨its, rv, p, hz⟩ := I.tuple hq
    obtain ⟨u, hu, ru⟩ := rv.get hx
    have hT : s.heap.IsTuple a its.toArray := p
    obtain ⟨oi, hoi, hci, _⟩ := id hit
    obtain ⟨oa, hoa, hca, _⟩ := id hT
    have hel : e < s.heap.objs.size := Heap.lt_size he
    have hil : it < s.heap.objs.size := Heap.lt_size hoi
    have nai : a ≠ it := apart_of hoa hoi (by rw [hca, hci]; decide)
    have nea : e ≠ a := apart_of he hoa (by rw [hca]; show Value.type "enumerate" ≠ Value.type "tuple"; decide)
    have hi : i < its.toArray.size := by
      have := (List.getElem?_eq_some_iff.mp hu).1
      simpa using this
    refine wpAny_pyNext_enum_itemD (Draws.tuple (prog := X.prog) (w := X.w) (A := X.A.in1) (I.ok.hd hc) it a nai its.toArray) he ⟨hit, hT⟩ hi hne (by simp [hne, nea]) fun y h' tk hy ho hst hTp hsz hk => ?_
    obtain rfl : u = y := by
      have q : its.toArray[i]? = some u := by simpa using hu
      exact Option.some.inj (q.symm.trans hy)
    refine ⟨_, rfl, wpAny_letOwnedTupleGo_enum (s := { s with heap := h', toks := tk + 1 }) ho fun h'' he' sb => ?_⟩
    have hT2 : h''.get? s.heap.objs.size = some { cls := .type "tuple", data := .seq #[.int i tk, u] } := (sb.2 _ (Nat.ne_of_gt hel)).trans hTp
    have new : ObjOk X.prog X.w (upd H s.heap.objs.size (.tup [.int (i : Nat), x])) h'' s.heap.objs.size (.tup [.int (i : Nat), x]) :=
      ⟨by show 2 ≤ sizeLine; decide, [.int i tk, u], .cons ⟨_, rfl⟩ (.cons ru .nil), ⟨_, hT2, rfl, _, rfl⟩⟩
    have I1 : L2.Inv X pins σ (upd H s.heap.objs.size (.tup [.int (i : Nat), x])) { s with heap := h'', toks := tk + 1 } :=
      I.turnedNew (ch := [e, it]) (fun b ob hb q => by
        simp only [List.mem_cons, List.not_mem_nil, or_false, not_or] at hb
        exact (sb.2 b hb.1).trans (hk b ob hb.1 hb.2 q)) hf (Nat.le_refl _) new
    have e1 : ((i + 1 : Nat) : Int) = (i : Int) + 1 := by omega
    refine ⟨.ref s.heap.objs.size, _, I1, rfl, ⟨_, x, rfl, I.hok.fresh (Nat.le_refl _), rfl, fun ys hy => by rw [I.tuple_inj hy hq]; exact hx⟩,
      ⟨⟨u, by rw [e1]; exact he'⟩, hst.1.at fun o q => (sb.2 it (Ne.symm hne)).trans q, hne⟩, fun b hb => ?_⟩
    have hb' : b < s.heap.objs.size := by
      rcases (show b = e ∨ b = it by simpa using hb) with z | z <;> subst z <;> assumption
    rw [upd_ne (Nat.ne_of_lt hb')]
    exact (hf b hb).1
  done := by
    intro X hP hw hK hc i pins s σ H E I hf st hg
    subst hP hw hK
    obtain ⟨⟨old, he⟩, hit, hne⟩ := st
    obtain ⟨xs, hq, hx⟩ := hg
    obtain ⟨its, rv, p, hz⟩ := I.tuple hq
    obtain ⟨f0, f1, f2, f3, f4, f5⟩ := hf it (by simp)
    have hT : s.heap.IsTuple a its.toArray := p
    have hl : xs.length = its.length := rv.length
    have hT2 : ¬ (i < its.toArray.size) := by simp; omega
    show wpAny _ _ (pyNext (.ref e)) _ _ s
    have hTy : s.TypeIs (.ref e) "enumerate" := ⟨_, he, rfl⟩
    unfold pyNext
    refine wpAny_bind (wpAny_attempt (wpAny_callSpecial?_slot (name := Str.ofString "__next__") hTy F.slot_enumerate_next (wpAny_call_entry F.slot_enumerate_next hTy F.entry_enumerate_next ?_ (F.args_enumerate_next_1 _))))
    show wpAny _ _ (field (.ref e) 2 >>= _) _ _ _
    refine wpAny_bind (wpAny_field he rfl (x := .ref it) rfl (wpAny_bind (wpAny_nextOf_tuple_end (I.ok.hd hc) hit hT (Array.getElem?_eq_none (by omega)) fun h' x he' hx' => ?_)))
    obtain ⟨o, ho, hcc⟩ := hx'
    exact wpAny_bind (wpAny_isInstance (T := "StopIteration") (b := true) ⟨o, ho, hcc⟩ isSubtype_stop (wpAny_pure ⟨rfl, I.turned (t' := s.toks) (fun b o hb q => he' b o hb q) f0 f1 f3 f4 f5⟩))
  self := fun A i s Q E st h => let ⟨⟨_, he⟩, _⟩ := st; wpAny_pyIter_enum he h
def iEnumT (K : PySem.W.Frag) (ta : TA) : TI := fun σ H R => ta σ H fun vs H1 => ∃ a xs, vs = [.ref a] ∧ SqT K H1 a xs ∧ R (IteT K a) H1
theorem pi_enumT {X : Cx} {e : Expr} {ta : TA} {p pos tpos : Pos} {elts : List Expr} {kk : Nat} (hg : Gl X "enumerate") (hm : X.mg "enumerate" = none) (ha : PA X [e] ta) (hs : starEach [e] X.env = [(false, eval e X.env)] := by rfl) :
    PI X (.Tuple elts kk tpos) (.Call (.Name "enumerate" p) [e] [] pos) (iEnumT X.K ta) := by
  refine ⟨fun pins s σ H R I h => ?_⟩
  refine Call_ (ld_blt I hg hm boot_enumerate (PyProof.Rows.callWith_type1 (thn (ha.run pos pins s σ H _ I h) fun us s1 ⟨vs, H1, I1, r1, q1⟩ => ?_) hs rfl))
  obtain ⟨a, xs, rfl, hq, q⟩ := q1
  obtain ⟨u, rfl, ru⟩ := vals1 r1
  obtain rfl : u = Value.ref a := ru
  obtain ⟨its, rv, p', hz⟩ := I1.tuple hq
  refine make_enumT (show s1.heap.IsTuple a its.toArray from p') fun h' he hit hk => wpAny_pyIter_enum he ?_
  refine ⟨s1.heap.objs.size + 1, [s1.heap.objs.size + 1, s1.heap.objs.size], _, _, H1, rfl, I1.kept (t' := s1.toks) hk, turn_enumT a (s1.heap.objs.size + 1) s1.heap.objs.size, ⟨⟨.none, he⟩, hit, Nat.succ_ne_self _⟩, fun b hb => ?_, q⟩
  have hle : s1.heap.objs.size ≤ b := by
    rcases (show b = s1.heap.objs.size + 1 ∨ b = s1.heap.objs.size by simpa using hb) with z | z <;> rw [z]
    · exact Nat.le_add_right _ _
    · exact Nat.le_refl _
  exact I1.fpOk hle (I1.hok.fresh hle)
theorem walk_enumT {K : PySem.W.Frag} {a : Addr} {xs : List V} : Walk (IteT K a) xs.length (fun H => SqT K H a xs) (YPair (fun i => some (.int (i : Nat))) (fun i => xs[i]?)) := by
  refine ⟨fun i _ hi q => ⟨xs, xs[i], q, by simp [hi]⟩, fun _ q => ⟨xs, q, Nat.le_refl _⟩, ?_⟩
  rintro i H v H' _ q ⟨T, x, h1, h2, h3, h4⟩
  exact ⟨T, .int (i : Nat), x, h1, h2, h3, rfl, h4 xs q⟩
end Wl

namespace Wl
open PySem

/-! ### strictly rising lists -/
theorem rising_ext {α : Type} {lt : α → α → Prop} (ir : ∀ a, ¬ lt a a) (tr : ∀ a b c, lt a b → lt b c → lt a c) :
    ∀ {l m : List α}, l.Pairwise lt → m.Pairwise lt → (∀ x, x ∈ l ↔ x ∈ m) → l = m
  | [], [], _, _, _ => rfl
  | [], y :: m, _, _, h => absurd ((h y).mpr List.mem_cons_self) (by simp)
  | x :: l, [], _, _, h => absurd ((h x).mp List.mem_cons_self) (by simp)
  | x :: l, y :: m, hl, hm, h => by
    obtain ⟨hx, hl'⟩ := List.pairwise_cons.mp hl
    obtain ⟨hy, hm'⟩ := List.pairwise_cons.mp hm
    have e : x = y := by
      rcases List.mem_cons.mp ((h x).mp List.mem_cons_self) with e | h1
      · exact e
      · rcases List.mem_cons.mp ((h y).mpr List.mem_cons_self) with e | h2
        · exact e.symm
        · exact absurd (tr _ _ _ (hx y h2) (hy x h1)) (ir x)
    subst e
    have : l = m := rising_ext ir tr hl' hm' fun z => by
      constructor
      · intro hz
        rcases List.mem_cons.mp ((h z).mp (List.mem_cons_of_mem _ hz)) with e | q
        · exact absurd (hx z hz) (by rw [e]; exact ir x)
        · exact q
      · intro hz
        rcases List.mem_cons.mp ((h z).mpr (List.mem_cons_of_mem _ hz)) with e | q
        · exact absurd (hy z hz) (by rw [e]; exact ir x)
        · exact q
    rw [this]

/-! ### texts by their codes -/
theorem str_ext {a b : Str} (h : a.cps.toList = b.cps.toList) : a = b := by
  cases a; cases b
  exact congrArg Str.mk (Array.ext' h)
abbrev ltS (a b : Str) : Prop := a.cps.toList < b.cps.toList
theorem ltS_irr (a : Str) : ¬ ltS a a := List.lt_irrefl _
theorem ltS_tr (a b c : Str) (h : ltS a b) (k : ltS b c) : ltS a c := List.lt_trans h k
theorem ltS_tot {a b : Str} (h : ¬ ltS a b) (k : ¬ ltS b a) : a = b :=
  str_ext (List.le_antisymm (List.not_lt.mp k) (List.not_lt.mp h))
def leB (a b : Str) : Bool := !decide (ltS b a)
theorem leB_trans (a b c : Str) (h : leB a b = true) (k : leB b c = true) : leB a c = true := by
  simp only [leB, Bool.not_eq_true', decide_eq_false_iff_not] at h k ⊢
  exact fun q => by
    by_cases e : ltS a b
    · exact k (ltS_tr _ _ _ q e)
    · have := ltS_tot e h
      subst this
      exact k q
theorem leB_total (a b : Str) : (leB a b || leB b a) = true := by
  simp only [leB, Bool.or_eq_true, Bool.not_eq_true', decide_eq_false_iff_not]
  by_cases h : ltS b a
  · exact .inr fun q => ltS_irr _ (ltS_tr _ _ _ h q)
  · exact .inl h
def sortS (xs : List Str) : List Str := xs.mergeSort leB
theorem mem_sortS {xs : List Str} {z : Str} : z ∈ sortS xs ↔ z ∈ xs := List.mem_mergeSort
theorem sortS_len (xs : List Str) : (sortS xs).length = xs.length := List.length_mergeSort _
theorem sortS_rising {xs : List Str} (h : xs.Nodup) : (sortS xs).Pairwise ltS := by
  have h1 : (sortS xs).Pairwise (fun a b => leB a b = true) := List.pairwise_mergeSort leB_trans leB_total xs
  have h2 : (sortS xs).Pairwise (· ≠ ·) := (List.mergeSort_perm xs leB).nodup_iff.mpr h
  refine List.Pairwise.imp₂ ?_ h1 h2
  intro a b q n
  simp only [leB, Bool.not_eq_true', decide_eq_false_iff_not] at q
  exact Classical.byContradiction fun c => n (ltS_tot c q)
/-- what is strictly rising with the same members is the sorted list -/
theorem sortS_eq {xs l : List Str} (h : xs.Nodup) (hl : l.Pairwise ltS) (hm : ∀ z, z ∈ l ↔ z ∈ xs) : l = sortS xs :=
  rising_ext ltS_irr ltS_tr hl (sortS_rising h) fun z => (hm z).trans mem_sortS.symm

/-! ### pairs of texts -/
abbrev Two := Str × Str
def ltP (p q : Two) : Prop := ltS p.1 q.1 ∨ (p.1 = q.1 ∧ ltS p.2 q.2)
instance (p q : Two) : Decidable (ltP p q) := by unfold ltP; infer_instance
theorem ltP_irr (p : Two) : ¬ ltP p p := by
  rintro (h | ⟨_, h⟩) <;> exact ltS_irr _ h
theorem ltP_tr (p q r : Two) (h : ltP p q) (k : ltP q r) : ltP p r := by
  obtain ⟨p1, p2⟩ := p
  obtain ⟨q1, q2⟩ := q
  obtain ⟨r1, r2⟩ := r
  rcases h with h | ⟨e, h⟩ <;> rcases k with k | ⟨f, k⟩
  · exact .inl (ltS_tr _ _ _ h k)
  · simp only at f; subst f; exact .inl h
  · simp only at e; subst e; exact .inl k
  · simp only at e f; subst e f; exact .inr ⟨rfl, ltS_tr _ _ _ h k⟩
theorem ltP_tot {p q : Two} (h : ¬ ltP p q) (k : ¬ ltP q p) : p = q := by
  obtain ⟨p1, p2⟩ := p
  obtain ⟨q1, q2⟩ := q
  simp only [ltP, not_or, not_and] at h k
  have e : p1 = q1 := ltS_tot h.1 k.1
  subst e
  rw [ltS_tot (h.2 rfl) (k.2 rfl)]
def lePB (a b : Two) : Bool := !decide (ltP b a)
theorem lePB_trans (a b c : Two) (h : lePB a b = true) (k : lePB b c = true) : lePB a c = true := by
  simp only [lePB, Bool.not_eq_true', decide_eq_false_iff_not] at h k ⊢
  exact fun q => by
    by_cases e : ltP a b
    · exact k (ltP_tr _ _ _ q e)
    · have := ltP_tot e h
      subst this
      exact k q
theorem lePB_total (a b : Two) : (lePB a b || lePB b a) = true := by
  simp only [lePB, Bool.or_eq_true, Bool.not_eq_true', decide_eq_false_iff_not]
  by_cases h : ltP b a
  · exact .inr fun q => ltP_irr _ (ltP_tr _ _ _ h q)
  · exact .inl h
def sortP (xs : List Two) : List Two := xs.mergeSort lePB
theorem mem_sortP {xs : List Two} {z : Two} : z ∈ sortP xs ↔ z ∈ xs := List.mem_mergeSort
theorem sortP_len (xs : List Two) : (sortP xs).length = xs.length := List.length_mergeSort _
theorem sortP_rising {xs : List Two} (h : xs.Nodup) : (sortP xs).Pairwise ltP := by
  have h1 : (sortP xs).Pairwise (fun a b => lePB a b = true) := List.pairwise_mergeSort lePB_trans lePB_total xs
  have h2 : (sortP xs).Pairwise (· ≠ ·) := (List.mergeSort_perm xs lePB).nodup_iff.mpr h
  refine List.Pairwise.imp₂ ?_ h1 h2
  intro a b q n
  simp only [lePB, Bool.not_eq_true', decide_eq_false_iff_not] at q
  exact Classical.byContradiction fun c => n (ltP_tot c q)
theorem sortP_eq {xs l : List Two} (h : xs.Nodup) (hl : l.Pairwise ltP) (hm : ∀ z, z ∈ l ↔ z ∈ xs) : l = sortP xs :=
  rising_ext ltP_irr ltP_tr hl (sortP_rising h) fun z => (hm z).trans mem_sortP.symm

/-! ### the machine's order is ours -/
theorem le_data_str (a b : Str) : (!PySem.W.dataLt (.str b) (.str a)) = leB a b := by
  rw [PySem.W.dataLt_str]
  rfl
theorem le_data_two (a b : Two) : (!PySem.W.dataLt (.tuple [.str b.1, .str b.2]) (.tuple [.str a.1, .str a.2])) = lePB a b := by
  rw [PySem.W.dataLt_pair rfl rfl, PySem.W.dataLt_str, PySem.W.dataLt_str]
  unfold lePB
  congr 1
  have q : ∀ x y : Str, (PyData.eqv (.str x) (.str y) = true) = (x = y) := fun x y => by simp [PyData.eqv]
  simp only [q]
  by_cases h : b.1 = a.1
  · by_cases k : b.2 = a.2
    · have e : b = a := Prod.ext h k
      subst e
      simp [ltP_irr]
    · simp only [h, k, if_true, if_false, ltP]
      by_cases z : ltS b.2 a.2
      · simp [z]
      · simp [z, ltS_irr]
  · simp only [h, if_false, ltP]
    by_cases z : ltS b.1 a.1 <;> simp [z, h]
end Wl

namespace Wl
open PySem PySem.Spec PyProof.Rows L2

/-! ### defs that keep promises, by name -/
def Has (P : Program) (w : World) (K : PySem.W.Frag) (mg : Str → Option Value) (base : Heap) (x : Str) (k : Nat) (ps : List Str) (sp : Sp) : Prop :=
  ∃ f fd, FnOk P w K mg base CX0 k f fd ps sp ∧ mg x = some (.ref f) ∧ PySem.W.keepIn K (.ref f) = true ∧ Binds K fd ps []
def HasM (P : Program) (w : World) (K : PySem.W.Frag) (mg : Str → Option Value) (base : Heap) (C : Addr) (m : Str) (k : Nat) (ps : List Str) (sp : Sp) : Prop :=
  ∃ f fd, FnOk P w K mg base CX0 k f fd ps sp ∧ Meth K C m f ∧ Binds K fd ps []
section
variable {X : Cx} {k j : Nat} {C : Addr} {ps ks : List Str} {sp : Sp} {x m : Str} {p pos apos : Pos} {e o : Expr} {es : List Expr} {kws : List Keyword} {ta : TE} {t tk : TA}
theorem pe_h (h : Has X.prog X.w X.K X.mg X.base x k ps sp) (hr : Room j X.A) (ha : PA X (e :: es) t) (hkj : k ≤ j := by decide) (hg : Gl X x := by rfl) (hdb : (x == ("__debug__" : Str)) = false := by decide)
    (he : starEach (e :: es) X.env = (false, eval e X.env) :: starEach es X.env := by rfl) (hpl : (backTo pos (starEach es X.env)).any (·.1) = false := by rfl) :
    PE X (.Call (.Name x p) (e :: es) [] pos) (tCall sp [] E0 t) := by
  obtain ⟨f, fd, F, g, kp, b⟩ := h
  exact pe_call F (hr.mono hkj) hg g kp b .nil pass0 ha hdb he hpl
theorem pe_h0 (h : Has X.prog X.w X.K X.mg X.base x k ps sp) (hr : Room j X.A) (hkj : k ≤ j := by decide) (hg : Gl X x := by rfl) (hdb : (x == ("__debug__" : Str)) = false := by decide) :
    PE X (.Call (.Name x p) [] [] pos) (tCall sp [] E0 tNil) := by
  obtain ⟨f, fd, F, g, kp, b⟩ := h
  exact pe_call0 F (hr.mono hkj) hg g kp b .nil pass0 hdb
theorem pe_hm {pl : Sem Bool} (h : HasM X.prog X.w X.K X.mg X.base C m k ps sp) (c : Cls X.K C) (hr : Room j X.A) (ho : PE X o ta) (ha : PA X (e :: es) t) (hkj : k ≤ j := by decide)
    (hst : starEach (e :: es) X.env = (false, eval e X.env) :: starEach es X.env := by rfl) (hpl : (backTo pos (starEach es X.env)).any (·.1) = false := by rfl)
    (ht : eval (.Call (.Attribute o m apos) (e :: es) [] pos) X.env = (do
      let ov ← eval o X.env
      standAt apos.atName
      let (f, first) ← holding [ov] (getMethod ov m pl)
      callWith pos f first (backTo pos (starEach (e :: es) X.env)) (backToKw pos (keywordEach [] X.env))) := by rfl) :
    PE X (.Call (.Attribute o m apos) (e :: es) [] pos) (tMeth C m sp [] E0 ta t) := by
  obtain ⟨f, fd, F, g, b⟩ := h
  exact pe_meth ho c g F (hr.mono hkj) b .nil pass0 ha hst hpl ht
theorem pe_hm0 {pl : Sem Bool} (h : HasM X.prog X.w X.K X.mg X.base C m k ps sp) (c : Cls X.K C) (hr : Room j X.A) (ho : PE X o ta) (hkj : k ≤ j := by decide)
    (ht : eval (.Call (.Attribute o m apos) [] [] pos) X.env = (do
      let ov ← eval o X.env
      standAt apos.atName
      let (f, first) ← holding [ov] (getMethod ov m pl)
      callWith pos f first (backTo pos (starEach [] X.env)) (backToKw pos (keywordEach [] X.env))) := by rfl) :
    PE X (.Call (.Attribute o m apos) [] [] pos) (tMeth C m sp [] E0 ta tNil) := by
  obtain ⟨f, fd, F, g, b⟩ := h
  exact pe_meth0 ho c g F (hr.mono hkj) b .nil pass0 ht
end

/-! ### heaps -/
theorem same_new {H : Hp} {p : Addr} {o : HO} (h : H p = none) : Same H (upd H p o) := fun b x e => by
  rw [upd_ne (ne_of_none e h)]
  exact e
theorem same_mut {H H' : Hp} {p : Addr} {o : HO} (s : Same H H') (h : H p = none) : Same H (upd H' p o) := fun b x e => by
  rw [upd_ne (ne_of_none e h)]
  exact s b x e
theorem tup_same {K : PySem.W.Frag} {H H' : Hp} {a : Addr} {xs : List V} (e : Same H H') (h : SqT K H a xs) : SqT K H' a xs := by
  rcases h with (h | ⟨o, h⟩) | h
  · exact .inl (.inl (e _ _ h))
  · exact .inl (.inr ⟨o, e _ _ h⟩)
  · exact .inr h
/-- all but what stands at a is as it was -/
def SameX (a : Addr) (H H' : Hp) : Prop := ∀ b o, b ≠ a → H b = some o → H' b = some o
theorem SameX.refl (a : Addr) (H : Hp) : SameX a H H := fun _ _ _ h => h
theorem SameX.trans {a : Addr} {H H1 H2 : Hp} (s : SameX a H H1) (t : SameX a H1 H2) : SameX a H H2 := fun b o n h => t b o n (s b o n h)
theorem sx {a : Addr} {H H' : Hp} (s : Same H H') : SameX a H H' := fun b o _ h => s b o h
theorem sameX_upd {a : Addr} {H : Hp} {o : HO} : SameX a H (upd H a o) := fun b u n h => by rw [upd_ne n]; exact h
/-- an object that H does not know may change -/
theorem sameX_mut {a : Addr} {H H' : Hp} {p : Addr} {o : HO} (s : SameX a H H') (h : H p = none) : SameX a H (upd H' p o) := fun b u n e => by
  rw [upd_ne (ne_of_none e h)]
  exact s b u n e
theorem SameX.free {a l : Addr} {H H' : Hp} (e : SameX a H H') (n : l ≠ a) (h : H' l = none) : H l = none := by
  cases q : H l with
  | none => rfl
  | some o =>
    rw [e l o n q] at h
    cases h
theorem SameX.tup {K : PySem.W.Frag} {a p : Addr} {H H' : Hp} {xs ys : List V} (e : SameX a H H') (ha : H a = some (.lst ys)) (h : SqT K H p xs) : SqT K H' p xs := by
  rcases h with (h | ⟨o, h⟩) | h
  · exact .inl (.inl (e _ _ (ne_of h ha (by intro z; cases z)) h))
  · exact .inl (.inr ⟨o, e _ _ (ne_of h ha (by intro z; cases z)) h⟩)
  · exact .inr h

/-! ### tests whose answer is known -/
theorem ite_b {b : Bool} {A B : Prop} (h1 : b = true → A) (h2 : b = false → B) : if b = true then A else B := by
  cases b with
  | true => exact iteT (h1 rfl)
  | false => exact iteF (h2 rfl)
theorem not_b {b : Bool} {A B : Prop} (h1 : b = false → A) (h2 : b = true → B) : if (!b) = true then A else B := by
  cases b with
  | true => exact iteF (h2 rfl)
  | false => exact iteT (h1 rfl)

theorem yes_it {σ : L2.St} {H : Hp} {A B : Hp → Prop} (h : A H) : tYes σ H (fun b H' => if b = true then A H' else B H') := by
  show if true = true then A H else B H
  rw [if_pos rfl]
  exact h
theorem lz {n : Nat} (h : Nat.ble n 1000 = true := by rfl) : n ≤ sizeLine := Nat.le_trans (Nat.le_of_ble_eq_true h) (by decide)
theorem lzl {n : Nat} (h : n ≤ 1000) : n ≤ sizeLine := Nat.le_trans h (by decide)

/-! ### words -/
def wdB (z : Str) : Bool := decide (1 ≤ z.length) && decide (z.length ≤ 8) && z.cps.toList.all fun c => decide (97 ≤ c) && decide (c ≤ 122)
def IsWd (z : Str) : Prop := wdB z = true
instance (z : Str) : Decidable (IsWd z) := inferInstanceAs (Decidable (wdB z = true))
def oV : Option Str → V
  | none => .non
  | some z => .str z

/-! ### the built-ins that the text leaves as they are -/
structure Bi (mg : Str → Option Value) : Prop where
  len : mg "len" = none
  range : mg "range" = none
  isi : mg "isinstance" = none
  tuple : mg "tuple" = none
  list : mg "list" = none
  sorted : mg "sorted" = none
  all : mg "all" = none
  int : mg "int" = none
  max : mg "max" = none
  min : mg "min" = none
  enum : mg "enumerate" = none
  str : mg "str" = none
end Wl
namespace Wl
open PySem PySem.Spec PyProof.Rows L2
theorem atI_tab {ns : List Int} {r : Int} (h0 : 0 ≤ r) (h : r < ns.length) : ∃ n ∈ ns, atI (ns.map V.int) r = some (.int n) := by
  have hr : r.toNat < ns.length := by omega
  refine ⟨ns[r.toNat], List.getElem_mem hr, at_of (j := r.toNat) (by omega) ?_⟩
  rw [List.getElem?_map, List.getElem?_eq_getElem hr]
  rfl
theorem atI_strs {zs : List Str} {r : Int} (h0 : 0 ≤ r) (h : r < zs.length) : ∃ z ∈ zs, atI (zs.map V.str) r = some (.str z) := by
  have hr : r.toNat < zs.length := by omega
  refine ⟨zs[r.toNat], List.getElem_mem hr, at_of (j := r.toNat) (by omega) ?_⟩
  rw [List.getElem?_map, List.getElem?_eq_getElem hr]
  rfl
theorem letters_eq : ("abcdefghijklmnopqrstuvwxyz" : Str).cps.toList = List.range' 97 26 := by decide +kernel
theorem letter_at {r : Int} (h0 : 0 ≤ r) (h : r < 26) : atI ("abcdefghijklmnopqrstuvwxyz" : Str).cps.toList r = some (97 + r.toNat) := by
  rw [letters_eq]
  refine at_of' (j := r.toNat) (by omega) ?_
  rw [List.getElem?_range' (by omega)]
  congr 1
  omega
where
  at_of' {xs : List Nat} {z : Int} {j : Nat} {v : Nat} (e : z = (j : Int)) (h : xs[j]? = some v) : atI xs z = some v := by
    rw [e]
    exact atI_nat h
def sign (c : Nat) : Str := ⟨#[c]⟩
theorem joinL_flat : ∀ ps : List (List Nat), TL.joinL [] ps = ps.flatten
  | [] => rfl
  | [p] => by simp [TL.joinL]
  | p :: q :: r => by
    show p ++ ([] ++ TL.joinL [] (q :: r)) = _
    rw [joinL_flat (q :: r)]
    simp
theorem join_codes (ys : List Str) : (Txt.join ("" : Str) ys).cps.toList = (ys.map fun y => y.cps.toList).flatten := by
  have h := TL.tl_join ("" : Str) ys
  rw [show TL.tl ("" : Str) = [] by decide +kernel, joinL_flat] at h
  rw [TL.join_eq]
  exact h
theorem join_signs (cs : List Nat) : (Txt.join ("" : Str) (cs.map sign)).cps.toList = cs := by
  rw [join_codes, List.map_map]
  induction cs with
  | nil => rfl
  | cons c r ih => exact congrArg (c :: ·) ih
theorem isWd_of {z : Str} (h1 : 1 ≤ z.cps.toList.length) (h8 : z.cps.toList.length ≤ 8) (hc : ∀ c ∈ z.cps.toList, 97 ≤ c ∧ c ≤ 122) : IsWd z := by
  unfold IsWd wdB Str.length
  rw [Array.length_toList] at h1 h8
  simp only [Bool.and_eq_true, decide_eq_true_eq, List.all_eq_true]
  exact ⟨⟨h1, h8⟩, hc⟩
theorem IsWd.len {z : Str} (h : IsWd z) : 1 ≤ z.length ∧ z.length ≤ 8 := by
  unfold IsWd wdB at h
  simp only [Bool.and_eq_true, decide_eq_true_eq] at h
  exact h.1
end Wl

namespace Wl
open PySem PySem.Spec PyProof.Rows L2

inductive Each {α β : Type} (R : α → β → Prop) : List α → List β → Prop
  | nil : Each R [] []
  | cons {a : α} {b : β} {as : List α} {bs : List β} : R a b → Each R as bs → Each R (a :: as) (b :: bs)
section
variable {α β : Type} {R S : α → β → Prop}
theorem Each.length : ∀ {as : List α} {bs : List β}, Each R as bs → as.length = bs.length
  | _, _, .nil => rfl
  | _, _, .cons _ t => congrArg (· + 1) t.length
theorem Each.mono (h : ∀ a b, R a b → S a b) : ∀ {as : List α} {bs : List β}, Each R as bs → Each S as bs
  | _, _, .nil => .nil
  | _, _, .cons r t => .cons (h _ _ r) (t.mono h)
theorem Each.append : ∀ {as : List α} {bs : List β} {cs : List α} {ds : List β}, Each R as bs → Each R cs ds → Each R (as ++ cs) (bs ++ ds)
  | _, _, _, _, .nil, s => s
  | _, _, _, _, .cons r t, s => .cons r (t.append s)
theorem Each.get : ∀ {as : List α} {bs : List β} {i : Nat} {a : α}, Each R as bs → as[i]? = some a → ∃ b, bs[i]? = some b ∧ R a b
  | _, _, _, _, .nil, e => by simp at e
  | _, _, 0, _, .cons r _, e => by simp at e; subst e; exact ⟨_, rfl, r⟩
  | _, _, i + 1, x, .cons _ t, e => by
    obtain ⟨u, h1, h2⟩ := t.get (i := i) (a := x) (by simpa using e)
    exact ⟨u, by simpa using h1, h2⟩
theorem Each.get2 : ∀ {as : List α} {bs : List β} {i : Nat} {b : β}, Each R as bs → bs[i]? = some b → ∃ a, as[i]? = some a ∧ R a b
  | _, _, _, _, .nil, e => by simp at e
  | _, _, 0, _, .cons r _, e => by simp at e; subst e; exact ⟨_, rfl, r⟩
  | _, _, i + 1, x, .cons _ t, e => by
    obtain ⟨u, h1, h2⟩ := t.get2 (i := i) (b := x) (by simpa using e)
    exact ⟨u, by simpa using h1, h2⟩
theorem Each.mem2 : ∀ {as : List α} {bs : List β} {b : β}, Each R as bs → b ∈ bs → ∃ a ∈ as, R a b
  | _, _, _, .nil, h => by simp at h
  | _, _, _, .cons r t, h => by
    rcases List.mem_cons.mp h with rfl | h
    · exact ⟨_, List.mem_cons_self, r⟩
    · obtain ⟨a, ha, hr⟩ := t.mem2 h
      exact ⟨a, List.mem_cons_of_mem _ ha, hr⟩
theorem each_fn {f : α → β} : ∀ {as : List α} {bs : List β}, Each (fun a b => b = f a) as bs → bs = as.map f
  | _, _, .nil => rfl
  | _, _, .cons r t => by rw [List.map_cons, ← each_fn t, r]
theorem each_map_l {γ : Type} {g : γ → α} : ∀ {cs : List γ} {bs : List β}, Each R (cs.map g) bs → Each (fun c b => R (g c) b) cs bs
  | [], [], _ => .nil
  | [], _ :: _, h => nomatch h
  | _ :: _, [], h => nomatch h
  | _ :: _, _ :: _, .cons r t => .cons r (each_map_l t)
theorem each_map_r {γ : Type} {g : γ → α} : ∀ {cs : List γ} {bs : List β}, Each (fun c b => R (g c) b) cs bs → Each R (cs.map g) bs
  | _, _, .nil => .nil
  | _, _, .cons r t => .cons r (each_map_r t)
end

theorem filter_take_snoc {α : Type} {p : α → Bool} {ys : List α} {i : Nat} {x : α} (h : ys[i]? = some x) : (ys.take (i + 1)).filter p = (ys.take i).filter p ++ (if p x then [x] else []) := by
  rw [List.take_add_one, h, List.filter_append]
  congr 1
  by_cases c : p x = true
  · simp [c]
  · simp [c]

section
variable {J : It} {ys : List V} {G : Hp → Prop} {slot : Nat} {tt : TT} {te : TE} {vs : List Nat} {σ : L2.St} {H1 : Hp} {D : Addr} {Qd : Hp → Prop}
/-- a comprehension [e for x in ys if t]: each e a value that R tells of, the heap only growing -/
theorem lc_rel (w : L2.Walk J ys.length G (YAt ys)) (hD : H1 D = none) (keep : V → Bool) (R : V → V → Hp → Prop)
    (hG : ∀ H, Same H1 H → G H)
    (hw : ∀ x, wipe ((wipe σ vs).set slot (some x)) vs = wipe σ vs)
    (ht : ∀ (x : V) (H : Hp), x ∈ ys → Same H1 H → ∀ Q : Bool → Hp → Prop, Q (keep x) H → tt ((wipe σ vs).set slot (some x)) H Q)
    (he : ∀ (x : V) (H : Hp), x ∈ ys → keep x = true → Same H1 H → ∀ Q : VK, (∀ y H', Same H H' → R x y H' → Q y H') → te ((wipe σ vs).set slot (some x)) H Q)
    (hR : ∀ x y H H' acc, H D = some (.lst acc) → SameX D H H' → R x y H → R x y H')
    (hn : ys.length < sizeLine)
    (hd : ∀ zs H, Same H1 H → H D = some (.lst zs) → Each (fun x z => R x z H) (ys.filter keep) zs → Qd H) :
    ∃ W : Nat → Nat → Hp → Prop, (∃ m, W 0 m (upd H1 D (.lst []))) ∧ ∀ i m H, W i m H →
      (J.stop i H ∧ Qd H) ∨ (J.go i H ∧ ∃ Nx : Hp → Prop, (∀ H', Nx H' → ∃ m', m' < m ∧ W (i + 1) m' H') ∧ ∀ x H', J.yld i H x H' → gName slot x (wipe σ vs) H' fun σ2 H2 => wipe σ2 vs = wipe σ vs ∧ tt σ2 H2 fun b H3 =>
        if b = true then te σ2 H3 fun y H4 => ∃ acc, H4 D = some (.lst acc) ∧ acc.length < sizeLine ∧ Nx (upd H4 D (.lst (acc ++ [y]))) else Nx H3) := by
  refine lc_it w (fun i H => ∃ zs, Same H1 H ∧ H D = some (.lst zs) ∧ Each (fun x z => R x z H) ((ys.take i).filter keep) zs) ⟨[], same_new hD, upd_same, by simpa using Each.nil⟩ (fun i H _ h => ?_) ?_ ?_
  · obtain ⟨zs, s, _⟩ := h
    exact hG H s
  · rintro i x H H' hi ⟨zs, s, hz, ez⟩ ⟨rfl, hx⟩
    have hm : x ∈ ys := List.mem_of_getElem? hx
    refine ⟨hw x, ht x _ hm s _ ?_⟩
    have hf := filter_take_snoc (p := keep) hx
    refine ite_b (fun e => ?_) (fun e => ?_)
    · refine he x _ hm e s _ fun y H4 s4 r4 => ⟨zs, s4 _ _ hz, ?_, zs ++ [y], same_mut (s.trans s4) hD, upd_same, ?_⟩
      · have h1 := ez.length
        have h2 : ((ys.take i).filter keep).length ≤ (ys.take i).length := List.length_filter_le _ _
        have h3 : (ys.take i).length ≤ ys.length := List.length_take_le' _ _
        omega
      · rw [hf, if_pos e]
        have hD4 : H4 D = some (.lst zs) := s4 _ _ hz
        refine Each.append (ez.mono fun a b r => ?_) (.cons ?_ .nil)
        · exact hR _ _ _ _ _ hz (fun b o n h => by rw [upd_ne n]; exact s4 _ _ h) r
        · exact hR _ _ _ _ _ hD4 sameX_upd r4
    · refine ⟨zs, s, hz, ?_⟩
      rw [hf, if_neg (by rw [e]; decide), List.append_nil]
      exact ez
  · rintro H ⟨zs, s, hz, ez⟩
    rw [List.take_length] at ez
    exact hd zs H s hz ez
/-- the same, each e a plain value, the heap as it was -/
theorem lc_map (w : L2.Walk J ys.length G (YAt ys)) (hD : H1 D = none) (keep : V → Bool) (f : V → V)
    (hG : ∀ H, Same H1 H → G H)
    (hw : ∀ x, wipe ((wipe σ vs).set slot (some x)) vs = wipe σ vs)
    (ht : ∀ (x : V) (H : Hp), x ∈ ys → Same H1 H → ∀ Q : Bool → Hp → Prop, Q (keep x) H → tt ((wipe σ vs).set slot (some x)) H Q)
    (he : ∀ (x : V) (H : Hp), x ∈ ys → keep x = true → Same H1 H → ∀ Q : VK, Q (f x) H → te ((wipe σ vs).set slot (some x)) H Q)
    (hn : ys.length < sizeLine)
    (hd : ∀ H, Same H1 H → H D = some (.lst ((ys.filter keep).map f)) → Qd H) :
    ∃ W : Nat → Nat → Hp → Prop, (∃ m, W 0 m (upd H1 D (.lst []))) ∧ ∀ i m H, W i m H →
      (J.stop i H ∧ Qd H) ∨ (J.go i H ∧ ∃ Nx : Hp → Prop, (∀ H', Nx H' → ∃ m', m' < m ∧ W (i + 1) m' H') ∧ ∀ x H', J.yld i H x H' → gName slot x (wipe σ vs) H' fun σ2 H2 => wipe σ2 vs = wipe σ vs ∧ tt σ2 H2 fun b H3 =>
        if b = true then te σ2 H3 fun y H4 => ∃ acc, H4 D = some (.lst acc) ∧ acc.length < sizeLine ∧ Nx (upd H4 D (.lst (acc ++ [y]))) else Nx H3) :=
  lc_rel w hD keep (fun x y _ => y = f x) hG hw ht (fun x H hx hk s Q q => he x H hx hk s Q (q _ H (Same.refl H) rfl)) (fun _ _ _ _ _ _ _ r => r) hn fun zs H s hz ez => hd H s (by rw [hz, each_fn ez])
end
/-- a text's signs as a list -/
def signsOf (z : Str) : List V := z.cps.toList.map fun c => .str (sign c)
theorem walk_signs {z : Str} : L2.Walk (Its z) (signsOf z).length (fun _ => True) (YAt (signsOf z)) := by
  have e : (signsOf z).length = z.cps.size := by simp [signsOf]
  rw [e]
  refine ⟨fun _ _ hi _ => hi, fun _ _ => Nat.le_refl _, ?_⟩
  rintro i H x H' _ _ ⟨rfl, c, hc, rfl⟩
  refine ⟨rfl, ?_⟩
  have : z.cps.toList[i]? = some c := by simpa using hc
  simp only [signsOf, List.getElem?_map, this]
  rfl
theorem yes_pure {σ : L2.St} {H : Hp} {Q : Bool → Hp → Prop} (h : Q true H) : tYes σ H Q := h
theorem inV_strs (z : Str) (ws : List Str) : inV (.str z) (ws.map V.str) = decide (z ∈ ws) := by
  unfold inV
  induction ws with
  | nil => rfl
  | cons x r ih =>
    rw [List.map_cons, List.any_cons, ih]
    by_cases h : x = z
    · subst h
      simp [eqV]
    · have h2 : ¬ z = x := fun e => h e.symm
      simp [eqV, h, h2]
theorem flat_strs (ws : List Str) : (ws.map V.str).all flatV = true := by
  rw [List.all_eq_true]
  intro v hv
  obtain ⟨x, _, rfl⟩ := List.mem_map.mp hv
  rfl
theorem dp_strs {K : PySem.W.Frag} {H : Hp} : ∀ ws : List Str, DpAll K H (ws.map V.str) (ws.map PyData.str)
  | [] => .nil
  | z :: r => .cons (.str z) (dp_strs r)
theorem wd_ok {z : Str} (h : IsWd z) : PyData.strOk z = true := by
  unfold PyData.strOk
  rw [← Array.all_toList, List.all_eq_true]
  intro c hc
  unfold IsWd wdB at h
  simp only [Bool.and_eq_true, decide_eq_true_eq, List.all_eq_true] at h
  have := h.2 c hc
  exact decide_eq_true (by omega)
theorem lay_strs : ∀ {ws : List Str}, (∀ z ∈ ws, IsWd z) → PyData.canLayAll0 (ws.map PyData.str) = true
  | [], _ => by simp [PyData.canLayAll0]
  | z :: r, h => by
    have h1 := wd_ok (h z List.mem_cons_self)
    have h2 := lay_strs (ws := r) fun y hy => h y (List.mem_cons_of_mem _ hy)
    simp [PyData.canLayAll0, PyData.canLay0, h1, h2]
theorem depth_strs : ∀ ws : List Str, PyData.depthAll (ws.map PyData.str) = 0
  | [] => by simp [PyData.depthAll]
  | z :: r => by simp [PyData.depthAll, PyData.depth, depth_strs r]
theorem shaped_list {ds : List PyData} (h : PyData.canLayAll0 ds = true) (d : PyData.depthAll ds ≤ 60) : SeqAt.shaped (.list ds) = true := by
  unfold SeqAt.shaped
  rw [Bool.and_eq_true]
  refine ⟨by simpa [PyData.canLay0] using h, decide_eq_true ?_⟩
  simp only [PyData.depth]
  omega
theorem shaped_tuple {ds : List PyData} (h : PyData.canLayAll0 ds = true) (d : PyData.depthAll ds ≤ 60) : SeqAt.shaped (.tuple ds) = true := by
  unfold SeqAt.shaped
  rw [Bool.and_eq_true]
  refine ⟨by simpa [PyData.canLay0] using h, decide_eq_true ?_⟩
  simp only [PyData.depth]
  omega
theorem cut_hi (z : Str) (k : Nat) : (cutS z none (some (k : Int))).cps.toList = z.cps.toList.take k := by
  show ((z.cps.toList.drop (HT.sIx z.length 0 none)).take (HT.sIx z.length z.length (some (k : Int)) - HT.sIx z.length 0 none)) = _
  rw [HT.sIx_none, HT.sIx_nat, Nat.sub_zero, List.drop_zero]
  have : z.length = z.cps.toList.length := by simp [Str.length]
  rw [this]
  by_cases h : k ≤ z.cps.toList.length
  · rw [Nat.min_eq_left h]
  · rw [Nat.min_eq_right (by omega), List.take_length, List.take_of_length_le (by omega)]
end Wl

namespace Wl
open PySem PySem.Spec PyProof.Rows L2
inductive Wh where
  | first | last | any
  deriving DecidableEq
def whS : Wh → Str
  | .first => "first"
  | .last => "last"
  | .any => "any"
abbrev Chg := Nat × Nat × Wh
def isLet (c : Nat) : Prop := 97 ≤ c ∧ c ≤ 122
instance (c : Nat) : Decidable (isLet c) := by unfold isLet; infer_instance
def OkC (ch : Chg) : Prop := isLet ch.1 ∧ isLet ch.2.1 ∧ ch.1 ≠ ch.2.1
def acts (wh : Wh) (i n : Nat) : Bool := match wh with
  | .first => decide (i = 0)
  | .last => decide (i + 1 = n)
  | .any => true
abbrev Edges := List (Nat × Nat)
def es (chs : List Chg) (i n : Nat) : Edges := (chs.filter fun ch => acts ch.2.2 i n).map fun ch => (ch.1, ch.2.1)
def nbE (c : Nat) (e : Nat × Nat) : List Nat := (if e.1 = c then [e.2] else []) ++ (if e.2 = c then [e.1] else [])
def nbrs (E : Edges) (c : Nat) : List Nat := E.flatMap (nbE c)
theorem mem_nbrs {E : Edges} {c d : Nat} : d ∈ nbrs E c ↔ (c, d) ∈ E ∨ (d, c) ∈ E := by
  unfold nbrs nbE
  rw [List.mem_flatMap]
  constructor
  · rintro ⟨⟨x, y⟩, he, h⟩
    rcases List.mem_append.mp h with k | k
    · by_cases q : x = c
      · rw [if_pos q, List.mem_singleton] at k
        rw [k, ← q]
        exact .inl he
      · rw [if_neg q] at k
        cases k
    · by_cases q : y = c
      · rw [if_pos q, List.mem_singleton] at k
        rw [k, ← q]
        exact .inr he
      · rw [if_neg q] at k
        cases k
  · rintro (h | h)
    · exact ⟨(c, d), h, List.mem_append_left _ (by simp)⟩
    · exact ⟨(d, c), h, List.mem_append_right _ (by simp)⟩
theorem nbrs_symm {E : Edges} {c d : Nat} (h : d ∈ nbrs E c) : c ∈ nbrs E d := mem_nbrs.mpr ((mem_nbrs.mp h).symm)
theorem nbrs_snoc (E : Edges) (x y c : Nat) : nbrs (E ++ [(x, y)]) c = nbrs E c ++ ((if x = c then [y] else []) ++ (if y = c then [x] else [])) := by
  unfold nbrs
  rw [List.flatMap_append]
  simp [nbE]
inductive Conn (E : Edges) : Nat → Nat → Prop
  | refl (a : Nat) : Conn E a a
  | step {a b c : Nat} : Conn E a b → c ∈ nbrs E b → Conn E a c
theorem Conn.trans {E : Edges} {a b c : Nat} (h : Conn E a b) (k : Conn E b c) : Conn E a c := by
  induction k with
  | refl => exact h
  | step _ m ih => exact .step ih m
theorem Conn.symm {E : Edges} {a b : Nat} (h : Conn E a b) : Conn E b a := by
  induction h with
  | refl => exact .refl _
  | step _ m ih => exact (Conn.step (.refl _) (nbrs_symm m)).trans ih
def OkE (E : Edges) : Prop := ∀ e ∈ E, isLet e.1 ∧ isLet e.2
theorem conn_let {E : Edges} (ok : OkE E) {a b : Nat} (h : Conn E a b) (ha : isLet a) : isLet b := by
  induction h with
  | refl => exact ha
  | step _ m _ =>
    rcases mem_nbrs.mp m with m | m
    · exact (ok _ m).2
    · exact (ok _ m).1
theorem es_ok {chs : List Chg} (h : ∀ ch ∈ chs, OkC ch) (i n : Nat) : OkE (es chs i n) := fun e he => by
  obtain ⟨ch, hc, rfl⟩ := List.mem_map.mp he
  have := h ch (List.mem_filter.mp hc).1
  exact ⟨this.1, this.2.1⟩
theorem least_of (p : Nat → Prop) : ∀ n, p n → ∃ m, p m ∧ ∀ d, p d → m ≤ d := by
  intro n
  induction n using Nat.strongRecOn with
  | _ n ih =>
    intro hn
    by_cases h : ∃ k, k < n ∧ p k
    · obtain ⟨k, hk, pk⟩ := h
      exact ih k hk pk
    · exact ⟨n, hn, fun d hd => Nat.le_of_not_lt fun q => h ⟨d, q, hd⟩⟩
noncomputable def lo (E : Edges) (c : Nat) : Nat := Classical.choose (least_of (Conn E c) c (.refl c))
theorem lo_conn (E : Edges) (c : Nat) : Conn E c (lo E c) := (Classical.choose_spec (least_of (Conn E c) c (.refl c))).1
theorem lo_le {E : Edges} {c d : Nat} (h : Conn E c d) : lo E c ≤ d := (Classical.choose_spec (least_of (Conn E c) c (.refl c))).2 d h
theorem lo_self (E : Edges) (c : Nat) : lo E c ≤ c := lo_le (.refl c)
theorem lo_eq {E : Edges} {c d : Nat} : lo E c = lo E d ↔ Conn E c d := by
  constructor
  · intro e
    have h1 := lo_conn E c
    have h2 := lo_conn E d
    rw [← e] at h2
    exact h1.trans h2.symm
  · intro h
    exact Nat.le_antisymm (lo_le (h.trans (lo_conn E d))) (lo_le (h.symm.trans (lo_conn E c)))
theorem lo_of {E : Edges} {c m : Nat} (h : Conn E c m) (k : ∀ d, Conn E c d → m ≤ d) : lo E c = m := Nat.le_antisymm (lo_le h) (k _ (lo_conn E c))
/-! ### words -/
abbrev codes (z : Str) : List Nat := z.cps.toList
def ofC (l : List Nat) : Str := ⟨l.toArray⟩
theorem codes_ofC (l : List Nat) : codes (ofC l) = l := rfl
noncomputable def mean (chs : List Chg) (z : Str) : Str := ofC ((codes z).mapIdx fun i c => lo (es chs i (codes z).length) c)
theorem mean_len (chs : List Chg) (z : Str) : (codes (mean chs z)).length = (codes z).length := by
  unfold mean
  rw [codes_ofC, List.length_mapIdx]
theorem mean_at (chs : List Chg) (z : Str) {i c : Nat} (h : (codes z)[i]? = some c) : (codes (mean chs z))[i]? = some (lo (es chs i (codes z).length) c) := by
  unfold mean
  rw [codes_ofC, List.getElem?_mapIdx, h]
  rfl
/-- they are one: as long, and at each place the letters hang together -/
def OneP (chs : List Chg) (z y : Str) : Prop := (codes z).length = (codes y).length ∧ ∀ i a b, (codes z)[i]? = some a → (codes y)[i]? = some b → Conn (es chs i (codes z).length) b a
theorem one_iff {chs : List Chg} {z y : Str} : OneP chs z y ↔ (codes z).length = (codes y).length ∧ mean chs z = mean chs y := by
  constructor
  · rintro ⟨hl, h⟩
    refine ⟨hl, str_ext ?_⟩
    refine List.ext_getElem? fun i => ?_
    by_cases hi : i < (codes z).length
    · have h1 : (codes z)[i]? = some (codes z)[i] := List.getElem?_eq_getElem hi
      have h2 : (codes y)[i]? = some ((codes y)[i]'(by omega)) := List.getElem?_eq_getElem (by omega)
      have e1 := mean_at chs z h1
      have e2 := mean_at chs y h2
      rw [e1, e2, hl]
      rw [hl] at h
      exact congrArg some (lo_eq.mpr (h i _ _ h1 h2).symm)
    · have q1 : (codes (mean chs z))[i]? = none := List.getElem?_eq_none (by rw [mean_len]; omega)
      have q2 : (codes (mean chs y))[i]? = none := List.getElem?_eq_none (by rw [mean_len]; omega)
      exact q1.trans q2.symm
  · rintro ⟨hl, e⟩
    refine ⟨hl, fun i a b ha hb => ?_⟩
    have e1 := mean_at chs z ha
    have e2 := mean_at chs y hb
    rw [e, e2, ← hl] at e1
    exact lo_eq.mp (Option.some.inj e1)
theorem mean_mean {chs : List Chg} (z : Str) : mean chs (mean chs z) = mean chs z := by
  refine str_ext (List.ext_getElem? fun i => ?_)
  have l1 := mean_len chs z
  have l2 := mean_len chs (mean chs z)
  by_cases hi : i < (codes z).length
  · have h1 : (codes z)[i]? = some (codes z)[i] := List.getElem?_eq_getElem hi
    have e1 := mean_at chs z h1
    have e2 := mean_at chs (mean chs z) e1
    rw [e2, e1, l1]
    exact congrArg some (lo_eq.mpr (lo_conn _ _).symm)
  · have q1 : (codes (mean chs (mean chs z)))[i]? = none := List.getElem?_eq_none (by rw [mean_len, mean_len]; omega)
    have q2 : (codes (mean chs z))[i]? = none := List.getElem?_eq_none (by rw [mean_len]; omega)
    exact q1.trans q2.symm
theorem one_mean (chs : List Chg) (z : Str) : OneP chs (mean chs z) z := one_iff.mpr ⟨mean_len chs z, mean_mean z⟩
theorem one_symm {chs : List Chg} {z y : Str} : OneP chs z y ↔ OneP chs y z := by
  rw [one_iff, one_iff]
  constructor <;> rintro ⟨a, b⟩ <;> exact ⟨a.symm, b.symm⟩
theorem lt_no : ∀ {l m : List Nat}, l.length = m.length → (∀ (i a b : Nat), l[i]? = some a → m[i]? = some b → a ≤ b) → ¬ m < l
  | [], [], _, _ => List.lt_irrefl _
  | a :: l, b :: m, hl, h => by
    have h0 : a ≤ b := h 0 a b rfl rfl
    have ih := lt_no (l := l) (m := m) (by simpa using hl) fun i x y hx hy => h (i + 1) x y (by simpa using hx) (by simpa using hy)
    intro q
    rcases List.cons_lt_cons_iff.mp q with q | ⟨e, q⟩
    · omega
    · exact ih q
  | [], b :: m, hl, _ => by simp at hl
  | a :: l, [], hl, _ => by simp at hl
theorem mean_le (chs : List Chg) (z : Str) : ¬ ltS z (mean chs z) := by
  refine lt_no (mean_len chs z) fun i a b ha hb => ?_
  rw [mean_at chs z hb] at ha
  cases ha
  exact lo_self _ _
theorem es_nil (i n : Nat) : es [] i n = [] := rfl
theorem conn_nil {a b : Nat} (h : Conn [] a b) : a = b := by
  induction h with
  | refl => rfl
  | step _ m _ => cases m
theorem one_plain {z y : Str} : OneP [] z y ↔ z = y := by
  constructor
  · rintro ⟨hl, h⟩
    refine str_ext (List.ext_getElem? fun i => ?_)
    by_cases hi : i < (codes z).length
    · have h1 : (codes z)[i]? = some (codes z)[i] := List.getElem?_eq_getElem hi
      have h2 : (codes y)[i]? = some ((codes y)[i]'(by omega)) := List.getElem?_eq_getElem (by omega)
      exact h1.trans ((congrArg some (conn_nil (h i _ _ h1 h2)).symm).trans h2.symm)
    · have q1 : (codes z)[i]? = none := List.getElem?_eq_none (by omega)
      have q2 : (codes y)[i]? = none := List.getElem?_eq_none (by omega)
      exact q1.trans q2.symm
  · rintro rfl
    refine ⟨rfl, fun i a b h1 h2 => ?_⟩
    rw [h1] at h2
    cases h2
    exact .refl _
theorem mean_plain (z : Str) : mean [] z = z := by
  refine str_ext (List.ext_getElem? fun i => ?_)
  have l1 := mean_len [] z
  by_cases hi : i < (codes z).length
  · have h1 : (codes z)[i]? = some (codes z)[i] := List.getElem?_eq_getElem hi
    exact (mean_at [] z h1).trans ((congrArg some (conn_nil (lo_conn _ _)).symm).trans h1.symm)
  · have q1 : (codes (mean [] z))[i]? = none := List.getElem?_eq_none (by rw [mean_len]; omega)
    have q2 : (codes z)[i]? = none := List.getElem?_eq_none (by omega)
    exact q1.trans q2.symm
theorem wd_codes {z : Str} : IsWd z ↔ (1 ≤ (codes z).length ∧ (codes z).length ≤ 8) ∧ ∀ c ∈ codes z, isLet c := by
  unfold IsWd wdB isLet Str.length codes
  rw [Array.length_toList]
  simp only [Bool.and_eq_true, decide_eq_true_eq, List.all_eq_true]
theorem mean_wd {chs : List Chg} (h : ∀ ch ∈ chs, OkC ch) {z : Str} (hz : IsWd z) : IsWd (mean chs z) := by
  obtain ⟨h1, h2⟩ := wd_codes.mp hz
  refine wd_codes.mpr ⟨by rw [mean_len]; exact h1, fun c hc => ?_⟩
  obtain ⟨i, hi, rfl⟩ := List.mem_iff_getElem.mp hc
  have hi2 : i < (codes z).length := by rw [mean_len] at hi; exact hi
  have e := mean_at chs z (List.getElem?_eq_getElem hi2)
  rw [List.getElem?_eq_getElem hi] at e
  rw [Option.some.inj e]
  exact conn_let (es_ok h _ _) (lo_conn _ _) (h2 _ (List.getElem_mem hi2))
/-! ### the walk over letters, by breadth -/
structure Bfs (E : Edges) (goal : Nat) (tw : List (Nat × Option Nat)) (at' : Nat) : Prop where
  nd : (tw.map (·.1)).Nodup
  lets : ∀ x ∈ tw.map (·.1), isLet x
  conn : ∀ x ∈ tw.map (·.1), Conn E goal x
  head : tw[0]? = some (goal, none)
  par : ∀ (i c d : Nat), tw[i]? = some (c, some d) → ∃ j o, j < i ∧ tw[j]? = some (d, o)
  non : ∀ (i c : Nat), tw[i]? = some (c, none) → i = 0
  closed : ∀ (j x : Nat) (o : Option Nat), j < at' → tw[j]? = some (x, o) → ∀ y ∈ nbrs E x, y ∈ tw.map (·.1)
theorem Bfs.start {E : Edges} {goal : Nat} (h : isLet goal) : Bfs E goal [(goal, none)] 0 := by
  refine ⟨by simp, ?_, ?_, rfl, ?_, ?_, fun j x o hj => by omega⟩
  · intro x hx
    simp at hx
    subst hx
    exact h
  · intro x hx
    simp at hx
    subst hx
    exact .refl _
  · intro i c d hi
    match i, hi with
    | 0, e => cases e
    | n + 1, e => simp at e
  · intro i c hi
    match i, hi with
    | 0, _ => rfl
    | n + 1, e => simp at e
theorem Bfs.len {E : Edges} {goal : Nat} {tw : List (Nat × Option Nat)} {a : Nat} (b : Bfs E goal tw a) : tw.length ≤ 26 := by
  have h := b.nd.length_le_of_subset (l₂ := List.range' 97 26) fun x hx => by
    have := b.lets x hx
    rw [List.mem_range'_1]
    unfold isLet at this
    omega
  simpa using h
theorem Bfs.push {E : Edges} {goal x y : Nat} {tw : List (Nat × Option Nat)} {a : Nat} {o : Option Nat} (b : Bfs E goal tw a) (hx : tw[a]? = some (x, o)) (hy : y ∈ nbrs E x) (hl : isLet y) (hn : y ∉ tw.map (·.1)) : Bfs E goal (tw ++ [(y, some x)]) a := by
  have ha : a < tw.length := (List.getElem?_eq_some_iff.mp hx).1
  have old : ∀ {i : Nat} {p : Nat × Option Nat}, tw[i]? = some p → (tw ++ [(y, some x)])[i]? = some p := fun {i p} h => by
    rw [List.getElem?_append_left (List.getElem?_eq_some_iff.mp h).1]
    exact h
  have back : ∀ {i : Nat} {p : Nat × Option Nat}, (tw ++ [(y, some x)])[i]? = some p → tw[i]? = some p ∨ (i = tw.length ∧ p = (y, some x)) := fun {i p} h => by
    by_cases q : i < tw.length
    · rw [List.getElem?_append_left q] at h
      exact .inl h
    · rw [List.getElem?_append_right (by omega)] at h
      have : i - tw.length = 0 := by
        have := (List.getElem?_eq_some_iff.mp h).1
        simp at this
        omega
      rw [this] at h
      simp at h
      exact .inr ⟨by omega, h.symm⟩
  refine ⟨?_, ?_, ?_, old b.head, ?_, ?_, ?_⟩
  · rw [List.map_append, List.nodup_append]
    refine ⟨b.nd, by simp, fun u hu v hv e => ?_⟩
    simp at hv
    subst hv e
    exact hn hu
  · intro u hu
    rw [List.map_append] at hu
    rcases List.mem_append.mp hu with hu | hu
    · exact b.lets u hu
    · simp at hu
      subst hu
      exact hl
  · intro u hu
    rw [List.map_append] at hu
    rcases List.mem_append.mp hu with hu | hu
    · exact b.conn u hu
    · simp at hu
      subst hu
      exact .step (b.conn x (List.mem_map.mpr ⟨_, List.mem_of_getElem? hx, rfl⟩)) hy
  · intro i c d hi
    rcases back hi with h | ⟨e, h⟩
    · obtain ⟨j, o', hj, h'⟩ := b.par i c d h
      exact ⟨j, o', hj, old h'⟩
    · cases h
      exact ⟨a, o, by omega, old hx⟩
  · intro i c hi
    rcases back hi with h | ⟨e, h⟩
    · exact b.non i c h
    · cases h
  · intro j u o' hj h v hv
    rcases back h with h | ⟨e, h⟩
    · rw [List.map_append]
      exact List.mem_append_left _ (b.closed j u o' hj h v hv)
    · omega
theorem Bfs.next {E : Edges} {goal x : Nat} {tw : List (Nat × Option Nat)} {a : Nat} {o : Option Nat} (b : Bfs E goal tw a) (hx : tw[a]? = some (x, o)) (h : ∀ y ∈ nbrs E x, y ∈ tw.map (·.1)) : Bfs E goal tw (a + 1) := by
  refine ⟨b.nd, b.lets, b.conn, b.head, b.par, b.non, fun j u o' hj hu => ?_⟩
  by_cases q : j < a
  · exact b.closed j u o' q hu
  · have : j = a := by omega
    subst this
    rw [hx] at hu
    cases hu
    exact h
theorem Bfs.done {E : Edges} {goal : Nat} {tw : List (Nat × Option Nat)} {a : Nat} (b : Bfs E goal tw a) (ha : tw.length ≤ a) {c : Nat} : c ∈ tw.map (·.1) ↔ Conn E goal c := by
  refine ⟨b.conn c, fun h => ?_⟩
  induction h with
  | refl => exact List.mem_map.mpr ⟨_, List.mem_of_getElem? b.head, rfl⟩
  | step _ m ih =>
    obtain ⟨⟨u, o⟩, hu, rfl⟩ := List.mem_map.mp ih
    obtain ⟨j, hj, e⟩ := List.mem_iff_getElem.mp hu
    exact b.closed j u o (by omega) (by rw [List.getElem?_eq_getElem hj, e]) _ m
end Wl

namespace Wl
open PySem PySem.Spec PyProof.Rows L2
/-! enumerate(a text) -/
def IteS (z : Str) : It where
  go := fun i _ => i < z.cps.size
  yld := fun i H v H' => ∃ T c, v = .ref T ∧ H T = none ∧ z.cps[i]? = some c ∧ H' = upd H T (.tup [.int (i : Nat), .str (sign c)])
  stop := fun i _ => z.cps.size ≤ i
theorem turn_enumS {P : Program} {w : World} {K : PySem.W.Frag} {elts : List Expr} {kk : Nat} {tpos : Pos} (z : Str) (t : Tok) (e it : Addr) :
    Turn P w K (.Tuple elts kk tpos) (IteS z) [e, it] e (fun i h => (∃ old, IsEnum h e it ((i : Nat) : Int) old) ∧ h.IsStrIter it (strIterType z) z t i ∧ e ≠ it) where
  mem := by simp
  obj := fun i h st b hb => by
    obtain ⟨⟨old, he⟩, ⟨o, ho, hc, hd⟩, _⟩ := st
    rcases (show b = e ∨ b = it by simpa using hb) with q | q
    · subst q; exact ⟨_, he, fun v q => nomatch q⟩
    · subst q; exact ⟨o, ho, fun v q => by rw [hd] at q; cases q⟩
  keep := fun i h h' st k => let ⟨⟨old, he⟩, ⟨o, ho, r⟩, hne⟩ := st; ⟨⟨old, k e (by simp) _ he⟩, ⟨o, k it (by simp) o ho, r⟩, hne⟩
  item := by
    intro X hP hw hK hc i pins s σ H E I hf st hg
    subst hP hw hK
    obtain ⟨⟨old, he⟩, hit, hne⟩ := st
    have hi : i < z.cps.size := hg
    obtain ⟨oi, hoi, _⟩ := id hit
    have hel : e < s.heap.objs.size := Heap.lt_size he
    have hil : it < s.heap.objs.size := Heap.lt_size hoi
    refine wpAny_pyNext_enum_itemD (Draws.text (prog := X.prog) (w := X.w) (A := X.A.in1) (I.ok.hd hc) it z t) he hit hi hne (by simp [hne]) fun y h' tk hy ho hst hTp hsz hk => ?_
    obtain ⟨c, tu, hcz, rfl⟩ := hy
    refine ⟨_, rfl, wpAny_letOwnedTupleGo_enum (s := { s with heap := h', toks := tk + 1 }) ho fun h'' he' sb => ?_⟩
    have hT2 : h''.get? s.heap.objs.size = some { cls := .type "tuple", data := .seq #[.int i tk, .str ⟨#[c]⟩ tu] } := (sb.2 _ (Nat.ne_of_gt hel)).trans hTp
    have new : ObjOk X.prog X.w (upd H s.heap.objs.size (.tup [.int (i : Nat), .str (sign c)])) h'' s.heap.objs.size (.tup [.int (i : Nat), .str (sign c)]) :=
      ⟨by show 2 ≤ sizeLine; decide, [.int i tk, .str ⟨#[c]⟩ tu], .cons ⟨_, rfl⟩ (.cons ⟨_, rfl⟩ .nil), ⟨_, hT2, rfl, _, rfl⟩⟩
    have I1 : L2.Inv X pins σ (upd H s.heap.objs.size (.tup [.int (i : Nat), .str (sign c)])) { s with heap := h'', toks := tk + 1 } :=
      I.turnedNew (ch := [e, it]) (fun b ob hb q => by
        simp only [List.mem_cons, List.not_mem_nil, or_false, not_or] at hb
        exact (sb.2 b hb.1).trans (hk b ob hb.1 hb.2 q)) hf (Nat.le_refl _) new
    have e1 : ((i + 1 : Nat) : Int) = (i : Int) + 1 := by omega
    obtain ⟨o2, ho2, r2⟩ := hst
    refine ⟨.ref s.heap.objs.size, _, I1, rfl, ⟨_, c, rfl, I.hok.fresh (Nat.le_refl _), hcz, rfl⟩, ⟨⟨.str ⟨#[c]⟩ tu, by rw [e1]; exact he'⟩, ⟨o2, (sb.2 it (Ne.symm hne)).trans ho2, r2⟩, hne⟩, fun b hb => ?_⟩
    have hb' : b < s.heap.objs.size := by
      rcases (show b = e ∨ b = it by simpa using hb) with q | q <;> subst q <;> assumption
    rw [upd_ne (Nat.ne_of_lt hb')]
    exact (hf b hb).1
  done := by
    intro X hP hw hK hc i pins s σ H E I hf st hg
    subst hP hw hK
    obtain ⟨⟨old, he⟩, hit, hne⟩ := st
    have hi : z.cps.size ≤ i := hg
    obtain ⟨f0, f1, f2, f3, f4, f5⟩ := hf it (by simp)
    have hTy : s.TypeIs (.ref e) "enumerate" := ⟨_, he, rfl⟩
    show wpAny _ _ (pyNext (.ref e)) _ _ s
    unfold pyNext
    refine wpAny_bind (wpAny_attempt (wpAny_callSpecial?_slot (name := Str.ofString "__next__") hTy F.slot_enumerate_next (wpAny_call_entry F.slot_enumerate_next hTy F.entry_enumerate_next ?_ (F.args_enumerate_next_1 _))))
    show wpAny _ _ (field (.ref e) 2 >>= _) _ _ _
    refine wpAny_bind (wpAny_field he rfl (x := .ref it) rfl (wpAny_bind ?_))
    have hx : z.cps[i]? = none := Array.getElem?_eq_none hi
    cases ha : z.cps.all (· < 128)
    · simp only [strIterType, ha, Bool.false_eq_true, if_false] at hit
      refine wpAny_nextOf_wide_end (I.ok.hd hc) hit hx fun h' x he' hx' => ?_
      obtain ⟨o, ho, hcc⟩ := hx'
      exact wpAny_bind (wpAny_isInstance (T := "StopIteration") (b := true) ⟨o, ho, hcc⟩ isSubtype_stop (wpAny_pure ⟨rfl, I.turned (t' := s.toks) (fun b o hb q => he' b o hb q) f0 f1 f3 f4 f5⟩))
    · simp only [strIterType, ha, if_true] at hit
      refine wpAny_nextOf_ascii_end (I.ok.hd hc) hit hx fun h' x he' hx' => ?_
      obtain ⟨o, ho, hcc⟩ := hx'
      exact wpAny_bind (wpAny_isInstance (T := "StopIteration") (b := true) ⟨o, ho, hcc⟩ isSubtype_stop (wpAny_pure ⟨rfl, I.turned (t' := s.toks) (fun b o hb q => he' b o hb q) f0 f1 f3 f4 f5⟩))
  self := fun A i s Q E st h => let ⟨⟨_, he⟩, _⟩ := st; wpAny_pyIter_enum he h
def iEnumS (ta : TA) : TI := fun σ H R => ta σ H fun vs H1 => ∃ z, vs = [.str z] ∧ R (IteS z) H1
theorem pi_enumS {X : Cx} {e : Expr} {ta : TA} {p pos tpos : Pos} {elts : List Expr} {kk : Nat} (hg : Gl X "enumerate") (hm : X.mg "enumerate" = none) (ha : PA X [e] ta) (hs : starEach [e] X.env = [(false, eval e X.env)] := by rfl) :
    PI X (.Tuple elts kk tpos) (.Call (.Name "enumerate" p) [e] [] pos) (iEnumS ta) := by
  refine ⟨fun pins s σ H R I h => ?_⟩
  refine Call_ (ld_blt I hg hm boot_enumerate (PyProof.Rows.callWith_type1 (thn (ha.run pos pins s σ H _ I h) fun us s1 ⟨vs, H1, I1, r1, q1⟩ => ?_) hs rfl))
  obtain ⟨z, rfl, q⟩ := q1
  obtain ⟨u, rfl, ru⟩ := vals1 r1
  obtain ⟨t, rfl⟩ := ru
  refine call_enumerate_str fun h' he hit hsz hk => wpAny_pyIter_enum he ?_
  refine ⟨s1.heap.objs.size + 1, [s1.heap.objs.size + 1, s1.heap.objs.size], _, _, H1, rfl, I1.kept (t' := s1.toks) hk, turn_enumS z t (s1.heap.objs.size + 1) s1.heap.objs.size, ⟨⟨.none, he⟩, hit, Nat.succ_ne_self _⟩, fun b hb => ?_, q⟩
  have hle : s1.heap.objs.size ≤ b := by
    rcases (show b = s1.heap.objs.size + 1 ∨ b = s1.heap.objs.size by simpa using hb) with q | q <;> rw [q]
    · exact Nat.le_add_right _ _
    · exact Nat.le_refl _
  exact I1.fpOk hle (I1.hok.fresh hle)
theorem walk_enumS {z : Str} : L2.Walk (IteS z) (codes z).length (fun _ => True) (fun i H v H' => ∃ T c, v = .ref T ∧ H T = none ∧ (codes z)[i]? = some c ∧ H' = upd H T (.tup [.int (i : Nat), .str (sign c)])) := by
  have e : (codes z).length = z.cps.size := by simp [codes]
  rw [e]
  refine ⟨fun _ _ hi _ => hi, fun _ _ => Nat.le_refl _, ?_⟩
  rintro i H v H' _ _ ⟨T, c, h1, h2, h3, h4⟩
  exact ⟨T, c, h1, h2, by simpa [codes] using h3, h4⟩
/-! f(k = v, ..) with no place -/
theorem pe_callN0 {X : Cx} {CX : CXT} {k : Nat} {f : Addr} {fd : FuncData} {ps ks : List Str} {sp : Sp} {E : XK} {x : Str} {p pos : Pos} {kws : List Keyword} {tk : TA} {g : List Value → List Value → List Value} {gV : List V → List V → List V}
    (F : FnOk X.prog X.w X.K X.mg X.base CX k f fd ps sp) (hr : Room k X.A) (hg : Gl X x) (hm : X.mg x = some (.ref f)) (hk : PySem.W.keepIn X.K (.ref f) = true) (hb : KBn X.K fd ps 0 ks g gV) (hx : Passes CX X E) (hkw : PK X kws tk)
    (hall : (backToKw pos (keywordEach kws X.env)).all (·.1.isSome) = true := by rfl) (hks : (backToKw pos (keywordEach kws X.env)).filterMap (·.1) = ks := by rfl) (hdb : (x == ("__debug__" : Str)) = false := by decide)
    (hpl : ((backTo pos (starEach [] X.env)).any (·.1) || (backToKw pos (keywordEach kws X.env)).any (·.1.isNone)) = false := by rfl) :
    PE X (.Call (.Name x p) [] kws pos) (L2.tCallN 0 ks.length sp gV E tNil tk) := by
  refine ⟨fun pins s σ H Q I h => ?_⟩
  refine wpAny_Call_Name_kw (ld_glob I hg hm ?_ hdb)
  refine PySem.W.callWith_KW0 (h₀ := X.base) I.ok.mod.kin hk hall ?_ hpl
  refine thn (hkw.run pos pins s σ H _ I h) fun ws s2 ⟨zs, H2, I2, rz, l1, l2, q2⟩ => ⟨I2.kIn, ?_⟩
  rw [hks]
  exact run_fnN (us := []) (vs := []) F hr hb hx I2 .nil rz rfl l2 q2
/-! min of a list of signs -/
def sgV (c : Nat) : V := .str (sign c)
def rMinL (K : PySem.W.Frag) : List V → Hp → VK → Prop := fun vs H Q => ∃ (a : Addr) (cs : List Nat), vs = [V.ref a] ∧ SqL K H a (cs.map sgV) ∧ cs ≠ [] ∧ cs.length ≤ 1000 ∧ ∀ m ∈ cs, (∀ c ∈ cs, m ≤ c) → Q (sgV m) H
theorem dp_signs {K : PySem.W.Frag} {H : Hp} : ∀ cs : List Nat, DpAll K H (cs.map sgV) (cs.map fun c => PyData.str (sign c))
  | [] => .nil
  | c :: r => .cons (.str _) (dp_signs r)
theorem sign_lt (a b : Nat) : ((sign a).cps.toList < (sign b).cps.toList) ↔ a < b := by
  show ([a] < [b]) ↔ _
  constructor
  · intro h
    rcases List.cons_lt_cons_iff.mp h with h | ⟨_, h⟩
    · exact h
    · exact absurd h (List.lt_irrefl _)
  · intro h
    exact List.cons_lt_cons_iff.mpr (.inl h)
theorem minD_signs : ∀ (c : Nat) (cs : List Nat), ∃ m, m ∈ c :: cs ∧ (∀ d ∈ c :: cs, m ≤ d) ∧ PySem.W.minD (.str (sign c)) (cs.map fun c => PyData.str (sign c)) = .str (sign m)
  | c, [] => ⟨c, List.mem_cons_self, fun d hd => by simp at hd; omega, rfl⟩
  | c, d :: r => by
    by_cases h : d < c
    · obtain ⟨m, h1, h2, h3⟩ := minD_signs d r
      refine ⟨m, List.mem_cons_of_mem _ h1, fun x hx => ?_, ?_⟩
      · rcases List.mem_cons.mp hx with rfl | hx
        · have := h2 d List.mem_cons_self
          omega
        · exact h2 x hx
      · rw [← h3]
        unfold PySem.W.minD
        rw [List.map_cons, List.foldl_cons, PySem.W.dataLt_str, decide_eq_true ((sign_lt d c).mpr h)]
        rfl
    · obtain ⟨m, h1, h2, h3⟩ := minD_signs c r
      refine ⟨m, ?_, fun x hx => ?_, ?_⟩
      · rcases List.mem_cons.mp h1 with rfl | h1
        · exact List.mem_cons_self
        · exact List.mem_cons_of_mem _ (List.mem_cons_of_mem _ h1)
      · rcases List.mem_cons.mp hx with rfl | hx
        · exact h2 x List.mem_cons_self
        · rcases List.mem_cons.mp hx with rfl | hx
          · have := h2 c List.mem_cons_self
            omega
          · exact h2 x (List.mem_cons_of_mem _ hx)
      · rw [← h3]
        unfold PySem.W.minD
        rw [List.map_cons, List.foldl_cons, PySem.W.dataLt_str, decide_eq_false (fun q => h ((sign_lt d c).mp q))]
        rfl
theorem cr_minL {X : Cx} (hc : X.calm = true) (hu : X.A.units + 64 < cLine) : CallR X (.builtin "min") (rMinL X.K) := by
  intro pins s σ H vs us Q I r h
  obtain ⟨a, cs, rfl, hs, hne, hlen, q⟩ := h
  obtain ⟨its, rv, hl, hn⟩ := I.list hs
  obtain ⟨u, rfl, ru⟩ := vals1 r
  obtain rfl : u = Value.ref a := ru
  obtain ⟨as, hr⟩ := Dp.readsAll I _ _ its (dp_signs cs) rv
  cases cs with
  | nil => exact absurd rfl hne
  | cons c cs =>
    have al : PySem.W.AlikeAll (((c :: cs)).map fun c => PyData.str (sign c)) := by
      refine ⟨fun x hx y hy => ?_, fun x hx => ?_⟩
      · obtain ⟨i, _, rfl⟩ := List.mem_map.mp hx
        obtain ⟨j, _, rfl⟩ := List.mem_map.mp hy
        rfl
      · obtain ⟨i, _, rfl⟩ := List.mem_map.mp hx
        exact fun q => by cases q
    have dp : ∀ l : List Nat, PyData.depthAll (l.map fun c => PyData.str (sign c)) = 0 := fun l => by
      induction l with
      | nil => rfl
      | cons x r ih => simp [PyData.depthAll, PyData.depth, ih]
    refine PySem.W.min_list_data (x := .str (sign c)) (xs := cs.map fun c => PyData.str (sign c)) (I.ok.hd hc) hl.isList (by simpa using hr) al (by
      have := dp (c :: cs)
      rw [List.map_cons] at this
      omega) fun i v h' tk bs hv hR hk => ?_
    obtain ⟨m, h1, h2, h3⟩ := minD_signs c cs
    rw [h3] at hR
    cases hR with
    | str z t => exact ⟨.str _, H, I.kept (t' := tk) hk, ⟨_, rfl⟩, q m h1 h2⟩
/-! 'a' * 8 -/
def rMulA : R2 := fun x y H Q => x = .str "a" ∧ y = .int 8 ∧ Q (.str "aaaaaaaa") H
theorem op_mulA {X : Cx} : OpR X (binaryOp .Mult) rMulA := by
  intro pins s σ H x y v u Q I rx ry h
  obtain ⟨rfl, rfl, q⟩ := h
  obtain ⟨t, rfl⟩ := rx
  obtain ⟨t', rfl⟩ := ry
  refine P.mul_str (by decide) (fun _ _ => by decide +kernel) (fun _ _ => by decide +kernel) ?_
  have e1 : ((8 : Int) == 1 || ("a" : Str).length == 0) = false := by decide +kernel
  rw [if_neg (by decide), e1]
  have e2 : (⟨(List.replicate (8 : Int).toNat ("a" : Str).cps).foldl (· ++ ·) #[]⟩ : Str) = "aaaaaaaa" := by decide +kernel
  show Made.post (Made.str (⟨(List.replicate (8 : Int).toNat ("a" : Str).cps).foldl (· ++ ·) #[]⟩ : Str)) _ _
  rw [e2]
  exact ⟨by decide +kernel, .str _, H, I.tok _, ⟨_, rfl⟩, q⟩
end Wl

/-! sorted of a list of texts, as a reading; the least of sorted letters stands first. -/
namespace Wl
open PySem PySem.Spec PyProof.Rows L2
def dz (z : Str) : V × PyData := (.str z, .str z)
theorem srt_strs (xs : List Str) : ((xs.map dz).mergeSort (PySem.W.dataLe false (·.2))).map (·.1) = (sortS xs).map V.str := by
  have h : (sortS xs).map dz = (xs.map dz).mergeSort (PySem.W.dataLe false (·.2)) := List.map_mergeSort fun a _ b _ => by
    rw [PySem.W.dataLe_eq]
    exact (le_data_str a b).symm
  rw [← h, List.map_map]
  rfl
theorem srt_reads {K : PySem.W.Frag} {H : Hp} {Q : VK} {a : Addr} {xs : List Str} (h : SqL K H a (xs.map V.str)) (q : ∀ p, H p = none → Q (.ref p) (upd H p (.lst ((sortS xs).map V.str)))) : rSortD K [.ref a] H Q := by
  refine ⟨a, xs.map dz, rfl, ?_, ?_, ?_, ?_, ?_, fun p hp => ?_⟩
  · rw [List.map_map]
    exact h
  · intro b hb
    obtain ⟨x, _, rfl⟩ := List.mem_map.mp hb
    exact .str x
  · intro d hd e he
    obtain ⟨b, hb, rfl⟩ := List.mem_map.mp hd
    obtain ⟨x, _, rfl⟩ := List.mem_map.mp hb
    obtain ⟨c, hc, rfl⟩ := List.mem_map.mp he
    obtain ⟨y, _, rfl⟩ := List.mem_map.mp hc
    rfl
  · refine .inr fun d hd => ?_
    obtain ⟨b, hb, rfl⟩ := List.mem_map.mp hd
    obtain ⟨x, _, rfl⟩ := List.mem_map.mp hb
    exact ⟨(fun e => by cases e), (fun ys e => by cases e)⟩
  · intro b hb
    obtain ⟨x, _, rfl⟩ := List.mem_map.mp hb
    show PyData.depth (.str x) ≤ 8
    simp [PyData.depth]
  · rw [srt_strs]
    exact q p hp
theorem ltS_sign {c d : Nat} : ltS (sign c) (sign d) ↔ c < d := by
  show [c] < [d] ↔ c < d
  constructor
  · intro h
    cases h with
    | rel h => exact h
    | cons h => cases h
  · exact fun h => .rel h
theorem sg_inj1 {c d : Nat} (h : sign c = sign d) : c = d := by
  have e := congrArg (fun z : Str => z.cps.toList) h
  simpa [sign] using e
theorem head_sortS {cs : List Nat} {m : Nat} (hm : m ∈ cs) (hmin : ∀ d ∈ cs, m ≤ d) : (sortS (cs.map sign))[0]? = some (sign m) := by
  have h1 : (sortS (cs.map sign)).Pairwise (fun a b => leB a b = true) := List.pairwise_mergeSort leB_trans leB_total _
  have h2 : sign m ∈ sortS (cs.map sign) := mem_sortS.mpr (List.mem_map.mpr ⟨m, hm, rfl⟩)
  have h3 : ∀ x ∈ sortS (cs.map sign), ∃ c ∈ cs, sign c = x := fun x hx => List.mem_map.mp (mem_sortS.mp hx)
  cases e : sortS (cs.map sign) with
  | nil =>
    rw [e] at h2
    cases h2
  | cons x r =>
    rw [e] at h1 h2 h3
    obtain ⟨c, hc, rfl⟩ := h3 x List.mem_cons_self
    have e2 : c = m := by
      rcases List.mem_cons.mp h2 with h | h
      · exact (sg_inj1 h).symm
      · have q := (List.pairwise_cons.mp h1).1 _ h
        unfold leB at q
        rw [Bool.not_eq_true', decide_eq_false_iff_not, ltS_sign] at q
        have := hmin c hc
        omega
    rw [e2]
    rfl
end Wl

namespace Wl
open PySem PySem.Spec PyProof.Rows L2
def topS (i : Nat) : Stmt := PySem.Challenge.pw_wordlines_k41_near_refused.main.body.getD i (.Pass ⟨0, 0, 0, 0⟩)
end Wl
namespace Wl
open PySem PySem.Spec PyProof.Rows L2
end Wl
namespace Wl
open PySem PySem.Spec PyProof.Rows L2
end Wl
namespace Wl
open PySem PySem.Spec PyProof.Rows L2
abbrev wIsWord : Stmt := topS 31
abbrev wCheck : Stmt := topS 32
abbrev wIsLetter : Stmt := topS 33
abbrev wIsChange : Stmt := topS 34
abbrev wTupTo : Stmt := topS 35
abbrev wChecked : Stmt := topS 36
abbrev wReaches : Stmt := topS 37
abbrev wTurned : Stmt := topS 38
/-! y = {k: v for x in ..} -/
theorem ps_setDc {X : Cx} {i : Nat} {y : Str} {py : Pos} {kx vx tg iter : Expr} {ifs : List Expr} {scope : Scope} {own : List (Str × Nat)} {pos spos : Pos} {wi : TI} {g : TG} {tt : TT} {tk tv : TE} (hc : X.calm = true) (hN : X.N.Nodup) (hy : X.N[i]? = some y) (hyl : X.env.scope.names.lookup y = some .local)
    (hsw : swapsWith (.DictComp kx vx [⟨tg, iter, ifs, 0⟩] scope pos) (some (.Name y py)) spos.line X.env = pure true) (hi : PI X tg iter wi) (ok : BlkOk X.N X.env.scope scope own)
    (hg : ∀ (s : Shared) (H : Hp) (C : Addr) (cl : List (Str × Addr)) (fp : List Addr), PG (X.blk s H scope (compEnvC scope cl C X.env) fp) tg g) (ht : ∀ (s : Shared) (H : Hp) (C : Addr) (cl : List (Str × Addr)) (fp : List Addr), PTs (X.blk s H scope (compEnvC scope cl C X.env) fp) ifs tt)
    (hk : ∀ (s : Shared) (H : Hp) (C : Addr) (cl : List (Str × Addr)) (fp : List Addr), PE (X.blk s H scope (compEnvC scope cl C X.env) fp) kx tk) (he : ∀ (s : Shared) (H : Hp) (C : Addr) (cl : List (Str × Addr)) (fp : List Addr), PE (X.blk s H scope (compEnvC scope cl C X.env) fp) vx tv)
    (hs : ∀ x, foldedSetIterable iter X.env x = pure x := by intro _; rfl) :
    PS X (.Assign [.Name y py] (.DictComp kx vx [⟨tg, iter, ifs, 0⟩] scope pos) spos) (tAsg (tDc wi g tt tk tv (own.map (·.2))) (gName i)) := by
  constructor
  intro pins s σ H D I h
  rw [exec_Assign_Name_used _ _ _ _ hsw]
  refine wpAny_bind (wpAny_standAt (wpAny_bind ?_))
  show wpAny _ X.A (do let _ ← comprehension (.DictComp kx vx [⟨tg, iter, ifs, 0⟩] scope pos) scope X.env (firstIterPos [⟨tg, iter, ifs, 0⟩] pos) newDict false (eval iter X.env) (some (assign (.Name y py) X.env))) _ _ s
  have h2 : tDc wi g tt tk tv (own.map (·.2)) σ H (fun x H1 => gName i x σ H1 D.nx) := h
  refine wpAny_bind (thn (dc_core (Qf := fun _ s' => SP X pins D .next s') hc hN I hi ok hg ht hk he hs h2 fun L C s' m H' I' q hn f => ?_) fun _ s' hq => wpAny_pure (wpAny_pure hq))
  show wpAny _ _ (assign (.Name y py) X.env (.ref L)) _ _ _
  obtain ⟨f0, f1, f2, f3, f4, f5⟩ := f
  refine wpAny_assign_Name (store_ok2 (v := V.ref L) I' hN hy (.inl hyl) rfl (fun s2 I2 ⟨a, sb, ha⟩ => ?_) (.inr hyl))
  have haC : C ≠ a := ha.elim (fun z => z ▸ f1) (fun z e => f4 y a z e.symm)
  exact ⟨m, hn.sameBut sb haC, fun h3 sb3 => ⟨_, H', I2.turned (t' := s2.toks) (fun b o hb e => (sb3.2 b hb).trans e) f0 f1 f3 f4 f5, q⟩⟩
theorem sw_dict {kx vx : Expr} {gs : List Comprehension} {scope : Scope} {pos py : Pos} {y : Str} {l : Nat} {env : Env} (hk : env.scope.kind = .function) (hy : env.scope.names.lookup y = some .local) (hl : (py.line == pos.line) = true)
    (ha : (scope.names.any fun (n, k) => n == y && (k == .local || k == .cell)) = false) : swapsWith (.DictComp kx vx gs scope pos) (some (.Name y py)) l env = pure true := by
  have ky : env.kindOf y = some .local := hy
  have hb : env.blockKind = .function := by
    show env.blockKind = _
    unfold Env.blockKind
    rw [hk]
    rfl
  show (do return env.blockKind == .function && env.kindOf y == some .local && py.line == pos.line && !(scope.names.any fun (n, k) => n == y && (k == .local || k == .cell)) : Sem Bool) = _
  rw [hb, ky, ha, hl]
  rfl

structure Bw (mg : Str → Option Value) : Prop where
  bool : mg "bool" = none
structure Gw (K : PySem.W.Frag) (mg : Str → Option Value) : Prop where
  letters : ∃ t, mg "LETTERS" = some (.str "abcdefghijklmnopqrstuvwxyz" t)
  longest : ∃ t, mg "LONGEST_WORD" = some (.int 8 t)
  mostch : ∃ t, mg "MOST_CHANGES" = some (.int 12 t)
  wheres : ∃ a, mg "WHERES" = some (.ref a) ∧ ∀ H, SqT K H a [.str "first", .str "last", .str "any"]
def letB (c : Nat) : Bool := decide (97 ≤ c) && decide (c ≤ 122)
def letV : V → V
  | .str s => .bl (s.cps.toList.all letB)
  | v => v
theorem letB_mem (c : Nat) : decide (c ∈ ("abcdefghijklmnopqrstuvwxyz" : Str).cps.toList) = letB c := by
  rw [letters_eq]
  unfold letB
  by_cases h : c ∈ List.range' 97 26
  · rw [decide_eq_true h]
    rw [List.mem_range'_1] at h
    simp
    omega
  · rw [decide_eq_false h]
    rw [List.mem_range'_1] at h
    symm
    rw [Bool.and_eq_false_iff, decide_eq_false_iff_not, decide_eq_false_iff_not]
    omega
/-- whether a thing of any kind is a word -/
def Wv (K : PySem.W.Frag) (H : Hp) (v : V) (b : Bool) : Prop := (∃ z, v = .str z ∧ z.length ≤ 1000 ∧ b = wdB z) ∨ (∃ t, TyX K H v t ∧ PySem.W.kitOne K t (.type "str") = some false ∧ b = false)
section
variable {P : Program} {w : World} {K : PySem.W.Frag} {mg : Str → Option Value} {base : Heap} {f : Addr} {fd : FuncData}
def spIsW (K : PySem.W.Frag) : Sp := fun vs H Q _ => ∃ (v : V) (b : Bool), vs = [v] ∧ Wv K H v b ∧ ∀ (H' : Hp), Same H H' → Q (.bl b) H'
abbrev nIsWord : List Str := ["thing", "letter"]
theorem scIsW : FnScope nIsWord ["thing"] (defScope wIsWord) := ⟨rfl, rfl, rfl, by decide +kernel, rfl, by decide +kernel, by decide +kernel⟩
theorem ok_isw (F : Fun K "is_word" "is_word" wIsWord f fd) (B : Bi mg) (G : Gw K mg) : FnOk P w K mg base CX0 1 f fd ["thing"] (spIsW K) := by
  obtain ⟨t1, g1⟩ := G.letters
  obtain ⟨t2, g2⟩ := G.longest
  refine F.ok scIsW (fun vs H Q E h => ?_) (fun cdv A outer s H vs Q E hr h => ?_)
  · obtain ⟨v, b, rfl, _⟩ := h
    rfl
  · obtain ⟨v, b, rfl, hw, q⟩ := h
    refine ⟨_, pss_cons (ps_if (PW.pt (pw_or (pt_not (pt_val (pe_callB call_isi (by rfl) B.isi (by decide +kernel) (pa_cons (pv 0) (pa_cons (pe_bltn (v := .ty "str") (by rfl) B.str (by decide +kernel) rfl) pa_nil)))))
        (pw_or1 (pt_not (pt_chain op_le op_le pe_int (pe_callB call_len_str (by rfl) B.len PySem.boot_len (pa_cons (pv 0) pa_nil)) (pe_glob (v := .int 8) rfl g2 ⟨_, rfl⟩)))))) (pss_one (ps_ret pe_bl)) pss_nil)
      (pss_one (ps_ret (pe_callB (cr_all rfl) (by rfl) B.all (by decide +kernel) (pa_cons (pe_lc (own := [("letter", 1)]) (g := gName 1) (tt := tYes) rfl scIsW.nd (pi_str (pv 0)) (blkOk_by (N := nIsWord) (sc := defScope wIsWord) (by decide +kernel))
        (fun _ _ _ _ _ => pg_name (i := 1) scIsW.nd rfl (.inl rfl)) (fun _ _ _ _ _ => pts_nil) (fun _ _ _ _ _ => pe_cmpR op_in_sign (pv 1) (pe_glob (v := .str "abcdefghijklmnopqrstuvwxyz") rfl g1 ⟨_, rfl⟩) rfl)) pa_nil)))), ?_⟩
    rcases hw with ⟨z, rfl, hz, rfl⟩ | ⟨t, ty, hk, rfl⟩
    · refine ⟨_, rfl, _, _, _, _, _, rfl, .ty "str", .base (.str z), kit_ty (r := true) (by decide +kernel), true, rfl, ?_⟩
      refine iteF ⟨_, rfl, _, rfl, lzl hz, _, _, rfl, rfl, _, rfl, ite_b (fun e1 => ?_) (fun e1 => ?_)⟩
      · refine ⟨_, _, rfl, rfl, _, rfl, not_b (fun e2 => ?_) (fun e2 => ?_)⟩
        · have e2' : ¬ ((z.length : Int) ≤ 8) := of_decide_eq_false e2
          have : wdB z = false := by
            unfold wdB
            rw [decide_eq_false (show ¬ z.length ≤ 8 by omega)]
            simp
          rw [← this]
          exact q H (Same.refl H)
        · have h1 : 1 ≤ z.length := by
            have := of_decide_eq_true e1
            omega
          have h8 : z.length ≤ 8 := by
            have := of_decide_eq_true e2
            omega
          refine ⟨_, rfl, _, rfl, fun D hD => lc_map walk_signs hD (fun _ => true) letV (fun _ _ => trivial) (fun _ => rfl) (fun x H' _ _ Q' q' => q') ?_ ?_ ?_⟩
          · intro x H' hx _ _ Q' q'
            obtain ⟨c, hc, rfl⟩ := List.mem_map.mp hx
            refine ⟨_, rfl, c, _, rfl, rfl, ?_⟩
            rw [letB_mem]
            have : letV (.str (sign c)) = .bl (letB c) := by
              show V.bl ([c].all letB) = _
              simp
            rw [this] at q'
            exact q'
          · unfold signsOf
            rw [List.length_map, Array.length_toList]
            exact small1000 (by have : z.length = z.cps.size := rfl; omega)
          · intro H' s' hD'
            have e0 : ((signsOf z).filter fun _ => true).map letV = (z.cps.toList.map letB).map V.bl := by
              rw [List.filter_eq_self.mpr fun _ _ => rfl]
              unfold signsOf
              rw [List.map_map, List.map_map]
              refine List.map_congr_left fun c _ => ?_
              show V.bl ([c].all letB) = _
              simp
            refine ⟨D, z.cps.toList.map letB, rfl, .inl (.inl (by rw [hD', e0])), ?_⟩
            have : (z.cps.toList.map letB).all id = wdB z := by
              unfold wdB
              rw [decide_eq_true h1, decide_eq_true h8, List.all_map]
              rfl
            rw [this]
            exact q H' s'
      · refine ⟨false, rfl, iteT ?_⟩
        have : wdB z = false := by
          have e1' : ¬ ((1 : Int) ≤ z.length) := of_decide_eq_false e1
          unfold wdB
          rw [decide_eq_false (show ¬ 1 ≤ z.length by omega)]
          simp
        rw [← this]
        exact q H (Same.refl H)
    · exact ⟨_, rfl, _, _, _, _, _, rfl, .ty "str", ty, hk, false, rfl, iteT (q H (Same.refl H))⟩
theorem wv_wd {K : PySem.W.Frag} {H : Hp} {z : Str} (h : IsWd z) : Wv K H (.str z) true := .inl ⟨z, rfl, by have := h.len; omega, (show wdB z = true from h).symm⟩
theorem sign_wd {c : Nat} (h : isLet c) : IsWd (sign c) := wd_codes.mpr ⟨⟨Nat.le_refl 1, Nat.le_of_ble_eq_true rfl⟩, fun d hd => by
  have : d = c := by simpa [codes, sign] using hd
  rw [this]
  exact h⟩
/-! ### check_word, is_letter -/
def spCheckW : Sp := fun vs H Q _ => ∃ (z : Str), vs = [.str z] ∧ IsWd z ∧ ∀ (H' : Hp), Same H H' → Q .non H'
theorem scCheckW : FnScope ["word"] ["word"] (defScope wCheck) := ⟨rfl, rfl, rfl, by decide +kernel, rfl, by decide +kernel, by decide +kernel⟩
theorem ok_checkw (F : Fun K "check_word" "check_word" wCheck f fd) (hI : Has P w K mg base "is_word" 1 ["thing"] (spIsW K)) : FnOk P w K mg base CX0 2 f fd ["word"] spCheckW := by
  refine F.ok scCheckW (fun vs H Q E h => ?_) (fun cdv A outer s H vs Q E hr h => ?_)
  · obtain ⟨z, rfl, _⟩ := h
    rfl
  · obtain ⟨z, rfl, hz, q⟩ := h
    exact ⟨_, pss_one (ps_if (pt_not (pt_val (pe_h hI hr (pa_cons (pv 0) pa_nil)))) (pss_one ps_never) pss_nil), _, rfl, _, true, rfl, wv_wd hz, fun H1 s1 => ⟨_, rfl, iteF (q H1 s1)⟩⟩
def spIsLet : Sp := fun vs H Q _ => ∃ (c : Nat), vs = [sgV c] ∧ isLet c ∧ ∀ (H' : Hp), Same H H' → Q (.bl true) H'
theorem scIsLet : FnScope ["thing"] ["thing"] (defScope wIsLetter) := ⟨rfl, rfl, rfl, by decide +kernel, rfl, by decide +kernel, by decide +kernel⟩
theorem ok_islet (F : Fun K "is_letter" "is_letter" wIsLetter f fd) (B : Bi mg) (hI : Has P w K mg base "is_word" 1 ["thing"] (spIsW K)) : FnOk P w K mg base CX0 2 f fd ["thing"] spIsLet := by
  refine F.ok scIsLet (fun vs H Q E h => ?_) (fun cdv A outer s H vs Q E hr h => ?_)
  · obtain ⟨z, rfl, _⟩ := h
    rfl
  · obtain ⟨c, rfl, hc, q⟩ := h
    refine ⟨_, pss_one (ps_ret (pe_and (pe_h hI hr (pa_cons (pv 0) pa_nil)) (pe_one (pe_cmpR op_eq (pe_callB call_len_str (by rfl) B.len PySem.boot_len (pa_cons (pv 0) pa_nil)) pe_int (nomark _))))), ?_⟩
    refine ⟨_, rfl, _, true, rfl, wv_wd (sign_wd hc), fun H1 s1 => ⟨true, rfl, iteT ⟨_, rfl, _, rfl, lz, rfl, ?_⟩⟩⟩
    rw [show decide (V.int ((sign c).length : Int) = V.int 1) = true from decide_eq_true rfl]
    exact q H1 s1
/-! ### changes -/
def chV (ch : Chg) : List V := [sgV ch.1, sgV ch.2.1, .str (whS ch.2.2)]
theorem wh_dec (a b : Wh) : decide (V.str (whS a) = V.str (whS b)) = decide (a = b) := by
  cases a <;> cases b <;> decide +kernel
theorem sg_dec (a b : Nat) : decide (sgV a = sgV b) = decide (a = b) := by
  by_cases h : a = b
  · subst h
    simp
  · have : sgV a ≠ sgV b := fun e => h (by
      have e2 := congrArg (fun z : Str => z.cps.toList) (V.str.inj e)
      simpa [sign] using e2)
    rw [decide_eq_false h, decide_eq_false this]
def spIsCh : Sp := fun vs H Q _ => ∃ (p : Addr) (ch : Chg), vs = [.ref p] ∧ H p = some (.tup (chV ch)) ∧ OkC ch ∧ ∀ (H' : Hp), Same H H' → Q (.bl true) H'
abbrev nIsCh : List Str := ["thing", "one", "other", "where"]
theorem scIsCh : FnScope nIsCh ["thing"] (defScope wIsChange) := ⟨rfl, rfl, rfl, by decide +kernel, rfl, by decide +kernel, by decide +kernel⟩
theorem ok_isch (F : Fun K "is_change" "is_change" wIsChange f fd) (B : Bi mg) (G : Gw K mg) (hL : Has P w K mg base "is_letter" 2 ["thing"] spIsLet) : FnOk P w K mg base CX0 3 f fd ["thing"] spIsCh := by
  obtain ⟨wa, gw, hw⟩ := G.wheres
  refine F.ok scIsCh (fun vs H Q E h => ?_) (fun cdv A outer s H vs Q E hr h => ?_)
  · obtain ⟨p, ch, rfl, _⟩ := h
    rfl
  · obtain ⟨p, ch, rfl, hp, ok, q⟩ := h
    refine ⟨_, pss_cons (ps_if (PW.pt (pw_or (pt_not (pt_val (pe_callB call_isi (by rfl) B.isi (by decide +kernel) (pa_cons (pv 0) (pa_cons (pe_bltn (v := .ty "tuple") (by rfl) B.tuple (by decide +kernel) rfl) pa_nil)))))
        (pw_or1 (pt_cmpR op_ne (pe_callB call_len_seq (by rfl) B.len PySem.boot_len (pa_cons (pv 0) pa_nil)) pe_int (nomark _))))) (pss_one (ps_ret pe_bl)) pss_nil)
      (pss_cons (ps_asg (pv 0) (pg_tup rfl (pgs_cons (pg_name (i := 1) scIsCh.nd rfl (.inl rfl)) (pgs_cons (pg_name (i := 2) scIsCh.nd rfl (.inl rfl)) (pgs_cons (pg_name (i := 3) scIsCh.nd rfl (.inl rfl)) pgs_nil)))))
      (pss_cons (ps_if (PW.pt (pw_or (pt_not (pt_val (pe_h hL hr (pa_cons (pv 1) pa_nil)))) (pw_or (pt_not (pt_val (pe_h hL hr (pa_cons (pv 2) pa_nil)))) (pw_or1 (pt_cmpR op_eq (pv 1) (pv 2) (nomark _)))))) (pss_one (ps_ret pe_bl)) pss_nil)
      (pss_one (ps_ret (pe_and (pe_callB call_isi (by rfl) B.isi (by decide +kernel) (pa_cons (pv 3) (pa_cons (pe_bltn (v := .ty "str") (by rfl) B.str (by decide +kernel) rfl) pa_nil))) (pe_one (pe_cmpR op_in_seq (pv 3) (pe_glob (v := .ref wa) rfl gw rfl) (by rfl)))))))), ?_⟩
    refine ⟨_, rfl, _, _, _, _, _, rfl, .ty "tuple", .base (.tup hp), kit_ty (r := true) (by decide +kernel), true, rfl, ?_⟩
    refine iteF ⟨_, rfl, p, _, rfl, .inr (.inl (.inl hp)), rfl, _, rfl, ?_⟩
    refine iteNS rfl ?_
    refine ⟨_, rfl, p, _, rfl, .inl (.inl hp), rfl, _, _, rfl, _, _, rfl, _, _, rfl, rfl, ?_⟩
    refine ⟨_, rfl, ch.1, rfl, ok.1, fun H1 s1 => ⟨true, rfl, iteF ⟨_, rfl, ch.2.1, rfl, ok.2.1, fun H2 s2 => ⟨true, rfl, iteF ⟨_, rfl, _, rfl, rfl, _, rfl, ?_⟩⟩⟩⟩⟩
    rw [sg_dec, decide_eq_false ok.2.2]
    refine iteF ⟨_, rfl, _, _, _, _, _, rfl, .ty "str", .base (.str _), kit_ty (r := true) (by decide +kernel), true, rfl, iteT ⟨_, rfl, wa, _, rfl, .inr (hw H2), rfl, rfl, ?_⟩⟩
    have e : inV (.str (whS ch.2.2)) [.str "first", .str "last", .str "any"] = true := by
      generalize ch.2.2 = wh
      cases wh <;> decide +kernel
    rw [if_neg (by decide), e]
    exact q H2 (s1.trans s2)
/-- a tuple of changes -/
def ChAt (H : Hp) (S : Addr) (chs : List Chg) : Prop := ∃ as : List Addr, H S = some (.tup (as.map V.ref)) ∧ Each (fun (p : Addr) (ch : Chg) => H p = some (.tup (chV ch))) as chs
theorem ChAt.keep {H H' : Hp} {S : Addr} {chs : List Chg} (h : ChAt H S chs) (k : ∀ p xs, H p = some (.tup xs) → H' p = some (.tup xs)) : ChAt H' S chs := by
  obtain ⟨as, h1, h2⟩ := h
  exact ⟨as, k _ _ h1, h2.mono fun p ch e => k _ _ e⟩
theorem ChAt.same {H H' : Hp} {S : Addr} {chs : List Chg} (h : ChAt H S chs) (s : Same H H') : ChAt H' S chs := h.keep fun p xs e => s _ _ e
def OkCs (chs : List Chg) : Prop := chs.length ≤ 12 ∧ ∀ ch ∈ chs, OkC ch
/-- what is handed in for changes: None, or a tuple of them -/
def ChV (H : Hp) (v : V) (chs : List Chg) : Prop := (v = .non ∧ chs = []) ∨ ∃ S, v = .ref S ∧ ChAt H S chs
theorem ChV.same {H H' : Hp} {v : V} {chs : List Chg} (h : ChV H v chs) (s : Same H H') : ChV H' v chs := by
  rcases h with h | ⟨S, e, h⟩
  · exact .inl h
  · exact .inr ⟨S, e, h.same s⟩
def spChecked : Sp := fun vs H Q _ => ∃ (v : V) (chs : List Chg), vs = [v] ∧ ChV H v chs ∧ OkCs chs ∧ ∀ (S : Addr) (H' : Hp), Same H H' → ChAt H' S chs → Q (.ref S) H'
abbrev nChecked : List Str := ["changes", "place", "change"]
theorem scChecked : FnScope nChecked ["changes"] (defScope wChecked) := ⟨rfl, rfl, rfl, by decide +kernel, rfl, by decide +kernel, by decide +kernel⟩
/-! ### is_tuple_up_to -/
def spTupTo : Sp := fun vs H Q _ => ∃ (S : Addr) (xs : List V) (n : Int), vs = [.ref S, .int n] ∧ H S = some (.tup xs) ∧ Q (.bl (decide ((xs.length : Int) ≤ n))) H
theorem scTupTo : FnScope ["thing", "most"] ["thing", "most"] (defScope wTupTo) := ⟨rfl, rfl, rfl, by decide +kernel, rfl, by decide +kernel, by decide +kernel⟩
theorem ok_tupto (F : Fun K "is_tuple_up_to" "is_tuple_up_to" wTupTo f fd) (B : Bi mg) : FnOk P w K mg base CX0 1 f fd ["thing", "most"] spTupTo := by
  refine F.ok scTupTo (fun vs H Q E h => ?_) (fun cdv A outer s H vs Q E hr h => ?_)
  · obtain ⟨S, xs, n, rfl, _⟩ := h
    rfl
  · obtain ⟨S, xs, n, rfl, hS, q⟩ := h
    refine ⟨_, pss_one (ps_ret (pe_and (pe_callB call_isi (by rfl) B.isi (by decide +kernel) (pa_cons (pv 0) (pa_cons (pe_bltn (v := .ty "tuple") (by rfl) B.tuple (by decide +kernel) rfl) pa_nil))) (pe_one (pe_cmpR op_le (pe_callB call_len_seq (by rfl) B.len PySem.boot_len (pa_cons (pv 0) pa_nil)) (pv 1) (nomark _))))), ?_⟩
    exact ⟨_, rfl, _, _, _, _, _, rfl, .ty "tuple", .base (.tup hS), kit_ty (r := true) (by decide +kernel), true, rfl, iteT ⟨_, rfl, S, _, rfl, .inr (.inl (.inl hS)), _, rfl, _, _, rfl, rfl, q⟩⟩
theorem ok_checked (F : Fun K "checked_changes" "checked_changes" wChecked f fd) (B : Bi mg) (G : Gw K mg) (hTu : Has P w K mg base "is_tuple_up_to" 1 ["thing", "most"] spTupTo) (hC : Has P w K mg base "is_change" 3 ["thing"] spIsCh) : FnOk P w K mg base CX0 4 f fd ["changes"] spChecked := by
  obtain ⟨t1, g1⟩ := G.mostch
  refine F.ok scChecked (fun vs H Q E h => ?_) (fun cdv A outer s H vs Q E hr h => ?_)
  · obtain ⟨v, chs, rfl, _⟩ := h
    rfl
  · obtain ⟨v, chs, rfl, hv, ok, q⟩ := h
    refine ⟨_, pss_cons (ps_if (pt_cmp (pc_isN (pv 0))) (pss_one (ps_ret (pe_tup pa_nil))) pss_nil)
      (pss_cons (ps_if (pt_not (pt_val (pe_h hTu hr (pa_cons (pv 0) (pa_cons (pe_glob (v := .int 12) rfl g1 ⟨_, rfl⟩) pa_nil))))) (pss_one ps_never) pss_nil)
      (pss_cons (ps_for PassesOwn.never rfl (pi_enumT (by rfl) B.enum (pa_cons (pv 0) pa_nil)) (pg_tup rfl (pgs_cons (pg_name (i := 1) scChecked.nd rfl (.inl rfl)) (pgs_cons (pg_name (i := 2) scChecked.nd rfl (.inl rfl)) pgs_nil)))
        (pss_one (ps_if (pt_not (pt_val (pe_h hC hr (pa_cons (pv 2) pa_nil)))) (pss_one ps_never) pss_nil)))
      (pss_one (ps_ret (pv 0))))), ?_⟩
    rcases hv with ⟨rfl, rfl⟩ | ⟨S, rfl, as, hS, hE⟩
    · exact ⟨_, rfl, _, rfl, iteT ⟨lz, fun p hp => q p _ (same_new hp) ⟨[], upd_same, .nil⟩⟩⟩
    · refine ⟨_, rfl, _, rfl, iteF ?_⟩
      have hl : (as.map V.ref).length = chs.length := by rw [List.length_map, hE.length]
      refine ⟨_, rfl, S, _, 12, rfl, hS, _, rfl, ?_⟩
      rw [hl, decide_eq_true (by have := ok.1; omega)]
      refine iteF ⟨_, rfl, S, _, rfl, .inl (.inl hS), for_it (walk_enumT (K := K) (a := S) (xs := as.map V.ref)) (fun i σ H' => (∃ y1 y2, σ = [some (.ref S), y1, y2]) ∧ Same H H') ⟨⟨_, _, rfl⟩, Same.refl H⟩ (fun i σ H' _ h => .inl (.inl (h.2 _ _ hS))) ?_ ?_⟩
      · rintro i x σ H1 H2 hi ⟨⟨y1, y2, rfl⟩, s1⟩ ⟨T, x1, x2, rfl, hT, rfl, ex1, ex2⟩
        cases ex1
        have ex2 : (as.map V.ref)[i]? = some x2 := ex2
        rw [List.getElem?_map] at ex2
        obtain ⟨p, hp, rfl⟩ := Option.map_eq_some_iff.mp ex2
        obtain ⟨ch, hch, hH⟩ := hE.get hp
        have s2 : Same H1 (upd H1 T (.tup [.int i, .ref p])) := same_new hT
        refine ⟨T, _, rfl, .inl (.inl upd_same), rfl, _, _, rfl, _, _, rfl, rfl, ?_⟩
        exact ⟨_, rfl, p, ch, rfl, s2 _ _ (s1 _ _ hH), ok.2 ch (List.mem_of_getElem? hch), fun H3 s3 => ⟨true, rfl, iteF ⟨⟨_, _, rfl⟩, (s1.trans s2).trans s3⟩⟩⟩
      · rintro σ H1 ⟨⟨y1, y2, rfl⟩, s1⟩
        exact ⟨_, rfl, q S H1 s1 ⟨as, s1 _ _ hS, hE.mono fun p ch e => s1 _ _ e⟩⟩
/-! ### reaches -/
def spReaches : Sp := fun vs H Q _ => ∃ (wh : Wh) (i n : Nat), vs = [.str (whS wh), .int i, .int n] ∧ Q (.bl (acts wh i n)) H
theorem scReaches : FnScope ["where", "place", "length"] ["where", "place", "length"] (defScope wReaches) := ⟨rfl, rfl, rfl, by decide +kernel, rfl, by decide +kernel, by decide +kernel⟩
theorem int_dec (a b : Int) : decide (V.int a = V.int b) = decide (a = b) := by
  by_cases h : a = b
  · subst h
    simp
  · rw [decide_eq_false h, decide_eq_false fun e => h (V.int.inj e)]
theorem ok_reaches (F : Fun K "reaches" "reaches" wReaches f fd) : FnOk P w K mg base CX0 1 f fd ["where", "place", "length"] spReaches := by
  refine F.ok scReaches (fun vs H Q E h => ?_) (fun cdv A outer s H vs Q E hr h => ?_)
  · obtain ⟨wh, i, n, rfl, _⟩ := h
    rfl
  · obtain ⟨wh, i, n, rfl, q⟩ := h
    refine ⟨_, pss_cons (ps_if (pt_cmpR op_eq (pv 0) pe_str (nomark _)) (pss_one (ps_ret (pe_cmpR op_eq (pv 1) pe_int (nomark _)))) pss_nil)
      (pss_cons (ps_if (pt_cmpR op_eq (pv 0) pe_str (nomark _)) (pss_one (ps_ret (pe_cmpR op_eq (pv 1) (pe_op op_sub (pv 2) pe_int) (nomark _)))) pss_nil)
      (pss_one (ps_ret pe_bl))), ?_⟩
    have e1 : decide (V.str (whS wh) = V.str "first") = decide (wh = .first) := wh_dec wh .first
    have e2 : decide (V.str (whS wh) = V.str "last") = decide (wh = .last) := wh_dec wh .last
    refine ⟨_, rfl, rfl, _, rfl, ?_⟩
    rw [e1]
    cases wh with
    | first =>
      refine iteT ⟨_, rfl, rfl, ?_⟩
      rw [int_dec]
      have : decide ((i : Int) = 0) = acts .first i n := by
        unfold acts
        by_cases h : i = 0
        · simp [h]
        · simp [h]
      rw [this]
      exact q
    | last =>
      refine iteF ⟨_, rfl, rfl, _, rfl, ?_⟩
      rw [e2]
      refine iteT ⟨_, rfl, _, rfl, _, _, rfl, rfl, rfl, ?_⟩
      rw [int_dec]
      have : decide ((i : Int) = (n : Int) - 1) = acts .last i n := by
        unfold acts
        by_cases h : i + 1 = n
        · rw [decide_eq_true h, decide_eq_true (by omega)]
        · rw [decide_eq_false h, decide_eq_false (by omega)]
      rw [this]
      exact q
    | any =>
      refine iteF ⟨_, rfl, rfl, _, rfl, ?_⟩
      rw [e2]
      exact iteF q
end
end Wl




namespace Wl
open PySem PySem.Spec PyProof.Rows L2
abbrev wSteps : Stmt := topS 39
/-! a dict comprehension over a walk -/
theorem dc_it {J : It} {n : Nat} {G : Hp → Prop} {Y : Nat → Hp → V → Hp → Prop} (w : L2.Walk J n G Y) {g : TG} {tt : TT} {tk tv : TE} {vs : List Nat} {σ : L2.St} {H1 : Hp} {D : Addr} {Qd : Hp → Prop} (Pv : Nat → Hp → Prop) (h0 : Pv 0 (upd H1 D (.dK []))) (hG : ∀ i H, i ≤ n → Pv i H → G H)
    (hs : ∀ i x H H', i < n → Pv i H → Y i H x H' → g x (wipe σ vs) H' fun σ2 H2 => wipe σ2 vs = wipe σ vs ∧ tt σ2 H2 fun b H3 =>
      if b = true then tk σ2 H3 fun y H4 => tv σ2 H4 fun z H5 => ∃ kvs k, y = kV k ∧ H5 D = some (.dK kvs) ∧ kvs.length < sizeLine ∧ Pv (i + 1) (upd H5 D (.dK (putK kvs k z))) else Pv (i + 1) H3) (hd : ∀ H, Pv n H → Qd H) :
    ∃ W : Nat → Nat → Hp → Prop, (∃ m, W 0 m (upd H1 D (.dK []))) ∧ ∀ i m H, W i m H →
      (J.stop i H ∧ Qd H) ∨ (J.go i H ∧ ∃ Nx : Hp → Prop, (∀ H', Nx H' → ∃ m', m' < m ∧ W (i + 1) m' H') ∧ ∀ x H', J.yld i H x H' → g x (wipe σ vs) H' fun σ2 H2 => wipe σ2 vs = wipe σ vs ∧ tt σ2 H2 fun b H3 =>
        if b = true then tk σ2 H3 fun y H4 => tv σ2 H4 fun z H5 => ∃ kvs k, y = kV k ∧ H5 D = some (.dK kvs) ∧ kvs.length < sizeLine ∧ Nx (upd H5 D (.dK (putK kvs k z))) else Nx H3) := by
  refine ⟨fun i m H => m = n - i ∧ i ≤ n ∧ Pv i H, ⟨n, by simp, Nat.zero_le _, h0⟩, ?_⟩
  rintro i m H ⟨rfl, hi, p⟩
  have q := hG i H hi p
  by_cases hlt : i < n
  · exact .inr ⟨w.goes i H hlt q, Pv (i + 1), fun H' p' => ⟨n - (i + 1), by omega, rfl, hlt, p'⟩, fun x H' y => hs i x H H' hlt p (w.yields i H x H' hlt q y)⟩
  · have e : i = n := by omega
    subst e
    exact .inl ⟨w.stops H q, hd H p⟩
abbrev kS (c : Nat) : Key := Sum.inr (sign c)
theorem kS_inj {a b : Nat} (h : kS a = kS b) : a = b := by
  have e := congrArg (fun z : Str => z.cps.toList) (Sum.inr.inj h)
  simpa [sign] using e
def kvL (ad : Nat → V) (l : List Nat) : List (Key × V) := l.map fun c => (kS c, ad c)
theorem valV_kvL (ad : Nat → V) (c : Nat) : ∀ l : List Nat, valV (kvL ad l) (kS c) = if c ∈ l then some (ad c) else none
  | [] => rfl
  | d :: r => by
    by_cases h : d = c
    · subst h
      rw [if_pos List.mem_cons_self]
      exact valV_pos rfl
    · have h1 : valV (kvL ad (d :: r)) (kS c) = valV (kvL ad r) (kS c) := valV_neg fun e => h (kS_inj e)
      rw [h1, valV_kvL ad c r]
      have h2 : (c ∈ d :: r) = (c ∈ r) := by
        simp only [List.mem_cons, eq_iff_iff]
        constructor
        · rintro (e | e)
          · exact absurd e.symm h
          · exact e
        · exact .inr
      simp only [h2]
theorem kvL_congr {a b : Nat → V} {l : List Nat} (h : ∀ c ∈ l, a c = b c) : kvL a l = kvL b l := List.map_congr_left fun c hc => by rw [h c hc]
structure TurnI (H : Hp) (D : Addr) (ad : Nat → Addr) (E : Edges) : Prop where
  dict : H D = some (.dK (kvL (fun c => .ref (ad c)) (List.range' 97 26)))
  lst : ∀ c, isLet c → H (ad c) = some (.lst ((nbrs E c).map sgV))
  inj : ∀ c d, isLet c → isLet d → ad c = ad d → c = d
theorem let_mem {c : Nat} : isLet c ↔ c ∈ List.range' 97 26 := by
  rw [List.mem_range'_1]
  unfold isLet
  omega
def TurnAt (H : Hp) (D : Addr) (E : Edges) : Prop := ∃ ad, TurnI H D ad E
theorem TurnI.val {H : Hp} {D : Addr} {ad : Nat → Addr} {E : Edges} (t : TurnI H D ad E) {c : Nat} (h : isLet c) : DGet H D (sgV c) (some (.ref (ad c))) := by
  have := DGet.k (k := kS c) t.dict
  rw [valV_kvL, if_pos (let_mem.mp h)] at this
  exact this
theorem TurnI.same {H H' : Hp} {D : Addr} {ad : Nat → Addr} {E : Edges} (t : TurnI H D ad E) (s : Same H H') : TurnI H' D ad E := ⟨s _ _ t.dict, fun c h => s _ _ (t.lst c h), t.inj⟩
theorem room1 {k : Nat} {A : Around} (r : Room k A) : A.units + 1 < cLine := by have := r.un; omega
theorem nbrs_len (E : Edges) (c : Nat) : (nbrs E c).length ≤ 2 * E.length := by
  induction E with
  | nil => simp [nbrs]
  | cons e r ih =>
    have h1 : nbrs (e :: r) c = nbE c e ++ nbrs r c := rfl
    have h2 : (nbE c e).length ≤ 2 := by
      unfold nbE
      split <;> split <;> simp
    rw [h1, List.length_append, List.length_cons]
    omega
theorem es_len (chs : List Chg) (i n : Nat) : (es chs i n).length ≤ chs.length := by
  unfold es
  rw [List.length_map]
  exact List.length_filter_le _ _
theorem es_snoc (l : List Chg) (ch : Chg) (i n : Nat) : es (l ++ [ch]) i n = es l i n ++ (if acts ch.2.2 i n = true then [(ch.1, ch.2.1)] else []) := by
  unfold es
  rw [List.filter_append, List.map_append]
  by_cases h : acts ch.2.2 i n = true
  · simp [h]
  · simp [h]
theorem signs_abc : signsOf "abcdefghijklmnopqrstuvwxyz" = (List.range' 97 26).map sgV := by
  unfold signsOf
  rw [letters_eq]
  rfl
theorem TurnI.push {H : Hp} {D : Addr} {ad : Nat → Addr} {E : Edges} (t : TurnI H D ad E) {a b : Nat} (ha : isLet a) (hb : isLet b) (hn : a ≠ b) :
    TurnI (upd (upd H (ad a) (.lst ((nbrs E a).map sgV ++ [sgV b]))) (ad b) (.lst ((nbrs E b).map sgV ++ [sgV a]))) D ad (E ++ [(a, b)]) := by
  have nab : ad a ≠ ad b := fun e => hn (t.inj a b ha hb e)
  have nd : ∀ c, isLet c → D ≠ ad c := fun c hc => ne_of t.dict (t.lst c hc) (by intro z; cases z)
  refine ⟨?_, fun c hc => ?_, t.inj⟩
  · rw [upd_ne (nd b hb), upd_ne (nd a ha)]
    exact t.dict
  · rw [nbrs_snoc]
    by_cases h1 : b = c
    · subst h1
      rw [upd_same, if_neg hn, if_pos rfl, List.map_append]
      rfl
    · have n1 : ad c ≠ ad b := fun e => h1 (t.inj c b hc hb e).symm
      rw [upd_ne n1, if_neg h1]
      by_cases h2 : a = c
      · subst h2
        rw [upd_same, if_pos rfl, List.map_append]
        rfl
      · have n2 : ad c ≠ ad a := fun e => h2 (t.inj c a hc ha e).symm
        rw [upd_ne n2, if_neg h2, t.lst c hc]
        simp
section
variable {P : Program} {w : World} {K : PySem.W.Frag} {mg : Str → Option Value} {base : Heap} {f : Addr} {fd : FuncData}
def spTurned : Sp := fun vs H Q _ => ∃ (S : Addr) (chs : List Chg) (i n : Nat), vs = [.ref S, .int i, .int n] ∧ ChAt H S chs ∧ OkCs chs ∧ ∀ (D : Addr) (H' : Hp), Same H H' → TurnAt H' D (es chs i n) → Q (.ref D) H'
abbrev nTurned : List Str := ["changes", "place", "length", "turned", "letter", "one", "other", "where"]
theorem scTurned : FnScope nTurned ["changes", "place", "length"] (defScope wTurned) := ⟨rfl, rfl, rfl, by decide +kernel, rfl, by decide +kernel, by decide +kernel⟩
theorem ok_turned (F : Fun K "turned_letters" "turned_letters" wTurned f fd) (G : Gw K mg) (hR : Has P w K mg base "reaches" 1 ["where", "place", "length"] spReaches) : FnOk P w K mg base CX0 2 f fd ["changes", "place", "length"] spTurned := by
  obtain ⟨t1, g1⟩ := G.letters
  refine F.ok scTurned (fun vs H Q E h => ?_) (fun cdv A outer s H vs Q E hr h => ?_)
  · obtain ⟨S, chs, i, n, rfl, _⟩ := h
    rfl
  · obtain ⟨S, chs, pl, n, rfl, ⟨as, hS, hE⟩, ok, q⟩ := h
    refine ⟨_, pss_cons (ps_setDc (i := 3) (own := [("letter", 4)]) (g := gName 4) (tt := tYes) rfl scTurned.nd rfl rfl (sw_dict rfl rfl rfl rfl) (pi_str (pe_glob (v := .str "abcdefghijklmnopqrstuvwxyz") rfl g1 ⟨_, rfl⟩)) (blkOk_by (N := nTurned) (sc := defScope wTurned) (by decide +kernel))
        (fun _ _ _ _ _ => pg_name (i := 4) scTurned.nd rfl (.inl rfl)) (fun _ _ _ _ _ => pts_nil) (fun _ _ _ _ _ => pv 4) (fun _ _ _ _ _ => pe_lst pa_nil))
      (pss_cons (ps_for PassesOwn.never rfl (pi_tup (pv 0)) (pg_tup rfl (pgs_cons (pg_name (i := 5) scTurned.nd rfl (.inl rfl)) (pgs_cons (pg_name (i := 6) scTurned.nd rfl (.inl rfl)) (pgs_cons (pg_name (i := 7) scTurned.nd rfl (.inl rfl)) pgs_nil))))
        (pss_one (ps_if (pt_val (pe_h hR hr (pa_cons (pv 7) (pa_cons (pv 1) (pa_cons (pv 2) pa_nil)))))
          (pss_cons (ps_expr (pe_bm PySem.F.plainAttrs_list PySem.F.slot_list_append PySem.F.type_list_append mt_append (pe_dget (room1 hr) (pv 3) (pv 5) (fun _ _ => rfl)) (pa_cons (pv 6) pa_nil)))
          (pss_one (ps_expr (pe_bm PySem.F.plainAttrs_list PySem.F.slot_list_append PySem.F.type_list_append mt_append (pe_dget (room1 hr) (pv 3) (pv 6) (fun _ _ => rfl)) (pa_cons (pv 5) pa_nil))))) pss_nil)))
      (pss_one (ps_ret (pv 3)))), ?_⟩
    refine ⟨_, rfl, fun D hD => dc_it walk_signs (fun i H' => ∃ ad : Nat → Addr, Same H H' ∧ H' D = some (.dK (kvL (fun c => .ref (ad c)) (List.range' 97 i))) ∧ (∀ c ∈ List.range' 97 i, H' (ad c) = some (.lst []) ∧ H (ad c) = none) ∧ ∀ c d, c ∈ List.range' 97 i → d ∈ List.range' 97 i → ad c = ad d → c = d) ⟨fun _ => 0, same_new hD, upd_same, fun c hc => by simp at hc, fun c d hc => by simp at hc⟩ (fun _ _ _ _ => trivial) ?_ ?_⟩
    · rintro i x H1 H2 hi ⟨ad, s1, hd, hl, hj⟩ ⟨rfl, hx⟩
      have hi26 : i < 26 := by
        rw [signs_abc, List.length_map, List.length_range'] at hi
        exact hi
      rw [signs_abc, List.getElem?_map, List.getElem?_range' hi26] at hx
      obtain rfl := Option.some.inj hx
      have e97 : 97 + 1 * i = 97 + i := by omega
      rw [e97]
      refine ⟨rfl, yes_it ⟨_, rfl, lz, fun p hp => ⟨_, kS (97 + i), rfl, (same_new hp) _ _ hd, ?_, fun c => if c = 97 + i then p else ad c, ?_, ?_, ?_, ?_⟩⟩⟩
      · unfold kvL
        rw [List.length_map, List.length_range']
        exact small1000 (by omega)
      · exact same_mut (s1.trans (same_new hp)) hD
      · rw [upd_same, putK_new]
        · have e : List.range' 97 (i + 1) = List.range' 97 i ++ [97 + i] := by
            have := List.range'_concat (s := 97) (n := i) (step := 1)
            simpa using this
          rw [e]
          unfold kvL
          rw [List.map_append]
          have e2 : (List.range' 97 i).map (fun c => (kS c, V.ref (if c = 97 + i then p else ad c))) = (List.range' 97 i).map fun c => (kS c, V.ref (ad c)) := List.map_congr_left fun c hc => by
            rw [List.mem_range'_1] at hc
            rw [if_neg (by omega)]
          rw [e2]
          simp
        · rw [valV_kvL, if_neg]
          rw [List.mem_range'_1]
          omega
      · intro c hc
        rw [List.mem_range'_1] at hc
        have nD : p ≠ D := (ne_of_none hd hp).symm
        dsimp only
        by_cases h : c = 97 + i
        · rw [if_pos h]
          exact ⟨by rw [upd_ne nD, upd_same], s1.free hp⟩
        · rw [if_neg h]
          obtain ⟨h1, h2⟩ := hl c (by rw [List.mem_range'_1]; omega)
          have n1 : ad c ≠ D := ne_of h1 hd (by intro z; cases z)
          exact ⟨by rw [upd_ne n1]; exact (same_new hp) _ _ h1, h2⟩
      · intro c d hc hd' e
        rw [List.mem_range'_1] at hc hd'
        dsimp only at e
        have np : ∀ c, c < 97 + i → 97 ≤ c → ad c ≠ p := fun c h1 h2 => ne_of_none (hl c (by rw [List.mem_range'_1]; omega)).1 hp
        by_cases h1 : c = 97 + i <;> by_cases h2 : d = 97 + i
        · omega
        · rw [if_pos h1, if_neg h2] at e
          exact absurd e.symm (np d (by omega) (by omega))
        · rw [if_neg h1, if_pos h2] at e
          exact absurd e (np c (by omega) (by omega))
        · rw [if_neg h1, if_neg h2] at e
          exact hj c d (by rw [List.mem_range'_1]; omega) (by rw [List.mem_range'_1]; omega) e
    · rintro H1 ⟨ad, s1, hd, hl, hj⟩
      have e26 : (signsOf "abcdefghijklmnopqrstuvwxyz").length = 26 := by rw [signs_abc, List.length_map, List.length_range']
      rw [e26] at hd hl hj
      have T1 : TurnI H1 D ad (es (chs.take 0) pl n) := ⟨hd, fun c hc => (hl c (let_mem.mp hc)).1, fun c d hc hd' e => hj c d (let_mem.mp hc) (let_mem.mp hd') e⟩
      refine ⟨_, rfl, S, rfl, ⟨_, .inl (.inl (s1 _ _ hS))⟩, for_it (walk_tup (K := K) (a := S) (xs := as.map V.ref)) (fun i σ H' => (∃ y4 y5 y6 y7, σ = [some (.ref S), some (.int pl), some (.int n), some (.ref D), y4, y5, y6, y7]) ∧ Same H H' ∧ TurnI H' D ad (es (chs.take i) pl n)) ⟨⟨_, _, _, _, rfl⟩, s1, T1⟩ (fun i σ H' _ h => .inl (.inl (h.2.1 _ _ hS))) ?_ ?_⟩
      · rintro i x σ H2 H3 hi ⟨⟨y4, y5, y6, y7, rfl⟩, s2, t2⟩ ⟨rfl, hx⟩
        rw [List.getElem?_map] at hx
        obtain ⟨p, hp, rfl⟩ := Option.map_eq_some_iff.mp hx
        obtain ⟨ch, hch, hH⟩ := hE.get hp
        obtain ⟨o1, o2, o3⟩ := ok.2 ch (List.mem_of_getElem? hch)
        have etk : chs.take (i + 1) = chs.take i ++ [ch] := by rw [List.take_add_one, hch]; rfl
        have lenE : ∀ c, ((nbrs (es (chs.take i) pl n) c).map sgV).length < sizeLine := fun c => by
          rw [List.length_map]
          have h1 := nbrs_len (es (chs.take i) pl n) c
          have h2 := es_len (chs.take i) pl n
          have h3 : (chs.take i).length ≤ chs.length := List.length_take_le' _ _
          have h4 := ok.1
          exact small1000 (by omega)
        refine ⟨p, _, rfl, .inl (.inl (s2 _ _ hH)), rfl, _, _, rfl, _, _, rfl, _, _, rfl, rfl, ?_⟩
        refine ⟨_, rfl, _, rfl, _, rfl, ch.2.2, pl, n, rfl, _, rfl, ite_b (fun e => ?_) (fun e => ?_)⟩
        · refine ⟨_, rfl, _, rfl, D, _, rfl, t2.val o1, .inl ⟨rfl, _, .inl (.inl (t2.lst _ o1))⟩, _, rfl, ad ch.1, _, _, rfl, rfl, t2.lst _ o1, lenE _, ?_⟩
          have nab : ad ch.2.1 ≠ ad ch.1 := fun e => o3 (t2.inj _ _ o2 o1 e).symm
          have hb : upd H3 (ad ch.1) (.lst ((nbrs (es (chs.take i) pl n) ch.1).map sgV ++ [sgV ch.2.1])) (ad ch.2.1) = some (.lst ((nbrs (es (chs.take i) pl n) ch.2.1).map sgV)) := by
            rw [upd_ne nab]
            exact t2.lst _ o2
          have hDg : DGet (upd H3 (ad ch.1) (.lst ((nbrs (es (chs.take i) pl n) ch.1).map sgV ++ [sgV ch.2.1]))) D (sgV ch.2.1) (some (.ref (ad ch.2.1))) := by
            have nD : D ≠ ad ch.1 := ne_of t2.dict (t2.lst _ o1) (by intro z; cases z)
            have := DGet.k (k := kS ch.2.1) (show upd H3 (ad ch.1) (.lst ((nbrs (es (chs.take i) pl n) ch.1).map sgV ++ [sgV ch.2.1])) D = _ by rw [upd_ne nD]; exact t2.dict)
            rw [valV_kvL, if_pos (let_mem.mp o2)] at this
            exact this
          refine ⟨_, rfl, _, rfl, D, _, rfl, hDg, .inl ⟨rfl, _, .inl (.inl hb)⟩, _, rfl, ad ch.2.1, _, _, rfl, rfl, hb, lenE _, ⟨_, _, _, _, rfl⟩, ?_, ?_⟩
          · exact same_mut (same_mut s2 (hl _ (let_mem.mp o1)).2) (hl _ (let_mem.mp o2)).2
          · rw [etk, es_snoc, if_pos e]
            exact t2.push o1 o2 o3
        · refine ⟨⟨_, _, _, _, rfl⟩, s2, ?_⟩
          rw [etk, es_snoc, if_neg (by rw [e]; decide), List.append_nil]
          exact t2
      · rintro σ H2 ⟨⟨y4, y5, y6, y7, rfl⟩, s2, t2⟩
        have : chs.take (as.map V.ref).length = chs := by rw [List.length_map, hE.length, List.take_length]
        rw [this] at t2
        exact ⟨_, rfl, q D H2 s2 ⟨ad, t2⟩⟩
end
end Wl




namespace Wl
open PySem PySem.Spec PyProof.Rows L2
abbrev Tw := List (Nat × Option Nat)
def oS : Option Nat → V
  | none => .non
  | some d => sgV d
def twK (tw : Tw) : List (Key × V) := tw.map fun p => (kS p.1, oS p.2)
theorem twK_snoc (tw : Tw) (c : Nat) (o : Option Nat) : twK (tw ++ [(c, o)]) = twK tw ++ [(kS c, oS o)] := by
  unfold twK
  rw [List.map_append]
  rfl
theorem twK_in (tw : Tw) (c : Nat) : (valV (twK tw) (kS c)).isSome = decide (c ∈ tw.map (·.1)) := by
  rw [← valV_any]
  induction tw with
  | nil => rfl
  | cons p r ih =>
    have e : twK (p :: r) = (kS p.1, oS p.2) :: twK r := rfl
    rw [e, List.any_cons, ih, List.map_cons]
    by_cases h : p.1 = c
    · subst h
      simp
    · have h1 : ¬ kS p.1 = kS c := fun q => h (kS_inj q)
      have h2 : ¬ c = p.1 := fun q => h q.symm
      rw [decide_eq_false h1]
      simp [h2]
theorem twK_none {tw : Tw} {c : Nat} (h : c ∉ tw.map (·.1)) : valV (twK tw) (kS c) = none := by
  have := twK_in tw c
  rw [decide_eq_false h] at this
  cases q : valV (twK tw) (kS c) with
  | none => rfl
  | some v => rw [q] at this; cases this
theorem twK_val : ∀ {tw : Tw} {i c : Nat} {o : Option Nat}, (tw.map (·.1)).Nodup → tw[i]? = some (c, o) → valV (twK tw) (kS c) = some (oS o)
  | [], i, c, o, _, h => by simp at h
  | p :: r, 0, c, o, _, h => by
    simp at h
    subst h
    exact valV_pos rfl
  | p :: r, i + 1, c, o, nd, h => by
    rw [List.map_cons, List.nodup_cons] at nd
    have h' : r[i]? = some (c, o) := by simpa using h
    have hm : c ∈ r.map (·.1) := List.mem_map.mpr ⟨_, List.mem_of_getElem? h', rfl⟩
    have e : valV (twK (p :: r)) (kS c) = valV (twK r) (kS c) := valV_neg fun q => by
      have := kS_inj q
      rw [this] at nd
      exact nd.1 hm
    rw [e]
    exact twK_val nd.2 h'
section
variable {P : Program} {w : World} {K : PySem.W.Frag} {mg : Str → Option Value} {base : Heap} {f : Addr} {fd : FuncData}
def spSteps : Sp := fun vs H Q _ => ∃ (g : Nat) (D : Addr) (E : Edges), vs = [sgV g, .ref D] ∧ isLet g ∧ TurnAt H D E ∧ OkE E ∧ E.length ≤ 12 ∧ ∀ (W : Addr) (tw : Tw) (H' : Hp), Same H H' → H' W = some (.dK (twK tw)) → Bfs E g tw tw.length → Q (.ref W) H'
abbrev nSteps : List Str := ["goal", "turned", "toward", "waiting", "at", "letter", "ahead"]
theorem scSteps : FnScope nSteps ["goal", "turned"] (defScope wSteps) := ⟨rfl, rfl, rfl, by decide +kernel, rfl, by decide +kernel, by decide +kernel⟩
theorem ok_steps (F : Fun K "steps_toward" "steps_toward" wSteps f fd) (B : Bi mg) : FnOk P w K mg base CX0 1 f fd ["goal", "turned"] spSteps := by
  refine F.ok scSteps (fun vs H Q E h => ?_) (fun cdv A outer s H vs Q E hr h => ?_)
  · obtain ⟨g, D, E, rfl, _⟩ := h
    rfl
  · obtain ⟨g, D, Ed, rfl, hg, ⟨ad, t⟩, okE, lE, q⟩ := h
    refine ⟨_, pss_cons (ps_set (i := 2) scSteps.nd rfl (.inl rfl) (pe_disp (pps_cons (pv 0) pe_non pps_nil) rfl rfl (by simp) (by decide)))
      (pss_cons (ps_set (i := 3) scSteps.nd rfl (.inl rfl) (pe_lst (pa_cons (pv 0) pa_nil)))
      (pss_cons (ps_set (i := 4) scSteps.nd rfl (.inl rfl) pe_int)
      (pss_cons (ps_while PassesOwn.never (pt_cmpR op_lt (pv 4) (pe_callB call_len_seq (by rfl) B.len PySem.boot_len (pa_cons (pv 3) pa_nil)) (nomark _))
        (pss_cons (ps_set (i := 5) scSteps.nd rfl (.inl rfl) (pe_ix ix_list (pv 3) (pv 4) (fun _ _ => rfl)))
        (pss_cons (ps_for PassesOwn.never rfl (pi_list (pe_dget (room1 hr) (pv 1) (pv 5) (fun _ _ => rfl))) (pg_name (i := 6) scSteps.nd rfl (.inl rfl))
          (pss_one (ps_if (pt_cmp (pc_dnotin (room1 hr) (pv 6) (pv 2)))
            (pss_cons (ps_dput (room1 hr) (pv 2) (pv 6) (pv 5) rfl)
            (pss_one (ps_expr (pe_bm PySem.F.plainAttrs_list PySem.F.slot_list_append PySem.F.type_list_append mt_append (pv 3) (pa_cons (pv 6) pa_nil))))) pss_nil)))
        (pss_one (ps_aug (i := 4) scSteps.nd rfl (.inl rfl) pe_int ip_add)))))
      (pss_one (ps_ret (pv 2)))))), ?_⟩
    intro W hW
    refine ⟨_, rfl, upd_same, [(kS g, .non)], rfl, by simp, ?_⟩
    have sW : Same H (upd (upd H W (.dK [])) W (.dK (mergeK [] [(kS g, .non)]))) := same_mut (same_new hW) hW
    have eW : (upd (upd H W (.dK [])) W (.dK (mergeK [] [(kS g, .non)]))) W = some (.dK (twK [(g, none)])) := upd_same
    generalize upd (upd H W (.dK [])) W (.dK (mergeK [] [(kS g, .non)])) = H1 at sW eW
    refine ⟨_, rfl, lz, fun L hL => ?_⟩
    have nLW : L ≠ W := (ne_of_none eW hL).symm
    have hL0 : H L = none := sW.free hL
    refine ⟨fun m σ H' => ∃ (tw : Tw) (a : Nat) (y5 y6 : Option V), m = 26 - a ∧ σ = [some (sgV g), some (.ref D), some (.ref W), some (.ref L), some (.int a), y5, y6] ∧ Same H H' ∧ H' W = some (.dK (twK tw)) ∧ H' L = some (.lst (tw.map fun p => sgV p.1)) ∧ Bfs Ed g tw a ∧ a ≤ tw.length,
      ⟨26, [(g, none)], 0, _, _, rfl, rfl, sW.trans (same_new hL), (same_new hL) _ _ eW, upd_same, Bfs.start hg, by simp⟩, ?_⟩
    rintro m σ H2 ⟨tw, a, y5, y6, rfl, rfl, s2, hW2, hL2, b2, ha⟩
    have h26 := b2.len
    refine ⟨_, rfl, _, rfl, L, _, rfl, .inl (.inl (.inl hL2)), _, _, rfl, rfl, _, rfl, ite_b (fun e => ?_) (fun e => ?_)⟩
    · have hlt : a < tw.length := by
        have := of_decide_eq_true e
        rw [List.length_map] at this
        omega
      obtain ⟨⟨x, o⟩, hx⟩ : ∃ p, tw[a]? = some p := ⟨tw[a], List.getElem?_eq_getElem hlt⟩
      have hxl : isLet x := b2.lets x (List.mem_map.mpr ⟨_, List.mem_of_getElem? hx, rfl⟩)
      refine ⟨_, fun σ' H' h => h, ?_⟩
      refine ⟨_, rfl, _, rfl, L, _, _, sgV x, rfl, rfl, .inl (.inl hL2), atI_nat (j := a) (by rw [List.getElem?_map, hx]; rfl), ?_⟩
      have lenN : (nbrs Ed x).length ≤ 24 := by
        have := nbrs_len Ed x
        omega
      refine ⟨_, rfl, _, rfl, D, _, rfl, (t.same s2).val hxl, ad x, rfl, ⟨_, .inl (.inl ((t.same s2).lst x hxl))⟩, for_it (walk_list (K := K) (a := ad x) (xs := (nbrs Ed x).map sgV)) (fun j σ H' => ∃ (tw' : Tw) (y6 : Option V), σ = [some (sgV g), some (.ref D), some (.ref W), some (.ref L), some (.int a), some (sgV x), y6] ∧ Same H H' ∧ H' W = some (.dK (twK tw')) ∧ H' L = some (.lst (tw'.map fun p => sgV p.1)) ∧ Bfs Ed g tw' a ∧ tw'[a]? = some (x, o) ∧ ∀ y ∈ (nbrs Ed x).take j, y ∈ tw'.map (·.1))
        ⟨tw, _, rfl, s2, hW2, hL2, b2, hx, fun y hy => by simp at hy⟩ (fun j σ H' _ h => ?_) ?_ ?_⟩
      · obtain ⟨_, _, _, s3, _⟩ := h
        exact .inl (.inl ((t.same s3).lst x hxl))
      · rintro j v σ H3 H4 hj ⟨tw', y6', rfl, s3, hW3, hL3, b3, hx3, hin⟩ ⟨rfl, hv⟩
        rw [List.getElem?_map] at hv
        obtain ⟨c, hc, rfl⟩ := Option.map_eq_some_iff.mp hv
        have hcn : c ∈ nbrs Ed x := List.mem_of_getElem? hc
        have hcl : isLet c := conn_let okE (Conn.step (.refl x) hcn) hxl
        have l3 := b3.len
        have etk : (nbrs Ed x).take (j + 1) = (nbrs Ed x).take j ++ [c] := by rw [List.take_add_one, hc]; rfl
        refine ⟨_, rfl, _, rfl, W, _, rfl, DGet.k (k := kS c) hW3, _, rfl, ?_⟩
        rw [twK_in]
        refine not_b (fun e => ?_) (fun e => ?_)
        · have hnot := of_decide_eq_false e
          have lK : (twK tw').length < sizeLine := by
            unfold twK
            rw [List.length_map]
            exact small1000 (by omega)
          refine ⟨_, rfl, _, rfl, _, rfl, W, _, rfl, DPut.k (k := kS c) hW3 lK, ?_⟩
          rw [putK_new _ (twK_none hnot)]
          have hL4 : upd H4 W (.dK (twK tw' ++ [(kS c, sgV x)])) L = some (.lst (tw'.map fun p => sgV p.1)) := by
            rw [upd_ne nLW]
            exact hL3
          refine ⟨_, rfl, .inl ⟨rfl, _, .inl (.inl hL4)⟩, _, rfl, L, _, _, rfl, rfl, hL4, ?_, tw' ++ [(c, some x)], _, rfl, ?_, ?_, ?_, b3.push hx3 hcn hcl hnot, ?_, ?_⟩
          · rw [List.length_map]
            exact small1000 (by omega)
          · exact same_mut (same_mut s3 hW) hL0
          · rw [upd_ne nLW.symm, upd_same, twK_snoc]
            rfl
          · rw [upd_same, List.map_append]
            rfl
          · rw [List.getElem?_append_left (List.getElem?_eq_some_iff.mp hx3).1]
            exact hx3
          · intro y hy
            rw [etk] at hy
            rw [List.map_append]
            rcases List.mem_append.mp hy with hy | hy
            · exact List.mem_append_left _ (hin y hy)
            · rw [List.mem_singleton] at hy
              subst hy
              exact List.mem_append_right _ (by simp)
        · have hyes := of_decide_eq_true e
          refine ⟨tw', _, rfl, s3, hW3, hL3, b3, hx3, fun y hy => ?_⟩
          rw [etk] at hy
          rcases List.mem_append.mp hy with hy | hy
          · exact hin y hy
          · rw [List.mem_singleton] at hy
            subst hy
            exact hyes
      · rintro σ H3 ⟨tw', y6', rfl, s3, hW3, hL3, b3, hx3, hin⟩
        have hall : ∀ y ∈ nbrs Ed x, y ∈ tw'.map (·.1) := fun y hy => hin y (by rw [List.length_map, List.take_length]; exact hy)
        have hl3 : a < tw'.length := (List.getElem?_eq_some_iff.mp hx3).1
        exact ⟨_, rfl, _, _, rfl, rfl, 26 - (a + 1), by omega, tw', a + 1, _, _, rfl, rfl, s3, hW3, hL3, b3.next hx3 hall, hl3⟩
    · have hge : tw.length ≤ a := by
        have := of_decide_eq_false e
        rw [List.length_map] at this
        omega
      have : a = tw.length := by omega
      subst this
      exact ⟨_, rfl, q W tw H2 s2 hW2 b2⟩
end
end Wl




namespace Wl
open PySem PySem.Spec PyProof.Rows L2
abbrev wLetAt : Stmt := topS 40
abbrev wMean : Stmt := topS 41
section
variable {P : Program} {w : World} {K : PySem.W.Frag} {mg : Str → Option Value} {base : Heap} {f : Addr} {fd : FuncData}
/-- a def whose last parameter may be left out: None -/
abbrev FunN (K : PySem.W.Frag) (x : Str) (st : Stmt) (f : Addr) (fd : FuncData) : Prop := FunD K x x (defArgs st) (defBody st) (defScope st) [.non] [] f fd
def HasN (P : Program) (w : World) (K : PySem.W.Frag) (mg : Str → Option Value) (base : Heap) (x : Str) (st : Stmt) (k : Nat) (ps : List Str) (sp : Sp) : Prop :=
  ∃ f fd, FnOk P w K mg base CX0 k f fd ps sp ∧ mg x = some (.ref f) ∧ FunN K x st f fd
abbrev ps2 : List Str := ["word", "changes"]
theorem bindM2 {x : Str} (F : FunN K x wMean f fd) : Binds K fd ps2 [] := by
  obtain ⟨ds, h1, h2⟩ := F.binds1 (ps := ps2) 2 1 (by simp) rfl (fun T kV doc pm an cdv ct us its l1 l2 => by
      match us, its, l1, l2 with
      | [a, b], [d], _, _ => exact ⟨_, rfl, rfl⟩)
  cases h1
  exact h2
/-! keywords -/
end
end Wl




namespace Wl
open PySem PySem.Spec PyProof.Rows L2
theorem cut_len (z : Str) (lo hi : Option Int) : (cutS z lo hi).length ≤ z.length := by
  have e : ∀ x : Str, x.length = x.cps.toList.length := fun x => by simp [Str.length]
  rw [e, e]
  show (List.take _ (List.drop _ z.cps.toList)).length ≤ _
  rw [List.length_take, List.length_drop]
  omega
theorem add_len (x y : Str) : (x ++ y).length = x.length + y.length := by
  rw [TL.len_tl, TL.tl_append, List.length_append, ← TL.len_tl, ← TL.len_tl]
theorem codes_len (z : Str) : (codes z).length = z.length := by simp [codes, Str.length]
theorem ones_sum (l : List Nat) : (l.map fun _ => 1).sum = l.length := by
  induction l with
  | nil => rfl
  | cons x r ih => rw [List.map_cons, List.sum_cons, ih, List.length_cons]; omega
section
variable {P : Program} {w : World} {K : PySem.W.Frag} {mg : Str → Option Value} {base : Heap} {f : Addr} {fd : FuncData}
theorem okN {x : Str} {st : Stmt} {N ps : List Str} {k : Nat} {sp : Sp} (F : FunN K x st f fd) (S : FnScope N ps (defScope st)) (len : ∀ vs H Q E, sp vs H Q E → vs.length = ps.length)
    (hbody : ∀ (cdv : Value) (A : Around) (outer : List Env) (s : Shared) (H : Hp) (vs : List V) (Q : VK) (E : XK), Room k (A.deeper (envOfC x (defScope st) s.heap.objs.size f cdv)) → sp vs H Q E →
      ∃ t, PSs (cxOf CX0 P w K mg base N x (defScope st) f cdv A outer s H E).nox (defBody st) t ∧ t { nx := fun _ H' => Q .non H', rt := Q } (start N vs) H) : FnOk P w K mg base CX0 (k + 1) f fd ps sp :=
  F.ok S len fun cdv A outer s H vs Q E hr hsp => let ⟨t, h, q⟩ := hbody cdv A outer s H vs Q E hr hsp; ⟨t, h.nox, q⟩
def spLetAt : Sp := fun vs H Q _ => ∃ (z : Str) (i b : Nat) (S : Addr) (chs : List Chg), vs = [.str z, .int (i : Int), .ref S] ∧ IsWd z ∧ (codes z)[i]? = some b ∧ ChAt H S chs ∧ OkCs chs ∧
  ∀ (L : Addr) (cs : List Nat) (H' : Hp), Same H H' → H' L = some (.lst ((sortS (cs.map sign)).map V.str)) → (∀ d, d ∈ cs ↔ Conn (es chs i (codes z).length) b d) → Q (.ref L) H'
theorem scLetAt : FnScope ["word", "place", "changes"] ["word", "place", "changes"] (defScope wLetAt) := ⟨rfl, rfl, rfl, by decide +kernel, rfl, by decide +kernel, by decide +kernel⟩
theorem ok_letat (F : Fun K "letters_at" "letters_at" wLetAt f fd) (B : Bi mg) (hS : Has P w K mg base "steps_toward" 1 ["goal", "turned"] spSteps) (hT : Has P w K mg base "turned_letters" 2 ["changes", "place", "length"] spTurned) : FnOk P w K mg base CX0 3 f fd ["word", "place", "changes"] spLetAt := by
  refine F.ok scLetAt (fun vs H Q E h => ?_) (fun cdv A outer s H vs Q E hr h => ?_)
  · obtain ⟨z, i, b, S, chs, rfl, _⟩ := h
    rfl
  · obtain ⟨z, i, b, S, chs, rfl, hz, hb, hS', ok, q⟩ := h
    refine ⟨_, pss_one (ps_ret (pe_callB (cr_sortD hr.units) (by rfl) B.sorted (by decide +kernel) (pa_cons (pe_callTy (call_list_dK rfl) (by rfl) B.list (by decide +kernel) (pa_cons (pe_h hS hr (pa_cons (pe_ix ix_str (pv 0) (pv 1) (fun _ _ => rfl)) (pa_cons (pe_h hT hr (pa_cons (pv 2) (pa_cons (pv 1) (pa_cons (pe_callB call_len_str (by rfl) B.len PySem.boot_len (pa_cons (pv 0) pa_nil)) pa_nil)))) pa_nil))) pa_nil)) pa_nil))), ?_⟩
    have z8 := hz.len
    have hbl : isLet b := (wd_codes.mp hz).2 b (List.mem_of_getElem? hb)
    refine ⟨_, rfl, _, rfl, z, _, b, rfl, rfl, lzl (by omega), atI_nat hb, _, rfl, _, rfl, _, rfl, _, rfl, lzl (by omega), S, chs, i, z.length, rfl, hS', ok, fun D H4 s4 t4 => ?_⟩
    rw [← codes_len z] at t4
    refine ⟨b, D, es chs i (codes z).length, rfl, hbl, t4, es_ok ok.2 _ _, Nat.le_trans (es_len _ _ _) ok.1, fun W tw H5 s5 hW bf => ?_⟩
    refine ⟨W, _, rfl, hW, fun L hL => ?_⟩
    have eL : (twK tw).map (fun kv => kV kv.1) = ((tw.map (·.1)).map sign).map V.str := by
      unfold twK
      rw [List.map_map, List.map_map, List.map_map]
      rfl
    dsimp only [tNil]
    refine srt_reads (K := K) (xs := (tw.map (·.1)).map sign) (.inl (.inl (by rw [upd_same, eL]))) fun p hp => ?_
    exact q p (tw.map (·.1)) _ (s4.trans (s5.trans ((same_new hL).trans (same_new hp)))) upd_same fun d => bf.done (Nat.le_refl _)
def spMean : Sp := fun vs H Q _ => ∃ (z : Str) (v : V) (chs : List Chg), vs = [.str z, v] ∧ IsWd z ∧ ChV H v chs ∧ OkCs chs ∧ ∀ (H' : Hp), Same H H' → Q (.str (mean chs z)) H'
abbrev nMean : List Str := ["word", "changes", "known", "place"]
theorem scMean : FnScope nMean ps2 (defScope wMean) := ⟨rfl, rfl, rfl, by decide +kernel, rfl, by decide +kernel, by decide +kernel⟩
theorem room64 {k : Nat} {A : Around} (r : Room k A) : A.units + 64 < cLine := by have := r.un; omega
theorem ok_mean (F : FunN K "meaning" wMean f fd) (B : Bi mg) (hCk : Has P w K mg base "check_word" 2 ["word"] spCheckW) (hCh : Has P w K mg base "checked_changes" 4 ["changes"] spChecked)
    (hL : Has P w K mg base "letters_at" 3 ["word", "place", "changes"] spLetAt) : FnOk P w K mg base CX0 5 f fd ps2 spMean := by
  refine okN F scMean (fun vs H Q E h => ?_) (fun cdv A outer s H vs Q E hr h => ?_)
  · obtain ⟨z, v, chs, rfl, _⟩ := h
    rfl
  · obtain ⟨z, v, chs, rfl, hz, hv, ok, q⟩ := h
    refine ⟨_, pss_cons (ps_expr (pe_h hCk hr (pa_cons (pv 0) pa_nil)))
      (pss_cons (ps_set (i := 2) scMean.nd rfl (.inr rfl) (pe_h hCh hr (pa_cons (pv 1) pa_nil)))
      (pss_one (ps_ret (pe_join pe_str (pe_lc (own := [("place", 3)]) (g := gName 3) (tt := tYes) (te := tOp (rIxL K) (tCall spLetAt [] E0 (tCons (tVar 0) (tCons (tVar 3) (tCons (tVar 2) tNil)))) (tC (.int 0))) rfl scMean.nd (pi_range1 rfl B.range (pa_cons (pe_callB call_len_str (by rfl) B.len PySem.boot_len (pa_cons (pv 0) pa_nil)) pa_nil)) (blkOk_by (N := nMean) (sc := defScope wMean) (by decide +kernel))
        (fun _ _ _ _ _ => pg_name (i := 3) scMean.nd rfl (.inl rfl)) (fun _ _ _ _ _ => pts_nil) (fun _ _ _ _ _ => pe_ix ix_list (pe_h hL hr (pa_cons (pv 0) (pa_cons (pv 3) (pa_cons (pv 2) pa_nil)))) pe_int (fun _ _ => rfl))))))), ?_⟩
    have z8 := hz.len
    refine ⟨_, rfl, z, rfl, hz, fun Ha sa => ⟨_, rfl, v, chs, rfl, hv.same sa, ok, fun S H1 s1 hS => ?_⟩⟩
    have s01 : Same H H1 := sa.trans s1
    refine ⟨⟨_, rfl⟩, _, rfl, _, rfl, lzl (by omega), (z.length : Int), rfl, by omega, by omega, fun D hD => lc_range (lo := 0) (n := z.length) (fun i H' => Same H1 H' ∧ H' D = some (.lst ((((codes (mean chs z)).take i).map sign).map V.str))) ⟨same_new hD, upd_same⟩ ?_ ?_⟩
    · rintro i H2 hi ⟨s2, hD2⟩
      obtain ⟨b, hb⟩ : ∃ b, (codes z)[i]? = some b := ⟨_, List.getElem?_eq_getElem (by rw [codes_len]; exact hi)⟩
      have ei : (0 : Int) + (i : Int) = (i : Int) := by omega
      rw [ei]
      refine ⟨rfl, yes_it ⟨_, rfl, _, rfl, _, rfl, z, i, b, S, chs, rfl, hz, hb, hS.same s2, ok, fun L cs H3 s3 hL3 hcs => ?_⟩⟩
      have hlo : ∀ d ∈ cs, lo (es chs i (codes z).length) b ≤ d := fun d hd => lo_le ((hcs d).mp hd)
      have hhd := head_sortS ((hcs _).mpr (lo_conn (es chs i (codes z).length) b)) hlo
      refine ⟨L, _, 0, .str (sign (lo (es chs i (codes z).length) b)), rfl, rfl, .inl (.inl hL3), atI_nat (j := 0) (by rw [List.getElem?_map, hhd]; rfl), _, s3 _ _ hD2, ?_, same_mut (s2.trans s3) hD, ?_⟩
      · rw [List.length_map, List.length_map]
        have h1 : ((codes (mean chs z)).take i).length ≤ (codes (mean chs z)).length := List.length_take_le' _ _
        rw [mean_len, codes_len] at h1
        exact small1000 (by omega)
      · rw [upd_same, List.take_add_one, mean_at chs z hb, List.map_append, List.map_append]
        rfl
    · rintro H2 ⟨s2, hx⟩
      have e1 : (codes (mean chs z)).take z.length = codes (mean chs z) := by rw [← codes_len z, ← mean_len chs z, List.take_length]
      rw [e1] at hx
      refine ⟨_, D, (codes (mean chs z)).map sign, rfl, rfl, .inl (.inl (.inl hx)), ?_, ?_⟩
      · have e0 : ("" : Str).length = 0 := by decide +kernel
        have e1 : ((codes (mean chs z)).map sign).map (·.length) = (codes (mean chs z)).map fun _ => 1 := by
          rw [List.map_map]
          rfl
        rw [e0, e1, Nat.mul_zero, ones_sum, mean_len, codes_len]
        omega
      · have e2 : Txt.join ("" : Str) ((codes (mean chs z)).map sign) = mean chs z := str_ext (join_signs _)
        rw [e2]
        exact q H2 (s01.trans s2)
end
end Wl




namespace Wl
open PySem PySem.Spec PyProof.Rows L2

/-! ### the text by places -/
abbrev sCell : Stmt := topS 79
abbrev sPurse : Stmt := topS 80
abbrev sPick : Stmt := topS 81
abbrev sMenu : Stmt := topS 82
abbrev sWord : Stmt := topS 83

section
variable {P : Program} {w : World} {K : PySem.W.Frag} {mg : Str → Option Value} {base : Heap} {f : Addr} {fd : FuncData}

/-! ### a cell of the script: some int -/
def spCell (K : PySem.W.Frag) : Sp := fun vs H Q _ => ∃ (a : Addr) (ns : List Int) (k : Int), vs = [.ref a, .int k] ∧ SqL K H a (ns.map V.int) ∧ 0 ≤ k ∧ k ≤ 63 ∧
  ∀ (v : Int) (H' : Hp), Same H H' → Q (.int v) H'
theorem scCell : FnScope ["_law_script", "_law_k", "_law_state", "_law_cell_here"] ["_law_script", "_law_k"] (defScope sCell) :=
  ⟨rfl, rfl, rfl, by decide +kernel, rfl, by decide +kernel, by decide +kernel⟩
theorem mem_cut {xs : List V} {lo hi : Option Int} {v : V} (h : v ∈ cutV xs lo hi) : v ∈ xs := List.mem_of_mem_drop (List.mem_of_mem_take h)
theorem ok_cell (F : Fun K "_law_cell" "_law_cell" sCell f fd) (B : Bi mg) : FnOk P w K mg base CX0 1 f fd ["_law_script", "_law_k"] (spCell K) := by
  refine F.ok scCell (fun vs H Q E h => ?_) (fun cdv A outer s H vs Q E hr h => ?_)
  · obtain ⟨a, ns, k, rfl, _⟩ := h
    rfl
  · obtain ⟨a, ns, k, rfl, hS, k0, k1, q⟩ := h
    refine ⟨_, pss_cons (ps_if (pt_cmpR op_lt (pv 1) (pe_callB call_len_seq (by rfl) B.len PySem.boot_len (pa_cons (pv 0) pa_nil)) (nomark _)) (pss_one (ps_ret (pe_ix ix_list (pv 0) (pv 1) (fun _ _ => rfl)))) pss_nil)
      (pss_cons (ps_set (i := 2) scCell.nd rfl (.inl rfl) (pe_op op_mod (pe_op op_mul pe_int (pe_op op_add (pe_op op_add (pe_op op_mul (pv 1) (pv 1)) (pe_op op_mul pe_int (pv 1))) pe_int)) pe_int))
      (pss_cons (ps_for PassesOwn.never rfl (pi_list (pe_slice sl_list (pv 0) po_none (po_some pe_int))) (pg_name (i := 3) scCell.nd rfl (.inl rfl))
        (pss_one (ps_set (i := 2) scCell.nd rfl (.inl rfl) (pe_op op_mod (pe_op op_add (pe_op op_mul (pv 2) pe_int) (pv 3)) pe_int))))
      (pss_one (ps_ret (pv 2))))), ?_⟩
    refine ⟨_, rfl, .ref a, rfl, a, _, rfl, .inl hS, _, _, rfl, rfl, _, rfl, ite_b (fun e => ?_) (fun e => ?_)⟩
    · have hk : k < ((ns.map V.int).length : Int) := of_decide_eq_true e
      rw [List.length_map] at hk
      have hk2 : k.toNat < ns.length := by omega
      refine ⟨_, rfl, _, rfl, a, _, k, .int ns[k.toNat], rfl, rfl, hS, at_of (j := k.toNat) (by omega) ?_, q _ H (Same.refl H)⟩
      rw [List.getElem?_map, List.getElem?_eq_getElem hk2]
      rfl
    · refine ⟨_, rfl, _, rfl, k, k, rfl, rfl, .inl ⟨by omega, by omega⟩, _, rfl, 5, k, rfl, rfl, .inl ⟨by decide, by decide⟩, _, _, rfl, rfl, _, _, rfl, rfl, _, _, rfl, rfl, .inl ⟨by decide, by decide⟩, _, _, rfl, rfl, (show (0 : Int) < 1000000033 by decide), ?_⟩
      refine ⟨_, rfl, 4, rfl, a, _, rfl, hS, fun p hp => ?_⟩
      have hc : SqL K (upd H p (.lst (cutV (ns.map V.int) none (some 4)))) p (cutV (ns.map V.int) none (some 4)) := .inl (.inl upd_same)
      refine ⟨p, rfl, ⟨_, hc⟩, for_list (K := K) (a := p) (xs := cutV (ns.map V.int) none (some 4)) (fun i σ H' => (∃ (z : Int) (y : Option V), σ = [some (.ref a), some (.int k), some (.int z), y]) ∧ H' = upd H p (.lst (cutV (ns.map V.int) none (some 4))))
        ⟨⟨_, _, rfl⟩, rfl⟩ (fun i σ H' _ h => by rw [h.2]; exact hc) ?_ ?_⟩
      · rintro i x σ H' hx ⟨⟨z, y, rfl⟩, rfl⟩
        obtain ⟨n, rfl⟩ : ∃ n, x = V.int n := by
          obtain ⟨n, _, e⟩ := List.mem_map.mp (mem_cut (List.mem_of_getElem? hx))
          exact ⟨n, e.symm⟩
        refine ⟨_, rfl, z, 30029, rfl, rfl, .inr ⟨by decide, by decide⟩, _, rfl, _, _, rfl, rfl, _, _, rfl, rfl, (show (0 : Int) < 1000000033 by decide), ⟨⟨_, _, rfl⟩, rfl⟩⟩
      · rintro σ H' ⟨⟨z, y, rfl⟩, rfl⟩
        exact ⟨_, rfl, q _ _ (same_new hp)⟩

/-! ### the purse -/
def PurseAt (H : Hp) (a : Addr) : Prop := ∃ s b c : Int, H a = some (.lst [.int s, .int b, .int c]) ∧ 0 ≤ b
theorem PurseAt.same {H H' : Hp} {a : Addr} (h : PurseAt H a) (s : Same H H') : PurseAt H' a := by
  obtain ⟨s0, b, c, ha, hb⟩ := h
  exact ⟨s0, b, c, s _ _ ha, hb⟩
theorem PurseAt.ne {H : Hp} {a p : Addr} (h : PurseAt H a) (hp : H p = none) : p ≠ a := by
  obtain ⟨s0, b, c, ha, hb⟩ := h
  exact (ne_of_none ha hp).symm
theorem PurseAt.lst {H : Hp} {a : Addr} (h : PurseAt H a) : ∃ ys, H a = some (.lst ys) := by
  obtain ⟨s0, b, c, ha, hb⟩ := h
  exact ⟨_, ha⟩
def spPurse : Sp := fun vs H Q _ => ∃ (n : Int), vs = [.int n] ∧ ∀ (a : Addr) (H' : Hp), H a = none → Same H H' → PurseAt H' a → Q (.ref a) H'
theorem scPurse : FnScope ["_law_cell_here"] ["_law_cell_here"] (defScope sPurse) :=
  ⟨rfl, rfl, rfl, by decide +kernel, rfl, by decide +kernel, by decide +kernel⟩
theorem ok_purse (F : Fun K "_law_purse" "_law_purse" sPurse f fd) (B : Bi mg) : FnOk P w K mg base CX0 1 f fd ["_law_cell_here"] spPurse := by
  refine F.ok scPurse (fun vs H Q E h => ?_) (fun cdv A outer s H vs Q E hr h => ?_)
  · obtain ⟨n, rfl, _⟩ := h
    rfl
  · obtain ⟨n, rfl, q⟩ := h
    refine ⟨_, pss_one (ps_ret (pe_lst (pa_cons (pe_op op_add (pe_op op_mul (pe_op op_mod (pv 0) pe_int) pe_int) pe_int)
      (pa_cons (pe_ix ix_list (pe_lst (pa_cons pe_int (pa_cons (pv 0) pa_nil))) (pe_callTy call_int1 (by rfl) B.int (by decide +kernel) (pa_cons (pe_cmpR op_ge (pv 0) (pe_op op_pow pe_int pe_int) (nomark _)) pa_nil)) (fun _ _ => rfl))
      (pa_cons pe_int pa_nil))))), ?_⟩
    refine ⟨_, rfl, _, _, rfl, rfl, (show (0 : Int) < 1000000033 by decide), _, _, rfl, rfl, .inr ⟨by decide, by decide⟩, _, _, rfl, rfl, _, rfl, lz, fun p hp => ?_⟩
    have e18 : (10 : Int) ^ (18 : Int).toNat = 1000000000000000000 := by decide
    refine ⟨_, rfl, 10, 18, rfl, rfl, ⟨by decide, by decide, by decide⟩, _, _, rfl, rfl, .inr ⟨_, rfl, ?_⟩⟩
    refine ⟨p, [.int 0, .int n], _, .int (if decide ((10 : Int) ^ (18 : Int).toNat ≤ n) = true then n else 0), rfl, rfl, .inl (.inl upd_same), ?_, lz, fun a ha => ?_⟩
    · by_cases c : (10 : Int) ^ (18 : Int).toNat ≤ n
      · simp only [decide_eq_true c, if_true]
        exact atI_nat (j := 1) rfl
      · simp only [decide_eq_false c]
        exact atI_nat (j := 0) rfl
    · have hp2 : Same H (upd H p (.lst [.int 0, .int n])) := same_new hp
      refine q a _ (hp2.free ha) (hp2.trans (same_new ha)) ⟨_, _, _, upd_same, ?_⟩
      by_cases c : (10 : Int) ^ (18 : Int).toNat ≤ n
      · simp only [decide_eq_true c, if_true]
        rw [e18] at c
        omega
      · simp only [decide_eq_false c]
        exact Int.le_refl 0
/-! ### a pick: some number below many -/
def spPick : Sp := fun vs H Q _ => ∃ (a : Addr) (m : Int), vs = [.ref a, .int m] ∧ PurseAt H a ∧ 0 < m ∧ m < 1073741824 ∧
  ∀ (r : Int) (H' : Hp), 0 ≤ r → r < m → PurseAt H' a → SameX a H H' → (∀ p, H p = none → H' p = none) → Q (.int r) H'
theorem scPick : FnScope ["_law_purse_here", "_law_many", "_law_state", "_law_taken"] ["_law_purse_here", "_law_many"] (defScope sPick) :=
  ⟨rfl, rfl, rfl, by decide +kernel, rfl, by decide +kernel, by decide +kernel⟩
theorem none_upd {H : Hp} {a : Addr} {o u : HO} (h : H a = some o) : ∀ p, H p = none → upd H a u p = none := fun p hp => by
  rw [upd_ne (ne_of_none h hp).symm]
  exact hp
theorem ok_pick (F : Fun K "_law_pick" "_law_pick" sPick f fd) : FnOk P w K mg base CX0 1 f fd ["_law_purse_here", "_law_many"] spPick := by
  refine F.ok scPick (fun vs H Q E h => ?_) (fun cdv A outer s H vs Q E hr h => ?_)
  · obtain ⟨a, m, rfl, _⟩ := h
    rfl
  · obtain ⟨a, m, rfl, ⟨s0, b, c, ha, hb⟩, m0, m1, q⟩ := h
    refine ⟨_, pss_cons (ps_asg (pe_op op_add (pe_ix ix_list (pv 0) pe_int (fun _ _ => rfl)) pe_int) (pg_sub (pv 0) pe_int set_list))
      (pss_cons (ps_set (i := 2) scPick.nd rfl (.inl rfl) (pe_op op_mod (pe_ix ix_list (pv 0) pe_int (fun _ _ => rfl)) pe_int))
      (pss_cons (ps_asg (pe_op op_add (pe_op op_mul (pv 2) (pe_op op_add (pe_op op_mod (pv 2) pe_int) pe_int)) (pe_op op_mul pe_int (pe_ix ix_list (pv 0) pe_int (fun _ _ => rfl)))) (pg_sub (pv 0) pe_int set_list))
      (pss_cons (ps_if (pt_cmpR op_gt (pe_ix ix_list (pv 0) pe_int (fun _ _ => rfl)) pe_int (nomark _))
        (pss_cons (ps_set (i := 3) scPick.nd rfl (.inl rfl) (pe_op op_mod (pe_ix ix_list (pv 0) pe_int (fun _ _ => rfl)) (pv 1)))
        (pss_cons (ps_asg (pe_op op_fdiv (pe_ix ix_list (pv 0) pe_int (fun _ _ => rfl)) (pv 1)) (pg_sub (pv 0) pe_int set_list))
        (pss_one (ps_ret (pv 3))))) pss_nil)
      (pss_one (ps_ret (pe_op op_mod (pe_op op_fdiv (pe_op op_mod (pe_ix ix_list (pv 0) pe_int (fun _ _ => rfl)) pe_int) pe_int) (pv 1))))))), ?_⟩
    have hmod : ∀ x : Int, 0 ≤ x % 1000000033 ∧ x % 1000000033 < 1000000033 := fun x => by omega
    refine ⟨_, rfl, a, _, 2, .int c, rfl, rfl, .inl (.inl ha), atI_nat (j := 2) rfl, _, _, rfl, rfl, _, rfl, a, _, 2, 2, rfl, rfl, ha, rfl, ?_⟩
    refine ⟨_, rfl, a, _, 0, .int s0, rfl, rfl, .inl (.inl upd_same), atI_nat (j := 0) rfl, _, _, rfl, rfl, (show (0 : Int) < 1000000033 by decide), ?_⟩
    refine ⟨_, rfl, _, rfl, _, _, rfl, rfl, (show (0 : Int) < 60013 by decide), _, _, rfl, rfl, _, _, rfl, rfl, .inl ⟨by have := hmod s0; omega, by have := hmod s0; omega⟩,
      _, rfl, a, _, 2, _, rfl, rfl, .inl (.inl upd_same), atI_nat (j := 2) rfl, _, _, rfl, rfl, .inl ⟨by decide, by decide⟩, _, _, rfl, rfl, _, rfl, a, _, 0, 0, rfl, rfl, upd_same, rfl, ?_⟩
    refine ⟨_, rfl, a, _, 1, .int b, rfl, rfl, .inl (.inl upd_same), atI_nat (j := 1) rfl, _, _, rfl, rfl, _, rfl, ite_b (fun e => ?_) (fun e => ?_)⟩
    · refine ⟨_, rfl, a, _, 1, .int b, rfl, rfl, .inl (.inl upd_same), atI_nat (j := 1) rfl, _, rfl, b, m, rfl, rfl, m0, ?_⟩
      refine ⟨_, rfl, a, _, 1, .int b, rfl, rfl, .inl (.inl upd_same), atI_nat (j := 1) rfl, _, rfl, b, m, rfl, rfl, ⟨m0, m1⟩, _, rfl, a, _, 1, 1, rfl, rfl, upd_same, rfl, ?_⟩
      refine ⟨_, rfl, q _ _ (Int.emod_nonneg _ (by omega)) (Int.emod_lt_of_pos _ m0) ⟨_, _, _, upd_same, ?_⟩ (((sameX_upd).trans sameX_upd).trans sameX_upd) fun p hp => ?_⟩
      · exact Int.ediv_nonneg hb (by omega)
      · exact none_upd upd_same p (none_upd upd_same p (none_upd ha p hp))
    · refine ⟨_, rfl, a, _, 0, _, rfl, rfl, .inl (.inl upd_same), atI_nat (j := 0) rfl, _, _, rfl, rfl, (show (0 : Int) < 1000000033 by decide), _, _, rfl, rfl, ⟨by decide, by decide⟩, _, rfl, _, m, rfl, rfl, m0, ?_⟩
      exact q _ _ (Int.emod_nonneg _ (by omega)) (Int.emod_lt_of_pos _ m0) ⟨_, _, _, upd_same, hb⟩ ((sameX_upd).trans sameX_upd) fun p hp => none_upd upd_same p (none_upd ha p hp)

/-! ### the menu, a word -/
def menuW : List Str := ["put", "doubt", "strike", "back", "change", "one", "map", "words", "parted", "line", "rings", "thin", "fate", "asks", "habit", "apart", "near", "paper", "ok", "no", "none", "self", "may", "not", "has", "any"]
theorem menu_wd : ∀ z ∈ menuW, IsWd z := by decide +kernel
theorem menu_len : menuW.length = 26 := by decide +kernel
def spMenu : Sp := fun vs H Q _ => vs = [] ∧ ∀ (p : Addr) (H' : Hp), H p = none → Same H H' → H' p = some (.lst (menuW.map V.str)) → Q (.ref p) H'
theorem scMenu : FnScope ["_law_some"] [] (defScope sMenu) := ⟨rfl, rfl, rfl, by decide +kernel, rfl, by decide +kernel, by decide +kernel⟩
theorem ok_menu (F : Fun K "_law_menu" "_law_menu" sMenu f fd) : FnOk P w K mg base CX0 1 f fd [] spMenu := by
  refine F.ok scMenu (fun vs H Q E h => ?_) (fun cdv A outer s H vs Q E hr h => ?_)
  · obtain ⟨rfl, _⟩ := h
    rfl
  · obtain ⟨rfl, q⟩ := h
    refine ⟨_, pss_cons (ps_set (i := 0) scMenu.nd rfl (.inl rfl) (pe_lst (pa_cons pe_str (pa_cons pe_str (pa_cons pe_str (pa_cons pe_str (pa_cons pe_str (pa_cons pe_str (pa_cons pe_str (pa_cons pe_str (pa_cons pe_str (pa_cons pe_str (pa_cons pe_str (pa_cons pe_str pa_nil))))))))))))))
      (pss_cons (ps_set (i := 0) scMenu.nd rfl (.inl rfl) (pe_op op_cat (pv 0) (pe_lst (pa_cons pe_str (pa_cons pe_str (pa_cons pe_str (pa_cons pe_str (pa_cons pe_str (pa_cons pe_str (pa_cons pe_str (pa_cons pe_str (pa_cons pe_str (pa_cons pe_str (pa_cons pe_str (pa_cons pe_str pa_nil)))))))))))))))
      (pss_one (ps_ret (pe_op op_cat (pv 0) (pe_lst (pa_cons pe_str (pa_cons pe_str pa_nil))))))), ?_⟩
    refine ⟨lz, fun p1 h1 => ?_⟩
    refine ⟨_, rfl, lz, fun p2 h2 => ⟨p1, p2, _, _, rfl, rfl, (same_new h2) _ _ upd_same, upd_same, lz, fun p3 h3 => ?_⟩⟩
    refine ⟨_, rfl, lz, fun p4 h4 => ⟨p3, p4, _, _, rfl, rfl, (same_new h4) _ _ upd_same, upd_same, lz, fun p5 h5 => ?_⟩⟩
    exact q p5 _ (Same.free (((same_new h1).trans (same_new h2)).trans ((same_new h3).trans (same_new h4))) h5) ((((same_new h1).trans (same_new h2)).trans ((same_new h3).trans (same_new h4))).trans (same_new h5)) upd_same

def spWord : Sp := fun vs H Q _ => ∃ (a : Addr), vs = [.ref a] ∧ PurseAt H a ∧ ∀ (z : Str) (H' : Hp), IsWd z → PurseAt H' a → SameX a H H' → Q (.str z) H'
abbrev nWord : List Str := ["_law_purse_here", "_law_way", "_law_wide", "_law_size", "_law_k"]
theorem scWord : FnScope nWord ["_law_purse_here"] (defScope sWord) :=
  ⟨rfl, rfl, rfl, by decide +kernel, rfl, by decide +kernel, by decide +kernel⟩
theorem ok_word (F : Fun K "_law_word" "_law_word" sWord f fd) (B : Bi mg) (hp : Has P w K mg base "_law_pick" 1 ["_law_purse_here", "_law_many"] spPick) (hm : Has P w K mg base "_law_menu" 1 [] spMenu) :
    FnOk P w K mg base CX0 2 f fd ["_law_purse_here"] spWord := by
  refine F.ok scWord (fun vs H Q E h => ?_) (fun cdv A outer s H vs Q E hr h => ?_)
  · obtain ⟨a, rfl, _⟩ := h
    rfl
  · obtain ⟨a, rfl, hA, q⟩ := h
    refine ⟨_, pss_cons (ps_asg (pe_tup (pa_cons (pe_h hp hr (pa_cons (pv 0) (pa_cons pe_int pa_nil))) (pa_cons (pe_ix ix_list (pe_lst (pa_cons pe_int (pa_cons pe_int (pa_cons pe_int pa_nil)))) (pe_h hp hr (pa_cons (pv 0) (pa_cons pe_int pa_nil))) (fun _ _ => rfl)) pa_nil)))
        (pg_tup rfl (pgs_cons (pg_name (i := 1) scWord.nd rfl (.inl rfl)) (pgs_cons (pg_name (i := 2) scWord.nd rfl (.inr rfl)) pgs_nil))))
      (pss_cons (ps_if (pt_cmpR op_eq (pv 1) pe_int (nomark _)) (pss_one (ps_ret (pe_ix ix_list (pe_h0 hm hr) (pe_h hp hr (pa_cons (pv 0) (pa_cons pe_int pa_nil))) (fun _ _ => rfl)))) pss_nil)
      (pss_cons (ps_set (i := 3) scWord.nd rfl (.inl rfl) (pe_ix ix_list (pe_lst (pa_cons pe_int (pa_cons pe_int (pa_cons pe_int (pa_cons pe_int (pa_cons (pe_op op_add pe_int (pe_h hp hr (pa_cons (pv 0) (pa_cons pe_int pa_nil)))) pa_nil)))))) (pe_h hp hr (pa_cons (pv 0) (pa_cons pe_int pa_nil))) (fun _ _ => rfl)))
      (pss_one (ps_ret (pe_join pe_str (pe_lc (own := [("_law_k", 4)]) (g := gName 4) (tt := tYes) rfl scWord.nd (pi_range1 (by rfl) B.range (pa_cons (pv 3) pa_nil)) (blkOk_by (N := nWord) (sc := defScope sWord) (by decide +kernel))
        (fun _ _ _ _ _ => pg_name (i := 4) scWord.nd rfl (.inl rfl)) (fun _ _ _ _ _ => pts_nil) (fun _ _ _ _ _ => pe_ix ix_str pe_str (pe_h hp hr (pa_cons (pv 0) (pa_cons (pv 2) pa_nil))) (fun _ _ => rfl)))))))), ?_⟩
    -- way, wide
    refine ⟨_, rfl, a, 4, rfl, hA, by decide, by decide, fun r1 H1 r10 r11 hA1 s1 n1 => ?_⟩
    refine ⟨lz, fun p hp => ⟨_, rfl, a, 3, rfl, hA1.same (same_new hp), by decide, by decide, fun r2 H2 r20 r21 hA2 s2 n2 => ?_⟩⟩
    have npa := hA1.ne hp
    obtain ⟨wd, hwm, hwd⟩ := atI_tab (ns := [3, 5, 26]) r20 r21
    have hw : 0 < wd ∧ wd ≤ 26 := by
      simp only [List.mem_cons, List.not_mem_nil, or_false] at hwm
      omega
    have s2' : SameX a H H2 := (s1.trans (sx (same_new hp))).trans s2
    refine ⟨p, _, r2, .int wd, rfl, rfl, .inl (.inl (s2 _ _ npa upd_same)), hwd, lz, fun t ht => ?_⟩
    refine ⟨t, _, rfl, .inl (.inl upd_same), rfl, _, _, rfl, _, _, rfl, rfl, ?_⟩
    have hA3 := hA2.same (same_new (o := .tup [.int r1, .int wd]) ht)
    have s3 : SameX a H _ := s2'.trans (sx (same_new (o := .tup [.int r1, .int wd]) ht))
    generalize upd H2 t (.tup [.int r1, .int wd]) = H3 at hA3 s3
    refine ⟨_, rfl, rfl, _, rfl, ite_b (fun e => ?_) (fun e => ?_)⟩
    · -- menu()[..]
      refine ⟨rfl, fun p4 H4 hp4 s4 h4 => ⟨_, rfl, a, 26, rfl, hA3.same s4, by decide, by decide, fun r5 H5 r50 r51 hA5 s5 n5 => ?_⟩⟩
      obtain ⟨z, hz, hzi⟩ := atI_strs (zs := menuW) r50 (by rw [menu_len]; exact r51)
      exact ⟨p4, _, r5, .str z, rfl, rfl, .inl (.inl (s5 _ _ (hA3.ne hp4) h4)), hzi, q z H5 (menu_wd z hz) hA5 ((s3.trans (sx s4)).trans s5)⟩
    · -- size
      refine ⟨_, rfl, a, 8, rfl, hA3, by decide, by decide, fun r4 H4 r40 r41 hA4 s4 n4 => ⟨_, _, rfl, rfl, lz, fun p5 hp5 => ⟨_, rfl, a, 5, rfl, hA4.same (same_new hp5), by decide, by decide, fun r6 H6 r60 r61 hA6 s6 n6 => ?_⟩⟩⟩
      have np5 := hA4.ne hp5
      obtain ⟨sz, hsm, hsz⟩ := atI_tab (ns := [1, 2, 3, 4, 1 + r4]) r60 r61
      have hs8 : 1 ≤ sz ∧ sz ≤ 8 := by
        simp only [List.mem_cons, List.not_mem_nil, or_false] at hsm
        omega
      refine ⟨p5, _, r6, .int sz, rfl, rfl, .inl (.inl (s6 _ _ np5 upd_same)), hsz, ?_⟩
      have s6' : SameX a H H6 := ((s3.trans s4).trans (sx (same_new hp5))).trans s6
      -- join of the signs
      refine ⟨⟨_, rfl⟩, _, rfl, sz, rfl, by omega, by omega, fun D hD => lc_range (lo := 0) (n := sz.toNat)
        (fun i H' => ∃ cs : List Nat, cs.length = i ∧ (∀ c ∈ cs, 97 ≤ c ∧ c ≤ 122) ∧ H' D = some (.lst ((cs.map sign).map V.str)) ∧ PurseAt H' a ∧ SameX a H6 H')
        ⟨[], rfl, fun c hc => by simp at hc, upd_same, hA6.same (same_new hD), sx (same_new hD)⟩ ?_ ?_⟩
      · rintro i H7 hi ⟨cs, hcl, hcs, hDl, hA7, s7⟩
        refine ⟨rfl, yes_it ⟨_, rfl, _, rfl, a, wd, rfl, hA7, hw.1, by omega, fun r8 H8 r80 r81 hA8 s8 n8 => ?_⟩⟩
        have nD := hA6.ne hD
        refine ⟨_, r8, _, rfl, rfl, lz, letter_at r80 (by omega), _, s8 _ _ nD hDl, ?_, ?_⟩
        · rw [List.length_map, List.length_map]
          exact small1000 (by omega)
        · refine ⟨cs ++ [97 + r8.toNat], by simp [hcl], fun c hc => ?_, ?_, ?_, sameX_mut (s7.trans s8) hD⟩
          · rcases List.mem_append.mp hc with hc | hc
            · exact hcs c hc
            · rw [List.mem_singleton.mp hc]
              omega
          · rw [upd_same, List.map_append, List.map_append]
            rfl
          · obtain ⟨x0, x1, x2, hx, hx1⟩ := hA8
            exact ⟨x0, x1, x2, by rw [upd_ne nD.symm]; exact hx, hx1⟩
      · rintro H7 ⟨cs, hcl, hcs, hDl, hA7, s7⟩
        refine ⟨_, D, cs.map sign, rfl, rfl, .inl (.inl (.inl hDl)), ?_, ?_⟩
        · have e0 : ("" : Str).length = 0 := by decide +kernel
          have e1 : (cs.map sign).map (·.length) = cs.map fun _ => 1 := by
            rw [List.map_map]
            rfl
          rw [e0, e1, Nat.mul_zero]
          have e2 : ∀ l : List Nat, (l.map fun _ => 1).sum = l.length := fun l => by
            induction l with
            | nil => rfl
            | cons x r ih => rw [List.map_cons, List.sum_cons, ih, List.length_cons]; omega
          rw [e2]
          omega
        · refine q _ H7 (isWd_of ?_ ?_ ?_) hA7 (s6'.trans s7)
          · rw [join_signs]; omega
          · rw [join_signs]; omega
          · rw [join_signs]; exact hcs
end
end Wl




namespace Wl
open PySem
def Closed (E : Edges) (l : List Nat) : Prop := ∀ e ∈ E, (e.1 ∈ l ↔ e.2 ∈ l)
theorem closed_conn {E : Edges} {l : List Nat} (h : Closed E l) {c d : Nat} (hc : c ∈ l) (k : Conn E c d) : d ∈ l := by
  induction k with
  | refl => exact hc
  | step _ m ih =>
    rcases mem_nbrs.mp m with m | m
    · exact (h _ m).mp ih
    · exact (h _ m).mpr ih
theorem filt_more {p q : Nat × Nat → Bool} : ∀ {E : Edges}, (∀ e, p e = true → q e = true) → (∃ e ∈ E, p e = false ∧ q e = true) → (E.filter p).length + 1 ≤ (E.filter q).length
  | [], _, ⟨_, h, _⟩ => nomatch h
  | e :: E, h, ⟨x, hx, h1, h2⟩ => by
    have sub : ∀ E : Edges, (E.filter p).length ≤ (E.filter q).length := fun E => by
      induction E with
      | nil => exact Nat.le_refl _
      | cons y r ih =>
        rw [List.filter_cons, List.filter_cons]
        by_cases c : p y = true
        · rw [if_pos c, if_pos (h y c), List.length_cons, List.length_cons]
          omega
        · rw [if_neg c]
          split
          · rw [List.length_cons]
            omega
          · exact ih
    have s1 := sub E
    rw [List.filter_cons, List.filter_cons]
    rcases List.mem_cons.mp hx with rfl | hx
    · rw [if_neg (by rw [h1]; decide), if_pos h2, List.length_cons]
      omega
    · have ih := filt_more (E := E) h ⟨x, hx, h1, h2⟩
      by_cases c : p e = true
      · rw [if_pos c, if_pos (h e c), List.length_cons, List.length_cons]
        omega
      · rw [if_neg c]
        split
        · rw [List.length_cons]
          omega
        · exact ih
/-- the edges within -/
def inE (E : Edges) (l : List Nat) : Nat := (E.filter fun e => decide (e.1 ∈ l) && decide (e.2 ∈ l)).length
structure KinB (E : Edges) (c : Nat) (l : List Nat) : Prop where
  nd : l.Nodup
  lets : ∀ x ∈ l, isLet x
  conn : ∀ x ∈ l, Conn E c x
  mem : c ∈ l
  few : l.length ≤ inE E l + 1
theorem KinB.start {E : Edges} {c : Nat} (h : isLet c) : KinB E c [c] := ⟨by simp, fun x hx => by simp at hx; subst hx; exact h, fun x hx => by simp at hx; subst hx; exact .refl _, by simp, by simp⟩
theorem KinB.push {E : Edges} {c x y : Nat} {l : List Nat} (b : KinB E c l) (hx : x ∈ l) (hy : y ∉ l) (hn : y ∈ nbrs E x) (hl : isLet y) : KinB E c (l ++ [y]) := by
  have hfew : inE E l + 1 ≤ inE E (l ++ [y]) := by
    refine filt_more (fun e he => ?_) ?_
    · simp only [Bool.and_eq_true, decide_eq_true_eq] at he ⊢
      exact ⟨List.mem_append_left _ he.1, List.mem_append_left _ he.2⟩
    · rcases mem_nbrs.mp hn with m | m
      · exact ⟨_, m, by simp [hy], by simp [hx]⟩
      · exact ⟨_, m, by simp [hy], by simp [hx]⟩
  refine ⟨?_, fun u hu => ?_, fun u hu => ?_, List.mem_append_left _ b.mem, by have := b.few; rw [List.length_append, List.length_singleton]; omega⟩
  · rw [List.nodup_append]
    refine ⟨b.nd, by simp, fun u hu v hv e => ?_⟩
    simp at hv
    subst hv e
    exact hy hu
  · rcases List.mem_append.mp hu with hu | hu
    · exact b.lets u hu
    · simp at hu; subst hu; exact hl
  · rcases List.mem_append.mp hu with hu | hu
    · exact b.conn u hu
    · simp at hu; subst hu; exact .step (b.conn x hx) hn
theorem KinB.len {E : Edges} {c : Nat} {l : List Nat} (b : KinB E c l) : l.length ≤ 26 := by
  have h := b.nd.length_le_of_subset (l₂ := List.range' 97 26) fun x hx => by
    have := b.lets x hx
    rw [List.mem_range'_1]
    unfold isLet at this
    omega
  simpa using h
def KinP (E : Edges) (c : Nat) (l0 : List Nat) (Ej : Edges) (l : List Nat) : Prop := KinB E c l ∧ ((l = l0 ∧ ∀ e ∈ Ej, (e.1 ∈ l ↔ e.2 ∈ l)) ∨ (¬ Closed E l0 ∧ l0.length + 1 ≤ l.length))
theorem KinP.add {E : Edges} {c a b : Nat} {l0 l : List Nat} {Ej Ek : Edges} (p : KinP E c l0 Ej l) (he : (a, b) ∈ E ∨ (b, a) ∈ E) (ha : a ∈ l) (hb : b ∉ l) (hl : isLet b) : KinP E c l0 Ek (l ++ [b]) := by
  obtain ⟨p1, p2⟩ := p
  refine ⟨p1.push ha hb (mem_nbrs.mpr he) hl, .inr ?_⟩
  rw [List.length_append, List.length_singleton]
  rcases p2 with ⟨e, _⟩ | ⟨h1, h2⟩
  · subst e
    refine ⟨fun cl => ?_, Nat.le_refl _⟩
    rcases he with he | he
    · exact hb ((cl _ he).mp ha)
    · exact hb ((cl _ he).mpr ha)
  · exact ⟨h1, by omega⟩
theorem KinP.skip {E : Edges} {c a b : Nat} {l0 l : List Nat} {Ej : Edges} (p : KinP E c l0 Ej l) (h : a ∈ l ↔ b ∈ l) : KinP E c l0 (Ej ++ [(a, b)]) l := by
  obtain ⟨p1, p2⟩ := p
  refine ⟨p1, ?_⟩
  rcases p2 with ⟨e, q⟩ | q
  · refine .inl ⟨e, fun x hx => ?_⟩
    rcases List.mem_append.mp hx with hx | hx
    · exact q x hx
    · rw [List.mem_singleton] at hx
      subst hx
      exact h
  · exact .inr q
def KinK (E : Edges) (c k : Nat) (l : List Nat) : Prop := KinB E c l ∧ (Closed E l ∨ k + 1 ≤ l.length)
theorem KinK.begin {E : Edges} {c k : Nat} {l : List Nat} (h : KinK E c k l) : KinP E c l [] l := ⟨h.1, .inl ⟨rfl, fun e he => by cases he⟩⟩
theorem KinK.next {E : Edges} {c k : Nat} {l0 l : List Nat} (h : KinK E c k l0) (p : KinP E c l0 E l) : KinK E c (k + 1) l := by
  refine ⟨p.1, ?_⟩
  rcases p.2 with ⟨_, q⟩ | ⟨q1, q2⟩
  · exact .inl q
  · rcases h.2 with h2 | h2
    · exact absurd h2 q1
    · exact .inr (by omega)
theorem KinK.done {E : Edges} {c : Nat} {l : List Nat} (h : KinK E c 26 l) {d : Nat} : d ∈ l ↔ Conn E c d := by
  have hl := h.1.len
  rcases h.2 with h2 | h2
  · exact ⟨h.1.conn d, closed_conn h2 h.1.mem⟩
  · omega
theorem KinK.doneE {E : Edges} {c k : Nat} {l : List Nat} (h : KinK E c k l) {d : Nat} (hk : E.length + 1 ≤ k) : d ∈ l ↔ Conn E c d := by
  have hl := h.1.few
  have h3 : inE E l ≤ E.length := List.length_filter_le _ _
  rcases h.2 with h2 | h2
  · exact ⟨h.1.conn d, closed_conn h2 h.1.mem⟩
  · omega
end Wl

namespace Wl
open PySem PySem.Spec PyProof.Rows L2
def sd (z : Str) : V × PyData := (.str z, .str z)
theorem sort_strs (xs : List Str) : ((xs.map sd).mergeSort (PySem.W.dataLe false (·.2))).map (·.1) = (sortS xs).map V.str := by
  have h : (sortS xs).map sd = (xs.map sd).mergeSort (PySem.W.dataLe false (·.2)) := List.map_mergeSort fun a _ b _ => by
    rw [PySem.W.dataLe_eq]
    exact (le_data_str a b).symm
  rw [← h, List.map_map]
  rfl
theorem alike_strs (xs : List Str) : PySem.W.AllAlike ((xs.map sd).map (·.2)) := by
  intro d hd e he
  obtain ⟨b, hb, rfl⟩ := List.mem_map.mp hd
  obtain ⟨x, _, rfl⟩ := List.mem_map.mp hb
  obtain ⟨c, hc, rfl⟩ := List.mem_map.mp he
  obtain ⟨y, _, rfl⟩ := List.mem_map.mp hc
  rfl
theorem sortable_strs (xs : List Str) : PySem.W.Sortable ((xs.map sd).map (·.2)) := .inr fun d hd => by
  obtain ⟨b, hb, rfl⟩ := List.mem_map.mp hd
  obtain ⟨x, _, rfl⟩ := List.mem_map.mp hb
  exact ⟨(fun e => by cases e), (fun ys e => by cases e)⟩
/-- sorted of a list of texts, as a reading -/
theorem sort_readsK {K : PySem.W.Frag} {H : Hp} {Q : VK} {a : Addr} {xs : List Str} (h : SqL K H a (xs.map V.str)) (q : ∀ p, H p = none → Q (.ref p) (upd H p (.lst ((sortS xs).map V.str)))) : rSortD K [.ref a] H Q := by
  refine ⟨a, xs.map sd, rfl, ?_, ?_, alike_strs xs, sortable_strs xs, ?_, fun p hp => ?_⟩
  · rw [List.map_map]
    exact h
  · intro b hb
    obtain ⟨x, _, rfl⟩ := List.mem_map.mp hb
    exact .str x
  · intro b hb
    obtain ⟨x, _, rfl⟩ := List.mem_map.mp hb
    show PyData.depth (.str x) ≤ 8
    simp [PyData.depth]
  · rw [sort_strs]
    exact q p hp
theorem sign_inj {a b : Nat} (h : sign a = sign b) : a = b := by
  have e := congrArg (fun z : Str => z.cps.toList) h
  simpa [sign] using e
theorem mem_signs {a : Nat} {l : List Nat} : sign a ∈ l.map sign ↔ a ∈ l := by
  constructor
  · intro h
    obtain ⟨b, hb, e⟩ := List.mem_map.mp h
    rw [← sign_inj e]
    exact hb
  · exact fun h => List.mem_map.mpr ⟨a, h, rfl⟩
theorem inV_signs (a : Nat) (l : List Nat) : inV (.str (sign a)) ((l.map sign).map V.str) = decide (a ∈ l) := by
  rw [inV_strs]
  by_cases h : a ∈ l
  · rw [decide_eq_true h, decide_eq_true (mem_signs.mpr h)]
  · rw [decide_eq_false h, decide_eq_false fun q => h (mem_signs.mp q)]
section
variable {a : Nat} {l : List Nat}
end
section
variable {P : Program} {w : World} {K : PySem.W.Frag} {mg : Str → Option Value} {base : Heap} {f : Addr} {fd : FuncData}
end
end Wl




namespace Wl
open PySem PySem.Spec PyProof.Rows L2
abbrev sChanges : Stmt := topS 85
end Wl
namespace Wl
open PySem PySem.Spec PyProof.Rows L2
theorem abcde_eq : ("abcde" : Str).cps.toList = List.range' 97 5 := by decide +kernel
theorem abcde_at {r : Int} (h0 : 0 ≤ r) (h : r < 5) : atI ("abcde" : Str).cps.toList r = some (97 + r.toNat) := by
  rw [abcde_eq]
  have e : r = ((r.toNat : Nat) : Int) := by omega
  rw [e]
  refine atI_nat ?_
  rw [List.getElem?_range' (by omega)]
  congr 1
  omega
theorem ChAt.X {H H' : Hp} {a S : Addr} {chs : List Chg} {ys : List V} (h : ChAt H S chs) (ha : H a = some (.lst ys)) (s : SameX a H H') : ChAt H' S chs :=
  h.keep fun p xs e => s p _ (ne_of e ha (by intro z; cases z)) e
theorem each_X {H H' : Hp} {a : Addr} {as : List Addr} {chs : List Chg} {ys : List V} (h : Each (fun (p : Addr) (ch : Chg) => H p = some (.tup (chV ch))) as chs) (ha : H a = some (.lst ys)) (s : SameX a H H') : Each (fun (p : Addr) (ch : Chg) => H' p = some (.tup (chV ch))) as chs :=
  h.mono fun p ch e => s p _ (ne_of e ha (by intro z; cases z)) e
section
variable {P : Program} {w : World} {K : PySem.W.Frag} {mg : Str → Option Value} {base : Heap} {f : Addr} {fd : FuncData}
def spChanges : Sp := fun vs H Q _ => ∃ (a : Addr) (m : Int), vs = [.ref a, .int m] ∧ PurseAt H a ∧ 0 ≤ m ∧ m ≤ 12 ∧ ∀ (S : Addr) (chs : List Chg) (H' : Hp), PurseAt H' a → SameX a H H' → ChAt H' S chs → OkCs chs → Q (.ref S) H'
abbrev nChanges : List Str := ["_law_purse_here", "_law_most", "_law_found", "_law_k", "_law_one", "_law_wide", "_law_rival", "_law_where"]
theorem scChanges : FnScope nChanges ["_law_purse_here", "_law_most"] (defScope sChanges) := ⟨rfl, rfl, rfl, by decide +kernel, rfl, by decide +kernel, by decide +kernel⟩
theorem ok_changes (F : Fun K "_law_changes" "_law_changes" sChanges f fd) (B : Bi mg) (hp : Has P w K mg base "_law_pick" 1 ["_law_purse_here", "_law_many"] spPick) : FnOk P w K mg base CX0 2 f fd ["_law_purse_here", "_law_most"] spChanges := by
  refine F.ok scChanges (fun vs H Q E h => ?_) (fun cdv A outer s H vs Q E hr h => ?_)
  · obtain ⟨a, m, rfl, _⟩ := h
    rfl
  · obtain ⟨a, m, rfl, hA, m0, m12, q⟩ := h
    refine ⟨_, pss_cons (ps_set (i := 2) scChanges.nd rfl (.inl rfl) (pe_lst pa_nil))
      (pss_cons (ps_for PassesOwn.never rfl (pi_range1 (by rfl) B.range (pa_cons (pe_h hp hr (pa_cons (pv 0) (pa_cons (pe_op op_add (pv 1) pe_int) pa_nil))) pa_nil)) (pg_name (i := 3) scChanges.nd rfl (.inl rfl))
        (pss_cons (ps_par (i := 4) (j := 5) (by rfl) scChanges.nd rfl rfl (by decide) rfl rfl (pa_cons (pe_h hp hr (pa_cons (pv 0) (pa_cons pe_int pa_nil))) (pa_cons (pe_h hp hr (pa_cons (pv 0) (pa_cons pe_int pa_nil))) pa_nil)) (by rfl))
        (pss_cons (ps_set (i := 6) scChanges.nd rfl (.inl rfl) (pe_op op_mod (pe_op op_add (pe_op op_add (pv 4) pe_int) (pv 5)) pe_int))
        (pss_cons (ps_set (i := 7) scChanges.nd rfl (.inl rfl) (pe_ix ix_list (pe_lst (pa_cons pe_str (pa_cons pe_str (pa_cons pe_str (pa_cons pe_str pa_nil))))) (pe_h hp hr (pa_cons (pv 0) (pa_cons pe_int pa_nil))) (fun _ _ => rfl)))
        (pss_one (ps_expr (pe_bm PySem.F.plainAttrs_list PySem.F.slot_list_append PySem.F.type_list_append mt_append (pv 2) (pa_cons (pe_tup (pa_cons (pe_ix ix_str pe_str (pv 4) (fun _ _ => rfl)) (pa_cons (pe_ix ix_str pe_str (pv 6) (fun _ _ => rfl)) (pa_cons (pv 7) pa_nil)))) pa_nil))))))))
      (pss_one (ps_ret (pe_callTy call_tuple_of (by rfl) B.tuple (by decide +kernel) (pa_cons (pv 2) pa_nil))))), ?_⟩
    refine ⟨lz, fun R hR => ?_⟩
    have nRa : R ≠ a := hA.ne hR
    refine ⟨_, rfl, _, rfl, _, _, rfl, rfl, a, m + 1, rfl, hA.same (same_new hR), by omega, by omega, fun r0 H1 r00 r01 hA1 s1 n1 => ?_⟩
    have hR1 := s1 _ _ nRa upd_same
    refine ⟨r0, rfl, by omega, by omega, for_it (walk_range (lo := 0) (n := r0.toNat)) (fun i σ H' => (∃ y3 y4 y5 y6 y7, σ = [some (.ref a), some (.int m), some (.ref R), y3, y4, y5, y6, y7]) ∧ PurseAt H' a ∧ SameX a H H' ∧ ∃ (as : List Addr) (chs : List Chg), H' R = some (.lst (as.map V.ref)) ∧ Each (fun (p : Addr) (ch : Chg) => H' p = some (.tup (chV ch))) as chs ∧ chs.length = i ∧ ∀ ch ∈ chs, OkC ch)
      ⟨⟨_, _, _, _, _, rfl⟩, hA1, (sx (same_new hR)).trans s1, [], [], hR1, .nil, rfl, fun ch hc => by cases hc⟩ (fun _ _ _ _ _ => trivial) ?_ ?_⟩
    · rintro i x σ Hq H2 hi ⟨⟨y3, y4, y5, y6, y7, rfl⟩, hA2, s2, as, chs, hR2, hE2, hl2, ok2⟩ ⟨rfl, rfl⟩
      refine ⟨_, rfl, a, 5, rfl, hA2, by decide, by decide, fun u H3 u0 u1 hA3 s3 n3 => ⟨_, rfl, a, 4, rfl, hA3, by decide, by decide, fun v H4 v0 v1 hA4 s4 n4 => ⟨_, _, rfl, ?_⟩⟩⟩
      refine ⟨_, rfl, _, _, rfl, rfl, _, rfl, _, _, rfl, rfl, _, _, rfl, rfl, (show (0 : Int) < 5 by decide), ?_⟩
      refine ⟨lz, fun p hpn => ⟨_, rfl, a, 4, rfl, hA4.same (same_new hpn), by decide, by decide, fun t H5 t0 t1 hA5 s5 n5 => ?_⟩⟩
      have npa := hA4.ne hpn
      obtain ⟨zw, hzm, hzi⟩ := atI_strs (zs := ["first", "last", "any", "any"]) t0 t1
      obtain ⟨wh, rfl⟩ : ∃ wh, zw = whS wh := by
        simp only [List.mem_cons, List.not_mem_nil, or_false] at hzm
        rcases hzm with rfl | rfl | rfl | rfl
        · exact ⟨.first, rfl⟩
        · exact ⟨.last, rfl⟩
        · exact ⟨.any, rfl⟩
        · exact ⟨.any, rfl⟩
      refine ⟨p, _, t, .str (whS wh), rfl, rfl, .inl (.inl (s5 _ _ npa upd_same)), hzi, ?_⟩
      have s25 : SameX a H2 H5 := (s3.trans s4).trans ((sx (same_new hpn)).trans s5)
      have hR5 := s25 _ _ nRa hR2
      obtain ⟨ya, hya⟩ := hA2.lst
      have hE5 := each_X hE2 hya s25
      have b0 : 0 ≤ (u + 1 + v) % 5 := Int.emod_nonneg _ (by decide)
      have b1 : (u + 1 + v) % 5 < 5 := Int.emod_lt_of_pos _ (by decide)
      refine ⟨_, rfl, .inl ⟨rfl, _, .inl (.inl hR5)⟩, ?_⟩
      refine ⟨_, rfl, ⟨_, u, _, rfl, rfl, lz, abcde_at u0 u1, _, rfl, _, _, _, rfl, rfl, lz, abcde_at b0 b1, _, rfl, lz, fun T hT => ?_⟩⟩
      refine ⟨R, _, _, rfl, rfl, (same_new hT) _ _ hR5, ?_, ⟨_, _, _, _, _, rfl⟩, ?_, ?_, as ++ [T], chs ++ [(97 + u.toNat, 97 + ((u + 1 + v) % 5).toNat, wh)], ?_, ?_, ?_, ?_⟩
      · rw [List.length_map, hE2.length]
        exact small1000 (by omega)
      · have hA6 := hA5.same (same_new (o := .tup [sgV (97 + u.toNat), sgV (97 + ((u + 1 + v) % 5).toNat), .str (whS wh)]) hT)
        obtain ⟨x0, x1, x2, hx, hx1⟩ := hA6
        exact ⟨x0, x1, x2, by rw [upd_ne nRa.symm]; exact hx, hx1⟩
      · exact sameX_mut ((s2.trans s25).trans (sx (same_new hT))) hR
      · rw [upd_same, List.map_append]
        rfl
      · have nTR : T ≠ R := (ne_of_none hR5 hT).symm
        refine Each.append (hE5.mono fun p ch e => ?_) (.cons ?_ .nil)
        · rw [upd_ne (ne_of e hR5 (by intro z; cases z))]
          exact (same_new hT) _ _ e
        · rw [upd_ne nTR, upd_same]
          rfl
      · rw [List.length_append, hl2]
        rfl
      · intro ch hch
        rcases List.mem_append.mp hch with hch | hch
        · exact ok2 ch hch
        · rw [List.mem_singleton] at hch
          subst hch
          refine ⟨?_, ?_, ?_⟩
          · show 97 ≤ 97 + u.toNat ∧ 97 + u.toNat ≤ 122
            omega
          · show 97 ≤ 97 + ((u + 1 + v) % 5).toNat ∧ 97 + ((u + 1 + v) % 5).toNat ≤ 122
            omega
          · show 97 + u.toNat ≠ 97 + ((u + 1 + v) % 5).toNat
            omega
    · rintro σ H2 ⟨⟨y3, y4, y5, y6, y7, rfl⟩, hA2, s2, as, chs, hR2, hE2, hl2, ok2⟩
      refine ⟨_, rfl, R, _, rfl, .inl ⟨.inl (.inl hR2), fun l hl => ?_⟩⟩
      refine q l chs _ (hA2.same (same_new hl)) (s2.trans (sx (same_new hl))) ⟨as, upd_same, hE2.mono fun p ch e => (same_new hl) _ _ e⟩ ⟨?_, ok2⟩
      omega
end
end Wl





namespace Wl
open PySem PySem.Spec PyProof.Rows L2
abbrev sFresh : Stmt := topS 84
abbrev sLand : Stmt := topS 86
abbrev sNames : Stmt := topS 87

/-! ### a word that is not in use -/
def spareS (A B : Str) : List Str := ((List.range' 97 26).map fun c => A ++ sign c) ++ (List.range' 97 13).map fun c => B ++ sign c ++ ("z" : Str)
theorem codes_add (x y : Str) : (x ++ y).cps.toList = x.cps.toList ++ y.cps.toList := TL.tl_append x y
theorem spare_free (A B : Str) (ws : List Str) (h : ws.length ≤ 35) : ∃ z ∈ spareS A B, z ∉ ws := by
  refine Classical.byContradiction fun no => ?_
  have all : ∀ z ∈ spareS A B, z ∈ ws := fun z hz => Classical.byContradiction fun k => no ⟨z, hz, k⟩
  have nd : (((List.range' 97 25).map fun c => A ++ sign c) ++ (List.range' 97 13).map fun c => B ++ sign c ++ ("z" : Str)).Nodup := by
    have zc : ("z" : Str).cps.toList = [122] := by decide +kernel
    have c1 : ∀ c, (A ++ sign c).cps.toList = A.cps.toList ++ [c] := fun c => codes_add A (sign c)
    have c2 : ∀ c, (B ++ sign c ++ ("z" : Str)).cps.toList = B.cps.toList ++ [c] ++ [122] := fun c => by
      rw [codes_add, codes_add, zc]
      rfl
    rw [List.nodup_append]
    refine ⟨?_, ?_, ?_⟩
    · refine List.pairwise_map.mpr ((List.nodup_range' (s := 97) (n := 25) (step := 1)).imp fun {a b} ne e => ne ?_)
      have := congrArg (fun z : Str => z.cps.toList) e
      simp only [c1] at this
      simpa using this
    · refine List.pairwise_map.mpr ((List.nodup_range' (s := 97) (n := 13) (step := 1)).imp fun {a b} ne e => ne ?_)
      have := congrArg (fun z : Str => z.cps.toList) e
      simp only [c2] at this
      simpa using this
    · intro x hx y hy e
      obtain ⟨c, hc, rfl⟩ := List.mem_map.mp hx
      obtain ⟨d, hd, rfl⟩ := List.mem_map.mp hy
      have := congrArg (fun z : Str => z.cps.toList.getLast?) e
      simp only [c1, c2, List.getLast?_append, List.getLast?_singleton, Option.some_or, Option.some.injEq] at this
      rw [List.mem_range'_1] at hc
      omega
  have sub : (((List.range' 97 25).map fun c => A ++ sign c) ++ (List.range' 97 13).map fun c => B ++ sign c ++ ("z" : Str)) ⊆ ws := by
    intro z hz
    refine all z ?_
    rcases List.mem_append.mp hz with hz | hz
    · obtain ⟨c, hc, rfl⟩ := List.mem_map.mp hz
      refine List.mem_append.mpr (.inl (List.mem_map.mpr ⟨c, ?_, rfl⟩))
      rw [List.mem_range'_1] at hc ⊢
      omega
    · exact List.mem_append.mpr (.inr hz)
  have := nd.length_le_of_subset sub
  simp at this
  omega
theorem spare_wd {z : Str} (h : IsWd z) : ∀ y ∈ spareS (cutS z none (some 7)) (cutS z none (some 6)), IsWd y := by
  have hl := h.len
  have hz : z.length = z.cps.toList.length := by simp [Str.length]
  have hc : ∀ c ∈ z.cps.toList, 97 ≤ c ∧ c ≤ 122 := by
    unfold IsWd wdB at h
    simp only [Bool.and_eq_true, decide_eq_true_eq, List.all_eq_true] at h
    exact h.2
  have zc : ("z" : Str).cps.toList = [122] := by decide +kernel
  intro y hy
  rcases List.mem_append.mp hy with hy | hy
  · obtain ⟨c, hcm, rfl⟩ := List.mem_map.mp hy
    rw [List.mem_range'_1] at hcm
    have e : (cutS z none (some 7) ++ sign c).cps.toList = z.cps.toList.take 7 ++ [c] := by
      rw [codes_add, show ((7 : Int)) = ((7 : Nat) : Int) from rfl, cut_hi]
      rfl
    refine isWd_of ?_ ?_ ?_
    · rw [e]; simp
    · rw [e]; simp; omega
    · rw [e]
      intro d hd
      rcases List.mem_append.mp hd with hd | hd
      · exact hc d (List.mem_of_mem_take hd)
      · rw [List.mem_singleton.mp hd]; omega
  · obtain ⟨c, hcm, rfl⟩ := List.mem_map.mp hy
    rw [List.mem_range'_1] at hcm
    have e : (cutS z none (some 6) ++ sign c ++ ("z" : Str)).cps.toList = z.cps.toList.take 6 ++ [c] ++ [122] := by
      rw [codes_add, codes_add, show ((6 : Int)) = ((6 : Nat) : Int) from rfl, cut_hi, zc]
      rfl
    refine isWd_of ?_ ?_ ?_
    · rw [e]; simp
    · rw [e]; simp; omega
    · rw [e]
      intro d hd
      rcases List.mem_append.mp hd with hd | hd
      · rcases List.mem_append.mp hd with hd | hd
        · exact hc d (List.mem_of_mem_take hd)
        · rw [List.mem_singleton.mp hd]; omega
      · rw [List.mem_singleton.mp hd]; omega

section
variable {P : Program} {w : World} {K : PySem.W.Frag} {mg : Str → Option Value} {base : Heap} {f : Addr} {fd : FuncData}
def spFresh : Sp := fun vs H Q _ => ∃ (a u : Addr) (ws : List Str), vs = [.ref a, .ref u] ∧ PurseAt H a ∧ H u = some (.lst (ws.map V.str)) ∧ u ≠ a ∧ ws.length ≤ 35 ∧
  ∀ (z : Str) (H' : Hp), IsWd z → z ∉ ws → PurseAt H' a → SameX a H H' → Q (.str z) H'
abbrev nFresh : List Str := ["_law_purse_here", "_law_used", "_law_sound", "_law_spare", "_law_sign", "_law_one"]
theorem scFresh : FnScope nFresh ["_law_purse_here", "_law_used"] (defScope sFresh) :=
  ⟨rfl, rfl, rfl, by decide +kernel, rfl, by decide +kernel, by decide +kernel⟩
def addS (A : Str) (B : Str) : V → V
  | .str s => .str (A ++ s ++ B)
  | v => v
theorem wd_line {z : Str} (h : IsWd z) : z.length ≤ sizeLine := lzl (by have := h.len; omega)
theorem ok_fresh (F : Fun K "_law_fresh" "_law_fresh" sFresh f fd) (B : Bi mg) (hW : Has P w K mg base "_law_word" 2 ["_law_purse_here"] spWord) :
    FnOk P w K mg base CX0 3 f fd ["_law_purse_here", "_law_used"] spFresh := by
  refine F.ok scFresh (fun vs H Q E h => ?_) (fun cdv A outer s H vs Q E hr h => ?_)
  · obtain ⟨a, u, ws, rfl, _⟩ := h
    rfl
  · obtain ⟨a, u, ws, rfl, hA, hu, nua, hl, q⟩ := h
    refine ⟨_, pss_cons (ps_set (i := 2) scFresh.nd rfl (.inr rfl) (pe_h hW hr (pa_cons (pv 0) pa_nil)))
      (pss_cons (ps_if (pt_cmpR op_notIn_seq (pv 2) (pv 1) (by rfl)) (pss_one (ps_ret (pv 2))) pss_nil)
      (pss_cons (ps_setLc (i := 3) (own := [("_law_sign", 4)]) (g := gName 4) (tt := tYes) rfl scFresh.nd rfl rfl (sw_true rfl rfl rfl (by decide +kernel)) (pi_str pe_str) (blkOk_by (N := nFresh) (sc := defScope sFresh) (by decide +kernel))
        (fun _ _ _ _ _ => pg_name (i := 4) scFresh.nd rfl (.inl rfl)) (fun _ _ _ _ _ => pts_nil) (fun _ _ _ _ _ => pe_op op_add_str (pe_slice sl_str (pv 2) po_none (po_some pe_int)) (pv 4)))
      (pss_cons (ps_set (i := 3) scFresh.nd rfl (.inl rfl) (pe_op op_cat (pv 3) (pe_lc (own := [("_law_sign", 4)]) (g := gName 4) (tt := tYes) rfl scFresh.nd (pi_str pe_str) (blkOk_by (N := nFresh) (sc := defScope sFresh) (by decide +kernel))
        (fun _ _ _ _ _ => pg_name (i := 4) scFresh.nd rfl (.inl rfl)) (fun _ _ _ _ _ => pts_nil) (fun _ _ _ _ _ => pe_op op_add_str (pe_op op_add_str (pe_slice sl_str (pv 2) po_none (po_some pe_int)) (pv 4)) pe_str))))
      (pss_one (ps_ret (pe_ix ix_list (pe_lc (own := [("_law_one", 5)]) (g := gName 5) (tt := tTest (tOp (rIn K true) (tVar 5) (tVar 1))) rfl scFresh.nd (pi_list (pv 3)) (blkOk_by (N := nFresh) (sc := defScope sFresh) (by decide +kernel))
        (fun _ _ _ _ _ => pg_name (i := 5) scFresh.nd rfl (.inl rfl)) (fun _ _ _ _ _ => pts_one (pt_cmpR op_notIn_seq (pv 5) (pv 1) (by rfl))) (fun _ _ _ _ _ => pv 5)) pe_int (fun _ _ => rfl))))))), ?_⟩
    refine ⟨_, rfl, a, rfl, hA, fun z H1 hz hA1 s1 => ?_⟩
    have hu1 : H1 u = some (.lst (ws.map V.str)) := s1 _ _ nua hu
    refine ⟨_, rfl, _, rfl, u, ws.map V.str, rfl, .inl (.inl (.inl hu1)), rfl, flat_strs ws, _, rfl, ite_b (fun e => ?_) (fun e => ?_)⟩
    · rw [if_pos rfl, inV_strs, Bool.not_eq_true', decide_eq_false_iff_not] at e
      exact ⟨_, rfl, q z H1 hz e hA1 s1⟩
    · refine ⟨_, rfl, fun D hD => lc_map walk_signs hD (fun _ => true) (addS (cutS z none (some 7)) ⟨#[]⟩) (fun _ _ => trivial) (fun _ => rfl) (fun x H' _ _ Q' q' => q') ?_ lz ?_⟩
      · intro x H' hx _ _ Q' q'
        obtain ⟨c, hc, rfl⟩ := List.mem_map.mp hx
        refine ⟨_, rfl, 7, rfl, z, rfl, wd_line hz, _, rfl, _, _, rfl, rfl, ?_, ?_⟩
        · have := cutS_length z none (some 7)
          have := hz.len
          exact lzl (by show (cutS z none (some 7)).length + 1 ≤ 1000; omega)
        · have e0 : addS (cutS z none (some 7)) ⟨#[]⟩ (.str (sign c)) = .str (cutS z none (some 7) ++ sign c) := by
            refine congrArg V.str (str_ext ?_)
            rw [codes_add]
            simp
          rw [e0] at q'
          exact q'
      · intro H2 s2 hD2
        have hu2 := s2 _ _ hu1
        have hA2 := hA1.same s2
        refine ⟨_, rfl, _, rfl, fun D3 hD3 => lc_map walk_signs hD3 (fun _ => true) (addS (cutS z none (some 6)) "z") (fun _ _ => trivial) (fun _ => rfl) (fun x H' _ _ Q' q' => q') ?_ lz ?_⟩
        · intro x H' hx _ _ Q' q'
          obtain ⟨c, hc, rfl⟩ := List.mem_map.mp hx
          have h6 := cutS_length z none (some 6)
          have hl8 := hz.len
          have hz1 : ("z" : Str).length = 1 := by decide +kernel
          have hadd : (cutS z none (some 6) ++ sign c).length = (cutS z none (some 6)).length + 1 := by
            rw [TL.len_tl, TL.tl_append, List.length_append, ← TL.len_tl]
            rfl
          refine ⟨_, rfl, 6, rfl, z, rfl, wd_line hz, _, rfl, _, _, rfl, rfl, ?_, _, _, rfl, rfl, ?_, q'⟩
          · exact lzl (by show (cutS z none (some 6)).length + 1 ≤ 1000; omega)
          · exact lzl (by rw [hz1]; show (cutS z none (some 6) ++ sign c).length + 1 ≤ 1000; omega)
        · intro H4 s4 hD4
          have e26 : (signsOf ("abcdefghijklmnopqrstuvwxyz" : Str)).filter (fun _ => true) = signsOf ("abcdefghijklmnopqrstuvwxyz" : Str) := List.filter_eq_self.mpr fun _ _ => rfl
          have e13 : (signsOf ("abcdefghijklm" : Str)).filter (fun _ => true) = signsOf ("abcdefghijklm" : Str) := List.filter_eq_self.mpr fun _ _ => rfl
          have c13 : ("abcdefghijklm" : Str).cps.toList = List.range' 97 13 := by decide +kernel
          have eall : ((signsOf ("abcdefghijklmnopqrstuvwxyz" : Str)).filter (fun _ => true)).map (addS (cutS z none (some 7)) ⟨#[]⟩) ++ ((signsOf ("abcdefghijklm" : Str)).filter (fun _ => true)).map (addS (cutS z none (some 6)) "z")
              = (spareS (cutS z none (some 7)) (cutS z none (some 6))).map V.str := by
            rw [e26, e13]
            unfold signsOf spareS
            rw [letters_eq, c13, List.map_append, List.map_map, List.map_map, List.map_map, List.map_map]
            congr 1
          refine ⟨D, D3, _, _, rfl, rfl, s4 _ _ hD2, hD4, lz, fun p5 hp5 => ?_⟩
          rw [eall]
          have s5 : Same H1 (upd H4 p5 (.lst ((spareS (cutS z none (some 7)) (cutS z none (some 6))).map V.str))) := (s2.trans s4).trans (same_new hp5)
          refine ⟨_, rfl, p5, rfl, ⟨_, .inl (.inl upd_same)⟩, fun D6 hD6 => lc_map (walk_list (K := K) (a := p5) (xs := (spareS (cutS z none (some 7)) (cutS z none (some 6))).map V.str)) hD6 (fun v => !inV v (ws.map V.str)) id (fun H' s' => .inl (.inl (s' _ _ upd_same))) (fun _ => rfl) ?_ ?_ lz ?_⟩
          · intro x H' hx s' Q' q'
            obtain ⟨y, hy, rfl⟩ := List.mem_map.mp hx
            exact ⟨_, rfl, _, rfl, u, _, rfl, .inl (.inl (.inl (s' _ _ (s5 _ _ hu1)))), rfl, flat_strs ws, _, rfl, q'⟩
          · intro x H' hx _ _ Q' q'
            exact ⟨_, rfl, q'⟩
          · intro H7 s7 hD7
            obtain ⟨y0, hy0, hn0⟩ := spare_free (cutS z none (some 7)) (cutS z none (some 6)) ws hl
            have hf : ((spareS (cutS z none (some 7)) (cutS z none (some 6))).map V.str).filter (fun v => !inV v (ws.map V.str)) = ((spareS (cutS z none (some 7)) (cutS z none (some 6))).filter fun y => decide (y ∉ ws)).map V.str := by
              rw [List.filter_map]
              congr 1
              refine List.filter_congr fun y _ => ?_
              simp only [Function.comp, inV_strs]
              by_cases c : y ∈ ws <;> simp [c]
            rw [List.map_id, hf] at hD7
            have hm0 : y0 ∈ (spareS (cutS z none (some 7)) (cutS z none (some 6))).filter fun y => decide (y ∉ ws) := List.mem_filter.mpr ⟨hy0, decide_eq_true hn0⟩
            cases hcl : (spareS (cutS z none (some 7)) (cutS z none (some 6))).filter fun y => decide (y ∉ ws) with
            | nil =>
              rw [hcl] at hm0
              cases hm0
            | cons y r =>
              have hym : y ∈ (spareS (cutS z none (some 7)) (cutS z none (some 6))).filter fun y => decide (y ∉ ws) := by
                rw [hcl]
                exact List.mem_cons_self
              obtain ⟨hy1, hy2⟩ := List.mem_filter.mp hym
              refine ⟨D6, _, 0, .str y, rfl, rfl, .inl (.inl hD7), atI_nat (j := 0) (by rw [hcl]; rfl), ?_⟩
              exact q y H7 (spare_wd hz y hy1) (of_decide_eq_true hy2) (hA1.same (s5.trans s7)) (s1.trans (sx (s5.trans s7)))
end
end Wl




namespace Wl
open PySem PySem.Spec PyProof.Rows L2
abbrev Row := List (Option Str)
abbrev Grid := List Row
def rnames (r : Row) : List Str := r.filterMap id
def names (g : Grid) : List Str := g.flatten.filterMap id
theorem names_nil : names [] = [] := rfl
theorem names_snoc (g : Grid) (r : Row) : names (g ++ [r]) = names g ++ rnames r := by
  unfold names rnames
  rw [List.flatten_append, List.filterMap_append]
  simp
theorem names_cons (r : Row) (g : Grid) : names (r :: g) = rnames r ++ names g := by
  unfold names rnames
  rw [List.flatten_cons, List.filterMap_append]
theorem rnames_snoc (r : Row) (o : Option Str) : rnames (r ++ [o]) = rnames r ++ o.toList := by
  unfold rnames
  rw [List.filterMap_append]
  cases o <;> rfl
structure Good (g : Grid) (wd : Nat) : Prop where
  h1 : 1 ≤ g.length
  h6 : g.length ≤ 6
  w1 : 1 ≤ wd
  w6 : wd ≤ 6
  rows : ∀ r ∈ g, r.length = wd
  nd : (names g).Nodup
  wd : ∀ z ∈ names g, IsWd z
  ne : names g ≠ []
/-- the heap keeps its tuples -/
def TupKeep (H H' : Hp) : Prop := ∀ p xs, H p = some (.tup xs) → H' p = some (.tup xs)
theorem TupKeep.refl (H : Hp) : TupKeep H H := fun _ _ h => h
theorem TupKeep.trans {H H1 H2 : Hp} (a : TupKeep H H1) (b : TupKeep H1 H2) : TupKeep H H2 := fun p xs h => b p xs (a p xs h)
theorem tk_same {H H' : Hp} (s : Same H H') : TupKeep H H' := fun p xs h => s p _ h
theorem tk_x {a : Addr} {H H' : Hp} {ys : List V} (s : SameX a H H') (ha : H a = some (.lst ys)) : TupKeep H H' := fun p xs h => s p _ (ne_of h ha (by intro z; cases z)) h
theorem tk_upd {a : Addr} {H : Hp} {ys : List V} {o : HO} (ha : H a = some (.lst ys)) : TupKeep H (upd H a o) := tk_x sameX_upd ha
theorem tk_new {p : Addr} {H : Hp} {o : HO} (hp : H p = none) : TupKeep H (upd H p o) := tk_same (same_new hp)
/-- rows of a grid as tuples -/
def RowsAt (H : Hp) (as : List Addr) (g : Grid) : Prop := Each (fun (p : Addr) (row : Row) => H p = some (.tup (row.map oV))) as g
theorem RowsAt.keep {H H' : Hp} {as : List Addr} {g : Grid} (h : RowsAt H as g) (k : TupKeep H H') : RowsAt H' as g := Each.mono (fun p row e => k p _ e) h
def GridAt (H : Hp) (L : Addr) (g : Grid) : Prop := ∃ as : List Addr, H L = some (.tup (as.map V.ref)) ∧ RowsAt H as g
theorem GridAt.keep {H H' : Hp} {L : Addr} {g : Grid} (h : GridAt H L g) (k : TupKeep H H') : GridAt H' L g := by
  obtain ⟨as, h1, h2⟩ := h
  exact ⟨as, k _ _ h1, h2.keep k⟩
/-- the part at a row and a column, none where there is none -/
def cellAt (g : Grid) (r c : Nat) : Option Str := match g[r]? with
  | some row => (row[c]?).getD none
  | none => none
theorem cellAt_some {g : Grid} {r c : Nat} {z : Str} (h : cellAt g r c = some z) : ∃ row, g[r]? = some row ∧ row[c]? = some (some z) := by
  unfold cellAt at h
  cases e : g[r]? with
  | none => rw [e] at h; cases h
  | some row =>
    rw [e] at h
    refine ⟨row, rfl, ?_⟩
    cases e2 : row[c]? with
    | none => simp only [e2] at h; cases h
    | some o => simp only [e2, Option.getD_some] at h; rw [h]
theorem cellAt_of {g : Grid} {r c : Nat} {row : Row} {o : Option Str} (h : g[r]? = some row) (k : row[c]? = some o) : cellAt g r c = o := by
  unfold cellAt
  rw [h]
  simp [k]
/-! ### the spots -/
def spR (i j : Nat) : Row → List (Str × Nat × Nat)
  | [] => []
  | none :: r => spR i (j + 1) r
  | some z :: r => (z, i, j) :: spR i (j + 1) r
def spG (i : Nat) : Grid → List (Str × Nat × Nat)
  | [] => []
  | row :: g => spR i 0 row ++ spG (i + 1) g
theorem spR_snoc (i : Nat) : ∀ (r : Row) (j : Nat) (o : Option Str), spR i j (r ++ [o]) = spR i j r ++ (o.toList.map fun z => (z, i, j + r.length))
  | [], j, none => rfl
  | [], j, some z => rfl
  | none :: r, j, o => by
    show spR i (j + 1) (r ++ [o]) = spR i (j + 1) r ++ _
    rw [spR_snoc i r (j + 1) o, List.length_cons]
    congr 2
    funext z
    rw [Nat.add_right_comm, Nat.add_assoc]
  | some y :: r, j, o => by
    show (y, i, j) :: spR i (j + 1) (r ++ [o]) = (y, i, j) :: spR i (j + 1) r ++ _
    rw [spR_snoc i r (j + 1) o, List.length_cons, List.cons_append]
    congr 3
    funext z
    rw [Nat.add_right_comm, Nat.add_assoc]
theorem spG_snoc : ∀ (g : Grid) (i : Nat) (r : Row), spG i (g ++ [r]) = spG i g ++ spR (i + g.length) 0 r
  | [], i, r => by simp [spG]
  | x :: g, i, r => by
    show spR i 0 x ++ spG (i + 1) (g ++ [r]) = spR i 0 x ++ spG (i + 1) g ++ _
    rw [spG_snoc g (i + 1) r, List.length_cons, List.append_assoc]
    congr 3
    omega
theorem spR_fst (i : Nat) : ∀ (r : Row) (j : Nat), (spR i j r).map (·.1) = rnames r
  | [], _ => rfl
  | none :: r, j => spR_fst i r (j + 1)
  | some z :: r, j => congrArg (z :: ·) (spR_fst i r (j + 1))
theorem spG_fst : ∀ (g : Grid) (i : Nat), (spG i g).map (·.1) = names g
  | [], _ => rfl
  | r :: g, i => by
    show (spR i 0 r ++ spG (i + 1) g).map (·.1) = _
    rw [List.map_append, spR_fst, spG_fst g (i + 1), names_cons]
theorem spR_mem (i : Nat) {z : Str} {a b : Nat} : ∀ (r : Row) (j : Nat), (z, a, b) ∈ spR i j r ↔ a = i ∧ ∃ k, b = j + k ∧ r[k]? = some (some z)
  | [], j => by simp [spR]
  | none :: r, j => by
    show (z, a, b) ∈ spR i (j + 1) r ↔ _
    rw [spR_mem i r (j + 1)]
    constructor
    · rintro ⟨h, k, e, q⟩
      exact ⟨h, k + 1, by omega, by simpa using q⟩
    · rintro ⟨h, k, e, q⟩
      cases k with
      | zero => simp at q
      | succ k => exact ⟨h, k, by omega, by simpa using q⟩
  | some y :: r, j => by
    show (z, a, b) ∈ (y, i, j) :: spR i (j + 1) r ↔ _
    rw [List.mem_cons, spR_mem i r (j + 1)]
    constructor
    · rintro (h | ⟨h, k, e, q⟩)
      · cases h
        exact ⟨rfl, 0, rfl, rfl⟩
      · exact ⟨h, k + 1, by omega, by simpa using q⟩
    · rintro ⟨h, k, e, q⟩
      cases k with
      | zero =>
        simp at q
        subst q h
        exact .inl (by rw [e, Nat.add_zero])
      | succ k => exact .inr ⟨h, k, by omega, by simpa using q⟩
theorem spG_mem {z : Str} {a b : Nat} : ∀ (g : Grid) (i : Nat), (z, a, b) ∈ spG i g ↔ ∃ k row, a = i + k ∧ g[k]? = some row ∧ row[b]? = some (some z)
  | [], i => by simp [spG]
  | r :: g, i => by
    show (z, a, b) ∈ spR i 0 r ++ spG (i + 1) g ↔ _
    rw [List.mem_append, spR_mem, spG_mem g (i + 1)]
    constructor
    · rintro (⟨h, k, e, q⟩ | ⟨k, row, e, q, t⟩)
      · exact ⟨0, r, by omega, rfl, by rw [e, Nat.zero_add]; exact q⟩
      · exact ⟨k + 1, row, by omega, by simpa using q, t⟩
    · rintro ⟨k, row, e, q, t⟩
      cases k with
      | zero =>
        simp at q
        subst q
        exact .inl ⟨by omega, b, by omega, t⟩
      | succ k => exact .inr ⟨k, row, by omega, by simpa using q, t⟩
theorem spG_cell {g : Grid} {z : Str} {r c : Nat} : (z, r, c) ∈ spG 0 g ↔ cellAt g r c = some z := by
  rw [spG_mem]
  constructor
  · rintro ⟨k, row, e, q, t⟩
    have : r = k := by omega
    subst this
    exact cellAt_of q t
  · intro h
    obtain ⟨row, q, t⟩ := cellAt_some h
    exact ⟨r, row, by omega, q, t⟩
theorem mem_names {g : Grid} {z : Str} : z ∈ names g ↔ ∃ r c, cellAt g r c = some z := by
  rw [← spG_fst g 0]
  constructor
  · intro h
    obtain ⟨⟨y, r, c⟩, hm, rfl⟩ := List.mem_map.mp h
    exact ⟨r, c, spG_cell.mp hm⟩
  · rintro ⟨r, c, h⟩
    exact List.mem_map.mpr ⟨_, spG_cell.mpr h, rfl⟩
theorem nodup_fst {α β : Type} : ∀ {l : List (α × β)}, (l.map (·.1)).Nodup → ∀ {a : α} {b b' : β}, (a, b) ∈ l → (a, b') ∈ l → b = b'
  | [], _, _, _, _, h, _ => by cases h
  | x :: l, nd, a, b, b', h, k => by
    obtain ⟨h1, h2⟩ := List.nodup_cons.mp nd
    rcases List.mem_cons.mp h with e | h <;> rcases List.mem_cons.mp k with e' | k
    · rw [← e] at e'
      exact (Prod.mk.inj e').2.symm
    · exact absurd (List.mem_map.mpr ⟨_, k, by rw [← e]⟩) h1
    · exact absurd (List.mem_map.mpr ⟨_, h, by rw [← e']⟩) h1
    · exact nodup_fst h2 h k
theorem cell_inj {g : Grid} (nd : (names g).Nodup) {z : Str} {r c r' c' : Nat} (h : cellAt g r c = some z) (k : cellAt g r' c' = some z) : r = r' ∧ c = c' := by
  have := nodup_fst (l := spG 0 g) (by rw [spG_fst]; exact nd) (spG_cell.mpr h) (spG_cell.mpr k)
  exact Prod.mk.inj this
theorem Good.cell {g : Grid} {wd : Nat} (G : Good g wd) {r c : Nat} {z : Str} (h : cellAt g r c = some z) : r < g.length ∧ c < wd := by
  obtain ⟨row, h1, h2⟩ := cellAt_some h
  obtain ⟨a, e⟩ := List.getElem?_eq_some_iff.mp h1
  obtain ⟨b, _⟩ := List.getElem?_eq_some_iff.mp h2
  have := G.rows row (List.mem_of_getElem? h1)
  exact ⟨a, by omega⟩
theorem Good.len {g : Grid} {wd : Nat} (G : Good g wd) : (names g).length ≤ 36 := by
  have h : ∀ l : Grid, (∀ r ∈ l, r.length = wd) → (names l).length ≤ l.length * wd := by
    intro l
    induction l with
    | nil => intro _; simp [names]
    | cons r l ih =>
      intro h
      rw [names_cons, List.length_append, List.length_cons]
      have h1 : (rnames r).length ≤ wd := by
        have := List.length_filterMap_le id r
        have := h r List.mem_cons_self
        unfold rnames
        omega
      have h2 := ih fun r hr => h r (List.mem_cons_of_mem _ hr)
      rw [Nat.succ_mul]
      omega
  have h1 := h g G.rows
  have h2 : g.length * wd ≤ 6 * 6 := Nat.mul_le_mul G.h6 G.w6
  omega
end Wl

namespace Wl
open PySem PySem.Spec PyProof.Rows L2
section
variable {P : Program} {w : World} {K : PySem.W.Frag} {mg : Str → Option Value} {base : Heap} {f : Addr} {fd : FuncData}
def spLand : Sp := fun vs H Q _ => ∃ (a : Addr) (m : Int), vs = [.ref a, .int m] ∧ PurseAt H a ∧ 1 ≤ m ∧ m ≤ 6 ∧
  ∀ (L : Addr) (g : Grid) (wd : Nat) (H' : Hp), Good g wd → GridAt H' L g → PurseAt H' a → SameX a H H' → Q (.ref L) H'
abbrev nLand : List Str := ["_law_purse_here", "_law_most", "_law_high", "_law_wide", "_law_towns", "_law_laid", "_law_row", "_law_parts", "_law_column", "_law_lake", "_law_town"]
theorem scLand : FnScope nLand ["_law_purse_here", "_law_most"] (defScope sLand) :=
  ⟨rfl, rfl, rfl, by decide +kernel, rfl, by decide +kernel, by decide +kernel⟩
/-- what holds of the heap while the land is laid: the rows laid so far, the parts of this one -/
structure Laying (H0 H : Hp) (a tA lA : Addr) (g : Grid) (wd : Nat) (ps : Row) : Prop where
  purse : PurseAt H a
  same : SameX a H0 H
  towns : H tA = some (.lst ((names g ++ rnames ps).map V.str))
  laid : ∃ as, H lA = some (.lst (as.map V.ref)) ∧ RowsAt H as g
  rows : ∀ r ∈ g, r.length = wd
  nd : (names g ++ rnames ps).Nodup
  wds : ∀ z ∈ names g ++ rnames ps, IsWd z
theorem len_names {g : Grid} {wd : Nat} (h : ∀ r ∈ g, r.length = wd) : (names g).length ≤ g.length * wd := by
  induction g with
  | nil => simp [names]
  | cons r l ih =>
    rw [names_cons, List.length_append, List.length_cons]
    have h1 : (rnames r).length ≤ wd := by
      have := List.length_filterMap_le id r
      have := h r List.mem_cons_self
      unfold rnames
      omega
    have h2 := ih fun r hr => h r (List.mem_cons_of_mem _ hr)
    rw [Nat.succ_mul]
    omega
theorem lake_reads {σ : L2.St} {H : Hp} {Q : VK} {a tA : Addr} {ws : List Str} {x y hi wd : Int} (e0 : σ[0]? = some (some (.ref a))) (e4 : σ[4]? = some (some (.ref tA))) (e6 : σ[6]? = some (some (.int x))) (e8 : σ[8]? = some (some (.int y)))
    (e2 : σ[2]? = some (some (.int hi))) (e3 : σ[3]? = some (some (.int wd))) (hA : PurseAt H a) (ht : H tA = some (.lst (ws.map V.str))) (nta : tA ≠ a) (hws : ∀ z ∈ ws, IsWd z)
    (q : ∀ (b : Bool) (H' : Hp), PurseAt H' a → SameX a H H' → (b = true → ws ≠ [] ∨ x + y + 2 < hi + wd) → Q (.bl b) H') :
    tAndV (tOp rEq (tCall spPick [] E0 (tCons (tVar 0) (tCons (tC (.int 6)) tNil))) (tC (.int 5)))
      (tOrV (tOp (rNeD K) (tVar 4) (tLst tNil)) (tOp (rI0 fun i j => .bl (decide (i < j))) (tOp (rI0 fun i j => .int (i + j)) (tOp (rI0 fun i j => .int (i + j)) (tVar 6) (tVar 8)) (tC (.int 2))) (tOp (rI0 fun i j => .int (i + j)) (tVar 2) (tVar 3)))) σ H Q := by
  refine ⟨_, e0, a, 6, rfl, hA, by decide, by decide, fun r H1 r0 r1 hA1 s1 n1 => ⟨rfl, _, rfl, ite_b (fun e => ?_) (fun e => ?_)⟩⟩
  · refine ⟨_, e4, lz, fun p hp => ⟨.list (ws.map .str), .list [], .lst (.inl (.inl ((same_new hp) _ _ (s1 _ _ nta ht)))) (dp_strs ws), .lst (.inl (.inl upd_same)) .nil, shaped_list (lay_strs hws) (by rw [depth_strs]; decide), rfl, _, rfl, ite_b (fun e => ?_) (fun e => ?_)⟩⟩
    · refine q true _ (hA1.same (same_new hp)) (s1.trans (sx (same_new hp))) fun _ => .inl fun z => ?_
      subst z
      cases e
    · refine ⟨_, e6, _, e8, _, _, rfl, rfl, _, _, rfl, rfl, _, e2, _, e3, _, _, rfl, rfl, _, _, rfl, rfl, ?_⟩
      exact q _ _ (hA1.same (same_new hp)) (s1.trans (sx (same_new hp))) fun z => .inr (of_decide_eq_true z)
  · exact q false _ hA1 s1 fun z => by cases z
theorem Laying.go {H0 H H' : Hp} {a tA lA : Addr} {g : Grid} {wd : Nat} {ps : Row} (h : Laying H0 H a tA lA g wd ps) (nt : tA ≠ a) (nl : lA ≠ a) (hp : PurseAt H' a) (s : SameX a H H') : Laying H0 H' a tA lA g wd ps := by
  obtain ⟨as, hl, hR⟩ := h.laid
  obtain ⟨ys, ha⟩ := h.purse.lst
  exact ⟨hp, h.same.trans s, s _ _ nt h.towns, ⟨as, s _ _ nl hl, hR.keep (tk_x s ha)⟩, h.rows, h.nd, h.wds⟩
theorem ok_land (F : Fun K "_law_land" "_law_land" sLand f fd) (B : Bi mg) (hp : Has P w K mg base "_law_pick" 1 ["_law_purse_here", "_law_many"] spPick) (hF : Has P w K mg base "_law_fresh" 3 ["_law_purse_here", "_law_used"] spFresh) :
    FnOk P w K mg base CX0 4 f fd ["_law_purse_here", "_law_most"] spLand := by
  refine F.ok scLand (fun vs H Q E h => ?_) (fun cdv A outer s H vs Q E hr h => ?_)
  · obtain ⟨a, m, rfl, _⟩ := h
    rfl
  · obtain ⟨a, m, rfl, hA, m1, m6, q⟩ := h
    refine ⟨_, pss_cons (ps_par3 (i := 2) (j := 3) (l := 4) (by rfl) scLand.nd rfl rfl rfl (by decide) (by decide) (by decide) rfl rfl rfl (pa_cons (pe_op op_add pe_int (pe_h hp hr (pa_cons (pv 0) (pa_cons (pv 1) pa_nil)))) (pa_cons (pe_op op_add pe_int (pe_h hp hr (pa_cons (pv 0) (pa_cons (pv 1) pa_nil)))) (pa_cons (pe_lst pa_nil) pa_nil))) (by rfl))
      (pss_cons (ps_set (i := 5) scLand.nd rfl (.inl rfl) (pe_lst pa_nil))
      (pss_cons (ps_for PassesOwn.never rfl (pi_range1 rfl B.range (pa_cons (pv 2) pa_nil)) (pg_name (i := 6) scLand.nd rfl (.inl rfl))
        (pss_cons (ps_set (i := 7) scLand.nd rfl (.inl rfl) (pe_lst pa_nil))
        (pss_cons (ps_for PassesOwn.never rfl (pi_range1 rfl B.range (pa_cons (pv 3) pa_nil)) (pg_name (i := 8) scLand.nd rfl (.inl rfl))
          (pss_cons (ps_set (i := 9) scLand.nd rfl (.inl rfl) (pe_and (pe_cmpR op_eq (pe_h hp hr (pa_cons (pv 0) (pa_cons pe_int pa_nil))) pe_int (nomark _)) (pe_one (pe_or (pe_cmpR (op_neD hr.units) (pv 4) (pe_lst pa_nil) (nomark _)) (pe_one (pe_cmpR op_lt (pe_op op_add (pe_op op_add (pv 6) (pv 8)) pe_int) (pe_op op_add (pv 2) (pv 3)) (nomark _)))))))
          (pss_cons (ps_set (i := 10) scLand.nd rfl (.inl rfl) (pe_h hF hr (pa_cons (pv 0) (pa_cons (pv 4) pa_nil))))
          (pss_cons (ps_if (pt_truth (pv 9) (by intro _; rfl)) (pss_one (ps_set (i := 10) scLand.nd rfl (.inl rfl) pe_non)) (pss_one (ps_expr (pe_bm PySem.F.plainAttrs_list PySem.F.slot_list_append PySem.F.type_list_append mt_append (pv 4) (pa_cons (pv 10) pa_nil)))))
          (pss_one (ps_expr (pe_bm PySem.F.plainAttrs_list PySem.F.slot_list_append PySem.F.type_list_append mt_append (pv 7) (pa_cons (pv 10) pa_nil))))))))
        (pss_one (ps_expr (pe_bm PySem.F.plainAttrs_list PySem.F.slot_list_append PySem.F.type_list_append mt_append (pv 5) (pa_cons (pe_callTy call_tuple_of (by rfl) B.tuple (by decide +kernel) (pa_cons (pv 7) pa_nil)) pa_nil)))))))
      (pss_one (ps_ret (pe_callTy call_tuple_of (by rfl) B.tuple (by decide +kernel) (pa_cons (pv 5) pa_nil)))))), ?_⟩
    refine ⟨_, rfl, _, rfl, a, m, rfl, hA, by omega, by omega, fun r1 H1 r10 r11 hA1 s1 n1 => ⟨_, _, rfl, rfl, ?_⟩⟩
    refine ⟨_, rfl, _, rfl, a, m, rfl, hA1, by omega, by omega, fun r2 H2 r20 r21 hA2 s2 n2 => ⟨_, _, rfl, rfl, ?_⟩⟩
    refine ⟨lz, fun tA htA => ⟨_, _, _, rfl, lz, fun lA hlA => ?_⟩⟩
    have nta : tA ≠ a := hA2.ne htA
    have nla : lA ≠ a := (hA2.same (same_new htA)).ne hlA
    have nlt : lA ≠ tA := (ne_of_none upd_same hlA).symm
    have htA0 : H tA = none := SameX.free (s1.trans s2) nta htA
    have hlA0 : H lA = none := SameX.free ((s1.trans s2).trans (sx (same_new htA))) nla hlA
    obtain ⟨hi, ehi⟩ : ∃ hi : Nat, 1 + r1 = (hi : Int) := ⟨(1 + r1).toNat, by omega⟩
    obtain ⟨wd, ewd⟩ : ∃ wd : Nat, 1 + r2 = (wd : Int) := ⟨(1 + r2).toNat, by omega⟩
    have n1 : (1 + r1).toNat = hi := by omega
    have n2 : (1 + r2).toNat = wd := by omega
    have hhi : 1 ≤ hi ∧ hi ≤ 6 := by omega
    have hwd : 1 ≤ wd ∧ wd ≤ 6 := by omega
    have L0 : Laying H (upd (upd H2 tA (.lst [])) lA (.lst [])) a tA lA [] wd [] := by
      refine ⟨(hA2.same (same_new htA)).same (same_new hlA), sameX_mut (sameX_mut (s1.trans s2) htA0) hlA0, ?_, ⟨[], upd_same, .nil⟩, (fun r hr => nomatch hr), List.nodup_nil, (fun z hz => nomatch hz)⟩
      rw [upd_ne nlt.symm, upd_same]
      rfl
    generalize upd (upd H2 tA (.lst [])) lA (.lst []) = H3 at L0
    refine ⟨_, rfl, 1 + r1, rfl, by omega, by omega, ?_⟩
    rw [n1]
    refine for_range (lo := 0) (n := hi) (fun i σ H' => ∃ (g : Grid) (y6 y7 y8 y9 y10 : Option V), σ = [some (.ref a), some (.int m), some (.int (1 + r1)), some (.int (1 + r2)), some (.ref tA), some (.ref lA), y6, y7, y8, y9, y10] ∧ g.length = i ∧ Laying H H' a tA lA g wd [] ∧ (i = hi → names g ≠ []))
      ⟨[], none, none, none, none, none, rfl, rfl, L0, fun e => by omega⟩ ?_ ?_
    · rintro i σ H4 hi4 ⟨g, y6, y7, y8, y9, y10, rfl, hgl, L4, _⟩
      refine ⟨lz, fun pA hpA => ?_⟩
      have npa : pA ≠ a := L4.purse.ne hpA
      have npt : pA ≠ tA := (ne_of_none L4.towns hpA).symm
      obtain ⟨as4, hl4, hR4⟩ := L4.laid
      have npl : pA ≠ lA := (ne_of_none hl4 hpA).symm
      have L5 := L4.go nta nla (L4.purse.same (same_new (o := .lst []) hpA)) (sx (same_new hpA))
      refine ⟨_, rfl, 1 + r2, rfl, by omega, by omega, ?_⟩
      rw [n2]
      refine for_range (lo := 0) (n := wd) (fun j σ H' => ∃ (ps : Row) (y8 y9 y10 : Option V), σ = [some (.ref a), some (.int m), some (.int (1 + r1)), some (.int (1 + r2)), some (.ref tA), some (.ref lA), some (.int (0 + i)), some (.ref pA), y8, y9, y10] ∧ ps.length = j ∧ Laying H H' a tA lA g wd ps ∧ H' pA = some (.lst (ps.map oV)) ∧ (i + 1 = hi → j = wd → names g ++ rnames ps ≠ []))
        ⟨[], _, _, _, rfl, rfl, L5, upd_same, fun _ e => by omega⟩ ?_ ?_
      · rintro j σ H6 hj ⟨ps, z8, z9, z10, rfl, hpl, L6, hp6, _⟩
        refine lake_reads (a := a) (tA := tA) (x := 0 + i) (y := 0 + j) (hi := 1 + r1) (wd := 1 + r2) rfl rfl rfl rfl rfl rfl L6.purse L6.towns nta L6.wds fun b H7 hA7 s7 hb => ?_
        have L7 := L6.go nta nla hA7 s7
        have hp7 := s7 _ _ npa hp6
        have hlen : (names g ++ rnames ps).length ≤ 35 := by
          have h1 := len_names L6.rows
          have h2 : (rnames ps).length ≤ ps.length := List.length_filterMap_le id ps
          rw [List.length_append]
          have h3 : g.length * wd ≤ 5 * wd := Nat.mul_le_mul_right _ (by omega)
          omega
        refine ⟨_, rfl, _, rfl, a, tA, names g ++ rnames ps, rfl, L7.purse, L7.towns, nta, hlen, fun z H8 hz hzn hA8 s8 => ?_⟩
        have L8 := L7.go nta nla hA8 s8
        have hp8 := s8 _ _ npa hp7
        have hlt : ((names g ++ rnames ps).map V.str).length < sizeLine := by
          rw [List.length_map]
          exact small1000 (by omega)
        have hpl2 : (ps.map oV).length < sizeLine := by
          rw [List.length_map]
          exact small1000 (by omega)
        refine ⟨_, rfl, b, rfl, ite_b (fun e => ?_) (fun e => ?_)⟩
        · -- a lake
          refine ⟨_, rfl, .inl ⟨rfl, _, .inl (.inl hp8)⟩, _, rfl, pA, _, _, rfl, rfl, hp8, hpl2, ?_⟩
          obtain ⟨as8, hl8, hR8⟩ := L8.laid
          refine ⟨ps ++ [none], _, _, _, rfl, by simp [hpl], ⟨?_, ?_, ?_, ⟨as8, ?_, hR8.keep (tk_upd hp8)⟩, L8.rows, ?_, ?_⟩, ?_, ?_⟩
          · obtain ⟨x0, x1, x2, hx, hx1⟩ := L8.purse
            exact ⟨x0, x1, x2, by rw [upd_ne npa.symm]; exact hx, hx1⟩
          · exact sameX_mut L8.same (SameX.free L4.same npa hpA)
          · rw [upd_ne npt.symm, rnames_snoc]
            simpa using L8.towns
          · rw [upd_ne npl.symm]
            exact hl8
          · rw [rnames_snoc]
            simpa using L8.nd
          · rw [rnames_snoc]
            simpa using L8.wds
          · rw [upd_same, List.map_append]
            rfl
          · intro e1 e2
            rw [rnames_snoc]
            rcases hb e with h | h
            · simpa using h
            · omega
        · -- a village
          refine ⟨_, rfl, .inl ⟨rfl, _, .inl (.inl L8.towns)⟩, _, rfl, tA, _, _, rfl, rfl, L8.towns, hlt, ?_⟩
          have hp9 : upd H8 tA (.lst ((names g ++ rnames ps).map V.str ++ [.str z])) pA = some (.lst (ps.map oV)) := by
            rw [upd_ne npt]
            exact hp8
          refine ⟨_, rfl, .inl ⟨rfl, _, .inl (.inl hp9)⟩, _, rfl, pA, _, _, rfl, rfl, hp9, hpl2, ?_⟩
          obtain ⟨as8, hl8, hR8⟩ := L8.laid
          have en : names g ++ rnames (ps ++ [some z]) = (names g ++ rnames ps) ++ [z] := by
            rw [rnames_snoc, List.append_assoc]
            rfl
          refine ⟨ps ++ [some z], _, _, _, rfl, by simp [hpl], ⟨?_, ?_, ?_, ⟨as8, ?_, (hR8.keep (tk_upd L8.towns)).keep (tk_upd hp9)⟩, L8.rows, ?_, ?_⟩, ?_, ?_⟩
          · obtain ⟨x0, x1, x2, hx, hx1⟩ := L8.purse
            exact ⟨x0, x1, x2, by rw [upd_ne npa.symm, upd_ne nta.symm]; exact hx, hx1⟩
          · exact sameX_mut (sameX_mut L8.same htA0) (SameX.free L4.same npa hpA)
          · rw [upd_ne npt.symm, upd_same, en]
            simp
          · rw [upd_ne npl.symm, upd_ne nlt]
            exact hl8
          · rw [en, List.nodup_append]
            refine ⟨L8.nd, by simp, fun x hx y hy e => ?_⟩
            rw [List.mem_singleton.mp hy] at e
            rw [e] at hx
            exact hzn hx
          · rw [en]
            intro y hy
            rcases List.mem_append.mp hy with hy | hy
            · exact L8.wds y hy
            · rw [List.mem_singleton.mp hy]
              exact hz
          · rw [upd_same, List.map_append]
            rfl
          · intro _ _
            rw [en]
            simp
      · rintro σ H6 ⟨ps, z8, z9, z10, rfl, hpl, L6, hp6, hne⟩
        obtain ⟨as6, hl6, hR6⟩ := L6.laid
        refine ⟨_, rfl, .inl ⟨rfl, _, .inl (.inl hl6)⟩, _, rfl, pA, _, rfl, .inl ⟨.inl (.inl hp6), fun t ht => ?_⟩⟩
        have nlt6 : lA ≠ t := ne_of_none hl6 ht
        refine ⟨lA, _, _, rfl, rfl, (same_new ht) _ _ hl6, ?_, ?_⟩
        · rw [List.length_map, hR6.length]
          exact small1000 (by omega)
        · refine ⟨g ++ [ps], _, _, _, _, _, rfl, by simp [hgl], ⟨?_, ?_, ?_, ⟨as6 ++ [t], ?_, ?_⟩, ?_, ?_, ?_⟩, ?_⟩
          · obtain ⟨x0, x1, x2, hx, hx1⟩ := L6.purse.same (same_new (o := .tup (ps.map oV)) ht)
            exact ⟨x0, x1, x2, by rw [upd_ne nla.symm]; exact hx, hx1⟩
          · exact sameX_mut (L6.same.trans (sx (same_new ht))) hlA0
          · rw [upd_ne nlt.symm, (same_new ht) _ _ L6.towns, names_snoc]
            simp [rnames]
          · rw [upd_same, List.map_append]
            rfl
          · refine Each.append ((hR6.keep (tk_new ht)).keep (tk_upd ((same_new ht) _ _ hl6))) (.cons ?_ .nil)
            rw [upd_ne nlt6.symm, upd_same]
          · intro r hr
            rcases List.mem_append.mp hr with hr | hr
            · exact L6.rows r hr
            · rw [List.mem_singleton.mp hr]
              exact hpl
          · rw [names_snoc]
            simpa [rnames] using L6.nd
          · rw [names_snoc]
            simpa [rnames] using L6.wds
          · intro e
            rw [names_snoc]
            exact hne e rfl
    · rintro σ H4 ⟨g, y6, y7, y8, y9, y10, rfl, hgl, L4, hne⟩
      obtain ⟨as4, hl4, hR4⟩ := L4.laid
      refine ⟨_, rfl, lA, _, rfl, .inl ⟨.inl (.inl hl4), fun t ht => ?_⟩⟩
      refine q t g wd _ ⟨by omega, by omega, hwd.1, hwd.2, L4.rows, ?_, ?_, hne rfl⟩ ⟨as4, upd_same, hR4.keep (tk_new ht)⟩ (L4.purse.same (same_new ht)) (L4.same.trans (sx (same_new ht)))
      · simpa [rnames] using L4.nd
      · simpa [rnames] using L4.wds
end
end Wl




namespace Wl
open PySem PySem.Spec PyProof.Rows L2
abbrev sAreRows : Stmt := topS 46
abbrev sWrong : Stmt := topS 47
abbrev sSpotsIn : Stmt := topS 48
abbrev sSpots : Stmt := topS 49
structure Gk (mg : Str → Option Value) : Prop where
  letters : ∃ t, mg "LETTERS" = some (.str "abcdefghijklmnopqrstuvwxyz" t)
  longest : ∃ t, mg "LONGEST_WORD" = some (.int 8 t)
  mrows : ∃ t, mg "MOST_ROWS" = some (.int 6 t)
  mcols : ∃ t, mg "MOST_COLUMNS" = some (.int 6 t)
section
variable {P : Program} {w : World} {K : PySem.W.Frag} {mg : Str → Option Value} {base : Heap} {f : Addr} {fd : FuncData}

/-! ### is_word of a text -/
def spIsWord : Sp := fun vs H Q _ => ∃ (z : Str), vs = [.str z] ∧ z.length ≤ 1000 ∧ ∀ (H' : Hp), Same H H' → Q (.bl (wdB z)) H'
end
end Wl




namespace Wl
open PySem PySem.Spec PyProof.Rows L2
section
variable {P : Program} {w : World} {K : PySem.W.Frag} {mg : Str → Option Value} {base : Heap} {f : Addr} {fd : FuncData}

/-! ### are_rows of a good grid -/
def spAreRows : Sp := fun vs H Q _ => ∃ (L : Addr) (g : Grid) (wd : Nat), vs = [.ref L] ∧ GridAt H L g ∧ Good g wd ∧ Q (.bl true) H
abbrev nAreRows : List Str := ["thing", "row"]
theorem scAreRows : FnScope nAreRows ["thing"] (defScope sAreRows) := ⟨rfl, rfl, rfl, by decide +kernel, rfl, by decide +kernel, by decide +kernel⟩
theorem ok_arerows (F : Fun K "are_rows" "are_rows" sAreRows f fd) (B : Bi mg) (G : Gk mg) : FnOk P w K mg base CX0 1 f fd ["thing"] spAreRows := by
  obtain ⟨t1, g1⟩ := G.mrows
  obtain ⟨t2, g2⟩ := G.mcols
  refine F.ok scAreRows (fun vs H Q E h => ?_) (fun cdv A outer s H vs Q E hr h => ?_)
  · obtain ⟨L, g, wd, rfl, _⟩ := h
    rfl
  · obtain ⟨L, g, wd, rfl, ⟨as, hL, hR⟩, gd, q⟩ := h
    refine ⟨_, pss_cons (ps_if (PW.pt (pw_or (pt_not (pt_val (pe_callB call_isi (by rfl) B.isi (by decide +kernel) (pa_cons (pv 0) (pa_cons (pe_bltn (v := .ty "tuple") (by rfl) B.tuple (by decide +kernel) rfl) pa_nil)))))
        (pw_or1 (pt_not (pt_chain op_le op_le pe_int (pe_callB call_len_seq (by rfl) B.len PySem.boot_len (pa_cons (pv 0) pa_nil)) (pe_glob (v := .int 6) rfl g1 ⟨_, rfl⟩)))))) (pss_one (ps_ret pe_bl)) pss_nil)
      (pss_cons (ps_for PassesOwn.never rfl (pi_tup (pv 0)) (pg_name (i := 1) scAreRows.nd rfl (.inl rfl))
        (pss_one (ps_if (PW.pt (pw_or (pt_not (pt_val (pe_callB call_isi (by rfl) B.isi (by decide +kernel) (pa_cons (pv 1) (pa_cons (pe_bltn (v := .ty "tuple") (by rfl) B.tuple (by decide +kernel) rfl) pa_nil)))))
          (pw_or (pt_not (pt_chain op_le op_le pe_int (pe_callB call_len_seq (by rfl) B.len PySem.boot_len (pa_cons (pv 1) pa_nil)) (pe_glob (v := .int 6) rfl g2 ⟨_, rfl⟩)))
          (pw_or1 (pt_cmpR op_ne (pe_callB call_len_seq (by rfl) B.len PySem.boot_len (pa_cons (pv 1) pa_nil)) (pe_callB call_len_seq (by rfl) B.len PySem.boot_len (pa_cons (pe_ix ix_tup (pv 0) pe_int (fun _ _ => rfl)) pa_nil)) (nomark _)))))) (pss_one (ps_ret pe_bl)) pss_nil)))
      (pss_one (ps_ret pe_bl))), ?_⟩
    have hlen : (as.map V.ref).length = g.length := by rw [List.length_map, hR.length]
    have hST : SqT K H L (as.map V.ref) := .inl (.inl hL)
    have h16 : 1 ≤ g.length ∧ g.length ≤ 6 := ⟨gd.h1, gd.h6⟩
    have w16 : 1 ≤ wd ∧ wd ≤ 6 := ⟨gd.w1, gd.w6⟩
    refine ⟨_, rfl, _, _, _, _, _, rfl, .ty "tuple", .base (.tup hL), kit_ty (r := true) (by decide +kernel), true, rfl, ?_⟩
    refine iteF ⟨_, rfl, L, _, rfl, .inr hST, _, _, rfl, rfl, _, rfl, ite_b (fun e1 => ?_) (fun e1 => ?_)⟩
    · refine ⟨_, _, rfl, rfl, _, rfl, not_b (fun e2 => ?_) (fun e2 => ?_)⟩
      · have := of_decide_eq_false e2
        omega
      · refine ⟨_, rfl, L, rfl, ⟨_, hST⟩, for_tup (K := K) (a := L) (xs := as.map V.ref) (fun i σ H' => (∃ y, σ = [some (.ref L), y]) ∧ H' = H) ⟨⟨_, rfl⟩, rfl⟩ (fun i σ H' _ h => by rw [h.2]; exact hST) ?_ ?_⟩
        · rintro i x σ H' hx ⟨⟨y, rfl⟩, rfl⟩
          rw [List.getElem?_map] at hx
          obtain ⟨p, hp, rfl⟩ := Option.map_eq_some_iff.mp hx
          obtain ⟨row, hrow, hH⟩ := hR.get hp
          have hrl : (row.map oV).length = wd := by rw [List.length_map]; exact gd.rows row (List.mem_of_getElem? hrow)
          have hrT : SqT K H' p (row.map oV) := .inl (.inl hH)
          obtain ⟨p0, hp0⟩ : ∃ p0, as[0]? = some p0 := by
            cases as with
            | nil =>
              have := hR.length
              simp at this
              omega
            | cons a0 r => exact ⟨a0, rfl⟩
          obtain ⟨row0, hrow0, hH0⟩ := hR.get hp0
          have hr0l : (row0.map oV).length = wd := by rw [List.length_map]; exact gd.rows row0 (List.mem_of_getElem? hrow0)
          refine ⟨_, rfl, _, _, _, _, _, rfl, .ty "tuple", .base (.tup hH), kit_ty (r := true) (by decide +kernel), true, rfl, ?_⟩
          refine iteF ⟨_, rfl, p, _, rfl, .inr hrT, _, _, rfl, rfl, _, rfl, ite_b (fun e3 => ?_) (fun e3 => ?_)⟩
          · refine ⟨_, _, rfl, rfl, _, rfl, not_b (fun e4 => ?_) (fun e4 => ?_)⟩
            · have := of_decide_eq_false e4
              omega
            · refine ⟨_, rfl, p, _, rfl, .inr hrT, _, rfl, L, _, 0, .ref p0, rfl, rfl, hST, atI_nat (j := 0) (by rw [List.getElem?_map, hp0]; rfl), p0, _, rfl, .inr (.inl (.inl hH0)), rfl, _, rfl, ?_⟩
              refine iteNS (by rw [hrl, hr0l]) ?_
              exact ⟨⟨_, rfl⟩, rfl⟩
          · have := of_decide_eq_false e3
            omega
        · rintro σ H' ⟨⟨y, rfl⟩, rfl⟩
          exact q
    · have := of_decide_eq_false e1
      omega
end
end Wl




/-! A dict comprehension of two clauses: {k: v for a in .. if .. for b in .. if ..}. -/
namespace Wl
open PySem PySem.Spec PyProof.Rows L2
/-- the whole of it -/
abbrev two (kx vx ta ia tb ib : Expr) (fa fb : List Expr) (sc : Scope) (pos : Pos) : Expr := .DictComp kx vx [⟨ta, ia, fa, 0⟩, ⟨tb, ib, fb, 0⟩] sc pos
/-- a clause's tests -/
abbrev testsOf (fs : List Expr) (env : Env) : Sem Bool :=
  forIn fs true fun c r => if r = true then (do let y ← isTrue c env (eval c env); pure (ForInStep.yield y)) else pure (ForInStep.yield r)
/-- a turn of a clause: no item is left, or one comes, is stored and tested -/
def Turned (M : Model) (A : Around) (env : Env) (tg : Expr) (it : Value) (fs : List Expr) (stop : Shared → Prop) (k : Bool → Shared → Prop) (E : Value → Shared → Prop) (s : Shared) : Prop :=
  wpAny M A (pyNext it) (fun r s1 => match r with
    | none => stop s1
    | some u => wpAny M A (letOwnedTupleGo tg it u) (fun _ s2 => wpAny M A (assign tg env u) (fun _ s3 => wpAny M A (testsOf fs env) k E s3) E s2) E s1) E s
section
variable {kx vx ta ia tb ib : Expr} {fa fb : List Expr} {sc : Scope} {pos : Pos} {it : Value} {D : Addr} {env : Env}
theorem turnA : compTurn (two kx vx ta ia tb ib fa fb sc pos) 0 it (.ref D) env = (do
    standAt ia.pos
    match ← pyNext it with
    | none => pure (.done .next)
    | some u =>
      letOwnedTupleGo ta it u
      assign ta env u
      let yes ← testsOf fa env
      if yes = true then
        let x ← eval ib env
        standAt ib.pos
        let z ← foldedSetIterable ib env x
        let _ ← runOwn (.compStart (two kx vx ta ia tb ib fa fb sc pos) 1 (← holding [z] (pyIter z)) (.ref D) env) env
      again (.compLoop (two kx vx ta ia tb ib fa fb sc pos) 0 it (.ref D) env)) := rfl
theorem turnB : compTurn (two kx vx ta ia tb ib fa fb sc pos) 1 it (.ref D) env = (do
    standAt ib.pos
    match ← pyNext it with
    | none => pure (.done .next)
    | some u =>
      letOwnedTupleGo tb it u
      assign tb env u
      let yes ← testsOf fb env
      if yes = true then
        (do
          let a ← eval kx env
          let b ← holding [a] (eval vx env)
          standAt { kx.pos with endLine := vx.pos.endLine, endCol := vx.pos.endCol }
          holding [a, b] (dictSet D a b))
      again (.compLoop (two kx vx ta ia tb ib fa fb sc pos) 1 it (.ref D) env)) := rfl
variable {prog : Program} {w : World} {A : Around} {R : Result → Shared → Prop} {s : Shared}
/-- what an error leaves behind it -/
abbrev errs (prog : Program) (w : World) (A : Around) (env : Env) (R : Result → Shared → Prop) : Value → Shared → Prop := notedBy (model prog w) A env fun e s' => R (.error e) s'
theorem loopA (plain : ∀ x, foldedSetIterable ib env x = pure x) (I : Nat → Shared → Prop)
    (turn : ∀ n s, I n s → Turned (model prog w) A env ta it fa (R (.ok .next)) (fun yes s1 => if yes = true then
        wpAny (model prog w) A (eval ib env) (fun x s2 => wpAny (model prog w) A (pyIter x) (fun j s3 => codeAny (model prog w) A (.compStart (two kx vx ta ia tb ib fa fb sc pos) 1 j (.ref D) env) (fun r s4 => (∃ f, r = .ok f) ∧ ∃ m, m < n ∧ I m s4) s3) (errs prog w A env R) s2) (errs prog w A env R) s1
      else ∃ m, m < n ∧ I m s1) (errs prog w A env R) s)
    (n : Nat) (h : I n s) : codeAny (model prog w) A (.compLoop (two kx vx ta ia tb ib fa fb sc pos) 0 it (.ref D) env) R s := by
  refine codeAny_loop rfl I (fun n s hI => wpAny_noted ?_) n h
  have key := turn n s hI
  unfold Turned at key
  show wpAny _ A (compTurn (two kx vx ta ia tb ib fa fb sc pos) 0 it (.ref D) env) _ _ s
  rw [turnA]
  refine wpAny_bind (wpAny_standAt (wpAny_bind (wpAny_mono key ?_ fun _ _ z => z)))
  rintro (_ | u) s1 k1
  · exact wpAny_pure k1
  · refine wpAny_bind (wpAny_mono k1 (fun _ s2 k2 => wpAny_bind (wpAny_mono k2 (fun _ s3 k3 => wpAny_bind (wpAny_mono k3 ?_ fun _ _ z => z)) fun _ _ z => z)) fun _ _ z => z)
    rintro (_ | _) s4 k4
    · exact wpAny_pure ⟨rfl, k4⟩
    · refine wpAny_bind (wpAny_mono k4 (fun x s5 k5 => wpAny_bind (wpAny_standAt (wpAny_bind (wpAny_of_eq (plain x) (wpAny_bind (wpAny_holding (wpAny_mono k5 (fun j s6 k6 => ?_) fun _ _ z => z))))))) fun _ _ z => z)
      refine wpAny_bind (wpAny_runOwn ?_)
      rw [Around.mark_none]
      refine codeAny_mono k6 ?_
      rintro (e | f) s7 ⟨⟨g, eg⟩, k7⟩
      · cases eg
      · first
          | exact wpAny_pure ⟨rfl, k7⟩
          | exact wpAny_bind (wpAny_pure (wpAny_pure ⟨rfl, k7⟩))
theorem loopB (I : Nat → Shared → Prop)
    (turn : ∀ n s, I n s → Turned (model prog w) A env tb it fb (R (.ok .next)) (fun yes s1 => if yes = true then
        wpAny (model prog w) A (eval kx env) (fun a s2 => wpAny (model prog w) A (eval vx env) (fun b s3 => wpAny (model prog w) A (dictSet D a b) (fun _ s4 => ∃ m, m < n ∧ I m s4) (errs prog w A env R) s3) (errs prog w A env R) s2) (errs prog w A env R) s1
      else ∃ m, m < n ∧ I m s1) (errs prog w A env R) s)
    (n : Nat) (h : I n s) : codeAny (model prog w) A (.compLoop (two kx vx ta ia tb ib fa fb sc pos) 1 it (.ref D) env) R s := by
  refine codeAny_loop rfl I (fun n s hI => wpAny_noted ?_) n h
  have key := turn n s hI
  unfold Turned at key
  show wpAny _ A (compTurn (two kx vx ta ia tb ib fa fb sc pos) 1 it (.ref D) env) _ _ s
  rw [turnB]
  refine wpAny_bind (wpAny_standAt (wpAny_bind (wpAny_mono key ?_ fun _ _ z => z)))
  rintro (_ | u) s1 k1
  · exact wpAny_pure k1
  · refine wpAny_bind (wpAny_mono k1 (fun _ s2 k2 => wpAny_bind (wpAny_mono k2 (fun _ s3 k3 => wpAny_bind (wpAny_mono k3 ?_ fun _ _ z => z)) fun _ _ z => z)) fun _ _ z => z)
    rintro (_ | _) s4 k4
    · exact wpAny_pure ⟨rfl, k4⟩
    · refine wpAny_bind (wpAny_bind (wpAny_mono k4 (fun a s5 k5 => ?_) fun _ _ z => z))
      refine wpAny_bind (wpAny_holding (wpAny_mono k5 (fun b s6 k6 => ?_) fun _ _ z => z))
      exact wpAny_bind (wpAny_standAt (wpAny_holding (wpAny_mono k6 (fun _ s7 k7 => wpAny_pure ⟨rfl, k7⟩) fun _ _ z => z)))
theorem startB (h0 : codeAny (model prog w) A (.compLoop (two kx vx ta ia tb ib fa fb sc pos) 1 it (.ref D) env) R s)
    (h1 : wpAny (model prog w) A (pyIter it) (fun j s' => codeAny (model prog w) A (.compLoop (two kx vx ta ia tb ib fa fb sc pos) 1 j (.ref D) env) R s') (errs prog w A env R) s) :
    codeAny (model prog w) A (.compStart (two kx vx ta ia tb ib fa fb sc pos) 1 it (.ref D) env) R s := by
  refine codeAny_of_tree (wpAny_notedAt (?_ : wpAny _ _ (compStart (two kx vx ta ia tb ib fa fb sc pos) 1 it (.ref D) env) _ _ s))
  unfold compStart
  show wpAny _ _ (ask >>= _) _ _ s
  refine wpAny_bind (wpAny_askSetting (wpAny_ite ?_))
  split
  · first
      | exact wpAny_pure ⟨rfl, h0⟩
      | exact wpAny_bind (wpAny_pure (wpAny_pure ⟨rfl, h0⟩))
  · refine wpAny_bind (wpAny_rule ?_)
    show wpAny _ _ (standAt ib.pos >>= _) _ _ s
    exact wpAny_bind (wpAny_standAt (wpAny_bind (wpAny_mono h1 (fun j s' h' => wpAny_pure ⟨rfl, h'⟩) fun _ _ z => z)))
end
section
variable {Y : Cx} {pins : List (Addr × Obj)} {σ : L2.St} {H : Hp} {s : Shared} {tg : Expr} {J : It} {fp : List Addr} {it : Addr} {tn : Nat → Heap → Prop}
/-- an item comes: stored and tested, the walk's objects held meanwhile -/
theorem clause {g : TG} {tt : TT} {fs : List Expr} {i : Nat} {C : L2.St → Prop} {Z : L2.St → Bool → Hp → Prop} {stop : Shared → Prop} {k : Bool → Shared → Prop} {E : Value → Shared → Prop}
    (quiet : Y.xe = fun _ _ => False) (hc : Y.calm = true) (T : Turn Y.prog Y.w Y.K tg J fp it tn) (pg : PG Y tg g) (pt : PTs Y fs tt) (I : L2.Inv Y pins σ H s)
    (free : ∀ {H' : Hp}, (∀ b ∈ fp, H' b = none) → ∀ b ∈ fp, FpOk Y pins H' b) (none0 : ∀ b ∈ fp, H b = none) (st : tn i s.heap) (go : J.go i H)
    (step : ∀ x H', J.yld i H x H' → g x σ H' fun σ2 H2 => C σ2 ∧ tt σ2 H2 (Z σ2))
    (next : ∀ {s1 s2 : Shared} {σ2 : L2.St} {b : Bool} {H2 : Hp}, tn (i + 1) s1.heap → C σ2 → L2.Inv Y (pins ++ pinsAt fp s1.heap) σ2 H2 s2 → Z σ2 b H2 → k b s2) :
    Turned (model Y.prog Y.w) Y.A Y.env tg (.ref it) fs stop k E s := by
  unfold Turned
  refine thnF (T.item Y rfl rfl rfl hc i pins s σ H (fun _ _ => False) I (free none0) st go) ?_
  rintro _ s1 ⟨u, rfl, h1⟩
  refine thnF h1 ?_
  rintro _ s2 ⟨x, H2, I2, rx, yx, st2, n2⟩
  have held := I2.pinned (free n2) (T.obj _ _ st2)
  have run1 := pg.run _ s2 _ H2 x u _ held rx (step x H2 yx)
  rw [quiet] at run1
  refine thnF run1 ?_
  rintro _ s3 ⟨σ3, H3, I3, c3, q3⟩
  have run2 := pt.run _ s3 σ3 H3 _ I3 q3
  rw [quiet] at run2
  refine thnF run2 ?_
  rintro b s4 ⟨H4, I4, q4⟩
  exact next st2 c3 I4 q4
/-- behind the turn the walk's objects stand as they did -/
theorem walk_stays {i : Nat} {h : Heap} (T : Turn Y.prog Y.w Y.K tg J fp it tn) (st : tn i h) (I : L2.Inv Y (pins ++ pinsAt fp h) σ H s) : tn i s.heap ∧ ∀ b ∈ fp, H b = none := by
  have each : ∀ b ∈ fp, ∀ o, h.get? b = some o → s.heap.get? b = some o ∧ H b = none := fun b hb o e => by
    have z := I.pin (b, o) (List.mem_append_right _ (List.mem_append_right _ (mem_pinsAt hb e)))
    exact ⟨z.1, z.2.1⟩
  refine ⟨T.keep i h s.heap st fun b hb o e => (each b hb o e).1, fun b hb => ?_⟩
  obtain ⟨o, e, _⟩ := T.obj i h st b hb
  exact (each b hb o e).2
end
section
variable {X : Cx}
/-- the second clause: its walk, in each turn of it a pair put -/
def InnD (gb : TG) (ttb : TT) (tk tv : TE) (vs1 : List Nat) (D : Addr) (σ2 : L2.St) (Nx : Hp → Prop) (J1 : It) (H4 : Hp) : Prop :=
  ∃ W1 : Nat → Nat → Hp → Prop, (∃ m, W1 0 m H4) ∧ ∀ j k H, W1 j k H → (J1.stop j H ∧ Nx H) ∨ (J1.go j H ∧ ∃ Nx1 : Hp → Prop, (∀ H', Nx1 H' → ∃ k', k' < k ∧ W1 (j + 1) k' H') ∧
    ∀ x H', J1.yld j H x H' → gb x (wipe σ2 vs1) H' fun σ3 H5 => wipe σ3 vs1 = wipe σ2 vs1 ∧ ttb σ3 H5 fun yes H6 =>
      if yes = true then tk σ3 H6 fun y H7 => tv σ3 H7 fun z H8 => ∃ kvs k, y = kV k ∧ H8 D = some (.dK kvs) ∧ kvs.length < sizeLine ∧ Nx1 (upd H8 D (.dK (putK kvs k z))) else Nx1 H6)
/-- what the comprehension asks: the first clause's walk, in each turn the second's; vs: the names of both clauses, vs1: of the second -/
def tDc2 (wa : TI) (ga : TG) (tta : TT) (wb : TI) (gb : TG) (ttb : TT) (tk tv : TE) (vs vs1 : List Nat) : TE := fun σ H Q => wa σ H fun J H1 => ∀ D, H1 D = none →
  ∃ W : Nat → Nat → Hp → Prop, (∃ m, W 0 m (upd H1 D (.dK []))) ∧ ∀ i m H, W i m H → (J.stop i H ∧ Q (.ref D) H) ∨ (J.go i H ∧ ∃ Nx : Hp → Prop, (∀ H', Nx H' → ∃ m', m' < m ∧ W (i + 1) m' H') ∧
    ∀ x H', J.yld i H x H' → ga x (wipe σ vs) H' fun σ2 H2 => wipe σ2 vs = wipe σ vs ∧ tta σ2 H2 fun yes H3 => if yes = true then wb σ2 H3 (InnD gb ttb tk tv vs1 D σ2 Nx) else Nx H3)
/-- the first clause by a walk that is known -/
theorem dc2_it {J : It} {n : Nat} {G : Hp → Prop} {Y : Nat → Hp → V → Hp → Prop} (w : L2.Walk J n G Y) {ga gb : TG} {tta ttb : TT} {wb : TI} {tk tv : TE} {vs vs1 : List Nat} {σ : L2.St} {H1 : Hp} {D : Addr} {Qd : Hp → Prop} (Pv : Nat → Hp → Prop) (h0 : Pv 0 (upd H1 D (.dK []))) (hG : ∀ i H, i ≤ n → Pv i H → G H)
    (hs : ∀ i x H H', i < n → Pv i H → Y i H x H' → ga x (wipe σ vs) H' fun σ2 H2 => wipe σ2 vs = wipe σ vs ∧ tta σ2 H2 fun yes H3 => if yes = true then wb σ2 H3 (InnD gb ttb tk tv vs1 D σ2 (Pv (i + 1))) else Pv (i + 1) H3) (hd : ∀ H, Pv n H → Qd H) :
    ∃ W : Nat → Nat → Hp → Prop, (∃ m, W 0 m (upd H1 D (.dK []))) ∧ ∀ i m H, W i m H → (J.stop i H ∧ Qd H) ∨ (J.go i H ∧ ∃ Nx : Hp → Prop, (∀ H', Nx H' → ∃ m', m' < m ∧ W (i + 1) m' H') ∧
      ∀ x H', J.yld i H x H' → ga x (wipe σ vs) H' fun σ2 H2 => wipe σ2 vs = wipe σ vs ∧ tta σ2 H2 fun yes H3 => if yes = true then wb σ2 H3 (InnD gb ttb tk tv vs1 D σ2 Nx) else Nx H3) := by
  refine ⟨fun i m H => m + i = n ∧ Pv i H, ⟨n, by simp, h0⟩, fun i m H ⟨e, p⟩ => ?_⟩
  have q := hG i H (by omega) p
  by_cases lt : i < n
  · exact .inr ⟨w.goes i H lt q, Pv (i + 1), fun H' p' => ⟨m - 1, by omega, by omega, p'⟩, fun x H' y => hs i x H H' lt p (w.yields i H x H' lt q y)⟩
  · obtain rfl : i = n := by omega
    exact .inl ⟨w.stops H q, hd H p⟩
/-- the second clause by a walk that is known -/
theorem inn_it {J1 : It} {n : Nat} {G : Hp → Prop} {Y : Nat → Hp → V → Hp → Prop} (w : L2.Walk J1 n G Y) {gb : TG} {ttb : TT} {tk tv : TE} {vs1 : List Nat} {σ2 : L2.St} {H4 : Hp} {D : Addr} {Nx : Hp → Prop} (Pv : Nat → Hp → Prop) (h0 : Pv 0 H4) (hG : ∀ i H, i ≤ n → Pv i H → G H)
    (hs : ∀ j x H H', j < n → Pv j H → Y j H x H' → gb x (wipe σ2 vs1) H' fun σ3 H5 => wipe σ3 vs1 = wipe σ2 vs1 ∧ ttb σ3 H5 fun yes H6 =>
      if yes = true then tk σ3 H6 fun y H7 => tv σ3 H7 fun z H8 => ∃ kvs k, y = kV k ∧ H8 D = some (.dK kvs) ∧ kvs.length < sizeLine ∧ Pv (j + 1) (upd H8 D (.dK (putK kvs k z))) else Pv (j + 1) H6) (hd : ∀ H, Pv n H → Nx H) :
    InnD gb ttb tk tv vs1 D σ2 Nx J1 H4 := by
  refine ⟨fun j k H => k + j = n ∧ Pv j H, ⟨n, by simp, h0⟩, fun j k H ⟨e, p⟩ => ?_⟩
  have q := hG j H (by omega) p
  by_cases lt : j < n
  · exact .inr ⟨w.goes j H lt q, Pv (j + 1), fun H' p' => ⟨k - 1, by omega, by omega, p'⟩, fun x H' y => hs j x H H' lt p (w.yields j H x H' lt q y)⟩
  · obtain rfl : j = n := by omega
    exact .inl ⟨w.stops H q, hd H p⟩
/-- a block of this scope -/
abbrev inBlk (X : Cx) (sc : Scope) (s : Shared) (H : Hp) (C : Addr) (cl : List (Str × Addr)) (fp : List Addr) : Cx := X.blk s H sc (compEnvC sc cl C X.env) fp
theorem pe_dc2 {kx vx ta ia tb ib : Expr} {fa fb : List Expr} {sc : Scope} {own : List (Str × Nat)} {vs1 : List Nat} {pos : Pos} {wa wb : TI} {ga gb : TG} {tta ttb : TT} {tk tv : TE} (hc : X.calm = true) (hN : X.N.Nodup) (hi : PI X ta ia wa) (ok : BlkOk X.N X.env.scope sc own) (hv : ∀ i ∈ vs1, i ∈ own.map (·.2))
    (hga : ∀ s H C cl fp, PG (inBlk X sc s H C cl fp) ta ga) (hta : ∀ s H C cl fp, PTs (inBlk X sc s H C cl fp) fa tta) (hib : ∀ s H C cl fp, PI (inBlk X sc s H C cl fp) tb ib wb) (hgb : ∀ s H C cl fp, PG (inBlk X sc s H C cl fp) tb gb) (htb : ∀ s H C cl fp, PTs (inBlk X sc s H C cl fp) fb ttb)
    (hk : ∀ s H C cl fp, PE (inBlk X sc s H C cl fp) kx tk) (he : ∀ s H C cl fp, PE (inBlk X sc s H C cl fp) vx tv)
    (pa : ∀ x, foldedSetIterable ia X.env x = pure x := by intro _; rfl) (pb : ∀ env x, foldedSetIterable ib env x = pure x := by intro _ _; rfl) :
    PE X (.DictComp kx vx [⟨ta, ia, fa, 0⟩, ⟨tb, ib, fb, 0⟩] sc pos) (tDc2 wa ga tta wb gb ttb tk tv (own.map (·.2)) vs1) := by
  refine ⟨fun pins s σ H Q I h => ?_⟩
  rw [arm_eval_DictComp]
  have clo : ∀ y ∈ sc.names, y.2 = .free → ∃ c, X.env.cells.lookup y.1 = some c := fun y hy e => (ok.free y hy e).elim (fun k => I.ok.has _ (.inl k)) fun k => I.ok.has _ (.inr k)
  refine wpAny_comprehension_free rfl pa (closure_ok clo) ok.kind (fun y hy e => by rw [ok.uniq y hy, e]) (thn (hi.run pins s σ H _ I h) fun _ _ h1 => thn h1 ?_)
  rintro _ s2 ⟨it, fp, tn, J, H2, rfl, I2, T, st2, f2, q⟩
  refine wpAny_newObj_type (newEnv_comp ?_)
  generalize hD : s2.heap.objs.size = D
  have newD : H2 D = none := I2.hok.fresh (Nat.le_of_eq hD)
  obtain ⟨W, ⟨m0, w0⟩, turn⟩ := q D newD
  generalize hs3 : ({ s2 with heap := s2.heap.push { cls := .type "dict", data := .dict #[] } } : Shared) = s3
  have e3 : s3.heap = s2.heap.push { cls := .type "dict", data := .dict #[] } := by rw [← hs3]
  have I3 : L2.Inv X pins σ (upd H2 D (.dK [])) s3 := by
    rw [← hs3]
    exact I2.laid (t' := s2.toks) (fun b o e => Heap.get?_push_of_some _ e) (Nat.le_of_eq hD) (hD ▸ dk_empty s2.heap I2.big)
  have f3 : ∀ b ∈ fp, FpOk X pins (upd H2 D (.dK [])) b ∧ b < s3.heap.objs.size := fun b hb => by
    obtain ⟨o, e, _⟩ := T.obj _ _ st2 b hb
    have small := Heap.lt_size e
    refine ⟨⟨?_, (f2 b hb).2⟩, ?_⟩
    · rw [upd_ne (Nat.ne_of_lt (hD ▸ small))]
      exact (f2 b hb).1
    · rw [e3, Heap.size_push]
      exact Nat.lt_succ_of_lt small
  have st3 : tn 0 s3.heap := T.keep _ _ _ st2 fun b _ o e => by
    rw [e3]
    exact Heap.get?_push_of_some _ e
  have I4 := block_start I3 ok hN f3
  generalize hcl : cellsFrom (s3.heap.objs.size + 1) sc.names (cloFrom X.env.cells sc.names []) = cl at I4
  show codeAny _ _ (.compStart (two kx vx ta ia tb ib fa fb sc pos) 0 (.ref it) (.ref D) (compEnvC sc cl s3.heap.objs.size X.env)) (compPost (model X.prog X.w) X.A X.xe none (EP X pins σ Q) (.ref D) s3.heap.objs.size) { s3 with heap := pushCells (s3.heap.push { cls := .type "dict", data := .dict #[] }) sc.names }
  have none3 : ∀ b ∈ fp, (upd H2 D (.dK [])) b = none := fun b hb => (f3 b hb).1.1
  generalize hH3 : upd H2 D (.dK []) = H3 at I3 I4 w0 none3 f3
  have jga : PG (X.blk s3 H3 sc (compEnvC sc cl s3.heap.objs.size X.env) fp) ta ga := hga s3 H3 s3.heap.objs.size cl fp
  have jta : PTs (X.blk s3 H3 sc (compEnvC sc cl s3.heap.objs.size X.env) fp) fa tta := hta s3 H3 s3.heap.objs.size cl fp
  have jib : PI (X.blk s3 H3 sc (compEnvC sc cl s3.heap.objs.size X.env) fp) tb ib wb := hib s3 H3 s3.heap.objs.size cl fp
  have jgb : PG (X.blk s3 H3 sc (compEnvC sc cl s3.heap.objs.size X.env) fp) tb gb := hgb s3 H3 s3.heap.objs.size cl fp
  have jtb : PTs (X.blk s3 H3 sc (compEnvC sc cl s3.heap.objs.size X.env) fp) fb ttb := htb s3 H3 s3.heap.objs.size cl fp
  have jk : PE (X.blk s3 H3 sc (compEnvC sc cl s3.heap.objs.size X.env) fp) kx tk := hk s3 H3 s3.heap.objs.size cl fp
  have je : PE (X.blk s3 H3 sc (compEnvC sc cl s3.heap.objs.size X.env) fp) vx tv := he s3 H3 s3.heap.objs.size cl fp
  generalize hs4 : ({ s3 with heap := pushCells (s3.heap.push { cls := .type "dict", data := .dict #[] }) sc.names } : Shared) = s4 at I4 ⊢
  have st4 : tn 0 s4.heap := T.keep _ _ _ st3 fun b _ o e => by
    rw [← hs4]
    exact pushCells_keeps _ _ _ _ (Heap.get?_push_of_some _ e)
  generalize hce : compEnvC sc cl s3.heap.objs.size X.env = ce at I4 jga jta jib jgb jtb jk je ⊢
  have cL : ce.locals = s3.heap.objs.size := by
    subst hce
    rfl
  have free0 : ∀ {H' : Hp}, (∀ b ∈ fp, H' b = none) → ∀ b ∈ fp, FpOk (X.blk s3 H3 sc ce fp) [] H' b := fun n b hb =>
    ⟨n b hb, (I4.ok.exf b hb).1, I4.ok.exfs b hb, .inl hb, (I4.ok.exf b hb).2, fun p hp => nomatch (show p ∈ ([] : List (Addr × Obj)) from hp)⟩
  have loop : codeAny (model X.prog X.w) X.A (.compLoop (two kx vx ta ia tb ib fa fb sc pos) 0 (.ref it) (.ref D) ce) (compPost (model X.prog X.w) X.A X.xe none (EP X pins σ Q) (.ref D) s3.heap.objs.size) s4 := by
    refine loopA (pb ce) (fun n s' => ∃ i H', L2.Inv (X.blk s3 H3 sc ce fp) [] (wipe σ (own.map (·.2))) H' s' ∧ tn i s'.heap ∧ (∀ b ∈ fp, H' b = none) ∧ W i n H') ?_ m0 ⟨0, H3, I4, st4, none3, w0⟩
    rintro n s5 ⟨i, H5, I5, st5, n5, w5⟩
    rcases turn i n H5 w5 with ⟨stop, qq⟩ | ⟨go, Nx, hNx, step⟩
    · unfold Turned
      refine thnF (T.done (X.blk s3 H3 sc ce fp) rfl rfl rfl hc i [] s5 _ H5 (fun _ _ => False) I5 (free0 n5) st5 stop) ?_
      rintro _ s6 ⟨rfl, I6⟩
      have I7 : L2.Inv X pins σ H5 s6 := I3.call' (ch := fp) I6.os I6.base I6.hok I6.bare fun b hb => by
        obtain ⟨⟨_, a1, _, a3, a4, a5⟩, _⟩ := f3 b hb
        exact ⟨a3, a1, a4, a5⟩
      have nC : H5 s3.heap.objs.size = none := cL ▸ (show H5 ce.locals = none from I6.free)
      obtain ⟨m, hn, _⟩ := I6.loc
      have hn : s6.heap.Ns s3.heap.objs.size m := cL ▸ (show s6.heap.Ns ce.locals m from hn)
      obtain ⟨g0, g1, _, g3, g4, g5⟩ := I3.fpOk (H' := H5) (Nat.le_refl _) nC
      exact ⟨m, hn, fun h2 sb => ⟨.ref D, H5, I7.turned (t' := s6.toks) (fun b o hb e => (sb.2 b hb).trans e) g0 g1 g3 g4 g5, rfl, qq⟩⟩
    · refine clause (Y := X.blk s3 H3 sc ce fp) rfl hc T jga jta I5 free0 n5 st5 go step ?_
      intro s6 s7 σ7 b H7 st6 w7 I7 q7
      have hl7 : (wipe σ (own.map (·.2))).length = σ7.length := by rw [← w7, wipe_length]
      have fin : ∀ {σ8 : L2.St} {s8 : Shared} {H8 : Hp}, L2.Inv (X.blk s3 H3 sc ce fp) ([] ++ pinsAt fp s6.heap) σ8 H8 s8 → (wipe σ (own.map (·.2))).length = σ8.length → (∀ (j : Nat) v, (wipe σ (own.map (·.2)))[j]? = some (some v) → σ8[j]? = some (some v)) → Nx H8 →
          ∃ m, m < n ∧ ∃ i H', L2.Inv (X.blk s3 H3 sc ce fp) [] (wipe σ (own.map (·.2))) H' s8 ∧ tn i s8.heap ∧ (∀ b ∈ fp, H' b = none) ∧ W i m H' := by
        intro σ8 s8 H8 I8 hl hk nx
        obtain ⟨m', hm, w'⟩ := hNx H8 nx
        obtain ⟨t1, t2⟩ := walk_stays (Y := X.blk s3 H3 sc ce fp) T st6 I8
        exact ⟨m', hm, i + 1, H8, (I8.unpinned (pins := [])).weak hl hk, t1, t2, w'⟩
      cases b with
      | false =>
        rw [if_neg (by decide)] at q7 ⊢
        exact fin I7 hl7 (fun j v e => (wipe_some (w7.symm ▸ e)).1) q7
      | true =>
        rw [if_pos rfl] at q7 ⊢
        refine thnF (jib.run _ s7 σ7 H7 _ I7 q7) fun _ s8 h8 => thnF h8 ?_
        rintro _ s9 ⟨it1, fp1, tn1, J1, H9, rfl, I9, T1, st9, f9, W1, ⟨m1, w1⟩, turn1⟩
        have free1 : ∀ {H' : Hp}, (∀ b ∈ fp1, H' b = none) → ∀ b ∈ fp1, FpOk (X.blk s3 H3 sc ce fp) ([] ++ pinsAt fp s6.heap) H' b := fun n b hb => ⟨n b hb, (f9 b hb).2⟩
        have loop1 : codeAny (model X.prog X.w) X.A (.compLoop (two kx vx ta ia tb ib fa fb sc pos) 1 (.ref it1) (.ref D) ce) (fun r s' => (∃ f, r = .ok f) ∧ ∃ m, m < n ∧ ∃ i H', L2.Inv (X.blk s3 H3 sc ce fp) [] (wipe σ (own.map (·.2))) H' s' ∧ tn i s'.heap ∧ (∀ b ∈ fp, H' b = none) ∧ W i m H') s9 := by
          refine loopB (fun k s' => ∃ j H', L2.Inv (X.blk s3 H3 sc ce fp) ([] ++ pinsAt fp s6.heap) (wipe σ7 vs1) H' s' ∧ tn1 j s'.heap ∧ (∀ b ∈ fp1, H' b = none) ∧ W1 j k H') ?_ m1 ⟨0, H9, I9.weak (wipe_length _ _) (fun j v e => (wipe_some e).1), st9, fun b hb => (f9 b hb).1, w1⟩
          rintro k s10 ⟨j, H10, I10, st10, n10, w10⟩
          rcases turn1 j k H10 w10 with ⟨stop1, nx1⟩ | ⟨go1, Nx1, hNx1, step1⟩
          · unfold Turned
            refine thnF (T1.done (X.blk s3 H3 sc ce fp) rfl rfl rfl hc j _ s10 (wipe σ7 vs1) H10 (fun _ _ => False) I10 (free1 n10) st10 stop1) ?_
            rintro _ s11 ⟨rfl, I11⟩
            refine ⟨⟨_, rfl⟩, fin I11 (hl7.trans (wipe_length σ7 vs1).symm) (fun j v e => ?_) nx1⟩
            obtain ⟨e1, e2⟩ := wipe_some (w7.symm ▸ e)
            rw [wipe_out fun z => e2 (hv j z)]
            exact e1
          · refine clause (Y := X.blk s3 H3 sc ce fp) rfl hc T1 jgb jtb I10 free1 n10 st10 go1 step1 ?_
            intro s11 s12 σ12 b1 H12 st11 w12 I12 q12
            have fin1 : ∀ {s' : Shared} {H' : Hp}, L2.Inv (X.blk s3 H3 sc ce fp) (([] ++ pinsAt fp s6.heap) ++ pinsAt fp1 s11.heap) σ12 H' s' → Nx1 H' → ∃ m, m < k ∧ ∃ j H', L2.Inv (X.blk s3 H3 sc ce fp) ([] ++ pinsAt fp s6.heap) (wipe σ7 vs1) H' s' ∧ tn1 j s'.heap ∧ (∀ b ∈ fp1, H' b = none) ∧ W1 j m H' := by
              intro s' H' I' nx
              obtain ⟨m', hm, w'⟩ := hNx1 H' nx
              obtain ⟨t1, t2⟩ := walk_stays (Y := X.blk s3 H3 sc ce fp) T1 st11 I'
              exact ⟨m', hm, j + 1, H', I'.unpinned.weak (by rw [← w12, wipe_length]) (fun i v e => (wipe_some (w12.symm ▸ e)).1), t1, t2, w'⟩
            cases b1 with
            | false =>
              rw [if_neg (by decide)] at q12 ⊢
              exact fin1 I12 q12
            | true =>
              rw [if_pos rfl] at q12 ⊢
              refine thnF (jk.run _ s12 σ12 H12 _ I12 q12) ?_
              rintro a s13 ⟨ya, H13, I13, ra, q13⟩
              refine thnF (je.run _ s13 σ12 H13 _ I13 q13) ?_
              rintro b s14 ⟨yb, H14, I14, rb, kvs, key, rfl, hD14, small, nx⟩
              exact d_dictSet (X := X.blk s3 H3 sc ce fp) I14 hD14 small ra rb fun s15 I15 => fin1 I15 nx
        exact startB loop1 (T1.self X.A 0 _ _ _ st9 loop1)
  exact codeAny_compStart_dict loop (T.self X.A 0 _ _ _ st4 loop)
end
end Wl

namespace Wl
open PySem PySem.Spec PyProof.Rows L2
/-- the heap keeps all but its lists -/
def Keep (H H' : Hp) : Prop := ∀ p o, (∀ xs, o ≠ .lst xs) → H p = some o → H' p = some o
theorem Keep.refl (H : Hp) : Keep H H := fun _ _ _ h => h
theorem Keep.trans {H H1 H2 : Hp} (a : Keep H H1) (b : Keep H1 H2) : Keep H H2 := fun p o n h => b p o n (a p o n h)
theorem kp_same {H H' : Hp} (s : Same H H') : Keep H H' := fun p o _ h => s p _ h
theorem kp_x {a : Addr} {H H' : Hp} {ys : List V} (s : SameX a H H') (ha : H a = some (.lst ys)) : Keep H H' := fun p o n h => s p _ (fun e => by
  subst e
  rw [ha] at h
  exact n _ (Option.some.inj h).symm) h
theorem kp_upd {a : Addr} {H : Hp} {ys : List V} {o : HO} (ha : H a = some (.lst ys)) : Keep H (upd H a o) := kp_x sameX_upd ha
theorem kp_new {p : Addr} {H : Hp} {o : HO} (hp : H p = none) : Keep H (upd H p o) := kp_same (same_new hp)
theorem Keep.tk {H H' : Hp} (k : Keep H H') : TupKeep H H' := fun p xs h => k p _ (fun ys e => by cases e) h
theorem tk_updD {a : Addr} {H : Hp} {kvs : List (Key × V)} {o : HO} (ha : H a = some (.dK kvs)) : TupKeep H (upd H a o) := fun p xs h => by
  rw [upd_ne (ne_of h ha (by intro z; cases z))]
  exact h
/-- the dict's pairs tell these spots -/
def Ent (H : Hp) (kv : Key × V) (s : Str × Nat × Nat) : Prop := kv.1 = Sum.inr s.1 ∧ ∃ t, kv.2 = .ref t ∧ H t = some (.tup [.int s.2.1, .int s.2.2])
def SpotsAt (H : Hp) (d : Addr) (sp : List (Str × Nat × Nat)) : Prop := ∃ kvs, H d = some (.dK kvs) ∧ Each (Ent H) kvs sp
theorem ent_keep {H H' : Hp} (k : TupKeep H H') {kvs : List (Key × V)} {sp : List (Str × Nat × Nat)} (h : Each (Ent H) kvs sp) : Each (Ent H') kvs sp :=
  Each.mono (fun _ _ ⟨e, t, e2, ht⟩ => ⟨e, t, e2, k _ _ ht⟩) h
theorem SpotsAt.keep {H H' : Hp} {d : Addr} {sp : List (Str × Nat × Nat)} (h : SpotsAt H d sp) (k : Keep H H') : SpotsAt H' d sp := by
  obtain ⟨kvs, h1, h2⟩ := h
  exact ⟨kvs, k _ _ (fun ys e => by cases e) h1, ent_keep k.tk h2⟩
theorem ent_none {H : Hp} {z : Str} : ∀ {kvs : List (Key × V)} {sp : List (Str × Nat × Nat)}, Each (Ent H) kvs sp → z ∉ sp.map (·.1) → valV kvs (Sum.inr z : Key) = none
  | _, _, .nil, _ => rfl
  | _, _, .cons (a := kv) (b := s) r t, h => by
    rw [List.map_cons, List.mem_cons, not_or] at h
    rw [valV_neg (fun e => h.1 (Sum.inr.inj (e.symm.trans r.1)))]
    exact ent_none t h.2
theorem ent_some {H : Hp} {z : Str} {r c : Nat} : ∀ {kvs : List (Key × V)} {sp : List (Str × Nat × Nat)}, Each (Ent H) kvs sp → (sp.map (·.1)).Nodup → (z, r, c) ∈ sp → ∃ t, valV kvs (Sum.inr z : Key) = some (.ref t) ∧ H t = some (.tup [.int r, .int c])
  | _, _, .nil, _, h => by cases h
  | _, _, .cons (a := kv) (b := s) e t, nd, h => by
    obtain ⟨n1, n2⟩ := List.nodup_cons.mp nd
    rcases List.mem_cons.mp h with h | h
    · subst h
      obtain ⟨e1, u, e2, hu⟩ := e
      exact ⟨u, by rw [valV_pos e1, e2], hu⟩
    · have ne : ¬ s.1 = z := fun q => n1 (List.mem_map.mpr ⟨_, h, q.symm⟩)
      obtain ⟨u, e2, hu⟩ := ent_some t n2 h
      exact ⟨u, by rw [valV_neg (fun q => ne (Sum.inr.inj (e.1.symm.trans q)))]; exact e2, hu⟩
theorem ent_keys {H : Hp} : ∀ {kvs : List (Key × V)} {sp : List (Str × Nat × Nat)}, Each (Ent H) kvs sp → kvs.map (fun kv => kV kv.1) = (sp.map (·.1)).map V.str
  | _, _, .nil => rfl
  | _, _, .cons e t => by
    rw [List.map_cons, List.map_cons, List.map_cons, ent_keys t, e.1]
    rfl
section
variable {P : Program} {w : World} {K : PySem.W.Frag} {mg : Str → Option Value} {base : Heap} {f : Addr} {fd : FuncData}
/-! ### wrong_spot of a good grid -/
def spWrong : Sp := fun vs H Q _ => ∃ (L : Addr) (g : Grid) (wd : Nat), vs = [.ref L] ∧ GridAt H L g ∧ Good g wd ∧ ∀ (H' : Hp), Same H H' → Q .non H'
abbrev nWrong : List Str := ["rows", "names", "at", "row", "column", "part"]
theorem scWrong : FnScope nWrong ["rows"] (defScope sWrong) := ⟨rfl, rfl, rfl, by decide +kernel, rfl, by decide +kernel, by decide +kernel⟩
theorem take_snoc {α : Type} {l : List α} {i : Nat} {x : α} (h : l[i]? = some x) : l.take (i + 1) = l.take i ++ [x] := by
  rw [List.take_add_one, h]
  rfl
theorem len_take {α : Type} {l : List α} {i : Nat} {x : α} (h : l[i]? = some x) : (l.take i).length = i := by
  have := (List.getElem?_eq_some_iff.mp h).1
  rw [List.length_take]
  omega
/-- a name isn't among those ahead of it -/
theorem ahead_new {g : Grid} {wd : Nat} (gd : Good g wd) {i j : Nat} {row : Row} {z : Str} (hrow : g[i]? = some row) (ho : row[j]? = some (some z)) : z ∉ (spG 0 (g.take i) ++ spR i 0 (row.take j)).map (·.1) := by
  have hcz : cellAt g i j = some z := cellAt_of hrow ho
  intro hm
  obtain ⟨⟨y, r', c'⟩, hm2, rfl⟩ := List.mem_map.mp hm
  have hlt : (r', c') = (i, j) := by
    have hc2 : cellAt g r' c' = some y := by
      rcases List.mem_append.mp hm2 with h | h
      · obtain ⟨k, row2, e, h1, h2⟩ := (spG_mem _ 0).mp h
        have : r' = k := by omega
        subst this
        rw [List.getElem?_take] at h1
        split at h1
        · exact cellAt_of h1 h2
        · cases h1
      · obtain ⟨e, k, e2, h1⟩ := (spR_mem i _ 0).mp h
        have : c' = k := by omega
        subst this e
        rw [List.getElem?_take] at h1
        split at h1
        · exact cellAt_of hrow h1
        · cases h1
    obtain ⟨h1, h2⟩ := cell_inj gd.nd hc2 hcz
    rw [h1, h2]
  cases hlt
  rcases List.mem_append.mp hm2 with h | h
  · obtain ⟨k, row2, e, h1, h2⟩ := (spG_mem _ 0).mp h
    rw [List.getElem?_take] at h1
    split at h1
    · omega
    · cases h1
  · obtain ⟨e, k, e2, h1⟩ := (spR_mem i _ 0).mp h
    rw [List.getElem?_take] at h1
    split at h1
    · omega
    · cases h1
theorem ahead_len {g : Grid} {wd : Nat} (gd : Good g wd) {i j : Nat} {row : Row} (hrow : g[i]? = some row) : ((spG 0 (g.take i) ++ spR i 0 (row.take j)).map (·.1)).length ≤ 42 := by
  rw [List.map_append, spG_fst, spR_fst, List.length_append]
  have a1 := len_names (g := g.take i) (wd := wd) fun r hr => gd.rows r (List.mem_of_mem_take hr)
  have a2 : (g.take i).length ≤ 6 := by rw [List.length_take]; have := gd.h6; omega
  have a3 : (g.take i).length * wd ≤ 6 * 6 := Nat.mul_le_mul a2 gd.w6
  have a4 : (rnames (row.take j)).length ≤ (row.take j).length := List.length_filterMap_le id _
  have a5 : (row.take j).length ≤ row.length := List.length_take_le' _ _
  have a6 := gd.rows row (List.mem_of_getElem? hrow)
  have a7 := gd.w6
  omega
theorem ahead_snoc {g : Grid} {i j : Nat} {row : Row} {o : Option Str} (ho : row[j]? = some o) : spG 0 (g.take i) ++ spR i 0 (row.take (j + 1)) = spG 0 (g.take i) ++ spR i 0 (row.take j) ++ (o.toList.map fun z => (z, i, j)) := by
  rw [take_snoc ho, spR_snoc, len_take ho, Nat.zero_add, List.append_assoc]
theorem ok_wrong (F : Fun K "wrong_spot" "wrong_spot" sWrong f fd) (B : Bi mg) (hI : Has P w K mg base "is_word" 1 ["thing"] spIsWord) : FnOk P w K mg base CX0 2 f fd ["rows"] spWrong := by
  refine F.ok scWrong (fun vs H Q E h => ?_) (fun cdv A outer s H vs Q E hr h => ?_)
  · obtain ⟨L, g, wd, rfl, _⟩ := h
    rfl
  · obtain ⟨L, g, wd, rfl, hG, gd, q⟩ := h
    refine ⟨_, pss_cons (ps_set (i := 1) scWrong.nd rfl (.inl rfl) (pe_lst pa_nil))
      (pss_cons (ps_for PassesOwn.never rfl (pi_enumT (by rfl) B.enum (pa_cons (pv 0) pa_nil)) (pg_tup rfl (pgs_cons (pg_name (i := 2) scWrong.nd rfl (.inl rfl)) (pgs_cons (pg_name (i := 3) scWrong.nd rfl (.inl rfl)) pgs_nil)))
        (pss_one (ps_for PassesOwn.never rfl (pi_enumT (by rfl) B.enum (pa_cons (pv 3) pa_nil)) (pg_tup rfl (pgs_cons (pg_name (i := 4) scWrong.nd rfl (.inl rfl)) (pgs_cons (pg_name (i := 5) scWrong.nd rfl (.inl rfl)) pgs_nil)))
          (pss_cons (ps_if (pt_cmp (pc_isN (pv 5))) (pss_one ps_continue) pss_nil)
          (pss_cons (ps_if (PW.pt (pw_or (pt_not (pt_val (pe_h hI hr (pa_cons (pv 5) pa_nil)))) (pw_or1 (pt_cmpR op_in_seq (pv 5) (pv 1) (by rfl))))) (pss_one ps_never) pss_nil)
          (pss_one (ps_expr (pe_bm PySem.F.plainAttrs_list PySem.F.slot_list_append PySem.F.type_list_append mt_append (pv 1) (pa_cons (pv 5) pa_nil)))))))))
      (pss_one (ps_ret pe_non))), ?_⟩
    refine ⟨lz, fun d hd => ?_⟩
    obtain ⟨as, hL, hR⟩ := id hG
    have s0 : Same H (upd H d (.lst [])) := same_new hd
    refine ⟨_, rfl, L, _, rfl, .inl (.inl (s0 _ _ hL)), for_it (walk_enumT (K := K) (a := L) (xs := as.map V.ref)) (fun i σ H' => (∃ y2 y3 y4 y5, σ = [some (.ref L), some (.ref d), y2, y3, y4, y5]) ∧ Same H H' ∧ H' d = some (.lst (((spG 0 (g.take i)).map (·.1)).map V.str)))
      ⟨⟨_, _, _, _, rfl⟩, s0, upd_same⟩ (fun i σ H' _ h => .inl (.inl (h.2.1 _ _ hL))) ?_ ?_⟩
    · rintro i x σ H1 H2 hi ⟨⟨y2, y3, y4, y5, rfl⟩, s1, hd1⟩ ⟨T, x1, x2, rfl, hT, rfl, ex1, ex2⟩
      cases ex1
      have ex2 : (as.map V.ref)[i]? = some x2 := ex2
      rw [List.getElem?_map] at ex2
      obtain ⟨p, hp, rfl⟩ := Option.map_eq_some_iff.mp ex2
      obtain ⟨row, hrow, hH⟩ := hR.get hp
      have s2 : Same H1 (upd H1 T (.tup [.int i, .ref p])) := same_new hT
      have hp2 := s2 _ _ (s1 _ _ hH)
      refine ⟨T, _, rfl, .inl (.inl upd_same), rfl, _, _, rfl, _, _, rfl, rfl, ?_⟩
      refine ⟨_, rfl, p, _, rfl, .inl (.inl hp2), for_it (walk_enumT (K := K) (a := p) (xs := row.map oV)) (fun j σ H' => (∃ y4 y5, σ = [some (.ref L), some (.ref d), some (.int i), some (.ref p), y4, y5]) ∧ Same H H' ∧ H' d = some (.lst (((spG 0 (g.take i) ++ spR i 0 (row.take j)).map (·.1)).map V.str)))
        ⟨⟨_, _, rfl⟩, s1.trans s2, by simpa [spR] using s2 _ _ hd1⟩ (fun j σ H' _ h => .inl (.inl (h.2.1 _ _ hH))) ?_ ?_⟩
      · rintro j x σ H3 H4 hj ⟨⟨z4, z5, rfl⟩, s3, hd3⟩ ⟨T2, x1, x2, rfl, hT2, rfl, ex1, ex2⟩
        cases ex1
        have ex2 : (row.map oV)[j]? = some x2 := ex2
        rw [List.getElem?_map] at ex2
        obtain ⟨o, ho, rfl⟩ := Option.map_eq_some_iff.mp ex2
        have s4 : Same H3 (upd H3 T2 (.tup [.int j, oV o])) := same_new hT2
        refine ⟨T2, _, rfl, .inl (.inl upd_same), rfl, _, _, rfl, _, _, rfl, rfl, ?_⟩
        cases o with
        | none =>
          refine ⟨_, rfl, _, rfl, iteT ?_⟩
          refine ⟨⟨_, _, rfl⟩, s3.trans s4, ?_⟩
          rw [ahead_snoc ho]
          simpa using s4 _ _ hd3
        | some z =>
          have hzw : IsWd z := gd.wd z (mem_names.mpr ⟨i, j, cellAt_of hrow ho⟩)
          refine ⟨_, rfl, _, rfl, iteF ?_⟩
          refine ⟨_, rfl, z, rfl, by have := hzw.len; omega, fun H5 s5 => ⟨_, rfl, ?_⟩⟩
          rw [show wdB z = true from hzw]
          have hd5 := s5 _ _ (s4 _ _ hd3)
          have hin : inV (.str z) (((spG 0 (g.take i) ++ spR i 0 (row.take j)).map (·.1)).map V.str) = false := by
            rw [inV_strs]
            exact decide_eq_false (ahead_new gd hrow ho)
          refine iteF ⟨_, rfl, _, rfl, d, _, rfl, .inl (.inl (.inl hd5)), rfl, flat_strs _, false, ?_, ?_⟩
          · exact congrArg V.bl hin
          refine iteF ⟨_, rfl, .inl ⟨rfl, _, .inl (.inl hd5)⟩, _, rfl, d, _, _, rfl, rfl, hd5, ?_, ?_⟩
          · rw [List.length_map]
            exact small1000 (by have := ahead_len gd hrow (j := j); omega)
          · refine ⟨⟨_, _, rfl⟩, same_mut ((s3.trans s4).trans s5) hd, ?_⟩
            rw [upd_same, ahead_snoc ho]
            simp [oV]
      · rintro σ H3 ⟨⟨z4, z5, rfl⟩, s3, hd3⟩
        refine ⟨⟨_, _, _, _, rfl⟩, s3, ?_⟩
        rw [List.length_map, List.take_length] at hd3
        rw [take_snoc hrow, spG_snoc, len_take hrow, Nat.zero_add]
        exact hd3
    · rintro σ H3 ⟨⟨y2, y3, y4, y5, rfl⟩, s3, hd3⟩
      exact q H3 s3
/-! ### spots_in of a good grid -/
def spSpotsIn : Sp := fun vs H Q _ => ∃ (L : Addr) (g : Grid) (wd : Nat), vs = [.ref L] ∧ GridAt H L g ∧ Good g wd ∧
  ∀ (d : Addr) (H' : Hp), H d = none → Same H H' → SpotsAt H' d (spG 0 g) → Q (.ref d) H'
abbrev nSpotsIn : List Str := ["rows", "at", "row", "column", "part"]
theorem scSpotsIn : FnScope nSpotsIn ["rows"] (defScope sSpotsIn) := ⟨rfl, rfl, rfl, by decide +kernel, rfl, by decide +kernel, by decide +kernel⟩
theorem ok_spotsin (F : Fun K "spots_in" "spots_in" sSpotsIn f fd) (B : Bi mg) : FnOk P w K mg base CX0 1 f fd ["rows"] spSpotsIn := by
  refine F.ok scSpotsIn (fun vs H Q E h => ?_) (fun cdv A outer s H vs Q E hr h => ?_)
  · obtain ⟨L, g, wd, rfl, _⟩ := h
    rfl
  · obtain ⟨L, g, wd, rfl, hG, gd, q⟩ := h
    refine ⟨_, pss_one (ps_ret (pe_dc2 (own := [("at", 1), ("row", 2), ("column", 3), ("part", 4)]) (vs1 := [3, 4]) (ga := gTup K 2 (gCons (gName 1) (gCons (gName 2) gNil))) (tta := tYes) (wb := iEnumT K (tCons (tVar 2) tNil)) (gb := gTup K 2 (gCons (gName 3) (gCons (gName 4) gNil))) (ttb := tB (tNotN (tVar 4))) (tk := tVar 4) (tv := tTup (tCons (tVar 1) (tCons (tVar 3) tNil))) rfl scSpotsIn.nd (pi_enumT (by rfl) B.enum (pa_cons (pv 0) pa_nil)) (blkOk_by (N := nSpotsIn) (sc := defScope sSpotsIn) (by decide +kernel)) (by decide)
      (fun _ _ _ _ _ => pg_tup rfl (pgs_cons (pg_name (i := 1) scSpotsIn.nd rfl (.inl rfl)) (pgs_cons (pg_name (i := 2) scSpotsIn.nd rfl (.inl rfl)) pgs_nil))) (fun _ _ _ _ _ => pts_nil)
      (fun _ _ _ _ _ => pi_enumT (by rfl) B.enum (pa_cons (pv 2) pa_nil)) (fun _ _ _ _ _ => pg_tup rfl (pgs_cons (pg_name (i := 3) scSpotsIn.nd rfl (.inl rfl)) (pgs_cons (pg_name (i := 4) scSpotsIn.nd rfl (.inl rfl)) pgs_nil)))
      (fun _ _ _ _ _ => pts_one (pt_cmp (pc_notN (pv 4)))) (fun _ _ _ _ _ => pv 4) (fun _ _ _ _ _ => pe_tup (pa_cons (pv 1) (pa_cons (pv 3) pa_nil))))), ?_⟩
    obtain ⟨as, hL, hR⟩ := id hG
    refine ⟨_, rfl, L, _, rfl, .inl (.inl hL), fun d hd => dc2_it (walk_enumT (K := K) (a := L) (xs := as.map V.ref)) (fun i H' => Same H H' ∧ SpotsAt H' d (spG 0 (g.take i))) ⟨same_new hd, [], upd_same, .nil⟩ (fun i H' _ h => .inl (.inl (h.1 _ _ hL))) ?_ ?_⟩
    · rintro i x H1 H2 hi ⟨s1, kvs1, hd1, e1⟩ ⟨T, x1, x2, rfl, hT, rfl, ex1, ex2⟩
      cases ex1
      have ex2 : (as.map V.ref)[i]? = some x2 := ex2
      rw [List.getElem?_map] at ex2
      obtain ⟨p, hp, rfl⟩ := Option.map_eq_some_iff.mp ex2
      obtain ⟨row, hrow, hH⟩ := hR.get hp
      have s2 : Same H1 (upd H1 T (.tup [.int i, .ref p])) := same_new hT
      have hp2 := s2 _ _ (s1 _ _ hH)
      refine ⟨T, _, rfl, .inl (.inl upd_same), rfl, _, _, rfl, _, _, rfl, rfl, rfl, yes_it ?_⟩
      refine ⟨_, rfl, p, _, rfl, .inl (.inl hp2), inn_it (walk_enumT (K := K) (a := p) (xs := row.map oV)) (fun j H' => Same H H' ∧ SpotsAt H' d (spG 0 (g.take i) ++ spR i 0 (row.take j)))
        ⟨s1.trans s2, kvs1, s2 _ _ hd1, by simpa [spR] using ent_keep (tk_same s2) e1⟩ (fun j H' _ h => .inl (.inl (h.1 _ _ hH))) ?_ ?_⟩
      · rintro j x H3 H4 hj ⟨s3, kvs3, hd3, e3⟩ ⟨T2, x1, x2, rfl, hT2, rfl, ex1, ex2⟩
        cases ex1
        have ex2 : (row.map oV)[j]? = some x2 := ex2
        rw [List.getElem?_map] at ex2
        obtain ⟨o, ho, rfl⟩ := Option.map_eq_some_iff.mp ex2
        have s4 : Same H3 (upd H3 T2 (.tup [.int j, oV o])) := same_new hT2
        refine ⟨T2, _, rfl, .inl (.inl upd_same), rfl, _, _, rfl, _, _, rfl, rfl, rfl, ?_⟩
        cases o with
        | none =>
          refine ⟨_, rfl, _, rfl, iteF ?_⟩
          refine ⟨s3.trans s4, kvs3, s4 _ _ hd3, ?_⟩
          rw [ahead_snoc ho]
          simpa using ent_keep (tk_same s4) e3
        | some z =>
          refine ⟨_, rfl, _, rfl, iteT ?_⟩
          have hd5 := s4 _ _ hd3
          have e5 := ent_keep (tk_same s4) e3
          have hv : valV kvs3 (Sum.inr z : Key) = none := ent_none e5 (ahead_new gd hrow ho)
          refine ⟨_, rfl, _, rfl, _, rfl, lz, fun T6 hT6 => ?_⟩
          have hd6 := (same_new (o := .tup [.int i, .int j]) hT6) _ _ hd5
          refine ⟨kvs3, Sum.inr z, rfl, hd6, ?_, same_mut ((s3.trans s4).trans (same_new hT6)) hd, kvs3 ++ [(Sum.inr z, .ref T6)], ?_, ?_⟩
          · have h1 := e5.length
            have h2 := ahead_len gd hrow (j := j)
            rw [List.length_map] at h2
            exact small1000 (by omega)
          · rw [putK_new _ hv, upd_same]
          · rw [ahead_snoc ho]
            refine Each.append (ent_keep (tk_updD hd6) (ent_keep (tk_new hT6) e5)) (.cons ⟨rfl, T6, rfl, ?_⟩ .nil)
            exact (tk_updD hd6) _ _ upd_same
      · rintro H3 ⟨s3, kvs3, hd3, e3⟩
        refine ⟨s3, kvs3, hd3, ?_⟩
        rw [List.length_map, List.take_length] at e3
        rw [take_snoc hrow, spG_snoc, len_take hrow, Nat.zero_add]
        exact e3
    · rintro H3 ⟨s3, kvs3, hd3, e3⟩
      have hlen : (as.map V.ref).length = g.length := by rw [List.length_map, hR.length]
      rw [hlen, List.take_length] at e3
      exact q d H3 hd s3 ⟨kvs3, hd3, e3⟩
/-! ### checked_spots of a good grid -/
def spSpots : Sp := fun vs H Q _ => ∃ (L : Addr) (g : Grid) (wd : Nat), vs = [.ref L] ∧ GridAt H L g ∧ Good g wd ∧
  ∀ (d : Addr) (H' : Hp), H d = none → Same H H' → SpotsAt H' d (spG 0 g) → Q (.ref d) H'
abbrev nSpots : List Str := ["rows", "wrong", "spots"]
theorem scSpots : FnScope nSpots ["rows"] (defScope sSpots) := ⟨rfl, rfl, rfl, by decide +kernel, rfl, by decide +kernel, by decide +kernel⟩
theorem ok_spots (F : Fun K "checked_spots" "checked_spots" sSpots f fd) (hA : Has P w K mg base "are_rows" 1 ["thing"] spAreRows) (hW : Has P w K mg base "wrong_spot" 2 ["rows"] spWrong) (hS : Has P w K mg base "spots_in" 1 ["rows"] spSpotsIn) :
    FnOk P w K mg base CX0 3 f fd ["rows"] spSpots := by
  refine F.ok scSpots (fun vs H Q E h => ?_) (fun cdv A outer s H vs Q E hr h => ?_)
  · obtain ⟨L, g, wd, rfl, _⟩ := h
    rfl
  · obtain ⟨L, g, wd, rfl, hG, gd, q⟩ := h
    refine ⟨_, pss_cons (ps_if (pt_not (pt_val (pe_h hA hr (pa_cons (pv 0) pa_nil)))) (pss_one ps_never) pss_nil)
      (pss_cons (ps_set (i := 1) scSpots.nd rfl (.inl rfl) (pe_h hW hr (pa_cons (pv 0) pa_nil)))
      (pss_cons (ps_if (pt_cmp (pc_notN (pv 1))) (pss_one ps_never) pss_nil)
      (pss_cons (ps_set (i := 2) scSpots.nd rfl (.inl rfl) (pe_h hS hr (pa_cons (pv 0) pa_nil)))
      (pss_cons (ps_if (pt_not (pt_truth (pv 2) (by intro _; rfl))) (pss_one ps_never) pss_nil)
      (pss_one (ps_ret (pv 2))))))), ?_⟩
    refine ⟨_, rfl, L, g, wd, rfl, hG, gd, true, rfl, iteF ?_⟩
    refine ⟨_, rfl, L, g, wd, rfl, hG, gd, fun H1 s1 => ⟨_, rfl, _, rfl, iteF ?_⟩⟩
    have hG1 : GridAt H1 L g := hG.keep (tk_same s1)
    refine ⟨_, rfl, L, g, wd, rfl, hG1, gd, fun d H2 hd s2 ⟨kvs, hk, he⟩ => ?_⟩
    have hne : kvs.isEmpty = false := by
      cases kvs with
      | nil =>
        have h1 := he.length
        have h2 : ((spG 0 g).map (·.1)).length = (names g).length := by rw [spG_fst]
        rw [List.length_map] at h2
        have h3 : names g = [] := List.eq_nil_of_length_eq_zero (by rw [← h2, ← h1]; rfl)
        exact absurd h3 gd.ne
      | cons a r => rfl
    refine ⟨_, rfl, _, .inr (.inr ⟨kvs, hk, rfl⟩), ?_⟩
    rw [hne]
    refine iteF ⟨_, rfl, q d H2 (s1.free hd) (s1.trans s2) ⟨kvs, hk, he⟩⟩
end
end Wl




namespace Wl
open PySem PySem.Spec PyProof.Rows L2
section
variable {J : It} {ys : List V} {G : Hp → Prop} {slot slot1 : Nat} {wi1 : TI} {tt1 : TT} {te : TE} {vs vs1 : List Nat} {σ : L2.St} {H1 : Hp} {D : Addr} {Qd : Hp → Prop}
theorem flat_take_snoc {α β : Type} {f : α → List β} {ys : List α} {i : Nat} {x : α} (h : ys[i]? = some x) : (ys.take (i + 1)).flatMap f = (ys.take i).flatMap f ++ f x := by
  rw [List.take_add_one, h, List.flatMap_append]
  simp
/-- [e for x in ys for y in inn x if t]: the heap only growing -/
theorem lc2_rel (w : L2.Walk J ys.length G (YAt ys)) (hD : H1 D = none) (inn : V → List V) (keep : V → V → Bool) (R : V → V → V → Hp → Prop) (N : Nat)
    (hG : ∀ H, Same H1 H → G H)
    (hw : ∀ x, wipe ((wipe σ vs).set slot (some x)) vs = wipe σ vs)
    (hw1 : ∀ x y, wipe ((wipe ((wipe σ vs).set slot (some x)) vs1).set slot1 (some y)) vs1 = wipe ((wipe σ vs).set slot (some x)) vs1)
    (hi : ∀ (x : V) (H : Hp) (acc : List V), x ∈ ys → Same H1 H → H D = some (.lst acc) → ∀ Rr : It → Hp → Prop,
      (∀ J1 H4 G1, Same H H4 → L2.Walk J1 (inn x).length G1 (YAt (inn x)) → (∀ H', SameX D H4 H' → G1 H') → Rr J1 H4) → wi1 ((wipe σ vs).set slot (some x)) H Rr)
    (ht : ∀ (x y : V) (H : Hp), x ∈ ys → y ∈ inn x → Same H1 H → ∀ Q : Bool → Hp → Prop, Q (keep x y) H → tt1 ((wipe ((wipe σ vs).set slot (some x)) vs1).set slot1 (some y)) H Q)
    (he : ∀ (x y : V) (H : Hp), x ∈ ys → y ∈ inn x → keep x y = true → Same H1 H → ∀ Q : VK, (∀ z H', Same H H' → R x y z H' → Q z H') → te ((wipe ((wipe σ vs).set slot (some x)) vs1).set slot1 (some y)) H Q)
    (hR : ∀ x y z H H' acc, H D = some (.lst acc) → SameX D H H' → R x y z H → R x y z H')
    (hl : ∀ x ∈ ys, (inn x).length ≤ N) (hn : ys.length * N < sizeLine)
    (hd : ∀ zs H, Same H1 H → H D = some (.lst zs) → Each (fun (xy : V × V) z => R xy.1 xy.2 z H) (ys.flatMap fun x => ((inn x).filter (keep x)).map fun y => (x, y)) zs → Qd H) :
    ∃ W : Nat → Nat → Hp → Prop, (∃ m, W 0 m (upd H1 D (.lst []))) ∧ ∀ i m H, W i m H →
      (J.stop i H ∧ Qd H) ∨ (J.go i H ∧ ∃ Nx : Hp → Prop, (∀ H', Nx H' → ∃ m', m' < m ∧ W (i + 1) m' H') ∧ ∀ x H', J.yld i H x H' → gName slot x (wipe σ vs) H' fun σ2 H2 => wipe σ2 vs = wipe σ vs ∧ tYes σ2 H2 fun b H3 =>
        if b = true then wi1 σ2 H3 fun J1 H4 => ∃ W1 : Nat → Nat → Hp → Prop, (∃ m, W1 0 m H4) ∧ ∀ j k H, W1 j k H →
          (J1.stop j H ∧ Nx H) ∨ (J1.go j H ∧ ∃ Nx1 : Hp → Prop, (∀ H', Nx1 H' → ∃ k', k' < k ∧ W1 (j + 1) k' H') ∧ ∀ x H', J1.yld j H x H' → gName slot1 x (wipe σ2 vs1) H' fun σ3 H5 => wipe σ3 vs1 = wipe σ2 vs1 ∧ tt1 σ3 H5 fun b H6 =>
            if b = true then te σ3 H6 fun y H7 => ∃ acc, H7 D = some (.lst acc) ∧ acc.length < sizeLine ∧ Nx1 (upd H7 D (.lst (acc ++ [y]))) else Nx1 H6)
        else Nx H3) := by
  have cnt : ∀ (l : List V), (∀ x ∈ l, (inn x).length ≤ N) → (l.flatMap fun x => ((inn x).filter (keep x)).map fun y => (x, y)).length ≤ l.length * N := by
    intro l
    induction l with
    | nil => intro _; simp
    | cons x r ih =>
      intro h
      rw [List.flatMap_cons, List.length_append, List.length_map, List.length_cons, Nat.succ_mul]
      have h1 : ((inn x).filter (keep x)).length ≤ (inn x).length := List.length_filter_le _ _
      have h2 := h x List.mem_cons_self
      have h3 := ih fun y hy => h y (List.mem_cons_of_mem _ hy)
      omega
  refine ⟨fun i m H => m = ys.length - i ∧ i ≤ ys.length ∧ ∃ zs, Same H1 H ∧ H D = some (.lst zs) ∧ Each (fun (xy : V × V) z => R xy.1 xy.2 z H) ((ys.take i).flatMap fun x => ((inn x).filter (keep x)).map fun y => (x, y)) zs,
    ⟨ys.length, by simp, Nat.zero_le _, [], same_new hD, upd_same, by simpa using Each.nil⟩, ?_⟩
  rintro i m H ⟨rfl, hi0, zs, s, hz, ez⟩
  by_cases hlt : i < ys.length
  · refine .inr ⟨w.goes i H hlt (hG H s), fun H' => ∃ zs, Same H1 H' ∧ H' D = some (.lst zs) ∧ Each (fun (xy : V × V) z => R xy.1 xy.2 z H') ((ys.take (i + 1)).flatMap fun x => ((inn x).filter (keep x)).map fun y => (x, y)) zs,
      fun H' h => ⟨ys.length - (i + 1), by omega, rfl, hlt, h⟩, fun x H' y => ?_⟩
    obtain ⟨rfl, hx⟩ := w.yields i H x H' hlt (hG H s) y
    have hm : x ∈ ys := List.mem_of_getElem? hx
    have hf := flat_take_snoc (f := fun x => ((inn x).filter (keep x)).map fun y => (x, y)) hx
    refine ⟨hw x, yes_it ?_⟩
    refine hi x _ zs hm s hz _ fun J1 H4 G1 s4 w1 hG1 => ?_
    have hz4 := s4 _ _ hz
    refine ⟨fun j k H => k = (inn x).length - j ∧ j ≤ (inn x).length ∧ ∃ ws, Same H1 H ∧ SameX D H4 H ∧ H D = some (.lst ws) ∧ Each (fun (xy : V × V) z => R xy.1 xy.2 z H) (((ys.take i).flatMap fun x => ((inn x).filter (keep x)).map fun y => (x, y)) ++ (((inn x).take j).filter (keep x)).map fun y => (x, y)) ws,
      ⟨(inn x).length, by simp, Nat.zero_le _, zs, s.trans s4, SameX.refl _ _, hz4, ?_⟩, ?_⟩
    · simpa using ez.mono fun a b r => hR _ _ _ _ _ _ hz (sx s4) r
    · rintro j k H5 ⟨rfl, hj0, ws, s5, x5, hz5, ez5⟩
      by_cases hjt : j < (inn x).length
      · refine .inr ⟨w1.goes j H5 hjt (hG1 H5 x5), fun H' => ∃ ws, Same H1 H' ∧ SameX D H4 H' ∧ H' D = some (.lst ws) ∧ Each (fun (xy : V × V) z => R xy.1 xy.2 z H') (((ys.take i).flatMap fun x => ((inn x).filter (keep x)).map fun y => (x, y)) ++ (((inn x).take (j + 1)).filter (keep x)).map fun y => (x, y)) ws,
          fun H' h => ⟨(inn x).length - (j + 1), by omega, rfl, hjt, h⟩, fun y H' yy => ?_⟩
        obtain ⟨rfl, hy⟩ := w1.yields j H5 y H' hjt (hG1 H5 x5) yy
        have hym : y ∈ inn x := List.mem_of_getElem? hy
        have hf2 := filter_take_snoc (p := keep x) hy
        refine ⟨hw1 x y, ht x y _ hm hym s5 _ ?_⟩
        refine ite_b (fun e => ?_) (fun e => ?_)
        · refine he x y _ hm hym e s5 _ fun z H6 s6 r6 => ⟨ws, s6 _ _ hz5, ?_, ws ++ [z], same_mut (s5.trans s6) hD, ?_, upd_same, ?_⟩
          · have h1 := ez5.length
            have h2 := cnt (ys.take i) fun x hx => hl x (List.mem_of_mem_take hx)
            have h3 : (((inn x).take j).filter (keep x)).length ≤ N := by
              have a1 : (((inn x).take j).filter (keep x)).length ≤ ((inn x).take j).length := List.length_filter_le _ _
              have a2 : ((inn x).take j).length ≤ (inn x).length := List.length_take_le' _ _
              have a3 := hl x hm
              omega
            rw [List.length_append, List.length_map] at h1
            have h4 : (ys.take i).length * N + N ≤ ys.length * N := by
              rw [← Nat.succ_mul]
              refine Nat.mul_le_mul_right N ?_
              rw [List.length_take]
              omega
            omega
          · exact (x5.trans (sx s6)).trans sameX_upd
          · rw [hf2, if_pos e, List.map_append, ← List.append_assoc]
            refine Each.append (ez5.mono fun a b r => ?_) (.cons ?_ .nil)
            · exact hR _ _ _ _ _ _ hz5 (fun b o n h => by rw [upd_ne n]; exact s6 _ _ h) r
            · exact hR _ _ _ _ _ _ (s6 _ _ hz5) sameX_upd r6
        · refine ⟨ws, s5, x5, hz5, ?_⟩
          rw [hf2, if_neg (by rw [e]; decide), List.append_nil]
          exact ez5
      · have e : j = (inn x).length := by omega
        subst e
        refine .inl ⟨w1.stops H5 (hG1 H5 x5), ws, s5, hz5, ?_⟩
        rw [List.take_length] at ez5
        rw [hf]
        exact ez5
  · have e : i = ys.length := by omega
    subst e
    rw [List.take_length] at ez
    exact .inl ⟨w.stops H (hG H s), hd zs H s hz ez⟩
end
end Wl

namespace Wl
open PySem PySem.Spec PyProof.Rows L2
abbrev sCls : Stmt := topS 50
abbrev sInit : Stmt := inClass sCls 0
abbrev sCheck : Stmt := inClass sCls 1
abbrev sLNames : Stmt := inClass sCls 2
abbrev sSpot : Stmt := inClass sCls 3
abbrev sNeigh : Stmt := inClass sCls 4
abbrev sBord : Stmt := inClass sCls 5
structure Txt (K : PySem.W.Frag) (mg : Str → Option Value) (C : Addr) : Prop where
  cl : Cls K C
  nS : NoAttr K C "spots"
  nR : NoAttr K C "rows"
  mgC : mg "Land" = some (.ref C)
theorem srne : ¬ (("spots" : Str) = "rows") := by decide +kernel
def lf (d L : Addr) : List (Str × V) := putF "rows" (.ref L) (putF "spots" (.ref d) [])
theorem lf_spots (d L : Addr) : (lf d L).lookup ("spots" : Str) = some (.ref d) := by
  unfold lf
  rw [lookup_putF, if_neg srne, lookup_putF, if_pos rfl]
theorem lf_rows (d L : Addr) : (lf d L).lookup ("rows" : Str) = some (.ref L) := by
  unfold lf
  rw [lookup_putF, if_pos rfl]
theorem lf_no (d L : Addr) {m : Str} (h1 : ¬ m = "rows") (h2 : ¬ m = "spots") : (lf d L).lookup m = none := by
  unfold lf
  rw [lookup_putF, if_neg h1, lookup_putF, if_neg h2]
  rfl
def LandAt (C : Addr) (H : Hp) (p L : Addr) (g : Grid) : Prop := ∃ d dx, H p = some (.ins C dx (lf d L)) ∧ SpotsAt H d (spG 0 g) ∧ GridAt H L g
theorem LandAt.keep {C p L : Addr} {H H' : Hp} {g : Grid} (h : LandAt C H p L g) (k : Keep H H') : LandAt C H' p L g := by
  obtain ⟨d, dx, h1, h2, h3⟩ := h
  exact ⟨d, dx, k _ _ (fun xs e => by cases e) h1, h2.keep k, h3.keep k.tk⟩
theorem tk_updI {a : Addr} {H : Hp} {C dx : Addr} {fs : List (Str × V)} {o : HO} (ha : H a = some (.ins C dx fs)) : TupKeep H (upd H a o) := fun p xs h => by
  rw [upd_ne (ne_of h ha (by intro z; cases z))]
  exact h
theorem spots_updI {a d : Addr} {H : Hp} {C dx : Addr} {fs : List (Str × V)} {o : HO} {sp : List (Str × Nat × Nat)} (ha : H a = some (.ins C dx fs)) (h : SpotsAt H d sp) : SpotsAt (upd H a o) d sp := by
  obtain ⟨kvs, h1, h2⟩ := h
  exact ⟨kvs, by rw [upd_ne (ne_of h1 ha (by intro z; cases z))]; exact h1, ent_keep (tk_updI ha) h2⟩
section
variable {P : Program} {w : World} {K : PySem.W.Frag} {mg : Str → Option Value} {base : Heap} {f C : Addr} {fd : FuncData}
def spInit (C : Addr) : Sp := fun vs H Q _ => ∃ (p dx L : Addr) (g : Grid) (wd : Nat), vs = [.ref p, .ref L] ∧ H p = some (.ins C dx []) ∧ GridAt H L g ∧ Good g wd ∧
  ∀ (H' : Hp), (∀ b o, b ≠ p → H b = some o → H' b = some o) → LandAt C H' p L g → Q .non H'
theorem scInit : FnScope ["self", "rows"] ["self", "rows"] (defScope sInit) := ⟨rfl, rfl, rfl, by decide +kernel, rfl, by decide +kernel, by decide +kernel⟩
theorem ok_init (F : Fun K "__init__" "Land.__init__" sInit f fd) (T : Txt K mg C) (hS : Has P w K mg base "checked_spots" 3 ["rows"] spSpots) : FnOk P w K mg base CX0 4 f fd ["self", "rows"] (spInit C) := by
  refine F.ok scInit (fun vs H Q E h => ?_) (fun cdv A outer s H vs Q E hr h => ?_)
  · obtain ⟨p, dx, L, g, wd, rfl, _⟩ := h
    rfl
  · obtain ⟨p, dx, L, g, wd, rfl, hp, hG, gd, q⟩ := h
    refine ⟨_, pss_cons (ps_fld (pv 0) (pe_h hS hr (pa_cons (pv 1) pa_nil)) rfl) (pss_one (ps_fld (pv 0) (pv 1) rfl)), ?_⟩
    refine ⟨_, rfl, L, g, wd, rfl, hG, gd, fun d H1 hd s1 sp1 => ?_⟩
    have hp1 := s1 _ _ hp
    refine ⟨_, rfl, p, C, dx, [], rfl, hp1, T.cl, T.nS, (by show 0 < 1000; decide), ?_⟩
    refine ⟨_, rfl, _, rfl, p, C, dx, _, rfl, upd_same, T.cl, T.nR, (by show 1 < 1000; decide), ?_⟩
    refine q _ (fun b o n e => ?_) ⟨d, dx, upd_same, spots_updI upd_same (spots_updI hp1 sp1), ((hG.keep (tk_same s1)).keep (tk_updI hp1)).keep (tk_updI upd_same)⟩
    rw [upd_ne n, upd_ne n]
    exact s1 _ _ e

/-! ### names -/
def spLNames (C : Addr) : Sp := fun vs H Q _ => ∃ (p L : Addr) (g : Grid) (wd : Nat), vs = [.ref p] ∧ LandAt C H p L g ∧ Good g wd ∧
  ∀ (t : Addr) (H' : Hp), H t = none → Same H H' → H' t = some (.tup ((sortS (names g)).map V.str)) → Q (.ref t) H'
theorem scLNames : FnScope ["self"] ["self"] (defScope sLNames) := ⟨rfl, rfl, rfl, by decide +kernel, rfl, by decide +kernel, by decide +kernel⟩
/-- sorted of a list of texts, as a reading -/
theorem sort_reads {H : Hp} {Q : VK} {a : Addr} {xs : List Str} (h : SqL K H a (xs.map V.str)) (q : ∀ p, H p = none → Q (.ref p) (upd H p (.lst ((sortS xs).map V.str)))) : rSortD K [.ref a] H Q := by
  refine ⟨a, xs.map sd, rfl, ?_, ?_, alike_strs xs, sortable_strs xs, ?_, fun p hp => ?_⟩
  · rw [List.map_map]
    exact h
  · intro b hb
    obtain ⟨x, _, rfl⟩ := List.mem_map.mp hb
    exact .str x
  · intro b hb
    obtain ⟨x, _, rfl⟩ := List.mem_map.mp hb
    show PyData.depth (.str x) ≤ 8
    simp [PyData.depth]
  · rw [sort_strs]
    exact q p hp
theorem ok_lnames (F : Fun K "names" "Land.names" sLNames f fd) (B : Bi mg) (T : Txt K mg C) : FnOk P w K mg base CX0 1 f fd ["self"] (spLNames C) := by
  refine F.ok scLNames (fun vs H Q E h => ?_) (fun cdv A outer s H vs Q E hr h => ?_)
  · obtain ⟨p, L, g, wd, rfl, _⟩ := h
    rfl
  · obtain ⟨p, L, g, wd, rfl, ⟨d, dx, hp, ⟨kvs, hd, he⟩, hG⟩, gd, q⟩ := h
    refine ⟨_, pss_one (ps_ret (pe_callTy call_tuple_of (by rfl) B.tuple (by decide +kernel) (pa_cons (pe_callB (cr_sortD hr.units) (by rfl) B.sorted (by decide +kernel) (pa_cons (pe_callTy (call_list_dK rfl) (by rfl) B.list (by decide +kernel) (pa_cons (pe_fld (pv 0) rfl) pa_nil)) pa_nil)) pa_nil))), ?_⟩
    refine ⟨_, rfl, p, C, dx, _, _, rfl, hp, T.cl, T.nS, lf_spots _ _, d, kvs, rfl, hd, fun a1 h1 => ?_⟩
    rw [ent_keys he, spG_fst]
    dsimp only [tNil]
    refine sort_reads (K := K) (.inl (.inl upd_same)) fun a2 h2 => ?_
    refine ⟨a2, _, rfl, .inl ⟨.inl (.inl upd_same), fun a3 h3 => ?_⟩⟩
    exact q a3 _ (Same.free ((same_new h1).trans (same_new h2)) h3) (((same_new h1).trans (same_new h2)).trans (same_new h3)) upd_same

/-! ### check_name, spot -/
def spCheck (C : Addr) : Sp := fun vs H Q _ => ∃ (p L : Addr) (g : Grid) (wd : Nat) (z : Str), vs = [.ref p, .str z] ∧ LandAt C H p L g ∧ Good g wd ∧ z ∈ names g ∧ ∀ (H' : Hp), Same H H' → Q .non H'
theorem scCheck : FnScope ["self", "name"] ["self", "name"] (defScope sCheck) := ⟨rfl, rfl, rfl, by decide +kernel, rfl, by decide +kernel, by decide +kernel⟩
theorem ok_check (F : Fun K "check_name" "Land.check_name" sCheck f fd) (T : Txt K mg C) (hI : Has P w K mg base "is_word" 1 ["thing"] spIsWord) : FnOk P w K mg base CX0 2 f fd ["self", "name"] (spCheck C) := by
  refine F.ok scCheck (fun vs H Q E h => ?_) (fun cdv A outer s H vs Q E hr h => ?_)
  · obtain ⟨p, L, g, wd, z, rfl, _⟩ := h
    rfl
  · obtain ⟨p, L, g, wd, z, rfl, hLa, gd, hz, q⟩ := h
    have hu := hu_of hr
    have hzw := gd.wd z hz
    refine ⟨_, pss_one (ps_if (PW.pt (pw_or (pt_not (pt_val (pe_h hI hr (pa_cons (pv 1) pa_nil)))) (pw_or1 (pt_cmp (pc_dnotin hu (pv 1) (pe_fld (pv 0) rfl)))))) (pss_one ps_never) pss_nil), ?_⟩
    refine ⟨_, rfl, z, rfl, by have := hzw.len; omega, fun H1 s1 => ⟨_, rfl, ?_⟩⟩
    rw [show wdB z = true from hzw]
    refine iteF ?_
    obtain ⟨d, dx, hp, ⟨kvs, hd, he⟩, hG⟩ := hLa.keep (kp_same s1)
    obtain ⟨r, c, hc⟩ := mem_names.mp hz
    obtain ⟨t, hv, ht⟩ := ent_some he (by rw [spG_fst]; exact gd.nd) (spG_cell.mpr hc)
    refine ⟨_, rfl, _, rfl, p, C, dx, _, _, rfl, hp, T.cl, T.nS, lf_spots _ _, d, _, rfl, DGet.k (k := Sum.inr z) hd, _, rfl, ?_⟩
    rw [hv]
    exact iteF (q H1 s1)
def spSpot (C : Addr) : Sp := fun vs H Q _ => ∃ (p L : Addr) (g : Grid) (wd : Nat) (z : Str) (r c : Nat), vs = [.ref p, .str z] ∧ LandAt C H p L g ∧ Good g wd ∧ cellAt g r c = some z ∧
  ∀ (t : Addr) (H' : Hp), Same H H' → H' t = some (.tup [.int r, .int c]) → Q (.ref t) H'
theorem scSpot : FnScope ["self", "name"] ["self", "name"] (defScope sSpot) := ⟨rfl, rfl, rfl, by decide +kernel, rfl, by decide +kernel, by decide +kernel⟩
end
end Wl




namespace Wl
open PySem PySem.Spec PyProof.Rows L2
/-- at most six rows of at most six -/
structure Sized (g : Grid) (wd : Nat) : Prop where
  h6 : g.length ≤ 6
  w6 : wd ≤ 6
  rows : ∀ r ∈ g, r.length = wd
theorem Good.sized {g : Grid} {wd : Nat} (G : Good g wd) : Sized g wd := ⟨G.h6, G.w6, G.rows⟩
section
variable {P : Program} {w : World} {K : PySem.W.Frag} {mg : Str → Option Value} {base : Heap} {f C : Addr} {fd : FuncData}
/-! ### the law's own names -/
def spNames : Sp := fun vs H Q _ => ∃ (L : Addr) (g : Grid) (wd : Nat), vs = [.ref L] ∧ GridAt H L g ∧ Sized g wd ∧
  ∀ (t : Addr) (H' : Hp), H t = none → Same H H' → H' t = some (.lst ((sortS (names g)).map V.str)) → Q (.ref t) H'
abbrev nNames : List Str := ["_law_laid", "_law_found", "_law_row", "_law_town"]
theorem scNames : FnScope nNames ["_law_laid"] (defScope sNames) := ⟨rfl, rfl, rfl, by decide +kernel, rfl, by decide +kernel, by decide +kernel⟩
theorem row_filter (row : Row) : ((row.map oV).filter fun v => !decide (v = .non)).map id = (rnames row).map V.str := by
  rw [List.map_id]
  induction row with
  | nil => rfl
  | cons o r ih =>
    cases o with
    | none => exact ih
    | some z => exact congrArg (V.str z :: ·) ih
theorem names_take {g : Grid} {i : Nat} {row : Row} (h : g[i]? = some row) : names (g.take (i + 1)) = names (g.take i) ++ rnames row := by
  rw [take_snoc h, names_snoc]
theorem ok_names (F : Fun K "_law_names" "_law_names" sNames f fd) (B : Bi mg) : FnOk P w K mg base CX0 1 f fd ["_law_laid"] spNames := by
  refine F.ok scNames (fun vs H Q E h => ?_) (fun cdv A outer s H vs Q E hr h => ?_)
  · obtain ⟨L, g, wd, rfl, _⟩ := h
    rfl
  · obtain ⟨L, g, wd, rfl, ⟨as, hL, hR⟩, gd, q⟩ := h
    refine ⟨_, pss_cons (ps_set (i := 1) scNames.nd rfl (.inl rfl) (pe_lst pa_nil))
      (pss_cons (ps_for PassesOwn.never rfl (pi_tup (pv 0)) (pg_name (i := 2) scNames.nd rfl (.inl rfl))
        (pss_one (ps_expr (pe_bm PySem.F.plainAttrs_list PySem.F.slot_list_extend PySem.F.type_list_extend mt_extend (pv 1) (pa_cons
          (pe_lc (own := [("_law_town", 3)]) (g := gName 3) (tt := tB (tNotN (tVar 3))) rfl scNames.nd (pi_tup (pv 2)) (blkOk_by (N := nNames) (sc := defScope sNames) (by decide +kernel)) (fun _ _ _ _ _ => pg_name (i := 3) scNames.nd rfl (.inl rfl))
            (fun _ _ _ _ _ => pts_one (pt_cmp (pc_notN (pv 3)))) (fun _ _ _ _ _ => pv 3)) pa_nil)))))
      (pss_one (ps_ret (pe_callB (cr_sortD hr.units) (by rfl) B.sorted (by decide +kernel) (pa_cons (pv 1) pa_nil))))), ?_⟩
    refine ⟨lz, fun fA hf => ?_⟩
    have s0 : Same H (upd H fA (.lst [])) := same_new hf
    have hlen : (as.map V.ref).length = g.length := by rw [List.length_map, hR.length]
    refine ⟨_, rfl, L, rfl, ⟨_, .inl (.inl (s0 _ _ hL))⟩, for_tup (K := K) (a := L) (xs := as.map V.ref) (fun i σ H' => (∃ y2 y3, σ = [some (.ref L), some (.ref fA), y2, y3]) ∧ Same H H' ∧ H' fA = some (.lst ((names (g.take i)).map V.str)))
      ⟨⟨_, _, rfl⟩, s0, upd_same⟩ (fun i σ H' _ h => .inl (.inl (h.2.1 _ _ hL))) ?_ ?_⟩
    · rintro i x σ H1 hx ⟨⟨y2, y3, rfl⟩, s1, hf1⟩
      rw [List.getElem?_map] at hx
      obtain ⟨p, hp, rfl⟩ := Option.map_eq_some_iff.mp hx
      obtain ⟨row, hrow, hH⟩ := hR.get hp
      have hrl := gd.rows row (List.mem_of_getElem? hrow)
      refine ⟨_, rfl, .inl ⟨rfl, _, .inl (.inl hf1)⟩, _, rfl, p, rfl, ⟨_, .inl (.inl (s1 _ _ hH))⟩, fun D hD => ?_⟩
      refine lc_map (walk_tup (K := K) (a := p) (xs := row.map oV)) hD (fun v => !decide (v = .non)) id (fun H' s' => .inl (.inl (s' _ _ (s1 _ _ hH)))) (fun _ => rfl) ?_ ?_ ?_ ?_
      · intro x H' hx s' Q' q'
        exact ⟨_, rfl, _, rfl, q'⟩
      · intro x H' hx _ _ Q' q'
        exact ⟨_, rfl, q'⟩
      · rw [List.length_map]
        exact small1000 (by have := gd.w6; omega)
      · intro H2 s2 hD2
        rw [row_filter] at hD2
        have hf2 := s2 _ _ hf1
        refine ⟨fA, D, _, _, rfl, rfl, hf2, hD2, ?_, ⟨_, _, rfl⟩, same_mut (s1.trans s2) hf, ?_⟩
        · rw [List.length_map, List.length_map]
          have a1 := len_names (g := g.take i) (wd := wd) fun r hr => gd.rows r (List.mem_of_mem_take hr)
          have a2 : (g.take i).length ≤ 6 := by rw [List.length_take]; have := gd.h6; omega
          have a3 : (g.take i).length * wd ≤ 6 * 6 := Nat.mul_le_mul a2 gd.w6
          have a4 : (rnames row).length ≤ row.length := List.length_filterMap_le id _
          have a7 := gd.w6
          exact lzl (by omega)
        · rw [upd_same, names_take hrow, List.map_append]
    · rintro σ H1 ⟨⟨y2, y3, rfl⟩, s1, hf1⟩
      rw [hlen, List.take_length] at hf1
      refine ⟨_, rfl, ?_⟩
      dsimp only [tNil]
      refine sort_reads (K := K) (.inl (.inl hf1)) fun p hp => ?_
      exact q p _ (s1.free hp) (s1.trans (same_new hp)) upd_same

theorem grid_get {H : Hp} {L : Addr} {g : Grid} {wd : Nat} (gd : Good g wd) {as : List Addr} (hL : H L = some (.tup (as.map V.ref))) (hR : RowsAt H as g) {x y : Int} (hx : 0 ≤ x ∧ x < g.length) (hy : 0 ≤ y ∧ y < wd) :
    ∃ (p : Addr) (row : Row), atI (as.map V.ref) x = some (.ref p) ∧ H p = some (.tup (row.map oV)) ∧ row.length = wd ∧ atI (row.map oV) y = some (oV (cellAt g x.toNat y.toNat)) := by
  have hx2 : x.toNat < g.length := by omega
  have hg : g[x.toNat]? = some g[x.toNat] := List.getElem?_eq_getElem hx2
  obtain ⟨p, hp, hH⟩ := hR.get2 hg
  have hw := gd.rows _ (List.mem_of_getElem? hg)
  have hy2 : y.toNat < g[x.toNat].length := by omega
  refine ⟨p, g[x.toNat], at_of (j := x.toNat) (by omega) (by rw [List.getElem?_map, hp]; rfl), hH, hw, at_of (j := y.toNat) (by omega) ?_⟩
  rw [List.getElem?_map, List.getElem?_eq_getElem hy2, cellAt_of hg (List.getElem?_eq_getElem hy2)]
  rfl
end
end Wl




/-! A land's text. -/
namespace Wl
open PySem PySem.Spec PyProof.Rows L2
def partS : Option Str → Str
  | none => "-"
  | some z => z
def lineS (row : Row) : Str := Txt.join (" " : Str) (row.map partS)
def landS (g : Grid) : Str := Txt.join ("\n" : Str) (g.map lineS)
theorem tl_dash : TL.tl ("-" : Str) = [45] := by decide +kernel
theorem tl_blank : TL.tl (" " : Str) = [32] := by decide +kernel
theorem tl_end : TL.tl ("\n" : Str) = [10] := by decide +kernel
theorem wd_tl {z : Str} (h : IsWd z) : (1 ≤ (TL.tl z).length ∧ (TL.tl z).length ≤ 8) ∧ ∀ c ∈ TL.tl z, 97 ≤ c ∧ c ≤ 122 := by
  refine ⟨by rw [← TL.len_tl]; exact h.len, ?_⟩
  unfold IsWd wdB at h
  simp only [Bool.and_eq_true, decide_eq_true_eq, List.all_eq_true] at h
  exact h.2
theorem wd_dash {z : Str} (h : IsWd z) : z ≠ "-" := fun e => by
  have := (wd_tl h).2 45 (by rw [e, tl_dash]; simp)
  omega
/-- a part of a row -/
def OkP (o : Option Str) : Prop := ∀ z, o = some z → IsWd z
theorem part_tl {o : Option Str} (h : OkP o) : (TL.tl (partS o)).length ≤ 8 ∧ ∀ c ∈ TL.tl (partS o), 45 ≤ c ∧ c ≤ 122 := by
  cases o with
  | none =>
    show (TL.tl ("-" : Str)).length ≤ 8 ∧ ∀ c ∈ TL.tl ("-" : Str), 45 ≤ c ∧ c ≤ 122
    rw [tl_dash]
    exact ⟨by decide, fun c hc => by rw [List.mem_singleton.mp hc]; decide⟩
  | some z =>
    have := wd_tl (h z rfl)
    exact ⟨this.1.2, fun c hc => ⟨by have := this.2 c hc; omega, (this.2 c hc).2⟩⟩
theorem join_mem {S : List Nat} {c : Nat} : ∀ {ps : List (List Nat)}, c ∈ TL.joinL S ps → c ∈ S ∨ ∃ p ∈ ps, c ∈ p
  | [], h => by cases h
  | [p], h => .inr ⟨p, List.mem_singleton.mpr rfl, h⟩
  | p :: q :: r, h => by
    have h : c ∈ p ++ (S ++ TL.joinL S (q :: r)) := h
    rcases List.mem_append.mp h with h | h
    · exact .inr ⟨p, List.mem_cons_self, h⟩
    · rcases List.mem_append.mp h with h | h
      · exact .inl h
      · rcases join_mem h with h | ⟨u, hu, h⟩
        · exact .inl h
        · exact .inr ⟨u, List.mem_cons_of_mem _ hu, h⟩
theorem join_size {S : List Nat} {m : Nat} : ∀ {ps : List (List Nat)}, (∀ p ∈ ps, p.length ≤ m) → (TL.joinL S ps).length ≤ ps.length * (m + S.length)
  | [], _ => by simp [TL.joinL]
  | [p], h => by
    have := h p (List.mem_singleton.mpr rfl)
    show p.length ≤ _
    simp
    omega
  | p :: q :: r, h => by
    have h1 := h p List.mem_cons_self
    have h2 := join_size (S := S) (m := m) (ps := q :: r) fun u hu => h u (List.mem_cons_of_mem _ hu)
    show (p ++ (S ++ TL.joinL S (q :: r))).length ≤ _
    rw [List.length_append, List.length_append, List.length_cons, Nat.succ_mul]
    omega
theorem line_tl (row : Row) : TL.tl (lineS row) = TL.joinL [32] (row.map fun o => TL.tl (partS o)) := by
  unfold lineS
  rw [TL.join_eq, TL.tl_join, tl_blank, List.map_map]
  rfl
theorem line_codes {row : Row} (h : ∀ o ∈ row, OkP o) {c : Nat} (hc : c ∈ TL.tl (lineS row)) : c = 32 ∨ (45 ≤ c ∧ c ≤ 122) := by
  rw [line_tl] at hc
  rcases join_mem hc with hc | ⟨p, hp, hc⟩
  · exact .inl (List.mem_singleton.mp hc)
  · obtain ⟨o, ho, rfl⟩ := List.mem_map.mp hp
    exact .inr ((part_tl (h o ho)).2 c hc)
theorem line_len {row : Row} (h : ∀ o ∈ row, OkP o) (h6 : row.length ≤ 6) : (lineS row).length ≤ 54 := by
  rw [TL.len_tl, line_tl]
  have := join_size (S := [32]) (m := 8) (ps := row.map fun o => TL.tl (partS o)) fun p hp => by
    obtain ⟨o, ho, rfl⟩ := List.mem_map.mp hp
    exact (part_tl (h o ho)).1
  rw [List.length_map] at this
  simp at this
  omega
theorem line_split {row : Row} (h : ∀ o ∈ row, OkP o) (ne : row ≠ []) : Txt.split (lineS row) (" " : Str) = row.map partS := by
  unfold lineS
  refine TL.split_join tl_blank (by decide +kernel) (fun e => ne (List.map_eq_nil_iff.mp e)) fun p hp hc => ?_
  obtain ⟨o, ho, rfl⟩ := List.mem_map.mp hp
  have := (part_tl (h o ho)).2 32 hc
  omega
theorem land_split {g : Grid} (h : ∀ r ∈ g, ∀ o ∈ r, OkP o) (ne : g ≠ []) : Txt.split (landS g) ("\n" : Str) = g.map lineS := by
  unfold landS
  refine TL.split_join tl_end (by decide +kernel) (fun e => ne (List.map_eq_nil_iff.mp e)) fun p hp hc => ?_
  obtain ⟨r, hr, rfl⟩ := List.mem_map.mp hp
  have := line_codes (h r hr) hc
  omega
theorem land_len {g : Grid} (h : ∀ r ∈ g, ∀ o ∈ r, OkP o) (hg : g.length ≤ 6) (hr : ∀ r ∈ g, r.length ≤ 6) : (landS g).length ≤ 330 := by
  unfold landS
  rw [TL.len_tl, TL.join_eq, TL.tl_join, tl_end]
  have := join_size (S := [10]) (m := 54) (ps := (g.map lineS).map TL.tl) fun p hp => by
    obtain ⟨z, hz, rfl⟩ := List.mem_map.mp hp
    obtain ⟨r, hr', rfl⟩ := List.mem_map.mp hz
    rw [← TL.len_tl]
    exact line_len (h r hr') (hr r hr')
  rw [List.length_map, List.length_map] at this
  have e : (54 + [10].length) = 55 := rfl
  rw [e] at this
  omega
theorem names_part {g : Grid} (h : ∀ z ∈ names g, IsWd z) : ∀ r ∈ g, ∀ o ∈ r, OkP o := fun r hr o ho z e => h z (by
  unfold names
  rw [List.mem_filterMap]
  exact ⟨o, List.mem_flatten.mpr ⟨r, hr, ho⟩, e⟩)
theorem Good.parts {g : Grid} {wd : Nat} (G : Good g wd) : ∀ r ∈ g, ∀ o ∈ r, OkP o := names_part G.wd
theorem Good.nn {g : Grid} {wd : Nat} (G : Good g wd) : g ≠ [] := fun e => by
  have := G.h1
  rw [e] at this
  simp at this
theorem Good.six {g : Grid} {wd : Nat} (G : Good g wd) : ∀ r ∈ g, r.length ≤ 6 := fun r hr => by
  rw [G.rows r hr]
  exact G.w6
theorem part_inj {o u : Option Str} (h : OkP o) (k : OkP u) (e : partS o = partS u) : o = u := by
  cases o with
  | none =>
    cases u with
    | none => rfl
    | some z => exact absurd e.symm (wd_dash (k z rfl))
  | some y =>
    cases u with
    | none => exact absurd e (wd_dash (h y rfl))
    | some z => exact congrArg some e
theorem map_part_inj : ∀ {r q : Row}, (∀ o ∈ r, OkP o) → (∀ o ∈ q, OkP o) → r.map partS = q.map partS → r = q
  | [], [], _, _, _ => rfl
  | [], _ :: _, _, _, e => by simp at e
  | _ :: _, [], _, _, e => by simp at e
  | o :: r, u :: q, h, k, e => by
    simp only [List.map_cons, List.cons.injEq] at e
    rw [part_inj (h o List.mem_cons_self) (k u List.mem_cons_self) e.1, map_part_inj (fun x hx => h x (List.mem_cons_of_mem _ hx)) (fun x hx => k x (List.mem_cons_of_mem _ hx)) e.2]
theorem line_inj {r q : Row} (h : ∀ o ∈ r, OkP o) (k : ∀ o ∈ q, OkP o) (nr : r ≠ []) (nq : q ≠ []) (e : lineS r = lineS q) : r = q := by
  have := congrArg (fun z => Txt.split z (" " : Str)) e
  simp only [line_split h nr, line_split k nq] at this
  exact map_part_inj h k this
/-- unlike lands have unlike texts -/
theorem land_inj {g g' : Grid} {wd wd' : Nat} (G : Good g wd) (G' : Good g' wd') (e : landS g = landS g') : g = g' := by
  have h := congrArg (fun z => Txt.split z ("\n" : Str)) e
  simp only [land_split G.parts G.nn, land_split G'.parts G'.nn] at h
  have ne : ∀ {l : Grid} {v : Nat}, Good l v → ∀ r ∈ l, r ≠ [] := fun {l v} L r hr q => by
    have h1 := L.rows r hr
    have h2 := L.w1
    rw [q] at h1
    simp at h1
    omega
  have key : ∀ {l m : Grid}, (∀ r ∈ l, r ≠ [] ∧ ∀ o ∈ r, OkP o) → (∀ r ∈ m, r ≠ [] ∧ ∀ o ∈ r, OkP o) → l.map lineS = m.map lineS → l = m := by
    intro l
    induction l with
    | nil =>
      intro m _ _ e
      cases m with
      | nil => rfl
      | cons _ _ => simp at e
    | cons r l ih =>
      intro m hl hm e
      cases m with
      | nil => simp at e
      | cons q m =>
        simp only [List.map_cons, List.cons.injEq] at e
        have a := hl r List.mem_cons_self
        have b := hm q List.mem_cons_self
        rw [line_inj a.2 b.2 a.1 b.1 e.1, ih (fun x hx => hl x (List.mem_cons_of_mem _ hx)) (fun x hx => hm x (List.mem_cons_of_mem _ hx)) e.2]
  exact key (fun r hr => ⟨ne G r hr, G.parts r hr⟩) (fun r hr => ⟨ne G' r hr, G'.parts r hr⟩) h
end Wl

/-! Rules of ours for objects of own classes: len, str, repr, ==, !=, in a list of one, each by the class's own method. -/
namespace Wl
open PySem PySem.Spec PyProof.Rows L2
section
variable {X : Cx} {n : Nat} {f : Addr} {fd : FuncData} {ps : List Str} {sp : Sp} {C : Addr}
theorem v1 (a : Addr) : Vals [V.ref a] [Value.ref a] := .cons rfl .nil
theorem v2 (a b : Addr) : Vals [V.ref a, V.ref b] [Value.ref a, Value.ref b] := .cons rfl (.cons rfl .nil)
/-- an own def called somewhere below the running body -/
theorem run_own {A : Around} {pins : List (Addr × Obj)} {s : Shared} {σ : L2.St} {H : Hp} {vs : List V} {us : List Value} {Q : VK} (F : FnOk X.prog X.w X.K X.mg X.base CX0 n f fd ps sp) (hb : Binds X.K fd ps []) (sb : Sub X n A) (I : L2.Inv X pins σ H s) (r : Vals vs us) (hsp : sp vs H Q E0) :
    wpAny (model X.prog X.w) A (call (.ref f) us) (EP X pins σ Q) X.xe s := by
  have e0 : Env0 X.prog X.w X.K X.mg X.base A X.stack s H := by
    have e := I.env0
    exact ⟨by rw [sb.fr]; exact e.frames, e.mod, e.bs, e.bsz, e.funs, e.frf, e.hok, e.bare⟩
  have hl := F.len _ _ _ _ hsp
  have hb' : BindsTo s fd ⟨us, []⟩ (ps.zip us) := by
    have := hb s us I.kIn (by rw [List.append_nil, ← r.length]; exact hl)
    rw [List.append_nil] at this
    exact this
  refine wpAny_call (codeAny_mono (F.run A X.stack s H ⟨us, []⟩ us vs _ E0 sb.room e0 hb' r hsp) fun r s' hq => ?_)
  cases r with
  | error e => exact pass0 pins σ H s e s' I hq
  | ok fl =>
    cases fl with
    | ret w => exact I.after hq
    | next => exact False.elim hq
    | brk => exact False.elim hq
    | cont => exact False.elim hq
/-- len(o) -/
def rLenO (C : Addr) (sp : Sp) : List V → Hp → VK → Prop := fun xs H Q => ∃ a dx fs, xs = [V.ref a] ∧ H a = some (.ins C dx fs) ∧ sp [.ref a] H (fun v H' => ∃ k : Nat, v = .int (k : Int) ∧ k < 2 ^ 62 ∧ Q (.int (k : Int)) H') E0
theorem cr_lenO (F : FnOk X.prog X.w X.K X.mg X.base CX0 n f fd ps sp) (hb : Binds X.K fd ps []) (m : Meth X.K C "__len__" f) (hr : Room (n + 1) X.A) : CallR X (.builtin "len") (rLenO C sp) := by
  intro pins s σ H xs us Q I r h
  obtain ⟨a, dx, fs, rfl, ha, hsp⟩ := h
  obtain ⟨u, rfl, ru⟩ := vals1 r
  obtain rfl : u = Value.ref a := ru
  obtain ⟨mA, J, _⟩ := ins_get I.hok ha
  obtain ⟨od, J, _⟩ := J.look
  obtain ⟨m', hF⟩ := I.fr
  refine PySem.W.len_K hF I.ok.mod.kin J m.at_ m.fn (wpAny_mono (run_own F hb (Sub.in1 ⟨hr, rfl⟩) I (v1 a) hsp) (fun v s' hq => ?_) fun _ _ z => z)
  obtain ⟨z, H', I', rz, k, rfl, hk, q⟩ := hq
  obtain ⟨t, rfl⟩ := rz
  exact ⟨⟨by omega, by omega⟩, .int (k : Int), H', I'.tok _, ⟨_, rfl⟩, q⟩
/-- str(o) -/
def rStrO (C : Addr) (sp : Sp) : List V → Hp → VK → Prop := fun xs H Q => ∃ a dx fs, xs = [V.ref a] ∧ H a = some (.ins C dx fs) ∧ sp [.ref a] H (fun v H' => ∃ z, v = .str z ∧ Q (.str z) H') E0
theorem room_u2 {k : Nat} {A : Around} (r : Room k A) : A.units + 2 < cLine := by have := r.un; omega
theorem cr_strO (F : FnOk X.prog X.w X.K X.mg X.base CX0 n f fd ps sp) (hb : Binds X.K fd ps []) (m : Meth X.K C "__str__" f) (hr : Room (n + 2) X.A) : CallR X (.type "str") (rStrO C sp) := by
  intro pins s σ H xs us Q I r h
  obtain ⟨a, dx, fs, rfl, ha, hsp⟩ := h
  obtain ⟨u, rfl, ru⟩ := vals1 r
  obtain rfl : u = Value.ref a := ru
  obtain ⟨mA, J, _⟩ := ins_get I.hok ha
  obtain ⟨od, J, _⟩ := J.look
  refine PySem.W.kso_call (show X.A.units + 1 + 1 < cLine from room_u2 hr) I.kIn J m.at_ m.fn (wpAny_mono (run_own F hb (Sub.in1 (Sub.in1 ⟨hr, rfl⟩)) I (v1 a) hsp) (fun v s' hq => ?_) fun _ _ z => z)
  obtain ⟨z, H', I', rz, y, rfl, q⟩ := hq
  obtain ⟨t, rfl⟩ := rz
  exact ⟨.str y, H', I', ⟨_, rfl⟩, q⟩
/-- repr(o) -/
theorem cr_reprO (F : FnOk X.prog X.w X.K X.mg X.base CX0 n f fd ps sp) (hb : Binds X.K fd ps []) (m : Meth X.K C "__repr__" f) (hr : Room (n + 1) X.A) : CallR X (.builtin "repr") (rStrO C sp) := by
  intro pins s σ H xs us Q I r h
  obtain ⟨a, dx, fs, rfl, ha, hsp⟩ := h
  obtain ⟨u, rfl, ru⟩ := vals1 r
  obtain rfl : u = Value.ref a := ru
  obtain ⟨mA, J, _⟩ := ins_get I.hok ha
  obtain ⟨od, J, _⟩ := J.look
  obtain ⟨m', hF⟩ := I.fr
  refine PySem.W.repr_K (show X.A.units + 1 < cLine from by have := room_u2 hr; omega) hF I.ok.mod.kin J m.at_ m.fn (wpAny_mono (run_own F hb (Sub.in1 ⟨hr, rfl⟩) I (v1 a) hsp) (fun v s' hq => ?_) fun _ _ z => z)
  obtain ⟨z, H', I', rz, y, rfl, q⟩ := hq
  obtain ⟨t, rfl⟩ := rz
  exact ⟨.str y, H', I', ⟨_, rfl⟩, q⟩
/-- x == y of two of one class -/
def rEqO (C : Addr) (sp : Sp) (g : Bool → Bool) : R2 := fun x y H Q => ∃ a dx fs b dy gs, x = V.ref a ∧ y = V.ref b ∧ H a = some (.ins C dx fs) ∧ H b = some (.ins C dy gs) ∧ sp [.ref a, .ref b] H (fun v H' => ∃ c, v = .bl c ∧ Q (.bl (g c)) H') E0
theorem rc_eqO {A : Around} {pins : List (Addr × Obj)} {s : Shared} {σ : L2.St} {H : Hp} {a b dx dy : Addr} {fs gs : List (Str × V)} {Q : Bool → Hp → Prop} (F : FnOk X.prog X.w X.K X.mg X.base CX0 n f fd ps sp) (hb : Binds X.K fd ps []) (m : Meth X.K C "__eq__" f) (sb : Sub X n A) (I : L2.Inv X pins σ H s)
    (ha : H a = some (.ins C dx fs)) (hb' : H b = some (.ins C dy gs)) (hsp : sp [.ref a, .ref b] H (fun v H' => ∃ c, v = .bl c ∧ Q c H') E0) :
    wpAny (model X.prog X.w) A (richCompare .Eq (.ref a) (.ref b)) (fun v s' => ∃ c, v = .bool c ∧ ∃ H', L2.Inv X pins σ H' s' ∧ Q c H') X.xe s := by
  obtain ⟨mA, J, _⟩ := ins_get I.hok ha
  obtain ⟨mB, J', _⟩ := ins_get I.hok hb'
  obtain ⟨od, J, _⟩ := J.look
  obtain ⟨od', J', _⟩ := J'.look
  obtain ⟨m', hF⟩ := I.fr
  refine PySem.W.cmp_K (op := .Eq) (tb := .ref C) sb.room.units0 hF I.ok.mod.kin J J'.type (by simp [PySem.W.notFirst]) m.at_ m.fn (wpAny_mono (run_own F hb sb I (v2 a b) hsp) (fun v s' hq => ?_) fun _ _ z => z)
  obtain ⟨z, H', I', rz, c, rfl, q⟩ := hq
  cases rz
  exact ⟨c, rfl, H', I', q⟩
theorem op_eqO (F : FnOk X.prog X.w X.K X.mg X.base CX0 n f fd ps sp) (hb : Binds X.K fd ps []) (m : Meth X.K C "__eq__" f) (hr : Room n X.A) : OpR X (compareOp .Eq) (rEqO C sp id) := by
  intro pins s σ H x y v u Q I rx ry h
  obtain ⟨a, dx, fs, b, dy, gs, rfl, rfl, ha, hb', hsp⟩ := h
  cases rx
  cases ry
  show wpAny (model X.prog X.w) X.A (richCompare .Eq (.ref a) (.ref b)) (EP X pins σ Q) X.xe s
  refine wpAny_mono (rc_eqO F hb m ⟨hr, rfl⟩ I ha hb' hsp) (fun v s' hq => ?_) fun _ _ z => z
  obtain ⟨c, rfl, H', I', q⟩ := hq
  exact ⟨.bl c, H', I', rfl, q⟩
/-- what the class says of != -/
structure NeC (K : PySem.W.Frag) (C : Addr) : Prop where
  ne : PySem.W.findIn K (.ref C) "__ne__" = some (some (.builtin "object.__ne__"))
  ob : PySem.W.mroIn K C (.type "object") = some true
theorem ifBound_B {M : Model} {A : Around} {E : Value → Shared → Prop} {s : Shared} {K : PySem.W.Frag} {x C : Addr} {ox : Obj} {od : Option Obj} {name : Str} {id : String} {args : List Value} {Q : Option Value → Shared → Prop} (X : K.In s.heap) (I : PySem.W.InstAt s.heap x ox C od) (hs : PySem.W.findIn K (.ref C) name = some (some (.builtin id)))
    (hb : ∀ self, bindSpecial (.builtin id) self = pure (.builtin id, [self])) (h : wpAny M A (call (.builtin id) (.ref x :: args)) (fun v => Q (some v)) E s) : wpAny M A (callSpecialIfBound? (.ref x) name args) Q E s := by
  simp only [callSpecialIfBound?, bindSpecialIfBound?]
  refine wpAny_holding (wpAny_bind (wpAny_bind (wpAny_bind (I.type.here ((PySem.W.looks_findIn X hs).here ?_)))))
  refine wpAny_bind (wpAny_askSetting (wpAny_ite ?_))
  have fin : wpAny M A (call (.builtin id) ([.ref x] ++ args) >>= fun v => pure (some v)) Q E s := wpAny_bind (wpAny_mono h (fun v s' h' => wpAny_pure h') fun _ _ h' => h')
  split
  · exact wpAny_bind ((PySem.W.Looks.of_pure (hb _)).here (wpAny_pure (by exact fin)))
  · exact wpAny_tryCatch (wpAny_bind ((PySem.W.Looks.of_pure (hb _)).here (wpAny_pure (by exact fin))))
theorem obj_neK {A : Around} {E : Value → Shared → Prop} {s : Shared} {prog : Program} {w : World} {K : PySem.W.Frag} {x C f : Addr} {y : Value} {ox : Obj} {od : Option Obj} {Q : Value → Shared → Prop} (hu : A.units + 1 < cLine) (X : K.In s.heap) (I : PySem.W.InstAt s.heap x ox C od) (N : NeC K C) (he : PySem.W.findIn K (.ref C) "__eq__" = some (some (.ref f))) (hf : PySem.W.isFn K (.ref f) = true)
    (h : wpAny (model prog w) A.in1 (call (.ref f) [.ref x, y]) (fun v s' => ∃ c, v = .bool c ∧ Q (.bool (!c)) s') E s) : wpAny (model prog w) A (call (.builtin "object.__ne__") [.ref x, y]) Q E s := by
  refine wpAny_call (codeAny_call_builtin PySem.F.slot_object_ne.plain PySem.F.cmpEntry_ne (PySem.W.check_slot (i := "object.__ne__") (owner := "object") (n := "__ne__") (by decide +kernel) (by decide +kernel) (I.type.andThen (PySem.W.looks_mroIn X N.ob)) (PySem.F.cmpArgs_ne _ _) ?_))
  unfold Builtin.«object.__ne__»
  refine wpAny_bind (m := slotArgs "__ne__" 1 _) (wpAny_pure ?_)
  refine wpAny_bind (m := cRoomFor _ _) (wpAny_cRoomFor (show A.in1.units < cLine from hu) ?_)
  refine wpAny_bind (m := callSpecialIfBound? (.ref x) (Str.ofString "__eq__") _) (PySem.W.ifBound_K X I he hf (wpAny_mono h (fun r s' hq => ?_) fun _ _ z => z))
  obtain ⟨c, rfl, q⟩ := hq
  exact wpAny_bind (wpAny_truthy_bool (wpAny_pure q))
end
end Wl
namespace Wl
open PySem PySem.Spec PyProof.Rows L2
theorem ne_K {A : Around} {E : Value → Shared → Prop} {s : Shared} {prog : Program} {w : World} {K : PySem.W.Frag} {x C f : Addr} {y : Addr} {ox oy : Obj} {od od' : Option Obj} {Q : Value → Shared → Prop} (hu : A.units + 2 < cLine) (X : K.In s.heap) (I : PySem.W.InstAt s.heap x ox C od) (I' : PySem.W.InstAt s.heap y oy C od') (N : NeC K C) (he : PySem.W.findIn K (.ref C) "__eq__" = some (some (.ref f))) (hf : PySem.W.isFn K (.ref f) = true)
    (h : wpAny (model prog w) A.in1 (call (.ref f) [.ref x, .ref y]) (fun v s' => ∃ c, v = .bool c ∧ Q (.bool (!c)) s') E s) : wpAny (model prog w) A (richCompare .NotEq (.ref x) (.ref y)) Q E s := by
  have one : wpAny (model prog w) A (tryCompare (.ref x) "__ne__" (.ref y)) (fun r s' => ∃ v, r = some v ∧ Q v s') E s := by
    unfold tryCompare
    refine wpAny_bind (ifBound_B X I N.ne PySem.F.slot_object_ne.bind (wpAny_mono (obj_neK (Q := fun v s' => ∃ c, v = .bool c ∧ Q v s') (by omega) X I N he hf (wpAny_mono h (fun v s' hv => ?_) fun _ _ z => z)) (fun v s' hv => ?_) fun _ _ z => z))
    · obtain ⟨c, rfl, q⟩ := hv
      exact ⟨c, rfl, _, rfl, q⟩
    · obtain ⟨c, rfl, q⟩ := hv
      exact wpAny_pure ⟨_, rfl, q⟩
  unfold richCompare
  simp only [oneThing_ref]
  refine wpAny_holding (wpAny_bind (wpAny_cRoomFor (by omega) ?_))
  refine wpAny_bind (I.type.here (wpAny_bind (I'.type.here ?_)))
  rw [show (Value.ref C != Value.ref C) = false from by simp]
  simp only [Bool.false_eq_true, if_false]
  refine wpAny_bind (wpAny_pure ?_)
  simp only [Bool.false_eq_true, if_false]
  refine wpAny_bind (wpAny_mono one (fun r s' z => ?_) fun _ _ e => e)
  obtain ⟨v, rfl, hq⟩ := z
  exact wpAny_pure hq
section
variable {X : Cx} {n : Nat} {f : Addr} {fd : FuncData} {ps : List Str} {sp : Sp} {C : Addr}
theorem op_neO (F : FnOk X.prog X.w X.K X.mg X.base CX0 n f fd ps sp) (hb : Binds X.K fd ps []) (m : Meth X.K C "__eq__" f) (N : NeC X.K C) (hr : Room (n + 1) X.A) : OpR X (compareOp .NotEq) (rEqO C sp not) := by
  intro pins s σ H x y v u Q I rx ry h
  obtain ⟨a, dx, fs, b, dy, gs, rfl, rfl, ha, hb', hsp⟩ := h
  cases rx
  cases ry
  obtain ⟨mA, J, _⟩ := ins_get I.hok ha
  obtain ⟨mB, J', _⟩ := ins_get I.hok hb'
  obtain ⟨od, J, _⟩ := J.look
  obtain ⟨od', J', _⟩ := J'.look
  show wpAny (model X.prog X.w) X.A (richCompare .NotEq (.ref a) (.ref b)) (EP X pins σ Q) X.xe s
  refine ne_K (room_u2 hr) I.kIn J J' N m.at_ m.fn (wpAny_mono (run_own F hb (Sub.in1 ⟨hr, rfl⟩) I (v2 a b) hsp) (fun v s' hq => ?_) fun _ _ z => z)
  obtain ⟨z, H', I', rz, c, rfl, q⟩ := hq
  cases rz
  exact ⟨c, rfl, .bl (!c), H', I', rfl, q⟩
/-! x in xs, x not in xs, of objects -/
open GQ MeetsSeq MeetsSeq2 MeetsSeq3 SeqRoads2 in
open AutoSeq1 (wpAny_loadPart') in
theorem contains_loopO {prog : Program} {w : World} {A : Around} {R : Result → Shared → Prop} {l : Addr} {items : Array Value} {x : Value} (P : Nat → Shared → Prop)
    (hl : ∀ i s, P i s → ∃ k, s.heap.get? l = some { cls := .type "list", data := .seq items k })
    (turn : ∀ (i : Nat) (h : i < items.size) (s : Shared), P i s → wpAny (model prog w) A.in1 (eqBool items[i] x) (fun b s' => if b = true then R (.ok (.ret (.bool true))) s' else P (i + 1) s') (fun e s' => R (.error e) s') s)
    (fin : ∀ s, P items.size s → R (.ok (.ret (.bool false))) s) (k : Nat) :
    ∀ i : Nat, items.size - i = k → i ≤ items.size → ∀ s, P i s → wpAny (model prog w) A.in1 (Builtin.«list.__contains__.loop» ⟨[.ref l, x, rawInt i], []⟩) (FinOf prog w A R) (fun e s' => R (.error e) s') s := by
  induction k with
  | zero =>
    intro i hk hi s h
    obtain ⟨k, hl1⟩ := hl i s h
    have e : i = items.size := by omega
    have q := fin s (e ▸ h)
    obtain ⟨hp, g, d, tk, os⟩ := s
    wp_walk using wpAny_loadPart' hl1
    have hi1 : items[((i : Nat) : Int).toNat]? = none := by simp; omega
    rw [hi1]
    wp_walk
    exact q
  | succ k ih =>
    intro i hk hi s h
    obtain ⟨k1, hl1⟩ := hl i s h
    have hlt : i < items.size := by omega
    have ht := turn i hlt s h
    obtain ⟨hp, g, d, tk, os⟩ := s
    wp_walk using wpAny_loadPart' hl1
    have hi1 : items[((i : Nat) : Int).toNat]? = some items[i] := by simp [hlt]
    rw [hi1]
    refine wpAny_bind (wpAny_mono ht (fun b s2 h2 => ?_) fun _ _ z => z)
    cases b with
    | true =>
      rw [if_pos rfl] at h2
      wp_walk
      exact h2
    | false =>
      rw [if_neg (by decide)] at h2
      have hrec := ih (i + 1) (by omega) (by omega) s2 h2
      obtain ⟨hp2, g2, d2, tk2, os2⟩ := s2
      have hc : ((i : Int) + 1) = ((i + 1 : Nat) : Int) := by omega
      wp_walk
      rw [hc]
      exact ⟨plainId_quiet plain_contains_loop _, codeAny_builtin entry_contains_loop (by
        rw [Around.under_plainId plain_contains_loop _]
        exact hrec)⟩
open GQ MeetsSeq MeetsSeq2 MeetsSeq3 SeqRoads2 in
open AutoSeq1 (wpAny_loadPart') in
theorem containsO {prog : Program} {w : World} {A : Around} {R : Result → Shared → Prop} {s : Shared} {l : Addr} {items : Array Value} {x : Value} (P : Nat → Shared → Prop)
    (hl : ∀ i s, P i s → ∃ k, s.heap.get? l = some { cls := .type "list", data := .seq items k })
    (turn : ∀ (i : Nat) (h : i < items.size) (s : Shared), P i s → wpAny (model prog w) A.in1 (eqBool items[i] x) (fun b s' => if b = true then R (.ok (.ret (.bool true))) s' else P (i + 1) s') (fun e s' => R (.error e) s') s)
    (fin : ∀ s, P items.size s → R (.ok (.ret (.bool false))) s) (h : P 0 s) :
    wpAny (model prog w) A.in1 (Builtin.«list.__contains__» ⟨[.ref l, x], []⟩) (FinOf prog w A R) (fun e s' => R (.error e) s') s := by
  have hrec := contains_loopO (A := A) (R := R) P hl turn fin _ 0 rfl (Nat.zero_le _) s h
  obtain ⟨k, hl1⟩ := hl 0 s h
  obtain ⟨hp, g, d, tk, os⟩ := s
  wp_walk using wpAny_loadPart' hl1
  exact ⟨plainId_quiet plain_contains_loop _, codeAny_builtin entry_contains_loop (by
    rw [Around.under_plainId plain_contains_loop _]
    exact hrec)⟩
/-- x in [y]: both of one class -/
def rInO (C : Addr) (sp : Sp) (g : Bool → Bool) : R2 := fun x y H Q => ∃ a dx fs l b dy gs, x = V.ref a ∧ y = V.ref l ∧ H l = some (.lst [.ref b]) ∧ H a = some (.ins C dx fs) ∧ H b = some (.ins C dy gs) ∧ (a = b → Q (.bl (g true)) H) ∧
  (a ≠ b → sp [.ref b, .ref a] H (fun v H' => ∃ c, v = .bl c ∧ H' l = some (.lst [.ref b]) ∧ Q (.bl (g c)) H') E0)
theorem op_inO' (F : FnOk X.prog X.w X.K X.mg X.base CX0 n f fd ps sp) (hb : Binds X.K fd ps []) (m : Meth X.K C "__eq__" f) (hr : Room (n + 1) X.A) {g : Bool → Bool} {pins : List (Addr × Obj)} {s : Shared} {σ : L2.St} {H : Hp} {x y : V} {v u : Value} {Q : VK} (I : L2.Inv X pins σ H s) (rx : RelV x v) (ry : RelV y u) (h : rInO C sp g x y H Q) :
    wpAny (model X.prog X.w) X.A (contains u v) (fun b s' => EP X pins σ Q (.bool (g b)) s') X.xe s := by
  obtain ⟨a, dx, fs, l, b, dy, gs, rfl, rfl, hl, ha, hb', q1, q2⟩ := h
  cases rx
  cases ry
  obtain ⟨z, its, k, r, ho⟩ := I.hok l _ hl
  obtain ⟨u, rfl, ru⟩ := vals1 r
  obtain rfl : u = Value.ref b := ru
  refine wpAny_contains_slot ⟨_, ho, rfl⟩ PySem.F.slot_list_contains (wpAny_mono (GQ.call_here PySem.F.slot_list_contains ⟨_, ho, rfl⟩ PySem.F.entry_list_contains (PySem.F.args_list_contains_2 _ _)
    (containsO (R := wants (fun v s' => ∃ c, v = .bool c ∧ EP X pins σ Q (.bool (g c)) s') X.xe) (items := #[.ref b]) (fun i s' => (i = 0 ∧ s' = s) ∨ (i = 1 ∧ ∃ H', L2.Inv X pins σ H' s' ∧ H' l = some (.lst [.ref b]) ∧ Q (.bl (g false)) H')) (fun i s' h => ?_) (fun i hi s' h => ?_) (fun s' h => ?_) (.inl ⟨rfl, rfl⟩))) (fun v s' hv => ?_) fun _ _ e => e)
  · rcases h with ⟨rfl, rfl⟩ | ⟨rfl, H', I', hl', _⟩
    · exact ⟨k, ho⟩
    · obtain ⟨z', its', k', r', ho'⟩ := I'.hok l _ hl'
      obtain ⟨u, rfl, ru⟩ := vals1 r'
      obtain rfl : u = Value.ref b := ru
      exact ⟨k', ho'⟩
  · have e0 : i = 0 := by simp at hi; omega
    subst e0
    rcases h with ⟨_, rfl⟩ | ⟨e, _⟩
    · show wpAny (model X.prog X.w) X.A.in1 (eqBool (.ref b) (.ref a)) _ _ _
      by_cases e : b = a
      · subst e
        refine SeqAt.EqAt.same (A := X.A.in1) (s := s') (.ref b) X.prog X.w _ _ ?_
        rw [if_pos rfl]
        exact ⟨_, rfl, .bl (g true), H, I, rfl, q1 rfl⟩
      · refine GQ.eqBool_refG e (wpAny_mono (rc_eqO F hb m (Sub.in1 ⟨hr, rfl⟩) I hb' ha (Q := fun c H' => H' l = some (.lst [.ref b]) ∧ Q (.bl (g c)) H') (q2 (Ne.symm e))) (fun v s2 hq => ?_) fun _ _ z => z)
        obtain ⟨c, rfl, H', I', hl', q⟩ := hq
        refine ⟨c, rfl, ?_⟩
        cases c with
        | true =>
          rw [if_pos rfl]
          exact ⟨_, rfl, .bl (g true), H', I', rfl, q⟩
        | false =>
          rw [if_neg (by decide)]
          exact .inr ⟨rfl, H', I', hl', q⟩
    · omega
  · rcases h with ⟨e, _⟩ | ⟨_, H', I', hl', q⟩
    · simp at e
    · exact ⟨_, rfl, .bl (g false), H', I', rfl, q⟩
  · obtain ⟨c, rfl, q⟩ := hv
    exact wpAny_truthy_bool q
theorem op_inO (F : FnOk X.prog X.w X.K X.mg X.base CX0 n f fd ps sp) (hb : Binds X.K fd ps []) (m : Meth X.K C "__eq__" f) (hr : Room (n + 1) X.A) : OpR X (compareOp .In) (rInO C sp id) := by
  intro pins s σ H x y v u Q I rx ry h
  show wpAny _ X.A (do return Value.bool (← contains u v)) _ _ s
  exact wpAny_bind (wpAny_mono (op_inO' F hb m hr I rx ry h) (fun b s' q => wpAny_pure q) fun _ _ z => z)
theorem op_notInO (F : FnOk X.prog X.w X.K X.mg X.base CX0 n f fd ps sp) (hb : Binds X.K fd ps []) (m : Meth X.K C "__eq__" f) (hr : Room (n + 1) X.A) : OpR X (compareOp .NotIn) (rInO C sp not) := by
  intro pins s σ H x y v u Q I rx ry h
  show wpAny _ X.A (do return Value.bool (!(← contains u v))) _ _ s
  exact wpAny_bind (wpAny_mono (op_inO' F hb m hr I rx ry h) (fun b s' q => wpAny_pure q) fun _ _ z => z)
end
end Wl

namespace Wl
open PySem PySem.Spec PyProof.Rows L2
def oD : Option Str → PyData
  | none => .none
  | some z => .str z
def rD (row : Row) : PyData := .tuple (row.map oD)
def gD (g : Grid) : PyData := .tuple (g.map rD)
theorem dp_row {K : PySem.W.Frag} {H : Hp} : ∀ row : Row, DpAll K H (row.map oV) (row.map oD)
  | [] => .nil
  | none :: r => .cons .non (dp_row r)
  | some z :: r => .cons (.str z) (dp_row r)
theorem dp_rows {K : PySem.W.Frag} {H : Hp} : ∀ {as : List Addr} {g : Grid}, RowsAt H as g → DpAll K H (as.map V.ref) (g.map rD)
  | _, _, .nil => .nil
  | _, _, .cons e t => .cons (.tup (.inl (.inl e)) (dp_row _)) (dp_rows t)
theorem dp_grid {K : PySem.W.Frag} {H : Hp} {L : Addr} {g : Grid} (h : GridAt H L g) : Dp K H (.ref L) (gD g) := by
  obtain ⟨as, hL, hR⟩ := h
  exact .tup (.inl (.inl hL)) (dp_rows hR)
theorem lay_row : ∀ {row : Row}, (∀ z ∈ rnames row, IsWd z) → PyData.canLayAll0 (row.map oD) = true
  | [], _ => by simp [PyData.canLayAll0]
  | none :: r, h => by simp [PyData.canLayAll0, oD, PyData.canLay0, lay_row (row := r) h]
  | some z :: r, h => by
    have h1 := wd_ok (h z (by simp [rnames]))
    have h2 := lay_row (row := r) fun y hy => h y (by simp only [rnames, List.filterMap_cons] at hy ⊢; exact List.mem_cons_of_mem _ hy)
    simp [PyData.canLayAll0, oD, PyData.canLay0, h1, h2]
theorem depth_row : ∀ row : Row, PyData.depthAll (row.map oD) = 0
  | [] => by simp [PyData.depthAll]
  | none :: r => by simp [PyData.depthAll, PyData.depth, oD, depth_row r]
  | some z :: r => by simp [PyData.depthAll, PyData.depth, oD, depth_row r]
theorem lay_grid : ∀ {g : Grid}, (∀ z ∈ names g, IsWd z) → PyData.canLayAll0 (g.map rD) = true
  | [], _ => by simp [PyData.canLayAll0]
  | r :: g, h => by
    rw [names_cons] at h
    have h1 := lay_row (row := r) fun z hz => h z (List.mem_append_left _ hz)
    have h2 := lay_grid (g := g) fun z hz => h z (List.mem_append_right _ hz)
    simp [PyData.canLayAll0, rD, PyData.canLay0, h1, h2]
theorem depth_grid : ∀ g : Grid, PyData.depthAll (g.map rD) ≤ 1
  | [] => by simp [PyData.depthAll]
  | r :: g => by
    have := depth_grid g
    have := depth_row r
    simp only [List.map_cons, PyData.depthAll, rD, PyData.depth]
    omega
theorem shaped_grid {g : Grid} {wd : Nat} (gd : Good g wd) : SeqAt.shaped (gD g) = true := shaped_tuple (lay_grid gd.wd) (by have := depth_grid g; omega)
theorem same_x {H0 H1 H2 : Hp} {a : Addr} (s : Same H0 H1) (x : SameX a H1 H2) (h : H0 a = none) : Same H0 H2 := fun b o e => x b o (ne_of_none e h) (s b o e)
theorem made_same {H1 H' : Hp} {x dx C : Addr} (nx : H1 x = none) (ndx : H1 dx = none) (h : ∀ b o, b ≠ x → (upd (upd H1 dx (.own x)) x (.ins C dx [])) b = some o → H' b = some o) : Same H1 H' := fun b o e => by
  have n1 : b ≠ x := ne_of_none e nx
  refine h b o n1 ?_
  rw [upd_ne n1, upd_ne (ne_of_none e ndx)]
  exact e

theorem o_eqv (a b : Option Str) : PyData.eqv (oD a) (oD b) = decide (a = b) := by
  cases a with
  | none => cases b <;> simp [oD, PyData.eqv]
  | some x =>
    cases b with
    | none => simp [oD, PyData.eqv]
    | some y =>
      simp only [oD, PyData.eqv, Option.some.injEq]
      by_cases h : x = y
      · subst h
        simp
      · rw [decide_eq_false h]
        exact beq_eq_false_iff_ne.mpr h
theorem row_eqv : ∀ r q : Row, PyData.eqvAll (r.map oD) (q.map oD) = decide (r = q)
  | [], [] => by simp [PyData.eqvAll]
  | [], _ :: _ => by simp [PyData.eqvAll]
  | _ :: _, [] => by simp [PyData.eqvAll]
  | o :: r, u :: q => by
    simp only [List.map_cons, PyData.eqvAll, o_eqv, row_eqv r q, List.cons.injEq]
    by_cases h1 : o = u <;> by_cases h2 : r = q <;> simp [h1, h2]
theorem rows_eqv : ∀ g g' : Grid, PyData.eqvAll (g.map rD) (g'.map rD) = decide (g = g')
  | [], [] => by simp [PyData.eqvAll]
  | [], _ :: _ => by simp [PyData.eqvAll]
  | _ :: _, [] => by simp [PyData.eqvAll]
  | r :: g, q :: g' => by
    simp only [List.map_cons, PyData.eqvAll, rD, PyData.eqv, row_eqv, rows_eqv g g', List.cons.injEq]
    by_cases h1 : r = q <;> by_cases h2 : g = g' <;> simp [h1, h2]
theorem grid_eqv (g g' : Grid) : PyData.eqv (gD g) (gD g') = decide (g = g') := by
  unfold gD
  simp only [PyData.eqv, rows_eqv]
/-- what the class says of itself, for isinstance and != -/
structure Txt2 (K : PySem.W.Frag) (mg : Str → Option Value) (C : Addr) : Prop where
  t : Txt K mg C
  ins : C8.InsC K C
  ne : NeC K C
theorem fs_no {m : Str} {d L : Addr} (h1 : ¬ m = "rows" := by decide +kernel) (h2 : ¬ m = "spots" := by decide +kernel) : (lf d L).lookup m = none := lf_no d L h1 h2
abbrev sEq : Stmt := inClass sCls 6
abbrev sLen : Stmt := inClass sCls 7
abbrev sStr : Stmt := inClass sCls 8
abbrev sRepr : Stmt := inClass sCls 9
section
variable {P : Program} {w : World} {K : PySem.W.Frag} {mg : Str → Option Value} {base : Heap} {f C : Addr} {fd : FuncData}
theorem LandAt.ins {H : Hp} {p L : Addr} {g : Grid} (h : LandAt C H p L g) : ∃ dx d, H p = some (.ins C dx (lf d L)) := by
  obtain ⟨d, dx, h1, _⟩ := h
  exact ⟨dx, d, h1⟩
theorem LandAt.grid {H : Hp} {p L : Addr} {g : Grid} (h : LandAt C H p L g) : GridAt H L g := by
  obtain ⟨d, dx, _, _, h3⟩ := h
  exact h3
theorem LandAt.same {H H' : Hp} {p L : Addr} {g : Grid} (h : LandAt C H p L g) (s : Same H H') : LandAt C H' p L g := h.keep (kp_same s)
/-! ### == -/
def spLEq (C : Addr) : Sp := fun vs H Q _ => ∃ (p L q M : Addr) (g g' : Grid) (wd wd' : Nat), vs = [.ref p, .ref q] ∧ LandAt C H p L g ∧ Good g wd ∧ LandAt C H q M g' ∧ Good g' wd' ∧ Q (.bl (decide (g = g'))) H
theorem scEq : FnScope ["self", "other"] ["self", "other"] (defScope sEq) := ⟨rfl, rfl, rfl, by decide +kernel, rfl, by decide +kernel, by decide +kernel⟩
theorem ok_leq (F : Fun K "__eq__" "Land.__eq__" sEq f fd) (B : Bi mg) (T : Txt2 K mg C) : FnOk P w K mg base CX0 1 f fd ["self", "other"] (spLEq C) := by
  refine F.ok scEq (fun vs H Q E h => ?_) (fun cdv A outer s H vs Q E hr h => ?_)
  · obtain ⟨p, L, q, M, g, g', wd, wd', rfl, _⟩ := h
    rfl
  · obtain ⟨p, L, q, M, g, g', wd, wd', rfl, h1, gd, h2, gd', qq⟩ := h
    refine ⟨_, pss_one (ps_ret (pe_and (pe_callB (C8.call_isC (C := C) T.ins) (by rfl) B.isi (by decide +kernel) (pa_cons (pv 1) (pa_cons (pe_glob (v := .ref C) rfl T.t.mgC rfl) pa_nil))) (pe_one (pe_cmpR (op_eqD hr.units) (pe_fld (pv 0) rfl) (pe_fld (pv 1) rfl) (nomark _))))), ?_⟩
    obtain ⟨dx, d, i1⟩ := h1.ins
    obtain ⟨dy, e, i2⟩ := h2.ins
    refine ⟨_, rfl, q, dy, _, rfl, i2, true, rfl, iteT ⟨_, rfl, p, C, dx, _, _, rfl, i1, T.t.cl, T.t.nR, lf_rows _ _, _, rfl, q, C, dy, _, _, rfl, i2, T.t.cl, T.t.nR, lf_rows _ _, _, _, dp_grid h1.grid, dp_grid h2.grid, shaped_grid gd, shaped_grid gd', ?_⟩⟩
    rw [grid_eqv]
    exact qq
/-! ### len -/
def spLLen (C : Addr) : Sp := fun vs H Q _ => ∃ (p L : Addr) (g : Grid), vs = [.ref p] ∧ LandAt C H p L g ∧ Q (.int (names g).length) H
theorem scLen : FnScope ["self"] ["self"] (defScope sLen) := ⟨rfl, rfl, rfl, by decide +kernel, rfl, by decide +kernel, by decide +kernel⟩
theorem ok_llen (F : Fun K "__len__" "Land.__len__" sLen f fd) (B : Bi mg) (T : Txt K mg C) : FnOk P w K mg base CX0 1 f fd ["self"] (spLLen C) := by
  refine F.ok scLen (fun vs H Q E h => ?_) (fun cdv A outer s H vs Q E hr h => ?_)
  · obtain ⟨p, L, g, rfl, _⟩ := h
    rfl
  · obtain ⟨p, L, g, rfl, ⟨d, dx, i1, ⟨kvs, hk, he⟩, _⟩, q⟩ := h
    refine ⟨_, pss_one (ps_ret (pe_callB call_lenD (by rfl) B.len PySem.boot_len (pa_cons (pe_fld (pv 0) rfl) pa_nil))), ?_⟩
    refine ⟨_, rfl, p, C, dx, _, _, rfl, i1, T.cl, T.nS, lf_spots _ _, d, kvs, rfl, hk, ?_⟩
    have : kvs.length = (names g).length := by
      rw [he.length, ← spG_fst g 0, List.length_map]
    rw [this]
    exact q
/-! ### repr -/
def reprS (n : Nat) : Str := ("Land(" : Str) ++ (toString (n : Int) : String) ++ (")" : Str)
def spLRepr (C : Addr) : Sp := fun vs H Q _ => ∃ (p L : Addr) (g : Grid), vs = [.ref p] ∧ LandAt C H p L g ∧ (names g).length ≤ 36 ∧ Q (.str (reprS (names g).length)) H
theorem scRepr : FnScope ["self"] ["self"] (defScope sRepr) := ⟨rfl, rfl, rfl, by decide +kernel, rfl, by decide +kernel, by decide +kernel⟩
theorem dig_len {n : Nat} (h : n ≤ 36) : ((toString (n : Int) : String) : Str).length ≤ 2 := by
  have : ∀ k : Fin 37, ((toString ((k.val : Nat) : Int) : String) : Str).length ≤ 2 := by decide +kernel
  exact this ⟨n, by omega⟩
theorem str_n (n : Nat) (h : n ≤ 36) : (((n : Nat) : Int).natAbs).log2 < 1920 := by
  have : ((n : Nat) : Int).natAbs = n := Int.natAbs_natCast n
  rw [this]
  have h2 : n.log2 ≤ n := Nat.log2_le_self n
  omega
theorem ok_lrepr (F : Fun K "__repr__" "Land.__repr__" sRepr f fd) (B : Bi mg) (T : Txt K mg C) : FnOk P w K mg base CX0 1 f fd ["self"] (spLRepr C) := by
  refine F.ok scRepr (fun vs H Q E h => ?_) (fun cdv A outer s H vs Q E hr h => ?_)
  · obtain ⟨p, L, g, rfl, _⟩ := h
    rfl
  · obtain ⟨p, L, g, rfl, ⟨d, dx, i1, ⟨kvs, hk, he⟩, _⟩, h36, q⟩ := h
    refine ⟨_, pss_one (ps_ret (pe_joined (.cons pe_str (.cons (pe_fmt (pe_callB call_lenD (by rfl) B.len PySem.boot_len (pa_cons (pe_fld (pv 0) rfl) pa_nil))) (.cons pe_str .nil))))), ?_⟩
    have ek : kvs.length = (names g).length := by
      rw [he.length, ← spG_fst g 0, List.length_map]
    refine ⟨_, rfl, by decide +kernel, _, rfl, p, C, dx, _, _, rfl, i1, T.cl, T.nS, lf_spots _ _, d, kvs, rfl, hk, .inr ⟨_, rfl, ?_, _, rfl, ?_, _, rfl, ?_, ?_⟩⟩
    · rw [ek]
      exact str_n _ h36
    · rw [ek]
      exact lzl (by rw [add_len, add_len]; have := dig_len h36; have : (Str.empty).length = 0 := rfl; have : ("Land(" : Str).length = 5 := (by decide +kernel); omega)
    · rw [ek]
      exact lzl (by rw [add_len, add_len, add_len]; have := dig_len h36; have : (Str.empty).length = 0 := rfl; have : ("Land(" : Str).length = 5 := (by decide +kernel); have : (")" : Str).length = 1 := (by decide +kernel); omega)
    · have e0 : (Str.empty ++ ("Land(" : Str)) = ("Land(" : Str) := by decide +kernel
      rw [ek]
      show Q (.str (Str.empty ++ ("Land(" : Str) ++ _ ++ (")" : Str))) H
      rw [e0]
      exact q
/-! ### str -/
def showV : V → V
  | .non => .str "-"
  | v => v
theorem sum_len {m : Nat} : ∀ {l : List Str}, (∀ z ∈ l, z.length ≤ m) → (l.map (·.length)).sum ≤ l.length * m
  | [], _ => by simp
  | z :: r, h => by
    have h1 := h z List.mem_cons_self
    have h2 := sum_len (m := m) (l := r) fun y hy => h y (List.mem_cons_of_mem _ hy)
    rw [List.map_cons, List.sum_cons, List.length_cons, Nat.succ_mul]
    omega
theorem oV_inj {o u : Option Str} (h : oV o = oV u) : o = u := by
  cases o with
  | none =>
    cases u with
    | none => rfl
    | some z => cases h
  | some y =>
    cases u with
    | none => cases h
    | some z =>
      cases h
      rfl
theorem map_oV_inj : ∀ {r q : Row}, r.map oV = q.map oV → r = q
  | [], [], _ => rfl
  | [], _ :: _, e => by simp at e
  | _ :: _, [], e => by simp at e
  | o :: r, u :: q, e => by
    simp only [List.map_cons, List.cons.injEq] at e
    rw [oV_inj e.1, map_oV_inj e.2]
theorem lines_of {H : Hp} : ∀ {as : List Addr} {g : Grid} {zs : List V}, RowsAt H as g → Each (fun (x z : V) => ∀ (pr : Addr) (row : Row), x = .ref pr → H pr = some (.tup (row.map oV)) → z = .str (lineS row)) (as.map V.ref) zs → zs = (g.map lineS).map V.str
  | [], [], [], _, _ => rfl
  | [], [], _ :: _, _, h => nomatch h
  | [], _ :: _, _, h, _ => nomatch h
  | _ :: _, [], _, h, _ => nomatch h
  | _ :: _, _ :: _, [], _, h => nomatch h
  | a :: as, r :: g, z :: zs, .cons e t, .cons e' t' => by
    rw [e' a r rfl e, lines_of t t']
    rfl
def spLStr (C : Addr) : Sp := fun vs H Q _ => ∃ (p L : Addr) (g : Grid) (wd : Nat), vs = [.ref p] ∧ LandAt C H p L g ∧ Good g wd ∧ ∀ (H' : Hp), Same H H' → Q (.str (landS g)) H'
abbrev nStr : List Str := ["self", "row", "part"]
theorem scStr : FnScope nStr ["self"] (defScope sStr) := ⟨rfl, rfl, rfl, by decide +kernel, rfl, by decide +kernel, by decide +kernel⟩
theorem ok_lstr (F : Fun K "__str__" "Land.__str__" sStr f fd) (T : Txt K mg C) (hlk : ∃ t, mg "LAKE" = some (.str "-" t)) : FnOk P w K mg base CX0 1 f fd ["self"] (spLStr C) := by
  obtain ⟨tl, gl⟩ := hlk
  refine F.ok scStr (fun vs H Q E h => ?_) (fun cdv A outer s H vs Q E hr h => ?_)
  · obtain ⟨p, L, g, wd, rfl, _⟩ := h
    rfl
  · obtain ⟨p, L, g, wd, rfl, ⟨d, dx, i1, _, as, hL, hR⟩, gd, q⟩ := h
    refine ⟨_, pss_one (ps_ret (pe_join pe_str (pe_lc (own := [("row", 1)]) (g := gName 1) (tt := tYes) (te := tM1 (fun x xs H Q => ∃ a p, ∃ ys : List Str, x = .str a ∧ xs = [.ref p] ∧ (SqL K H p (ys.map V.str) ∨ SqT K H p (ys.map V.str)) ∧ (ys.map (·.length)).sum + ys.length * a.length ≤ 16777216 ∧ Q (.str (Txt.join a ys)) H) (tC (.str " ")) (tLc (iTup K (tVar 1)) (gName 2) tYes (tIf (tB (tIsN (tVar 2))) (tC (.str "-")) (tVar 2)) [2])) rfl scStr.nd (pi_tup (pe_fld (pv 0) rfl)) (blkOk_by (N := nStr) (sc := defScope sStr) (by decide +kernel)) (fun _ _ _ _ _ => pg_name (i := 1) scStr.nd rfl (.inl rfl)) (fun _ _ _ _ _ => pts_nil)
      (fun _ _ _ _ _ => pe_join pe_str (pe_lc (own := [("part", 2)]) (g := gName 2) (tt := tYes) rfl scStr.nd (pi_tup (pv 1)) (blkOk_by (N := nStr) (sc := { kind := .function, names := [(".0", .local), ("row", .local)], isGenerator := false, isCoroutine := false }) (by decide +kernel)) (fun _ _ _ _ _ => pg_name (i := 2) scStr.nd rfl (.inl rfl)) (fun _ _ _ _ _ => pts_nil) (fun _ _ _ _ _ => pe_ifExp (pt_cmp (pc_isN (pv 2))) (pe_glob (v := .str "-") (by rfl) gl ⟨_, rfl⟩) (pv 2))))))), ?_⟩
    refine ⟨⟨_, rfl⟩, _, rfl, p, C, dx, _, _, rfl, i1, T.cl, T.nR, lf_rows _ _, L, rfl, ⟨_, .inl (.inl hL)⟩, fun D hD => ?_⟩
    have h6 : as.length ≤ 6 := by rw [hR.length]; exact gd.h6
    refine lc_rel (walk_tup (K := K) (a := L) (xs := as.map V.ref)) hD (fun _ => true) (fun x y _ => ∀ (pr : Addr) (row : Row), x = .ref pr → H pr = some (.tup (row.map oV)) → y = .str (lineS row)) (fun H' s' => .inl (.inl (s' _ _ hL))) (fun _ => rfl) (fun x H' _ _ Q' q' => q') ?_ (fun _ _ _ _ _ _ _ r => r) ?_ ?_
    · intro x H' hx _ s' Q' q'
      obtain ⟨pr, hpr, rfl⟩ := List.mem_map.mp hx
      obtain ⟨i, hi, ei⟩ := List.mem_iff_getElem.mp hpr
      obtain ⟨row, hrow, hH⟩ := hR.get (i := i) (a := pr) (by rw [List.getElem?_eq_getElem hi, ei])
      have hrm := List.mem_of_getElem? hrow
      have hr6 : row.length ≤ 6 := gd.six row hrm
      refine ⟨⟨_, rfl⟩, _, rfl, pr, rfl, ⟨_, .inl (.inl (s' _ _ hH))⟩, fun D2 hD2 => ?_⟩
      refine lc_map (walk_tup (K := K) (a := pr) (xs := row.map oV)) hD2 (fun _ => true) showV (fun H2 s2 => .inl (.inl (s2 _ _ (s' _ _ hH)))) (fun _ => rfl) (fun x H' _ _ Q' q' => q') ?_ ?_ ?_
      · intro x H2 hx2 _ _ Q2 q2
        obtain ⟨o, _, rfl⟩ := List.mem_map.mp hx2
        refine ⟨_, rfl, _, rfl, ?_⟩
        cases o with
        | none => exact iteT q2
        | some z => exact iteF ⟨_, rfl, q2⟩
      · rw [List.length_map]
        exact small1000 (by omega)
      · intro H2 s2 hD3
        have e1 : ((row.map oV).filter fun _ => true).map showV = (row.map partS).map V.str := by
          rw [List.filter_eq_self.mpr fun _ _ => rfl, List.map_map, List.map_map]
          refine List.map_congr_left fun o _ => ?_
          cases o <;> rfl
        rw [e1] at hD3
        refine ⟨_, D2, row.map partS, rfl, rfl, .inl (.inl (.inl hD3)), ?_, q' _ H2 s2 fun pr2 row2 e2 h2 => ?_⟩
        · have := sum_len (l := row.map partS) (m := 8) fun z hz => by
            obtain ⟨o, ho, rfl⟩ := List.mem_map.mp hz
            rw [TL.len_tl]
            exact (part_tl (gd.parts row hrm o ho)).1
          rw [List.length_map] at this ⊢
          have e : (" " : Str).length = 1 := by decide +kernel
          rw [e]
          omega
        · obtain rfl : pr = pr2 := V.ref.inj e2
          rw [hH] at h2
          have : row = row2 := map_oV_inj (HO.tup.inj (Option.some.inj h2))
          rw [← this]
          rfl
    · rw [List.length_map]
      exact small1000 (by omega)
    · intro zs H1 s1 hD1 he
      rw [List.filter_eq_self.mpr fun _ _ => rfl] at he
      have e1 : zs = (g.map lineS).map V.str := lines_of hR he
      rw [e1] at hD1
      refine ⟨_, D, g.map lineS, rfl, rfl, .inl (.inl (.inl hD1)), ?_, q H1 s1⟩
      have := sum_len (l := g.map lineS) (m := 54) fun z hz => by
        obtain ⟨r, hr', rfl⟩ := List.mem_map.mp hz
        exact line_len (gd.parts r hr') (gd.six r hr')
      rw [List.length_map] at this ⊢
      have e : ("\n" : Str).length = 1 := by decide +kernel
      have := gd.h6
      rw [e]
      omega
end
end Wl




namespace Wl
open PySem PySem.Spec PyProof.Rows L2
abbrev sIsWhole : Stmt := topS 29
abbrev sIsNum : Stmt := topS 30
abbrev sCheckW : Stmt := topS 32
abbrev sCheckA : Stmt := topS 56
abbrev sCheckS : Stmt := topS 57
abbrev sKeyOf : Stmt := topS 58
abbrev sGat : Stmt := topS 60
abbrev sGInit : Stmt := inClass sGat 0
abbrev sGPlace : Stmt := inClass sGat 1
abbrev sGPut : Stmt := inClass sGat 2
/-- what was told -/
structure Tel where
  v : Str
  th : Str
  wo : Str
  tl : Str
  age : Nat
  g : Str
  sure : Bool
deriving DecidableEq
def telV (t : Tel) : List V := [.str t.v, .str t.th, .str t.wo, .str t.tl, .int (t.age : Int), .str t.g, .bl t.sure]
def keyV (t : Tel) : List V := [.str t.v, .str t.tl, .str t.th, .str t.g]
structure OkT (t : Tel) : Prop where
  v : IsWd t.v
  th : IsWd t.th
  wo : IsWd t.wo
  tl : IsWd t.tl
  age : t.age ≤ 120
  g : IsWd t.g
def TelsAt (H : Hp) (as : List Addr) (ts : List Tel) : Prop := Each (fun (p : Addr) (t : Tel) => H p = some (.tup (telV t))) as ts
theorem TelsAt.keep {H H' : Hp} {as : List Addr} {ts : List Tel} (h : TelsAt H as ts) (k : TupKeep H H') : TelsAt H' as ts := Each.mono (fun p t e => k p _ e) h
section
variable {P : Program} {w : World} {K : PySem.W.Frag} {mg : Str → Option Value} {base : Heap} {f C : Addr} {fd : FuncData}
structure Bg (mg : Str → Option Value) : Prop where
  bool : mg "bool" = none
  oldest : ∃ t, mg "OLDEST" = some (.int 120 t)
  most : ∃ t, mg "MOST_TELLINGS" = some (.int 200 t)
  dot : ∃ t, mg "DOT" = some (.str "." t)
  doubt : ∃ t, mg "DOUBT" = some (.str "?" t)
/-! ### is_whole, is_number_from -/
def spIsWhole : Sp := fun vs H Q _ => ∃ (n : Int), vs = [.int n] ∧ Q (.bl true) H
theorem scIsWhole : FnScope ["thing"] ["thing"] (defScope sIsWhole) := ⟨rfl, rfl, rfl, by decide +kernel, rfl, by decide +kernel, by decide +kernel⟩
theorem ok_iswhole (F : Fun K "is_whole" "is_whole" sIsWhole f fd) (B : Bi mg) (B2 : Bg mg) : FnOk P w K mg base CX0 1 f fd ["thing"] spIsWhole := by
  refine F.ok scIsWhole (fun vs H Q E h => ?_) (fun cdv A outer s H vs Q E hr h => ?_)
  · obtain ⟨n, rfl, _⟩ := h
    rfl
  · obtain ⟨n, rfl, q⟩ := h
    refine ⟨_, pss_one (ps_ret (pe_and (pe_callB call_isi (by rfl) B.isi (by decide +kernel) (pa_cons (pv 0) (pa_cons (pe_bltn (v := .ty "int") (by rfl) B.int (by decide +kernel) rfl) pa_nil)))
      (pe_one (pe_not (pe_callB call_isi (by rfl) B.isi (by decide +kernel) (pa_cons (pv 0) (pa_cons (pe_bltn (v := .ty "bool") (by rfl) B2.bool (by decide +kernel) rfl) pa_nil))))))), ?_⟩
    refine ⟨_, rfl, _, _, _, _, _, rfl, .ty "int", .base (.int n), kit_ty (r := true) (by decide +kernel), true, rfl, iteT ?_⟩
    exact ⟨_, rfl, _, _, _, _, _, rfl, .ty "bool", .base (.int n), kit_ty (r := false) (by decide +kernel), false, rfl, q⟩
def spIsNum : Sp := fun vs H Q _ => ∃ (n lo hi : Int), vs = [.int n, .int lo, .int hi] ∧ lo ≤ n ∧ n ≤ hi ∧ Q (.bl true) H
theorem scIsNum : FnScope ["thing", "least", "most"] ["thing", "least", "most"] (defScope sIsNum) := ⟨rfl, rfl, rfl, by decide +kernel, rfl, by decide +kernel, by decide +kernel⟩
theorem ok_isnum (F : Fun K "is_number_from" "is_number_from" sIsNum f fd) (hI : Has P w K mg base "is_whole" 1 ["thing"] spIsWhole) : FnOk P w K mg base CX0 2 f fd ["thing", "least", "most"] spIsNum := by
  refine F.ok scIsNum (fun vs H Q E h => ?_) (fun cdv A outer s H vs Q E hr h => ?_)
  · obtain ⟨n, lo, hi, rfl, _⟩ := h
    rfl
  · obtain ⟨n, lo, hi, rfl, h1, h2, q⟩ := h
    refine ⟨_, pss_one (ps_ret (pe_and (pe_h hI hr (pa_cons (pv 0) pa_nil)) (pe_one (pe_chain op_le op_le (pv 1) (pv 0) (pv 2))))), ?_⟩
    refine ⟨_, rfl, n, rfl, true, rfl, iteT ?_⟩
    refine ⟨_, rfl, _, rfl, _, _, rfl, rfl, _, rfl, ?_⟩
    rw [decide_eq_true h1]
    refine iteT ⟨_, rfl, _, _, rfl, rfl, ?_⟩
    show Q (.bl (decide (n ≤ hi))) H
    rw [decide_eq_true h2]
    exact q
/-! ### check_word -/
/-! ### check_age -/
def spCheckA : Sp := fun vs H Q _ => ∃ (n : Nat), vs = [.int (n : Int)] ∧ n ≤ 120 ∧ Q .non H
theorem scCheckA : FnScope ["age"] ["age"] (defScope sCheckA) := ⟨rfl, rfl, rfl, by decide +kernel, rfl, by decide +kernel, by decide +kernel⟩
theorem ok_checka (F : Fun K "check_age" "check_age" sCheckA f fd) (B2 : Bg mg) (hI : Has P w K mg base "is_number_from" 2 ["thing", "least", "most"] spIsNum) : FnOk P w K mg base CX0 3 f fd ["age"] spCheckA := by
  obtain ⟨t, gt⟩ := B2.oldest
  refine F.ok scCheckA (fun vs H Q E h => ?_) (fun cdv A outer s H vs Q E hr h => ?_)
  · obtain ⟨z, rfl, _⟩ := h
    rfl
  · obtain ⟨n, rfl, hn, q⟩ := h
    refine ⟨_, pss_one (ps_if (pt_not (pt_val (pe_h hI hr (pa_cons (pv 0) (pa_cons pe_int (pa_cons (pe_glob (v := .int 120) rfl gt ⟨_, rfl⟩) pa_nil)))))) (pss_one ps_never) pss_nil), ?_⟩
    exact ⟨_, rfl, n, 0, 120, rfl, by omega, by omega, true, rfl, iteF q⟩
/-! ### check_sure -/
def spCheckS : Sp := fun vs H Q _ => ∃ (b : Bool), vs = [.bl b] ∧ Q .non H
theorem scCheckS : FnScope ["sure"] ["sure"] (defScope sCheckS) := ⟨rfl, rfl, rfl, by decide +kernel, rfl, by decide +kernel, by decide +kernel⟩
theorem ok_checks (F : Fun K "check_sure" "check_sure" sCheckS f fd) (B : Bi mg) (B2 : Bg mg) : FnOk P w K mg base CX0 1 f fd ["sure"] spCheckS := by
  refine F.ok scCheckS (fun vs H Q E h => ?_) (fun cdv A outer s H vs Q E hr h => ?_)
  · obtain ⟨z, rfl, _⟩ := h
    rfl
  · obtain ⟨b, rfl, q⟩ := h
    refine ⟨_, pss_one (ps_if (pt_not (pt_val (pe_callB call_isi (by rfl) B.isi (by decide +kernel) (pa_cons (pv 0) (pa_cons (pe_bltn (v := .ty "bool") (by rfl) B2.bool (by decide +kernel) rfl) pa_nil))))) (pss_one ps_never) pss_nil), ?_⟩
    exact ⟨_, rfl, _, _, _, _, _, rfl, .ty "bool", .base (.bl b), kit_ty (r := true) (by decide +kernel), true, rfl, iteF q⟩
/-! ### key_of -/
def spKeyOf : Sp := fun vs H Q _ => ∃ (p : Addr) (t : Tel), vs = [.ref p] ∧ H p = some (.tup (telV t)) ∧ ∀ u, H u = none → Q (.ref u) (upd H u (.tup (keyV t)))
theorem scKeyOf : FnScope ["telling"] ["telling"] (defScope sKeyOf) := ⟨rfl, rfl, rfl, by decide +kernel, rfl, by decide +kernel, by decide +kernel⟩
theorem ok_keyof (F : Fun K "key_of" "key_of" sKeyOf f fd) : FnOk P w K mg base CX0 1 f fd ["telling"] spKeyOf := by
  refine F.ok scKeyOf (fun vs H Q E h => ?_) (fun cdv A outer s H vs Q E hr h => ?_)
  · obtain ⟨p, t, rfl, _⟩ := h
    rfl
  · obtain ⟨p, t, rfl, hp, q⟩ := h
    refine ⟨_, pss_one (ps_ret (pe_tup (pa_cons (pe_ix ix_tup (pv 0) pe_int (fun _ _ => rfl)) (pa_cons (pe_ix ix_tup (pv 0) pe_int (fun _ _ => rfl)) (pa_cons (pe_ix ix_tup (pv 0) pe_int (fun _ _ => rfl)) (pa_cons (pe_ix ix_tup (pv 0) pe_int (fun _ _ => rfl)) pa_nil)))))), ?_⟩
    refine ⟨_, rfl, p, _, _, _, rfl, rfl, .inl (.inl hp), atI_nat (j := 0) rfl, _, rfl, p, _, _, _, rfl, rfl, .inl (.inl hp), atI_nat (j := 3) rfl, _, rfl, p, _, _, _, rfl, rfl, .inl (.inl hp), atI_nat (j := 1) rfl, _, rfl, p, _, _, _, rfl, rfl, .inl (.inl hp), atI_nat (j := 5) rfl, lz, fun u hu => q u hu⟩
end
end Wl




namespace Wl
open PySem PySem.Spec PyProof.Rows L2
/-! A Gathering on the heap. -/
def gf (l t d : Addr) : List (Str × V) := putF "deeds" (.ref d) (putF "told" (.ref t) (putF "land" (.ref l) []))
theorem gf_land (l t d : Addr) : (gf l t d).lookup ("land" : Str) = some (.ref l) := by
  unfold gf
  rw [lookup_putF, if_neg (by decide +kernel), lookup_putF, if_neg (by decide +kernel), lookup_putF, if_pos rfl]
theorem gf_told (l t d : Addr) : (gf l t d).lookup ("told" : Str) = some (.ref t) := by
  unfold gf
  rw [lookup_putF, if_neg (by decide +kernel), lookup_putF, if_pos rfl]
theorem gf_deeds (l t d : Addr) : (gf l t d).lookup ("deeds" : Str) = some (.ref d) := by
  unfold gf
  rw [lookup_putF, if_pos rfl]
theorem gf_no (l t d : Addr) {m : Str} (h1 : ¬ m = "deeds" := by decide +kernel) (h2 : ¬ m = "told" := by decide +kernel) (h3 : ¬ m = "land" := by decide +kernel) : (gf l t d).lookup m = none := by
  unfold gf
  rw [lookup_putF, if_neg h1, lookup_putF, if_neg h2, lookup_putF, if_neg h3]
  rfl
structure GR where
  pl : Addr
  L : Addr
  td : Addr
  dd : Addr
  g : Grid
  as : List Addr
  ts : List Tel
  ds : List V
structure GatAt (C D : Addr) (H : Hp) (p : Addr) (r : GR) : Prop where
  at_ : ∃ dx, H p = some (.ins D dx (gf r.pl r.td r.dd))
  land : LandAt C H r.pl r.L r.g
  told : H r.td = some (.lst (r.as.map V.ref))
  tels : TelsAt H r.as r.ts
  deeds : H r.dd = some (.lst r.ds)
  ne : r.td ≠ r.dd
theorem GatAt.same {C D : Addr} {H H' : Hp} {p : Addr} {r : GR} (h : GatAt C D H p r) (s : Same H H') : GatAt C D H' p r :=
  ⟨let ⟨dx, e⟩ := h.at_; ⟨dx, s _ _ e⟩, h.land.keep (kp_same s), s _ _ h.told, h.tels.keep (tk_same s), s _ _ h.deeds, h.ne⟩
/-- all but what stands at a and b is as it was -/
def Same2 (a b : Addr) (H H' : Hp) : Prop := ∀ c o, c ≠ a → c ≠ b → H c = some o → H' c = some o
theorem Same2.of {a b : Addr} {H H' : Hp} (s : Same H H') : Same2 a b H H' := fun c o _ _ h => s c o h
theorem Same2.trans {a b : Addr} {H H1 H2 : Hp} (s : Same2 a b H H1) (t : Same2 a b H1 H2) : Same2 a b H H2 := fun c o n m h => t c o n m (s c o n m h)
structure TxtG (K : PySem.W.Frag) (mg : Str → Option Value) (D : Addr) : Prop where
  cl : Cls K D
  nL : NoAttr K D "land"
  nT : NoAttr K D "told"
  nD : NoAttr K D "deeds"
  mgD : mg "Gathering" = some (.ref D)
def keyS (t : Tel) : List Str := [t.v, t.tl, t.th, t.g]
theorem keyV_eq (t : Tel) : keyV t = (keyS t).map V.str := rfl
theorem strs_eqv : ∀ a b : List Str, PyData.eqvAll (a.map PyData.str) (b.map PyData.str) = decide (a = b)
  | [], [] => by simp [PyData.eqvAll]
  | [], _ :: _ => by simp [PyData.eqvAll]
  | _ :: _, [] => by simp [PyData.eqvAll]
  | x :: a, y :: b => by
    have e : PyData.eqv (.str x) (.str y) = decide (x = y) := o_eqv (some x) (some y) |>.trans (by simp)
    simp only [List.map_cons, PyData.eqvAll, e, strs_eqv a b, List.cons.injEq]
    by_cases h1 : x = y <;> by_cases h2 : a = b <;> simp [h1, h2]
theorem tup_eqv (a b : List Str) : PyData.eqv (.tuple (a.map PyData.str)) (.tuple (b.map PyData.str)) = decide (a = b) := by
  simp only [PyData.eqv, strs_eqv]
theorem shaped_strs {a : List Str} (h : ∀ z ∈ a, IsWd z) : SeqAt.shaped (.tuple (a.map PyData.str)) = true := shaped_tuple (lay_strs h) (by rw [depth_strs]; omega)
theorem OkT.key {t : Tel} (h : OkT t) : ∀ z ∈ keyS t, IsWd z := fun z hz => by
  simp only [keyS, List.mem_cons, List.not_mem_nil, or_false] at hz
  rcases hz with rfl | rfl | rfl | rfl
  · exact h.v
  · exact h.tl
  · exact h.th
  · exact h.g
section
variable {P : Program} {w : World} {K : PySem.W.Frag} {mg : Str → Option Value} {base : Heap} {f C D : Addr} {fd : FuncData}
theorem land_but {H H' : Hp} {p pl L dx : Addr} {g : Grid} {fs : List (Str × V)} (h : LandAt C H pl L g) (hp : H p = some (.ins D dx fs)) (n : p ≠ pl) (k : ∀ b o, b ≠ p → H b = some o → H' b = some o) : LandAt C H' pl L g := by
  obtain ⟨d, dl, k1, ⟨kvs, k2, k3⟩, k4⟩ := h
  have tk : TupKeep H H' := fun b xs e => k b _ (ne_of e hp (by intro z; cases z)) e
  exact ⟨d, dl, k _ _ n.symm k1, ⟨kvs, k _ _ (ne_of k2 hp (by intro z; cases z)) k2, ent_keep tk k3⟩, k4.keep tk⟩
/-! ### a new one -/
def spGInit (C D : Addr) : Sp := fun vs H Q _ => ∃ (p dx pl L : Addr) (g : Grid), vs = [.ref p, .ref pl] ∧ H p = some (.ins D dx []) ∧ LandAt C H pl L g ∧ p ≠ pl ∧
  ∀ (td dd : Addr) (H' : Hp), H td = none → H dd = none → (∀ b o, b ≠ p → H b = some o → H' b = some o) → GatAt C D H' p ⟨pl, L, td, dd, g, [], [], []⟩ → Q .non H'
theorem scGInit : FnScope ["self", "land"] ["self", "land"] (defScope sGInit) := ⟨rfl, rfl, rfl, by decide +kernel, rfl, by decide +kernel, by decide +kernel⟩
theorem ok_ginit (F : Fun K "__init__" "Gathering.__init__" sGInit f fd) (B : Bi mg) (T : Txt2 K mg C) (TG : TxtG K mg D) : FnOk P w K mg base CX0 1 f fd ["self", "land"] (spGInit C D) := by
  refine F.ok scGInit (fun vs H Q E h => ?_) (fun cdv A outer s H vs Q E hr h => ?_)
  · obtain ⟨p, dx, pl, L, g, rfl, _⟩ := h
    rfl
  · obtain ⟨p, dx, pl, L, g, rfl, hp, hLa, npl, q⟩ := h
    refine ⟨_, pss_cons (ps_if (pt_not (pt_val (pe_callB (C8.call_isC (C := C) T.ins) (by rfl) B.isi (by decide +kernel) (pa_cons (pv 1) (pa_cons (pe_glob (v := .ref C) rfl T.t.mgC rfl) pa_nil))))) (pss_one ps_never) pss_nil)
      (pss_cons (ps_fld (pv 0) (pv 1) rfl) (pss_cons (ps_fld (pv 0) (pe_lst pa_nil) rfl) (pss_one (ps_fld (pv 0) (pe_lst pa_nil) rfl)))), ?_⟩
    obtain ⟨dl, d, i1⟩ := hLa.ins
    refine ⟨_, rfl, pl, dl, _, rfl, i1, true, rfl, iteF ?_⟩
    refine ⟨_, rfl, _, rfl, p, D, dx, [], rfl, hp, TG.cl, TG.nL, (by show 0 < 1000; decide), ?_⟩
    refine ⟨lz, fun td htd => ⟨_, rfl, p, D, dx, putF "land" (.ref pl) [], rfl, (same_new htd) _ _ upd_same, TG.cl, TG.nT, (by show 1 < 1000; decide), ?_⟩⟩
    refine ⟨lz, fun dd hdd => ⟨_, rfl, p, D, dx, putF "told" (.ref td) (putF "land" (.ref pl) []), rfl, (same_new hdd) _ _ upd_same, TG.cl, TG.nD, (by show 2 < 1000; decide), ?_⟩⟩
    have ntp : td ≠ p := fun e => by
      rw [e, upd_same] at htd
      cases htd
    have htd0 : H td = none := by
      rw [upd_ne ntp] at htd
      exact htd
    have ndp : dd ≠ p := fun e => by
      rw [e, upd_same] at hdd
      cases hdd
    have ndt : dd ≠ td := fun e => by
      rw [e, upd_ne ntp, upd_same] at hdd
      cases hdd
    have hdd0 : H dd = none := by
      rw [upd_ne ndp, upd_ne ndt, upd_ne ndp] at hdd
      exact hdd
    have all : ∀ b o, b ≠ p → H b = some o → upd (upd (upd (upd (upd H p (.ins D dx (putF "land" (.ref pl) []))) td (.lst [])) p (.ins D dx (putF "told" (.ref td) (putF "land" (.ref pl) [])))) dd (.lst [])) p (.ins D dx (gf pl td dd)) b = some o := fun b o n e => by
      rw [upd_ne n, upd_ne (ne_of_none e hdd0), upd_ne n, upd_ne (ne_of_none e htd0), upd_ne n]
      exact e
    refine q td dd _ htd0 hdd0 all ⟨⟨dx, upd_same⟩, ?_, ?_, .nil, ?_, ndt.symm⟩
    · exact land_but hLa hp npl all
    · rw [upd_ne ntp, upd_ne ndt.symm, upd_ne ntp, upd_same]
      rfl
    · rw [upd_ne ndp, upd_same]
/-! ### where a key stands -/
def plV (o : Option Nat) : V := match o with
  | some i => .int (i : Int)
  | none => .non
def spGPlace (C D : Addr) : Sp := fun vs H Q _ => ∃ (p kp : Addr) (r : GR) (ks : List Str), vs = [.ref p, .ref kp] ∧ GatAt C D H p r ∧ (∀ t ∈ r.ts, OkT t) ∧ r.ts.length ≤ 200 ∧ H kp = some (.tup (ks.map V.str)) ∧ (∀ z ∈ ks, IsWd z) ∧
  ∀ (H' : Hp), Same H H' → Q (plV (r.ts.findIdx? fun t => decide (keyS t = ks))) H'
abbrev nGPlace : List Str := ["self", "key", "place", "telling"]
theorem scGPlace : FnScope nGPlace ["self", "key"] (defScope sGPlace) := ⟨rfl, rfl, rfl, by decide +kernel, rfl, by decide +kernel, by decide +kernel⟩
theorem find_at {α : Type} {q : α → Bool} {l : List α} {i : Nat} {x : α} (h : l[i]? = some x) (hq : q x = true) (hn : ∀ j y, j < i → l[j]? = some y → q y = false) : l.findIdx? q = some i := by
  rw [List.findIdx?_eq_some_iff_getElem]
  obtain ⟨hi, e⟩ := List.getElem?_eq_some_iff.mp h
  refine ⟨hi, by rw [e]; exact hq, fun j hj => ?_⟩
  rw [hn j _ hj (List.getElem?_eq_getElem (by omega))]
  decide
theorem ok_gplace (F : Fun K "place_of" "Gathering.place_of" sGPlace f fd) (B : Bi mg) (TG : TxtG K mg D) (hK : Has P w K mg base "key_of" 1 ["telling"] spKeyOf) : FnOk P w K mg base CX0 2 f fd ["self", "key"] (spGPlace C D) := by
  refine F.ok scGPlace (fun vs H Q E h => ?_) (fun cdv A outer s H vs Q E hr h => ?_)
  · obtain ⟨p, kp, r, ks, rfl, _⟩ := h
    rfl
  · obtain ⟨p, kp, r, ks, rfl, hG, hok, h200, hk, hkw, q⟩ := h
    refine ⟨_, pss_cons (ps_for PassesOwn.never rfl (pi_enum (by rfl) B.enum (pa_cons (pe_fld (pv 0) rfl) pa_nil)) (pg_tup rfl (pgs_cons (pg_name (i := 2) scGPlace.nd rfl (.inl rfl)) (pgs_cons (pg_name (i := 3) scGPlace.nd rfl (.inl rfl)) pgs_nil)))
        (pss_one (ps_if (pt_cmpR (op_eqD hr.units) (pe_h hK hr (pa_cons (pv 3) pa_nil)) (pv 1) (nomark _)) (pss_one (ps_ret (pv 2))) pss_nil)))
      (pss_one (ps_ret pe_non)), ?_⟩
    obtain ⟨dx, hp⟩ := hG.at_
    refine ⟨_, rfl, p, D, dx, _, _, rfl, hp, TG.cl, TG.nT, gf_told _ _ _, r.td, _, rfl, .inl (.inl hG.told), for_it (walk_enum (K := K) (a := r.td) (xs := r.as.map V.ref)) (fun i σ H' => (∃ y2 y3, σ = [some (.ref p), some (.ref kp), y2, y3]) ∧ Same H H' ∧ ∀ j t, j < i → r.ts[j]? = some t → keyS t ≠ ks)
      ⟨⟨_, _, rfl⟩, Same.refl H, fun j t hj => absurd hj (Nat.not_lt_zero _)⟩ (fun i σ H' _ h => .inl (.inl (h.2.1 _ _ hG.told))) ?_ ?_⟩
    · rintro i x σ H1 H2 hi ⟨⟨y2, y3, rfl⟩, s1, hno⟩ ⟨T, x1, x2, rfl, hT, rfl, ex1, ex2⟩
      have ex1 : (some (V.int (i : Nat)) : Option V) = some x1 := ex1
      cases ex1
      have ex2 : (r.as.map V.ref)[i]? = some x2 := ex2
      rw [List.getElem?_map] at ex2
      obtain ⟨pt, hpt, rfl⟩ := Option.map_eq_some_iff.mp ex2
      obtain ⟨t, ht, hpt1⟩ := Each.get hG.tels hpt
      have okt := hok t (List.mem_of_getElem? ht)
      have sT : Same H1 (upd H1 T (.tup [V.int (i : Nat), .ref pt])) := same_new hT
      refine ⟨T, _, rfl, .inl (.inl upd_same), rfl, _, _, rfl, _, _, rfl, rfl, ?_⟩
      have s2 := s1.trans sT
      generalize upd H1 T (.tup [V.int (i : Nat), .ref pt]) = H2 at s2
      refine ⟨_, rfl, pt, t, rfl, s2 _ _ hpt1, fun u hu => ?_⟩
      have s3 := same_new (o := .tup (keyV t)) hu
      refine ⟨_, rfl, .tuple ((keyS t).map .str), .tuple (ks.map .str), .tup (.inl (.inl upd_same)) (dp_strs (keyS t)), .tup (.inl (.inl (s3 _ _ (s2 _ _ hk)))) (dp_strs ks), shaped_strs okt.key, shaped_strs hkw, _, rfl, ?_⟩
      rw [tup_eqv]
      refine ite_b (fun e => ?_) (fun e => ?_)
      · refine ⟨_, rfl, ?_⟩
        have := q _ (s2.trans s3)
        rw [find_at ht e fun j y hj hy => decide_eq_false (hno j y hj hy)] at this
        exact this
      · refine ⟨⟨_, _, rfl⟩, s2.trans s3, fun j y hj hy => ?_⟩
        by_cases c : j = i
        · subst c
          rw [ht] at hy
          cases hy
          exact of_decide_eq_false e
        · exact hno j y (by omega) hy
    · rintro σ H1 ⟨⟨y2, y3, rfl⟩, s1, hno⟩
      have e : (r.ts.findIdx? fun t => decide (keyS t = ks)) = none := by
        rw [List.findIdx?_eq_none_iff]
        intro t ht
        obtain ⟨j, hj, ej⟩ := List.mem_iff_getElem.mp ht
        refine decide_eq_false (hno j t ?_ (by rw [List.getElem?_eq_getElem hj, ej]))
        rw [List.length_map]
        have := hG.tels.length
        omega
      have := q H1 s1
      rw [e] at this
      exact this
end
end Wl




namespace Wl
open PySem PySem.Spec PyProof.Rows L2
abbrev psPut : List Str := ["self", "village", "thing", "word", "teller", "age", "gatherer", "sure"]
abbrev nPut : List Str := ["self", "village", "thing", "word", "teller", "age", "gatherer", "sure", "key"]
theorem scPut : FnScope nPut psPut (defScope sGPut) := ⟨rfl, rfl, rfl, by decide +kernel, rfl, by decide +kernel, by decide +kernel⟩
def GR.add (r : GR) (q : Addr) (t : Tel) : GR := { r with as := r.as ++ [q], ts := r.ts ++ [t], ds := r.ds ++ [.non] }
section
variable {P : Program} {w : World} {K : PySem.W.Frag} {mg : Str → Option Value} {base : Heap} {f C D : Addr} {fd : FuncData}
/-- put: the last two may be left out -/
abbrev FunP (K : PySem.W.Frag) (f : Addr) (fd : FuncData) : Prop := FunD K "put" "Gathering.put" (defArgs sGPut) (defBody sGPut) (defScope sGPut) [.str "self", .bl true] [] f fd
theorem okD {x qual : Str} {params : Arguments} {body : List Stmt} {scope : Scope} {dvs : List V} {N ps : List Str} {k : Nat} {sp : Sp} (F : FunD K x qual params body scope dvs [] f fd) (S : FnScope N ps scope) (len : ∀ vs H Q E, sp vs H Q E → vs.length = ps.length)
    (hbody : ∀ (cdv : Value) (A : Around) (outer : List Env) (s : Shared) (H : Hp) (vs : List V) (Q : VK) (E : XK), Room k (A.deeper (envOfC qual scope s.heap.objs.size f cdv)) → sp vs H Q E →
      ∃ t, PSs (cxOf CX0 P w K mg base N qual scope f cdv A outer s H E).nox body t ∧ t { nx := fun _ H' => Q .non H', rt := Q } (start N vs) H) : FnOk P w K mg base CX0 (k + 1) f fd ps sp :=
  F.ok S len fun cdv A outer s H vs Q E hr hsp => let ⟨t, h, q⟩ := hbody cdv A outer s H vs Q E hr hsp; ⟨t, h.nox, q⟩
def spPut (C D : Addr) : Sp := fun vs H Q _ => ∃ (p : Addr) (r : GR) (wd : Nat) (t : Tel), vs = .ref p :: telV t ∧ GatAt C D H p r ∧ Good r.g wd ∧ (∀ u ∈ r.ts, OkT u) ∧ OkT t ∧ t.v ∈ names r.g ∧ keyS t ∉ r.ts.map keyS ∧ r.ts.length < 200 ∧ r.ds.length < 1000 ∧
  ∀ (q : Addr) (H' : Hp), H q = none → Same2 r.td r.dd H H' → GatAt C D H' p (r.add q t) → Q .non H'
theorem find_no {l : List Tel} {t : Tel} (h : keyS t ∉ l.map keyS) : (l.findIdx? fun u => decide (keyS u = keyS t)) = none := by
  rw [List.findIdx?_eq_none_iff]
  intro u hu
  exact decide_eq_false fun e => h (List.mem_map.mpr ⟨u, hu, e⟩)
theorem ok_put (F : FunP K f fd) (B : Bi mg) (B2 : Bg mg) (T : Txt K mg C) (TG : TxtG K mg D) (hCk : HasM P w K mg base C "check_name" 2 ["self", "name"] (spCheck C)) (hW : Has P w K mg base "check_word" 2 ["word"] spCheckW)
    (hA : Has P w K mg base "check_age" 3 ["age"] spCheckA) (hS : Has P w K mg base "check_sure" 1 ["sure"] spCheckS) (hP : HasM P w K mg base D "place_of" 2 ["self", "key"] (spGPlace C D)) : FnOk P w K mg base CX0 4 f fd psPut (spPut C D) := by
  obtain ⟨t200, g200⟩ := B2.most
  refine okD F scPut (fun vs H Q E h => ?_) (fun cdv A outer s H vs Q E hr h => ?_)
  · obtain ⟨p, r, wd, t, rfl, _⟩ := h
    rfl
  · obtain ⟨p, r, wd, t, rfl, hG, gd, hok, okt, hv, hnew, h200, hds, q⟩ := h
    refine ⟨_, pss_cons (ps_expr (pe_hm hCk T.cl hr (pe_fld (pv 0) rfl) (pa_cons (pv 1) pa_nil)))
      (pss_cons (ps_expr (pe_h hW hr (pa_cons (pv 2) pa_nil)))
      (pss_cons (ps_expr (pe_h hW hr (pa_cons (pv 3) pa_nil)))
      (pss_cons (ps_expr (pe_h hW hr (pa_cons (pv 4) pa_nil)))
      (pss_cons (ps_expr (pe_h hA hr (pa_cons (pv 5) pa_nil)))
      (pss_cons (ps_expr (pe_h hW hr (pa_cons (pv 6) pa_nil)))
      (pss_cons (ps_expr (pe_h hS hr (pa_cons (pv 7) pa_nil)))
      (pss_cons (ps_set (i := 8) scPut.nd rfl (.inl rfl) (pe_tup (pa_cons (pv 1) (pa_cons (pv 4) (pa_cons (pv 2) (pa_cons (pv 6) pa_nil))))))
      (pss_cons (ps_if (pt_cmp (pc_notN (pe_hm hP TG.cl hr (pv 0) (pa_cons (pv 8) pa_nil)))) (pss_one ps_never) pss_nil)
      (pss_cons (ps_if (pt_cmpR op_ge (pe_callB call_len_seq (by rfl) B.len PySem.boot_len (pa_cons (pe_fld (pv 0) rfl) pa_nil)) (pe_glob (v := .int 200) rfl g200 ⟨_, rfl⟩) (nomark _)) (pss_one ps_never) pss_nil)
      (pss_cons (ps_expr (pe_bm PySem.F.plainAttrs_list PySem.F.slot_list_append PySem.F.type_list_append mt_append (pe_fld (pv 0) rfl) (pa_cons (pe_tup (pa_cons (pv 1) (pa_cons (pv 2) (pa_cons (pv 3) (pa_cons (pv 4) (pa_cons (pv 5) (pa_cons (pv 6) (pa_cons (pv 7) pa_nil)))))))) pa_nil)))
      (pss_one (ps_expr (pe_bm PySem.F.plainAttrs_list PySem.F.slot_list_append PySem.F.type_list_append mt_append (pe_fld (pv 0) rfl) (pa_cons pe_non pa_nil)))))))))))))), ?_⟩
    obtain ⟨dx, hp⟩ := hG.at_
    obtain ⟨dl, d, hl⟩ := hG.land.ins
    refine ⟨_, rfl, p, D, dx, _, _, rfl, hp, TG.cl, TG.nL, gf_land _ _ _, r.pl, dl, _, rfl, hl, fs_no, _, rfl, r.pl, r.L, r.g, wd, t.v, rfl, hG.land, gd, hv, fun H1 s1 => ?_⟩
    refine ⟨_, rfl, t.th, rfl, okt.th, fun H2 s2 => ?_⟩
    refine ⟨_, rfl, t.wo, rfl, okt.wo, fun H3 s3 => ?_⟩
    refine ⟨_, rfl, t.tl, rfl, okt.tl, fun H4 s4 => ?_⟩
    refine ⟨_, rfl, t.age, rfl, okt.age, ?_⟩
    refine ⟨_, rfl, t.g, rfl, okt.g, fun H5 s5 => ?_⟩
    refine ⟨_, rfl, t.sure, rfl, ?_⟩
    have s15 := ((s1.trans s2).trans (s3.trans s4)).trans s5
    refine ⟨_, rfl, _, rfl, _, rfl, _, rfl, lz, fun kp hkp => ?_⟩
    have s6 := same_new (o := .tup [V.str t.v, V.str t.tl, V.str t.th, V.str t.g]) hkp
    have hkp6 : upd H5 kp (.tup [V.str t.v, V.str t.tl, V.str t.th, V.str t.g]) kp = some (.tup ((keyS t).map V.str)) := upd_same
    have s16 := s15.trans s6
    have hG6 := hG.same s16
    generalize upd H5 kp (.tup [V.str t.v, V.str t.tl, V.str t.th, V.str t.g]) = H6 at hkp6 s16 hG6
    obtain ⟨dx6, hp6⟩ := hG6.at_
    refine ⟨_, rfl, p, dx6, _, rfl, hp6, gf_no _ _ _, _, rfl, p, kp, r, keyS t, rfl, hG6, hok, by omega, hkp6, okt.key, fun H7 s7 => ?_⟩
    rw [find_no hnew]
    refine ⟨_, rfl, iteF ?_⟩
    have hG7 := hG6.same s7
    obtain ⟨dx7, hp7⟩ := hG7.at_
    have hlen : r.as.length = r.ts.length := hG.tels.length
    refine ⟨_, rfl, p, D, dx7, _, _, rfl, hp7, TG.cl, TG.nT, gf_told _ _ _, r.td, _, rfl, .inl (.inl (.inl hG7.told)), _, _, rfl, rfl, _, rfl, ?_⟩
    have hno : decide ((200 : Int) ≤ ((r.as.map V.ref).length : Int)) = false := decide_eq_false (by rw [List.length_map]; omega)
    rw [hno]
    refine iteF ⟨_, rfl, p, D, dx7, _, _, rfl, hp7, TG.cl, TG.nT, gf_told _ _ _, .inl ⟨rfl, _, .inl (.inl hG7.told)⟩, _, rfl, _, rfl, _, rfl, _, rfl, _, rfl, _, rfl, _, rfl, lz, fun qa hqa => ?_⟩
    have s8 := same_new (o := .tup [V.str t.v, V.str t.th, V.str t.wo, V.str t.tl, V.int (t.age : Int), V.str t.g, V.bl t.sure]) hqa
    have hG8 := hG7.same s8
    have hqa8 : upd H7 qa (.tup [V.str t.v, V.str t.th, V.str t.wo, V.str t.tl, V.int (t.age : Int), V.str t.g, V.bl t.sure]) qa = some (.tup (telV t)) := upd_same
    have s18 := s16.trans (s7.trans s8)
    have hqa0 : H qa = none := (s16.trans s7).free hqa
    refine ⟨r.td, _, _, rfl, rfl, hG8.told, by rw [List.length_map]; exact small1000 (by omega), ?_⟩
    obtain ⟨dx8, hp8⟩ := hG8.at_
    have hd8 := hG8.deeds
    have ht8 := hG8.told
    generalize upd H7 qa (.tup [V.str t.v, V.str t.th, V.str t.wo, V.str t.tl, V.int (t.age : Int), V.str t.g, V.bl t.sure]) = H8 at hG8 hqa8 s18 hp8 hd8 ht8
    have k9 : Keep H8 (upd H8 r.td (.lst (r.as.map V.ref ++ [.ref qa]))) := kp_upd ht8
    have hp9 := k9 _ _ (fun xs e => by cases e) hp8
    have hd9 : upd H8 r.td (.lst (r.as.map V.ref ++ [.ref qa])) r.dd = some (.lst r.ds) := by
      rw [upd_ne hG.ne.symm]
      exact hd8
    have ht9 : upd H8 r.td (.lst (r.as.map V.ref ++ [.ref qa])) r.td = some (.lst (r.as.map V.ref ++ [.ref qa])) := upd_same
    have m9 : Same2 r.td r.dd H8 (upd H8 r.td (.lst (r.as.map V.ref ++ [.ref qa]))) := fun c o n _ e => by
      rw [upd_ne n]
      exact e
    generalize upd H8 r.td (.lst (r.as.map V.ref ++ [.ref qa])) = H9 at k9 hp9 hd9 ht9 m9
    refine ⟨_, rfl, p, D, dx8, _, _, rfl, hp9, TG.cl, TG.nD, gf_deeds _ _ _, .inl ⟨rfl, _, .inl (.inl hd9)⟩, r.dd, _, _, rfl, rfl, hd9, small1000 (by omega), ?_⟩
    have k10 : Keep H9 (upd H9 r.dd (.lst (r.ds ++ [.non]))) := kp_upd hd9
    have kk := k9.trans k10
    refine q qa _ hqa0 ?_ ⟨⟨dx8, k10 _ _ (fun xs e => by cases e) hp9⟩, hG8.land.keep kk, ?_, ?_, upd_same, hG.ne⟩
    · refine (Same2.of s18).trans (m9.trans fun c o _ n e => ?_)
      rw [upd_ne n]
      exact e
    · show upd H9 r.dd (.lst (r.ds ++ [.non])) r.td = some (.lst ((r.as ++ [qa]).map V.ref))
      rw [upd_ne hG.ne, ht9, List.map_append]
      rfl
    · exact Each.append (hG8.tels.keep kk.tk) (.cons (kk.tk _ _ hqa8) .nil)
end
end Wl




namespace Wl
open PySem PySem.Spec PyProof.Rows L2
/-! o.m(e, .., k = v, ..) of a method that may leave some out. -/
def tMethN (C : Addr) (m : Str) (n j : Nat) (sp : Sp) (gV : List V → List V → List V) (E : XK) (ta : TE) (t tk : TA) : TE := fun σ H Q => ta σ H fun x H1 =>
  ∃ a dx fs, x = .ref a ∧ H1 a = some (.ins C dx fs) ∧ fs.lookup m = none ∧ t σ H1 fun vs H2 => tk σ H2 fun zs H3 => vs.length = n ∧ zs.length = j ∧ sp (gV (.ref a :: vs) zs) H3 Q E
section
variable {X : Cx} {CX : CXT} {k n : Nat} {f C : Addr} {fd : FuncData} {ps ks : List Str} {sp : Sp} {E : XK} {m : Str} {pos apos : Pos} {o e : Expr} {es : List Expr} {kws : List Keyword} {ta : TE} {t tk : TA} {pl : Sem Bool} {g : List Value → List Value → List Value} {gV : List V → List V → List V}
theorem pe_methN0 (he : PE X o ta) (c : Cls X.K C) (hm : Meth X.K C m f) (F : FnOk X.prog X.w X.K X.mg X.base CX k f fd ps sp) (hr : Room k X.A) (hb : KBn X.K fd ps 1 ks g gV) (hx : Passes CX X E) (hkw : PK X kws tk)
    (hall : (backToKw pos (keywordEach kws X.env)).all (·.1.isSome) = true := by rfl) (hks : (backToKw pos (keywordEach kws X.env)).filterMap (·.1) = ks := by rfl)
    (hpl : ((backTo pos (starEach [] X.env)).any (·.1) || (backToKw pos (keywordEach kws X.env)).any (·.1.isNone)) = false := by rfl)
    (ht : eval (.Call (.Attribute o m apos) [] kws pos) X.env = (do
      let ov ← eval o X.env
      standAt apos.atName
      let (f, first) ← holding [ov] (getMethod ov m pl)
      callWith pos f first (backTo pos (starEach [] X.env)) (backToKw pos (keywordEach kws X.env))) := by rfl) :
    PE X (.Call (.Attribute o m apos) [] kws pos) (tMethN C m 0 ks.length sp gV E ta tNil tk) := by
  refine ⟨fun pins s σ H Q I h => ?_⟩
  refine PySem.W.methodCall_KW (pl := pl) (thn (he.run pins s σ H _ I h) fun u s1 ⟨x, H1, I1, rx, a, dx, fs, ex, ea, l, q⟩ => ?_) ht
  subst ex
  obtain rfl : u = Value.ref a := rx
  refine getmeth_ok I1 ea c hm l ?_
  refine PySem.W.callWith_KW0 (first := [.ref a]) (h₀ := X.base) I.ok.mod.kin hm.kp hall (thn (hkw.run pos pins s1 σ H1 _ I1 q) fun ws s2 ⟨zs, H2, I2, rz, _, l2, q2⟩ => ⟨I2.kIn, ?_⟩) hpl
  rw [hks]
  exact run_fnN (us := [.ref a]) (vs := [.ref a]) F hr hb hx I2 (.cons rfl .nil) rz rfl l2 q2
theorem pe_methN (he : PE X o ta) (c : Cls X.K C) (hm : Meth X.K C m f) (F : FnOk X.prog X.w X.K X.mg X.base CX k f fd ps sp) (hr : Room k X.A) (hb : KBn X.K fd ps (n + 1) ks g gV) (hx : Passes CX X E) (ha : PA X (e :: es) t) (hkw : PK X kws tk)
    (hall : (backToKw pos (keywordEach kws X.env)).all (·.1.isSome) = true := by rfl) (hks : (backToKw pos (keywordEach kws X.env)).filterMap (·.1) = ks := by rfl)
    (hst : starEach (e :: es) X.env = (false, eval e X.env) :: starEach es X.env := by rfl)
    (hpl : ((backTo pos (starEach (e :: es) X.env)).any (·.1) || (backToKw pos (keywordEach kws X.env)).any (·.1.isNone)) = false := by rfl)
    (ht : eval (.Call (.Attribute o m apos) (e :: es) kws pos) X.env = (do
      let ov ← eval o X.env
      standAt apos.atName
      let (f, first) ← holding [ov] (getMethod ov m pl)
      callWith pos f first (backTo pos (starEach (e :: es) X.env)) (backToKw pos (keywordEach kws X.env))) := by rfl) :
    PE X (.Call (.Attribute o m apos) (e :: es) kws pos) (tMethN C m n ks.length sp gV E ta t tk) := by
  refine ⟨fun pins s σ H Q I h => ?_⟩
  refine PySem.W.methodCall_KW (pl := pl) (thn (he.run pins s σ H _ I h) fun u s1 ⟨x, H1, I1, rx, a, dx, fs, ex, ea, l, q⟩ => ?_) ht
  subst ex
  obtain rfl : u = Value.ref a := rx
  refine getmeth_ok I1 ea c hm l ?_
  refine PySem.W.callWith_KW (first := [.ref a]) (h₀ := X.base) I.ok.mod.kin hm.kp hall (thn (ha.run pos pins s1 σ H1 _ I1 q) fun us s2 ⟨vs, H2, I2, r, q2⟩ => ?_) hpl hst
  refine thn (hkw.run pos pins s2 σ H2 _ I2 q2) fun ws s3 ⟨zs, H3, I3, rz, l1, l2, q3⟩ => ⟨I3.kIn, ?_⟩
  rw [hks]
  exact run_fnN (us := .ref a :: us) (vs := .ref a :: vs) F hr hb hx I3 (.cons rfl r) rz (by rw [List.length_cons, l1]) l2 q3
end
/-! the ways to call put -/
/-- age, village, gatherer, word, teller, thing; sure left out -/
def gP1 {α : Type} : List α → List α → List α → List α
  | [s], [_, b], [ag, v, g, w, tl, th] => [s, v, th, w, tl, ag, g, b]
  | _, _, _ => []
/-- five by place, sure by name -/
def gP2 {α : Type} : List α → List α → List α → List α
  | [s, v, th, w, tl, ag], [g, _], [b] => [s, v, th, w, tl, ag, g, b]
  | _, _, _ => []
/-- all by name: sure, gatherer, age, teller, word, thing, village -/
def gP3 {α : Type} : List α → List α → List α → List α
  | [s], [_, _], [b, g, ag, tl, w, th, v] => [s, v, th, w, tl, ag, g, b]
  | _, _, _ => []
theorem gP1_rel {vs ds zs : List V} {us its ws : List Value} (r1 : Vals vs us) (r2 : Vals ds its) (r3 : Vals zs ws) : Vals (gP1 vs ds zs) (gP1 us its ws) := by
  rcases r1 with _ | ⟨a1, _ | ⟨_, _⟩⟩
  · exact .nil
  · rcases r2 with _ | ⟨b1, _ | ⟨b2, _ | ⟨_, _⟩⟩⟩
    · exact .nil
    · exact .nil
    · rcases r3 with _ | ⟨c1, _ | ⟨c2, _ | ⟨c3, _ | ⟨c4, _ | ⟨c5, _ | ⟨c6, _ | ⟨_, _⟩⟩⟩⟩⟩⟩⟩
      all_goals first | exact .nil | exact .cons a1 (.cons c2 (.cons c6 (.cons c4 (.cons c5 (.cons c1 (.cons c3 (.cons b2 .nil)))))))
    · exact .nil
  · exact .nil
theorem gP2_rel {vs ds zs : List V} {us its ws : List Value} (r1 : Vals vs us) (r2 : Vals ds its) (r3 : Vals zs ws) : Vals (gP2 vs ds zs) (gP2 us its ws) := by
  rcases r1 with _ | ⟨a1, _ | ⟨a2, _ | ⟨a3, _ | ⟨a4, _ | ⟨a5, _ | ⟨a6, _ | ⟨_, _⟩⟩⟩⟩⟩⟩⟩
  all_goals first | exact .nil | skip
  rcases r2 with _ | ⟨b1, _ | ⟨b2, _ | ⟨_, _⟩⟩⟩
  all_goals first | exact .nil | skip
  rcases r3 with _ | ⟨c1, _ | ⟨_, _⟩⟩
  all_goals first | exact .nil | exact .cons a1 (.cons a2 (.cons a3 (.cons a4 (.cons a5 (.cons a6 (.cons b1 (.cons c1 .nil)))))))
theorem gP3_rel {vs ds zs : List V} {us its ws : List Value} (r1 : Vals vs us) (r2 : Vals ds its) (r3 : Vals zs ws) : Vals (gP3 vs ds zs) (gP3 us its ws) := by
  rcases r1 with _ | ⟨a1, _ | ⟨_, _⟩⟩
  all_goals first | exact .nil | skip
  rcases r2 with _ | ⟨b1, _ | ⟨b2, _ | ⟨_, _⟩⟩⟩
  all_goals first | exact .nil | skip
  rcases r3 with _ | ⟨c1, _ | ⟨c2, _ | ⟨c3, _ | ⟨c4, _ | ⟨c5, _ | ⟨c6, _ | ⟨c7, _ | ⟨_, _⟩⟩⟩⟩⟩⟩⟩⟩
  all_goals first | exact .nil | exact .cons a1 (.cons c7 (.cons c6 (.cons c5 (.cons c4 (.cons c3 (.cons c2 (.cons c1 .nil)))))))
section
variable {K : PySem.W.Frag} {f : Addr} {fd : FuncData}
theorem put_b8 (F : FunP K f fd) : Binds K fd psPut [] := by
  obtain ⟨ds, h1, h2⟩ := F.binds1 (ps := psPut) 8 2 (by simp) rfl (fun T kV doc pm an cdv ct us its l1 l2 => by
      match us, its, l1, l2 with
      | [_, _, _, _, _, _, _, _], [_, _], _, _ => exact ⟨_, rfl, rfl⟩)
  cases h1
  exact h2
theorem put_b6 (F : FunP K f fd) : ∃ ds, Vals [V.str "self", V.bl true] ds ∧ Binds K fd psPut ds :=
  F.binds1 (ps := psPut) 6 0 (by simp) rfl (fun T kV doc pm an cdv ct us its l1 l2 => by
      match us, its, l1, l2 with
      | [_, _, _, _, _, _], [_, _], _, _ => exact ⟨_, rfl, rfl⟩)
theorem put_k1 (F : FunP K f fd) : ∃ its : List Value, KBn K fd psPut 1 ["age", "village", "gatherer", "word", "teller", "thing"] (fun us ws => gP1 us its ws) (fun vs zs => gP1 vs [.str "self", .bl true] zs) :=
  F.kbindsD 1 _ gP1 (by simp) gP1_rel (fun T kV doc pm an cdv ct us its ws l1 l2 l3 => by
      match us, its, ws, l1, l2, l3 with
      | [_], [_, _], [_, _, _, _, _, _], _, _, _ => exact ⟨_, rfl, rfl⟩)
theorem put_k2 (F : FunP K f fd) : ∃ its : List Value, KBn K fd psPut 6 ["sure"] (fun us ws => gP2 us its ws) (fun vs zs => gP2 vs [.str "self", .bl true] zs) :=
  F.kbindsD 6 _ gP2 (by simp) gP2_rel (fun T kV doc pm an cdv ct us its ws l1 l2 l3 => by
      match us, its, ws, l1, l2, l3 with
      | [_, _, _, _, _, _], [_, _], [_], _, _, _ => exact ⟨_, rfl, rfl⟩)
theorem put_k3 (F : FunP K f fd) : ∃ its : List Value, KBn K fd psPut 1 ["sure", "gatherer", "age", "teller", "word", "thing", "village"] (fun us ws => gP3 us its ws) (fun vs zs => gP3 vs [.str "self", .bl true] zs) :=
  F.kbindsD 1 _ gP3 (by simp) gP3_rel (fun T kV doc pm an cdv ct us its ws l1 l2 l3 => by
      match us, its, ws, l1, l2, l3 with
      | [_], [_, _], [_, _, _, _, _, _, _], _, _, _ => exact ⟨_, rfl, rfl⟩)
end
end Wl




/-! Texts each once, as first met; dicts by texts. -/
namespace Wl
open PySem PySem.Spec PyProof.Rows L2
def addK (acc : List Str) (z : Str) : List Str := if z ∈ acc then acc else acc ++ [z]
def keysOf (l : List Str) : List Str := l.foldl addK []
theorem keysOf_snoc (l : List Str) (z : Str) : keysOf (l ++ [z]) = addK (keysOf l) z := by
  unfold keysOf
  rw [List.foldl_append]
  rfl
theorem mem_addK {acc : List Str} {z y : Str} : y ∈ addK acc z ↔ y ∈ acc ∨ y = z := by
  unfold addK
  split
  · constructor
    · exact .inl
    · rintro (h | rfl) <;> assumption
  · simp
theorem foldK_mem {y : Str} : ∀ {l acc : List Str}, y ∈ l.foldl addK acc ↔ y ∈ acc ∨ y ∈ l
  | [], acc => by simp
  | z :: l, acc => by
    rw [List.foldl_cons, foldK_mem (l := l), mem_addK, List.mem_cons]
    constructor
    · rintro ((h | h) | h)
      · exact .inl h
      · exact .inr (.inl h)
      · exact .inr (.inr h)
    · rintro (h | h | h)
      · exact .inl (.inl h)
      · exact .inl (.inr h)
      · exact .inr h
theorem mem_keysOf {l : List Str} {y : Str} : y ∈ keysOf l ↔ y ∈ l := by
  unfold keysOf
  rw [foldK_mem]
  simp
theorem addK_nodup {acc : List Str} {z : Str} (h : acc.Nodup) : (addK acc z).Nodup := by
  unfold addK
  split
  · exact h
  · rename_i n
    rw [List.nodup_append]
    exact ⟨h, by simp, fun a ha b hb e => n (by rw [List.mem_singleton.mp hb] at e; exact e ▸ ha)⟩
theorem foldK_nodup : ∀ {l acc : List Str}, acc.Nodup → (l.foldl addK acc).Nodup
  | [], _, h => h
  | _ :: l, _, h => foldK_nodup (l := l) (addK_nodup h)
theorem keysOf_nodup (l : List Str) : (keysOf l).Nodup := foldK_nodup List.nodup_nil
theorem addK_len (acc : List Str) (z : Str) : (addK acc z).length ≤ acc.length + 1 := by
  unfold addK
  split
  · omega
  · simp
theorem foldK_len : ∀ (l acc : List Str), (l.foldl addK acc).length ≤ acc.length + l.length
  | [], acc => by simp
  | z :: l, acc => by
    have h1 := foldK_len l (addK acc z)
    have h2 := addK_len acc z
    rw [List.foldl_cons, List.length_cons]
    omega
theorem keysOf_len (l : List Str) : (keysOf l).length ≤ l.length := by
  have := foldK_len l []
  simpa [keysOf] using this
/-- the pairs of a dict whose keys are these texts -/
def kvZ (ad : Str → V) (l : List Str) : List (Key × V) := l.map fun z => (Sum.inr z, ad z)
theorem valV_kvZ (ad : Str → V) (z : Str) : ∀ l : List Str, valV (kvZ ad l) (Sum.inr z : Key) = if z ∈ l then some (ad z) else none
  | [] => rfl
  | d :: r => by
    by_cases h : d = z
    · subst h
      rw [if_pos List.mem_cons_self]
      exact valV_pos rfl
    · have h1 : valV (kvZ ad (d :: r)) (Sum.inr z : Key) = valV (kvZ ad r) (Sum.inr z : Key) := valV_neg fun e => h (Sum.inr.inj e)
      rw [h1, valV_kvZ ad z r]
      have h2 : (z ∈ d :: r) = (z ∈ r) := by
        simp only [List.mem_cons, eq_iff_iff]
        constructor
        · rintro (e | e)
          · exact absurd e.symm h
          · exact e
        · exact .inr
      simp only [h2]
theorem valV_in {ad : Str → V} {z : Str} {l : List Str} (h : z ∈ l) : valV (kvZ ad l) (Sum.inr z : Key) = some (ad z) := by
  rw [valV_kvZ, if_pos h]
theorem valV_out {ad : Str → V} {z : Str} {l : List Str} (h : z ∉ l) : valV (kvZ ad l) (Sum.inr z : Key) = none := by
  rw [valV_kvZ, if_neg h]
theorem kvZ_congr {a b : Str → V} {l : List Str} (h : ∀ c ∈ l, a c = b c) : kvZ a l = kvZ b l := List.map_congr_left fun c hc => by rw [h c hc]
theorem kvZ_keys (ad : Str → V) (l : List Str) : (kvZ ad l).map (fun kv => kV kv.1) = l.map V.str := by
  unfold kvZ
  rw [List.map_map]
  rfl
theorem kvZ_len (ad : Str → V) (l : List Str) : (kvZ ad l).length = l.length := List.length_map _
theorem sortS_nodup {l : List Str} (h : l.Nodup) : (sortS l).Nodup := (List.mergeSort_perm l leB).nodup_iff.mpr h
end Wl

namespace Wl
open PySem PySem.Spec PyProof.Rows L2
abbrev sGTell : Stmt := inClass sGat 6
abbrev sCheckG : Stmt := topS 61
abbrev sSum : Stmt := topS 64
abbrev sByV : Stmt := topS 65
/-- what was told of a word: rows that begin with these words -/
def RowsT (H : Hp) (t : Addr) (ws : List Str) : Prop := ∃ as : List Addr, H t = some (.tup (as.map V.ref)) ∧ Each (fun (p : Addr) (z : Str) => ∃ a b n : Int, H p = some (.tup [.str z, .int a, .int b, .int n])) as ws
theorem RowsT.keep {H H' : Hp} {t : Addr} {ws : List Str} (h : RowsT H t ws) (k : TupKeep H H') : RowsT H' t ws := by
  obtain ⟨as, h1, h2⟩ := h
  exact ⟨as, k _ _ h1, h2.mono fun p z ⟨a, b, n, e⟩ => ⟨a, b, n, k _ _ e⟩⟩
noncomputable def wordsIn (chs : List Chg) (ts : List Tel) : List Str := sortS (keysOf (ts.map fun t => mean chs t.wo))
theorem mem_wordsIn {chs : List Chg} {ts : List Tel} {z : Str} : z ∈ wordsIn chs ts ↔ ∃ t ∈ ts, mean chs t.wo = z := by
  unfold wordsIn
  rw [mem_sortS, mem_keysOf, List.mem_map]
section
variable {P : Program} {w : World} {K : PySem.W.Frag} {mg : Str → Option Value} {base : Heap} {f C D : Addr} {fd : FuncData}
/-! ### tellings, as put in -/
abbrev FunT (K : PySem.W.Frag) (f : Addr) (fd : FuncData) : Prop := FunD K "tellings" "Gathering.tellings" (defArgs sGTell) (defBody sGTell) (defScope sGTell) [.non] [] f fd
def spTell (C D : Addr) : Sp := fun vs H Q _ => ∃ (p : Addr) (r : GR), vs = [.ref p, .non] ∧ GatAt C D H p r ∧ ∀ (l : Addr), H l = none → Q (.ref l) (upd H l (.lst (r.as.map V.ref)))
theorem scTell : FnScope ["self", "keying"] ["self", "keying"] (defScope sGTell) := ⟨rfl, rfl, rfl, by decide +kernel, rfl, by decide +kernel, by decide +kernel⟩
theorem tell_b1 (F : FunT K f fd) : ∃ ds, Vals [V.non] ds ∧ Binds K fd ["self", "keying"] ds :=
  F.binds1 (ps := ["self", "keying"]) 1 0 (by simp) rfl (fun T kV doc pm an cdv ct us its l1 l2 => by
      match us, its, l1, l2 with
      | [_], [_], _, _ => exact ⟨_, rfl, rfl⟩)
theorem ok_tell (F : FunT K f fd) (B : Bi mg) (TG : TxtG K mg D) : FnOk P w K mg base CX0 1 f fd ["self", "keying"] (spTell C D) := by
  refine okD F scTell (fun vs H Q E h => ?_) (fun cdv A outer s H vs Q E hr h => ?_)
  · obtain ⟨p, r, rfl, _⟩ := h
    rfl
  · obtain ⟨p, r, rfl, hG, q⟩ := h
    refine ⟨_, pss_cons (ps_if (pt_cmp (pc_isN (pv 1))) (pss_one (ps_ret (pe_callTy call_list_of (by rfl) B.list (by decide +kernel) (pa_cons (pe_fld (pv 0) rfl) pa_nil)))) pss_nil) (pss_one ps_never), ?_⟩
    obtain ⟨dx, hp⟩ := hG.at_
    exact ⟨_, rfl, _, rfl, iteT ⟨_, rfl, p, D, dx, _, _, rfl, hp, TG.cl, TG.nT, gf_told _ _ _, r.td, _, rfl, .inl (.inl (.inl hG.told)), q⟩⟩
/-! ### check_gathering -/
def spCheckG (C D : Addr) : Sp := fun vs H Q _ => ∃ (p : Addr) (r : GR), vs = [.ref p] ∧ GatAt C D H p r ∧ Q .non H
theorem scCheckG : FnScope ["thing"] ["thing"] (defScope sCheckG) := ⟨rfl, rfl, rfl, by decide +kernel, rfl, by decide +kernel, by decide +kernel⟩
theorem ok_checkg (F : Fun K "check_gathering" "check_gathering" sCheckG f fd) (B : Bi mg) (TG : TxtG K mg D) (ins : C8.InsC K D) : FnOk P w K mg base CX0 1 f fd ["thing"] (spCheckG C D) := by
  refine F.ok scCheckG (fun vs H Q E h => ?_) (fun cdv A outer s H vs Q E hr h => ?_)
  · obtain ⟨p, r, rfl, _⟩ := h
    rfl
  · obtain ⟨p, r, rfl, hG, q⟩ := h
    refine ⟨_, pss_one (ps_if (pt_not (pt_val (pe_callB (C8.call_isC (C := D) ins) (by rfl) B.isi (by decide +kernel) (pa_cons (pv 0) (pa_cons (pe_glob (v := .ref D) rfl TG.mgD rfl) pa_nil))))) (pss_one ps_never) pss_nil), ?_⟩
    obtain ⟨dx, hp⟩ := hG.at_
    exact ⟨_, rfl, p, dx, _, rfl, hp, true, rfl, iteF q⟩
/-! ### summed_up -/
structure AgesI (H0 H : Hp) (d : Addr) (ks : List Str) (ad : Str → Addr) (m : Nat) : Prop where
  dict : H d = some (.dK (kvZ (fun z => .ref (ad z)) ks))
  lst : ∀ z ∈ ks, ∃ ns : List Int, H (ad z) = some (.lst (ns.map V.int)) ∧ ns ≠ [] ∧ ns.length ≤ m
  inj : ∀ z ∈ ks, ∀ y ∈ ks, ad z = ad y → z = y
  new : ∀ z ∈ ks, H0 (ad z) = none
theorem AgesI.same {H0 H H' : Hp} {d : Addr} {ks : List Str} {ad : Str → Addr} {m : Nat} (h : AgesI H0 H d ks ad m) (s : Same H H') : AgesI H0 H' d ks ad m :=
  ⟨s _ _ h.dict, fun z hz => let ⟨ns, e, k⟩ := h.lst z hz; ⟨ns, s _ _ e, k⟩, h.inj, h.new⟩
def spSum : Sp := fun vs H Q _ => ∃ (l S : Addr) (as : List Addr) (ts : List Tel) (chs : List Chg), vs = [.ref l, .ref S] ∧ H l = some (.lst (as.map V.ref)) ∧ TelsAt H as ts ∧ (∀ t ∈ ts, OkT t) ∧ ts.length ≤ 200 ∧ ChAt H S chs ∧ OkCs chs ∧
  ∀ (t : Addr) (H' : Hp), Same H H' → RowsT H' t (wordsIn chs ts) → Q (.ref t) H'
abbrev nSum : List Str := ["tellings", "changes", "ages", "telling", "word"]
theorem scSum : FnScope nSum ["tellings", "changes"] (defScope sSum) := ⟨rfl, rfl, rfl, by decide +kernel, rfl, by decide +kernel, by decide +kernel⟩
theorem ok_sum (F : Fun K "summed_up" "summed_up" sSum f fd) (B : Bi mg) (hM : HasN P w K mg base "meaning" wMean 5 ps2 spMean) : FnOk P w K mg base CX0 6 f fd ["tellings", "changes"] spSum := by
  obtain ⟨fM, fdM, FM, mM, NM⟩ := hM
  have bM := bindM2 NM
  refine F.ok scSum (fun vs H Q E h => ?_) (fun cdv A outer s H vs Q E hr h => ?_)
  · obtain ⟨l, S, as, ts, chs, rfl, _⟩ := h
    rfl
  · obtain ⟨l, S, as, ts, chs, rfl, hl, hT, hok, h200, hS, okc, q⟩ := h
    have hu := hu_of hr
    refine ⟨_, pss_cons (ps_set (i := 2) scSum.nd rfl (.inr rfl) pe_dnewK)
      (pss_cons (ps_for PassesOwn.never rfl (pi_list (pv 0)) (pg_name (i := 3) scSum.nd rfl (.inl rfl))
        (pss_cons (ps_set (i := 4) scSum.nd rfl (.inl rfl) (pe_call FM hr rfl mM NM.kp bM .nil pass0 (pa_cons (pe_ix ix_tup (pv 3) pe_int (fun _ _ => rfl)) (pa_cons (pv 1) pa_nil))))
        (pss_cons (ps_if (pt_cmp (pc_dnotin hu (pv 4) (pv 2))) (pss_one (ps_dput hu (pv 2) (pv 4) (pe_lst pa_nil) rfl)) pss_nil)
        (pss_one (ps_expr (pe_bm PySem.F.plainAttrs_list PySem.F.slot_list_append PySem.F.type_list_append mt_append (pe_dget hu (pv 2) (pv 4) (fun _ _ => rfl)) (pa_cons (pe_ix ix_tup (pv 3) pe_int (fun _ _ => rfl)) pa_nil)))))))
      (pss_one (ps_ret (pe_callTy call_tuple_of (by rfl) B.tuple (by decide +kernel) (pa_cons (pe_lc (own := [("word", 4)]) (g := gName 4) (tt := tYes)
        (te := tTup (tCons (tVar 4) (tCons (tCB (rMin K) (tCons (tDGet (tVar 2) (tVar 4)) tNil)) (tCons (tCB (rMax K) (tCons (tDGet (tVar 2) (tVar 4)) tNil)) (tCons (tCB (fun xs H Q => ∃ p ys, xs = [.ref p] ∧ ((SqL K H p ys) ∨ SqT K H p ys) ∧ Q (.int ys.length) H) (tCons (tDGet (tVar 2) (tVar 4)) tNil)) tNil)))))
        rfl scSum.nd (pi_list (pe_callB (cr_sortD hr.units) (by rfl) B.sorted (by decide +kernel) (pa_cons (pe_callTy (call_list_dK rfl) (by rfl) B.list (by decide +kernel) (pa_cons (pv 2) pa_nil)) pa_nil))) (blkOk_by (N := nSum) (sc := defScope sSum) (by decide +kernel)) (fun _ _ _ _ _ => pg_name (i := 4) scSum.nd rfl (.inl rfl)) (fun _ _ _ _ _ => pts_nil)
        (fun _ _ _ _ _ => pe_tup (pa_cons (pv 4) (pa_cons (pe_callB (cr_min rfl) (by rfl) B.min (by decide +kernel) (pa_cons (pe_dget hu (pv 2) (pv 4) (fun _ _ => rfl)) pa_nil)) (pa_cons (pe_callB (cr_max rfl) (by rfl) B.max (by decide +kernel) (pa_cons (pe_dget hu (pv 2) (pv 4) (fun _ _ => rfl)) pa_nil)) (pa_cons (pe_callB call_len_seq (by rfl) B.len PySem.boot_len (pa_cons (pe_dget hu (pv 2) (pv 4) (fun _ _ => rfl)) pa_nil)) pa_nil)))))) pa_nil))))), ?_⟩
    intro d hd
    have hlen : as.length = ts.length := hT.length
    have s0 : Same H (upd H d (.dK [])) := same_new hd
    refine ⟨_, rfl, l, rfl, ⟨_, .inl (.inl (s0 _ _ hl))⟩, for_list (K := K) (a := l) (xs := as.map V.ref) (fun i σ H' => (∃ y3 y4, σ = [some (.ref l), some (.ref S), some (.ref d), y3, y4]) ∧ Same H H' ∧ ∃ ad, AgesI H H' d (keysOf ((ts.take i).map fun t => mean chs t.wo)) ad i)
      ⟨⟨_, _, rfl⟩, s0, fun _ => 0, ⟨upd_same, fun z hz => (by cases hz), fun z hz => (by cases hz), fun z hz => (by cases hz)⟩⟩ (fun i σ H' _ h => .inl (.inl (h.2.1 _ _ hl))) ?_ ?_⟩
    · rintro i x σ H1 hx ⟨⟨y3, y4, rfl⟩, s1, ad, I1⟩
      rw [List.getElem?_map] at hx
      obtain ⟨pt, hpt, rfl⟩ := Option.map_eq_some_iff.mp hx
      obtain ⟨t, ht, hH⟩ := Each.get hT hpt
      have okt := hok t (List.mem_of_getElem? ht)
      have hi200 : i < 200 := by
        have := (List.getElem?_eq_some_iff.mp ht).1
        omega
      have hpt1 := s1 _ _ hH
      refine ⟨_, rfl, pt, _, _, _, rfl, rfl, .inl (.inl hpt1), atI_nat (j := 2) rfl, _, rfl, t.wo, .ref S, chs, rfl, okt.wo, .inr ⟨S, rfl, hS.same s1⟩, okc, fun H2 s2 => ?_⟩
      have I2 := I1.same s2
      have hpt2 := s2 _ _ hpt1
      generalize hz : mean chs t.wo = z
      have ek : keysOf ((ts.take (i + 1)).map fun t => mean chs t.wo) = addK (keysOf ((ts.take i).map fun t => mean chs t.wo)) z := by
        rw [take_snoc ht, List.map_append, ← hz]
        exact keysOf_snoc _ _
      have kl := keysOf_len ((ts.take i).map fun t => mean chs t.wo)
      rw [List.length_map, List.length_take] at kl
      generalize keysOf ((ts.take i).map fun t => mean chs t.wo) = ks at I2 ek kl
      have s12 := s1.trans s2
      refine ⟨_, rfl, _, rfl, d, _, rfl, DGet.k (k := Sum.inr z) I2.dict, _, rfl, ?_⟩
      by_cases hm : z ∈ ks
      · rw [valV_in hm]
        refine iteF ?_
        obtain ⟨ns, hn, hne, hnl⟩ := I2.lst z hm
        have e1 : addK ks z = ks := if_pos hm
        have nd : d ≠ ad z := ne_of I2.dict hn (by intro q; cases q)
        refine ⟨_, rfl, _, rfl, d, .ref (ad z), rfl, ?_, .inl ⟨rfl, _, .inl (.inl hn)⟩, _, rfl, pt, _, _, _, rfl, rfl, .inl (.inl hpt2), atI_nat (j := 4) rfl, ad z, _, _, rfl, rfl, hn, ?_, ⟨_, _, rfl⟩, same_mut s12 (I2.new z hm), ad, ?_⟩
        · have := DGet.k (k := Sum.inr z) I2.dict
          rw [valV_in hm] at this
          exact this
        · rw [List.length_map]
          exact small1000 (by omega)
        · rw [ek, e1]
          refine ⟨by rw [upd_ne nd]; exact I2.dict, fun y hy => ?_, I2.inj, I2.new⟩
          by_cases c : y = z
          · subst c
            exact ⟨ns ++ [(t.age : Int)], by rw [upd_same, List.map_append]; rfl, by simp, by rw [List.length_append]; simp; omega⟩
          · obtain ⟨ms, h1, h2, h3⟩ := I2.lst y hy
            exact ⟨ms, by rw [upd_ne fun e => c (I2.inj y hy z hm e)]; exact h1, h2, by omega⟩
      · rw [valV_out hm]
        refine iteT ⟨lz, fun L hL => ⟨_, rfl, _, rfl, d, _, rfl, DPut.k (k := Sum.inr z) ((same_new hL) _ _ I2.dict) ?_, ?_⟩⟩
        · rw [kvZ_len]
          exact small1000 (by omega)
        have hv : valV (kvZ (fun z => V.ref (ad z)) ks) (Sum.inr z : Key) = none := valV_out hm
        have nLd : d ≠ L := ne_of_none I2.dict hL
        have s3 : Same H2 (upd H2 L (.lst [])) := same_new hL
        have hd3 := s3 _ _ I2.dict
        have hL3 : upd H2 L (.lst []) L = some (.lst []) := upd_same
        have hpt3 := s3 _ _ hpt2
        have I3 := I2.same s3
        have hL0 : H L = none := s12.free hL
        generalize upd H2 L (.lst []) = H3 at s3 hd3 hL3 hpt3 I3
        rw [putK_new _ hv]
        let ad' : Str → Addr := fun y => if y = z then L else ad y
        have eA : kvZ (fun z => V.ref (ad z)) ks ++ [(Sum.inr z, V.ref L)] = kvZ (fun y => V.ref (ad' y)) (ks ++ [z]) := by
          unfold kvZ
          rw [List.map_append]
          congr 1
          · refine List.map_congr_left fun y hy => ?_
            have : y ≠ z := fun e => hm (e ▸ hy)
            simp only [ad', if_neg this]
          · simp [ad']
        rw [eA]
        have e1 : addK ks z = ks ++ [z] := if_neg hm
        have hd4 : upd H3 d (.dK (kvZ (fun y => V.ref (ad' y)) (ks ++ [z]))) d = some (.dK (kvZ (fun y => V.ref (ad' y)) (ks ++ [z]))) := upd_same
        have hL4 : upd H3 d (.dK (kvZ (fun y => V.ref (ad' y)) (ks ++ [z]))) L = some (.lst []) := by
          rw [upd_ne nLd.symm]
          exact hL3
        have hpt4 : upd H3 d (.dK (kvZ (fun y => V.ref (ad' y)) (ks ++ [z]))) pt = some (.tup (telV t)) := by
          rw [upd_ne (ne_of hpt3 hd3 (by intro q; cases q))]
          exact hpt3
        have s14 : Same H (upd H3 d (.dK (kvZ (fun y => V.ref (ad' y)) (ks ++ [z])))) := same_mut (s12.trans s3) hd
        have old : ∀ y ∈ ks, ∃ ms : List Int, upd H3 d (.dK (kvZ (fun y => V.ref (ad' y)) (ks ++ [z]))) (ad y) = some (.lst (ms.map V.int)) ∧ ms ≠ [] ∧ ms.length ≤ i := fun y hy => by
          obtain ⟨ms, h1, h2, h3⟩ := I3.lst y hy
          exact ⟨ms, by rw [upd_ne (ne_of h1 hd3 (by intro q; cases q))]; exact h1, h2, h3⟩
        have nL : ∀ y ∈ ks, ad y ≠ L := fun y hy e => by
          obtain ⟨ms, h1, _⟩ := I2.lst y hy
          rw [e, hL] at h1
          cases h1
        generalize upd H3 d (.dK (kvZ (fun y => V.ref (ad' y)) (ks ++ [z]))) = H4 at hd4 hL4 hpt4 s14 old
        have nLd4 : d ≠ L := nLd
        refine ⟨_, rfl, _, rfl, d, .ref L, rfl, ?_, .inl ⟨rfl, _, .inl (.inl hL4)⟩, _, rfl, pt, _, _, _, rfl, rfl, .inl (.inl hpt4), atI_nat (j := 4) rfl, L, _, _, rfl, rfl, hL4, (by show 0 < sizeLine; decide), ⟨_, _, rfl⟩, same_mut s14 hL0, ad', ?_⟩
        · have := DGet.k (k := Sum.inr z) hd4
          have eL : ad' z = L := if_pos rfl
          rw [valV_in (by simp), eL] at this
          exact this
        · rw [ek, e1]
          refine ⟨by rw [upd_ne nLd]; exact hd4, fun y hy => ?_, fun y hy x hx e => ?_, fun y hy => ?_⟩
          · by_cases c : y = z
            · subst c
              exact ⟨[(t.age : Int)], by simp only [ad', if_true]; rw [upd_same]; rfl, by simp, by simp⟩
            · have hy' : y ∈ ks := by
                rcases List.mem_append.mp hy with h | h
                · exact h
                · exact absurd (List.mem_singleton.mp h) c
              obtain ⟨ms, h1, h2, h3⟩ := old y hy'
              refine ⟨ms, ?_, h2, by omega⟩
              simp only [ad', if_neg c]
              rw [upd_ne (nL y hy')]
              exact h1
          · have mm : ∀ u ∈ ks ++ [z], u ≠ z → u ∈ ks := fun u hu c => by
              rcases List.mem_append.mp hu with h | h
              · exact h
              · exact absurd (List.mem_singleton.mp h) c
            by_cases c1 : y = z
            · by_cases c2 : x = z
              · rw [c1, c2]
              · simp only [ad', if_pos c1, if_neg c2] at e
                exact absurd e.symm (nL x (mm x hx c2))
            · by_cases c2 : x = z
              · simp only [ad', if_neg c1, if_pos c2] at e
                exact absurd e (nL y (mm y hy c1))
              · simp only [ad', if_neg c1, if_neg c2] at e
                exact I2.inj y (mm y hy c1) x (mm x hx c2) e
          · by_cases c : y = z
            · simp only [ad', if_pos c]
              exact hL0
            · have hy' : y ∈ ks := by
                rcases List.mem_append.mp hy with h | h
                · exact h
                · exact absurd (List.mem_singleton.mp h) c
              simp only [ad', if_neg c]
              exact I2.new y hy'
    · rintro σ H1 ⟨⟨y3, y4, rfl⟩, s1, ad, I1⟩
      rw [List.length_map, hlen, List.take_length] at I1
      have kl := keysOf_len (ts.map fun t => mean chs t.wo)
      rw [List.length_map] at kl
      have kn := keysOf_nodup (ts.map fun t => mean chs t.wo)
      have ew : wordsIn chs ts = sortS (keysOf (ts.map fun t => mean chs t.wo)) := rfl
      generalize keysOf (ts.map fun t => mean chs t.wo) = ks at I1 kl kn ew
      refine ⟨_, rfl, d, _, rfl, I1.dict, fun a1 h1 => ?_⟩
      rw [kvZ_keys]
      dsimp only [tNil]
      refine sort_reads (K := K) (.inl (.inl upd_same)) fun a2 h2 => ?_
      have s3 : Same H1 (upd (upd H1 a1 (.lst (ks.map V.str))) a2 (.lst ((sortS ks).map V.str))) := (same_new h1).trans (same_new h2)
      have ha2 : upd (upd H1 a1 (.lst (ks.map V.str))) a2 (.lst ((sortS ks).map V.str)) a2 = some (.lst ((sortS ks).map V.str)) := upd_same
      generalize upd (upd H1 a1 (.lst (ks.map V.str))) a2 (.lst ((sortS ks).map V.str)) = H3 at s3 ha2
      have I3 := I1.same s3
      refine ⟨a2, rfl, ⟨_, .inl (.inl ha2)⟩, fun Dd hD => ?_⟩
      refine lc_rel (walk_list (K := K) (a := a2) (xs := (sortS ks).map V.str)) hD (fun _ => true) (fun x y H' => ∃ z p, ∃ a b n : Int, x = .str z ∧ y = .ref p ∧ H' p = some (.tup [.str z, .int a, .int b, .int n])) (fun H' s' => .inl (.inl (s' _ _ ha2))) (fun _ => rfl) (fun x H' _ _ Q' q' => q') ?_ ?_ ?_ ?_
      · intro x H' hx _ s' Q' q'
        obtain ⟨z, hz, rfl⟩ := List.mem_map.mp hx
        have hzk : z ∈ ks := mem_sortS.mp hz
        obtain ⟨ns, hn, hne, hnl⟩ := I3.lst z hzk
        have hdv : DGet H' d (.str z) (some (.ref (ad z))) := by
          have := DGet.k (k := Sum.inr z) (s' _ _ I3.dict)
          rw [valV_in hzk] at this
          exact this
        have hn' := s' _ _ hn
        have hp : 0 < ns.length := List.length_pos_iff.mpr hne
        refine ⟨_, rfl, _, rfl, _, rfl, d, _, rfl, hdv, ad z, ns, rfl, .inl (.inl hn'), hp, fun m1 _ _ => ⟨_, rfl, _, rfl, d, _, rfl, hdv, ad z, ns, rfl, .inl (.inl hn'), hp, fun m2 _ _ => ⟨_, rfl, _, rfl, d, _, rfl, hdv, ad z, _, rfl, .inl (.inl (.inl hn')), lz, fun p hp => ?_⟩⟩⟩
        exact q' _ _ (same_new hp) ⟨z, p, m1, m2, _, rfl, rfl, upd_same⟩
      · rintro x y H4 H5 acc hD4 x5 ⟨z, p, a, b, n, e1, e2, e3⟩
        exact ⟨z, p, a, b, n, e1, e2, x5 _ _ (ne_of e3 hD4 (by intro q; cases q)) e3⟩
      · rw [List.length_map, sortS_len]
        exact small1000 (by omega)
      · intro zs H4 s4 hD4 he
        rw [List.filter_eq_self.mpr fun _ _ => rfl] at he
        have key : ∀ {l : List Str} {zs : List V}, Each (fun (x z : V) => ∃ y p, ∃ a b n : Int, x = .str y ∧ z = .ref p ∧ H4 p = some (.tup [.str y, .int a, .int b, .int n])) (l.map V.str) zs → ∃ as : List Addr, zs = as.map V.ref ∧ Each (fun (p : Addr) (z : Str) => ∃ a b n : Int, H4 p = some (.tup [.str z, .int a, .int b, .int n])) as l := by
          intro l
          induction l with
          | nil =>
            intro zs h
            cases h
            exact ⟨[], rfl, .nil⟩
          | cons z r ih =>
            intro zs h
            cases h with
            | cons e t =>
              obtain ⟨y, p, a, b, n, e1, rfl, e3⟩ := e
              obtain ⟨as, rfl, h2⟩ := ih t
              have e1 := V.str.inj e1
              subst e1
              exact ⟨p :: as, rfl, .cons ⟨a, b, n, e3⟩ h2⟩
        obtain ⟨bs, rfl, hb⟩ := key he
        refine ⟨Dd, _, rfl, .inl ⟨.inl (.inl hD4), fun t ht => ?_⟩⟩
        have s5 := same_new (o := .tup (bs.map V.ref)) ht
        refine q t _ (((s1.trans s3).trans s4).trans s5) ?_
        rw [ew]
        exact ⟨bs, upd_same, hb.mono fun p z ⟨a, b, n, e⟩ => ⟨a, b, n, s5 _ _ e⟩⟩
end
end Wl



namespace Wl
open PySem PySem.Spec PyProof.Rows L2
theorem telV_inj' {t u : Tel} (h : telV t = telV u) : t = u := by
  cases t
  cases u
  simp only [telV, List.cons.injEq, V.str.injEq, V.int.injEq, V.bl.injEq, and_true] at h
  obtain ⟨h1, h2, h3, h4, h5, h6, h7⟩ := h
  have h5 := Int.ofNat.inj h5
  subst h1 h2 h3 h4 h5 h6 h7
  rfl
/-- a test of tellings, as a test of values -/
noncomputable def keepBy (H : Hp) (pr : Tel → Bool) (x : V) : Bool := open Classical in if h : ∃ t : Tel, ∃ p, x = .ref p ∧ H p = some (.tup (telV t)) then pr h.choose else false
theorem keepBy_at {H : Hp} {pr : Tel → Bool} {p : Addr} {t : Tel} (h : H p = some (.tup (telV t))) : keepBy H pr (.ref p) = pr t := by
  unfold keepBy
  have e : ∃ t : Tel, ∃ q, V.ref p = .ref q ∧ H q = some (.tup (telV t)) := ⟨t, p, rfl, h⟩
  rw [dif_pos e]
  obtain ⟨q, e1, e2⟩ := e.choose_spec
  have e1 := V.ref.inj e1
  subst e1
  rw [h] at e2
  rw [← telV_inj' (HO.tup.inj (Option.some.inj e2))]
theorem tels_filter {H H' : Hp} {pr : Tel → Bool} : ∀ {as : List Addr} {ts : List Tel}, TelsAt H as ts → TelsAt H' as ts → ∃ bs : List Addr, ((as.map V.ref).filter (keepBy H pr)).map id = bs.map V.ref ∧ TelsAt H' bs (ts.filter pr)
  | _, _, .nil, .nil => ⟨[], rfl, .nil⟩
  | _, _, .cons (a := p) (b := t) e r, .cons e' r' => by
    obtain ⟨bs, h1, h2⟩ := tels_filter (pr := pr) r r'
    rw [List.map_cons, List.filter_cons, keepBy_at e, List.filter_cons]
    by_cases c : pr t = true
    · rw [if_pos c, if_pos c]
      exact ⟨p :: bs, by rw [List.map_cons, h1]; rfl, .cons e' h2⟩
    · rw [if_neg c, if_neg c]
      exact ⟨bs, h1, h2⟩
section
variable {P : Program} {w : World} {K : PySem.W.Frag} {mg : Str → Option Value} {base : Heap} {f C D : Addr} {fd : FuncData}
/-- [t for t in tellings if ..] -/
theorem pick_tels {H1 : Hp} {a Dd : Addr} {as : List Addr} {ts : List Tel} {tt : TT} {te : TE} {slot : Nat} {vs : List Nat} {σ : L2.St} {Qd : Hp → Prop} (hl : H1 a = some (.lst (as.map V.ref))) (hT : TelsAt H1 as ts) (hD : H1 Dd = none) (pr : Tel → Bool) (hn : ts.length ≤ 200)
    (hw : ∀ x, wipe ((wipe σ vs).set slot (some x)) vs = wipe σ vs)
    (ht : ∀ (p : Addr) (t : Tel) (H : Hp), t ∈ ts → H p = some (.tup (telV t)) → Same H1 H → ∀ Q : Bool → Hp → Prop, Q (pr t) H → tt ((wipe σ vs).set slot (some (.ref p))) H Q)
    (he : ∀ (x : V) (H : Hp) (Q : VK), Q x H → te ((wipe σ vs).set slot (some x)) H Q)
    (hd : ∀ (bs : List Addr) (H : Hp), Same H1 H → H Dd = some (.lst (bs.map V.ref)) → TelsAt H bs (ts.filter pr) → Qd H) :
    ∃ W : Nat → Nat → Hp → Prop, (∃ m, W 0 m (upd H1 Dd (.lst []))) ∧ ∀ i m H, W i m H →
      ((Itl K a).stop i H ∧ Qd H) ∨ ((Itl K a).go i H ∧ ∃ Nx : Hp → Prop, (∀ H', Nx H' → ∃ m', m' < m ∧ W (i + 1) m' H') ∧ ∀ x H', (Itl K a).yld i H x H' → gName slot x (wipe σ vs) H' fun σ2 H2 => wipe σ2 vs = wipe σ vs ∧ tt σ2 H2 fun b H3 =>
        if b = true then te σ2 H3 fun y H4 => ∃ acc, H4 Dd = some (.lst acc) ∧ acc.length < sizeLine ∧ Nx (upd H4 Dd (.lst (acc ++ [y]))) else Nx H3) := by
  have hlen := hT.length
  refine lc_map (walk_list (K := K) (a := a) (xs := as.map V.ref)) hD (keepBy H1 pr) id (fun H' s' => .inl (.inl (s' _ _ hl))) hw ?_ ?_ ?_ ?_
  · intro x H' hx s' Q' q'
    obtain ⟨p, hp, rfl⟩ := List.mem_map.mp hx
    obtain ⟨i, hi, ei⟩ := List.mem_iff_getElem.mp hp
    obtain ⟨t, htm, hH⟩ := Each.get hT (i := i) (a := p) (by rw [List.getElem?_eq_getElem hi, ei])
    rw [keepBy_at hH] at q'
    exact ht p t H' (List.mem_of_getElem? htm) (s' _ _ hH) s' Q' q'
  · intro x H' hx _ _ Q' q'
    exact he x H' Q' q'
  · rw [List.length_map]
    exact small1000 (by omega)
  · intro H2 s2 hD2
    obtain ⟨bs, e1, e2⟩ := tels_filter (pr := pr) hT (hT.keep (tk_same s2))
    rw [e1] at hD2
    exact hd bs H2 s2 hD2 e2
/-! ### by_village -/
def ByV (H : Hp) (D : Addr) (nms : List Str) (chs : List Chg) (ts : List Tel) : Prop := ∃ ad : Str → Addr, H D = some (.dK (kvZ (fun z => .ref (ad z)) nms)) ∧ ∀ z ∈ nms, RowsT H (ad z) (wordsIn chs (ts.filter fun t => decide (t.v = z)))
def spByV : Sp := fun vs H Q _ => ∃ (tn l S : Addr) (nms : List Str) (as : List Addr) (ts : List Tel) (chs : List Chg), vs = [.ref tn, .ref l, .ref S] ∧ H tn = some (.tup (nms.map V.str)) ∧ nms.Nodup ∧ nms.length ≤ 36 ∧ H l = some (.lst (as.map V.ref)) ∧ TelsAt H as ts ∧ (∀ t ∈ ts, OkT t) ∧ ts.length ≤ 200 ∧ ChAt H S chs ∧ OkCs chs ∧
  ∀ (Dd : Addr) (H' : Hp), H Dd = none → Same H H' → ByV H' Dd nms chs ts → Q (.ref Dd) H'
abbrev nByV : List Str := ["names", "tellings", "changes", "name", "telling"]
theorem scByV : FnScope nByV ["names", "tellings", "changes"] (defScope sByV) := ⟨rfl, rfl, rfl, by decide +kernel, rfl, by decide +kernel, by decide +kernel⟩
theorem str_dec (a b : Str) : decide (V.str a = V.str b) = decide (a = b) := by
  by_cases h : a = b
  · subst h
    simp
  · rw [decide_eq_false h, decide_eq_false fun e => h (V.str.inj e)]
theorem ok_byv (F : Fun K "by_village" "by_village" sByV f fd) (hS : Has P w K mg base "summed_up" 6 ["tellings", "changes"] spSum) : FnOk P w K mg base CX0 7 f fd ["names", "tellings", "changes"] spByV := by
  refine F.ok scByV (fun vs H Q E h => ?_) (fun cdv A outer s H vs Q E hr h => ?_)
  · obtain ⟨tn, l, S, nms, as, ts, chs, rfl, _⟩ := h
    rfl
  · obtain ⟨tn, l, S, nms, as, ts, chs, rfl, hn, nd, n36, hl, hT, hok, h200, hC, okc, q⟩ := h
    refine ⟨_, pss_one (ps_ret (pe_dc (own := [("name", 3)]) (g := gName 3) (tt := tYes) (tk := tVar 3) (tv := tCall spSum [] E0 (tCons (tLc (iList K (tVar 1)) (gName 4) (tTest (tOp rEq (tOp (rIxT K) (tVar 4) (tC (.int 0))) (tVar 3))) (tVar 4) [4]) (tCons (tVar 2) tNil)))
      rfl scByV.nd (pi_tup (pv 0)) (blkOk_by (N := nByV) (sc := defScope sByV) (by decide +kernel)) (fun _ _ _ _ _ => pg_name (i := 3) scByV.nd rfl (.inr rfl)) (fun _ _ _ _ _ => pts_nil) (fun _ _ _ _ _ => pv 3)
      (fun _ _ _ _ _ => pe_h hS hr (pa_cons (pe_lc (own := [("telling", 4)]) (g := gName 4) (tt := tTest (tOp rEq (tOp (rIxT K) (tVar 4) (tC (.int 0))) (tVar 3))) (te := tVar 4) rfl scByV.nd (pi_list (pv 1)) (blkOk_by (N := nByV) (sc := { kind := .function, names := [(".0", .local), ("name", .cell), ("summed_up", .globalImplicit), ("changes", .cell), ("tellings", .cell)], isGenerator := false, isCoroutine := false }) (by decide +kernel))
        (fun _ _ _ _ _ => pg_name (i := 4) scByV.nd rfl (.inl rfl)) (fun _ _ _ _ _ => pts_one (pt_cmpR op_eq (pe_ix ix_tup (pv 4) pe_int (fun _ _ => rfl)) (pv 3) (nomark _))) (fun _ _ _ _ _ => pv 4)) (pa_cons (pv 2) pa_nil))))), ?_⟩
    refine ⟨_, rfl, tn, rfl, ⟨_, .inl (.inl hn)⟩, fun Dd hD => dc_it (walk_tup (K := K) (a := tn) (xs := nms.map V.str)) (fun i H' => Same H H' ∧ ByV H' Dd (nms.take i) chs ts) ⟨same_new hD, fun _ => 0, upd_same, fun z hz => by simp at hz⟩ (fun i H' _ h => .inl (.inl (h.1 _ _ hn))) ?_ ?_⟩
    · rintro i x H1 H2 hi ⟨s1, ad, hd1, hr1⟩ ⟨rfl, hx⟩
      rw [List.getElem?_map] at hx
      obtain ⟨z, hz, rfl⟩ := Option.map_eq_some_iff.mp hx
      have hl1 := s1 _ _ hl
      have hT1 : TelsAt H2 as ts := hT.keep (tk_same s1)
      refine ⟨rfl, yes_it ⟨_, rfl, _, rfl, l, rfl, ⟨_, .inl (.inl hl1)⟩, fun De hE => ?_⟩⟩
      refine pick_tels (K := K) hl1 hT1 hE (fun t => decide (t.v = z)) h200 (fun _ => rfl) ?_ (fun x H' Q' q' => ⟨_, rfl, q'⟩) ?_
      · intro p t H' _ hp _ Q' q'
        refine ⟨_, rfl, p, _, _, _, rfl, rfl, .inl (.inl hp), atI_nat (j := 0) rfl, _, rfl, rfl, _, rfl, ?_⟩
        rw [str_dec]
        exact q'
      · intro bs H3 s3 hE3 hb3
        refine ⟨_, rfl, De, S, bs, _, chs, rfl, hE3, hb3, fun t ht => hok t (List.mem_filter.mp ht).1, Nat.le_trans (List.length_filter_le _ _) h200, (hC.same s1).same s3, okc, fun t H4 s4 r4 => ?_⟩
        have s34 := s3.trans s4
        have hd4 := s34 _ _ hd1
        have hnew : z ∉ nms.take i := fun hm => by
          obtain ⟨j, hj, ej⟩ := List.mem_iff_getElem.mp hm
          rw [List.length_take] at hj
          rw [List.getElem_take] at ej
          obtain ⟨hi2, ei⟩ := List.getElem?_eq_some_iff.mp hz
          have := (List.getElem_inj nd).mp (ej.trans ei.symm)
          omega
        have hv : valV (kvZ (fun z => V.ref (ad z)) (nms.take i)) (Sum.inr z : Key) = none := valV_out hnew
        refine ⟨_, Sum.inr z, rfl, hd4, ?_, same_mut (s1.trans s34) hD, fun y => if y = z then t else ad y, ?_, fun y hy => ?_⟩
        · rw [kvZ_len, List.length_take]
          exact small1000 (by omega)
        · rw [putK_new _ hv, upd_same, take_snoc hz]
          unfold kvZ
          rw [List.map_append]
          congr 2
          congr 1
          · refine List.map_congr_left fun y hy => ?_
            have : y ≠ z := fun e => hnew (e ▸ hy)
            simp only [if_neg this]
          · simp
        · have tk := tk_updD (o := .dK (putK (kvZ (fun z => V.ref (ad z)) (nms.take i)) (Sum.inr z) (.ref t))) hd4
          by_cases c : y = z
          · subst c
            simp only [if_true]
            exact r4.keep tk
          · simp only [if_neg c]
            have hy' : y ∈ nms.take i := by
              rw [take_snoc hz] at hy
              rcases List.mem_append.mp hy with h | h
              · exact h
              · exact absurd (List.mem_singleton.mp h) c
            exact ((hr1 y hy').keep (tk_same s34)).keep tk
    · rintro H1 ⟨s1, h1⟩
      rw [List.length_map, List.take_length] at h1
      exact q Dd H1 hD s1 h1
end
end Wl



namespace Wl
open PySem PySem.Spec PyProof.Rows L2
abbrev sMap : Stmt := topS 66
abbrev sMInit : Stmt := inClass sMap 0
/-! A WordMap on the heap. -/
abbrev m1 (pl : Addr) : List (Str × V) := putF "land" (.ref pl) []
abbrev m2 (pl : Addr) (z : Str) : List (Str × V) := putF "thing" (.str z) (m1 pl)
abbrev m3 (pl : Addr) (z : Str) (S : Addr) : List (Str × V) := putF "changes" (.ref S) (m2 pl z)
abbrev m4 (pl : Addr) (z : Str) (S a : Addr) : List (Str × V) := putF "sure_words" (.ref a) (m3 pl z S)
abbrev m5 (pl : Addr) (z : Str) (S a b : Addr) : List (Str × V) := putF "doubtful_words" (.ref b) (m4 pl z S a)
abbrev mf (pl : Addr) (z : Str) (S a b c : Addr) : List (Str × V) := putF "said" (.ref c) (m5 pl z S a b)
theorem m3_land (pl : Addr) (z : Str) (S : Addr) : (m3 pl z S).lookup ("land" : Str) = some (.ref pl) := by
  unfold m3 m2 m1
  rw [lookup_putF, if_neg (by decide +kernel), lookup_putF, if_neg (by decide +kernel), lookup_putF, if_pos rfl]
theorem m5_sure (pl : Addr) (z : Str) (S a b : Addr) : (m5 pl z S a b).lookup ("sure_words" : Str) = some (.ref a) := by
  unfold m5 m4
  rw [lookup_putF, if_neg (by decide +kernel), lookup_putF, if_pos rfl]
theorem mf_land (pl : Addr) (z : Str) (S a b c : Addr) : (mf pl z S a b c).lookup ("land" : Str) = some (.ref pl) := by
  unfold mf m5 m4
  rw [lookup_putF, if_neg (by decide +kernel), lookup_putF, if_neg (by decide +kernel), lookup_putF, if_neg (by decide +kernel), m3_land]
theorem mf_changes (pl : Addr) (z : Str) (S a b c : Addr) : (mf pl z S a b c).lookup ("changes" : Str) = some (.ref S) := by
  unfold mf m5 m4 m3
  rw [lookup_putF, if_neg (by decide +kernel), lookup_putF, if_neg (by decide +kernel), lookup_putF, if_neg (by decide +kernel), lookup_putF, if_pos rfl]
theorem mf_said (pl : Addr) (z : Str) (S a b c : Addr) : (mf pl z S a b c).lookup ("said" : Str) = some (.ref c) := by
  unfold mf
  rw [lookup_putF, if_pos rfl]
theorem mf_no (pl : Addr) (z : Str) (S a b c : Addr) {m : Str} (h1 : ¬ m = "said" := by decide +kernel) (h2 : ¬ m = "doubtful_words" := by decide +kernel) (h3 : ¬ m = "sure_words" := by decide +kernel) (h4 : ¬ m = "changes" := by decide +kernel) (h5 : ¬ m = "thing" := by decide +kernel) (h6 : ¬ m = "land" := by decide +kernel) : (mf pl z S a b c).lookup m = none := by
  unfold mf m5 m4 m3 m2 m1
  rw [lookup_putF, if_neg h1, lookup_putF, if_neg h2, lookup_putF, if_neg h3, lookup_putF, if_neg h4, lookup_putF, if_neg h5, lookup_putF, if_neg h6]
  rfl
/-- what a map shows: of each village its words -/
def SaidAt (H : Hp) (d : Addr) (nms : List Str) (said : Str → List Str) : Prop := ∃ ad : Str → Addr, H d = some (.dK (kvZ (fun z => .ref (ad z)) nms)) ∧ ∀ z ∈ nms, H (ad z) = some (.tup ((said z).map V.str))
theorem SaidAt.keep {H H' : Hp} {d : Addr} {nms : List Str} {said : Str → List Str} (h : SaidAt H d nms said) (k : Keep H H') : SaidAt H' d nms said := by
  obtain ⟨ad, h1, h2⟩ := h
  exact ⟨ad, k _ _ (fun xs e => by cases e) h1, fun z hz => k _ _ (fun xs e => by cases e) (h2 z hz)⟩
structure MR where
  pl : Addr
  L : Addr
  S : Addr
  sd : Addr
  g : Grid
  z : Str
  chs : List Chg
  said : Str → List Str
structure MapAt (C W : Addr) (H : Hp) (p : Addr) (r : MR) : Prop where
  at_ : ∃ dx a b, H p = some (.ins W dx (mf r.pl r.z r.S a b r.sd))
  land : LandAt C H r.pl r.L r.g
  ch : ChAt H r.S r.chs
  said : SaidAt H r.sd (sortS (names r.g)) r.said
theorem MapAt.keep {C W : Addr} {H H' : Hp} {p : Addr} {r : MR} (h : MapAt C W H p r) (k : Keep H H') : MapAt C W H' p r := by
  obtain ⟨dx, a, b, e⟩ := h.at_
  exact ⟨⟨dx, a, b, k _ _ (fun xs e => by cases e) e⟩, h.land.keep k, h.ch.keep fun p xs e => k.tk p xs e, h.said.keep k⟩
theorem MapAt.same {C W : Addr} {H H' : Hp} {p : Addr} {r : MR} (h : MapAt C W H p r) (s : Same H H') : MapAt C W H' p r := h.keep (kp_same s)
structure TxtM (K : PySem.W.Frag) (mg : Str → Option Value) (W : Addr) : Prop where
  cl : Cls K W
  nL : NoAttr K W "land"
  nT : NoAttr K W "thing"
  nC : NoAttr K W "changes"
  nS : NoAttr K W "sure_words"
  nD : NoAttr K W "doubtful_words"
  nA : NoAttr K W "said"
  mgW : mg "WordMap" = some (.ref W)
/-- the tellings that a map shows -/
def shownOf (ts : List Tel) (z : Str) (lo hi : Nat) : List Tel := ts.filter fun t => decide (t.th = z) && (decide (lo ≤ t.age) && decide (t.age ≤ hi))
noncomputable def saidOf (chs : List Chg) (ts : List Tel) (z : Str) (lo hi : Nat) (y : Str) : List Str := wordsIn chs (((shownOf ts z lo hi).filter fun t => t.sure).filter fun t => decide (t.v = y))
/-- all but what stands at p is as it was -/
def But (p : Addr) (H H' : Hp) : Prop := ∀ b o, b ≠ p → H b = some o → H' b = some o
theorem But.upd {p : Addr} {H H' : Hp} {o : HO} (h : But p H H') : But p H (L2.upd H' p o) := fun b u n e => by
  rw [upd_ne n]
  exact h b u n e
theorem But.same {p : Addr} {H H1 H2 : Hp} (h : But p H H1) (s : Same H1 H2) : But p H H2 := fun b u n e => s _ _ (h b u n e)
theorem But.tk {p dx W : Addr} {fs : List (Str × V)} {H H' : Hp} (h : But p H H') (hp : H p = some (.ins W dx fs)) : TupKeep H H' := fun b xs e => h b _ (ne_of e hp (by intro z; cases z)) e
theorem gat_but {C D W g p dx : Addr} {H H' : Hp} {r : GR} {fs : List (Str × V)} (h : GatAt C D H g r) (hp : H p = some (.ins W dx fs)) (n1 : p ≠ g) (n2 : p ≠ r.pl) (k : But p H H') : GatAt C D H' g r := by
  obtain ⟨dg, e⟩ := h.at_
  exact ⟨⟨dg, k _ _ n1.symm e⟩, land_but h.land hp n2 k, k _ _ (ne_of h.told hp (by intro z; cases z)) h.told, h.tels.keep (k.tk hp), k _ _ (ne_of h.deeds hp (by intro z; cases z)) h.deeds, h.ne⟩
section
variable {P : Program} {w : World} {K : PySem.W.Frag} {mg : Str → Option Value} {base : Heap} {f C D W : Addr} {fd : FuncData}
abbrev FunI (K : PySem.W.Frag) (f : Addr) (fd : FuncData) : Prop := FunD K "__init__" "WordMap.__init__" (defArgs sMInit) (defBody sMInit) (defScope sMInit) [.non, .int 0, .int 120] [] f fd
abbrev psMI : List Str := ["self", "gathering", "thing", "changes", "least", "most"]
abbrev nMI : List Str := ["self", "gathering", "thing", "changes", "least", "most", "known", "told", "names", "telling", "name", "row"]
theorem scMI : FnScope nMI psMI (defScope sMInit) := ⟨rfl, rfl, rfl, by decide +kernel, rfl, by decide +kernel, by decide +kernel⟩
def HasTl (P : Program) (w : World) (K : PySem.W.Frag) (mg : Str → Option Value) (base : Heap) (C D : Addr) : Prop := ∃ f fd, FnOk P w K mg base CX0 1 f fd ["self", "keying"] (spTell C D) ∧ Meth K D "tellings" f ∧ FunT K f fd
def spMI (C D W : Addr) : Sp := fun vs H Q _ => ∃ (p dx g : Addr) (r : GR) (wd : Nat) (z : Str) (v : V) (chs : List Chg) (lo hi : Nat), vs = [.ref p, .ref g, .str z, v, .int (lo : Int), .int (hi : Int)] ∧ H p = some (.ins W dx []) ∧ GatAt C D H g r ∧ Good r.g wd ∧ (∀ t ∈ r.ts, OkT t) ∧ r.ts.length ≤ 200 ∧ IsWd z ∧ ChV H v chs ∧ OkCs chs ∧ lo ≤ hi ∧ hi ≤ 120 ∧
  ∀ (S d : Addr) (H' : Hp), But p H H' → MapAt C W H' p ⟨r.pl, r.L, S, d, r.g, z, chs, saidOf chs r.ts z lo hi⟩ → Q .non H'
theorem words_rows {H : Hp} : ∀ {as : List Addr} {ws : List Str} {zs : List V}, Each (fun (p : Addr) (z : Str) => ∃ a b n : Int, H p = some (.tup [.str z, .int a, .int b, .int n])) as ws → Each (fun (x z : V) => ∀ (p : Addr) (u : Str) (a b n : Int), x = .ref p → H p = some (.tup [.str u, .int a, .int b, .int n]) → z = .str u) (as.map V.ref) zs → zs = ws.map V.str
  | [], [], [], _, _ => rfl
  | [], [], _ :: _, _, h => nomatch h
  | [], _ :: _, _, h, _ => nomatch h
  | _ :: _, [], _, h, _ => nomatch h
  | _ :: _, _ :: _, [], _, h => nomatch h
  | a :: as, r :: g, z :: zs, .cons e t, .cons e' t' => by
    obtain ⟨x, y, n, e⟩ := e
    rw [e' a r x y n rfl e, words_rows t t']
    rfl
theorem ok_minit (F : FunI K f fd) (B : Bi mg) (T : Txt K mg C) (TG : TxtG K mg D) (TM : TxtM K mg W) (hCG : Has P w K mg base "check_gathering" 1 ["thing"] (spCheckG C D)) (hW : Has P w K mg base "check_word" 2 ["word"] spCheckW)
    (hCh : Has P w K mg base "checked_changes" 4 ["changes"] spChecked) (hA : Has P w K mg base "check_age" 3 ["age"] spCheckA) (hT : HasTl P w K mg base C D) (hN : HasM P w K mg base C "names" 1 ["self"] (spLNames C)) (hB : Has P w K mg base "by_village" 7 ["names", "tellings", "changes"] spByV) : FnOk P w K mg base CX0 8 f fd psMI (spMI C D W) := by
  obtain ⟨fT, fdT, FT, mT, FnT⟩ := hT
  obtain ⟨dsT, vT, bT⟩ := tell_b1 FnT
  refine okD F scMI (fun vs H Q E h => ?_) (fun cdv A outer s H vs Q E hr h => ?_)
  · obtain ⟨p, dx, g, r, wd, z, v, chs, lo, hi, rfl, _⟩ := h
    rfl
  · obtain ⟨p, dx, g, r, wd, z, v, chs, lo, hi, rfl, hp, hG, gd, hok, h200, hz, hv, okc, hlo, hhi, q⟩ := h
    have hu := hu_of hr
    refine ⟨_, pss_cons (ps_expr (pe_h hCG hr (pa_cons (pv 1) pa_nil)))
      (pss_cons (ps_expr (pe_h hW hr (pa_cons (pv 2) pa_nil)))
      (pss_cons (ps_set (i := 6) scMI.nd rfl (.inl rfl) (pe_h hCh hr (pa_cons (pv 3) pa_nil)))
      (pss_cons (ps_expr (pe_h hA hr (pa_cons (pv 4) pa_nil)))
      (pss_cons (ps_expr (pe_h hA hr (pa_cons (pv 5) pa_nil)))
      (pss_cons (ps_if (pt_cmpR op_lt (pv 5) (pv 4) (nomark _)) (pss_one ps_never) pss_nil)
      (pss_cons (ps_fld (pv 0) (pe_fld (pv 1) rfl) rfl)
      (pss_cons (ps_fld (pv 0) (pv 2) rfl)
      (pss_cons (ps_fld (pv 0) (pv 6) rfl)
      (pss_cons (ps_setLc (i := 7) (own := [("telling", 9)]) (g := gName 9) (tt := tAnd (tTest (tOp rEq (tOp (rIxT K) (tVar 9) (tC (.int 1))) (tVar 2))) (tTest (tChain (rI0 fun i j => .bl (decide (i ≤ j))) (rI0 fun i j => .bl (decide (i ≤ j))) (tVar 4) (tOp (rIxT K) (tVar 9) (tC (.int 4))) (tVar 5)))) (te := tVar 9) rfl scMI.nd rfl rfl (sw_true rfl rfl rfl (by decide +kernel)) (pi_list (pe_meth0 (pv 1) TG.cl mT FT (hr.mono (by decide)) bT vT pass0)) (blkOk_by (N := nMI) (sc := defScope sMInit) (by decide +kernel))
        (fun _ _ _ _ _ => pg_name (i := 9) scMI.nd rfl (.inl rfl)) (fun _ _ _ _ _ => pts_one (PW.pt (pw_and (pt_cmpR op_eq (pe_ix ix_tup (pv 9) pe_int (fun _ _ => rfl)) (pv 2) (nomark _)) (pw_and1 (pt_chain op_le op_le (pv 4) (pe_ix ix_tup (pv 9) pe_int (fun _ _ => rfl)) (pv 5)))))) (fun _ _ _ _ _ => pv 9))
      (pss_cons (ps_set (i := 8) scMI.nd rfl (.inl rfl) (pe_hm0 hN T.cl hr (pe_fld (pv 0) rfl)))
      (pss_cons (ps_fld (pv 0) (pe_h hB hr (pa_cons (pv 8) (pa_cons (pe_lc (own := [("telling", 9)]) (g := gName 9) (tt := tB (tOp (rIxT K) (tVar 9) (tC (.int 6)))) (te := tVar 9) rfl scMI.nd (pi_list (pv 7)) (blkOk_by (N := nMI) (sc := defScope sMInit) (by decide +kernel)) (fun _ _ _ _ _ => pg_name (i := 9) scMI.nd rfl (.inl rfl)) (fun _ _ _ _ _ => pts_one (pt_val (pe_ix ix_tup (pv 9) pe_int (fun _ _ => rfl)))) (fun _ _ _ _ _ => pv 9)) (pa_cons (pv 6) pa_nil)))) rfl)
      (pss_cons (ps_fld (pv 0) (pe_h hB hr (pa_cons (pv 8) (pa_cons (pe_lc (own := [("telling", 9)]) (g := gName 9) (tt := tNot (tB (tOp (rIxT K) (tVar 9) (tC (.int 6))))) (te := tVar 9) rfl scMI.nd (pi_list (pv 7)) (blkOk_by (N := nMI) (sc := defScope sMInit) (by decide +kernel)) (fun _ _ _ _ _ => pg_name (i := 9) scMI.nd rfl (.inl rfl)) (fun _ _ _ _ _ => pts_one (pt_not (pt_val (pe_ix ix_tup (pv 9) pe_int (fun _ _ => rfl))))) (fun _ _ _ _ _ => pv 9)) (pa_cons (pv 6) pa_nil)))) rfl)
      (pss_one (ps_fld (pv 0) (pe_dc (own := [("name", 10)]) (g := gName 10) (tt := tYes) (tk := tVar 10) (tv := tCB (fun xs H Q => ∃ p ys, xs = [.ref p] ∧ ((SqL K H p ys ∧ ∀ l, H l = none → Q (.ref l) (upd H l (.tup ys))) ∨ (SqT K H p ys ∧ Q (.ref p) H))) (tCons (tLc (iTup K (tDGet (tFld K (tVar 0) "sure_words") (tVar 10))) (gName 11) tYes (tOp (rIxT K) (tVar 11) (tC (.int 0))) [11]) tNil))
        rfl scMI.nd (pi_tup (pv 8)) (blkOk_by (N := nMI) (sc := defScope sMInit) (by decide +kernel)) (fun _ _ _ _ _ => pg_name (i := 10) scMI.nd rfl (.inl rfl)) (fun _ _ _ _ _ => pts_nil) (fun _ _ _ _ _ => pv 10)
        (fun _ _ _ _ _ => pe_callTy call_tuple_of (by rfl) B.tuple (by decide +kernel) (pa_cons (pe_lc (own := [("row", 11)]) (g := gName 11) (tt := tYes) (te := tOp (rIxT K) (tVar 11) (tC (.int 0))) rfl scMI.nd (pi_tup (pe_dget hu (pe_fld (pv 0) rfl) (pv 10) (fun _ _ => rfl))) (blkOk_by (N := nMI) (sc := { kind := .function, names := [(".0", .local), ("name", .local), ("tuple", .globalImplicit), ("self", .cell)], isGenerator := false, isCoroutine := false }) (by decide +kernel))
          (fun _ _ _ _ _ => pg_name (i := 11) scMI.nd rfl (.inl rfl)) (fun _ _ _ _ _ => pts_nil) (fun _ _ _ _ _ => pe_ix ix_tup (pv 11) pe_int (fun _ _ => rfl))) pa_nil))) rfl)))))))))))))), ?_⟩
    refine ⟨_, rfl, g, r, rfl, hG, ?_⟩
    refine ⟨_, rfl, z, rfl, hz, fun H1 s1 => ?_⟩
    refine ⟨_, rfl, v, chs, rfl, hv.same s1, okc, fun S H2 s2 hS => ?_⟩
    refine ⟨_, rfl, lo, rfl, by omega, ?_⟩
    refine ⟨_, rfl, hi, rfl, by omega, ?_⟩
    refine ⟨_, rfl, _, rfl, _, _, rfl, rfl, _, rfl, ?_⟩
    rw [decide_eq_false (show ¬ ((hi : Int) < (lo : Int)) by omega)]
    refine iteF ?_
    have s02 := s1.trans s2
    have hG2 := hG.same s02
    have hp2 := s02 _ _ hp
    have npg : p ≠ g := fun e => by
      obtain ⟨dg, eg⟩ := hG2.at_
      rw [← e, hp2] at eg
      have := (HO.ins.inj (Option.some.inj eg)).2.2
      have l := gf_land r.pl r.td r.dd
      rw [← this] at l
      cases l
    have npl : p ≠ r.pl := fun e => by
      obtain ⟨dl, d, el⟩ := hG2.land.ins
      rw [← e, hp2] at el
      have := (HO.ins.inj (Option.some.inj el)).2.2
      have l := lf_rows d r.L
      rw [← this] at l
      cases l
    obtain ⟨dg, hg2⟩ := hG2.at_
    refine ⟨_, rfl, g, D, dg, _, _, rfl, hg2, TG.cl, TG.nL, gf_land _ _ _, _, rfl, p, W, dx, [], rfl, hp2, TM.cl, TM.nL, (by show 0 < 1000; decide), ?_⟩
    refine ⟨_, rfl, _, rfl, p, W, dx, m1 r.pl, rfl, upd_same, TM.cl, TM.nT, (by show 1 < 1000; decide), ?_⟩
    refine ⟨_, rfl, _, rfl, p, W, dx, m2 r.pl z, rfl, upd_same, TM.cl, TM.nC, (by show 2 < 1000; decide), ?_⟩
    have k5 : But p H2 (L2.upd (L2.upd (L2.upd H2 p (.ins W dx (m1 r.pl))) p (.ins W dx (m2 r.pl z))) p (.ins W dx (m3 r.pl z S))) := But.upd (But.upd (But.upd fun b o _ e => e))
    have hp5 : L2.upd (L2.upd (L2.upd H2 p (.ins W dx (m1 r.pl))) p (.ins W dx (m2 r.pl z))) p (.ins W dx (m3 r.pl z S)) p = some (.ins W dx (m3 r.pl z S)) := upd_same
    generalize L2.upd (L2.upd (L2.upd H2 p (.ins W dx (m1 r.pl))) p (.ins W dx (m2 r.pl z))) p (.ins W dx (m3 r.pl z S)) = H5 at k5 hp5
    have hG5 := gat_but hG2 hp2 npg npl k5
    have hS5 : ChAt H5 S chs := hS.keep (k5.tk hp2)
    have k05 : But p H H5 := fun b o n e => k5 b o n (s02 _ _ e)
    obtain ⟨dg5, hg5⟩ := hG5.at_
    refine ⟨_, rfl, g, dg5, _, rfl, hg5, gf_no _ _ _, g, r, rfl, hG5, fun l hl => ⟨l, rfl, ⟨_, .inl (.inl upd_same)⟩, fun Dd hD => ?_⟩⟩
    have s6 := same_new (o := .lst (r.as.map V.ref)) hl
    have hl6 : L2.upd H5 l (.lst (r.as.map V.ref)) l = some (.lst (r.as.map V.ref)) := upd_same
    generalize L2.upd H5 l (.lst (r.as.map V.ref)) = H6 at s6 hl6 hD
    refine pick_tels (K := K) hl6 (hG5.tels.keep (tk_same s6)) hD (fun t => decide (t.th = z) && (decide (lo ≤ t.age) && decide (t.age ≤ hi))) h200 (fun _ => rfl) ?_ (fun x H' Q' q' => ⟨_, rfl, q'⟩) ?_
    · intro pt t H' _ hpt _ Q' q'
      refine ⟨_, rfl, pt, _, _, _, rfl, rfl, .inl (.inl hpt), atI_nat (j := 1) rfl, _, rfl, rfl, _, rfl, ?_⟩
      rw [str_dec]
      refine ite_b (fun e => ?_) (fun e => ?_)
      · rw [e, Bool.true_and] at q'
        refine ⟨_, rfl, _, rfl, pt, _, _, _, rfl, rfl, .inl (.inl hpt), atI_nat (j := 4) rfl, _, _, rfl, rfl, _, rfl, ite_b (fun e2 => ?_) (fun e2 => ?_)⟩
        · refine ⟨_, rfl, _, _, rfl, rfl, _, rfl, ?_⟩
          have e3 : decide (lo ≤ t.age) = true := decide_eq_true (by have := of_decide_eq_true e2; omega)
          have e4 : decide ((t.age : Int) ≤ (hi : Int)) = decide (t.age ≤ hi) := by
            by_cases c : t.age ≤ hi
            · rw [decide_eq_true c, decide_eq_true (by omega)]
            · rw [decide_eq_false c, decide_eq_false (by omega)]
          rw [e3, Bool.true_and] at q'
          rw [e4]
          exact q'
        · have e3 : decide (lo ≤ t.age) = false := decide_eq_false (by have := of_decide_eq_false e2; omega)
          rw [e3, Bool.false_and] at q'
          exact ⟨false, rfl, q'⟩
      · rw [e, Bool.false_and] at q'
        exact q'
    intro bs H7 s7 hD7 hb7
    have s57 := s6.trans s7
    have eT : (r.ts.filter fun t => decide (t.th = z) && (decide (lo ≤ t.age) && decide (t.age ≤ hi))) = shownOf r.ts z lo hi := rfl
    rw [eT] at hb7
    have okS : ∀ t ∈ shownOf r.ts z lo hi, OkT t := fun t ht => hok t (List.mem_filter.mp ht).1
    have lenS : (shownOf r.ts z lo hi).length ≤ 200 := Nat.le_trans (List.length_filter_le _ _) h200
    have esd : saidOf chs r.ts z lo hi = fun y => wordsIn chs (((shownOf r.ts z lo hi).filter fun t => t.sure).filter fun t => decide (t.v = y)) := rfl
    generalize shownOf r.ts z lo hi = ts at hb7 okS lenS esd
    have hp7 := s57 _ _ hp5
    have hL7 := hG5.land.same s57
    obtain ⟨dl7, dd7, hl7⟩ := hL7.ins
    refine ⟨_, rfl, p, W, dx, _, _, rfl, hp7, TM.cl, TM.nL, m3_land _ _ _, r.pl, dl7, _, rfl, hl7, fs_no, r.pl, r.L, r.g, wd, rfl, hL7, gd, fun tn H8 ntn s8 htn => ?_⟩
    have nds : (sortS (names r.g)).Nodup := sortS_nodup gd.nd
    have n36 : (sortS (names r.g)).length ≤ 36 := by
      rw [sortS_len]
      have a1 := len_names gd.rows
      have a3 : r.g.length * wd ≤ 6 * 6 := Nat.mul_le_mul gd.h6 gd.w6
      omega
    -- the sure ones
    have hD8 := s8 _ _ hD7
    have hb8 : TelsAt H8 bs ts := hb7.keep (tk_same s8)
    refine ⟨_, rfl, _, rfl, Dd, rfl, ⟨_, .inl (.inl hD8)⟩, fun De hE => ?_⟩
    refine pick_tels (K := K) hD8 hb8 hE (fun t => t.sure) lenS (fun _ => rfl) (fun pt t H' _ hpt _ Q' q' => ⟨_, rfl, pt, _, _, _, rfl, rfl, .inl (.inl hpt), atI_nat (j := 6) rfl, _, rfl, q'⟩) (fun x H' Q' q' => ⟨_, rfl, q'⟩) ?_
    intro cs H9 s9 hE9 hc9
    have s89 := s8.trans s9
    refine ⟨_, rfl, tn, De, S, _, cs, _, chs, rfl, s9 _ _ htn, nds, n36, hE9, hc9, fun t ht => okS t (List.mem_filter.mp ht).1, Nat.le_trans (List.length_filter_le _ _) lenS, (hS5.same s57).same s89, okc, fun D1 H10 nD1 s10 bv1 => ?_⟩
    have s710 := s89.trans s10
    have hp10 := s710 _ _ hp7
    refine ⟨_, rfl, p, W, dx, m3 r.pl z S, rfl, hp10, TM.cl, TM.nS, (by show 3 < 1000; decide), ?_⟩
    have k11 : But p H5 (L2.upd H10 p (.ins W dx (m4 r.pl z S D1))) := But.upd fun b o _ e => s710 _ _ (s57 _ _ e)
    have k10 : But p H10 (L2.upd H10 p (.ins W dx (m4 r.pl z S D1))) := But.upd fun b o _ e => e
    have hp11 : L2.upd H10 p (.ins W dx (m4 r.pl z S D1)) p = some (.ins W dx (m4 r.pl z S D1)) := upd_same
    have nlst : ∀ {a : Addr} {xs : List V}, H10 a = some (.lst xs) → a ≠ p := fun e => ne_of e hp10 (by intro q; cases q)
    have hD11 := k10 _ _ (nlst (s9.trans s10 _ _ hD8)) (s9.trans s10 _ _ hD8)
    have htn11 := k10.tk hp10 _ _ (s9.trans s10 _ _ htn)
    have hb11 : TelsAt (L2.upd H10 p (.ins W dx (m4 r.pl z S D1))) bs ts := (hb8.keep (tk_same (s9.trans s10))).keep (k10.tk hp10)
    have hS11 : ChAt (L2.upd H10 p (.ins W dx (m4 r.pl z S D1))) S chs := ((hS5.same s57).same s710).keep (k10.tk hp10)
    have bv11 : ByV (L2.upd H10 p (.ins W dx (m4 r.pl z S D1))) D1 (sortS (names r.g)) chs (ts.filter fun t => t.sure) := by
      obtain ⟨ad, h1, h2⟩ := bv1
      exact ⟨ad, k10 _ _ (ne_of h1 hp10 (by intro q; cases q)) h1, fun y hy => (h2 y hy).keep (k10.tk hp10)⟩
    generalize L2.upd H10 p (.ins W dx (m4 r.pl z S D1)) = H11 at k11 hp11 hD11 htn11 hb11 hS11 bv11
    -- the doubtful ones
    refine ⟨_, rfl, _, rfl, Dd, rfl, ⟨_, .inl (.inl hD11)⟩, fun Df hF => ?_⟩
    refine pick_tels (K := K) hD11 hb11 hF (fun t => !t.sure) lenS (fun _ => rfl) (fun pt t H' _ hpt _ Q' q' => ⟨_, rfl, pt, _, _, _, rfl, rfl, .inl (.inl hpt), atI_nat (j := 6) rfl, _, rfl, q'⟩) (fun x H' Q' q' => ⟨_, rfl, q'⟩) ?_
    intro es H12 s12 hF12 hc12
    refine ⟨_, rfl, tn, Df, S, _, es, _, chs, rfl, s12 _ _ htn11, nds, n36, hF12, hc12, fun t ht => okS t (List.mem_filter.mp ht).1, Nat.le_trans (List.length_filter_le _ _) lenS, hS11.same s12, okc, fun D2 H13 nD2 s13 bv2 => ?_⟩
    have s1113 := s12.trans s13
    have hp13 := s1113 _ _ hp11
    refine ⟨_, rfl, p, W, dx, m4 r.pl z S D1, rfl, hp13, TM.cl, TM.nD, (by show 4 < 1000; decide), ?_⟩
    have k13 : But p H13 (L2.upd H13 p (.ins W dx (m5 r.pl z S D1 D2))) := But.upd fun b o _ e => e
    have k14 : But p H5 (L2.upd H13 p (.ins W dx (m5 r.pl z S D1 D2))) := But.upd fun b o n e => s1113 _ _ (k11 b o n e)
    have hp14 : L2.upd H13 p (.ins W dx (m5 r.pl z S D1 D2)) p = some (.ins W dx (m5 r.pl z S D1 D2)) := upd_same
    have htn14 := k13.tk hp13 _ _ (s1113 _ _ htn11)
    have bv14 : ByV (L2.upd H13 p (.ins W dx (m5 r.pl z S D1 D2))) D1 (sortS (names r.g)) chs (ts.filter fun t => t.sure) := by
      obtain ⟨ad, h1, h2⟩ := bv11
      have h1' := s1113 _ _ h1
      exact ⟨ad, k13 _ _ (ne_of h1' hp13 (by intro q; cases q)) h1', fun y hy => ((h2 y hy).keep (tk_same s1113)).keep (k13.tk hp13)⟩
    generalize L2.upd H13 p (.ins W dx (m5 r.pl z S D1 D2)) = H14 at k14 hp14 htn14 bv14
    obtain ⟨ad, hd14, hr14⟩ := bv14
    -- what is said
    refine ⟨_, rfl, tn, rfl, ⟨_, .inl (.inl htn14)⟩, fun Ds hDs => dc_it (walk_tup (K := K) (a := tn) (xs := (sortS (names r.g)).map V.str)) (fun i H' => Same H14 H' ∧ SaidAt H' Ds ((sortS (names r.g)).take i) (saidOf chs r.ts z lo hi)) ⟨same_new hDs, fun _ => 0, upd_same, fun z hz => by simp at hz⟩ (fun i H' _ h => .inl (.inl (h.1 _ _ htn14))) ?_ ?_⟩
    · rintro i x H15 H16 hi' ⟨s15, ad2, hd15, hr15⟩ ⟨rfl, hx⟩
      rw [List.getElem?_map] at hx
      obtain ⟨y, hy, rfl⟩ := Option.map_eq_some_iff.mp hx
      have hym := List.mem_of_getElem? hy
      obtain ⟨as2, ha2, hb2⟩ := hr14 y hym
      have hdv : DGet H16 D1 (.str y) (some (.ref (ad y))) := by
        have := DGet.k (k := Sum.inr y) (s15 _ _ hd14)
        rw [valV_in hym] at this
        exact this
      have hay := s15 _ _ ha2
      refine ⟨rfl, yes_it ⟨_, rfl, _, rfl, p, W, dx, _, _, rfl, s15 _ _ hp14, TM.cl, TM.nS, m5_sure _ _ _ _ _, _, rfl, D1, _, rfl, hdv, ad y, rfl, ⟨_, .inl (.inl hay)⟩, fun Dr hDr => ?_⟩⟩
      have hlen2 := hb2.length
      have hw2 : (wordsIn chs ((ts.filter fun t => t.sure).filter fun t => decide (t.v = y))).length ≤ 200 := by
        unfold wordsIn
        rw [sortS_len]
        refine Nat.le_trans (keysOf_len _) ?_
        rw [List.length_map]
        exact Nat.le_trans (List.length_filter_le _ _) (Nat.le_trans (List.length_filter_le _ _) lenS)
      refine lc_rel (walk_tup (K := K) (a := ad y) (xs := as2.map V.ref)) hDr (fun _ => true) (fun x u _ => ∀ (p : Addr) (v : Str) (a b n : Int), x = .ref p → H14 p = some (.tup [.str v, .int a, .int b, .int n]) → u = .str v) (fun H' s' => .inl (.inl (s' _ _ hay))) (fun _ => rfl) (fun x H' _ _ Q' q' => q') ?_ (fun _ _ _ _ _ _ _ r => r) ?_ ?_
      · intro x H' hx _ s' Q' q'
        obtain ⟨pr, hpr, rfl⟩ := List.mem_map.mp hx
        obtain ⟨k, hk, ek⟩ := List.mem_iff_getElem.mp hpr
        obtain ⟨u, hu2, a, b, n, hH⟩ := Each.get hb2 (i := k) (a := pr) (by rw [List.getElem?_eq_getElem hk, ek])
        refine ⟨_, rfl, pr, _, _, .str u, rfl, rfl, .inl (.inl (s' _ _ (s15 _ _ hH))), atI_nat (j := 0) rfl, ?_⟩
        refine q' _ _ (Same.refl _) fun p' v a' b' n' e1 e2 => ?_
        have e1 := V.ref.inj e1
        subst e1
        rw [hH] at e2
        have := HO.tup.inj (Option.some.inj e2)
        simp only [List.cons.injEq] at this
        exact this.1
      · rw [List.length_map]
        exact small1000 (by omega)
      · intro zs H17 s17 hD17 he
        rw [List.filter_eq_self.mpr fun _ _ => rfl] at he
        have ez := words_rows hb2 he
        rw [ez] at hD17
        refine ⟨Dr, _, rfl, .inl ⟨.inl (.inl hD17), fun tt htt => ?_⟩⟩
        have s18 := same_new (o := .tup ((wordsIn chs ((ts.filter fun t => t.sure).filter fun t => decide (t.v = y))).map V.str)) htt
        have s1518 := s17.trans s18
        have hd18 := s1518 _ _ hd15
        have htt18 : L2.upd H17 tt (.tup ((wordsIn chs ((ts.filter fun t => t.sure).filter fun t => decide (t.v = y))).map V.str)) tt = some (.tup ((saidOf chs r.ts z lo hi y).map V.str)) := by
          rw [upd_same, esd]
        generalize L2.upd H17 tt (.tup ((wordsIn chs ((ts.filter fun t => t.sure).filter fun t => decide (t.v = y))).map V.str)) = H18 at s18 s1518 hd18 htt18
        have hnew : y ∉ (sortS (names r.g)).take i := fun hm => by
          obtain ⟨j, hj, ej⟩ := List.mem_iff_getElem.mp hm
          rw [List.length_take] at hj
          rw [List.getElem_take] at ej
          obtain ⟨hi2, ei⟩ := List.getElem?_eq_some_iff.mp hy
          have := (List.getElem_inj nds).mp (ej.trans ei.symm)
          omega
        have hv : valV (kvZ (fun z => V.ref (ad2 z)) ((sortS (names r.g)).take i)) (Sum.inr y : Key) = none := valV_out hnew
        refine ⟨_, Sum.inr y, rfl, hd18, ?_, same_mut (s15.trans s1518) hDs, fun u => if u = y then tt else ad2 u, ?_, fun u hu3 => ?_⟩
        · rw [kvZ_len, List.length_take]
          exact small1000 (by omega)
        · rw [putK_new _ hv, upd_same, take_snoc hy]
          unfold kvZ
          rw [List.map_append]
          congr 2
          congr 1
          · refine List.map_congr_left fun u hu3 => ?_
            have : u ≠ y := fun e => hnew (e ▸ hu3)
            simp only [if_neg this]
          · simp
        · have tk := tk_updD (o := .dK (putK (kvZ (fun z => V.ref (ad2 z)) ((sortS (names r.g)).take i)) (Sum.inr y) (.ref tt))) hd18
          by_cases c : u = y
          · subst c
            simp only [if_true]
            exact tk _ _ htt18
          · simp only [if_neg c]
            have hu' : u ∈ (sortS (names r.g)).take i := by
              rw [take_snoc hy] at hu3
              rcases List.mem_append.mp hu3 with h | h
              · exact h
              · exact absurd (List.mem_singleton.mp h) c
            exact tk _ _ (s1518 _ _ (hr15 u hu'))
    · rintro H15 ⟨s15, sd15⟩
      rw [List.length_map, List.take_length] at sd15
      have hp15 := s15 _ _ hp14
      refine ⟨_, rfl, p, W, dx, m5 r.pl z S D1 D2, rfl, hp15, TM.cl, TM.nA, (by show 5 < 1000; decide), ?_⟩
      have k16 : But p H15 (L2.upd H15 p (.ins W dx (mf r.pl z S D1 D2 Ds))) := But.upd fun b o _ e => e
      have k516 : But p H5 (L2.upd H15 p (.ins W dx (mf r.pl z S D1 D2 Ds))) := But.upd fun b o n e => s15 _ _ (k14 b o n e)
      refine q S Ds _ (fun b o n e => k516 b o n (k05 b o n e)) ⟨⟨dx, D1, D2, upd_same⟩, land_but hG5.land hp5 npl k516, hS5.keep (k516.tk hp5), ?_⟩
      obtain ⟨ad3, h1, h2⟩ := sd15
      exact ⟨ad3, k16 _ _ (ne_of h1 hp15 (by intro q; cases q)) h1, fun y hy => k16.tk hp15 _ _ (h2 y hy)⟩
end
end Wl



/-! A comprehension whose test makes objects. -/
namespace Wl
open PySem PySem.Spec PyProof.Rows L2
section
variable {J : It} {ys : List V} {G : Hp → Prop} {slot : Nat} {tt : TT} {te : TE} {vs : List Nat} {σ : L2.St} {H1 : Hp} {D : Addr} {Qd : Hp → Prop}
theorem lc_keepX (w : L2.Walk J ys.length G (YAt ys)) (hD : H1 D = none) (keep : V → Bool) (hG : ∀ H, Same H1 H → G H) (hw : ∀ x, wipe ((wipe σ vs).set slot (some x)) vs = wipe σ vs)
    (ht : ∀ (x : V) (H : Hp), x ∈ ys → Same H1 H → ∀ Q : Bool → Hp → Prop, (∀ H', Same H H' → Q (keep x) H') → tt ((wipe σ vs).set slot (some x)) H Q)
    (he : ∀ (x : V) (H : Hp) (Q : VK), Q x H → te ((wipe σ vs).set slot (some x)) H Q)
    (hn : ys.length < sizeLine)
    (hd : ∀ H, Same H1 H → H D = some (.lst (ys.filter keep)) → Qd H) :
    ∃ W : Nat → Nat → Hp → Prop, (∃ m, W 0 m (upd H1 D (.lst []))) ∧ ∀ i m H, W i m H →
      (J.stop i H ∧ Qd H) ∨ (J.go i H ∧ ∃ Nx : Hp → Prop, (∀ H', Nx H' → ∃ m', m' < m ∧ W (i + 1) m' H') ∧ ∀ x H', J.yld i H x H' → gName slot x (wipe σ vs) H' fun σ2 H2 => wipe σ2 vs = wipe σ vs ∧ tt σ2 H2 fun b H3 =>
        if b = true then te σ2 H3 fun y H4 => ∃ acc, H4 D = some (.lst acc) ∧ acc.length < sizeLine ∧ Nx (upd H4 D (.lst (acc ++ [y]))) else Nx H3) := by
  refine lc_it w (fun i H => Same H1 H ∧ H D = some (.lst ((ys.take i).filter keep))) ⟨same_new hD, upd_same⟩ (fun i H _ h => hG H h.1) ?_ ?_
  · rintro i x H H' hi ⟨s, hz⟩ ⟨rfl, hx⟩
    have hm : x ∈ ys := List.mem_of_getElem? hx
    refine ⟨hw x, ht x _ hm s _ fun H3 s3 => ?_⟩
    have hf := filter_take_snoc (p := keep) hx
    refine ite_b (fun e => ?_) (fun e => ?_)
    · refine he x _ _ ⟨_, s3 _ _ hz, ?_, same_mut (s.trans s3) hD, ?_⟩
      · have h2 : ((ys.take i).filter keep).length ≤ (ys.take i).length := List.length_filter_le _ _
        have h3 : (ys.take i).length ≤ ys.length := List.length_take_le' _ _
        omega
      · rw [upd_same, hf, if_pos e]
    · refine ⟨s.trans s3, ?_⟩
      rw [hf, if_neg (by rw [e]; decide), List.append_nil]
      exact s3 _ _ hz
  · rintro H ⟨s, hz⟩
    rw [List.take_length] at hz
    exact hd H s hz
end
end Wl

namespace Wl
open PySem PySem.Spec PyProof.Rows L2
abbrev sMHave : Stmt := inClass sMap 3
abbrev sBoth : Stmt := topS 68
abbrev sDoPart : Stmt := topS 69
theorem Good.n36 {g : Grid} {wd : Nat} (gd : Good g wd) : (names g).length ≤ 36 := by
  have a1 := len_names gd.rows
  have a3 : g.length * wd ≤ 6 * 6 := Nat.mul_le_mul gd.h6 gd.w6
  omega
def bothB (said : Str → List Str) (a b : Str) : Bool := !(said a).isEmpty && !(said b).isEmpty
def partB (said : Str → List Str) (a b : Str) : Bool := bothB said a b && ((said a).filter fun z => decide (z ∈ said b)).isEmpty
theorem pos_dec {α : Type} (l : List α) : decide ((0 : Int) < (l.length : Int)) = !l.isEmpty := by
  cases l with
  | nil => rfl
  | cons a r =>
    refine decide_eq_true ?_
    rw [List.length_cons]
    omega
theorem zero_dec {α : Type} (l : List α) : decide (V.int (l.length : Int) = V.int 0) = l.isEmpty := by
  cases l with
  | nil => rfl
  | cons a r =>
    refine decide_eq_false fun e => ?_
    have := V.int.inj e
    rw [List.length_cons] at this
    omega
section
variable {P : Program} {w : World} {K : PySem.W.Frag} {mg : Str → Option Value} {base : Heap} {f C D W : Addr} {fd : FuncData}
theorem SaidAt.get {H : Hp} {d : Addr} {nms : List Str} {said : Str → List Str} (h : SaidAt H d nms said) {z : Str} (hz : z ∈ nms) : ∃ t, DGet H d (.str z) (some (.ref t)) ∧ H t = some (.tup ((said z).map V.str)) := by
  obtain ⟨ad, h1, h2⟩ := h
  refine ⟨ad z, ?_, h2 z hz⟩
  have := DGet.k (k := Sum.inr z) h1
  rw [valV_in hz] at this
  exact this
/-! ### have -/
def spHave (C W : Addr) : Sp := fun vs H Q _ => ∃ (p : Addr) (z : Str) (r : MR) (wd : Nat), vs = [.ref p, .str z] ∧ MapAt C W H p r ∧ Good r.g wd ∧ OkCs r.chs ∧ IsWd z ∧
  ∀ (t : Addr) (H' : Hp), H t = none → Same H H' → H' t = some (.tup (((sortS (names r.g)).filter fun y => decide (mean r.chs z ∈ r.said y)).map V.str)) → Q (.ref t) H'
abbrev nHave : List Str := ["self", "word", "meant", "name"]
theorem scHave : FnScope nHave ["self", "word"] (defScope sMHave) := ⟨rfl, rfl, rfl, by decide +kernel, rfl, by decide +kernel, by decide +kernel⟩
def keepH (said : Str → List Str) (m : Str) : V → Bool
  | .str y => decide (m ∈ said y)
  | _ => false
theorem keepH_filter (said : Str → List Str) (m : Str) : ∀ l : List Str, ((l.map V.str).filter (keepH said m)).map id = (l.filter fun y => decide (m ∈ said y)).map V.str
  | [] => rfl
  | y :: l => by
    have ih := keepH_filter said m l
    rw [List.map_id] at ih ⊢
    rw [List.map_cons, List.filter_cons, List.filter_cons]
    have e : keepH said m (.str y) = decide (m ∈ said y) := rfl
    rw [e]
    by_cases c : decide (m ∈ said y) = true
    · rw [if_pos c, if_pos c, ih]
      rfl
    · rw [if_neg c, if_neg c, ih]
theorem ok_have (F : Fun K "have" "WordMap.have" sMHave f fd) (B : Bi mg) (T : Txt K mg C) (TM : TxtM K mg W) (hM : HasN P w K mg base "meaning" wMean 5 ps2 spMean) (hN : HasM P w K mg base C "names" 1 ["self"] (spLNames C)) : FnOk P w K mg base CX0 6 f fd ["self", "word"] (spHave C W) := by
  obtain ⟨fM, fdM, FM, mM, NM⟩ := hM
  have bM := bindM2 NM
  refine F.ok scHave (fun vs H Q E h => ?_) (fun cdv A outer s H vs Q E hr h => ?_)
  · obtain ⟨p, z, r, wd, rfl, _⟩ := h
    rfl
  · obtain ⟨p, z, r, wd, rfl, hM, gd, okc, hz, q⟩ := h
    have hu := hu_of hr
    refine ⟨_, pss_cons (ps_set (i := 2) scHave.nd rfl (.inr rfl) (pe_call FM hr rfl mM NM.kp bM .nil pass0 (pa_cons (pv 1) (pa_cons (pe_fld (pv 0) rfl) pa_nil))))
      (pss_one (ps_ret (pe_callTy call_tuple_of (by rfl) B.tuple (by decide +kernel) (pa_cons (pe_lc (own := [("name", 3)]) (g := gName 3) (tt := tTest (tOp (rIn K false) (tVar 2) (tDGet (tFld K (tVar 0) "said") (tVar 3)))) (te := tVar 3) rfl scHave.nd (pi_tup (pe_hm0 hN T.cl hr (pe_fld (pv 0) rfl))) (blkOk_by (N := nHave) (sc := defScope sMHave) (by decide +kernel))
        (fun _ _ _ _ _ => pg_name (i := 3) scHave.nd rfl (.inl rfl)) (fun _ _ _ _ _ => pts_one (pt_cmpR op_in_seq (pv 2) (pe_dget hu (pe_fld (pv 0) rfl) (pv 3) (fun _ _ => rfl)) (by rfl))) (fun _ _ _ _ _ => pv 3)) pa_nil)))), ?_⟩
    obtain ⟨dx, a, b, hp⟩ := hM.at_
    refine ⟨_, rfl, _, rfl, p, W, dx, _, _, rfl, hp, TM.cl, TM.nC, mf_changes _ _ _ _ _ _, z, .ref r.S, r.chs, rfl, hz, .inr ⟨r.S, rfl, hM.ch⟩, okc, fun H1 s1 => ?_⟩
    have hM1 := hM.same s1
    obtain ⟨dx1, a1, b1, hp1⟩ := hM1.at_
    obtain ⟨dl, d, hl1⟩ := hM1.land.ins
    refine ⟨_, rfl, p, W, dx1, _, _, rfl, hp1, TM.cl, TM.nL, mf_land _ _ _ _ _ _, r.pl, dl, _, rfl, hl1, fs_no, r.pl, r.L, r.g, wd, rfl, hM1.land, gd, fun tn H2 ntn s2 htn => ⟨tn, rfl, ⟨_, .inl (.inl htn)⟩, fun Dd hD => ?_⟩⟩
    have hM2 := hM1.same s2
    refine lc_map (walk_tup (K := K) (a := tn) (xs := (sortS (names r.g)).map V.str)) hD (keepH r.said (mean r.chs z)) id (fun H' s' => .inl (.inl (s' _ _ htn))) (fun _ => rfl) ?_ ?_ ?_ ?_
    · intro x H' hx s' Q' q'
      obtain ⟨y, hy, rfl⟩ := List.mem_map.mp hx
      have hM3 := hM2.same s'
      obtain ⟨dx3, a3, b3, hp3⟩ := hM3.at_
      obtain ⟨t, ht1, ht2⟩ := hM3.said.get hy
      refine ⟨_, rfl, _, rfl, p, W, dx3, _, _, rfl, hp3, TM.cl, TM.nA, mf_said _ _ _ _ _ _, _, rfl, r.sd, _, rfl, ht1, t, _, rfl, .inr (.inl (.inl ht2)), rfl, flat_strs _, _, rfl, ?_⟩
      have e : inV (.str (mean r.chs z)) ((r.said y).map V.str) = keepH r.said (mean r.chs z) (.str y) := inV_strs _ _
      rw [if_neg (by decide), e]
      exact q'
    · intro x H' hx _ _ Q' q'
      exact ⟨_, rfl, q'⟩
    · rw [List.length_map, sortS_len]
      exact small1000 (by have := gd.n36; omega)
    · intro H3 s3 hD3
      rw [keepH_filter] at hD3
      refine ⟨Dd, _, rfl, .inl ⟨.inl (.inl hD3), fun t ht => ?_⟩⟩
      exact q t _ (((s1.trans s2).trans s3).free ht) (((s1.trans s2).trans s3).trans (same_new ht)) upd_same
/-! ### check_map -/
/-! ### both_asked -/
def spBoth (C W : Addr) : Sp := fun vs H Q _ => ∃ (p t : Addr) (r : MR) (a b : Str), vs = [.ref p, .ref t] ∧ MapAt C W H p r ∧ H t = some (.tup [.str a, .str b]) ∧ a ∈ sortS (names r.g) ∧ b ∈ sortS (names r.g) ∧ Q (.bl (bothB r.said a b)) H
abbrev nBoth : List Str := ["wordmap", "pair", "name", "other"]
theorem scBoth : FnScope nBoth ["wordmap", "pair"] (defScope sBoth) := ⟨rfl, rfl, rfl, by decide +kernel, rfl, by decide +kernel, by decide +kernel⟩
theorem ok_both (F : Fun K "both_asked" "both_asked" sBoth f fd) (B : Bi mg) (TM : TxtM K mg W) : FnOk P w K mg base CX0 1 f fd ["wordmap", "pair"] (spBoth C W) := by
  refine F.ok scBoth (fun vs H Q E h => ?_) (fun cdv A outer s H vs Q E hr h => ?_)
  · obtain ⟨p, t, r, a, b, rfl, _⟩ := h
    rfl
  · obtain ⟨p, t, r, a, b, rfl, hM, ht, ha, hb, q⟩ := h
    have hu := hu_of hr
    refine ⟨_, pss_cons (ps_asg (pv 1) (pg_tup rfl (pgs_cons (pg_name (i := 2) scBoth.nd rfl (.inl rfl)) (pgs_cons (pg_name (i := 3) scBoth.nd rfl (.inl rfl)) pgs_nil))))
      (pss_one (ps_ret (pe_and (pe_cmpR op_gt (pe_callB call_len_seq (by rfl) B.len PySem.boot_len (pa_cons (pe_dget hu (pe_fld (pv 0) rfl) (pv 2) (fun _ _ => rfl)) pa_nil)) pe_int (nomark _)) (pe_one (pe_cmpR op_gt (pe_callB call_len_seq (by rfl) B.len PySem.boot_len (pa_cons (pe_dget hu (pe_fld (pv 0) rfl) (pv 3) (fun _ _ => rfl)) pa_nil)) pe_int (nomark _)))))), ?_⟩
    obtain ⟨dx, a0, b0, hp⟩ := hM.at_
    obtain ⟨t1, h1, h2⟩ := hM.said.get ha
    obtain ⟨t2, h3, h4⟩ := hM.said.get hb
    refine ⟨_, rfl, t, _, rfl, .inl (.inl ht), rfl, _, _, rfl, _, _, rfl, rfl, ?_⟩
    refine ⟨_, rfl, p, W, dx, _, _, rfl, hp, TM.cl, TM.nA, mf_said _ _ _ _ _ _, _, rfl, r.sd, _, rfl, h1, t1, _, rfl, .inr (.inl (.inl h2)), _, _, rfl, rfl, _, rfl, ?_⟩
    have e1 : decide ((0 : Int) < ((((r.said a).map V.str).length : Nat) : Int)) = !(r.said a).isEmpty := by
      rw [List.length_map]
      exact pos_dec _
    have e2 : decide ((0 : Int) < ((((r.said b).map V.str).length : Nat) : Int)) = !(r.said b).isEmpty := by
      rw [List.length_map]
      exact pos_dec _
    unfold bothB at q
    refine ite_b (fun e => ?_) (fun e => ?_)
    · have e' : (!(r.said a).isEmpty) = true := e1.symm.trans e
      rw [e', Bool.true_and] at q
      refine ⟨_, rfl, p, W, dx, _, _, rfl, hp, TM.cl, TM.nA, mf_said _ _ _ _ _ _, _, rfl, r.sd, _, rfl, h3, t2, _, rfl, .inr (.inl (.inl h4)), _, _, rfl, rfl, ?_⟩
      rw [← e2] at q
      exact q
    · have e' : (!(r.said a).isEmpty) = false := e1.symm.trans e
      rw [e', Bool.false_and] at q
      exact q
/-! ### do_part -/
def spDoPart (C W : Addr) : Sp := fun vs H Q _ => ∃ (p t : Addr) (r : MR) (a b : Str), vs = [.ref p, .ref t] ∧ MapAt C W H p r ∧ H t = some (.tup [.str a, .str b]) ∧ a ∈ sortS (names r.g) ∧ b ∈ sortS (names r.g) ∧ (r.said a).length ≤ 200 ∧ ∀ (H' : Hp), Same H H' → Q (.bl (partB r.said a b)) H'
abbrev nDoPart : List Str := ["wordmap", "pair", "name", "other", "common", "word"]
theorem scDoPart : FnScope nDoPart ["wordmap", "pair"] (defScope sDoPart) := ⟨rfl, rfl, rfl, by decide +kernel, rfl, by decide +kernel, by decide +kernel⟩
def keepW (ws : List Str) : V → Bool
  | .str y => decide (y ∈ ws)
  | _ => false
theorem keepW_filter (ws : List Str) : ∀ l : List Str, ((l.map V.str).filter (keepW ws)).map id = (l.filter fun y => decide (y ∈ ws)).map V.str
  | [] => rfl
  | y :: l => by
    have ih := keepW_filter ws l
    rw [List.map_id] at ih ⊢
    rw [List.map_cons, List.filter_cons, List.filter_cons]
    have e : keepW ws (.str y) = decide (y ∈ ws) := rfl
    rw [e]
    by_cases c : decide (y ∈ ws) = true
    · rw [if_pos c, if_pos c, ih]
      rfl
    · rw [if_neg c, if_neg c, ih]
theorem ok_dopart (F : Fun K "do_part" "do_part" sDoPart f fd) (B : Bi mg) (TM : TxtM K mg W) (hBo : Has P w K mg base "both_asked" 1 ["wordmap", "pair"] (spBoth C W)) : FnOk P w K mg base CX0 2 f fd ["wordmap", "pair"] (spDoPart C W) := by
  refine F.ok scDoPart (fun vs H Q E h => ?_) (fun cdv A outer s H vs Q E hr h => ?_)
  · obtain ⟨p, t, r, a, b, rfl, _⟩ := h
    rfl
  · obtain ⟨p, t, r, a, b, rfl, hM, ht, ha, hb, l200, q⟩ := h
    have hu := hu_of hr
    refine ⟨_, pss_cons (ps_asg (pv 1) (pg_tup rfl (pgs_cons (pg_name (i := 2) scDoPart.nd rfl (.inl rfl)) (pgs_cons (pg_name (i := 3) scDoPart.nd rfl (.inr rfl)) pgs_nil))))
      (pss_cons (ps_setLc (i := 4) (own := [("word", 5)]) (g := gName 5) (tt := tTest (tOp (rIn K false) (tVar 5) (tDGet (tFld K (tVar 0) "said") (tVar 3)))) (te := tVar 5) rfl scDoPart.nd rfl rfl (sw_true rfl rfl rfl (by decide +kernel)) (pi_tup (pe_dget hu (pe_fld (pv 0) rfl) (pv 2) (fun _ _ => rfl))) (blkOk_by (N := nDoPart) (sc := defScope sDoPart) (by decide +kernel))
        (fun _ _ _ _ _ => pg_name (i := 5) scDoPart.nd rfl (.inl rfl)) (fun _ _ _ _ _ => pts_one (pt_cmpR op_in_seq (pv 5) (pe_dget hu (pe_fld (pv 0) rfl) (pv 3) (fun _ _ => rfl)) (by rfl))) (fun _ _ _ _ _ => pv 5))
      (pss_one (ps_ret (pe_and (pe_h hBo hr (pa_cons (pv 0) (pa_cons (pv 1) pa_nil))) (pe_one (pe_cmpR op_eq (pe_callB call_len_seq (by rfl) B.len PySem.boot_len (pa_cons (pv 4) pa_nil)) pe_int (nomark _))))))), ?_⟩
    obtain ⟨dx, a0, b0, hp⟩ := hM.at_
    obtain ⟨t1, h1, h2⟩ := hM.said.get ha
    refine ⟨_, rfl, t, _, rfl, .inl (.inl ht), rfl, _, _, rfl, _, _, rfl, rfl, ?_⟩
    refine ⟨_, rfl, p, W, dx, _, _, rfl, hp, TM.cl, TM.nA, mf_said _ _ _ _ _ _, _, rfl, r.sd, _, rfl, h1, t1, rfl, ⟨_, .inl (.inl h2)⟩, fun Dd hD => ?_⟩
    refine lc_map (walk_tup (K := K) (a := t1) (xs := (r.said a).map V.str)) hD (keepW (r.said b)) id (fun H' s' => .inl (.inl (s' _ _ h2))) (fun _ => rfl) ?_ ?_ ?_ ?_
    · intro x H' hx s' Q' q'
      obtain ⟨y, hy, rfl⟩ := List.mem_map.mp hx
      have hM3 := hM.same s'
      obtain ⟨dx3, a3, b3, hp3⟩ := hM3.at_
      obtain ⟨t2, ht1, ht2⟩ := hM3.said.get hb
      refine ⟨_, rfl, _, rfl, p, W, dx3, _, _, rfl, hp3, TM.cl, TM.nA, mf_said _ _ _ _ _ _, _, rfl, r.sd, _, rfl, ht1, t2, _, rfl, .inr (.inl (.inl ht2)), rfl, flat_strs _, _, rfl, ?_⟩
      have e : inV (.str y) ((r.said b).map V.str) = keepW (r.said b) (.str y) := inV_strs _ _
      rw [if_neg (by decide), e]
      exact q'
    · intro x H' hx _ _ Q' q'
      exact ⟨_, rfl, q'⟩
    · rw [List.length_map]
      exact small1000 (by omega)
    · intro H3 s3 hD3
      rw [keepW_filter] at hD3
      have hM3 := hM.same s3
      refine ⟨_, rfl, _, rfl, p, t, r, a, b, rfl, hM3, s3 _ _ ht, ha, hb, _, rfl, ?_⟩
      unfold partB at q
      refine ite_b (fun e => ?_) (fun e => ?_)
      · rw [e, Bool.true_and] at q
        refine ⟨_, rfl, Dd, _, rfl, .inl (.inl (.inl hD3)), rfl, ?_⟩
        have e2 : decide (V.int ((((r.said a).filter fun y => decide (y ∈ r.said b)).map V.str).length : Int) = V.int 0) = ((r.said a).filter fun z => decide (z ∈ r.said b)).isEmpty := by
          rw [List.length_map]
          exact zero_dec _
        rw [e2]
        exact q H3 s3
      · rw [e, Bool.false_and] at q
        exact q H3 s3
end
end Wl



/-! Sets of texts, whole: set(xs), {e for ..}, sorted(a set). -/
namespace Wl
open PySem PySem.Spec PyProof.Rows L2
open PySem.Froz (SD sObj TxOk addTx tailTx)
theorem tail_ris {ep : Nat} {es : Array (Int × Value)} {t : SetTable} {b : Bool} (r : Ris t.place.toList) : Ris (tailTx ep es t b).2.2.place.toList := by
  unfold tailTx
  split
  · exact relayAll_ris _ _ _
  · exact r
theorem tail_led {ep : Nat} {es : Array (Int × Value)} {t : SetTable} {b : Bool} : (tailTx ep es t b).2.2.led = t.led := by
  unfold tailTx
  split
  · exact relayAll_led _ _ _
  · rfl
theorem add_ris {h : Int} {v : Value} {D : SD} (r : Ris D.2.2.place.toList) : Ris (addTx h v D).2.2.place.toList := by
  unfold addTx
  refine tail_ris ?_
  split
  · exact layNew_ris _ _ _ _ r
  · exact layNew_ris _ _ _ _ r
theorem add_led {h : Int} {v : Value} {D : SD} : (addTx h v D).2.2.led = D.2.2.led := by
  unfold addTx
  rw [tail_led]
  split
  · exact layNew_led _ _ _ _
  · exact layNew_led _ _ _ _
/-- the set at a holds the texts l, each once -/
structure SetX (P : Program) (w : World) (h : Heap) (a : Addr) (l : List Str) : Prop where
  nd : l.Nodup
  ob : ∃ D : SD, h.get? a = some (sObj "set" D) ∧ TxOk P w D l ∧ Ris D.2.2.place.toList ∧ (w.params.followText "set-order" = true ∨ D.2.2.led = true)
section
variable {P : Program} {w : World} {A : Around} {E : Value → Shared → Prop} {s : Shared} {a : Addr} {l : List Str} {k : Str} {u : Tok}
theorem SetX.at {h h' : Heap} (R : SetX P w h a l) (q : ∀ o, h.get? a = some o → h'.get? a = some o) : SetX P w h' a l := by
  obtain ⟨D, h1, h2⟩ := R.ob
  exact ⟨R.nd, D, q _ h1, h2⟩
/-- a text that is there already -/
theorem add_old {T : String} {D : SD} {Q : Bool → Shared → Prop} (hob : s.heap.get? a = some (sObj T D)) (F : TxOk P w D l) (hk : k ∈ l) (hb : l.length < scanBound) (h : Q false s) : wpAny (model P w) A (setAddHashed a (.str k u) (hashStr w k)) Q E s := by
  obtain ⟨es, ep, t⟩ := D
  have hdt : (sObj T (es, ep, t)).data = .set es ep t := rfl
  have hft : t.fits es.size = true := F.fit
  have hels : ElemsOf (strKind P w) es.toList := F.el
  have hn : es.size < scanBound := by rw [show es.size = l.length from F.sz]; exact hb
  have hks : (strKind P w).is k (.str k u) = true := PySem.Froz.is_str k u
  obtain ⟨j, hj⟩ : ∃ j, List.findIdx? (fun e => (strKind P w).is k e.2) es.toList = some j := by
    obtain ⟨e, he, hq⟩ := (F.mem k).mp hk
    cases hr : List.findIdx? (fun e => (strKind P w).is k e.2) es.toList with
    | some j => exact ⟨j, rfl⟩
    | none =>
      have := List.findIdx?_eq_none_iff.mp hr e he
      rw [hq] at this
      cases this
  unfold setAddHashed setAddHashedIn
  refine wpAny_holding (wpAny_bind (wpAny_setState_of hob hdt hft ?_))
  dsimp only
  rw [byScan_of rfl hn hels]
  simp only [↓reduceIte]
  unfold setAddByScan
  refine wpAny_bind (wpAny_bind (wpAny_rule (wpAny_bind (wpAny_setScan_of (knd := strKind P w) (k := k) hks hob hdt hft hels ?_))))
  rw [hj]
  dsimp only
  exact wpAny_pure (wpAny_pure h)
/-- a text put in -/
theorem setX_put {Q : Bool → Shared → Prop} (R : SetX P w s.heap a l) (room : l.length + 1 < scanBound)
    (hQ : ∀ (b : Bool) (h' : Heap) (l' : List Str), (∀ c o, c ≠ a → s.heap.get? c = some o → h'.get? c = some o) → SetX P w h' a l' → (∀ z, z ∈ l' ↔ z ∈ l ∨ z = k) → l'.length ≤ l.length + 1 → Q b { s with heap := h', toks := s.toks + 1 }) :
    wpAny (model P w) A (setAdd a (.str k u)) Q E s := by
  obtain ⟨D, h1, F, r, hl⟩ := R.ob
  unfold setAdd
  refine wpAny_holding (wpAny_bind ((PySem.strKind P w).pyHash (k := k) (strKind_is _ _ _ _) ?_))
  by_cases hk : k ∈ l
  · refine add_old (s := { s with toks := s.toks + 1 }) h1 F hk (by omega) (hQ false s.heap l (fun _ _ _ e => e) R (fun z => ?_) (Nat.le_succ _))
    constructor
    · exact .inl
    · rintro (e | e)
      · exact e
      · rw [e]
        exact hk
  · refine PySem.Froz.add_x (s := { s with toks := s.toks + 1 }) h1 F hk room (hQ true _ (k :: l) (fun c o n e => ?_) ⟨List.nodup_cons.mpr ⟨hk, R.nd⟩, _, PySem.Froz.get_upd _ h1 rfl, PySem.Froz.add_ok u F, add_ris r, ?_⟩ (fun z => ?_) (Nat.le_refl _))
    · exact (Heap.get?_update_other _ _ (Ne.symm n)).trans e
    · rw [add_led]
      exact hl
    · rw [List.mem_cons]
      exact Or.comm
end
section
variable {P : Program} {w : World} {A : Around} {R : Result → Shared → Prop} {I S : Addr} {fp wr : List Addr} {G : Array GenState → Array GenState → Prop} {n : Nat} {Pv : Nat → Value → Prop} {St : Nat → Shared → Prop} {xs : List Str}
/-- the texts of a walk, put in one by one -/
theorem walk_setX (W : WalksS P w A.in1 I fp wr G n Pv St) (hS : S ∉ fp) (hn : n = xs.length) (hb : n + 1 < scanBound) (hv : ∀ i v, Pv i v → ∃ x t, xs[i]? = some x ∧ v = .str x t) :
    ∀ (m i : Nat) (s : Shared) (l : List Str), n - i = m → i ≤ n → St i s → SetX P w s.heap S l → (∀ z, z ∈ l ↔ z ∈ xs.take i) → l.length ≤ i →
      (∀ s' l', Moved (S :: wr) G s s' → SetX P w s'.heap S l' → (∀ z, z ∈ l' ↔ z ∈ xs) → l'.length ≤ n → R (.ok (.ret .none)) s') → codeAny (model P w) A (.builtin "set.update.loop" ⟨[.ref S, .ref I], []⟩) R s := by
  have nS : S ∉ wr := fun q => hS (W.sub _ q)
  have wide : ∀ b ∈ wr, b ∈ S :: wr := fun b q => List.mem_cons_of_mem _ q
  intro m
  induction m with
  | zero =>
    intro i s l hm hi st X hz hl fin
    have e : i = n := by omega
    subst e
    refine codeAny_builtin PyProof.Rows.F.entry_set_update_loop ((Around.under_plainId PyProof.Rows.F.plain_set_update_loop _).symm ▸ ?_)
    show wpAny _ A.in1 (pyNext (.ref I) >>= _) _ _ s
    refine wpAny_bind (W.done s _ _ st fun s' mv => wpAny_pure (fin s' l (mv.mono wide) (X.at fun o q => mv.heap S o nS q) (fun z => ?_) hl))
    rw [hz, hn, List.take_length]
  | succ m ih =>
    intro i s l hm hi st X hz hl fin
    have lt : i < n := by omega
    refine codeAny_builtin PyProof.Rows.F.entry_set_update_loop ((Around.under_plainId PyProof.Rows.F.plain_set_update_loop _).symm ▸ ?_)
    show wpAny _ A.in1 (pyNext (.ref I) >>= _) _ _ s
    refine wpAny_bind (W.item i s _ _ lt st fun v s' pv st' mv => ?_)
    obtain ⟨x, t, hx, rfl⟩ := hv i v pv
    have X1 := X.at (h' := s'.heap) fun o q => mv.heap S o nS q
    show wpAny _ A.in1 (holding [Value.str x t] (setAdd S (.str x t)) >>= _) _ _ s'
    refine wpAny_bind (wpAny_holding (setX_put X1 (by omega) fun b h' l' kp X2 hz2 hl2 => ?_))
    refine wpAny_pure ⟨plainId_quiet PyProof.Rows.F.plain_set_update_loop _, ih (i + 1) _ l' (by omega) lt (W.frame _ s' _ _ st' (Nat.le_succ _) fun c hc o q => ?_) X2 (fun z => ?_) (by omega) fun s'' l'' mv2 X3 hz3 hl3 => fin s'' l'' (Moved.trans W.gtrans ((mv.mono wide).then_heap (Nat.le_succ _) fun c o hc q => ?_) mv2) X3 hz3 hl3⟩
    · exact kp c o (fun e => hS (e ▸ hc)) q
    · rw [hz2, hz, List.take_add_one, hx, List.mem_append]
      simp
    · exact kp c o (fun e => hc (e ▸ List.mem_cons_self)) q
end
theorem texts_each : ∀ {ys : List Str} {us : List Value}, Vals (ys.map V.str) us → ∀ (i : Nat) (v : Value), us[i]? = some v → ∃ x t, ys[i]? = some x ∧ v = .str x t
  | [], [], _, i, v, h => by simp at h
  | [], _ :: _, r, _, _, _ => nomatch r
  | _ :: _, [], r, _, _, _ => nomatch r
  | y :: ys, u :: us, .cons r t, 0, v, h => by
    obtain ⟨k, rfl⟩ := r
    exact ⟨y, k, rfl, (Option.some.inj h).symm⟩
  | y :: ys, u :: us, .cons r t, i + 1, v, h => by
    obtain ⟨x, k, h1, h2⟩ := texts_each t i v (by simpa using h)
    exact ⟨x, k, by simpa using h1, h2⟩
end Wl

namespace Wl
open PySem PySem.Spec PyProof.Rows L2
open PySem.Froz (SD sObj TxOk addTx tailTx)
/-- a new set, as the world lays it -/
abbrev setN (w : World) : Obj := { cls := .type "set", dict := none, data := .set #[] 0 (.fresh 0 0 (!w.params.followText "set-order")) }
theorem setX_new {P : Program} {w : World} {h : Heap} {a : Addr} (ho : h.get? a = some (setN w)) : SetX P w h a [] := by
  refine ⟨List.nodup_nil, (#[], 0, .fresh 0 0 (!w.params.followText "set-order")), ho, PySem.Froz.TxOk.nil rfl, List.Pairwise.nil, ?_⟩
  show _ ∨ (!w.params.followText "set-order") = true
  cases w.params.followText "set-order"
  · exact .inr rfl
  · exact .inl rfl
section
variable {P : Program} {w : World} {A : Around} {E : Value → Shared → Prop} {s : Shared} {xs : List Str}
theorem make_setX {l : Addr} {items : Array Value} {Q : Value → Shared → Prop} (hh : A.handled = none) (hl : s.heap.IsList l items) (r : Vals (xs.map V.str) items.toList) (hb : xs.length + 1 < scanBound)
    (h : ∀ (h' : Heap) (tk : Nat) (ys : List Str), SetX P w h' s.heap.objs.size ys → (∀ z, z ∈ ys ↔ z ∈ xs) → ys.length ≤ xs.length → (∀ b o, b < s.heap.objs.size → s.heap.get? b = some o → h'.get? b = some o) → Q (.ref s.heap.objs.size) { s with heap := h', toks := tk }) :
    wpAny (model P w) A (call (.type "set") [.ref l]) Q E s := by
  have hsz : xs.length = items.size := by
    have := r.length
    rw [List.length_map, Array.length_toList] at this
    exact this
  obtain ⟨c, tl, hmro⟩ := PySem.F.called_set.mro
  have a1 := PySem.F.called_set.made
  have a2 := PySem.F.called_set.sub
  have a3 := PySem.F.called_set.notType
  have a4 := PySem.F.called_set.canCreate
  have a5 := PySem.F.typeCall_set_1 (.ref l)
  refine wpAny_call (codeAny_of_tree (show wpAny _ _ (callAny (.type "set") _) _ _ _ from wpAny_pure ⟨Code.quiet_builtin _ (by decide +kernel), codeAny_builtin PySem.F.entry_type_call ?_⟩))
  rw [Around.under_plain (weight_type_call_type "set" [.ref l] []) rfl]
  repeat (any_goals (first | assumption | wp_step))
  refine codeAny_mono (code_set_led1 (.ref l) (E := E) (Q₁ := fun obj s₁ => obj = .ref s.heap.objs.size ∧ s₁ = { s with heap := s.heap.push (setN w) }) ⟨rfl, rfl⟩) fun r₁ s₁ h₁ => ?_
  cases r₁ with
  | error e => exact h₁
  | ok fl =>
    cases fl with
    | ret obj =>
      obtain ⟨rfl, rfl⟩ := h₁
      have g1 : (s.heap.push (setN w)).get? s.heap.objs.size = some (setN w) := Heap.get?_push_size _ rfl
      have g2 : Shared.TypeIs { s with heap := s.heap.push (setN w) } (.ref s.heap.objs.size) "set" := ⟨_, g1, rfl⟩
      have g3 := PySem.F.called_set.init.lookup
      have g4 := PySem.F.called_set.init.bind (.ref s.heap.objs.size)
      repeat (any_goals (first | assumption | wp_step))
      refine codeAny_mono (codeAny_call_builtin (R := wants (fun v s₂ => v = .none ∧ ∃ h' tk ys, s₂ = { s with heap := h', toks := tk } ∧ SetX P w h' s.heap.objs.size ys ∧ (∀ z, z ∈ ys ↔ z ∈ xs) ∧ ys.length ≤ xs.length ∧ (∀ b o, b < s.heap.objs.size → s.heap.get? b = some o → h'.get? b = some o)) E) PySem.F.called_set.init.plain PySem.F.entry_set_init (check_set_init_1 g2 ?_)) fun r₂ s₂ h₂ => ?_
      · obtain ⟨⟨oc, odt, oda, osl⟩, e1, e2, nl, e3⟩ := hl
        simp only at e2 e3
        subst e2 e3
        have e4 : (s.heap.push (setN w)).get? l = some { cls := .type "list", dict := odt, data := .seq items nl, slots := osl } := Heap.get?_push_of_some _ e1
        have b1 := PySem.F.sub_list_set
        have b2 := PySem.F.sub_list_frozenset
        have b3 : (Value.type "list" == Value.type "dict") = false := by decide
        have il : (s.heap.push (setN w)).IsList l items := ⟨_, e4, rfl, nl, rfl⟩
        have ll : l < s.heap.objs.size := Heap.lt_size e1
        have zz : (s.heap.push (setN w)).objs.size = s.heap.objs.size + 1 := Heap.size_push ..
        unfold Builtin.«set.__init__» noKeywords Builtin.Frozenset.updateFrom
        generalize hPI : pyIter = PI
        wp_walk
        subst hPI
        refine wpAny_pyIter_list il (wpAny_bind (wpAny_runValue ?_))
        have hh3 : A.in1.in1.in1.handled = none := by simp [hh]
        refine walk_setX (S := s.heap.objs.size) (xs := xs) (n := items.size) ((Walks.list hh3 _ l (by rw [zz]; exact Nat.ne_of_lt (Nat.lt_succ_of_lt ll)) items).toS) (by rw [zz]; simp only [List.mem_cons, List.not_mem_nil, or_false, not_or]; exact ⟨Nat.ne_of_lt (Nat.lt_succ_self _), Nat.ne_of_gt ll⟩) hsz.symm (by omega) (fun i v q => texts_each r i v (by rw [Array.getElem?_toList]; exact q)) (items.size - 0) 0 _ [] (by omega) (Nat.zero_le _) ⟨⟨_, Heap.get?_push_size _ rfl, rfl, rfl⟩, il.push _⟩ (setX_new (Heap.get?_push_of_some _ g1)) (fun z => by simp) (Nat.le_refl _) ?_
        intro s' ys mv X hz hy
        obtain ⟨h', g', d', tk', os'⟩ := s'
        obtain rfl : g' = s.gens := mv.gens
        obtain rfl : d' = s.drawn := mv.drawn
        obtain rfl : os' = s.os := mv.os
        refine wpAny_pure (show wpAny _ _ (ret Value.none) _ _ _ from wpAny_pure ⟨rfl, h', tk', ys, rfl, X, hz, by rw [hsz]; exact hy, fun b' o hb' q => mv.heap b' o ?_ (Heap.get?_push_of_some _ (Heap.get?_push_of_some _ q))⟩)
        rw [zz]
        simp only [List.mem_cons, List.not_mem_nil, or_false, not_or]
        exact ⟨Nat.ne_of_lt hb', Nat.ne_of_lt (Nat.lt_succ_of_lt hb')⟩
      · cases r₂ with
        | error e => exact h₂
        | ok fl₂ =>
          cases fl₂ with
          | ret v =>
            obtain ⟨rfl, h', tk, ys, rfl, X, hz, hy, kk⟩ := h₂
            repeat (any_goals (first | assumption | wp_step))
            exact h _ _ ys X hz hy kk
          | _ => exact h₂.elim
    | _ => exact h₁.elim
end
/-! as tracked things -/
def SetXO (P : Program) (w : World) (a : Addr) (l : List Str) : HO := .ext fun h => SetX P w h a l
theorem setXO_ok {P : Program} {w : World} {H : Hp} {h : Heap} {a : Addr} {l : List Str} (R : SetX P w h a l) : ObjOk P w H h a (SetXO P w a l) := by
  obtain ⟨D, h1, _⟩ := R.ob
  exact ⟨R, ⟨_, h1⟩, fun _ _ p k => p.at k⟩
theorem same_members {ks : List Str} : ∀ {l : List Str}, l.Nodup → (∀ z ∈ l, z ∈ ks) → ks.length = l.length → ks.Perm l := by
  intro l
  induction l generalizing ks with
  | nil =>
    intro _ _ h
    rw [List.eq_nil_of_length_eq_zero h]
  | cons x l ih =>
    intro nd hs hl
    rw [List.nodup_cons] at nd
    have hx := hs x List.mem_cons_self
    have p := List.perm_cons_erase hx
    refine p.trans (List.Perm.cons x (ih nd.2 (fun z hz => ?_) ?_))
    · have hne : z ≠ x := fun e => nd.1 (e ▸ hz)
      exact (List.mem_erase_of_ne hne).mpr (hs z (List.mem_cons_of_mem _ hz))
    · have := p.length_eq
      rw [List.length_cons] at this
      rw [List.length_cons] at hl
      omega
def txtV : Value → Str
  | .str k _ => k
  | _ => ""
theorem strs_srt (ks : List Str) : ks.mergeSort (PySem.W.dataLe false PyData.str) = sortS ks := by
  unfold sortS
  congr 1
  funext a b
  exact le_data_str a b
theorem each_txt : ∀ {vs : List Value}, (∀ v ∈ vs, ∃ k t, v = .str k t) → PySem.W.EachIs (fun u z => RelV (.str z) u) vs (vs.map txtV)
  | [], _ => .nil
  | v :: vs, h => by
    obtain ⟨k, t, rfl⟩ := h v List.mem_cons_self
    exact .cons ⟨t, rfl⟩ (each_txt fun u hu => h u (List.mem_cons_of_mem _ hu))
theorem vals_txt : ∀ {out : List Value} {ks : List Str}, PySem.W.EachIs (fun u z => RelV (.str z) u) out ks → Vals (ks.map V.str) out
  | _, _, .nil => .nil
  | _, _, .cons r t => .cons r (vals_txt t)
theorem sortS_perm {a b : List Str} (nd : b.Nodup) (p : a.Perm b) : sortS a = sortS b := by
  refine sortS_eq nd (sortS_rising (p.nodup_iff.mpr nd)) fun z => ?_
  rw [mem_sortS, p.mem_iff]
section
variable {X : Cx}
/-- set(xs), xs a list of texts -/
def rSetX (K : PySem.W.Frag) (P : Program) (w : World) : List V → Hp → VK → Prop := fun xs H Q => ∃ (p : Addr) (ys : List Str), xs = [V.ref p] ∧ SqL K H p (ys.map V.str) ∧ ys.length ≤ 1000 ∧
  ∀ (a : Addr) (l : List Str), H a = none → l.Nodup → (∀ z, z ∈ l ↔ z ∈ ys) → l.length ≤ ys.length → Q (.ref a) (upd H a (SetXO P w a l))
theorem cr_setX (hc : X.calm = true) : CallR X (.type "set") (rSetX X.K X.prog X.w) := by
  intro pins s σ H xs us Q I r h
  obtain ⟨p, ys, rfl, hp, hy, q⟩ := h
  rw [Vals.ref1 r]
  obtain ⟨its, rv, pl, hz⟩ := I.list hp
  refine make_setX (P := X.prog) (w := X.w) (I.ok.hd hc) pl.isList (by simpa using rv) (by unfold scanBound; omega) fun h' tk l R hm hl k => ?_
  exact ⟨.ref s.heap.objs.size, upd H s.heap.objs.size (SetXO X.prog X.w s.heap.objs.size l), I.laid (t' := tk) (fun b o e => k b o (Heap.lt_size e) e) (Nat.le_refl _) (setXO_ok R), rfl, q _ l (I.hok.fresh (Nat.le_refl _)) R.nd hm hl⟩
/-- sorted(a set of texts) -/
def rSortX (P : Program) (w : World) : List V → Hp → VK → Prop := fun vs H Q => ∃ (a : Addr) (l : List Str), vs = [V.ref a] ∧ H a = some (SetXO P w a l) ∧ l.length ≤ 1000 ∧ ∀ p, H p = none → Q (.ref p) (upd H p (.lst ((sortS l).map V.str)))
theorem cr_sortX (hc : X.calm = true) (hu : X.A.units + 64 < cLine) : CallR X (.builtin "sorted") (rSortX X.prog X.w) := by
  intro pins s σ H vs us Q I r h
  obtain ⟨a, l, rfl, ha, hl, q⟩ := h
  have R : SetX X.prog X.w s.heap a l := (I.hok a _ ha).1
  rw [Vals.ref1 r]
  obtain ⟨⟨es, ep, t⟩, ho, F, ri, led⟩ := R.ob
  have hes : es.size = l.length := F.sz
  refine Calls.call_function_entry PyProof.Rows.kind_sorted PyProof.Rows.plain_sorted PyProof.Rows.entry_sorted (PyProof.Rows.args_sorted1 _) ?_
  unfold Builtin.«sorted»
  refine wpAny_bind (m := checkCount "sorted" 1 1 _) (wpAny_pure ?_)
  refine wpAny_bind (collect_set (A := X.A.in1) (I.ok.hd hc) ⟨_, ho, rfl, rfl⟩ F.fit (by show es.size < scanBound; unfold scanBound; omega) ri led fun s1 out k1 z1 g1 o1 pm => ?_)
  have hv : ∀ v ∈ out, ∃ k t, v = Value.str k t := fun v hv => by
    obtain ⟨e, he, rfl⟩ := List.mem_map.mp (pm.mem_iff.mp hv)
    obtain ⟨⟨k, hk, _⟩, _⟩ := F.el e he
    obtain ⟨t, ht⟩ := Value.isStrOf_shape (x := k) (v := e.2) hk
    exact ⟨k, t, ht⟩
  have hol : out.length = l.length := by
    rw [pm.length_eq, List.length_map, Array.length_toList]
    exact hes
  have pl : (out.map txtV).Perm l := by
    refine same_members R.nd (fun z hz => ?_) (by rw [List.length_map]; exact hol)
    obtain ⟨e, he, hk⟩ := (F.mem z).mp hz
    obtain ⟨t, ht⟩ := Value.isStrOf_shape (x := z) (v := e.2) hk
    refine List.mem_map.mpr ⟨e.2, pm.mem_iff.mpr (List.mem_map.mpr ⟨e, he, rfl⟩), ?_⟩
    rw [ht]
    rfl
  have hS := each_txt hv
  have hsl : (out.map txtV).length ≤ sizeLine := by
    rw [List.length_map, hol]
    exact Nat.le_trans hl (by decide)
  refine wpAny_bind (wpAny_newList ?_ (by rw [hol]; exact Nat.le_trans hl (by decide)))
  have hoL : (s1.heap.push (seqObj "list" out.toArray 0)).get? s1.heap.objs.size = some (seqObj "list" out.toArray 0) := Heap.get?_push_size _ rfl
  refine wpAny_bind (wpAny_holding (PySem.W.list_sort_data (R := fun u z => RelV (.str z) u) (enc := PyData.str) (s := { s1 with heap := s1.heap.push (seqObj "list" out.toArray 0) }) hoL hS (hS.mono fun v b r => ?_) (PySem.W.AllAlike.of fun _ _ => rfl) (PySem.W.Sortable.others fun b => ⟨(fun e => by cases e), (fun xs e => by cases e)⟩) hsl (fun b _ => ?_) fun srt hso eo => ?_))
  · obtain ⟨t, rfl⟩ := r
    exact ⟨[], .str _ _, by simp⟩
  · show X.A.units + 1 + 1 + 0 < cLine
    omega
  · rw [strs_srt, sortS_perm R.nd pl] at eo
    obtain ⟨e', he'⟩ := PyProof.Rows.sortedHeap_at (vs := out) (out := srt.toArray) hoL
    have hlen : ((sortS l).map V.str).length ≤ sizeLine := by
      rw [List.length_map, sortS_len]
      exact Nat.le_trans hl (by decide)
    have hn : H s1.heap.objs.size = none := I.hok.fresh z1
    have kp : ∀ b o, s.heap.get? b = some o → (PyProof.Rows.sortedHeap (s1.heap.push (seqObj "list" out.toArray 0)) s1.heap.objs.size out srt.toArray).get? b = some o := fun b o e => by
      have q1 := k1 b o e
      have hb := Heap.lt_size q1
      rw [PyProof.Rows.sortedHeap_old (Nat.ne_of_lt hb) (by rw [size_push']; exact Nat.lt_succ_of_lt hb)]
      exact Heap.get?_push_of_some _ q1
    have J : L2.Inv X pins σ (upd H s1.heap.objs.size (.lst ((sortS l).map V.str))) { s with heap := PyProof.Rows.sortedHeap (s1.heap.push (seqObj "list" out.toArray 0)) s1.heap.objs.size out srt.toArray, gens := s1.gens, drawn := s1.drawn, toks := s1.toks } :=
      I.call (ch := []) (Un.laid kp z1 hn) (I.hok.laid kp z1 ⟨hlen, srt, e', vals_txt eo, he'⟩) (by rw [g1]; exact I.bare) (fun _ z => nomatch z)
    have es1 : ({ s1 with heap := PyProof.Rows.sortedHeap (s1.heap.push (seqObj "list" out.toArray 0)) s1.heap.objs.size out srt.toArray } : Shared) = { s with heap := PyProof.Rows.sortedHeap (s1.heap.push (seqObj "list" out.toArray 0)) s1.heap.objs.size out srt.toArray, gens := s1.gens, drawn := s1.drawn, toks := s1.toks } := by
      cases s1
      cases s
      cases o1
      rfl
    refine wpAny_pure ⟨_, rfl, .ref s1.heap.objs.size, upd H s1.heap.objs.size (.lst ((sortS l).map V.str)), ?_, rfl, q _ hn⟩
    show L2.Inv X pins σ _ { s1 with heap := PyProof.Rows.sortedHeap (s1.heap.push (seqObj "list" out.toArray 0)) s1.heap.objs.size out srt.toArray }
    rw [es1]
    exact J
end
end Wl

/-! {e for x in xs if t}, e a text. -/
namespace Wl
open PySem PySem.Spec PyProof.Rows L2
section
variable {X : Cx}
/-- set.add of a text to a tracked set -/
theorem putX_ok {pins : List (Addr × Obj)} {σ : L2.St} {H : Hp} {s : Shared} {E : Value → Shared → Prop} {D : Addr} {l : List Str} {z : Str} {tk : Tok} {Q : Value → Shared → Prop} (I : L2.Inv X pins σ H s) (hD : H D = some (SetXO X.prog X.w D l)) (room : l.length + 1 < scanBound)
    (h : ∀ s' l', l'.Nodup → (∀ y, y ∈ l' ↔ y ∈ l ∨ y = z) → l'.length ≤ l.length + 1 → L2.Inv X pins σ (upd H D (SetXO X.prog X.w D l')) s' → Q .none s') : wpAny (model X.prog X.w) X.A (call (.builtin "set.add") [.ref D, .str z tk]) Q E s := by
  have R : SetX X.prog X.w s.heap D l := (I.hok D _ hD).1
  obtain ⟨D0, ho, _⟩ := R.ob
  refine wpAny_call_entry F.slot_set_add ⟨_, ho, rfl⟩ F.entry_set_add ?_ (F.args_set_add_2 _ _)
  unfold Builtin.«set.add» Builtin.Frozenset.oneOther
  simp only [List.isEmpty_nil, bind_assoc]
  unfold Builtin.Frozenset.addrOf
  refine wpAny_bind (wpAny_pure (wpAny_bind (wpAny_pure (wpAny_bind ?_))))
  refine setX_put R room fun b h' l' kp R' hm hl => ?_
  show wpAny _ _ (ret Value.none) _ _ _
  obtain ⟨D1, ho1, _⟩ := R'.ob
  exact wpAny_pure ⟨_, rfl, h _ l' R'.nd hm hl (I.write (e := D) (t' := s.toks + 1) (by rw [hD]; trivial) (.inl rfl) (fun c u hc hu => kp c u hc hu) ⟨_, ho1⟩ (setXO_ok R'))⟩
/-- what {e for x in xs if t} asks: D the new set, grown text by text -/
def tScX (P : Program) (w : World) (wi : TI) (g : TG) (tt : TT) (te : TE) (vs : List Nat) : TE := fun σ H Q => wi σ H fun J H1 => ∀ D, H1 D = none → ∃ W : Nat → Nat → Hp → Prop, (∃ m, W 0 m (upd H1 D (SetXO P w D []))) ∧ ∀ i m H, W i m H →
  (J.stop i H ∧ Q (.ref D) H) ∨ (J.go i H ∧ ∃ Nx : Hp → Prop, (∀ H', Nx H' → ∃ m', m' < m ∧ W (i + 1) m' H') ∧ ∀ x H', J.yld i H x H' → g x (wipe σ vs) H' fun σ2 H2 => wipe σ2 vs = wipe σ vs ∧ tt σ2 H2 fun b H3 =>
    if b = true then te σ2 H3 fun y H4 => ∃ (z : Str) (l : List Str), y = .str z ∧ H4 D = some (SetXO P w D l) ∧ l.length + 1 < scanBound ∧ ∀ l', l'.Nodup → (∀ u, u ∈ l' ↔ u ∈ l ∨ u = z) → l'.length ≤ l.length + 1 → Nx (upd H4 D (SetXO P w D l')) else Nx H3)
theorem pe_scX {elt tg iter : Expr} {ifs : List Expr} {scope : Scope} {own : List (PySem.Str × Nat)} {pos : Pos} {wi : TI} {g : TG} {tt : TT} {te : TE} (hcalm : X.calm = true) (nd : X.N.Nodup) (pit : PI X tg iter wi) (bok : BlkOk X.N X.env.scope scope own)
    (gg : ∀ (s : Shared) (H : Hp) (C : Addr) (cl : List (PySem.Str × Addr)) (fp : List Addr), PG (X.blk s H scope (compEnvC scope cl C X.env) fp) tg g) (gt : ∀ (s : Shared) (H : Hp) (C : Addr) (cl : List (PySem.Str × Addr)) (fp : List Addr), PTs (X.blk s H scope (compEnvC scope cl C X.env) fp) ifs tt)
    (ge : ∀ (s : Shared) (H : Hp) (C : Addr) (cl : List (PySem.Str × Addr)) (fp : List Addr), PE (X.blk s H scope (compEnvC scope cl C X.env) fp) elt te) (hfold : ∀ x, foldedSetIterable iter X.env x = pure x := by intro _; rfl) :
    PE X (.SetComp elt [⟨tg, iter, ifs, 0⟩] scope pos) (tScX X.prog X.w wi g tt te (own.map (·.2))) := by
  refine ⟨fun pins s σ H Q I rd => ?_⟩
  rw [PpSet.eval_SetComp]
  have frees : ∀ y ∈ scope.names, y.2 = .free → ∃ c, X.env.cells.lookup y.1 = some c := fun y hy e => by
    rcases bok.free y hy e with q | q
    · exact I.ok.has _ (.inl q)
    · exact I.ok.has _ (.inr q)
  refine wpAny_comprehension_free (use := none) rfl hfold (closure_ok frees) bok.kind (fun y hy e => by rw [bok.uniq y hy, e]) (thn (pit.run pins s σ H _ I rd) fun xv s1 hx => thn hx fun itv s2 h2 => ?_)
  obtain ⟨it, fp, tn, J, H2, e, I2, T, st2, f2, q⟩ := h2
  subst e
  refine PpSet.newSet_ok (newEnv_comp ?_)
  obtain ⟨D, hD⟩ : ∃ D, s2.heap.objs.size = D := ⟨_, rfl⟩
  obtain ⟨W, ⟨m0, w0⟩, turn⟩ := q D (I2.hok.fresh (Nat.le_of_eq hD))
  obtain ⟨s3, hs3⟩ : ∃ s3 : Shared, ({ s2 with heap := s2.heap.push (setN X.w) } : Shared) = s3 := ⟨_, rfl⟩
  obtain ⟨H3, hH3⟩ : ∃ H3, upd H2 D (SetXO X.prog X.w D []) = H3 := ⟨_, rfl⟩
  have heap3 : s3.heap = s2.heap.push (setN X.w) := by rw [← hs3]
  have I3 : L2.Inv X pins σ H3 s3 := by
    rw [← hs3, ← hH3]
    refine I2.laid (t' := s2.toks) (fun b o e => Heap.get?_push_of_some _ e) (Nat.le_of_eq hD) ?_
    rw [← hD]
    exact setXO_ok (setX_new (Heap.get?_push_size _ rfl))
  have f3 : ∀ b ∈ fp, FpOk X pins H3 b ∧ b < s3.heap.objs.size := fun b hb => by
    obtain ⟨o, e, _⟩ := T.obj _ _ st2 b hb
    have lt := Heap.lt_size e
    refine ⟨⟨?_, (f2 b hb).2⟩, by rw [heap3, Heap.size_push]; exact Nat.lt_succ_of_lt lt⟩
    rw [← hH3, upd_ne (by rw [← hD]; exact Nat.ne_of_lt lt)]
    exact (f2 b hb).1
  have none3 : ∀ b ∈ fp, H3 b = none := fun b hb => (f3 b hb).1.1
  rw [hH3] at w0
  show codeAny _ _ (.compStart (.SetComp elt [⟨tg, iter, ifs, 0⟩] scope pos) 0 (.ref it) (.ref s2.heap.objs.size) (compEnvC scope (cellsFrom ((s2.heap.push (setN X.w)).objs.size + 1) scope.names (cloFrom X.env.cells scope.names [])) (s2.heap.push (setN X.w)).objs.size X.env)) (compPost (model X.prog X.w) X.A X.xe none _ (.ref s2.heap.objs.size) (s2.heap.push (setN X.w)).objs.size) { s2 with heap := pushCells ((s2.heap.push (setN X.w)).push { cls := .type "dict", data := .dict #[] }) scope.names }
  rw [← heap3, hD]
  have st3 : tn 0 s3.heap := T.keep _ _ _ st2 fun b _ o e => by rw [heap3]; exact Heap.get?_push_of_some _ e
  have I4 := block_start I3 bok nd f3
  obtain ⟨ce, hce⟩ : ∃ ce, compEnvC scope (cellsFrom (s3.heap.objs.size + 1) scope.names (cloFrom X.env.cells scope.names [])) s3.heap.objs.size X.env = ce := ⟨_, rfl⟩
  have pg := gg s3 H3 s3.heap.objs.size (cellsFrom (s3.heap.objs.size + 1) scope.names (cloFrom X.env.cells scope.names [])) fp
  have pt := gt s3 H3 s3.heap.objs.size (cellsFrom (s3.heap.objs.size + 1) scope.names (cloFrom X.env.cells scope.names [])) fp
  have pe := ge s3 H3 s3.heap.objs.size (cellsFrom (s3.heap.objs.size + 1) scope.names (cloFrom X.env.cells scope.names [])) fp
  have locs : ce.locals = s3.heap.objs.size := by rw [← hce]; rfl
  rw [hce] at I4 pg pt pe ⊢
  obtain ⟨s4, hs4⟩ : ∃ s4 : Shared, ({ s3 with heap := pushCells (s3.heap.push { cls := .type "dict", data := .dict #[] }) scope.names } : Shared) = s4 := ⟨_, rfl⟩
  have es4 : ({ s2 with heap := pushCells (s3.heap.push { cls := .type "dict", data := .dict #[] }) scope.names } : Shared) = s4 := by
    rw [← hs4, ← hs3]
  rw [hs4] at I4
  rw [es4]
  have st4 : tn 0 s4.heap := T.keep _ _ _ st3 fun b _ o e => by rw [← hs4]; exact pushCells_keeps _ _ _ _ (Heap.get?_push_of_some _ e)
  have calmFp : ∀ {σ' : L2.St} {H' : Hp} {s' : Shared}, L2.Inv (X.blk s3 H3 scope ce fp) [] σ' H' s' → (∀ b ∈ fp, H' b = none) → ∀ b ∈ fp, FpOk (X.blk s3 H3 scope ce fp) [] H' b := fun {σ' H' s'} I' hn b hb =>
    ⟨hn b hb, (I'.ok.exf b hb).1, I'.ok.exfs b hb, .inl hb, fun x c e => (I'.ok.exf b hb).2 x c e, fun r hr => absurd (show r ∈ ([] : List (Addr × Obj)) ++ [] from hr) (by simp)⟩
  have loop : codeAny (model X.prog X.w) X.A (.compLoop (.SetComp elt [⟨tg, iter, ifs, 0⟩] scope pos) 0 (.ref it) (.ref D) ce) (compPost (model X.prog X.w) X.A X.xe none (fun v s' => ∃ x H', L2.Inv X pins σ H' s' ∧ RelV x v ∧ Q x H') (.ref D) s3.heap.objs.size) s4 := by
    refine PpSet.compLoopS_any (fun n s' => ∃ i H', L2.Inv (X.blk s3 H3 scope ce fp) [] (wipe σ (own.map (·.2))) H' s' ∧ tn i s'.heap ∧ (∀ b ∈ fp, H' b = none) ∧ W i n H') ?_ m0 ⟨0, H3, I4, st4, none3, w0⟩
    rintro n s5 ⟨i, H5, I5, st5, n5, w5⟩
    rcases turn i n H5 w5 with ⟨stop, qq⟩ | ⟨go, Nx, hNx, step⟩
    · refine thnF (T.done (X.blk s3 H3 scope ce fp) rfl rfl rfl hcalm i [] s5 _ H5 (fun _ _ => False) I5 (calmFp I5 n5) st5 stop) fun r s6 ⟨hr, I6⟩ => ?_
      subst hr
      have I7 : L2.Inv X pins σ H5 s6 := I3.call' (ch := fp) I6.os I6.base I6.hok I6.bare fun b hb => ⟨(f3 b hb).1.2.2.2.1, (f3 b hb).1.2.1, (f3 b hb).1.2.2.2.2.1, (f3 b hb).1.2.2.2.2.2⟩
      have nC : H5 s3.heap.objs.size = none := by
        have z : H5 ce.locals = none := I6.free
        rw [locs] at z
        exact z
      obtain ⟨m, hn, _⟩ := I6.loc
      have hn : s6.heap.Ns ce.locals m := hn
      rw [locs] at hn
      obtain ⟨k0, k1, k2, k3, k4, k5⟩ := I3.fpOk (Nat.le_refl _) nC
      exact ⟨m, hn, fun h'' sb => ⟨.ref D, H5, I7.turned (t' := s6.toks) (fun b o hb e => (sb.2 b hb).trans e) k0 k1 k3 k4 k5, rfl, qq⟩⟩
    · refine thnF (T.item (X.blk s3 H3 scope ce fp) rfl rfl rfl hcalm i [] s5 _ H5 (fun _ _ => False) I5 (calmFp I5 n5) st5 go) fun r s6 ⟨u, hr, h6⟩ => ?_
      subst hr
      refine thnF h6 fun _ s7 ⟨x, H7, I7, r7, y7, st7, n7⟩ => ?_
      have I7' := I7.pinned (calmFp I7 n7) (T.obj _ _ st7)
      refine thnF (pg.run _ s7 _ H7 x u _ I7' r7 (step x H7 y7)) fun _ s8 ⟨σ8, H8, I8, hw8, q8⟩ => thnF (pt.run _ s8 σ8 H8 _ I8 q8) fun b s9 ⟨H9, I9, q9⟩ => ?_
      have next : ∀ {s' : Shared} {H' : Hp}, L2.Inv (X.blk s3 H3 scope ce fp) ([] ++ pinsAt fp s7.heap) σ8 H' s' → Nx H' → ∃ m, m < n ∧ ∃ i H', L2.Inv (X.blk s3 H3 scope ce fp) [] (wipe σ (own.map (·.2))) H' s' ∧ tn i s'.heap ∧ (∀ b ∈ fp, H' b = none) ∧ W i m H' := fun {s' H'} I' nx => by
        obtain ⟨m', hm, w'⟩ := hNx H' nx
        have held : ∀ b ∈ fp, ∀ o, s7.heap.get? b = some o → s'.heap.get? b = some o ∧ H' b = none := fun b hb o e => by
          have z := I'.pin (b, o) (List.mem_append_right _ (List.mem_append_right _ (mem_pinsAt hb e)))
          exact ⟨z.1, z.2.1⟩
        have len : (wipe σ (own.map (·.2))).length = σ8.length := by rw [← hw8, wipe_length]
        refine ⟨m', hm, i + 1, H', (I'.unpinned (pins := [])).weak len (fun j v e => ?_), T.keep _ _ _ st7 fun b hb o e => (held b hb o e).1, fun b hb => ?_, w'⟩
        · rw [← hw8] at e
          exact (wipe_some e).1
        · obtain ⟨o, e, _⟩ := T.obj _ _ st7 b hb
          exact (held b hb o e).2
      cases b with
      | false =>
        simp only [Bool.false_eq_true, if_false] at q9 ⊢
        exact next I9 q9
      | true =>
        simp only [if_true] at q9 ⊢
        refine thnF (pe.run _ s9 σ8 H9 _ I9 q9) fun z s10 ⟨yv, H10, I10, r10, zt, l0, ey, hD10, hz10, nx⟩ => ?_
        subst ey
        obtain ⟨tk, rfl⟩ := r10
        exact putX_ok (X := X.blk s3 H3 scope ce fp) I10 hD10 hz10 fun s11 l' n1 n2 n3 I11 => next I11 (nx l' n1 n2 n3)
  exact PpSet.codeAny_compStart_set loop (T.self X.A 0 _ _ _ st4 loop)
end
section
variable {P : Program} {w : World} {J : It} {ys : List V} {G : Hp → Prop} {slot : Nat} {tt : TT} {te : TE} {vs : List Nat} {σ : L2.St} {H1 : Hp} {D : Addr} {Qd : Hp → Prop}
/-- {e for x in ys if t}: each e a text, the heap only growing -/
theorem sc_texts (wk : L2.Walk J ys.length G (YAt ys)) (hD : H1 D = none) (keep : V → Bool) (f : V → Str) (hG : ∀ H, Same H1 H → G H)
    (hw : ∀ x, wipe ((wipe σ vs).set slot (some x)) vs = wipe σ vs)
    (ht : ∀ (x : V) (H : Hp), x ∈ ys → Same H1 H → ∀ Q : Bool → Hp → Prop, Q (keep x) H → tt ((wipe σ vs).set slot (some x)) H Q)
    (he : ∀ (x : V) (H : Hp), x ∈ ys → keep x = true → Same H1 H → ∀ Q : VK, Q (.str (f x)) H → te ((wipe σ vs).set slot (some x)) H Q)
    (hn : ys.length ≤ 1000)
    (hd : ∀ (l : List Str) (H : Hp), Same H1 H → H D = some (SetXO P w D l) → l.Nodup → (∀ z, z ∈ l ↔ z ∈ (ys.filter keep).map f) → l.length ≤ ys.length → Qd H) :
    ∃ W : Nat → Nat → Hp → Prop, (∃ m, W 0 m (upd H1 D (SetXO P w D []))) ∧ ∀ i m H, W i m H →
      (J.stop i H ∧ Qd H) ∨ (J.go i H ∧ ∃ Nx : Hp → Prop, (∀ H', Nx H' → ∃ m', m' < m ∧ W (i + 1) m' H') ∧ ∀ x H', J.yld i H x H' → gName slot x (wipe σ vs) H' fun σ2 H2 => wipe σ2 vs = wipe σ vs ∧ tt σ2 H2 fun b H3 =>
        if b = true then te σ2 H3 fun y H4 => ∃ (z : Str) (l : List Str), y = .str z ∧ H4 D = some (SetXO P w D l) ∧ l.length + 1 < scanBound ∧ ∀ l', l'.Nodup → (∀ u, u ∈ l' ↔ u ∈ l ∨ u = z) → l'.length ≤ l.length + 1 → Nx (upd H4 D (SetXO P w D l')) else Nx H3) := by
  refine ⟨fun i m H => m = ys.length - i ∧ i ≤ ys.length ∧ Same H1 H ∧ ∃ l, H D = some (SetXO P w D l) ∧ l.Nodup ∧ (∀ z, z ∈ l ↔ z ∈ ((ys.take i).filter keep).map f) ∧ l.length ≤ i, ⟨ys.length, by simp, Nat.zero_le _, same_new hD, [], upd_same, List.nodup_nil, fun z => by simp, Nat.le_refl _⟩, ?_⟩
  rintro i m H ⟨rfl, hi, s, l, hl, nd, hm, hll⟩
  by_cases hlt : i < ys.length
  · refine .inr ⟨wk.goes i H hlt (hG H s), fun H' => i + 1 ≤ ys.length ∧ Same H1 H' ∧ ∃ l, H' D = some (SetXO P w D l) ∧ l.Nodup ∧ (∀ z, z ∈ l ↔ z ∈ ((ys.take (i + 1)).filter keep).map f) ∧ l.length ≤ i + 1, fun H' h' => ⟨ys.length - (i + 1), by omega, rfl, h'⟩, fun x H' hy => ?_⟩
    obtain ⟨rfl, hx⟩ := wk.yields i H x H' hlt (hG H s) hy
    have hxm : x ∈ ys := List.mem_of_getElem? hx
    have hf := filter_take_snoc (p := keep) hx
    refine ⟨hw x, ht x _ hxm s _ ?_⟩
    refine ite_b (fun e => ?_) (fun e => ?_)
    · refine he x _ hxm e s _ ⟨f x, l, rfl, hl, by unfold scanBound; omega, fun l' n1 n2 n3 => ⟨hlt, same_mut s hD, l', upd_same, n1, fun z => ?_, by omega⟩⟩
      rw [n2, hm, hf, if_pos e, List.map_append, List.mem_append]
      simp
    · refine ⟨hlt, s, l, hl, nd, fun z => ?_, by omega⟩
      rw [hm, hf, if_neg (by rw [e]; decide), List.append_nil]
  · have e : i = ys.length := by omega
    subst e
    rw [List.take_length] at hm
    exact .inl ⟨wk.stops H (hG H s), hd l H s hl nd hm hll⟩
end
end Wl

namespace Wl
open PySem PySem.Spec PyProof.Rows L2
abbrev sGThings : Stmt := inClass sGat 8
abbrev sAllMaps : Stmt := topS 71
abbrev sShare : Stmt := topS 72
abbrev sApart : Stmt := topS 73
abbrev sAround : Stmt := topS 74
abbrev sIsLess : Stmt := topS 75
abbrev sNearest : Stmt := topS 76
abbrev sFarthest : Stmt := topS 77
noncomputable def telBy (H : Hp) (g : Tel → Str) (x : V) : Str := open Classical in if h : ∃ t : Tel, ∃ p, x = .ref p ∧ H p = some (.tup (telV t)) then g h.choose else ""
theorem telBy_at {H : Hp} {g : Tel → Str} {p : Addr} {t : Tel} (h : H p = some (.tup (telV t))) : telBy H g (.ref p) = g t := by
  unfold telBy
  have hx : ∃ t : Tel, ∃ q, V.ref p = .ref q ∧ H q = some (.tup (telV t)) := ⟨t, p, rfl, h⟩
  rw [dif_pos hx]
  obtain ⟨q, e1, e2⟩ := hx.choose_spec
  obtain rfl : p = q := V.ref.inj e1
  rw [h] at e2
  rw [← telV_inj' (HO.tup.inj (Option.some.inj e2))]
theorem tels_by {H : Hp} {g : Tel → Str} : ∀ {as : List Addr} {ts : List Tel}, TelsAt H as ts → (as.map V.ref).map (telBy H g) = ts.map g
  | _, _, .nil => rfl
  | _, _, .cons e r => by
    rw [List.map_cons, List.map_cons, List.map_cons, telBy_at e, tels_by r]
/-- the things, rising -/
def thingsOf (ts : List Tel) : List Str := sortS (keysOf (ts.map (·.th)))
theorem mem_things {ts : List Tel} {z : Str} : z ∈ thingsOf ts ↔ ∃ t ∈ ts, t.th = z := by
  unfold thingsOf
  rw [mem_sortS, mem_keysOf, List.mem_map]
theorem things_nodup (ts : List Tel) : (thingsOf ts).Nodup := sortS_nodup (keysOf_nodup _)
theorem things_len (ts : List Tel) : (thingsOf ts).length ≤ ts.length := by
  unfold thingsOf
  rw [sortS_len]
  exact Nat.le_trans (keysOf_len _) (by rw [List.length_map]; exact Nat.le_refl _)
theorem sortS_same {l m : List Str} (h1 : l.Nodup) (h2 : m.Nodup) (hm : ∀ z, z ∈ l ↔ z ∈ m) : sortS l = sortS m := sortS_eq h2 (sortS_rising h1) fun z => by rw [mem_sortS, hm]
section
variable {P : Program} {w : World} {K : PySem.W.Frag} {mg : Str → Option Value} {base : Heap} {f C D W : Addr} {fd : FuncData}
/-! ### things -/
def spThings (C D : Addr) : Sp := fun vs H Q _ => ∃ (p : Addr) (r : GR), vs = [.ref p] ∧ GatAt C D H p r ∧ r.ts.length ≤ 200 ∧ ∀ (t : Addr) (H' : Hp), H t = none → Same H H' → H' t = some (.tup ((thingsOf r.ts).map V.str)) → Q (.ref t) H'
theorem scThings : FnScope ["self", "telling"] ["self"] (defScope sGThings) := ⟨rfl, rfl, rfl, by decide +kernel, rfl, by decide +kernel, by decide +kernel⟩
theorem ok_things (F : Fun K "things" "Gathering.things" sGThings f fd) (B : Bi mg) (TG : TxtG K mg D) : FnOk P w K mg base CX0 1 f fd ["self"] (spThings C D) := by
  refine F.ok scThings (fun vs H Q E h => ?_) (fun cdv A outer s H vs Q E hr h => ?_)
  · obtain ⟨p, r, rfl, _⟩ := h
    rfl
  · obtain ⟨p, r, rfl, hG, h200, q⟩ := h
    refine ⟨_, pss_one (ps_ret (pe_callTy call_tuple_of (by rfl) B.tuple (by decide +kernel) (pa_cons (pe_callB (cr_sortX rfl hr.units) (by rfl) B.sorted (by decide +kernel) (pa_cons (pe_scX (own := [("telling", 1)]) (g := gName 1) (tt := tYes) (te := tOp (rIxT K) (tVar 1) (tC (.int 1))) rfl scThings.nd (pi_list (pe_fld (pv 0) rfl)) (blkOk_by (N := ["self", "telling"]) (sc := defScope sGThings) (by decide +kernel))
      (fun _ _ _ _ _ => pg_name (i := 1) scThings.nd rfl (.inl rfl)) (fun _ _ _ _ _ => pts_nil) (fun _ _ _ _ _ => pe_ix ix_tup (pv 1) pe_int (fun _ _ => rfl))) pa_nil)) pa_nil))), ?_⟩
    obtain ⟨dx, hp⟩ := hG.at_
    have hla : r.as.length = r.ts.length := hG.tels.length
    refine ⟨_, rfl, p, D, dx, _, _, rfl, hp, TG.cl, TG.nT, gf_told _ _ _, r.td, rfl, ⟨_, .inl (.inl hG.told)⟩, fun Dd hD => ?_⟩
    refine sc_texts (walk_list (K := K) (a := r.td) (xs := r.as.map V.ref)) hD (fun _ => true) (telBy H (·.th)) (fun H' s' => .inl (.inl (s' _ _ hG.told))) (fun _ => rfl) (fun x H' _ _ Q' q' => q') ?_ ?_ ?_
    · intro x H' hx _ s' Q' q'
      obtain ⟨pt, hpt, rfl⟩ := List.mem_map.mp hx
      obtain ⟨j, hj, ej⟩ := List.mem_iff_getElem.mp hpt
      obtain ⟨t, ht, hH⟩ := Each.get hG.tels (i := j) (a := pt) (by rw [List.getElem?_eq_getElem hj, ej])
      rw [telBy_at hH] at q'
      exact ⟨_, rfl, pt, _, _, _, rfl, rfl, .inl (.inl (s' _ _ hH)), atI_nat (j := 1) rfl, q'⟩
    · rw [List.length_map]
      omega
    · intro l H2 s2 hD2 nd hm hl
      rw [List.length_map] at hl
      have e : sortS l = thingsOf r.ts := by
        refine sortS_same nd (keysOf_nodup _) fun z => ?_
        rw [hm, List.filter_eq_self.mpr fun _ _ => rfl, tels_by hG.tels, mem_keysOf]
      refine ⟨Dd, l, rfl, hD2, by omega, fun q1 hq1 => ⟨q1, _, rfl, .inl ⟨.inl (.inl upd_same), fun t ht => ?_⟩⟩⟩
      rw [e]
      have s3 := same_new (o := .lst ((sortS l).map V.str)) hq1
      rw [e] at s3 ht
      exact q t _ ((s2.trans s3).free ht) ((s2.trans s3).trans (same_new ht)) upd_same
/-! ### maps of all things -/
def MapOf (C W : Addr) (g : Grid) (sd : Str → List Str) (H : Hp) (p : Addr) : Prop := ∃ mr : MR, MapAt C W H p mr ∧ mr.g = g ∧ mr.said = sd
theorem MapOf.keep {g : Grid} {sd : Str → List Str} {H H' : Hp} {p : Addr} (h : MapOf C W g sd H p) (k : Keep H H') : MapOf C W g sd H' p := by
  obtain ⟨mr, h1, h2⟩ := h
  exact ⟨mr, h1.keep k, h2⟩
def MapsAt (C W : Addr) (g : Grid) (H : Hp) (ps : List Addr) (sds : List (Str → List Str)) : Prop := Each (fun (p : Addr) (sd : Str → List Str) => MapOf C W g sd H p) ps sds
theorem MapsAt.keep {g : Grid} {H H' : Hp} {ps : List Addr} {sds : List (Str → List Str)} (h : MapsAt C W g H ps sds) (k : Keep H H') : MapsAt C W g H' ps sds := Each.mono (fun p sd e => e.keep k) h
theorem maps_of {g : Grid} {H : Hp} {F : Str → Str → List Str} : ∀ {zs : List Str} {ys : List V}, Each (fun (x y : V) => ∃ p, y = V.ref p ∧ ∀ z, x = .str z → MapOf C W g (F z) H p) (zs.map V.str) ys → ∃ ps : List Addr, ys = ps.map V.ref ∧ MapsAt C W g H ps (zs.map F)
  | [], [], _ => ⟨[], rfl, .nil⟩
  | [], _ :: _, h => nomatch h
  | _ :: _, [], h => nomatch h
  | z :: zs, y :: ys, .cons e r => by
    obtain ⟨p, rfl, h⟩ := e
    obtain ⟨ps, rfl, h2⟩ := maps_of r
    exact ⟨p :: ps, rfl, .cons (h z rfl) h2⟩
noncomputable abbrev sdF (chs : List Chg) (ts : List Tel) (z : Str) : Str → List Str := saidOf chs ts z 0 120
theorem mi_b4 (F : FunI K f fd) : ∃ ds, Vals [V.int 0, V.int 120] ds ∧ Binds K fd psMI ds :=
  F.binds1 (ps := psMI) 4 1 (by simp) rfl (fun T kV doc pm an cdv ct us its l1 l2 => by
      match us, its, l1, l2 with
      | [_, _, _, _], [_, _, _], _, _ => exact ⟨_, rfl, rfl⟩)
def HasW (P : Program) (w : World) (K : PySem.W.Frag) (mg : Str → Option Value) (base : Heap) (C D W : Addr) : Prop := ∃ f fd, Mk K W f ∧ FnOk P w K mg base CX0 8 f fd psMI (spMI C D W) ∧ FunI K f fd
noncomputable def sdsOf (chs : List Chg) (ts : List Tel) : List (Str → List Str) := (thingsOf ts).map (sdF chs ts)
def spAllMaps (C D W : Addr) : Sp := fun vs H Q _ => ∃ (g S : Addr) (r : GR) (wd : Nat) (chs : List Chg), vs = [.ref g, .ref S] ∧ GatAt C D H g r ∧ Good r.g wd ∧ (∀ t ∈ r.ts, OkT t) ∧ r.ts.length ≤ 200 ∧ ChAt H S chs ∧ OkCs chs ∧
  ∀ (l : Addr) (ps : List Addr) (H' : Hp), Same H H' → H' l = some (.lst (ps.map V.ref)) → MapsAt C W r.g H' ps (sdsOf chs r.ts) → Q (.ref l) H'
abbrev nAllMaps : List Str := ["gathering", "changes", "thing"]
theorem scAllMaps : FnScope nAllMaps ["gathering", "changes"] (defScope sAllMaps) := ⟨rfl, rfl, rfl, by decide +kernel, rfl, by decide +kernel, by decide +kernel⟩
theorem ok_allmaps (F : Fun K "all_maps" "all_maps" sAllMaps f fd) (TG : TxtG K mg D) (TM : TxtM K mg W) (hTh : HasM P w K mg base D "things" 1 ["self"] (spThings C D)) (hW : HasW P w K mg base C D W) : FnOk P w K mg base CX0 10 f fd ["gathering", "changes"] (spAllMaps C D W) := by
  obtain ⟨fW, fdW, MW, GW, FnW⟩ := hW
  obtain ⟨ds4, v4, b4⟩ := mi_b4 FnW
  refine F.ok scAllMaps (fun vs H Q E h => ?_) (fun cdv A outer s H vs Q E hr h => ?_)
  · obtain ⟨g, S, r, wd, chs, rfl, _⟩ := h
    rfl
  · obtain ⟨g, S, r, wd, chs, rfl, hG, gd, hok, h200, hS, okc, q⟩ := h
    refine ⟨_, pss_one (ps_ret (pe_lc (own := [("thing", 2)]) (g := gName 2) (tt := tYes) (te := tMake W (spMI C D W) [.int 0, .int 120] E0 (tCons (tVar 0) (tCons (tVar 2) (tCons (tVar 1) tNil)))) rfl scAllMaps.nd (pi_tup (pe_hm0 hTh TG.cl hr (pv 0))) (blkOk_by (N := nAllMaps) (sc := defScope sAllMaps) (by decide +kernel))
      (fun _ _ _ _ _ => pg_name (i := 2) scAllMaps.nd rfl (.inl rfl)) (fun _ _ _ _ _ => pts_nil) (fun _ _ _ _ _ => pe_make MW GW hr rfl TM.mgW b4 v4 pass0 (pa_cons (pv 0) (pa_cons (pv 2) (pa_cons (pv 1) pa_nil)))))), ?_⟩
    obtain ⟨dx, hp⟩ := hG.at_
    refine ⟨_, rfl, g, dx, _, rfl, hp, gf_no _ _ _, g, r, rfl, hG, h200, fun tt H1 _ s1 htt => ⟨tt, rfl, ⟨_, .inl (.inl htt)⟩, fun Dd hD => ?_⟩⟩
    have hzw : ∀ z ∈ thingsOf r.ts, IsWd z := fun z hz => by
      obtain ⟨t, ht, e⟩ := mem_things.mp hz
      rw [← e]
      exact (hok t ht).th
    refine lc_rel (walk_tup (K := K) (a := tt) (xs := (thingsOf r.ts).map V.str)) hD (fun _ => true) (fun x y H' => ∃ p, y = V.ref p ∧ ∀ z, x = .str z → MapOf C W r.g (sdF chs r.ts z) H' p) (fun H' s' => .inl (.inl (s' _ _ htt))) (fun _ => rfl) (fun x H' _ _ Q' q' => q') ?_ ?_ ?_ ?_
    · intro x H' hx _ s' Q' q'
      obtain ⟨z, hz, rfl⟩ := List.mem_map.mp hx
      refine ⟨_, rfl, _, rfl, _, rfl, fun x dx nx ndx nex => ?_⟩
      have s2 : Same H' (upd (upd H' dx (.own x)) x (.ins W dx [])) := fun b o e => by
        rw [upd_ne (ne_of_none e nx), upd_ne (ne_of_none e ndx)]
        exact e
      have sA := (s1.trans s').trans s2
      refine ⟨x, dx, g, r, wd, z, .ref S, chs, 0, 120, rfl, upd_same, hG.same sA, gd, hok, h200, hzw z hz, .inr ⟨S, rfl, hS.same sA⟩, okc, by decide, by decide, fun S' d H'' hb hM => ⟨rfl, q' _ H'' (fun b o e => hb b o (ne_of_none e nx) (s2 _ _ e)) ⟨x, rfl, fun z2 e2 => ?_⟩⟩⟩
      obtain rfl : z = z2 := V.str.inj e2
      exact ⟨_, hM, rfl, rfl⟩
    · rintro x y H' H'' acc hacc xs' ⟨p, e, h⟩
      exact ⟨p, e, fun z ez => (h z ez).keep (kp_x xs' hacc)⟩
    · rw [List.length_map]
      exact small1000 (by have := things_len r.ts; omega)
    · intro zs H2 s2 hD2 he
      rw [List.filter_eq_self.mpr fun _ _ => rfl] at he
      obtain ⟨ps, rfl, hM⟩ := maps_of he
      exact q Dd ps H2 (s1.trans s2) hD2 hM
/-! ### share_apart -/
theorem pick_maps {g : Grid} {H1 : Hp} {a Dd : Addr} {ps : List Addr} {sds : List (Str → List Str)} {tt : TT} {te : TE} {slot : Nat} {vs : List Nat} {σ : L2.St} {Qd : Hp → Prop} (hl : H1 a = some (.lst (ps.map V.ref))) (hM : MapsAt C W g H1 ps sds) (hD : H1 Dd = none) (pr : (Str → List Str) → Bool) (hn : sds.length ≤ 200)
    (hw : ∀ x, wipe ((wipe σ vs).set slot (some x)) vs = wipe σ vs)
    (ht : ∀ (p : Addr) (sd : Str → List Str) (H : Hp), sd ∈ sds → MapOf C W g sd H p → Same H1 H → ∀ Q : Bool → Hp → Prop, (∀ H', Same H H' → Q (pr sd) H') → tt ((wipe σ vs).set slot (some (.ref p))) H Q)
    (he : ∀ (x : V) (H : Hp) (Q : VK), Q x H → te ((wipe σ vs).set slot (some x)) H Q)
    (hd : ∀ (qs : List Addr) (H : Hp), Same H1 H → H Dd = some (.lst (qs.map V.ref)) → MapsAt C W g H qs (sds.filter pr) → Qd H) :
    ∃ W : Nat → Nat → Hp → Prop, (∃ m, W 0 m (upd H1 Dd (.lst []))) ∧ ∀ i m H, W i m H →
      ((Itl K a).stop i H ∧ Qd H) ∨ ((Itl K a).go i H ∧ ∃ Nx : Hp → Prop, (∀ H', Nx H' → ∃ m', m' < m ∧ W (i + 1) m' H') ∧ ∀ x H', (Itl K a).yld i H x H' → gName slot x (wipe σ vs) H' fun σ2 H2 => wipe σ2 vs = wipe σ vs ∧ tt σ2 H2 fun b H3 =>
        if b = true then te σ2 H3 fun y H4 => ∃ acc, H4 Dd = some (.lst acc) ∧ acc.length < sizeLine ∧ Nx (upd H4 Dd (.lst (acc ++ [y]))) else Nx H3) := by
  have hlen : ps.length = sds.length := hM.length
  refine lc_it (walk_list (K := K) (a := a) (xs := ps.map V.ref)) (fun i H => Same H1 H ∧ ∃ qs, H Dd = some (.lst (qs.map V.ref)) ∧ MapsAt C W g H qs ((sds.take i).filter pr)) ⟨same_new hD, [], upd_same, .nil⟩ (fun i H _ h => .inl (.inl (h.1 _ _ hl))) ?_ ?_
  · rintro i x H H' hi ⟨s, qs, hq, hQ⟩ ⟨rfl, hx⟩
    rw [List.getElem?_map] at hx
    obtain ⟨p, hp, rfl⟩ := Option.map_eq_some_iff.mp hx
    obtain ⟨sd, hsd, hpm⟩ := Each.get hM hp
    have hf := filter_take_snoc (p := pr) hsd
    have lqs : qs.length ≤ i := by
      rw [hQ.length]
      exact Nat.le_trans (List.length_filter_le _ _) (List.length_take_le _ _)
    have hi2 : i < 200 := by
      have := (List.getElem?_eq_some_iff.mp hsd).1
      omega
    refine ⟨hw _, ht p sd _ (List.mem_of_getElem? hsd) (hpm.keep (kp_same s)) s _ fun H3 s3 => ?_⟩
    refine ite_b (fun e => ?_) (fun e => ?_)
    · have hq3 := s3 _ _ hq
      refine he _ _ _ ⟨_, hq3, by rw [List.length_map]; exact small1000 (by omega), same_mut (s.trans s3) hD, qs ++ [p], by rw [upd_same, List.map_append]; rfl, ?_⟩
      rw [hf, if_pos e]
      have k4 := kp_upd (o := .lst (qs.map V.ref ++ [V.ref p])) hq3
      exact Each.append ((hQ.keep (kp_same s3)).keep k4) (.cons ((hpm.keep (kp_same (s.trans s3))).keep k4) .nil)
    · refine ⟨s.trans s3, qs, s3 _ _ hq, ?_⟩
      rw [hf, if_neg (by rw [e]; decide), List.append_nil]
      exact hQ.keep (kp_same s3)
  · rintro H ⟨s, qs, hq, hQ⟩
    rw [List.length_map, hlen, List.take_length] at hQ
    exact hd qs H s hq hQ
def shP (sds : List (Str → List Str)) (a b : Str) : Nat := (sds.filter fun sd => partB sd a b).length
def shC (sds : List (Str → List Str)) (a b : Str) : Nat := (sds.filter fun sd => bothB sd a b).length
theorem part_both (sds : List (Str → List Str)) (a b : Str) : ((sds.filter fun sd => bothB sd a b).filter fun sd => partB sd a b) = sds.filter fun sd => partB sd a b := by
  rw [List.filter_filter]
  congr 1
  funext sd
  unfold partB
  cases bothB sd a b <;> simp
def spShare (C W : Addr) : Sp := fun vs H Q _ => ∃ (l t : Addr) (g : Grid) (ps : List Addr) (sds : List (Str → List Str)) (a b : Str), vs = [.ref l, .ref t] ∧ H l = some (.lst (ps.map V.ref)) ∧ MapsAt C W g H ps sds ∧ sds.length ≤ 200 ∧ (∀ sd ∈ sds, ∀ y, (sd y).length ≤ 200) ∧ H t = some (.tup [.str a, .str b]) ∧ a ∈ sortS (names g) ∧ b ∈ sortS (names g) ∧
  ∀ (t' : Addr) (H' : Hp), Same H H' → H' t' = some (.tup [.int ((shP sds a b : Nat) : Int), .int ((shC sds a b : Nat) : Int)]) → Q (.ref t') H'
abbrev nShare : List Str := ["maps", "pair", "common", "wordmap"]
theorem scShare : FnScope nShare ["maps", "pair"] (defScope sShare) := ⟨rfl, rfl, rfl, by decide +kernel, rfl, by decide +kernel, by decide +kernel⟩
theorem ok_share (F : Fun K "share_apart" "share_apart" sShare f fd) (B : Bi mg) (hBo : Has P w K mg base "both_asked" 1 ["wordmap", "pair"] (spBoth C W)) (hDo : Has P w K mg base "do_part" 2 ["wordmap", "pair"] (spDoPart C W)) : FnOk P w K mg base CX0 3 f fd ["maps", "pair"] (spShare C W) := by
  refine F.ok scShare (fun vs H Q E h => ?_) (fun cdv A outer s H vs Q E hr h => ?_)
  · obtain ⟨l, t, g, ps, sds, a, b, rfl, _⟩ := h
    rfl
  · obtain ⟨l, t, g, ps, sds, a, b, rfl, hl, hM, hn, hy, ht, ha, hb, q⟩ := h
    refine ⟨_, pss_cons (ps_setLc (i := 2) (own := [("wordmap", 3)]) (g := gName 3) (tt := tB (tCall (spBoth C W) [] E0 (tCons (tVar 3) (tCons (tVar 1) tNil)))) (te := tVar 3) rfl scShare.nd rfl rfl (sw_true rfl rfl rfl (by decide +kernel)) (pi_list (pv 0)) (blkOk_by (N := nShare) (sc := defScope sShare) (by decide +kernel))
        (fun _ _ _ _ _ => pg_name (i := 3) scShare.nd rfl (.inl rfl)) (fun _ _ _ _ _ => pts_one (pt_val (pe_h hBo hr (pa_cons (pv 3) (pa_cons (pv 1) pa_nil))))) (fun _ _ _ _ _ => pv 3))
      (pss_one (ps_ret (pe_tup (pa_cons (pe_callB call_len_seq (by rfl) B.len PySem.boot_len (pa_cons (pe_lc (own := [("wordmap", 3)]) (g := gName 3) (tt := tB (tCall (spDoPart C W) [] E0 (tCons (tVar 3) (tCons (tVar 1) tNil)))) (te := tVar 3) rfl scShare.nd (pi_list (pv 2)) (blkOk_by (N := nShare) (sc := defScope sShare) (by decide +kernel))
        (fun _ _ _ _ _ => pg_name (i := 3) scShare.nd rfl (.inl rfl)) (fun _ _ _ _ _ => pts_one (pt_val (pe_h hDo hr (pa_cons (pv 3) (pa_cons (pv 1) pa_nil))))) (fun _ _ _ _ _ => pv 3)) pa_nil)) (pa_cons (pe_callB call_len_seq (by rfl) B.len PySem.boot_len (pa_cons (pv 2) pa_nil)) pa_nil))))), ?_⟩
    refine ⟨_, rfl, l, rfl, ⟨_, .inl (.inl hl)⟩, fun D1 hD1 => ?_⟩
    refine pick_maps (K := K) hl hM hD1 (fun sd => bothB sd a b) hn (fun _ => rfl) ?_ (fun x H' Q' q' => ⟨_, rfl, q'⟩) ?_
    · rintro p sd H' _ ⟨mr, h1, h2, h3⟩ s' Q' q'
      have := q' H' (Same.refl H')
      rw [← h3] at this
      exact ⟨_, rfl, _, rfl, p, t, mr, a, b, rfl, h1, s' _ _ ht, by rw [h2]; exact ha, by rw [h2]; exact hb, _, rfl, this⟩
    intro qs H1 s1 hD1' hQ1
    have hn1 : (sds.filter fun sd => bothB sd a b).length ≤ 200 := Nat.le_trans (List.length_filter_le _ _) hn
    refine ⟨_, rfl, D1, rfl, ⟨_, .inl (.inl hD1')⟩, fun D2 hD2 => ?_⟩
    refine pick_maps (K := K) hD1' hQ1 hD2 (fun sd => partB sd a b) hn1 (fun _ => rfl) ?_ (fun x H' Q' q' => ⟨_, rfl, q'⟩) ?_
    · rintro p sd H' hsd ⟨mr, h1, h2, h3⟩ s' Q' q'
      refine ⟨_, rfl, _, rfl, p, t, mr, a, b, rfl, h1, (s1.trans s') _ _ ht, by rw [h2]; exact ha, by rw [h2]; exact hb, by rw [h3]; exact hy sd (List.mem_filter.mp hsd).1 a, fun H3 s3 => ⟨_, rfl, ?_⟩⟩
      rw [h3]
      exact q' H3 s3
    intro qs2 H2 s2 hD2' hQ2
    rw [part_both] at hQ2
    refine ⟨D2, _, rfl, .inl (.inl (.inl hD2')), _, rfl, D1, _, rfl, .inl (.inl (.inl (s2 _ _ hD1'))), lz, fun tp htp => ?_⟩
    have e1 : (((qs2.map V.ref).length : Nat) : Int) = ((shP sds a b : Nat) : Int) := by
      rw [List.length_map, hQ2.length]
      rfl
    have e2 : (((qs.map V.ref).length : Nat) : Int) = ((shC sds a b : Nat) : Int) := by
      rw [List.length_map, hQ1.length]
      rfl
    rw [e1, e2]

    exact q tp _ ((s1.trans s2).trans (same_new htp)) upd_same
end
end Wl


namespace Wl
open PySem PySem.Spec PyProof.Rows L2
theorem said_len (chs : List Chg) (ts : List Tel) (z : Str) (lo hi : Nat) (y : Str) : (saidOf chs ts z lo hi y).length ≤ ts.length := by
  unfold saidOf wordsIn shownOf
  rw [sortS_len]
  refine Nat.le_trans (keysOf_len _) ?_
  rw [List.length_map]
  exact Nat.le_trans (List.length_filter_le _ _) (Nat.le_trans (List.length_filter_le _ _) (List.length_filter_le _ _))
theorem sds_len (chs : List Chg) (ts : List Tel) : (sdsOf chs ts).length ≤ ts.length := by
  unfold sdsOf
  rw [List.length_map]
  exact things_len ts
theorem sds_said {chs : List Chg} {ts : List Tel} (h : ts.length ≤ 200) : ∀ sd ∈ sdsOf chs ts, ∀ y, (sd y).length ≤ 200 := fun sd hsd y => by
  obtain ⟨z, _, rfl⟩ := List.mem_map.mp hsd
  exact Nat.le_trans (said_len _ _ _ _ _ _) h
def shF (sds : List (Str → List Str)) (a z : Str) : Nat × Nat := (shP sds a z, shC sds a z)
theorem shF_le {chs : List Chg} {ts : List Tel} (h : ts.length ≤ 200) (a z : Str) : (shF (sdsOf chs ts) a z).1 ≤ 200 := Nat.le_trans (List.length_filter_le _ _) (Nat.le_trans (sds_len chs ts) h)
/-- the other villages that have a thing in common with a -/
def aroundL (g : Grid) (sds : List (Str → List Str)) (a : Str) : List Str := ((sortS (names g)).filter fun z => !decide (z = a)).filter fun z => decide (0 < shC sds a z)
theorem around_len {g : Grid} {wd : Nat} (gd : Good g wd) (sds : List (Str → List Str)) (a : Str) : (aroundL g sds a).length ≤ 36 := by
  unfold aroundL
  refine Nat.le_trans (List.length_filter_le _ _) (Nat.le_trans (List.length_filter_le _ _) ?_)
  rw [sortS_len]
  exact gd.len
theorem around_nodup {g : Grid} {wd : Nat} (gd : Good g wd) (sds : List (Str → List Str)) (a : Str) : (aroundL g sds a).Nodup := List.Pairwise.filter _ (List.Pairwise.filter _ (sortS_nodup gd.nd))
/-- which of two shares is below the other -/
def lessN (p q : Nat × Nat) : Bool := decide (p.1 * q.2 < q.1 * p.2)
def nearL (nms : List Str) (F : Str → Nat × Nat) : List Str := nms.filter fun z => !(nms.any fun y => lessN (F y) (F z))
def farL (nms : List Str) (F : Str → Nat × Nat) : List Str := nms.filter fun z => !(nms.any fun y => lessN (F z) (F y))
def lessBy (F : Str → Nat × Nat) (ls : Nat × Nat → Nat × Nat → Bool) (z : Str) : V → V
  | .str y => .bl (ls (F y) (F z))
  | _ => .non
theorem less_list (F : Str → Nat × Nat) (ls : Nat × Nat → Nat × Nat → Bool) (z : Str) (nms : List Str) : (nms.map V.str).map (lessBy F ls z) = (nms.map fun y => ls (F y) (F z)).map V.bl := by
  rw [List.map_map, List.map_map]
  rfl
def bestBy (nms : List Str) (F : Str → Nat × Nat) (ls : Nat × Nat → Nat × Nat → Bool) : V → Bool
  | .str z => !((nms.map fun y => ls (F y) (F z)).any id)
  | _ => false
theorem best_list (nms : List Str) (F : Str → Nat × Nat) (ls : Nat × Nat → Nat × Nat → Bool) : ∀ l : List Str, (l.map V.str).filter (bestBy nms F ls) = (l.filter fun z => !(nms.any fun y => ls (F y) (F z))).map V.str
  | [] => rfl
  | z :: l => by
    have e : bestBy nms F ls (.str z) = !(nms.any fun y => ls (F y) (F z)) := by
      show (!((nms.map fun y => ls (F y) (F z)).any id)) = _
      rw [List.any_map]
      rfl
    rw [List.map_cons, List.filter_cons, List.filter_cons, e, best_list nms F ls l]
    split
    · rfl
    · rfl
theorem unlock_same {H H' : Hp} {d : Addr} {u x : HO} (hd : H d = some u) (s : Same (upd H d x) H') : Same H (upd H' d u) := fun b o e => by
  by_cases c : b = d
  · subst c
    rw [upd_same, ← hd]
    exact e
  · rw [upd_ne c]
    exact s b o (by rw [upd_ne c]; exact e)
theorem walk_keysZ {d : Addr} {o : Obj} {ad : Str → V} {nms : List Str} : L2.Walk (Itk d o (kvZ ad nms)) (nms.map V.str).length (fun H => H d = some (.frz o (.dK (kvZ ad nms)))) (YAt (nms.map V.str)) := by
  have e : (nms.map V.str).length = (kvZ ad nms).length := by rw [List.length_map, kvZ_len]
  rw [e]
  refine walk_keys.mono (fun H h => h) fun i H x H' hi hG hy => ?_
  obtain ⟨rfl, k, v, h1, h2⟩ := hy
  refine ⟨rfl, ?_⟩
  unfold kvZ at h1
  rw [List.getElem?_map] at h1
  obtain ⟨z, hz, e2⟩ := Option.map_eq_some_iff.mp h1
  rw [List.getElem?_map, hz, h2, ← (Prod.mk.inj e2).1]
  rfl
theorem dget_frz {H : Hp} {d : Addr} {o : Obj} {ad : Str → V} {nms : List Str} {z : Str} (h : H d = some (.frz o (.dK (kvZ ad nms)))) (hz : z ∈ nms) : DGet H d (.str z) (some (ad z)) := .inl ⟨_, Sum.inr z, .inr ⟨o, h⟩, rfl, (valV_in hz).symm⟩
section
variable {P : Program} {w : World} {K : PySem.W.Frag} {mg : Str → Option Value} {base : Heap} {f C D W : Addr} {fd : FuncData}
/-! ### apart -/
/-- None, or a pair of two numbers -/
def FarV (H : Hp) (x : V) (n m : Nat) : Prop := (m = 0 ∧ x = .non) ∨ (0 < m ∧ ∃ t, x = .ref t ∧ H t = some (.tup [.int (n : Int), .int (m : Int)]))
theorem FarV.keep {H H' : Hp} {x : V} {n m : Nat} (h : FarV H x n m) (k : TupKeep H H') : FarV H' x n m := by
  rcases h with h | ⟨h1, t, h2, h3⟩
  · exact .inl h
  · exact .inr ⟨h1, t, h2, k _ _ h3⟩
def spApart (C D : Addr) : Sp := fun vs H Q _ => ∃ (g : Addr) (r : GR) (wd : Nat) (a b : Str) (v : V) (chs : List Chg), vs = [.ref g, .str a, .str b, v] ∧ GatAt C D H g r ∧ Good r.g wd ∧ (∀ t ∈ r.ts, OkT t) ∧ r.ts.length ≤ 200 ∧ a ∈ names r.g ∧ b ∈ names r.g ∧ ChV H v chs ∧ OkCs chs ∧
  ∀ (x : V) (H' : Hp), Same H H' → FarV H' x (shP (sdsOf chs r.ts) a b) (shC (sdsOf chs r.ts) a b) → Q x H'
abbrev psApart : List Str := ["gathering", "village", "other", "changes"]
abbrev nApart : List Str := ["gathering", "village", "other", "changes", "share"]
theorem scApart : FnScope nApart psApart (defScope sApart) := ⟨rfl, rfl, rfl, by decide +kernel, rfl, by decide +kernel, by decide +kernel⟩
theorem ok_apart (F : FunN K "apart" sApart f fd) (T : Txt K mg C) (TG : TxtG K mg D) (hCG : Has P w K mg base "check_gathering" 1 ["thing"] (spCheckG C D)) (hCk : HasM P w K mg base C "check_name" 2 ["self", "name"] (spCheck C)) (hCh : Has P w K mg base "checked_changes" 4 ["changes"] spChecked) (hAll : Has P w K mg base "all_maps" 10 ["gathering", "changes"] (spAllMaps C D W)) (hSh : Has P w K mg base "share_apart" 3 ["maps", "pair"] (spShare C W)) : FnOk P w K mg base CX0 11 f fd psApart (spApart C D) := by
  refine okN F scApart (fun vs H Q E h => ?_) (fun cdv A outer s H vs Q E hr h => ?_)
  · obtain ⟨g, r, wd, a, b, v, chs, rfl, _⟩ := h
    rfl
  · obtain ⟨g, r, wd, a, b, v, chs, rfl, hG, gd, hok, h200, ha, hb, hv, okc, q⟩ := h
    refine ⟨_, pss_cons (ps_expr (pe_h hCG hr (pa_cons (pv 0) pa_nil)))
      (pss_cons (ps_expr (pe_hm hCk T.cl hr (pe_fld (pv 0) rfl) (pa_cons (pv 1) pa_nil)))
      (pss_cons (ps_expr (pe_hm hCk T.cl hr (pe_fld (pv 0) rfl) (pa_cons (pv 2) pa_nil)))
      (pss_cons (ps_set (i := 4) scApart.nd rfl (.inl rfl) (pe_h hSh hr (pa_cons (pe_h hAll hr (pa_cons (pv 0) (pa_cons (pe_h hCh hr (pa_cons (pv 3) pa_nil)) pa_nil))) (pa_cons (pe_tup (pa_cons (pv 1) (pa_cons (pv 2) pa_nil))) pa_nil))))
      (pss_one (ps_ret (pe_ifExp (pt_cmpR op_gt (pe_ix ix_tup (pv 4) pe_int (fun _ _ => rfl)) pe_int (nomark _)) (pv 4) pe_non)))))), ?_⟩
    obtain ⟨dx, hp⟩ := hG.at_
    obtain ⟨dl, d0, hl0⟩ := hG.land.ins
    refine ⟨_, rfl, g, r, rfl, hG, ?_⟩
    refine ⟨_, rfl, g, D, dx, _, _, rfl, hp, TG.cl, TG.nL, gf_land _ _ _, r.pl, dl, _, rfl, hl0, fs_no, _, rfl, r.pl, r.L, r.g, wd, a, rfl, hG.land, gd, ha, fun H1 s1 => ?_⟩
    refine ⟨_, rfl, g, D, dx, _, _, rfl, s1 _ _ hp, TG.cl, TG.nL, gf_land _ _ _, r.pl, dl, _, rfl, s1 _ _ hl0, fs_no, _, rfl, r.pl, r.L, r.g, wd, b, rfl, hG.land.same s1, gd, hb, fun H2 s2 => ?_⟩
    have s02 := s1.trans s2
    refine ⟨_, rfl, _, rfl, v, chs, rfl, hv.same s02, okc, fun S H3 s3 hS => ?_⟩
    have s03 := s02.trans s3
    refine ⟨g, S, r, wd, chs, rfl, hG.same s03, gd, hok, h200, hS, okc, fun l ps H4 s4 hl hM => ?_⟩
    refine ⟨_, rfl, _, rfl, lz, fun tp htp => ?_⟩
    have s5 := same_new (o := .tup [V.str a, V.str b]) htp
    refine ⟨l, tp, r.g, ps, _, a, b, rfl, s5 _ _ hl, hM.keep (kp_same s5), Nat.le_trans (sds_len _ _) h200, sds_said h200, upd_same, mem_sortS.mpr ha, mem_sortS.mpr hb, fun t' H6 s6 ht' => ?_⟩
    have s06 := ((s03.trans s4).trans s5).trans s6
    refine ⟨_, rfl, t', _, _, _, rfl, rfl, .inl (.inl ht'), atI_nat (j := 1) rfl, _, _, rfl, rfl, _, rfl, ite_b (fun e => ?_) (fun e => ?_)⟩
    · have e := of_decide_eq_true e
      exact ⟨_, rfl, q _ H6 s06 (.inr ⟨by omega, t', rfl, ht'⟩)⟩
    · have e := of_decide_eq_false e
      exact q _ H6 s06 (.inl ⟨by omega, rfl⟩)
/-! ### is_less -/
def spIsLess : Sp := fun vs H Q _ => ∃ (t u : Addr) (p1 p2 q1 q2 : Nat), vs = [.ref t, .ref u] ∧ H t = some (.tup [.int (p1 : Int), .int (p2 : Int)]) ∧ H u = some (.tup [.int (q1 : Int), .int (q2 : Int)]) ∧ p1 ≤ 200 ∧ q1 ≤ 200 ∧ Q (.bl (lessN (p1, p2) (q1, q2))) H
theorem scIsLess : FnScope ["share", "other"] ["share", "other"] (defScope sIsLess) := ⟨rfl, rfl, rfl, by decide +kernel, rfl, by decide +kernel, by decide +kernel⟩
theorem ok_isless (F : Fun K "is_less" "is_less" sIsLess f fd) : FnOk P w K mg base CX0 1 f fd ["share", "other"] spIsLess := by
  refine F.ok scIsLess (fun vs H Q E h => ?_) (fun cdv A outer s H vs Q E hr h => ?_)
  · obtain ⟨t, u, p1, p2, q1, q2, rfl, _⟩ := h
    rfl
  · obtain ⟨t, u, p1, p2, q1, q2, rfl, ht, hu, hp, hq, q⟩ := h
    refine ⟨_, pss_one (ps_ret (pe_cmpR op_lt (pe_op op_mul (pe_ix ix_tup (pv 0) pe_int (fun _ _ => rfl)) (pe_ix ix_tup (pv 1) pe_int (fun _ _ => rfl))) (pe_op op_mul (pe_ix ix_tup (pv 1) pe_int (fun _ _ => rfl)) (pe_ix ix_tup (pv 0) pe_int (fun _ _ => rfl))) (nomark _))), ?_⟩
    refine ⟨_, rfl, t, _, _, _, rfl, rfl, .inl (.inl ht), atI_nat (j := 0) rfl, _, rfl, u, _, _, _, rfl, rfl, .inl (.inl hu), atI_nat (j := 1) rfl, _, _, rfl, rfl, .inl ⟨by omega, by omega⟩, _, rfl, u, _, _, _, rfl, rfl, .inl (.inl hu), atI_nat (j := 0) rfl, _, rfl, t, _, _, _, rfl, rfl, .inl (.inl ht), atI_nat (j := 1) rfl, _, _, rfl, rfl, .inl ⟨by omega, by omega⟩, _, _, rfl, rfl, ?_⟩
    have e : decide ((p1 : Int) * (q2 : Int) < (q1 : Int) * (p2 : Int)) = lessN (p1, p2) (q1, q2) := by
      unfold lessN
      rw [Bool.eq_iff_iff, decide_eq_true_eq, decide_eq_true_eq]
      show (p1 : Int) * (q2 : Int) < (q1 : Int) * (p2 : Int) ↔ p1 * q2 < q1 * p2
      rw [← Int.natCast_mul, ← Int.natCast_mul]
      exact Int.ofNat_lt
    show Q (.bl (decide ((p1 : Int) * (q2 : Int) < (q1 : Int) * (p2 : Int)))) H
    rw [e]
    exact q
/-! ### shares_around -/
def ShAt (H : Hp) (d : Addr) (nms : List Str) (F : Str → Nat × Nat) : Prop := ∃ ad : Str → Addr, H d = some (.dK (kvZ (fun z => .ref (ad z)) nms)) ∧ ∀ z ∈ nms, H (ad z) = some (.tup [.int (((F z).1 : Nat) : Int), .int (((F z).2 : Nat) : Int)])
theorem shAt_put {H' : Hp} {d t : Addr} {nms : List Str} {F : Str → Nat × Nat} {z : Str} {ad : Str → Addr} (hd : H' d = some (.dK (kvZ (fun z => .ref (ad z)) nms))) (hT : ∀ z ∈ nms, H' (ad z) = some (.tup [.int (((F z).1 : Nat) : Int), .int (((F z).2 : Nat) : Int)])) (hnew : z ∉ nms) (ht : H' t = some (.tup [.int (((F z).1 : Nat) : Int), .int (((F z).2 : Nat) : Int)])) :
    ShAt (upd H' d (.dK (putK (kvZ (fun z => V.ref (ad z)) nms) (Sum.inr z) (.ref t)))) d (nms ++ [z]) F := by
  have hv : valV (kvZ (fun z => V.ref (ad z)) nms) (Sum.inr z : Key) = none := valV_out hnew
  have tk := tk_updD (o := .dK (putK (kvZ (fun z => V.ref (ad z)) nms) (Sum.inr z) (.ref t))) hd
  refine ⟨fun y => if y = z then t else ad y, ?_, fun y hy => ?_⟩
  · rw [putK_new _ hv, upd_same]
    unfold kvZ
    rw [List.map_append]
    congr 2
    congr 1
    · refine List.map_congr_left fun y hy => ?_
      have : y ≠ z := fun e => hnew (e ▸ hy)
      simp only [if_neg this]
    · simp
  · by_cases c : y = z
    · subst c
      simp only [if_true]
      exact tk _ _ ht
    · simp only [if_neg c]
      rcases List.mem_append.mp hy with h | h
      · exact tk _ _ (hT y h)
      · exact absurd (List.mem_singleton.mp h) c
def spAround (C D : Addr) : Sp := fun vs H Q _ => ∃ (g : Addr) (r : GR) (wd : Nat) (a : Str) (v : V) (chs : List Chg), vs = [.ref g, .str a, v] ∧ GatAt C D H g r ∧ Good r.g wd ∧ (∀ t ∈ r.ts, OkT t) ∧ r.ts.length ≤ 200 ∧ a ∈ names r.g ∧ ChV H v chs ∧ OkCs chs ∧
  ∀ (d : Addr) (H' : Hp), H d = none → Same H H' → ShAt H' d (aroundL r.g (sdsOf chs r.ts) a) (shF (sdsOf chs r.ts) a) → Q (.ref d) H'
abbrev psAround : List Str := ["gathering", "village", "changes"]
abbrev nAround : List Str := ["gathering", "village", "changes", "maps", "shares", "other"]
theorem scAround : FnScope nAround psAround (defScope sAround) := ⟨rfl, rfl, rfl, by decide +kernel, rfl, by decide +kernel, by decide +kernel⟩
theorem ok_around (F : Fun K "shares_around" "shares_around" sAround f fd) (T : Txt K mg C) (TG : TxtG K mg D) (hCG : Has P w K mg base "check_gathering" 1 ["thing"] (spCheckG C D)) (hCk : HasM P w K mg base C "check_name" 2 ["self", "name"] (spCheck C)) (hN : HasM P w K mg base C "names" 1 ["self"] (spLNames C)) (hCh : Has P w K mg base "checked_changes" 4 ["changes"] spChecked) (hAll : Has P w K mg base "all_maps" 10 ["gathering", "changes"] (spAllMaps C D W)) (hSh : Has P w K mg base "share_apart" 3 ["maps", "pair"] (spShare C W)) : FnOk P w K mg base CX0 11 f fd psAround (spAround C D) := by
  refine F.ok scAround (fun vs H Q E h => ?_) (fun cdv A outer s H vs Q E hr h => ?_)
  · obtain ⟨g, r, wd, a, v, chs, rfl, _⟩ := h
    rfl
  · obtain ⟨g, r, wd, a, v, chs, rfl, hG, gd, hok, h200, ha, hv, okc, q⟩ := h
    have hu := hu_of hr
    refine ⟨_, pss_cons (ps_expr (pe_h hCG hr (pa_cons (pv 0) pa_nil)))
      (pss_cons (ps_expr (pe_hm hCk T.cl hr (pe_fld (pv 0) rfl) (pa_cons (pv 1) pa_nil)))
      (pss_cons (ps_set (i := 3) scAround.nd rfl (.inr rfl) (pe_h hAll hr (pa_cons (pv 0) (pa_cons (pe_h hCh hr (pa_cons (pv 2) pa_nil)) pa_nil))))
      (pss_cons (ps_set (i := 4) scAround.nd rfl (.inr rfl) (pe_dc (own := [("other", 5)]) (g := gName 5) (tt := tTest (tOp rNe (tVar 5) (tVar 1))) (tk := tVar 5) (tv := tCall (spShare C W) [] E0 (tCons (tVar 3) (tCons (tTup (tCons (tVar 1) (tCons (tVar 5) tNil))) tNil))) rfl scAround.nd (pi_tup (pe_hm0 hN T.cl hr (pe_fld (pv 0) rfl))) (blkOk_by (N := nAround) (sc := defScope sAround) (by decide +kernel))
        (fun _ _ _ _ _ => pg_name (i := 5) scAround.nd rfl (.inl rfl)) (fun _ _ _ _ _ => pts_one (pt_cmpR op_ne (pv 5) (pv 1) (nomark _))) (fun _ _ _ _ _ => pv 5) (fun _ _ _ _ _ => pe_h hSh hr (pa_cons (pv 3) (pa_cons (pe_tup (pa_cons (pv 1) (pa_cons (pv 5) pa_nil))) pa_nil)))))
      (pss_one (ps_ret (pe_lock (pe_dc (own := [("other", 5)]) (g := gName 5) (tt := tTest (tOp (rI0 fun i j => .bl (decide (j < i))) (tOp (rIxT K) (tDGet (tVar 4) (tVar 5)) (tC (.int 1))) (tC (.int 0)))) (tk := tVar 5) (tv := tDGet (tVar 4) (tVar 5)) rfl scAround.nd (pi_keys (pv 4)) (blkOk_by (N := nAround) (sc := defScope sAround) (by decide +kernel))
        (fun _ _ _ _ _ => pg_name (i := 5) scAround.nd rfl (.inl rfl)) (fun _ _ _ _ _ => pts_one (pt_cmpR op_gt (pe_ix ix_tup (pe_dget hu (pv 4) (pv 5) (fun _ _ => rfl)) pe_int (fun _ _ => rfl)) pe_int (nomark _))) (fun _ _ _ _ _ => pv 5) (fun _ _ _ _ _ => pe_dget hu (pv 4) (pv 5) (fun _ _ => rfl))))))))), ?_⟩
    obtain ⟨dx, hp⟩ := hG.at_
    obtain ⟨dl, d0, hl0⟩ := hG.land.ins
    refine ⟨_, rfl, g, r, rfl, hG, ?_⟩
    refine ⟨_, rfl, g, D, dx, _, _, rfl, hp, TG.cl, TG.nL, gf_land _ _ _, r.pl, dl, _, rfl, hl0, fs_no, _, rfl, r.pl, r.L, r.g, wd, a, rfl, hG.land, gd, ha, fun H1 s1 => ?_⟩
    refine ⟨_, rfl, _, rfl, v, chs, rfl, hv.same s1, okc, fun S H2 s2 hS => ?_⟩
    have s02 := s1.trans s2
    refine ⟨g, S, r, wd, chs, rfl, hG.same s02, gd, hok, h200, hS, okc, fun l ps H3 s3 hl hM => ?_⟩
    have s03 := s02.trans s3
    have sl := sds_len chs r.ts
    have sd2 := sds_said (chs := chs) h200
    generalize hsds : sdsOf chs r.ts = sds at q sl sd2 hM
    refine ⟨_, rfl, g, D, dx, _, _, rfl, s03 _ _ hp, TG.cl, TG.nL, gf_land _ _ _, r.pl, dl, _, rfl, s03 _ _ hl0, fs_no, r.pl, r.L, r.g, wd, rfl, hG.land.same s03, gd, fun tn H4 _ s4 htn => ⟨tn, rfl, ⟨_, .inl (.inl htn)⟩, fun Dd hD => ?_⟩⟩
    have s04 := s03.trans s4
    have nN : (sortS (names r.g)).length ≤ 36 := by
      rw [sortS_len]
      exact gd.len
    have ndN : (sortS (names r.g)).Nodup := sortS_nodup gd.nd
    refine dc_it (walk_tup (K := K) (a := tn) (xs := (sortS (names r.g)).map V.str)) (fun i H' => Same H4 H' ∧ ShAt H' Dd (((sortS (names r.g)).take i).filter fun z => !decide (z = a)) (shF sds a)) ⟨same_new hD, fun _ => 0, upd_same, fun z hz => by simp at hz⟩ (fun i H' _ h => .inl (.inl (h.1 _ _ htn))) ?_ ?_
    · rintro i x H5 H6 hi ⟨s5, ad, hd5, hT5⟩ ⟨rfl, hx⟩
      rw [List.getElem?_map] at hx
      obtain ⟨z, hz, rfl⟩ := Option.map_eq_some_iff.mp hx
      have hzm := List.mem_of_getElem? hz
      have hf := filter_take_snoc (p := fun z => !decide (z = a)) hz
      refine ⟨rfl, _, rfl, _, rfl, rfl, _, rfl, ?_⟩
      rw [str_dec]
      refine not_b (fun e => ?_) (fun e => ?_)
      · refine ⟨_, rfl, _, rfl, _, rfl, _, rfl, lz, fun tp htp => ?_⟩
        have s7 := same_new (o := .tup [V.str a, V.str z]) htp
        have s47 := s5.trans s7
        refine ⟨l, tp, r.g, ps, sds, a, z, rfl, s47 _ _ (s4 _ _ hl), (hM.keep (kp_same (s4.trans s47))), by omega, sd2, upd_same, mem_sortS.mpr ha, hzm, fun t' H8 s8 ht' => ?_⟩
        have s78 := s7.trans s8
        have hd8 := s78 _ _ hd5
        have hnew : z ∉ ((sortS (names r.g)).take i).filter fun z => !decide (z = a) := fun hm => by
          have hm := (List.mem_filter.mp hm).1
          obtain ⟨j, hj, ej⟩ := List.mem_iff_getElem.mp hm
          rw [List.length_take] at hj
          rw [List.getElem_take] at ej
          obtain ⟨hi2, ei⟩ := List.getElem?_eq_some_iff.mp hz
          have := (List.getElem_inj ndN).mp (ej.trans ei.symm)
          omega
        refine ⟨_, Sum.inr z, rfl, hd8, ?_, same_mut (s5.trans s78) hD, ?_⟩
        · rw [kvZ_len]
          refine small1000 (Nat.le_trans (List.length_filter_le _ _) ?_)
          rw [List.length_take]
          omega
        · rw [hf, if_pos (by rw [e]; rfl)]
          exact shAt_put (F := shF sds a) hd8 (fun y hy => s78 _ _ (hT5 y hy)) hnew ht'
      · refine ⟨s5, ad, ?_, fun y hy => hT5 y ?_⟩
        · rw [hf, if_neg (by rw [e]; decide), List.append_nil]
          exact hd5
        · rw [hf, if_neg (by rw [e]; decide), List.append_nil] at hy
          exact hy
    rintro H5 ⟨s5, h5⟩
    rw [List.length_map, List.take_length] at h5
    obtain ⟨ad, hd5, hT5⟩ := h5
    have lA : ((sortS (names r.g)).filter fun z => !decide (z = a)).length ≤ 36 := Nat.le_trans (List.length_filter_le _ _) nN
    have ndA : ((sortS (names r.g)).filter fun z => !decide (z = a)).Nodup := List.Pairwise.filter _ ndN
    unfold aroundL at q
    generalize ((sortS (names r.g)).filter fun z => !decide (z = a)) = nms at q hd5 hT5 lA ndA
    refine ⟨Dd, _, hd5, trivial, fun od => ?_⟩
    have hfz : upd H5 Dd (.frz od (.dK (kvZ (fun z => .ref (ad z)) nms))) Dd = some (.frz od (.dK (kvZ (fun z => .ref (ad z)) nms))) := upd_same
    have tkf : TupKeep H5 (upd H5 Dd (.frz od (.dK (kvZ (fun z => .ref (ad z)) nms)))) := tk_updD hd5
    have hTf : ∀ z ∈ nms, upd H5 Dd (.frz od (.dK (kvZ (fun z => .ref (ad z)) nms))) (ad z) = some (.tup [.int (((shF sds a z).1 : Nat) : Int), .int (((shF sds a z).2 : Nat) : Int)]) := fun z hz => tkf _ _ (hT5 z hz)
    have unl : ∀ H', Same (upd H5 Dd (.frz od (.dK (kvZ (fun z => .ref (ad z)) nms)))) H' → Same H5 (upd H' Dd (.dK (kvZ (fun z => .ref (ad z)) nms))) := fun H' s' => unlock_same hd5 s'
    have fre : ∀ p, upd H5 Dd (.frz od (.dK (kvZ (fun z => .ref (ad z)) nms))) p = none → H5 p = none := fun p hp => by
      by_cases c : p = Dd
      · rw [c, upd_same] at hp
        cases hp
      · rw [upd_ne c] at hp
        exact hp
    generalize upd H5 Dd (.frz od (.dK (kvZ (fun z => .ref (ad z)) nms))) = H6 at hfz hTf unl fre
    refine ⟨_, rfl, Dd, od, rfl, .inl ⟨_, hfz, fun De hE => ?_⟩⟩
    refine dc_it (walk_keysZ (d := Dd) (o := od) (ad := fun z => .ref (ad z)) (nms := nms)) (fun i H' => Same H6 H' ∧ ShAt H' De ((nms.take i).filter fun z => decide (0 < shC sds a z)) (shF sds a)) ⟨same_new hE, fun _ => 0, upd_same, fun z hz => by simp at hz⟩ (fun i H' _ h => h.1 _ _ hfz) ?_ ?_
    · rintro i x H7 H8 hi ⟨s7, ad2, hd7, hT7⟩ ⟨rfl, hx⟩
      rw [List.getElem?_map] at hx
      obtain ⟨z, hz, rfl⟩ := Option.map_eq_some_iff.mp hx
      have hzm := List.mem_of_getElem? hz
      have hf := filter_take_snoc (p := fun z => decide (0 < shC sds a z)) hz
      have hTz := s7 _ _ (hTf z hzm)
      refine ⟨rfl, _, rfl, _, rfl, Dd, _, rfl, dget_frz (s7 _ _ hfz) hzm, ad z, _, _, _, rfl, rfl, .inl (.inl hTz), atI_nat (j := 1) rfl, _, _, rfl, rfl, _, rfl, ?_⟩
      have e0 : decide ((0 : Int) < (((shF sds a z).2 : Nat) : Int)) = decide (0 < shC sds a z) := by
        rw [Bool.eq_iff_iff, decide_eq_true_eq, decide_eq_true_eq]
        show (0 : Int) < ((shC sds a z : Nat) : Int) ↔ 0 < shC sds a z
        omega
      rw [e0]
      refine ite_b (fun e => ?_) (fun e => ?_)
      · refine ⟨_, rfl, _, rfl, _, rfl, Dd, _, rfl, dget_frz (s7 _ _ hfz) hzm, ?_⟩
        have hnew : z ∉ (nms.take i).filter fun z => decide (0 < shC sds a z) := fun hm => by
          have hm := (List.mem_filter.mp hm).1
          obtain ⟨j, hj, ej⟩ := List.mem_iff_getElem.mp hm
          rw [List.length_take] at hj
          rw [List.getElem_take] at ej
          obtain ⟨hi2, ei⟩ := List.getElem?_eq_some_iff.mp hz
          have := (List.getElem_inj ndA).mp (ej.trans ei.symm)
          omega
        refine ⟨_, Sum.inr z, rfl, hd7, ?_, same_mut s7 hE, ?_⟩
        · rw [kvZ_len]
          refine small1000 (Nat.le_trans (List.length_filter_le _ _) ?_)
          rw [List.length_take]
          omega
        · rw [hf, if_pos e]
          exact shAt_put (F := shF sds a) hd7 hT7 hnew hTz
      · refine ⟨s7, ad2, ?_, fun y hy => hT7 y ?_⟩
        · rw [hf, if_neg (by rw [e]; decide), List.append_nil]
          exact hd7
        · rw [hf, if_neg (by rw [e]; decide), List.append_nil] at hy
          exact hy
    · rintro H7 ⟨s7, ad2, hd7, hT7⟩
      rw [List.length_map, List.take_length] at hd7 hT7
      have hfz7 := s7 _ _ hfz
      have nED : De ≠ Dd := fun e => by
        rw [e, hfz] at hE
        cases hE
      refine ⟨hfz7, q De _ ((s04.trans s5).free (fre De hE)) ((s04.trans s5).trans (unl H7 s7)) ⟨ad2, ?_, fun z hz => ?_⟩⟩
      · rw [upd_ne nED]
        exact hd7
      · have h := hT7 z hz
        rw [upd_ne (ne_of h hfz7 (by intro z; cases z))]
        exact h
abbrev psNearest : List Str := ["gathering", "village", "changes"]
abbrev nNearest : List Str := ["gathering", "village", "changes", "shares", "name", "other"]
/-! ### nearest -/
def spNearest (C D : Addr) : Sp := fun vs H Q _ => ∃ (g : Addr) (r : GR) (wd : Nat) (a : Str) (v : V) (chs : List Chg), vs = [.ref g, .str a, v] ∧ GatAt C D H g r ∧ Good r.g wd ∧ (∀ t ∈ r.ts, OkT t) ∧ r.ts.length ≤ 200 ∧ a ∈ names r.g ∧ ChV H v chs ∧ OkCs chs ∧
  ∀ (t : Addr) (H' : Hp), Same H H' → H' t = some (.tup ((nearL (aroundL r.g (sdsOf chs r.ts) a) (shF (sdsOf chs r.ts) a)).map V.str)) → Q (.ref t) H'
theorem scNearest : FnScope nNearest psNearest (defScope sNearest) := ⟨rfl, rfl, rfl, by decide +kernel, rfl, by decide +kernel, by decide +kernel⟩
theorem ok_nearest (F : FunN K "nearest" sNearest f fd) (B : Bi mg) (hany : mg "any" = none) (hAr : Has P w K mg base "shares_around" 11 psAround (spAround C D)) (hL : Has P w K mg base "is_less" 1 ["share", "other"] spIsLess) : FnOk P w K mg base CX0 12 f fd psNearest (spNearest C D) := by
  refine okN F scNearest (fun vs H Q E h => ?_) (fun cdv A outer s H vs Q E hr h => ?_)
  · obtain ⟨g, r, wd, a, v, chs, rfl, _⟩ := h
    rfl
  · obtain ⟨g, r, wd, a, v, chs, rfl, hG, gd, hok, h200, ha, hv, okc, q⟩ := h
    have hu := hu_of hr
    refine ⟨_, pss_cons (ps_set (i := 3) scNearest.nd rfl (.inr rfl) (pe_h hAr hr (pa_cons (pv 0) (pa_cons (pv 1) (pa_cons (pv 2) pa_nil)))))
      (pss_one (ps_ret (pe_callTy call_tuple_of (by rfl) B.tuple (by decide +kernel) (pa_cons (pe_lock (pe_lc (own := [("name", 4)]) (g := gName 4) (tt := tNot (tB (tCB (rAny K) (tCons (tLc (iKeys (tVar 3)) (gName 5) tYes (tCall spIsLess [] E0 (tCons (tDGet (tVar 3) (tVar 5)) (tCons (tDGet (tVar 3) (tVar 4)) tNil))) [5]) tNil)))) (te := tVar 4) rfl scNearest.nd (pi_keys (pv 3)) (blkOk_by (N := nNearest) (sc := defScope sNearest) (by decide +kernel))
        (fun _ _ _ _ _ => pg_name (i := 4) scNearest.nd rfl (.inr rfl)) (fun _ _ _ _ _ => pts_one (pt_not (pt_val (pe_callB (cr_any rfl) (by rfl) hany (by decide +kernel) (pa_cons (pe_lc (own := [("other", 5)]) (g := gName 5) (tt := tYes) (te := tCall spIsLess [] E0 (tCons (tDGet (tVar 3) (tVar 5)) (tCons (tDGet (tVar 3) (tVar 4)) tNil))) rfl scNearest.nd (pi_keys (pv 3)) (blkOk_by (N := nNearest) (sc := { kind := .function, names := [(".0", .local), ("name", .cell), ("any", .globalImplicit), ("shares", .cell)], isGenerator := false, isCoroutine := false }) (by decide +kernel))
          (fun _ _ _ _ _ => pg_name (i := 5) scNearest.nd rfl (.inl rfl)) (fun _ _ _ _ _ => pts_nil) (fun _ _ _ _ _ => pe_h hL hr (pa_cons (pe_dget hu (pv 3) (pv 5) (fun _ _ => rfl)) (pa_cons (pe_dget hu (pv 3) (pv 4) (fun _ _ => rfl)) pa_nil)))) pa_nil))))) (fun _ _ _ _ _ => pv 4))) pa_nil)))), ?_⟩
    refine ⟨_, rfl, _, rfl, _, rfl, g, r, wd, a, v, chs, rfl, hG, gd, hok, h200, ha, hv, okc, fun d H1 nd0 s1 hd => ?_⟩
    obtain ⟨ad, hd1, hT1⟩ := hd
    have l36 := around_len gd (sdsOf chs r.ts) a
    have ndA := around_nodup gd (sdsOf chs r.ts) a
    generalize aroundL r.g (sdsOf chs r.ts) a = nms at q hd1 hT1 l36 ndA
    have hFF : ∀ z, (shF (sdsOf chs r.ts) a z).1 ≤ 200 := shF_le h200 a
    generalize shF (sdsOf chs r.ts) a = FF at q hT1 hFF
    refine ⟨d, _, hd1, trivial, fun od => ?_⟩
    have hfz : upd H1 d (.frz od (.dK (kvZ (fun z => .ref (ad z)) nms))) d = some (.frz od (.dK (kvZ (fun z => .ref (ad z)) nms))) := upd_same
    have tkf : TupKeep H1 (upd H1 d (.frz od (.dK (kvZ (fun z => .ref (ad z)) nms)))) := tk_updD hd1
    have hTf : ∀ z ∈ nms, upd H1 d (.frz od (.dK (kvZ (fun z => .ref (ad z)) nms))) (ad z) = some (.tup [.int (((FF z).1 : Nat) : Int), .int (((FF z).2 : Nat) : Int)]) := fun z hz => tkf _ _ (hT1 z hz)
    have unl : ∀ H', Same (upd H1 d (.frz od (.dK (kvZ (fun z => .ref (ad z)) nms)))) H' → Same H1 (upd H' d (.dK (kvZ (fun z => .ref (ad z)) nms))) := fun H' s' => unlock_same hd1 s'
    generalize upd H1 d (.frz od (.dK (kvZ (fun z => .ref (ad z)) nms))) = H2 at hfz hTf unl
    refine ⟨_, rfl, d, od, rfl, .inl ⟨_, hfz, fun Dd hD => ?_⟩⟩
    refine lc_keepX (walk_keysZ (d := d) (o := od) (ad := fun z => .ref (ad z)) (nms := nms)) hD (bestBy nms FF lessN) (fun H' s' => s' _ _ hfz) (fun _ => rfl) ?_ (fun x H' Q' q' => ⟨_, rfl, q'⟩) ?_ ?_
    · intro x H' hx s' Q' q'
      obtain ⟨z, hz, rfl⟩ := List.mem_map.mp hx
      refine ⟨_, rfl, d, od, rfl, .inl ⟨_, s' _ _ hfz, fun De hE => ?_⟩⟩
      refine lc_map (walk_keysZ (d := d) (o := od) (ad := fun z => .ref (ad z)) (nms := nms)) hE (fun _ => true) (lessBy FF lessN z) (fun H'' s'' => (s'.trans s'') _ _ hfz) (fun _ => rfl) (fun x H' _ _ Q' q' => q') ?_ ?_ ?_
      · intro y H'' hy _ s'' Q'' q''
        obtain ⟨u, hu2, rfl⟩ := List.mem_map.mp hy
        have sA := s'.trans s''
        refine ⟨_, rfl, _, rfl, d, _, rfl, dget_frz (sA _ _ hfz) hu2, _, rfl, _, rfl, d, _, rfl, dget_frz (sA _ _ hfz) hz, ad u, ad z, _, _, _, _, rfl, sA _ _ (hTf _ hu2), sA _ _ (hTf _ hz), ?_⟩
        exact ⟨hFF _, hFF _, q''⟩
      · rw [List.length_map]
        exact small1000 (by omega)
      · intro H3 s3 hE3
        rw [List.filter_eq_self.mpr fun _ _ => rfl, less_list] at hE3
        refine ⟨De, _, rfl, .inl (.inl hE3), _, rfl, ?_⟩
        exact q' H3 s3
    · rw [List.length_map]
      exact small1000 (by omega)
    · intro H3 s3 hD3
      rw [best_list] at hD3
      refine ⟨s3 _ _ hfz, Dd, _, rfl, .inl ⟨.inl (.inl ((upd_ne (H := H3) (o := .dK (kvZ (fun z => .ref (ad z)) nms)) (fun e => ?_)).trans hD3)), fun t ht => ?_⟩⟩
      · rw [e, hfz] at hD
        cases hD
      · exact q t _ ((s1.trans (unl H3 s3)).trans (same_new ht)) upd_same
/-! ### farthest -/
def spFarthest (C D : Addr) : Sp := fun vs H Q _ => ∃ (g : Addr) (r : GR) (wd : Nat) (a : Str) (v : V) (chs : List Chg), vs = [.ref g, .str a, v] ∧ GatAt C D H g r ∧ Good r.g wd ∧ (∀ t ∈ r.ts, OkT t) ∧ r.ts.length ≤ 200 ∧ a ∈ names r.g ∧ ChV H v chs ∧ OkCs chs ∧
  ∀ (t : Addr) (H' : Hp), Same H H' → H' t = some (.tup ((farL (aroundL r.g (sdsOf chs r.ts) a) (shF (sdsOf chs r.ts) a)).map V.str)) → Q (.ref t) H'
theorem scFarthest : FnScope nNearest psNearest (defScope sFarthest) := ⟨rfl, rfl, rfl, by decide +kernel, rfl, by decide +kernel, by decide +kernel⟩
theorem ok_farthest (F : FunN K "farthest" sFarthest f fd) (B : Bi mg) (hany : mg "any" = none) (hAr : Has P w K mg base "shares_around" 11 psAround (spAround C D)) (hL : Has P w K mg base "is_less" 1 ["share", "other"] spIsLess) : FnOk P w K mg base CX0 12 f fd psNearest (spFarthest C D) := by
  refine okN F scFarthest (fun vs H Q E h => ?_) (fun cdv A outer s H vs Q E hr h => ?_)
  · obtain ⟨g, r, wd, a, v, chs, rfl, _⟩ := h
    rfl
  · obtain ⟨g, r, wd, a, v, chs, rfl, hG, gd, hok, h200, ha, hv, okc, q⟩ := h
    have hu := hu_of hr
    refine ⟨_, pss_cons (ps_set (i := 3) scFarthest.nd rfl (.inr rfl) (pe_h hAr hr (pa_cons (pv 0) (pa_cons (pv 1) (pa_cons (pv 2) pa_nil)))))
      (pss_one (ps_ret (pe_callTy call_tuple_of (by rfl) B.tuple (by decide +kernel) (pa_cons (pe_lock (pe_lc (own := [("name", 4)]) (g := gName 4) (tt := tNot (tB (tCB (rAny K) (tCons (tLc (iKeys (tVar 3)) (gName 5) tYes (tCall spIsLess [] E0 (tCons (tDGet (tVar 3) (tVar 4)) (tCons (tDGet (tVar 3) (tVar 5)) tNil))) [5]) tNil)))) (te := tVar 4) rfl scFarthest.nd (pi_keys (pv 3)) (blkOk_by (N := nNearest) (sc := defScope sFarthest) (by decide +kernel))
        (fun _ _ _ _ _ => pg_name (i := 4) scFarthest.nd rfl (.inr rfl)) (fun _ _ _ _ _ => pts_one (pt_not (pt_val (pe_callB (cr_any rfl) (by rfl) hany (by decide +kernel) (pa_cons (pe_lc (own := [("other", 5)]) (g := gName 5) (tt := tYes) (te := tCall spIsLess [] E0 (tCons (tDGet (tVar 3) (tVar 4)) (tCons (tDGet (tVar 3) (tVar 5)) tNil))) rfl scFarthest.nd (pi_keys (pv 3)) (blkOk_by (N := nNearest) (sc := { kind := .function, names := [(".0", .local), ("name", .cell), ("any", .globalImplicit), ("shares", .cell)], isGenerator := false, isCoroutine := false }) (by decide +kernel))
          (fun _ _ _ _ _ => pg_name (i := 5) scFarthest.nd rfl (.inl rfl)) (fun _ _ _ _ _ => pts_nil) (fun _ _ _ _ _ => pe_h hL hr (pa_cons (pe_dget hu (pv 3) (pv 4) (fun _ _ => rfl)) (pa_cons (pe_dget hu (pv 3) (pv 5) (fun _ _ => rfl)) pa_nil)))) pa_nil))))) (fun _ _ _ _ _ => pv 4))) pa_nil)))), ?_⟩
    refine ⟨_, rfl, _, rfl, _, rfl, g, r, wd, a, v, chs, rfl, hG, gd, hok, h200, ha, hv, okc, fun d H1 nd0 s1 hd => ?_⟩
    obtain ⟨ad, hd1, hT1⟩ := hd
    have l36 := around_len gd (sdsOf chs r.ts) a
    have ndA := around_nodup gd (sdsOf chs r.ts) a
    generalize aroundL r.g (sdsOf chs r.ts) a = nms at q hd1 hT1 l36 ndA
    have hFF : ∀ z, (shF (sdsOf chs r.ts) a z).1 ≤ 200 := shF_le h200 a
    generalize shF (sdsOf chs r.ts) a = FF at q hT1 hFF
    refine ⟨d, _, hd1, trivial, fun od => ?_⟩
    have hfz : upd H1 d (.frz od (.dK (kvZ (fun z => .ref (ad z)) nms))) d = some (.frz od (.dK (kvZ (fun z => .ref (ad z)) nms))) := upd_same
    have tkf : TupKeep H1 (upd H1 d (.frz od (.dK (kvZ (fun z => .ref (ad z)) nms)))) := tk_updD hd1
    have hTf : ∀ z ∈ nms, upd H1 d (.frz od (.dK (kvZ (fun z => .ref (ad z)) nms))) (ad z) = some (.tup [.int (((FF z).1 : Nat) : Int), .int (((FF z).2 : Nat) : Int)]) := fun z hz => tkf _ _ (hT1 z hz)
    have unl : ∀ H', Same (upd H1 d (.frz od (.dK (kvZ (fun z => .ref (ad z)) nms)))) H' → Same H1 (upd H' d (.dK (kvZ (fun z => .ref (ad z)) nms))) := fun H' s' => unlock_same hd1 s'
    generalize upd H1 d (.frz od (.dK (kvZ (fun z => .ref (ad z)) nms))) = H2 at hfz hTf unl
    refine ⟨_, rfl, d, od, rfl, .inl ⟨_, hfz, fun Dd hD => ?_⟩⟩
    refine lc_keepX (walk_keysZ (d := d) (o := od) (ad := fun z => .ref (ad z)) (nms := nms)) hD (bestBy nms FF (fun p q => lessN q p)) (fun H' s' => s' _ _ hfz) (fun _ => rfl) ?_ (fun x H' Q' q' => ⟨_, rfl, q'⟩) ?_ ?_
    · intro x H' hx s' Q' q'
      obtain ⟨z, hz, rfl⟩ := List.mem_map.mp hx
      refine ⟨_, rfl, d, od, rfl, .inl ⟨_, s' _ _ hfz, fun De hE => ?_⟩⟩
      refine lc_map (walk_keysZ (d := d) (o := od) (ad := fun z => .ref (ad z)) (nms := nms)) hE (fun _ => true) (lessBy FF (fun p q => lessN q p) z) (fun H'' s'' => (s'.trans s'') _ _ hfz) (fun _ => rfl) (fun x H' _ _ Q' q' => q') ?_ ?_ ?_
      · intro y H'' hy _ s'' Q'' q''
        obtain ⟨u, hu2, rfl⟩ := List.mem_map.mp hy
        have sA := s'.trans s''
        refine ⟨_, rfl, _, rfl, d, _, rfl, dget_frz (sA _ _ hfz) hz, _, rfl, _, rfl, d, _, rfl, dget_frz (sA _ _ hfz) hu2, ad z, ad u, _, _, _, _, rfl, sA _ _ (hTf _ hz), sA _ _ (hTf _ hu2), ?_⟩
        exact ⟨hFF _, hFF _, q''⟩
      · rw [List.length_map]
        exact small1000 (by omega)
      · intro H3 s3 hE3
        rw [List.filter_eq_self.mpr fun _ _ => rfl, less_list] at hE3
        refine ⟨De, _, rfl, .inl (.inl hE3), _, rfl, ?_⟩
        exact q' H3 s3
    · rw [List.length_map]
      exact small1000 (by omega)
    · intro H3 s3 hD3
      rw [best_list] at hD3
      refine ⟨s3 _ _ hfz, Dd, _, rfl, .inl ⟨.inl (.inl ((upd_ne (H := H3) (o := .dK (kvZ (fun z => .ref (ad z)) nms)) (fun e => ?_)).trans hD3)), fun t ht => ?_⟩⟩
      · rw [e, hfz] at hD
        cases hD
      · exact q t _ ((s1.trans (unl H3 s3)).trans (same_new ht)) upd_same
end
end Wl


namespace Wl
open PySem PySem.Spec PyProof.Rows L2
abbrev sTome : Stmt := topS 89
end Wl
namespace Wl
open PySem PySem.Spec PyProof.Rows L2
section
variable {P : Program} {w : World} {K : PySem.W.Frag} {mg : Str → Option Value} {base : Heap} {f C D W : Addr} {fd : FuncData}
def HasI (P : Program) (w : World) (K : PySem.W.Frag) (mg : Str → Option Value) (base : Heap) (C : Addr) : Prop :=
  ∃ f fd, Mk K C f ∧ FnOk P w K mg base CX0 4 f fd ["self", "rows"] (spInit C) ∧ Binds K fd ["self", "rows"] []
def HasG (P : Program) (w : World) (K : PySem.W.Frag) (mg : Str → Option Value) (base : Heap) (C D : Addr) : Prop :=
  ∃ f fd, Mk K D f ∧ FnOk P w K mg base CX0 1 f fd ["self", "land"] (spGInit C D) ∧ Binds K fd ["self", "land"] []
def HasP (P : Program) (w : World) (K : PySem.W.Frag) (mg : Str → Option Value) (base : Heap) (C D : Addr) : Prop := ∃ f fd, FnOk P w K mg base CX0 4 f fd psPut (spPut C D) ∧ Meth K D "put" f ∧ FunP K f fd
/-! ### a Gathering of what was told -/
def spTome (C D : Addr) : Sp := fun vs H Q _ => ∃ (L l : Addr) (g : Grid) (wd : Nat) (as : List Addr) (ts : List Tel), vs = [.ref L, .ref l] ∧ GridAt H L g ∧ Good g wd ∧ H l = some (.lst (as.map V.ref)) ∧ TelsAt H as ts ∧ (∀ t ∈ ts, OkT t) ∧ (∀ t ∈ ts, t.v ∈ names g) ∧ (ts.map keyS).Nodup ∧ ts.length ≤ 200 ∧
  ∀ (p : Addr) (r : GR) (H' : Hp), Same H H' → GatAt C D H' p r → r.ts = ts → r.g = g → r.ds.length = ts.length → H r.td = none → H r.dd = none → Q (.ref p) H'
abbrev nTome : List Str := ["_law_laid", "_law_lines", "_law_held", "_law_town", "_law_topic", "_law_sound", "_law_person", "_law_years", "_law_writer", "_law_certain"]
theorem scTome : FnScope nTome ["_law_laid", "_law_lines"] (defScope sTome) := ⟨rfl, rfl, rfl, by decide +kernel, rfl, by decide +kernel, by decide +kernel⟩
theorem ok_tome (F : Fun K "_law_gathered" "_law_gathered" sTome f fd) (T : Txt K mg C) (TG : TxtG K mg D) (hI : HasI P w K mg base C) (hGi : HasG P w K mg base C D) (hP : HasP P w K mg base C D) : FnOk P w K mg base CX0 6 f fd ["_law_laid", "_law_lines"] (spTome C D) := by
  obtain ⟨fI, fdI, MI, GI, bI⟩ := hI
  obtain ⟨fG, fdG, MG, GG, bG⟩ := hGi
  obtain ⟨fp, fdp, FP, mP, fnP⟩ := hP
  have b8 := put_b8 fnP
  refine F.ok scTome (fun vs H Q E h => ?_) (fun cdv A outer s H vs Q E hr h => ?_)
  · obtain ⟨L, l, g, wd, as, ts, rfl, _⟩ := h
    rfl
  · obtain ⟨L, l, g, wd, as, ts, rfl, hGr, gd, hl, hT, hok, hv, hnd, h200, q⟩ := h
    refine ⟨_, pss_cons (ps_set (i := 2) scTome.nd rfl (.inl rfl) (pe_make MG GG (hr.mono (by decide)) rfl TG.mgD bG .nil pass0 (pa_cons (pe_make MI GI (hr.mono (by decide)) rfl T.mgC bI .nil pass0 (pa_cons (pv 0) pa_nil)) pa_nil)))
      (pss_cons (ps_for PassesOwn.never rfl (pi_list (pv 1)) (pg_tup rfl (pgs_cons (pg_name (i := 3) scTome.nd rfl (.inl rfl)) (pgs_cons (pg_name (i := 4) scTome.nd rfl (.inl rfl)) (pgs_cons (pg_name (i := 5) scTome.nd rfl (.inl rfl)) (pgs_cons (pg_name (i := 6) scTome.nd rfl (.inl rfl)) (pgs_cons (pg_name (i := 7) scTome.nd rfl (.inl rfl)) (pgs_cons (pg_name (i := 8) scTome.nd rfl (.inl rfl)) (pgs_cons (pg_name (i := 9) scTome.nd rfl (.inl rfl)) pgs_nil))))))))
        (pss_one (ps_expr (pe_meth (pv 2) TG.cl mP FP (hr.mono (by decide)) b8 .nil pass0 (pa_cons (pv 3) (pa_cons (pv 4) (pa_cons (pv 5) (pa_cons (pv 6) (pa_cons (pv 7) (pa_cons (pv 8) (pa_cons (pv 9) pa_nil)))))))))))
      (pss_one (ps_ret (pv 2)))), ?_⟩
    refine ⟨_, rfl, fun pl dl npl ndl nel => ?_⟩
    have kp1 : TupKeep H (upd (upd H dl (.own pl)) pl (.ins C dl [])) := fun b xs h => by
      rw [upd_ne (ne_of_none h npl), upd_ne (ne_of_none h ndl)]
      exact h
    refine ⟨pl, dl, L, g, wd, rfl, upd_same, hGr.keep kp1, gd, fun H1 k1 hLa1 => ⟨rfl, ?_⟩⟩
    have s1 := made_same npl ndl k1
    intro p dp np ndp nep
    have s2 : Same H1 (upd (upd H1 dp (.own p)) p (.ins D dp [])) := fun b o e => by
      rw [upd_ne (ne_of_none e np), upd_ne (ne_of_none e ndp)]
      exact e
    have npp : p ≠ pl := fun e => by
      obtain ⟨_, _, h1⟩ := hLa1.ins
      rw [← e, np] at h1
      cases h1
    refine ⟨p, dp, pl, L, g, rfl, upd_same, hLa1.same s2, npp, fun td dd H2 htd hdd k2 hG2 => ⟨rfl, ?_⟩⟩
    have s12 : Same H1 H2 := fun b o e => k2 b o (ne_of_none e np) (s2 b o e)
    have s02 := s1.trans s12
    have htd0 : H td = none := s1.free (s2.free htd)
    have hdd0 : H dd = none := s1.free (s2.free hdd)
    have hlen := hT.length
    refine ⟨_, rfl, l, rfl, ⟨_, .inl (.inl (s02 _ _ hl))⟩, for_list (K := K) (a := l) (xs := as.map V.ref) (fun i σ H' => (∃ y3 y4 y5 y6 y7 y8 y9, σ = [some (.ref L), some (.ref l), some (.ref p), y3, y4, y5, y6, y7, y8, y9]) ∧ Same H H' ∧ ∃ r : GR, GatAt C D H' p r ∧ r.ts = ts.take i ∧ r.g = g ∧ r.ds.length = i ∧ r.td = td ∧ r.dd = dd)
      ⟨⟨_, _, _, _, _, _, _, rfl⟩, s02, ⟨pl, L, td, dd, g, [], [], []⟩, hG2, rfl, rfl, rfl, rfl, rfl⟩ (fun i σ H' _ h => .inl (.inl (h.2.1 _ _ hl))) ?_ ?_⟩
    · rintro i x σ H3 hx ⟨⟨y3, y4, y5, y6, y7, y8, y9, rfl⟩, s3, r, hG3, ets, eg, eds, etd, edd⟩
      rw [List.getElem?_map] at hx
      obtain ⟨pt, hpt, rfl⟩ := Option.map_eq_some_iff.mp hx
      obtain ⟨t, ht, hH⟩ := Each.get hT hpt
      have htm := List.mem_of_getElem? ht
      have hi : i < ts.length := (List.getElem?_eq_some_iff.mp ht).1
      obtain ⟨dx, hp3⟩ := hG3.at_
      refine ⟨pt, _, rfl, .inl (.inl (s3 _ _ hH)), rfl, _, _, rfl, _, _, rfl, _, _, rfl, _, _, rfl, _, _, rfl, _, _, rfl, _, _, rfl, rfl, ?_⟩
      refine ⟨_, rfl, p, dx, _, rfl, hp3, gf_no _ _ _, _, rfl, _, rfl, _, rfl, _, rfl, _, rfl, _, rfl, _, rfl, p, r, wd, t, rfl, hG3, by rw [eg]; exact gd, fun u hu => hok u (List.mem_of_mem_take (ets ▸ hu)), hok t htm, by rw [eg]; exact hv t htm, ?_, ?_, by omega, fun qa H4 hqa m4 hG4 => ?_⟩
      · rw [ets]
        intro hm
        obtain ⟨u, hu, e⟩ := List.mem_map.mp hm
        obtain ⟨j, hj, ej⟩ := List.mem_iff_getElem.mp hu
        rw [List.length_take] at hj
        rw [List.getElem_take] at ej
        obtain ⟨hi2, ei⟩ := List.getElem?_eq_some_iff.mp ht
        have e3 : (ts.map keyS)[j]'(by rw [List.length_map]; omega) = (ts.map keyS)[i]'(by rw [List.length_map]; omega) := by
          rw [List.getElem_map, List.getElem_map, ej, ei, e]
        have := (List.getElem_inj hnd).mp e3
        omega
      · rw [ets, List.length_take]
        omega
      · refine ⟨⟨_, _, _, _, _, _, _, rfl⟩, fun b o e => ?_, r.add qa t, hG4, ?_, eg, ?_, etd, edd⟩
        · refine m4 b o ?_ ?_ (s3 _ _ e)
          · rw [etd]
            exact ne_of_none e htd0
          · rw [edd]
            exact ne_of_none e hdd0
        · show r.ts ++ [t] = _
          rw [ets, take_snoc ht]
        · show (r.ds ++ [V.non]).length = _
          rw [List.length_append, eds]
          rfl
    · rintro σ H3 ⟨⟨y3, y4, y5, y6, y7, y8, y9, rfl⟩, s3, r, hG3, ets, eg, eds, etd, edd⟩
      rw [List.length_map, hlen] at ets eds
      rw [List.take_length] at ets
      exact ⟨_, rfl, q p r H3 s3 hG3 ets eg eds (by rw [etd]; exact htd0) (by rw [edd]; exact hdd0)⟩
end
/-! ### what a map is due to show -/
section
variable {P : Program} {w : World} {K : PySem.W.Frag} {mg : Str → Option Value} {base : Heap} {f C D W : Addr} {fd : FuncData}
end
end Wl



namespace Wl
open PySem PySem.Spec PyProof.Rows L2
/-! the ways to call age_cut -/
section
variable {K : PySem.W.Frag} {f : Addr} {fd : FuncData}
/-! changes as data -/
def chD (ch : Chg) : PyData := .tuple [.str (sign ch.1), .str (sign ch.2.1), .str (whS ch.2.2)]
theorem dp_chs {H : Hp} : ∀ {as : List Addr} {chs : List Chg}, Each (fun (p : Addr) (ch : Chg) => H p = some (.tup (chV ch))) as chs → DpAll K H (as.map V.ref) (chs.map chD)
  | _, _, .nil => .nil
  | _, _, .cons e r => .cons (.tup (.inl (.inl e)) (.cons (.str _) (.cons (.str _) (.cons (.str _) .nil)))) (dp_chs r)
theorem dp_changes {H : Hp} {S : Addr} {chs : List Chg} (h : ChAt H S chs) : Dp K H (.ref S) (.tuple (chs.map chD)) := by
  obtain ⟨as, h1, h2⟩ := h
  exact .tup (.inl (.inl h1)) (dp_chs h2)
theorem depth_chs : ∀ chs : List Chg, PyData.depthAll (chs.map chD) ≤ 1
  | [] => by simp [PyData.depthAll]
  | p :: r => by
    have := depth_chs r
    simp only [List.map_cons, PyData.depthAll, chD, PyData.depth]
    omega
theorem chs_nil (chs : List Chg) : PyData.eqv (.tuple (chs.map chD)) (.tuple []) = chs.isEmpty := by
  cases chs with
  | nil => simp [PyData.eqv, PyData.eqvAll]
  | cons a r => simp [PyData.eqv, PyData.eqvAll]
end
/-! the flags turned about -/
end Wl



namespace Wl
open PySem PySem.Spec PyProof.Rows L2
theorem lay_chs : ∀ {chs : List Chg}, (∀ ch ∈ chs, OkC ch) → PyData.canLayAll0 (chs.map chD) = true
  | [], _ => by simp [PyData.canLayAll0]
  | ch :: r, h => by
    obtain ⟨h1, h2, h3⟩ := h ch List.mem_cons_self
    have ih := lay_chs (chs := r) fun y hy => h y (List.mem_cons_of_mem _ hy)
    have e3 : PyData.strOk (whS ch.2.2) = true := by
      cases ch.2.2 <;> decide +kernel
    simp [PyData.canLayAll0, chD, PyData.canLay0, wd_ok (sign_wd h1), wd_ok (sign_wd h2), e3, ih]
theorem shaped_chs {chs : List Chg} (h : OkCs chs) : SeqAt.shaped (.tuple (chs.map chD)) = true := shaped_tuple (lay_chs h.2) (by have := depth_chs chs; omega)
end Wl



namespace Wl
open PySem PySem.Spec PyProof.Rows L2
/-! tellings as data -/
def telD (t : Tel) : PyData := .tuple [.str t.v, .str t.th, .str t.wo, .str t.tl, .int (t.age : Int), .str t.g, .bool t.sure]
theorem dp_tel {K : PySem.W.Frag} {H : Hp} {p : Addr} {t : Tel} (h : H p = some (.tup (telV t))) : Dp K H (.ref p) (telD t) :=
  .tup (.inl (.inl h)) (.cons (.str _) (.cons (.str _) (.cons (.str _) (.cons (.str _) (.cons (.int _) (.cons (.str _) (.cons (.bl _) .nil)))))))
theorem dp_tels {K : PySem.W.Frag} {H : Hp} : ∀ {as : List Addr} {ts : List Tel}, TelsAt H as ts → DpAll K H (as.map V.ref) (ts.map telD)
  | _, _, .nil => .nil
  | _, _, .cons e r => .cons (dp_tel e) (dp_tels r)
theorem tel_eqv (t u : Tel) : PyData.eqv (telD t) (telD u) = decide (t = u) := by
  rw [Bool.eq_iff_iff, decide_eq_true_eq]
  simp only [telD, PyData.eqv, PyData.eqvAll, Bool.and_eq_true, Bool.and_true, beq_iff_eq]
  cases t
  cases u
  simp
  intros
  exact Int.ofNat_inj
theorem lay_tel {t : Tel} (h : OkT t) : PyData.canLay0 (telD t) = true := by
  simp [telD, PyData.canLayAll0, PyData.canLay0, wd_ok h.v, wd_ok h.th, wd_ok h.wo, wd_ok h.tl, wd_ok h.g]
theorem shaped_tel {t : Tel} (h : OkT t) : SeqAt.shaped (telD t) = true := shaped_tuple (by simpa [telD, PyData.canLay0] using lay_tel h) (by simp [PyData.depthAll, PyData.depth])
theorem lay_tels : ∀ {ts : List Tel}, (∀ t ∈ ts, OkT t) → PyData.canLayAll0 (ts.map telD) = true
  | [], _ => by simp [PyData.canLayAll0]
  | t :: r, h => by
    have h1 := lay_tel (h t List.mem_cons_self)
    have h2 := lay_tels (ts := r) fun u hu => h u (List.mem_cons_of_mem _ hu)
    simp [PyData.canLayAll0, h1, h2]
theorem depth_tels : ∀ ts : List Tel, PyData.depthAll (ts.map telD) ≤ 1
  | [] => by simp [PyData.depthAll]
  | t :: r => by
    have h1 := depth_tels r
    simp only [List.map_cons, PyData.depthAll, telD, PyData.depth]
    omega
theorem shaped_tels {ts : List Tel} (h : ∀ t ∈ ts, OkT t) : SeqAt.shaped (.list (ts.map telD)) = true := shaped_list (lay_tels h) (by have := depth_tels ts; omega)
/-! one taken out -/
/-! the deeds that can be taken back -/
theorem ok_none : OkCs [] := ⟨by decide, fun ch h => (List.not_mem_nil h).elim⟩
/-- a list of tellings -/
def LotAt (H : Hp) (l : Addr) (ts : List Tel) : Prop := ∃ as : List Addr, H l = some (.lst (as.map V.ref)) ∧ TelsAt H as ts
theorem LotAt.keep {H H' : Hp} {l : Addr} {ts : List Tel} (h : LotAt H l ts) (k : TupKeep H H') (e : ∀ o, H l = some o → H' l = some o) : LotAt H' l ts := by
  obtain ⟨as, h1, h2⟩ := h
  exact ⟨as, e _ h1, h2.keep k⟩
theorem LotAt.same {H H' : Hp} {l : Addr} {ts : List Tel} (h : LotAt H l ts) (s : Same H H') : LotAt H' l ts := h.keep (tk_same s) (s l)
theorem ChAt.keep' {H H' : Hp} {S : Addr} {chs : List Chg} (h : ChAt H S chs) (k : TupKeep H H') : ChAt H' S chs := by
  obtain ⟨as, h1, h2⟩ := h
  exact ⟨as, k _ _ h1, Each.mono (fun p ch e => k p _ e) h2⟩
section
variable {H0 H H' : Hp} {a S Bn St l td dd : Addr} {chs : List Chg} {ts0 : List Tel} {sas : List Addr} {tss : List (List Tel)}
end
end Wl



namespace Wl
open PySem PySem.Spec PyProof.Rows L2
abbrev sTels : Stmt := topS 88
def keyL (t : Tel) : List Str := [t.v, t.th, t.tl, t.g]
theorem keyL_iff (t u : Tel) : keyL t = keyL u ↔ keyS t = keyS u := by
  simp only [keyL, keyS, List.cons.injEq, and_true]
  constructor
  · rintro ⟨h1, h2, h3, h4⟩
    simp [h1, h2, h3, h4]
  · intro h
    simp [h]
theorem mem_keyL (t : Tel) (ts : List Tel) : keyL t ∈ ts.map keyL ↔ keyS t ∈ ts.map keyS := by
  rw [List.mem_map, List.mem_map]
  constructor
  · rintro ⟨u, h1, h2⟩
    exact ⟨u, h1, (keyL_iff _ _).mp h2⟩
  · rintro ⟨u, h1, h2⟩
    exact ⟨u, h1, (keyL_iff _ _).mpr h2⟩
theorem keyL_wd {t : Tel} (h : OkT t) : ∀ z ∈ keyL t, IsWd z := fun z hz => by
  simp only [keyL, List.mem_cons, List.not_mem_nil, or_false] at hz
  rcases hz with rfl | rfl | rfl | rfl
  · exact h.v
  · exact h.th
  · exact h.tl
  · exact h.g
def kD (t : Tel) : PyData := .tuple ((keyL t).map PyData.str)
theorem lay_keys : ∀ {ts : List Tel}, (∀ t ∈ ts, OkT t) → PyData.canLayAll0 (ts.map kD) = true
  | [], _ => by simp [PyData.canLayAll0]
  | t :: ts, h => by
    have h1 := lay_strs (keyL_wd (h t List.mem_cons_self))
    have h2 := lay_keys (ts := ts) fun u hu => h u (List.mem_cons_of_mem _ hu)
    simp [PyData.canLayAll0, kD, PyData.canLay0, h1, h2]
theorem depth_keys : ∀ ts : List Tel, PyData.depthAll (ts.map kD) ≤ 1
  | [] => by simp [PyData.depthAll]
  | t :: ts => by
    have h1 := depth_keys ts
    have h2 := depth_strs (keyL t)
    simp only [List.map_cons, PyData.depthAll, kD, PyData.depth]
    omega
theorem any_keys (t : Tel) : ∀ ts : List Tel, ((ts.map kD).any fun z => PyData.eqv z (.tuple ((keyL t).map PyData.str))) = decide (keyL t ∈ ts.map keyL)
  | [] => by simp
  | u :: ts => by
    rw [List.map_cons, List.any_cons, any_keys t ts, show PyData.eqv (kD u) (.tuple ((keyL t).map PyData.str)) = decide (keyL u = keyL t) from tup_eqv _ _, List.map_cons]
    by_cases c : keyL u = keyL t
    · rw [decide_eq_true c, decide_eq_true (show keyL t ∈ keyL u :: ts.map keyL by rw [c]; exact List.mem_cons_self), Bool.true_or]
    · rw [decide_eq_false c, Bool.false_or]
      by_cases d : keyL t ∈ ts.map keyL
      · rw [decide_eq_true d, decide_eq_true (List.mem_cons_of_mem _ d)]
      · rw [decide_eq_false d, decide_eq_false fun h => by
          rcases List.mem_cons.mp h with h | h
          · exact c h.symm
          · exact d h]
def keyLV (t : Tel) : List V := (keyL t).map V.str
def KeysAt (H : Hp) (ks : List Addr) (ts : List Tel) : Prop := Each (fun (k : Addr) (t : Tel) => H k = some (.tup (keyLV t))) ks ts
theorem KeysAt.keep {H H' : Hp} {ks : List Addr} {ts : List Tel} (h : KeysAt H ks ts) (k : TupKeep H H') : KeysAt H' ks ts := Each.mono (fun p t e => k p _ e) h
theorem dp_keys {K : PySem.W.Frag} {H : Hp} : ∀ {ks : List Addr} {ts : List Tel}, KeysAt H ks ts → DpAll K H (ks.map V.ref) (ts.map kD)
  | _, _, .nil => .nil
  | _, _, .cons (b := t) e r => .cons (.tup (.inl (.inl e)) (dp_strs (keyL t))) (dp_keys r)
/-! four lists of texts -/
structure P4 (H0 H : Hp) (a p1 p2 p3 p4 : Addr) (l1 l2 l3 l4 : List Str) : Prop where
  pu : PurseAt H a
  sx : SameX a H0 H
  h1 : H p1 = some (.lst (l1.map V.str))
  h2 : H p2 = some (.lst (l2.map V.str))
  h3 : H p3 = some (.lst (l3.map V.str))
  h4 : H p4 = some (.lst (l4.map V.str))
structure P4n (H0 : Hp) (a p1 p2 p3 p4 : Addr) : Prop where
  a1 : p1 ≠ a
  a2 : p2 ≠ a
  a3 : p3 ≠ a
  a4 : p4 ≠ a
  f1 : H0 p1 = none
  f2 : H0 p2 = none
  f3 : H0 p3 = none
  f4 : H0 p4 = none
  n12 : p1 ≠ p2
  n13 : p1 ≠ p3
  n14 : p1 ≠ p4
  n23 : p2 ≠ p3
  n24 : p2 ≠ p4
  n34 : p3 ≠ p4
section
variable {H0 H H' : Hp} {a p1 p2 p3 p4 : Addr} {l1 l2 l3 l4 : List Str}
theorem P4.x (h : P4 H0 H a p1 p2 p3 p4 l1 l2 l3 l4) (n : P4n H0 a p1 p2 p3 p4) (hA : PurseAt H' a) (x : SameX a H H') : P4 H0 H' a p1 p2 p3 p4 l1 l2 l3 l4 :=
  ⟨hA, h.sx.trans x, x _ _ n.a1 h.h1, x _ _ n.a2 h.h2, x _ _ n.a3 h.h3, x _ _ n.a4 h.h4⟩
theorem purse_put {p : Addr} {o : HO} (h : PurseAt H a) (n : p ≠ a) : PurseAt (upd H p o) a := by
  obtain ⟨y0, y1, y2, hy, hy1⟩ := h
  exact ⟨y0, y1, y2, by rw [upd_ne n.symm]; exact hy, hy1⟩
theorem snoc_map (l : List Str) (z : Str) : HO.lst (l.map V.str ++ [V.str z]) = HO.lst ((l ++ [z]).map V.str) := by
  rw [List.map_append]
  rfl
theorem P4.put1 (h : P4 H0 H a p1 p2 p3 p4 l1 l2 l3 l4) (n : P4n H0 a p1 p2 p3 p4) (z : Str) : P4 H0 (upd H p1 (.lst (l1.map V.str ++ [V.str z]))) a p1 p2 p3 p4 (l1 ++ [z]) l2 l3 l4 :=
  ⟨purse_put h.pu n.a1, sameX_mut h.sx n.f1, by rw [upd_same, snoc_map], by rw [upd_ne n.n12.symm]; exact h.h2, by rw [upd_ne n.n13.symm]; exact h.h3, by rw [upd_ne n.n14.symm]; exact h.h4⟩
theorem P4.put2 (h : P4 H0 H a p1 p2 p3 p4 l1 l2 l3 l4) (n : P4n H0 a p1 p2 p3 p4) (z : Str) : P4 H0 (upd H p2 (.lst (l2.map V.str ++ [V.str z]))) a p1 p2 p3 p4 l1 (l2 ++ [z]) l3 l4 :=
  ⟨purse_put h.pu n.a2, sameX_mut h.sx n.f2, by rw [upd_ne n.n12]; exact h.h1, by rw [upd_same, snoc_map], by rw [upd_ne n.n23.symm]; exact h.h3, by rw [upd_ne n.n24.symm]; exact h.h4⟩
theorem P4.put3 (h : P4 H0 H a p1 p2 p3 p4 l1 l2 l3 l4) (n : P4n H0 a p1 p2 p3 p4) (z : Str) : P4 H0 (upd H p3 (.lst (l3.map V.str ++ [V.str z]))) a p1 p2 p3 p4 l1 l2 (l3 ++ [z]) l4 :=
  ⟨purse_put h.pu n.a3, sameX_mut h.sx n.f3, by rw [upd_ne n.n13]; exact h.h1, by rw [upd_ne n.n23]; exact h.h2, by rw [upd_same, snoc_map], by rw [upd_ne n.n34.symm]; exact h.h4⟩
theorem P4.put4 (h : P4 H0 H a p1 p2 p3 p4 l1 l2 l3 l4) (n : P4n H0 a p1 p2 p3 p4) (z : Str) : P4 H0 (upd H p4 (.lst (l4.map V.str ++ [V.str z]))) a p1 p2 p3 p4 l1 l2 l3 (l4 ++ [z]) :=
  ⟨purse_put h.pu n.a4, sameX_mut h.sx n.f4, by rw [upd_ne n.n14]; exact h.h1, by rw [upd_ne n.n24]; exact h.h2, by rw [upd_ne n.n34]; exact h.h3, by rw [upd_same, snoc_map]⟩
/-- something else is changed -/
theorem P4.oth {p : Addr} {o : HO} (h : P4 H0 H a p1 p2 p3 p4 l1 l2 l3 l4) (f : H0 p = none) (n : p ≠ a) (n1 : p1 ≠ p) (n2 : p2 ≠ p) (n3 : p3 ≠ p) (n4 : p4 ≠ p) : P4 H0 (upd H p o) a p1 p2 p3 p4 l1 l2 l3 l4 :=
  ⟨purse_put h.pu n, sameX_mut h.sx f, by rw [upd_ne n1]; exact h.h1, by rw [upd_ne n2]; exact h.h2, by rw [upd_ne n3]; exact h.h3, by rw [upd_ne n4]; exact h.h4⟩
end
theorem wd_snoc {l : List Str} {z : Str} (h : ∀ y ∈ l, IsWd y) (hz : IsWd z) : ∀ y ∈ l ++ [z], IsWd y := fun y hy => by
  rcases List.mem_append.mp hy with h' | h'
  · exact h y h'
  · rw [List.mem_singleton.mp h']
    exact hz
theorem len_snoc {l : List Str} {z : Str} {i : Nat} (h : l.length = i) : (l ++ [z]).length = i + 1 := by
  rw [List.length_append, h]
  rfl
structure TelJ (ws : List Str) (H0 H : Hp) (a p1 p2 p3 p4 Fo Ke : Addr) (l1 l2 l3 l4 : List Str) (as ks : List Addr) (ts : List Tel) : Prop where
  po : P4 H0 H a p1 p2 p3 p4 l1 l2 l3 l4
  fo : H Fo = some (.lst (as.map V.ref))
  ke : H Ke = some (.lst (ks.map V.ref))
  tels : TelsAt H as ts
  keys : KeysAt H ks ts
  ok : ∀ t ∈ ts, OkT t
  vs : ∀ t ∈ ts, t.v ∈ ws
  nd : (ts.map keyS).Nodup
structure TelN (H0 : Hp) (a p1 p2 p3 p4 Fo Ke : Addr) : Prop where
  po : P4n H0 a p1 p2 p3 p4
  ff : H0 Fo = none
  fk : H0 Ke = none
  fa : Fo ≠ a
  ka : Ke ≠ a
  fk' : Fo ≠ Ke
  f1 : p1 ≠ Fo
  f2 : p2 ≠ Fo
  f3 : p3 ≠ Fo
  f4 : p4 ≠ Fo
  k1 : p1 ≠ Ke
  k2 : p2 ≠ Ke
  k3 : p3 ≠ Ke
  k4 : p4 ≠ Ke
theorem TelJ.x {ws : List Str} {H0 H H' : Hp} {a p1 p2 p3 p4 Fo Ke : Addr} {l1 l2 l3 l4 : List Str} {as ks : List Addr} {ts : List Tel} (h : TelJ ws H0 H a p1 p2 p3 p4 Fo Ke l1 l2 l3 l4 as ks ts) (n : TelN H0 a p1 p2 p3 p4 Fo Ke) (hA : PurseAt H' a) (x : SameX a H H') : TelJ ws H0 H' a p1 p2 p3 p4 Fo Ke l1 l2 l3 l4 as ks ts := by
  obtain ⟨ys, hy⟩ := h.po.pu.lst
  exact ⟨h.po.x n.po hA x, x _ _ n.fa h.fo, x _ _ n.ka h.ke, h.tels.keep (tk_x x hy), h.keys.keep (tk_x x hy), h.ok, h.vs, h.nd⟩
section
variable {P : Program} {w : World} {K : PySem.W.Frag} {mg : Str → Option Value} {base : Heap} {f C D : Addr} {fd : FuncData}
/-! ### tellings of unlike keys -/
def spTels : Sp := fun vs H Q _ => ∃ (a Tw : Addr) (n : Nat) (ws : List Str), vs = [.ref a, .ref Tw, .int (n : Int)] ∧ PurseAt H a ∧ H Tw = some (.lst (ws.map V.str)) ∧ Tw ≠ a ∧ ws ≠ [] ∧ ws.length ≤ 36 ∧ (∀ z ∈ ws, IsWd z) ∧ n ≤ 100 ∧
  ∀ (l : Addr) (as : List Addr) (ts : List Tel) (H' : Hp), PurseAt H' a → SameX a H H' → H l = none → H' l = some (.lst (as.map V.ref)) → TelsAt H' as ts → (∀ t ∈ ts, OkT t) → (∀ t ∈ ts, t.v ∈ ws) → (ts.map keyS).Nodup → ts.length ≤ n → Q (.ref l) H'
abbrev psTels : List Str := ["_law_purse_here", "_law_towns", "_law_most"]
abbrev nTels : List Str := ["_law_purse_here", "_law_towns", "_law_most", "_law_topics", "_law_sounds", "_law_people", "_law_writers", "_law_k", "_law_found", "_law_known", "_law_town", "_law_topic", "_law_sound", "_law_person", "_law_writer", "_law_years"]
theorem scTels : FnScope nTels psTels (defScope sTels) := ⟨rfl, rfl, rfl, by decide +kernel, rfl, by decide +kernel, by decide +kernel⟩
theorem ok_tels (F : Fun K "_law_tellings" "_law_tellings" sTels f fd) (B : Bi mg) (hp : Has P w K mg base "_law_pick" 1 ["_law_purse_here", "_law_many"] spPick) (hW : Has P w K mg base "_law_word" 2 ["_law_purse_here"] spWord) (hFr : Has P w K mg base "_law_fresh" 3 ["_law_purse_here", "_law_used"] spFresh) : FnOk P w K mg base CX0 4 f fd psTels spTels := by
  refine F.ok scTels (fun vs H Q E h => ?_) (fun cdv A outer s H vs Q E hr h => ?_)
  · obtain ⟨a, Tw, n, ws, rfl, _⟩ := h
    rfl
  · obtain ⟨a, Tw, n, ws, rfl, hA, hTw, nTw, hne, h36, hwd, h60, q⟩ := h
    have hu65 : (A.deeper (envOfC "_law_tellings" (defScope sTels) s.heap.objs.size f cdv)).units + 65 < cLine := by have := hr.un; omega
    refine ⟨_, pss_cons (ps_asg (pe_tup (pa_cons (pe_lst pa_nil) (pa_cons (pe_lst pa_nil) (pa_cons (pe_lst pa_nil) (pa_cons (pe_lst pa_nil) pa_nil))))) (pg_tup rfl (pgs_cons (pg_name (i := 3) scTels.nd rfl (.inl rfl)) (pgs_cons (pg_name (i := 4) scTels.nd rfl (.inl rfl)) (pgs_cons (pg_name (i := 5) scTels.nd rfl (.inl rfl)) (pgs_cons (pg_name (i := 6) scTels.nd rfl (.inl rfl)) pgs_nil))))))
      (pss_cons (ps_for PassesOwn.never rfl (pi_range1 rfl B.range (pa_cons (pe_op op_add pe_int (pe_h hp hr (pa_cons (pv 0) (pa_cons pe_int pa_nil)))) pa_nil)) (pg_name (i := 7) scTels.nd rfl (.inl rfl))
        (pss_one (ps_expr (pe_bm PySem.F.plainAttrs_list PySem.F.slot_list_append PySem.F.type_list_append mt_append (pv 3) (pa_cons (pe_h hFr hr (pa_cons (pv 0) (pa_cons (pv 3) pa_nil))) pa_nil)))))
      (pss_cons (ps_for PassesOwn.never rfl (pi_range1 rfl B.range (pa_cons (pe_op op_add pe_int (pe_h hp hr (pa_cons (pv 0) (pa_cons pe_int pa_nil)))) pa_nil)) (pg_name (i := 7) scTels.nd rfl (.inl rfl))
        (pss_one (ps_expr (pe_bm PySem.F.plainAttrs_list PySem.F.slot_list_append PySem.F.type_list_append mt_append (pv 4) (pa_cons (pe_h hW hr (pa_cons (pv 0) pa_nil)) pa_nil)))))
      (pss_cons (ps_for PassesOwn.never rfl (pi_range1 rfl B.range (pa_cons pe_int pa_nil)) (pg_name (i := 7) scTels.nd rfl (.inl rfl))
        (pss_cons (ps_expr (pe_bm PySem.F.plainAttrs_list PySem.F.slot_list_append PySem.F.type_list_append mt_append (pv 5) (pa_cons (pe_h hFr hr (pa_cons (pv 0) (pa_cons (pv 5) pa_nil))) pa_nil)))
        (pss_one (ps_expr (pe_bm PySem.F.plainAttrs_list PySem.F.slot_list_append PySem.F.type_list_append mt_append (pv 6) (pa_cons (pe_h hFr hr (pa_cons (pv 0) (pa_cons (pv 6) pa_nil))) pa_nil))))))
      (pss_cons (ps_par (i := 8) (j := 9) (by rfl) scTels.nd rfl rfl (by decide) rfl rfl (pa_cons (pe_lst pa_nil) (pa_cons (pe_lst pa_nil) pa_nil)) (by rfl))
      (pss_cons (ps_for PassesOwn.never rfl (pi_range1 rfl B.range (pa_cons (pe_h hp hr (pa_cons (pv 0) (pa_cons (pe_op op_add (pv 2) pe_int) pa_nil))) pa_nil)) (pg_name (i := 7) scTels.nd rfl (.inl rfl))
        (pss_cons (ps_par (i := 10) (j := 11) (by rfl) scTels.nd rfl rfl (by decide) rfl rfl (pa_cons (pe_ix ix_list (pv 1) (pe_h hp hr (pa_cons (pv 0) (pa_cons (pe_callB call_len_seq (by rfl) B.len PySem.boot_len (pa_cons (pv 1) pa_nil)) pa_nil))) (fun _ _ => rfl)) (pa_cons (pe_ix ix_list (pv 3) (pe_h hp hr (pa_cons (pv 0) (pa_cons (pe_callB call_len_seq (by rfl) B.len PySem.boot_len (pa_cons (pv 3) pa_nil)) pa_nil))) (fun _ _ => rfl)) pa_nil)) (by rfl))
        (pss_cons (ps_par (i := 12) (j := 13) (by rfl) scTels.nd rfl rfl (by decide) rfl rfl (pa_cons (pe_ix ix_list (pv 4) (pe_h hp hr (pa_cons (pv 0) (pa_cons (pe_callB call_len_seq (by rfl) B.len PySem.boot_len (pa_cons (pv 4) pa_nil)) pa_nil))) (fun _ _ => rfl)) (pa_cons (pe_ix ix_list (pv 5) (pe_h hp hr (pa_cons (pv 0) (pa_cons pe_int pa_nil))) (fun _ _ => rfl)) pa_nil)) (by rfl))
        (pss_cons (ps_par (i := 14) (j := 15) (by rfl) scTels.nd rfl rfl (by decide) rfl rfl (pa_cons (pe_ix ix_list (pv 6) (pe_h hp hr (pa_cons (pv 0) (pa_cons pe_int pa_nil))) (fun _ _ => rfl)) (pa_cons (pe_h hp hr (pa_cons (pv 0) (pa_cons pe_int pa_nil))) pa_nil)) (by rfl))
        (pss_one (ps_if (pt_cmpR (op_notInD hu65) (pe_tup (pa_cons (pv 10) (pa_cons (pv 11) (pa_cons (pv 13) (pa_cons (pv 14) pa_nil))))) (pv 9) (by rfl)) (pss_cons (ps_expr (pe_bm PySem.F.plainAttrs_list PySem.F.slot_list_append PySem.F.type_list_append mt_append (pv 9) (pa_cons (pe_tup (pa_cons (pv 10) (pa_cons (pv 11) (pa_cons (pv 13) (pa_cons (pv 14) pa_nil))))) pa_nil))) (pss_one (ps_expr (pe_bm PySem.F.plainAttrs_list PySem.F.slot_list_append PySem.F.type_list_append mt_append (pv 8) (pa_cons (pe_tup (pa_cons (pv 10) (pa_cons (pv 11) (pa_cons (pv 12) (pa_cons (pv 13) (pa_cons (pv 15) (pa_cons (pv 14) (pa_cons (pe_cmpR op_gt (pe_h hp hr (pa_cons (pv 0) (pa_cons pe_int pa_nil))) pe_int (nomark _)) pa_nil)))))))) pa_nil))))) pss_nil))))))
      (pss_one (ps_ret (pv 8)))))))), ?_⟩
    refine ⟨lz, fun p1 hp1 => ⟨lz, fun p2 hp2 => ⟨lz, fun p3 hp3 => ⟨lz, fun p4 hp4 => ⟨lz, fun t0 ht0 => ⟨t0, _, rfl, .inl (.inl upd_same), rfl, _, _, rfl, _, _, rfl, _, _, rfl, _, _, rfl, rfl, ?_⟩⟩⟩⟩⟩⟩
    have g1 := same_new (o := .lst []) hp1
    have k1 : upd H p1 (.lst []) p1 = some (.lst []) := upd_same
    generalize upd H p1 (.lst []) = G1 at g1 k1 hp2 hp3 hp4 ht0 ⊢
    have g2 := same_new (o := .lst []) hp2
    have k2 : upd G1 p2 (.lst []) p2 = some (.lst []) := upd_same
    have n12 := ne_of_none k1 hp2
    have k1 := g2 _ _ k1
    generalize upd G1 p2 (.lst []) = G2 at g2 k1 k2 hp3 hp4 ht0 ⊢
    have g3 := same_new (o := .lst []) hp3
    have k3 : upd G2 p3 (.lst []) p3 = some (.lst []) := upd_same
    have n13 := ne_of_none k1 hp3
    have n23 := ne_of_none k2 hp3
    have k1 := g3 _ _ k1
    have k2 := g3 _ _ k2
    generalize upd G2 p3 (.lst []) = G3 at g3 k1 k2 k3 hp4 ht0 ⊢
    have g4 := same_new (o := .lst []) hp4
    have k4 : upd G3 p4 (.lst []) p4 = some (.lst []) := upd_same
    have n14 := ne_of_none k1 hp4
    have n24 := ne_of_none k2 hp4
    have n34 := ne_of_none k3 hp4
    have k1 := g4 _ _ k1
    have k2 := g4 _ _ k2
    have k3 := g4 _ _ k3
    generalize upd G3 p4 (.lst []) = G4 at g4 k1 k2 k3 k4 ht0 ⊢
    have g5 := same_new (o := .tup [V.ref p1, V.ref p2, V.ref p3, V.ref p4]) ht0
    generalize upd G4 t0 (.tup [V.ref p1, V.ref p2, V.ref p3, V.ref p4]) = G5 at g5 ⊢
    have g05 := (((g1.trans g2).trans g3).trans g4).trans g5
    have hA1 := hA.same g1
    have hA2 := hA1.same g2
    have hA3 := hA2.same g3
    have N : P4n H a p1 p2 p3 p4 := ⟨hA.ne hp1, hA1.ne hp2, hA2.ne hp3, hA3.ne hp4, hp1, g1.free hp2, (g1.trans g2).free hp3, ((g1.trans g2).trans g3).free hp4, n12, n13, n14, n23, n24, n34⟩
    have I0 : P4 H G5 a p1 p2 p3 p4 [] [] [] [] := ⟨hA.same g05, sx g05, g5 _ _ k1, g5 _ _ k2, g5 _ _ k3, g5 _ _ k4⟩
    -- topics
    refine ⟨_, rfl, a, 4, rfl, I0.pu, by decide, by decide, fun r2 G8 r20 r21 hA8 x8 _ => ?_⟩
    have I3 := I0.x N hA8 x8
    have m1 := (4 : Int)
    refine ⟨_, _, rfl, rfl, 1 + r2, rfl, by omega, by omega, for_range (lo := 0) (n := (1 + r2).toNat) (fun i σ H' => (∃ y7, σ = [some (.ref a), some (.ref Tw), some (.int (n : Int)), some (.ref p1), some (.ref p2), some (.ref p3), some (.ref p4), y7, none, none, none, none, none, none, none, none]) ∧ ∃ l1, P4 H H' a p1 p2 p3 p4 l1 [] [] [] ∧ l1.length = i ∧ ∀ z ∈ l1, IsWd z) ⟨⟨_, rfl⟩, [], I3, rfl, fun z hz => (List.not_mem_nil hz).elim⟩ ?_ ?_⟩
    · rintro i σ H1 hi ⟨⟨y7, rfl⟩, l1, I, hl, hw⟩
      refine ⟨_, rfl, .inl ⟨rfl, _, .inl (.inl I.h1)⟩, _, rfl, _, rfl, a, p1, l1, rfl, I.pu, I.h1, N.a1, by omega, fun z H2 hz hzn hA2 x2 => ?_⟩
      have J := I.x N hA2 x2
      exact ⟨p1, _, _, rfl, rfl, J.h1, by rw [List.length_map]; exact small1000 (by omega), ⟨_, rfl⟩, l1 ++ [z], J.put1 N z, len_snoc hl, wd_snoc hw hz⟩
    rintro σ H1 ⟨⟨y7, rfl⟩, l1, I, hl1, hw1⟩
    have hl1 : l1.length = (1 + r2).toNat := hl1
    -- sounds
    refine ⟨_, rfl, a, 4, rfl, I.pu, by decide, by decide, fun r3 H2 r30 r31 hA2 x2 _ => ?_⟩
    have I4 := I.x N hA2 x2
    refine ⟨_, _, rfl, rfl, 2 + r3, rfl, by omega, by omega, for_range (lo := 0) (n := (2 + r3).toNat) (fun i σ H' => (∃ y7, σ = [some (.ref a), some (.ref Tw), some (.int (n : Int)), some (.ref p1), some (.ref p2), some (.ref p3), some (.ref p4), y7, none, none, none, none, none, none, none, none]) ∧ ∃ l2, P4 H H' a p1 p2 p3 p4 l1 l2 [] [] ∧ l2.length = i ∧ ∀ z ∈ l2, IsWd z) ⟨⟨_, rfl⟩, [], I4, rfl, fun z hz => (List.not_mem_nil hz).elim⟩ ?_ ?_⟩
    · rintro i σ H1 hi ⟨⟨y7, rfl⟩, l2, I, hl, hw⟩
      refine ⟨_, rfl, .inl ⟨rfl, _, .inl (.inl I.h2)⟩, _, rfl, a, rfl, I.pu, fun z H2 hz hA2 x2 => ?_⟩
      have J := I.x N hA2 x2
      exact ⟨p2, _, _, rfl, rfl, J.h2, by rw [List.length_map]; exact small1000 (by omega), ⟨_, rfl⟩, l2 ++ [z], J.put2 N z, len_snoc hl, wd_snoc hw hz⟩
    rintro σ H3 ⟨⟨z7, rfl⟩, l2, I, hl2, hw2⟩
    have hl2 : l2.length = (2 + r3).toNat := hl2
    -- people
    refine ⟨2, rfl, by decide, by decide, for_range (lo := 0) (n := 2) (fun i σ H' => (∃ y7, σ = [some (.ref a), some (.ref Tw), some (.int (n : Int)), some (.ref p1), some (.ref p2), some (.ref p3), some (.ref p4), y7, none, none, none, none, none, none, none, none]) ∧ ∃ l3 l4, P4 H H' a p1 p2 p3 p4 l1 l2 l3 l4 ∧ l3.length = i ∧ l4.length = i ∧ (∀ z ∈ l3, IsWd z) ∧ ∀ z ∈ l4, IsWd z) ⟨⟨_, rfl⟩, [], [], I, rfl, rfl, fun z hz => (List.not_mem_nil hz).elim, fun z hz => (List.not_mem_nil hz).elim⟩ ?_ ?_⟩
    · rintro i σ H1 hi ⟨⟨y7, rfl⟩, l3, l4, I, hl3, hl4, hw3, hw4⟩
      refine ⟨_, rfl, .inl ⟨rfl, _, .inl (.inl I.h3)⟩, _, rfl, _, rfl, a, p3, l3, rfl, I.pu, I.h3, N.a3, by omega, fun z H2 hz hzn hA2 x2 => ?_⟩
      have J := I.x N hA2 x2
      refine ⟨p3, _, _, rfl, rfl, J.h3, by rw [List.length_map]; exact small1000 (by omega), ?_⟩
      have J := J.put3 N z
      generalize upd H2 p3 (.lst (l3.map V.str ++ [V.str z])) = H3 at J ⊢
      refine ⟨_, rfl, .inl ⟨rfl, _, .inl (.inl J.h4)⟩, _, rfl, _, rfl, a, p4, l4, rfl, J.pu, J.h4, N.a4, by omega, fun y H4 hy hyn hA4 x4 => ?_⟩
      have J := J.x N hA4 x4
      exact ⟨p4, _, _, rfl, rfl, J.h4, by rw [List.length_map]; exact small1000 (by omega), ⟨_, rfl⟩, l3 ++ [z], l4 ++ [y], J.put4 N y, len_snoc hl3, len_snoc hl4, wd_snoc hw3 hz, wd_snoc hw4 hy⟩
    rintro σ H4 ⟨⟨u7, rfl⟩, l3, l4, I, hl3, hl4, hw3, hw4⟩
    have hl3 : l3.length = 2 := hl3
    have hl4 : l4.length = 2 := hl4
    refine ⟨lz, fun Fo hFo => ⟨lz, fun Ke hKe => ⟨_, _, rfl, ?_⟩⟩⟩
    have s5 := same_new (o := .lst []) hFo
    have hFo5 : upd H4 Fo (.lst []) Fo = some (.lst []) := upd_same
    have I5 := I.x N (I.pu.same s5) (sx s5)
    generalize upd H4 Fo (.lst []) = H5 at s5 hFo5 I5 hKe ⊢
    have s6 := same_new (o := .lst []) hKe
    have hKe6 : upd H5 Ke (.lst []) Ke = some (.lst []) := upd_same
    have I6 := I5.x N (I5.pu.same s6) (sx s6)
    have TN : TelN H a p1 p2 p3 p4 Fo Ke := ⟨N, SameX.free I.sx (I.pu.ne hFo) hFo, SameX.free I5.sx (I5.pu.ne hKe) hKe, I.pu.ne hFo, I5.pu.ne hKe, ne_of_none hFo5 hKe, ne_of_none I.h1 hFo, ne_of_none I.h2 hFo, ne_of_none I.h3 hFo, ne_of_none I.h4 hFo, ne_of_none I5.h1 hKe, ne_of_none I5.h2 hKe, ne_of_none I5.h3 hKe, ne_of_none I5.h4 hKe⟩
    have hFo6 := s6 _ _ hFo5
    generalize upd H5 Ke (.lst []) = H6 at s6 hKe6 I6 hFo6 ⊢
    have T0 : TelJ ws H H6 a p1 p2 p3 p4 Fo Ke l1 l2 l3 l4 [] [] [] := ⟨I6, hFo6, hKe6, .nil, .nil, fun t ht => (List.not_mem_nil ht).elim, fun t ht => (List.not_mem_nil ht).elim, List.nodup_nil⟩
    refine ⟨_, rfl, _, rfl, _, _, rfl, rfl, a, (n : Int) + 1, rfl, T0.po.pu, by omega, by omega, fun r7 H7 r70 r71 hA7 x7 _ => ?_⟩
    have T1 := T0.x TN hA7 x7
    refine ⟨r7, rfl, by omega, by omega, for_range (lo := 0) (n := r7.toNat) (fun i σ H' => (∃ y7 y10 y11 y12 y13 y14 y15, σ = [some (.ref a), some (.ref Tw), some (.int (n : Int)), some (.ref p1), some (.ref p2), some (.ref p3), some (.ref p4), y7, some (.ref Fo), some (.ref Ke), y10, y11, y12, y13, y14, y15]) ∧ ∃ as ks ts, TelJ ws H H' a p1 p2 p3 p4 Fo Ke l1 l2 l3 l4 as ks ts ∧ ts.length ≤ i)
      ⟨⟨_, _, _, _, _, _, _, rfl⟩, _, _, _, T1, Nat.le_refl 0⟩ ?_ ?_⟩
    · rintro i σ H9 hi ⟨⟨y7, y10, y11, y12, y13, y14, y15, rfl⟩, as, ks, ts, I, hl⟩
      have hA9 := I.po.pu
      have hTw9 := I.po.sx _ _ nTw hTw
      have lpos : 0 < ws.length := List.length_pos_iff.mpr hne
      refine ⟨_, rfl, _, rfl, _, rfl, Tw, _, rfl, .inl (.inl (.inl hTw9)), a, _, rfl, hA9, by rw [List.length_map]; omega, by rw [List.length_map]; omega, fun r10 H10 r100 r101 hA10 x10 _ => ?_⟩
      rw [List.length_map] at r101
      obtain ⟨z10, hzm10, hzi10⟩ := atI_strs (zs := ws) r100 r101
      refine ⟨Tw, _, r10, .str z10, rfl, rfl, .inl (.inl (x10 _ _ nTw hTw9)), hzi10, ?_⟩
      have I10 := I.x TN hA10 x10
      refine ⟨_, rfl, _, rfl, _, rfl, p1, _, rfl, .inl (.inl (.inl I10.po.h1)), a, _, rfl, hA10, by rw [List.length_map]; omega, by rw [List.length_map]; omega, fun r11 H11 r110 r111 hA11 x11 _ => ?_⟩
      rw [List.length_map] at r111
      obtain ⟨z11, hzm11, hzi11⟩ := atI_strs (zs := l1) r110 r111
      have I11 := I10.x TN hA11 x11
      refine ⟨p1, _, r11, .str z11, rfl, rfl, .inl (.inl I11.po.h1), hzi11, ?_⟩
      refine ⟨_, _, rfl, ?_⟩
      refine ⟨_, rfl, _, rfl, _, rfl, p2, _, rfl, .inl (.inl (.inl I11.po.h2)), a, _, rfl, hA11, by rw [List.length_map]; omega, by rw [List.length_map]; omega, fun r12 H12 r120 r121 hA12 x12 _ => ?_⟩
      rw [List.length_map] at r121
      obtain ⟨z12, hzm12, hzi12⟩ := atI_strs (zs := l2) r120 r121
      have I12 := I11.x TN hA12 x12
      refine ⟨p2, _, r12, .str z12, rfl, rfl, .inl (.inl I12.po.h2), hzi12, ?_⟩
      refine ⟨_, rfl, _, rfl, a, 2, rfl, hA12, by decide, by decide, fun r13 H13 r130 r131 hA13 x13 _ => ?_⟩
      obtain ⟨z13, hzm13, hzi13⟩ := atI_strs (zs := l3) r130 (by rw [hl3]; exact r131)
      have I13 := I12.x TN hA13 x13
      refine ⟨p3, _, r13, .str z13, rfl, rfl, .inl (.inl I13.po.h3), hzi13, ?_⟩
      refine ⟨_, _, rfl, ?_⟩
      refine ⟨_, rfl, _, rfl, a, 2, rfl, hA13, by decide, by decide, fun r14 H14 r140 r141 hA14 x14 _ => ?_⟩
      obtain ⟨z14, hzm14, hzi14⟩ := atI_strs (zs := l4) r140 (by rw [hl4]; exact r141)
      have I14 := I13.x TN hA14 x14
      refine ⟨p4, _, r14, .str z14, rfl, rfl, .inl (.inl I14.po.h4), hzi14, ?_⟩
      refine ⟨_, rfl, a, 121, rfl, hA14, by decide, by decide, fun r15 H15 r150 r151 hA15 x15 _ => ⟨_, _, rfl, ?_⟩⟩
      have J := I14.x TN hA15 x15
      obtain ⟨ag, eag, lag⟩ : ∃ ag : Nat, r15 = (ag : Int) ∧ ag ≤ 120 := ⟨r15.toNat, by omega, by omega⟩
      subst eag
      have ekv : ∀ b : Bool, keyLV (⟨z10, z11, z12, z13, ag, z14, b⟩ : Tel) = [V.str z10, V.str z11, V.str z13, V.str z14] := fun b => rfl
      have okt : ∀ b : Bool, OkT ⟨z10, z11, z12, z13, ag, z14, b⟩ := fun b => ⟨hwd _ hzm10, hw1 _ hzm11, hw2 _ hzm12, hw3 _ hzm13, lag, hw4 _ hzm14⟩
      refine ⟨_, rfl, _, rfl, _, rfl, _, rfl, lz, fun u hu => ?_⟩
      rw [← ekv true]
      have su := same_new (o := .tup (keyLV (⟨z10, z11, z12, z13, ag, z14, true⟩ : Tel))) hu
      have hu' : upd H15 u (.tup (keyLV (⟨z10, z11, z12, z13, ag, z14, true⟩ : Tel))) u = some (.tup (keyLV (⟨z10, z11, z12, z13, ag, z14, true⟩ : Tel))) := upd_same
      have Ju := J.x TN (J.po.pu.same su) (sx su)
      generalize upd H15 u (.tup (keyLV (⟨z10, z11, z12, z13, ag, z14, true⟩ : Tel))) = H19 at su hu' Ju ⊢
      have lks : ks.length = ts.length := J.keys.length
      have las : as.length = ts.length := J.tels.length
      refine ⟨_, rfl, .tuple ((keyL (⟨z10, z11, z12, z13, ag, z14, true⟩ : Tel)).map .str), ts.map kD, .tup (.inl (.inl hu')) (dp_strs (keyL (⟨z10, z11, z12, z13, ag, z14, true⟩ : Tel))), .lst (.inl (.inl Ju.ke)) (dp_keys Ju.keys), shaped_strs (keyL_wd (okt true)), shaped_list (lay_keys I.ok) (by have := depth_keys ts; omega), _, rfl, ?_⟩
      rw [any_keys]
      refine not_b (fun e => ?_) (fun e => ?_)
      · have hnew := of_decide_eq_false e
        refine ⟨_, rfl, .inl ⟨rfl, _, .inl (.inl Ju.ke)⟩, _, rfl, _, rfl, _, rfl, _, rfl, lz, fun k hk => ?_⟩
        rw [← ekv true]
        have sk := same_new (o := .tup (keyLV (⟨z10, z11, z12, z13, ag, z14, true⟩ : Tel))) hk
        have hk' : upd H19 k (.tup (keyLV (⟨z10, z11, z12, z13, ag, z14, true⟩ : Tel))) k = some (.tup (keyLV (⟨z10, z11, z12, z13, ag, z14, true⟩ : Tel))) := upd_same
        have Jk := Ju.x TN (Ju.po.pu.same sk) (sx sk)
        generalize upd H19 k (.tup (keyLV (⟨z10, z11, z12, z13, ag, z14, true⟩ : Tel))) = H20 at sk hk' Jk ⊢
        refine ⟨Ke, _, _, rfl, rfl, Jk.ke, by rw [List.length_map]; exact small1000 (by omega), ?_⟩
        have tk1 : TupKeep H20 (upd H20 Ke (.lst (ks.map V.ref ++ [V.ref k]))) := tk_upd Jk.ke
        have hke1 : upd H20 Ke (.lst (ks.map V.ref ++ [V.ref k])) Ke = some (.lst ((ks ++ [k]).map V.ref)) := by
          rw [upd_same, List.map_append]
          rfl
        have hfo1 : upd H20 Ke (.lst (ks.map V.ref ++ [V.ref k])) Fo = some (.lst (as.map V.ref)) := by
          rw [upd_ne TN.fk']
          exact Jk.fo
        have hpo1 := Jk.po.oth (p := Ke) (o := .lst (ks.map V.ref ++ [V.ref k])) TN.fk TN.ka TN.k1 TN.k2 TN.k3 TN.k4
        have tl1 := Jk.tels.keep tk1
        have kk1 := Jk.keys.keep tk1
        have hk1 := tk1 _ _ hk'
        generalize upd H20 Ke (.lst (ks.map V.ref ++ [V.ref k])) = H21 at hke1 hfo1 hpo1 tl1 kk1 hk1 ⊢
        refine ⟨_, rfl, .inl ⟨rfl, _, .inl (.inl hfo1)⟩, _, rfl, _, rfl, _, rfl, _, rfl, _, rfl, _, rfl, _, rfl, a, 5, rfl, hpo1.pu, by decide, by decide, fun r22 H22 r220 r221 hA22 x22 _ => ⟨_, _, rfl, rfl, lz, fun tp htp => ?_⟩⟩
        obtain ⟨ys21, hy21⟩ := hpo1.pu.lst
        have tk22 := tk_x x22 hy21
        have hpo2 := hpo1.x N hA22 x22
        have hfo2 := x22 _ _ TN.fa hfo1
        have hke2 := x22 _ _ TN.ka hke1
        obtain ⟨t, et⟩ : ∃ t : Tel, t = ⟨z10, z11, z12, z13, ag, z14, decide (r22 > 0)⟩ := ⟨_, rfl⟩
        have etv : telV t = [V.str z10, V.str z11, V.str z12, V.str z13, V.int (ag : Int), V.str z14, V.bl (decide (r22 > 0))] := by rw [et]; rfl
        have ekt : keyLV t = keyLV (⟨z10, z11, z12, z13, ag, z14, true⟩ : Tel) := by rw [et]; rfl
        have eks : keyL (⟨z10, z11, z12, z13, ag, z14, true⟩ : Tel) = keyL t := by rw [et]; rfl
        have okt' : OkT t := by rw [et]; exact okt _
        rw [eks] at hnew
        rw [mem_keyL] at hnew
        rw [← ekt] at hk1
        rw [← etv]
        have st := same_new (o := .tup (telV t)) htp
        have htp' : upd H22 tp (.tup (telV t)) tp = some (.tup (telV t)) := upd_same
        have hpo3 := hpo2.x N (hpo2.pu.same st) (sx st)
        generalize upd H22 tp (.tup (telV t)) = H23 at st htp' hpo3 ⊢
        have hfo3 := st _ _ hfo2
        have tk3 : TupKeep H23 (upd H23 Fo (.lst (as.map V.ref ++ [V.ref tp]))) := tk_upd hfo3
        refine ⟨Fo, _, _, rfl, rfl, hfo3, by rw [List.length_map]; exact small1000 (by omega), ⟨_, _, _, _, _, _, _, rfl⟩, as ++ [tp], ks ++ [k], ts ++ [t], ⟨?_, ?_, ?_, ?_, ?_, ?_, ?_, ?_⟩, ?_⟩
        · exact hpo3.oth (p := Fo) TN.ff TN.fa TN.f1 TN.f2 TN.f3 TN.f4
        · rw [upd_same, List.map_append]
          rfl
        · rw [upd_ne TN.fk'.symm]
          exact st _ _ hke2
        · exact Each.append (((tl1.keep tk22).keep (tk_same st)).keep tk3) (.cons (tk3 _ _ htp') .nil)
        · exact Each.append (((kk1.keep tk22).keep (tk_same st)).keep tk3) (.cons (tk3 _ _ (st _ _ (tk22 _ _ hk1))) .nil)
        · intro z hz
          rcases List.mem_append.mp hz with hz | hz
          · exact I.ok z hz
          · rw [List.mem_singleton.mp hz]
            exact okt'
        · intro z hz
          rcases List.mem_append.mp hz with hz | hz
          · exact I.vs z hz
          · rw [List.mem_singleton.mp hz, et]
            exact hzm10
        · rw [List.map_append, List.nodup_append]
          refine ⟨I.nd, by simp, fun x hx y hy e => ?_⟩
          rw [List.map_singleton, List.mem_singleton] at hy
          rw [e, hy] at hx
          exact hnew hx
        · rw [List.length_append]
          simp only [List.length_cons, List.length_nil]
          omega
      · exact ⟨⟨_, _, _, _, _, _, _, rfl⟩, as, ks, ts, Ju, by omega⟩
    · rintro σ H9 ⟨⟨y7, y10, y11, y12, y13, y14, y15, rfl⟩, as, ks, ts, I, hl⟩
      have hl : ts.length ≤ r7.toNat := hl
      exact ⟨_, rfl, q Fo as ts H9 I.po.pu I.po.sx TN.ff I.fo I.tels I.ok I.vs I.nd (by omega)⟩
end
end Wl


namespace Wl
open PySem PySem.Spec PyProof.Rows L2
abbrev sTelRow : Stmt := topS 59
abbrev sGStr : Stmt := inClass sGat 12
def ageS (n : Nat) : Str := (toString (n : Int) : String)
def partsS (t : Tel) : List Str := [t.v, t.th, t.wo, t.tl, ageS t.age, t.g]
def rowS (t : Tel) : Str := Txt.join (" " : Str) (if t.sure = true then partsS t else partsS t ++ [("?" : Str)])
theorem age_len {n : Nat} (h : n ≤ 120) : (ageS n).length ≤ 3 := by
  have : ∀ k : Fin 121, (ageS k.val).length ≤ 3 := by decide +kernel
  exact this ⟨n, by omega⟩
theorem age_log {n : Nat} (h : n ≤ 120) : (((n : Nat) : Int).natAbs).log2 < 1920 := by
  have : ((n : Nat) : Int).natAbs = n := Int.natAbs_natCast n
  rw [this]
  have h2 : n.log2 ≤ n := Nat.log2_le_self n
  omega
theorem parts_len {t : Tel} (h : OkT t) : ∀ z ∈ partsS t ++ [("?" : Str)], z.length ≤ 8 := fun z hz => by
  simp only [partsS, List.cons_append, List.nil_append, List.mem_cons, List.not_mem_nil, or_false] at hz
  rcases hz with rfl | rfl | rfl | rfl | rfl | rfl | rfl
  · exact h.v.len.2
  · exact h.th.len.2
  · exact h.wo.len.2
  · exact h.tl.len.2
  · have := age_len h.age
    omega
  · exact h.g.len.2
  · decide +kernel
section
variable {P : Program} {w : World} {K : PySem.W.Frag} {mg : Str → Option Value} {base : Heap} {f C D : Addr} {fd : FuncData}
/-! ### len -/
/-! ### a telling's row -/
def spTelRow : Sp := fun vs H Q _ => ∃ (p : Addr) (t : Tel), vs = [.ref p] ∧ H p = some (.tup (telV t)) ∧ OkT t ∧ ∀ (H' : Hp), Same H H' → Q (.str (rowS t)) H'
abbrev nTelRow : List Str := ["telling", "village", "thing", "word", "teller", "age", "gatherer", "sure", "parts"]
theorem scTelRow : FnScope nTelRow ["telling"] (defScope sTelRow) := ⟨rfl, rfl, rfl, by decide +kernel, rfl, by decide +kernel, by decide +kernel⟩
theorem ok_telrow (F : Fun K "telling_row" "telling_row" sTelRow f fd) (B : Bi mg) (B2 : Bg mg) : FnOk P w K mg base CX0 1 f fd ["telling"] spTelRow := by
  obtain ⟨tq, gq⟩ := B2.doubt
  refine F.ok scTelRow (fun vs H Q E h => ?_) (fun cdv A outer s H vs Q E hr h => ?_)
  · obtain ⟨p, t, rfl, _⟩ := h
    rfl
  · obtain ⟨p, t, rfl, hp, ok, q⟩ := h
    refine ⟨_, pss_cons (ps_asg (pv 0) (pg_tup rfl (pgs_cons (pg_name (i := 1) scTelRow.nd rfl (.inl rfl)) (pgs_cons (pg_name (i := 2) scTelRow.nd rfl (.inl rfl)) (pgs_cons (pg_name (i := 3) scTelRow.nd rfl (.inl rfl)) (pgs_cons (pg_name (i := 4) scTelRow.nd rfl (.inl rfl)) (pgs_cons (pg_name (i := 5) scTelRow.nd rfl (.inl rfl)) (pgs_cons (pg_name (i := 6) scTelRow.nd rfl (.inl rfl)) (pgs_cons (pg_name (i := 7) scTelRow.nd rfl (.inl rfl)) pgs_nil)))))))))
      (pss_cons (ps_set (i := 8) scTelRow.nd rfl (.inl rfl) (pe_lst (pa_cons (pv 1) (pa_cons (pv 2) (pa_cons (pv 3) (pa_cons (pv 4) (pa_cons (pe_callTy call_str_int (by rfl) B.str (by decide +kernel) (pa_cons (pv 5) pa_nil)) (pa_cons (pv 6) pa_nil))))))))
      (pss_one (ps_ret (pe_join pe_str (pe_ifExp (pt_val (pv 7)) (pv 8) (pe_op op_cat (pv 8) (pe_lst (pa_cons (pe_glob (v := .str "?") rfl gq ⟨_, rfl⟩) pa_nil)))))))), ?_⟩
    refine ⟨_, rfl, p, _, rfl, .inl (.inl hp), rfl, _, _, rfl, _, _, rfl, _, _, rfl, _, _, rfl, _, _, rfl, _, _, rfl, _, _, rfl, rfl, ?_⟩
    refine ⟨_, rfl, _, rfl, _, rfl, _, rfl, _, rfl, _, rfl, age_log ok.age, _, rfl, lz, fun u hu => ?_⟩
    have s1 := same_new (o := .lst ((partsS t).map V.str)) hu
    have hu1 : upd H u (.lst ((partsS t).map V.str)) u = some (.lst ((partsS t).map V.str)) := upd_same
    have pl := parts_len ok
    have e1 : (" " : Str).length = 1 := by decide +kernel
    have fin : ∀ (l : List Str), (∀ z ∈ l, z.length ≤ 8) → l.length ≤ 7 → (l.map (·.length)).sum + l.length * (" " : Str).length ≤ 16777216 := fun l h hl => by
      have := sum_len (l := l) (m := 8) h
      rw [e1]
      omega
    refine ⟨⟨_, rfl⟩, _, rfl, _, rfl, ite_b (fun e => ?_) (fun e => ?_)⟩
    · refine ⟨_, rfl, _, u, partsS t, rfl, rfl, .inl (.inl (.inl hu1)), fin _ (fun z hz => pl z (List.mem_append_left _ hz)) (by show 6 ≤ 7; decide), ?_⟩
      have := q _ s1
      unfold rowS at this
      rw [if_pos e] at this
      exact this
    · refine ⟨_, rfl, lz, fun v hv => ?_⟩
      have s2 := same_new (o := .lst [V.str ("?" : Str)]) hv
      refine ⟨u, v, (partsS t).map V.str, _, rfl, rfl, s2 _ _ hu1, upd_same, lz, fun x hx => ?_⟩
      refine ⟨_, x, partsS t ++ [("?" : Str)], rfl, rfl, .inl (.inl (.inl upd_same)), fin _ pl (by show 7 ≤ 7; decide), ?_⟩
      have := q _ ((s1.trans s2).trans (same_new (o := .lst ((partsS t).map V.str ++ [V.str ("?" : Str)])) hx))
      unfold rowS at this
      rw [if_neg (by rw [e]; decide)] at this
      exact this
/-! ### repr -/
/-! ### str -/
def gatS (g : Grid) (ts : List Tel) : Str := Txt.join ("\n" : Str) ([landS g, ("." : Str)] ++ ts.map rowS)
theorem telV_inj {t u : Tel} (h : telV t = telV u) : t = u := by
  cases t
  cases u
  simp only [telV, List.cons.injEq, V.str.injEq, V.int.injEq, V.bl.injEq, and_true] at h
  obtain ⟨h1, h2, h3, h4, h5, h6, h7⟩ := h
  have h5 := Int.ofNat.inj h5
  subst h1 h2 h3 h4 h5 h6 h7
  rfl
theorem told_rows {H : Hp} : ∀ {as : List Addr} {ts : List Tel} {zs : List V}, TelsAt H as ts → Each (fun (x z : V) => ∀ (pt : Addr) (t : Tel), x = .ref pt → H pt = some (.tup (telV t)) → z = .str (rowS t)) (as.map V.ref) zs → zs = (ts.map rowS).map V.str
  | [], [], [], _, _ => rfl
  | [], [], _ :: _, _, h => nomatch h
  | [], _ :: _, _, h, _ => nomatch h
  | _ :: _, [], _, h, _ => nomatch h
  | _ :: _, _ :: _, [], _, h => nomatch h
  | a :: as, r :: g, z :: zs, .cons e t, .cons e' t' => by
    rw [e' a r rfl e, told_rows t t']
    rfl
def spGStr (C D : Addr) : Sp := fun vs H Q _ => ∃ (p : Addr) (r : GR) (wd : Nat), vs = [.ref p] ∧ GatAt C D H p r ∧ Good r.g wd ∧ r.ts.length ≤ 200 ∧ (∀ t ∈ r.ts, OkT t) ∧ ∀ (H' : Hp), Same H H' → Q (.str (gatS r.g r.ts)) H'
abbrev nGStr : List Str := ["self", "telling"]
theorem scGStr : FnScope nGStr ["self"] (defScope sGStr) := ⟨rfl, rfl, rfl, by decide +kernel, rfl, by decide +kernel, by decide +kernel⟩
theorem row_len {t : Tel} (h : OkT t) : (rowS t).length ≤ 63 := by
  have key : ∀ l : List Str, (∀ z ∈ l, z.length ≤ 8) → l.length ≤ 7 → (Txt.join (" " : Str) l).length ≤ 63 := fun l hl h7 => by
    rw [TL.len_tl, TL.join_eq, TL.tl_join, tl_blank]
    have := join_size (S := [32]) (m := 8) (ps := l.map TL.tl) fun p hp => by
      obtain ⟨z, hz, rfl⟩ := List.mem_map.mp hp
      rw [← TL.len_tl]
      exact hl z hz
    rw [List.length_map] at this
    simp at this
    omega
  unfold rowS
  split
  · exact key _ (fun z hz => parts_len h z (List.mem_append_left _ hz)) (by show 6 ≤ 7; decide)
  · exact key _ (parts_len h) (by show 7 ≤ 7; decide)
theorem ok_gstr (F : Fun K "__str__" "Gathering.__str__" sGStr f fd) (B : Bi mg) (B2 : Bg mg) (TG : TxtG K mg D) (hS : HasM P w K mg base C "__str__" 1 ["self"] (spLStr C)) (hT : Has P w K mg base "telling_row" 1 ["telling"] spTelRow) : FnOk P w K mg base CX0 4 f fd ["self"] (spGStr C D) := by
  obtain ⟨td, gd⟩ := B2.dot
  obtain ⟨fS, fdS, FS, mS, bS⟩ := hS
  refine F.ok scGStr (fun vs H Q E h => ?_) (fun cdv A outer s H vs Q E hr h => ?_)
  · obtain ⟨p, r, wd, rfl, _⟩ := h
    rfl
  · obtain ⟨p, r, wd, rfl, hG, gg, h200, hok, q⟩ := h
    refine ⟨_, pss_one (ps_ret (pe_join pe_str (pe_op op_cat (pe_lst (pa_cons (pe_callTy (cr_strO FS bS mS (hr.mono (by decide))) (by rfl) B.str (by decide +kernel) (pa_cons (pe_fld (pv 0) rfl) pa_nil)) (pa_cons (pe_glob (v := .str ".") rfl gd ⟨_, rfl⟩) pa_nil)))
      (pe_lc (own := [("telling", 1)]) (g := gName 1) (tt := tYes) (te := tCall spTelRow [] E0 (tCons (tVar 1) tNil)) rfl scGStr.nd (pi_list (pe_fld (pv 0) rfl)) (blkOk_by (N := nGStr) (sc := defScope sGStr) (by decide +kernel)) (fun _ _ _ _ _ => pg_name (i := 1) scGStr.nd rfl (.inl rfl)) (fun _ _ _ _ _ => pts_nil) (fun _ _ _ _ _ => pe_h hT hr (pa_cons (pv 1) pa_nil)))))), ?_⟩
    obtain ⟨dx, hp⟩ := hG.at_
    obtain ⟨dl, d, hl⟩ := hG.land.ins
    refine ⟨⟨_, rfl⟩, _, rfl, p, D, dx, _, _, rfl, hp, TG.cl, TG.nL, gf_land _ _ _, r.pl, dl, _, rfl, hl, r.pl, r.L, r.g, wd, rfl, hG.land, gg, fun H1 s1 => ⟨_, rfl, lz, fun u hu => ?_⟩⟩
    have s2 := same_new (o := .lst [V.str (landS r.g), V.str ("." : Str)]) hu
    have hu2 : upd H1 u (.lst [V.str (landS r.g), V.str ("." : Str)]) u = some (.lst [V.str (landS r.g), V.str ("." : Str)]) := upd_same
    have s02 := s1.trans s2
    have hG2 := hG.same s02
    generalize upd H1 u (.lst [V.str (landS r.g), V.str ("." : Str)]) = H2 at hu2 s02 hG2
    obtain ⟨dx2, hp2⟩ := hG2.at_
    refine ⟨_, rfl, p, D, dx2, _, _, rfl, hp2, TG.cl, TG.nT, gf_told _ _ _, r.td, rfl, ⟨_, .inl (.inl hG2.told)⟩, fun Dd hD => ?_⟩
    have hlen : r.as.length = r.ts.length := hG.tels.length
    refine lc_rel (walk_list (K := K) (a := r.td) (xs := r.as.map V.ref)) hD (fun _ => true) (fun x y _ => ∀ (pt : Addr) (t : Tel), x = .ref pt → H2 pt = some (.tup (telV t)) → y = .str (rowS t)) (fun H' s' => .inl (.inl (s' _ _ hG2.told))) (fun _ => rfl) (fun x H' _ _ Q' q' => q') ?_ (fun _ _ _ _ _ _ _ r => r) ?_ ?_
    · intro x H' hx _ s' Q' q'
      obtain ⟨pt, hpt, rfl⟩ := List.mem_map.mp hx
      obtain ⟨i, hi, ei⟩ := List.mem_iff_getElem.mp hpt
      obtain ⟨t, ht, hH⟩ := Each.get hG2.tels (i := i) (a := pt) (by rw [List.getElem?_eq_getElem hi, ei])
      refine ⟨_, rfl, pt, t, rfl, s' _ _ hH, hok t (List.mem_of_getElem? ht), fun H3 s3 => q' _ H3 s3 fun pt2 t2 e2 h2 => ?_⟩
      obtain rfl : pt = pt2 := V.ref.inj e2
      rw [hH] at h2
      rw [telV_inj (HO.tup.inj (Option.some.inj h2))]
    · rw [List.length_map]
      exact small1000 (by omega)
    · intro zs H3 s3 hD3 he
      rw [List.filter_eq_self.mpr fun _ _ => rfl] at he
      have e1 : zs = (r.ts.map rowS).map V.str := told_rows hG2.tels he
      rw [e1] at hD3
      refine ⟨u, Dd, _, _, rfl, rfl, s3 _ _ hu2, hD3, ?_, fun x hx => ?_⟩
      · rw [List.length_map, List.length_map]
        exact lzl (by simp only [List.length_cons, List.length_nil]; omega)
      refine ⟨_, x, [landS r.g, ("." : Str)] ++ r.ts.map rowS, rfl, rfl, .inl (.inl (.inl (by rw [upd_same, List.map_append]; rfl))), ?_, q _ ((s02.trans s3).trans (same_new hx))⟩
      have hll := land_len gg.parts gg.h6 gg.six
      have hdot : ("." : Str).length = 1 := by decide +kernel
      have := sum_len (l := [landS r.g, ("." : Str)] ++ r.ts.map rowS) (m := 330) fun z hz => by
        rcases List.mem_append.mp hz with hz | hz
        · simp only [List.mem_cons, List.not_mem_nil, or_false] at hz
          rcases hz with rfl | rfl
          · exact hll
          · omega
        · obtain ⟨t, ht, rfl⟩ := List.mem_map.mp hz
          have := row_len (hok t ht)
          omega
      have e : ("\n" : Str).length = 1 := by decide +kernel
      have hl2 : ([landS r.g, ("." : Str)] ++ r.ts.map rowS).length ≤ 202 := by
        rw [List.length_append, List.length_map]
        simp only [List.length_cons, List.length_nil]
        omega
      rw [e]
      omega
end
end Wl



/-! An exception that was caught, as a tracked object: isinstance of it, its fields. -/
namespace Wl
open PySem PySem.Spec PyProof.Rows L2
/-- at a: a caught exception, its class, its own dict; its context is None -/
def exH (a : Addr) (cls : Value) (d : Option Addr) : HO := .ext fun h => ∃ (vs : Array Value) (sl : Array (Option Value)), h.get? a = some ⟨cls, d, .fields vs, sl⟩ ∧ vs[2]? = some .none
section
variable {P : Program} {w : World} {H : Hp} {h : Heap} {a : Addr} {cls : Value} {d : Option Addr}
theorem exH_ok {oe : Obj} {vs : Array Value} (he : h.get? a = some oe) (hz : L2N.Zn cls d oe) (hd : oe.data = .fields vs) : ObjOk P w H h a (exH a cls d) := by
  obtain ⟨c0, d0, dt, sl⟩ := oe
  obtain ⟨e1, e2, e3⟩ := hz
  obtain rfl : c0 = cls := e1
  obtain rfl : d0 = d := e2
  obtain rfl : dt = .fields vs := hd
  refine ⟨⟨vs, sl, he, e3 vs rfl⟩, ⟨_, he⟩, fun h1 h2 z k => ?_⟩
  obtain ⟨vs', sl', q, c⟩ := z
  exact ⟨vs', sl', k _ q, c⟩
theorem exH_at (hok : HOk P w H h) (e : H a = some (exH a cls d)) : ∃ (vs : Array Value) (sl : Array (Option Value)), h.get? a = some ⟨cls, d, .fields vs, sl⟩ ∧ vs[2]? = some .none := by
  have x : ObjOk P w H h a (exH a cls d) := hok a _ e
  exact x.1
theorem exH_hot {A : Around} (hok : HOk P w H h) (e : H a = some (exH a cls d)) (hh : A.handled = some (.ref a)) : HotX.HotAt A a h := by
  obtain ⟨vs, sl, q, c⟩ := exH_at hok e
  exact ⟨hh, _, vs, q, rfl, c⟩
theorem exH_tup {xs : List V} : exH a cls d ≠ .tup xs := fun z => by
  have z' : HO.ext _ = HO.tup xs := z
  cases z'
theorem exH_ne {o : HO} (hn : ∀ φ, o ≠ .ext φ) : exH a cls d ≠ o := fun z => hn _ z.symm
end
/-- what isinstance asks of an exception's class, and of its own dict -/
structure ExK (K : PySem.W.Frag) (C : Addr) : Prop where
  cl : (PySem.W.clsIn K C).isSome = true
  ga : PySem.W.findIn K (.ref C) "__getattribute__" = some (some (.builtin "BaseException.__getattribute__"))
  gg : PySem.W.findIn K (.ref C) "__getattr__" = some none
  sub : PySem.W.subIn K (.ref C) (.type "BaseException") = some true
  ca : PySem.W.findIn K (.ref C) "__class__" = some (some (.builtin "object.__class__"))
  gn : PySem.W.specialIn K (.builtin "object.__class__") "__get__" = some (some (.builtin "getset_descriptor.__get__"))
  tk : PySem.W.takesIn K (.builtin "object.__class__") = some true
  mo : PySem.W.mroIn K C (.type "object") = some true
/-- its own dict, if it has one, is tracked -/
def DxOk (H : Hp) (d : Option Addr) : Prop := ∀ dd, d = some dd → ∃ fs, H dd = some (.xd fs)
section
variable {X : Cx}
theorem inst_of {pins : List (Addr × Obj)} {σ : L2.St} {H : Hp} {s : Shared} {a C : Addr} {d : Option Addr} (I : Inv X pins σ H s) (e : H a = some (exH a (.ref C) d)) (hd : DxOk H d) : ∃ ox od, PySem.W.InstAt s.heap a ox C od := by
  obtain ⟨vs, sl, q, _⟩ := exH_at I.hok e
  cases d with
  | none => exact ⟨_, none, q, rfl, rfl, trivial⟩
  | some dd =>
    obtain ⟨fs, hf⟩ := hd dd rfl
    have hx : ObjOk X.prog X.w H s.heap dd (.xd fs) := I.hok dd _ hf
    obtain ⟨mA, hns, _⟩ := hx
    obtain ⟨od, ho, _⟩ := lookIn_ns hns
    exact ⟨_, some od, q, rfl, rfl, ho⟩
theorem kit_exc {C a : Addr} {ox : Obj} {od : Option Obj} {K : PySem.W.Frag} (E : ExK K C) : PySem.W.KitX K (.ref a) (.ref C) (fun h => PySem.W.InstAt h a ox C od) :=
  PySem.W.kitx_exc E.cl E.ga E.gg E.sub E.ca E.gn E.tk E.mo
/-- isinstance(e, c) -/
def rIsX (K : PySem.W.Frag) : List V → Hp → VK → Prop := fun xs H Q => ∃ (a C : Addr) (d : Option Addr) (c : V) (cv : Value) (b : Bool), xs = [.ref a, c] ∧ H a = some (exH a (.ref C) d) ∧ DxOk H d ∧ ExK K C ∧ ClsV c cv ∧ PySem.W.kitOne K (.ref C) cv = some b ∧ Q (.bl b) H
theorem call_isX : CallR X (.builtin "isinstance") (rIsX X.K) := by
  intro pins s σ H xs us Q I r h
  obtain ⟨a, C, d, c, cv, b, rfl, ea, hd, E, hc, hk, q⟩ := h
  cases r with
  | cons rx rr =>
    cases rr with
    | cons rt rr =>
      cases rr
      cases rx
      obtain rfl := hc.eq rt
      obtain ⟨ox, od, J⟩ := inst_of I ea hd
      exact PySem.W.kia_one (kit_exc E) I.kIn J hk (fun z => nomatch z) fun tk => ⟨.bl b, H, I.kept (t' := tk) fun _ _ z => z, rfl, q⟩
/-- isinstance(e, (c, ..)) -/
def rIsXT (K : PySem.W.Frag) : List V → Hp → VK → Prop := fun xs H Q => ∃ (a C : Addr) (d : Option Addr) (tp : Addr) (cs : List V) (us : List Value) (b : Bool), xs = [.ref a, .ref tp] ∧ H a = some (exH a (.ref C) d) ∧ DxOk H d ∧ ExK K C ∧
  H tp = some (.tup cs) ∧ Paired ClsV cs us ∧ PySem.W.kitAny K (.ref C) us = some b ∧ Q (.bl b) H
theorem call_isXT : CallR X (.builtin "isinstance") (rIsXT X.K) := by
  intro pins s σ H xs us Q I r h
  obtain ⟨a, C, d, tp, cs, uc, b, rfl, ea, hd, E, ht, hp, hk, q⟩ := h
  cases r with
  | cons rx rr =>
    cases rr with
    | cons rt rr =>
      cases rr
      cases rx
      cases rt
      obtain ⟨ox, od, J⟩ := inst_of I ea hd
      obtain ⟨z, its, rv, ⟨o, ho, hc, n, hdat⟩⟩ := I.hok tp _ ht
      obtain rfl := ClsV.all hp rv
      obtain ⟨c0, d0, dt, sl⟩ := o
      obtain rfl : c0 = .type "tuple" := hc
      obtain rfl : dt = .seq its.toArray n := hdat
      exact PySem.W.kia_tup (kit_exc E) I.kIn J ho hk (fun z => nomatch z) fun tk => ⟨.bl b, H, I.kept (t' := tk) fun _ _ z => z, rfl, q⟩
/-- e.f -/
def tXf (K : PySem.W.Frag) (f : Str) (te : TE) : TE := fun σ H Q => te σ H fun x H1 => ∃ (a C dd : Addr) (fs : List (Str × V)) (v : V), x = .ref a ∧ H1 a = some (exH a (.ref C) (some dd)) ∧ H1 dd = some (.xd fs) ∧ XfC K C ∧
  PySem.W.findIn K (.ref C) f = some none ∧ fs.lookup f = some v ∧ Q v H1
theorem pe_xf {e : Expr} {te : TE} {pos : Pos} {n : Str} (he : PE X e te) (hb : attributeBase e n X.env (eval e X.env) = eval e X.env := by rfl) : PE X (.Attribute e n pos) (tXf X.K n te) := by
  refine ⟨fun pins s σ H Q I h => ?_⟩
  refine attr_of hb (thn (he.run pins s σ H _ I h) fun u s1 hh => ?_)
  obtain ⟨x, H1, I1, rx, a, C, dd, fs, v, rfl, ea, ed, T, hno, hl, q⟩ := hh
  obtain rfl : u = Value.ref a := rx
  obtain ⟨vs, sl, hobj, _⟩ := exH_at I1.hok ea
  have hx : ObjOk X.prog X.w H1 s1.heap dd (.xd fs) := I1.hok dd _ ed
  obtain ⟨mA, hns, hr⟩ := hx
  obtain ⟨od, ho, hlk⟩ := lookIn_ns hns
  obtain ⟨u, hu, ru⟩ := RelO.some_of (v := v) (o := mA n) (by rw [← hl]; exact hr n)
  have J : PySem.W.InstAt s1.heap a _ C (some od) := ⟨hobj, rfl, rfl, ho⟩
  exact HandSPX.exc_get I1.kIn J T.ga T.gg T.exC (PySem.W.findObj_own T.hdC hno rfl (by rw [hlk, hu])) (handed_of ru) ⟨v, H1, I1.tok _, ru, q⟩
end
/-! a new object of the state is tracked -/
theorem Inv_track {X : Cx} {pins : List (Addr × Obj)} {σ : L2.St} {H : Hp} {s : Shared} {a : Addr} {o : HO} (I : Inv X pins σ H s) (na : H a = none) (h0 : X.s_0.heap.get? a = none) (hL : a ≠ X.env.locals) (hc : ∀ x c, X.env.cells.lookup x = some c → c ≠ a)
    (hp : ∀ p ∈ X.pn ++ pins, p.1 ≠ a) (ok : ObjOk X.prog X.w (upd H a o) s.heap a o) : Inv X pins σ (upd H a o) s := by
  have ne : ∀ {b u}, H b = some u → b ≠ a := fun {b u} e z => by
    rw [z, na] at e
    cases e
  refine ⟨I.ok, I.os, I.bare, ⟨I.base.keep, I.base.slot, fun b u e n hx => ?_, I.base.there, fun b xs e => ?_, fun b u v e => ?_, fun b ps e => ?_⟩, I.loc, I.cell, ?_, fun x c e => ?_, fun p h => ?_, fun b u e => ?_, I.len⟩
  · rw [upd_ne fun z => by rw [z, h0] at e; cases e]
    exact I.base.free b u e n hx
  · have q := I.base.tups b xs e
    rw [upd_ne (ne q)]
    exact q
  · have q := I.base.frzs b u v e
    rw [upd_ne (ne q)]
    exact q
  · obtain ⟨more, q⟩ := I.base.tbls b ps e
    exact ⟨more, by rw [upd_ne (ne q)]; exact q⟩
  · rw [upd_ne (Ne.symm hL)]
    exact I.free
  · rw [upd_ne (hc x c e)]
    exact I.freeC x c e
  · obtain ⟨q1, q2, q3, q4, q5⟩ := I.pin p h
    exact ⟨q1, by rw [upd_ne (hp p h)]; exact q2, q3, q4, q5⟩
  · by_cases hb : b = a
    · subst hb
      rw [upd_same] at e
      cases e
      exact ok
    · rw [upd_ne hb] at e
      exact (I.hok b u e).stay (fun c v _ q => q) (fun c hc => by rw [upd_ne (ne hc)]; exact hc) (fun c xs hc => by rw [upd_ne (ne hc)]; exact hc)
end Wl

/-! try .. except (A, B, C) as e, several clauses; the exception that was caught is tracked. -/
namespace Wl
open PySem PySem.Spec PyProof.Rows L2
theorem flying_keeps {B h h' : Heap} {l : List Env} {a : Addr} {Z : Obj → Prop} (fl : HandSPX.FlyingZ B l a Z h) (k : ∀ b o, h.get? b = some o → h'.get? b = some o) : HandSPX.FlyingZ B l a Z h' := by
  obtain ⟨f1, f2, f3, oe, vs, T, oT, ts, he, hz, hd, h1, hnT, hTe, hT, hdT, h3⟩ := fl
  exact ⟨fun b o e => k b o (f1 b o e), f2, f3.of_keeps fun b o e _ => ⟨o, k b o e, rfl⟩, oe, vs, T, oT, ts, k _ _ he, hz, hd, h1, hnT, hTe, k _ _ hT, hdT, h3⟩
theorem up_keeps {h h' : Heap} (k : ∀ b o, h.get? b = some o → h'.get? b = some o) : h.UpToSlots h' := Heap.UpToSlots.of_keeps k
/-- a clause's test: m tells of a class whether it is asked for -/
structure TestOk (X : Cx) (t : Expr) (m : Value → Option Bool) : Prop where
  run : ∀ (a : Addr) (pn pins : List (Addr × Obj)) (σ : L2.St) (H : Hp) (s : Shared) (cls : Value) (b : Bool) (Q : Bool → Shared → Prop) (E : Value → Shared → Prop), Inv (X.suite a pn) pins σ H s → m cls = some b →
    PySem.W.Looks (model X.prog X.w) s.heap (typeOf (.ref a)) cls → (∀ h' t', (∀ c o, s.heap.get? c = some o → h'.get? c = some o) → Q b { s with heap := h', toks := t' }) →
    wpAny (model X.prog X.w) (X.A.mark (some (.ref a))) (eval t X.env) (fun c s1 => wpAny (model X.prog X.w) (X.A.mark (some (.ref a))) (excMatches (.ref a) c) Q E s1) E s
theorem test_one {X : Cx} {x : Str} {c : Value} {np : Pos} (hc : Names X x c) : TestOk X (.Name x np) (fun cls => PySem.W.exmOne X.K cls c) := by
  refine ⟨fun a pn pins σ H s cls b Q E I hm LT q => ?_⟩
  have LM := PySem.W.exm_one (M := model X.prog X.w) I.kIn LT hm
  have go : wpAny (model X.prog X.w) (X.A.mark (some (.ref a))) (excMatches (.ref a) c) Q E s := LM.here (q s.heap s.toks fun _ _ z => z)
  obtain ⟨hg, hdbg, hg1 | ⟨hg1, hv, hnn⟩⟩ := hc
  · exact ld_glob (X := X.suite a pn) I hg hg1 go hdbg
  · exact ld_blt (X := X.suite a pn) I hg hg1 hv go hnn hdbg
theorem test_tup3 {X : Cx} {x1 x2 x3 : Str} {c1 c2 c3 : Value} {p1 p2 p3 tp : Pos} {k : Nat} (g1 : Gl X x1) (m1 : X.mg x1 = some c1) (g2 : Gl X x2) (m2 : X.mg x2 = some c2) (g3 : Gl X x3) (m3 : X.mg x3 = some c3)
    (d1 : (x1 == ("__debug__" : Str)) = false := by decide) (d2 : (x2 == ("__debug__" : Str)) = false := by decide) (d3 : (x3 == ("__debug__" : Str)) = false := by decide) :
    TestOk X (.Tuple [.Name x1 p1, .Name x2 p2, .Name x3 p3] k tp) (fun cls => PySem.W.exmAny X.K cls [c1, c2, c3]) := by
  refine ⟨fun a pn pins σ H s cls b Q E I hm LT q => ?_⟩
  refine wpAny_Tuple_spliced ?_
  show wpAny _ _ (spliced [(false, eval (.Name x1 p1) X.env), (false, eval (.Name x2 p2) X.env), (false, eval (.Name x3 p3) X.env)]) _ _ s
  refine Calls.spliced_cons (ld_glob (X := X.suite a pn) I g1 m1 ?_ d1)
  refine Calls.spliced_cons (ld_glob (X := X.suite a pn) I g2 m2 ?_ d2)
  refine Calls.spliced_cons (ld_glob (X := X.suite a pn) I g3 m3 ?_ d3)
  refine Calls.spliced_nil ⟨by show 3 ≤ sizeLine; decide, ?_⟩
  have kp : ∀ c o, s.heap.get? c = some o → (s.heap.push { cls := .type "tuple", data := .seq [c1, c2, c3].toArray }).get? c = some o := fun c o e => Heap.get?_push_of_some _ e
  have LM := PySem.W.exm_tup3 (M := model X.prog X.w) (I.kIn.keeps kp) (LT.keeps kp) (Heap.get?_push_size s.heap (o := { cls := .type "tuple", data := .seq [c1, c2, c3].toArray }) rfl) hm
  exact LM.here (q _ s.toks kp)
/-- what a suite does, the caught exception's address first -/
abbrev ClT := Addr → TS
/-- the clauses, one after the other; Wout: none of them asks for it -/
def wCls (Wout : WX) (D : Ends) : List ((Value → Option Bool) × ClT) → WX
  | [] => Wout
  | (m, ts) :: r => fun cls d σ H => ∃ b, m cls = some b ∧ (b = true → ∀ a, H a = none → ts a D σ (upd H a (exH a cls d))) ∧ (b = false → wCls Wout D r cls d σ H)
/-- .. as n, n in slot i: the name goes behind the suite -/
def tAs (i : Nat) (ts : ClT) : ClT := fun a D σ H => ts a { nx := fun σ' H' => D.nx (σ'.set i none) H', rt := D.rt, bk := fun σ' H' => D.bk (σ'.set i none) H', ct := fun σ' H' => D.ct (σ'.set i none) H' } (σ.set i (some (.ref a))) H
inductive HdsE (X : Cx) : List ExceptHandler → List ((Value → Option Bool) × ClT) → Prop
  | nil : HdsE X [] []
  | one {t : Expr} {m : Value → Option Bool} {ts : ClT} {b₀ : Stmt} {suite : List Stmt} {pos' : Pos} {hds : List ExceptHandler} {l : List ((Value → Option Bool) × ClT)} (ht : TestOk X t m)
      (hsu : ∀ (a : Addr) (pn : List (Addr × Obj)), PSs (X.suite a pn) (b₀ :: suite) (ts a)) (r : HdsE X hds l) : HdsE X (.ExceptHandler (some t) none (b₀ :: suite) pos' :: hds) ((m, ts) :: l)
  | as {t : Expr} {m : Value → Option Bool} {ts : ClT} {i : Nat} {n : Str} {b₀ : Stmt} {suite : List Stmt} {pos' : Pos} {hds : List ExceptHandler} {l : List ((Value → Option Bool) × ClT)} (hi : X.N[i]? = some n) (hln : X.env.kindOf n = some .local) (ht : TestOk X t m)
      (hsu : ∀ (a : Addr) (pn : List (Addr × Obj)), PSs (X.suite a pn) (b₀ :: suite) (ts a)) (r : HdsE X hds l) : HdsE X (.ExceptHandler (some t) (some n) (b₀ :: suite) pos' :: hds) ((m, tAs i ts) :: l)
section
variable {X : Cx} {pins : List (Addr × Obj)} {σ : L2.St} {H : Hp} {s : Shared}
theorem inv_suite {a : Addr} (I : Inv X pins σ H s) : Inv (X.suite a (X.pn ++ pins)) [] σ H s :=
  ⟨I.ok.suite _ _, I.os, I.bare, I.base, I.loc, I.cell, I.free, I.freeC, fun p hp => I.pin p (by rw [List.append_nil] at hp; exact hp), I.hok, I.len⟩
theorem inv_unsuite {a : Addr} {q : List (Addr × Obj)} (I : Inv (X.suite a (X.pn ++ pins)) q σ H s) (ok : X.Ok) : Inv X pins σ H s :=
  ⟨ok, I.os, I.bare, I.base, I.loc, I.cell, I.free, I.freeC, fun p hp => I.pin p (List.mem_append_left _ hp), I.hok, I.len⟩
end
section
variable {X : Cx} {body : List Stmt} {h₀ : ExceptHandler} {hds : List ExceptHandler} {l : List ((Value → Option Bool) × ClT)} {pos : Pos} {tb : WX → TS} {Wout : WX}
theorem ps_tryE (hs : X.stack = X.env :: X.outer) (hf : X.env.frame = some X.env.locals) (hex : X.ex = []) (hN : X.N.Nodup) (tk : L2N.Takes X Wout)
    (hb : ∀ (W : WX) (pn : List (Addr × Obj)) (xe : Value → Shared → Prop), L2N.Takes (X.tr pn xe) W → PassesOwn (model X.prog X.w) X.A X.env xe → PSs (X.tr pn xe) body (tb W))
    (hh : HdsE X (h₀ :: hds) l) : PS X (.Try body (h₀ :: hds) [] [] pos) (fun D σ H => tb (wCls Wout D l) D σ H) := by
  constructor
  intro pins s σ H D I h
  have ok := I.ok
  have hfr : X.A.frames = some (X.env :: X.outer) := by rw [ok.frames, hs]
  refine wpAny_Try_except ?_
  refine wpAny_mono ((hb (wCls Wout D l) (X.pn ++ pins) (fun e sa => wpAny (model X.prog X.w) X.A (noteFrame e X.env) (fun _ sb => wpAny (model X.prog X.w) X.A (setFlight e none) (fun _ sc =>
    wpAny (model X.prog X.w) X.A (handleBy e X.env (h₀ :: hds)) (SP X pins D) X.xe sc) X.xe sb) X.xe sa) (fun u s' xx => ?_) PassesOwn.looking).run [] s σ H D (I.toTry _) h) (fun f s1 hsp => ?_) (fun e s1 he => he)
  · obtain ⟨a, B, sI, pq, σ1, H1, cls, d, rfl, J', nb, up, sky, na, os, ag, wq⟩ := xx
    have J : Inv X pins σ1 H1 sI := J'.ofTry ok
    have sky' : Sky B (X.env :: X.outer) a (L2N.Zn cls d) X.env.locals s'.heap := by rw [← hs]; exact sky
    show wpAny (model X.prog X.w) X.A (noteFrame (.ref a) X.env) _ _ _
    refine L2N.Sky.land L2N.Zn.steady hfr hf sky' fun h3 fl3 up3 => ?_
    -- what holds of any state behind the landing
    have nfr : ∀ {hx : Heap}, HandSPX.FlyingZ B (X.env :: X.outer) a (L2N.Zn cls d) hx → a ∉ frs (X.env :: X.outer) := fun {hx} fl hm => by
      obtain ⟨oe, vs, he, _, hd⟩ := fl.there
      obtain ⟨_, o', e', hnf⟩ := fl.2.2.1.mem hm
      rw [he] at e'
      cases e'
      exact hnf _ hd
    have naI : sI.heap.get? a = none := by
      cases q : sI.heap.get? a with
      | none => rfl
      | some o =>
        have z := nb a o q (by rw [hs]; exact nfr fl3)
        rw [fl3.2.1] at z
        cases z
    have na0 : X.s_0.heap.get? a = none := by
      cases q : X.s_0.heap.get? a with
      | none => rfl
      | some o =>
        obtain ⟨o', z⟩ := J.base.there a o q (by rw [hex]; simp)
        rw [naI] at z
        cases z
    have nL : a ≠ X.env.locals := fun z => nfr fl3 (List.mem_filterMap.mpr ⟨X.env, List.mem_cons_self, by rw [hf, z]⟩)
    -- the clauses, one by one, over a heap that holds the landed one
    have go : ∀ {hds' : List ExceptHandler} {l' : List ((Value → Option Bool) × ClT)}, HdsE X hds' l' → wCls Wout D l' cls d σ1 H1 → ∀ (h5 : Heap) (t5 : Nat), (∀ b o, h3.get? b = some o → h5.get? b = some o) →
        wpAny (model X.prog X.w) X.A (handleBy (.ref a) X.env hds') (SP X pins D) X.xe { s' with heap := h5, toks := t5 } := by
      intro hds' l' hk
      induction hk with
      | nil =>
        intro wq h5 t5 k5
        have fl5 := flying_keeps fl3 k5
        refine wpAny_handleBy_nil ?_
        obtain ⟨k1, k2, k3, oe, vs, T, oT, ts', he, hz, hd, h1, hr⟩ := id fl5
        unfold PySem.passOn
        refine wpAny_bind (wpAny_field he hd h1 ?_)
        rw [if_neg (show ¬ ((Value.ref T == Value.none) = true) from by simp)]
        have fin : wpAny (model X.prog X.w) X.A (setFlight (.ref a) X.env.frame) (fun _ s4 => wpAny (model X.prog X.w) X.A (throw (.ref a) : Sem Flow) (SP X pins D) X.xe s4) X.xe { s' with heap := h5, toks := t5 } := by
          rw [hf]
          refine HandSPX.setFlight_upZ fl5 fun h4 hh4 up4 => wpAny_throw (tk _ _ ?_)
          exact ⟨a, B, sI, pins, σ1, H1, cls, d, rfl, J, nb, ((up.trans up3).trans (up_keeps k5)).trans up4, .inr (.inr (by rw [hs]; exact hh4)), na, os, ag, wq⟩
        first
          | exact wpAny_bind (wpAny_pure (wpAny_bind fin))
          | exact wpAny_bind fin
      | @one t m ts b₀ suite pos' hds2 l2 ht hsu r ih =>
        intro wq h5 t5 k5
        obtain ⟨b, hb1, hyes, hno⟩ := wq
        have fl5 := flying_keeps fl3 k5
        have J5 : Inv X pins σ1 H1 { s' with heap := h5, toks := t5 } := (J.landed (s' := { s' with heap := h5, toks := t5 }) nb fl5.1 ((up.trans up3).trans (up_keeps k5)) os ag)
        obtain ⟨oe5, vs5, he5, hz5, hd5⟩ := fl5.there
        have LT : PySem.W.Looks (model X.prog X.w) h5 (typeOf (.ref a)) cls := fun A Q E s k q => wpAny_typeOf_ref (k _ _ he5) (by rw [hz5.1]; exact q)
        refine wpAny_handleBy_cons (codeAny_handlers_test (ht.run a (X.pn ++ pins) [] σ1 H1 { s' with heap := h5, toks := t5 } cls b _ _ (inv_suite J5) hb1 LT fun h6 t6 k6 => ?_)) (by intro q; cases q)
        cases b with
        | false =>
          show wpAny _ X.A (handleBy (.ref a) X.env hds2) _ _ _
          exact ih (hno rfl) h6 t6 fun c o e => k6 c o (k5 c o e)
        | true =>
          have fl6 := flying_keeps fl5 k6
          refine codeAny_handlers_suite ?_
          refine HandSPX.lands_againZ fl6 fun h7 fl7 up7 => ?_
          have J7 : Inv X pins σ1 H1 { s' with heap := h7, toks := t6 } := J.landed (s' := { s' with heap := h7, toks := t6 }) nb fl7.1 ((((up.trans up3).trans (up_keeps k5)).trans (up_keeps k6)).trans up7) os ag
          obtain ⟨oe7, vs7, he7, hz7, hd7⟩ := fl7.there
          have T7 : Inv X pins σ1 (upd H1 a (exH a cls d)) { s' with heap := h7, toks := t6 } := Inv_track J7 na na0 nL (fun x c e z => by
              obtain ⟨v, o, ho, hdat⟩ := J7.cell x c e
              have ho : h7.get? c = some o := ho
              rw [z, he7] at ho
              cases ho
              rw [hd7] at hdat
              cases hdat) (fun p hp z => by
              have q := (J.pin p hp).1
              rw [z, naI] at q
              cases q) (exH_ok he7 hz7 hd7)
          refine wpAny_mono ((hsu a (X.pn ++ pins)).run [] _ _ _ D (inv_suite T7) (hyes rfl a na)) (fun f s8 hsp => ?_) (fun _ _ z => False.elim z)
          cases f with
          | next =>
            obtain ⟨σ8, H8, S8, q8⟩ := hsp
            exact ⟨_, _, inv_unsuite S8 ok, q8⟩
          | brk =>
            obtain ⟨σ8, H8, S8, q8⟩ := hsp
            exact ⟨_, _, inv_unsuite S8 ok, q8⟩
          | cont =>
            obtain ⟨σ8, H8, S8, q8⟩ := hsp
            exact ⟨_, _, inv_unsuite S8 ok, q8⟩
          | ret u =>
            obtain ⟨v8, σ8, H8, S8, r8, q8⟩ := hsp
            exact ⟨_, _, _, inv_unsuite S8 ok, r8, q8⟩
      | @as t m ts i n b₀ suite pos' hds2 l2 hi hln ht hsu r ih =>
        intro wq h5 t5 k5
        obtain ⟨b, hb1, hyes, hno⟩ := wq
        have fl5 := flying_keeps fl3 k5
        have J5 : Inv X pins σ1 H1 { s' with heap := h5, toks := t5 } := (J.landed (s' := { s' with heap := h5, toks := t5 }) nb fl5.1 ((up.trans up3).trans (up_keeps k5)) os ag)
        obtain ⟨oe5, vs5, he5, hz5, hd5⟩ := fl5.there
        have LT : PySem.W.Looks (model X.prog X.w) h5 (typeOf (.ref a)) cls := fun A Q E s k q => wpAny_typeOf_ref (k _ _ he5) (by rw [hz5.1]; exact q)
        refine wpAny_handleBy_cons (codeAny_handlers_test (ht.run a (X.pn ++ pins) [] σ1 H1 { s' with heap := h5, toks := t5 } cls b _ _ (inv_suite J5) hb1 LT fun h6 t6 k6 => ?_)) (by intro q; cases q)
        cases b with
        | false =>
          show wpAny _ X.A (handleBy (.ref a) X.env hds2) _ _ _
          exact ih (hno rfl) h6 t6 fun c o e => k6 c o (k5 c o e)
        | true =>
          have fl6 := flying_keeps fl5 k6
          refine codeAny_handlers_suite_as ?_
          refine HandSPX.lands_againZ fl6 fun h7 fl7 up7 => ?_
          have J7 : Inv X pins σ1 H1 { s' with heap := h7, toks := t6 } := J.landed (s' := { s' with heap := h7, toks := t6 }) nb fl7.1 ((((up.trans up3).trans (up_keeps k5)).trans (up_keeps k6)).trans up7) os ag
          obtain ⟨oe7, vs7, he7, hz7, hd7⟩ := fl7.there
          have T7 : Inv X pins σ1 (upd H1 a (exH a cls d)) { s' with heap := h7, toks := t6 } := Inv_track J7 na na0 nL (fun x c e z => by
              obtain ⟨v, o, ho, hdat⟩ := J7.cell x c e
              have ho : h7.get? c = some o := ho
              rw [z, he7] at ho
              cases ho
              rw [hd7] at hdat
              cases hdat) (fun p hp z => by
              have q := (J.pin p hp).1
              rw [z, naI] at q
              cases q) (exH_ok he7 hz7 hd7)
          refine store_ok (X := X.suite a (X.pn ++ pins)) (v := .ref a) (inv_suite T7) hN hi (.inl hln) rfl (fun s5 S5 => ?_) (.inr hln)
          refine wpAny_mono ((hsu a (X.pn ++ pins)).run [] s5 _ _ _ S5 (hyes rfl a na)) (fun f s8 hsp => ?_) (fun _ _ z => False.elim z)
          have end_ : ∀ {σ6 : L2.St} {H6 : Hp} {Q : Shared → Prop}, Inv (X.suite a (X.pn ++ pins)) [] σ6 H6 s8 → (∀ s7, Inv X pins (σ6.set i none) H6 s7 → Q s7) →
              wpAny (model X.prog X.w) X.A (do bindName X.env n .none; unbindBehindTheSuite X.env n pos') (fun _ s7 => Q s7) X.xe s8 := fun {σ6 H6 Q} S6 hq => gone_ok (inv_unsuite S6 ok) hN hi hln hq
          cases f with
          | next =>
            obtain ⟨σ8, H8, S8, q8⟩ := hsp
            exact end_ S8 fun s9 J9 => ⟨_, _, J9, q8⟩
          | brk =>
            obtain ⟨σ8, H8, S8, q8⟩ := hsp
            exact end_ S8 fun s9 J9 => ⟨_, _, J9, q8⟩
          | cont =>
            obtain ⟨σ8, H8, S8, q8⟩ := hsp
            exact end_ S8 fun s9 J9 => ⟨_, _, J9, q8⟩
          | ret u =>
            obtain ⟨v8, σ8, H8, S8, r8, q8⟩ := hsp
            exact end_ S8 fun s9 J9 => ⟨_, _, _, J9, r8, q8⟩
    exact go hh wq h3 s'.toks fun _ _ z => z
  · cases f with
    | next =>
      obtain ⟨σ', H', J', q⟩ := hsp
      exact wpAny_execs_nil ⟨σ', H', J'.ofTry ok, q⟩
    | brk =>
      obtain ⟨σ', H', J', q⟩ := hsp
      exact ⟨σ', H', J'.ofTry ok, q⟩
    | cont =>
      obtain ⟨σ', H', J', q⟩ := hsp
      exact ⟨σ', H', J'.ofTry ok, q⟩
    | ret u =>
      obtain ⟨v, σ', H', J', r, q⟩ := hsp
      exact ⟨v, σ', H', J'.ofTry ok, r, q⟩
theorem takes_noN {X : Cx} : L2N.Takes X (fun _ _ _ _ => False) := fun _ _ ⟨_, _, _, _, _, _, _, _, _, _, _, _, _, _, _, _, z⟩ => z.elim
end
end Wl

/-! Own exceptions over ValueError, LookupError or ArithmeticError, whose __init__ stores its one argument under its own name; raised. -/
namespace Wl
open PySem PySem.Spec PyProof.Rows L2
/-- a built-in base of an own exception -/
structure BaseX (B newId initId : String) (bm : List Value) : Prop where
  base : ExcBaseFacts B newId initId bm
  store : StoreFacts B bm "object.__setattr__" "object"
theorem baseVE : BaseX "ValueError" "ValueError.__new__" "ValueError.__init__" [.type "ValueError", .type "Exception", .type "BaseException", .type "object"] := ⟨F.excBase_ValueError, F.store_ValueError⟩
theorem baseLE : BaseX "LookupError" "LookupError.__new__" "LookupError.__init__" [.type "LookupError", .type "Exception", .type "BaseException", .type "object"] := ⟨F.excBase_LookupError, F.store_LookupError⟩
theorem baseAE : BaseX "ArithmeticError" "ArithmeticError.__new__" "ArithmeticError.__init__" [.type "ArithmeticError", .type "Exception", .type "BaseException", .type "object"] := ⟨F.excBase_ArithmeticError, F.store_ArithmeticError⟩
/-- the first store into an exception -/
theorem osa_first {prog : Program} {w : World} {A : Around} {R : Result → Shared → Prop} {hp : Heap} {g : Array GenState} {d : Drawn} {t : Nat} {os : OsState} {K : PySem.W.Frag} {name : Str} {tk : Tok} {v : Value} {x C : Addr} {fv : Array Value} {B newId initId : String} {bm : List Value}
    (BX : BaseX B newId initId bm) (X : K.In hp) (hx : hp.get? x = some { cls := .ref C, data := .fields fv }) (ho : PySem.W.excOver K C bm = true) (hh : PySem.W.hasDictIn K C = true) (ht : PySem.W.takerIn K C name = some none)
    (hq : ∀ h' tk' dx, (∀ b o, b ≠ x → hp.get? b = some o → h'.get? b = some o) → hp.objs.size ≤ dx → dx ≠ x → h'.get? x = some { cls := .ref C, dict := some dx, data := .fields fv } →
      h'.Ns1 dx (fun y => if y = name then some v else none) → R (.ok (.ret .none)) ⟨h', g, d, tk', os⟩) :
    codeAny (model prog w) A (.call (.builtin "object.__setattr__") ⟨[.ref x, .str name tk, v], []⟩) R ⟨hp, g, d, t, os⟩ := by
  have hxs : x ≠ hp.objs.size := Nat.ne_of_lt (Heap.lt_size hx)
  obtain ⟨cd, hc, hd⟩ := PySem.W.any_some hh
  have hcls : PySem.W.Looks (model prog w) hp (classData C) cd := PySem.W.looks_clsIn X hc
  refine PySem.W.osa_openX (s := ⟨hp, g, d, t, os⟩) (od := none) BX.store X ⟨hx, rfl, rfl, trivial⟩ ho ht fun b => ?_
  show wpAny _ _ (Builtin.ObjectAttr.storeInOwnDict (.ref x) (.ref C) (.str name tk) name v b) _ _ _
  obtain ⟨nm, bs, mro, ns, qn, hdd, sn, sb, ab, col, del⟩ := cd
  dsimp only at hd
  subst hd
  unfold Builtin.ObjectAttr.storeInOwnDict Builtin.ObjectAttr.ownDictForStores
  repeat (first | with_reducible refine PySem.HandSPX.store_in_new ?_ ?_ | with_reducible refine wpAny_loadPart_at hx ?_ | with_reducible refine hcls.at ?_ | wp_step)
  · exact ⟨_, #[], _, (Heap.get?_update_ne _ _ _ _ hxs.symm).trans (Heap.get?_push_at rfl rfl), rfl, fun e he => absurd he (by simp), fun _ => rfl⟩
  · intro h' tk' hn' hs
    have h1 : (hp.push { cls := .type "dict", data := .dict #[] }).get? x = some { cls := .ref C, data := .fields fv } := Heap.get?_push_of_some _ hx
    refine hq h' tk' hp.objs.size (fun b o hb ho => ?_) (Nat.le_refl _) hxs.symm ?_ hn'
    · exact (hs.2 b (Nat.ne_of_lt (Heap.lt_size ho))).trans ((Heap.get?_update_ne _ _ _ _ hb).trans (Heap.get?_push_of_some _ ho))
    · exact (hs.2 x hxs).trans (Heap.get?_update_self _ h1 rfl)
/-- what the written part says of the own exception class x, at C, whose __init__ (self, f) stores f -/
structure OwnX (K : PySem.W.Frag) (mg : Str → Option Value) (x f : Str) (C : Addr) : Prop where
  gC : mg x = some (.ref C)
  kC : PySem.W.keepIn K (.ref C) = true
  bas : ∃ B newId initId bm, BaseX B newId initId bm ∧ PySem.W.excInitIn K C bm newId = true ∧ PySem.W.excOver K C bm = true
  sa : PySem.W.findIn K (.ref C) "__setattr__" = some (some (.builtin "object.__setattr__"))
  tk : PySem.W.takerIn K C f = some none
  no : PySem.W.findIn K (.ref C) f = some none
  exC : PySem.W.subIn K (.ref C) (.type "BaseException") = some true
  tyC : PySem.W.typeIn K (.ref C) = some (.type "type")
  hdC : PySem.W.hasDictIn K C = true
  ini : ∃ (fI : Addr) (fd : FuncData) (q : Str) (st : Stmt) (q1 q2 q3 q4 : Pos), PySem.W.findIn K (.ref C) "__init__" = some (some (.ref fI)) ∧ PySem.W.typeIn K (.ref fI) = some (.type "function") ∧ Fun K "__init__" q st fI fd ∧
    Binds K fd ["self", f] [] ∧ FnScope ["self", f] ["self", f] (defScope st) ∧ (∀ y ∈ (["self", f] : List Str), (defScope st).names.lookup y = some .local) ∧ defBody st = [.Assign [.Attribute (.Name "self" q1) f q2] (.Name f q3) q4]
/-- what __init__ leaves of a fresh exception at x -/
structure InitDone (h h' : Heap) (x C dx t1 : Addr) (f : Str) (v : Value) : Prop where
  keep : ∀ b o, b ≠ x → h.get? b = some o → h'.get? b = some o
  obj : h'.get? x = some { cls := .ref C, dict := some dx, data := .fields #[.ref t1, .none, .none, .none, .bool false, .none] }
  dbig : h.objs.size ≤ dx
  dne : dx ≠ x
  ns : h'.Ns1 dx (fun y => if y = f then some v else none)
/-- a made one -/
structure MadeX (h h' : Heap) (e C d : Addr) (f : Str) (v : Value) : Prop where
  keep : ∀ b o, h.get? b = some o → h'.get? b = some o
  new : h.objs.size ≤ e
  obj : ∃ vs, h'.get? e = some { cls := .ref C, dict := some d, data := .fields vs } ∧ vs[1]? = some .none ∧ vs[2]? = some .none
  dbig : h.objs.size ≤ d
  dne : d ≠ e
  ns : h'.Ns1 d (fun y => if y = f then some v else none)
theorem one_line (v : Value) : [v].length ≤ sizeLine := by
  show 1 ≤ sizeLine
  decide
section
variable {prog : Program} {w : World} {A : Around} {R : Result → Shared → Prop} {s : Shared} {K : PySem.W.Frag} {mg : Str → Option Value} {x f : Str} {C : Addr}
theorem own_init (T : OwnX K mg x f C) (nf : f ≠ "self") (ndb : (f == ("__debug__" : Str)) = false) {e t0 fI : Addr} {v : Value} (hfI : PySem.W.findIn K (.ref C) "__init__" = some (some (.ref fI))) (X : K.In s.heap) (hlim : s.heap.NoLimit) (hx : s.heap.get? e = some (HandSPX.excO C t0)) (hnx : K.lookup e = none) (hroom : A.depth < recursionLimit)
    (hq : ∀ h' tk dx, InitDone s.heap h' e C dx t0 f v → R (.ok (.ret .none)) { s with heap := h', toks := tk }) : codeAny (model prog w) A (.call (.ref fI) ⟨[.ref e, v], []⟩) R s := by
  obtain ⟨f2, fd, q, st, q1, q2, q3, q4, hf2, tI, hF, hB, hS, hL, hbody⟩ := T.ini
  obtain rfl : f2 = fI := by
    rw [hfI] at hf2
    cases hf2
    rfl
  obtain ⟨oc, od, kV, doc, pm, an, cdv, ct, osl, rfl, lk, hcd⟩ := hF.ex
  obtain ⟨B, newId, initId, bm, BX, _, hov⟩ := T.bas
  have hb := hB s [.ref e, v] X rfl
  have hb : BindsTo s (PySem.W.fnOf "__init__" q (defArgs st) (defBody st) (defScope st) .none kV doc pm an cdv ct) ⟨[.ref e, v], []⟩ [("self", .ref e), (f, v)] := hb
  refine Att.call_fn (binds := [("self", .ref e), (f, v)]) X hlim lk hcd hroom hb ?_ (fun s₁ IC => ?_) hS.co hS.gen hS.kind
  · simp only [List.all_cons, List.all_nil, Bool.and_true]
    rw [hL "self" (by simp), hL f (by simp)]
    rfl
  obtain ⟨h₁, tk₁, rfl⟩ := IC.toInCall.same
  have k : ∀ b o, s.heap.get? b = some o → h₁.get? b = some o := IC.toInCall.keep
  have hn := IC.toInCall.ns
  have X₁ : K.In h₁ := X.keeps k
  have hx₁ := k _ _ hx
  have kself : (envOfC q (defScope st) s.heap.objs.size f2 cdv).kindOf "self" = some .local := hL "self" (by simp)
  have kf : (envOfC q (defScope st) s.heap.objs.size f2 cdv).kindOf f = some .local := hL f (by simp)
  have m1 : bindL (envOfC q (defScope st) s.heap.objs.size f2 cdv).kindOf [("self", .ref e), (f, v)] (fun _ => none) "self" = some (.ref e) := bindL_get (P := ["self", f]) (vs := [.ref e, v]) (i := 0) hS.nd rfl rfl kself
  have m2 : bindL (envOfC q (defScope st) s.heap.objs.size f2 cdv).kindOf [("self", .ref e), (f, v)] (fun _ => none) f = some v := bindL_get (P := ["self", f]) (vs := [.ref e, v]) (i := 1) hS.nd rfl rfl kf
  rw [hbody]
  show wpAny _ _ (execs _ _) _ _ _
  refine wpAny_execs_cons (plainObj_wpAny_Assign_Attribute ?_)
  refine wpAny_Name (wpAny_loadName_local hS.kind kf hn m2 ?_) ndb
  refine wpAny_Name (wpAny_loadName_local hS.kind kself hn m1 ?_) (by decide)
  refine PySem.W.set_plain X₁ (ox := HandSPX.excO C t0) (od := none) ⟨hx₁, rfl, rfl, trivial⟩ T.sa ?_
  refine osa_first BX X₁ hx₁ hov T.hdC T.tk (fun h₃ tk₃ dx k₃ dn dne hx₃ hn₃ => ?_)
  show wpAny _ _ (execs _ _) _ _ _
  have z : s.heap.objs.size < h₁.objs.size := hn.lt
  exact wpAny_execs_nil (hq h₃ tk₃ dx ⟨fun b o hb e => k₃ b o hb (k b o e), hx₃, Nat.le_of_lt (Nat.lt_of_lt_of_le z dn), dne, hn₃⟩)
theorem own_made (T : OwnX K mg x f C) (nf : f ≠ "self") (ndb : (f == ("__debug__" : Str)) = false) {v : Value} (X : K.In s.heap) (hlim : s.heap.NoLimit) (hroom : A.depth + 1 < recursionLimit)
    (hq : ∀ h' tk e d, MadeX s.heap h' e C d f v → R (.ok (.ret (.ref e))) { s with heap := h', toks := tk }) : codeAny (model prog w) A (.call (.ref C) ⟨[v], []⟩) R s := by
  obtain ⟨B, newId, initId, bm, BX, hini, hov⟩ := T.bas
  obtain ⟨nm, N', qn, bs, bmC, hdct, sn, sub, ab, col, dd, k0, k1, k2, k3, k5, hC, hT⟩ := PySem.W.excInit_of X hini
  obtain ⟨fI, _, _, _, _, _, _, _, hfI, tI, _⟩ := T.ini
  obtain ⟨hp, g, dr, tk, os⟩ := s
  have k : ∀ b o, hp.get? b = some o → ((hp.push (PySem.W.kdv_tup [v])).push (HandSPX.excO C hp.objs.size)).get? b = some o := fun b o e => Heap.get?_push_of_some _ (Heap.get?_push_of_some _ e)
  have hget : ((hp.push (PySem.W.kdv_tup [v])).push (HandSPX.excO C hp.objs.size)).get? (hp.objs.size + 1) = some (HandSPX.excO C hp.objs.size) := by heap_get
  have hnx : K.lookup (hp.objs.size + 1) = none := by
    cases e : K.lookup (hp.objs.size + 1) with
    | none => rfl
    | some o =>
      have z : hp.get? (hp.objs.size + 1) = some o := X _ _ e
      exact absurd (Nat.lt_of_succ_lt (Heap.lt_size z)) (Nat.lt_irrefl _)
  refine HandSPX.call_own BX.base hT hC (PySem.W.looks_findIn X hfI) (fun self => PySem.W.bind_fn X self tI) (one_line v) ?_
  refine own_init (s := ⟨(hp.push (PySem.W.kdv_tup [v])).push (HandSPX.excO C hp.objs.size), g, dr, tk, os⟩) T nf ndb hfI (X.keeps k) (hlim.keeps k) hget hnx ?_ fun h' tk' dx hD => ?_
  · show A.depth + 1 < recursionLimit
    exact hroom
  · obtain ⟨k', hx, dn, dne, hns⟩ := hD
    have old : ∀ b o, hp.get? b = some o → h'.get? b = some o := fun b o e => k' b o (Nat.ne_of_lt (Nat.lt_succ_of_lt (Heap.lt_size e))) (k b o e)
    have z : hp.objs.size + 1 + 1 ≤ dx := by
      have q := dn
      rw [Heap.size_push, Heap.size_push] at q
      exact q
    exact ⟨rfl, hq h' tk' (hp.objs.size + 1) dx ⟨old, Nat.le_succ _, ⟨_, hx, rfl, rfl⟩, Nat.le_trans (Nat.le_trans (Nat.le_succ _) (Nat.le_succ _)) z, dne, hns⟩⟩
end
theorem relO_one {v : V} {u : Value} (r : RelV v u) (f g : Str) : RelO (List.lookup g [(f, v)]) (if g = f then some u else none) := by
  by_cases h : g = f
  · subst h
    rw [if_pos rfl]
    have q : List.lookup g [(g, v)] = some v := by simp [List.lookup]
    rw [q]
    exact r
  · rw [if_neg h]
    have qw : (g == f) = false := by simpa using h
    have q : List.lookup g [(f, v)] = none := by simp [List.lookup, qw]
    rw [q]
    trivial
section
variable {X : Cx} {C : Addr}
/-- x(e) -/
def tMkX (C : Addr) (f : Str) (ta : TA) : L2.St → Hp → XK → Prop := fun σ H Q => ta σ H fun vs H1 => ∃ v, vs = [v] ∧ ∀ d, H1 d = none → Q (.ref C) (some d) (upd H1 d (.xd [(f, v)]))
theorem pmk_x {x f : Str} {a : Expr} {ta : TA} {p pos : Pos} {k : Nat} (T : OwnX X.K X.mg x f C) (hr : Room k X.A) (ha : PA X [a] ta) (nf : f ≠ "self" := by decide) (ndb : (f == ("__debug__" : Str)) = false := by decide) (hg : Gl X x := by rfl) (hdb : (x == ("__debug__" : Str)) = false := by decide)
    (he : starEach (a :: []) X.env = (false, eval a X.env) :: starEach [] X.env := by rfl) (hpl : (backTo pos (starEach [] X.env)).any (·.1) = false := by rfl) :
    L2N.PMk X (.Call (.Name x p) [a] [] pos) (tMkX C f ta) := by
  intro pins s σ H Q I h
  refine wpAny_Call_Name_kw (ld_glob I hg T.gC ?_ hdb)
  refine PySem.W.callWith_K (h₀ := X.base) I.ok.mod.kin T.kC (thn (ha.run pos pins s σ H _ I h) fun us s1 hh => ?_) he hpl
  obtain ⟨vs, H1, I1, r1, v, ev, q1⟩ := hh
  subst ev
  refine ⟨I1.kIn, ?_⟩
  cases r1 with
  | cons rv rn =>
    rename_i v' us'
    cases rn
    show wpAny _ _ (call (.ref C) [v']) _ _ _
    have hlim := I1.nolimit
    obtain ⟨hp, g, dr, tk, os⟩ := s1
    refine wpAny_call (own_made T nf ndb I1.kIn hlim (by have := hr.dp; omega) fun h' tk' e d M => ?_)
    show L2N.MkP X pins σ Q (.ref e) ⟨h', g, dr, tk', os⟩
    obtain ⟨fv, hoe, h1, h2⟩ := M.obj
    have hns := M.ns
    obtain ⟨G', g1, g2⟩ := restrict h' fun b => decide (b ≠ e)
    have gk : ∀ b, b ≠ e → G'.get? b = h'.get? b := fun b hb => g1 b (decide_eq_true hb)
    have ge : G'.get? e = none := g2 e (by simp)
    have old : ∀ b o, hp.get? b = some o → G'.get? b = some o := fun b o q => (gk b (Nat.ne_of_lt (Nat.lt_of_lt_of_le (Heap.lt_size q) M.new))).trans (M.keep b o q)
    have ob : ObjOk X.prog X.w (upd H1 d (.xd [(f, v)])) G' d (.xd [(f, v)]) := ⟨_, hns.at (fun o q => (gk d M.dne).trans q), fun y => relO_one rv f y⟩
    have J : Inv X pins σ (upd H1 d (.xd [(f, v)])) ⟨G', g, dr, tk', os⟩ := I1.laid (t' := tk') old M.dbig ob
    refine ⟨e, _, fv, ⟨G', g, dr, tk', os⟩, _, .ref C, some d, rfl, J, fun b o q => ?_, ge, hoe, ⟨rfl, rfl, fun vs q => ?_⟩, rfl, h1, ?_, rfl, I1.bare, raises_own T.exC T.tyC, q1 d (I1.hok.fresh M.dbig)⟩
    · by_cases hb : b = e
      · have q' : G'.get? b = some o := q
        rw [hb, ge] at q'
        cases q'
      · exact (gk b hb).symm.trans q
    · obtain rfl : fv = vs := Data.fields.inj q
      exact h2
    · rw [upd_ne (Ne.symm M.dne)]
      exact I1.hok.fresh M.new
theorem ps_raiseX {x f : Str} {a : Expr} {ta : TA} {W : WX} {p pos pos2 : Pos} {k : Nat} (hc : X.calm = true) (T : OwnX X.K X.mg x f C) (hr : Room k X.A) (tk : L2N.Takes X W) (ha : PA X [a] ta) (nf : f ≠ "self" := by decide) (ndb : (f == ("__debug__" : Str)) = false := by decide) (hg : Gl X x := by rfl)
    (hdb : (x == ("__debug__" : Str)) = false := by decide) (he : starEach (a :: []) X.env = (false, eval a X.env) :: starEach [] X.env := by rfl) (hpl : (backTo pos (starEach [] X.env)).any (·.1) = false := by rfl) :
    PS X (.Raise (some (.Call (.Name x p) [a] [] pos)) none pos2) (fun _ σ H => tMkX C f ta σ H fun cls d H' => W cls d σ H') := L2N.ps_raise hc tk (pmk_x T hr ha nf ndb hg hdb he hpl)
end
end Wl

/-! Where an exception is being handled: defs called, comprehensions over range. -/
namespace Wl
open PySem PySem.Spec PyProof.Rows L2
/-- what is handled stands at a, tracked -/
def HotH (a : Addr) (H : Hp) : Prop := ∃ cls d, H a = some (exH a cls d)
theorem HotH.same {a : Addr} {H H' : Hp} (h : HotH a H) (s : Same H H') : HotH a H' := by
  obtain ⟨cls, d, e⟩ := h
  exact ⟨cls, d, s _ _ e⟩
/-- a def called there, its promise -/
structure FnT (P : Program) (w : World) (K : PySem.W.Frag) (mg : Str → Option Value) (base : Heap) (CX : CXT) (k : Nat) (f : Addr) (fd : FuncData) (ps : List Str) (sp : Addr → Sp) : Prop where
  len : ∀ a vs H Q E, sp a vs H Q E → vs.length = ps.length
  run : ∀ (A : Around) (outer : List Env) (s : Shared) (H : Hp) (args : Args) (us : List Value) (vs : List V) (Q : VK) (E : XK) (a : Addr), L2H.RoomH k A → A.handled = some (.ref a) → HotH a H → Env0 P w K mg base A outer s H → BindsTo s fd args (ps.zip us) → Vals vs us → sp a vs H Q E →
    codeAny (model P w) A (.call (.ref f) args) (CR CX outer P w H s Q E) s
/-- the body's context -/
def cxT (CX : CXT) (P : Program) (w : World) (K : PySem.W.Frag) (mg : Str → Option Value) (base : Heap) (N : List Str) (qual : Str) (scope : Scope) (f : Addr) (cd : Value) (A : Around) (outer : List Env) (s : Shared) (H : Hp) (E : XK) : Cx :=
  { cxOf CX P w K mg base N qual scope f cd A outer s H E with calm := false }
section
variable {P : Program} {w : World} {K : PySem.W.Frag} {mg : Str → Option Value} {base : Heap} {CX : CXT}
theorem inv_startT {N ps : List Str} {qual : Str} {scope : Scope} {f : Addr} {cd : Value} {A : Around} {outer : List Env} {s s1 : Shared} {H : Hp} {E : XK} {us : List Value} {vs : List V} (S : FnScope N ps scope) (e0 : Env0 P w K mg base A outer s H) (hl : vs.length = ps.length) (r : Vals vs us)
    (x : InCallC s s.heap.objs.size (bindL (envOfC qual scope s.heap.objs.size f cd).kindOf (ps.zip us) fun _ => none) (cellsFrom (s.heap.objs.size + 1) scope.names []) (bindC (envOfC qual scope s.heap.objs.size f cd).kindOf (ps.zip us) fun _ => none) s1) :
    Inv (cxT CX P w K mg base N qual scope f cd A outer s H E) [] (L2.start N vs) H s1 := by
  obtain ⟨oG, es, ep, hG, hd, _⟩ := e0.mod.glob
  have b0 := e0.bs _ _ hG
  have pin : L2H.PinOk outer H s (mainGlobals, oG) := ⟨b0.1, b0.2, fun hm => (by
    have z := (e0.funs.mem hm).1
    rw [hG] at z
    cases z), fun v z => (by
    have z : oG.data = .cell v := z
    rw [hd] at z
    cases z)⟩
  have I := L2H.inv_startH (CX := CX) (E := E) S pin e0 hl r x
  refine ⟨(Cx.Ok.toTry I.ok [] (cxT CX P w K mg base N qual scope f cd A outer s H E).xe), I.os, I.bare, I.base, I.loc, I.cell, I.free, I.freeC, fun p hp => ?_, I.hok, I.len⟩
  exact absurd (show p ∈ ([] : List (Addr × Obj)) ++ [] from hp) (by simp)
theorem fn_ofT {k : Nat} {f : Addr} {name qual : Str} {params : Arguments} {body : List Stmt} {scope : Scope} {dV kV doc pm cdv ct oc : Value} {an od : Option Addr} {osl : Array (Option Value)} {N ps : List Str} {sp : Addr → Sp}
    (lk : K.lookup f = some ⟨oc, od, .func (PySem.W.fnOf name qual params body scope dV kV doc pm an cdv ct), osl⟩) (hcd : PySem.W.codeIn K cdv qual = true) (S : FnScope N ps scope) (len : ∀ a vs H Q E, sp a vs H Q E → vs.length = ps.length)
    (hbody : ∀ (A : Around) (outer : List Env) (s : Shared) (H : Hp) (vs : List V) (Q : VK) (E : XK) (a : Addr), A.handled = some (.ref a) → HotH a H → L2H.RoomH k (A.deeper (envOfC qual scope s.heap.objs.size f cdv)) → sp a vs H Q E →
      ∃ t, PSs (cxT CX P w K mg base N qual scope f cdv A outer s H E) body t ∧ t { nx := fun _ H' => Q .non H', rt := Q } (L2.start N vs) H) :
    FnT P w K mg base CX (k + 1) f (PySem.W.fnOf name qual params body scope dV kV doc pm an cdv ct) ps sp := by
  refine ⟨len, ?_⟩
  intro A outer s H args us vs Q E a hr hot hh e0 hb r hsp
  have hl := len _ _ _ _ _ hsp
  have KX : K.In s.heap := e0.mod.kin.keeps fun b o e => (e0.bs b o e).1
  have lim : s.heap.NoLimit := e0.mod.nolimit.keeps fun b o e => (e0.bs b o e).1
  refine codeAny_call_function hr.depth (KX _ _ lk) rfl S.co S.gen rfl (PySem.W.codeRec_of KX hcd) (hb _ _ _ _ ?_)
  refine wpAny_newFunctionEnv_cells S.kind (fun ⟨n, v⟩ hy => ?_) fun env he s1 x => ?_
  · rcases S.par n (List.of_mem_zip hy).1 with q | q
    · exact .inl q
    · exact .inr ⟨q, PySem.W.cellsFrom_some _ _ _ (.inl q)⟩
  subst he
  refine ⟨lim.keeps x.toInCall.keep, codeAny_func ?_⟩
  obtain ⟨t, ht, hq⟩ := hbody A outer s H vs Q E a hot hh (hr.deeper _) hsp
  refine wpAny_mono (ht.run [] s1 (L2.start N vs) H _ (inv_startT S e0 hl r x) hq) (fun fl s' hs => ?_) fun e s' hs => hs
  have fin : ∀ {σ' : L2.St} {H' : Hp} {v : V} {u : Value}, Inv (cxT CX P w K mg base N qual scope f cdv A outer s H E) [] σ' H' s' → RelV v u → Q v H' → CE outer P w H s Q u s' := by
    intro σ' H' v u J rv q
    exact ⟨v, H', J.os, J.bare, J.base, J.hok, rv, q⟩
  cases fl with
  | ret u =>
    obtain ⟨v, σ', H', J, rv, q⟩ := hs
    exact fin J rv q
  | next =>
    obtain ⟨σ', H', J, q⟩ := hs
    exact fin (v := V.non) (u := Value.none) J rfl q
  | brk =>
    obtain ⟨_, _, _, q⟩ := hs
    exact False.elim q
  | cont =>
    obtain ⟨_, _, _, q⟩ := hs
    exact False.elim q
theorem FunT_ok {x qual : Str} {st : Stmt} {f : Addr} {fd : FuncData} {N ps : List Str} {k : Nat} {sp : Addr → Sp} (F : Fun K x qual st f fd) (S : FnScope N ps (defScope st)) (len : ∀ a vs H Q E, sp a vs H Q E → vs.length = ps.length)
    (hbody : ∀ (cdv : Value) (A : Around) (outer : List Env) (s : Shared) (H : Hp) (vs : List V) (Q : VK) (E : XK) (a : Addr), A.handled = some (.ref a) → HotH a H → L2H.RoomH k (A.deeper (envOfC qual (defScope st) s.heap.objs.size f cdv)) → sp a vs H Q E →
      ∃ t, PSs (cxT CX P w K mg base N qual (defScope st) f cdv A outer s H E) (defBody st) t ∧ t { nx := fun _ H' => Q .non H', rt := Q } (L2.start N vs) H) : FnT P w K mg base CX (k + 1) f fd ps sp := by
  obtain ⟨oc, od, kV, doc, pm, an, cdv, ct, osl, rfl, lk, hcd⟩ := F.ex
  exact fn_ofT lk hcd S len fun A outer s H vs Q E a hot hh hr hsp => hbody cdv A outer s H vs Q E a hot hh hr hsp
/-- defs that keep promises there, by name -/
def HasT (P : Program) (w : World) (K : PySem.W.Frag) (mg : Str → Option Value) (base : Heap) (x : Str) (k : Nat) (ps : List Str) (sp : Addr → Sp) : Prop :=
  ∃ f fd, FnT P w K mg base CX0 k f fd ps sp ∧ mg x = some (.ref f) ∧ PySem.W.keepIn K (.ref f) = true ∧ Binds K fd ps []
end
section
variable {X : Cx} {k j : Nat} {ps : List Str} {sp : Addr → Sp} {x : Str} {p pos : Pos} {e : Expr} {es : List Expr} {t : TA} {hd : Addr}
/-- f(..), where what stands at hd is being handled -/
def tCallT (hd : Addr) (sp : Addr → Sp) (t : TA) : TE := fun σ H Q => t σ H fun vs H1 => HotH hd H1 ∧ sp hd vs H1 Q E0
theorem pe_ht (h : HasT X.prog X.w X.K X.mg X.base x k ps sp) (hr : L2H.RoomH j X.A) (hot : X.A.handled = some (.ref hd)) (ha : PA X (e :: es) t) (hkj : k ≤ j := by decide) (hg : Gl X x := by rfl) (hdb : (x == ("__debug__" : Str)) = false := by decide)
    (he : starEach (e :: es) X.env = (false, eval e X.env) :: starEach es X.env := by rfl) (hpl : (backTo pos (starEach es X.env)).any (·.1) = false := by rfl) :
    PE X (.Call (.Name x p) (e :: es) [] pos) (tCallT hd sp t) := by
  obtain ⟨f, fd, F, g, kp, b⟩ := h
  refine ⟨fun pins s σ H Q I h => ?_⟩
  refine wpAny_Call_Name_kw (ld_glob I hg g ?_ hdb)
  refine PySem.W.callWith_K (h₀ := X.base) I.ok.mod.kin kp (thn (ha.run pos pins s σ H _ I h) fun us s1 ⟨vs, H1, I1, r, hh, q⟩ => ⟨I1.kIn, ?_⟩) he hpl
  have hl : us.length = ps.length := by
    rw [← r.length]
    exact F.len _ _ _ _ _ q
  have bb := b s1 us I1.kIn (by rw [List.append_nil]; exact hl)
  rw [List.append_nil] at bb
  refine wpAny_call (codeAny_mono (F.run X.A X.stack s1 H1 ⟨us, []⟩ us vs Q E0 hd (hr.mono hkj) hot hh I1.env0 bb r q) fun r s' hq => ?_)
  cases r with
  | error e => exact False.elim hq
  | ok fl =>
    cases fl with
    | ret u => exact I1.after hq
    | next => exact False.elim hq
    | brk => exact False.elim hq
    | cont => exact False.elim hq
end
/-! ### comprehensions -/
/-- an iterator's turns, there: its end asks for what is handled -/
def ItHot (hd : Addr) (J : It) : It := { go := J.go, yld := J.yld, stop := fun i H => J.stop i H ∧ HotH hd H }
structure TurnT (P : Program) (w : World) (K : PySem.W.Frag) (hd : Addr) (tg : Expr) (J : It) (fp : List Addr) (it : Addr) (tn : Nat → Heap → Prop) : Prop where
  mem : it ∈ fp
  obj : ∀ i h, tn i h → ∀ b ∈ fp, ∃ o, h.get? b = some o ∧ ∀ v, o.data ≠ .cell v
  keep : ∀ i h h', tn i h → (∀ b ∈ fp, ∀ o, h.get? b = some o → h'.get? b = some o) → tn i h'
  item : ∀ (X : Cx), X.prog = P → X.w = w → X.K = K → X.A.handled = some (.ref hd) → ∀ (i : Nat) (pins : List (Addr × Obj)) (s : Shared) (σ : L2.St) (H : Hp) (E : Value → Shared → Prop), Inv X pins σ H s → (∀ b ∈ fp, FpOk X pins H b) → tn i s.heap → J.go i H →
    wpAny (model P w) X.A (pyNext (.ref it)) (fun r s1 => ∃ u, r = some u ∧
      wpAny (model P w) X.A (letOwnedTupleGo tg (.ref it) u) (fun _ s2 => ∃ x H', Inv X pins σ H' s2 ∧ RelV x u ∧ J.yld i H x H' ∧ tn (i + 1) s2.heap ∧ ∀ b ∈ fp, H' b = none) E s1) E s
  done : ∀ (X : Cx), X.prog = P → X.w = w → X.K = K → X.A.handled = some (.ref hd) → ∀ (i : Nat) (pins : List (Addr × Obj)) (s : Shared) (σ : L2.St) (H : Hp) (E : Value → Shared → Prop), Inv X pins σ H s → (∀ b ∈ fp, FpOk X pins H b) → tn i s.heap → J.stop i H → HotH hd H →
    wpAny (model P w) X.A (pyNext (.ref it)) (fun r s1 => r = none ∧ Inv X pins σ H s1) E s
  self : ∀ (A : Around) (i : Nat) (s : Shared) (Q : Value → Shared → Prop) (E : Value → Shared → Prop), tn i s.heap → Q (.ref it) s → wpAny (model P w) A (pyIter (.ref it)) Q E s
theorem turn_rangeT {P : Program} {w : World} {K : PySem.W.Frag} {hd : Addr} {tg : Expr} (it : Addr) (lo : Int) (n : Nat) : TurnT P w K hd tg (Itr lo n) [it] it (fun i h => IsRangeIter h it (lo + (i : Nat) * 1) ((n : Int) - (i : Nat)) 1) where
  mem := by simp
  obj := by
    intro i h st b hb
    obtain rfl : b = it := by simpa using hb
    refine ⟨_, st, fun v z => ?_⟩
    have z' : Data.fields _ = Data.cell v := z
    cases z'
  keep := fun i h h' st k => k it (by simp) _ st
  item := by
    intro X hP hw hK hc i pins s σ H E I hf st hg
    subst hP hw hK
    obtain ⟨f0, f1, f2, f3, f4, f5⟩ := hf it (by simp)
    have hlt : i < n := hg
    refine wpAny_pyNext_range_item st (by omega) fun h' st' sb => ?_
    have e1 : lo + ((i : Nat) : Int) * 1 + 1 = lo + ((i + 1 : Nat) : Int) * 1 := by omega
    have e2 : (n : Int) - ((i : Nat) : Int) - 1 = (n : Int) - ((i + 1 : Nat) : Int) := by omega
    rw [e1, e2] at st'
    have J1 : Inv X pins σ H { s with heap := h', toks := s.toks + 1 } := I.turned (fun b o hb e => (sb.2 b hb).trans e) f0 f1 f3 f4 f5
    refine ⟨_, rfl, go_of (s := { s with heap := h', toks := s.toks + 1 }) (n := "range_iterator") st' rfl rfl (by decide) ⟨.int (lo + i), H, J1, ⟨s.toks, ?_⟩, ⟨rfl, rfl⟩, st', fun b hb => (hf b hb).1⟩⟩
    rw [Int.mul_one]
  done := by
    intro X hP hw hK hc i pins s σ H E I hf st hg hh
    subst hP hw hK
    obtain ⟨f0, f1, f2, f3, f4, f5⟩ := hf it (by simp)
    obtain ⟨cls, d, ea⟩ := hh
    exact HotX.pyNext_range_end_hot (exH_hot I.hok ea hc) st (by have : n ≤ i := hg; omega) fun h' eb => ⟨rfl, I.turned (t' := s.toks) (fun b o _ e => eb b o e) f0 f1 f3 f4 f5⟩
  self := fun _ _ _ _ _ st h => wpAny_pyIter_rangeiter st h
def PIET (X : Cx) (hd : Addr) (pins : List (Addr × Obj)) (σ : L2.St) (tg : Expr) (R : It → Hp → Prop) (itv : Value) (s2 : Shared) : Prop :=
  ∃ (it : Addr) (fp : List Addr) (tn : Nat → Heap → Prop) (J : It) (H' : Hp), itv = .ref it ∧ Inv X pins σ H' s2 ∧ TurnT X.prog X.w X.K hd tg J fp it tn ∧ tn 0 s2.heap ∧ (∀ b ∈ fp, FpOk X pins H' b) ∧ R (ItHot hd J) H'
structure PIT (X : Cx) (hd : Addr) (tg iter : Expr) (wi : TI) : Prop where
  run : ∀ (pins : List (Addr × Obj)) (s : Shared) (σ : L2.St) (H : Hp) (R : It → Hp → Prop), Inv X pins σ H s → wi σ H R →
    wpAny (model X.prog X.w) X.A (eval iter X.env) (fun v s1 => wpAny (model X.prog X.w) X.A (pyIter v) (PIET X hd pins σ tg R) X.xe s1) X.xe s
/-- range(n) there -/
def iRngT (hd : Addr) (ta : TA) : TI := fun σ H R => ta σ H fun vs H1 => ∃ n : Nat, vs = [.int n] ∧ n ≤ 1000 ∧ R (ItHot hd (Itr 0 n)) H1
theorem pi_rangeT {X : Cx} {hd : Addr} {tg : Expr} {a : Expr} {ta : TA} {p pos : Pos} (hg : Gl X "range") (hm : X.mg "range" = none) (ha : PA X [a] ta) (hs : starEach [a] X.env = [(false, eval a X.env)] := by rfl) : PIT X hd tg (.Call (.Name "range" p) [a] [] pos) (iRngT hd ta) := by
  refine ⟨fun pins s σ H R I h => ?_⟩
  refine Call_ (ld_blt I hg hm boot_range (PyProof.Rows.callWith_type1 (thn (ha.run pos pins s σ H _ I h) fun us s1 hh => ?_) hs rfl))
  obtain ⟨vs, H1, J1, r1, n, e, hn, q⟩ := hh
  subst e
  obtain ⟨u, rfl, t, rfl⟩ := vals1 r1
  refine call_range_1 ?_
  refine wpAny_pyIter_range (IsRange.new ..) (small_one (by omega) (by omega) (by omega) (by omega)) ?_
  have J2 : Inv X pins σ H1 { s1 with heap := s1.heap.push { cls := .type "range", data := .fields #[.int 0 s1.toks, .int n t, .int 1 (s1.toks + 1)] }, toks := s1.toks + 2 } := J1.kept fun b o e => Heap.get?_push_of_some _ e
  refine ⟨_, [_], _, _, H1, rfl, J2.kept (t' := s1.toks + 2) fun b o e => Heap.get?_push_of_some _ e, turn_rangeT _ 0 n, ?_, fun b hb => ?_, q⟩
  · have e2 : ((n : Int)) - ((0 : Nat) : Int) = Builtin.Range.rangeSize 0 n 1 := by rw [rangeSize_one]; split <;> omega
    show IsRangeIter _ _ ((0 : Int) + ((0 : Nat) : Int) * 1) ((n : Int) - ((0 : Nat) : Int)) 1
    rw [e2]
    exact Heap.get?_push_size _ rfl
  · obtain rfl := List.mem_singleton.mp hb
    exact J2.fpOk (Nat.le_refl _) (J2.hok.fresh (Nat.le_refl _))
end Wl

/-! [e for x in it if ..] where an exception is being handled. -/
namespace Wl
open PySem PySem.Spec PyProof.Rows L2
section
variable {X : Cx} {hd : Addr}
theorem lcT_core {pins : List (Addr × Obj)} {s : Shared} {σ : L2.St} {H : Hp} {Q : VK} {elt tg iter : Expr} {ifs : List Expr} {scope : Scope} {own : List (Str × Nat)} {pos pos' : Pos} {wi : TI} {g : TG} {tt : TT} {te : TE} {use : Option (Value → Sem Unit)} {Qf : Value → Shared → Prop}
    (hot : X.A.handled = some (.ref hd)) (hN : X.N.Nodup) (I : Inv X pins σ H s) (hi : PIT X hd tg iter wi) (ok : BlkOk X.N X.env.scope scope own)
    (hg : ∀ (s : Shared) (H : Hp) (C : Addr) (cl : List (Str × Addr)) (fp : List Addr), PG (X.blk s H scope (compEnvC scope cl C X.env) fp) tg g)
    (ht : ∀ (s : Shared) (H : Hp) (C : Addr) (cl : List (Str × Addr)) (fp : List Addr), PTs (X.blk s H scope (compEnvC scope cl C X.env) fp) ifs tt)
    (he : ∀ (s : Shared) (H : Hp) (C : Addr) (cl : List (Str × Addr)) (fp : List Addr), PE (X.blk s H scope (compEnvC scope cl C X.env) fp) elt te) (hs : ∀ x, foldedSetIterable iter X.env x = pure x) (h : tLc wi g tt te (own.map (·.2)) σ H Q)
    (hEnd : ∀ L C s' m H', Inv X pins σ H' s' → Q (.ref L) H' → s'.heap.Ns C m → FpOk X pins H' C → compPost (model X.prog X.w) X.A X.xe use Qf (.ref L) C (.ok .next) s') :
    wpAny (model X.prog X.w) X.A (comprehension (.ListComp elt [⟨tg, iter, ifs, 0⟩] scope pos) scope X.env pos' (newList []) false (eval iter X.env) use) Qf X.xe s := by
  refine wpAny_comprehension_free (use := use) rfl hs (closure_ok fun y hy e => ?_) ok.kind (fun y hy e => by rw [ok.uniq y hy, e]) (thn (hi.run pins s σ H _ I h) fun xv sA hx => thn hx fun itv sB hB => ?_)
  · exact (ok.free y hy e).elim (fun k => I.ok.has _ (.inl k)) (fun k => I.ok.has _ (.inr k))
  obtain ⟨it, fp, tn, J, HB, ei, IB, T, stB, fB, q⟩ := hB
  subst ei
  refine wpAny_newObj_type (newEnv_comp ?_) (by show 0 ≤ sizeLine; decide)
  generalize hL : sB.heap.objs.size = L
  have hLn : HB L = none := IB.hok.fresh (Nat.le_of_eq hL)
  obtain ⟨W, ⟨m0, w0⟩, turn⟩ := q L hLn
  generalize hsC : ({ sB with heap := sB.heap.push { cls := .type "list", data := .seq ([] : List Value).toArray } } : Shared) = sC
  have IC : Inv X pins σ (upd HB L (.lst [])) sC := by
    subst hsC
    refine IB.laid (t' := sB.toks) (fun b o e => Heap.get?_push_of_some _ e) (Nat.le_of_eq hL) ⟨Nat.zero_le _, [], 0, .nil, ?_⟩
    subst hL
    exact Heap.get?_push_size _ rfl
  have eC : sC.heap = sB.heap.push { cls := .type "list", data := .seq ([] : List Value).toArray } := by rw [← hsC]
  have fC : ∀ b ∈ fp, FpOk X pins (upd HB L (.lst [])) b ∧ b < sC.heap.objs.size := by
    intro b hb
    obtain ⟨o, e, _⟩ := T.obj _ _ stB b hb
    have hlt : b < sB.heap.objs.size := Heap.lt_size e
    refine ⟨⟨?_, (fB b hb).2⟩, by rw [eC, Heap.size_push]; exact Nat.lt_succ_of_lt hlt⟩
    rw [upd_ne (by rw [← hL]; exact Nat.ne_of_lt hlt)]
    exact (fB b hb).1
  have stC : tn 0 sC.heap := T.keep _ _ _ stB fun b _ o e => by rw [eC]; exact Heap.get?_push_of_some _ e
  have ID := block_start IC ok hN fC
  have pg := hg sC (upd HB L (.lst [])) sC.heap.objs.size (cellsFrom (sC.heap.objs.size + 1) scope.names (cloFrom X.env.cells scope.names [])) fp
  have pt := ht sC (upd HB L (.lst [])) sC.heap.objs.size (cellsFrom (sC.heap.objs.size + 1) scope.names (cloFrom X.env.cells scope.names [])) fp
  have pe := he sC (upd HB L (.lst [])) sC.heap.objs.size (cellsFrom (sC.heap.objs.size + 1) scope.names (cloFrom X.env.cells scope.names [])) fp
  show codeAny _ _ (.compStart (.ListComp elt [⟨tg, iter, ifs, 0⟩] scope pos) 0 (.ref it) (.ref L) (compEnvC scope (cellsFrom (sC.heap.objs.size + 1) scope.names (cloFrom X.env.cells scope.names [])) sC.heap.objs.size X.env)) (compPost (model X.prog X.w) X.A X.xe use Qf (.ref L) sC.heap.objs.size) { sC with heap := pushCells (sC.heap.push { cls := .type "dict", data := .dict #[] }) scope.names }
  have nfp : ∀ b ∈ fp, (upd HB L (.lst [])) b = none := fun b hb => (fC b hb).1.1
  generalize hce : compEnvC scope (cellsFrom (sC.heap.objs.size + 1) scope.names (cloFrom X.env.cells scope.names [])) sC.heap.objs.size X.env = ce at ID pg pt pe ⊢
  have cL : ce.locals = sC.heap.objs.size := by subst hce; rfl
  generalize hHC : upd HB L (.lst []) = HC at IC ID pg pt pe w0 nfp fC
  generalize hsD : ({ sC with heap := pushCells (sC.heap.push { cls := .type "dict", data := .dict #[] }) scope.names } : Shared) = sD at ID ⊢
  have stD : tn 0 sD.heap := T.keep _ _ _ stC fun b _ o e => by rw [← hsD]; exact pushCells_keeps _ _ _ _ (Heap.get?_push_of_some _ e)
  have stat : ∀ {σ' : L2.St} {H' : Hp} {s' : Shared}, Inv (X.blk sC HC scope ce fp) [] σ' H' s' → (∀ b ∈ fp, H' b = none) → ∀ b ∈ fp, FpOk (X.blk sC HC scope ce fp) [] H' b := by
    intro σ' H' s' I' hn b hb
    exact ⟨hn b hb, (I'.ok.exf b hb).1, I'.ok.exfs b hb, .inl hb, fun x c e => (I'.ok.exf b hb).2 x c e, fun p hp => absurd (show p ∈ ([] : List (Addr × Obj)) ++ [] from hp) (by simp)⟩
  have loop : codeAny (model X.prog X.w) X.A (.compLoop (.ListComp elt [⟨tg, iter, ifs, 0⟩] scope pos) 0 (.ref it) (.ref L) ce) (compPost (model X.prog X.w) X.A X.xe use Qf (.ref L) sC.heap.objs.size) sD := by
    refine compLoop_any (fun n s' => ∃ i H', Inv (X.blk sC HC scope ce fp) [] (wipe σ (own.map (·.2))) H' s' ∧ tn i s'.heap ∧ (∀ b ∈ fp, H' b = none) ∧ W i n H') ?_ m0 ⟨0, HC, ID, stD, nfp, w0⟩
    rintro n sE ⟨i, HE, IE, stE, nE, wE⟩
    rcases turn i n HE wE with ⟨stop, qq⟩ | ⟨go, Nx, hNx, step⟩
    · have td := T.done (X.blk sC HC scope ce fp) rfl rfl rfl hot i [] sE _ HE (fun _ _ => False) IE (stat IE nE) stE stop.1 stop.2
      refine thnF td fun r sF ⟨hr, IF⟩ => ?_
      subst hr
      have IG : Inv X pins σ HE sF := IC.call' (ch := fp) IF.os IF.base IF.hok IF.bare fun b hb => ⟨(fC b hb).1.2.2.2.1, (fC b hb).1.2.1, (fC b hb).1.2.2.2.2.1, (fC b hb).1.2.2.2.2.2⟩
      have nC : HE sC.heap.objs.size = none := by
        have z : HE ce.locals = none := IF.free
        rw [cL] at z
        exact z
      obtain ⟨m, hn, _⟩ := IF.loc
      have hn : sF.heap.Ns ce.locals m := hn
      rw [cL] at hn
      exact hEnd L sC.heap.objs.size sF m HE IG qq hn (IC.fpOk (Nat.le_refl _) nC)
    · have ti := T.item (X.blk sC HC scope ce fp) rfl rfl rfl hot i [] sE _ HE (fun _ _ => False) IE (stat IE nE) stE go
      refine thnF ti fun r sF ⟨u, hr, hF⟩ => ?_
      subst hr
      refine thnF hF fun _ sG ⟨x, HG, IG, rG, yG, stG, nG⟩ => ?_
      have IG' := IG.pinned (stat IG nG) (T.obj _ _ stG)
      refine thnF (pg.run _ sG _ HG x u _ IG' rG (step x HG yG)) fun _ sK ⟨σK, HK, IK, hwK, qK⟩ => ?_
      refine thnF (pt.run _ sK σK HK _ IK qK) fun b sM ⟨HM, IM, qM⟩ => ?_
      have fin : ∀ {s' : Shared} {H' : Hp}, Inv (X.blk sC HC scope ce fp) ([] ++ pinsAt fp sG.heap) σK H' s' → Nx H' → ∃ m, m < n ∧ ∃ i H', Inv (X.blk sC HC scope ce fp) [] (wipe σ (own.map (·.2))) H' s' ∧ tn i s'.heap ∧ (∀ b ∈ fp, H' b = none) ∧ W i m H' := by
        intro s' H' I' nx
        obtain ⟨m', hm, w'⟩ := hNx H' nx
        have pin' : ∀ b ∈ fp, ∀ o, sG.heap.get? b = some o → s'.heap.get? b = some o ∧ H' b = none := fun b hb o e =>
          have z := I'.pin (b, o) (List.mem_append_right _ (List.mem_append_right _ (mem_pinsAt hb e)))
          ⟨z.1, z.2.1⟩
        have hl : (wipe σ (own.map (·.2))).length = σK.length := by rw [← hwK, wipe_length]
        refine ⟨m', hm, i + 1, H', (I'.unpinned (pins := [])).weak hl (fun j v e => ?_), T.keep _ _ _ stG fun b hb o e => (pin' b hb o e).1, fun b hb => ?_, w'⟩
        · rw [← hwK] at e
          exact (wipe_some e).1
        · obtain ⟨o, e, _⟩ := T.obj _ _ stG b hb
          exact (pin' b hb o e).2
      cases b with
      | false =>
        simp only [Bool.false_eq_true, if_false] at qM ⊢
        exact fin IM qM
      | true =>
        simp only [if_true] at qM ⊢
        refine thnF (pe.run _ sM σK HM _ IM qM) fun z sO ⟨yv, HO1, IO, rO, acc, hDO, hzO, nx⟩ => ?_
        exact app_ok (X := X.blk sC HC scope ce fp) IO hDO hzO rO fun sP IP => fin IP nx
  exact codeAny_compStart_list loop (T.self X.A 0 _ _ _ stD loop)
theorem pe_lcT {elt tg iter : Expr} {ifs : List Expr} {scope : Scope} {own : List (Str × Nat)} {pos : Pos} {wi : TI} {g : TG} {tt : TT} {te : TE} (hot : X.A.handled = some (.ref hd)) (hN : X.N.Nodup) (hi : PIT X hd tg iter wi) (ok : BlkOk X.N X.env.scope scope own)
    (hg : ∀ (s : Shared) (H : Hp) (C : Addr) (cl : List (Str × Addr)) (fp : List Addr), PG (X.blk s H scope (compEnvC scope cl C X.env) fp) tg g)
    (ht : ∀ (s : Shared) (H : Hp) (C : Addr) (cl : List (Str × Addr)) (fp : List Addr), PTs (X.blk s H scope (compEnvC scope cl C X.env) fp) ifs tt)
    (he : ∀ (s : Shared) (H : Hp) (C : Addr) (cl : List (Str × Addr)) (fp : List Addr), PE (X.blk s H scope (compEnvC scope cl C X.env) fp) elt te) (hs : ∀ x, foldedSetIterable iter X.env x = pure x := by intro _; rfl) :
    PE X (.ListComp elt [⟨tg, iter, ifs, 0⟩] scope pos) (tLc wi g tt te (own.map (·.2))) := by
  refine ⟨fun pins s σ H Q I h => ?_⟩
  rw [eval_ListComp]
  refine lcT_core hot hN I hi ok hg ht he hs h fun L C s' m H' I' q hn f => ⟨m, hn, fun h'' sb => ?_⟩
  obtain ⟨u0, u1, u2, u3, u4, u5⟩ := f
  exact ⟨.ref L, H', I'.turned (t' := s'.toks) (fun b o hb e => (sb.2 b hb).trans e) u0 u1 u3 u4 u5, rfl, q⟩
end
theorem walk_rangeT {a : Addr} {n : Nat} : L2.Walk (ItHot a (Itr 0 n)) n (HotH a) (YFn fun i => .int ((0 : Int) + i)) :=
  ⟨fun _ _ hi _ => hi, fun _ h => ⟨Nat.le_refl _, h⟩, fun _ _ _ _ _ _ y => y⟩
section
variable {a : Addr} {n slot : Nat} {te : TE} {vs : List Nat} {σ : L2.St} {H1 : Hp} {D : Addr} {Qd : Hp → Prop}
theorem lc_rangeT (hD : H1 D = none) (hot : HotH a H1) (f : Nat → V) (hw : ∀ x, wipe ((wipe σ vs).set slot (some x)) vs = wipe σ vs)
    (he : ∀ (k : Nat) (H : Hp), k < n → Same H1 H → ∀ Q : VK, Q (f k) H → te ((wipe σ vs).set slot (some (.int ((0 : Int) + k)))) H Q) (hn : n ≤ 1000)
    (hd : ∀ H, Same H1 H → H D = some (.lst ((List.range n).map f)) → Qd H) :
    ∃ W : Nat → Nat → Hp → Prop, (∃ m, W 0 m (upd H1 D (.lst []))) ∧ ∀ i m H, W i m H →
      ((ItHot a (Itr 0 n)).stop i H ∧ Qd H) ∨ ((ItHot a (Itr 0 n)).go i H ∧ ∃ Nx : Hp → Prop, (∀ H', Nx H' → ∃ m', m' < m ∧ W (i + 1) m' H') ∧ ∀ x H', (ItHot a (Itr 0 n)).yld i H x H' → gName slot x (wipe σ vs) H' fun σ2 H2 => wipe σ2 vs = wipe σ vs ∧ tYes σ2 H2 fun b H3 =>
        if b = true then te σ2 H3 fun y H4 => ∃ acc, H4 D = some (.lst acc) ∧ acc.length < sizeLine ∧ Nx (upd H4 D (.lst (acc ++ [y]))) else Nx H3) := by
  refine lc_it walk_rangeT (fun i H => Same H1 H ∧ H D = some (.lst ((List.range i).map f))) ⟨same_new hD, upd_same⟩ (fun i H _ h => hot.same h.1) ?_ (fun H h => hd H h.1 h.2)
  rintro i x H H' hi ⟨s, hz⟩ ⟨rfl, rfl⟩
  refine ⟨hw _, yes_it (he i _ hi s _ ⟨_, hz, ?_, same_mut s hD, ?_⟩)⟩
  · rw [List.length_map, List.length_range]
    exact small1000 (by omega)
  · rw [upd_same, List.range_succ, List.map_append]
    rfl
end
end Wl

/-! Defs that may raise: promises put together, called by name, the wishes. -/
namespace Wl
open PySem PySem.Spec PyProof.Rows L2
section
variable {P : Program} {w : World} {K : PySem.W.Frag} {mg : Str → Option Value} {base : Heap} {f : Addr} {fd : FuncData} {ps : List Str} {k j : Nat} {sp sp' : Sp} {CX : CXT}
/-- a def that lets nothing out, where exceptions are told -/
theorem FnOk_x (F : FnOk P w K mg base CX0 k f fd ps sp) : FnOk P w K mg base (L2N.CX P w) k f fd ps sp :=
  ⟨F.len, fun A outer s H args us vs Q E hr e0 hb r h => codeAny_mono (F.run A outer s H args us vs Q E hr e0 hb r h) fun r s' z => by
    cases r with
    | error e => exact False.elim z
    | ok fl => cases fl <;> exact z⟩
/-- two promises of one def -/
theorem FnOk_or (F : FnOk P w K mg base CX k f fd ps sp) (G : FnOk P w K mg base CX j f fd ps sp') : FnOk P w K mg base CX (max k j) f fd ps (fun vs H Q E => sp vs H Q E ∨ sp' vs H Q E) := by
  refine ⟨fun vs H Q E h => h.elim (F.len vs H Q E) (G.len vs H Q E), fun A outer s H args us vs Q E hr e0 hb r h => ?_⟩
  rcases h with h | h
  · exact F.run A outer s H args us vs Q E (hr.mono (Nat.le_max_left _ _)) e0 hb r h
  · exact G.run A outer s H args us vs Q E (hr.mono (Nat.le_max_right _ _)) e0 hb r h
theorem FnOk_xor (F : FnOk P w K mg base CX0 k f fd ps sp) (G : FnOk P w K mg base (L2N.CX P w) k f fd ps sp') : FnOk P w K mg base (L2N.CX P w) k f fd ps (fun vs H Q E => sp vs H Q E ∨ sp' vs H Q E) := by
  have z := FnOk_or (FnOk_x F) G
  rwa [Nat.max_self] at z
/-- as Fun.ok, for a def that may raise; what it raises has no context -/
theorem Fun_okN {x qual : Str} {st : Stmt} {N : List Str} (F : Fun K x qual st f fd) (S : FnScope N ps (defScope st)) (len : ∀ vs H Q E, sp vs H Q E → vs.length = ps.length)
    (hbody : ∀ (cdv : Value) (A : Around) (outer : List Env) (s : Shared) (H : Hp) (vs : List V) (Q : VK) (E : XK), Room k (A.deeper (envOfC qual (defScope st) s.heap.objs.size f cdv)) → sp vs H Q E →
      ∃ t, PSs (cxOf (L2N.CX P w) P w K mg base N qual (defScope st) f cdv A outer s H E) (defBody st) t ∧ t { nx := fun _ H' => Q .non H', rt := Q } (L2.start N vs) H) : FnOk P w K mg base (L2N.CX P w) (k + 1) f fd ps sp := by
  obtain ⟨oc, od, kV, doc, pm, an, cdv, ct, osl, rfl, lk, hcd⟩ := F.ex
  exact fn_of lk hcd S len fun A outer s H vs Q E hr hsp => hbody cdv A outer s H vs Q E hr hsp
def HasX (P : Program) (w : World) (K : PySem.W.Frag) (mg : Str → Option Value) (base : Heap) (x : Str) (k : Nat) (ps : List Str) (sp : Sp) : Prop :=
  ∃ f fd, FnOk P w K mg base (L2N.CX P w) k f fd ps sp ∧ mg x = some (.ref f) ∧ PySem.W.keepIn K (.ref f) = true ∧ Binds K fd ps []
def HasMX (P : Program) (w : World) (K : PySem.W.Frag) (mg : Str → Option Value) (base : Heap) (C : Addr) (m : Str) (k : Nat) (ps : List Str) (sp : Sp) : Prop :=
  ∃ f fd, FnOk P w K mg base (L2N.CX P w) k f fd ps sp ∧ Meth K C m f ∧ Binds K fd ps []
end
section
variable {X : Cx} {k j : Nat} {C : Addr} {ps : List Str} {sp : Sp} {x m : Str} {p pos apos : Pos} {e o : Expr} {es : List Expr} {ta : TE} {t : TA} {W : WX} {E : XK}
/-- what is wished, whatever the slots hold -/
def EW (n : Nat) (W : WX) : XK := fun cls d H => ∀ σ : L2.St, σ.length = n → W cls d σ H
theorem passU {n : Nat} (tk : L2N.Takes X W) (hn : X.N.length = n) : Passes (L2N.CX X.prog X.w) X (EW n W) := fun _ σ _ _ e s' I c => tk e s' (L2N.XE.of_call I (fun _ _ _ h => h σ (I.len.trans hn)) c)
theorem passE (tk : L2N.Takes X (fun cls d _ H => E cls d H)) : Passes (L2N.CX X.prog X.w) X E := fun _ _ _ _ e s' I c => tk e s' (L2N.XE.of_call (W := fun cls d _ H => E cls d H) I (fun _ _ _ h => h) c)
theorem pe_hx (h : HasX X.prog X.w X.K X.mg X.base x k ps sp) (hr : Room j X.A) (hx : Passes (L2N.CX X.prog X.w) X E) (ha : PA X (e :: es) t) (hkj : k ≤ j := by decide) (hg : Gl X x := by rfl) (hdb : (x == ("__debug__" : Str)) = false := by decide)
    (he : starEach (e :: es) X.env = (false, eval e X.env) :: starEach es X.env := by rfl) (hpl : (backTo pos (starEach es X.env)).any (·.1) = false := by rfl) :
    PE X (.Call (.Name x p) (e :: es) [] pos) (tCall sp [] E t) := by
  obtain ⟨f, fd, F, g, kp, b⟩ := h
  exact pe_call F (hr.mono hkj) hg g kp b .nil hx ha hdb he hpl
theorem pe_hmx {pl : Sem Bool} (h : HasMX X.prog X.w X.K X.mg X.base C m k ps sp) (c : Cls X.K C) (hr : Room j X.A) (hx : Passes (L2N.CX X.prog X.w) X E) (ho : PE X o ta) (ha : PA X (e :: es) t) (hkj : k ≤ j := by decide)
    (hst : starEach (e :: es) X.env = (false, eval e X.env) :: starEach es X.env := by rfl) (hpl : (backTo pos (starEach es X.env)).any (·.1) = false := by rfl)
    (ht : eval (.Call (.Attribute o m apos) (e :: es) [] pos) X.env = (do
      let ov ← eval o X.env
      standAt apos.atName
      let (f, first) ← holding [ov] (getMethod ov m pl)
      callWith pos f first (backTo pos (starEach (e :: es) X.env)) (backToKw pos (keywordEach [] X.env))) := by rfl) :
    PE X (.Call (.Attribute o m apos) (e :: es) [] pos) (tMeth C m sp [] E ta t) := by
  obtain ⟨f, fd, F, g, b⟩ := h
  exact pe_meth ho c g F (hr.mono hkj) b .nil hx ha hst hpl ht
theorem pe_hmx0 {pl : Sem Bool} (h : HasMX X.prog X.w X.K X.mg X.base C m k ps sp) (c : Cls X.K C) (hr : Room j X.A) (hx : Passes (L2N.CX X.prog X.w) X E) (ho : PE X o ta) (hkj : k ≤ j := by decide)
    (ht : eval (.Call (.Attribute o m apos) [] [] pos) X.env = (do
      let ov ← eval o X.env
      standAt apos.atName
      let (f, first) ← holding [ov] (getMethod ov m pl)
      callWith pos f first (backTo pos (starEach [] X.env)) (backToKw pos (keywordEach [] X.env))) := by rfl) :
    PE X (.Call (.Attribute o m apos) [] [] pos) (tMeth C m sp [] E ta tNil) := by
  obtain ⟨f, fd, F, g, b⟩ := h
  exact pe_meth0 ho c g F (hr.mono hkj) b .nil hx ht
end
end Wl

/-! What the words' functions refuse. -/
namespace Wl
open PySem PySem.Spec PyProof.Rows L2
/-- an error of the class at C whose field f holds v -/
def Refuses (C : Addr) (f : Str) (v : V) (H : Hp) (E : XK) : Prop := ∀ (d : Addr) (H' : Hp), Same H H' → H' d = some (.xd [(f, v)]) → E (.ref C) (some d) H'
theorem Refuses.same {C : Addr} {f : Str} {v : V} {H H' : Hp} {E : XK} (h : Refuses C f v H E) (s : Same H H') : Refuses C f v H' E := fun d H2 s2 e => h d H2 (s.trans s2) e
theorem Refuses.new {C : Addr} {f : Str} {v : V} {H H' : Hp} {E : XK} (h : Refuses C f v H E) (s : Same H H') : ∀ d, H' d = none → E (.ref C) (some d) (upd H' d (.xd [(f, v)])) := fun d hd => h d _ (s.trans (same_new hd)) upd_same
/-- a thing of some kind -/
def OddV (H : Hp) (v : V) : Prop := (∃ z, v = .str z ∧ z.length ≤ 1000) ∨ v = .non ∨ (∃ b, v = .bl b) ∨ (∃ i, v = .int i) ∨ ∃ p, v = .ref p ∧ ((∃ xs, H p = some (.tup xs)) ∨ (∃ xs, H p = some (.lst xs)) ∨ ∃ kvs, H p = some (.dK kvs))
theorem OddV.same {H H' : Hp} {v : V} (h : OddV H v) (s : Same H H') : OddV H' v := by
  rcases h with h | h | h | h | ⟨p, e, ⟨xs, h⟩ | ⟨xs, h⟩ | ⟨xs, h⟩⟩
  · exact .inl h
  · exact .inr (.inl h)
  · exact .inr (.inr (.inl h))
  · exact .inr (.inr (.inr (.inl h)))
  · exact .inr (.inr (.inr (.inr ⟨p, e, .inl ⟨xs, s _ _ h⟩⟩)))
  · exact .inr (.inr (.inr (.inr ⟨p, e, .inr (.inl ⟨xs, s _ _ h⟩)⟩)))
  · exact .inr (.inr (.inr (.inr ⟨p, e, .inr (.inr ⟨xs, s _ _ h⟩)⟩)))
def wvB : V → Bool
  | .str z => wdB z
  | _ => false
theorem OddV.wv {K : PySem.W.Frag} {H : Hp} {v : V} (h : OddV H v) : Wv K H v (wvB v) := by
  rcases h with ⟨z, e, h⟩ | h | ⟨b, h⟩ | ⟨i, h⟩ | ⟨p, e, ⟨xs, h⟩ | ⟨xs, h⟩ | ⟨xs, h⟩⟩
  · subst e
    exact .inl ⟨z, rfl, h, rfl⟩
  · subst h
    exact .inr ⟨_, .base .non, kit_ty (r := false) (by decide +kernel), rfl⟩
  · subst h
    exact .inr ⟨_, .base (.bl b), kit_ty (r := false) (by decide +kernel), rfl⟩
  · subst h
    exact .inr ⟨_, .base (.int i), kit_ty (r := false) (by decide +kernel), rfl⟩
  · subst e
    exact .inr ⟨_, .base (.tup h), kit_ty (r := false) (by decide +kernel), rfl⟩
  · subst e
    exact .inr ⟨_, .base (.lst h), kit_ty (r := false) (by decide +kernel), rfl⟩
  · subst e
    exact .inr ⟨_, .base (.dK h), kit_ty (r := false) (by decide +kernel), rfl⟩
/-- is it a tuple, and of what; is it a text -/
theorem OddV.tupQ {K : PySem.W.Frag} {H : Hp} {v : V} (h : OddV H v) : (∃ p xs, v = .ref p ∧ H p = some (.tup xs)) ∨ ∃ t, TyX K H v t ∧ PySem.W.kitOne K t (.type "tuple") = some false := by
  rcases h with ⟨z, e, h⟩ | h | ⟨b, h⟩ | ⟨i, h⟩ | ⟨p, e, ⟨xs, h⟩ | ⟨xs, h⟩ | ⟨xs, h⟩⟩
  · subst e
    exact .inr ⟨_, .base (.str z), kit_ty (r := false) (by decide +kernel)⟩
  · subst h
    exact .inr ⟨_, .base .non, kit_ty (r := false) (by decide +kernel)⟩
  · subst h
    exact .inr ⟨_, .base (.bl b), kit_ty (r := false) (by decide +kernel)⟩
  · subst h
    exact .inr ⟨_, .base (.int i), kit_ty (r := false) (by decide +kernel)⟩
  · subst e
    exact .inl ⟨p, xs, rfl, h⟩
  · subst e
    exact .inr ⟨_, .base (.lst h), kit_ty (r := false) (by decide +kernel)⟩
  · subst e
    exact .inr ⟨_, .base (.dK h), kit_ty (r := false) (by decide +kernel)⟩
theorem OddV.strQ {K : PySem.W.Frag} {H : Hp} {v : V} (h : OddV H v) : (∃ z, v = .str z ∧ z.length ≤ 1000) ∨ ∃ t, TyX K H v t ∧ PySem.W.kitOne K t (.type "str") = some false ∧ wvB v = false := by
  rcases h.wv (K := K) with ⟨z, e, l, _⟩ | ⟨t, ty, k, e⟩
  · exact .inl ⟨z, e, l⟩
  · exact .inr ⟨t, ty, k, e⟩
section
variable {P : Program} {w : World} {K : PySem.W.Frag} {mg : Str → Option Value} {base : Heap} {f : Addr} {fd : FuncData} {cW cC : Addr}
/-! ### check_word -/
def spCheckWR (cW : Addr) : Sp := fun vs H Q E => ∃ v, vs = [v] ∧ OddV H v ∧ wvB v = false ∧ Refuses cW "word" v H E
theorem ok_checkwR (F : Fun K "check_word" "check_word" wCheck f fd) (T : OwnX K mg "NoWord" "word" cW) (hI : Has P w K mg base "is_word" 1 ["thing"] (spIsW K)) : FnOk P w K mg base (L2N.CX P w) 2 f fd ["word"] (spCheckWR cW) := by
  refine Fun_okN F scCheckW (fun vs H Q E h => ?_) (fun cdv A outer s H vs Q E hr h => ?_)
  · obtain ⟨v, rfl, _⟩ := h
    rfl
  · obtain ⟨v, rfl, ho, hb, q⟩ := h
    refine ⟨_, pss_one (ps_if (pt_not (pt_val (pe_h hI hr (pa_cons (pv 0) pa_nil)))) (pss_one (ps_raiseX rfl T hr (L2N.takes_of rfl rfl rfl rfl) (pa_cons (pv 0) pa_nil))) pss_nil), ?_⟩
    refine ⟨_, rfl, v, false, rfl, hb ▸ ho.wv, fun H1 s1 => ⟨false, rfl, iteT ⟨_, rfl, v, rfl, fun d hd => ?_⟩⟩⟩
    exact q.new s1 d hd
def spCheckWX (cW : Addr) : Sp := fun vs H Q E => spCheckW vs H Q E ∨ spCheckWR cW vs H Q E
theorem ok_checkwX (F : Fun K "check_word" "check_word" wCheck f fd) (T : OwnX K mg "NoWord" "word" cW) (hI : Has P w K mg base "is_word" 1 ["thing"] (spIsW K)) : FnOk P w K mg base (L2N.CX P w) 2 f fd ["word"] (spCheckWX cW) := FnOk_xor (ok_checkw F hI) (ok_checkwR F T hI)
/-! ### is_letter, is_change of things of any kind -/
def lettB : V → Bool
  | .str z => wdB z && decide (z.length = 1)
  | _ => false
def spIsLetO : Sp := fun vs H Q _ => ∃ v, vs = [v] ∧ OddV H v ∧ ∀ H', Same H H' → Q (.bl (lettB v)) H'
theorem ok_isletO (F : Fun K "is_letter" "is_letter" wIsLetter f fd) (B : Bi mg) (hI : Has P w K mg base "is_word" 1 ["thing"] (spIsW K)) : FnOk P w K mg base CX0 2 f fd ["thing"] spIsLetO := by
  refine F.ok scIsLet (fun vs H Q E h => ?_) (fun cdv A outer s H vs Q E hr h => ?_)
  · obtain ⟨v, rfl, _⟩ := h
    rfl
  · obtain ⟨v, rfl, ho, q⟩ := h
    refine ⟨_, pss_one (ps_ret (pe_and (pe_h hI hr (pa_cons (pv 0) pa_nil)) (pe_one (pe_cmpR op_eq (pe_callB call_len_str (by rfl) B.len PySem.boot_len (pa_cons (pv 0) pa_nil)) pe_int (nomark _))))), ?_⟩
    rcases ho.strQ (K := K) with ⟨z, rfl, lz0⟩ | ⟨t, ty, hk, hb⟩
    · refine ⟨_, rfl, _, wdB z, rfl, ho.wv, fun H1 s1 => ⟨_, rfl, ite_b (fun e => ⟨_, rfl, _, rfl, lzl lz0, rfl, ?_⟩) (fun e => ?_)⟩⟩
      · rw [int_dec]
        have e2 : lettB (.str z) = decide ((z.length : Int) = 1) := by
          show (wdB z && decide (z.length = 1)) = _
          rw [e, Bool.true_and]
          by_cases h1 : z.length = 1
          · rw [decide_eq_true h1, decide_eq_true (by omega)]
          · rw [decide_eq_false h1, decide_eq_false (by omega)]
        rw [← e2]
        exact q H1 s1
      · have e2 : lettB (.str z) = false := by
          show (wdB z && decide (z.length = 1)) = _
          rw [e, Bool.false_and]
        rw [← e2]
        exact q H1 s1
    · have e2 : lettB v = false := by
        cases v with
        | str z => rw [show lettB (.str z) = (wdB z && decide (z.length = 1)) from rfl, show wdB z = false from hb, Bool.false_and]
        | _ => rfl
      refine ⟨_, rfl, v, false, rfl, hb ▸ ho.wv, fun H1 s1 => ⟨_, rfl, iteF ?_⟩⟩
      rw [← e2]
      exact q H1 s1
def whB : V → Bool
  | .str z => inV (.str z) [.str "first", .str "last", .str "any"]
  | _ => false
def chB (x y z : V) : Bool := lettB x && (lettB y && (!decide (x = y) && whB z))
theorem lettB_str {v : V} (h : lettB v = true) : ∃ z, v = .str z := by
  cases v with
  | str z => exact ⟨z, rfl⟩
  | _ => cases h
/-- a thing that is no change -/
def NoChg (H : Hp) (v : V) : Prop := OddV H v ∧ ∀ p xs, v = .ref p → H p = some (.tup xs) → xs.length ≤ 1000 ∧ (xs.length = 3 → ∃ x y z, xs = [x, y, z] ∧ OddV H x ∧ OddV H y ∧ OddV H z ∧ chB x y z = false)
theorem NoChg.same {H H' : Hp} {v : V} (h : NoChg H v) (s : Same H H') : NoChg H' v := by
  refine ⟨h.1.same s, fun p xs e hp => ?_⟩
  subst e
  have e2 : H p = some (.tup xs) := by
    rcases h.1 with ⟨z, e, _⟩ | e | ⟨b, e⟩ | ⟨i, e⟩ | ⟨p', e, ⟨ys, hq⟩ | ⟨ys, hq⟩ | ⟨ys, hq⟩⟩
    · cases e
    · cases e
    · cases e
    · cases e
    · cases e
      have := s _ _ hq
      rw [hp] at this
      rw [hq, ← this]
    · cases e
      have := s _ _ hq
      rw [hp] at this
      cases this
    · cases e
      have := s _ _ hq
      rw [hp] at this
      cases this
  obtain ⟨l, k⟩ := h.2 p xs rfl e2
  refine ⟨l, fun l3 => ?_⟩
  obtain ⟨x, y, z, e, o1, o2, o3, c⟩ := k l3
  exact ⟨x, y, z, e, o1.same s, o2.same s, o3.same s, c⟩
def spIsChO : Sp := fun vs H Q _ => ∃ v, vs = [v] ∧ NoChg H v ∧ ∀ H', Same H H' → Q (.bl false) H'
theorem ok_ischO (F : Fun K "is_change" "is_change" wIsChange f fd) (B : Bi mg) (G : Gw K mg) (hL : Has P w K mg base "is_letter" 2 ["thing"] spIsLetO) : FnOk P w K mg base CX0 3 f fd ["thing"] spIsChO := by
  obtain ⟨wa, gw, hw⟩ := G.wheres
  refine F.ok scIsCh (fun vs H Q E h => ?_) (fun cdv A outer s H vs Q E hr h => ?_)
  · obtain ⟨v, rfl, _⟩ := h
    rfl
  · obtain ⟨v, rfl, hn, q⟩ := h
    refine ⟨_, pss_cons (ps_if (PW.pt (pw_or (pt_not (pt_val (pe_callB call_isi (by rfl) B.isi (by decide +kernel) (pa_cons (pv 0) (pa_cons (pe_bltn (v := .ty "tuple") (by rfl) B.tuple (by decide +kernel) rfl) pa_nil)))))
        (pw_or1 (pt_cmpR op_ne (pe_callB call_len_seq (by rfl) B.len PySem.boot_len (pa_cons (pv 0) pa_nil)) pe_int (nomark _))))) (pss_one (ps_ret pe_bl)) pss_nil)
      (pss_cons (ps_asg (pv 0) (pg_tup rfl (pgs_cons (pg_name (i := 1) scIsCh.nd rfl (.inl rfl)) (pgs_cons (pg_name (i := 2) scIsCh.nd rfl (.inl rfl)) (pgs_cons (pg_name (i := 3) scIsCh.nd rfl (.inl rfl)) pgs_nil)))))
      (pss_cons (ps_if (PW.pt (pw_or (pt_not (pt_val (pe_h hL hr (pa_cons (pv 1) pa_nil)))) (pw_or (pt_not (pt_val (pe_h hL hr (pa_cons (pv 2) pa_nil)))) (pw_or1 (pt_cmpR op_eq (pv 1) (pv 2) (nomark _)))))) (pss_one (ps_ret pe_bl)) pss_nil)
      (pss_one (ps_ret (pe_and (pe_callB call_isi (by rfl) B.isi (by decide +kernel) (pa_cons (pv 3) (pa_cons (pe_bltn (v := .ty "str") (by rfl) B.str (by decide +kernel) rfl) pa_nil))) (pe_one (pe_cmpR op_in_seq (pv 3) (pe_glob (v := .ref wa) rfl gw rfl) (by rfl)))))))), ?_⟩
    rcases hn.1.tupQ (K := K) with ⟨p, xs, rfl, hp⟩ | ⟨t, ty, hk⟩
    · refine ⟨_, rfl, _, _, _, _, _, rfl, .ty "tuple", .base (.tup hp), kit_ty (r := true) (by decide +kernel), true, rfl, ?_⟩
      obtain ⟨l1000, h3⟩ := hn.2 p xs rfl hp
      refine iteF ⟨_, rfl, p, _, rfl, .inr (.inl (.inl hp)), rfl, _, rfl, ?_⟩
      rw [int_dec]
      by_cases l3 : xs.length = 3
      · obtain ⟨x, y, z, rfl, o1, o2, o3, hc⟩ := h3 l3
        rw [decide_eq_true (by simp : (([x, y, z] : List V).length : Int) = 3)]
        refine iteF ⟨_, rfl, p, _, rfl, .inl (.inl hp), rfl, _, _, rfl, _, _, rfl, _, _, rfl, rfl, ?_⟩
        refine ⟨_, rfl, x, rfl, o1, fun H1 s1 => ⟨_, rfl, not_b (fun e1 => ?_) (fun e1 => ?_)⟩⟩
        · exact q H1 s1
        · refine ⟨_, rfl, y, rfl, o2.same s1, fun H2 s2 => ⟨_, rfl, not_b (fun e2 => ?_) (fun e2 => ?_)⟩⟩
          · exact q H2 (s1.trans s2)
          · obtain ⟨z1, rfl⟩ := lettB_str e1
            obtain ⟨z2, rfl⟩ := lettB_str e2
            refine ⟨_, rfl, _, rfl, rfl, _, rfl, ?_⟩
            refine ite_b (fun e3 => q H2 (s1.trans s2)) (fun e3 => ?_)
            have e4 : whB z = false := by
              have hc := hc
              unfold chB at hc
              rw [e1, e2, e3] at hc
              simpa using hc
            rcases (o3.same (s1.trans s2)).strQ (K := K) with ⟨z3, rfl, l3⟩ | ⟨t, ty, hk, _⟩
            · refine ⟨_, rfl, _, _, _, _, _, rfl, .ty "str", .base (.str _), kit_ty (r := true) (by decide +kernel), true, rfl, iteT ⟨_, rfl, wa, _, rfl, .inr (hw H2), rfl, rfl, ?_⟩⟩
              rw [if_neg (by decide)]
              have : inV (.str z3) [.str "first", .str "last", .str "any"] = false := e4
              rw [this]
              exact q H2 (s1.trans s2)
            · exact ⟨_, rfl, _, _, _, _, _, rfl, .ty "str", ty, hk, false, rfl, iteF (q H2 (s1.trans s2))⟩
      · rw [decide_eq_false (by omega : ¬ (xs.length : Int) = 3)]
        exact iteT (q H (Same.refl H))
    · exact ⟨_, rfl, _, _, _, _, _, rfl, .ty "tuple", ty, hk, false, rfl, iteT (q H (Same.refl H))⟩
end
end Wl


namespace Wl
open PySem PySem.Spec PyProof.Rows L2
/-- what is no tuple of changes: its place, of the first that is none -/
def NoChs (H : Hp) (v : V) : Option Nat → Prop
  | none => OddV H v ∧ v ≠ .non ∧ ∀ p xs, v = .ref p → H p = some (.tup xs) → 12 < xs.length
  | some i => ∃ (p : Addr) (xs : List V), v = .ref p ∧ H p = some (.tup xs) ∧ xs.length ≤ 12 ∧ i < xs.length ∧ (∀ j, j < i → ∃ q ch, xs[j]? = some (.ref q) ∧ H q = some (.tup (chV ch)) ∧ OkC ch) ∧ ∃ u, xs[i]? = some u ∧ NoChg H u
def plcV : Option Nat → V
  | none => .non
  | some i => .int i
theorem OddV.tup_same {H H' : Hp} {p : Addr} {xs : List V} (h : OddV H (.ref p)) (s : Same H H') (hp : H' p = some (.tup xs)) : H p = some (.tup xs) := by
  rcases h with ⟨z, e, _⟩ | e | ⟨b, e⟩ | ⟨i, e⟩ | ⟨p', e, ⟨ys, hq⟩ | ⟨ys, hq⟩ | ⟨ys, hq⟩⟩
  · cases e
  · cases e
  · cases e
  · cases e
  · cases e
    have := s _ _ hq
    rw [hp] at this
    rw [hq, ← this]
  · cases e
    have := s _ _ hq
    rw [hp] at this
    cases this
  · cases e
    have := s _ _ hq
    rw [hp] at this
    cases this
theorem NoChs.same {H H' : Hp} {v : V} {o : Option Nat} (h : NoChs H v o) (s : Same H H') : NoChs H' v o := by
  cases o with
  | none =>
    refine ⟨h.1.same s, h.2.1, fun p xs e hp => h.2.2 p xs e ?_⟩
    subst e
    exact h.1.tup_same s hp
  | some i =>
    obtain ⟨p, xs, e, hp, l, hi, ha, u, hu, hn⟩ := h
    refine ⟨p, xs, e, s _ _ hp, l, hi, fun j hj => ?_, u, hu, hn.same s⟩
    obtain ⟨q, ch, e1, e2, e3⟩ := ha j hj
    exact ⟨q, ch, e1, s _ _ e2, e3⟩
section
variable {P : Program} {w : World} {K : PySem.W.Frag} {mg : Str → Option Value} {base : Heap} {f : Addr} {fd : FuncData} {cW cC : Addr}
/-! ### is_tuple_up_to of what is no tuple -/
def spTupToO : Sp := fun vs H Q _ => ∃ (v : V) (n : Int), vs = [v, .int n] ∧ OddV H v ∧ (∀ p xs, v = .ref p → H p = some (.tup xs) → n < xs.length) ∧ Q (.bl false) H
theorem ok_tuptoO (F : Fun K "is_tuple_up_to" "is_tuple_up_to" wTupTo f fd) (B : Bi mg) : FnOk P w K mg base CX0 1 f fd ["thing", "most"] spTupToO := by
  refine F.ok scTupTo (fun vs H Q E h => ?_) (fun cdv A outer s H vs Q E hr h => ?_)
  · obtain ⟨v, n, rfl, _⟩ := h
    rfl
  · obtain ⟨v, n, rfl, ho, hn, q⟩ := h
    refine ⟨_, pss_one (ps_ret (pe_and (pe_callB call_isi (by rfl) B.isi (by decide +kernel) (pa_cons (pv 0) (pa_cons (pe_bltn (v := .ty "tuple") (by rfl) B.tuple (by decide +kernel) rfl) pa_nil))) (pe_one (pe_cmpR op_le (pe_callB call_len_seq (by rfl) B.len PySem.boot_len (pa_cons (pv 0) pa_nil)) (pv 1) (nomark _))))), ?_⟩
    rcases ho.tupQ (K := K) with ⟨p, xs, rfl, hp⟩ | ⟨t, ty, hk⟩
    · refine ⟨_, rfl, _, _, _, _, _, rfl, .ty "tuple", .base (.tup hp), kit_ty (r := true) (by decide +kernel), true, rfl, iteT ⟨_, rfl, p, _, rfl, .inr (.inl (.inl hp)), _, rfl, _, _, rfl, rfl, ?_⟩⟩
      show Q (.bl (decide ((xs.length : Int) ≤ n))) H
      rw [decide_eq_false (by have := hn p xs rfl hp; omega)]
      exact q
    · exact ⟨_, rfl, _, _, _, _, _, rfl, .ty "tuple", ty, hk, false, rfl, iteF q⟩
/-! ### checked_changes -/
def spTupToX : Sp := fun vs H Q E => spTupTo vs H Q E ∨ spTupToO vs H Q E
def spIsChX : Sp := fun vs H Q E => spIsCh vs H Q E ∨ spIsChO vs H Q E
def spCheckedR (cC : Addr) : Sp := fun vs H Q E => ∃ (v : V) (o : Option Nat), vs = [v] ∧ NoChs H v o ∧ Refuses cC "place" (plcV o) H E
theorem ok_checkedR (F : Fun K "checked_changes" "checked_changes" wChecked f fd) (T : OwnX K mg "NoChanges" "place" cC) (B : Bi mg) (G : Gw K mg) (hTu : Has P w K mg base "is_tuple_up_to" 1 ["thing", "most"] spTupToX) (hC : Has P w K mg base "is_change" 3 ["thing"] spIsChX) :
    FnOk P w K mg base (L2N.CX P w) 4 f fd ["changes"] (spCheckedR cC) := by
  obtain ⟨t1, g1⟩ := G.mostch
  refine Fun_okN F scChecked (fun vs H Q E h => ?_) (fun cdv A outer s H vs Q E hr h => ?_)
  · obtain ⟨v, o, rfl, _⟩ := h
    rfl
  · obtain ⟨v, o, rfl, hn, q⟩ := h
    refine ⟨_, pss_cons (ps_if (pt_cmp (pc_isN (pv 0))) (pss_one ps_never) pss_nil)
      (pss_cons (ps_if (pt_not (pt_val (pe_h hTu hr (pa_cons (pv 0) (pa_cons (pe_glob (v := .int 12) rfl g1 ⟨_, rfl⟩) pa_nil))))) (pss_one (ps_raiseX rfl T hr (L2N.takes_of rfl rfl rfl rfl) (pa_cons pe_non pa_nil))) pss_nil)
      (pss_cons (ps_for (passes_of rfl) rfl (pi_enumT (by rfl) B.enum (pa_cons (pv 0) pa_nil)) (pg_tup rfl (pgs_cons (pg_name (i := 1) scChecked.nd rfl (.inl rfl)) (pgs_cons (pg_name (i := 2) scChecked.nd rfl (.inl rfl)) pgs_nil)))
        (pss_one (ps_if (pt_not (pt_val (pe_h hC hr (pa_cons (pv 2) pa_nil)))) (pss_one (ps_raiseX rfl T hr (L2N.takes_of rfl rfl rfl rfl) (pa_cons (pv 1) pa_nil))) pss_nil)))
      (pss_one ps_never))), ?_⟩
    cases o with
    | none =>
      obtain ⟨ho, hnn, hl⟩ := hn
      refine ⟨_, rfl, _, rfl, ?_⟩
      rw [decide_eq_false hnn]
      refine iteF ⟨_, rfl, .inr ⟨v, 12, rfl, ho, fun p xs e hp => ?_, ?_⟩⟩
      · have := hl p xs e hp
        omega
      · exact ⟨_, rfl, iteT ⟨.non, rfl, fun d hd => q.new (Same.refl H) d hd⟩⟩
    | some i =>
      obtain ⟨p, xs, rfl, hp, l12, hi, ha, u, hu, hn⟩ := hn
      refine ⟨_, rfl, _, rfl, iteF ⟨_, rfl, .inl ⟨p, xs, 12, rfl, hp, ?_⟩⟩⟩
      rw [decide_eq_true (by omega)]
      refine ⟨_, rfl, iteF ⟨_, rfl, p, _, rfl, .inl (.inl hp), for_it (walk_enumT (K := K) (a := p) (xs := xs)) (fun j σ H' => (∃ y1 y2, σ = [some (.ref p), y1, y2]) ∧ Same H H' ∧ j ≤ i) ⟨⟨_, _, rfl⟩, Same.refl H, Nat.zero_le _⟩ (fun j σ H' _ h => .inl (.inl (h.2.1 _ _ hp))) ?_ ?_⟩⟩
      · rintro j x σ H1 H2 hj ⟨⟨y1, y2, rfl⟩, s1, hji⟩ ⟨T1, x1, x2, rfl, hT, rfl, ex1, ex2⟩
        cases ex1
        have ex2 : xs[j]? = some x2 := ex2
        have s2 : Same H1 (upd H1 T1 (.tup [.int j, x2])) := same_new hT
        refine ⟨T1, _, rfl, .inl (.inl upd_same), rfl, _, _, rfl, _, _, rfl, rfl, ?_⟩
        rcases Nat.lt_or_eq_of_le hji with hlt | rfl
        · obtain ⟨q1, ch, e1, e2, e3⟩ := ha j hlt
          rw [e1] at ex2
          cases ex2
          exact ⟨_, rfl, .inl ⟨q1, ch, rfl, s2 _ _ (s1 _ _ e2), e3, fun H3 s3 => ⟨true, rfl, iteF ⟨⟨_, _, rfl⟩, (s1.trans s2).trans s3, hlt⟩⟩⟩⟩
        · rw [hu] at ex2
          cases ex2
          exact ⟨_, rfl, .inr ⟨u, rfl, hn.same (s1.trans s2), fun H3 s3 => ⟨false, rfl, iteT ⟨_, rfl, _, rfl, fun d hd => q.new ((s1.trans s2).trans s3) d hd⟩⟩⟩⟩
      · rintro σ H1 ⟨_, _, hle⟩
        omega
def spCheckedX (cC : Addr) : Sp := fun vs H Q E => spChecked vs H Q E ∨ spCheckedR cC vs H Q E
/-! ### row_between, are_one, meaning -/
def HasNX (P : Program) (w : World) (K : PySem.W.Frag) (mg : Str → Option Value) (base : Heap) (x : Str) (st : Stmt) (k : Nat) (ps : List Str) (sp : Sp) : Prop :=
  ∃ f fd, FnOk P w K mg base (L2N.CX P w) k f fd ps sp ∧ mg x = some (.ref f) ∧ FunN K x st f fd
end
end Wl


/-! checked_spots, Land's __init__, check_name, spot, neighbours: let, or refused. -/
namespace Wl
open PySem PySem.Spec PyProof.Rows L2
section
variable {P : Program} {w : World} {K : PySem.W.Frag} {mg : Str → Option Value} {base : Heap} {f C cL cN : Addr} {fd : FuncData}
/-! ### names: check_name, spot, neighbours -/
def nameB (g : Grid) : V → Bool
  | .str z => wdB z && decide (z ∈ names g)
  | _ => false
theorem wv_str {v : V} (h : wvB v = true) : ∃ z, v = .str z ∧ IsWd z := by
  cases v with
  | str z => exact ⟨z, rfl, h⟩
  | _ => cases h
theorem name_str {g : Grid} {v : V} (h : nameB g v = true) : ∃ z, v = .str z ∧ IsWd z ∧ z ∈ names g := by
  cases v with
  | str z =>
    have h' : (wdB z && decide (z ∈ names g)) = true := h
    rw [Bool.and_eq_true, decide_eq_true_eq] at h'
    exact ⟨z, rfl, h'.1, h'.2⟩
  | _ => cases h
def spNameA (K : PySem.W.Frag) (C cN : Addr) : Sp := fun vs H Q E => ∃ (p L : Addr) (g : Grid) (wd : Nat) (v : V), vs = [.ref p, v] ∧ LandAt C H p L g ∧ Good g wd ∧ Wv K H v (wvB v) ∧ (nameB g v = true → ∀ (H' : Hp), Same H H' → Q .non H') ∧ (nameB g v = false → Refuses cN "name" v H E)
theorem ok_nameA (F : Fun K "check_name" "Land.check_name" sCheck f fd) (T : Txt K mg C) (TN : OwnX K mg "NoName" "name" cN) (hI : Has P w K mg base "is_word" 1 ["thing"] (spIsW K)) : FnOk P w K mg base (L2N.CX P w) 2 f fd ["self", "name"] (spNameA K C cN) := by
  refine Fun_okN F scCheck (fun vs H Q E h => ?_) (fun cdv A outer s H vs Q E hr h => ?_)
  · obtain ⟨p, L, g, wd, v, rfl, _⟩ := h
    rfl
  · obtain ⟨p, L, g, wd, v, rfl, hLa, gd, ho, q1, q2⟩ := h
    have hu := hu_of hr
    refine ⟨_, pss_one (ps_if (PW.pt (pw_or (pt_not (pt_val (pe_h hI hr (pa_cons (pv 1) pa_nil)))) (pw_or1 (pt_cmp (pc_dnotin hu (pv 1) (pe_fld (pv 0) rfl)))))) (pss_one (ps_raiseX rfl TN hr (L2N.takes_of rfl rfl rfl rfl) (pa_cons (pv 1) pa_nil))) pss_nil), ?_⟩
    refine ⟨_, rfl, v, wvB v, rfl, ho, fun H1 s1 => ⟨_, rfl, not_b (fun e => ?_) (fun e => ?_)⟩⟩
    · have en : nameB g v = false := by
        cases v with
        | str z =>
          show (wdB z && decide (z ∈ names g)) = false
          rw [show wdB z = false from e, Bool.false_and]
        | _ => rfl
      exact ⟨_, rfl, v, rfl, fun d hd => (q2 en).new s1 d hd⟩
    · obtain ⟨z, rfl, hz⟩ := wv_str e
      obtain ⟨d, dx, hp, ⟨kvs, hd, he⟩, hG⟩ := hLa.keep (kp_same s1)
      have hn : nameB g (.str z) = decide (z ∈ names g) := by
        show (wdB z && decide (z ∈ names g)) = _
        rw [show wdB z = true from hz, Bool.true_and]
      refine ⟨_, rfl, _, rfl, p, C, dx, _, _, rfl, hp, T.cl, T.nS, lf_spots _ _, d, _, rfl, DGet.k (k := Sum.inr z) hd, _, rfl, ?_⟩
      by_cases hm : z ∈ names g
      · obtain ⟨r, c, hc⟩ := mem_names.mp hm
        obtain ⟨t, hv, ht⟩ := ent_some he (by rw [spG_fst]; exact gd.nd) (spG_cell.mpr hc)
        rw [hv]
        exact iteF (q1 (by rw [hn, decide_eq_true hm]) H1 s1)
      · rw [ent_none he (by rw [spG_fst]; exact hm)]
        exact iteT ⟨_, rfl, _, rfl, fun d2 hd2 => (q2 (by rw [hn, decide_eq_false hm])).new s1 d2 hd2⟩
end
end Wl


/-! xs.count(y), items and y flat. -/
namespace Wl
open PySem PySem.Spec PyProof.Rows L2
theorem countP_vals {y : V} {uy : Value} : ∀ {ys : List V} {its : List Value}, Vals ys its → ys.all flatV = true → (∀ z u, RelV z u → flatV z = true → eqU y u = eqV z y) → its.countP (eqU y) = ys.countP fun z => eqV z y
  | _, _, .nil, _, _ => rfl
  | _, _, .cons r t, f, k => by
    rw [List.all_cons, Bool.and_eq_true] at f
    rw [List.countP_cons, List.countP_cons, countP_vals (uy := uy) t f.2 k, k _ _ r f.1]
def rCntF (K : PySem.W.Frag) : V → List V → Hp → VK → Prop := fun x xs H Q => ∃ (a : Addr) (ys : List V) (y : V), x = V.ref a ∧ xs = [y] ∧ SqL K H a ys ∧ flatV y = true ∧ ys.all flatV = true ∧ Q (.int ((ys.countP fun z => eqV z y : Nat) : Int)) H
theorem mt_countF {X : Cx} : MtR X "list.count" (rCntF X.K) := by
  intro pins s σ H x xs v us Q I rx rxs h
  obtain ⟨a, ys, y, rfl, rfl, hs, fy, fys, q⟩ := h
  cases rx
  obtain ⟨uy, rfl, ry⟩ := rxs.one
  obtain ⟨its, rv, ⟨⟨cls, dd, data, sl⟩, n, ho, hc, hdn, hd⟩, hlen⟩ := I.list hs
  simp only at hc hd
  subst hc hd
  refine call_meets PySem.F.slot_list_count ⟨_, ho, rfl⟩ PySem.F.entry_list_count (PySem.F.args_list_count_2 _ _)
    (SeqAt.list_countAt a its.toArray n dd sl uy (eqU y)) ⟨ho, fun u' hu' => mem_eqAt ry fy rv fys u' (by simpa using hu'), ?_⟩
  have ec : its.toArray.toList.countP (eqU y) = ys.countP fun z => eqV z y := countP_vals (uy := uy) rv fys fun z u r f => eqU_of r f
  refine ⟨.int ((ys.countP fun z => eqV z y : Nat) : Int), H, I.tok _, ⟨s.toks, ?_⟩, q⟩
  rw [ec]
end Wl

/-! Of which class a caught exception is: what the laws' own sorting asks. -/
namespace Wl
open PySem PySem.Spec PyProof.Rows L2
/-- the program's exceptions, in their order -/
def exL : List Str := ["NoWord", "NoChanges", "NoText", "NoAge", "NoSure", "NoRings", "NoThings", "NoCount", "NoRow", "NoLand", "NoName", "NoGathering", "NoMap", "NoTelling", "NoBack", "Told", "Full", "Clash", "TooMany"]
def exN (i : Nat) : Str := exL.getD i ""
def baL : List Str := ["WordError", "LandError", "JoinError"]
def baN (i : Nat) : Str := baL.getD i ""
/-- which base the n-th has -/
def baOf (n : Nat) : Nat := if n ≤ 8 then 0 else if n ≤ 14 then 1 else 2
/-- the globals that hold the classes -/
structure SortG (mg : Str → Option Value) (ad bd : Nat → Addr) : Prop where
  own : ∀ i, i < 19 → mg (exN i) = some (.ref (ad i))
  bas : ∀ i, i < 3 → mg (baN i) = some (.ref (bd i))
  ve : mg "ValueError" = none
  le : mg "LookupError" = none
  ae : mg "ArithmeticError" = none
/-- C is the n-th class, as isinstance answers -/
structure SortC (K : PySem.W.Frag) (ad bd : Nat → Addr) (C : Addr) (n : Nat) : Prop where
  ex : ExK K C
  lt : n < 19
  own : ∀ i, i < 19 → PySem.W.kitOne K (.ref C) (.ref (ad i)) = some (decide (i = n))
  bas : ∀ i, i < 3 → PySem.W.kitOne K (.ref C) (.ref (bd i)) = some (decide (i = baOf n))
  ve : PySem.W.kitOne K (.ref C) (.type "ValueError") = some (decide (0 = baOf n))
  le : PySem.W.kitOne K (.ref C) (.type "LookupError") = some (decide (1 = baOf n))
  ae : PySem.W.kitOne K (.ref C) (.type "ArithmeticError") = some (decide (2 = baOf n))
/-- at e: a caught exception, the n-th -/
structure ExcAt (K : PySem.W.Frag) (ad bd : Nat → Addr) (H : Hp) (e : Addr) (n : Nat) : Prop where
  ex : ∃ (C : Addr) (d : Option Addr), H e = some (exH e (.ref C) d) ∧ DxOk H d ∧ SortC K ad bd C n
theorem ExcAt.same {K : PySem.W.Frag} {ad bd : Nat → Addr} {H H' : Hp} {e : Addr} {n : Nat} (h : ExcAt K ad bd H e n) (s : Same H H') : ExcAt K ad bd H' e n := by
  obtain ⟨C, d, h1, h2, h3⟩ := h.ex
  refine ⟨C, d, s _ _ h1, fun dd e => ?_, h3⟩
  obtain ⟨fs, q⟩ := h2 dd e
  exact ⟨fs, s _ _ q⟩
theorem ExcAt.hot {K : PySem.W.Frag} {ad bd : Nat → Addr} {H : Hp} {e : Addr} {n : Nat} (h : ExcAt K ad bd H e n) : HotH e H := by
  obtain ⟨C, d, h1, _⟩ := h.ex
  exact ⟨_, _, h1⟩
/-- isinstance(e, c) of it -/
abbrev tIs (K : PySem.W.Frag) (i : Nat) (c : V) : TE := tCB (rIsX K) (tCons (tVar i) (tCons (tC c) tNil))
section
variable {K : PySem.W.Frag} {ad bd : Nat → Addr} {H : Hp} {e : Addr} {n j : Nat} {σ : L2.St} {R : VK}
theorem is_own (i : Nat) (h : ExcAt K ad bd H e n) (h0 : σ[j]? = some (some (.ref e))) (hi : i < 19) (q : R (.bl (decide (i = n))) H) : tIs K j (.ref (ad i)) σ H R := by
  obtain ⟨C, d, h1, h2, h3⟩ := h.ex
  exact ⟨_, h0, e, C, d, _, _, _, rfl, h1, h2, h3.ex, .own _, h3.own i hi, q⟩
theorem is_bas (i : Nat) (h : ExcAt K ad bd H e n) (h0 : σ[j]? = some (some (.ref e))) (hi : i < 3) (q : R (.bl (decide (i = baOf n))) H) : tIs K j (.ref (bd i)) σ H R := by
  obtain ⟨C, d, h1, h2, h3⟩ := h.ex
  exact ⟨_, h0, e, C, d, _, _, _, rfl, h1, h2, h3.ex, .own _, h3.bas i hi, q⟩
theorem is_ve (h : ExcAt K ad bd H e n) (h0 : σ[j]? = some (some (.ref e))) (q : R (.bl (decide (0 = baOf n))) H) : tIs K j (.ty "ValueError") σ H R := by
  obtain ⟨C, d, h1, h2, h3⟩ := h.ex
  exact ⟨_, h0, e, C, d, _, _, _, rfl, h1, h2, h3.ex, .ty _, h3.ve, q⟩
theorem is_le (h : ExcAt K ad bd H e n) (h0 : σ[j]? = some (some (.ref e))) (q : R (.bl (decide (1 = baOf n))) H) : tIs K j (.ty "LookupError") σ H R := by
  obtain ⟨C, d, h1, h2, h3⟩ := h.ex
  exact ⟨_, h0, e, C, d, _, _, _, rfl, h1, h2, h3.ex, .ty _, h3.le, q⟩
theorem is_ae (h : ExcAt K ad bd H e n) (h0 : σ[j]? = some (some (.ref e))) (q : R (.bl (decide (2 = baOf n))) H) : tIs K j (.ty "ArithmeticError") σ H R := by
  obtain ⟨C, d, h1, h2, h3⟩ := h.ex
  exact ⟨_, h0, e, C, d, _, _, _, rfl, h1, h2, h3.ex, .ty _, h3.ae, q⟩
end
section
variable {X : Cx} {ad bd : Nat → Addr} {j : Nat} {x y z : Str} {p q r s pos : Pos}
/-- the terms of isinstance(e, ..) -/
theorem pe_own (i : Nat) (B : X.mg "isinstance" = none) (G : SortG X.mg ad bd) (hi : i < 19) (hg : Gl X (exN i)) (hN : X.N[j]? = some y) (hv : Vis X.env.scope y) (g1 : Gl X "isinstance" := by rfl) (h1 : (y == ("__debug__" : Str)) = false := by decide) (h2 : (y == ("__classdict__" : Str)) = false := by decide)
    (h3 : (exN i == ("__debug__" : Str)) = false := by decide)
    (he : starEach [.Name y q, .Name (exN i) r] X.env = [(false, eval (.Name y q) X.env), (false, eval (.Name (exN i) r) X.env)] := by rfl) : PE X (.Call (.Name "isinstance" p) [.Name y q, .Name (exN i) r] [] pos) (tIs X.K j (.ref (ad i))) :=
  pe_callB call_isX g1 B (by decide +kernel) (pa_cons (pe_var hN hv h1 h2) (pa_cons (pe_glob (v := .ref (ad i)) hg (G.own i hi) rfl h3) pa_nil) he)
end
def kinds (n : Nat) : List V := (List.range 19).map fun i => .bl (decide (i = n))
theorem kinds_flat (n : Nat) (h : n < 19) : (kinds n).all flatV = true := by
  have : ∀ m : Fin 19, (kinds m.1).all flatV = true := by decide +kernel
  exact this ⟨n, h⟩
theorem kinds_count (n : Nat) (h : n < 19) : (kinds n).countP (fun z => eqV z (.bl true)) = 1 := by
  have : ∀ m : Fin 19, (kinds m.1).countP (fun z => eqV z (.bl true)) = 1 := by decide +kernel
  exact this ⟨n, h⟩
theorem kinds_at (n : Nat) (h : n < 19) : (kinds n)[n]? = some (.bl true) := by
  unfold kinds
  rw [List.getElem?_map, List.getElem?_range h]
  simp
theorem kinds_none (n : Nat) (h : n < 19) (m : Nat) (z : V) (hm : m < n) (hz : (kinds n)[m]? = some z) : eqV z (.bl true) = false := by
  unfold kinds at hz
  rw [List.getElem?_map, List.getElem?_range (by omega)] at hz
  have e : z = .bl (decide (m = n)) := (Option.some.inj hz).symm
  rw [e, decide_eq_false (by omega)]
  decide +kernel
end Wl

/-! What the head reads off the frame of an own exception's class. -/
namespace Wl
open PySem PySem.Spec PyProof.Rows L2
/-- an exception's class: which it is, its field read, caught by its base -/
structure ErrC (K : PySem.W.Frag) (ad bd : Nat → Addr) (C : Addr) (n : Nat) : Prop where
  sort : SortC K ad bd C n
  xf : XfC K C
  all : PySem.W.exmAny K (.ref C) [.ref (bd 0), .ref (bd 1), .ref (bd 2)] = some true
def adK (K : PySem.W.Frag) (i : Nat) : Addr := He.ga K (exN i)
def bdK (K : PySem.W.Frag) (i : Nat) : Addr := He.ga K (baN i)
/-- what is asked of the n-th exception's class, at C; bm: its built-in bases -/
def errB (K : PySem.W.Frag) (C : Addr) (f : Str) (n : Nat) (bm : List Value) (newId : String) : Bool :=
  PySem.W.excInitIn K C bm newId && (PySem.W.excOver K C bm && (He.eqO (PySem.W.findIn K (.ref C) "__setattr__") (some (some (.builtin "object.__setattr__"))) && (He.eqO (PySem.W.takerIn K C f) (some none) &&
  (He.eqO (PySem.W.findIn K (.ref C) f) (some none) && (decide (PySem.W.subIn K (.ref C) (.type "BaseException") = some true) && (decide (PySem.W.typeIn K (.ref C) = some (.type "type")) && (PySem.W.hasDictIn K C && (PySem.W.keepIn K (.ref C) &&
  ((PySem.W.clsIn K C).isSome && (He.eqO (PySem.W.findIn K (.ref C) "__getattribute__") (some (some (.builtin "BaseException.__getattribute__"))) && (He.eqO (PySem.W.findIn K (.ref C) "__getattr__") (some none) &&
  (He.eqO (PySem.W.findIn K (.ref C) "__class__") (some (some (.builtin "object.__class__"))) && (He.eqO (PySem.W.specialIn K (.builtin "object.__class__") "__get__") (some (some (.builtin "getset_descriptor.__get__"))) &&
  (decide (PySem.W.takesIn K (.builtin "object.__class__") = some true) && (decide (PySem.W.mroIn K C (.type "object") = some true) && (((List.range 19).all fun i => decide (PySem.W.kitOne K (.ref C) (.ref (adK K i)) = some (decide (i = n)))) &&
  (((List.range 3).all fun i => decide (PySem.W.kitOne K (.ref C) (.ref (bdK K i)) = some (decide (i = baOf n)))) && (decide (PySem.W.kitOne K (.ref C) (.type "ValueError") = some (decide (0 = baOf n))) &&
  (decide (PySem.W.kitOne K (.ref C) (.type "LookupError") = some (decide (1 = baOf n))) && (decide (PySem.W.kitOne K (.ref C) (.type "ArithmeticError") = some (decide (2 = baOf n))) &&
  (decide (PySem.W.exmAny K (.ref C) [.ref (bdK K 0), .ref (bdK K 1), .ref (bdK K 2)] = some true) && decide (n < 19))))))))))))))))))))))
def bmOf (n : Nat) : List Value := if n ≤ 8 then [.type "ValueError", .type "Exception", .type "BaseException", .type "object"] else if n ≤ 14 then [.type "LookupError", .type "Exception", .type "BaseException", .type "object"] else [.type "ArithmeticError", .type "Exception", .type "BaseException", .type "object"]
def newOf (n : Nat) : String := if n ≤ 8 then "ValueError.__new__" else if n ≤ 14 then "LookupError.__new__" else "ArithmeticError.__new__"
theorem base_of (n : Nat) : ∃ B initId, BaseX B (newOf n) initId (bmOf n) := by
  unfold newOf bmOf
  by_cases h : n ≤ 8
  · rw [if_pos h, if_pos h]
    exact ⟨_, _, baseVE⟩
  · rw [if_neg h, if_neg h]
    by_cases h2 : n ≤ 14
    · rw [if_pos h2, if_pos h2]
      exact ⟨_, _, baseLE⟩
    · rw [if_neg h2, if_neg h2]
      exact ⟨_, _, baseAE⟩
section
variable {K : PySem.W.Frag} {mg : Str → Option Value} {C : Addr} {f x : Str} {n : Nat}
def errOf (K : PySem.W.Frag) (n : Nat) (f : Str) : Bool := errB K (adK K n) f n (bmOf n) (newOf n)
theorem err_ok (h : errB K C f n (bmOf n) (newOf n) = true) : ErrC K (adK K) (bdK K) C n ∧
    ∀ {q : Str} {st : Stmt} {fI : Addr} {fd : FuncData} {x : Str} {q1 q2 q3 q4 : Pos}, mg x = some (.ref C) → Meth K C "__init__" fI → Fun K "__init__" q st fI fd → Binds K fd ["self", f] [] → FnScope ["self", f] ["self", f] (defScope st) → ((["self", f] : List Str).all fun y => decide ((defScope st).names.lookup y = some .local)) = true →
      defBody st = [.Assign [.Attribute (.Name "self" q1) f q2] (.Name f q3) q4] → OwnX K mg x f C := by
  unfold errB at h
  simp only [Bool.and_eq_true] at h
  obtain ⟨h1, h2, h3, h4, h5, h6, h7, h8, h9, h10, h11, h12, h13, h14, h15, h16, h17, h18, h19, h20, h21, h22, h23⟩ := h
  have hsub := of_decide_eq_true h6
  refine ⟨⟨⟨⟨h10, He.eqO_ok h11, He.eqO_ok h12, hsub, He.eqO_ok h13, He.eqO_ok h14, of_decide_eq_true h15, of_decide_eq_true h16⟩, of_decide_eq_true h23, fun i hi => of_decide_eq_true (List.all_eq_true.mp h17 i (List.mem_range.mpr hi)), fun i hi => of_decide_eq_true (List.all_eq_true.mp h18 i (List.mem_range.mpr hi)),
    of_decide_eq_true h19, of_decide_eq_true h20, of_decide_eq_true h21⟩, ⟨He.eqO_ok h11, He.eqO_ok h12, hsub, h8⟩, of_decide_eq_true h22⟩, ?_⟩
  intro q st fI fd x q1 q2 q3 q4 hg hm hF hB hS hL hb
  obtain ⟨B, ini, BX⟩ := base_of n
  refine ⟨hg, h9, ⟨B, newOf n, ini, bmOf n, BX, h1, h2⟩, He.eqO_ok h3, He.eqO_ok h4, He.eqO_ok h5, hsub, of_decide_eq_true h7, h8, ⟨fI, fd, q, st, q1, q2, q3, q4, hm.at_, ?_, hF, hB, hS, fun y hy => of_decide_eq_true (List.all_eq_true.mp hL y hy), hb⟩⟩
  have z : (PySem.W.typeIn K (.ref fI) == some (.type "function")) = true := hm.fn
  exact beq_iff_eq.mp z
/-- the globals -/
def sortB (K : PySem.W.Frag) : Bool := ((List.range 19).all fun i => (He.Fa.glo (exN i)).ok K) && (((List.range 3).all fun i => (He.Fa.glo (baN i)).ok K) && ((He.Fa.free "ValueError").ok K && ((He.Fa.free "LookupError").ok K && (He.Fa.free "ArithmeticError").ok K)))
theorem sort_ok {h : Heap} (X : K.In h) (G : h.Ns mainGlobals mg) (c : sortB K = true) : SortG mg (adK K) (bdK K) := by
  unfold sortB at c
  simp only [Bool.and_eq_true] at c
  obtain ⟨c1, c2, c3, c4, c5⟩ := c
  exact ⟨fun i hi => He.glo_ok X G (List.all_eq_true.mp c1 i (List.mem_range.mpr hi)), fun i hi => He.glo_ok X G (List.all_eq_true.mp c2 i (List.mem_range.mpr hi)), He.free_ok X G c3, He.free_ok X G c4, He.free_ok X G c5⟩
end
end Wl

/-! An own exception class without own __init__, raised with a text: no own dict. -/
namespace Wl
open PySem PySem.Spec PyProof.Rows L2
structure OwnN (K : PySem.W.Frag) (mg : Str → Option Value) (x : Str) (C : Addr) : Prop where
  gC : mg x = some (.ref C)
  kC : PySem.W.keepIn K (.ref C) = true
  bas : ∃ B newId initId bm, BaseX B newId initId bm ∧ PySem.W.excIn K C bm newId = true
  exC : PySem.W.subIn K (.ref C) (.type "BaseException") = some true
  tyC : PySem.W.typeIn K (.ref C) = some (.type "type")
section
variable {X : Cx} {C : Addr}
theorem ps_raiseN {x m : Str} {j : Nat} {W : WX} {p p2 pos pos2 : Pos} (hc : X.calm = true) (T : OwnN X.K X.mg x C) (tk : L2N.Takes X W) (hg : Gl X x := by rfl) (hdb : (x == ("__debug__" : Str)) = false := by decide) :
    PS X (.Raise (some (.Call (.Name x p) [.Constant (.str m) j p2] [] pos)) none pos2) (fun _ σ H => W (.ref C) none σ H) := by
  obtain ⟨B, nI, iI, bm, BX, q⟩ := T.bas
  exact L2N.ps_raise hc tk (L2N.pmk_own BX.base q T.gC T.kC (raises_own T.exC T.tyC) hg hdb)
end
end Wl

/-! What the head reads off the frame of an own exception's class without own __init__. -/
namespace Wl
open PySem PySem.Spec PyProof.Rows L2
def errNB (K : PySem.W.Frag) (C : Addr) (n : Nat) (bm : List Value) (newId : String) : Bool :=
  PySem.W.excIn K C bm newId && (decide (PySem.W.subIn K (.ref C) (.type "BaseException") = some true) && (decide (PySem.W.typeIn K (.ref C) = some (.type "type")) && (PySem.W.keepIn K (.ref C) &&
  ((PySem.W.clsIn K C).isSome && (He.eqO (PySem.W.findIn K (.ref C) "__getattribute__") (some (some (.builtin "BaseException.__getattribute__"))) && (He.eqO (PySem.W.findIn K (.ref C) "__getattr__") (some none) &&
  (He.eqO (PySem.W.findIn K (.ref C) "__class__") (some (some (.builtin "object.__class__"))) && (He.eqO (PySem.W.specialIn K (.builtin "object.__class__") "__get__") (some (some (.builtin "getset_descriptor.__get__"))) &&
  (decide (PySem.W.takesIn K (.builtin "object.__class__") = some true) && (decide (PySem.W.mroIn K C (.type "object") = some true) && (((List.range 19).all fun i => decide (PySem.W.kitOne K (.ref C) (.ref (adK K i)) = some (decide (i = n)))) &&
  (((List.range 3).all fun i => decide (PySem.W.kitOne K (.ref C) (.ref (bdK K i)) = some (decide (i = baOf n)))) && (decide (PySem.W.kitOne K (.ref C) (.type "ValueError") = some (decide (0 = baOf n))) &&
  (decide (PySem.W.kitOne K (.ref C) (.type "LookupError") = some (decide (1 = baOf n))) && (decide (PySem.W.kitOne K (.ref C) (.type "ArithmeticError") = some (decide (2 = baOf n))) &&
  decide (n < 19))))))))))))))))
def errNOf (K : PySem.W.Frag) (n : Nat) : Bool := errNB K (adK K n) n (bmOf n) (newOf n)
theorem errN_ok {K : PySem.W.Frag} {mg : Str → Option Value} {C : Addr} {n : Nat} (h : errNB K C n (bmOf n) (newOf n) = true) : SortC K (adK K) (bdK K) C n ∧ ∀ {x : Str}, mg x = some (.ref C) → OwnN K mg x C := by
  unfold errNB at h
  simp only [Bool.and_eq_true] at h
  obtain ⟨h1, h6, h7, h9, h10, h11, h12, h13, h14, h15, h16, h17, h18, h19, h20, h21, h23⟩ := h
  have hsub := of_decide_eq_true h6
  obtain ⟨B, ini, BX⟩ := base_of n
  exact ⟨⟨⟨h10, He.eqO_ok h11, He.eqO_ok h12, hsub, He.eqO_ok h13, He.eqO_ok h14, of_decide_eq_true h15, of_decide_eq_true h16⟩, of_decide_eq_true h23, fun i hi => of_decide_eq_true (List.all_eq_true.mp h17 i (List.mem_range.mpr hi)), fun i hi => of_decide_eq_true (List.all_eq_true.mp h18 i (List.mem_range.mpr hi)),
    of_decide_eq_true h19, of_decide_eq_true h20, of_decide_eq_true h21⟩, fun hg => ⟨hg, h9, ⟨B, newOf n, ini, bmOf n, BX, h1⟩, hsub, of_decide_eq_true h7⟩⟩
end Wl

namespace Wl
open PySem PySem.Spec PyProof.Rows L2
abbrev sSort : Stmt := topS 90
def sortN : List Str := ["no word", "changes", "text", "age", "sure", "rings", "things", "count", "row", "land", "name", "gathering", "map", "telling", "back", "told", "full", "clash", "too many"]
def nameW (n : Nat) : Str := sortN.getD n ""
def okB1 (n : Nat) : Bool := Nat.blt n 19
theorem okN_lt {n : Nat} (h : okB1 n = true) : n < 19 := Nat.le_of_ble_eq_true h
theorem all19 {p : Nat → Prop} {n : Nat} (h : okB1 n = true) (k : ∀ m : Fin 19, p m.1) : p n := k ⟨n, okN_lt h⟩
abbrev sB (n : Nat) : List V := [.bl (decide (0 = baOf n)), .bl (decide (1 = baOf n)), .bl (decide (2 = baOf n))]
abbrev dB (n : Nat) : PyData := .list [.bool (decide (0 = baOf n)), .bool (decide (1 = baOf n)), .bool (decide (2 = baOf n))]
abbrev sD (m : Bool) (n : Nat) : List V := [.bl (decide ((n : Int) < 9)), .bl m, .bl (decide (14 < (n : Int)))]
abbrev dD (m : Bool) (n : Nat) : PyData := .list [.bool (decide ((n : Int) < 9)), .bool m, .bool (decide (14 < (n : Int)))]
section
variable {P : Program} {w : World} {K : PySem.W.Frag} {mg : Str → Option Value} {base : Heap} {f : Addr} {fd : FuncData} {ad bd : Nat → Addr}
theorem sortN_at {n : Nat} (h : okB1 n = true) : (sortN.map V.str)[n]? = some (.str (nameW n)) := all19 (p := fun n => (sortN.map V.str)[n]? = some (.str (nameW n))) h (by decide +kernel)
theorem eq_due1 {n : Nat} (h : okB1 n = true) (h9 : (9 : Int) ≤ n) : PyData.eqv (dB n) (dD (decide ((n : Int) < 15)) n) = true :=
  all19 (p := fun n => (9 : Int) ≤ n → PyData.eqv (dB n) (dD (decide ((n : Int) < 15)) n) = true) h (by decide +kernel) h9
theorem eq_due2 {n : Nat} (h : okB1 n = true) (h9 : ¬ (9 : Int) ≤ n) : PyData.eqv (dB n) (dD false n) = true :=
  all19 (p := fun n => ¬ (9 : Int) ≤ n → PyData.eqv (dB n) (dD false n) = true) h (by decide +kernel) h9
def spSort (K : PySem.W.Frag) (ad bd : Nat → Addr) : Addr → Sp := fun a vs H Q _ => ∃ n, vs = [.ref a] ∧ ExcAt K ad bd H a n ∧ okB1 n = true ∧ ∀ H', Same H H' → Q (.str (nameW n)) H'
abbrev nSort : List Str := ["_law_e", "_law_some", "_law_at", "_law_bases", "_law_kinds", "_law_due", "_law_texts"]
theorem scSort : FnScope nSort ["_law_e"] (defScope sSort) := ⟨rfl, rfl, rfl, by decide +kernel, rfl, by decide +kernel, by decide +kernel⟩
theorem ok_sort (F : Fun K "_law_sort" "_law_sort" sSort f fd) (B : Bi mg) (G : SortG mg ad bd) : FnT P w K mg base CX0 1 f fd ["_law_e"] (spSort K ad bd) := by
  refine FunT_ok F scSort (fun a vs H Q E h => ?_) (fun cdv A outer s H vs Q E a hot hh hr h => ?_)
  · obtain ⟨n, rfl, _⟩ := h
    rfl
  · obtain ⟨n, rfl, hE, hok, q⟩ := h
    have hn : n < 19 := okN_lt hok
    have hot2 : (cxT CX0 P w K mg base nSort "_law_sort" (defScope sSort) f cdv A outer s H E).A.handled = some (.ref a) := hot
    have io : ∀ (i : Nat) (hi : i < 19) {r p q pos : Pos} (hg : Gl (cxT CX0 P w K mg base nSort "_law_sort" (defScope sSort) f cdv A outer s H E) (exN i)) (h3 : (exN i == ("__debug__" : Str)) = false)
      (he : starEach [.Name "_law_e" q, .Name (exN i) r] (cxT CX0 P w K mg base nSort "_law_sort" (defScope sSort) f cdv A outer s H E).env = [(false, eval (.Name "_law_e" q) (cxT CX0 P w K mg base nSort "_law_sort" (defScope sSort) f cdv A outer s H E).env), (false, eval (.Name (exN i) r) (cxT CX0 P w K mg base nSort "_law_sort" (defScope sSort) f cdv A outer s H E).env)]),
      PE (cxT CX0 P w K mg base nSort "_law_sort" (defScope sSort) f cdv A outer s H E) (.Call (.Name "isinstance" p) [.Name "_law_e" q, .Name (exN i) r] [] pos) (tIs K 0 (.ref (ad i))) :=
      fun i hi {r p q pos} hg h3 he => pe_own (j := 0) i B.isi G hi hg rfl (.inl rfl) rfl (by decide) (by decide) h3 he
    have ib : ∀ (x : Str) (c : V) (u : Value) {r p q pos : Pos} (hm : mg x = some u) (rc : RelV c u) (hg : Gl (cxT CX0 P w K mg base nSort "_law_sort" (defScope sSort) f cdv A outer s H E) x) (h3 : (x == ("__debug__" : Str)) = false)
      (he : starEach [.Name "_law_e" q, .Name x r] (cxT CX0 P w K mg base nSort "_law_sort" (defScope sSort) f cdv A outer s H E).env = [(false, eval (.Name "_law_e" q) (cxT CX0 P w K mg base nSort "_law_sort" (defScope sSort) f cdv A outer s H E).env), (false, eval (.Name x r) (cxT CX0 P w K mg base nSort "_law_sort" (defScope sSort) f cdv A outer s H E).env)]),
      PE (cxT CX0 P w K mg base nSort "_law_sort" (defScope sSort) f cdv A outer s H E) (.Call (.Name "isinstance" p) [.Name "_law_e" q, .Name x r] [] pos) (tIs K 0 c) :=
      fun x c u {r p q pos} hm rc hg h3 he => pe_callB call_isX (by rfl) B.isi (by decide +kernel) (pa_cons (pv 0) (pa_cons (pe_glob (v := c) hg hm rc h3) pa_nil) he)
    have hu : (cxT CX0 P w K mg base nSort "_law_sort" (defScope sSort) f cdv A outer s H E).A.units + 64 < cLine := by
      have := hr.un
      show (A.deeper (envOfC "_law_sort" (defScope sSort) s.heap.objs.size f cdv)).units + 64 < cLine
      omega
    refine ⟨_, pss_cons (ps_set (i := 1) scSort.nd rfl (.inl rfl) (pe_lst (pa_cons (io 0 (by decide) (by rfl) (by decide) (by rfl)) (pa_cons (io 1 (by decide) (by rfl) (by decide) (by rfl)) (pa_cons (io 2 (by decide) (by rfl) (by decide) (by rfl)) (pa_cons (io 3 (by decide) (by rfl) (by decide) (by rfl)) pa_nil))))))
      (pss_cons (ps_set (i := 1) scSort.nd rfl (.inl rfl) (pe_op op_cat (pv 1) (pe_lst (pa_cons (io 4 (by decide) (by rfl) (by decide) (by rfl)) (pa_cons (io 5 (by decide) (by rfl) (by decide) (by rfl)) (pa_cons (io 6 (by decide) (by rfl) (by decide) (by rfl)) (pa_cons (io 7 (by decide) (by rfl) (by decide) (by rfl)) pa_nil)))))))
      (pss_cons (ps_set (i := 1) scSort.nd rfl (.inl rfl) (pe_op op_cat (pv 1) (pe_lst (pa_cons (io 8 (by decide) (by rfl) (by decide) (by rfl)) (pa_cons (io 9 (by decide) (by rfl) (by decide) (by rfl)) (pa_cons (io 10 (by decide) (by rfl) (by decide) (by rfl)) (pa_cons (io 11 (by decide) (by rfl) (by decide) (by rfl)) pa_nil)))))))
      (pss_cons (ps_set (i := 1) scSort.nd rfl (.inl rfl) (pe_op op_cat (pv 1) (pe_lst (pa_cons (io 12 (by decide) (by rfl) (by decide) (by rfl)) (pa_cons (io 13 (by decide) (by rfl) (by decide) (by rfl)) (pa_cons (io 14 (by decide) (by rfl) (by decide) (by rfl)) (pa_cons (io 15 (by decide) (by rfl) (by decide) (by rfl)) pa_nil)))))))
      (pss_cons (ps_set (i := 1) scSort.nd rfl (.inl rfl) (pe_op op_cat (pv 1) (pe_lst (pa_cons (io 16 (by decide) (by rfl) (by decide) (by rfl)) (pa_cons (io 17 (by decide) (by rfl) (by decide) (by rfl)) (pa_cons (io 18 (by decide) (by rfl) (by decide) (by rfl)) pa_nil))))))
      (pss_cons (ps_if (pt_cmpR op_ne (pe_bm PySem.F.plainAttrs_list PySem.F.slot_list_count PySem.F.type_list_count mt_countF (pv 1) (pa_cons pe_bl pa_nil)) pe_int (nomark _)) (pss_one ps_never) pss_nil)
      (pss_cons (ps_set (i := 2) scSort.nd rfl (.inl rfl) (pe_bm PySem.F.plainAttrs_list PySem.F.slot_list_index PySem.F.type_list_index mt_index (pv 1) (pa_cons pe_bl pa_nil)))
      (pss_cons (ps_set (i := 3) scSort.nd rfl (.inl rfl) (pe_lst (pa_cons (ib "WordError" (.ref (bd 0)) _ (G.bas 0 (by decide)) rfl (by rfl) (by decide) (by rfl)) (pa_cons (ib "LandError" (.ref (bd 1)) _ (G.bas 1 (by decide)) rfl (by rfl) (by decide) (by rfl)) (pa_cons (ib "JoinError" (.ref (bd 2)) _ (G.bas 2 (by decide)) rfl (by rfl) (by decide) (by rfl)) pa_nil)))))
      (pss_cons (ps_set (i := 4) scSort.nd rfl (.inl rfl) (pe_lst (pa_cons (pe_callB call_isX (by rfl) B.isi (by decide +kernel) (pa_cons (pv 0) (pa_cons (pe_bltn (v := .ty "ValueError") (by rfl) G.ve (by decide +kernel) rfl) pa_nil))) (pa_cons (pe_callB call_isX (by rfl) B.isi (by decide +kernel) (pa_cons (pv 0) (pa_cons (pe_bltn (v := .ty "LookupError") (by rfl) G.le (by decide +kernel) rfl) pa_nil)))
          (pa_cons (pe_callB call_isX (by rfl) B.isi (by decide +kernel) (pa_cons (pv 0) (pa_cons (pe_bltn (v := .ty "ArithmeticError") (by rfl) G.ae (by decide +kernel) rfl) pa_nil))) pa_nil)))))
      (pss_cons (ps_set (i := 5) scSort.nd rfl (.inl rfl) (pe_lst (pa_cons (pe_cmpR op_lt (pv 2) pe_int (nomark _)) (pa_cons (pe_chain op_le op_lt pe_int (pv 2) pe_int) (pa_cons (pe_cmpR op_gt (pv 2) pe_int (nomark _)) pa_nil)))))
      (pss_cons (ps_if (PW.pt (pw_or (pt_cmpR (op_neD hu) (pv 3) (pv 5) (nomark _)) (pw_or1 (pt_cmpR (op_neD hu) (pv 4) (pv 5) (nomark _))))) (pss_one ps_never) pss_nil)
      (pss_cons (ps_set (i := 6) scSort.nd rfl (.inl rfl) (pe_lst (pa_cons pe_str (pa_cons pe_str (pa_cons pe_str (pa_cons pe_str (pa_cons pe_str (pa_cons pe_str (pa_cons pe_str (pa_cons pe_str (pa_cons pe_str (pa_cons pe_str (pa_cons pe_str pa_nil)))))))))))))
      (pss_one (ps_ret (pe_ix ix_list (pe_op op_cat (pv 6) (pe_lst (pa_cons pe_str (pa_cons pe_str (pa_cons pe_str (pa_cons pe_str (pa_cons pe_str (pa_cons pe_str (pa_cons pe_str (pa_cons pe_str pa_nil)))))))))) (pv 2) (fun _ _ => rfl))))))))))))))), ?_⟩
    refine (is_own 0 hE rfl (by decide) (is_own 1 hE rfl (by decide) (is_own 2 hE rfl (by decide) (is_own 3 hE rfl (by decide) ⟨lz, fun p1 h1 => ?_⟩))))
    have hE := hE.same (same_new (o := .lst ((kinds n).take 4)) h1)
    have s1 : Same H (upd H p1 (.lst ((kinds n).take 4))) := same_new h1
    have a1 : upd H p1 (.lst ((kinds n).take 4)) p1 = some (.lst ((kinds n).take 4)) := upd_same
    show tSeq _ _ _ _ (upd H p1 (.lst ((kinds n).take 4)))
    generalize upd H p1 (.lst ((kinds n).take 4)) = H1 at hE s1 a1
    refine ⟨_, rfl, (is_own 4 hE rfl (by decide) (is_own 5 hE rfl (by decide) (is_own 6 hE rfl (by decide) (is_own 7 hE rfl (by decide) ⟨lz, fun q0 g0 => ⟨p1, q0, _, _, rfl, rfl, (same_new g0) _ _ a1, upd_same, lz, fun r0 k0 => ?_⟩⟩))))⟩
    have t0 : Same H1 (upd (upd H1 q0 (.lst (((kinds n).drop 4).take 4))) r0 (.lst ((kinds n).take 8))) := (same_new g0).trans (same_new k0)
    have hE := hE.same t0
    have s1 := s1.trans t0
    have a1 : upd (upd H1 q0 (.lst (((kinds n).drop 4).take 4))) r0 (.lst ((kinds n).take 8)) r0 = some (.lst ((kinds n).take 8)) := upd_same
    show tSeq _ _ _ _ (upd (upd H1 q0 (.lst (((kinds n).drop 4).take 4))) r0 (.lst ((kinds n).take 8)))
    generalize upd (upd H1 q0 (.lst (((kinds n).drop 4).take 4))) r0 (.lst ((kinds n).take 8)) = HB0 at hE s1 a1
    clear t0 g0 k0
    refine ⟨_, rfl, (is_own 8 hE rfl (by decide) (is_own 9 hE rfl (by decide) (is_own 10 hE rfl (by decide) (is_own 11 hE rfl (by decide) ⟨lz, fun q1 g1 => ⟨r0, q1, _, _, rfl, rfl, (same_new g1) _ _ a1, upd_same, lz, fun r1 k1 => ?_⟩⟩))))⟩
    have t1 : Same HB0 (upd (upd HB0 q1 (.lst (((kinds n).drop 8).take 4))) r1 (.lst ((kinds n).take 12))) := (same_new g1).trans (same_new k1)
    have hE := hE.same t1
    have s1 := s1.trans t1
    have a1 : upd (upd HB0 q1 (.lst (((kinds n).drop 8).take 4))) r1 (.lst ((kinds n).take 12)) r1 = some (.lst ((kinds n).take 12)) := upd_same
    show tSeq _ _ _ _ (upd (upd HB0 q1 (.lst (((kinds n).drop 8).take 4))) r1 (.lst ((kinds n).take 12)))
    generalize upd (upd HB0 q1 (.lst (((kinds n).drop 8).take 4))) r1 (.lst ((kinds n).take 12)) = HB1 at hE s1 a1
    clear t1 g1 k1
    refine ⟨_, rfl, (is_own 12 hE rfl (by decide) (is_own 13 hE rfl (by decide) (is_own 14 hE rfl (by decide) (is_own 15 hE rfl (by decide) ⟨lz, fun q2 g2 => ⟨r1, q2, _, _, rfl, rfl, (same_new g2) _ _ a1, upd_same, lz, fun r2 k2 => ?_⟩⟩))))⟩
    have t2 : Same HB1 (upd (upd HB1 q2 (.lst (((kinds n).drop 12).take 4))) r2 (.lst ((kinds n).take 16))) := (same_new g2).trans (same_new k2)
    have hE := hE.same t2
    have s1 := s1.trans t2
    have a1 : upd (upd HB1 q2 (.lst (((kinds n).drop 12).take 4))) r2 (.lst ((kinds n).take 16)) r2 = some (.lst ((kinds n).take 16)) := upd_same
    show tSeq _ _ _ _ (upd (upd HB1 q2 (.lst (((kinds n).drop 12).take 4))) r2 (.lst ((kinds n).take 16)))
    generalize upd (upd HB1 q2 (.lst (((kinds n).drop 12).take 4))) r2 (.lst ((kinds n).take 16)) = HB2 at hE s1 a1
    clear t2 g2 k2
    refine ⟨_, rfl, (is_own 16 hE rfl (by decide) (is_own 17 hE rfl (by decide) (is_own 18 hE rfl (by decide) ⟨lz, fun q3 g3 => ⟨r2, q3, _, _, rfl, rfl, (same_new g3) _ _ a1, upd_same, lz, fun r3 k3 => ?_⟩⟩)))⟩
    have t3 : Same HB2 (upd (upd HB2 q3 (.lst (((kinds n).drop 16).take 3))) r3 (.lst ((kinds n).take 19))) := (same_new g3).trans (same_new k3)
    have hE := hE.same t3
    have s1 := s1.trans t3
    have a1 : upd (upd HB2 q3 (.lst (((kinds n).drop 16).take 3))) r3 (.lst ((kinds n).take 19)) r3 = some (.lst ((kinds n).take 19)) := upd_same
    show tSeq _ _ _ _ (upd (upd HB2 q3 (.lst (((kinds n).drop 16).take 3))) r3 (.lst ((kinds n).take 19)))
    generalize upd (upd HB2 q3 (.lst (((kinds n).drop 16).take 3))) r3 (.lst ((kinds n).take 19)) = HB3 at hE s1 a1
    clear t3 g3 k3
    have a1 : HB3 r3 = some (.lst (kinds n)) := a1
    refine ⟨_, rfl, .inl ⟨rfl, _, .inl (.inl a1)⟩, r3, kinds n, .bl true, rfl, rfl, .inl (.inl a1), rfl, kinds_flat n hn, rfl, _, rfl, ?_⟩
    rw [kinds_count n hn]
    refine iteNS (by simp) ?_
    refine ⟨_, rfl, .inl ⟨rfl, _, .inl (.inl a1)⟩, r3, kinds n, .bl true, n, .bl true, rfl, rfl, .inl (.inl a1), rfl, kinds_flat n hn, kinds_at n hn, rfl, fun m z' hm hz => kinds_none n hn m z' hm hz, ?_⟩
    clear io ib hot hh
    refine is_bas 0 hE rfl (by decide) (is_bas 1 hE rfl (by decide) (is_bas 2 hE rfl (by decide) ⟨lz, fun p4 h4 => ?_⟩))
    have k5 : Same HB3 (upd HB3 p4 (.lst (sB n))) := same_new h4
    have hE := hE.same k5
    have s1 := s1.trans k5
    have aB : upd HB3 p4 (.lst (sB n)) p4 = some (.lst (sB n)) := upd_same
    generalize upd HB3 p4 (.lst (sB n)) = H5 at hE s1 aB
    clear k5
    refine is_ve hE rfl (is_le hE rfl (is_ae hE rfl ⟨lz, fun p5 h5 => ?_⟩))
    have k6 : Same H5 (upd H5 p5 (.lst (sB n))) := same_new h5
    have s1 := s1.trans k6
    have aB := k6 _ _ aB
    have aP : upd H5 p5 (.lst (sB n)) p5 = some (.lst (sB n)) := upd_same
    generalize upd H5 p5 (.lst (sB n)) = H6 at s1 aB aP
    clear k6
    refine ⟨_, rfl, _, _, rfl, rfl, _, rfl, _, _, rfl, rfl, _, rfl, ite_b (fun e => ?_) (fun e => ?_)⟩
    · refine ⟨_, _, rfl, rfl, _, rfl, _, _, rfl, rfl, lz, fun p6 h6 => ?_⟩
      have k7 : Same H6 (upd H6 p6 (.lst (sD (decide ((n : Int) < 15)) n))) := same_new h6
      have s1 := s1.trans k7
      have aB := k7 _ _ aB
      have aP := k7 _ _ aP
      have aD : upd H6 p6 (.lst (sD (decide ((n : Int) < 15)) n)) p6 = some (.lst (sD (decide ((n : Int) < 15)) n)) := upd_same
      show tSeq _ _ _ _ (upd H6 p6 (.lst (sD (decide ((n : Int) < 15)) n)))
      generalize upd H6 p6 (.lst (sD (decide ((n : Int) < 15)) n)) = H7 at s1 aB aP aD
      clear k7
      have eB : ∀ {p : Addr}, H7 p = some (.lst (sB n)) → Dp K H7 (.ref p) (dB n) := fun h => .lst (.inl (.inl h)) (.cons (.bl _) (.cons (.bl _) (.cons (.bl _) .nil)))
      have eD : Dp K H7 (.ref p6) (dD (decide ((n : Int) < 15)) n) := .lst (.inl (.inl aD)) (.cons (.bl _) (.cons (.bl _) (.cons (.bl _) .nil)))
      refine ⟨_, rfl, _, rfl, _, _, eB aB, eD, rfl, rfl, _, rfl, ?_⟩
      rw [eq_due1 hok (of_decide_eq_true e)]
      refine iteF ⟨_, rfl, _, rfl, _, _, eB aP, eD, rfl, rfl, _, rfl, ?_⟩
      rw [eq_due1 hok (of_decide_eq_true e)]
      refine iteF ?_
      refine ⟨lz, fun t1 m1 => ?_⟩
      refine ⟨_, rfl, lz, fun t4 m4 => ⟨t1, t4, _, _, rfl, rfl, (same_new m4) _ _ upd_same, upd_same, lz, fun t5 m5 => ⟨_, rfl, t5, sortN.map V.str, (n : Int), _, rfl, rfl, .inl (.inl upd_same), atI_nat (sortN_at hok), ?_⟩⟩⟩
      exact q _ (s1.trans ((same_new m1).trans ((same_new m4).trans (same_new m5))))
    · refine ⟨_, rfl, _, _, rfl, rfl, lz, fun p6 h6 => ?_⟩
      have k7 : Same H6 (upd H6 p6 (.lst (sD (false) n))) := same_new h6
      have s1 := s1.trans k7
      have aB := k7 _ _ aB
      have aP := k7 _ _ aP
      have aD : upd H6 p6 (.lst (sD (false) n)) p6 = some (.lst (sD (false) n)) := upd_same
      show tSeq _ _ _ _ (upd H6 p6 (.lst (sD (false) n)))
      generalize upd H6 p6 (.lst (sD (false) n)) = H7 at s1 aB aP aD
      clear k7
      have eB : ∀ {p : Addr}, H7 p = some (.lst (sB n)) → Dp K H7 (.ref p) (dB n) := fun h => .lst (.inl (.inl h)) (.cons (.bl _) (.cons (.bl _) (.cons (.bl _) .nil)))
      have eD : Dp K H7 (.ref p6) (dD (false) n) := .lst (.inl (.inl aD)) (.cons (.bl _) (.cons (.bl _) (.cons (.bl _) .nil)))
      refine ⟨_, rfl, _, rfl, _, _, eB aB, eD, rfl, rfl, _, rfl, ?_⟩
      rw [eq_due2 hok (of_decide_eq_false e)]
      refine iteF ⟨_, rfl, _, rfl, _, _, eB aP, eD, rfl, rfl, _, rfl, ?_⟩
      rw [eq_due2 hok (of_decide_eq_false e)]
      refine iteF ?_
      refine ⟨lz, fun t1 m1 => ?_⟩
      refine ⟨_, rfl, lz, fun t4 m4 => ⟨t1, t4, _, _, rfl, rfl, (same_new m4) _ _ upd_same, upd_same, lz, fun t5 m5 => ⟨_, rfl, t5, sortN.map V.str, (n : Int), _, rfl, rfl, .inl (.inl upd_same), atI_nat (sortN_at hok), ?_⟩⟩⟩
      exact q _ (s1.trans ((same_new m1).trans ((same_new m4).trans (same_new m5))))
end
end Wl


/-! What near refuses. -/
namespace Wl
open PySem PySem.Spec PyProof.Rows L2
section
variable {P : Program} {w : World} {K : PySem.W.Frag} {mg : Str → Option Value} {base : Heap} {f C D W cG cN cC : Addr} {fd : FuncData}
def spCheckGR (K : PySem.W.Frag) (D cG : Addr) : Sp := fun vs H Q E => ∃ v t, vs = [v] ∧ TyX K H v t ∧ PySem.W.kitOne K t (.ref D) = some false ∧ E (.ref cG) none H
theorem ok_checkgR (F : Fun K "check_gathering" "check_gathering" sCheckG f fd) (B : Bi mg) (TG : TxtG K mg D) (TN : OwnN K mg "NoGathering" cG) : FnOk P w K mg base (L2N.CX P w) 1 f fd ["thing"] (spCheckGR K D cG) := by
  refine Fun_okN F scCheckG (fun vs H Q E h => ?_) (fun cdv A outer s H vs Q E hr h => ?_)
  · obtain ⟨v, t, rfl, _⟩ := h
    rfl
  · obtain ⟨v, t, rfl, ty, k, q⟩ := h
    refine ⟨_, pss_one (ps_if (pt_not (pt_val (pe_callB call_isi (by rfl) B.isi (by decide +kernel) (pa_cons (pv 0) (pa_cons (pe_glob (v := .ref D) rfl TG.mgD rfl) pa_nil))))) (pss_one (ps_raiseN rfl TN (L2N.takes_of rfl rfl rfl rfl))) pss_nil), ?_⟩
    exact ⟨_, rfl, _, _, _, _, _, rfl, .own D, ty, k, false, rfl, iteT q⟩
def spCheckGX (K : PySem.W.Frag) (C D cG : Addr) : Sp := fun vs H Q E => spCheckG C D vs H Q E ∨ spCheckGR K D cG vs H Q E
def BadName (cN : Addr) (H : Hp) (g : Grid) (u : V) (E : XK) : Prop := OddV H u ∧ nameB g u = false ∧ Refuses cN "name" u H E
def OkName (H : Hp) (g : Grid) (u : V) : Prop := OddV H u ∧ nameB g u = true
def BadChs (cC : Addr) (H : Hp) (v : V) (E : XK) : Prop := ∃ o, NoChs H v o ∧ Refuses cC "place" (plcV o) H E
/-- the first that is refused -/
def Ref3 (K : PySem.W.Frag) (C D cG cN cC : Addr) (H : Hp) (g a v : V) (E : XK) : Prop := (∃ t, TyX K H g t ∧ PySem.W.kitOne K t (.ref D) = some false ∧ E (.ref cG) none H) ∨
  ∃ p r wd, g = .ref p ∧ GatAt C D H p r ∧ Good r.g wd ∧ (BadName cN H r.g a E ∨ (OkName H r.g a ∧ BadChs cC H v E))
def Ref4 (K : PySem.W.Frag) (C D cG cN cC : Addr) (H : Hp) (g a b v : V) (E : XK) : Prop := (∃ t, TyX K H g t ∧ PySem.W.kitOne K t (.ref D) = some false ∧ E (.ref cG) none H) ∨
  ∃ p r wd, g = .ref p ∧ GatAt C D H p r ∧ Good r.g wd ∧ (BadName cN H r.g a E ∨ (OkName H r.g a ∧ (BadName cN H r.g b E ∨ (OkName H r.g b ∧ BadChs cC H v E))))
def spApartR (K : PySem.W.Frag) (C D cG cN cC : Addr) : Sp := fun vs H Q E => ∃ g a b v, vs = [g, a, b, v] ∧ Ref4 K C D cG cN cC H g a b v E
def spNearR (K : PySem.W.Frag) (C D cG cN cC : Addr) : Sp := fun vs H Q E => ∃ g a v, vs = [g, a, v] ∧ Ref3 K C D cG cN cC H g a v E
theorem BadName.no {H : Hp} {g : Grid} {u : V} {E : XK} {R : Prop} (h : BadName cN H g u E) (e : nameB g u = true) : R := by
  rw [h.2.1] at e
  cases e
theorem OkName.no {H : Hp} {g : Grid} {u : V} {R : Prop} (h : OkName H g u) (e : nameB g u = false) : R := by
  rw [h.2] at e
  cases e
theorem ok_apartR (F : FunN K "apart" sApart f fd) (T : Txt K mg C) (TG : TxtG K mg D) (hCG : HasX P w K mg base "check_gathering" 1 ["thing"] (spCheckGX K C D cG)) (hCk : HasMX P w K mg base C "check_name" 2 ["self", "name"] (spNameA K C cN)) (hCh : HasX P w K mg base "checked_changes" 4 ["changes"] (spCheckedX cC)) (hAll : Has P w K mg base "all_maps" 10 ["gathering", "changes"] (spAllMaps C D W)) (hSh : Has P w K mg base "share_apart" 3 ["maps", "pair"] (spShare C W)) : FnOk P w K mg base (L2N.CX P w) 11 f fd psApart (spApartR K C D cG cN cC) := by
  refine F.ok scApart (fun vs H Q E h => ?_) (fun cdv A outer s H vs Q E hr h => ?_)
  · obtain ⟨g, a, b, v, rfl, _⟩ := h
    rfl
  · obtain ⟨g, a, b, v, rfl, h⟩ := h
    have px : Passes (L2N.CX P w) (cxOf (L2N.CX P w) P w K mg base nApart "apart" (defScope sApart) f cdv A outer s H E) E := passE (L2N.takes_of rfl rfl rfl rfl)
    refine ⟨_, pss_cons (ps_expr (pe_hx hCG hr px (pa_cons (pv 0) pa_nil)))
      (pss_cons (ps_expr (pe_hmx hCk T.cl hr px (pe_fld (pv 0) rfl) (pa_cons (pv 1) pa_nil)))
      (pss_cons (ps_expr (pe_hmx hCk T.cl hr px (pe_fld (pv 0) rfl) (pa_cons (pv 2) pa_nil)))
      (pss_cons (ps_set (i := 4) scApart.nd rfl (.inl rfl) (pe_h hSh hr (pa_cons (pe_h hAll hr (pa_cons (pv 0) (pa_cons (pe_hx hCh hr px (pa_cons (pv 3) pa_nil)) pa_nil))) (pa_cons (pe_tup (pa_cons (pv 1) (pa_cons (pv 2) pa_nil))) pa_nil)))) pss_never))), ?_⟩
    rcases h with ⟨t, ty, k, q⟩ | ⟨p, r, wd, rfl, hG, gd, h⟩
    · exact ⟨_, rfl, .inr ⟨g, t, rfl, ty, k, q⟩⟩
    obtain ⟨dx, hp⟩ := hG.at_
    obtain ⟨dl, d0, hl0⟩ := hG.land.ins
    refine ⟨_, rfl, .inl ⟨p, r, rfl, hG, ?_⟩⟩
    rcases h with h | ⟨oa, h⟩
    · exact ⟨_, rfl, p, D, dx, _, _, rfl, hp, TG.cl, TG.nL, gf_land _ _ _, r.pl, dl, _, rfl, hl0, fs_no, _, rfl, r.pl, r.L, r.g, wd, a, rfl, hG.land, gd, h.1.wv, h.no, fun _ => h.2.2⟩
    refine ⟨_, rfl, p, D, dx, _, _, rfl, hp, TG.cl, TG.nL, gf_land _ _ _, r.pl, dl, _, rfl, hl0, fs_no, _, rfl, r.pl, r.L, r.g, wd, a, rfl, hG.land, gd, oa.1.wv, fun _ H1 s1 => ?_, oa.no⟩
    have hp1 := s1 _ _ hp
    have hl1 := s1 _ _ hl0
    rcases h with ⟨b1, b2, b3⟩ | ⟨ob, o, hn, q⟩
    · exact ⟨_, rfl, p, D, dx, _, _, rfl, hp1, TG.cl, TG.nL, gf_land _ _ _, r.pl, dl, _, rfl, hl1, fs_no, _, rfl, r.pl, r.L, r.g, wd, b, rfl, hG.land.same s1, gd, (b1.same s1).wv, (fun e => by rw [b2] at e; cases e), fun _ => b3.same s1⟩
    refine ⟨_, rfl, p, D, dx, _, _, rfl, hp1, TG.cl, TG.nL, gf_land _ _ _, r.pl, dl, _, rfl, hl1, fs_no, _, rfl, r.pl, r.L, r.g, wd, b, rfl, hG.land.same s1, gd, (ob.1.same s1).wv, fun _ H2 s2 => ?_, ob.no⟩
    exact ⟨_, rfl, _, rfl, .inr ⟨v, o, rfl, hn.same (s1.trans s2), q.same (s1.trans s2)⟩⟩
theorem ok_aroundR (F : Fun K "shares_around" "shares_around" sAround f fd) (T : Txt K mg C) (TG : TxtG K mg D) (hCG : HasX P w K mg base "check_gathering" 1 ["thing"] (spCheckGX K C D cG)) (hCk : HasMX P w K mg base C "check_name" 2 ["self", "name"] (spNameA K C cN)) (hCh : HasX P w K mg base "checked_changes" 4 ["changes"] (spCheckedX cC)) (hAll : Has P w K mg base "all_maps" 10 ["gathering", "changes"] (spAllMaps C D W)) : FnOk P w K mg base (L2N.CX P w) 11 f fd ["gathering", "village", "changes"] (spNearR K C D cG cN cC) := by
  refine Fun_okN F scAround (fun vs H Q E h => ?_) (fun cdv A outer s H vs Q E hr h => ?_)
  · obtain ⟨g, a, v, rfl, _⟩ := h
    rfl
  · obtain ⟨g, a, v, rfl, h⟩ := h
    have px : Passes (L2N.CX P w) (cxOf (L2N.CX P w) P w K mg base nAround "shares_around" (defScope sAround) f cdv A outer s H E) E := passE (L2N.takes_of rfl rfl rfl rfl)
    refine ⟨_, pss_cons (ps_expr (pe_hx hCG hr px (pa_cons (pv 0) pa_nil)))
      (pss_cons (ps_expr (pe_hmx hCk T.cl hr px (pe_fld (pv 0) rfl) (pa_cons (pv 1) pa_nil)))
      (pss_cons (ps_set (i := 3) scAround.nd rfl (.inr rfl) (pe_h hAll hr (pa_cons (pv 0) (pa_cons (pe_hx hCh hr px (pa_cons (pv 2) pa_nil)) pa_nil)))) pss_never)), ?_⟩
    rcases h with ⟨t, ty, k, q⟩ | ⟨p, r, wd, rfl, hG, gd, h⟩
    · exact ⟨_, rfl, .inr ⟨g, t, rfl, ty, k, q⟩⟩
    obtain ⟨dx, hp⟩ := hG.at_
    obtain ⟨dl, d0, hl0⟩ := hG.land.ins
    refine ⟨_, rfl, .inl ⟨p, r, rfl, hG, ?_⟩⟩
    rcases h with h | ⟨oa, o, hn, q⟩
    · exact ⟨_, rfl, p, D, dx, _, _, rfl, hp, TG.cl, TG.nL, gf_land _ _ _, r.pl, dl, _, rfl, hl0, fs_no, _, rfl, r.pl, r.L, r.g, wd, a, rfl, hG.land, gd, h.1.wv, h.no, fun _ => h.2.2⟩
    refine ⟨_, rfl, p, D, dx, _, _, rfl, hp, TG.cl, TG.nL, gf_land _ _ _, r.pl, dl, _, rfl, hl0, fs_no, _, rfl, r.pl, r.L, r.g, wd, a, rfl, hG.land, gd, oa.1.wv, fun _ H1 s1 => ?_, oa.no⟩
    exact ⟨_, rfl, _, rfl, .inr ⟨v, o, rfl, hn.same s1, q.same s1⟩⟩
def spAroundX (K : PySem.W.Frag) (C D cG cN cC : Addr) : Sp := fun vs H Q E => spAround C D vs H Q E ∨ spNearR K C D cG cN cC vs H Q E
theorem ok_nearestR (F : FunN K "nearest" sNearest f fd) (hA : HasX P w K mg base "shares_around" 11 ["gathering", "village", "changes"] (spAroundX K C D cG cN cC)) : FnOk P w K mg base (L2N.CX P w) 12 f fd ["gathering", "village", "changes"] (spNearR K C D cG cN cC) := by
  refine F.ok scNearest (fun vs H Q E h => ?_) (fun cdv A outer s H vs Q E hr h => ?_)
  · obtain ⟨g, a, v, rfl, _⟩ := h
    rfl
  · obtain ⟨g, a, v, rfl, h⟩ := h
    have px : Passes (L2N.CX P w) (cxOf (L2N.CX P w) P w K mg base nNearest "nearest" (defScope sNearest) f cdv A outer s H E) E := passE (L2N.takes_of rfl rfl rfl rfl)
    refine ⟨_, pss_cons (ps_set (i := 3) scNearest.nd rfl (.inr rfl) (pe_hx hA hr px (pa_cons (pv 0) (pa_cons (pv 1) (pa_cons (pv 2) pa_nil))))) pss_never, ?_⟩
    exact ⟨_, rfl, _, rfl, _, rfl, .inr ⟨g, a, v, rfl, h⟩⟩
theorem ok_farthestR (F : FunN K "farthest" sFarthest f fd) (hA : HasX P w K mg base "shares_around" 11 ["gathering", "village", "changes"] (spAroundX K C D cG cN cC)) : FnOk P w K mg base (L2N.CX P w) 12 f fd ["gathering", "village", "changes"] (spNearR K C D cG cN cC) := by
  refine F.ok scFarthest (fun vs H Q E h => ?_) (fun cdv A outer s H vs Q E hr h => ?_)
  · obtain ⟨g, a, v, rfl, _⟩ := h
    rfl
  · obtain ⟨g, a, v, rfl, h⟩ := h
    have px : Passes (L2N.CX P w) (cxOf (L2N.CX P w) P w K mg base nNearest "farthest" (defScope sFarthest) f cdv A outer s H E) E := passE (L2N.takes_of rfl rfl rfl rfl)
    refine ⟨_, pss_cons (ps_set (i := 3) scFarthest.nd rfl (.inr rfl) (pe_hx hA hr px (pa_cons (pv 0) (pa_cons (pv 1) (pa_cons (pv 2) pa_nil))))) pss_never, ?_⟩
    exact ⟨_, rfl, _, rfl, _, rfl, .inr ⟨g, a, v, rfl, h⟩⟩
def spApartX (K : PySem.W.Frag) (C D cG cN cC : Addr) : Sp := fun vs H Q E => spApart C D vs H Q E ∨ spApartR K C D cG cN cC vs H Q E
def spNearX (K : PySem.W.Frag) (C D cG cN cC : Addr) : Sp := fun vs H Q E => spNearest C D vs H Q E ∨ spNearR K C D cG cN cC vs H Q E
def spFarX (K : PySem.W.Frag) (C D cG cN cC : Addr) : Sp := fun vs H Q E => spFarthest C D vs H Q E ∨ spNearR K C D cG cN cC vs H Q E
end
end Wl

/-! repr of data of any depth: a text that the data alone says. -/
namespace Wl
open PySem PySem.Spec PyProof.Rows L2
/-- data that can be shown -/
structure Shows (d : PyData) : Prop where
  lay : PyData.canLay0 d = true
  deep : d.depth ≤ 8
  wgt : d.weight ≤ 2 ^ 20
  sh : d.showable = true
  ish : d.intsShort 13 = true
theorem Shows.size {d : PyData} (h : Shows d) : d.shown.length ≤ sizeLine := by
  have h1 : PyData.layable0 d = true := by
    show (PyData.canLay0 d && decide (PyData.depth d ≤ 64) && decide (PyData.weight d ≤ 2 ^ 20)) = true
    rw [h.lay, decide_eq_true (Nat.le_trans h.deep (by decide)), decide_eq_true h.wgt]
    rfl
  exact Nat.le_trans (shown_le13 h1 h.ish) (by decide)
section
variable {X : Cx}
def rReprD (K : PySem.W.Frag) : List V → Hp → VK → Prop := fun xs H Q => ∃ (a : Addr) (d : PyData), xs = [V.ref a] ∧ Dp K H (.ref a) d ∧ Shows d ∧ Q (.str d.shown) H
theorem cr_reprD (hg : X.A.guards = some []) (hu : X.A.units + 64 < cLine) : CallR X (.builtin "repr") (rReprD X.K) := by
  intro pins s σ H xs us Q I r h
  obtain ⟨a, d, rfl, hd, hs, q⟩ := h
  rw [Vals.ref1 r]
  obtain ⟨as, r1⟩ := Dp.reads I d (.ref a) (.ref a) hd rfl
  have := hs.deep
  refine repr_of_reads' r1 hs.sh (PyData.noDict_hsm (PyData.hasDict_of_canLay d hs.lay)) hg (by omega) (fun _ _ e => e) (fun h' u tk hk => ?_) hs.size
  exact ⟨.str _, H, I.kept hk, ⟨u, rfl⟩, q⟩
end
end Wl

/-! repr of a pair (text, thing): the thing data, or an empty dict, by itself or in a tuple. x.upper() of a text. -/
namespace Wl
open PySem PySem.Spec PyProof.Rows L2
/-- d is what v holds -/
def RepV (K : PySem.W.Frag) (H : Hp) (v : V) (d : PyData) : Prop := (d.hasDict = false ∧ Dp K H v d) ∨ (∃ p, v = .ref p ∧ H p = some (.dK []) ∧ d = .dict []) ∨ ∃ p q, v = .ref p ∧ H p = some (.tup [.ref q]) ∧ H q = some (.dK []) ∧ d = .tuple [.dict []]
/-- the pair can be shown -/
structure ShowsP (nm : Str) (d : PyData) : Prop where
  sh : (PyData.tuple [.str nm, d]).showable = true
  deep : (PyData.tuple [.str nm, d]).depth ≤ 8
  size : (PyData.tuple [.str nm, d]).shown.length ≤ sizeLine
theorem ShowsP.of {nm : Str} {d : PyData} (h : Shows (.tuple [.str nm, d])) : ShowsP nm d := ⟨h.sh, h.deep, h.size⟩
section
variable {X : Cx} {pins : List (Addr × Obj)} {σ : L2.St} {H : Hp} {s : Shared}
theorem edict_reads (I : Inv X pins σ H s) {p : Addr} (h : H p = some (.dK [])) : Reads s.heap (.ref p) (.dict []) (p :: [] ++ []) ∧ p ≠ sysModules := by
  obtain ⟨_, hs, vs, kv, o, es, ep, ho, hx, hd, _, hp, _⟩ := I.hok p _ h
  cases kv
  have he : es.toList = [] := by
    generalize es.toList = l at hp
    cases hp
    rfl
  refine ⟨Reads.dict ho hx.1 hd ?_ ?_, fun e => ?_⟩
  · rw [he]
    exact ReadsAll.nil
  · rw [he]
    exact ReadsAll.nil
  · rw [e] at hs
    exact absurd hs (by decide)
theorem RepV.reads (I : Inv X pins σ H s) {v : V} {u : Value} {d : PyData} (h : RepV X.K H v d) (r : RelV v u) : ∃ as, Reads s.heap u d as ∧ (d.hasDict = true → sysModules ∉ as) := by
  rcases h with ⟨hd, h⟩ | ⟨p, rfl, hp, rfl⟩ | ⟨p, q, rfl, hp, hq, rfl⟩
  · obtain ⟨as, r1⟩ := Dp.reads I d v u h r
    exact ⟨as, r1, fun z => by rw [hd] at z; cases z⟩
  · cases (show u = Value.ref p from r)
    obtain ⟨r1, ne⟩ := edict_reads I hp
    exact ⟨_, r1, fun _ => by simpa using Ne.symm ne⟩
  · cases (show u = Value.ref p from r)
    obtain ⟨r1, ne⟩ := edict_reads I hq
    obtain ⟨z, its, rv, ⟨o, ho, hc, n, hdat⟩⟩ := I.hok p _ hp
    cases rv with
    | cons rq rn =>
      cases rn
      cases rq
      exact ⟨_, Reads.tuple ho hc hdat (ReadsAll.cons r1 ReadsAll.nil), fun _ => by simpa using Ne.symm ne⟩
def rReprP (K : PySem.W.Frag) : List V → Hp → VK → Prop := fun xs H Q => ∃ (a : Addr) (nm : Str) (v : V) (d : PyData), xs = [V.ref a] ∧ H a = some (.tup [.str nm, v]) ∧ RepV K H v d ∧ ShowsP nm d ∧ Q (.str (PyData.tuple [.str nm, d]).shown) H
theorem cr_reprP (hg : X.A.guards = some []) (hu : X.A.units + 64 < cLine) : CallR X (.builtin "repr") (rReprP X.K) := by
  intro pins s σ H xs us Q I r h
  obtain ⟨a, nm, v, d, rfl, ha, hv, hs, q⟩ := h
  rw [Vals.ref1 r]
  obtain ⟨z, its, rv, ⟨o, ho, hc, n, hdat⟩⟩ := I.hok a _ ha
  cases rv with
  | cons rn rv =>
    cases rv with
    | cons rx rv =>
      cases rv
      obtain ⟨t, rfl⟩ := rn
      obtain ⟨as, r1, hsm⟩ := hv.reads I rx
      have r2 := Reads.tuple ho hc hdat (ReadsAll.cons (Reads.str nm t) (ReadsAll.cons r1 ReadsAll.nil))
      have := hs.deep
      refine repr_of_reads' r2 hs.sh (fun z => ?_) hg (by omega) (fun _ _ e => e) (fun h' u tk hk => ?_) hs.size
      · have z2 : d.hasDict = true := by simpa [PyData.hasDict, PyData.hasDictAll] using z
        simpa using hsm z2
      · exact ⟨.str _, H, I.kept hk, ⟨u, rfl⟩, q⟩
end
section
variable {X : Cx}
def tUp (te : TE) : TE := fun σ H Q => te σ H fun x H1 => ∃ z, x = .str z ∧ z.length ≤ 5592405 ∧ Q (.str (Txt.upper z)) H1
theorem pe_upper {o : Expr} {te : TE} {p1 p2 : Pos} (he : PE X o te) (hb : attributeBase o "upper" X.env (eval o X.env) = eval o X.env := by rfl) (hl : (p1.endLine == p2.line) = true := by rfl) : PE X (.Call (.Attribute o "upper" p1) [] [] p2) (tUp te) := by
  refine ⟨fun pins s σ H Q I h => ?_⟩
  refine J1.ev_upper hb hl (thn (he.run pins s σ H _ I h) fun u s1 hh => ?_)
  obtain ⟨x, H1, I1, rx, z, rfl, hz, q⟩ := hh
  obtain ⟨t, rfl⟩ := rx
  exact ⟨z, t, rfl, hz, fun t' k => ⟨.str _, H1, I1.tok _, ⟨t', rfl⟩, q⟩⟩
theorem upper_wd {z : Str} (h : IsWd z) : (Txt.upper z).length = z.length ∧ wdB (Txt.upper z) = false := by
  have h0 : wdB z = true := h
  unfold wdB at h0
  simp only [Bool.and_eq_true, decide_eq_true_eq, List.all_eq_true] at h0
  obtain ⟨⟨h1, h2⟩, h3⟩ := h0
  have e : Txt.upper z = ⟨z.cps.map PyProof.Rows.up1⟩ := PyProof.Rows.upper_ascii fun c hc => by
    have := h3 c hc
    omega
  rw [e]
  have l : (Str.mk (z.cps.map PyProof.Rows.up1)).length = z.length := by
    show (z.cps.map PyProof.Rows.up1).size = z.cps.size
    exact Array.size_map ..
  refine ⟨l, ?_⟩
  unfold wdB
  have : (((Str.mk (z.cps.map PyProof.Rows.up1)).cps.toList.all fun c => decide (97 ≤ c) && decide (c ≤ 122))) = false := by
    rw [Array.toList_map]
    have hne : z.cps.toList ≠ [] := fun q => by
      have h1 : 1 ≤ z.cps.size := h1
      rw [← Array.length_toList] at h1
      rw [q] at h1
      simp at h1
    cases ez : z.cps.toList with
    | nil => exact absurd ez hne
    | cons c r =>
      have := h3 c (by rw [ez]; exact List.mem_cons_self)
      rw [List.map_cons, List.all_cons]
      have : PyProof.Rows.up1 c = c - 32 := by
        unfold PyProof.Rows.up1
        rw [if_pos this]
      rw [this]
      have : decide (97 ≤ c - 32) = false := decide_eq_false (by omega)
      rw [this]
      rfl
  rw [this, Bool.and_false]
end
end Wl

/-! Promises of defs that are kept where no text of a list, tuple or dict is being made around them: what repr of a list needs. -/
namespace Wl
open PySem PySem.Spec PyProof.Rows L2
structure FnOkG (P : Program) (w : World) (K : PySem.W.Frag) (mg : Str → Option Value) (base : Heap) (k : Nat) (f : Addr) (fd : FuncData) (ps : List Str) (sp : Sp) : Prop where
  len : ∀ vs H Q E, sp vs H Q E → vs.length = ps.length
  run : ∀ (A : Around) (outer : List Env) (s : Shared) (H : Hp) (args : Args) (us : List Value) (vs : List V) (Q : VK) (E : XK), A.guards = some [] → Room k A →
    Env0 P w K mg base A outer s H → BindsTo s fd args (ps.zip us) → Vals vs us → sp vs H Q E → codeAny (model P w) A (.call (.ref f) args) (CR CX0 outer P w H s Q E) s
section
variable {P : Program} {w : World} {K : PySem.W.Frag} {mg : Str → Option Value} {base : Heap} {k : Nat} {f : Addr} {fd : FuncData} {ps N : List Str} {sp : Sp}
theorem FnOkG.of (F : FnOk P w K mg base CX0 k f fd ps sp) : FnOkG P w K mg base k f fd ps sp := ⟨F.len, fun A o s H ar us vs Q E _ => F.run A o s H ar us vs Q E⟩
/-- a def's promise by its body, no such text being made -/
theorem okG {x qual : Str} {st : Stmt} (F : Fun K x qual st f fd) (S : FnScope N ps (defScope st)) (ln : ∀ vs H Q E, sp vs H Q E → vs.length = ps.length)
    (bd : ∀ (cdv : Value) (A : Around) (outer : List Env) (s : Shared) (H : Hp) (vs : List V) (Q : VK) (E : XK), A.guards = some [] → Room k (A.deeper (envOfC qual (defScope st) s.heap.objs.size f cdv)) → sp vs H Q E →
      ∃ t, PSs (cxOf CX0 P w K mg base N qual (defScope st) f cdv A outer s H E).nox (defBody st) t ∧ t { nx := fun _ H' => Q .non H', rt := Q } (start N vs) H) : FnOkG P w K mg base (k + 1) f fd ps sp := by
  obtain ⟨oc, od, kV, doc, pm, an, cd, ct, sl, rfl, at_, hc⟩ := F.ex
  refine ⟨ln, fun A ou s H ar us vs Q E hg room ev bnd rel pr => ?_⟩
  have lv := ln _ _ _ _ pr
  have inK : K.In s.heap := ev.mod.kin.keeps fun b o q => (ev.bs b o q).1
  have nol : s.heap.NoLimit := ev.mod.nolimit.keeps fun b o q => (ev.bs b o q).1
  refine codeAny_call_function room.depth (inK _ _ at_) rfl S.co S.gen rfl (PySem.W.codeRec_of inK hc) (bnd _ _ _ _ ?_)
  refine wpAny_newFunctionEnv_cells S.kind (fun y hy => ?_) fun env ee s1 ic => ?_
  · rcases S.par y.1 (List.of_mem_zip hy).1 with q | q
    · exact .inl q
    · exact .inr ⟨q, PySem.W.cellsFrom_some _ _ _ (.inl q)⟩
  · subst ee
    refine ⟨nol.keeps ic.toInCall.keep, codeAny_func ?_⟩
    obtain ⟨t, der, rd⟩ := bd cd A ou s H vs Q E hg (room.deeper _) pr
    have J0 : L2.Inv (cxOf CX0 P w K mg base N qual (defScope st) f cd A ou s H E) [] (start N vs) H s1 := inv_start S room.hd ev lv rel ic
    refine wpAny_mono (der.nox.run [] s1 (start N vs) H _ J0 rd) (fun fl s2 z => ?_) fun _ _ z => z
    cases fl with
    | ret u => exact let ⟨v, _, H2, J, rv, q⟩ := z; ⟨v, H2, J.os, J.bare, J.base, J.hok, rv, q⟩
    | next => exact let ⟨_, H2, J, q⟩ := z; ⟨V.non, H2, J.os, J.bare, J.base, J.hok, rfl, q⟩
    | brk => exact let ⟨_, _, _, q⟩ := z; q.elim
    | cont => exact let ⟨_, _, _, q⟩ := z; q.elim
/-- such a def by its name -/
def HasQ (P : Program) (w : World) (K : PySem.W.Frag) (mg : Str → Option Value) (base : Heap) (x : Str) (k : Nat) (ps : List Str) (sp : Sp) : Prop :=
  ∃ f fd, FnOkG P w K mg base k f fd ps sp ∧ mg x = some (.ref f) ∧ PySem.W.keepIn K (.ref f) = true ∧ Binds K fd ps []
end
section
variable {X : Cx} {k j : Nat} {ps : List Str} {sp : Sp} {x : Str} {p pos : Pos} {e : Expr} {es : List Expr} {t : TA}
theorem pe_hQ (h : HasQ X.prog X.w X.K X.mg X.base x k ps sp) (hgd : X.A.guards = some []) (hr : Room j X.A) (ha : PA X (e :: es) t) (hkj : k ≤ j := by decide) (hg : Gl X x := by rfl) (hdb : (x == ("__debug__" : Str)) = false := by decide)
    (he : starEach (e :: es) X.env = (false, eval e X.env) :: starEach es X.env := by rfl) (hpl : (backTo pos (starEach es X.env)).any (·.1) = false := by rfl) :
    PE X (.Call (.Name x p) (e :: es) [] pos) (tCall sp [] E0 t) := by
  obtain ⟨f, fd, F, g, kp, b⟩ := h
  refine ⟨fun pins s σ H Q I hh => ?_⟩
  refine wpAny_Call_Name_kw (ld_glob I hg g ?_ hdb)
  refine PySem.W.callWith_K (h₀ := X.base) I.ok.mod.kin kp (thn (ha.run pos pins s σ H _ I hh) fun us s1 ⟨vs, H1, I1, r, q⟩ => ⟨I1.kIn, ?_⟩) he hpl
  have q' : sp vs H1 Q E0 := by
    have z : sp (vs ++ []) H1 Q E0 := q
    rw [List.append_nil] at z
    exact z
  have hl := F.len _ _ _ _ q'
  have hb' : BindsTo s1 fd ⟨us, []⟩ (ps.zip us) := by
    have z := b s1 us I1.kIn (by rw [List.append_nil, ← r.length]; exact hl)
    rw [List.append_nil] at z
    exact z
  refine wpAny_call (codeAny_mono (F.run X.A X.stack s1 H1 ⟨us, []⟩ us vs _ E0 hgd (hr.mono hkj) I1.env0 hb' r q') fun r s' hq => ?_)
  cases r with
  | error e => exact pass0 pins σ H1 s1 e s' I1 hq
  | ok fl =>
    cases fl with
    | ret w => exact I1.after hq
    | next => exact hq.elim
    | brk => exact hq.elim
    | cont => exact hq.elim
end
/-- the law's own call, by such a promise -/
theorem law_callG {P : Program} {w : World} {K : PySem.W.Frag} {mg mb : Str → Option Value} {k : Nat} {fa a : Addr} {fd : FuncData} {x : Str} {sp : Sp} {s₁ : Shared} {vs : List Value} {ns : List Int}
    (KX : K.In s₁.heap) (hns : s₁.heap.Ns mainGlobals mg) (hb : s₁.heap.Ns builtinsNs mb) (hbb : ∀ x : Str, x ≠ "__name__" → mb x = bootBuiltins x) (lim : s₁.heap.NoLimit) (gens : s₁.gens = #[])
    (ha : s₁.heap.get? a = some { cls := .type "list", data := .seq vs.toArray }) (hi : IntsAre vs ns) (hl : ns.length ≤ sizeLine) (room : Room k callerA)
    (F : ∀ base : Heap, K.In base → base.Ns mainGlobals mg → FnOkG P w K mg base k fa fd [x] sp) (bnd : ∀ (s : Shared) (u : Value), BindsTo s fd ⟨[u], []⟩ [(x, u)])
    (pr : ∀ H : Hp, Only H → SqL K H a (ns.map V.int) → sp [.ref a] H (fun v _ => v = .bl true) E0) :
    codeAny (model P w) callerA (.call (.ref fa) ⟨[.ref a], []⟩) (fun r s' => r = .ok (.ret (.bool true)) ∧ OldK s₁.heap s'.heap ∧ s'.os = s₁.os ∧ AllBare s'.gens) s₁ := by
  have rv := vals_ints hi
  have main : ∀ H : Hp, Only H → SqL K H a (ns.map V.int) → HOk P w H s₁.heap → (∀ b u, H b = some u → b = a ∧ K.lookup a = none) →
      codeAny (model P w) callerA (.call (.ref fa) ⟨[.ref a], []⟩) (fun r s' => r = .ok (.ret (.bool true)) ∧ OldK s₁.heap s'.heap ∧ s'.os = s₁.os ∧ AllBare s'.gens) s₁ := by
    intro H only sq hok own
    have free : ∀ b, (b = a → K.lookup a ≠ none) → H b = none := fun b hn => by
      cases q : H b with
      | none => rfl
      | some u => exact absurd (own b u q).2 (hn (own b u q).1)
    have dictN : ∀ {b : Addr} {o : Obj} {es : Array DictEntry} {ep : Nat}, s₁.heap.get? b = some o → o.data = .dict es ep → H b = none := fun {b o es ep} e d => by
      cases q : H b with
      | none => rfl
      | some u =>
        obtain ⟨rfl, _⟩ := own b u q
        rw [ha] at e
        cases e
        cases d
    have nsB : ∀ {b : Addr} {m : Str → Option Value}, s₁.heap.Ns b m → (hidT s₁.heap H).Ns b m := fun {b m} ⟨o, es, ep, e, d, r⟩ => ⟨o, es, ep, hidT_get e (dictN e d), d, r⟩
    have kB : K.In (hidT s₁.heap H) := fun b o e => hidT_get (KX b o e) (free b fun z q => by rw [z, q] at e; cases e)
    have md : Mod K mg (hidT s₁.heap H) := ⟨kB, nsB hns, ⟨mb, nsB hb, hbb⟩, let ⟨mc, h1, h2⟩ := lim; ⟨mc, nsB h1, h2⟩⟩
    have ev : Env0 P w K mg (hidT s₁.heap H) callerA [] s₁ H := ⟨rfl, md, fun _ _ e => of_hidT e, Nat.le_of_eq (hidT_size _ _), trivial, fun b z => absurd (show b ∈ ([] : List Addr) from z) (by simp), hok, .of_eq gens⟩
    refine codeAny_mono ((F _ kB (nsB hns)).run callerA [] s₁ H ⟨[.ref a], []⟩ [.ref a] [.ref a] _ _ rfl room ev (bnd s₁ (.ref a)) (.cons rfl .nil) (pr H only sq)) fun r s' h => ?_
    match r, h with
    | .error e, h => exact (show False from h).elim
    | .ok .next, h => exact h.elim
    | .ok .brk, h => exact h.elim
    | .ok .cont, h => exact h.elim
    | .ok (.ret u), ⟨v, H', os, bare, un, hok', r', q⟩ =>
      obtain rfl : v = .bl true := q
      obtain rfl : u = Value.bool true := r'
      refine ⟨rfl, OldK.of_keep fun b o e => ?_, os, bare⟩
      rcases only b with z | ⟨ob, xs, z⟩
      · exact un.keep b o e z (fun y => absurd (show b ∈ ([] : List Addr) from y) (by simp)) (by simp)
      · have e1 := (hok b _ z).1
        rw [e] at e1
        cases e1
        exact (hok' b _ (un.frzs b _ _ z)).1
  cases hk : K.lookup a with
  | some o =>
    have e := KX a o hk
    rw [ha] at e
    cases e
    refine main (fun _ => none) (fun _ => .inl rfl) (.inr ⟨_, vs.toArray, _, hk, rfl, rfl, rfl, ?_, by simpa using rv⟩) (fun b u z => nomatch z) fun b u z => nomatch z
    rw [List.size_toArray, hi.length]
    exact hl
  | none =>
    have at_ : ∀ b u, (if b = a then some (HO.frz { cls := .type "list", data := .seq vs.toArray } (.lst (ns.map V.int))) else none) = some u → b = a ∧ u = HO.frz { cls := .type "list", data := .seq vs.toArray } (.lst (ns.map V.int)) := fun b u z => by
      by_cases c : b = a
      · rw [if_pos c] at z
        exact ⟨c, (Option.some.inj z).symm⟩
      · rw [if_neg c] at z
        cases z
    refine main (fun b => if b = a then some (.frz { cls := .type "list", data := .seq vs.toArray } (.lst (ns.map V.int))) else none) (fun b => ?_) (.inl (.inr ⟨_, if_pos rfl⟩)) (fun b u z => ?_) fun b u z => ⟨(at_ b u z).1, hk⟩
    · by_cases c : b = a
      · exact .inr ⟨_, _, if_pos c⟩
      · exact .inl (if_neg c)
    · obtain ⟨rfl, rfl⟩ := at_ b u z
      exact ⟨ha, by rw [List.length_map]; exact hl, vs, _, rv, ha⟩
theorem walk_ofG {l : PySem.W.OpenLaw} {n k : Nat} {q : Program} {loose : List Str} {XP : (Str → Option Value) → Heap → Prop} {YP : World → Heap → Prop} {d : DefRec} {x : Str}
    (hn : l.most = some n) (hn2 : n ≤ sizeLine) (hdf : d.params.defaults = []) (hr : Room k callerA)
    (F : ∀ (w : World) (mg : Str → Option Value) (fa : Addr) (h : Heap), YP w h → h.Ns mainGlobals mg → mg d.name = some (.ref fa) →
      ∃ (K : PySem.W.Frag) (fd : FuncData) (sp : Sp), K.In h ∧ (∀ (s : Shared) (u : Value), BindsTo s fd ⟨[u], []⟩ [(x, u)]) ∧ (∀ (H : Hp) (a : Addr) (ns : List Int), ns.length ≤ n → Only H → SqL K H a (ns.map V.int) → sp [.ref a] H (fun v _ => v = .bl true) E0) ∧
        ∀ base : Heap, K.In base → base.Ns mainGlobals mg → FnOkG l.prog w K mg base k fa fd [x] sp) :
    PySem.W.WalkO q loose XP YP l.row.toRowW d [] (fun f vs => PySem.call f vs) := by
  refine Att.attach_call hn hdf fun w s₀ s₁ mg mb fa o pm cd doc a vs ns G Y ho hd hcd hmg hobj hints hlen hg => ?_
  obtain ⟨K, fd, sp, inK, bnd, pr, keeps⟩ := F w mg fa _ Y G.T.g hmg
  exact law_callG inK G.T.g G.T.b G.T.builtins G.T.nolimit hg hobj hints (Nat.le_trans hlen hn2) hr keeps bnd fun H only sq => pr H a ns hlen only sq
end Wl

/-! repr of a thing of any kind: data, an empty dict, or an object of an own class; also where an exception is being handled. -/
namespace Wl
open PySem PySem.Spec PyProof.Rows L2
structure ShowsV (d : PyData) : Prop where
  sh : d.showable = true
  deep : d.depth ≤ 8
  size : d.shown.length ≤ sizeLine
section
variable {X : Cx} {n : Nat} {f : Addr} {fd : FuncData} {ps : List Str} {sp : Sp} {spT : Addr → Sp} {C hd : Addr}
theorem repr_data {pins : List (Addr × Obj)} {σ : L2.St} {H : Hp} {s : Shared} {v : V} {u : Value} {d : PyData} {Q : VK} (hg : X.A.guards = some []) (hu : X.A.units + 64 < cLine) (I : Inv X pins σ H s) (r : RelV v u) (hv : RepV X.K H v d) (hs : ShowsV d) (q : Q (.str d.shown) H) :
    wpAny (model X.prog X.w) X.A (call (.builtin "repr") [u]) (EP X pins σ Q) X.xe s := by
  have hdp := hs.deep
  have big : ∀ {a : Addr} {as : List Addr}, u = .ref a → Reads s.heap (.ref a) d as → (d.hasDict = true → sysModules ∉ as) → wpAny (model X.prog X.w) X.A (call (.builtin "repr") [u]) (EP X pins σ Q) X.xe s := fun {a as} e r1 hsm => by
    subst e
    exact repr_of_reads' r1 hs.sh hsm hg (by omega) (fun _ _ e => e) (fun h' t tk hk => ⟨.str _, H, I.kept hk, ⟨t, rfl⟩, q⟩) hs.size
  obtain ⟨as, r1, hsm⟩ := hv.reads I r
  rcases hv with ⟨hd, h⟩ | ⟨p, rfl, hp, rfl⟩ | ⟨p, p2, rfl, hp, hq, rfl⟩
  · cases h with
    | non =>
      cases (show u = Value.none from r)
      exact PySem.P.repr_of_none ⟨.str _, H, I.tok _, ⟨_, rfl⟩, q⟩
    | bl b =>
      cases (show u = Value.bool b from r)
      exact PySem.P.repr_of_bool ⟨.str _, H, I.tok _, ⟨_, rfl⟩, q⟩
    | int i =>
      obtain ⟨t, rfl⟩ := r
      exact PySem.P.repr_of_int (by simpa [PyData.showable] using hs.sh) ⟨.str _, H, I.tok _, ⟨_, rfl⟩, q⟩
    | str x =>
      obtain ⟨t, rfl⟩ := r
      exact PySem.P.repr_of_str ⟨.str _, H, I.tok _, ⟨_, rfl⟩, q⟩ hs.size
    | lst h1 h2 =>
      cases (show u = Value.ref _ from r)
      exact big rfl r1 hsm
    | tup h1 h2 =>
      cases (show u = Value.ref _ from r)
      exact big rfl r1 hsm
  · cases (show u = Value.ref _ from r)
    exact big rfl r1 hsm
  · cases (show u = Value.ref _ from r)
    exact big rfl r1 hsm
def rReprV (K : PySem.W.Frag) (C : Addr) (sp : Sp) : List V → Hp → VK → Prop := fun xs H Q => ∃ v, xs = [v] ∧ ((∃ d, RepV K H v d ∧ ShowsV d ∧ Q (.str d.shown) H) ∨ rStrO C sp [v] H Q)
theorem cr_reprV (F : FnOk X.prog X.w X.K X.mg X.base CX0 n f fd ps sp) (hb : Binds X.K fd ps []) (m : Meth X.K C "__repr__" f) (hg : X.A.guards = some []) (hr : Room (n + 1) X.A) : CallR X (.builtin "repr") (rReprV X.K C sp) := by
  intro pins s σ H xs us Q I r h
  obtain ⟨v, rfl, ⟨d, hv, hs, q⟩ | h⟩ := h
  · obtain ⟨u, rfl, ru⟩ := vals1 r
    exact repr_data hg (by have := hr.un; omega) I ru hv hs q
  · exact cr_reprO F hb m hr pins s σ H _ us Q I r h
/-- an own def called somewhere below the running body, an exception being handled -/
theorem run_ownT {A : Around} {pins : List (Addr × Obj)} {s : Shared} {σ : L2.St} {H : Hp} {vs : List V} {us : List Value} {Q : VK} (F : FnT X.prog X.w X.K X.mg X.base CX0 n f fd ps spT) (hb : Binds X.K fd ps []) (rm : L2H.RoomH n A) (fr : A.frames = X.A.frames) (hot : A.handled = some (.ref hd)) (I : L2.Inv X pins σ H s) (hh : HotH hd H) (r : Vals vs us) (hsp : spT hd vs H Q E0) :
    wpAny (model X.prog X.w) A (call (.ref f) us) (EP X pins σ Q) X.xe s := by
  have e0 : Env0 X.prog X.w X.K X.mg X.base A X.stack s H := by
    have e := I.env0
    exact ⟨by rw [fr]; exact e.frames, e.mod, e.bs, e.bsz, e.funs, e.frf, e.hok, e.bare⟩
  have hl := F.len _ _ _ _ _ hsp
  have hb' : BindsTo s fd ⟨us, []⟩ (ps.zip us) := by
    have := hb s us I.kIn (by rw [List.append_nil, ← r.length]; exact hl)
    rw [List.append_nil] at this
    exact this
  refine wpAny_call (codeAny_mono (F.run A X.stack s H ⟨us, []⟩ us vs _ E0 hd rm hot hh e0 hb' r hsp) fun r s' hq => ?_)
  cases r with
  | error e => exact False.elim hq
  | ok fl =>
    cases fl with
    | ret w => exact I.after hq
    | next => exact False.elim hq
    | brk => exact False.elim hq
    | cont => exact False.elim hq
def rReprT (K : PySem.W.Frag) (C hd : Addr) (sp : Addr → Sp) : List V → Hp → VK → Prop := fun xs H Q => ∃ v, xs = [v] ∧ ((∃ d, RepV K H v d ∧ ShowsV d ∧ Q (.str d.shown) H) ∨ ∃ a dx fs, v = .ref a ∧ H a = some (.ins C dx fs) ∧ HotH hd H ∧ sp hd [.ref a] H (fun v H' => ∃ z, v = .str z ∧ Q (.str z) H') E0)
theorem cr_reprT (F : FnT X.prog X.w X.K X.mg X.base CX0 n f fd ps spT) (hb : Binds X.K fd ps []) (m : Meth X.K C "__repr__" f) (hg : X.A.guards = some []) (hr : L2H.RoomH (n + 1) X.A) (hot : X.A.handled = some (.ref hd)) : CallR X (.builtin "repr") (rReprT X.K C hd spT) := by
  intro pins s σ H xs us Q I r h
  obtain ⟨v, rfl, ⟨d, hv, hs, q⟩ | ⟨a, dx, fs, rfl, ha, hh, hsp⟩⟩ := h
  · obtain ⟨u, rfl, ru⟩ := vals1 r
    exact repr_data hg (by have := hr.un; omega) I ru hv hs q
  · obtain ⟨u, rfl, ru⟩ := vals1 r
    obtain rfl : u = Value.ref a := ru
    obtain ⟨mA, J, _⟩ := ins_get I.hok ha
    obtain ⟨od, J, _⟩ := J.look
    obtain ⟨m', hF⟩ := I.fr
    refine PySem.W.repr_K (show X.A.units + 1 < cLine from by have := hr.un; omega) hF I.ok.mod.kin J m.at_ m.fn (wpAny_mono (run_ownT (A := X.A.in1) F hb ⟨by have := hr.dp; show X.A.depth + 3 * n + 5 < _; omega, by have := hr.un; show X.A.units + 1 + 16 * n + 200 < _; omega⟩ rfl hot I hh (v1 a) hsp) (fun v s' hq => ?_) fun _ _ z => z)
    obtain ⟨z, H', I', rz, y, rfl, q⟩ := hq
    obtain ⟨t, rfl⟩ := rz
    exact ⟨.str y, H', I', ⟨_, rfl⟩, q⟩
end
end Wl

/-! d == e of two dicts of the same texts, their values told by data. -/
namespace Wl
open PySem PySem.Spec PyProof.Rows L2
def rEqDT (K : PySem.W.Frag) : R2 := fun x y H Q => ∃ (a b : Addr) (nms : List Str) (f g : Str → V) (fd gd : Str → PyData), x = .ref a ∧ y = .ref b ∧ H a = some (.dK (kvZ f nms)) ∧ H b = some (.dK (kvZ g nms)) ∧
  (∀ z ∈ nms, Dp K H (f z) (fd z) ∧ Dp K H (g z) (gd z) ∧ (fd z).canLay0 = true ∧ (gd z).canLay0 = true ∧ (fd z).depth ≤ 3) ∧ Q (.bl (nms.all fun z => PyData.eqv (fd z) (gd z))) H
theorem kv_mem {f : Str → V} : ∀ {nms : List Str} {va : List (Key × Value)}, KV (kvZ f nms) va → ∀ {k : Key} {v : Value}, (k, v) ∈ va → ∃ z ∈ nms, k = Sum.inr z ∧ RelV (f z) v
  | [], va, r, k, v, h => by
    cases r
    cases h
  | z :: nms, va, r, k, v, h => by
    have r' : Paired (fun (p : Key × V) (q : Key × Value) => p.1 = q.1 ∧ RelV p.2 q.2) ((Sum.inr z, f z) :: kvZ f nms) va := r
    cases r' with
    | cons e t =>
      rcases List.mem_cons.mp h with h1 | h1
      · obtain ⟨e1, e2⟩ := e
        rw [← h1] at e1 e2
        exact ⟨z, List.mem_cons_self, e1.symm, e2⟩
      · obtain ⟨y, hy, q⟩ := kv_mem (f := f) (nms := nms) t h1
        exact ⟨y, List.mem_cons_of_mem _ hy, q⟩
theorem kv_keys {f : Str → V} : ∀ {nms : List Str} {va : List (Key × Value)}, KV (kvZ f nms) va → va.map (·.1) = nms.map Sum.inr
  | [], va, r => by
    cases r
    rfl
  | z :: nms, va, r => by
    have r' : Paired (fun (p : Key × V) (q : Key × Value) => p.1 = q.1 ∧ RelV p.2 q.2) ((Sum.inr z, f z) :: kvZ f nms) va := r
    cases r' with
    | cons e t =>
      rw [List.map_cons, List.map_cons, kv_keys (f := f) (nms := nms) t, ← e.1]
section
variable {X : Cx}
theorem op_eqDT (hu : X.A.units + 64 < cLine) : OpR X (compareOp .Eq) (rEqDT X.K) := by
  intro pins s σ H x y v u Q I rx ry h
  obtain ⟨a, b, nms, f, g, fd, gd, rfl, rfl, ea, eb, hv, q⟩ := h
  obtain rfl : v = Value.ref a := rx
  obtain rfl : u = Value.ref b := ry
  obtain ⟨_, ya, va, ra, da⟩ := (show ObjOk X.prog X.w H s.heap a (.dK (kvZ f nms)) from I.hok a _ ea)
  obtain ⟨_, yb, vb, rb, db⟩ := (show ObjOk X.prog X.w H s.heap b (.dK (kvZ g nms)) from I.hok b _ eb)
  let e : Key → Bool := fun k => match k with
    | .inl _ => true
    | .inr z => PyData.eqv (fd z) (gd z)
  refine PySem.W.eq_dictsT (knd := mixKind X.prog X.w) (n := 3) (e := e) ya yb da db (fun k v' y' hm hva => ?_) (by omega) ?_
  · obtain ⟨z, hz, rfl, rv⟩ := kv_mem ra hm
    have rr := rb.val (Sum.inr z : Key)
    rw [valV_in hz] at rr
    obtain ⟨y2, hy2, ry2⟩ := rr.some_of
    rw [hva] at hy2
    obtain rfl := Option.some.inj hy2
    obtain ⟨d1, d2, c1, c2, dp⟩ := hv z hz
    obtain ⟨as, r1⟩ := Dp.reads I _ _ _ d1 rv
    obtain ⟨bs, r2⟩ := Dp.reads I _ _ _ d2 ry2
    exact .leaf fun A hA => SeqAt.eqAt_reads _ _ A s _ _ _ _ r1 r2 c1 c2 (by
      have := Nat.min_le_left (fd z).depth (gd z).depth
      omega)
  · have e1 : va.length = nms.length := by
      have := congrArg List.length (kv_keys ra)
      simpa using this
    have e2 : vb.length = nms.length := by
      have := congrArg List.length (kv_keys rb)
      simpa using this
    have e3 : (va.all fun p => (valueAt vb p.1).isSome && e p.1) = nms.all fun z => PyData.eqv (fd z) (gd z) := by
      have h1 : (va.all fun p => (valueAt vb p.1).isSome && e p.1) = (va.map (·.1)).all fun k => (valueAt vb k).isSome && e k := by
        rw [List.all_map]
        rfl
      rw [h1, kv_keys ra, List.all_map, Bool.eq_iff_iff, List.all_eq_true, List.all_eq_true]
      have sm : ∀ z ∈ nms, (valueAt vb (Sum.inr z : Key)).isSome = true := fun z hz => by
        have rr := rb.val (Sum.inr z : Key)
        rw [valV_in hz] at rr
        obtain ⟨y2, hy2, _⟩ := rr.some_of
        rw [hy2]
        rfl
      constructor
      · intro h z hz
        have := h z hz
        simp only [Function.comp, Bool.and_eq_true] at this
        exact this.2
      · intro h z hz
        simp only [Function.comp, Bool.and_eq_true]
        exact ⟨sm z hz, h z hz⟩
    rw [e3, e1, e2]
    refine ⟨.bl _, H, I, ?_, q⟩
    show _ = Value.bool _
    simp
end
end Wl

/-! v == v: a thing beside itself, data or a dict of texts with data. -/
namespace Wl
open PySem PySem.Spec PyProof.Rows L2
def SelfV (K : PySem.W.Frag) (H : Hp) (v : V) : Prop := (∃ d, Dp K H v d ∧ SeqAt.shaped d = true) ∨
  ∃ (p : Addr) (nms : List Str) (g : Str → V) (gd : Str → PyData), v = .ref p ∧ H p = some (.dK (kvZ g nms)) ∧ ∀ z ∈ nms, Dp K H (g z) (gd z) ∧ (gd z).canLay0 = true ∧ (gd z).depth ≤ 3
def rEqSelf (K : PySem.W.Frag) : R2 := fun x y H Q => x = y ∧ SelfV K H x ∧ Q (.bl true) H
theorem op_eqSelf {X : Cx} (hu : X.A.units + 64 < cLine) : OpR X (compareOp .Eq) (rEqSelf X.K) := by
  intro pins s σ H x y v u Q I rx ry h
  obtain ⟨rfl, h | h, q⟩ := h
  · obtain ⟨d, hd, sd⟩ := h
    refine op_eqD hu pins s σ H x x v u Q I rx ry ⟨d, d, hd, hd, sd, sd, ?_⟩
    rw [SeqAt.eqv_refl _ (SeqAt.canLay_of_shaped sd)]
    exact q
  · obtain ⟨p, nms, g, gd, rfl, hp, hz⟩ := h
    refine op_eqDT hu pins s σ H _ _ v u Q I rx ry ⟨p, p, nms, g, g, gd, gd, rfl, rfl, hp, hp, fun z hm => ?_, ?_⟩
    · obtain ⟨h1, h2, h3⟩ := hz z hm
      exact ⟨h1, h1, h2, h2, h3⟩
    · have : (nms.all fun z => PyData.eqv (gd z) (gd z)) = true := List.all_eq_true.mpr fun z hm => SeqAt.eqv_refl _ (hz z hm).2.1
      rw [this]
      exact q
end Wl

/-! Data of any depth under a heap that grows; a heap with one object left out. -/
namespace Wl
open PySem PySem.Spec PyProof.Rows L2
mutual
theorem dp_same {K : PySem.W.Frag} {H H' : Hp} (s : Same H H') : ∀ {v : V} {d : PyData}, Dp K H v d → Dp K H' v d
  | _, _, .non => .non
  | _, _, .bl b => .bl b
  | _, _, .int i => .int i
  | _, _, .str x => .str x
  | _, _, .lst h t => .lst (s.seq h) (dpAll_same s t)
  | _, _, .tup h t => .tup (tup_same s h) (dpAll_same s t)
theorem dpAll_same {K : PySem.W.Frag} {H H' : Hp} (s : Same H H') : ∀ {vs : List V} {ds : List PyData}, DpAll K H vs ds → DpAll K H' vs ds
  | _, _, .nil => .nil
  | _, _, .cons r t => .cons (dp_same s r) (dpAll_same s t)
end
theorem SelfV.same {K : PySem.W.Frag} {H H' : Hp} {v : V} (h : SelfV K H v) (s : Same H H') : SelfV K H' v := by
  rcases h with ⟨d, h1, h2⟩ | ⟨p, nms, g, gd, e, hp, hz⟩
  · exact .inl ⟨d, dp_same s h1, h2⟩
  · exact .inr ⟨p, nms, g, gd, e, s _ _ hp, fun z hm => ⟨dp_same s (hz z hm).1, (hz z hm).2⟩⟩
/-- new behind, new ahead -/
theorem hq_of {H H' : Hp} {p : Addr} (s : Same H H') (h : H' p = none) : H p = none := by
  cases q : H p with
  | none => rfl
  | some o =>
    rw [s p o q] at h
    cases h
/-- H without what stands at a -/
def hid (a : Addr) (H : Hp) : Hp := fun b => if b = a then none else H b
theorem hid_same {a : Addr} {H : Hp} : Same (hid a H) H := fun b o e => by
  unfold hid at e
  by_cases h : b = a
  · rw [if_pos h] at e
    cases e
  · rw [if_neg h] at e
    exact e
theorem hid_x {a : Addr} {H H' : Hp} (s : SameX a H H') : Same (hid a H) (hid a H') := fun b o e => by
  unfold hid at e ⊢
  by_cases h : b = a
  · rw [if_pos h] at e
    cases e
  · rw [if_neg h] at e ⊢
    exact s b o h e
theorem hid_at {a p : Addr} {H : Hp} {o : HO} (h : H p = some o) (hne : p ≠ a) : hid a H p = some o := by
  unfold hid
  rw [if_neg hne]
  exact h
/-- what H' has that H has not -/
def newH (H H' : Hp) : Hp := fun p => match H p with
  | none => H' p
  | some _ => none
theorem new_at {H H' : Hp} {p : Addr} {o : HO} (hn : H p = none) (h : H' p = some o) : newH H H' p = some o := by
  unfold newH
  rw [hn]
  exact h
theorem new_hid {H H' : Hp} {a : Addr} {o : HO} (h : H a = some o) : Same (newH H H') (hid a H') := fun p u e => by
  unfold newH at e
  cases q : H p with
  | some _ =>
    rw [q] at e
    cases e
  | none =>
    rw [q] at e
    exact hid_at e fun z => by
      rw [z, h] at q
      cases q
end Wl

/-! Displays of things that G tells of, whatever they are, while I stands. -/
namespace Wl
open PySem PySem.Spec PyProof.Rows L2
/-- G and I bear a growing heap -/
def Grows (G : Hp → V → Prop) : Prop := ∀ (H H' : Hp) (v : V), G H v → Same H H' → G H' v
def GrowsH (I : Hp → Prop) : Prop := ∀ (H H' : Hp), I H → Same H H' → I H'
def Bld (σ : L2.St) (I : Hp → Prop) (G : Hp → V → Prop) (te : TE) : Prop := ∀ (H : Hp) (Q : VK), I H → (∀ v H', Same H H' → G H' v → Q v H') → te σ H Q
def BldA (σ : L2.St) (I : Hp → Prop) (G : Hp → V → Prop) (n : Nat) (ta : TA) : Prop := ∀ (H : Hp) (Q : List V → Hp → Prop), I H → (∀ vs H', Same H H' → vs.length = n → (∀ v ∈ vs, G H' v) → Q vs H') → ta σ H Q
section
variable {σ : L2.St} {I : Hp → Prop} {G : Hp → V → Prop} {te : TE} {ta : TA} {n : Nat}
theorem bld_nil : BldA σ I G 0 tNil := fun H Q _ q => q [] H (Same.refl H) rfl (fun v hv => by cases hv)
theorem bld_cons (gI : GrowsH I) (gG : Grows G) (h : Bld σ I G te) (k : BldA σ I G n ta) : BldA σ I G (n + 1) (tCons te ta) := fun H Q i q => h H _ i fun v H1 s1 g1 => k H1 _ (gI _ _ i s1) fun vs H2 s2 l2 g2 => q (v :: vs) H2 (s1.trans s2) (by rw [List.length_cons, l2]) (fun u hu => by
  rcases List.mem_cons.mp hu with rfl | hu
  · exact gG _ _ _ g1 s2
  · exact g2 u hu)
/-- a constant -/
theorem bld_c {v : V} (h : ∀ H, I H → G H v) : Bld σ I G (tC v) := fun H Q i q => q v H (Same.refl H) (h H i)
/-- a display of such, as a new list -/
theorem bld_lst (gG : Grows G) (h : BldA σ I G n ta) (hn : n ≤ 1000) {H : Hp} {Q : VK} (i : I H) (q : ∀ p vs H', Same H H' → H p = none → H' p = some (.lst vs) → vs.length = n → (∀ v ∈ vs, G H' v) → Q (.ref p) H') : tLst ta σ H Q :=
  h H _ i fun vs H1 s1 l1 g1 => ⟨lzl (by omega), fun p hp => q p vs _ (s1.trans (same_new hp)) (hq_of s1 hp) upd_same l1 fun v hv => gG _ _ _ (g1 v hv) (same_new hp)⟩
/-- xs + [..] -/
theorem bld_cat (gI : GrowsH I) (gG : Grows G) {i0 m : Nat} (h : BldA σ I G n ta) (hn : n + m ≤ 1000) {H : Hp} {Q : VK} {p : Addr} {xs : List V} (i : I H) (hσ : σ[i0]? = some (some (.ref p))) (hp : H p = some (.lst xs)) (hm : xs.length = m) (hg : ∀ v ∈ xs, G H v)
    (q : ∀ r vs H', Same H H' → H r = none → H' r = some (.lst vs) → vs.length = m + n → (∀ v ∈ vs, G H' v) → Q (.ref r) H') : tOp rCat (tVar i0) (tLst ta) σ H Q := by
  refine ⟨_, hσ, bld_lst (n := n) gG h (by omega) i fun r vs H1 s1 n1 e1 l1 g1 => ⟨p, r, xs, vs, rfl, rfl, s1 _ _ hp, e1, lzl (by omega), fun t ht => ?_⟩⟩
  refine q t (xs ++ vs) _ (s1.trans (same_new ht)) (hq_of s1 ht) upd_same (by rw [List.length_append, hm, l1]) fun v hv => ?_
  rcases List.mem_append.mp hv with hv | hv
  · exact gG _ _ _ (hg v hv) (s1.trans (same_new ht))
  · exact gG _ _ _ (g1 v hv) (same_new ht)
/-- what a display's parts are, all at once -/
def BldX (σ : L2.St) (I : Hp → Prop) (R : Hp → List V → Prop) (ta : TA) : Prop := ∀ (H : Hp) (Q : List V → Hp → Prop), I H → (∀ xs H', Same H H' → I H' → R H' xs → Q xs H') → ta σ H Q
theorem bldx_c {xs : List V} (h : ∀ (H : Hp) (Q : List V → Hp → Prop), Q xs H → ta σ H Q) : BldX σ I (fun _ ys => ys = xs) ta := fun H Q i q => h H Q (q xs H (Same.refl H) i rfl)
theorem bld_tup {R : Hp → List V → Prop} (ht : BldX σ I R ta) (hl : ∀ H xs, R H xs → xs.length ≤ 1000) (g : ∀ (H : Hp) (p : Addr) (xs : List V), I H → R H xs → H p = none → G (upd H p (.tup xs)) (.ref p)) : Bld σ I G (tTup ta) := fun H Q i q =>
  ht H _ i fun xs H1 s1 i1 r1 => ⟨lzl (hl _ _ r1), fun p hp => q (.ref p) _ (s1.trans (same_new hp)) (g H1 p xs i1 r1 hp)⟩
theorem bld_lstX {R : Hp → List V → Prop} (ht : BldX σ I R ta) (hl : ∀ H xs, R H xs → xs.length ≤ 1000) (g : ∀ (H : Hp) (p : Addr) (xs : List V), I H → R H xs → H p = none → G (upd H p (.lst xs)) (.ref p)) : Bld σ I G (tLst ta) := fun H Q i q =>
  ht H _ i fun xs H1 s1 i1 r1 => ⟨lzl (hl _ _ r1), fun p hp => q (.ref p) _ (s1.trans (same_new hp)) (g H1 p xs i1 r1 hp)⟩
end
end Wl

/-! Single steps of a reading, so that the kernel need not unfold what stands in it. -/
namespace Wl
open PySem PySem.Spec PyProof.Rows L2
section
variable {te ta tb : TE} {i : Nat} {B : TS} {D : Ends} {σ : L2.St} {H : Hp} {Q : VK} {r : R2}
theorem st_asg (h : te σ H fun x H1 => B D (σ.set i (some x)) H1) : tSeq (tAsg te (gName i)) B D σ H := h
theorem st_ret (h : te σ H D.rt) : tRet te D σ H := h
theorem st_next (h : D.nx σ H) : tNext D σ H := h
theorem st_nextR {rt : VK} {bk ct : L2.St → Hp → Prop} (h : te σ H D.rt) : tNext { nx := tRet te D, rt := rt, bk := bk, ct := ct } σ H := h
theorem st_op (h : ta σ H fun x H1 => tb σ H1 fun y H2 => r x y H2 Q) : tOp r ta tb σ H Q := h
/-- behind branches: what J says -/
theorem st_join {A : TS} (J : L2.St → Hp → Prop) (h2 : ∀ σ' H', J σ' H' → B D σ' H') (h1 : ∀ D' : Ends, (∀ σ' H', J σ' H' → D'.nx σ' H') → D'.rt = D.rt → A D' σ H) : tSeq A B D σ H := h1 _ (fun σ' H' j => h2 σ' H' j) rfl
end
end Wl

/-! A tuple times 0 or 1. -/
namespace Wl
open PySem PySem.Spec PyProof.Rows L2
theorem times_same (l : Addr) (items : Array Value) (n : Nat) (dd : Option Addr) (sl : Array (Option Value)) (x : Int) (u : Tok) (c0 : (decide (x < -(2 ^ 63)) || decide (x ≥ 2 ^ 63)) = false) (c1 : (items.isEmpty || x == 1) = true) :
    Meets (Builtin.«tuple.__mul__» ⟨[.ref l, .int x u], []⟩) (fun _ R s => s.heap.get? l = some { cls := .type "tuple", dict := dd, data := .seq items n, slots := sl } ∧ R (.ok (.ret (Value.ref l))) s) :=
  .of_wp fun prog w A R s h => by
    obtain ⟨hp, g, d, tk, os⟩ := s
    obtain ⟨hl, h⟩ := h
    have f1 := AutoSeq1.idx_int
    have tl : Shared.TypeIs ⟨hp, g, d, tk, os⟩ (.ref l) "tuple" := ⟨_, hl, rfl⟩
    wp_walk using wpAny_loadPart' hl
    all_goals (try (refine wpAny_ite_false (decide_eq_false (by rw [c0]; exact Bool.false_ne_true)) ?_; wp_walk using wpAny_loadPart' hl))
    exact ⟨_, rfl, h⟩
theorem times_none (l : Addr) (items : Array Value) (n : Nat) (dd : Option Addr) (sl : Array (Option Value)) (u : Tok) (c1 : (items.isEmpty || (0 : Int) == 1) = false) :
    Meets (Builtin.«tuple.__mul__» ⟨[.ref l, .int 0 u], []⟩) (fun _ R s => s.heap.get? l = some { cls := .type "tuple", dict := dd, data := .seq items n, slots := sl } ∧
      R (.ok (.ret (Value.ref s.heap.objs.size))) { s with heap := s.heap.push { cls := Value.type "tuple", data := Data.seq #[] }, toks := s.toks }) :=
  .of_wp fun prog w A R s h => by
    obtain ⟨hp, g, d, tk, os⟩ := s
    obtain ⟨hl, h⟩ := h
    have f1 := AutoSeq1.idx_int
    have c2 : (decide ((0 : Int) ≤ 0) || items.isEmpty) = true := by rw [decide_eq_true (Int.le_refl 0)]; rfl
    wp_walk using wpAny_loadPart' hl
    refine wpAny_ite_false (decide_eq_false (fun e => by rw [c1] at e; cases e)) ?_
    wp_walk using wpAny_loadPart' hl
    all_goals (try (refine wpAny_ite_true (decide_eq_true c2) ?_; wp_walk using wpAny_loadPart' hl))
    exact ⟨_, rfl, h⟩
def rTimesT (K : PySem.W.Frag) : R2 := fun x y H Q => ∃ l k xs, x = .ref l ∧ y = .int k ∧ SqT K H l xs ∧ ((k = 1 ∧ Q (.ref l) H) ∨ (k = 0 ∧ (xs = [] → Q (.ref l) H) ∧ ∀ p, H p = none → Q (.ref p) (upd H p (.tup []))))
section
variable {X : Cx}
theorem op_timesT : OpR X (binaryOp .Mult) (rTimesT X.K) := by
  intro pins s σ H x y v u Q I rx ry h
  obtain ⟨l, k, xs, rfl, rfl, hT, q⟩ := h
  cases rx
  obtain ⟨t, rfl⟩ := ry
  obtain ⟨its, r, ⟨⟨cls, dd, data, sl⟩, ho, hc, n, hd⟩, hs⟩ := I.tuple hT
  simp only at hc hd
  subst hc hd
  have road : ∀ {Q' : Value → Shared → Prop}, wpAny (model X.prog X.w) X.A (call (.builtin "tuple.__mul__") [.ref l, .int k t]) Q' X.xe s → wpAny (model X.prog X.w) X.A (binaryOp .Mult (.ref l) (.int k t)) Q' X.xe s := fun {Q'} hq =>
    wpAny_binaryOp_repeat_ref (T := "tuple") (U := "int") (by decide) ⟨_, ho, rfl⟩ (fun s' => typeIs_int s' k t) noFill_tuple_mul F.fills_int_mul F.slot_int_rmul repeat_tuple F.slot_int_index.lookup
      (call_meets F.slot_int_rmul (typeIs_int s k t) F.entry_int_rmul (F.args_int_rmul_2 _ _) (int_rmul_tuple k t l its.toArray n dd sl) ⟨ho, rfl, ⟨_, ho, rfl⟩, hq⟩)
  refine road ?_
  rcases q with ⟨rfl, q⟩ | ⟨rfl, q0, q1⟩
  · exact call_meets F.slot_tuple_mul ⟨_, ho, rfl⟩ F.entry_tuple_mul (F.args_tuple_mul_2 _ _) (times_same l its.toArray n dd sl 1 t (by decide) (by simp)) ⟨ho, ⟨.ref l, H, I, rfl, q⟩⟩
  · cases its with
    | nil =>
      have e : xs = [] := by
        cases xs with
        | nil => rfl
        | cons a b => cases r
      exact call_meets F.slot_tuple_mul ⟨_, ho, rfl⟩ F.entry_tuple_mul (F.args_tuple_mul_2 _ _) (times_same l _ n dd sl 0 t (by decide) (by simp)) ⟨ho, ⟨.ref l, H, I, rfl, q0 e⟩⟩
    | cons a b =>
      refine call_meets F.slot_tuple_mul ⟨_, ho, rfl⟩ F.entry_tuple_mul (F.args_tuple_mul_2 _ _) (times_none l _ n dd sl t (by simp)) ⟨ho, ?_⟩
      have hn : H s.heap.objs.size = none := I.hok.fresh (Nat.le_refl _)
      refine ⟨.ref s.heap.objs.size, upd H s.heap.objs.size (.tup []), ?_, rfl, q1 _ hn⟩
      refine I.laid (t' := s.toks) (fun b o e => Heap.get?_push_of_some _ e) (Nat.le_refl _) ?_
      exact ⟨by simp, [], .nil, ⟨_, Heap.get?_push_size _ rfl, rfl, _, rfl⟩⟩
end
end Wl

/-! A tuple times a number, whichever object it gives. -/
namespace Wl
open PySem PySem.Spec PyProof.Rows L2
def rMulTu (K : PySem.W.Frag) : R2 := fun x y H Q => ∃ l k xs, x = .ref l ∧ y = .int k ∧ H l = some (.tup xs) ∧ xs ≠ [] ∧ 0 ≤ k ∧ k ≤ 1000 ∧ xs.length ≤ 1000 ∧ ∀ u H', Same H H' → H' u = some (.tup (List.replicate k.toNat xs).flatten) → Q (.ref u) H'
theorem op_mulTu {X : Cx} : OpR X (binaryOp .Mult) (rMulTu X.K) := by
  intro pins s σ H x y v u Q I rx ry h
  obtain ⟨l, k, xs, rfl, rfl, hT, hne, h0, h1, hz, q⟩ := h
  rcases Int.lt_or_le k 2 with h2 | h2
  · refine op_timesT pins s σ H _ _ v u Q I rx ry ⟨l, k, xs, rfl, rfl, .inl (.inl hT), ?_⟩
    rcases (by omega : k = 1 ∨ k = 0) with rfl | rfl
    · exact .inl ⟨rfl, q l H (Same.refl H) (by rw [hT]; simp)⟩
    · exact .inr ⟨rfl, fun e => absurd e hne, fun p hp => q p _ (same_new hp) upd_same⟩
  · exact op_repT pins s σ H _ _ v u Q I rx ry ⟨l, k, xs, rfl, rfl, .inl (.inl hT), hne, h2, h1, hz, fun p hp => q p _ (same_new hp) upd_same⟩
end Wl

namespace Wl
open PySem PySem.Spec PyProof.Rows L2
theorem RepV.same {K : PySem.W.Frag} {H H' : Hp} {v : V} {d : PyData} (h : RepV K H v d) (s : Same H H') : RepV K H' v d := by
  rcases h with ⟨h0, h⟩ | ⟨p, e, h, ed⟩ | ⟨p, q, e, h, hq, ed⟩
  · exact .inl ⟨h0, dp_same s h⟩
  · exact .inr (.inl ⟨p, e, s _ _ h, ed⟩)
  · exact .inr (.inr ⟨p, q, e, s _ _ h, s _ _ hq, ed⟩)
theorem str_ok8 {y : Str} (h : ∀ c ∈ y.cps.toList, c < 128) : PyData.canLay0 (.str y) = true := by
  show PyData.strOk y = true
  unfold PyData.strOk
  rw [← Array.all_toList, List.all_eq_true]
  intro c hc
  have := h c hc
  exact decide_eq_true (by omega)
theorem wd_ascii {z : Str} (h : IsWd z) : ∀ c ∈ z.cps.toList, c < 128 := by
  have h0 : wdB z = true := h
  unfold wdB at h0
  simp only [Bool.and_eq_true, decide_eq_true_eq, List.all_eq_true] at h0
  intro c hc
  have := h0.2 c hc
  omega
section
variable {K : PySem.W.Frag} {a : Addr} {σ : L2.St} {H0 : Hp}
theorem purse_grows : GrowsH (fun H => PurseAt H a) := fun _ _ h s => h.same s
theorem hid_newP {H : Hp} {p : Addr} {o : HO} (h : PurseAt H a) (hp : H p = none) : hid a (upd H p o) p = some o := hid_at upd_same (h.ne hp)
theorem od_t {H : Hp} {p : Addr} {xs : List V} (h : H p = some (.tup xs)) : OddV H (.ref p) := .inr (.inr (.inr (.inr ⟨p, rfl, .inl ⟨xs, h⟩⟩)))
theorem od_l {H : Hp} {p : Addr} {xs : List V} (h : H p = some (.lst xs)) : OddV H (.ref p) := .inr (.inr (.inr (.inr ⟨p, rfl, .inr (.inl ⟨xs, h⟩)⟩)))
theorem od_d {H : Hp} {p : Addr} (h : H p = some (.dK [])) : OddV H (.ref p) := .inr (.inr (.inr (.inr ⟨p, rfl, .inr (.inr ⟨_, h⟩)⟩)))
end
section
variable {P : Program} {w : World} {K : PySem.W.Frag} {mg : Str → Option Value} {base : Heap} {f : Addr} {fd : FuncData}
end
end Wl


namespace Wl
open PySem PySem.Spec PyProof.Rows L2
section
variable {a : Addr} {σ : L2.St}
theorem purse_ne {H : Hp} {p : Addr} (h : PurseAt H a) (hp : H p = none) : p ≠ a := h.ne hp
theorem PurseAt.grows : GrowsH (fun H => PurseAt H a) := fun _ _ h s => h.same s
theorem NoChg.grows : Grows (fun H v => NoChg (hid a H) v) := fun _ _ _ h s => h.same (hid_x (sx s))
theorem hid_new {H : Hp} {p : Addr} {o : HO} (h : PurseAt H a) (hp : H p = none) : hid a (upd H p o) p = some o := hid_at upd_same (h.ne hp)
theorem nc_flat {H : Hp} {v : V} (h : OddV H v) (hr : ∀ p, v ≠ .ref p) : NoChg H v := ⟨h, fun p xs e => absurd e (hr p)⟩
theorem nc_tup {H : Hp} {p : Addr} {xs : List V} (h : H p = some (.tup xs)) (hl : xs.length ≤ 1000) (h3 : xs.length = 3 → ∃ x y z, xs = [x, y, z] ∧ OddV H x ∧ OddV H y ∧ OddV H z ∧ chB x y z = false) : NoChg H (.ref p) := by
  refine ⟨.inr (.inr (.inr (.inr ⟨p, rfl, .inl ⟨xs, h⟩⟩))), fun p' ys e hp => ?_⟩
  cases e
  rw [h] at hp
  cases hp
  exact ⟨hl, h3⟩
theorem nc_other {H : Hp} {p : Addr} {o : HO} (h : H p = some o) (ho : OddV H (.ref p)) (hn : ∀ xs, o ≠ .tup xs) : NoChg H (.ref p) := by
  refine ⟨ho, fun p' ys e hp => ?_⟩
  cases e
  rw [h] at hp
  exact absurd (Option.some.inj hp) (hn ys)
/-- three constants -/
theorem nc3 {x y z : V} (ox : ∀ H, OddV H x) (oy : ∀ H, OddV H y) (oz : ∀ H, OddV H z) (hc : chB x y z = false) : Bld σ (fun H => PurseAt H a) (fun H v => NoChg (hid a H) v) (tTup (tCons (tC x) (tCons (tC y) (tCons (tC z) tNil)))) :=
  bld_tup (bldx_c (xs := [x, y, z]) fun _ _ q => q) (fun _ xs e => by subst e; show 3 ≤ 1000; omega) fun H p xs i e hp => by
    subst e
    exact nc_tup (hid_new i hp) (by show 3 ≤ 1000; omega) fun _ => ⟨x, y, z, rfl, ox _, oy _, oz _, hc⟩
theorem ncN {xs : List V} {ta : TA} (h : ∀ (H : Hp) (Q : List V → Hp → Prop), Q xs H → ta σ H Q) (hl : xs.length ≤ 1000) (hn : xs.length ≠ 3) : Bld σ (fun H => PurseAt H a) (fun H v => NoChg (hid a H) v) (tTup ta) :=
  bld_tup (bldx_c h) (fun _ ys e => by subst e; exact hl) fun H p ys i e hp => by
    subst e
    exact nc_tup (hid_new i hp) hl fun e => absurd e hn
theorem ncL {xs : List V} {ta : TA} (h : ∀ (H : Hp) (Q : List V → Hp → Prop), Q xs H → ta σ H Q) (hl : xs.length ≤ 1000) : Bld σ (fun H => PurseAt H a) (fun H v => NoChg (hid a H) v) (tLst ta) :=
  bld_lstX (bldx_c h) (fun _ ys e => by subst e; exact hl) fun H p ys i e hp => by
    subst e
    exact nc_other (hid_new i hp) (.inr (.inr (.inr (.inr ⟨p, rfl, .inr (.inl ⟨_, hid_new i hp⟩)⟩)))) fun xs => by intro z; cases z
theorem ncC {v : V} (o : ∀ H, OddV H v) (hr : ∀ p, v ≠ .ref p) : Bld σ (fun H => PurseAt H a) (fun H v => NoChg (hid a H) v) (tC v) := bld_c fun H _ => nc_flat (o _) hr
theorem odS {z : Str} (h : Nat.ble z.length 1000 = true := by decide +kernel) : ∀ H, OddV H (.str z) := fun _ => .inl ⟨z, rfl, Nat.le_of_ble_eq_true h⟩
theorem odN : ∀ H, OddV H .non := fun _ => .inr (.inl rfl)
theorem odB {b : Bool} : ∀ H, OddV H (.bl b) := fun _ => .inr (.inr (.inl ⟨b, rfl⟩))
theorem odI {i : Int} : ∀ H, OddV H (.int i) := fun _ => .inr (.inr (.inr (.inl ⟨i, rfl⟩)))
theorem ncz : Bld σ (fun H => PurseAt H a) (fun H v => NoChg (hid a H) v) (tTup (tCons (tC (.str "a")) (tCons (tC (.str "b")) (tCons (tLst (tCons (tC (.str "any")) tNil)) tNil)))) :=
  bld_tup (R := fun H xs => ∃ l, xs = [.str "a", .str "b", .ref l] ∧ hid a H l = some (.lst [.str "any"])) (fun H Q i q => ⟨by decide, fun l hl => q _ _ (same_new hl) (i.same (same_new hl)) ⟨l, rfl, hid_new i hl⟩⟩) (fun _ xs ⟨_, e, _⟩ => by subst e; show 3 ≤ 1000; omega) fun H p xs i ⟨l, e, hl⟩ hp => by
    subst e
    exact nc_tup (hid_new i hp) (by show 3 ≤ 1000; omega) fun _ => ⟨_, _, _, rfl, (odS (by decide +kernel) _), (odS (by decide +kernel) _), .inr (.inr (.inr (.inr ⟨l, rfl, .inr (.inl ⟨_, hid_x (sx (same_new hp)) _ _ hl⟩)⟩))), rfl⟩
theorem ncx : Bld σ (fun H => PurseAt H a) (fun H v => NoChg (hid a H) v) (tTup (tCons (tLst (tCons (tC (.str "a")) tNil)) (tCons (tC (.str "b")) (tCons (tC (.str "any")) tNil)))) :=
  bld_tup (R := fun H xs => ∃ l, xs = [.ref l, .str "b", .str "any"] ∧ hid a H l = some (.lst [.str "a"])) (fun H Q i q => ⟨by decide, fun l hl => q _ _ (same_new hl) (i.same (same_new hl)) ⟨l, rfl, hid_new i hl⟩⟩) (fun _ xs ⟨_, e, _⟩ => by subst e; show 3 ≤ 1000; omega) fun H p xs i ⟨l, e, hl⟩ hp => by
    subst e
    exact nc_tup (hid_new i hp) (by show 3 ≤ 1000; omega) fun _ => ⟨_, _, _, rfl, .inr (.inr (.inr (.inr ⟨l, rfl, .inr (.inl ⟨_, hid_x (sx (same_new hp)) _ _ hl⟩)⟩))), (odS (by decide +kernel) _), (odS (by decide +kernel) _), rfl⟩
theorem ncd : Bld σ (fun H => PurseAt H a) (fun H v => NoChg (hid a H) v) tDNewK := fun H Q i q d hd => q (.ref d) _ (same_new hd) (nc_other (hid_new i hd) (.inr (.inr (.inr (.inr ⟨d, rfl, .inr (.inr ⟨_, hid_new i hd⟩)⟩)))) fun xs => by intro z; cases z)
theorem ncy : Bld σ (fun H => PurseAt H a) (fun H v => NoChg (hid a H) v) (tTup (tCons tDNewK (tCons (tC (.str "b")) (tCons (tC (.str "any")) tNil)))) :=
  bld_tup (R := fun H xs => ∃ l, xs = [.ref l, .str "b", .str "any"] ∧ hid a H l = some (.dK [])) (fun H Q i q d hd => q _ _ (same_new hd) (i.same (same_new hd)) ⟨d, rfl, hid_new i hd⟩) (fun _ xs ⟨_, e, _⟩ => by subst e; show 3 ≤ 1000; omega) fun H p xs i ⟨l, e, hl⟩ hp => by
    subst e
    exact nc_tup (hid_new i hp) (by show 3 ≤ 1000; omega) fun _ => ⟨_, _, _, rfl, .inr (.inr (.inr (.inr ⟨l, rfl, .inr (.inr ⟨_, hid_x (sx (same_new hp)) _ _ hl⟩)⟩))), (odS (by decide +kernel) _), (odS (by decide +kernel) _), rfl⟩
end
section
variable {P : Program} {w : World} {K : PySem.W.Frag} {mg : Str → Option Value} {base : Heap} {f : Addr} {fd : FuncData}
end
end Wl



namespace Wl
open PySem PySem.Spec PyProof.Rows L2
section
variable {K : PySem.W.Frag} {a g : Addr} {σ : L2.St}
theorem NoChs.grows {o : Option Nat} : Grows (fun H v => NoChs (hid a H) v o) := fun _ _ _ h s => h.same (hid_x (sx s))
theorem no_flat {v : V} {H : Hp} (h : OddV H v) (hn : v ≠ .non) (hr : ∀ p, v ≠ .ref p) : NoChs H v none := ⟨h, hn, fun p xs e => absurd e (hr p)⟩
theorem no_obj {p : Addr} {o : HO} {H : Hp} (h : H p = some o) (ho : OddV H (.ref p)) (hn : ∀ xs, o = .tup xs → 12 < xs.length) : NoChs H (.ref p) none := by
  refine ⟨ho, (fun e => nomatch e), fun p' xs e hp => ?_⟩
  cases e
  rw [h] at hp
  exact hn xs (Option.some.inj hp)
theorem bld_I {I J : Hp → Prop} {G : Hp → V → Prop} {te : TE} (h : Bld σ I G te) (k : ∀ H, J H → I H) : Bld σ J G te := fun H Q i q => h H Q (k H i) q
theorem rep_tup {H H' : Hp} {u : Addr} {xs : List V} (hA : PurseAt H a) (s : Same H H') (h : H' u = some (.tup xs)) : u ≠ a := fun z => by
  obtain ⟨ys, hy⟩ := (hA.same s).lst
  rw [z, hy] at h
  cases h
end
section
variable {P : Program} {w : World} {K : PySem.W.Frag} {mg : Str → Option Value} {base : Heap} {f : Addr} {fd : FuncData}
theorem rep_oneV (c : Nat) (x : V) : (List.replicate c [x]).flatten = List.replicate c x := by
  induction c with
  | zero => rfl
  | succ c ih => rw [List.replicate_succ, List.flatten_cons, ih, List.replicate_succ]; rfl
end
end Wl


/-! what repr makes of plain texts is a text that can be laid. -/
namespace Wl
open PySem PySem.Spec PyProof.Rows L2
def TOk (s : Str) : Prop := ∀ c ∈ s.cps.toList, c < 1114112
theorem tok_app {a b : Str} (ha : TOk a) (hb : TOk b) : TOk (a ++ b) := fun c hc => by
  have e : (a ++ b).cps.toList = a.cps.toList ++ b.cps.toList := TL.tl_append a b
  rw [e, List.mem_append] at hc
  rcases hc with h | h
  · exact ha c h
  · exact hb c h
theorem tok_lay {s : Str} (h : TOk s) : PyData.canLay0 (.str s) = true := by
  show PyData.strOk s = true
  unfold PyData.strOk
  rw [← Array.all_toList, List.all_eq_true]
  intro c hc
  exact decide_eq_true (h c hc)
def tokB (s : Str) : Bool := s.cps.toList.all fun c => decide (c < 1114112)
theorem tok_c {s : Str} (h : tokB s = true := by decide +kernel) : TOk s := fun c hc => of_decide_eq_true (List.all_eq_true.mp h c hc)
theorem tok_ascii {s : Str} (h : ∀ c ∈ s.cps.toList, c < 128) : TOk s := fun c hc => by have := h c hc; omega
theorem rc_ok : ∀ c : Fin 128, ((Builtin.Str.reprChar 39 c.1).all fun d => decide (d < 1114112)) = true ∧ ((Builtin.Str.reprChar 34 c.1).all fun d => decide (d < 1114112)) = true := by decide +kernel
theorem quote_or (x : Str) : reprQuote x = 34 ∨ reprQuote x = 39 := by
  unfold reprQuote
  split
  · exact .inl rfl
  · exact .inr rfl
theorem foldl_ok (q : Nat) (hq : q = 34 ∨ q = 39) : ∀ (l : List Nat) (acc : Array Nat), (∀ c ∈ l, c < 128) → (∀ d ∈ acc.toList, d < 1114112) → ∀ d ∈ (l.foldl (fun out c => out ++ (Builtin.Str.reprChar q c).toArray) acc).toList, d < 1114112
  | [], acc, _, h => h
  | c :: r, acc, hl, h => by
    refine foldl_ok q hq r _ (fun d hd => hl d (List.mem_cons_of_mem _ hd)) fun d hd => ?_
    rw [Array.toList_append, List.mem_append] at hd
    rcases hd with hd | hd
    · exact h d hd
    · have hd : d ∈ Builtin.Str.reprChar q c := hd
      have k := rc_ok ⟨c, hl c List.mem_cons_self⟩
      rcases hq with rfl | rfl
      · exact of_decide_eq_true (List.all_eq_true.mp k.2 d hd)
      · exact of_decide_eq_true (List.all_eq_true.mp k.1 d hd)
theorem tok_repr {x : Str} (h : ∀ c ∈ x.cps.toList, c < 128) : TOk (reprText x) := by
  intro d hd
  have e : (reprText x).cps.toList = (x.cps.toList.foldl (fun out c => out ++ (Builtin.Str.reprChar (reprQuote x) c).toArray) #[reprQuote x]).toList ++ [reprQuote x] := by
    unfold reprText
    show ((x.cps.foldl (fun out c => out ++ (Builtin.Str.reprChar (reprQuote x) c).toArray) #[reprQuote x]).push (reprQuote x)).toList = _
    rw [Array.toList_push, ← Array.foldl_toList]
  rw [e, List.mem_append] at hd
  have hq : reprQuote x < 1114112 := by rcases quote_or x with h | h <;> omega
  rcases hd with hd | hd
  · refine foldl_ok _ (quote_or x) _ _ h (fun d hd => ?_) d hd
    have : d = reprQuote x := by simpa using hd
    omega
  · rw [List.mem_singleton.mp hd]
    exact hq
theorem tok_ls {x : Str} (h : ∀ c ∈ x.cps.toList, c < 128) : TOk (PyData.list [.str x]).shown := by
  have e : (PyData.list [.str x]).shown = (("[" : Str) ++ ((if 0 > 0 then ", " else "" : String) : Str) ++ reprText x) ++ ("]" : Str) := by
    simp only [PyData.shown, PyData.shownAll]
    rfl
  rw [e]
  exact tok_app (tok_app (tok_app tok_c tok_c) (tok_repr h)) tok_c
theorem tok_tp {x : Str} (h : ∀ c ∈ x.cps.toList, c < 128) : TOk (PyData.tuple [.str x]).shown := by
  have e : (PyData.tuple [.str x]).shown = (("(" : Str) ++ reprText x) ++ (",)" : Str) := by
    simp only [PyData.shown, PyData.shownAll]
    rfl
  rw [e]
  exact tok_app (tok_app tok_c (tok_repr h)) tok_c
theorem tok_s {x : Str} (h : ∀ c ∈ x.cps.toList, c < 128) : TOk (PyData.str x).shown := by
  have e : (PyData.str x).shown = reprText x := by simp only [PyData.shown]
  rw [e]
  exact tok_repr h
end Wl

/-! things that are no village there. -/
namespace Wl
open PySem PySem.Spec PyProof.Rows L2
abbrev sNoT : Stmt := topS 92
/-- no village, as drawn: what stands at a left out -/
def NGk (K : PySem.W.Frag) (a : Addr) (H : Hp) (v : V) : Prop := OddV (hid a H) v ∧ wvB v = false ∧ ∃ d, RepV K (hid a H) v d ∧ ShowsV d ∧ TOk d.shown
theorem NGk.x {K : PySem.W.Frag} {a : Addr} {H H' : Hp} {v : V} (h : NGk K a H v) (s : SameX a H H') : NGk K a H' v := by
  obtain ⟨h1, h2, d, h3, h4⟩ := h
  exact ⟨h1.same (hid_x s), h2, d, h3.same (hid_x s), h4⟩
theorem ng_grows {K : PySem.W.Frag} {a : Addr} : Grows (NGk K a) := fun H H' v h s => h.x (sx s)
theorem name_bad {g : Grid} {v : V} (h : wvB v = false) : nameB g v = false := by
  cases v with
  | str z =>
    show (wdB z && decide (z ∈ names g)) = false
    rw [show wdB z = false from h, Bool.false_and]
  | _ => rfl
theorem shv {d : PyData} (h1 : d.showable = true := by decide +kernel) (h2 : Nat.ble d.depth 8 = true := by decide +kernel) (h3 : Nat.ble d.shown.length 1000 = true := by decide +kernel) : ShowsV d :=
  ⟨h1, Nat.le_of_ble_eq_true h2, Nat.le_trans (Nat.le_of_ble_eq_true h3) (by rw [sizeLine_eq]; omega)⟩
theorem shv_of {d : PyData} (h : Shows d) : ShowsV d := ⟨h.sh, h.deep, h.size⟩
theorem asc_lay {y : Str} (h : ∀ c ∈ y.cps.toList, c < 128) : PyData.canLay0 (.str y) = true := tok_lay (tok_ascii h)
theorem shv_s {y : Str} (h : ∀ c ∈ y.cps.toList, c < 128) (l : y.length ≤ 100) : ShowsV (.str y) := by
  refine shv_of ⟨asc_lay h, by simp [PyData.depth], ?_, by simp [PyData.showable], by simp [PyData.intsShort]⟩
  have l1 : y.cps.size ≤ 100 := l
  simp only [PyData.weight]
  omega
theorem shv_l {y : Str} (h : ∀ c ∈ y.cps.toList, c < 128) (l : y.length ≤ 100) : ShowsV (.list [.str y]) := by
  refine shv_of ⟨?_, by simp [PyData.depth, PyData.depthAll], ?_, by simp [PyData.showable, PyData.showableAll], by simp [PyData.intsShort, PyData.intsShortAll]⟩
  · show (PyData.canLay0 (.str y) && true) = true
    rw [asc_lay h]
    rfl
  · have l1 : y.cps.size ≤ 100 := l
    simp only [PyData.weight, PyData.weightAll]
    omega
theorem shv_t {y : Str} (h : ∀ c ∈ y.cps.toList, c < 128) (l : y.length ≤ 100) : ShowsV (.tuple [.str y]) := by
  refine shv_of ⟨?_, by simp [PyData.depth, PyData.depthAll], ?_, by simp [PyData.showable, PyData.showableAll], by simp [PyData.intsShort, PyData.intsShortAll]⟩
  · show (PyData.canLay0 (.str y) && true) = true
    rw [asc_lay h]
    rfl
  · have l1 : y.cps.size ≤ 100 := l
    simp only [PyData.weight, PyData.weightAll]
    omega
theorem sp_cps : (" " : Str).cps.toList = [32] := by decide +kernel
theorem sp_bad (z : Str) : wdB (z ++ " ") = false := by
  unfold wdB
  have : ((z ++ (" " : Str)).cps.toList.all fun c => decide (97 ≤ c) && decide (c ≤ 122)) = false := by
    have e : (z ++ (" " : Str)).cps.toList = z.cps.toList ++ (" " : Str).cps.toList := TL.tl_append z " "
    rw [e, sp_cps, List.all_append]
    simp
  rw [this, Bool.and_false]
section
variable {σ : L2.St} {K : PySem.W.Frag} {a Tw : Addr} {ws : List Str}
abbrev IT (a Tw : Addr) (ws : List Str) : Hp → Prop := fun H => PurseAt H a ∧ H Tw = some (.lst (ws.map V.str))
theorem it_grows : GrowsH (IT a Tw ws) := fun _ _ h s => ⟨h.1.same s, s _ _ h.2⟩
theorem ng_d {H : Hp} {v : V} {d : PyData} (ho : OddV (hid a H) v) (hb : wvB v = false) (hr : RepV K (hid a H) v d) (hs : ShowsV d) (ht : TOk d.shown) : NGk K a H v := ⟨ho, hb, d, hr, hs, ht⟩
theorem bn_n : Bld σ (IT a Tw ws) (NGk K a) (tC .non) := bld_c fun _ _ => ng_d (odN _) rfl (.inl ⟨rfl, .non⟩) shv tok_c
theorem bn_b {b : Bool} (hs : ShowsV (.bool b)) (ht : TOk (PyData.bool b).shown) : Bld σ (IT a Tw ws) (NGk K a) (tC (.bl b)) := bld_c fun _ _ => ng_d (odB _) rfl (.inl ⟨rfl, .bl b⟩) hs ht
theorem bn_i {i : Int} (hs : ShowsV (.int i)) (ht : TOk (PyData.int i).shown) : Bld σ (IT a Tw ws) (NGk K a) (tC (.int i)) := bld_c fun _ _ => ng_d (odI _) rfl (.inl ⟨rfl, .int i⟩) hs ht
theorem bn_s {z : Str} (hb : wdB z = false) (hs : ShowsV (.str z)) (ht : TOk (PyData.str z).shown) (l : Nat.ble z.length 1000 = true) : Bld σ (IT a Tw ws) (NGk K a) (tC (.str z)) := bld_c fun _ _ => ng_d (odS l _) hb (.inl ⟨rfl, .str z⟩) hs ht
theorem bn_t0 : Bld σ (IT a Tw ws) (NGk K a) (tTup tNil) := fun H Q i q => ⟨lz, fun p hp => q _ _ (same_new hp) (ng_d (od_t (hid_newP i.1 hp)) rfl (.inl ⟨rfl, .tup (.inl (.inl (hid_newP i.1 hp))) .nil⟩) shv tok_c)⟩
theorem bn_l0 : Bld σ (IT a Tw ws) (NGk K a) (tLst tNil) := fun H Q i q => ⟨lz, fun p hp => q _ _ (same_new hp) (ng_d (od_l (hid_newP i.1 hp)) rfl (.inl ⟨rfl, .lst (.inl (.inl (hid_newP i.1 hp))) .nil⟩) shv tok_c)⟩
theorem bn_d : Bld σ (IT a Tw ws) (NGk K a) tDNewK := fun H Q i q d hd => q _ _ (same_new hd) (ng_d (od_d (hid_newP i.1 hd)) rfl (.inr (.inl ⟨d, rfl, hid_newP i.1 hd, rfl⟩)) shv tok_c)
theorem bn_tl : Bld σ (IT a Tw ws) (NGk K a) (tTup (tCons (tLst tNil) tNil)) := fun H Q i q => ⟨lz, fun l hl => ⟨lz, fun p hp => by
  have i1 : PurseAt (upd H l (.lst [])) a := i.1.same (same_new hl)
  exact q _ _ ((same_new hl).trans (same_new hp)) (ng_d (od_t (hid_newP i1 hp)) rfl (.inl ⟨rfl, .tup (.inl (.inl (hid_newP i1 hp))) (.cons (.lst (.inl (.inl (hid_x (sx (same_new hp)) _ _ (hid_newP i.1 hl)))) .nil) .nil)⟩) shv tok_c)⟩⟩
theorem bn_00 : Bld σ (IT a Tw ws) (NGk K a) (tTup (tCons (tC (.int 0)) (tCons (tC (.int 0)) tNil))) := fun H Q i q => ⟨lz, fun p hp => q _ _ (same_new hp) (ng_d (od_t (hid_newP i.1 hp)) rfl (.inl ⟨rfl, .tup (.inl (.inl (hid_newP i.1 hp))) (.cons (.int 0) (.cons (.int 0) .nil))⟩) shv tok_c)⟩
end
section
variable {P : Program} {w : World} {K : PySem.W.Frag} {mg : Str → Option Value} {base : Heap} {f : Addr} {fd : FuncData}
abbrev psNoT : List Str := ["_law_purse_here", "_law_towns"]
abbrev nNoT : List Str := ["_law_purse_here", "_law_towns", "_law_some"]
theorem scNoT : FnScope nNoT psNoT (defScope sNoT) := ⟨rfl, rfl, rfl, by decide +kernel, rfl, by decide +kernel, by decide +kernel⟩
def spNoT (K : PySem.W.Frag) : Sp := fun vs H Q _ => ∃ (a Tw : Addr) (ws : List Str), vs = [.ref a, .ref Tw] ∧ PurseAt H a ∧ H Tw = some (.lst (ws.map V.str)) ∧ Tw ≠ a ∧ ws ≠ [] ∧ (∀ z ∈ ws, IsWd z) ∧ ∀ v H', SameX a H H' → PurseAt H' a → NGk K a H' v → Q v H'
theorem ok_not (F : Fun K "_law_no_town" "_law_no_town" sNoT f fd) (hP : Has P w K mg base "_law_pick" 1 ["_law_purse_here", "_law_many"] spPick) : FnOk P w K mg base CX0 2 f fd psNoT (spNoT K) := by
  refine F.ok scNoT (fun vs H Q E h => ?_) (fun cdv A outer s H vs Q E hr h => ?_)
  · obtain ⟨a, Tw, ws, rfl, _⟩ := h
    rfl
  · obtain ⟨a, Tw, ws, rfl, hA, hT, nT, hne, hws, q⟩ := h
    refine ⟨_, pss_cons (ps_set (i := 2) scNoT.nd rfl (.inl rfl) (pe_lst (pa_cons pe_non (pa_cons pe_bl (pa_cons pe_int (pa_cons pe_str (pa_cons pe_str (pa_cons pe_str (pa_cons (pe_op op_add_str (pe_ix ix_list (pv 1) pe_int (fun _ _ => rfl)) pe_str) (pa_cons (pe_lst pa_nil) (pa_cons pe_dnewK (pa_cons (pe_tup pa_nil) (pa_cons (pe_tup (pa_cons (pe_lst pa_nil) pa_nil)) (pa_cons (pe_lst (pa_cons (pe_ix ix_list (pv 1) pe_int (fun _ _ => rfl)) pa_nil)) (pa_cons (pe_tup (pa_cons (pe_ix ix_list (pv 1) pe_int (fun _ _ => rfl)) pa_nil)) (pa_cons (pe_tup (pa_cons pe_int (pa_cons pe_int pa_nil))) pa_nil))))))))))))))))
      (pss_one (ps_ret (pe_ix ix_list (pv 2) (pe_h hP hr (pa_cons (pv 0) (pa_cons pe_int pa_nil))) (fun _ _ => rfl)))), ?_⟩
    obtain ⟨z0, rest, rfl⟩ : ∃ z0 rest, ws = z0 :: rest := by
      cases ws with
      | nil => exact absurd rfl hne
      | cons z t => exact ⟨z, t, rfl⟩
    have wz0 : IsWd z0 := hws z0 List.mem_cons_self
    have l8 := wz0.len.2
    have gI : GrowsH (IT a Tw (z0 :: rest)) := it_grows
    have gG : Grows (NGk K a) := ng_grows
    have i0 : IT a Tw (z0 :: rest) H := ⟨hA, hT⟩
    refine st_asg (bld_lst (I := IT a Tw (z0 :: rest)) (n := 14) gG (bld_cons gI gG bn_n (bld_cons gI gG (bn_b (b := true) shv tok_c) (bld_cons gI gG (bn_i (i := 0) shv tok_c) (bld_cons gI gG (bn_s (z := "") (by decide +kernel) shv tok_c (by decide +kernel)) (bld_cons gI gG (bn_s (z := "A") (by decide +kernel) shv tok_c (by decide +kernel)) (bld_cons gI gG (bn_s (z := "nowherexx") (by decide +kernel) shv tok_c (by decide +kernel)) (bld_cons gI gG ?i6 (bld_cons gI gG bn_l0 (bld_cons gI gG bn_d (bld_cons gI gG bn_t0 (bld_cons gI gG bn_tl (bld_cons gI gG ?i12 (bld_cons gI gG ?i13 (bld_cons gI gG bn_00 bld_nil)))))))))))))) (by decide) i0 fun Al xs H4 s4 n4 e4 l4 g4 => ?_)
    case i6 =>
      intro H5 Q5 i5 q5
      have l1 : (" " : Str).length = 1 := rfl
      have ll : (z0 ++ (" " : Str)).length = z0.length + 1 := by
        show (z0.cps ++ (" " : Str).cps).size = _
        rw [Array.size_append]
        rfl
      have asc : ∀ c ∈ (z0 ++ (" " : Str)).cps.toList, c < 128 := fun c hc => by
        have e : (z0 ++ (" " : Str)).cps.toList = z0.cps.toList ++ (" " : Str).cps.toList := TL.tl_append z0 " "
        rw [e, sp_cps, List.mem_append] at hc
        rcases hc with hc | hc
        · exact wd_ascii wz0 c hc
        · have : c = 32 := List.mem_singleton.mp hc
          omega
      refine ⟨_, rfl, Tw, _, 0, .str z0, rfl, rfl, .inl (.inl i5.2), atI_nat (j := 0) rfl, z0, " ", rfl, rfl, by rw [l1, sizeLine_eq]; omega, q5 _ _ (Same.refl _) (ng_d (.inl ⟨_, rfl, by omega⟩) (sp_bad z0) (.inl ⟨rfl, .str _⟩) (shv_s asc (by omega)) (tok_s asc))⟩
    case i12 =>
      intro H5 Q5 i5 q5
      exact ⟨_, rfl, Tw, _, 0, .str z0, rfl, rfl, .inl (.inl i5.2), atI_nat (j := 0) rfl, lz, fun u hu => q5 _ _ (same_new hu) (ng_d (od_l (hid_newP i5.1 hu)) rfl (.inl ⟨rfl, .lst (.inl (.inl (hid_newP i5.1 hu))) (.cons (.str z0) .nil)⟩) (shv_l (wd_ascii wz0) (by omega)) (tok_ls (wd_ascii wz0)))⟩
    case i13 =>
      intro H5 Q5 i5 q5
      exact ⟨_, rfl, Tw, _, 0, .str z0, rfl, rfl, .inl (.inl i5.2), atI_nat (j := 0) rfl, lz, fun u hu => q5 _ _ (same_new hu) (ng_d (od_t (hid_newP i5.1 hu)) rfl (.inl ⟨rfl, .tup (.inl (.inl (hid_newP i5.1 hu))) (.cons (.str z0) .nil)⟩) (shv_t (wd_ascii wz0) (by omega)) (tok_tp (wd_ascii wz0)))⟩
    have i4 := gI _ _ i0 s4
    refine ⟨_, rfl, _, rfl, a, 14, rfl, i4.1, by decide, by decide, fun i H8 h0 h1 hp8 sx8 _ => ?_⟩
    have hl : xs.length = 14 := l4
    obtain ⟨v, hv⟩ : ∃ v, xs[i.toNat]? = some v := ⟨_, List.getElem?_eq_getElem (by omega)⟩
    have e8 : H8 Al = some (.lst xs) := sx8 _ _ (hA.ne n4) e4
    have ei : (i.toNat : Int) = i := Int.toNat_of_nonneg h0
    refine ⟨Al, xs, i, v, rfl, rfl, .inl (.inl e8), ?_, q v H8 ((sx s4).trans sx8) hp8 ((g4 v (List.mem_of_getElem? hv)).x sx8)⟩
    rw [← ei]
    exact atI_nat hv
end
end Wl

/-! Slices and sums of tuples, whichever object they give. -/
namespace Wl
open PySem PySem.Spec PyProof.Rows L2
section
variable {K : PySem.W.Frag} {H : Hp} {Q : VK}
theorem slA_rd {a : Addr} {xs : List V} {lo hi : Option Int} (ha : H a = some (.tup xs)) (q : ∀ u H', Same H H' → H' u = some (.tup (cutV xs lo hi)) → Q (.ref u) H') : rSlA K (.ref a) lo hi H Q := by
  refine ⟨a, xs, rfl, .inl (.inl ha), fun w => q a H (Same.refl H) ?_, fun _ p hp => q p _ (same_new hp) upd_same⟩
  rw [ha]
  unfold cutV
  rw [w.1, w.2, List.drop_zero, Nat.sub_zero, List.take_length]
theorem catA_rd {a b : Addr} {xs ys : List V} (ha : H a = some (.tup xs)) (hb : H b = some (.tup ys)) (hl : xs.length + ys.length ≤ 1000) (q : ∀ u H', Same H H' → H' u = some (.tup (xs ++ ys)) → Q (.ref u) H') : rCatA K (.ref a) (.ref b) H Q := by
  refine ⟨a, b, xs, ys, rfl, rfl, .inl (.inl ha), .inl (.inl hb), lzl hl, fun e => ?_, fun _ e => ?_, fun _ _ p hp => q p _ (same_new hp) upd_same⟩
  · subst e
    exact q b H (Same.refl H) hb
  · subst e
    exact q a H (Same.refl H) (by rw [List.append_nil]; exact ha)
theorem cutA_to (xs : List V) (c : Nat) : cutV xs none (some (c : Int)) = xs.take c := by
  unfold cutV
  rw [HT.sIx_none, HT.sIx_nat, List.drop_zero, Nat.sub_zero]
  by_cases h : c ≤ xs.length
  · rw [Nat.min_eq_left h]
  · rw [Nat.min_eq_right (by omega), List.take_length, List.take_of_length_le (by omega)]
theorem cutA_from (xs : List V) (c : Nat) : cutV xs (some (c : Int)) none = xs.drop c := by
  unfold cutV
  rw [HT.sIx_none, HT.sIx_nat]
  by_cases h : c ≤ xs.length
  · rw [Nat.min_eq_left h, List.take_of_length_le (by rw [List.length_drop]; omega)]
  · rw [Nat.min_eq_right (by omega), List.drop_length, List.drop_of_length_le (by omega), List.take_nil]
end
end Wl

/-! what is no tuple of changes, as drawn. -/
namespace Wl
open PySem PySem.Spec PyProof.Rows L2
abbrev sNoC : Stmt := topS 93
section
variable {K : PySem.W.Frag} {a : Addr} {σ : L2.St}
/-- ('a', [], 'any') -/
theorem ncq : Bld σ (fun H => PurseAt H a) (fun H v => NoChg (hid a H) v) (tTup (tCons (tC (.str "a")) (tCons (tLst tNil) (tCons (tC (.str "any")) tNil)))) :=
  bld_tup (R := fun H xs => ∃ l, xs = [.str "a", .ref l, .str "any"] ∧ hid a H l = some (.lst [])) (fun H Q i q => ⟨by decide, fun l hl => q _ _ (same_new hl) (i.same (same_new hl)) ⟨l, rfl, hid_new i hl⟩⟩) (fun _ xs ⟨_, e, _⟩ => by subst e; show 3 ≤ 1000; omega) fun H p xs i ⟨l, e, hl⟩ hp => by
    subst e
    exact nc_tup (hid_new i hp) (by show 3 ≤ 1000; omega) fun _ => ⟨_, _, _, rfl, (odS (by decide +kernel) _), .inr (.inr (.inr (.inr ⟨l, rfl, .inr (.inl ⟨_, hid_x (sx (same_new hp)) _ _ hl⟩)⟩))), (odS (by decide +kernel) _), rfl⟩
abbrev tABA : TE := tTup (tCons (tC (.str "a")) (tCons (tC (.str "b")) (tCons (tC (.str "any")) tNil)))
theorem no_l0 : Bld σ (fun H => PurseAt H a) (fun H v => NoChs (hid a H) v none) (tLst tNil) := fun H Q i q => ⟨lz, fun p hp => q _ _ (same_new hp) (no_obj (hid_newP i hp) (od_l (hid_newP i hp)) fun xs e => by cases e)⟩
theorem no_lg : Bld σ (fun H => PurseAt H a) (fun H v => NoChs (hid a H) v none) (tLst (tCons tABA tNil)) := fun H Q i q => ⟨lz, fun t ht => ⟨lz, fun p hp => by
  have i1 := i.same (same_new (o := .tup [.str "a", .str "b", .str "any"]) ht)
  exact q _ _ ((same_new ht).trans (same_new hp)) (no_obj (hid_newP i1 hp) (od_l (hid_newP i1 hp)) fun xs e => by cases e)⟩⟩
theorem no_d : Bld σ (fun H => PurseAt H a) (fun H v => NoChs (hid a H) v none) tDNewK := fun H Q i q d hd => q _ _ (same_new hd) (no_obj (hid_newP i hd) (od_d (hid_newP i hd)) fun xs e => by cases e)
theorem no_13 : Bld σ (fun H => PurseAt H a) (fun H v => NoChs (hid a H) v none) (tOp (rMulTu K) (tTup (tCons tABA tNil)) (tC (.int 13))) := fun H Q i q => ⟨lz, fun g hg => ⟨lz, fun t ht => ⟨t, 13, _, rfl, rfl, upd_same, by simp, by decide, by decide, by simp, fun u H' s' hu => by
  have s2 := ((same_new (o := .tup [.str "a", .str "b", .str "any"]) hg).trans (same_new (o := .tup [.ref g]) ht)).trans s'
  have hu2 := hid_at hu (rep_tup i s2 hu)
  exact q _ _ s2 (no_obj hu2 (od_t hu2) fun xs e => by
    cases e
    show 12 < 13
    omega)⟩⟩⟩
theorem noc_at {H : Hp} {u : Addr} {as : List Addr} {chs : List Chg} {v : V} {mid : List V} {c : Nat} (hc : c ≤ as.length) (hl : as.length ≤ 4) (hm : mid = [v] ∨ mid = [v, v]) (hE : Each (fun (p : Addr) (ch : Chg) => H p = some (.tup (chV ch))) as chs) (okc : OkCs chs) (hu : H u = some (.tup ((as.map V.ref).take c ++ mid ++ (as.map V.ref).drop c))) (hv : NoChg H v) : NoChs H (.ref u) (some c) := by
  have lm : 1 ≤ mid.length ∧ mid.length ≤ 2 := by rcases hm with rfl | rfl <;> simp
  refine ⟨u, _, rfl, hu, ?_, ?_, fun j hj => ?_, v, ?_, hv⟩
  · simp only [List.length_append, List.length_take, List.length_drop, List.length_map]
    omega
  · simp only [List.length_append, List.length_take, List.length_drop, List.length_map]
    omega
  · obtain ⟨p, hp⟩ : ∃ p, as[j]? = some p := ⟨_, List.getElem?_eq_getElem (by omega)⟩
    obtain ⟨ch, hch, hpH⟩ := Each.get hE hp
    refine ⟨p, ch, ?_, hpH, okc.2 ch (List.mem_of_getElem? hch)⟩
    rw [List.append_assoc, List.getElem?_append_left (by rw [List.length_take, List.length_map]; omega), List.getElem?_take_of_lt hj, List.getElem?_map, hp]
    rfl
  · have e : ((as.map V.ref).take c).length = c := by rw [List.length_take, List.length_map]; omega
    rw [List.append_assoc, List.getElem?_append_right (by rw [e]; exact Nat.le_refl c), e, Nat.sub_self]
    rcases hm with rfl | rfl <;> rfl
end
section
variable {P : Program} {w : World} {K : PySem.W.Frag} {mg : Str → Option Value} {base : Heap} {f : Addr} {fd : FuncData}
abbrev psNoC : List Str := ["_law_purse_here", "_law_swaps"]
abbrev nNoC : List Str := ["_law_purse_here", "_law_swaps", "_law_odd", "_law_way", "_law_at", "_law_part", "_law_forms"]
theorem scNoC : FnScope nNoC psNoC (defScope sNoC) := ⟨rfl, rfl, rfl, by decide +kernel, rfl, by decide +kernel, by decide +kernel⟩
def spNoC : Sp := fun vs H Q _ => ∃ (a S : Addr) (chs : List Chg), vs = [.ref a, .ref S] ∧ PurseAt H a ∧ ChAt H S chs ∧ OkCs chs ∧ chs.length ≤ 4 ∧ ∀ (p : Addr) (v : V) (o : Option Nat) (H' : Hp), SameX a H H' → PurseAt H' a → H' p = some (.lst [v, plcV o]) → p ≠ a → (∀ i, o = some i → i ≤ 4) → NoChs (hid a H') v o → Q (.ref p) H'
theorem ok_noc (F : Fun K "_law_no_changes" "_law_no_changes" sNoC f fd) (B : Bi mg) (hP : Has P w K mg base "_law_pick" 1 ["_law_purse_here", "_law_many"] spPick) : FnOk P w K mg base CX0 2 f fd psNoC spNoC := by
  refine F.ok scNoC (fun vs H Q E h => ?_) (fun cdv A outer s H vs Q E hr h => ?_)
  · obtain ⟨a, S, chs, rfl, _⟩ := h
    rfl
  · obtain ⟨a, S, chs, rfl, hA, hS, okc, h4, q⟩ := h
    have t3 : ∀ {X : Cx} {j1 j2 j3 : Nat} {x y z : Str} {p1 p2 p3 p : Pos} {k : Nat}, PE X (.Tuple [.Constant (.str x) j1 p1, .Constant (.str y) j2 p2, .Constant (.str z) j3 p3] k p) (tTup (tCons (tC (.str x)) (tCons (tC (.str y)) (tCons (tC (.str z)) tNil)))) := fun {X j1 j2 j3 x y z p1 p2 p3 p k} => pe_tup (pa_cons pe_str (pa_cons pe_str (pa_cons pe_str pa_nil)))
    refine ⟨_, pss_cons (ps_set (i := 2) scNoC.nd rfl (.inl rfl) (pe_lst (pa_cons t3 (pa_cons t3 (pa_cons t3 (pa_cons t3 (pa_cons (pe_tup (pa_cons pe_str (pa_cons pe_str pa_nil))) pa_nil)))))))
      (pss_cons (ps_set (i := 2) scNoC.nd rfl (.inl rfl) (pe_op op_cat (pv 2) (pe_lst (pa_cons (pe_lst (pa_cons pe_str (pa_cons pe_str (pa_cons pe_str pa_nil)))) (pa_cons (pe_tup (pa_cons pe_str (pa_cons pe_str (pa_cons pe_str (pa_cons pe_int pa_nil))))) (pa_cons pe_non (pa_cons pe_str (pa_cons t3 (pa_cons (pe_tup (pa_cons pe_str (pa_cons pe_str (pa_cons pe_non pa_nil)))) pa_nil)))))))))
      (pss_cons (ps_set (i := 2) scNoC.nd rfl (.inl rfl) (pe_op op_cat (pv 2) (pe_lst (pa_cons (pe_tup (pa_cons pe_str (pa_cons (pe_lst pa_nil) (pa_cons pe_str pa_nil)))) (pa_cons (pe_tup (pa_cons pe_int (pa_cons pe_int (pa_cons pe_int pa_nil)))) pa_nil)))))
      (pss_cons (ps_par (i := 3) (j := 4) (by rfl) scNoC.nd rfl rfl (by decide) rfl rfl (pa_cons (pe_h hP hr (pa_cons (pv 0) (pa_cons pe_int pa_nil))) (pa_cons (pe_h hP hr (pa_cons (pv 0) (pa_cons (pe_op op_add (pe_callB call_len_seq (by rfl) B.len PySem.boot_len (pa_cons (pv 1) pa_nil)) pe_int) pa_nil))) pa_nil)) (by rfl))
      (pss_cons (ps_set (i := 5) scNoC.nd rfl (.inl rfl) (pe_ix ix_list (pv 2) (pe_h hP hr (pa_cons (pv 0) (pa_cons pe_int pa_nil))) (fun _ _ => rfl)))
      (pss_cons (ps_if (pt_cmpR op_eq (pv 3) pe_int (nomark _))
        (pss_cons (ps_set (i := 6) scNoC.nd rfl (.inl rfl) (pe_lst (pa_cons pe_bl (pa_cons pe_int (pa_cons pe_str (pa_cons (pe_lst pa_nil) (pa_cons pe_dnewK (pa_cons (pe_lst (pa_cons t3 pa_nil)) (pa_cons (pe_op op_mulTu (pe_tup (pa_cons t3 pa_nil)) pe_int) (pa_cons pe_str pa_nil))))))))))
        (pss_one (ps_ret (pe_lst (pa_cons (pe_ix ix_list (pv 6) (pe_h hP hr (pa_cons (pv 0) (pa_cons pe_int pa_nil))) (fun _ _ => rfl)) (pa_cons pe_non pa_nil)))))) pss_nil)
      (pss_cons (ps_if (pt_cmpR op_eq (pv 3) pe_int (nomark _))
        (pss_one (ps_ret (pe_lst (pa_cons (pe_op op_catA (pe_op op_catA (pe_slice sl_tupA (pv 1) po_none (po_some (pv 4))) (pe_tup (pa_cons (pv 5) pa_nil))) (pe_slice sl_tupA (pv 1) (po_some (pv 4)) po_none)) (pa_cons (pv 4) pa_nil))))) pss_nil)
      (pss_one (ps_ret (pe_lst (pa_cons (pe_op op_catA (pe_op op_catA (pe_slice sl_tupA (pv 1) po_none (po_some (pv 4))) (pe_tup (pa_cons (pv 5) (pa_cons (pv 5) pa_nil)))) (pe_slice sl_tupA (pv 1) (po_some (pv 4)) po_none)) (pa_cons (pv 4) pa_nil))))))))))), ?_⟩
    have gG : Grows (fun H v => NoChg (hid a H) v) := NoChg.grows
    have gI : GrowsH (fun H => PurseAt H a) := PurseAt.grows
    refine st_asg (bld_lst (n := 5) gG (bld_cons gI gG (nc3 odS odS odS (by decide +kernel)) (bld_cons gI gG (nc3 odS odS odS (by decide +kernel)) (bld_cons gI gG (nc3 odS odS odS (by decide +kernel)) (bld_cons gI gG (nc3 odS odS odS (by decide +kernel)) (bld_cons gI gG (ncN (xs := [.str "a", .str "b"]) (fun _ _ q => q) (by decide) (by decide)) bld_nil))))) (by decide) hA fun p0 x0 H1 s1 n1 e1 l1 g1 => ?_)
    have A1 := hA.same s1
    refine st_asg (bld_cat (n := 6) (m := 5) gI gG (i0 := 2) (bld_cons gI gG (ncL (xs := [.str "a", .str "b", .str "any"]) (fun _ _ q => q) (by decide)) (bld_cons gI gG (ncN (xs := [.str "a", .str "b", .str "any", .int 1]) (fun _ _ q => q) (by decide) (by decide)) (bld_cons gI gG (ncC odN (fun p e => nomatch e)) (bld_cons gI gG (ncC odS (fun p e => nomatch e)) (bld_cons gI gG (nc3 odS odS odS (by decide +kernel)) (bld_cons gI gG (nc3 odS odS odN (by decide +kernel)) bld_nil)))))) (by decide) A1 rfl e1 l1 g1 fun p1 x1 H2 s2 n2 e2 l2 g2 => ?_)
    have S2 := s1.trans s2
    have A2 := A1.same s2
    refine st_asg (bld_cat (n := 2) (m := 11) gI gG (i0 := 2) (bld_cons gI gG ncq (bld_cons gI gG (nc3 odI odI odI (by decide +kernel)) bld_nil)) (by decide) A2 rfl e2 l2 g2 fun p2 x2 H3 s3 n3 e3 l3 g3 => ?_)
    have S3 := S2.trans s3
    have A3 := A2.same s3
    have np2 : p2 ≠ a := hA.ne (hq_of S2 n3)
    have l13 : x2.length = 13 := l3
    clear e1 e2 l1 l2 l3 g1 g2 n1 n2 n3
    obtain ⟨as, hS0, hE0⟩ := id hS
    have nS : S ≠ a := fun z => by
      obtain ⟨ys, hy⟩ := hA.lst
      rw [z, hy] at hS0
      cases hS0
    have hle : as.length = chs.length := hE0.length
    refine ⟨_, rfl, a, 3, rfl, A3, by decide, by decide, fun u H4 u0 u1 A4 x4 _ => ?_⟩
    have X4 : SameX a H H4 := (sx S3).trans x4
    refine ⟨_, rfl, _, rfl, S, _, rfl, .inr (.inl (.inl (X4 _ _ nS hS0))), _, _, rfl, rfl, a, _, rfl, A4, by rw [List.length_map]; omega, by rw [List.length_map]; omega, fun at_ H5 t0 t1 A5 x5 _ => ⟨_, _, rfl, ?_⟩⟩
    rw [List.length_map] at t1
    obtain ⟨c, rfl⟩ : ∃ c : Nat, at_ = (c : Int) := ⟨at_.toNat, by omega⟩
    refine ⟨_, rfl, _, rfl, a, 13, rfl, A5, by decide, by decide, fun k H6 k0 k1 A6 x6 _ => ?_⟩
    have X6 : SameX a H H6 := (X4.trans x5).trans x6
    have x36 : SameX a H3 H6 := (x4.trans x5).trans x6
    have e6 : H6 p2 = some (.lst x2) := x36 _ _ np2 e3
    obtain ⟨v, hv⟩ : ∃ v, x2[k.toNat]? = some v := ⟨_, List.getElem?_eq_getElem (by omega)⟩
    have ek : (k.toNat : Int) = k := Int.toNat_of_nonneg k0
    have hv6 : NoChg (hid a H6) v := (g3 v (List.mem_of_getElem? hv)).same (hid_x x36)
    refine ⟨p2, x2, k, v, rfl, rfl, .inl (.inl e6), by rw [← ek]; exact atI_nat hv, ?_⟩
    have hS6 : H6 S = some (.tup (as.map V.ref)) := X6 _ _ nS hS0
    have hE6 : Each (fun (p : Addr) (ch : Chg) => hid a H6 p = some (.tup (chV ch))) as chs := Each.mono (fun p ch e => by
      have np : p ≠ a := fun z => by
        obtain ⟨ys, hy⟩ := hA.lst
        rw [z, hy] at e
        cases e
      exact hid_at (X6 _ _ np e) np) hE0
    clear X4 x4 x5 x6 x36 A3 A4 A5 e3 g3 e6
    refine ⟨_, rfl, rfl, _, rfl, ite_b (fun _ => ?_) (fun _ => ?_)⟩
    · have gN : Grows (fun H v => NoChs (hid a H) v none) := NoChs.grows
      refine st_asg (bld_lst (n := 8) gN (bld_cons gI gN (bld_c fun _ _ => no_flat (odB _) (fun e => nomatch e) (fun p e => nomatch e)) (bld_cons gI gN (bld_c fun _ _ => no_flat (odI _) (fun e => nomatch e) (fun p e => nomatch e)) (bld_cons gI gN (bld_c fun _ _ => no_flat (odS (by decide +kernel) _) (fun e => nomatch e) (fun p e => nomatch e)) (bld_cons gI gN no_l0 (bld_cons gI gN no_d (bld_cons gI gN no_lg (bld_cons gI gN no_13 (bld_cons gI gN (bld_c fun _ _ => no_flat (odS (by decide +kernel) _) (fun e => nomatch e) (fun p e => nomatch e)) bld_nil)))))))) (by decide) A6 fun p6 x6 H7 s7 n7 e7 l7 g7 => ?_)
      have np6 : p6 ≠ a := A6.ne n7
      refine ⟨_, rfl, _, rfl, a, 8, rfl, A6.same s7, by decide, by decide, fun m H8 m0 m1 A8 x8 _ => ?_⟩
      have l8 : x6.length = 8 := l7
      obtain ⟨v, hv⟩ : ∃ v, x6[m.toNat]? = some v := ⟨_, List.getElem?_eq_getElem (by omega)⟩
      have em : (m.toNat : Int) = m := Int.toNat_of_nonneg m0
      refine ⟨p6, x6, m, v, rfl, rfl, .inl (.inl (x8 _ _ np6 e7)), by rw [← em]; exact atI_nat hv, lz, fun p hp => ?_⟩
      have S9 := same_new (o := .lst [v, .non]) hp
      exact q p v none _ ((X6.trans (sx s7)).trans (x8.trans (sx S9))) (A8.same S9) upd_same (A8.ne hp) (fun i e => by cases e) ((g7 v (List.mem_of_getElem? hv)).same (hid_x (x8.trans (sx S9))))
    · have fin : ∀ (mid : List V), (mid = [v] ∨ mid = [v, v]) → ∀ (p u : Addr) (Hz : Hp), Same H6 Hz → Hz u = some (.tup ((as.map V.ref).take c ++ mid ++ (as.map V.ref).drop c)) → Hz p = some (.lst [.ref u, .int (c : Int)]) → p ≠ a → Q (.ref p) Hz := fun mid hm p u Hz sz hu hp np => by
        have nu : u ≠ a := fun z => by
          obtain ⟨ys, hy⟩ := (A6.same sz).lst
          rw [z, hy] at hu
          cases hu
        exact q p (.ref u) (some c) Hz (X6.trans (sx sz)) (A6.same sz) hp np (fun i e => by cases e; omega) (noc_at (as := as) (by omega) (by omega) hm (Each.mono (fun p ch e => hid_x (sx sz) _ _ e) hE6) okc (hid_at hu nu) (hv6.same (hid_x (sx sz))))
      refine ⟨_, rfl, rfl, _, rfl, ite_b (fun _ => ?_) (fun _ => ?_)⟩
      · refine ⟨_, rfl, _, rfl, _, rfl, slA_rd hS6 fun u1 H7 s7 hu1 => ?_⟩
        rw [cutA_to] at hu1
        refine ⟨_, rfl, lz, fun t2 ht2 => ?_⟩
        have s8 := same_new (o := .tup [v]) ht2
        refine catA_rd (s8 _ _ hu1) upd_same (by simp only [List.length_take, List.length_map, List.length_cons, List.length_nil]; omega) fun u3 H9 s9 hu3 => ?_
        have s69 := (s7.trans s8).trans s9
        refine ⟨_, rfl, _, rfl, ?_⟩
        unfold tNoPart
        refine ⟨_, rfl, ?_⟩
        refine slA_rd (s69 _ _ hS6) fun u4 HA sA hu4 => ?_
        rw [cutA_from] at hu4
        refine catA_rd (sA _ _ hu3) hu4 (by simp only [List.length_append, List.length_take, List.length_drop, List.length_map, List.length_cons, List.length_nil]; omega) fun u5 HB sB hu5 => ?_
        refine ⟨_, rfl, lz, fun p hp => ?_⟩
        have s6B := (s69.trans sA).trans sB
        exact fin _ (.inl rfl) p u5 _ (s6B.trans (same_new hp)) ((same_new hp) _ _ hu5) upd_same ((A6.same s6B).ne hp)
      · refine ⟨_, rfl, _, rfl, _, rfl, slA_rd hS6 fun u1 H7 s7 hu1 => ?_⟩
        rw [cutA_to] at hu1
        refine ⟨_, rfl, _, rfl, lz, fun t2 ht2 => ?_⟩
        have s8 := same_new (o := .tup [v, v]) ht2
        refine catA_rd (s8 _ _ hu1) upd_same (by simp only [List.length_take, List.length_map, List.length_cons, List.length_nil]; omega) fun u3 H9 s9 hu3 => ?_
        have s69 := (s7.trans s8).trans s9
        refine ⟨_, rfl, _, rfl, ?_⟩
        unfold tNoPart
        refine ⟨_, rfl, ?_⟩
        refine slA_rd (s69 _ _ hS6) fun u4 HA sA hu4 => ?_
        rw [cutA_from] at hu4
        refine catA_rd (sA _ _ hu3) hu4 (by simp only [List.length_append, List.length_take, List.length_drop, List.length_map, List.length_cons, List.length_nil]; omega) fun u5 HB sB hu5 => ?_
        refine ⟨_, rfl, lz, fun p hp => ?_⟩
        have s6B := (s69.trans sA).trans sB
        exact fin _ (.inr rfl) p u5 _ (s6B.trans (same_new hp)) ((same_new hp) _ _ hu5) upd_same ((A6.same s6B).ne hp)
end
end Wl

/-! what is told of what is asked. -/
namespace Wl
open PySem PySem.Spec PyProof.Rows L2
abbrev sTried : Stmt := topS 94
def rReprF (K : PySem.W.Frag) : List V → Hp → VK → Prop := fun xs H Q => ∃ v d, xs = [v] ∧ RepV K H v d ∧ ShowsV d ∧ Q (.str d.shown) H
theorem cr_reprF {X : Cx} (hg : X.A.guards = some []) (hu : X.A.units + 64 < cLine) : CallR X (.builtin "repr") (rReprF X.K) := by
  intro pins s σ H xs us Q I r h
  obtain ⟨v, d, rfl, hv, hs, q⟩ := h
  obtain ⟨u, rfl, ru⟩ := vals1 r
  exact repr_data hg hu I ru hv hs q
theorem roomH_u {k : Nat} {A : Around} (r : L2H.RoomH k A) : A.units + 64 < cLine := by have := r.un; omega
def plcD : Option Nat → PyData
  | none => .none
  | some i => .int i
theorem plc_rep {K : PySem.W.Frag} {H : Hp} {o : Option Nat} : RepV K H (plcV o) (plcD o) := by
  cases o with
  | none => exact .inl ⟨rfl, .non⟩
  | some i => exact .inl ⟨rfl, .int i⟩
theorem plc_shows {o : Option Nat} (h : ∀ i, o = some i → i ≤ 4) : ShowsV (plcD o) := by
  cases o with
  | none => exact shv
  | some i =>
    have h4 := h i rfl
    have : ∀ k : Fin 5, (plcD (some k.1)).showable = true ∧ Nat.ble (plcD (some k.1)).depth 8 = true ∧ Nat.ble (plcD (some k.1)).shown.length 1000 = true := by decide +kernel
    obtain ⟨a, b, c⟩ := this ⟨i, by omega⟩
    exact shv a b c
theorem plc_tok {o : Option Nat} (h : ∀ i, o = some i → i ≤ 4) : TOk (plcD o).shown := by
  cases o with
  | none => exact tok_c
  | some i =>
    have h4 := h i rfl
    have : ∀ k : Fin 5, tokB (plcD (some k.1)).shown = true := by decide +kernel
    exact tok_c (this ⟨i, by omega⟩)
def gFv {α : Type} : List α → List α → List α → List α
  | [], _, [ch, vi, g] => [g, vi, ch]
  | _, _, _ => []
theorem gFv_rel {vs ds zs : List V} {us its ws : List Value} (r1 : Vals vs us) (r2 : Vals ds its) (r3 : Vals zs ws) : Vals (gFv vs ds zs) (gFv us its ws) := by
  rcases r1 with _ | ⟨_, _⟩
  all_goals first | exact .nil | skip
  rcases r3 with _ | ⟨c1, _ | ⟨c2, _ | ⟨c3, _ | ⟨_, _⟩⟩⟩⟩
  all_goals first | exact .nil | exact .cons c3 (.cons c2 (.cons c1 .nil))
def gAp {α : Type} : List α → List α → List α → List α
  | [], _, [ch, ot, vi, g] => [g, vi, ot, ch]
  | _, _, _ => []
theorem gAp_rel {vs ds zs : List V} {us its ws : List Value} (r1 : Vals vs us) (r2 : Vals ds its) (r3 : Vals zs ws) : Vals (gAp vs ds zs) (gAp us its ws) := by
  rcases r1 with _ | ⟨_, _⟩
  all_goals first | exact .nil | skip
  rcases r3 with _ | ⟨c1, _ | ⟨c2, _ | ⟨c3, _ | ⟨c4, _ | ⟨_, _⟩⟩⟩⟩⟩
  all_goals first | exact .nil | exact .cons c4 (.cons c3 (.cons c2 (.cons c1 .nil)))
section
variable {K : PySem.W.Frag} {f : Addr} {fd : FuncData}
theorem ap_b4 (F : FunN K "apart" sApart f fd) : Binds K fd psApart [] := by
  obtain ⟨ds, h1, h2⟩ := F.binds1 (ps := psApart) 4 1 (by simp) rfl (fun T kV doc pm an cdv ct us its l1 l2 => by
      match us, its, l1, l2 with
      | [_, _, _, _], [_], _, _ => exact ⟨_, rfl, rfl⟩)
  cases h1
  exact h2
theorem ap_k (F : FunN K "apart" sApart f fd) : ∃ its : List Value, KBn K fd psApart 0 ["changes", "other", "village", "gathering"] (fun us ws => gAp us its ws) (fun vs zs => gAp vs [.non] zs) :=
  F.kbindsD 0 _ gAp (by simp) gAp_rel (fun T kV doc pm an cdv ct us its ws l1 l2 l3 => by
      match us, its, ws, l1, l2, l3 with
      | [], [_], [_, _, _, _], _, _, _ => exact ⟨_, rfl, rfl⟩)
theorem ne_b3 (F : FunN K "nearest" sNearest f fd) : Binds K fd psNearest [] := by
  obtain ⟨ds, h1, h2⟩ := F.binds1 (ps := psNearest) 3 1 (by simp) rfl (fun T kV doc pm an cdv ct us its l1 l2 => by
      match us, its, l1, l2 with
      | [_, _, _], [_], _, _ => exact ⟨_, rfl, rfl⟩)
  cases h1
  exact h2
theorem fa_kv (F : FunN K "farthest" sFarthest f fd) : ∃ its : List Value, KBn K fd psNearest 0 ["changes", "village", "gathering"] (fun us ws => gFv us its ws) (fun vs zs => gFv vs [.non] zs) :=
  F.kbindsD 0 _ gFv (by simp) gFv_rel (fun T kV doc pm an cdv ct us its ws l1 l2 l3 => by
      match us, its, ws, l1, l2, l3 with
      | [], [_], [_, _, _], _, _, _ => exact ⟨_, rfl, rfl⟩)
end
/-! the two suites -/
def suL (K : PySem.W.Frag) (ad bd : Nat → Addr) : ClT := fun a => tSeq (tAsg (tCallT a (spSort K ad bd) (tCons (tVar 5) tNil)) (gName 6)) (tRet (tTup (tCons (tVar 6) (tCons (tIf (tTest (tOp rEq (tVar 6) (tC (.str "name")))) (tCB (rReprF K) (tCons (tXf K "name" (tVar 5)) tNil)) (tC (.str ""))) tNil))))
def suW (K : PySem.W.Frag) (ad bd : Nat → Addr) : ClT := fun a => tRet (tTup (tCons (tCallT a (spSort K ad bd) (tCons (tVar 5) tNil)) (tCons (tCB (rReprF K) (tCons (tXf K "place" (tVar 5)) tNil)) tNil)))
abbrev clL (K : PySem.W.Frag) (ad bd : Nat → Addr) : (Value → Option Bool) × ClT := (fun cls => PySem.W.exmOne K cls (.ref (bd 1)), tAs 5 (suL K ad bd))
abbrev clW (K : PySem.W.Frag) (ad bd : Nat → Addr) : (Value → Option Bool) × ClT := (fun cls => PySem.W.exmOne K cls (.ref (bd 0)), tAs 5 (suW K ad bd))
theorem w_hit {Wout : WX} {D : Ends} {m : Value → Option Bool} {ts : ClT} {r : List ((Value → Option Bool) × ClT)} {cls : Value} {d : Option Addr} {σ : L2.St} {H : Hp} (h : m cls = some true) (k : ∀ a, H a = none → ts a D σ (upd H a (exH a cls d))) : wCls Wout D ((m, ts) :: r) cls d σ H :=
  ⟨true, h, fun _ => k, fun z => by cases z⟩
theorem w_not {Wout : WX} {D : Ends} {m : Value → Option Bool} {ts : ClT} {r : List ((Value → Option Bool) × ClT)} {cls : Value} {d : Option Addr} {σ : L2.St} {H : Hp} (h : m cls = some false) (k : wCls Wout D r cls d σ H) : wCls Wout D ((m, ts) :: r) cls d σ H :=
  ⟨false, h, fun z => (by cases z), fun _ => k⟩
section
variable {K : PySem.W.Frag} {ad bd : Nat → Addr}
theorem suL_g {C a : Addr} {H0 : Hp} {D : Ends} {σ : L2.St} (S : SortC K ad bd C 11) (hl : σ.length = 7) (ha : H0 a = none)
    (h : ∀ p H', Same H0 H' → H' p = some (.tup [.str "gathering", .str ""]) → D.rt (.ref p) H') : tAs 5 (suL K ad bd) a D σ (upd H0 a (exH a (.ref C) none)) := by
  have s1 : Same H0 (upd H0 a (exH a (.ref C) none)) := same_new ha
  have e1 : upd H0 a (exH a (.ref C) none) a = some (exH a (.ref C) none) := upd_same
  generalize upd H0 a (exH a (.ref C) none) = H1 at e1 s1
  have hX : ExcAt K ad bd H1 a 11 := ⟨C, none, e1, fun dd z => by (cases z), S⟩
  match σ, hl with
  | [s0, s1', s2, s3, s4, s5, s6], _ =>
    refine ⟨_, rfl, hX.hot, 11, rfl, hX, by decide, fun H2 t2 => ?_⟩
    refine ⟨_, rfl, _, rfl, rfl, _, rfl, ite_b (fun e => absurd e (by decide +kernel)) (fun _ => ⟨lz, fun p hp => h p _ ((s1.trans t2).trans (same_new hp)) upd_same⟩)⟩
theorem suL_n {C a d : Addr} {v : V} {dd : PyData} {H0 : Hp} {D : Ends} {σ : L2.St} (hE : ErrC K ad bd C 10) (hf : PySem.W.findIn K (.ref C) "name" = some none) (hl : σ.length = 7) (hd : H0 d = some (.xd [("name", v)])) (ha : H0 a = none) (hv : RepV K H0 v dd) (hs : ShowsV dd)
    (h : ∀ p H', Same H0 H' → H' p = some (.tup [.str "name", .str dd.shown]) → D.rt (.ref p) H') : tAs 5 (suL K ad bd) a D σ (upd H0 a (exH a (.ref C) (some d))) := by
  have s1 : Same H0 (upd H0 a (exH a (.ref C) (some d))) := same_new ha
  have e1 : upd H0 a (exH a (.ref C) (some d)) a = some (exH a (.ref C) (some d)) := upd_same
  have hd := s1 _ _ hd
  generalize upd H0 a (exH a (.ref C) (some d)) = H1 at e1 hd s1
  have hX : ExcAt K ad bd H1 a 10 := ⟨C, some d, e1, fun dd z => by cases z; exact ⟨_, hd⟩, hE.sort⟩
  match σ, hl with
  | [s0, s1', s2, s3, s4, s5, s6], _ =>
    refine ⟨_, rfl, hX.hot, 10, rfl, hX, by decide, fun H2 t2 => ?_⟩
    have hd := t2 _ _ hd
    have e1 := t2 _ _ e1
    refine ⟨_, rfl, _, rfl, rfl, _, rfl, ite_b (fun _ => ?_) (fun e => absurd e (by decide +kernel))⟩
    exact ⟨_, rfl, a, C, d, _, v, rfl, e1, hd, hE.xf, hf, by simp [List.lookup], v, dd, rfl, hv.same (s1.trans t2), hs, lz, fun p hp => h p _ ((s1.trans t2).trans (same_new hp)) upd_same⟩
theorem suW_c {C a d : Addr} {v : V} {dd : PyData} {H0 : Hp} {D : Ends} {σ : L2.St} (hE : ErrC K ad bd C 1) (hf : PySem.W.findIn K (.ref C) "place" = some none) (hl : σ.length = 7) (hd : H0 d = some (.xd [("place", v)])) (ha : H0 a = none) (hv : RepV K H0 v dd) (hs : ShowsV dd)
    (h : ∀ p H', Same H0 H' → H' p = some (.tup [.str "changes", .str dd.shown]) → D.rt (.ref p) H') : tAs 5 (suW K ad bd) a D σ (upd H0 a (exH a (.ref C) (some d))) := by
  have s1 : Same H0 (upd H0 a (exH a (.ref C) (some d))) := same_new ha
  have e1 : upd H0 a (exH a (.ref C) (some d)) a = some (exH a (.ref C) (some d)) := upd_same
  have hd := s1 _ _ hd
  generalize upd H0 a (exH a (.ref C) (some d)) = H1 at e1 hd s1
  have hX : ExcAt K ad bd H1 a 1 := ⟨C, some d, e1, fun dd z => by cases z; exact ⟨_, hd⟩, hE.sort⟩
  match σ, hl with
  | [s0, s1', s2, s3, s4, s5, s6], _ =>
    refine ⟨_, rfl, hX.hot, 1, rfl, hX, by decide, fun H2 t2 => ?_⟩
    have hd := t2 _ _ hd
    have e1 := t2 _ _ e1
    exact ⟨_, rfl, a, C, d, _, v, rfl, e1, hd, hE.xf, hf, by simp [List.lookup], v, dd, rfl, hv.same (s1.trans t2), hs, lz, fun p hp => h p _ ((s1.trans t2).trans (same_new hp)) upd_same⟩
end
/-! what is asked, and what is told of it -/
def NoName (K : PySem.W.Frag) (H : Hp) (g : Grid) (u : V) (txt : Str) : Prop := OddV H u ∧ nameB g u = false ∧ ∃ d, RepV K H u d ∧ ShowsV d ∧ txt = d.shown
theorem NoName.same {K : PySem.W.Frag} {H H' : Hp} {g : Grid} {u : V} {txt : Str} (h : NoName K H g u txt) (s : Same H H') : NoName K H' g u txt := by
  obtain ⟨h1, h2, d, h3, h4⟩ := h
  exact ⟨h1.same s, h2, d, h3.same s, h4⟩
def AskC (K : PySem.W.Frag) (H : Hp) (v : V) (wd txt : Str) : Prop := (∃ o, NoChs H v o ∧ (∀ i, o = some i → i ≤ 4) ∧ wd = "changes" ∧ txt = (plcD o).shown) ∨ ∃ chs, ChV H v chs ∧ OkCs chs ∧ wd = "told" ∧ txt = ""
def AskR (K : PySem.W.Frag) (C D : Addr) (H : Hp) (two : Bool) (g a b v : V) (wd txt : Str) : Prop :=
  (∃ t, TyX K H g t ∧ PySem.W.kitOne K t (.ref D) = some false ∧ wd = "gathering" ∧ txt = "") ∨
  ∃ p r wi, g = .ref p ∧ GatAt C D H p r ∧ Good r.g wi ∧ (∀ t ∈ r.ts, OkT t) ∧ r.ts.length ≤ 200 ∧
    ((NoName K H r.g a txt ∧ wd = "name") ∨ ∃ z, a = .str z ∧ IsWd z ∧ z ∈ names r.g ∧ ((two = true ∧ NoName K H r.g b txt ∧ wd = "name") ∨ ((two = true → ∃ y, b = .str y ∧ IsWd y ∧ y ∈ names r.g) ∧ AskC K H v wd txt)))
section
variable {K : PySem.W.Frag} {C D cG cN cC : Addr} {H : Hp} {two : Bool} {g a b v : V} {wd txt : Str} {Q : VK} {E : XK}
theorem okname {r : Grid} {z : Str} (hw : IsWd z) (hm : z ∈ names r) : OkName H r (.str z) := by
  refine ⟨.inl ⟨z, rfl, by have := hw.len; omega⟩, ?_⟩
  show (wdB z && decide (z ∈ names r)) = true
  rw [show wdB z = true from hw, decide_eq_true hm]
  rfl
theorem ask3 (h : AskR K C D H two g a b v wd txt) (ht : two = false) (e1 : wd = "gathering" → txt = "" → E (.ref cG) none H) (e2 : ∀ u d, RepV K H u d → ShowsV d → wd = "name" → txt = d.shown → Refuses cN "name" u H E) (e3 : ∀ o, (∀ i, o = some i → i ≤ 4) → wd = "changes" → txt = (plcD o).shown → Refuses cC "place" (plcV o) H E) :
    Ref3 K C D cG cN cC H g a v E ∨ ∃ (p : Addr) (r : GR) (wi : Nat) (z : Str) (chs : List Chg), g = .ref p ∧ a = .str z ∧ GatAt C D H p r ∧ Good r.g wi ∧ (∀ t ∈ r.ts, OkT t) ∧ r.ts.length ≤ 200 ∧ z ∈ names r.g ∧ ChV H v chs ∧ OkCs chs ∧ wd = "told" ∧ txt = "" := by
  rcases h with ⟨t, ty, k, hw, hx⟩ | ⟨p, r, wi, rfl, hG, gd, hok, h200, ⟨⟨o1, o2, d, o3, o4, o5⟩, hw⟩ | ⟨z, rfl, wz, mz, ⟨h2, _⟩ | ⟨_, ⟨o, no, lo, hw, hx⟩ | ⟨chs, hc, okc, hw, hx⟩⟩⟩⟩
  · exact .inl (.inl ⟨t, ty, k, e1 hw hx⟩)
  · exact .inl (.inr ⟨p, r, wi, rfl, hG, gd, .inl ⟨o1, o2, e2 _ d o3 o4 hw o5⟩⟩)
  · rw [ht] at h2
    cases h2
  · exact .inl (.inr ⟨p, r, wi, rfl, hG, gd, .inr ⟨okname wz mz, o, no, e3 o lo hw hx⟩⟩)
  · exact .inr ⟨p, r, wi, z, chs, rfl, rfl, hG, gd, hok, h200, mz, hc, okc, hw, hx⟩
theorem ask4 (h : AskR K C D H two g a b v wd txt) (ht : two = true) (e1 : wd = "gathering" → txt = "" → E (.ref cG) none H) (e2 : ∀ u d, RepV K H u d → ShowsV d → wd = "name" → txt = d.shown → Refuses cN "name" u H E) (e3 : ∀ o, (∀ i, o = some i → i ≤ 4) → wd = "changes" → txt = (plcD o).shown → Refuses cC "place" (plcV o) H E) (q : ∀ x H', Same H H' → wd = "told" → txt = "" → Q x H') :
    spApartX K C D cG cN cC [g, a, b, v] H Q E := by
  rcases h with ⟨t, ty, k, hw, hx⟩ | ⟨p, r, wi, rfl, hG, gd, hok, h200, ⟨⟨o1, o2, d, o3, o4, o5⟩, hw⟩ | ⟨z, rfl, wz, mz, ⟨_, ⟨o1, o2, d, o3, o4, o5⟩, hw⟩ | ⟨hb, ⟨o, no, lo, hw, hx⟩ | ⟨chs, hc, okc, hw, hx⟩⟩⟩⟩
  · exact .inr ⟨_, _, _, _, rfl, .inl ⟨t, ty, k, e1 hw hx⟩⟩
  · exact .inr ⟨_, _, _, _, rfl, .inr ⟨p, r, wi, rfl, hG, gd, .inl ⟨o1, o2, e2 _ d o3 o4 hw o5⟩⟩⟩
  · exact .inr ⟨_, _, _, _, rfl, .inr ⟨p, r, wi, rfl, hG, gd, .inr ⟨okname wz mz, .inl ⟨o1, o2, e2 _ d o3 o4 hw o5⟩⟩⟩⟩
  · obtain ⟨y, rfl, wy, my⟩ := hb ht
    exact .inr ⟨_, _, _, _, rfl, .inr ⟨p, r, wi, rfl, hG, gd, .inr ⟨okname wz mz, .inr ⟨okname wy my, o, no, e3 o lo hw hx⟩⟩⟩⟩
  · obtain ⟨y, rfl, wy, my⟩ := hb ht
    exact .inl ⟨p, r, wi, z, y, v, chs, rfl, hG, gd, hok, h200, mz, my, hc, okc, fun x H' s _ => q x H' s hw hx⟩
theorem askN (h : AskR K C D H two g a b v wd txt) (ht : two = false) (e1 : wd = "gathering" → txt = "" → E (.ref cG) none H) (e2 : ∀ u d, RepV K H u d → ShowsV d → wd = "name" → txt = d.shown → Refuses cN "name" u H E) (e3 : ∀ o, (∀ i, o = some i → i ≤ 4) → wd = "changes" → txt = (plcD o).shown → Refuses cC "place" (plcV o) H E) (q : ∀ x H', Same H H' → wd = "told" → txt = "" → Q x H') :
    spNearX K C D cG cN cC [g, a, v] H Q E := by
  rcases ask3 (cG := cG) (cN := cN) (cC := cC) h ht e1 e2 e3 with h | ⟨p, r, wi, z, chs, rfl, rfl, hG, gd, hok, h200, mz, hc, okc, hw, hx⟩
  · exact .inr ⟨_, _, _, rfl, h⟩
  · exact .inl ⟨p, r, wi, z, v, chs, rfl, hG, gd, hok, h200, mz, hc, okc, fun x H' s _ => q _ H' s hw hx⟩
theorem askF (h : AskR K C D H two g a b v wd txt) (ht : two = false) (e1 : wd = "gathering" → txt = "" → E (.ref cG) none H) (e2 : ∀ u d, RepV K H u d → ShowsV d → wd = "name" → txt = d.shown → Refuses cN "name" u H E) (e3 : ∀ o, (∀ i, o = some i → i ≤ 4) → wd = "changes" → txt = (plcD o).shown → Refuses cC "place" (plcV o) H E) (q : ∀ x H', Same H H' → wd = "told" → txt = "" → Q x H') :
    spFarX K C D cG cN cC [g, a, v] H Q E := by
  rcases ask3 (cG := cG) (cN := cN) (cC := cC) h ht e1 e2 e3 with h | ⟨p, r, wi, z, chs, rfl, rfl, hG, gd, hok, h200, mz, hc, okc, hw, hx⟩
  · exact .inr ⟨_, _, _, rfl, h⟩
  · exact .inl ⟨p, r, wi, z, v, chs, rfl, hG, gd, hok, h200, mz, hc, okc, fun x H' s _ => q _ H' s hw hx⟩
end
def HasNY (P : Program) (w : World) (K : PySem.W.Frag) (mg : Str → Option Value) (base : Heap) (x : Str) (st : Stmt) (lv : Nat) (ps : List Str) (sp : Sp) : Prop := ∃ f fd, FnOk P w K mg base (L2N.CX P w) lv f fd ps sp ∧ mg x = some (.ref f) ∧ FunN K x st f fd
section
variable {P : Program} {w : World} {K : PySem.W.Frag} {mg : Str → Option Value} {base : Heap} {f C D cG cN cC : Addr} {fd : FuncData} {ad bd : Nat → Addr}
abbrev nTried : List Str := ["_law_way", "_law_held", "_law_town", "_law_rival", "_law_swaps", "_law_e", "_law_word_here"]
abbrev psTried : List Str := ["_law_way", "_law_held", "_law_town", "_law_rival", "_law_swaps"]
theorem scTried : FnScope nTried psTried (defScope sTried) := ⟨rfl, rfl, rfl, by decide +kernel, rfl, by decide +kernel, by decide +kernel⟩
structure HdT (K : PySem.W.Frag) (bd : Nat → Addr) (cG cN cC : Addr) : Prop where
  g1 : PySem.W.exmOne K (.ref cG) (.ref (bd 1)) = some true
  n1 : PySem.W.exmOne K (.ref cN) (.ref (bd 1)) = some true
  c1 : PySem.W.exmOne K (.ref cC) (.ref (bd 1)) = some false
  c0 : PySem.W.exmOne K (.ref cC) (.ref (bd 0)) = some true
def spTried (K : PySem.W.Frag) (C D : Addr) : Sp := fun vs H Q _ => ∃ (way : Int) (g a b v : V) (wd txt : Str), vs = [.int way, g, a, b, v] ∧ AskR K C D H (decide (way < 2)) g a b v wd txt ∧ 0 ≤ way ∧ ∀ (p : Addr) (H' : Hp), Same H H' → H' p = some (.tup [.str wd, .str txt]) → Q (.ref p) H'
theorem ok_tried (F : Fun K "_law_tried" "_law_tried" sTried f fd) (hrep : mg "repr" = none) (G : SortG mg ad bd) (TN : OwnX K mg "NoName" "name" cN) (TC : OwnX K mg "NoChanges" "place" cC) (HT : HdT K bd cG cN cC) (SG : SortC K ad bd cG 11) (EN : ErrC K ad bd cN 10) (EC : ErrC K ad bd cC 1)
    (hA : HasNY P w K mg base "apart" sApart 11 psApart (spApartX K C D cG cN cC)) (hN : HasNY P w K mg base "nearest" sNearest 12 psNearest (spNearX K C D cG cN cC)) (hF : HasNY P w K mg base "farthest" sFarthest 12 psNearest (spFarX K C D cG cN cC)) (hS : HasT P w K mg base "_law_sort" 1 ["_law_e"] (spSort K ad bd)) : FnOkG P w K mg base 13 f fd psTried (spTried K C D) := by
  obtain ⟨fA, fdA, FA, mA, NA⟩ := hA
  have bA := ap_b4 NA
  obtain ⟨itA, kA⟩ := ap_k NA
  obtain ⟨fN, fdN, FN, mN, NN⟩ := hN
  have bN := ne_b3 NN
  obtain ⟨fF, fdF, FF, mF, NF⟩ := hF
  obtain ⟨itF, kF⟩ := fa_kv NF
  refine okG F scTried (fun vs H Q E h => ?_) (fun cdv A outer s H vs Q E hgd hr h => ?_)
  · obtain ⟨way, g, a, b, v, wd, txt, rfl, _⟩ := h
    rfl
  · obtain ⟨way, g, a, b, v, wd, txt, rfl, hk, h0, q⟩ := h
    have rH : ∀ a : Addr, L2H.RoomH 12 ((A.deeper (envOfC "_law_tried" (defScope sTried) s.heap.objs.size f cdv)).mark (some (.ref a))) := fun a => ⟨hr.dp, hr.un⟩
    refine ⟨_, pss_cons (ps_tryE (l := [clL K ad bd, clW K ad bd]) rfl rfl rfl scTried.nd takes_noN
      (fun W pn xe tk po => pss_one (ps_if (pt_cmpR op_eq (pv 0) pe_int (nomark _)) (pss_one (ps_expr (pe_call FA (hr.mono (by decide)) rfl mA NA.kp bA .nil (passU (n := 7) tk rfl) (pa_cons (pv 1) (pa_cons (pv 2) (pa_cons (pv 3) (pa_cons (pv 4) pa_nil)))))))
        (pss_one (ps_if (pt_cmpR op_eq (pv 0) pe_int (nomark _)) (pss_one (ps_expr (pe_callN0 FA (hr.mono (by decide)) rfl mA NA.kp kA (passU (n := 7) tk rfl) (pk_cons (pv 4) (pk_cons (pv 3) (pk_cons (pv 2) (pk_cons (pv 1) pk_nil)))))))
        (pss_one (ps_if (pt_cmpR op_eq (pv 0) pe_int (nomark _)) (pss_one (ps_expr (pe_call FN hr rfl mN NN.kp bN .nil (passU (n := 7) tk rfl) (pa_cons (pv 1) (pa_cons (pv 2) (pa_cons (pv 4) pa_nil))))))
        (pss_one (ps_expr (pe_callN0 FF hr rfl mF NF.kp kF (passU (n := 7) tk rfl) (pk_cons (pv 4) (pk_cons (pv 2) (pk_cons (pv 1) pk_nil)))))))))))) 
      (.as (i := 5) rfl rfl (test_one ⟨by rfl, by decide, .inl (G.bas 1 (by decide))⟩) (fun a pn => pss_cons (ps_set (i := 6) scTried.nd rfl (.inl rfl) (pe_ht hS (rH a) rfl (pa_cons (pv 5) pa_nil)))
        (pss_one (ps_ret (pe_tup (pa_cons (pv 6) (pa_cons (pe_ifExp (pt_cmpR op_eq (pv 6) pe_str (nomark _)) (pe_callB (cr_reprF hgd (roomH_u (rH a))) (by rfl) hrep (by decide +kernel) (pa_cons (Wl.pe_xf (pv 5)) pa_nil)) pe_str) pa_nil))))))
      (.as (i := 5) rfl rfl (test_one ⟨by rfl, by decide, .inl (G.bas 0 (by decide))⟩) (fun a pn => pss_one (ps_ret (pe_tup (pa_cons (pe_ht hS (rH a) rfl (pa_cons (pv 5) pa_nil)) (pa_cons (pe_callB (cr_reprF hgd (roomH_u (rH a))) (by rfl) hrep (by decide +kernel) (pa_cons (Wl.pe_xf (pv 5)) pa_nil)) pa_nil))))) .nil)))
      (pss_one (ps_ret (pe_tup (pa_cons pe_str (pa_cons pe_str pa_nil))))), ?_⟩
    have e1 : ∀ {Dn : Ends}, Dn.rt = Q → wd = "gathering" → txt = "" → EW 7 (wCls (fun _ _ _ _ => False) Dn [clL K ad bd, clW K ad bd]) (.ref cG) none H := fun {Dn} hD hw hx σ hl => w_hit HT.g1 fun a ha => suL_g SG hl ha fun p H' s' e => by
      subst hw hx
      rw [hD]
      exact q p H' s' e
    have e2 : ∀ {Dn : Ends}, Dn.rt = Q → ∀ u d, RepV K H u d → ShowsV d → wd = "name" → txt = d.shown → Refuses cN "name" u H (EW 7 (wCls (fun _ _ _ _ => False) Dn [clL K ad bd, clW K ad bd])) := fun {Dn} hD u d hv hs hw hx d' H1 s1 hd σ hl => w_hit HT.n1 fun a ha => suL_n EN TN.no hl hd ha (hv.same s1) hs fun p H' s' e => by
      subst hw hx
      rw [hD]
      exact q p H' (s1.trans s') e
    have e3 : ∀ {Dn : Ends}, Dn.rt = Q → ∀ o, (∀ i, o = some i → i ≤ 4) → wd = "changes" → txt = (plcD o).shown → Refuses cC "place" (plcV o) H (EW 7 (wCls (fun _ _ _ _ => False) Dn [clL K ad bd, clW K ad bd])) := fun {Dn} hD o lo hw hx d' H1 s1 hd σ hl => w_not HT.c1 (w_hit HT.c0 fun a ha => suW_c EC TC.no hl hd ha plc_rep (plc_shows lo) fun p H' s' e => by
      subst hw hx
      rw [hD]
      exact q p H' (s1.trans s') e)
    have fin : ∀ (H1 : Hp), Same H H1 → wd = "told" → txt = "" → tRet (tTup (tCons (tC (.str "told")) (tCons (tC (.str "")) tNil))) { nx := fun _ _ => False, rt := Q, bk := fun _ _ => False, ct := fun _ _ => False } (L2.start nTried [.int way, g, a, b, v]) H1 := fun H1 s1 hw hx => ⟨lz, fun p hp => by
      subst hw hx
      exact q p _ (s1.trans (same_new hp)) upd_same⟩
    refine ⟨_, rfl, rfl, _, rfl, ite_b (fun e => ?_) (fun e => ?_)⟩
    · have e : (V.int way) = V.int 0 := of_decide_eq_true e
      have hw : way = 0 := V.int.inj e
      refine ⟨_, rfl, _, rfl, _, rfl, _, rfl, ask4 hk (decide_eq_true (by omega)) (e1 rfl) (e2 rfl) (e3 rfl) fun x H1 s1 hw hx => ?_⟩
      exact fin H1 s1 hw hx
    have n0 : way ≠ 0 := fun z => of_decide_eq_false e (by rw [z])
    refine ⟨_, rfl, rfl, _, rfl, ite_b (fun e => ?_) (fun e => ?_)⟩
    · have e : (V.int way) = V.int 1 := of_decide_eq_true e
      have hw : way = 1 := V.int.inj e
      refine ⟨_, rfl, _, rfl, _, rfl, _, rfl, rfl, rfl, ask4 hk (decide_eq_true (by omega)) (e1 rfl) (e2 rfl) (e3 rfl) fun x H1 s1 hw hx => ?_⟩
      exact fin H1 s1 hw hx
    have n1 : way ≠ 1 := fun z => of_decide_eq_false e (by rw [z])
    refine ⟨_, rfl, rfl, _, rfl, ite_b (fun _ => ?_) (fun _ => ?_)⟩
    · refine ⟨_, rfl, _, rfl, _, rfl, askN hk (decide_eq_false (by omega)) (e1 rfl) (e2 rfl) (e3 rfl) fun x H1 s1 hw hx => ?_⟩
      exact fin H1 s1 hw hx
    · refine ⟨_, rfl, _, rfl, _, rfl, rfl, rfl, askF hk (decide_eq_false (by omega)) (e1 rfl) (e2 rfl) (e3 rfl) fun x H1 s1 hw hx => ?_⟩
      exact fin H1 s1 hw hx
end
end Wl

/-! things that are no Gathering. -/
namespace Wl
open PySem PySem.Spec PyProof.Rows L2
abbrev sNoG : Stmt := topS 91
section
variable {K : PySem.W.Frag} {C D W a p L : Addr} {r : GR} {wd : Nat} {σ : L2.St}
/-- what stands while the list of things that are no Gathering is made -/
abbrev IG (C D a p L : Addr) (r : GR) : Hp → Prop := fun H => PurseAt H a ∧ GatAt C D H p r ∧ GridAt H L r.g
theorem ig_grows : GrowsH (IG C D a p L r) := fun _ _ h s => ⟨h.1.same s, h.2.1.same s, h.2.2.keep (tk_same s)⟩
/-- of another kind -/
def OtG (C W a : Addr) (H : Hp) (v : V) : Prop := OddV (hid a H) v ∨ ∃ x c dx fs, v = .ref x ∧ (c = C ∨ c = W) ∧ hid a H x = some (.ins c dx fs)
theorem OtG.x {H H' : Hp} {v : V} (h : OtG C W a H v) (s : SameX a H H') : OtG C W a H' v := by
  rcases h with h | ⟨x, c, dx, fs, e, ec, h⟩
  · exact .inl (h.same (hid_x s))
  · exact .inr ⟨x, c, dx, fs, e, ec, hid_x s _ _ h⟩
theorem otg_grows : Grows (fun H v => OtG C W a H v) := fun _ _ _ h s => h.x (sx s)
theorem og_t0 : Bld σ (IG C D a p L r) (fun H v => OtG C W a H v) (tTup tNil) := fun H Q i q => ⟨lz, fun t ht => q _ _ (same_new ht) (.inl (od_t (hid_newP i.1 ht)))⟩
theorem og_l0 : Bld σ (IG C D a p L r) (fun H v => OtG C W a H v) (tLst tNil) := fun H Q i q => ⟨lz, fun t ht => q _ _ (same_new ht) (.inl (od_l (hid_newP i.1 ht)))⟩
theorem og_d : Bld σ (IG C D a p L r) (fun H v => OtG C W a H v) tDNewK := fun H Q i q t ht => q _ _ (same_new ht) (.inl (od_d (hid_newP i.1 ht)))
theorem og_lots (h2 : σ[2]? = some (some (.ref L))) : Bld σ (IG C D a p L r) (fun H v => OtG C W a H v) (tVar 2) := fun H Q i q => by
  obtain ⟨as, hL, _⟩ := i.2.2
  exact ⟨_, h2, q _ _ (Same.refl H) (.inl (od_t (hid_at hL fun z => by
    obtain ⟨ys, hy⟩ := i.1.lst
    rw [z, hy] at hL
    cases hL)))⟩
theorem og_land (gd : Good r.g wd) (h2 : σ[2]? = some (some (.ref L))) : Bld σ (IG C D a p L r) (fun H v => OtG C W a H v) (tMake C (spInit C) [] E0 (tCons (tVar 2) tNil)) := fun H Q i q => ⟨_, h2, fun x dx nx ndx ne => by
  have kp1 : TupKeep H (upd (upd H dx (.own x)) x (.ins C dx [])) := fun b0 xs h => by
    rw [upd_ne (ne_of_none h nx), upd_ne (ne_of_none h ndx)]
    exact h
  refine ⟨x, dx, L, r.g, wd, rfl, upd_same, i.2.2.keep kp1, gd, fun H9 k9 hLa9 => ⟨rfl, ?_⟩⟩
  obtain ⟨d1, d0, hi⟩ := hLa9.ins
  exact q (.ref x) H9 (made_same nx ndx k9) (.inr ⟨x, C, _, _, rfl, .inl rfl, hid_at hi (i.1.ne nx)⟩)⟩
theorem og_tels (cl : Cls K D) (h1 : σ[1]? = some (some (.ref p))) : Bld σ (IG C D a p L r) (fun H v => OtG C W a H v) (tMeth D "tellings" (spTell C D) [.non] E0 (tVar 1) tNil) := fun H Q i q => by
  obtain ⟨dg, hg⟩ := i.2.1.at_
  exact ⟨_, h1, p, dg, _, rfl, hg, gf_no _ _ _, p, r, rfl, i.2.1, fun l hl => q _ _ (same_new hl) (.inl (od_l (hid_newP i.1 hl)))⟩
theorem og_tb (h1 : σ[1]? = some (some (.ref p))) : Bld σ (IG C D a p L r) (fun H v => OtG C W a H v) (tTup (tCons (tVar 1) tNil)) := fun H Q i q => ⟨_, h1, lz, fun t ht => q _ _ (same_new ht) (.inl (od_t (hid_newP i.1 ht)))⟩
theorem og_lb (h1 : σ[1]? = some (some (.ref p))) : Bld σ (IG C D a p L r) (fun H v => OtG C W a H v) (tLst (tCons (tVar 1) tNil)) := fun H Q i q => ⟨_, h1, lz, fun t ht => q _ _ (same_new ht) (.inl (od_l (hid_newP i.1 ht)))⟩
theorem og_tl : Bld σ (IG C D a p L r) (fun H v => OtG C W a H v) (tTup (tCons (tLst tNil) tNil)) := fun H Q i q => ⟨lz, fun l hl => ⟨lz, fun t ht => q _ _ ((same_new hl).trans (same_new ht)) (.inl (od_t (hid_newP (i.1.same (same_new hl)) ht)))⟩⟩
theorem joinL_len {S : List Nat} {m : Nat} (p : List Nat) {ps : List (List Nat)} (h : ∀ q ∈ ps, q.length ≤ m) : (TL.joinL S (p :: ps)).length ≤ p.length + ps.length * (m + S.length) + S.length := by
  cases ps with
  | nil =>
    show p.length ≤ _
    omega
  | cons q r =>
    have h2 := join_size (S := S) (m := m) (ps := q :: r) h
    show (p ++ (S ++ TL.joinL S (q :: r))).length ≤ _
    rw [List.length_append, List.length_append]
    omega
theorem gat_len (gd : Good r.g wd) (h8 : r.ts.length ≤ 8) (hok : ∀ t ∈ r.ts, OkT t) : (gatS r.g r.ts).length ≤ 1000 := by
  have hll := land_len gd.parts gd.h6 gd.six
  unfold gatS
  rw [TL.len_tl, TL.join_eq, TL.tl_join]
  have e1 : (TL.tl ("\n" : Str)).length = 1 := by decide +kernel
  have e2 : (TL.tl ("." : Str)).length = 1 := by decide +kernel
  have := joinL_len (S := TL.tl ("\n" : Str)) (m := 63) (TL.tl (landS r.g)) (ps := (("." : Str) :: r.ts.map rowS).map TL.tl) fun q hq => by
    obtain ⟨z, hz, rfl⟩ := List.mem_map.mp hq
    rcases List.mem_cons.mp hz with rfl | hz
    · omega
    · obtain ⟨t, ht, rfl⟩ := List.mem_map.mp hz
      rw [← TL.len_tl]
      exact row_len (hok t ht)
  rw [List.length_map, List.length_cons, List.length_map, e1, ← TL.len_tl] at this
  refine Nat.le_trans this ?_
  omega
theorem og_str (gd : Good r.g wd) (h8 : r.ts.length ≤ 8) (hok : ∀ t ∈ r.ts, OkT t) (h1 : σ[1]? = some (some (.ref p))) : Bld σ (IG C D a p L r) (fun H v => OtG C W a H v) (tCB (rStrO D (spGStr C D)) (tCons (tVar 1) tNil)) := fun H Q i q => by
  obtain ⟨dg, hg⟩ := i.2.1.at_
  exact ⟨_, h1, p, dg, _, rfl, hg, p, r, wd, rfl, i.2.1, gd, by omega, hok, fun H1 s1 => ⟨_, rfl, q _ _ s1 (.inl (.inl ⟨_, rfl, gat_len gd h8 hok⟩))⟩⟩
theorem og_map (gd : Good r.g wd) (h8 : r.ts.length ≤ 8) (hok : ∀ t ∈ r.ts, OkT t) (h1 : σ[1]? = some (some (.ref p))) : Bld σ (IG C D a p L r) (fun H v => OtG C W a H v) (tMake W (spMI C D W) [.non, .int 0, .int 120] E0 (tCons (tVar 1) (tCons (tC (.str "bread")) tNil))) := fun H Q i q => ⟨_, h1, fun x dx nx ndx nex => by
  have s2 : Same H (upd (upd H dx (.own x)) x (.ins W dx [])) := fun b o e => by
    rw [upd_ne (ne_of_none e nx), upd_ne (ne_of_none e ndx)]
    exact e
  refine ⟨x, dx, p, r, wd, "bread", .non, [], 0, 120, rfl, upd_same, i.2.1.same s2, gd, hok, by omega, by decide +kernel, .inl ⟨rfl, rfl⟩, ⟨by decide, fun ch hc => by cases hc⟩, by decide, by decide, fun S' d H'' hb hM => ⟨rfl, ?_⟩⟩
  obtain ⟨d2, b1, b2, e⟩ := hM.at_
  exact q (.ref x) H'' (fun b o e => hb b o (ne_of_none e nx) (s2 _ _ e)) (.inr ⟨x, W, _, _, rfl, .inr rfl, hid_at e (i.1.ne nx)⟩)⟩
end
section
variable {P : Program} {w : World} {K : PySem.W.Frag} {mg : Str → Option Value} {base : Heap} {f C D W : Addr} {fd : FuncData}
theorem mi_b3 (F : FunI K f fd) : ∃ ds, Vals [V.non, V.int 0, V.int 120] ds ∧ Binds K fd psMI ds :=
  F.binds1 (ps := psMI) 3 0 (by simp) rfl (fun T kV doc pm an cdv ct us its l1 l2 => by
      match us, its, l1, l2 with
      | [_, _, _], [_, _, _], _, _ => exact ⟨_, rfl, rfl⟩)
abbrev psNoG : List Str := ["_law_purse_here", "_law_held", "_law_laid"]
abbrev nNoG : List Str := ["_law_purse_here", "_law_held", "_law_laid", "_law_some"]
theorem scNoG : FnScope nNoG psNoG (defScope sNoG) := ⟨rfl, rfl, rfl, by decide +kernel, rfl, by decide +kernel, by decide +kernel⟩
def spNoG (C D W : Addr) : Sp := fun vs H Q _ => ∃ (a p L : Addr) (r : GR) (wd : Nat), vs = [.ref a, .ref p, .ref L] ∧ IG C D a p L r H ∧ Good r.g wd ∧ r.ts.length ≤ 8 ∧ (∀ t ∈ r.ts, OkT t) ∧ ∀ v H', SameX a H H' → PurseAt H' a → OtG C W a H' v → Q v H'
theorem ok_nog (F : Fun K "_law_no_gathering" "_law_no_gathering" sNoG f fd) (B : Bi mg) (T : Txt K mg C) (TG : TxtG K mg D) (TM : TxtM K mg W) (hI : HasI P w K mg base C) (hTl : HasTl P w K mg base C D) (hS : HasM P w K mg base D "__str__" 4 ["self"] (spGStr C D)) (hW : HasW P w K mg base C D W) (hP : Has P w K mg base "_law_pick" 1 ["_law_purse_here", "_law_many"] spPick) : FnOk P w K mg base CX0 10 f fd psNoG (spNoG C D W) := by
  obtain ⟨fI, fdI, MI, GI, bI⟩ := hI
  obtain ⟨fT, fdT, FT, mT, FnT⟩ := hTl
  obtain ⟨dsT, vT, bT⟩ := tell_b1 FnT
  obtain ⟨fS, fdS, FS, mS, bS⟩ := hS
  obtain ⟨fW, fdW, MW, GW, FnW⟩ := hW
  obtain ⟨ds3, v3, b3⟩ := mi_b3 FnW
  refine F.ok scNoG (fun vs H Q E h => ?_) (fun cdv A outer s H vs Q E hr h => ?_)
  · obtain ⟨a, p, L, r, wd, rfl, _⟩ := h
    rfl
  · obtain ⟨a, p, L, r, wd, rfl, i0, gd, h8, hok, q⟩ := h
    refine ⟨_, pss_cons (ps_set (i := 3) scNoG.nd rfl (.inl rfl) (pe_lst (pa_cons pe_non (pa_cons pe_bl (pa_cons pe_int (pa_cons pe_str (pa_cons pe_str (pa_cons (pe_lst pa_nil) (pa_cons pe_dnewK (pa_cons (pe_tup pa_nil) (pa_cons (pe_tup (pa_cons (pe_lst pa_nil) pa_nil)) (pa_cons (pe_tup (pa_cons (pv 1) pa_nil)) (pa_cons (pe_lst (pa_cons (pv 1) pa_nil))
        (pa_cons (pe_make MI GI (hr.mono (by decide)) rfl T.mgC bI .nil pass0 (pa_cons (pv 2) pa_nil)) (pa_cons (pv 2) (pa_cons (pe_meth0 (pv 1) TG.cl mT FT (hr.mono (by decide)) bT vT pass0) (pa_cons (pe_callTy (cr_strO FS bS mS (hr.mono (by decide))) (by rfl) B.str (by decide +kernel) (pa_cons (pv 1) pa_nil)) pa_nil)))))))))))))))))
      (pss_one (ps_ret (pe_ix ix_list (pe_op op_cat (pv 3) (pe_lst (pa_cons (pe_make MW GW hr rfl TM.mgW b3 v3 pass0 (pa_cons (pv 1) (pa_cons pe_str pa_nil))) pa_nil))) (pe_h hP hr (pa_cons (pv 0) (pa_cons pe_int pa_nil))) (fun _ _ => rfl)))), ?_⟩
    have gI : GrowsH (IG C D a p L r) := ig_grows
    have gG : Grows (fun H v => OtG C W a H v) := otg_grows
    refine st_asg (bld_lst (n := 15) gG (bld_cons gI gG (bld_c fun _ _ => .inl (odN _)) (bld_cons gI gG (bld_c fun _ _ => .inl (odB _)) (bld_cons gI gG (bld_c fun _ _ => .inl (odI _)) (bld_cons gI gG (bld_c fun _ _ => .inl (odS (by decide +kernel) _)) (bld_cons gI gG (bld_c fun _ _ => .inl (odS (by decide +kernel) _)) (bld_cons gI gG og_l0 (bld_cons gI gG og_d (bld_cons gI gG og_t0 (bld_cons gI gG og_tl (bld_cons gI gG (og_tb rfl) (bld_cons gI gG (og_lb rfl)
      (bld_cons gI gG (og_land gd rfl) (bld_cons gI gG (og_lots rfl) (bld_cons gI gG (og_tels TG.cl rfl) (bld_cons gI gG (og_str gd h8 hok rfl) bld_nil))))))))))))))) (by decide) i0 fun p0 x0 H0 s0 n0 e0 l0 g0 => ?_)
    have i1 := gI _ _ i0 s0
    refine st_ret (st_op (bld_cat (n := 1) (m := 15) gI gG (i0 := 3) (bld_cons gI gG (og_map gd h8 hok rfl) bld_nil) (by decide) i1 rfl e0 l0 g0 fun p1 x1 H1 s1 n1 e1 l1 g1 => ?_))
    have i2 := gI _ _ i1 s1
    have S1 := s0.trans s1
    refine ⟨_, rfl, a, 16, rfl, i2.1, by decide, by decide, fun i H8 h0 h1 hp8 sx8 _ => ?_⟩
    have hl : x1.length = 16 := l1
    obtain ⟨v, hv⟩ : ∃ v, x1[i.toNat]? = some v := ⟨_, List.getElem?_eq_getElem (by omega)⟩
    have e8 : H8 p1 = some (.lst x1) := sx8 _ _ (i0.1.ne (hq_of s0 n1)) e1
    have ei : (i.toNat : Int) = i := Int.toNat_of_nonneg h0
    refine ⟨p1, x1, i, v, rfl, rfl, .inl (.inl e8), ?_, q v H8 ((sx S1).trans sx8) hp8 ((g1 v (List.mem_of_getElem? hv)).x sx8)⟩
    rw [← ei]
    exact atI_nat hv
end
end Wl

/-! what is handed in, and what is due. -/
namespace Wl
open PySem PySem.Spec PyProof.Rows L2
/-- things that are no Gathering -/
structure KitNoG (K : PySem.W.Frag) (C D W : Addr) : Prop where
  non : PySem.W.kitOne K (.type "NoneType") (.ref D) = some false
  bl : PySem.W.kitOne K (.type "bool") (.ref D) = some false
  int : PySem.W.kitOne K (.type "int") (.ref D) = some false
  str : PySem.W.kitOne K (.type "str") (.ref D) = some false
  lst : PySem.W.kitOne K (.type "list") (.ref D) = some false
  tup : PySem.W.kitOne K (.type "tuple") (.ref D) = some false
  dK : PySem.W.kitOne K (.type "dict") (.ref D) = some false
  land : PySem.W.kitOne K (.ref C) (.ref D) = some false
  map : PySem.W.kitOne K (.ref W) (.ref D) = some false
theorem noG {K : PySem.W.Frag} {C D W a : Addr} {H : Hp} {v : V} (k : KitNoG K C D W) (iC : C8.InsC K C) (iW : C8.InsC K W) (h : OtG C W a H v) : ∃ t, TyX K H v t ∧ PySem.W.kitOne K t (.ref D) = some false := by
  rcases h with h | ⟨x, c, dx, fs, e, ec, h⟩
  · rcases h with ⟨z, e, h⟩ | h | ⟨b, h⟩ | ⟨i, h⟩ | ⟨p, e, ⟨xs, h⟩ | ⟨xs, h⟩ | ⟨xs, h⟩⟩
    · subst e
      exact ⟨_, .base (.str z), k.str⟩
    · subst h
      exact ⟨_, .base .non, k.non⟩
    · subst h
      exact ⟨_, .base (.bl b), k.bl⟩
    · subst h
      exact ⟨_, .base (.int i), k.int⟩
    · subst e
      exact ⟨_, .base (.tup (hid_same _ _ h)), k.tup⟩
    · subst e
      exact ⟨_, .base (.lst (hid_same _ _ h)), k.lst⟩
    · subst e
      exact ⟨_, .base (.dK (hid_same _ _ h)), k.dK⟩
  · subst e
    have h := hid_same _ _ h
    rcases ec with rfl | rfl
    · exact ⟨_, .base (.ins h iC.cl iC.ha iC.hn iC.htk iC.hm), k.land⟩
    · exact ⟨_, .base (.ins h iW.cl iW.ha iW.hn iW.htk iW.hm), k.map⟩
def selV (b : Bool) (o g : V) : V := if b = true then o else g
def dueS (two b0 b1 b2 b3 : Bool) (t1 t2 t3 : Str) : Str × Str := if b0 = true then ("gathering", "") else if b1 = true then ("name", t1) else if (two && b2) = true then ("name", t2) else if b3 = true then ("changes", t3) else ("told", "")
structure Thg (K : PySem.W.Frag) (C D W a : Addr) (H : Hp) (p S : Addr) (r : GR) (chs : List Chg) (o0 o1 o2 o3 : V) (z1 z2 t1 t2 : Str) (o : Option Nat) : Prop where
  og : OtG C W a H o0
  n1 : NoName K H r.g o1 t1
  n2 : NoName K H r.g o2 t2
  n3 : NoChs H o3 o
  lo : ∀ i, o = some i → i ≤ 4
  gat : GatAt C D H p r
  gd : ∃ wi, Good r.g wi
  ok : ∀ t ∈ r.ts, OkT t
  l : r.ts.length ≤ 200
  w1 : IsWd z1
  m1 : z1 ∈ names r.g
  w2 : IsWd z2
  m2 : z2 ∈ names r.g
  ch : ChAt H S chs
  okc : OkCs chs
section
variable {K : PySem.W.Frag} {C D W a p S : Addr} {H H' : Hp} {r : GR} {chs : List Chg} {o0 o1 o2 o3 : V} {z1 z2 t1 t2 : Str} {o : Option Nat}
theorem Thg.same (h : Thg K C D W a H p S r chs o0 o1 o2 o3 z1 z2 t1 t2 o) (s : Same H H') : Thg K C D W a H' p S r chs o0 o1 o2 o3 z1 z2 t1 t2 o :=
  ⟨h.og.x (sx s), h.n1.same s, h.n2.same s, h.n3.same s, h.lo, h.gat.same s, h.gd, h.ok, h.l, h.w1, h.m1, h.w2, h.m2, h.ch.same s, h.okc⟩
theorem Thg.ask (h : Thg K C D W a H p S r chs o0 o1 o2 o3 z1 z2 t1 t2 o) (k : KitNoG K C D W) (iC : C8.InsC K C) (iW : C8.InsC K W) (two b0 b1 b2 b3 : Bool) : AskR K C D H two (selV b0 o0 (.ref p)) (selV b1 o1 (.str z1)) (selV b2 o2 (.str z2)) (selV b3 o3 (.ref S)) (dueS two b0 b1 b2 b3 t1 t2 (plcD o).shown).1 (dueS two b0 b1 b2 b3 t1 t2 (plcD o).shown).2 := by
  obtain ⟨wi, gd⟩ := h.gd
  cases b0 with
  | true =>
    obtain ⟨t, ty, kk⟩ := noG k iC iW h.og
    exact .inl ⟨t, ty, kk, rfl, rfl⟩
  | false =>
    refine .inr ⟨p, r, wi, rfl, h.gat, gd, h.ok, h.l, ?_⟩
    cases b1 with
    | true => exact .inl ⟨h.n1, rfl⟩
    | false =>
      refine .inr ⟨z1, rfl, h.w1, h.m1, ?_⟩
      have tail : ∀ (b : V), (two = true → ∃ y, b = .str y ∧ IsWd y ∧ y ∈ names r.g) → (two && b2) = false → (two = true ∧ NoName K H r.g b (dueS two false false b2 b3 t1 t2 (plcD o).shown).2 ∧ (dueS two false false b2 b3 t1 t2 (plcD o).shown).1 = "name") ∨ ((two = true → ∃ y, b = .str y ∧ IsWd y ∧ y ∈ names r.g) ∧ AskC K H (selV b3 o3 (.ref S)) (dueS two false false b2 b3 t1 t2 (plcD o).shown).1 (dueS two false false b2 b3 t1 t2 (plcD o).shown).2) := fun b hb e => by
        have ed : dueS two false false b2 b3 t1 t2 (plcD o).shown = if b3 = true then (("changes" : Str), (plcD o).shown) else (("told" : Str), ("" : Str)) := by
          unfold dueS
          rw [if_neg (by decide), if_neg (by decide), e, if_neg (by decide)]
        rw [ed]
        refine .inr ⟨hb, ?_⟩
        cases b3 with
        | true => exact .inl ⟨o, h.n3, h.lo, rfl, rfl⟩
        | false => exact .inr ⟨chs, .inr ⟨S, rfl, h.ch⟩, h.okc, rfl, rfl⟩
      cases two with
      | false => exact tail _ (fun e => by cases e) rfl
      | true =>
        cases b2 with
        | true => exact .inl ⟨rfl, h.n2, rfl⟩
        | false => exact tail _ (fun _ => ⟨z2, rfl, h.w2, h.m2⟩) rfl
end
def keepB (b0 b1 b2 b3 : Bool) (x : V) : Bool := if x = .int 0 then b0 else if x = .int 1 then b1 else if x = .int 2 then b2 else b3
def dueV (d0 d1 d2 d3 : Addr) (x : V) : V := if x = .int 0 then .ref d0 else if x = .int 1 then .ref d1 else if x = .int 2 then .ref d2 else .ref d3
def takesV (two : Bool) : List V := if two = true then [.int 0, .int 1, .int 2, .int 3] else [.int 0, .int 1, .int 3]
theorem due_head {H : Hp} {d0 d1 d2 d3 dt : Addr} {t1 t2 t3 : Str} (two b0 b1 b2 b3 : Bool) (h0 : H d0 = some (.tup [.str "gathering", .str ""])) (h1 : H d1 = some (.tup [.str "name", .str t1])) (h2 : H d2 = some (.tup [.str "name", .str t2])) (h3 : H d3 = some (.tup [.str "changes", .str t3])) (ht : H dt = some (.tup [.str "told", .str ""])) :
    ∃ dd, atI (((takesV two).filter (keepB b0 b1 b2 b3)).map (dueV d0 d1 d2 d3) ++ [.ref dt]) 0 = some (.ref dd) ∧ H dd = some (.tup [.str (dueS two b0 b1 b2 b3 t1 t2 t3).1, .str (dueS two b0 b1 b2 b3 t1 t2 t3).2]) := by
  cases two <;> cases b0 <;> cases b1 <;> cases b2 <;> cases b3 <;> first | exact ⟨d0, atI_nat (j := 0) rfl, h0⟩ | exact ⟨d1, atI_nat (j := 0) rfl, h1⟩ | exact ⟨d2, atI_nat (j := 0) rfl, h2⟩ | exact ⟨d3, atI_nat (j := 0) rfl, h3⟩ | exact ⟨dt, atI_nat (j := 0) rfl, ht⟩
theorem kGath : PyData.canLay0 (.str "gathering") = true := by decide +kernel
theorem kEmp : PyData.canLay0 (.str "") = true := by decide +kernel
theorem kName : PyData.canLay0 (.str "name") = true := by decide +kernel
theorem kChg : PyData.canLay0 (.str "changes") = true := by decide +kernel
theorem kTold : PyData.canLay0 (.str "told") = true := by decide +kernel
theorem due_tok {two b0 b1 b2 b3 : Bool} {t1 t2 t3 : Str} (h1 : TOk t1) (h2 : TOk t2) (h3 : TOk t3) : PyData.canLay0 (.str (dueS two b0 b1 b2 b3 t1 t2 t3).1) = true ∧ PyData.canLay0 (.str (dueS two b0 b1 b2 b3 t1 t2 t3).2) = true := by
  unfold dueS
  repeat' split
  · exact ⟨kGath, kEmp⟩
  · exact ⟨kName, tok_lay h1⟩
  · exact ⟨kName, tok_lay h2⟩
  · exact ⟨kChg, tok_lay h3⟩
  · exact ⟨kTold, kEmp⟩
def prD (x y : Str) : PyData := .tuple [.str x, .str y]
theorem pr_dp {K : PySem.W.Frag} {H : Hp} {q : Addr} {x y : Str} (h : H q = some (.tup [.str x, .str y])) : Dp K H (.ref q) (prD x y) := .tup (.inl (.inl h)) (.cons (.str _) (.cons (.str _) .nil))
theorem pr_lay {x y : Str} (h1 : PyData.canLay0 (.str x) = true) (h2 : PyData.canLay0 (.str y) = true) : PyData.canLay0 (prD x y) = true := by
  simp [prD, PyData.canLayAll0, PyData.canLay0] at h1 h2 ⊢
  exact ⟨h1, h2⟩
theorem pr_shaped {x y : Str} (h1 : PyData.canLay0 (.str x) = true) (h2 : PyData.canLay0 (.str y) = true) : SeqAt.shaped (prD x y) = true := shaped_tuple (by
  simp [PyData.canLayAll0, PyData.canLay0] at h1 h2 ⊢
  exact ⟨h1, h2⟩) (by simp [PyData.depthAll, PyData.depth])
theorem pr_eqv (x y : Str) : PyData.eqv (prD x y) (prD x y) = true := by simp [prD, PyData.eqv, PyData.eqvAll]
end Wl

/-! the first that is none is refused. -/
namespace Wl
open PySem PySem.Spec PyProof.Rows L2
abbrev sRight : Stmt := topS 95
abbrev psRight : List Str := ["_law_purse_here", "_law_held", "_law_laid", "_law_swaps"]
abbrev nRight : List Str := ["_law_purse_here", "_law_held", "_law_laid", "_law_swaps", "_law_towns", "_law_bits", "_law_good", "_law_none", "_law_at", "_law_odd", "_law_dues", "_law_wrong", "_law_asked", "_law_way", "_law_takes", "_law_due", "_law_turn", "_law_k"]
theorem scRight : FnScope nRight psRight (defScope sRight) := ⟨rfl, rfl, rfl, by decide +kernel, rfl, by decide +kernel, by decide +kernel⟩
theorem GatAt.keep' {C D : Addr} {H H' : Hp} {p : Addr} {r : GR} (h : GatAt C D H p r) (k : Keep H H') (ht : H' r.td = some (.lst (r.as.map V.ref))) (hd : H' r.dd = some (.lst r.ds)) : GatAt C D H' p r :=
  ⟨let ⟨dx, e⟩ := h.at_; ⟨dx, k _ _ (fun xs e => by cases e) e⟩, h.land.keep k, ht, h.tels.keep k.tk, hd, h.ne⟩
theorem GatAt.px {C D : Addr} {H H' : Hp} {p a : Addr} {r : GR} (h : GatAt C D H p r) (hA : PurseAt H a) (s : SameX a H H') (n1 : r.td ≠ a) (n2 : r.dd ≠ a) : GatAt C D H' p r := by
  obtain ⟨ys, hy⟩ := hA.lst
  refine h.keep' (fun q o n e => s q o (fun e2 => ?_) e) (s _ _ n1 h.told) (s _ _ n2 h.deeds)
  rw [e2, hy] at e
  exact n ys (Option.some.inj e).symm
theorem sel_at {b0 b1 b2 b3 : Bool} {o0 o1 o2 o3 g0 g1 g2 g3 : V} {i : Nat} (h : i < 4) : ∃ b o g, ([V.bl b0, V.bl b1, V.bl b2, V.bl b3])[i]? = some (.bl b) ∧ ([o0, o1, o2, o3])[i]? = some o ∧ ([g0, g1, g2, g3])[i]? = some g ∧ ([selV b0 o0 g0, selV b1 o1 g1, selV b2 o2 g2, selV b3 o3 g3])[i]? = some (selV b o g) := by
  rcases (by omega : i = 0 ∨ i = 1 ∨ i = 2 ∨ i = 3) with rfl | rfl | rfl | rfl <;> exact ⟨_, _, _, rfl, rfl, rfl, rfl⟩
theorem four_shaped : SeqAt.shaped (.list [prD "told" "", prD "told" "", prD "told" "", prD "told" ""]) = true := by decide +kernel
theorem four_eqv : PyData.eqv (.list [prD "told" "", prD "told" "", prD "told" "", prD "told" ""]) (.list [prD "told" "", prD "told" "", prD "told" "", prD "told" ""]) = true := by simp [prD, PyData.eqv, PyData.eqvAll]
theorem Thg.ask_good {K : PySem.W.Frag} {C D W a p S : Addr} {H : Hp} {r : GR} {chs : List Chg} {o0 o1 o2 o3 : V} {z1 z2 t1 t2 : Str} {o : Option Nat} {two : Bool} (h : Thg K C D W a H p S r chs o0 o1 o2 o3 z1 z2 t1 t2 o) : AskR K C D H two (.ref p) (.str z1) (.str z2) (.ref S) "told" "" := by
  obtain ⟨wi, gd⟩ := h.gd
  exact .inr ⟨p, r, wi, rfl, h.gat, gd, h.ok, h.l, .inr ⟨z1, rfl, h.w1, h.m1, .inr ⟨fun _ => ⟨z2, rfl, h.w2, h.m2⟩, .inr ⟨chs, .inr ⟨S, rfl, h.ch⟩, h.okc, rfl, rfl⟩⟩⟩⟩
theorem takes_mem {two : Bool} {x : V} (hx : x ∈ takesV two) : x = .int 0 ∨ x = .int 1 ∨ x = .int 2 ∨ x = .int 3 := by
  unfold takesV at hx
  split at hx
  · simpa using hx
  · have h : x = .int 0 ∨ x = .int 1 ∨ x = .int 3 := by simpa using hx
    rcases h with h | h | h
    · exact .inl h
    · exact .inr (.inl h)
    · exact .inr (.inr (.inr h))
theorem each_map {α β : Type} {f : α → β} : ∀ {xs : List α} {zs : List β}, Each (fun x z => z = f x) xs zs → zs = xs.map f
  | _, _, .nil => rfl
  | _, _, .cons e r => by rw [e, each_map r]; rfl
section
variable {P : Program} {w : World} {K : PySem.W.Frag} {mg : Str → Option Value} {base : Heap} {f C D W : Addr} {fd : FuncData}
abbrev tWr (K : PySem.W.Frag) : TE := tOp rEq (tOp (rI (fun _ j => 0 < j) fun i j => .int (i % j)) (tOp (rI CDiv fun i j => .int (i / j)) (tVar 5) (tOp (rIxL K) (tLst (tCons (tC (.int 1)) (tCons (tC (.int 2)) (tCons (tC (.int 4)) (tCons (tC (.int 8)) tNil))))) (tVar 17))) (tC (.int 2))) (tC (.int 1))
abbrev tAs4 (K : PySem.W.Frag) : TE := tIf (tB (tOp (rIxL K) (tVar 11) (tVar 17))) (tOp (rIxL K) (tVar 9) (tVar 17)) (tOp (rIxL K) (tVar 6) (tVar 17))
abbrev tTrG (K : PySem.W.Frag) (C D : Addr) : TE := tCall (spTried K C D) [] E0 (tCons (tVar 13) (tCons (tOp (rIxL K) (tVar 6) (tC (.int 0))) (tCons (tOp (rIxL K) (tVar 6) (tC (.int 1))) (tCons (tOp (rIxL K) (tVar 6) (tC (.int 2))) (tCons (tVar 3) tNil)))))
def spRight (C D : Addr) : Sp := fun vs H Q _ => ∃ (a p L S : Addr) (r : GR) (wd : Nat) (chs : List Chg), vs = [.ref a, .ref p, .ref L, .ref S] ∧ PurseAt H a ∧ GatAt C D H p r ∧ (∀ t ∈ r.ts, OkT t) ∧ r.ts.length ≤ 8 ∧ GridAt H L r.g ∧ Good r.g wd ∧ ChAt H S chs ∧ OkCs chs ∧ chs.length ≤ 4 ∧ r.td ≠ a ∧ r.dd ≠ a ∧ ∀ H', SameX a H H' → PurseAt H' a → Q (.bl true) H'
theorem ok_right (F : Fun K "_law_right" "_law_right" sRight f fd) (B : Bi mg) (hrep : mg "repr" = none) (KN : KitNoG K C D W) (iC : C8.InsC K C) (iW : C8.InsC K W) (hNm : Has P w K mg base "_law_names" 1 ["_law_laid"] spNames) (hP : Has P w K mg base "_law_pick" 1 ["_law_purse_here", "_law_many"] spPick)
    (hNC : Has P w K mg base "_law_no_changes" 2 psNoC spNoC) (hNG : Has P w K mg base "_law_no_gathering" 10 psNoG (spNoG C D W)) (hNT : Has P w K mg base "_law_no_town" 2 psNoT (spNoT K)) (hTr : HasQ P w K mg base "_law_tried" 13 psTried (spTried K C D)) : FnOkG P w K mg base 14 f fd psRight (spRight C D) := by
  refine okG F scRight (fun vs H Q E h => ?_) (fun cdv A outer s H vs Q E hgd hr h => ?_)
  · obtain ⟨a, p, L, S, r, wd, chs, rfl, _⟩ := h
    rfl
  · obtain ⟨a, p, L, S, r, wd, chs, rfl, hA, hG, hok, h8, hL, gd, hS, okc, h4, ntd, ndd, q⟩ := h
    refine ⟨_, pss_cons (ps_asg (pe_tup (pa_cons (pe_h hNm hr (pa_cons (pv 2) pa_nil)) (pa_cons (pe_op op_add pe_int (pe_h hP hr (pa_cons (pv 0) (pa_cons pe_int pa_nil)))) pa_nil))) (pg_tup rfl (pgs_cons (pg_name (i := 4) scRight.nd rfl (.inl rfl)) (pgs_cons (pg_name (i := 5) scRight.nd rfl (.inr rfl)) pgs_nil))))
      (pss_cons (ps_set (i := 6) scRight.nd rfl (.inr rfl) (pe_lst (pa_cons (pv 1) (pa_cons (pe_ix ix_list (pv 4) (pe_h hP hr (pa_cons (pv 0) (pa_cons (pe_callB call_len_seq (by rfl) B.len PySem.boot_len (pa_cons (pv 4) pa_nil)) pa_nil))) (fun _ _ => rfl)) (pa_cons (pe_ix ix_list (pv 4) pe_int (fun _ _ => rfl)) (pa_cons (pv 3) pa_nil))))))
      (pss_cons (ps_asg (pe_h hNC hr (pa_cons (pv 0) (pa_cons (pv 3) pa_nil))) (pg_lst rfl (pgs_cons (pg_name (i := 7) scRight.nd rfl (.inl rfl)) (pgs_cons (pg_name (i := 8) scRight.nd rfl (.inl rfl)) pgs_nil))))
      (pss_cons (ps_set (i := 9) scRight.nd rfl (.inr rfl) (pe_lst (pa_cons (pe_h hNG hr (pa_cons (pv 0) (pa_cons (pv 1) (pa_cons (pv 2) pa_nil)))) (pa_cons (pe_h hNT hr (pa_cons (pv 0) (pa_cons (pv 4) pa_nil))) (pa_cons (pe_h hNT hr (pa_cons (pv 0) (pa_cons (pv 4) pa_nil))) (pa_cons (pv 7) pa_nil))))))
      (pss_cons (ps_set (i := 10) scRight.nd rfl (.inr rfl) (pe_lst (pa_cons (pe_tup (pa_cons pe_str (pa_cons pe_str pa_nil))) (pa_cons (pe_tup (pa_cons pe_str (pa_cons (pe_callB (cr_reprF hgd hr.units) (by rfl) hrep (by decide +kernel) (pa_cons (pe_ix ix_list (pv 9) pe_int (fun _ _ => rfl)) pa_nil)) pa_nil)))
          (pa_cons (pe_tup (pa_cons pe_str (pa_cons (pe_callB (cr_reprF hgd hr.units) (by rfl) hrep (by decide +kernel) (pa_cons (pe_ix ix_list (pv 9) pe_int (fun _ _ => rfl)) pa_nil)) pa_nil))) (pa_cons (pe_tup (pa_cons pe_str (pa_cons (pe_callB (cr_reprF hgd hr.units) (by rfl) hrep (by decide +kernel) (pa_cons (pv 8) pa_nil)) pa_nil))) pa_nil))))))
      (pss_cons (ps_set (i := 11) scRight.nd rfl (.inr rfl) (pe_lc (own := [("_law_k", 17)]) (g := gName 17) (tt := tYes) (te := tWr K) rfl scRight.nd (pi_range1 (by rfl) B.range (pa_cons pe_int pa_nil)) (blkOk_by (N := nRight) (sc := defScope sRight) (by decide +kernel))
          (fun _ _ _ _ _ => pg_name (i := 17) scRight.nd rfl (.inl rfl)) (fun _ _ _ _ _ => pts_nil) (fun _ _ _ _ _ => pe_cmpR op_eq (pe_op op_mod (pe_op op_fdiv (pv 5) (pe_ix ix_list (pe_lst (pa_cons pe_int (pa_cons pe_int (pa_cons pe_int (pa_cons pe_int pa_nil))))) (pv 17) (fun _ _ => rfl))) pe_int) pe_int (nomark _))))
      (pss_cons (ps_setLc (i := 12) (own := [("_law_k", 17)]) (g := gName 17) (tt := tYes) (te := tAs4 K) rfl scRight.nd rfl rfl (sw_true rfl rfl rfl (by decide +kernel)) (pi_range1 (by rfl) B.range (pa_cons pe_int pa_nil)) (blkOk_by (N := nRight) (sc := defScope sRight) (by decide +kernel))
          (fun _ _ _ _ _ => pg_name (i := 17) scRight.nd rfl (.inl rfl)) (fun _ _ _ _ _ => pts_nil) (fun _ _ _ _ _ => pe_ifExp (pt_val (pe_ix ix_list (pv 11) (pv 17) (fun _ _ => rfl))) (pe_ix ix_list (pv 9) (pv 17) (fun _ _ => rfl)) (pe_ix ix_list (pv 6) (pv 17) (fun _ _ => rfl))))
      (pss_cons (ps_for PassesOwn.never rfl (pi_range1 rfl B.range (pa_cons pe_int pa_nil)) (pg_name (i := 13) scRight.nd rfl (.inl rfl))
        (pss_cons (ps_set (i := 14) scRight.nd rfl (.inl rfl) (pe_ifExp (pt_cmpR op_lt (pv 13) pe_int (nomark _)) (pe_lst (pa_cons pe_int (pa_cons pe_int (pa_cons pe_int (pa_cons pe_int pa_nil))))) (pe_lst (pa_cons pe_int (pa_cons pe_int (pa_cons pe_int pa_nil))))))
        (pss_cons (ps_set (i := 15) scRight.nd rfl (.inl rfl) (pe_ix ix_list (pe_op op_cat (pe_lc (own := [("_law_k", 17)]) (g := gName 17) (tt := tB (tOp (rIxL K) (tVar 11) (tVar 17))) (te := tOp (rIxL K) (tVar 10) (tVar 17)) rfl scRight.nd (pi_list (pv 14)) (blkOk_by (N := nRight) (sc := defScope sRight) (by decide +kernel))
            (fun _ _ _ _ _ => pg_name (i := 17) scRight.nd rfl (.inl rfl)) (fun _ _ _ _ _ => pts_one (pt_val (pe_ix ix_list (pv 11) (pv 17) (fun _ _ => rfl)))) (fun _ _ _ _ _ => pe_ix ix_list (pv 10) (pv 17) (fun _ _ => rfl))) (pe_lst (pa_cons (pe_tup (pa_cons pe_str (pa_cons pe_str pa_nil))) pa_nil))) pe_int (fun _ _ => rfl)))
        (pss_one (ps_for PassesOwn.never rfl (pi_range1 rfl B.range (pa_cons pe_int pa_nil)) (pg_name (i := 16) scRight.nd rfl (.inl rfl))
          (pss_one (ps_if (pt_cmpR (op_neD hr.units) (pe_hQ hTr hgd hr (pa_cons (pv 13) (pa_cons (pe_ix ix_list (pv 12) pe_int (fun _ _ => rfl)) (pa_cons (pe_ix ix_list (pv 12) pe_int (fun _ _ => rfl)) (pa_cons (pe_ix ix_list (pv 12) pe_int (fun _ _ => rfl)) (pa_cons (pe_ix ix_list (pv 12) pe_int (fun _ _ => rfl)) pa_nil)))))) (pv 15) (nomark _)) (pss_one (ps_ret pe_bl)) pss_nil)))))))
      (pss_one (ps_ret (pe_cmpR (op_eqD hr.units) (pe_lc (own := [("_law_way", 13)]) (g := gName 13) (tt := tYes) (te := tTrG K C D) rfl scRight.nd (pi_range1 (by rfl) B.range (pa_cons pe_int pa_nil)) (blkOk_by (N := nRight) (sc := defScope sRight) (by decide +kernel))
          (fun _ _ _ _ _ => pg_name (i := 13) scRight.nd rfl (.inl rfl)) (fun _ _ _ _ _ => pts_nil) (fun _ _ _ _ _ => pe_hQ hTr hgd hr (pa_cons (pv 13) (pa_cons (pe_ix ix_list (pv 6) pe_int (fun _ _ => rfl)) (pa_cons (pe_ix ix_list (pv 6) pe_int (fun _ _ => rfl)) (pa_cons (pe_ix ix_list (pv 6) pe_int (fun _ _ => rfl)) (pa_cons (pv 3) pa_nil)))))))
          (pe_op op_rep (pe_lst (pa_cons (pe_tup (pa_cons pe_str (pa_cons pe_str pa_nil))) pa_nil)) pe_int) (nomark _))))))))))), ?_⟩
    obtain ⟨y0, hy0⟩ := id hA.lst
    have nS : S ≠ a := fun z => by
      obtain ⟨as, hS0, _⟩ := hS
      rw [z, hy0] at hS0
      cases hS0
    -- towns, bits
    refine ⟨_, rfl, L, r.g, wd, rfl, hL, gd.sized, fun Tn H1 nTn s1 hTn => ⟨_, rfl, a, 15, rfl, hA.same s1, by decide, by decide, fun b15 H2 b150 b151 hA2 x2 _ => ⟨_, _, rfl, rfl, lz, fun t ht => ?_⟩⟩⟩
    have nTa : Tn ≠ a := hA.ne nTn
    refine ⟨t, _, rfl, .inl (.inl upd_same), rfl, _, _, rfl, _, _, rfl, rfl, ?_⟩
    have k3 := same_new (o := .tup [V.ref Tn, V.int (1 + b15)]) ht
    have X3 : SameX a H (upd H2 t (.tup [V.ref Tn, V.int (1 + b15)])) := ((sx s1).trans x2).trans (sx k3)
    have hA3 := hA2.same k3
    have hTn3 := k3 _ _ (x2 _ _ nTa hTn)
    generalize upd H2 t (.tup [V.ref Tn, V.int (1 + b15)]) = H3 at X3 hA3 hTn3
    have nmwd : ∀ z ∈ sortS (names r.g), IsWd z := fun z hz => gd.wd z (mem_sortS.mp hz)
    have nmne : sortS (names r.g) ≠ [] := fun e => by
      obtain ⟨z, hz⟩ := List.exists_mem_of_ne_nil _ gd.ne
      have := mem_sortS.mpr hz
      rw [e] at this
      exact (List.not_mem_nil this).elim
    have nm36 : (sortS (names r.g)).length ≤ 36 := by
      rw [sortS_len]
      exact gd.len
    have nmpos : 0 < (sortS (names r.g)).length := List.length_pos_iff.mpr nmne
    obtain ⟨z2, hz2, hzi2⟩ := atI_strs (zs := sortS (names r.g)) (r := 0) (by omega) (by omega)
    -- good
    refine ⟨_, rfl, _, rfl, _, rfl, _, rfl, Tn, _, rfl, .inl (.inl (.inl hTn3)), a, _, rfl, hA3, by rw [List.length_map]; omega, by rw [List.length_map]; omega, fun r4 H4 r40 r41 hA4 x4 _ => ?_⟩
    rw [List.length_map] at r41
    obtain ⟨z1, hz1, hzi1⟩ := atI_strs (zs := sortS (names r.g)) r40 r41
    have hTn4 := x4 _ _ nTa hTn3
    refine ⟨Tn, _, r4, .str z1, rfl, rfl, .inl (.inl hTn4), hzi1, _, rfl, Tn, _, 0, .str z2, rfl, rfl, .inl (.inl hTn4), hzi2, _, rfl, lz, fun Gd nGd => ?_⟩
    have k5 := same_new (o := .lst [V.ref p, .str z1, .str z2, .ref S]) nGd
    have hGd5 : upd H4 Gd (.lst [V.ref p, .str z1, .str z2, .ref S]) Gd = some (.lst [V.ref p, .str z1, .str z2, .ref S]) := upd_same
    have nGa : Gd ≠ a := hA4.ne nGd
    have hA5 := hA4.same k5
    have X5 := (X3.trans x4).trans (sx k5)
    have hTn5 := k5 _ _ hTn4
    show tSeq _ _ _ _ (upd H4 Gd (.lst [V.ref p, .str z1, .str z2, .ref S]))
    generalize upd H4 Gd (.lst [V.ref p, .str z1, .str z2, .ref S]) = H5 at hGd5 hA5 X5 hTn5
    -- no changes
    refine ⟨_, rfl, _, rfl, a, S, chs, rfl, hA5, hS.X hy0 X5, okc, h4, fun Np v o H6 x6 hA6 hNp nNp lo hn => ?_⟩
    refine ⟨Np, _, rfl, .inl (.inl hNp), rfl, _, _, rfl, _, _, rfl, rfl, ?_⟩
    have X6 := X5.trans x6
    have hTn6 := x6 _ _ nTa hTn5
    have hGd6 := x6 _ _ nGa hGd5
    have hL6 := hL.keep (tk_x X6 hy0)
    -- odd
    refine ⟨_, rfl, _, rfl, _, rfl, a, p, L, r, wd, rfl, ⟨hA6, hG.px hA X6 ntd ndd, hL6⟩, gd, h8, hok, fun o0 H7 x7 hA7 og => ⟨_, rfl, _, rfl, a, Tn, _, rfl, hA7, x7 _ _ nTa hTn6, nTa, nmne, nmwd, fun o1 H8 x8 hA8 n1 => ⟨_, rfl, _, rfl, a, Tn, _, rfl, hA8, x8 _ _ nTa (x7 _ _ nTa hTn6), nTa, nmne, nmwd, fun o2 H9 x9 hA9 n2 => ⟨_, rfl, lz, fun Od nOd => ?_⟩⟩⟩⟩
    have k10 := same_new (o := .lst [o0, o1, o2, v]) nOd
    have hOd : upd H9 Od (.lst [o0, o1, o2, v]) Od = some (.lst [o0, o1, o2, v]) := upd_same
    have x610 : SameX a H6 (upd H9 Od (.lst [o0, o1, o2, v])) := ((x7.trans x8).trans x9).trans (sx k10)
    have x810 := (x8.trans x9).trans (sx k10)
    have x910 := x9.trans (sx k10)
    have hA10 := hA9.same k10
    have hGd10 := x610 _ _ nGa hGd6
    have X10 := X6.trans x610
    obtain ⟨q1, q2, d1, hd1, sh1, tk1⟩ := n1.x x910
    obtain ⟨q3, q4, d2, hd2, sh2, tk2⟩ := n2.x (sx k10)
    have thg : Thg K C D W a (upd H9 Od (.lst [o0, o1, o2, v])) p S r chs o0 o1 o2 v z1 z2 d1.shown d2.shown o :=
      ⟨og.x x810, ⟨q1.same hid_same, name_bad q2, d1, hd1.same hid_same, sh1, rfl⟩, ⟨q3.same hid_same, name_bad q4, d2, hd2.same hid_same, sh2, rfl⟩, (hn.same (hid_x x610)).same hid_same, lo, hG.px hA X10 ntd ndd, ⟨wd, gd⟩, hok, by omega, nmwd _ hz1, mem_sortS.mp hz1, nmwd _ hz2, mem_sortS.mp hz2, hS.X hy0 X10, okc⟩
    have hr1 := hd1.same (K := K) hid_same
    have hr2 := hd2.same (K := K) hid_same
    show tSeq _ _ _ _ (upd H9 Od (.lst [o0, o1, o2, v]))
    generalize upd H9 Od (.lst [o0, o1, o2, v]) = H10 at hOd hA10 hGd10 X10 thg hr1 hr2
    clear x610 x810 x910 x7 x8 x9 k10 hL6 hTn6 hGd6 X6 hd1 hd2 hn og n1 n2 hNp
    -- dues
    refine ⟨lz, fun e0 ne0 => ?_⟩
    have s11 := same_new (o := .tup [V.str "gathering", .str ""]) ne0
    have he0 : upd H10 e0 (.tup [V.str "gathering", .str ""]) e0 = some (.tup [V.str "gathering", .str ""]) := upd_same
    generalize upd H10 e0 (.tup [V.str "gathering", .str ""]) = H11 at s11 he0 ⊢
    refine ⟨_, rfl, Od, _, 1, o1, rfl, rfl, .inl (.inl (s11 _ _ hOd)), atI_nat (j := 1) rfl, o1, d1, rfl, hr1.same s11, sh1, lz, fun e1 ne1 => ?_⟩
    have s12 := same_new (o := .tup [V.str "name", .str d1.shown]) ne1
    have he1 : upd H11 e1 (.tup [V.str "name", .str d1.shown]) e1 = some (.tup [V.str "name", .str d1.shown]) := upd_same
    have he0 := s12 _ _ he0
    have s02 := s11.trans s12
    generalize upd H11 e1 (.tup [V.str "name", .str d1.shown]) = H12 at s02 he0 he1 ⊢
    refine ⟨_, rfl, Od, _, 2, o2, rfl, rfl, .inl (.inl (s02 _ _ hOd)), atI_nat (j := 2) rfl, o2, d2, rfl, hr2.same s02, sh2, lz, fun e2 ne2 => ?_⟩
    have s13 := same_new (o := .tup [V.str "name", .str d2.shown]) ne2
    have he2 : upd H12 e2 (.tup [V.str "name", .str d2.shown]) e2 = some (.tup [V.str "name", .str d2.shown]) := upd_same
    have he0 := s13 _ _ he0
    have he1 := s13 _ _ he1
    have s03 := s02.trans s13
    generalize upd H12 e2 (.tup [V.str "name", .str d2.shown]) = H13 at s03 he0 he1 he2 ⊢
    refine ⟨_, rfl, plcV o, plcD o, rfl, plc_rep, plc_shows lo, lz, fun e3 ne3 => ⟨lz, fun Du nDu => ?_⟩⟩
    have s14 := (same_new (o := .tup [V.str "changes", .str (plcD o).shown]) ne3).trans (same_new (o := .lst [V.ref e0, .ref e1, .ref e2, .ref e3]) nDu)
    have he3 := (same_new (o := .lst [V.ref e0, .ref e1, .ref e2, .ref e3]) nDu) _ _ (upd_same (H := H13) (a := e3) (o := .tup [V.str "changes", .str (plcD o).shown]))
    have hDu : upd (upd H13 e3 (.tup [V.str "changes", .str (plcD o).shown])) Du (.lst [V.ref e0, .ref e1, .ref e2, .ref e3]) Du = some (.lst [V.ref e0, .ref e1, .ref e2, .ref e3]) := upd_same
    have he0 := s14 _ _ he0
    have he1 := s14 _ _ he1
    have he2 := s14 _ _ he2
    have s04 := s03.trans s14
    show tSeq _ _ _ _ (upd (upd H13 e3 (.tup [V.str "changes", .str (plcD o).shown])) Du (.lst [V.ref e0, .ref e1, .ref e2, .ref e3]))
    generalize upd (upd H13 e3 (.tup [V.str "changes", .str (plcD o).shown])) Du (.lst [V.ref e0, .ref e1, .ref e2, .ref e3]) = H14 at s04 he0 he1 he2 he3 hDu
    have hOd14 := s04 _ _ hOd
    have hGd14 := s04 _ _ hGd10
    have thg := thg.same s04
    have hA14 := hA10.same s04
    have X14 := X10.trans (sx s04)
    clear s14 s03 s13 s02 s12 s11 hr1 hr2 hOd hGd10
    -- which are wrong
    refine ⟨4, rfl, by decide, by decide, fun D1 hD1 => lc_range (lo := 0) (n := 4) (fun i H' => ∃ bs : List Bool, bs.length = i ∧ H' D1 = some (.lst (bs.map V.bl)) ∧ Same H14 H') ⟨[], rfl, upd_same, same_new hD1⟩ ?_ ?_⟩
    · rintro i Ha hi ⟨bs, hl, hDa, sa⟩
      obtain ⟨m, hm, him⟩ := atI_tab (ns := ([1, 2, 4, 8] : List Int)) (r := 0 + (i : Int)) (by omega) (by show 0 + (i : Int) < 4; omega)
      have hm : m = 1 ∨ m = 2 ∨ m = 4 ∨ m = 8 := by
        simp only [List.mem_cons, List.not_mem_nil, or_false] at hm
        exact hm
      have hcd : CDiv (1 + b15) m := by
        unfold CDiv
        rcases hm with rfl | rfl | rfl | rfl <;> exact ⟨by decide, by decide⟩
      refine ⟨rfl, yes_it ⟨_, rfl, lz, fun l nl => ⟨_, rfl, l, _, _, .int m, rfl, rfl, .inl (.inl upd_same), him, _, _, rfl, rfl, hcd, _, _, rfl, rfl, (show (0 : Int) < 2 by decide), rfl, _, (same_new nl) _ _ hDa, ?_, ?_⟩⟩⟩
      · rw [List.length_map]
        exact small1000 (by omega)
      · exact ⟨bs ++ [decide (V.int ((1 + b15) / m % 2) = V.int 1)], by simp [hl], by rw [upd_same, List.map_append]; rfl, same_mut (sa.trans (same_new nl)) hD1⟩
    rintro H15 ⟨bs, hl, hWr, s15⟩
    obtain ⟨b0, b1, b2, b3, rfl⟩ : ∃ b0 b1 b2 b3, bs = [b0, b1, b2, b3] := by
      match bs, hl with
      | [b0, b1, b2, b3], _ => exact ⟨_, _, _, _, rfl⟩
    have hWr : H15 D1 = some (.lst [.bl b0, .bl b1, .bl b2, .bl b3]) := hWr
    have he0 := s15 _ _ he0
    have he1 := s15 _ _ he1
    have he2 := s15 _ _ he2
    have he3 := s15 _ _ he3
    have hDu := s15 _ _ hDu
    have hOd := s15 _ _ hOd14
    have hGd := s15 _ _ hGd14
    have thg := thg.same s15
    have hA15 := hA14.same s15
    have X15 := X14.trans (sx s15)
    clear s15 hOd14 hGd14 hA14 X14
    -- what is handed in
    refine ⟨4, rfl, by decide, by decide, fun D2 hD2 => lc_range (lo := 0) (n := 4) (fun i H' => H' D2 = some (.lst (([selV b0 o0 (.ref p), selV b1 o1 (.str z1), selV b2 o2 (.str z2), selV b3 v (.ref S)]).take i)) ∧ Same H15 H') ⟨upd_same, same_new hD2⟩ ?_ ?_⟩
    · rintro i Ha hi ⟨hDa, sa⟩
      obtain ⟨b, oo, gg, e1, e2, e3, e4⟩ := sel_at (b0 := b0) (b1 := b1) (b2 := b2) (b3 := b3) (o0 := o0) (o1 := o1) (o2 := o2) (o3 := v) (g0 := .ref p) (g1 := .str z1) (g2 := .str z2) (g3 := .ref S) hi
      have ei : (0 : Int) + (i : Int) = (i : Int) := Int.zero_add _
      have fin : ∃ acc, Ha D2 = some (.lst acc) ∧ acc.length < sizeLine ∧ (upd Ha D2 (.lst (acc ++ [selV b oo gg])) D2 = some (.lst (([selV b0 o0 (.ref p), selV b1 o1 (.str z1), selV b2 o2 (.str z2), selV b3 v (.ref S)]).take (i + 1))) ∧ Same H15 (upd Ha D2 (.lst (acc ++ [selV b oo gg])))) :=
        ⟨_, hDa, by rw [List.length_take]; exact small1000 (by omega), by rw [upd_same, take_snoc e4], same_mut sa hD2⟩
      refine ⟨rfl, yes_it ⟨_, rfl, _, rfl, D1, _, _, .bl b, rfl, rfl, .inl (.inl (sa _ _ hWr)), by rw [ei]; exact atI_nat e1, b, rfl, ite_b (fun e => ?_) (fun e => ?_)⟩⟩
      · subst e
        exact ⟨_, rfl, _, rfl, Od, _, _, oo, rfl, rfl, .inl (.inl (sa _ _ hOd)), by rw [ei]; exact atI_nat e2, fin⟩
      · subst e
        exact ⟨_, rfl, _, rfl, Gd, _, _, gg, rfl, rfl, .inl (.inl (sa _ _ hGd)), by rw [ei]; exact atI_nat e3, fin⟩
    rintro H16 ⟨hAs, s16⟩
    have hAs : H16 D2 = some (.lst [selV b0 o0 (.ref p), selV b1 o1 (.str z1), selV b2 o2 (.str z2), selV b3 v (.ref S)]) := hAs
    have he0 := s16 _ _ he0
    have he1 := s16 _ _ he1
    have he2 := s16 _ _ he2
    have he3 := s16 _ _ he3
    have hDu := s16 _ _ hDu
    have hGd := s16 _ _ hGd
    have hWr := s16 _ _ hWr
    have thg := thg.same s16
    have hA16 := hA15.same s16
    have X16 := X15.trans (sx s16)
    clear s16 hOd hA15 X15 nOd hD1 hD2
    have tk3 := plc_tok lo
    -- the ways
    refine ⟨4, rfl, by decide, by decide, for_range (lo := 0) (n := 4) (fun i σ H' => (∃ y13 y14 y15 y16 y17, σ = [some (.ref a), some (.ref p), some (.ref L), some (.ref S), some (.ref Tn), some (.int (1 + b15)), some (.ref Gd), some v, some (plcV o), some (.ref Od), some (.ref Du), some (.ref D1), some (.ref D2), y13, y14, y15, y16, y17]) ∧ Same H16 H') ⟨⟨_, _, _, _, _, rfl⟩, Same.refl _⟩ ?_ ?_⟩
    · rintro i σ H17 hi ⟨⟨y13, y14, y15, y16, y17, rfl⟩, s17⟩
      obtain ⟨two, htwo⟩ : ∃ two : Bool, decide ((0 : Int) + (i : Int) < 2) = two := ⟨_, rfl⟩
      have he0 := s17 _ _ he0
      have he1 := s17 _ _ he1
      have he2 := s17 _ _ he2
      have he3 := s17 _ _ he3
      have hDu := s17 _ _ hDu
      have hWr := s17 _ _ hWr
      have hAs := s17 _ _ hAs
      have thg := thg.same s17
      refine st_join (fun σ' H' => ∃ Tk : Addr, H' Tk = some (.lst (takesV two)) ∧ Same H17 H' ∧ σ' = [some (.ref a), some (.ref p), some (.ref L), some (.ref S), some (.ref Tn), some (.int (1 + b15)), some (.ref Gd), some v, some (plcV o), some (.ref Od), some (.ref Du), some (.ref D1), some (.ref D2), some (.int (0 + (i : Int))), some (.ref Tk), y15, y16, y17]) ?_ (fun D' hn _ => ⟨_, rfl, _, _, rfl, rfl, _, rfl, ite_b (fun e => ⟨lz, fun Tk hTk => hn _ _ ⟨Tk, ?_, same_new hTk, rfl⟩⟩) (fun e => ⟨lz, fun Tk hTk => hn _ _ ⟨Tk, ?_, same_new hTk, rfl⟩⟩)⟩)
      case refine_2 =>
        have e : two = true := htwo.symm.trans e
        rw [e, upd_same]
        rfl
      case refine_3 =>
        have e : two = false := htwo.symm.trans e
        rw [e, upd_same]
        rfl
      rintro _ H18 ⟨Tk, hTk, s18, rfl⟩
      -- what is due
      refine ⟨_, rfl, Tk, rfl, ⟨_, .inl (.inl hTk)⟩, fun Dd hD => ?_⟩
      have hWr := s18 _ _ hWr
      have hDu := s18 _ _ hDu
      have tcase : ∀ x ∈ takesV two, x = .int 0 ∨ x = .int 1 ∨ x = .int 2 ∨ x = .int 3 := fun x hx => takes_mem hx
      refine lc_rel (walk_list (K := K) (a := Tk) (xs := takesV two)) hD (keepB b0 b1 b2 b3) (fun x y _ => y = dueV e0 e1 e2 e3 x) (fun H' s' => .inl (.inl (s' _ _ hTk))) (fun _ => rfl) ?_ ?_ (fun _ _ _ _ _ _ _ r => r) ?_ ?_
      · intro x H' hx s' Q' q'
        rcases tcase x hx with rfl | rfl | rfl | rfl
        · exact ⟨_, rfl, _, rfl, D1, _, _, .bl b0, rfl, rfl, .inl (.inl (s' _ _ hWr)), atI_nat (j := 0) rfl, b0, rfl, q'⟩
        · exact ⟨_, rfl, _, rfl, D1, _, _, .bl b1, rfl, rfl, .inl (.inl (s' _ _ hWr)), atI_nat (j := 1) rfl, b1, rfl, q'⟩
        · exact ⟨_, rfl, _, rfl, D1, _, _, .bl b2, rfl, rfl, .inl (.inl (s' _ _ hWr)), atI_nat (j := 2) rfl, b2, rfl, q'⟩
        · exact ⟨_, rfl, _, rfl, D1, _, _, .bl b3, rfl, rfl, .inl (.inl (s' _ _ hWr)), atI_nat (j := 3) rfl, b3, rfl, q'⟩
      · intro x H' hx _ s' Q' q'
        rcases tcase x hx with rfl | rfl | rfl | rfl
        · exact ⟨_, rfl, _, rfl, Du, _, _, .ref e0, rfl, rfl, .inl (.inl (s' _ _ hDu)), atI_nat (j := 0) rfl, q' _ H' (Same.refl H') rfl⟩
        · exact ⟨_, rfl, _, rfl, Du, _, _, .ref e1, rfl, rfl, .inl (.inl (s' _ _ hDu)), atI_nat (j := 1) rfl, q' _ H' (Same.refl H') rfl⟩
        · exact ⟨_, rfl, _, rfl, Du, _, _, .ref e2, rfl, rfl, .inl (.inl (s' _ _ hDu)), atI_nat (j := 2) rfl, q' _ H' (Same.refl H') rfl⟩
        · exact ⟨_, rfl, _, rfl, Du, _, _, .ref e3, rfl, rfl, .inl (.inl (s' _ _ hDu)), atI_nat (j := 3) rfl, q' _ H' (Same.refl H') rfl⟩
      · unfold takesV
        split <;> exact small1000 (by simp)
      intro zs H19 s19 hD19 hE
      have ez : zs = ((takesV two).filter (keepB b0 b1 b2 b3)).map (dueV e0 e1 e2 e3) := each_map hE
      subst ez
      have lt4 : ((takesV two).filter (keepB b0 b1 b2 b3)).length ≤ 4 := Nat.le_trans (List.length_filter_le _ _) (by unfold takesV; split <;> simp)
      refine ⟨lz, fun dt ndt => ⟨lz, fun tl ntl => ⟨Dd, tl, _, _, rfl, rfl, ((same_new ndt).trans (same_new ntl)) _ _ hD19, upd_same, lzl (by simp only [List.length_append, List.length_map, List.length_cons, List.length_nil]; omega), fun rr nrr => ?_⟩⟩⟩
      have s20 := ((same_new (o := .tup [V.str "told", .str ""]) ndt).trans (same_new (o := .lst [V.ref dt]) ntl)).trans (same_new (o := .lst (((takesV two).filter (keepB b0 b1 b2 b3)).map (dueV e0 e1 e2 e3) ++ [V.ref dt])) nrr)
      have hdt := ((same_new (o := .lst [V.ref dt]) ntl).trans (same_new (o := .lst (((takesV two).filter (keepB b0 b1 b2 b3)).map (dueV e0 e1 e2 e3) ++ [V.ref dt])) nrr)) _ _ (upd_same (H := H19) (a := dt) (o := .tup [V.str "told", .str ""]))
      have s1820 := s19.trans s20
      have s1720 := s18.trans s1820
      obtain ⟨dd, hat, hdd⟩ := due_head two b0 b1 b2 b3 (s1720 _ _ he0) (s1720 _ _ he1) (s1720 _ _ he2) (s1720 _ _ he3) hdt
      refine ⟨rr, _, 0, .ref dd, rfl, rfl, .inl (.inl upd_same), hat, ?_⟩
      have hAs := s1720 _ _ hAs
      have thg := thg.same s1720
      have sG := s17.trans s1720
      show tSeq _ _ _ _ (upd (upd (upd H19 dt (.tup [V.str "told", .str ""])) tl (.lst [V.ref dt])) rr (.lst (((takesV two).filter (keepB b0 b1 b2 b3)).map (dueV e0 e1 e2 e3) ++ [V.ref dt])))
      generalize upd (upd (upd H19 dt (.tup [V.str "told", .str ""])) tl (.lst [V.ref dt])) rr (.lst (((takesV two).filter (keepB b0 b1 b2 b3)).map (dueV e0 e1 e2 e3) ++ [V.ref dt])) = H20 at hdd hAs thg sG ⊢
      have askH : ∀ {H' : Hp}, Same H20 H' → AskR K C D H' (decide ((0 : Int) + (i : Int) < 2)) (selV b0 o0 (.ref p)) (selV b1 o1 (.str z1)) (selV b2 o2 (.str z2)) (selV b3 v (.ref S)) (dueS two b0 b1 b2 b3 d1.shown d2.shown (plcD o).shown).1 (dueS two b0 b1 b2 b3 d1.shown d2.shown (plcD o).shown).2 := fun {H'} s' => by
        rw [htwo]
        exact (thg.same s').ask KN iC iW two b0 b1 b2 b3
      have dl := due_tok (two := two) (b0 := b0) (b1 := b1) (b2 := b2) (b3 := b3) tk1 tk2 tk3
      generalize dueS two b0 b1 b2 b3 d1.shown d2.shown (plcD o).shown = due at hdd askH dl
      refine ⟨2, rfl, by decide, by decide, for_range (lo := 0) (n := 2) (fun j σ H' => (∃ y16 y17, σ = [some (.ref a), some (.ref p), some (.ref L), some (.ref S), some (.ref Tn), some (.int (1 + b15)), some (.ref Gd), some v, some (plcV o), some (.ref Od), some (.ref Du), some (.ref D1), some (.ref D2), some (.int (0 + (i : Int))), some (.ref Tk), some (.ref dd), y16, y17]) ∧ Same H20 H') ⟨⟨_, _, rfl⟩, Same.refl _⟩ ?_ ?_⟩
      · rintro j σ H21 hj ⟨⟨y16, y17, rfl⟩, s21⟩
        have hAs := s21 _ _ hAs
        refine ⟨_, rfl, _, rfl, D2, _, 0, _, rfl, rfl, .inl (.inl hAs), atI_nat (j := 0) rfl, _, rfl, D2, _, 1, _, rfl, rfl, .inl (.inl hAs), atI_nat (j := 1) rfl, _, rfl, D2, _, 2, _, rfl, rfl, .inl (.inl hAs), atI_nat (j := 2) rfl, _, rfl, D2, _, 3, _, rfl, rfl, .inl (.inl hAs), atI_nat (j := 3) rfl, 0 + (i : Int), _, _, _, _, due.1, due.2, rfl, askH s21, by omega, fun q' H22 s22 hq' => ?_⟩
        refine ⟨_, rfl, prD due.1 due.2, prD due.1 due.2, pr_dp hq', pr_dp (s22 _ _ (s21 _ _ hdd)), pr_shaped dl.1 dl.2, pr_shaped dl.1 dl.2, _, rfl, ?_⟩
        rw [pr_eqv]
        exact iteF ⟨⟨_, _, rfl⟩, s21.trans s22⟩
      · rintro σ H21 ⟨⟨y16, y17, rfl⟩, s21⟩
        exact ⟨⟨_, _, _, _, _, rfl⟩, sG.trans s21⟩
    · rintro σ H17 ⟨⟨y13, y14, y15, y16, y17, rfl⟩, s17⟩
      have hGd := s17 _ _ hGd
      have thg := thg.same s17
      have hA17 := hA16.same s17
      have X17 := X16.trans (sx s17)
      refine ⟨4, rfl, by decide, by decide, fun Dd hD => lc_range (lo := 0) (n := 4) (fun j H' => ∃ qs : List Addr, qs.length = j ∧ H' Dd = some (.lst (qs.map V.ref)) ∧ (∀ q ∈ qs, H' q = some (.tup [.str "told", .str ""])) ∧ Same H17 H') ⟨[], rfl, upd_same, fun q hq => (by cases hq), same_new hD⟩ ?_ ?_⟩
      · rintro j Ha hj ⟨qs, hl, hDa, hqs, sa⟩
        have hGa := sa _ _ hGd
        refine ⟨rfl, yes_it ⟨_, rfl, _, rfl, Gd, _, 0, _, rfl, rfl, .inl (.inl hGa), atI_nat (j := 0) rfl, _, rfl, Gd, _, 1, _, rfl, rfl, .inl (.inl hGa), atI_nat (j := 1) rfl, _, rfl, Gd, _, 2, _, rfl, rfl, .inl (.inl hGa), atI_nat (j := 2) rfl, _, rfl, 0 + (j : Int), .ref p, .str z1, .str z2, .ref S, "told", "", rfl, (thg.same sa).ask_good, by omega, fun p' Hb sb hb => ⟨_, sb _ _ hDa, ?_, ?_⟩⟩⟩
        · rw [List.length_map]
          exact small1000 (by omega)
        · refine ⟨qs ++ [p'], by rw [List.length_append, hl]; rfl, by rw [upd_same, List.map_append]; rfl, fun q hq => ?_, same_mut (sa.trans sb) hD⟩
          have nq : ∀ {q : Addr} {o : List V}, Hb q = some (.tup o) → q ≠ Dd := fun {q o} e z => by
            subst z
            rw [sb _ _ hDa] at e
            cases e
          rcases List.mem_append.mp hq with hq | hq
          · rw [upd_ne (nq (sb _ _ (hqs q hq)))]
            exact sb _ _ (hqs q hq)
          · rw [List.mem_singleton.mp hq, upd_ne (nq hb)]
            exact hb
      · rintro Hc ⟨qs, hl, hDc, hqs, sc⟩
        obtain ⟨q1, q2, q3, q4, eqs⟩ : ∃ q1 q2 q3 q4, qs = [q1, q2, q3, q4] := by
          match qs, hl with
          | [_, _, _, _], _ => exact ⟨_, _, _, _, rfl⟩
        subst eqs
        refine ⟨lz, fun u hu => ⟨lz, fun l nl => ⟨l, 4, _, rfl, rfl, upd_same, by decide, by decide, lz, fun rr nrr => ?_⟩⟩⟩
        have k := (same_new (o := .tup [V.str "told", .str ""]) hu).trans ((same_new (o := .lst [V.ref u]) nl).trans (same_new (o := .lst (List.replicate (4 : Int).toNat [V.ref u]).flatten) nrr))
        have hu' := ((same_new (o := .lst [V.ref u]) nl).trans (same_new (o := .lst (List.replicate (4 : Int).toNat [V.ref u]).flatten) nrr)) _ _ (upd_same (H := Hc) (a := u) (o := .tup [V.str "told", .str ""]))
        refine ⟨.list [prD "told" "", prD "told" "", prD "told" "", prD "told" ""], .list [prD "told" "", prD "told" "", prD "told" "", prD "told" ""], .lst (.inl (.inl (k _ _ hDc))) (.cons (pr_dp (k _ _ (hqs q1 (by simp)))) (.cons (pr_dp (k _ _ (hqs q2 (by simp)))) (.cons (pr_dp (k _ _ (hqs q3 (by simp)))) (.cons (pr_dp (k _ _ (hqs q4 (by simp)))) .nil)))), .lst (.inl (.inl upd_same)) (.cons (pr_dp hu') (.cons (pr_dp hu') (.cons (pr_dp hu') (.cons (pr_dp hu') .nil)))), four_shaped, four_shaped, ?_⟩
        rw [four_eqv]
        exact q _ (X17.trans (sx (sc.trans k))) (hA17.same (sc.trans k))
end
end Wl

/-! changes, no more than asked for. -/
namespace Wl
open PySem PySem.Spec PyProof.Rows L2
section
variable {P : Program} {w : World} {K : PySem.W.Frag} {mg : Str → Option Value} {base : Heap} {f : Addr} {fd : FuncData}
def spChg4 : Sp := fun vs H Q _ => ∃ (a : Addr) (m : Int), vs = [.ref a, .int m] ∧ PurseAt H a ∧ 0 ≤ m ∧ m ≤ 12 ∧ ∀ (S : Addr) (chs : List Chg) (H' : Hp), PurseAt H' a → SameX a H H' → ChAt H' S chs → OkCs chs → (chs.length : Int) ≤ m → Q (.ref S) H'
theorem ok_chg4 (F : Fun K "_law_changes" "_law_changes" sChanges f fd) (B : Bi mg) (hp : Has P w K mg base "_law_pick" 1 ["_law_purse_here", "_law_many"] spPick) : FnOk P w K mg base CX0 2 f fd ["_law_purse_here", "_law_most"] spChg4 := by
  refine F.ok scChanges (fun vs H Q E h => ?_) (fun cdv A outer s H vs Q E hr h => ?_)
  · obtain ⟨a, m, rfl, _⟩ := h
    rfl
  · obtain ⟨a, m, rfl, hA, m0, m12, q⟩ := h
    refine ⟨_, pss_cons (ps_set (i := 2) scChanges.nd rfl (.inl rfl) (pe_lst pa_nil))
      (pss_cons (ps_for PassesOwn.never rfl (pi_range1 (by rfl) B.range (pa_cons (pe_h hp hr (pa_cons (pv 0) (pa_cons (pe_op op_add (pv 1) pe_int) pa_nil))) pa_nil)) (pg_name (i := 3) scChanges.nd rfl (.inl rfl))
        (pss_cons (ps_par (i := 4) (j := 5) (by rfl) scChanges.nd rfl rfl (by decide) rfl rfl (pa_cons (pe_h hp hr (pa_cons (pv 0) (pa_cons pe_int pa_nil))) (pa_cons (pe_h hp hr (pa_cons (pv 0) (pa_cons pe_int pa_nil))) pa_nil)) (by rfl))
        (pss_cons (ps_set (i := 6) scChanges.nd rfl (.inl rfl) (pe_op op_mod (pe_op op_add (pe_op op_add (pv 4) pe_int) (pv 5)) pe_int))
        (pss_cons (ps_set (i := 7) scChanges.nd rfl (.inl rfl) (pe_ix ix_list (pe_lst (pa_cons pe_str (pa_cons pe_str (pa_cons pe_str (pa_cons pe_str pa_nil))))) (pe_h hp hr (pa_cons (pv 0) (pa_cons pe_int pa_nil))) (fun _ _ => rfl)))
        (pss_one (ps_expr (pe_bm PySem.F.plainAttrs_list PySem.F.slot_list_append PySem.F.type_list_append mt_append (pv 2) (pa_cons (pe_tup (pa_cons (pe_ix ix_str pe_str (pv 4) (fun _ _ => rfl)) (pa_cons (pe_ix ix_str pe_str (pv 6) (fun _ _ => rfl)) (pa_cons (pv 7) pa_nil)))) pa_nil))))))))
      (pss_one (ps_ret (pe_callTy call_tuple_of (by rfl) B.tuple (by decide +kernel) (pa_cons (pv 2) pa_nil))))), ?_⟩
    refine ⟨lz, fun R hR => ?_⟩
    have nRa : R ≠ a := hA.ne hR
    refine ⟨_, rfl, _, rfl, _, _, rfl, rfl, a, m + 1, rfl, hA.same (same_new hR), by omega, by omega, fun r0 H1 r00 r01 hA1 s1 n1 => ?_⟩
    have hR1 := s1 _ _ nRa upd_same
    refine ⟨r0, rfl, by omega, by omega, for_it (walk_range (lo := 0) (n := r0.toNat)) (fun i σ H' => (∃ y3 y4 y5 y6 y7, σ = [some (.ref a), some (.int m), some (.ref R), y3, y4, y5, y6, y7]) ∧ PurseAt H' a ∧ SameX a H H' ∧ ∃ (as : List Addr) (chs : List Chg), H' R = some (.lst (as.map V.ref)) ∧ Each (fun (p : Addr) (ch : Chg) => H' p = some (.tup (chV ch))) as chs ∧ chs.length = i ∧ ∀ ch ∈ chs, OkC ch)
      ⟨⟨_, _, _, _, _, rfl⟩, hA1, (sx (same_new hR)).trans s1, [], [], hR1, .nil, rfl, fun ch hc => by cases hc⟩ (fun _ _ _ _ _ => trivial) ?_ ?_⟩
    · rintro i x σ Hq H2 hi ⟨⟨y3, y4, y5, y6, y7, rfl⟩, hA2, s2, as, chs, hR2, hE2, hl2, ok2⟩ ⟨rfl, rfl⟩
      refine ⟨_, rfl, a, 5, rfl, hA2, by decide, by decide, fun u H3 u0 u1 hA3 s3 n3 => ⟨_, rfl, a, 4, rfl, hA3, by decide, by decide, fun v H4 v0 v1 hA4 s4 n4 => ⟨_, _, rfl, ?_⟩⟩⟩
      refine ⟨_, rfl, _, _, rfl, rfl, _, rfl, _, _, rfl, rfl, _, _, rfl, rfl, (show (0 : Int) < 5 by decide), ?_⟩
      refine ⟨lz, fun p hpn => ⟨_, rfl, a, 4, rfl, hA4.same (same_new hpn), by decide, by decide, fun t H5 t0 t1 hA5 s5 n5 => ?_⟩⟩
      have npa := hA4.ne hpn
      obtain ⟨zw, hzm, hzi⟩ := atI_strs (zs := ["first", "last", "any", "any"]) t0 t1
      obtain ⟨wh, rfl⟩ : ∃ wh, zw = whS wh := by
        simp only [List.mem_cons, List.not_mem_nil, or_false] at hzm
        rcases hzm with rfl | rfl | rfl | rfl
        · exact ⟨.first, rfl⟩
        · exact ⟨.last, rfl⟩
        · exact ⟨.any, rfl⟩
        · exact ⟨.any, rfl⟩
      refine ⟨p, _, t, .str (whS wh), rfl, rfl, .inl (.inl (s5 _ _ npa upd_same)), hzi, ?_⟩
      have s25 : SameX a H2 H5 := (s3.trans s4).trans ((sx (same_new hpn)).trans s5)
      have hR5 := s25 _ _ nRa hR2
      obtain ⟨ya, hya⟩ := hA2.lst
      have hE5 := each_X hE2 hya s25
      have b0 : 0 ≤ (u + 1 + v) % 5 := Int.emod_nonneg _ (by decide)
      have b1 : (u + 1 + v) % 5 < 5 := Int.emod_lt_of_pos _ (by decide)
      refine ⟨_, rfl, .inl ⟨rfl, _, .inl (.inl hR5)⟩, ?_⟩
      refine ⟨_, rfl, ⟨_, u, _, rfl, rfl, lz, abcde_at u0 u1, _, rfl, _, _, _, rfl, rfl, lz, abcde_at b0 b1, _, rfl, lz, fun T hT => ?_⟩⟩
      refine ⟨R, _, _, rfl, rfl, (same_new hT) _ _ hR5, ?_, ⟨_, _, _, _, _, rfl⟩, ?_, ?_, as ++ [T], chs ++ [(97 + u.toNat, 97 + ((u + 1 + v) % 5).toNat, wh)], ?_, ?_, ?_, ?_⟩
      · rw [List.length_map, hE2.length]
        exact small1000 (by omega)
      · have hA6 := hA5.same (same_new (o := .tup [sgV (97 + u.toNat), sgV (97 + ((u + 1 + v) % 5).toNat), .str (whS wh)]) hT)
        obtain ⟨x0, x1, x2, hx, hx1⟩ := hA6
        exact ⟨x0, x1, x2, by rw [upd_ne nRa.symm]; exact hx, hx1⟩
      · exact sameX_mut ((s2.trans s25).trans (sx (same_new hT))) hR
      · rw [upd_same, List.map_append]
        rfl
      · have nTR : T ≠ R := (ne_of_none hR5 hT).symm
        refine Each.append (hE5.mono fun p ch e => ?_) (.cons ?_ .nil)
        · rw [upd_ne (ne_of e hR5 (by intro z; cases z))]
          exact (same_new hT) _ _ e
        · rw [upd_ne nTR, upd_same]
          rfl
      · rw [List.length_append, hl2]
        rfl
      · intro ch hch
        rcases List.mem_append.mp hch with hch | hch
        · exact ok2 ch hch
        · rw [List.mem_singleton] at hch
          subst hch
          refine ⟨?_, ?_, ?_⟩
          · show 97 ≤ 97 + u.toNat ∧ 97 + u.toNat ≤ 122
            omega
          · show 97 ≤ 97 + ((u + 1 + v) % 5).toNat ∧ 97 + ((u + 1 + v) % 5).toNat ≤ 122
            omega
          · show 97 + u.toNat ≠ 97 + ((u + 1 + v) % 5).toNat
            omega
    · rintro σ H2 ⟨⟨y3, y4, y5, y6, y7, rfl⟩, hA2, s2, as, chs, hR2, hE2, hl2, ok2⟩
      refine ⟨_, rfl, R, _, rfl, .inl ⟨.inl (.inl hR2), fun l hl => ?_⟩⟩
      refine q l chs _ (hA2.same (same_new hl)) (s2.trans (sx (same_new hl))) ⟨as, upd_same, hE2.mono fun p ch e => (same_new hl) _ _ e⟩ ⟨?_, ok2⟩ ?_
      · omega
      · omega
end
end Wl





namespace Wl
open PySem PySem.Spec PyProof.Rows L2
abbrev sLaw : Stmt := topS 96
abbrev nLaw : List Str := ["_law_script", "_law_k", "_law_purse_here", "_law_laid", "_law_lines", "_law_swaps", "_law_held", "_law_turn"]
theorem scLaw : FnScope nLaw ["_law_script"] (defScope sLaw) := ⟨rfl, rfl, rfl, by decide +kernel, rfl, by decide +kernel, by decide +kernel⟩
def spLaw (K : PySem.W.Frag) : Sp := fun vs H Q _ => ∃ (a : Addr) (ns : List Int), vs = [.ref a] ∧ SqL K H a (ns.map V.int) ∧ ns.length ≤ 63 ∧ ∀ H', Q (.bl true) H'
section
variable {P : Program} {w : World} {K : PySem.W.Frag} {mg : Str → Option Value} {base : Heap} {f C D : Addr} {fd : FuncData}
theorem ok_law (F : Fun K "law" "law" sLaw f fd) (B : Bi mg) (TG : TxtG K mg D) (hTl : HasTl P w K mg base C D)
    (hCell : Has P w K mg base "_law_cell" 1 ["_law_script", "_law_k"] (spCell K)) (hPurse : Has P w K mg base "_law_purse" 1 ["_law_cell_here"] spPurse) (hChg : Has P w K mg base "_law_changes" 2 ["_law_purse_here", "_law_most"] spChg4) (hLand : Has P w K mg base "_law_land" 4 ["_law_purse_here", "_law_most"] spLand) (hNames : Has P w K mg base "_law_names" 1 ["_law_laid"] spNames)
    (hTels : Has P w K mg base "_law_tellings" 4 psTels spTels) (hTo : Has P w K mg base "_law_gathered" 6 ["_law_laid", "_law_lines"] (spTome C D)) (hR : HasQ P w K mg base "_law_right" 14 psRight (spRight C D)) : FnOkG P w K mg base 15 f fd ["_law_script"] (spLaw K) := by
  obtain ⟨fT, fdT, FT, mT, FnT⟩ := hTl
  obtain ⟨dsT, vT, bT⟩ := tell_b1 FnT
  refine okG F scLaw (fun vs H Q E h => ?_) (fun cdv A outer s H vs Q E hgd hr h => ?_)
  · obtain ⟨a, ns, rfl, _⟩ := h
    rfl
  · obtain ⟨a, ns, rfl, hSc, hlen, q⟩ := h
    refine ⟨_, pss_cons (ps_for PassesOwn.never rfl (pi_range1 rfl B.range (pa_cons (pe_callB (call_max2 rfl) (by rfl) B.max (by decide +kernel) (pa_cons pe_int (pa_cons (pe_callB (call_min2 rfl) (by rfl) B.min (by decide +kernel) (pa_cons (pe_callB call_len_seq (by rfl) B.len PySem.boot_len (pa_cons (pv 0) pa_nil)) (pa_cons pe_int pa_nil))) pa_nil))) pa_nil)) (pg_name (i := 1) scLaw.nd rfl (.inl rfl))
        (pss_cons (ps_set (i := 2) scLaw.nd rfl (.inr rfl) (pe_h hPurse hr (pa_cons (pe_h hCell hr (pa_cons (pv 0) (pa_cons (pv 1) pa_nil))) pa_nil)))
        (pss_cons (ps_set (i := 3) scLaw.nd rfl (.inr rfl) (pe_h hLand hr (pa_cons (pv 2) (pa_cons pe_int pa_nil))))
        (pss_cons (ps_asg (pe_tup (pa_cons (pe_h hTels hr (pa_cons (pv 2) (pa_cons (pe_h hNames hr (pa_cons (pv 3) pa_nil)) (pa_cons pe_int pa_nil)))) (pa_cons (pe_h hChg hr (pa_cons (pv 2) (pa_cons pe_int pa_nil))) pa_nil))) (pg_tup rfl (pgs_cons (pg_name (i := 4) scLaw.nd rfl (.inl rfl)) (pgs_cons (pg_name (i := 5) scLaw.nd rfl (.inr rfl)) pgs_nil))))
        (pss_cons (ps_set (i := 6) scLaw.nd rfl (.inr rfl) (pe_h hTo hr (pa_cons (pv 3) (pa_cons (pv 4) pa_nil))))
        (pss_one (ps_if (PW.pt (pw_or (pt_not (pt_val (pe_callB (cr_all rfl) (by rfl) B.all (by decide +kernel) (pa_cons (pe_lc (own := [("_law_turn", 7)]) (g := gName 7) (tt := tYes) (te := tCall (spRight C D) [] E0 (tCons (tVar 2) (tCons (tVar 6) (tCons (tVar 3) (tCons (tVar 5) tNil))))) rfl scLaw.nd (pi_range1 (by rfl) B.range (pa_cons pe_int pa_nil)) (blkOk_by (N := nLaw) (sc := defScope sLaw) (by decide +kernel)) (fun _ _ _ _ _ => pg_name (i := 7) scLaw.nd rfl (.inl rfl)) (fun _ _ _ _ _ => pts_nil)
            (fun _ _ _ _ _ => pe_hQ hR hgd hr (pa_cons (pv 2) (pa_cons (pv 6) (pa_cons (pv 3) (pa_cons (pv 5) pa_nil)))))) pa_nil)))) (pw_or1 (pt_cmpR (op_neD hr.units) (pe_meth0 (pv 6) TG.cl mT FT (hr.mono (by decide)) bT vT pass0) (pv 4) (nomark _))))) (pss_one (ps_ret pe_bl)) pss_nil)))))))
      (pss_one (ps_ret pe_bl)), ?_⟩
    have hln : ((ns.map V.int).length : Int) = ns.length := by rw [List.length_map]
    refine ⟨_, rfl, a, _, rfl, .inl hSc, _, _, rfl, _, _, rfl, _, rfl, ?_, ?_, ?_⟩
    · rw [hln]; split <;> split <;> omega
    · rw [hln]; split <;> split <;> omega
    rw [hln]
    refine for_range (lo := 0) (n := _) (fun i σ H' => (∃ y1 y2 y3 y4 y5 y6 y7, σ = [some (.ref a), y1, y2, y3, y4, y5, y6, y7]) ∧ Same H H') ⟨⟨_, _, _, _, _, _, _, rfl⟩, Same.refl H⟩ ?_ ?_
    · rintro i σ H1 hi ⟨⟨y1, y2, y3, y4, y5, y6, y7, rfl⟩, s1⟩
      have hi5 : i < 6 := by
        have : ∀ n : Int, (if (if (4 : Int) < n then 4 else n) > 2 then (if (4 : Int) < n then 4 else n) else 2).toNat ≤ 4 := fun n => by
          split <;> split <;> omega
        exact Nat.lt_of_lt_of_le hi (Nat.le_trans (this _) (by decide))
      refine ⟨_, rfl, _, rfl, a, ns, 0 + i, rfl, s1.seq hSc, by omega, by omega, fun v H2 s2 => ⟨v, rfl, fun pu H3 hpu s3 hP3 => ?_⟩⟩
      have hpu0 : H pu = none := (s1.trans s2).free hpu
      have sP3 : Same H H3 := (s1.trans s2).trans s3
      refine ⟨_, rfl, pu, 3, rfl, hP3, by decide, by decide, fun L g wd H4 gd hL4 hP4 x4 => ?_⟩
      have sP4 : Same H H4 := same_x sP3 x4 hpu0
      obtain ⟨pu4, hpu4⟩ := hP4.lst
      have nmne : sortS (names g) ≠ [] := fun e => by
        obtain ⟨z, hz⟩ := List.exists_mem_of_ne_nil _ gd.ne
        have := mem_sortS.mpr hz
        rw [e] at this
        exact (List.not_mem_nil this).elim
      have nm36 : (sortS (names g)).length ≤ 36 := by
        rw [sortS_len]
        exact gd.len
      have nmwd : ∀ z ∈ sortS (names g), IsWd z := fun z hz => gd.wd z (mem_sortS.mp hz)
      -- tellings, changes
      refine ⟨_, rfl, _, rfl, L, g, wd, rfl, hL4, gd.sized, fun Tn H5 nTn s5 hTn => ?_⟩
      have hP5 := hP4.same s5
      have nTp : Tn ≠ pu := hP4.ne nTn
      refine ⟨pu, Tn, 8, _, rfl, hP5, hTn, nTp, nmne, nm36, nmwd, by decide, fun l as ts H6 hP6 x6 nl hl6 hT6 hok hvs hnd hlen2 => ?_⟩
      have nlp : l ≠ pu := hP5.ne nl
      have hx6 : SameX pu H4 H6 := (sx s5).trans x6
      refine ⟨_, rfl, pu, 4, rfl, hP6, by decide, by decide, fun S chs H7 hP7 x7 hS7 okc hc4 => ⟨lz, fun t ht => ?_⟩⟩
      refine ⟨t, _, rfl, .inl (.inl upd_same), rfl, _, _, rfl, _, _, rfl, rfl, ?_⟩
      have k8 := same_new (o := .tup [V.ref l, V.ref S]) ht
      obtain ⟨pu6, hpu6⟩ := hP6.lst
      have x48 : SameX pu H4 (upd H7 t (.tup [V.ref l, V.ref S])) := (hx6.trans x7).trans (sx k8)
      have hL8 := hL4.keep (tk_x x48 hpu4)
      have hl8 := k8 _ _ (x7 _ _ nlp hl6)
      have hT8 := (hT6.keep (tk_x x7 hpu6)).keep (tk_same k8)
      have hS8 := hS7.same k8
      have hP8 := hP7.same k8
      have sP8 : Same H (upd H7 t (.tup [V.ref l, V.ref S])) := same_x sP4 x48 hpu0
      show tSeq _ _ _ _ (upd H7 t (.tup [V.ref l, V.ref S]))
      generalize upd H7 t (.tup [V.ref l, V.ref S]) = H8 at hL8 hl8 hT8 hS8 hP8 sP8
      clear x48 k8 hx6 x6 x7 hT6 hl6 hS7
      -- a Gathering
      refine ⟨_, rfl, _, rfl, L, l, g, wd, as, ts, rfl, hL8, gd, hl8, hT8, hok, fun t ht => mem_sortS.mp (hvs t ht), hnd, by omega, fun p r H9 s9 hG9 ets eg _ htd hdd => ?_⟩
      subst ets
      subst eg
      have ntp : r.td ≠ pu := hP8.ne htd
      have ndp : r.dd ≠ pu := hP8.ne hdd
      have hP9 := hP8.same s9
      have hL9 := hL8.keep (tk_same s9)
      have hS9 := hS8.same s9
      have hl9 := s9 _ _ hl8
      have hT9 := hT8.keep (tk_same s9)
      have sP9 := sP8.trans s9
      obtain ⟨pu9, hpu9⟩ := hP9.lst
      refine ⟨5, rfl, by decide, by decide, fun Dd hDd => lc_range (lo := 0) (n := 5) (fun j H' => H' Dd = some (.lst ((List.replicate j true).map V.bl)) ∧ PurseAt H' pu ∧ SameX pu H9 H') ⟨upd_same, hP9.same (same_new hDd), sx (same_new hDd)⟩ ?_ ?_⟩
      · rintro j Ha hj ⟨hDa, hPa, xa⟩
        have nDd : Dd ≠ pu := hP9.ne hDd
        refine ⟨rfl, yes_it ⟨_, rfl, _, rfl, _, rfl, _, rfl, pu, p, L, S, r, wd, chs, rfl, hPa, hG9.px hP9 xa ntp ndp, hok, hlen2, hL9.keep (tk_x xa hpu9), gd, hS9.X hpu9 xa, okc, by omega, ntp, ndp, fun Hb xb hPb => ⟨_, xb _ _ nDd hDa, ?_, ?_, ?_, sameX_mut (xa.trans xb) hDd⟩⟩⟩
        · rw [List.length_map, List.length_replicate]
          exact small1000 (by omega)
        · rw [upd_same, List.replicate_succ', List.map_append]
          rfl
        · obtain ⟨x0, x1, x2, hx, hx1⟩ := hPb
          exact ⟨x0, x1, x2, by rw [upd_ne nDd.symm]; exact hx, hx1⟩
      · rintro H12 ⟨hD12, hP12, x12⟩
        have hG12 := hG9.px hP9 x12 ntp ndp
        have hl12 := x12 _ _ nlp hl9
        have hT12 := hT9.keep (tk_x x12 hpu9)
        have sP12 : Same H H12 := same_x sP9 x12 hpu0
        obtain ⟨dg, hg⟩ := hG12.at_
        refine ⟨Dd, List.replicate 5 true, rfl, .inl (.inl hD12), true, rfl, iteF ⟨_, rfl, p, dg, _, rfl, hg, gf_no _ _ _, p, r, rfl, hG12, fun l2 hl2 => ?_⟩⟩
        have s19 := same_new (o := .lst (r.as.map V.ref)) hl2
        have hl19 : upd H12 l2 (.lst (r.as.map V.ref)) l2 = some (.lst (r.as.map V.ref)) := upd_same
        generalize upd H12 l2 (.lst (r.as.map V.ref)) = H19 at s19 hl19 ⊢
        refine ⟨_, rfl, .list (r.ts.map telD), .list (r.ts.map telD), .lst (.inl (.inl hl19)) (dp_tels (hG12.tels.keep (tk_same s19))), .lst (.inl (.inl (s19 _ _ hl12))) (dp_tels (hT12.keep (tk_same s19))), shaped_tels hok, shaped_tels hok, _, rfl, ?_⟩
        rw [SeqAt.eqv_refl (.list (r.ts.map telD)) (by simp only [PyData.canLay0]; exact lay_tels hok)]
        exact iteF ⟨⟨_, _, _, _, _, _, _, rfl⟩, sP12.trans s19⟩
    · rintro σ H1 ⟨⟨y1, y2, y3, y4, y5, y6, y7, rfl⟩, s1⟩
      exact q H1
end
end Wl

namespace Wl
open PySem PySem.Spec PyProof.Rows L2
/-- an exception's class that is not followed -/
def isExc (o : Obj) : Bool := match o.data with
  | .cls cd => (cd.mro.any fun v => match v with | .type n => n == "Exception" | _ => false) && !(decide (cd.name = "NoChanges") || decide (cd.name = "NoName") || decide (cd.name = "NoGathering") || decide (cd.name = "WordError") || decide (cd.name = "LandError"))
  | _ => false
/-- what these objects name, exceptions left out -/
def refsL (g : Addr → Option Obj) (as : List Addr) : List Addr := as.flatMap fun a => match g a with
  | some o => if isExc o then [] else He.refsD o
  | none => []
def layK (g : Addr → Option Obj) : Nat → List Addr → List Addr
  | 0, l => l
  | n + 1, l => l ++ layK g n (refsL g l)
def frK (g : Addr → Option Obj) : PySem.W.Frag := He.frG g (layK g 4 [mainGlobals])
/-- the hook of facts over such a frame, with one more test of the frame -/
def hookK (fa : List He.Fa) (fn : List He.DefD) (ex : PySem.W.Frag → Bool) : PySem.W.Hook where
  α := He.AlD × Bool
  obs := fun s => (He.obsD fa fn (frK s.heap.get?), ex (frK s.heap.get?))
  val := fun _ => (He.valD fn, true)
  says := fun _ h => ∃ K : PySem.W.Frag, K.In h ∧ He.SaysD fa fn K ∧ ex K = true
  of := fun _ _ e => ⟨_, He.frG_in, congrArg (fun z : He.AlD × Bool => z.1) e, congrArg (fun z : He.AlD × Bool => z.2) e⟩
  keeps := fun _ _ _ ⟨K, hK, c⟩ k => ⟨K, PySem.W.Frag.In.keeps hK k, c⟩
theorem map3 {α β γ δ : Type} {o : Option α} {f : α → β} {g : α → γ} {h : α → δ} {a : β} {b : γ} {c : δ} (h1 : o.map (fun s => (f s, g s)) = some (a, b)) (h2 : o.map h = some c) : o.map (fun s => (f s, g s, h s)) = some (a, b, c) := by
  cases o with
  | none => cases h1
  | some x =>
    have e1 := Option.some.inj h1
    have e2 := Option.some.inj h2
    show some (f x, g x, h x) = _
    rw [(Prod.mk.inj e1).1, (Prod.mk.inj e1).2, e2]
/-- what else a class says: isinstance -/
def exC (K : PySem.W.Frag) (x : Str) : Bool :=
  He.eqO (PySem.W.findIn K (.ref (He.ga K x)) "__class__") (some (some (.builtin "object.__class__"))) && (decide (PySem.W.mroIn K (He.ga K x) (.type "object") = some true) && decide (PySem.W.kitOne K (.ref (He.ga K x)) (.ref (He.ga K x)) = some true))
def exT0 (K : PySem.W.Frag) : Bool :=
  He.eqO (PySem.W.specialIn K (.builtin "object.__class__") "__get__") (some (some (.builtin "getset_descriptor.__get__"))) && (decide (PySem.W.takesIn K (.builtin "object.__class__") = some true) && (exC K "Land" && (exC K "Gathering" && (exC K "WordMap" &&
  (He.eqO (PySem.W.findIn K (.ref (He.ga K "Land")) "__ne__") (some (some (.builtin "object.__ne__"))) && He.tupB K "WHERES" [.str "first", .str "last", .str "any"])))))
def kitNoB (K : PySem.W.Frag) : Bool := decide (PySem.W.kitOne K (.type "NoneType") (.ref (He.ga K "Gathering")) = some false) && (decide (PySem.W.kitOne K (.type "bool") (.ref (He.ga K "Gathering")) = some false) && (decide (PySem.W.kitOne K (.type "int") (.ref (He.ga K "Gathering")) = some false) && (decide (PySem.W.kitOne K (.type "str") (.ref (He.ga K "Gathering")) = some false) && (decide (PySem.W.kitOne K (.type "list") (.ref (He.ga K "Gathering")) = some false) && (decide (PySem.W.kitOne K (.type "tuple") (.ref (He.ga K "Gathering")) = some false) && (decide (PySem.W.kitOne K (.type "dict") (.ref (He.ga K "Gathering")) = some false) && (decide (PySem.W.kitOne K (.ref (He.ga K "Land")) (.ref (He.ga K "Gathering")) = some false) && decide (PySem.W.kitOne K (.ref (He.ga K "WordMap")) (.ref (He.ga K "Gathering")) = some false))))))))
def exX (K : PySem.W.Frag) : Bool := sortB K && (errOf K 1 "place" && (errOf K 10 "name" && (errNOf K 11 && kitNoB K)))
def dOf (x : Str) (st : Stmt) (ds : List He.Dv) : He.DefD := ⟨(x, none), x, x, defArgs st, defBody st, defScope st, ds, []⟩
def dMet (cl m q : Str) (st : Stmt) (ds : List He.Dv) : He.DefD := ⟨(cl, some m), m, q, defArgs st, defBody st, defScope st, ds, []⟩
def exT (K : PySem.W.Frag) : Bool := exT0 K && exX K
def fn : List He.DefD := dMet "NoChanges" "__init__" "NoChanges.__init__" (inClass (topS 6) 0) [] :: dMet "NoName" "__init__" "NoName.__init__" (inClass (topS 15) 0) [] :: dOf "is_word" wIsWord [] :: dOf "is_whole" sIsWhole [] :: dOf "is_number_from" sIsNum [] :: dOf "check_word" wCheck [] :: dOf "is_letter" wIsLetter [] :: dOf "is_change" wIsChange [] :: dOf "is_tuple_up_to" wTupTo [] :: dOf "checked_changes" wChecked [] :: dOf "reaches" wReaches [] :: dOf "turned_letters" wTurned [] :: dOf "steps_toward" wSteps [] :: dOf "letters_at" wLetAt [] :: dOf "meaning" wMean [.non] :: dOf "are_rows" sAreRows [] :: dOf "wrong_spot" sWrong [] :: dOf "spots_in" sSpotsIn [] :: dOf "checked_spots" sSpots [] :: dMet "Land" "__init__" "Land.__init__" sInit [] :: dMet "Land" "names" "Land.names" sLNames [] :: dMet "Land" "check_name" "Land.check_name" sCheck [] :: dMet "Land" "__str__" "Land.__str__" sStr [] :: dOf "check_age" sCheckA [] :: dOf "check_sure" sCheckS [] :: dOf "key_of" sKeyOf [] :: dOf "telling_row" sTelRow [] :: dMet "Gathering" "__init__" "Gathering.__init__" sGInit [] :: dMet "Gathering" "place_of" "Gathering.place_of" sGPlace [] :: dMet "Gathering" "put" "Gathering.put" sGPut [.str "self", .bl true] :: dMet "Gathering" "tellings" "Gathering.tellings" sGTell [.non] :: dMet "Gathering" "things" "Gathering.things" sGThings [] :: dMet "Gathering" "__str__" "Gathering.__str__" sGStr [] :: dOf "check_gathering" sCheckG [] :: dOf "summed_up" sSum [] :: dOf "by_village" sByV [] :: dMet "WordMap" "__init__" "WordMap.__init__" sMInit [.non, .int 0, .int 120] :: dOf "both_asked" sBoth [] :: dOf "do_part" sDoPart [] :: dOf "all_maps" sAllMaps [] :: dOf "share_apart" sShare [] :: dOf "apart" sApart [.non] :: dOf "shares_around" sAround [] :: dOf "is_less" sIsLess [] :: dOf "nearest" sNearest [.non] :: dOf "farthest" sFarthest [.non] :: dOf "_law_cell" sCell [] :: dOf "_law_purse" sPurse [] :: dOf "_law_pick" sPick [] :: dOf "_law_menu" sMenu [] :: dOf "_law_word" sWord [] :: dOf "_law_fresh" sFresh [] :: dOf "_law_changes" sChanges [] :: dOf "_law_land" sLand [] :: dOf "_law_names" sNames [] :: dOf "_law_tellings" sTels [] :: dOf "_law_gathered" sTome [] :: dOf "_law_sort" sSort [] :: dOf "_law_no_gathering" sNoG [] :: dOf "_law_no_town" sNoT [] :: dOf "_law_no_changes" sNoC [] :: dOf "_law_tried" sTried [] :: dOf "_law_right" sRight [] :: dOf "law" sLaw [] :: []
def fa : List He.Fa := .glo "NoChanges" :: .meth "NoChanges" "__init__" :: .glo "NoName" :: .meth "NoName" "__init__" :: .glo "is_word" :: .glo "is_whole" :: .glo "is_number_from" :: .glo "check_word" :: .glo "is_letter" :: .glo "is_change" :: .glo "is_tuple_up_to" :: .glo "checked_changes" :: .glo "reaches" :: .glo "turned_letters" :: .glo "steps_toward" :: .glo "letters_at" :: .glo "meaning" :: .glo "are_rows" :: .glo "wrong_spot" :: .glo "spots_in" :: .glo "checked_spots" :: .glo "Land" :: .meth "Land" "names" :: .meth "Land" "check_name" :: .meth "Land" "__str__" :: .glo "check_age" :: .glo "check_sure" :: .glo "key_of" :: .glo "telling_row" :: .glo "Gathering" :: .meth "Gathering" "place_of" :: .meth "Gathering" "put" :: .meth "Gathering" "tellings" :: .meth "Gathering" "things" :: .meth "Gathering" "__str__" :: .glo "check_gathering" :: .glo "summed_up" :: .glo "by_village" :: .glo "WordMap" :: .glo "both_asked" :: .glo "do_part" :: .glo "all_maps" :: .glo "share_apart" :: .glo "apart" :: .glo "shares_around" :: .glo "is_less" :: .glo "nearest" :: .glo "farthest" :: .glo "_law_cell" :: .glo "_law_purse" :: .glo "_law_pick" :: .glo "_law_menu" :: .glo "_law_word" :: .glo "_law_fresh" :: .glo "_law_changes" :: .glo "_law_land" :: .glo "_law_names" :: .glo "_law_tellings" :: .glo "_law_gathered" :: .glo "_law_sort" :: .glo "_law_no_gathering" :: .glo "_law_no_town" :: .glo "_law_no_changes" :: .glo "_law_tried" :: .glo "_law_right" :: .glo "law" :: .str "LETTERS" "abcdefghijklmnopqrstuvwxyz" :: .int "LONGEST_WORD" 8 :: .int "MOST_CHANGES" 12 :: .int "MOST_ROWS" 6 :: .int "MOST_COLUMNS" 6 :: .int "OLDEST" 120 :: .int "MOST_TELLINGS" 200 :: .str "DOT" "." :: .str "DOUBT" "?" :: .str "LAKE" "-" :: .glo "WHERES" :: .free "bool" :: .free "any" :: .free "repr" :: .glo "NoGathering" :: .cls "Land" :: .mkr "Land" :: .noat "Land" "spots" :: .noat "Land" "rows" :: .cls "Gathering" :: .mkr "Gathering" :: .noat "Gathering" "land" :: .noat "Gathering" "told" :: .noat "Gathering" "deeds" :: .cls "WordMap" :: .mkr "WordMap" :: .noat "WordMap" "land" :: .noat "WordMap" "thing" :: .noat "WordMap" "changes" :: .noat "WordMap" "sure_words" :: .noat "WordMap" "doubtful_words" :: .noat "WordMap" "said" :: .exm "NoGathering" "LandError" true :: .exm "NoName" "LandError" true :: .exm "NoChanges" "LandError" false :: .exm "NoChanges" "WordError" true :: .free "len" :: .free "range" :: .free "isinstance" :: .free "tuple" :: .free "list" :: .free "sorted" :: .free "all" :: .free "int" :: .free "max" :: .free "min" :: .free "enumerate" :: .free "str" :: []
abbrev R : PySem.W.OpenRow := PySem.W.OpenLaw.row PySem.Challenge.rw_wordlines_k41_near_refused
abbrev hk : PySem.W.Hook := hookK fa fn exT
def ob (s : PySem.W.SharedT) : He.AlD × Bool := (He.obsD fa fn (frK (HandSHeadRun.getT s)), exT (frK (HandSHeadRun.getT s)))
theorem ob_eq (s : PySem.W.SharedT) : ob s = hk.obs s.abs := by
  have e : HandSHeadRun.getT s = s.abs.heap.get? := funext (HandSHeadRun.getT_eq s)
  unfold ob
  rw [e]
  rfl
def others : List PySem.Str := "_wall" :: "WordError" :: "LandError" :: "JoinError" :: "NoWord" :: "NoChanges" :: "NoText" :: "NoAge" :: "NoSure" :: "NoRings" :: "NoThings" :: "NoCount" :: "NoRow" :: "NoLand" :: "NoName" :: "NoGathering" :: "NoMap" :: "NoTelling" :: "NoBack" :: "Told" :: "Full" :: "Clash" :: "TooMany" :: "LETTERS" :: "WHERES" :: "LONGEST_WORD" :: "MOST_CHANGES" :: "is_whole" :: "is_number_from" :: "is_word" :: "check_word" :: "is_letter" :: "is_change" :: "is_tuple_up_to" :: "checked_changes" :: "reaches" :: "turned_letters" :: "steps_toward" :: "letters_at" :: "meaning" :: "MOST_ROWS" :: "MOST_COLUMNS" :: "LAKE" :: "are_rows" :: "wrong_spot" :: "spots_in" :: "checked_spots" :: "Land" :: "MOST_TELLINGS" :: "OLDEST" :: "DOT" :: "DOUBT" :: "check_age" :: "check_sure" :: "key_of" :: "telling_row" :: "Gathering" :: "check_gathering" :: "NOT_ASKED" :: "summed_up" :: "by_village" :: "WordMap" :: "both_asked" :: "do_part" :: "all_maps" :: "share_apart" :: "apart" :: "shares_around" :: "is_less" :: "nearest" :: "farthest" :: "_law_cell" :: "_law_purse" :: "_law_pick" :: "_law_menu" :: "_law_word" :: "_law_fresh" :: "_law_changes" :: "_law_land" :: "_law_names" :: "_law_tellings" :: "_law_gathered" :: "_law_sort" :: "_law_no_gathering" :: "_law_no_town" :: "_law_no_changes" :: "_law_tried" :: "_law_right" :: []
theorem facts {P : Program} {w : World} {K : PySem.W.Frag} {h : Heap} {mg : Str → Option Value} {f : Addr} (X : K.In h) (G : h.Ns mainGlobals mg) (hfa : mg ("law" : Str) = some (.ref f)) (c : He.SaysD fa fn K) (cx : exT K = true) :
    ∃ fd : FuncData, (∀ (s : Shared) (v : Value), BindsTo s fd ⟨[v], []⟩ [("_law_script", v)]) ∧ ∀ base : Heap, K.In base → base.Ns mainGlobals mg → FnOkG P w K mg base 15 f fd ["_law_script"] (spLaw K) := by
  have B : Bi mg := ⟨He.free_ok X G (c.fact 102 (f := .free "len") rfl), He.free_ok X G (c.fact 103 (f := .free "range") rfl), He.free_ok X G (c.fact 104 (f := .free "isinstance") rfl), He.free_ok X G (c.fact 105 (f := .free "tuple") rfl), He.free_ok X G (c.fact 106 (f := .free "list") rfl), He.free_ok X G (c.fact 107 (f := .free "sorted") rfl), He.free_ok X G (c.fact 108 (f := .free "all") rfl), He.free_ok X G (c.fact 109 (f := .free "int") rfl), He.free_ok X G (c.fact 110 (f := .free "max") rfl), He.free_ok X G (c.fact 111 (f := .free "min") rfl), He.free_ok X G (c.fact 112 (f := .free "enumerate") rfl), He.free_ok X G (c.fact 113 (f := .free "str") rfl)⟩
  obtain ⟨fd0, F0⟩ := c.def_ 0 (d := dMet "NoChanges" "__init__" "NoChanges.__init__" (inClass (topS 6) 0) []) rfl
  obtain ⟨fd1, F1⟩ := c.def_ 1 (d := dMet "NoName" "__init__" "NoName.__init__" (inClass (topS 15) 0) []) rfl
  obtain ⟨fd2, F2⟩ := c.def_ 2 (d := dOf "is_word" wIsWord []) rfl
  obtain ⟨fd3, F3⟩ := c.def_ 3 (d := dOf "is_whole" sIsWhole []) rfl
  obtain ⟨fd4, F4⟩ := c.def_ 4 (d := dOf "is_number_from" sIsNum []) rfl
  obtain ⟨fd5, F5⟩ := c.def_ 5 (d := dOf "check_word" wCheck []) rfl
  obtain ⟨fd6, F6⟩ := c.def_ 6 (d := dOf "is_letter" wIsLetter []) rfl
  obtain ⟨fd7, F7⟩ := c.def_ 7 (d := dOf "is_change" wIsChange []) rfl
  obtain ⟨fd8, F8⟩ := c.def_ 8 (d := dOf "is_tuple_up_to" wTupTo []) rfl
  obtain ⟨fd9, F9⟩ := c.def_ 9 (d := dOf "checked_changes" wChecked []) rfl
  obtain ⟨fd10, F10⟩ := c.def_ 10 (d := dOf "reaches" wReaches []) rfl
  obtain ⟨fd11, F11⟩ := c.def_ 11 (d := dOf "turned_letters" wTurned []) rfl
  obtain ⟨fd12, F12⟩ := c.def_ 12 (d := dOf "steps_toward" wSteps []) rfl
  obtain ⟨fd13, F13⟩ := c.def_ 13 (d := dOf "letters_at" wLetAt []) rfl
  obtain ⟨fd14, F14⟩ := c.def_ 14 (d := dOf "meaning" wMean [.non]) rfl
  obtain ⟨fd15, F15⟩ := c.def_ 15 (d := dOf "are_rows" sAreRows []) rfl
  obtain ⟨fd16, F16⟩ := c.def_ 16 (d := dOf "wrong_spot" sWrong []) rfl
  obtain ⟨fd17, F17⟩ := c.def_ 17 (d := dOf "spots_in" sSpotsIn []) rfl
  obtain ⟨fd18, F18⟩ := c.def_ 18 (d := dOf "checked_spots" sSpots []) rfl
  obtain ⟨fd19, F19⟩ := c.def_ 19 (d := dMet "Land" "__init__" "Land.__init__" sInit []) rfl
  obtain ⟨fd20, F20⟩ := c.def_ 20 (d := dMet "Land" "names" "Land.names" sLNames []) rfl
  obtain ⟨fd21, F21⟩ := c.def_ 21 (d := dMet "Land" "check_name" "Land.check_name" sCheck []) rfl
  obtain ⟨fd22, F22⟩ := c.def_ 22 (d := dMet "Land" "__str__" "Land.__str__" sStr []) rfl
  obtain ⟨fd23, F23⟩ := c.def_ 23 (d := dOf "check_age" sCheckA []) rfl
  obtain ⟨fd24, F24⟩ := c.def_ 24 (d := dOf "check_sure" sCheckS []) rfl
  obtain ⟨fd25, F25⟩ := c.def_ 25 (d := dOf "key_of" sKeyOf []) rfl
  obtain ⟨fd26, F26⟩ := c.def_ 26 (d := dOf "telling_row" sTelRow []) rfl
  obtain ⟨fd27, F27⟩ := c.def_ 27 (d := dMet "Gathering" "__init__" "Gathering.__init__" sGInit []) rfl
  obtain ⟨fd28, F28⟩ := c.def_ 28 (d := dMet "Gathering" "place_of" "Gathering.place_of" sGPlace []) rfl
  obtain ⟨fd29, F29⟩ := c.def_ 29 (d := dMet "Gathering" "put" "Gathering.put" sGPut [.str "self", .bl true]) rfl
  obtain ⟨fd30, F30⟩ := c.def_ 30 (d := dMet "Gathering" "tellings" "Gathering.tellings" sGTell [.non]) rfl
  obtain ⟨fd31, F31⟩ := c.def_ 31 (d := dMet "Gathering" "things" "Gathering.things" sGThings []) rfl
  obtain ⟨fd32, F32⟩ := c.def_ 32 (d := dMet "Gathering" "__str__" "Gathering.__str__" sGStr []) rfl
  obtain ⟨fd33, F33⟩ := c.def_ 33 (d := dOf "check_gathering" sCheckG []) rfl
  obtain ⟨fd34, F34⟩ := c.def_ 34 (d := dOf "summed_up" sSum []) rfl
  obtain ⟨fd35, F35⟩ := c.def_ 35 (d := dOf "by_village" sByV []) rfl
  obtain ⟨fd36, F36⟩ := c.def_ 36 (d := dMet "WordMap" "__init__" "WordMap.__init__" sMInit [.non, .int 0, .int 120]) rfl
  obtain ⟨fd37, F37⟩ := c.def_ 37 (d := dOf "both_asked" sBoth []) rfl
  obtain ⟨fd38, F38⟩ := c.def_ 38 (d := dOf "do_part" sDoPart []) rfl
  obtain ⟨fd39, F39⟩ := c.def_ 39 (d := dOf "all_maps" sAllMaps []) rfl
  obtain ⟨fd40, F40⟩ := c.def_ 40 (d := dOf "share_apart" sShare []) rfl
  obtain ⟨fd41, F41⟩ := c.def_ 41 (d := dOf "apart" sApart [.non]) rfl
  obtain ⟨fd42, F42⟩ := c.def_ 42 (d := dOf "shares_around" sAround []) rfl
  obtain ⟨fd43, F43⟩ := c.def_ 43 (d := dOf "is_less" sIsLess []) rfl
  obtain ⟨fd44, F44⟩ := c.def_ 44 (d := dOf "nearest" sNearest [.non]) rfl
  obtain ⟨fd45, F45⟩ := c.def_ 45 (d := dOf "farthest" sFarthest [.non]) rfl
  obtain ⟨fd46, F46⟩ := c.def_ 46 (d := dOf "_law_cell" sCell []) rfl
  obtain ⟨fd47, F47⟩ := c.def_ 47 (d := dOf "_law_purse" sPurse []) rfl
  obtain ⟨fd48, F48⟩ := c.def_ 48 (d := dOf "_law_pick" sPick []) rfl
  obtain ⟨fd49, F49⟩ := c.def_ 49 (d := dOf "_law_menu" sMenu []) rfl
  obtain ⟨fd50, F50⟩ := c.def_ 50 (d := dOf "_law_word" sWord []) rfl
  obtain ⟨fd51, F51⟩ := c.def_ 51 (d := dOf "_law_fresh" sFresh []) rfl
  obtain ⟨fd52, F52⟩ := c.def_ 52 (d := dOf "_law_changes" sChanges []) rfl
  obtain ⟨fd53, F53⟩ := c.def_ 53 (d := dOf "_law_land" sLand []) rfl
  obtain ⟨fd54, F54⟩ := c.def_ 54 (d := dOf "_law_names" sNames []) rfl
  obtain ⟨fd55, F55⟩ := c.def_ 55 (d := dOf "_law_tellings" sTels []) rfl
  obtain ⟨fd56, F56⟩ := c.def_ 56 (d := dOf "_law_gathered" sTome []) rfl
  obtain ⟨fd57, F57⟩ := c.def_ 57 (d := dOf "_law_sort" sSort []) rfl
  obtain ⟨fd58, F58⟩ := c.def_ 58 (d := dOf "_law_no_gathering" sNoG []) rfl
  obtain ⟨fd59, F59⟩ := c.def_ 59 (d := dOf "_law_no_town" sNoT []) rfl
  obtain ⟨fd60, F60⟩ := c.def_ 60 (d := dOf "_law_no_changes" sNoC []) rfl
  obtain ⟨fd61, F61⟩ := c.def_ 61 (d := dOf "_law_tried" sTried []) rfl
  obtain ⟨fd62, F62⟩ := c.def_ 62 (d := dOf "_law_right" sRight []) rfl
  obtain ⟨fd63, F63⟩ := c.def_ 63 (d := dOf "law" sLaw []) rfl
  have e := hfa.symm.trans (He.glo_ok X G (c.fact 65 (f := .glo "law") rfl))
  cases e
  have f0 : Fun K "__init__" "NoChanges.__init__" (inClass (topS 6) 0) _ fd0 := He5.fun_of F0
  have f1 : Fun K "__init__" "NoName.__init__" (inClass (topS 15) 0) _ fd1 := He5.fun_of F1
  have f2 : Fun K "is_word" "is_word" wIsWord _ fd2 := He5.fun_of F2
  have f3 : Fun K "is_whole" "is_whole" sIsWhole _ fd3 := He5.fun_of F3
  have f4 : Fun K "is_number_from" "is_number_from" sIsNum _ fd4 := He5.fun_of F4
  have f5 : Fun K "check_word" "check_word" wCheck _ fd5 := He5.fun_of F5
  have f6 : Fun K "is_letter" "is_letter" wIsLetter _ fd6 := He5.fun_of F6
  have f7 : Fun K "is_change" "is_change" wIsChange _ fd7 := He5.fun_of F7
  have f8 : Fun K "is_tuple_up_to" "is_tuple_up_to" wTupTo _ fd8 := He5.fun_of F8
  have f9 : Fun K "checked_changes" "checked_changes" wChecked _ fd9 := He5.fun_of F9
  have f10 : Fun K "reaches" "reaches" wReaches _ fd10 := He5.fun_of F10
  have f11 : Fun K "turned_letters" "turned_letters" wTurned _ fd11 := He5.fun_of F11
  have f12 : Fun K "steps_toward" "steps_toward" wSteps _ fd12 := He5.fun_of F12
  have f13 : Fun K "letters_at" "letters_at" wLetAt _ fd13 := He5.fun_of F13
  have f14 : FunN K "meaning" wMean _ fd14 := F14
  have f15 : Fun K "are_rows" "are_rows" sAreRows _ fd15 := He5.fun_of F15
  have f16 : Fun K "wrong_spot" "wrong_spot" sWrong _ fd16 := He5.fun_of F16
  have f17 : Fun K "spots_in" "spots_in" sSpotsIn _ fd17 := He5.fun_of F17
  have f18 : Fun K "checked_spots" "checked_spots" sSpots _ fd18 := He5.fun_of F18
  have f19 : Fun K "__init__" "Land.__init__" sInit _ fd19 := He5.fun_of F19
  have f20 : Fun K "names" "Land.names" sLNames _ fd20 := He5.fun_of F20
  have f21 : Fun K "check_name" "Land.check_name" sCheck _ fd21 := He5.fun_of F21
  have f22 : Fun K "__str__" "Land.__str__" sStr _ fd22 := He5.fun_of F22
  have f23 : Fun K "check_age" "check_age" sCheckA _ fd23 := He5.fun_of F23
  have f24 : Fun K "check_sure" "check_sure" sCheckS _ fd24 := He5.fun_of F24
  have f25 : Fun K "key_of" "key_of" sKeyOf _ fd25 := He5.fun_of F25
  have f26 : Fun K "telling_row" "telling_row" sTelRow _ fd26 := He5.fun_of F26
  have f27 : Fun K "__init__" "Gathering.__init__" sGInit _ fd27 := He5.fun_of F27
  have f28 : Fun K "place_of" "Gathering.place_of" sGPlace _ fd28 := He5.fun_of F28
  have f29 : FunP K _ fd29 := F29
  have f30 : FunT K _ fd30 := F30
  have f31 : Fun K "things" "Gathering.things" sGThings _ fd31 := He5.fun_of F31
  have f32 : Fun K "__str__" "Gathering.__str__" sGStr _ fd32 := He5.fun_of F32
  have f33 : Fun K "check_gathering" "check_gathering" sCheckG _ fd33 := He5.fun_of F33
  have f34 : Fun K "summed_up" "summed_up" sSum _ fd34 := He5.fun_of F34
  have f35 : Fun K "by_village" "by_village" sByV _ fd35 := He5.fun_of F35
  have f36 : FunI K _ fd36 := F36
  have f37 : Fun K "both_asked" "both_asked" sBoth _ fd37 := He5.fun_of F37
  have f38 : Fun K "do_part" "do_part" sDoPart _ fd38 := He5.fun_of F38
  have f39 : Fun K "all_maps" "all_maps" sAllMaps _ fd39 := He5.fun_of F39
  have f40 : Fun K "share_apart" "share_apart" sShare _ fd40 := He5.fun_of F40
  have f41 : FunN K "apart" sApart _ fd41 := F41
  have f42 : Fun K "shares_around" "shares_around" sAround _ fd42 := He5.fun_of F42
  have f43 : Fun K "is_less" "is_less" sIsLess _ fd43 := He5.fun_of F43
  have f44 : FunN K "nearest" sNearest _ fd44 := F44
  have f45 : FunN K "farthest" sFarthest _ fd45 := F45
  have f46 : Fun K "_law_cell" "_law_cell" sCell _ fd46 := He5.fun_of F46
  have f47 : Fun K "_law_purse" "_law_purse" sPurse _ fd47 := He5.fun_of F47
  have f48 : Fun K "_law_pick" "_law_pick" sPick _ fd48 := He5.fun_of F48
  have f49 : Fun K "_law_menu" "_law_menu" sMenu _ fd49 := He5.fun_of F49
  have f50 : Fun K "_law_word" "_law_word" sWord _ fd50 := He5.fun_of F50
  have f51 : Fun K "_law_fresh" "_law_fresh" sFresh _ fd51 := He5.fun_of F51
  have f52 : Fun K "_law_changes" "_law_changes" sChanges _ fd52 := He5.fun_of F52
  have f53 : Fun K "_law_land" "_law_land" sLand _ fd53 := He5.fun_of F53
  have f54 : Fun K "_law_names" "_law_names" sNames _ fd54 := He5.fun_of F54
  have f55 : Fun K "_law_tellings" "_law_tellings" sTels _ fd55 := He5.fun_of F55
  have f56 : Fun K "_law_gathered" "_law_gathered" sTome _ fd56 := He5.fun_of F56
  have f57 : Fun K "_law_sort" "_law_sort" sSort _ fd57 := He5.fun_of F57
  have f58 : Fun K "_law_no_gathering" "_law_no_gathering" sNoG _ fd58 := He5.fun_of F58
  have f59 : Fun K "_law_no_town" "_law_no_town" sNoT _ fd59 := He5.fun_of F59
  have f60 : Fun K "_law_no_changes" "_law_no_changes" sNoC _ fd60 := He5.fun_of F60
  have f61 : Fun K "_law_tried" "_law_tried" sTried _ fd61 := He5.fun_of F61
  have f62 : Fun K "_law_right" "_law_right" sRight _ fd62 := He5.fun_of F62
  have f63 : Fun K "law" "law" sLaw _ fd63 := He5.fun_of F63
  refine ⟨fd63, fun s v => ?_, fun base _ _ => ?_⟩
  · obtain ⟨oc, od, kV, doc, pm, an, cdv, ct, osl, e, l, c⟩ := f63.ex
    subst e
    exact .of_eq rfl
  have B2 : Bg mg := ⟨He.free_ok X G (c.fact 77 (f := .free "bool") rfl), He.int_ok X G (c.fact 71 (f := .int "OLDEST" 120) rfl), He.int_ok X G (c.fact 72 (f := .int "MOST_TELLINGS" 200) rfl), He.str_ok X G (c.fact 73 (f := .str "DOT" ".") rfl), He.str_ok X G (c.fact 74 (f := .str "DOUBT" "?") rfl)⟩
  have Gk' : Gk mg := ⟨He.str_ok X G (c.fact 66 (f := .str "LETTERS" "abcdefghijklmnopqrstuvwxyz") rfl), He.int_ok X G (c.fact 67 (f := .int "LONGEST_WORD" 8) rfl), He.int_ok X G (c.fact 69 (f := .int "MOST_ROWS" 6) rfl), He.int_ok X G (c.fact 70 (f := .int "MOST_COLUMNS" 6) rfl)⟩
  have T : Txt K mg (He.ga K "Land") := ⟨He.cls_ok (c.fact 81 (f := .cls "Land") rfl), He.noat_ok (c.fact 83 (f := .noat "Land" "spots") rfl), He.noat_ok (c.fact 84 (f := .noat "Land" "rows") rfl), He.glo_ok X G (c.fact 21 (f := .glo "Land") rfl)⟩
  have TG : TxtG K mg (He.ga K "Gathering") := ⟨He.cls_ok (c.fact 85 (f := .cls "Gathering") rfl), He.noat_ok (c.fact 87 (f := .noat "Gathering" "land") rfl), He.noat_ok (c.fact 88 (f := .noat "Gathering" "told") rfl), He.noat_ok (c.fact 89 (f := .noat "Gathering" "deeds") rfl), He.glo_ok X G (c.fact 29 (f := .glo "Gathering") rfl)⟩
  have TM : TxtM K mg (He.ga K "WordMap") := ⟨He.cls_ok (c.fact 90 (f := .cls "WordMap") rfl), He.noat_ok (c.fact 92 (f := .noat "WordMap" "land") rfl), He.noat_ok (c.fact 93 (f := .noat "WordMap" "thing") rfl), He.noat_ok (c.fact 94 (f := .noat "WordMap" "changes") rfl), He.noat_ok (c.fact 95 (f := .noat "WordMap" "sure_words") rfl), He.noat_ok (c.fact 96 (f := .noat "WordMap" "doubtful_words") rfl), He.noat_ok (c.fact 97 (f := .noat "WordMap" "said") rfl), He.glo_ok X G (c.fact 38 (f := .glo "WordMap") rfl)⟩
  unfold exT at cx
  rw [Bool.and_eq_true] at cx
  obtain ⟨cx, cz⟩ := cx
  unfold exT0 exC at cx
  simp only [Bool.and_eq_true] at cx
  obtain ⟨e2, e3, ⟨a1, a2, a3⟩, ⟨b1, b2, b3⟩, ⟨c1, c2, c3⟩, e6, e7⟩ := cx
  have T2 : Txt2 K mg (He.ga K "Land") := ⟨T, ⟨T.cl, He.eqO_ok a1, He.eqO_ok e2, of_decide_eq_true e3, of_decide_eq_true a2, of_decide_eq_true a3⟩, ⟨He.eqO_ok e6, of_decide_eq_true a2⟩⟩
  have insD : C8.InsC K (He.ga K "Gathering") := ⟨TG.cl, He.eqO_ok b1, He.eqO_ok e2, of_decide_eq_true e3, of_decide_eq_true b2, of_decide_eq_true b3⟩
  have insW : C8.InsC K (He.ga K "WordMap") := ⟨TM.cl, He.eqO_ok c1, He.eqO_ok e2, of_decide_eq_true e3, of_decide_eq_true c2, of_decide_eq_true c3⟩
  have Gw' : Gw K mg := ⟨He.str_ok X G (c.fact 66 (f := .str "LETTERS" "abcdefghijklmnopqrstuvwxyz") rfl), He.int_ok X G (c.fact 67 (f := .int "LONGEST_WORD" 8) rfl), He.int_ok X G (c.fact 68 (f := .int "MOST_CHANGES" 12) rfl), _, He.glo_ok X G (c.fact 76 (f := .glo "WHERES") rfl), fun H => He.tupB_ok e7 H⟩
  unfold exX kitNoB at cz
  simp only [Bool.and_eq_true] at cz
  obtain ⟨z1, z2, z3, z4, y1, y2, y3, y4, y5, y6, y7, y8, y9⟩ := cz
  have SG : SortG mg (adK K) (bdK K) := sort_ok X G z1
  have ENoChanges := err_ok (mg := mg) (C := He.ga K "NoChanges") (f := "place") (n := 1) z2
  have ENoName := err_ok (mg := mg) (C := He.ga K "NoName") (f := "name") (n := 10) z3
  have ENG := errN_ok (mg := mg) (C := He.ga K "NoGathering") (n := 11) z4
  have SN : SortC K (adK K) (bdK K) (He.ga K "NoGathering") 11 := ENG.1
  have TN : OwnN K mg "NoGathering" (He.ga K "NoGathering") := ENG.2 (He.glo_ok X G (c.fact 80 (f := .glo "NoGathering") rfl))
  have HT : HdT K (bdK K) (He.ga K "NoGathering") (He.ga K "NoName") (He.ga K "NoChanges") := ⟨He.exm_ok (c.fact 98 (f := .exm "NoGathering" "LandError" true) rfl), He.exm_ok (c.fact 99 (f := .exm "NoName" "LandError" true) rfl), He.exm_ok (c.fact 100 (f := .exm "NoChanges" "LandError" false) rfl), He.exm_ok (c.fact 101 (f := .exm "NoChanges" "WordError" true) rfl)⟩
  have KN : KitNoG K (He.ga K "Land") (He.ga K "Gathering") (He.ga K "WordMap") := ⟨of_decide_eq_true y1, of_decide_eq_true y2, of_decide_eq_true y3, of_decide_eq_true y4, of_decide_eq_true y5, of_decide_eq_true y6, of_decide_eq_true y7, of_decide_eq_true y8, of_decide_eq_true y9⟩
  have hlk : ∃ t, mg "LAKE" = some (.str "-" t) := He.str_ok X G (c.fact 75 (f := .str "LAKE" "-") rfl)
  have hrepr : mg "repr" = none := He.free_ok X G (c.fact 79 (f := .free "repr") rfl)
  have hany : mg "any" = none := He.free_ok X G (c.fact 78 (f := .free "any") rfl)
  have TNoChanges : OwnX K mg "NoChanges" "place" (He.ga K "NoChanges") := ENoChanges.2 (He.glo_ok X G (c.fact 0 (f := .glo "NoChanges") rfl)) (He.meth_ok (c.fact 1 (f := .meth "NoChanges" "__init__") rfl)) f0 (f0.binds fun _ _ _ _ _ _ us hl => match us, hl with | [_, _], _ => rfl) ⟨rfl, rfl, rfl, by decide +kernel, rfl, by decide +kernel, by decide +kernel⟩ (by decide +kernel) rfl
  have TNoName : OwnX K mg "NoName" "name" (He.ga K "NoName") := ENoName.2 (He.glo_ok X G (c.fact 2 (f := .glo "NoName") rfl)) (He.meth_ok (c.fact 3 (f := .meth "NoName" "__init__") rfl)) f1 (f1.binds fun _ _ _ _ _ _ us hl => match us, hl with | [_, _], _ => rfl) ⟨rfl, rfl, rfl, by decide +kernel, rfl, by decide +kernel, by decide +kernel⟩ (by decide +kernel) rfl
  have h_is_word : Has P w K mg base "is_word" 1 ["thing"] (spIsW K) := ⟨_, fd2, ok_isw f2 B Gw', He.glo_ok X G (c.fact 4 (f := .glo "is_word") rfl), f2.kp, f2.binds fun _ _ _ _ _ _ us hl => match us, hl with | [_], _ => rfl⟩
  have h_is_wordL : Has P w K mg base "is_word" 1 ["thing"] spIsWord := ⟨_, fd2, FnOk.imp (ok_isw f2 B Gw') (fun vs H Q E ⟨z, e, hz, q⟩ => ⟨.str z, wdB z, e, .inl ⟨z, rfl, hz, rfl⟩, q⟩), (He.glo_ok X G (c.fact 4 (f := .glo "is_word") rfl)), f2.kp, (f2.binds fun _ _ _ _ _ _ us hl => match us, hl with | [_], _ => rfl)⟩
  have h_is_whole : Has P w K mg base "is_whole" 1 ["thing"] spIsWhole := ⟨_, fd3, ok_iswhole f3 B B2, He.glo_ok X G (c.fact 5 (f := .glo "is_whole") rfl), f3.kp, f3.binds fun _ _ _ _ _ _ us hl => match us, hl with | [_], _ => rfl⟩
  have h_is_number_from : Has P w K mg base "is_number_from" 2 ["thing", "least", "most"] spIsNum := ⟨_, fd4, ok_isnum f4 h_is_whole, He.glo_ok X G (c.fact 6 (f := .glo "is_number_from") rfl), f4.kp, f4.binds fun _ _ _ _ _ _ us hl => match us, hl with | [_, _, _], _ => rfl⟩
  have h_check_word : Has P w K mg base "check_word" 2 ["word"] spCheckW := ⟨_, fd5, ok_checkw f5 h_is_word, He.glo_ok X G (c.fact 7 (f := .glo "check_word") rfl), f5.kp, f5.binds fun _ _ _ _ _ _ us hl => match us, hl with | [_], _ => rfl⟩
  have h_is_letter : Has P w K mg base "is_letter" 2 ["thing"] spIsLet := ⟨_, fd6, ok_islet f6 B h_is_word, He.glo_ok X G (c.fact 8 (f := .glo "is_letter") rfl), f6.kp, f6.binds fun _ _ _ _ _ _ us hl => match us, hl with | [_], _ => rfl⟩
  have hO_is_letter : Has P w K mg base "is_letter" 2 ["thing"] spIsLetO := ⟨_, fd6, ok_isletO f6 B h_is_word, (He.glo_ok X G (c.fact 8 (f := .glo "is_letter") rfl)), f6.kp, (f6.binds fun _ _ _ _ _ _ us hl => match us, hl with | [_], _ => rfl)⟩
  have h_is_change : Has P w K mg base "is_change" 3 ["thing"] spIsCh := ⟨_, fd7, ok_isch f7 B Gw' h_is_letter, He.glo_ok X G (c.fact 9 (f := .glo "is_change") rfl), f7.kp, f7.binds fun _ _ _ _ _ _ us hl => match us, hl with | [_], _ => rfl⟩
  have hX_is_change : Has P w K mg base "is_change" 3 ["thing"] spIsChX := ⟨_, fd7, FnOk_or (ok_isch f7 B Gw' h_is_letter) (ok_ischO f7 B Gw' hO_is_letter), (He.glo_ok X G (c.fact 9 (f := .glo "is_change") rfl)), f7.kp, (f7.binds fun _ _ _ _ _ _ us hl => match us, hl with | [_], _ => rfl)⟩
  have h_is_tuple_up_to : Has P w K mg base "is_tuple_up_to" 1 ["thing", "most"] spTupTo := ⟨_, fd8, ok_tupto f8 B, He.glo_ok X G (c.fact 10 (f := .glo "is_tuple_up_to") rfl), f8.kp, f8.binds fun _ _ _ _ _ _ us hl => match us, hl with | [_, _], _ => rfl⟩
  have hX_tupto : Has P w K mg base "is_tuple_up_to" 1 ["thing", "most"] spTupToX := ⟨_, fd8, FnOk_or (ok_tupto f8 B) (ok_tuptoO f8 B), (He.glo_ok X G (c.fact 10 (f := .glo "is_tuple_up_to") rfl)), f8.kp, (f8.binds fun _ _ _ _ _ _ us hl => match us, hl with | [_, _], _ => rfl)⟩
  have h_checked_changes : Has P w K mg base "checked_changes" 4 ["changes"] spChecked := ⟨_, fd9, ok_checked f9 B Gw' h_is_tuple_up_to h_is_change, He.glo_ok X G (c.fact 11 (f := .glo "checked_changes") rfl), f9.kp, f9.binds fun _ _ _ _ _ _ us hl => match us, hl with | [_], _ => rfl⟩
  have hX_checked_changes : HasX P w K mg base "checked_changes" 4 ["changes"] (spCheckedX (He.ga K "NoChanges")) := ⟨_, fd9, FnOk_xor (ok_checked f9 B Gw' h_is_tuple_up_to h_is_change) (ok_checkedR f9 TNoChanges B Gw' hX_tupto hX_is_change), (He.glo_ok X G (c.fact 11 (f := .glo "checked_changes") rfl)), f9.kp, (f9.binds fun _ _ _ _ _ _ us hl => match us, hl with | [_], _ => rfl)⟩
  have h_reaches : Has P w K mg base "reaches" 1 ["where", "place", "length"] spReaches := ⟨_, fd10, ok_reaches f10, He.glo_ok X G (c.fact 12 (f := .glo "reaches") rfl), f10.kp, f10.binds fun _ _ _ _ _ _ us hl => match us, hl with | [_, _, _], _ => rfl⟩
  have h_turned_letters : Has P w K mg base "turned_letters" 2 ["changes", "place", "length"] spTurned := ⟨_, fd11, ok_turned f11 Gw' h_reaches, He.glo_ok X G (c.fact 13 (f := .glo "turned_letters") rfl), f11.kp, f11.binds fun _ _ _ _ _ _ us hl => match us, hl with | [_, _, _], _ => rfl⟩
  have h_steps_toward : Has P w K mg base "steps_toward" 1 ["goal", "turned"] spSteps := ⟨_, fd12, ok_steps f12 B, He.glo_ok X G (c.fact 14 (f := .glo "steps_toward") rfl), f12.kp, f12.binds fun _ _ _ _ _ _ us hl => match us, hl with | [_, _], _ => rfl⟩
  have h_letters_at : Has P w K mg base "letters_at" 3 ["word", "place", "changes"] spLetAt := ⟨_, fd13, ok_letat f13 B h_steps_toward h_turned_letters, He.glo_ok X G (c.fact 15 (f := .glo "letters_at") rfl), f13.kp, f13.binds fun _ _ _ _ _ _ us hl => match us, hl with | [_, _, _], _ => rfl⟩
  have h_meaning : HasN P w K mg base "meaning" wMean 5 ["word", "changes"] spMean := ⟨_, fd14, ok_mean f14 B h_check_word h_checked_changes h_letters_at, He.glo_ok X G (c.fact 16 (f := .glo "meaning") rfl), f14⟩
  have h_are_rows : Has P w K mg base "are_rows" 1 ["thing"] spAreRows := ⟨_, fd15, ok_arerows f15 B Gk', He.glo_ok X G (c.fact 17 (f := .glo "are_rows") rfl), f15.kp, f15.binds fun _ _ _ _ _ _ us hl => match us, hl with | [_], _ => rfl⟩
  have h_wrong_spot : Has P w K mg base "wrong_spot" 2 ["rows"] spWrong := ⟨_, fd16, ok_wrong f16 B h_is_wordL, He.glo_ok X G (c.fact 18 (f := .glo "wrong_spot") rfl), f16.kp, f16.binds fun _ _ _ _ _ _ us hl => match us, hl with | [_], _ => rfl⟩
  have h_spots_in : Has P w K mg base "spots_in" 1 ["rows"] spSpotsIn := ⟨_, fd17, ok_spotsin f17 B, He.glo_ok X G (c.fact 19 (f := .glo "spots_in") rfl), f17.kp, f17.binds fun _ _ _ _ _ _ us hl => match us, hl with | [_], _ => rfl⟩
  have h_checked_spots : Has P w K mg base "checked_spots" 3 ["rows"] spSpots := ⟨_, fd18, ok_spots f18 h_are_rows h_wrong_spot h_spots_in, He.glo_ok X G (c.fact 20 (f := .glo "checked_spots") rfl), f18.kp, f18.binds fun _ _ _ _ _ _ us hl => match us, hl with | [_], _ => rfl⟩
  have h_Land__init__ : HasI P w K mg base (He.ga K "Land") := ⟨_, fd19, He.mkr_ok (c.fact 82 (f := .mkr "Land") rfl), ok_init f19 T h_checked_spots, (f19.binds fun _ _ _ _ _ _ us hl => match us, hl with | [_, _], _ => rfl)⟩
  have h_names : HasM P w K mg base (He.ga K "Land") "names" 1 ["self"] (spLNames (He.ga K "Land")) := ⟨_, fd20, ok_lnames f20 B T, He.meth_ok (c.fact 22 (f := .meth "Land" "names") rfl), f20.binds fun _ _ _ _ _ _ us hl => match us, hl with | [_], _ => rfl⟩
  have h_check_name : HasM P w K mg base (He.ga K "Land") "check_name" 2 ["self", "name"] (spCheck (He.ga K "Land")) := ⟨_, fd21, ok_check f21 T h_is_wordL, He.meth_ok (c.fact 23 (f := .meth "Land" "check_name") rfl), f21.binds fun _ _ _ _ _ _ us hl => match us, hl with | [_, _], _ => rfl⟩
  have hX_check_name : HasMX P w K mg base (He.ga K "Land") "check_name" 2 ["self", "name"] (spNameA K (He.ga K "Land") (He.ga K "NoName")) := ⟨_, fd21, ok_nameA f21 T TNoName h_is_word, (He.meth_ok (c.fact 23 (f := .meth "Land" "check_name") rfl)), (f21.binds fun _ _ _ _ _ _ us hl => match us, hl with | [_, _], _ => rfl)⟩
  have h_Land__str__ : HasM P w K mg base (He.ga K "Land") "__str__" 1 ["self"] (spLStr (He.ga K "Land")) := ⟨_, fd22, ok_lstr f22 T hlk, He.meth_ok (c.fact 24 (f := .meth "Land" "__str__") rfl), f22.binds fun _ _ _ _ _ _ us hl => match us, hl with | [_], _ => rfl⟩
  have h_check_age : Has P w K mg base "check_age" 3 ["age"] spCheckA := ⟨_, fd23, ok_checka f23 B2 h_is_number_from, He.glo_ok X G (c.fact 25 (f := .glo "check_age") rfl), f23.kp, f23.binds fun _ _ _ _ _ _ us hl => match us, hl with | [_], _ => rfl⟩
  have h_check_sure : Has P w K mg base "check_sure" 1 ["sure"] spCheckS := ⟨_, fd24, ok_checks f24 B B2, He.glo_ok X G (c.fact 26 (f := .glo "check_sure") rfl), f24.kp, f24.binds fun _ _ _ _ _ _ us hl => match us, hl with | [_], _ => rfl⟩
  have h_key_of : Has P w K mg base "key_of" 1 ["telling"] spKeyOf := ⟨_, fd25, ok_keyof f25, He.glo_ok X G (c.fact 27 (f := .glo "key_of") rfl), f25.kp, f25.binds fun _ _ _ _ _ _ us hl => match us, hl with | [_], _ => rfl⟩
  have h_telling_row : Has P w K mg base "telling_row" 1 ["telling"] spTelRow := ⟨_, fd26, ok_telrow f26 B B2, He.glo_ok X G (c.fact 28 (f := .glo "telling_row") rfl), f26.kp, f26.binds fun _ _ _ _ _ _ us hl => match us, hl with | [_], _ => rfl⟩
  have h_Gathering__init__ : HasG P w K mg base (He.ga K "Land") (He.ga K "Gathering") := ⟨_, fd27, He.mkr_ok (c.fact 86 (f := .mkr "Gathering") rfl), ok_ginit f27 B T2 TG, (f27.binds fun _ _ _ _ _ _ us hl => match us, hl with | [_, _], _ => rfl)⟩
  have h_place_of : HasM P w K mg base (He.ga K "Gathering") "place_of" 2 ["self", "key"] (spGPlace (He.ga K "Land") (He.ga K "Gathering")) := ⟨_, fd28, ok_gplace f28 B TG h_key_of, He.meth_ok (c.fact 30 (f := .meth "Gathering" "place_of") rfl), f28.binds fun _ _ _ _ _ _ us hl => match us, hl with | [_, _], _ => rfl⟩
  have h_put : HasP P w K mg base (He.ga K "Land") (He.ga K "Gathering") := ⟨_, fd29, ok_put f29 B B2 T TG h_check_name h_check_word h_check_age h_check_sure h_place_of, He.meth_ok (c.fact 31 (f := .meth "Gathering" "put") rfl), f29⟩
  have h_tellings : HasTl P w K mg base (He.ga K "Land") (He.ga K "Gathering") := ⟨_, fd30, ok_tell f30 B TG, He.meth_ok (c.fact 32 (f := .meth "Gathering" "tellings") rfl), f30⟩
  have h_things : HasM P w K mg base (He.ga K "Gathering") "things" 1 ["self"] (spThings (He.ga K "Land") (He.ga K "Gathering")) := ⟨_, fd31, ok_things f31 B TG, He.meth_ok (c.fact 33 (f := .meth "Gathering" "things") rfl), f31.binds fun _ _ _ _ _ _ us hl => match us, hl with | [_], _ => rfl⟩
  have h_Gathering__str__ : HasM P w K mg base (He.ga K "Gathering") "__str__" 4 ["self"] (spGStr (He.ga K "Land") (He.ga K "Gathering")) := ⟨_, fd32, ok_gstr f32 B B2 TG h_Land__str__ h_telling_row, He.meth_ok (c.fact 34 (f := .meth "Gathering" "__str__") rfl), f32.binds fun _ _ _ _ _ _ us hl => match us, hl with | [_], _ => rfl⟩
  have h_check_gathering : Has P w K mg base "check_gathering" 1 ["thing"] (spCheckG (He.ga K "Land") (He.ga K "Gathering")) := ⟨_, fd33, ok_checkg f33 B TG insD, He.glo_ok X G (c.fact 35 (f := .glo "check_gathering") rfl), f33.kp, f33.binds fun _ _ _ _ _ _ us hl => match us, hl with | [_], _ => rfl⟩
  have hX_check_gathering : HasX P w K mg base "check_gathering" 1 ["thing"] (spCheckGX K (He.ga K "Land") (He.ga K "Gathering") (He.ga K "NoGathering")) := ⟨_, fd33, FnOk_xor (ok_checkg f33 B TG insD) (ok_checkgR f33 B TG TN), (He.glo_ok X G (c.fact 35 (f := .glo "check_gathering") rfl)), f33.kp, (f33.binds fun _ _ _ _ _ _ us hl => match us, hl with | [_], _ => rfl)⟩
  have h_summed_up : Has P w K mg base "summed_up" 6 ["tellings", "changes"] spSum := ⟨_, fd34, ok_sum f34 B h_meaning, He.glo_ok X G (c.fact 36 (f := .glo "summed_up") rfl), f34.kp, f34.binds fun _ _ _ _ _ _ us hl => match us, hl with | [_, _], _ => rfl⟩
  have h_by_village : Has P w K mg base "by_village" 7 ["names", "tellings", "changes"] spByV := ⟨_, fd35, ok_byv f35 h_summed_up, He.glo_ok X G (c.fact 37 (f := .glo "by_village") rfl), f35.kp, f35.binds fun _ _ _ _ _ _ us hl => match us, hl with | [_, _, _], _ => rfl⟩
  have _ := True.intro
  have h_WordMap__init__ : HasW P w K mg base (He.ga K "Land") (He.ga K "Gathering") (He.ga K "WordMap") := ⟨_, fd36, He.mkr_ok (c.fact 91 (f := .mkr "WordMap") rfl), ok_minit f36 B T TG TM h_check_gathering h_check_word h_checked_changes h_check_age h_tellings h_names h_by_village, f36⟩
  have h_both_asked : Has P w K mg base "both_asked" 1 ["wordmap", "pair"] (spBoth (He.ga K "Land") (He.ga K "WordMap")) := ⟨_, fd37, ok_both f37 B TM, He.glo_ok X G (c.fact 39 (f := .glo "both_asked") rfl), f37.kp, f37.binds fun _ _ _ _ _ _ us hl => match us, hl with | [_, _], _ => rfl⟩
  have h_do_part : Has P w K mg base "do_part" 2 ["wordmap", "pair"] (spDoPart (He.ga K "Land") (He.ga K "WordMap")) := ⟨_, fd38, ok_dopart f38 B TM h_both_asked, He.glo_ok X G (c.fact 40 (f := .glo "do_part") rfl), f38.kp, f38.binds fun _ _ _ _ _ _ us hl => match us, hl with | [_, _], _ => rfl⟩
  have h_all_maps : Has P w K mg base "all_maps" 10 ["gathering", "changes"] (spAllMaps (He.ga K "Land") (He.ga K "Gathering") (He.ga K "WordMap")) := ⟨_, fd39, ok_allmaps f39 TG TM h_things h_WordMap__init__, He.glo_ok X G (c.fact 41 (f := .glo "all_maps") rfl), f39.kp, f39.binds fun _ _ _ _ _ _ us hl => match us, hl with | [_, _], _ => rfl⟩
  have h_share_apart : Has P w K mg base "share_apart" 3 ["maps", "pair"] (spShare (He.ga K "Land") (He.ga K "WordMap")) := ⟨_, fd40, ok_share f40 B h_both_asked h_do_part, He.glo_ok X G (c.fact 42 (f := .glo "share_apart") rfl), f40.kp, f40.binds fun _ _ _ _ _ _ us hl => match us, hl with | [_, _], _ => rfl⟩
  have hX_apart : HasNY P w K mg base "apart" sApart 11 ["gathering", "village", "other", "changes"] (spApartX K (He.ga K "Land") (He.ga K "Gathering") (He.ga K "NoGathering") (He.ga K "NoName") (He.ga K "NoChanges")) := ⟨_, fd41, FnOk_xor (ok_apart f41 T TG h_check_gathering h_check_name h_checked_changes h_all_maps h_share_apart) (ok_apartR f41 T TG hX_check_gathering hX_check_name hX_checked_changes h_all_maps h_share_apart), (He.glo_ok X G (c.fact 43 (f := .glo "apart") rfl)), f41⟩
  have h_shares_around : Has P w K mg base "shares_around" 11 ["gathering", "village", "changes"] (spAround (He.ga K "Land") (He.ga K "Gathering")) := ⟨_, fd42, ok_around f42 T TG h_check_gathering h_check_name h_names h_checked_changes h_all_maps h_share_apart, He.glo_ok X G (c.fact 44 (f := .glo "shares_around") rfl), f42.kp, f42.binds fun _ _ _ _ _ _ us hl => match us, hl with | [_, _, _], _ => rfl⟩
  have hX_shares_around : HasX P w K mg base "shares_around" 11 ["gathering", "village", "changes"] (spAroundX K (He.ga K "Land") (He.ga K "Gathering") (He.ga K "NoGathering") (He.ga K "NoName") (He.ga K "NoChanges")) := ⟨_, fd42, FnOk_xor (ok_around f42 T TG h_check_gathering h_check_name h_names h_checked_changes h_all_maps h_share_apart) (ok_aroundR f42 T TG hX_check_gathering hX_check_name hX_checked_changes h_all_maps), (He.glo_ok X G (c.fact 44 (f := .glo "shares_around") rfl)), f42.kp, (f42.binds fun _ _ _ _ _ _ us hl => match us, hl with | [_, _, _], _ => rfl)⟩
  have h_is_less : Has P w K mg base "is_less" 1 ["share", "other"] spIsLess := ⟨_, fd43, ok_isless f43, He.glo_ok X G (c.fact 45 (f := .glo "is_less") rfl), f43.kp, f43.binds fun _ _ _ _ _ _ us hl => match us, hl with | [_, _], _ => rfl⟩
  have hX_nearest : HasNY P w K mg base "nearest" sNearest 12 ["gathering", "village", "changes"] (spNearX K (He.ga K "Land") (He.ga K "Gathering") (He.ga K "NoGathering") (He.ga K "NoName") (He.ga K "NoChanges")) := ⟨_, fd44, FnOk_xor (ok_nearest f44 B hany h_shares_around h_is_less) (ok_nearestR f44 hX_shares_around), (He.glo_ok X G (c.fact 46 (f := .glo "nearest") rfl)), f44⟩
  have hX_farthest : HasNY P w K mg base "farthest" sFarthest 12 ["gathering", "village", "changes"] (spFarX K (He.ga K "Land") (He.ga K "Gathering") (He.ga K "NoGathering") (He.ga K "NoName") (He.ga K "NoChanges")) := ⟨_, fd45, FnOk_xor (ok_farthest f45 B hany h_shares_around h_is_less) (ok_farthestR f45 hX_shares_around), (He.glo_ok X G (c.fact 47 (f := .glo "farthest") rfl)), f45⟩
  have h__law_cell : Has P w K mg base "_law_cell" 1 ["_law_script", "_law_k"] (spCell K) := ⟨_, fd46, ok_cell f46 B, He.glo_ok X G (c.fact 48 (f := .glo "_law_cell") rfl), f46.kp, f46.binds fun _ _ _ _ _ _ us hl => match us, hl with | [_, _], _ => rfl⟩
  have h__law_purse : Has P w K mg base "_law_purse" 1 ["_law_cell_here"] spPurse := ⟨_, fd47, ok_purse f47 B, He.glo_ok X G (c.fact 49 (f := .glo "_law_purse") rfl), f47.kp, f47.binds fun _ _ _ _ _ _ us hl => match us, hl with | [_], _ => rfl⟩
  have h__law_pick : Has P w K mg base "_law_pick" 1 ["_law_purse_here", "_law_many"] spPick := ⟨_, fd48, ok_pick f48, He.glo_ok X G (c.fact 50 (f := .glo "_law_pick") rfl), f48.kp, f48.binds fun _ _ _ _ _ _ us hl => match us, hl with | [_, _], _ => rfl⟩
  have h__law_menu : Has P w K mg base "_law_menu" 1 [] spMenu := ⟨_, fd49, ok_menu f49, He.glo_ok X G (c.fact 51 (f := .glo "_law_menu") rfl), f49.kp, f49.binds fun _ _ _ _ _ _ us hl => match us, hl with | [], _ => rfl⟩
  have h__law_word : Has P w K mg base "_law_word" 2 ["_law_purse_here"] spWord := ⟨_, fd50, ok_word f50 B h__law_pick h__law_menu, He.glo_ok X G (c.fact 52 (f := .glo "_law_word") rfl), f50.kp, f50.binds fun _ _ _ _ _ _ us hl => match us, hl with | [_], _ => rfl⟩
  have h__law_fresh : Has P w K mg base "_law_fresh" 3 ["_law_purse_here", "_law_used"] spFresh := ⟨_, fd51, ok_fresh f51 B h__law_word, He.glo_ok X G (c.fact 53 (f := .glo "_law_fresh") rfl), f51.kp, f51.binds fun _ _ _ _ _ _ us hl => match us, hl with | [_, _], _ => rfl⟩
  have h__law_changes : Has P w K mg base "_law_changes" 2 ["_law_purse_here", "_law_most"] spChg4 := ⟨_, fd52, ok_chg4 f52 B h__law_pick, He.glo_ok X G (c.fact 54 (f := .glo "_law_changes") rfl), f52.kp, f52.binds fun _ _ _ _ _ _ us hl => match us, hl with | [_, _], _ => rfl⟩
  have h__law_land : Has P w K mg base "_law_land" 4 ["_law_purse_here", "_law_most"] spLand := ⟨_, fd53, ok_land f53 B h__law_pick h__law_fresh, He.glo_ok X G (c.fact 55 (f := .glo "_law_land") rfl), f53.kp, f53.binds fun _ _ _ _ _ _ us hl => match us, hl with | [_, _], _ => rfl⟩
  have h__law_names : Has P w K mg base "_law_names" 1 ["_law_laid"] spNames := ⟨_, fd54, ok_names f54 B, He.glo_ok X G (c.fact 56 (f := .glo "_law_names") rfl), f54.kp, f54.binds fun _ _ _ _ _ _ us hl => match us, hl with | [_], _ => rfl⟩
  have h__law_tellings : Has P w K mg base "_law_tellings" 4 ["_law_purse_here", "_law_towns", "_law_most"] spTels := ⟨_, fd55, ok_tels f55 B h__law_pick h__law_word h__law_fresh, He.glo_ok X G (c.fact 57 (f := .glo "_law_tellings") rfl), f55.kp, f55.binds fun _ _ _ _ _ _ us hl => match us, hl with | [_, _, _], _ => rfl⟩
  have h__law_gathered : Has P w K mg base "_law_gathered" 6 ["_law_laid", "_law_lines"] (spTome (He.ga K "Land") (He.ga K "Gathering")) := ⟨_, fd56, ok_tome f56 T TG h_Land__init__ h_Gathering__init__ h_put, He.glo_ok X G (c.fact 58 (f := .glo "_law_gathered") rfl), f56.kp, f56.binds fun _ _ _ _ _ _ us hl => match us, hl with | [_, _], _ => rfl⟩
  have h__law_sort : HasT P w K mg base "_law_sort" 1 ["_law_e"] (spSort K (adK K) (bdK K)) := ⟨_, fd57, ok_sort f57 B SG, He.glo_ok X G (c.fact 59 (f := .glo "_law_sort") rfl), f57.kp, f57.binds fun _ _ _ _ _ _ us hl => match us, hl with | [_], _ => rfl⟩
  have h__law_no_gathering : Has P w K mg base "_law_no_gathering" 10 ["_law_purse_here", "_law_held", "_law_laid"] (spNoG (He.ga K "Land") (He.ga K "Gathering") (He.ga K "WordMap")) := ⟨_, fd58, ok_nog f58 B T TG TM h_Land__init__ h_tellings h_Gathering__str__ h_WordMap__init__ h__law_pick, He.glo_ok X G (c.fact 60 (f := .glo "_law_no_gathering") rfl), f58.kp, f58.binds fun _ _ _ _ _ _ us hl => match us, hl with | [_, _, _], _ => rfl⟩
  have h__law_no_town : Has P w K mg base "_law_no_town" 2 ["_law_purse_here", "_law_towns"] (spNoT K) := ⟨_, fd59, ok_not f59 h__law_pick, He.glo_ok X G (c.fact 61 (f := .glo "_law_no_town") rfl), f59.kp, f59.binds fun _ _ _ _ _ _ us hl => match us, hl with | [_, _], _ => rfl⟩
  have h__law_no_changes : Has P w K mg base "_law_no_changes" 2 ["_law_purse_here", "_law_swaps"] spNoC := ⟨_, fd60, ok_noc f60 B h__law_pick, He.glo_ok X G (c.fact 62 (f := .glo "_law_no_changes") rfl), f60.kp, f60.binds fun _ _ _ _ _ _ us hl => match us, hl with | [_, _], _ => rfl⟩
  have h__law_tried : HasQ P w K mg base "_law_tried" 13 ["_law_way", "_law_held", "_law_town", "_law_rival", "_law_swaps"] (spTried K (He.ga K "Land") (He.ga K "Gathering")) := ⟨_, fd61, ok_tried f61 hrepr SG TNoName TNoChanges HT SN ENoName.1 ENoChanges.1 hX_apart hX_nearest hX_farthest h__law_sort, He.glo_ok X G (c.fact 63 (f := .glo "_law_tried") rfl), f61.kp, f61.binds fun _ _ _ _ _ _ us hl => match us, hl with | [_, _, _, _, _], _ => rfl⟩
  have h__law_right : HasQ P w K mg base "_law_right" 14 ["_law_purse_here", "_law_held", "_law_laid", "_law_swaps"] (spRight (He.ga K "Land") (He.ga K "Gathering")) := ⟨_, fd62, ok_right f62 B hrepr KN T2.ins insW h__law_names h__law_pick h__law_no_changes h__law_no_gathering h__law_no_town h__law_tried, He.glo_ok X G (c.fact 64 (f := .glo "_law_right") rfl), f62.kp, f62.binds fun _ _ _ _ _ _ us hl => match us, hl with | [_, _, _, _], _ => rfl⟩
  exact ok_law f63 B TG h_tellings h__law_cell h__law_purse h__law_changes h__law_land h__law_names h__law_tellings h__law_gathered h__law_right
end Wl

namespace Wl
open PySem PySem.Spec PyProof.Rows L2
noncomputable abbrev atEnd (w : World) (os : OsState) : Option PySem.W.SharedT := HandSHeadRun.endF (HandSHeadRun.stepQ (HandSHeadRun.denQ HandSHeadRun.tabQ) R.prog w) 12000 R.prog w os
theorem runA (w : World) (os : OsState) : (atEnd w os).map (fun s => (HandSHeadRun.looksF R.prog (PySem.W.boot_heap w.params) s.abs, HandSHeadRun.seenQ (PySem.W.view R.prog [96]) others (importedModules R.prog.main.body) (fun s => PySem.W.xlAt (PySem.W.view R.prog [96]) [] s && PySem.W.recOk R.toRowW.records s) s.abs)) = some (true, PySem.W.openGood (PySem.W.view R.prog [96]) others) := by
  kernel_rfl
theorem runB (w : World) (os : OsState) : (atEnd w os).map ob = some (He.valD fn, true) := by
  kernel_rfl
theorem run (w : World) : HandSHeadRun.RunEq R (PySem.W.view R.prog [96]) hk ob 12000 others w := fun os => map3 (runA w os) (runB w os)
end Wl

open PySem PySem.W PySem.Calls PyProof.Rows
theorem PySem.Challenge.cw_wordlines_k41_near_refused_holds : PySem.Challenge.rw_wordlines_k41_near_refused.Holds := by
  w_on; o_law
  refine HandSHeadRun.head_any (r := OpenLaw.row PySem.Challenge.rw_wordlines_k41_near_refused) (q := view (OpenLaw.row PySem.Challenge.rw_wordlines_k41_near_refused).prog [96]) (H := Wl.hk) (ob := Wl.ob) (M := 12000) (loose := Wl.others) (d := HandSHeadRun.topDef (OpenLaw.row PySem.Challenge.rw_wordlines_k41_near_refused).prog 96) (kwd := []) Wl.ob_eq
    (by kernel_rfl) (fun s => by kernel_rfl) Wl.run (by kernel_rfl) (by kernel_rfl) (by kernel_rfl) (by rfl) (by first | assumption | decide +kernel) (by decide +kernel) ⟨rfl, rfl, rfl, rfl, rfl, by decide +kernel⟩ ?hw ?hc
  case hw => w_witness2
  case hc =>
    refine Wl.walk_ofG (l := PySem.Challenge.rw_wordlines_k41_near_refused) (n := 63) (k := 15) (x := "_law_script") rfl (by decide) (by kernel_rfl) ⟨rfl, by decide, by decide⟩ ?F
    intro w mg fa h Y G hmg0
    obtain ⟨K, KX, c, cx⟩ := Y
    have hmg : mg ("law" : PySem.Str) = some (.ref fa) := by
      have e : (HandSHeadRun.topDef (OpenLaw.row PySem.Challenge.rw_wordlines_k41_near_refused).prog 96).name = ("law" : PySem.Str) := by kernel_rfl
      rw [← e]
      exact hmg0
    obtain ⟨fd, hb, hF⟩ := Wl.facts (P := (PySem.Challenge.rw_wordlines_k41_near_refused).prog) (w := w) KX G hmg c cx
    exact ⟨K, fd, Wl.spLaw K, KX, hb, fun H a ns hl _ hS => ⟨a, ns, rfl, hS, hl, fun _ => rfl⟩, hF⟩

