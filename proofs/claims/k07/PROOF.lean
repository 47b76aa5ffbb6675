import PyProof.Rows.All
import Wide.All
import OpenK.AllK
import Wide.FinOn
import HandS.ForMost
import HandS.Defaults
import HandS.MakeKwOnly
import HandS.Conv
import HandS.IsInst
import HandS.Walk
import HandS.Flow
import KE.SortData
import KE.DataMinMax
import KE.GoesMore
import HandS.Style
import HandS.DictComp
import HandS.Replace
import HandS.MakeKw
import KE.KExcIs
import HandS.HotCalls
import HandS.ExcField
import KE.KExcInit
import HandS.Ends
import HandS.Words
import HandS.Comp
import HandS.WordsExc
import HandS.More
import KE.KEqNest
import PyProof.EqAt
import HandS.List
import HandS.Head0
import HandS.HeadHook1
import HandS.HeadHook2
import HandS.HeadNt
import HandS.OwnEq
import KE.KCallOwn
import KE.KFmtOwn
import PyProof.ReprRoads
import PyProof.Rows.RegFStrParts
import HandS.JoinGen
import HandS.HeadEnd
import HandS.Codes
import HandS.FStr
import HandS.TupAny
import HandS.TupMul
import HandS.DictEq
import KE.KStateDown
import Lean
import HandS.Head1
import HandS.Head2
import PySem.Challenge.RW_wordlines_k07_lands_refused
set_option Elab.async false
set_option linter.all false
set_option maxRecDepth 100000
set_option maxHeartbeats 0
/-! Rules of ours beside the layer: sorted of data, min and max of two texts, in of nested tuples, methods by keyword, enumerate of a tuple. -/
namespace Wl
open PySem PySem.Spec PyProof.Rows L2

/-! sorted(list of data) -/
def rSortD (K : PySem.W.Frag) : List V → Hp → VK → Prop := fun vs H Q =>
  ∃ (a : Addr) (bs : List (V × PyData)), vs = [V.ref a] ∧ SqL K H a (bs.map (·.1)) ∧ (∀ b ∈ bs, Dp K H b.1 b.2) ∧
    PySem.W.AllAlike (bs.map (·.2)) ∧ PySem.W.Sortable (bs.map (·.2)) ∧ (∀ b ∈ bs, b.2.depth ≤ 8) ∧
    ∀ p, H p = none → Q (.ref p) (upd H p (.lst ((bs.mergeSort (PySem.W.dataLe false (·.2))).map (·.1))))
theorem each_of_vals : ∀ {bs : List (V × PyData)} {its : List Value}, Vals (bs.map (·.1)) its → PySem.W.EachIs (fun u b => RelV b.1 u) its bs
  | [], [], _ => .nil
  | [], _ :: _, h => nomatch h
  | _ :: _, [], h => nomatch h
  | b :: bs, u :: us, h => by
    cases h with
    | cons r t => exact .cons r (each_of_vals t)
theorem vals_of_each : ∀ {bs : List (V × PyData)} {its : List Value}, PySem.W.EachIs (fun u b => RelV b.1 u) its bs → Vals (bs.map (·.1)) its
  | _, _, .nil => .nil
  | _, _, .cons r t => .cons r (vals_of_each t)
theorem each_reads {X : Cx} {pins : List (Addr × Obj)} {σ : L2.St} {H : Hp} {s : Shared} (I : Inv X pins σ H s) :
    ∀ {bs : List (V × PyData)} {its : List Value}, (∀ b ∈ bs, Dp X.K H b.1 b.2) → PySem.W.EachIs (fun u b => RelV b.1 u) its bs →
      PySem.W.EachIs (fun v b => ∃ as, Reads s.heap v b.2 as) its bs
  | _, _, _, .nil => .nil
  | _, _, hd, .cons r t => .cons (Dp.reads I _ _ _ (hd _ List.mem_cons_self) r) (each_reads I (fun b m => hd b (List.mem_cons_of_mem _ m)) t)
theorem cr_sortD {X : Cx} (hu : X.A.units + 64 < cLine) : CallR X (.builtin "sorted") (rSortD X.K) := by
  intro pins s σ H vs us Q I r h
  obtain ⟨a, bs, rfl, hs, hd, ha, hk, hz, q⟩ := h
  obtain ⟨its, rv, hl, hn⟩ := I.list hs
  obtain ⟨u, rfl, ru⟩ := vals1 r
  obtain rfl : u = Value.ref a := ru
  have e := each_of_vals rv
  have hbn : bs.length ≤ sizeLine := by
    rw [List.length_map] at hn
    exact hn
  refine PySem.W.sorted_data (R := fun u b => RelV b.1 u) (enc := (·.2)) hl.isList e (each_reads I hd e) ha hk hbn (fun b hb => ?_) fun out ho eo => ?_
  · have := hz b hb
    omega
  · have rv2 := vals_of_each eo
    obtain ⟨n, hn2⟩ := sortedAll_at s.heap its out.toArray
    have hlen : ((bs.mergeSort (PySem.W.dataLe false (·.2))).map (·.1)).length ≤ sizeLine := by
      rw [List.length_map, List.length_mergeSort]
      exact hbn
    exact ⟨.ref (s.heap.objs.size + 1), _, I.laid (t' := s.toks) (o := .lst ((bs.mergeSort (PySem.W.dataLe false (·.2))).map (·.1))) (fun b o e => sortedAll_old e) (Nat.le_succ _) ⟨hlen, out, n, rv2, hn2⟩, rfl, q _ (I.hok.fresh (Nat.le_succ _))⟩

/-! min, max of a tuple of two texts -/
def rTwo (K : PySem.W.Frag) (f : Str → Str → Str) : List V → Hp → VK → Prop := fun vs H Q =>
  ∃ (a : Addr) (x y : Str), vs = [V.ref a] ∧ SqT K H a [.str x, .str y] ∧ Q (.str (f x y)) H
def lessOf (x y : Str) : Str := if y.cps.toList < x.cps.toList then y else x
def moreOf (x y : Str) : Str := if x.cps.toList < y.cps.toList then y else x
theorem alike2 (x y : Str) : PySem.W.AlikeAll [PyData.str x, .str y] := by
  refine ⟨fun a ha b hb => ?_, fun a ha => ?_⟩
  · simp only [List.mem_cons, List.not_mem_nil, or_false] at ha hb
    rcases ha with rfl | rfl <;> rcases hb with rfl | rfl <;> rfl
  · simp only [List.mem_cons, List.not_mem_nil, or_false] at ha
    rcases ha with rfl | rfl <;> exact fun z => by cases z
theorem dp2 {K : PySem.W.Frag} {H : Hp} (x y : Str) : DpAll K H [.str x, .str y] [PyData.str x, .str y] := .cons (.str x) (.cons (.str y) .nil)
theorem cr_minT {X : Cx} (hc : X.calm = true) (hu : X.A.units + 64 < cLine) : CallR X (.builtin "min") (rTwo X.K lessOf) := by
  intro pins s σ H vs us Q I r h
  obtain ⟨a, x, y, rfl, hs, q⟩ := h
  obtain ⟨its, rv, hl, hn⟩ := I.tuple hs
  obtain ⟨u, rfl, ru⟩ := vals1 r
  obtain rfl : u = Value.ref a := ru
  obtain ⟨as, hr⟩ := Dp.readsAll I _ _ its (dp2 x y) rv
  refine PySem.W.min_tuple_data (I.ok.hd hc) (show s.heap.IsTuple a its.toArray from hl) (by simpa using hr) (alike2 x y) (by
    have : PyData.depthAll [PyData.str x, .str y] = 0 := rfl
    omega) fun i v h' tk bs hv hR hk => ?_
  have e : PySem.W.minD (.str x) [.str y] = .str (lessOf x y) := by
    unfold PySem.W.minD lessOf
    simp only [List.foldl_cons, List.foldl_nil, PySem.W.dataLt_str]
    by_cases c : y.cps.toList < x.cps.toList <;> simp [c]
  rw [e] at hR
  cases hR with
  | str z t => exact ⟨.str _, H, I.kept (t' := tk) hk, ⟨_, rfl⟩, q⟩
theorem cr_maxT {X : Cx} (hc : X.calm = true) (hu : X.A.units + 64 < cLine) : CallR X (.builtin "max") (rTwo X.K moreOf) := by
  intro pins s σ H vs us Q I r h
  obtain ⟨a, x, y, rfl, hs, q⟩ := h
  obtain ⟨its, rv, hl, hn⟩ := I.tuple hs
  obtain ⟨u, rfl, ru⟩ := vals1 r
  obtain rfl : u = Value.ref a := ru
  obtain ⟨as, hr⟩ := Dp.readsAll I _ _ its (dp2 x y) rv
  refine PySem.W.max_tuple_data (I.ok.hd hc) (show s.heap.IsTuple a its.toArray from hl) (by simpa using hr) (alike2 x y) (by
    have : PyData.depthAll [PyData.str x, .str y] = 0 := rfl
    omega) fun i v h' tk bs hv hR hk => ?_
  have e : PySem.W.maxD (.str x) [.str y] = .str (moreOf x y) := by
    unfold PySem.W.maxD moreOf
    simp only [List.foldl_cons, List.foldl_nil, PySem.W.dataLt_str]
    by_cases c : x.cps.toList < y.cps.toList <;> simp [c]
  rw [e] at hR
  cases hR with
  | str z t => exact ⟨.str _, H, I.kept (t' := tk) hk, ⟨_, rfl⟩, q⟩

/-! x in a tuple of data -/
def rInDT (K : PySem.W.Frag) : R2 := fun x y H Q => ∃ d ds, Dp K H x d ∧ Dp K H y (.tuple ds) ∧ SeqAt.shaped d = true ∧
  SeqAt.shaped (.tuple ds) = true ∧ Q (.bl (ds.any fun z => PyData.eqv z d)) H
theorem op_inDT {X : Cx} (hu : X.A.units + 65 < cLine) : OpR X (compareOp .In) (rInDT X.K) := by
  intro pins s σ H x y v u Q I rx ry h
  obtain ⟨d, ds, hd, he, sd, se, q⟩ := h
  obtain ⟨as, r1⟩ := Dp.reads I d x v hd rx
  obtain ⟨bs, r2⟩ := Dp.reads I (.tuple ds) y u he ry
  exact SeqAt.in_tuple_reads r2 r1 (SeqAt.canLay_of_shaped se) (SeqAt.canLay_of_shaped sd) (room_in_shaped sd hu) ⟨.bl _, H, I, rfl, q⟩

/-! o.m(k = e): one argument by its name -/
def g2 {α : Type} : List α → List α → List α
  | [a], [b] => [a, b]
  | _, _ => []
theorem g2_rel : ∀ {vs : List V} {us : List Value} {zs : List V} {ws : List Value}, Vals vs us → Vals zs ws → Vals (g2 vs zs) (g2 us ws)
  | _, _, _, _, .nil, _ => .nil
  | _, _, _, _, .cons a (.cons b c), _ => .nil
  | _, _, _, _, .cons a .nil, .nil => .nil
  | _, _, _, _, .cons a .nil, .cons b .nil => .cons a (.cons b .nil)
  | _, _, _, _, .cons a .nil, .cons b (.cons c d) => .nil
def tMethK (C : Addr) (m : Str) (sp : Sp) (E : XK) (ta : TE) (tk : TA) : TE := fun σ H Q => ta σ H fun x H1 =>
  ∃ a dx fs, x = .ref a ∧ H1 a = some (.ins C dx fs) ∧ fs.lookup m = none ∧ tk σ H1 fun zs H2 => sp (g2 [.ref a] zs) H2 Q E
theorem pe_methK {X : Cx} {CX : CXT} {k : Nat} {f C : Addr} {fd : FuncData} {ps ks : List Str} {sp : Sp} {E : XK} {m : Str} {pos apos : Pos} {o : Expr} {kws : List Keyword} {ta : TE} {tk : TA} {pl : Sem Bool}
    (he : PE X o ta) (c : Cls X.K C) (hm : Meth X.K C m f) (F : FnOk X.prog X.w X.K X.mg X.base CX k f fd ps sp) (hr : Room k X.A) (hb : KBinds X.K fd ps ks g2 g2) (hx : Passes CX X E) (hkw : PK X kws tk)
    (hall : (backToKw pos (keywordEach kws X.env)).all (·.1.isSome) = true := by rfl) (hks : (backToKw pos (keywordEach kws X.env)).filterMap (·.1) = ks := by rfl)
    (hpl : ((backTo pos (starEach [] X.env)).any (·.1) || (backToKw pos (keywordEach kws X.env)).any (·.1.isNone)) = false := by rfl)
    (ht : eval (.Call (.Attribute o m apos) [] kws pos) X.env = (do
      let ov ← eval o X.env
      standAt apos.atName
      let (f, first) ← holding [ov] (getMethod ov m pl)
      callWith pos f first (backTo pos (starEach [] X.env)) (backToKw pos (keywordEach kws X.env))) := by rfl) :
    PE X (.Call (.Attribute o m apos) [] kws pos) (tMethK C m sp E ta tk) := by
  refine ⟨fun pins s σ H Q I h => ?_⟩
  refine PySem.W.methodCall_KW (pl := pl) (thn (he.run pins s σ H _ I h) fun u s1 ⟨x, H1, I1, rx, a, dx, fs, ex, ea, l, q⟩ => ?_) ht
  subst ex
  obtain rfl : u = Value.ref a := rx
  refine getmeth_ok I1 ea c hm l ?_
  refine PySem.W.callWith_KW0 (first := [.ref a]) (h₀ := X.base) I.ok.mod.kin hm.kp hall (thn (hkw.run pos pins s1 σ H1 _ I1 q) fun ws s2 ⟨zs, H2, I2, rz, q2⟩ => ⟨I2.kIn, ?_⟩) hpl
  rw [hks]
  exact run_fnk (us := [.ref a]) (vs := [.ref a]) F hr hb hx I2 (.cons rfl .nil) rz q2

/-! enumerate(a tuple) -/
open AutoSeq1 (wpAny_loadPart') in
theorem new_enumT (l : Addr) (items : Array Value) (n : Nat) (dct : Option Addr) (sl : Array (Option Value)) :
    Meets (Builtin.«enumerate.__new__» ⟨[.type "enumerate", .ref l], []⟩) (fun _ R s =>
      s.heap.get? l = some { cls := .type "tuple", dict := dct, data := .seq items n, slots := sl } ∧
      R (.ok (.ret (.ref (s.heap.push { cls := .type "tuple_iterator", data := .fields #[.ref l, .int 0 0] }).objs.size)))
        { s with heap := (s.heap.push { cls := .type "tuple_iterator", data := .fields #[.ref l, .int 0 0] }).push { cls := .type "enumerate", data := .fields #[.none, .bool false, .ref s.heap.objs.size, rawInt 0, .none, .none] } }) :=
  .of_wp fun prog w A R s h => by
    obtain ⟨hp, g, d, tk, os⟩ := s
    obtain ⟨hl, h⟩ := h
    have hsub := sub_enumerate
    have hT : Heap.IsTuple (Shared.heap ⟨hp, g, d, tk, os⟩) l items := ⟨_, hl, rfl, n, rfl⟩
    wp_walk using wpAny_loadPart' hl
    refine wpAny_stack_any fun st => wpAny_pure ?_
    split
    · rename_i c _ _ _ _ _
      cases (c == Value.type "enumerate") <;> (wp_walk using wpAny_loadPart' hl, wpAny_pyIter_tuple hT; exact ⟨_, rfl, h⟩)
    · (wp_walk using wpAny_loadPart' hl, wpAny_pyIter_tuple hT); exact ⟨_, rfl, h⟩
section
variable {prog : Program} {w : World} {A : Around} {E : Value → Shared → Prop} {s : Shared}
theorem make_enumT {l : Addr} {items : Array Value} {Q : Value → Shared → Prop} (hL : s.heap.IsTuple l items)
    (h : ∀ h', IsEnum h' (s.heap.objs.size + 1) s.heap.objs.size 0 .none → h'.IsTupleIter s.heap.objs.size l 0 →
      (∀ b o, s.heap.get? b = some o → h'.get? b = some o) → Q (.ref (s.heap.objs.size + 1)) { s with heap := h' }) :
    wpAny (model prog w) A (call (.type "enumerate") [.ref l]) Q E s := by
  obtain ⟨⟨c, dct, dt, sl⟩, hl, hc, n, hd⟩ := hL
  obtain rfl : c = .type "tuple" := hc
  obtain rfl : dt = .seq items n := hd
  refine callType_new F.called_enumerate (by decide) (F.typeCall_enumerate_1 _) (F.newCall_enumerate_1 _) (fun obj => F.args_object_init_2 obj _) F.entry_enumerate_new (new_enumT l items n dct sl) ⟨hl, ?_⟩
  have hz : (s.heap.push { cls := .type "tuple_iterator", data := .fields #[.ref l, .int 0 0] }).objs.size = s.heap.objs.size + 1 := Heap.size_push ..
  rw [hz]
  have he : IsEnum ((s.heap.push { cls := .type "tuple_iterator", data := .fields #[.ref l, .int 0 0] }).push { cls := .type "enumerate", data := .fields #[.none, .bool false, .ref s.heap.objs.size, rawInt 0, .none, .none] })
      (s.heap.objs.size + 1) s.heap.objs.size 0 .none := hz ▸ Heap.get?_push_size (s.heap.push { cls := .type "tuple_iterator", data := .fields #[.ref l, .int 0 0] }) rfl
  exact ⟨⟨_, he, rfl⟩, h _ he ⟨_, Heap.get?_push_of_some _ (Heap.get?_push_size _ rfl), rfl, rfl⟩ fun b o x => Heap.get?_push_of_some _ (Heap.get?_push_of_some _ x)⟩
end
def IteT (K : PySem.W.Frag) (a : Addr) : It where
  go := fun i H => ∃ (xs : List V) (x : V), SqT K H a xs ∧ xs[i]? = some x
  yld := fun i H v H' => ∃ T x, v = .ref T ∧ H T = none ∧ H' = upd H T (.tup [.int (i : Nat), x]) ∧ ∀ xs, SqT K H a xs → xs[i]? = some x
  stop := fun i H => ∃ xs : List V, SqT K H a xs ∧ xs.length ≤ i
theorem apart_of {h : Heap} {a b : Addr} {o u : Obj} (ha : h.get? a = some o) (hb : h.get? b = some u) (hc : o.cls ≠ u.cls) : a ≠ b := fun e => by
  subst e
  rw [ha] at hb
  exact hc (congrArg Obj.cls (Option.some.inj hb))
theorem turn_enumT {P : Program} {w : World} {K : PySem.W.Frag} {elts : List Expr} {kk : Nat} {tpos : Pos} (a e it : Addr) :
    Turn P w K (.Tuple elts kk tpos) (IteT K a) [e, it] e (fun i h => (∃ old, IsEnum h e it ((i : Nat) : Int) old) ∧ h.IsTupleIter it a i ∧ e ≠ it) where
  mem := by simp
  obj := fun i h st b hb => by
    obtain ⟨⟨old, he⟩, ⟨o, ho, hc, hd⟩, _⟩ := st
    rcases (show b = e ∨ b = it by simpa using hb) with z | z
    · subst z; exact ⟨_, he, fun v q => nomatch q⟩
    · subst z; exact ⟨o, ho, fun v q => by rw [hd] at q; cases q⟩
  keep := fun i h h' st k => let ⟨⟨old, he⟩, hi, hne⟩ := st; ⟨⟨old, k e (by simp) _ he⟩, hi.at fun o q => k it (by simp) o q, hne⟩
  item := by
    intro X hP hw hK hc i pins s σ H E I hf st hg
    subst hP hw hK
    obtain ⟨⟨old, he⟩, hit, hne⟩ := st
    obtain ⟨xs, x, hq, hx⟩ := hg
    obtain ⟨its, rv, p, hz⟩ := I.tuple hq
    obtain ⟨u, hu, ru⟩ := rv.get hx
    have hT : s.heap.IsTuple a its.toArray := p
    obtain ⟨oi, hoi, hci, _⟩ := id hit
    obtain ⟨oa, hoa, hca, _⟩ := id hT
    have hel : e < s.heap.objs.size := Heap.lt_size he
    have hil : it < s.heap.objs.size := Heap.lt_size hoi
    have nai : a ≠ it := apart_of hoa hoi (by rw [hca, hci]; decide)
    have nea : e ≠ a := apart_of he hoa (by rw [hca]; show Value.type "enumerate" ≠ Value.type "tuple"; decide)
    have hi : i < its.toArray.size := by
      have := (List.getElem?_eq_some_iff.mp hu).1
      simpa using this
    refine wpAny_pyNext_enum_itemD (Draws.tuple (prog := X.prog) (w := X.w) (A := X.A.in1) (I.ok.hd hc) it a nai its.toArray) he ⟨hit, hT⟩ hi hne (by simp [hne, nea]) fun y h' tk hy ho hst hTp hsz hk => ?_
    obtain rfl : u = y := by
      have q : its.toArray[i]? = some u := by simpa using hu
      exact Option.some.inj (q.symm.trans hy)
    refine ⟨_, rfl, wpAny_letOwnedTupleGo_enum (s := { s with heap := h', toks := tk + 1 }) ho fun h'' he' sb => ?_⟩
    have hT2 : h''.get? s.heap.objs.size = some { cls := .type "tuple", data := .seq #[.int i tk, u] } := (sb.2 _ (Nat.ne_of_gt hel)).trans hTp
    have new : ObjOk X.prog X.w (upd H s.heap.objs.size (.tup [.int (i : Nat), x])) h'' s.heap.objs.size (.tup [.int (i : Nat), x]) :=
      ⟨by show 2 ≤ sizeLine; decide, [.int i tk, u], .cons ⟨_, rfl⟩ (.cons ru .nil), ⟨_, hT2, rfl, _, rfl⟩⟩
    have I1 : L2.Inv X pins σ (upd H s.heap.objs.size (.tup [.int (i : Nat), x])) { s with heap := h'', toks := tk + 1 } :=
      I.turnedNew (ch := [e, it]) (fun b ob hb q => by
        simp only [List.mem_cons, List.not_mem_nil, or_false, not_or] at hb
        exact (sb.2 b hb.1).trans (hk b ob hb.1 hb.2 q)) hf (Nat.le_refl _) new
    have e1 : ((i + 1 : Nat) : Int) = (i : Int) + 1 := by omega
    refine ⟨.ref s.heap.objs.size, _, I1, rfl, ⟨_, x, rfl, I.hok.fresh (Nat.le_refl _), rfl, fun ys hy => by rw [I.tuple_inj hy hq]; exact hx⟩,
      ⟨⟨u, by rw [e1]; exact he'⟩, hst.1.at fun o q => (sb.2 it (Ne.symm hne)).trans q, hne⟩, fun b hb => ?_⟩
    have hb' : b < s.heap.objs.size := by
      rcases (show b = e ∨ b = it by simpa using hb) with z | z <;> subst z <;> assumption
    rw [upd_ne (Nat.ne_of_lt hb')]
    exact (hf b hb).1
  done := by
    intro X hP hw hK hc i pins s σ H E I hf st hg
    subst hP hw hK
    obtain ⟨⟨old, he⟩, hit, hne⟩ := st
    obtain ⟨xs, hq, hx⟩ := hg
    obtain ⟨its, rv, p, hz⟩ := I.tuple hq
    obtain ⟨f0, f1, f2, f3, f4, f5⟩ := hf it (by simp)
    have hT : s.heap.IsTuple a its.toArray := p
    have hl : xs.length = its.length := rv.length
    have hT2 : ¬ (i < its.toArray.size) := by simp; omega
    show wpAny _ _ (pyNext (.ref e)) _ _ s
    have hTy : s.TypeIs (.ref e) "enumerate" := ⟨_, he, rfl⟩
    unfold pyNext
    refine wpAny_bind (wpAny_attempt (wpAny_callSpecial?_slot (name := Str.ofString "__next__") hTy F.slot_enumerate_next (wpAny_call_entry F.slot_enumerate_next hTy F.entry_enumerate_next ?_ (F.args_enumerate_next_1 _))))
    show wpAny _ _ (field (.ref e) 2 >>= _) _ _ _
    refine wpAny_bind (wpAny_field he rfl (x := .ref it) rfl (wpAny_bind (wpAny_nextOf_tuple_end (I.ok.hd hc) hit hT (Array.getElem?_eq_none (by omega)) fun h' x he' hx' => ?_)))
    obtain ⟨o, ho, hcc⟩ := hx'
    exact wpAny_bind (wpAny_isInstance (T := "StopIteration") (b := true) ⟨o, ho, hcc⟩ isSubtype_stop (wpAny_pure ⟨rfl, I.turned (t' := s.toks) (fun b o hb q => he' b o hb q) f0 f1 f3 f4 f5⟩))
  self := fun A i s Q E st h => let ⟨⟨_, he⟩, _⟩ := st; wpAny_pyIter_enum he h
def iEnumT (K : PySem.W.Frag) (ta : TA) : TI := fun σ H R => ta σ H fun vs H1 => ∃ a xs, vs = [.ref a] ∧ SqT K H1 a xs ∧ R (IteT K a) H1
theorem pi_enumT {X : Cx} {e : Expr} {ta : TA} {p pos tpos : Pos} {elts : List Expr} {kk : Nat} (hg : Gl X "enumerate") (hm : X.mg "enumerate" = none) (ha : PA X [e] ta) (hs : starEach [e] X.env = [(false, eval e X.env)] := by rfl) :
    PI X (.Tuple elts kk tpos) (.Call (.Name "enumerate" p) [e] [] pos) (iEnumT X.K ta) := by
  refine ⟨fun pins s σ H R I h => ?_⟩
  refine Call_ (ld_blt I hg hm boot_enumerate (PyProof.Rows.callWith_type1 (thn (ha.run pos pins s σ H _ I h) fun us s1 ⟨vs, H1, I1, r1, q1⟩ => ?_) hs rfl))
  obtain ⟨a, xs, rfl, hq, q⟩ := q1
  obtain ⟨u, rfl, ru⟩ := vals1 r1
  obtain rfl : u = Value.ref a := ru
  obtain ⟨its, rv, p', hz⟩ := I1.tuple hq
  refine make_enumT (show s1.heap.IsTuple a its.toArray from p') fun h' he hit hk => wpAny_pyIter_enum he ?_
  refine ⟨s1.heap.objs.size + 1, [s1.heap.objs.size + 1, s1.heap.objs.size], _, _, H1, rfl, I1.kept (t' := s1.toks) hk, turn_enumT a (s1.heap.objs.size + 1) s1.heap.objs.size, ⟨⟨.none, he⟩, hit, Nat.succ_ne_self _⟩, fun b hb => ?_, q⟩
  have hle : s1.heap.objs.size ≤ b := by
    rcases (show b = s1.heap.objs.size + 1 ∨ b = s1.heap.objs.size by simpa using hb) with z | z <;> rw [z]
    · exact Nat.le_add_right _ _
    · exact Nat.le_refl _
  exact I1.fpOk hle (I1.hok.fresh hle)
theorem walk_enumT {K : PySem.W.Frag} {a : Addr} {xs : List V} : Walk (IteT K a) xs.length (fun H => SqT K H a xs) (YPair (fun i => some (.int (i : Nat))) (fun i => xs[i]?)) := by
  refine ⟨fun i _ hi q => ⟨xs, xs[i], q, by simp [hi]⟩, fun _ q => ⟨xs, q, Nat.le_refl _⟩, ?_⟩
  rintro i H v H' _ q ⟨T, x, h1, h2, h3, h4⟩
  exact ⟨T, .int (i : Nat), x, h1, h2, h3, rfl, h4 xs q⟩
end Wl

namespace Wl
open PySem

/-! ### strictly rising lists -/
theorem rising_ext {α : Type} {lt : α → α → Prop} (ir : ∀ a, ¬ lt a a) (tr : ∀ a b c, lt a b → lt b c → lt a c) :
    ∀ {l m : List α}, l.Pairwise lt → m.Pairwise lt → (∀ x, x ∈ l ↔ x ∈ m) → l = m
  | [], [], _, _, _ => rfl
  | [], y :: m, _, _, h => absurd ((h y).mpr List.mem_cons_self) (by simp)
  | x :: l, [], _, _, h => absurd ((h x).mp List.mem_cons_self) (by simp)
  | x :: l, y :: m, hl, hm, h => by
    obtain ⟨hx, hl'⟩ := List.pairwise_cons.mp hl
    obtain ⟨hy, hm'⟩ := List.pairwise_cons.mp hm
    have e : x = y := by
      rcases List.mem_cons.mp ((h x).mp List.mem_cons_self) with e | h1
      · exact e
      · rcases List.mem_cons.mp ((h y).mpr List.mem_cons_self) with e | h2
        · exact e.symm
        · exact absurd (tr _ _ _ (hx y h2) (hy x h1)) (ir x)
    subst e
    have : l = m := rising_ext ir tr hl' hm' fun z => by
      constructor
      · intro hz
        rcases List.mem_cons.mp ((h z).mp (List.mem_cons_of_mem _ hz)) with e | q
        · exact absurd (hx z hz) (by rw [e]; exact ir x)
        · exact q
      · intro hz
        rcases List.mem_cons.mp ((h z).mpr (List.mem_cons_of_mem _ hz)) with e | q
        · exact absurd (hy z hz) (by rw [e]; exact ir x)
        · exact q
    rw [this]

/-! ### texts by their codes -/
theorem str_ext {a b : Str} (h : a.cps.toList = b.cps.toList) : a = b := by
  cases a; cases b
  exact congrArg Str.mk (Array.ext' h)
abbrev ltS (a b : Str) : Prop := a.cps.toList < b.cps.toList
theorem ltS_irr (a : Str) : ¬ ltS a a := List.lt_irrefl _
theorem ltS_tr (a b c : Str) (h : ltS a b) (k : ltS b c) : ltS a c := List.lt_trans h k
theorem ltS_tot {a b : Str} (h : ¬ ltS a b) (k : ¬ ltS b a) : a = b :=
  str_ext (List.le_antisymm (List.not_lt.mp k) (List.not_lt.mp h))
def leB (a b : Str) : Bool := !decide (ltS b a)
theorem leB_trans (a b c : Str) (h : leB a b = true) (k : leB b c = true) : leB a c = true := by
  simp only [leB, Bool.not_eq_true', decide_eq_false_iff_not] at h k ⊢
  exact fun q => by
    by_cases e : ltS a b
    · exact k (ltS_tr _ _ _ q e)
    · have := ltS_tot e h
      subst this
      exact k q
theorem leB_total (a b : Str) : (leB a b || leB b a) = true := by
  simp only [leB, Bool.or_eq_true, Bool.not_eq_true', decide_eq_false_iff_not]
  by_cases h : ltS b a
  · exact .inr fun q => ltS_irr _ (ltS_tr _ _ _ h q)
  · exact .inl h
def sortS (xs : List Str) : List Str := xs.mergeSort leB
theorem mem_sortS {xs : List Str} {z : Str} : z ∈ sortS xs ↔ z ∈ xs := List.mem_mergeSort
theorem sortS_len (xs : List Str) : (sortS xs).length = xs.length := List.length_mergeSort _
theorem sortS_rising {xs : List Str} (h : xs.Nodup) : (sortS xs).Pairwise ltS := by
  have h1 : (sortS xs).Pairwise (fun a b => leB a b = true) := List.pairwise_mergeSort leB_trans leB_total xs
  have h2 : (sortS xs).Pairwise (· ≠ ·) := (List.mergeSort_perm xs leB).nodup_iff.mpr h
  refine List.Pairwise.imp₂ ?_ h1 h2
  intro a b q n
  simp only [leB, Bool.not_eq_true', decide_eq_false_iff_not] at q
  exact Classical.byContradiction fun c => n (ltS_tot c q)
/-- what is strictly rising with the same members is the sorted list -/
theorem sortS_eq {xs l : List Str} (h : xs.Nodup) (hl : l.Pairwise ltS) (hm : ∀ z, z ∈ l ↔ z ∈ xs) : l = sortS xs :=
  rising_ext ltS_irr ltS_tr hl (sortS_rising h) fun z => (hm z).trans mem_sortS.symm

/-! ### pairs of texts -/
abbrev Two := Str × Str
def ltP (p q : Two) : Prop := ltS p.1 q.1 ∨ (p.1 = q.1 ∧ ltS p.2 q.2)
instance (p q : Two) : Decidable (ltP p q) := by unfold ltP; infer_instance
theorem ltP_irr (p : Two) : ¬ ltP p p := by
  rintro (h | ⟨_, h⟩) <;> exact ltS_irr _ h
theorem ltP_tr (p q r : Two) (h : ltP p q) (k : ltP q r) : ltP p r := by
  obtain ⟨p1, p2⟩ := p
  obtain ⟨q1, q2⟩ := q
  obtain ⟨r1, r2⟩ := r
  rcases h with h | ⟨e, h⟩ <;> rcases k with k | ⟨f, k⟩
  · exact .inl (ltS_tr _ _ _ h k)
  · simp only at f; subst f; exact .inl h
  · simp only at e; subst e; exact .inl k
  · simp only at e f; subst e f; exact .inr ⟨rfl, ltS_tr _ _ _ h k⟩
theorem ltP_tot {p q : Two} (h : ¬ ltP p q) (k : ¬ ltP q p) : p = q := by
  obtain ⟨p1, p2⟩ := p
  obtain ⟨q1, q2⟩ := q
  simp only [ltP, not_or, not_and] at h k
  have e : p1 = q1 := ltS_tot h.1 k.1
  subst e
  rw [ltS_tot (h.2 rfl) (k.2 rfl)]
def lePB (a b : Two) : Bool := !decide (ltP b a)
theorem lePB_trans (a b c : Two) (h : lePB a b = true) (k : lePB b c = true) : lePB a c = true := by
  simp only [lePB, Bool.not_eq_true', decide_eq_false_iff_not] at h k ⊢
  exact fun q => by
    by_cases e : ltP a b
    · exact k (ltP_tr _ _ _ q e)
    · have := ltP_tot e h
      subst this
      exact k q
theorem lePB_total (a b : Two) : (lePB a b || lePB b a) = true := by
  simp only [lePB, Bool.or_eq_true, Bool.not_eq_true', decide_eq_false_iff_not]
  by_cases h : ltP b a
  · exact .inr fun q => ltP_irr _ (ltP_tr _ _ _ h q)
  · exact .inl h
def sortP (xs : List Two) : List Two := xs.mergeSort lePB
theorem mem_sortP {xs : List Two} {z : Two} : z ∈ sortP xs ↔ z ∈ xs := List.mem_mergeSort
theorem sortP_len (xs : List Two) : (sortP xs).length = xs.length := List.length_mergeSort _
theorem sortP_rising {xs : List Two} (h : xs.Nodup) : (sortP xs).Pairwise ltP := by
  have h1 : (sortP xs).Pairwise (fun a b => lePB a b = true) := List.pairwise_mergeSort lePB_trans lePB_total xs
  have h2 : (sortP xs).Pairwise (· ≠ ·) := (List.mergeSort_perm xs lePB).nodup_iff.mpr h
  refine List.Pairwise.imp₂ ?_ h1 h2
  intro a b q n
  simp only [lePB, Bool.not_eq_true', decide_eq_false_iff_not] at q
  exact Classical.byContradiction fun c => n (ltP_tot c q)
theorem sortP_eq {xs l : List Two} (h : xs.Nodup) (hl : l.Pairwise ltP) (hm : ∀ z, z ∈ l ↔ z ∈ xs) : l = sortP xs :=
  rising_ext ltP_irr ltP_tr hl (sortP_rising h) fun z => (hm z).trans mem_sortP.symm

/-! ### the machine's order is ours -/
theorem le_data_str (a b : Str) : (!PySem.W.dataLt (.str b) (.str a)) = leB a b := by
  rw [PySem.W.dataLt_str]
  rfl
theorem le_data_two (a b : Two) : (!PySem.W.dataLt (.tuple [.str b.1, .str b.2]) (.tuple [.str a.1, .str a.2])) = lePB a b := by
  rw [PySem.W.dataLt_pair rfl rfl, PySem.W.dataLt_str, PySem.W.dataLt_str]
  unfold lePB
  congr 1
  have q : ∀ x y : Str, (PyData.eqv (.str x) (.str y) = true) = (x = y) := fun x y => by simp [PyData.eqv]
  simp only [q]
  by_cases h : b.1 = a.1
  · by_cases k : b.2 = a.2
    · have e : b = a := Prod.ext h k
      subst e
      simp [ltP_irr]
    · simp only [h, k, if_true, if_false, ltP]
      by_cases z : ltS b.2 a.2
      · simp [z]
      · simp [z, ltS_irr]
  · simp only [h, if_false, ltP]
    by_cases z : ltS b.1 a.1 <;> simp [z, h]
end Wl

namespace Wl
open PySem PySem.Spec PyProof.Rows L2

/-! ### defs that keep promises, by name -/
def Has (P : Program) (w : World) (K : PySem.W.Frag) (mg : Str → Option Value) (base : Heap) (x : Str) (k : Nat) (ps : List Str) (sp : Sp) : Prop :=
  ∃ f fd, FnOk P w K mg base CX0 k f fd ps sp ∧ mg x = some (.ref f) ∧ PySem.W.keepIn K (.ref f) = true ∧ Binds K fd ps []
def HasM (P : Program) (w : World) (K : PySem.W.Frag) (mg : Str → Option Value) (base : Heap) (C : Addr) (m : Str) (k : Nat) (ps : List Str) (sp : Sp) : Prop :=
  ∃ f fd, FnOk P w K mg base CX0 k f fd ps sp ∧ Meth K C m f ∧ Binds K fd ps []
section
variable {X : Cx} {k j : Nat} {C : Addr} {ps ks : List Str} {sp : Sp} {x m : Str} {p pos apos : Pos} {e o : Expr} {es : List Expr} {kws : List Keyword} {ta : TE} {t tk : TA}
theorem pe_h (h : Has X.prog X.w X.K X.mg X.base x k ps sp) (hr : Room j X.A) (ha : PA X (e :: es) t) (hkj : k ≤ j := by decide) (hg : Gl X x := by rfl) (hdb : (x == ("__debug__" : Str)) = false := by decide)
    (he : starEach (e :: es) X.env = (false, eval e X.env) :: starEach es X.env := by rfl) (hpl : (backTo pos (starEach es X.env)).any (·.1) = false := by rfl) :
    PE X (.Call (.Name x p) (e :: es) [] pos) (tCall sp [] E0 t) := by
  obtain ⟨f, fd, F, g, kp, b⟩ := h
  exact pe_call F (hr.mono hkj) hg g kp b .nil pass0 ha hdb he hpl
theorem pe_h0 (h : Has X.prog X.w X.K X.mg X.base x k ps sp) (hr : Room j X.A) (hkj : k ≤ j := by decide) (hg : Gl X x := by rfl) (hdb : (x == ("__debug__" : Str)) = false := by decide) :
    PE X (.Call (.Name x p) [] [] pos) (tCall sp [] E0 tNil) := by
  obtain ⟨f, fd, F, g, kp, b⟩ := h
  exact pe_call0 F (hr.mono hkj) hg g kp b .nil pass0 hdb
theorem pe_hm {pl : Sem Bool} (h : HasM X.prog X.w X.K X.mg X.base C m k ps sp) (c : Cls X.K C) (hr : Room j X.A) (ho : PE X o ta) (ha : PA X (e :: es) t) (hkj : k ≤ j := by decide)
    (hst : starEach (e :: es) X.env = (false, eval e X.env) :: starEach es X.env := by rfl) (hpl : (backTo pos (starEach es X.env)).any (·.1) = false := by rfl)
    (ht : eval (.Call (.Attribute o m apos) (e :: es) [] pos) X.env = (do
      let ov ← eval o X.env
      standAt apos.atName
      let (f, first) ← holding [ov] (getMethod ov m pl)
      callWith pos f first (backTo pos (starEach (e :: es) X.env)) (backToKw pos (keywordEach [] X.env))) := by rfl) :
    PE X (.Call (.Attribute o m apos) (e :: es) [] pos) (tMeth C m sp [] E0 ta t) := by
  obtain ⟨f, fd, F, g, b⟩ := h
  exact pe_meth ho c g F (hr.mono hkj) b .nil pass0 ha hst hpl ht
theorem pe_hm0 {pl : Sem Bool} (h : HasM X.prog X.w X.K X.mg X.base C m k ps sp) (c : Cls X.K C) (hr : Room j X.A) (ho : PE X o ta) (hkj : k ≤ j := by decide)
    (ht : eval (.Call (.Attribute o m apos) [] [] pos) X.env = (do
      let ov ← eval o X.env
      standAt apos.atName
      let (f, first) ← holding [ov] (getMethod ov m pl)
      callWith pos f first (backTo pos (starEach [] X.env)) (backToKw pos (keywordEach [] X.env))) := by rfl) :
    PE X (.Call (.Attribute o m apos) [] [] pos) (tMeth C m sp [] E0 ta tNil) := by
  obtain ⟨f, fd, F, g, b⟩ := h
  exact pe_meth0 ho c g F (hr.mono hkj) b .nil pass0 ht
end

/-! ### heaps -/
theorem same_new {H : Hp} {p : Addr} {o : HO} (h : H p = none) : Same H (upd H p o) := fun b x e => by
  rw [upd_ne (ne_of_none e h)]
  exact e
theorem same_mut {H H' : Hp} {p : Addr} {o : HO} (s : Same H H') (h : H p = none) : Same H (upd H' p o) := fun b x e => by
  rw [upd_ne (ne_of_none e h)]
  exact s b x e
theorem tup_same {K : PySem.W.Frag} {H H' : Hp} {a : Addr} {xs : List V} (e : Same H H') (h : SqT K H a xs) : SqT K H' a xs := by
  rcases h with (h | ⟨o, h⟩) | h
  · exact .inl (.inl (e _ _ h))
  · exact .inl (.inr ⟨o, e _ _ h⟩)
  · exact .inr h
/-- all but what stands at a is as it was -/
def SameX (a : Addr) (H H' : Hp) : Prop := ∀ b o, b ≠ a → H b = some o → H' b = some o
theorem SameX.refl (a : Addr) (H : Hp) : SameX a H H := fun _ _ _ h => h
theorem SameX.trans {a : Addr} {H H1 H2 : Hp} (s : SameX a H H1) (t : SameX a H1 H2) : SameX a H H2 := fun b o n h => t b o n (s b o n h)
theorem sx {a : Addr} {H H' : Hp} (s : Same H H') : SameX a H H' := fun b o _ h => s b o h
theorem sameX_upd {a : Addr} {H : Hp} {o : HO} : SameX a H (upd H a o) := fun b u n h => by rw [upd_ne n]; exact h
/-- an object that H does not know may change -/
theorem sameX_mut {a : Addr} {H H' : Hp} {p : Addr} {o : HO} (s : SameX a H H') (h : H p = none) : SameX a H (upd H' p o) := fun b u n e => by
  rw [upd_ne (ne_of_none e h)]
  exact s b u n e
theorem SameX.free {a l : Addr} {H H' : Hp} (e : SameX a H H') (n : l ≠ a) (h : H' l = none) : H l = none := by
  cases q : H l with
  | none => rfl
  | some o =>
    rw [e l o n q] at h
    cases h
theorem SameX.tup {K : PySem.W.Frag} {a p : Addr} {H H' : Hp} {xs ys : List V} (e : SameX a H H') (ha : H a = some (.lst ys)) (h : SqT K H p xs) : SqT K H' p xs := by
  rcases h with (h | ⟨o, h⟩) | h
  · exact .inl (.inl (e _ _ (ne_of h ha (by intro z; cases z)) h))
  · exact .inl (.inr ⟨o, e _ _ (ne_of h ha (by intro z; cases z)) h⟩)
  · exact .inr h

/-! ### tests whose answer is known -/
theorem ite_b {b : Bool} {A B : Prop} (h1 : b = true → A) (h2 : b = false → B) : if b = true then A else B := by
  cases b with
  | true => exact iteT (h1 rfl)
  | false => exact iteF (h2 rfl)
theorem not_b {b : Bool} {A B : Prop} (h1 : b = false → A) (h2 : b = true → B) : if (!b) = true then A else B := by
  cases b with
  | true => exact iteF (h2 rfl)
  | false => exact iteT (h1 rfl)

theorem yes_it {σ : L2.St} {H : Hp} {A B : Hp → Prop} (h : A H) : tYes σ H (fun b H' => if b = true then A H' else B H') := by
  show if true = true then A H else B H
  rw [if_pos rfl]
  exact h
theorem lz {n : Nat} (h : Nat.ble n 1000 = true := by rfl) : n ≤ sizeLine := Nat.le_trans (Nat.le_of_ble_eq_true h) (by decide)
theorem lzl {n : Nat} (h : n ≤ 1000) : n ≤ sizeLine := Nat.le_trans h (by decide)

/-! ### words -/
def wdB (z : Str) : Bool := decide (1 ≤ z.length) && decide (z.length ≤ 8) && z.cps.toList.all fun c => decide (97 ≤ c) && decide (c ≤ 122)
def IsWd (z : Str) : Prop := wdB z = true
instance (z : Str) : Decidable (IsWd z) := inferInstanceAs (Decidable (wdB z = true))
def oV : Option Str → V
  | none => .non
  | some z => .str z

/-! ### the built-ins that the text leaves as they are -/
structure Bi (mg : Str → Option Value) : Prop where
  len : mg "len" = none
  range : mg "range" = none
  isi : mg "isinstance" = none
  tuple : mg "tuple" = none
  list : mg "list" = none
  sorted : mg "sorted" = none
  all : mg "all" = none
  int : mg "int" = none
  max : mg "max" = none
  min : mg "min" = none
  enum : mg "enumerate" = none
  str : mg "str" = none
end Wl
namespace Wl
open PySem PySem.Spec PyProof.Rows L2
theorem atI_tab {ns : List Int} {r : Int} (h0 : 0 ≤ r) (h : r < ns.length) : ∃ n ∈ ns, atI (ns.map V.int) r = some (.int n) := by
  have hr : r.toNat < ns.length := by omega
  refine ⟨ns[r.toNat], List.getElem_mem hr, at_of (j := r.toNat) (by omega) ?_⟩
  rw [List.getElem?_map, List.getElem?_eq_getElem hr]
  rfl
theorem atI_strs {zs : List Str} {r : Int} (h0 : 0 ≤ r) (h : r < zs.length) : ∃ z ∈ zs, atI (zs.map V.str) r = some (.str z) := by
  have hr : r.toNat < zs.length := by omega
  refine ⟨zs[r.toNat], List.getElem_mem hr, at_of (j := r.toNat) (by omega) ?_⟩
  rw [List.getElem?_map, List.getElem?_eq_getElem hr]
  rfl
theorem letters_eq : ("abcdefghijklmnopqrstuvwxyz" : Str).cps.toList = List.range' 97 26 := by decide +kernel
theorem letter_at {r : Int} (h0 : 0 ≤ r) (h : r < 26) : atI ("abcdefghijklmnopqrstuvwxyz" : Str).cps.toList r = some (97 + r.toNat) := by
  rw [letters_eq]
  refine at_of' (j := r.toNat) (by omega) ?_
  rw [List.getElem?_range' (by omega)]
  congr 1
  omega
where
  at_of' {xs : List Nat} {z : Int} {j : Nat} {v : Nat} (e : z = (j : Int)) (h : xs[j]? = some v) : atI xs z = some v := by
    rw [e]
    exact atI_nat h
def sign (c : Nat) : Str := ⟨#[c]⟩
theorem joinL_flat : ∀ ps : List (List Nat), TL.joinL [] ps = ps.flatten
  | [] => rfl
  | [p] => by simp [TL.joinL]
  | p :: q :: r => by
    show p ++ ([] ++ TL.joinL [] (q :: r)) = _
    rw [joinL_flat (q :: r)]
    simp
theorem join_codes (ys : List Str) : (Txt.join ("" : Str) ys).cps.toList = (ys.map fun y => y.cps.toList).flatten := by
  have h := TL.tl_join ("" : Str) ys
  rw [show TL.tl ("" : Str) = [] by decide +kernel, joinL_flat] at h
  rw [TL.join_eq]
  exact h
theorem join_signs (cs : List Nat) : (Txt.join ("" : Str) (cs.map sign)).cps.toList = cs := by
  rw [join_codes, List.map_map]
  induction cs with
  | nil => rfl
  | cons c r ih => exact congrArg (c :: ·) ih
theorem isWd_of {z : Str} (h1 : 1 ≤ z.cps.toList.length) (h8 : z.cps.toList.length ≤ 8) (hc : ∀ c ∈ z.cps.toList, 97 ≤ c ∧ c ≤ 122) : IsWd z := by
  unfold IsWd wdB Str.length
  rw [Array.length_toList] at h1 h8
  simp only [Bool.and_eq_true, decide_eq_true_eq, List.all_eq_true]
  exact ⟨⟨h1, h8⟩, hc⟩
theorem IsWd.len {z : Str} (h : IsWd z) : 1 ≤ z.length ∧ z.length ≤ 8 := by
  unfold IsWd wdB at h
  simp only [Bool.and_eq_true, decide_eq_true_eq] at h
  exact h.1
end Wl

namespace Wl
open PySem PySem.Spec PyProof.Rows L2
def topS (i : Nat) : Stmt := PySem.Challenge.pw_wordlines_k07_lands_refused.main.body.getD i (.Pass ⟨0, 0, 0, 0⟩)
end Wl
namespace Wl
open PySem PySem.Spec PyProof.Rows L2
end Wl
namespace Wl
open PySem PySem.Spec PyProof.Rows L2

/-! ### the text by places -/
abbrev sCell : Stmt := topS 38
abbrev sPurse : Stmt := topS 39
abbrev sPick : Stmt := topS 40
abbrev sMenu : Stmt := topS 41
abbrev sWord : Stmt := topS 42

section
variable {P : Program} {w : World} {K : PySem.W.Frag} {mg : Str → Option Value} {base : Heap} {f : Addr} {fd : FuncData}

/-! ### a cell of the script: some int -/
def spCell (K : PySem.W.Frag) : Sp := fun vs H Q _ => ∃ (a : Addr) (ns : List Int) (k : Int), vs = [.ref a, .int k] ∧ SqL K H a (ns.map V.int) ∧ 0 ≤ k ∧ k ≤ 63 ∧
  ∀ (v : Int) (H' : Hp), Same H H' → Q (.int v) H'
theorem scCell : FnScope ["_law_script", "_law_k", "_law_state", "_law_cell_here"] ["_law_script", "_law_k"] (defScope sCell) :=
  ⟨rfl, rfl, rfl, by decide +kernel, rfl, by decide +kernel, by decide +kernel⟩
theorem mem_cut {xs : List V} {lo hi : Option Int} {v : V} (h : v ∈ cutV xs lo hi) : v ∈ xs := List.mem_of_mem_drop (List.mem_of_mem_take h)
theorem ok_cell (F : Fun K "_law_cell" "_law_cell" sCell f fd) (B : Bi mg) : FnOk P w K mg base CX0 1 f fd ["_law_script", "_law_k"] (spCell K) := by
  refine F.ok scCell (fun vs H Q E h => ?_) (fun cdv A outer s H vs Q E hr h => ?_)
  · obtain ⟨a, ns, k, rfl, _⟩ := h
    rfl
  · obtain ⟨a, ns, k, rfl, hS, k0, k1, q⟩ := h
    refine ⟨_, pss_cons (ps_if (pt_cmpR op_lt (pv 1) (pe_callB call_len_seq (by rfl) B.len PySem.boot_len (pa_cons (pv 0) pa_nil)) (nomark _)) (pss_one (ps_ret (pe_ix ix_list (pv 0) (pv 1) (fun _ _ => rfl)))) pss_nil)
      (pss_cons (ps_set (i := 2) scCell.nd rfl (.inl rfl) (pe_op op_mod (pe_op op_mul pe_int (pe_op op_add (pe_op op_add (pe_op op_mul (pv 1) (pv 1)) (pe_op op_mul pe_int (pv 1))) pe_int)) pe_int))
      (pss_cons (ps_for PassesOwn.never rfl (pi_list (pe_slice sl_list (pv 0) po_none (po_some pe_int))) (pg_name (i := 3) scCell.nd rfl (.inl rfl))
        (pss_one (ps_set (i := 2) scCell.nd rfl (.inl rfl) (pe_op op_mod (pe_op op_add (pe_op op_mul (pv 2) pe_int) (pv 3)) pe_int))))
      (pss_one (ps_ret (pv 2))))), ?_⟩
    refine ⟨_, rfl, .ref a, rfl, a, _, rfl, .inl hS, _, _, rfl, rfl, _, rfl, ite_b (fun e => ?_) (fun e => ?_)⟩
    · have hk : k < ((ns.map V.int).length : Int) := of_decide_eq_true e
      rw [List.length_map] at hk
      have hk2 : k.toNat < ns.length := by omega
      refine ⟨_, rfl, _, rfl, a, _, k, .int ns[k.toNat], rfl, rfl, hS, at_of (j := k.toNat) (by omega) ?_, q _ H (Same.refl H)⟩
      rw [List.getElem?_map, List.getElem?_eq_getElem hk2]
      rfl
    · refine ⟨_, rfl, _, rfl, k, k, rfl, rfl, .inl ⟨by omega, by omega⟩, _, rfl, 5, k, rfl, rfl, .inl ⟨by decide, by decide⟩, _, _, rfl, rfl, _, _, rfl, rfl, _, _, rfl, rfl, .inl ⟨by decide, by decide⟩, _, _, rfl, rfl, (show (0 : Int) < 1000000033 by decide), ?_⟩
      refine ⟨_, rfl, 4, rfl, a, _, rfl, hS, fun p hp => ?_⟩
      have hc : SqL K (upd H p (.lst (cutV (ns.map V.int) none (some 4)))) p (cutV (ns.map V.int) none (some 4)) := .inl (.inl upd_same)
      refine ⟨p, rfl, ⟨_, hc⟩, for_list (K := K) (a := p) (xs := cutV (ns.map V.int) none (some 4)) (fun i σ H' => (∃ (z : Int) (y : Option V), σ = [some (.ref a), some (.int k), some (.int z), y]) ∧ H' = upd H p (.lst (cutV (ns.map V.int) none (some 4))))
        ⟨⟨_, _, rfl⟩, rfl⟩ (fun i σ H' _ h => by rw [h.2]; exact hc) ?_ ?_⟩
      · rintro i x σ H' hx ⟨⟨z, y, rfl⟩, rfl⟩
        obtain ⟨n, rfl⟩ : ∃ n, x = V.int n := by
          obtain ⟨n, _, e⟩ := List.mem_map.mp (mem_cut (List.mem_of_getElem? hx))
          exact ⟨n, e.symm⟩
        refine ⟨_, rfl, z, 30029, rfl, rfl, .inr ⟨by decide, by decide⟩, _, rfl, _, _, rfl, rfl, _, _, rfl, rfl, (show (0 : Int) < 1000000033 by decide), ⟨⟨_, _, rfl⟩, rfl⟩⟩
      · rintro σ H' ⟨⟨z, y, rfl⟩, rfl⟩
        exact ⟨_, rfl, q _ _ (same_new hp)⟩

/-! ### the purse -/
def PurseAt (H : Hp) (a : Addr) : Prop := ∃ s b c : Int, H a = some (.lst [.int s, .int b, .int c]) ∧ 0 ≤ b
theorem PurseAt.same {H H' : Hp} {a : Addr} (h : PurseAt H a) (s : Same H H') : PurseAt H' a := by
  obtain ⟨s0, b, c, ha, hb⟩ := h
  exact ⟨s0, b, c, s _ _ ha, hb⟩
theorem PurseAt.ne {H : Hp} {a p : Addr} (h : PurseAt H a) (hp : H p = none) : p ≠ a := by
  obtain ⟨s0, b, c, ha, hb⟩ := h
  exact (ne_of_none ha hp).symm
theorem PurseAt.lst {H : Hp} {a : Addr} (h : PurseAt H a) : ∃ ys, H a = some (.lst ys) := by
  obtain ⟨s0, b, c, ha, hb⟩ := h
  exact ⟨_, ha⟩
def spPurse : Sp := fun vs H Q _ => ∃ (n : Int), vs = [.int n] ∧ ∀ (a : Addr) (H' : Hp), H a = none → Same H H' → PurseAt H' a → Q (.ref a) H'
theorem scPurse : FnScope ["_law_cell_here"] ["_law_cell_here"] (defScope sPurse) :=
  ⟨rfl, rfl, rfl, by decide +kernel, rfl, by decide +kernel, by decide +kernel⟩
theorem ok_purse (F : Fun K "_law_purse" "_law_purse" sPurse f fd) (B : Bi mg) : FnOk P w K mg base CX0 1 f fd ["_law_cell_here"] spPurse := by
  refine F.ok scPurse (fun vs H Q E h => ?_) (fun cdv A outer s H vs Q E hr h => ?_)
  · obtain ⟨n, rfl, _⟩ := h
    rfl
  · obtain ⟨n, rfl, q⟩ := h
    refine ⟨_, pss_one (ps_ret (pe_lst (pa_cons (pe_op op_add (pe_op op_mul (pe_op op_mod (pv 0) pe_int) pe_int) pe_int)
      (pa_cons (pe_ix ix_list (pe_lst (pa_cons pe_int (pa_cons (pv 0) pa_nil))) (pe_callTy call_int1 (by rfl) B.int (by decide +kernel) (pa_cons (pe_cmpR op_ge (pv 0) (pe_op op_pow pe_int pe_int) (nomark _)) pa_nil)) (fun _ _ => rfl))
      (pa_cons pe_int pa_nil))))), ?_⟩
    refine ⟨_, rfl, _, _, rfl, rfl, (show (0 : Int) < 1000000033 by decide), _, _, rfl, rfl, .inr ⟨by decide, by decide⟩, _, _, rfl, rfl, _, rfl, lz, fun p hp => ?_⟩
    have e18 : (10 : Int) ^ (18 : Int).toNat = 1000000000000000000 := by decide
    refine ⟨_, rfl, 10, 18, rfl, rfl, ⟨by decide, by decide, by decide⟩, _, _, rfl, rfl, .inr ⟨_, rfl, ?_⟩⟩
    refine ⟨p, [.int 0, .int n], _, .int (if decide ((10 : Int) ^ (18 : Int).toNat ≤ n) = true then n else 0), rfl, rfl, .inl (.inl upd_same), ?_, lz, fun a ha => ?_⟩
    · by_cases c : (10 : Int) ^ (18 : Int).toNat ≤ n
      · simp only [decide_eq_true c, if_true]
        exact atI_nat (j := 1) rfl
      · simp only [decide_eq_false c]
        exact atI_nat (j := 0) rfl
    · have hp2 : Same H (upd H p (.lst [.int 0, .int n])) := same_new hp
      refine q a _ (hp2.free ha) (hp2.trans (same_new ha)) ⟨_, _, _, upd_same, ?_⟩
      by_cases c : (10 : Int) ^ (18 : Int).toNat ≤ n
      · simp only [decide_eq_true c, if_true]
        rw [e18] at c
        omega
      · simp only [decide_eq_false c]
        exact Int.le_refl 0
/-! ### a pick: some number below many -/
def spPick : Sp := fun vs H Q _ => ∃ (a : Addr) (m : Int), vs = [.ref a, .int m] ∧ PurseAt H a ∧ 0 < m ∧ m < 1073741824 ∧
  ∀ (r : Int) (H' : Hp), 0 ≤ r → r < m → PurseAt H' a → SameX a H H' → (∀ p, H p = none → H' p = none) → Q (.int r) H'
theorem scPick : FnScope ["_law_purse_here", "_law_many", "_law_state", "_law_taken"] ["_law_purse_here", "_law_many"] (defScope sPick) :=
  ⟨rfl, rfl, rfl, by decide +kernel, rfl, by decide +kernel, by decide +kernel⟩
theorem none_upd {H : Hp} {a : Addr} {o u : HO} (h : H a = some o) : ∀ p, H p = none → upd H a u p = none := fun p hp => by
  rw [upd_ne (ne_of_none h hp).symm]
  exact hp
theorem ok_pick (F : Fun K "_law_pick" "_law_pick" sPick f fd) : FnOk P w K mg base CX0 1 f fd ["_law_purse_here", "_law_many"] spPick := by
  refine F.ok scPick (fun vs H Q E h => ?_) (fun cdv A outer s H vs Q E hr h => ?_)
  · obtain ⟨a, m, rfl, _⟩ := h
    rfl
  · obtain ⟨a, m, rfl, ⟨s0, b, c, ha, hb⟩, m0, m1, q⟩ := h
    refine ⟨_, pss_cons (ps_asg (pe_op op_add (pe_ix ix_list (pv 0) pe_int (fun _ _ => rfl)) pe_int) (pg_sub (pv 0) pe_int set_list))
      (pss_cons (ps_set (i := 2) scPick.nd rfl (.inl rfl) (pe_op op_mod (pe_ix ix_list (pv 0) pe_int (fun _ _ => rfl)) pe_int))
      (pss_cons (ps_asg (pe_op op_add (pe_op op_mul (pv 2) (pe_op op_add (pe_op op_mod (pv 2) pe_int) pe_int)) (pe_op op_mul pe_int (pe_ix ix_list (pv 0) pe_int (fun _ _ => rfl)))) (pg_sub (pv 0) pe_int set_list))
      (pss_cons (ps_if (pt_cmpR op_gt (pe_ix ix_list (pv 0) pe_int (fun _ _ => rfl)) pe_int (nomark _))
        (pss_cons (ps_set (i := 3) scPick.nd rfl (.inl rfl) (pe_op op_mod (pe_ix ix_list (pv 0) pe_int (fun _ _ => rfl)) (pv 1)))
        (pss_cons (ps_asg (pe_op op_fdiv (pe_ix ix_list (pv 0) pe_int (fun _ _ => rfl)) (pv 1)) (pg_sub (pv 0) pe_int set_list))
        (pss_one (ps_ret (pv 3))))) pss_nil)
      (pss_one (ps_ret (pe_op op_mod (pe_op op_fdiv (pe_op op_mod (pe_ix ix_list (pv 0) pe_int (fun _ _ => rfl)) pe_int) pe_int) (pv 1))))))), ?_⟩
    have hmod : ∀ x : Int, 0 ≤ x % 1000000033 ∧ x % 1000000033 < 1000000033 := fun x => by omega
    refine ⟨_, rfl, a, _, 2, .int c, rfl, rfl, .inl (.inl ha), atI_nat (j := 2) rfl, _, _, rfl, rfl, _, rfl, a, _, 2, 2, rfl, rfl, ha, rfl, ?_⟩
    refine ⟨_, rfl, a, _, 0, .int s0, rfl, rfl, .inl (.inl upd_same), atI_nat (j := 0) rfl, _, _, rfl, rfl, (show (0 : Int) < 1000000033 by decide), ?_⟩
    refine ⟨_, rfl, _, rfl, _, _, rfl, rfl, (show (0 : Int) < 60013 by decide), _, _, rfl, rfl, _, _, rfl, rfl, .inl ⟨by have := hmod s0; omega, by have := hmod s0; omega⟩,
      _, rfl, a, _, 2, _, rfl, rfl, .inl (.inl upd_same), atI_nat (j := 2) rfl, _, _, rfl, rfl, .inl ⟨by decide, by decide⟩, _, _, rfl, rfl, _, rfl, a, _, 0, 0, rfl, rfl, upd_same, rfl, ?_⟩
    refine ⟨_, rfl, a, _, 1, .int b, rfl, rfl, .inl (.inl upd_same), atI_nat (j := 1) rfl, _, _, rfl, rfl, _, rfl, ite_b (fun e => ?_) (fun e => ?_)⟩
    · refine ⟨_, rfl, a, _, 1, .int b, rfl, rfl, .inl (.inl upd_same), atI_nat (j := 1) rfl, _, rfl, b, m, rfl, rfl, m0, ?_⟩
      refine ⟨_, rfl, a, _, 1, .int b, rfl, rfl, .inl (.inl upd_same), atI_nat (j := 1) rfl, _, rfl, b, m, rfl, rfl, ⟨m0, m1⟩, _, rfl, a, _, 1, 1, rfl, rfl, upd_same, rfl, ?_⟩
      refine ⟨_, rfl, q _ _ (Int.emod_nonneg _ (by omega)) (Int.emod_lt_of_pos _ m0) ⟨_, _, _, upd_same, ?_⟩ (((sameX_upd).trans sameX_upd).trans sameX_upd) fun p hp => ?_⟩
      · exact Int.ediv_nonneg hb (by omega)
      · exact none_upd upd_same p (none_upd upd_same p (none_upd ha p hp))
    · refine ⟨_, rfl, a, _, 0, _, rfl, rfl, .inl (.inl upd_same), atI_nat (j := 0) rfl, _, _, rfl, rfl, (show (0 : Int) < 1000000033 by decide), _, _, rfl, rfl, ⟨by decide, by decide⟩, _, rfl, _, m, rfl, rfl, m0, ?_⟩
      exact q _ _ (Int.emod_nonneg _ (by omega)) (Int.emod_lt_of_pos _ m0) ⟨_, _, _, upd_same, hb⟩ ((sameX_upd).trans sameX_upd) fun p hp => none_upd upd_same p (none_upd ha p hp)

/-! ### the menu, a word -/
def menuW : List Str := ["put", "doubt", "strike", "back", "change", "one", "map", "words", "parted", "line", "rings", "thin", "fate", "asks", "habit", "apart", "near", "paper", "ok", "no", "none", "self", "may", "not", "has", "any"]
theorem menu_wd : ∀ z ∈ menuW, IsWd z := by decide +kernel
theorem menu_len : menuW.length = 26 := by decide +kernel
def spMenu : Sp := fun vs H Q _ => vs = [] ∧ ∀ (p : Addr) (H' : Hp), H p = none → Same H H' → H' p = some (.lst (menuW.map V.str)) → Q (.ref p) H'
theorem scMenu : FnScope ["_law_some"] [] (defScope sMenu) := ⟨rfl, rfl, rfl, by decide +kernel, rfl, by decide +kernel, by decide +kernel⟩
theorem ok_menu (F : Fun K "_law_menu" "_law_menu" sMenu f fd) : FnOk P w K mg base CX0 1 f fd [] spMenu := by
  refine F.ok scMenu (fun vs H Q E h => ?_) (fun cdv A outer s H vs Q E hr h => ?_)
  · obtain ⟨rfl, _⟩ := h
    rfl
  · obtain ⟨rfl, q⟩ := h
    refine ⟨_, pss_cons (ps_set (i := 0) scMenu.nd rfl (.inl rfl) (pe_lst (pa_cons pe_str (pa_cons pe_str (pa_cons pe_str (pa_cons pe_str (pa_cons pe_str (pa_cons pe_str (pa_cons pe_str (pa_cons pe_str (pa_cons pe_str (pa_cons pe_str (pa_cons pe_str (pa_cons pe_str pa_nil))))))))))))))
      (pss_cons (ps_set (i := 0) scMenu.nd rfl (.inl rfl) (pe_op op_cat (pv 0) (pe_lst (pa_cons pe_str (pa_cons pe_str (pa_cons pe_str (pa_cons pe_str (pa_cons pe_str (pa_cons pe_str (pa_cons pe_str (pa_cons pe_str (pa_cons pe_str (pa_cons pe_str (pa_cons pe_str (pa_cons pe_str pa_nil)))))))))))))))
      (pss_one (ps_ret (pe_op op_cat (pv 0) (pe_lst (pa_cons pe_str (pa_cons pe_str pa_nil))))))), ?_⟩
    refine ⟨lz, fun p1 h1 => ?_⟩
    refine ⟨_, rfl, lz, fun p2 h2 => ⟨p1, p2, _, _, rfl, rfl, (same_new h2) _ _ upd_same, upd_same, lz, fun p3 h3 => ?_⟩⟩
    refine ⟨_, rfl, lz, fun p4 h4 => ⟨p3, p4, _, _, rfl, rfl, (same_new h4) _ _ upd_same, upd_same, lz, fun p5 h5 => ?_⟩⟩
    exact q p5 _ (Same.free (((same_new h1).trans (same_new h2)).trans ((same_new h3).trans (same_new h4))) h5) ((((same_new h1).trans (same_new h2)).trans ((same_new h3).trans (same_new h4))).trans (same_new h5)) upd_same

def spWord : Sp := fun vs H Q _ => ∃ (a : Addr), vs = [.ref a] ∧ PurseAt H a ∧ ∀ (z : Str) (H' : Hp), IsWd z → PurseAt H' a → SameX a H H' → Q (.str z) H'
abbrev nWord : List Str := ["_law_purse_here", "_law_way", "_law_wide", "_law_size", "_law_k"]
theorem scWord : FnScope nWord ["_law_purse_here"] (defScope sWord) :=
  ⟨rfl, rfl, rfl, by decide +kernel, rfl, by decide +kernel, by decide +kernel⟩
theorem ok_word (F : Fun K "_law_word" "_law_word" sWord f fd) (B : Bi mg) (hp : Has P w K mg base "_law_pick" 1 ["_law_purse_here", "_law_many"] spPick) (hm : Has P w K mg base "_law_menu" 1 [] spMenu) :
    FnOk P w K mg base CX0 2 f fd ["_law_purse_here"] spWord := by
  refine F.ok scWord (fun vs H Q E h => ?_) (fun cdv A outer s H vs Q E hr h => ?_)
  · obtain ⟨a, rfl, _⟩ := h
    rfl
  · obtain ⟨a, rfl, hA, q⟩ := h
    refine ⟨_, pss_cons (ps_asg (pe_tup (pa_cons (pe_h hp hr (pa_cons (pv 0) (pa_cons pe_int pa_nil))) (pa_cons (pe_ix ix_list (pe_lst (pa_cons pe_int (pa_cons pe_int (pa_cons pe_int pa_nil)))) (pe_h hp hr (pa_cons (pv 0) (pa_cons pe_int pa_nil))) (fun _ _ => rfl)) pa_nil)))
        (pg_tup rfl (pgs_cons (pg_name (i := 1) scWord.nd rfl (.inl rfl)) (pgs_cons (pg_name (i := 2) scWord.nd rfl (.inr rfl)) pgs_nil))))
      (pss_cons (ps_if (pt_cmpR op_eq (pv 1) pe_int (nomark _)) (pss_one (ps_ret (pe_ix ix_list (pe_h0 hm hr) (pe_h hp hr (pa_cons (pv 0) (pa_cons pe_int pa_nil))) (fun _ _ => rfl)))) pss_nil)
      (pss_cons (ps_set (i := 3) scWord.nd rfl (.inl rfl) (pe_ix ix_list (pe_lst (pa_cons pe_int (pa_cons pe_int (pa_cons pe_int (pa_cons pe_int (pa_cons (pe_op op_add pe_int (pe_h hp hr (pa_cons (pv 0) (pa_cons pe_int pa_nil)))) pa_nil)))))) (pe_h hp hr (pa_cons (pv 0) (pa_cons pe_int pa_nil))) (fun _ _ => rfl)))
      (pss_one (ps_ret (pe_join pe_str (pe_lc (own := [("_law_k", 4)]) (g := gName 4) (tt := tYes) rfl scWord.nd (pi_range1 (by rfl) B.range (pa_cons (pv 3) pa_nil)) (blkOk_by (N := nWord) (sc := defScope sWord) (by decide +kernel))
        (fun _ _ _ _ _ => pg_name (i := 4) scWord.nd rfl (.inl rfl)) (fun _ _ _ _ _ => pts_nil) (fun _ _ _ _ _ => pe_ix ix_str pe_str (pe_h hp hr (pa_cons (pv 0) (pa_cons (pv 2) pa_nil))) (fun _ _ => rfl)))))))), ?_⟩
    -- way, wide
    refine ⟨_, rfl, a, 4, rfl, hA, by decide, by decide, fun r1 H1 r10 r11 hA1 s1 n1 => ?_⟩
    refine ⟨lz, fun p hp => ⟨_, rfl, a, 3, rfl, hA1.same (same_new hp), by decide, by decide, fun r2 H2 r20 r21 hA2 s2 n2 => ?_⟩⟩
    have npa := hA1.ne hp
    obtain ⟨wd, hwm, hwd⟩ := atI_tab (ns := [3, 5, 26]) r20 r21
    have hw : 0 < wd ∧ wd ≤ 26 := by
      simp only [List.mem_cons, List.not_mem_nil, or_false] at hwm
      omega
    have s2' : SameX a H H2 := (s1.trans (sx (same_new hp))).trans s2
    refine ⟨p, _, r2, .int wd, rfl, rfl, .inl (.inl (s2 _ _ npa upd_same)), hwd, lz, fun t ht => ?_⟩
    refine ⟨t, _, rfl, .inl (.inl upd_same), rfl, _, _, rfl, _, _, rfl, rfl, ?_⟩
    have hA3 := hA2.same (same_new (o := .tup [.int r1, .int wd]) ht)
    have s3 : SameX a H _ := s2'.trans (sx (same_new (o := .tup [.int r1, .int wd]) ht))
    generalize upd H2 t (.tup [.int r1, .int wd]) = H3 at hA3 s3
    refine ⟨_, rfl, rfl, _, rfl, ite_b (fun e => ?_) (fun e => ?_)⟩
    · -- menu()[..]
      refine ⟨rfl, fun p4 H4 hp4 s4 h4 => ⟨_, rfl, a, 26, rfl, hA3.same s4, by decide, by decide, fun r5 H5 r50 r51 hA5 s5 n5 => ?_⟩⟩
      obtain ⟨z, hz, hzi⟩ := atI_strs (zs := menuW) r50 (by rw [menu_len]; exact r51)
      exact ⟨p4, _, r5, .str z, rfl, rfl, .inl (.inl (s5 _ _ (hA3.ne hp4) h4)), hzi, q z H5 (menu_wd z hz) hA5 ((s3.trans (sx s4)).trans s5)⟩
    · -- size
      refine ⟨_, rfl, a, 8, rfl, hA3, by decide, by decide, fun r4 H4 r40 r41 hA4 s4 n4 => ⟨_, _, rfl, rfl, lz, fun p5 hp5 => ⟨_, rfl, a, 5, rfl, hA4.same (same_new hp5), by decide, by decide, fun r6 H6 r60 r61 hA6 s6 n6 => ?_⟩⟩⟩
      have np5 := hA4.ne hp5
      obtain ⟨sz, hsm, hsz⟩ := atI_tab (ns := [1, 2, 3, 4, 1 + r4]) r60 r61
      have hs8 : 1 ≤ sz ∧ sz ≤ 8 := by
        simp only [List.mem_cons, List.not_mem_nil, or_false] at hsm
        omega
      refine ⟨p5, _, r6, .int sz, rfl, rfl, .inl (.inl (s6 _ _ np5 upd_same)), hsz, ?_⟩
      have s6' : SameX a H H6 := ((s3.trans s4).trans (sx (same_new hp5))).trans s6
      -- join of the signs
      refine ⟨⟨_, rfl⟩, _, rfl, sz, rfl, by omega, by omega, fun D hD => lc_range (lo := 0) (n := sz.toNat)
        (fun i H' => ∃ cs : List Nat, cs.length = i ∧ (∀ c ∈ cs, 97 ≤ c ∧ c ≤ 122) ∧ H' D = some (.lst ((cs.map sign).map V.str)) ∧ PurseAt H' a ∧ SameX a H6 H')
        ⟨[], rfl, fun c hc => by simp at hc, upd_same, hA6.same (same_new hD), sx (same_new hD)⟩ ?_ ?_⟩
      · rintro i H7 hi ⟨cs, hcl, hcs, hDl, hA7, s7⟩
        refine ⟨rfl, yes_it ⟨_, rfl, _, rfl, a, wd, rfl, hA7, hw.1, by omega, fun r8 H8 r80 r81 hA8 s8 n8 => ?_⟩⟩
        have nD := hA6.ne hD
        refine ⟨_, r8, _, rfl, rfl, lz, letter_at r80 (by omega), _, s8 _ _ nD hDl, ?_, ?_⟩
        · rw [List.length_map, List.length_map]
          exact small1000 (by omega)
        · refine ⟨cs ++ [97 + r8.toNat], by simp [hcl], fun c hc => ?_, ?_, ?_, sameX_mut (s7.trans s8) hD⟩
          · rcases List.mem_append.mp hc with hc | hc
            · exact hcs c hc
            · rw [List.mem_singleton.mp hc]
              omega
          · rw [upd_same, List.map_append, List.map_append]
            rfl
          · obtain ⟨x0, x1, x2, hx, hx1⟩ := hA8
            exact ⟨x0, x1, x2, by rw [upd_ne nD.symm]; exact hx, hx1⟩
      · rintro H7 ⟨cs, hcl, hcs, hDl, hA7, s7⟩
        refine ⟨_, D, cs.map sign, rfl, rfl, .inl (.inl (.inl hDl)), ?_, ?_⟩
        · have e0 : ("" : Str).length = 0 := by decide +kernel
          have e1 : (cs.map sign).map (·.length) = cs.map fun _ => 1 := by
            rw [List.map_map]
            rfl
          rw [e0, e1, Nat.mul_zero]
          have e2 : ∀ l : List Nat, (l.map fun _ => 1).sum = l.length := fun l => by
            induction l with
            | nil => rfl
            | cons x r ih => rw [List.map_cons, List.sum_cons, ih, List.length_cons]; omega
          rw [e2]
          omega
        · refine q _ H7 (isWd_of ?_ ?_ ?_) hA7 (s6'.trans s7)
          · rw [join_signs]; omega
          · rw [join_signs]; omega
          · rw [join_signs]; exact hcs
end
end Wl



namespace Wl
open PySem PySem.Spec PyProof.Rows L2

inductive Each {α β : Type} (R : α → β → Prop) : List α → List β → Prop
  | nil : Each R [] []
  | cons {a : α} {b : β} {as : List α} {bs : List β} : R a b → Each R as bs → Each R (a :: as) (b :: bs)
section
variable {α β : Type} {R S : α → β → Prop}
theorem Each.length : ∀ {as : List α} {bs : List β}, Each R as bs → as.length = bs.length
  | _, _, .nil => rfl
  | _, _, .cons _ t => congrArg (· + 1) t.length
theorem Each.mono (h : ∀ a b, R a b → S a b) : ∀ {as : List α} {bs : List β}, Each R as bs → Each S as bs
  | _, _, .nil => .nil
  | _, _, .cons r t => .cons (h _ _ r) (t.mono h)
theorem Each.append : ∀ {as : List α} {bs : List β} {cs : List α} {ds : List β}, Each R as bs → Each R cs ds → Each R (as ++ cs) (bs ++ ds)
  | _, _, _, _, .nil, s => s
  | _, _, _, _, .cons r t, s => .cons r (t.append s)
theorem Each.get : ∀ {as : List α} {bs : List β} {i : Nat} {a : α}, Each R as bs → as[i]? = some a → ∃ b, bs[i]? = some b ∧ R a b
  | _, _, _, _, .nil, e => by simp at e
  | _, _, 0, _, .cons r _, e => by simp at e; subst e; exact ⟨_, rfl, r⟩
  | _, _, i + 1, x, .cons _ t, e => by
    obtain ⟨u, h1, h2⟩ := t.get (i := i) (a := x) (by simpa using e)
    exact ⟨u, by simpa using h1, h2⟩
theorem Each.get2 : ∀ {as : List α} {bs : List β} {i : Nat} {b : β}, Each R as bs → bs[i]? = some b → ∃ a, as[i]? = some a ∧ R a b
  | _, _, _, _, .nil, e => by simp at e
  | _, _, 0, _, .cons r _, e => by simp at e; subst e; exact ⟨_, rfl, r⟩
  | _, _, i + 1, x, .cons _ t, e => by
    obtain ⟨u, h1, h2⟩ := t.get2 (i := i) (b := x) (by simpa using e)
    exact ⟨u, by simpa using h1, h2⟩
theorem Each.mem2 : ∀ {as : List α} {bs : List β} {b : β}, Each R as bs → b ∈ bs → ∃ a ∈ as, R a b
  | _, _, _, .nil, h => by simp at h
  | _, _, _, .cons r t, h => by
    rcases List.mem_cons.mp h with rfl | h
    · exact ⟨_, List.mem_cons_self, r⟩
    · obtain ⟨a, ha, hr⟩ := t.mem2 h
      exact ⟨a, List.mem_cons_of_mem _ ha, hr⟩
theorem each_fn {f : α → β} : ∀ {as : List α} {bs : List β}, Each (fun a b => b = f a) as bs → bs = as.map f
  | _, _, .nil => rfl
  | _, _, .cons r t => by rw [List.map_cons, ← each_fn t, r]
theorem each_map_l {γ : Type} {g : γ → α} : ∀ {cs : List γ} {bs : List β}, Each R (cs.map g) bs → Each (fun c b => R (g c) b) cs bs
  | [], [], _ => .nil
  | [], _ :: _, h => nomatch h
  | _ :: _, [], h => nomatch h
  | _ :: _, _ :: _, .cons r t => .cons r (each_map_l t)
theorem each_map_r {γ : Type} {g : γ → α} : ∀ {cs : List γ} {bs : List β}, Each (fun c b => R (g c) b) cs bs → Each R (cs.map g) bs
  | _, _, .nil => .nil
  | _, _, .cons r t => .cons r (each_map_r t)
end

theorem filter_take_snoc {α : Type} {p : α → Bool} {ys : List α} {i : Nat} {x : α} (h : ys[i]? = some x) : (ys.take (i + 1)).filter p = (ys.take i).filter p ++ (if p x then [x] else []) := by
  rw [List.take_add_one, h, List.filter_append]
  congr 1
  by_cases c : p x = true
  · simp [c]
  · simp [c]

section
variable {J : It} {ys : List V} {G : Hp → Prop} {slot : Nat} {tt : TT} {te : TE} {vs : List Nat} {σ : L2.St} {H1 : Hp} {D : Addr} {Qd : Hp → Prop}
/-- a comprehension [e for x in ys if t]: each e a value that R tells of, the heap only growing -/
theorem lc_rel (w : L2.Walk J ys.length G (YAt ys)) (hD : H1 D = none) (keep : V → Bool) (R : V → V → Hp → Prop)
    (hG : ∀ H, Same H1 H → G H)
    (hw : ∀ x, wipe ((wipe σ vs).set slot (some x)) vs = wipe σ vs)
    (ht : ∀ (x : V) (H : Hp), x ∈ ys → Same H1 H → ∀ Q : Bool → Hp → Prop, Q (keep x) H → tt ((wipe σ vs).set slot (some x)) H Q)
    (he : ∀ (x : V) (H : Hp), x ∈ ys → keep x = true → Same H1 H → ∀ Q : VK, (∀ y H', Same H H' → R x y H' → Q y H') → te ((wipe σ vs).set slot (some x)) H Q)
    (hR : ∀ x y H H' acc, H D = some (.lst acc) → SameX D H H' → R x y H → R x y H')
    (hn : ys.length < sizeLine)
    (hd : ∀ zs H, Same H1 H → H D = some (.lst zs) → Each (fun x z => R x z H) (ys.filter keep) zs → Qd H) :
    ∃ W : Nat → Nat → Hp → Prop, (∃ m, W 0 m (upd H1 D (.lst []))) ∧ ∀ i m H, W i m H →
      (J.stop i H ∧ Qd H) ∨ (J.go i H ∧ ∃ Nx : Hp → Prop, (∀ H', Nx H' → ∃ m', m' < m ∧ W (i + 1) m' H') ∧ ∀ x H', J.yld i H x H' → gName slot x (wipe σ vs) H' fun σ2 H2 => wipe σ2 vs = wipe σ vs ∧ tt σ2 H2 fun b H3 =>
        if b = true then te σ2 H3 fun y H4 => ∃ acc, H4 D = some (.lst acc) ∧ acc.length < sizeLine ∧ Nx (upd H4 D (.lst (acc ++ [y]))) else Nx H3) := by
  refine lc_it w (fun i H => ∃ zs, Same H1 H ∧ H D = some (.lst zs) ∧ Each (fun x z => R x z H) ((ys.take i).filter keep) zs) ⟨[], same_new hD, upd_same, by simpa using Each.nil⟩ (fun i H _ h => ?_) ?_ ?_
  · obtain ⟨zs, s, _⟩ := h
    exact hG H s
  · rintro i x H H' hi ⟨zs, s, hz, ez⟩ ⟨rfl, hx⟩
    have hm : x ∈ ys := List.mem_of_getElem? hx
    refine ⟨hw x, ht x _ hm s _ ?_⟩
    have hf := filter_take_snoc (p := keep) hx
    refine ite_b (fun e => ?_) (fun e => ?_)
    · refine he x _ hm e s _ fun y H4 s4 r4 => ⟨zs, s4 _ _ hz, ?_, zs ++ [y], same_mut (s.trans s4) hD, upd_same, ?_⟩
      · have h1 := ez.length
        have h2 : ((ys.take i).filter keep).length ≤ (ys.take i).length := List.length_filter_le _ _
        have h3 : (ys.take i).length ≤ ys.length := List.length_take_le' _ _
        omega
      · rw [hf, if_pos e]
        have hD4 : H4 D = some (.lst zs) := s4 _ _ hz
        refine Each.append (ez.mono fun a b r => ?_) (.cons ?_ .nil)
        · exact hR _ _ _ _ _ hz (fun b o n h => by rw [upd_ne n]; exact s4 _ _ h) r
        · exact hR _ _ _ _ _ hD4 sameX_upd r4
    · refine ⟨zs, s, hz, ?_⟩
      rw [hf, if_neg (by rw [e]; decide), List.append_nil]
      exact ez
  · rintro H ⟨zs, s, hz, ez⟩
    rw [List.take_length] at ez
    exact hd zs H s hz ez
/-- the same, each e a plain value, the heap as it was -/
theorem lc_map (w : L2.Walk J ys.length G (YAt ys)) (hD : H1 D = none) (keep : V → Bool) (f : V → V)
    (hG : ∀ H, Same H1 H → G H)
    (hw : ∀ x, wipe ((wipe σ vs).set slot (some x)) vs = wipe σ vs)
    (ht : ∀ (x : V) (H : Hp), x ∈ ys → Same H1 H → ∀ Q : Bool → Hp → Prop, Q (keep x) H → tt ((wipe σ vs).set slot (some x)) H Q)
    (he : ∀ (x : V) (H : Hp), x ∈ ys → keep x = true → Same H1 H → ∀ Q : VK, Q (f x) H → te ((wipe σ vs).set slot (some x)) H Q)
    (hn : ys.length < sizeLine)
    (hd : ∀ H, Same H1 H → H D = some (.lst ((ys.filter keep).map f)) → Qd H) :
    ∃ W : Nat → Nat → Hp → Prop, (∃ m, W 0 m (upd H1 D (.lst []))) ∧ ∀ i m H, W i m H →
      (J.stop i H ∧ Qd H) ∨ (J.go i H ∧ ∃ Nx : Hp → Prop, (∀ H', Nx H' → ∃ m', m' < m ∧ W (i + 1) m' H') ∧ ∀ x H', J.yld i H x H' → gName slot x (wipe σ vs) H' fun σ2 H2 => wipe σ2 vs = wipe σ vs ∧ tt σ2 H2 fun b H3 =>
        if b = true then te σ2 H3 fun y H4 => ∃ acc, H4 D = some (.lst acc) ∧ acc.length < sizeLine ∧ Nx (upd H4 D (.lst (acc ++ [y]))) else Nx H3) :=
  lc_rel w hD keep (fun x y _ => y = f x) hG hw ht (fun x H hx hk s Q q => he x H hx hk s Q (q _ H (Same.refl H) rfl)) (fun _ _ _ _ _ _ _ r => r) hn fun zs H s hz ez => hd H s (by rw [hz, each_fn ez])
end
/-- a text's signs as a list -/
def signsOf (z : Str) : List V := z.cps.toList.map fun c => .str (sign c)
theorem walk_signs {z : Str} : L2.Walk (Its z) (signsOf z).length (fun _ => True) (YAt (signsOf z)) := by
  have e : (signsOf z).length = z.cps.size := by simp [signsOf]
  rw [e]
  refine ⟨fun _ _ hi _ => hi, fun _ _ => Nat.le_refl _, ?_⟩
  rintro i H x H' _ _ ⟨rfl, c, hc, rfl⟩
  refine ⟨rfl, ?_⟩
  have : z.cps.toList[i]? = some c := by simpa using hc
  simp only [signsOf, List.getElem?_map, this]
  rfl
theorem yes_pure {σ : L2.St} {H : Hp} {Q : Bool → Hp → Prop} (h : Q true H) : tYes σ H Q := h
theorem inV_strs (z : Str) (ws : List Str) : inV (.str z) (ws.map V.str) = decide (z ∈ ws) := by
  unfold inV
  induction ws with
  | nil => rfl
  | cons x r ih =>
    rw [List.map_cons, List.any_cons, ih]
    by_cases h : x = z
    · subst h
      simp [eqV]
    · have h2 : ¬ z = x := fun e => h e.symm
      simp [eqV, h, h2]
theorem flat_strs (ws : List Str) : (ws.map V.str).all flatV = true := by
  rw [List.all_eq_true]
  intro v hv
  obtain ⟨x, _, rfl⟩ := List.mem_map.mp hv
  rfl
theorem dp_strs {K : PySem.W.Frag} {H : Hp} : ∀ ws : List Str, DpAll K H (ws.map V.str) (ws.map PyData.str)
  | [] => .nil
  | z :: r => .cons (.str z) (dp_strs r)
theorem wd_ok {z : Str} (h : IsWd z) : PyData.strOk z = true := by
  unfold PyData.strOk
  rw [← Array.all_toList, List.all_eq_true]
  intro c hc
  unfold IsWd wdB at h
  simp only [Bool.and_eq_true, decide_eq_true_eq, List.all_eq_true] at h
  have := h.2 c hc
  exact decide_eq_true (by omega)
theorem lay_strs : ∀ {ws : List Str}, (∀ z ∈ ws, IsWd z) → PyData.canLayAll0 (ws.map PyData.str) = true
  | [], _ => by simp [PyData.canLayAll0]
  | z :: r, h => by
    have h1 := wd_ok (h z List.mem_cons_self)
    have h2 := lay_strs (ws := r) fun y hy => h y (List.mem_cons_of_mem _ hy)
    simp [PyData.canLayAll0, PyData.canLay0, h1, h2]
theorem depth_strs : ∀ ws : List Str, PyData.depthAll (ws.map PyData.str) = 0
  | [] => by simp [PyData.depthAll]
  | z :: r => by simp [PyData.depthAll, PyData.depth, depth_strs r]
theorem shaped_list {ds : List PyData} (h : PyData.canLayAll0 ds = true) (d : PyData.depthAll ds ≤ 60) : SeqAt.shaped (.list ds) = true := by
  unfold SeqAt.shaped
  rw [Bool.and_eq_true]
  refine ⟨by simpa [PyData.canLay0] using h, decide_eq_true ?_⟩
  simp only [PyData.depth]
  omega
theorem shaped_tuple {ds : List PyData} (h : PyData.canLayAll0 ds = true) (d : PyData.depthAll ds ≤ 60) : SeqAt.shaped (.tuple ds) = true := by
  unfold SeqAt.shaped
  rw [Bool.and_eq_true]
  refine ⟨by simpa [PyData.canLay0] using h, decide_eq_true ?_⟩
  simp only [PyData.depth]
  omega
theorem cut_hi (z : Str) (k : Nat) : (cutS z none (some (k : Int))).cps.toList = z.cps.toList.take k := by
  show ((z.cps.toList.drop (HT.sIx z.length 0 none)).take (HT.sIx z.length z.length (some (k : Int)) - HT.sIx z.length 0 none)) = _
  rw [HT.sIx_none, HT.sIx_nat, Nat.sub_zero, List.drop_zero]
  have : z.length = z.cps.toList.length := by simp [Str.length]
  rw [this]
  by_cases h : k ≤ z.cps.toList.length
  · rw [Nat.min_eq_left h]
  · rw [Nat.min_eq_right (by omega), List.take_length, List.take_of_length_le (by omega)]
end Wl

namespace Wl
open PySem PySem.Spec PyProof.Rows L2
abbrev sFresh : Stmt := topS 43
abbrev sLand : Stmt := topS 44
abbrev sNames : Stmt := topS 45

/-! ### a word that is not in use -/
def spareS (A B : Str) : List Str := ((List.range' 97 26).map fun c => A ++ sign c) ++ (List.range' 97 13).map fun c => B ++ sign c ++ ("z" : Str)
theorem codes_add (x y : Str) : (x ++ y).cps.toList = x.cps.toList ++ y.cps.toList := TL.tl_append x y
theorem spare_free (A B : Str) (ws : List Str) (h : ws.length ≤ 35) : ∃ z ∈ spareS A B, z ∉ ws := by
  refine Classical.byContradiction fun no => ?_
  have all : ∀ z ∈ spareS A B, z ∈ ws := fun z hz => Classical.byContradiction fun k => no ⟨z, hz, k⟩
  have nd : (((List.range' 97 25).map fun c => A ++ sign c) ++ (List.range' 97 13).map fun c => B ++ sign c ++ ("z" : Str)).Nodup := by
    have zc : ("z" : Str).cps.toList = [122] := by decide +kernel
    have c1 : ∀ c, (A ++ sign c).cps.toList = A.cps.toList ++ [c] := fun c => codes_add A (sign c)
    have c2 : ∀ c, (B ++ sign c ++ ("z" : Str)).cps.toList = B.cps.toList ++ [c] ++ [122] := fun c => by
      rw [codes_add, codes_add, zc]
      rfl
    rw [List.nodup_append]
    refine ⟨?_, ?_, ?_⟩
    · refine List.pairwise_map.mpr ((List.nodup_range' (s := 97) (n := 25) (step := 1)).imp fun {a b} ne e => ne ?_)
      have := congrArg (fun z : Str => z.cps.toList) e
      simp only [c1] at this
      simpa using this
    · refine List.pairwise_map.mpr ((List.nodup_range' (s := 97) (n := 13) (step := 1)).imp fun {a b} ne e => ne ?_)
      have := congrArg (fun z : Str => z.cps.toList) e
      simp only [c2] at this
      simpa using this
    · intro x hx y hy e
      obtain ⟨c, hc, rfl⟩ := List.mem_map.mp hx
      obtain ⟨d, hd, rfl⟩ := List.mem_map.mp hy
      have := congrArg (fun z : Str => z.cps.toList.getLast?) e
      simp only [c1, c2, List.getLast?_append, List.getLast?_singleton, Option.some_or, Option.some.injEq] at this
      rw [List.mem_range'_1] at hc
      omega
  have sub : (((List.range' 97 25).map fun c => A ++ sign c) ++ (List.range' 97 13).map fun c => B ++ sign c ++ ("z" : Str)) ⊆ ws := by
    intro z hz
    refine all z ?_
    rcases List.mem_append.mp hz with hz | hz
    · obtain ⟨c, hc, rfl⟩ := List.mem_map.mp hz
      refine List.mem_append.mpr (.inl (List.mem_map.mpr ⟨c, ?_, rfl⟩))
      rw [List.mem_range'_1] at hc ⊢
      omega
    · exact List.mem_append.mpr (.inr hz)
  have := nd.length_le_of_subset sub
  simp at this
  omega
theorem spare_wd {z : Str} (h : IsWd z) : ∀ y ∈ spareS (cutS z none (some 7)) (cutS z none (some 6)), IsWd y := by
  have hl := h.len
  have hz : z.length = z.cps.toList.length := by simp [Str.length]
  have hc : ∀ c ∈ z.cps.toList, 97 ≤ c ∧ c ≤ 122 := by
    unfold IsWd wdB at h
    simp only [Bool.and_eq_true, decide_eq_true_eq, List.all_eq_true] at h
    exact h.2
  have zc : ("z" : Str).cps.toList = [122] := by decide +kernel
  intro y hy
  rcases List.mem_append.mp hy with hy | hy
  · obtain ⟨c, hcm, rfl⟩ := List.mem_map.mp hy
    rw [List.mem_range'_1] at hcm
    have e : (cutS z none (some 7) ++ sign c).cps.toList = z.cps.toList.take 7 ++ [c] := by
      rw [codes_add, show ((7 : Int)) = ((7 : Nat) : Int) from rfl, cut_hi]
      rfl
    refine isWd_of ?_ ?_ ?_
    · rw [e]; simp
    · rw [e]; simp; omega
    · rw [e]
      intro d hd
      rcases List.mem_append.mp hd with hd | hd
      · exact hc d (List.mem_of_mem_take hd)
      · rw [List.mem_singleton.mp hd]; omega
  · obtain ⟨c, hcm, rfl⟩ := List.mem_map.mp hy
    rw [List.mem_range'_1] at hcm
    have e : (cutS z none (some 6) ++ sign c ++ ("z" : Str)).cps.toList = z.cps.toList.take 6 ++ [c] ++ [122] := by
      rw [codes_add, codes_add, show ((6 : Int)) = ((6 : Nat) : Int) from rfl, cut_hi, zc]
      rfl
    refine isWd_of ?_ ?_ ?_
    · rw [e]; simp
    · rw [e]; simp; omega
    · rw [e]
      intro d hd
      rcases List.mem_append.mp hd with hd | hd
      · rcases List.mem_append.mp hd with hd | hd
        · exact hc d (List.mem_of_mem_take hd)
        · rw [List.mem_singleton.mp hd]; omega
      · rw [List.mem_singleton.mp hd]; omega

section
variable {P : Program} {w : World} {K : PySem.W.Frag} {mg : Str → Option Value} {base : Heap} {f : Addr} {fd : FuncData}
def spFresh : Sp := fun vs H Q _ => ∃ (a u : Addr) (ws : List Str), vs = [.ref a, .ref u] ∧ PurseAt H a ∧ H u = some (.lst (ws.map V.str)) ∧ u ≠ a ∧ ws.length ≤ 35 ∧
  ∀ (z : Str) (H' : Hp), IsWd z → z ∉ ws → PurseAt H' a → SameX a H H' → Q (.str z) H'
abbrev nFresh : List Str := ["_law_purse_here", "_law_used", "_law_sound", "_law_spare", "_law_sign", "_law_one"]
theorem scFresh : FnScope nFresh ["_law_purse_here", "_law_used"] (defScope sFresh) :=
  ⟨rfl, rfl, rfl, by decide +kernel, rfl, by decide +kernel, by decide +kernel⟩
def addS (A : Str) (B : Str) : V → V
  | .str s => .str (A ++ s ++ B)
  | v => v
theorem wd_line {z : Str} (h : IsWd z) : z.length ≤ sizeLine := lzl (by have := h.len; omega)
theorem ok_fresh (F : Fun K "_law_fresh" "_law_fresh" sFresh f fd) (B : Bi mg) (hW : Has P w K mg base "_law_word" 2 ["_law_purse_here"] spWord) :
    FnOk P w K mg base CX0 3 f fd ["_law_purse_here", "_law_used"] spFresh := by
  refine F.ok scFresh (fun vs H Q E h => ?_) (fun cdv A outer s H vs Q E hr h => ?_)
  · obtain ⟨a, u, ws, rfl, _⟩ := h
    rfl
  · obtain ⟨a, u, ws, rfl, hA, hu, nua, hl, q⟩ := h
    refine ⟨_, pss_cons (ps_set (i := 2) scFresh.nd rfl (.inr rfl) (pe_h hW hr (pa_cons (pv 0) pa_nil)))
      (pss_cons (ps_if (pt_cmpR op_notIn_seq (pv 2) (pv 1) (by rfl)) (pss_one (ps_ret (pv 2))) pss_nil)
      (pss_cons (ps_setLc (i := 3) (own := [("_law_sign", 4)]) (g := gName 4) (tt := tYes) rfl scFresh.nd rfl rfl (sw_true rfl rfl rfl (by decide +kernel)) (pi_str pe_str) (blkOk_by (N := nFresh) (sc := defScope sFresh) (by decide +kernel))
        (fun _ _ _ _ _ => pg_name (i := 4) scFresh.nd rfl (.inl rfl)) (fun _ _ _ _ _ => pts_nil) (fun _ _ _ _ _ => pe_op op_add_str (pe_slice sl_str (pv 2) po_none (po_some pe_int)) (pv 4)))
      (pss_cons (ps_set (i := 3) scFresh.nd rfl (.inl rfl) (pe_op op_cat (pv 3) (pe_lc (own := [("_law_sign", 4)]) (g := gName 4) (tt := tYes) rfl scFresh.nd (pi_str pe_str) (blkOk_by (N := nFresh) (sc := defScope sFresh) (by decide +kernel))
        (fun _ _ _ _ _ => pg_name (i := 4) scFresh.nd rfl (.inl rfl)) (fun _ _ _ _ _ => pts_nil) (fun _ _ _ _ _ => pe_op op_add_str (pe_op op_add_str (pe_slice sl_str (pv 2) po_none (po_some pe_int)) (pv 4)) pe_str))))
      (pss_one (ps_ret (pe_ix ix_list (pe_lc (own := [("_law_one", 5)]) (g := gName 5) (tt := tTest (tOp (rIn K true) (tVar 5) (tVar 1))) rfl scFresh.nd (pi_list (pv 3)) (blkOk_by (N := nFresh) (sc := defScope sFresh) (by decide +kernel))
        (fun _ _ _ _ _ => pg_name (i := 5) scFresh.nd rfl (.inl rfl)) (fun _ _ _ _ _ => pts_one (pt_cmpR op_notIn_seq (pv 5) (pv 1) (by rfl))) (fun _ _ _ _ _ => pv 5)) pe_int (fun _ _ => rfl))))))), ?_⟩
    refine ⟨_, rfl, a, rfl, hA, fun z H1 hz hA1 s1 => ?_⟩
    have hu1 : H1 u = some (.lst (ws.map V.str)) := s1 _ _ nua hu
    refine ⟨_, rfl, _, rfl, u, ws.map V.str, rfl, .inl (.inl (.inl hu1)), rfl, flat_strs ws, _, rfl, ite_b (fun e => ?_) (fun e => ?_)⟩
    · rw [if_pos rfl, inV_strs, Bool.not_eq_true', decide_eq_false_iff_not] at e
      exact ⟨_, rfl, q z H1 hz e hA1 s1⟩
    · refine ⟨_, rfl, fun D hD => lc_map walk_signs hD (fun _ => true) (addS (cutS z none (some 7)) ⟨#[]⟩) (fun _ _ => trivial) (fun _ => rfl) (fun x H' _ _ Q' q' => q') ?_ lz ?_⟩
      · intro x H' hx _ _ Q' q'
        obtain ⟨c, hc, rfl⟩ := List.mem_map.mp hx
        refine ⟨_, rfl, 7, rfl, z, rfl, wd_line hz, _, rfl, _, _, rfl, rfl, ?_, ?_⟩
        · have := cutS_length z none (some 7)
          have := hz.len
          exact lzl (by show (cutS z none (some 7)).length + 1 ≤ 1000; omega)
        · have e0 : addS (cutS z none (some 7)) ⟨#[]⟩ (.str (sign c)) = .str (cutS z none (some 7) ++ sign c) := by
            refine congrArg V.str (str_ext ?_)
            rw [codes_add]
            simp
          rw [e0] at q'
          exact q'
      · intro H2 s2 hD2
        have hu2 := s2 _ _ hu1
        have hA2 := hA1.same s2
        refine ⟨_, rfl, _, rfl, fun D3 hD3 => lc_map walk_signs hD3 (fun _ => true) (addS (cutS z none (some 6)) "z") (fun _ _ => trivial) (fun _ => rfl) (fun x H' _ _ Q' q' => q') ?_ lz ?_⟩
        · intro x H' hx _ _ Q' q'
          obtain ⟨c, hc, rfl⟩ := List.mem_map.mp hx
          have h6 := cutS_length z none (some 6)
          have hl8 := hz.len
          have hz1 : ("z" : Str).length = 1 := by decide +kernel
          have hadd : (cutS z none (some 6) ++ sign c).length = (cutS z none (some 6)).length + 1 := by
            rw [TL.len_tl, TL.tl_append, List.length_append, ← TL.len_tl]
            rfl
          refine ⟨_, rfl, 6, rfl, z, rfl, wd_line hz, _, rfl, _, _, rfl, rfl, ?_, _, _, rfl, rfl, ?_, q'⟩
          · exact lzl (by show (cutS z none (some 6)).length + 1 ≤ 1000; omega)
          · exact lzl (by rw [hz1]; show (cutS z none (some 6) ++ sign c).length + 1 ≤ 1000; omega)
        · intro H4 s4 hD4
          have e26 : (signsOf ("abcdefghijklmnopqrstuvwxyz" : Str)).filter (fun _ => true) = signsOf ("abcdefghijklmnopqrstuvwxyz" : Str) := List.filter_eq_self.mpr fun _ _ => rfl
          have e13 : (signsOf ("abcdefghijklm" : Str)).filter (fun _ => true) = signsOf ("abcdefghijklm" : Str) := List.filter_eq_self.mpr fun _ _ => rfl
          have c13 : ("abcdefghijklm" : Str).cps.toList = List.range' 97 13 := by decide +kernel
          have eall : ((signsOf ("abcdefghijklmnopqrstuvwxyz" : Str)).filter (fun _ => true)).map (addS (cutS z none (some 7)) ⟨#[]⟩) ++ ((signsOf ("abcdefghijklm" : Str)).filter (fun _ => true)).map (addS (cutS z none (some 6)) "z")
              = (spareS (cutS z none (some 7)) (cutS z none (some 6))).map V.str := by
            rw [e26, e13]
            unfold signsOf spareS
            rw [letters_eq, c13, List.map_append, List.map_map, List.map_map, List.map_map, List.map_map]
            congr 1
          refine ⟨D, D3, _, _, rfl, rfl, s4 _ _ hD2, hD4, lz, fun p5 hp5 => ?_⟩
          rw [eall]
          have s5 : Same H1 (upd H4 p5 (.lst ((spareS (cutS z none (some 7)) (cutS z none (some 6))).map V.str))) := (s2.trans s4).trans (same_new hp5)
          refine ⟨_, rfl, p5, rfl, ⟨_, .inl (.inl upd_same)⟩, fun D6 hD6 => lc_map (walk_list (K := K) (a := p5) (xs := (spareS (cutS z none (some 7)) (cutS z none (some 6))).map V.str)) hD6 (fun v => !inV v (ws.map V.str)) id (fun H' s' => .inl (.inl (s' _ _ upd_same))) (fun _ => rfl) ?_ ?_ lz ?_⟩
          · intro x H' hx s' Q' q'
            obtain ⟨y, hy, rfl⟩ := List.mem_map.mp hx
            exact ⟨_, rfl, _, rfl, u, _, rfl, .inl (.inl (.inl (s' _ _ (s5 _ _ hu1)))), rfl, flat_strs ws, _, rfl, q'⟩
          · intro x H' hx _ _ Q' q'
            exact ⟨_, rfl, q'⟩
          · intro H7 s7 hD7
            obtain ⟨y0, hy0, hn0⟩ := spare_free (cutS z none (some 7)) (cutS z none (some 6)) ws hl
            have hf : ((spareS (cutS z none (some 7)) (cutS z none (some 6))).map V.str).filter (fun v => !inV v (ws.map V.str)) = ((spareS (cutS z none (some 7)) (cutS z none (some 6))).filter fun y => decide (y ∉ ws)).map V.str := by
              rw [List.filter_map]
              congr 1
              refine List.filter_congr fun y _ => ?_
              simp only [Function.comp, inV_strs]
              by_cases c : y ∈ ws <;> simp [c]
            rw [List.map_id, hf] at hD7
            have hm0 : y0 ∈ (spareS (cutS z none (some 7)) (cutS z none (some 6))).filter fun y => decide (y ∉ ws) := List.mem_filter.mpr ⟨hy0, decide_eq_true hn0⟩
            cases hcl : (spareS (cutS z none (some 7)) (cutS z none (some 6))).filter fun y => decide (y ∉ ws) with
            | nil =>
              rw [hcl] at hm0
              cases hm0
            | cons y r =>
              have hym : y ∈ (spareS (cutS z none (some 7)) (cutS z none (some 6))).filter fun y => decide (y ∉ ws) := by
                rw [hcl]
                exact List.mem_cons_self
              obtain ⟨hy1, hy2⟩ := List.mem_filter.mp hym
              refine ⟨D6, _, 0, .str y, rfl, rfl, .inl (.inl hD7), atI_nat (j := 0) (by rw [hcl]; rfl), ?_⟩
              exact q y H7 (spare_wd hz y hy1) (of_decide_eq_true hy2) (hA1.same (s5.trans s7)) (s1.trans (sx (s5.trans s7)))
end
end Wl



namespace Wl
open PySem PySem.Spec PyProof.Rows L2
abbrev Row := List (Option Str)
abbrev Grid := List Row
def rnames (r : Row) : List Str := r.filterMap id
def names (g : Grid) : List Str := g.flatten.filterMap id
theorem names_nil : names [] = [] := rfl
theorem names_snoc (g : Grid) (r : Row) : names (g ++ [r]) = names g ++ rnames r := by
  unfold names rnames
  rw [List.flatten_append, List.filterMap_append]
  simp
theorem names_cons (r : Row) (g : Grid) : names (r :: g) = rnames r ++ names g := by
  unfold names rnames
  rw [List.flatten_cons, List.filterMap_append]
theorem rnames_snoc (r : Row) (o : Option Str) : rnames (r ++ [o]) = rnames r ++ o.toList := by
  unfold rnames
  rw [List.filterMap_append]
  cases o <;> rfl
structure Good (g : Grid) (wd : Nat) : Prop where
  h1 : 1 ≤ g.length
  h6 : g.length ≤ 6
  w1 : 1 ≤ wd
  w6 : wd ≤ 6
  rows : ∀ r ∈ g, r.length = wd
  nd : (names g).Nodup
  wd : ∀ z ∈ names g, IsWd z
  ne : names g ≠ []
/-- the heap keeps its tuples -/
def TupKeep (H H' : Hp) : Prop := ∀ p xs, H p = some (.tup xs) → H' p = some (.tup xs)
theorem TupKeep.refl (H : Hp) : TupKeep H H := fun _ _ h => h
theorem TupKeep.trans {H H1 H2 : Hp} (a : TupKeep H H1) (b : TupKeep H1 H2) : TupKeep H H2 := fun p xs h => b p xs (a p xs h)
theorem tk_same {H H' : Hp} (s : Same H H') : TupKeep H H' := fun p xs h => s p _ h
theorem tk_x {a : Addr} {H H' : Hp} {ys : List V} (s : SameX a H H') (ha : H a = some (.lst ys)) : TupKeep H H' := fun p xs h => s p _ (ne_of h ha (by intro z; cases z)) h
theorem tk_upd {a : Addr} {H : Hp} {ys : List V} {o : HO} (ha : H a = some (.lst ys)) : TupKeep H (upd H a o) := tk_x sameX_upd ha
theorem tk_new {p : Addr} {H : Hp} {o : HO} (hp : H p = none) : TupKeep H (upd H p o) := tk_same (same_new hp)
/-- rows of a grid as tuples -/
def RowsAt (H : Hp) (as : List Addr) (g : Grid) : Prop := Each (fun (p : Addr) (row : Row) => H p = some (.tup (row.map oV))) as g
theorem RowsAt.keep {H H' : Hp} {as : List Addr} {g : Grid} (h : RowsAt H as g) (k : TupKeep H H') : RowsAt H' as g := Each.mono (fun p row e => k p _ e) h
def GridAt (H : Hp) (L : Addr) (g : Grid) : Prop := ∃ as : List Addr, H L = some (.tup (as.map V.ref)) ∧ RowsAt H as g
theorem GridAt.keep {H H' : Hp} {L : Addr} {g : Grid} (h : GridAt H L g) (k : TupKeep H H') : GridAt H' L g := by
  obtain ⟨as, h1, h2⟩ := h
  exact ⟨as, k _ _ h1, h2.keep k⟩
/-- the part at a row and a column, none where there is none -/
def cellAt (g : Grid) (r c : Nat) : Option Str := match g[r]? with
  | some row => (row[c]?).getD none
  | none => none
theorem cellAt_some {g : Grid} {r c : Nat} {z : Str} (h : cellAt g r c = some z) : ∃ row, g[r]? = some row ∧ row[c]? = some (some z) := by
  unfold cellAt at h
  cases e : g[r]? with
  | none => rw [e] at h; cases h
  | some row =>
    rw [e] at h
    refine ⟨row, rfl, ?_⟩
    cases e2 : row[c]? with
    | none => simp only [e2] at h; cases h
    | some o => simp only [e2, Option.getD_some] at h; rw [h]
theorem cellAt_of {g : Grid} {r c : Nat} {row : Row} {o : Option Str} (h : g[r]? = some row) (k : row[c]? = some o) : cellAt g r c = o := by
  unfold cellAt
  rw [h]
  simp [k]
/-! ### the spots -/
def spR (i j : Nat) : Row → List (Str × Nat × Nat)
  | [] => []
  | none :: r => spR i (j + 1) r
  | some z :: r => (z, i, j) :: spR i (j + 1) r
def spG (i : Nat) : Grid → List (Str × Nat × Nat)
  | [] => []
  | row :: g => spR i 0 row ++ spG (i + 1) g
theorem spR_snoc (i : Nat) : ∀ (r : Row) (j : Nat) (o : Option Str), spR i j (r ++ [o]) = spR i j r ++ (o.toList.map fun z => (z, i, j + r.length))
  | [], j, none => rfl
  | [], j, some z => rfl
  | none :: r, j, o => by
    show spR i (j + 1) (r ++ [o]) = spR i (j + 1) r ++ _
    rw [spR_snoc i r (j + 1) o, List.length_cons]
    congr 2
    funext z
    rw [Nat.add_right_comm, Nat.add_assoc]
  | some y :: r, j, o => by
    show (y, i, j) :: spR i (j + 1) (r ++ [o]) = (y, i, j) :: spR i (j + 1) r ++ _
    rw [spR_snoc i r (j + 1) o, List.length_cons, List.cons_append]
    congr 3
    funext z
    rw [Nat.add_right_comm, Nat.add_assoc]
theorem spG_snoc : ∀ (g : Grid) (i : Nat) (r : Row), spG i (g ++ [r]) = spG i g ++ spR (i + g.length) 0 r
  | [], i, r => by simp [spG]
  | x :: g, i, r => by
    show spR i 0 x ++ spG (i + 1) (g ++ [r]) = spR i 0 x ++ spG (i + 1) g ++ _
    rw [spG_snoc g (i + 1) r, List.length_cons, List.append_assoc]
    congr 3
    omega
theorem spR_fst (i : Nat) : ∀ (r : Row) (j : Nat), (spR i j r).map (·.1) = rnames r
  | [], _ => rfl
  | none :: r, j => spR_fst i r (j + 1)
  | some z :: r, j => congrArg (z :: ·) (spR_fst i r (j + 1))
theorem spG_fst : ∀ (g : Grid) (i : Nat), (spG i g).map (·.1) = names g
  | [], _ => rfl
  | r :: g, i => by
    show (spR i 0 r ++ spG (i + 1) g).map (·.1) = _
    rw [List.map_append, spR_fst, spG_fst g (i + 1), names_cons]
theorem spR_mem (i : Nat) {z : Str} {a b : Nat} : ∀ (r : Row) (j : Nat), (z, a, b) ∈ spR i j r ↔ a = i ∧ ∃ k, b = j + k ∧ r[k]? = some (some z)
  | [], j => by simp [spR]
  | none :: r, j => by
    show (z, a, b) ∈ spR i (j + 1) r ↔ _
    rw [spR_mem i r (j + 1)]
    constructor
    · rintro ⟨h, k, e, q⟩
      exact ⟨h, k + 1, by omega, by simpa using q⟩
    · rintro ⟨h, k, e, q⟩
      cases k with
      | zero => simp at q
      | succ k => exact ⟨h, k, by omega, by simpa using q⟩
  | some y :: r, j => by
    show (z, a, b) ∈ (y, i, j) :: spR i (j + 1) r ↔ _
    rw [List.mem_cons, spR_mem i r (j + 1)]
    constructor
    · rintro (h | ⟨h, k, e, q⟩)
      · cases h
        exact ⟨rfl, 0, rfl, rfl⟩
      · exact ⟨h, k + 1, by omega, by simpa using q⟩
    · rintro ⟨h, k, e, q⟩
      cases k with
      | zero =>
        simp at q
        subst q h
        exact .inl (by rw [e, Nat.add_zero])
      | succ k => exact .inr ⟨h, k, by omega, by simpa using q⟩
theorem spG_mem {z : Str} {a b : Nat} : ∀ (g : Grid) (i : Nat), (z, a, b) ∈ spG i g ↔ ∃ k row, a = i + k ∧ g[k]? = some row ∧ row[b]? = some (some z)
  | [], i => by simp [spG]
  | r :: g, i => by
    show (z, a, b) ∈ spR i 0 r ++ spG (i + 1) g ↔ _
    rw [List.mem_append, spR_mem, spG_mem g (i + 1)]
    constructor
    · rintro (⟨h, k, e, q⟩ | ⟨k, row, e, q, t⟩)
      · exact ⟨0, r, by omega, rfl, by rw [e, Nat.zero_add]; exact q⟩
      · exact ⟨k + 1, row, by omega, by simpa using q, t⟩
    · rintro ⟨k, row, e, q, t⟩
      cases k with
      | zero =>
        simp at q
        subst q
        exact .inl ⟨by omega, b, by omega, t⟩
      | succ k => exact .inr ⟨k, row, by omega, by simpa using q, t⟩
theorem spG_cell {g : Grid} {z : Str} {r c : Nat} : (z, r, c) ∈ spG 0 g ↔ cellAt g r c = some z := by
  rw [spG_mem]
  constructor
  · rintro ⟨k, row, e, q, t⟩
    have : r = k := by omega
    subst this
    exact cellAt_of q t
  · intro h
    obtain ⟨row, q, t⟩ := cellAt_some h
    exact ⟨r, row, by omega, q, t⟩
theorem mem_names {g : Grid} {z : Str} : z ∈ names g ↔ ∃ r c, cellAt g r c = some z := by
  rw [← spG_fst g 0]
  constructor
  · intro h
    obtain ⟨⟨y, r, c⟩, hm, rfl⟩ := List.mem_map.mp h
    exact ⟨r, c, spG_cell.mp hm⟩
  · rintro ⟨r, c, h⟩
    exact List.mem_map.mpr ⟨_, spG_cell.mpr h, rfl⟩
theorem nodup_fst {α β : Type} : ∀ {l : List (α × β)}, (l.map (·.1)).Nodup → ∀ {a : α} {b b' : β}, (a, b) ∈ l → (a, b') ∈ l → b = b'
  | [], _, _, _, _, h, _ => by cases h
  | x :: l, nd, a, b, b', h, k => by
    obtain ⟨h1, h2⟩ := List.nodup_cons.mp nd
    rcases List.mem_cons.mp h with e | h <;> rcases List.mem_cons.mp k with e' | k
    · rw [← e] at e'
      exact (Prod.mk.inj e').2.symm
    · exact absurd (List.mem_map.mpr ⟨_, k, by rw [← e]⟩) h1
    · exact absurd (List.mem_map.mpr ⟨_, h, by rw [← e']⟩) h1
    · exact nodup_fst h2 h k
theorem cell_inj {g : Grid} (nd : (names g).Nodup) {z : Str} {r c r' c' : Nat} (h : cellAt g r c = some z) (k : cellAt g r' c' = some z) : r = r' ∧ c = c' := by
  have := nodup_fst (l := spG 0 g) (by rw [spG_fst]; exact nd) (spG_cell.mpr h) (spG_cell.mpr k)
  exact Prod.mk.inj this
theorem Good.cell {g : Grid} {wd : Nat} (G : Good g wd) {r c : Nat} {z : Str} (h : cellAt g r c = some z) : r < g.length ∧ c < wd := by
  obtain ⟨row, h1, h2⟩ := cellAt_some h
  obtain ⟨a, e⟩ := List.getElem?_eq_some_iff.mp h1
  obtain ⟨b, _⟩ := List.getElem?_eq_some_iff.mp h2
  have := G.rows row (List.mem_of_getElem? h1)
  exact ⟨a, by omega⟩
theorem Good.len {g : Grid} {wd : Nat} (G : Good g wd) : (names g).length ≤ 36 := by
  have h : ∀ l : Grid, (∀ r ∈ l, r.length = wd) → (names l).length ≤ l.length * wd := by
    intro l
    induction l with
    | nil => intro _; simp [names]
    | cons r l ih =>
      intro h
      rw [names_cons, List.length_append, List.length_cons]
      have h1 : (rnames r).length ≤ wd := by
        have := List.length_filterMap_le id r
        have := h r List.mem_cons_self
        unfold rnames
        omega
      have h2 := ih fun r hr => h r (List.mem_cons_of_mem _ hr)
      rw [Nat.succ_mul]
      omega
  have h1 := h g G.rows
  have h2 : g.length * wd ≤ 6 * 6 := Nat.mul_le_mul G.h6 G.w6
  omega
end Wl

namespace Wl
open PySem PySem.Spec PyProof.Rows L2
section
variable {P : Program} {w : World} {K : PySem.W.Frag} {mg : Str → Option Value} {base : Heap} {f : Addr} {fd : FuncData}
def spLand : Sp := fun vs H Q _ => ∃ (a : Addr) (m : Int), vs = [.ref a, .int m] ∧ PurseAt H a ∧ 1 ≤ m ∧ m ≤ 6 ∧
  ∀ (L : Addr) (g : Grid) (wd : Nat) (H' : Hp), Good g wd → (g.length : Int) ≤ m → (wd : Int) ≤ m → GridAt H' L g → PurseAt H' a → SameX a H H' → Q (.ref L) H'
abbrev nLand : List Str := ["_law_purse_here", "_law_most", "_law_high", "_law_wide", "_law_towns", "_law_laid", "_law_row", "_law_parts", "_law_column", "_law_lake", "_law_town"]
theorem scLand : FnScope nLand ["_law_purse_here", "_law_most"] (defScope sLand) :=
  ⟨rfl, rfl, rfl, by decide +kernel, rfl, by decide +kernel, by decide +kernel⟩
/-- what holds of the heap while the land is laid: the rows laid so far, the parts of this one -/
structure Laying (H0 H : Hp) (a tA lA : Addr) (g : Grid) (wd : Nat) (ps : Row) : Prop where
  purse : PurseAt H a
  same : SameX a H0 H
  towns : H tA = some (.lst ((names g ++ rnames ps).map V.str))
  laid : ∃ as, H lA = some (.lst (as.map V.ref)) ∧ RowsAt H as g
  rows : ∀ r ∈ g, r.length = wd
  nd : (names g ++ rnames ps).Nodup
  wds : ∀ z ∈ names g ++ rnames ps, IsWd z
theorem len_names {g : Grid} {wd : Nat} (h : ∀ r ∈ g, r.length = wd) : (names g).length ≤ g.length * wd := by
  induction g with
  | nil => simp [names]
  | cons r l ih =>
    rw [names_cons, List.length_append, List.length_cons]
    have h1 : (rnames r).length ≤ wd := by
      have := List.length_filterMap_le id r
      have := h r List.mem_cons_self
      unfold rnames
      omega
    have h2 := ih fun r hr => h r (List.mem_cons_of_mem _ hr)
    rw [Nat.succ_mul]
    omega
theorem lake_reads {σ : L2.St} {H : Hp} {Q : VK} {a tA : Addr} {ws : List Str} {x y hi wd : Int} (e0 : σ[0]? = some (some (.ref a))) (e4 : σ[4]? = some (some (.ref tA))) (e6 : σ[6]? = some (some (.int x))) (e8 : σ[8]? = some (some (.int y)))
    (e2 : σ[2]? = some (some (.int hi))) (e3 : σ[3]? = some (some (.int wd))) (hA : PurseAt H a) (ht : H tA = some (.lst (ws.map V.str))) (nta : tA ≠ a) (hws : ∀ z ∈ ws, IsWd z)
    (q : ∀ (b : Bool) (H' : Hp), PurseAt H' a → SameX a H H' → (b = true → ws ≠ [] ∨ x + y + 2 < hi + wd) → Q (.bl b) H') :
    tAndV (tOp rEq (tCall spPick [] E0 (tCons (tVar 0) (tCons (tC (.int 6)) tNil))) (tC (.int 5)))
      (tOrV (tOp (rNeD K) (tVar 4) (tLst tNil)) (tOp (rI0 fun i j => .bl (decide (i < j))) (tOp (rI0 fun i j => .int (i + j)) (tOp (rI0 fun i j => .int (i + j)) (tVar 6) (tVar 8)) (tC (.int 2))) (tOp (rI0 fun i j => .int (i + j)) (tVar 2) (tVar 3)))) σ H Q := by
  refine ⟨_, e0, a, 6, rfl, hA, by decide, by decide, fun r H1 r0 r1 hA1 s1 n1 => ⟨rfl, _, rfl, ite_b (fun e => ?_) (fun e => ?_)⟩⟩
  · refine ⟨_, e4, lz, fun p hp => ⟨.list (ws.map .str), .list [], .lst (.inl (.inl ((same_new hp) _ _ (s1 _ _ nta ht)))) (dp_strs ws), .lst (.inl (.inl upd_same)) .nil, shaped_list (lay_strs hws) (by rw [depth_strs]; decide), rfl, _, rfl, ite_b (fun e => ?_) (fun e => ?_)⟩⟩
    · refine q true _ (hA1.same (same_new hp)) (s1.trans (sx (same_new hp))) fun _ => .inl fun z => ?_
      subst z
      cases e
    · refine ⟨_, e6, _, e8, _, _, rfl, rfl, _, _, rfl, rfl, _, e2, _, e3, _, _, rfl, rfl, _, _, rfl, rfl, ?_⟩
      exact q _ _ (hA1.same (same_new hp)) (s1.trans (sx (same_new hp))) fun z => .inr (of_decide_eq_true z)
  · exact q false _ hA1 s1 fun z => by cases z
theorem Laying.go {H0 H H' : Hp} {a tA lA : Addr} {g : Grid} {wd : Nat} {ps : Row} (h : Laying H0 H a tA lA g wd ps) (nt : tA ≠ a) (nl : lA ≠ a) (hp : PurseAt H' a) (s : SameX a H H') : Laying H0 H' a tA lA g wd ps := by
  obtain ⟨as, hl, hR⟩ := h.laid
  obtain ⟨ys, ha⟩ := h.purse.lst
  exact ⟨hp, h.same.trans s, s _ _ nt h.towns, ⟨as, s _ _ nl hl, hR.keep (tk_x s ha)⟩, h.rows, h.nd, h.wds⟩
theorem ok_land (F : Fun K "_law_land" "_law_land" sLand f fd) (B : Bi mg) (hp : Has P w K mg base "_law_pick" 1 ["_law_purse_here", "_law_many"] spPick) (hF : Has P w K mg base "_law_fresh" 3 ["_law_purse_here", "_law_used"] spFresh) :
    FnOk P w K mg base CX0 4 f fd ["_law_purse_here", "_law_most"] spLand := by
  refine F.ok scLand (fun vs H Q E h => ?_) (fun cdv A outer s H vs Q E hr h => ?_)
  · obtain ⟨a, m, rfl, _⟩ := h
    rfl
  · obtain ⟨a, m, rfl, hA, m1, m6, q⟩ := h
    refine ⟨_, pss_cons (ps_par3 (i := 2) (j := 3) (l := 4) (by rfl) scLand.nd rfl rfl rfl (by decide) (by decide) (by decide) rfl rfl rfl (pa_cons (pe_op op_add pe_int (pe_h hp hr (pa_cons (pv 0) (pa_cons (pv 1) pa_nil)))) (pa_cons (pe_op op_add pe_int (pe_h hp hr (pa_cons (pv 0) (pa_cons (pv 1) pa_nil)))) (pa_cons (pe_lst pa_nil) pa_nil))) (by rfl))
      (pss_cons (ps_set (i := 5) scLand.nd rfl (.inl rfl) (pe_lst pa_nil))
      (pss_cons (ps_for PassesOwn.never rfl (pi_range1 rfl B.range (pa_cons (pv 2) pa_nil)) (pg_name (i := 6) scLand.nd rfl (.inl rfl))
        (pss_cons (ps_set (i := 7) scLand.nd rfl (.inl rfl) (pe_lst pa_nil))
        (pss_cons (ps_for PassesOwn.never rfl (pi_range1 rfl B.range (pa_cons (pv 3) pa_nil)) (pg_name (i := 8) scLand.nd rfl (.inl rfl))
          (pss_cons (ps_set (i := 9) scLand.nd rfl (.inl rfl) (pe_and (pe_cmpR op_eq (pe_h hp hr (pa_cons (pv 0) (pa_cons pe_int pa_nil))) pe_int (nomark _)) (pe_one (pe_or (pe_cmpR (op_neD hr.units) (pv 4) (pe_lst pa_nil) (nomark _)) (pe_one (pe_cmpR op_lt (pe_op op_add (pe_op op_add (pv 6) (pv 8)) pe_int) (pe_op op_add (pv 2) (pv 3)) (nomark _)))))))
          (pss_cons (ps_set (i := 10) scLand.nd rfl (.inl rfl) (pe_h hF hr (pa_cons (pv 0) (pa_cons (pv 4) pa_nil))))
          (pss_cons (ps_if (pt_truth (pv 9) (by intro _; rfl)) (pss_one (ps_set (i := 10) scLand.nd rfl (.inl rfl) pe_non)) (pss_one (ps_expr (pe_bm PySem.F.plainAttrs_list PySem.F.slot_list_append PySem.F.type_list_append mt_append (pv 4) (pa_cons (pv 10) pa_nil)))))
          (pss_one (ps_expr (pe_bm PySem.F.plainAttrs_list PySem.F.slot_list_append PySem.F.type_list_append mt_append (pv 7) (pa_cons (pv 10) pa_nil))))))))
        (pss_one (ps_expr (pe_bm PySem.F.plainAttrs_list PySem.F.slot_list_append PySem.F.type_list_append mt_append (pv 5) (pa_cons (pe_callTy call_tuple_of (by rfl) B.tuple (by decide +kernel) (pa_cons (pv 7) pa_nil)) pa_nil)))))))
      (pss_one (ps_ret (pe_callTy call_tuple_of (by rfl) B.tuple (by decide +kernel) (pa_cons (pv 5) pa_nil)))))), ?_⟩
    refine ⟨_, rfl, _, rfl, a, m, rfl, hA, by omega, by omega, fun r1 H1 r10 r11 hA1 s1 n1 => ⟨_, _, rfl, rfl, ?_⟩⟩
    refine ⟨_, rfl, _, rfl, a, m, rfl, hA1, by omega, by omega, fun r2 H2 r20 r21 hA2 s2 n2 => ⟨_, _, rfl, rfl, ?_⟩⟩
    refine ⟨lz, fun tA htA => ⟨_, _, _, rfl, lz, fun lA hlA => ?_⟩⟩
    have nta : tA ≠ a := hA2.ne htA
    have nla : lA ≠ a := (hA2.same (same_new htA)).ne hlA
    have nlt : lA ≠ tA := (ne_of_none upd_same hlA).symm
    have htA0 : H tA = none := SameX.free (s1.trans s2) nta htA
    have hlA0 : H lA = none := SameX.free ((s1.trans s2).trans (sx (same_new htA))) nla hlA
    obtain ⟨hi, ehi⟩ : ∃ hi : Nat, 1 + r1 = (hi : Int) := ⟨(1 + r1).toNat, by omega⟩
    obtain ⟨wd, ewd⟩ : ∃ wd : Nat, 1 + r2 = (wd : Int) := ⟨(1 + r2).toNat, by omega⟩
    have n1 : (1 + r1).toNat = hi := by omega
    have n2 : (1 + r2).toNat = wd := by omega
    have hhi : 1 ≤ hi ∧ hi ≤ 6 := by omega
    have hwd : 1 ≤ wd ∧ wd ≤ 6 := by omega
    have L0 : Laying H (upd (upd H2 tA (.lst [])) lA (.lst [])) a tA lA [] wd [] := by
      refine ⟨(hA2.same (same_new htA)).same (same_new hlA), sameX_mut (sameX_mut (s1.trans s2) htA0) hlA0, ?_, ⟨[], upd_same, .nil⟩, (fun r hr => nomatch hr), List.nodup_nil, (fun z hz => nomatch hz)⟩
      rw [upd_ne nlt.symm, upd_same]
      rfl
    generalize upd (upd H2 tA (.lst [])) lA (.lst []) = H3 at L0
    refine ⟨_, rfl, 1 + r1, rfl, by omega, by omega, ?_⟩
    rw [n1]
    refine for_range (lo := 0) (n := hi) (fun i σ H' => ∃ (g : Grid) (y6 y7 y8 y9 y10 : Option V), σ = [some (.ref a), some (.int m), some (.int (1 + r1)), some (.int (1 + r2)), some (.ref tA), some (.ref lA), y6, y7, y8, y9, y10] ∧ g.length = i ∧ Laying H H' a tA lA g wd [] ∧ (i = hi → names g ≠ []))
      ⟨[], none, none, none, none, none, rfl, rfl, L0, fun e => by omega⟩ ?_ ?_
    · rintro i σ H4 hi4 ⟨g, y6, y7, y8, y9, y10, rfl, hgl, L4, _⟩
      refine ⟨lz, fun pA hpA => ?_⟩
      have npa : pA ≠ a := L4.purse.ne hpA
      have npt : pA ≠ tA := (ne_of_none L4.towns hpA).symm
      obtain ⟨as4, hl4, hR4⟩ := L4.laid
      have npl : pA ≠ lA := (ne_of_none hl4 hpA).symm
      have L5 := L4.go nta nla (L4.purse.same (same_new (o := .lst []) hpA)) (sx (same_new hpA))
      refine ⟨_, rfl, 1 + r2, rfl, by omega, by omega, ?_⟩
      rw [n2]
      refine for_range (lo := 0) (n := wd) (fun j σ H' => ∃ (ps : Row) (y8 y9 y10 : Option V), σ = [some (.ref a), some (.int m), some (.int (1 + r1)), some (.int (1 + r2)), some (.ref tA), some (.ref lA), some (.int (0 + i)), some (.ref pA), y8, y9, y10] ∧ ps.length = j ∧ Laying H H' a tA lA g wd ps ∧ H' pA = some (.lst (ps.map oV)) ∧ (i + 1 = hi → j = wd → names g ++ rnames ps ≠ []))
        ⟨[], _, _, _, rfl, rfl, L5, upd_same, fun _ e => by omega⟩ ?_ ?_
      · rintro j σ H6 hj ⟨ps, z8, z9, z10, rfl, hpl, L6, hp6, _⟩
        refine lake_reads (a := a) (tA := tA) (x := 0 + i) (y := 0 + j) (hi := 1 + r1) (wd := 1 + r2) rfl rfl rfl rfl rfl rfl L6.purse L6.towns nta L6.wds fun b H7 hA7 s7 hb => ?_
        have L7 := L6.go nta nla hA7 s7
        have hp7 := s7 _ _ npa hp6
        have hlen : (names g ++ rnames ps).length ≤ 35 := by
          have h1 := len_names L6.rows
          have h2 : (rnames ps).length ≤ ps.length := List.length_filterMap_le id ps
          rw [List.length_append]
          have h3 : g.length * wd ≤ 5 * wd := Nat.mul_le_mul_right _ (by omega)
          omega
        refine ⟨_, rfl, _, rfl, a, tA, names g ++ rnames ps, rfl, L7.purse, L7.towns, nta, hlen, fun z H8 hz hzn hA8 s8 => ?_⟩
        have L8 := L7.go nta nla hA8 s8
        have hp8 := s8 _ _ npa hp7
        have hlt : ((names g ++ rnames ps).map V.str).length < sizeLine := by
          rw [List.length_map]
          exact small1000 (by omega)
        have hpl2 : (ps.map oV).length < sizeLine := by
          rw [List.length_map]
          exact small1000 (by omega)
        refine ⟨_, rfl, b, rfl, ite_b (fun e => ?_) (fun e => ?_)⟩
        · -- a lake
          refine ⟨_, rfl, .inl ⟨rfl, _, .inl (.inl hp8)⟩, _, rfl, pA, _, _, rfl, rfl, hp8, hpl2, ?_⟩
          obtain ⟨as8, hl8, hR8⟩ := L8.laid
          refine ⟨ps ++ [none], _, _, _, rfl, by simp [hpl], ⟨?_, ?_, ?_, ⟨as8, ?_, hR8.keep (tk_upd hp8)⟩, L8.rows, ?_, ?_⟩, ?_, ?_⟩
          · obtain ⟨x0, x1, x2, hx, hx1⟩ := L8.purse
            exact ⟨x0, x1, x2, by rw [upd_ne npa.symm]; exact hx, hx1⟩
          · exact sameX_mut L8.same (SameX.free L4.same npa hpA)
          · rw [upd_ne npt.symm, rnames_snoc]
            simpa using L8.towns
          · rw [upd_ne npl.symm]
            exact hl8
          · rw [rnames_snoc]
            simpa using L8.nd
          · rw [rnames_snoc]
            simpa using L8.wds
          · rw [upd_same, List.map_append]
            rfl
          · intro e1 e2
            rw [rnames_snoc]
            rcases hb e with h | h
            · simpa using h
            · omega
        · -- a village
          refine ⟨_, rfl, .inl ⟨rfl, _, .inl (.inl L8.towns)⟩, _, rfl, tA, _, _, rfl, rfl, L8.towns, hlt, ?_⟩
          have hp9 : upd H8 tA (.lst ((names g ++ rnames ps).map V.str ++ [.str z])) pA = some (.lst (ps.map oV)) := by
            rw [upd_ne npt]
            exact hp8
          refine ⟨_, rfl, .inl ⟨rfl, _, .inl (.inl hp9)⟩, _, rfl, pA, _, _, rfl, rfl, hp9, hpl2, ?_⟩
          obtain ⟨as8, hl8, hR8⟩ := L8.laid
          have en : names g ++ rnames (ps ++ [some z]) = (names g ++ rnames ps) ++ [z] := by
            rw [rnames_snoc, List.append_assoc]
            rfl
          refine ⟨ps ++ [some z], _, _, _, rfl, by simp [hpl], ⟨?_, ?_, ?_, ⟨as8, ?_, (hR8.keep (tk_upd L8.towns)).keep (tk_upd hp9)⟩, L8.rows, ?_, ?_⟩, ?_, ?_⟩
          · obtain ⟨x0, x1, x2, hx, hx1⟩ := L8.purse
            exact ⟨x0, x1, x2, by rw [upd_ne npa.symm, upd_ne nta.symm]; exact hx, hx1⟩
          · exact sameX_mut (sameX_mut L8.same htA0) (SameX.free L4.same npa hpA)
          · rw [upd_ne npt.symm, upd_same, en]
            simp
          · rw [upd_ne npl.symm, upd_ne nlt]
            exact hl8
          · rw [en, List.nodup_append]
            refine ⟨L8.nd, by simp, fun x hx y hy e => ?_⟩
            rw [List.mem_singleton.mp hy] at e
            rw [e] at hx
            exact hzn hx
          · rw [en]
            intro y hy
            rcases List.mem_append.mp hy with hy | hy
            · exact L8.wds y hy
            · rw [List.mem_singleton.mp hy]
              exact hz
          · rw [upd_same, List.map_append]
            rfl
          · intro _ _
            rw [en]
            simp
      · rintro σ H6 ⟨ps, z8, z9, z10, rfl, hpl, L6, hp6, hne⟩
        obtain ⟨as6, hl6, hR6⟩ := L6.laid
        refine ⟨_, rfl, .inl ⟨rfl, _, .inl (.inl hl6)⟩, _, rfl, pA, _, rfl, .inl ⟨.inl (.inl hp6), fun t ht => ?_⟩⟩
        have nlt6 : lA ≠ t := ne_of_none hl6 ht
        refine ⟨lA, _, _, rfl, rfl, (same_new ht) _ _ hl6, ?_, ?_⟩
        · rw [List.length_map, hR6.length]
          exact small1000 (by omega)
        · refine ⟨g ++ [ps], _, _, _, _, _, rfl, by simp [hgl], ⟨?_, ?_, ?_, ⟨as6 ++ [t], ?_, ?_⟩, ?_, ?_, ?_⟩, ?_⟩
          · obtain ⟨x0, x1, x2, hx, hx1⟩ := L6.purse.same (same_new (o := .tup (ps.map oV)) ht)
            exact ⟨x0, x1, x2, by rw [upd_ne nla.symm]; exact hx, hx1⟩
          · exact sameX_mut (L6.same.trans (sx (same_new ht))) hlA0
          · rw [upd_ne nlt.symm, (same_new ht) _ _ L6.towns, names_snoc]
            simp [rnames]
          · rw [upd_same, List.map_append]
            rfl
          · refine Each.append ((hR6.keep (tk_new ht)).keep (tk_upd ((same_new ht) _ _ hl6))) (.cons ?_ .nil)
            rw [upd_ne nlt6.symm, upd_same]
          · intro r hr
            rcases List.mem_append.mp hr with hr | hr
            · exact L6.rows r hr
            · rw [List.mem_singleton.mp hr]
              exact hpl
          · rw [names_snoc]
            simpa [rnames] using L6.nd
          · rw [names_snoc]
            simpa [rnames] using L6.wds
          · intro e
            rw [names_snoc]
            exact hne e rfl
    · rintro σ H4 ⟨g, y6, y7, y8, y9, y10, rfl, hgl, L4, hne⟩
      obtain ⟨as4, hl4, hR4⟩ := L4.laid
      refine ⟨_, rfl, lA, _, rfl, .inl ⟨.inl (.inl hl4), fun t ht => ?_⟩⟩
      refine q t g wd _ ⟨by omega, by omega, hwd.1, hwd.2, L4.rows, ?_, ?_, hne rfl⟩ (by omega) (by omega) ⟨as4, upd_same, hR4.keep (tk_new ht)⟩ (L4.purse.same (same_new ht)) (L4.same.trans (sx (same_new ht)))
      · simpa [rnames] using L4.nd
      · simpa [rnames] using L4.wds
end
end Wl



namespace Wl
open PySem PySem.Spec PyProof.Rows L2
abbrev sIsWord : Stmt := topS 27
abbrev sAreRows : Stmt := topS 32
abbrev sWrong : Stmt := topS 33
abbrev sSpotsIn : Stmt := topS 34
abbrev sSpots : Stmt := topS 35
structure Gk (mg : Str → Option Value) : Prop where
  letters : ∃ t, mg "LETTERS" = some (.str "abcdefghijklmnopqrstuvwxyz" t)
  longest : ∃ t, mg "LONGEST_WORD" = some (.int 8 t)
  mrows : ∃ t, mg "MOST_ROWS" = some (.int 6 t)
  mcols : ∃ t, mg "MOST_COLUMNS" = some (.int 6 t)
section
variable {P : Program} {w : World} {K : PySem.W.Frag} {mg : Str → Option Value} {base : Heap} {f : Addr} {fd : FuncData}

/-! ### is_word of a text -/
def spIsWord : Sp := fun vs H Q _ => ∃ (z : Str), vs = [.str z] ∧ z.length ≤ 1000 ∧ ∀ (H' : Hp), Same H H' → Q (.bl (wdB z)) H'
abbrev nIsWord : List Str := ["thing", "letter"]
theorem scIsWord : FnScope nIsWord ["thing"] (defScope sIsWord) := ⟨rfl, rfl, rfl, by decide +kernel, rfl, by decide +kernel, by decide +kernel⟩
def letB (c : Nat) : Bool := decide (97 ≤ c) && decide (c ≤ 122)
def letV : V → V
  | .str s => .bl (s.cps.toList.all letB)
  | v => v
theorem letB_mem (c : Nat) : decide (c ∈ ("abcdefghijklmnopqrstuvwxyz" : Str).cps.toList) = letB c := by
  rw [letters_eq]
  unfold letB
  by_cases h : c ∈ List.range' 97 26
  · rw [decide_eq_true h]
    rw [List.mem_range'_1] at h
    simp
    omega
  · rw [decide_eq_false h]
    rw [List.mem_range'_1] at h
    symm
    rw [Bool.and_eq_false_iff, decide_eq_false_iff_not, decide_eq_false_iff_not]
    omega
theorem ok_isword (F : Fun K "is_word" "is_word" sIsWord f fd) (B : Bi mg) (G : Gk mg) : FnOk P w K mg base CX0 1 f fd ["thing"] spIsWord := by
  obtain ⟨t1, g1⟩ := G.letters
  obtain ⟨t2, g2⟩ := G.longest
  refine F.ok scIsWord (fun vs H Q E h => ?_) (fun cdv A outer s H vs Q E hr h => ?_)
  · obtain ⟨z, rfl, _⟩ := h
    rfl
  · obtain ⟨z, rfl, hz, q⟩ := h
    refine ⟨_, pss_cons (ps_if (PW.pt (pw_or (pt_not (pt_val (pe_callB call_isi (by rfl) B.isi (by decide +kernel) (pa_cons (pv 0) (pa_cons (pe_bltn (v := .ty "str") (by rfl) B.str (by decide +kernel) rfl) pa_nil)))))
        (pw_or1 (pt_not (pt_chain op_le op_le pe_int (pe_callB call_len_str (by rfl) B.len PySem.boot_len (pa_cons (pv 0) pa_nil)) (pe_glob (v := .int 8) rfl g2 ⟨_, rfl⟩)))))) (pss_one (ps_ret pe_bl)) pss_nil)
      (pss_one (ps_ret (pe_callB (cr_all rfl) (by rfl) B.all (by decide +kernel) (pa_cons (pe_lc (own := [("letter", 1)]) (g := gName 1) (tt := tYes) rfl scIsWord.nd (pi_str (pv 0)) (blkOk_by (N := nIsWord) (sc := defScope sIsWord) (by decide +kernel))
        (fun _ _ _ _ _ => pg_name (i := 1) scIsWord.nd rfl (.inl rfl)) (fun _ _ _ _ _ => pts_nil) (fun _ _ _ _ _ => pe_cmpR op_in_sign (pv 1) (pe_glob (v := .str "abcdefghijklmnopqrstuvwxyz") rfl g1 ⟨_, rfl⟩) rfl)) pa_nil)))), ?_⟩
    refine ⟨_, rfl, _, _, _, _, _, rfl, .ty "str", .base (.str z), kit_ty (r := true) (by decide +kernel), true, rfl, ?_⟩
    refine iteF ⟨_, rfl, _, rfl, lzl hz, _, _, rfl, rfl, _, rfl, ite_b (fun e1 => ?_) (fun e1 => ?_)⟩
    · refine ⟨_, _, rfl, rfl, _, rfl, not_b (fun e2 => ?_) (fun e2 => ?_)⟩
      · have e2' : ¬ ((z.length : Int) ≤ 8) := of_decide_eq_false e2
        have : wdB z = false := by
          unfold wdB
          rw [decide_eq_false (show ¬ z.length ≤ 8 by omega)]
          simp
        rw [← this]
        exact q H (Same.refl H)
      · have h1 : 1 ≤ z.length := by
          have := of_decide_eq_true e1
          omega
        have h8 : z.length ≤ 8 := by
          have := of_decide_eq_true e2
          omega
        refine ⟨_, rfl, _, rfl, fun D hD => lc_map walk_signs hD (fun _ => true) letV (fun _ _ => trivial) (fun _ => rfl) (fun x H' _ _ Q' q' => q') ?_ ?_ ?_⟩
        · intro x H' hx _ _ Q' q'
          obtain ⟨c, hc, rfl⟩ := List.mem_map.mp hx
          refine ⟨_, rfl, c, _, rfl, rfl, ?_⟩
          rw [letB_mem]
          have : letV (.str (sign c)) = .bl (letB c) := by
            show V.bl ([c].all letB) = _
            simp
          rw [this] at q'
          exact q'
        · unfold signsOf
          rw [List.length_map, Array.length_toList]
          exact small1000 (by have : z.length = z.cps.size := rfl; omega)
        · intro H' s' hD'
          have e0 : ((signsOf z).filter fun _ => true).map letV = (z.cps.toList.map letB).map V.bl := by
            rw [List.filter_eq_self.mpr fun _ _ => rfl]
            unfold signsOf
            rw [List.map_map, List.map_map]
            refine List.map_congr_left fun c _ => ?_
            show V.bl ([c].all letB) = _
            simp
          refine ⟨D, z.cps.toList.map letB, rfl, .inl (.inl (by rw [hD', e0])), ?_⟩
          have : (z.cps.toList.map letB).all id = wdB z := by
            unfold wdB
            rw [decide_eq_true h1, decide_eq_true h8, List.all_map]
            rfl
          rw [this]
          exact q H' s'
    · refine ⟨false, rfl, iteT ?_⟩
      have : wdB z = false := by
        have e1' : ¬ ((1 : Int) ≤ z.length) := of_decide_eq_false e1
        unfold wdB
        rw [decide_eq_false (show ¬ 1 ≤ z.length by omega)]
        simp
      rw [← this]
      exact q H (Same.refl H)
end
end Wl



namespace Wl
open PySem PySem.Spec PyProof.Rows L2
section
variable {P : Program} {w : World} {K : PySem.W.Frag} {mg : Str → Option Value} {base : Heap} {f : Addr} {fd : FuncData}

/-! ### are_rows of a good grid -/
def spAreRows : Sp := fun vs H Q _ => ∃ (L : Addr) (g : Grid) (wd : Nat), vs = [.ref L] ∧ GridAt H L g ∧ Good g wd ∧ Q (.bl true) H
abbrev nAreRows : List Str := ["thing", "row"]
theorem scAreRows : FnScope nAreRows ["thing"] (defScope sAreRows) := ⟨rfl, rfl, rfl, by decide +kernel, rfl, by decide +kernel, by decide +kernel⟩
theorem ok_arerows (F : Fun K "are_rows" "are_rows" sAreRows f fd) (B : Bi mg) (G : Gk mg) : FnOk P w K mg base CX0 1 f fd ["thing"] spAreRows := by
  obtain ⟨t1, g1⟩ := G.mrows
  obtain ⟨t2, g2⟩ := G.mcols
  refine F.ok scAreRows (fun vs H Q E h => ?_) (fun cdv A outer s H vs Q E hr h => ?_)
  · obtain ⟨L, g, wd, rfl, _⟩ := h
    rfl
  · obtain ⟨L, g, wd, rfl, ⟨as, hL, hR⟩, gd, q⟩ := h
    refine ⟨_, pss_cons (ps_if (PW.pt (pw_or (pt_not (pt_val (pe_callB call_isi (by rfl) B.isi (by decide +kernel) (pa_cons (pv 0) (pa_cons (pe_bltn (v := .ty "tuple") (by rfl) B.tuple (by decide +kernel) rfl) pa_nil)))))
        (pw_or1 (pt_not (pt_chain op_le op_le pe_int (pe_callB call_len_seq (by rfl) B.len PySem.boot_len (pa_cons (pv 0) pa_nil)) (pe_glob (v := .int 6) rfl g1 ⟨_, rfl⟩)))))) (pss_one (ps_ret pe_bl)) pss_nil)
      (pss_cons (ps_for PassesOwn.never rfl (pi_tup (pv 0)) (pg_name (i := 1) scAreRows.nd rfl (.inl rfl))
        (pss_one (ps_if (PW.pt (pw_or (pt_not (pt_val (pe_callB call_isi (by rfl) B.isi (by decide +kernel) (pa_cons (pv 1) (pa_cons (pe_bltn (v := .ty "tuple") (by rfl) B.tuple (by decide +kernel) rfl) pa_nil)))))
          (pw_or (pt_not (pt_chain op_le op_le pe_int (pe_callB call_len_seq (by rfl) B.len PySem.boot_len (pa_cons (pv 1) pa_nil)) (pe_glob (v := .int 6) rfl g2 ⟨_, rfl⟩)))
          (pw_or1 (pt_cmpR op_ne (pe_callB call_len_seq (by rfl) B.len PySem.boot_len (pa_cons (pv 1) pa_nil)) (pe_callB call_len_seq (by rfl) B.len PySem.boot_len (pa_cons (pe_ix ix_tup (pv 0) pe_int (fun _ _ => rfl)) pa_nil)) (nomark _)))))) (pss_one (ps_ret pe_bl)) pss_nil)))
      (pss_one (ps_ret pe_bl))), ?_⟩
    have hlen : (as.map V.ref).length = g.length := by rw [List.length_map, hR.length]
    have hST : SqT K H L (as.map V.ref) := .inl (.inl hL)
    have h16 : 1 ≤ g.length ∧ g.length ≤ 6 := ⟨gd.h1, gd.h6⟩
    have w16 : 1 ≤ wd ∧ wd ≤ 6 := ⟨gd.w1, gd.w6⟩
    refine ⟨_, rfl, _, _, _, _, _, rfl, .ty "tuple", .base (.tup hL), kit_ty (r := true) (by decide +kernel), true, rfl, ?_⟩
    refine iteF ⟨_, rfl, L, _, rfl, .inr hST, _, _, rfl, rfl, _, rfl, ite_b (fun e1 => ?_) (fun e1 => ?_)⟩
    · refine ⟨_, _, rfl, rfl, _, rfl, not_b (fun e2 => ?_) (fun e2 => ?_)⟩
      · have := of_decide_eq_false e2
        omega
      · refine ⟨_, rfl, L, rfl, ⟨_, hST⟩, for_tup (K := K) (a := L) (xs := as.map V.ref) (fun i σ H' => (∃ y, σ = [some (.ref L), y]) ∧ H' = H) ⟨⟨_, rfl⟩, rfl⟩ (fun i σ H' _ h => by rw [h.2]; exact hST) ?_ ?_⟩
        · rintro i x σ H' hx ⟨⟨y, rfl⟩, rfl⟩
          rw [List.getElem?_map] at hx
          obtain ⟨p, hp, rfl⟩ := Option.map_eq_some_iff.mp hx
          obtain ⟨row, hrow, hH⟩ := hR.get hp
          have hrl : (row.map oV).length = wd := by rw [List.length_map]; exact gd.rows row (List.mem_of_getElem? hrow)
          have hrT : SqT K H' p (row.map oV) := .inl (.inl hH)
          obtain ⟨p0, hp0⟩ : ∃ p0, as[0]? = some p0 := by
            cases as with
            | nil =>
              have := hR.length
              simp at this
              omega
            | cons a0 r => exact ⟨a0, rfl⟩
          obtain ⟨row0, hrow0, hH0⟩ := hR.get hp0
          have hr0l : (row0.map oV).length = wd := by rw [List.length_map]; exact gd.rows row0 (List.mem_of_getElem? hrow0)
          refine ⟨_, rfl, _, _, _, _, _, rfl, .ty "tuple", .base (.tup hH), kit_ty (r := true) (by decide +kernel), true, rfl, ?_⟩
          refine iteF ⟨_, rfl, p, _, rfl, .inr hrT, _, _, rfl, rfl, _, rfl, ite_b (fun e3 => ?_) (fun e3 => ?_)⟩
          · refine ⟨_, _, rfl, rfl, _, rfl, not_b (fun e4 => ?_) (fun e4 => ?_)⟩
            · have := of_decide_eq_false e4
              omega
            · refine ⟨_, rfl, p, _, rfl, .inr hrT, _, rfl, L, _, 0, .ref p0, rfl, rfl, hST, atI_nat (j := 0) (by rw [List.getElem?_map, hp0]; rfl), p0, _, rfl, .inr (.inl (.inl hH0)), rfl, _, rfl, ?_⟩
              refine iteNS (by rw [hrl, hr0l]) ?_
              exact ⟨⟨_, rfl⟩, rfl⟩
          · have := of_decide_eq_false e3
            omega
        · rintro σ H' ⟨⟨y, rfl⟩, rfl⟩
          exact q
    · have := of_decide_eq_false e1
      omega
end
end Wl



/-! A dict comprehension of two clauses: {k: v for a in .. if .. for b in .. if ..}. -/
namespace Wl
open PySem PySem.Spec PyProof.Rows L2
/-- the whole of it -/
abbrev two (kx vx ta ia tb ib : Expr) (fa fb : List Expr) (sc : Scope) (pos : Pos) : Expr := .DictComp kx vx [⟨ta, ia, fa, 0⟩, ⟨tb, ib, fb, 0⟩] sc pos
/-- a clause's tests -/
abbrev testsOf (fs : List Expr) (env : Env) : Sem Bool :=
  forIn fs true fun c r => if r = true then (do let y ← isTrue c env (eval c env); pure (ForInStep.yield y)) else pure (ForInStep.yield r)
/-- a turn of a clause: no item is left, or one comes, is stored and tested -/
def Turned (M : Model) (A : Around) (env : Env) (tg : Expr) (it : Value) (fs : List Expr) (stop : Shared → Prop) (k : Bool → Shared → Prop) (E : Value → Shared → Prop) (s : Shared) : Prop :=
  wpAny M A (pyNext it) (fun r s1 => match r with
    | none => stop s1
    | some u => wpAny M A (letOwnedTupleGo tg it u) (fun _ s2 => wpAny M A (assign tg env u) (fun _ s3 => wpAny M A (testsOf fs env) k E s3) E s2) E s1) E s
section
variable {kx vx ta ia tb ib : Expr} {fa fb : List Expr} {sc : Scope} {pos : Pos} {it : Value} {D : Addr} {env : Env}
theorem turnA : compTurn (two kx vx ta ia tb ib fa fb sc pos) 0 it (.ref D) env = (do
    standAt ia.pos
    match ← pyNext it with
    | none => pure (.done .next)
    | some u =>
      letOwnedTupleGo ta it u
      assign ta env u
      let yes ← testsOf fa env
      if yes = true then
        let x ← eval ib env
        standAt ib.pos
        let z ← foldedSetIterable ib env x
        let _ ← runOwn (.compStart (two kx vx ta ia tb ib fa fb sc pos) 1 (← holding [z] (pyIter z)) (.ref D) env) env
      again (.compLoop (two kx vx ta ia tb ib fa fb sc pos) 0 it (.ref D) env)) := rfl
theorem turnB : compTurn (two kx vx ta ia tb ib fa fb sc pos) 1 it (.ref D) env = (do
    standAt ib.pos
    match ← pyNext it with
    | none => pure (.done .next)
    | some u =>
      letOwnedTupleGo tb it u
      assign tb env u
      let yes ← testsOf fb env
      if yes = true then
        (do
          let a ← eval kx env
          let b ← holding [a] (eval vx env)
          standAt { kx.pos with endLine := vx.pos.endLine, endCol := vx.pos.endCol }
          holding [a, b] (dictSet D a b))
      again (.compLoop (two kx vx ta ia tb ib fa fb sc pos) 1 it (.ref D) env)) := rfl
variable {prog : Program} {w : World} {A : Around} {R : Result → Shared → Prop} {s : Shared}
/-- what an error leaves behind it -/
abbrev errs (prog : Program) (w : World) (A : Around) (env : Env) (R : Result → Shared → Prop) : Value → Shared → Prop := notedBy (model prog w) A env fun e s' => R (.error e) s'
theorem loopA (plain : ∀ x, foldedSetIterable ib env x = pure x) (I : Nat → Shared → Prop)
    (turn : ∀ n s, I n s → Turned (model prog w) A env ta it fa (R (.ok .next)) (fun yes s1 => if yes = true then
        wpAny (model prog w) A (eval ib env) (fun x s2 => wpAny (model prog w) A (pyIter x) (fun j s3 => codeAny (model prog w) A (.compStart (two kx vx ta ia tb ib fa fb sc pos) 1 j (.ref D) env) (fun r s4 => (∃ f, r = .ok f) ∧ ∃ m, m < n ∧ I m s4) s3) (errs prog w A env R) s2) (errs prog w A env R) s1
      else ∃ m, m < n ∧ I m s1) (errs prog w A env R) s)
    (n : Nat) (h : I n s) : codeAny (model prog w) A (.compLoop (two kx vx ta ia tb ib fa fb sc pos) 0 it (.ref D) env) R s := by
  refine codeAny_loop rfl I (fun n s hI => wpAny_noted ?_) n h
  have key := turn n s hI
  unfold Turned at key
  show wpAny _ A (compTurn (two kx vx ta ia tb ib fa fb sc pos) 0 it (.ref D) env) _ _ s
  rw [turnA]
  refine wpAny_bind (wpAny_standAt (wpAny_bind (wpAny_mono key ?_ fun _ _ z => z)))
  rintro (_ | u) s1 k1
  · exact wpAny_pure k1
  · refine wpAny_bind (wpAny_mono k1 (fun _ s2 k2 => wpAny_bind (wpAny_mono k2 (fun _ s3 k3 => wpAny_bind (wpAny_mono k3 ?_ fun _ _ z => z)) fun _ _ z => z)) fun _ _ z => z)
    rintro (_ | _) s4 k4
    · exact wpAny_pure ⟨rfl, k4⟩
    · refine wpAny_bind (wpAny_mono k4 (fun x s5 k5 => wpAny_bind (wpAny_standAt (wpAny_bind (wpAny_of_eq (plain x) (wpAny_bind (wpAny_holding (wpAny_mono k5 (fun j s6 k6 => ?_) fun _ _ z => z))))))) fun _ _ z => z)
      refine wpAny_bind (wpAny_runOwn ?_)
      rw [Around.mark_none]
      refine codeAny_mono k6 ?_
      rintro (e | f) s7 ⟨⟨g, eg⟩, k7⟩
      · cases eg
      · first
          | exact wpAny_pure ⟨rfl, k7⟩
          | exact wpAny_bind (wpAny_pure (wpAny_pure ⟨rfl, k7⟩))
theorem loopB (I : Nat → Shared → Prop)
    (turn : ∀ n s, I n s → Turned (model prog w) A env tb it fb (R (.ok .next)) (fun yes s1 => if yes = true then
        wpAny (model prog w) A (eval kx env) (fun a s2 => wpAny (model prog w) A (eval vx env) (fun b s3 => wpAny (model prog w) A (dictSet D a b) (fun _ s4 => ∃ m, m < n ∧ I m s4) (errs prog w A env R) s3) (errs prog w A env R) s2) (errs prog w A env R) s1
      else ∃ m, m < n ∧ I m s1) (errs prog w A env R) s)
    (n : Nat) (h : I n s) : codeAny (model prog w) A (.compLoop (two kx vx ta ia tb ib fa fb sc pos) 1 it (.ref D) env) R s := by
  refine codeAny_loop rfl I (fun n s hI => wpAny_noted ?_) n h
  have key := turn n s hI
  unfold Turned at key
  show wpAny _ A (compTurn (two kx vx ta ia tb ib fa fb sc pos) 1 it (.ref D) env) _ _ s
  rw [turnB]
  refine wpAny_bind (wpAny_standAt (wpAny_bind (wpAny_mono key ?_ fun _ _ z => z)))
  rintro (_ | u) s1 k1
  · exact wpAny_pure k1
  · refine wpAny_bind (wpAny_mono k1 (fun _ s2 k2 => wpAny_bind (wpAny_mono k2 (fun _ s3 k3 => wpAny_bind (wpAny_mono k3 ?_ fun _ _ z => z)) fun _ _ z => z)) fun _ _ z => z)
    rintro (_ | _) s4 k4
    · exact wpAny_pure ⟨rfl, k4⟩
    · refine wpAny_bind (wpAny_bind (wpAny_mono k4 (fun a s5 k5 => ?_) fun _ _ z => z))
      refine wpAny_bind (wpAny_holding (wpAny_mono k5 (fun b s6 k6 => ?_) fun _ _ z => z))
      exact wpAny_bind (wpAny_standAt (wpAny_holding (wpAny_mono k6 (fun _ s7 k7 => wpAny_pure ⟨rfl, k7⟩) fun _ _ z => z)))
theorem startB (h0 : codeAny (model prog w) A (.compLoop (two kx vx ta ia tb ib fa fb sc pos) 1 it (.ref D) env) R s)
    (h1 : wpAny (model prog w) A (pyIter it) (fun j s' => codeAny (model prog w) A (.compLoop (two kx vx ta ia tb ib fa fb sc pos) 1 j (.ref D) env) R s') (errs prog w A env R) s) :
    codeAny (model prog w) A (.compStart (two kx vx ta ia tb ib fa fb sc pos) 1 it (.ref D) env) R s := by
  refine codeAny_of_tree (wpAny_notedAt (?_ : wpAny _ _ (compStart (two kx vx ta ia tb ib fa fb sc pos) 1 it (.ref D) env) _ _ s))
  unfold compStart
  show wpAny _ _ (ask >>= _) _ _ s
  refine wpAny_bind (wpAny_askSetting (wpAny_ite ?_))
  split
  · first
      | exact wpAny_pure ⟨rfl, h0⟩
      | exact wpAny_bind (wpAny_pure (wpAny_pure ⟨rfl, h0⟩))
  · refine wpAny_bind (wpAny_rule ?_)
    show wpAny _ _ (standAt ib.pos >>= _) _ _ s
    exact wpAny_bind (wpAny_standAt (wpAny_bind (wpAny_mono h1 (fun j s' h' => wpAny_pure ⟨rfl, h'⟩) fun _ _ z => z)))
end
section
variable {Y : Cx} {pins : List (Addr × Obj)} {σ : L2.St} {H : Hp} {s : Shared} {tg : Expr} {J : It} {fp : List Addr} {it : Addr} {tn : Nat → Heap → Prop}
/-- an item comes: stored and tested, the walk's objects held meanwhile -/
theorem clause {g : TG} {tt : TT} {fs : List Expr} {i : Nat} {C : L2.St → Prop} {Z : L2.St → Bool → Hp → Prop} {stop : Shared → Prop} {k : Bool → Shared → Prop} {E : Value → Shared → Prop}
    (quiet : Y.xe = fun _ _ => False) (hc : Y.calm = true) (T : Turn Y.prog Y.w Y.K tg J fp it tn) (pg : PG Y tg g) (pt : PTs Y fs tt) (I : L2.Inv Y pins σ H s)
    (free : ∀ {H' : Hp}, (∀ b ∈ fp, H' b = none) → ∀ b ∈ fp, FpOk Y pins H' b) (none0 : ∀ b ∈ fp, H b = none) (st : tn i s.heap) (go : J.go i H)
    (step : ∀ x H', J.yld i H x H' → g x σ H' fun σ2 H2 => C σ2 ∧ tt σ2 H2 (Z σ2))
    (next : ∀ {s1 s2 : Shared} {σ2 : L2.St} {b : Bool} {H2 : Hp}, tn (i + 1) s1.heap → C σ2 → L2.Inv Y (pins ++ pinsAt fp s1.heap) σ2 H2 s2 → Z σ2 b H2 → k b s2) :
    Turned (model Y.prog Y.w) Y.A Y.env tg (.ref it) fs stop k E s := by
  unfold Turned
  refine thnF (T.item Y rfl rfl rfl hc i pins s σ H (fun _ _ => False) I (free none0) st go) ?_
  rintro _ s1 ⟨u, rfl, h1⟩
  refine thnF h1 ?_
  rintro _ s2 ⟨x, H2, I2, rx, yx, st2, n2⟩
  have held := I2.pinned (free n2) (T.obj _ _ st2)
  have run1 := pg.run _ s2 _ H2 x u _ held rx (step x H2 yx)
  rw [quiet] at run1
  refine thnF run1 ?_
  rintro _ s3 ⟨σ3, H3, I3, c3, q3⟩
  have run2 := pt.run _ s3 σ3 H3 _ I3 q3
  rw [quiet] at run2
  refine thnF run2 ?_
  rintro b s4 ⟨H4, I4, q4⟩
  exact next st2 c3 I4 q4
/-- behind the turn the walk's objects stand as they did -/
theorem walk_stays {i : Nat} {h : Heap} (T : Turn Y.prog Y.w Y.K tg J fp it tn) (st : tn i h) (I : L2.Inv Y (pins ++ pinsAt fp h) σ H s) : tn i s.heap ∧ ∀ b ∈ fp, H b = none := by
  have each : ∀ b ∈ fp, ∀ o, h.get? b = some o → s.heap.get? b = some o ∧ H b = none := fun b hb o e => by
    have z := I.pin (b, o) (List.mem_append_right _ (List.mem_append_right _ (mem_pinsAt hb e)))
    exact ⟨z.1, z.2.1⟩
  refine ⟨T.keep i h s.heap st fun b hb o e => (each b hb o e).1, fun b hb => ?_⟩
  obtain ⟨o, e, _⟩ := T.obj i h st b hb
  exact (each b hb o e).2
end
section
variable {X : Cx}
/-- the second clause: its walk, in each turn of it a pair put -/
def InnD (gb : TG) (ttb : TT) (tk tv : TE) (vs1 : List Nat) (D : Addr) (σ2 : L2.St) (Nx : Hp → Prop) (J1 : It) (H4 : Hp) : Prop :=
  ∃ W1 : Nat → Nat → Hp → Prop, (∃ m, W1 0 m H4) ∧ ∀ j k H, W1 j k H → (J1.stop j H ∧ Nx H) ∨ (J1.go j H ∧ ∃ Nx1 : Hp → Prop, (∀ H', Nx1 H' → ∃ k', k' < k ∧ W1 (j + 1) k' H') ∧
    ∀ x H', J1.yld j H x H' → gb x (wipe σ2 vs1) H' fun σ3 H5 => wipe σ3 vs1 = wipe σ2 vs1 ∧ ttb σ3 H5 fun yes H6 =>
      if yes = true then tk σ3 H6 fun y H7 => tv σ3 H7 fun z H8 => ∃ kvs k, y = kV k ∧ H8 D = some (.dK kvs) ∧ kvs.length < sizeLine ∧ Nx1 (upd H8 D (.dK (putK kvs k z))) else Nx1 H6)
/-- what the comprehension asks: the first clause's walk, in each turn the second's; vs: the names of both clauses, vs1: of the second -/
def tDc2 (wa : TI) (ga : TG) (tta : TT) (wb : TI) (gb : TG) (ttb : TT) (tk tv : TE) (vs vs1 : List Nat) : TE := fun σ H Q => wa σ H fun J H1 => ∀ D, H1 D = none →
  ∃ W : Nat → Nat → Hp → Prop, (∃ m, W 0 m (upd H1 D (.dK []))) ∧ ∀ i m H, W i m H → (J.stop i H ∧ Q (.ref D) H) ∨ (J.go i H ∧ ∃ Nx : Hp → Prop, (∀ H', Nx H' → ∃ m', m' < m ∧ W (i + 1) m' H') ∧
    ∀ x H', J.yld i H x H' → ga x (wipe σ vs) H' fun σ2 H2 => wipe σ2 vs = wipe σ vs ∧ tta σ2 H2 fun yes H3 => if yes = true then wb σ2 H3 (InnD gb ttb tk tv vs1 D σ2 Nx) else Nx H3)
/-- the first clause by a walk that is known -/
theorem dc2_it {J : It} {n : Nat} {G : Hp → Prop} {Y : Nat → Hp → V → Hp → Prop} (w : L2.Walk J n G Y) {ga gb : TG} {tta ttb : TT} {wb : TI} {tk tv : TE} {vs vs1 : List Nat} {σ : L2.St} {H1 : Hp} {D : Addr} {Qd : Hp → Prop} (Pv : Nat → Hp → Prop) (h0 : Pv 0 (upd H1 D (.dK []))) (hG : ∀ i H, i ≤ n → Pv i H → G H)
    (hs : ∀ i x H H', i < n → Pv i H → Y i H x H' → ga x (wipe σ vs) H' fun σ2 H2 => wipe σ2 vs = wipe σ vs ∧ tta σ2 H2 fun yes H3 => if yes = true then wb σ2 H3 (InnD gb ttb tk tv vs1 D σ2 (Pv (i + 1))) else Pv (i + 1) H3) (hd : ∀ H, Pv n H → Qd H) :
    ∃ W : Nat → Nat → Hp → Prop, (∃ m, W 0 m (upd H1 D (.dK []))) ∧ ∀ i m H, W i m H → (J.stop i H ∧ Qd H) ∨ (J.go i H ∧ ∃ Nx : Hp → Prop, (∀ H', Nx H' → ∃ m', m' < m ∧ W (i + 1) m' H') ∧
      ∀ x H', J.yld i H x H' → ga x (wipe σ vs) H' fun σ2 H2 => wipe σ2 vs = wipe σ vs ∧ tta σ2 H2 fun yes H3 => if yes = true then wb σ2 H3 (InnD gb ttb tk tv vs1 D σ2 Nx) else Nx H3) := by
  refine ⟨fun i m H => m + i = n ∧ Pv i H, ⟨n, by simp, h0⟩, fun i m H ⟨e, p⟩ => ?_⟩
  have q := hG i H (by omega) p
  by_cases lt : i < n
  · exact .inr ⟨w.goes i H lt q, Pv (i + 1), fun H' p' => ⟨m - 1, by omega, by omega, p'⟩, fun x H' y => hs i x H H' lt p (w.yields i H x H' lt q y)⟩
  · obtain rfl : i = n := by omega
    exact .inl ⟨w.stops H q, hd H p⟩
/-- the second clause by a walk that is known -/
theorem inn_it {J1 : It} {n : Nat} {G : Hp → Prop} {Y : Nat → Hp → V → Hp → Prop} (w : L2.Walk J1 n G Y) {gb : TG} {ttb : TT} {tk tv : TE} {vs1 : List Nat} {σ2 : L2.St} {H4 : Hp} {D : Addr} {Nx : Hp → Prop} (Pv : Nat → Hp → Prop) (h0 : Pv 0 H4) (hG : ∀ i H, i ≤ n → Pv i H → G H)
    (hs : ∀ j x H H', j < n → Pv j H → Y j H x H' → gb x (wipe σ2 vs1) H' fun σ3 H5 => wipe σ3 vs1 = wipe σ2 vs1 ∧ ttb σ3 H5 fun yes H6 =>
      if yes = true then tk σ3 H6 fun y H7 => tv σ3 H7 fun z H8 => ∃ kvs k, y = kV k ∧ H8 D = some (.dK kvs) ∧ kvs.length < sizeLine ∧ Pv (j + 1) (upd H8 D (.dK (putK kvs k z))) else Pv (j + 1) H6) (hd : ∀ H, Pv n H → Nx H) :
    InnD gb ttb tk tv vs1 D σ2 Nx J1 H4 := by
  refine ⟨fun j k H => k + j = n ∧ Pv j H, ⟨n, by simp, h0⟩, fun j k H ⟨e, p⟩ => ?_⟩
  have q := hG j H (by omega) p
  by_cases lt : j < n
  · exact .inr ⟨w.goes j H lt q, Pv (j + 1), fun H' p' => ⟨k - 1, by omega, by omega, p'⟩, fun x H' y => hs j x H H' lt p (w.yields j H x H' lt q y)⟩
  · obtain rfl : j = n := by omega
    exact .inl ⟨w.stops H q, hd H p⟩
/-- a block of this scope -/
abbrev inBlk (X : Cx) (sc : Scope) (s : Shared) (H : Hp) (C : Addr) (cl : List (Str × Addr)) (fp : List Addr) : Cx := X.blk s H sc (compEnvC sc cl C X.env) fp
theorem pe_dc2 {kx vx ta ia tb ib : Expr} {fa fb : List Expr} {sc : Scope} {own : List (Str × Nat)} {vs1 : List Nat} {pos : Pos} {wa wb : TI} {ga gb : TG} {tta ttb : TT} {tk tv : TE} (hc : X.calm = true) (hN : X.N.Nodup) (hi : PI X ta ia wa) (ok : BlkOk X.N X.env.scope sc own) (hv : ∀ i ∈ vs1, i ∈ own.map (·.2))
    (hga : ∀ s H C cl fp, PG (inBlk X sc s H C cl fp) ta ga) (hta : ∀ s H C cl fp, PTs (inBlk X sc s H C cl fp) fa tta) (hib : ∀ s H C cl fp, PI (inBlk X sc s H C cl fp) tb ib wb) (hgb : ∀ s H C cl fp, PG (inBlk X sc s H C cl fp) tb gb) (htb : ∀ s H C cl fp, PTs (inBlk X sc s H C cl fp) fb ttb)
    (hk : ∀ s H C cl fp, PE (inBlk X sc s H C cl fp) kx tk) (he : ∀ s H C cl fp, PE (inBlk X sc s H C cl fp) vx tv)
    (pa : ∀ x, foldedSetIterable ia X.env x = pure x := by intro _; rfl) (pb : ∀ env x, foldedSetIterable ib env x = pure x := by intro _ _; rfl) :
    PE X (.DictComp kx vx [⟨ta, ia, fa, 0⟩, ⟨tb, ib, fb, 0⟩] sc pos) (tDc2 wa ga tta wb gb ttb tk tv (own.map (·.2)) vs1) := by
  refine ⟨fun pins s σ H Q I h => ?_⟩
  rw [arm_eval_DictComp]
  have clo : ∀ y ∈ sc.names, y.2 = .free → ∃ c, X.env.cells.lookup y.1 = some c := fun y hy e => (ok.free y hy e).elim (fun k => I.ok.has _ (.inl k)) fun k => I.ok.has _ (.inr k)
  refine wpAny_comprehension_free rfl pa (closure_ok clo) ok.kind (fun y hy e => by rw [ok.uniq y hy, e]) (thn (hi.run pins s σ H _ I h) fun _ _ h1 => thn h1 ?_)
  rintro _ s2 ⟨it, fp, tn, J, H2, rfl, I2, T, st2, f2, q⟩
  refine wpAny_newObj_type (newEnv_comp ?_)
  generalize hD : s2.heap.objs.size = D
  have newD : H2 D = none := I2.hok.fresh (Nat.le_of_eq hD)
  obtain ⟨W, ⟨m0, w0⟩, turn⟩ := q D newD
  generalize hs3 : ({ s2 with heap := s2.heap.push { cls := .type "dict", data := .dict #[] } } : Shared) = s3
  have e3 : s3.heap = s2.heap.push { cls := .type "dict", data := .dict #[] } := by rw [← hs3]
  have I3 : L2.Inv X pins σ (upd H2 D (.dK [])) s3 := by
    rw [← hs3]
    exact I2.laid (t' := s2.toks) (fun b o e => Heap.get?_push_of_some _ e) (Nat.le_of_eq hD) (hD ▸ dk_empty s2.heap I2.big)
  have f3 : ∀ b ∈ fp, FpOk X pins (upd H2 D (.dK [])) b ∧ b < s3.heap.objs.size := fun b hb => by
    obtain ⟨o, e, _⟩ := T.obj _ _ st2 b hb
    have small := Heap.lt_size e
    refine ⟨⟨?_, (f2 b hb).2⟩, ?_⟩
    · rw [upd_ne (Nat.ne_of_lt (hD ▸ small))]
      exact (f2 b hb).1
    · rw [e3, Heap.size_push]
      exact Nat.lt_succ_of_lt small
  have st3 : tn 0 s3.heap := T.keep _ _ _ st2 fun b _ o e => by
    rw [e3]
    exact Heap.get?_push_of_some _ e
  have I4 := block_start I3 ok hN f3
  generalize hcl : cellsFrom (s3.heap.objs.size + 1) sc.names (cloFrom X.env.cells sc.names []) = cl at I4
  show codeAny _ _ (.compStart (two kx vx ta ia tb ib fa fb sc pos) 0 (.ref it) (.ref D) (compEnvC sc cl s3.heap.objs.size X.env)) (compPost (model X.prog X.w) X.A X.xe none (EP X pins σ Q) (.ref D) s3.heap.objs.size) { s3 with heap := pushCells (s3.heap.push { cls := .type "dict", data := .dict #[] }) sc.names }
  have none3 : ∀ b ∈ fp, (upd H2 D (.dK [])) b = none := fun b hb => (f3 b hb).1.1
  generalize hH3 : upd H2 D (.dK []) = H3 at I3 I4 w0 none3 f3
  have jga : PG (X.blk s3 H3 sc (compEnvC sc cl s3.heap.objs.size X.env) fp) ta ga := hga s3 H3 s3.heap.objs.size cl fp
  have jta : PTs (X.blk s3 H3 sc (compEnvC sc cl s3.heap.objs.size X.env) fp) fa tta := hta s3 H3 s3.heap.objs.size cl fp
  have jib : PI (X.blk s3 H3 sc (compEnvC sc cl s3.heap.objs.size X.env) fp) tb ib wb := hib s3 H3 s3.heap.objs.size cl fp
  have jgb : PG (X.blk s3 H3 sc (compEnvC sc cl s3.heap.objs.size X.env) fp) tb gb := hgb s3 H3 s3.heap.objs.size cl fp
  have jtb : PTs (X.blk s3 H3 sc (compEnvC sc cl s3.heap.objs.size X.env) fp) fb ttb := htb s3 H3 s3.heap.objs.size cl fp
  have jk : PE (X.blk s3 H3 sc (compEnvC sc cl s3.heap.objs.size X.env) fp) kx tk := hk s3 H3 s3.heap.objs.size cl fp
  have je : PE (X.blk s3 H3 sc (compEnvC sc cl s3.heap.objs.size X.env) fp) vx tv := he s3 H3 s3.heap.objs.size cl fp
  generalize hs4 : ({ s3 with heap := pushCells (s3.heap.push { cls := .type "dict", data := .dict #[] }) sc.names } : Shared) = s4 at I4 ⊢
  have st4 : tn 0 s4.heap := T.keep _ _ _ st3 fun b _ o e => by
    rw [← hs4]
    exact pushCells_keeps _ _ _ _ (Heap.get?_push_of_some _ e)
  generalize hce : compEnvC sc cl s3.heap.objs.size X.env = ce at I4 jga jta jib jgb jtb jk je ⊢
  have cL : ce.locals = s3.heap.objs.size := by
    subst hce
    rfl
  have free0 : ∀ {H' : Hp}, (∀ b ∈ fp, H' b = none) → ∀ b ∈ fp, FpOk (X.blk s3 H3 sc ce fp) [] H' b := fun n b hb =>
    ⟨n b hb, (I4.ok.exf b hb).1, I4.ok.exfs b hb, .inl hb, (I4.ok.exf b hb).2, fun p hp => nomatch (show p ∈ ([] : List (Addr × Obj)) from hp)⟩
  have loop : codeAny (model X.prog X.w) X.A (.compLoop (two kx vx ta ia tb ib fa fb sc pos) 0 (.ref it) (.ref D) ce) (compPost (model X.prog X.w) X.A X.xe none (EP X pins σ Q) (.ref D) s3.heap.objs.size) s4 := by
    refine loopA (pb ce) (fun n s' => ∃ i H', L2.Inv (X.blk s3 H3 sc ce fp) [] (wipe σ (own.map (·.2))) H' s' ∧ tn i s'.heap ∧ (∀ b ∈ fp, H' b = none) ∧ W i n H') ?_ m0 ⟨0, H3, I4, st4, none3, w0⟩
    rintro n s5 ⟨i, H5, I5, st5, n5, w5⟩
    rcases turn i n H5 w5 with ⟨stop, qq⟩ | ⟨go, Nx, hNx, step⟩
    · unfold Turned
      refine thnF (T.done (X.blk s3 H3 sc ce fp) rfl rfl rfl hc i [] s5 _ H5 (fun _ _ => False) I5 (free0 n5) st5 stop) ?_
      rintro _ s6 ⟨rfl, I6⟩
      have I7 : L2.Inv X pins σ H5 s6 := I3.call' (ch := fp) I6.os I6.base I6.hok I6.bare fun b hb => by
        obtain ⟨⟨_, a1, _, a3, a4, a5⟩, _⟩ := f3 b hb
        exact ⟨a3, a1, a4, a5⟩
      have nC : H5 s3.heap.objs.size = none := cL ▸ (show H5 ce.locals = none from I6.free)
      obtain ⟨m, hn, _⟩ := I6.loc
      have hn : s6.heap.Ns s3.heap.objs.size m := cL ▸ (show s6.heap.Ns ce.locals m from hn)
      obtain ⟨g0, g1, _, g3, g4, g5⟩ := I3.fpOk (H' := H5) (Nat.le_refl _) nC
      exact ⟨m, hn, fun h2 sb => ⟨.ref D, H5, I7.turned (t' := s6.toks) (fun b o hb e => (sb.2 b hb).trans e) g0 g1 g3 g4 g5, rfl, qq⟩⟩
    · refine clause (Y := X.blk s3 H3 sc ce fp) rfl hc T jga jta I5 free0 n5 st5 go step ?_
      intro s6 s7 σ7 b H7 st6 w7 I7 q7
      have hl7 : (wipe σ (own.map (·.2))).length = σ7.length := by rw [← w7, wipe_length]
      have fin : ∀ {σ8 : L2.St} {s8 : Shared} {H8 : Hp}, L2.Inv (X.blk s3 H3 sc ce fp) ([] ++ pinsAt fp s6.heap) σ8 H8 s8 → (wipe σ (own.map (·.2))).length = σ8.length → (∀ (j : Nat) v, (wipe σ (own.map (·.2)))[j]? = some (some v) → σ8[j]? = some (some v)) → Nx H8 →
          ∃ m, m < n ∧ ∃ i H', L2.Inv (X.blk s3 H3 sc ce fp) [] (wipe σ (own.map (·.2))) H' s8 ∧ tn i s8.heap ∧ (∀ b ∈ fp, H' b = none) ∧ W i m H' := by
        intro σ8 s8 H8 I8 hl hk nx
        obtain ⟨m', hm, w'⟩ := hNx H8 nx
        obtain ⟨t1, t2⟩ := walk_stays (Y := X.blk s3 H3 sc ce fp) T st6 I8
        exact ⟨m', hm, i + 1, H8, (I8.unpinned (pins := [])).weak hl hk, t1, t2, w'⟩
      cases b with
      | false =>
        rw [if_neg (by decide)] at q7 ⊢
        exact fin I7 hl7 (fun j v e => (wipe_some (w7.symm ▸ e)).1) q7
      | true =>
        rw [if_pos rfl] at q7 ⊢
        refine thnF (jib.run _ s7 σ7 H7 _ I7 q7) fun _ s8 h8 => thnF h8 ?_
        rintro _ s9 ⟨it1, fp1, tn1, J1, H9, rfl, I9, T1, st9, f9, W1, ⟨m1, w1⟩, turn1⟩
        have free1 : ∀ {H' : Hp}, (∀ b ∈ fp1, H' b = none) → ∀ b ∈ fp1, FpOk (X.blk s3 H3 sc ce fp) ([] ++ pinsAt fp s6.heap) H' b := fun n b hb => ⟨n b hb, (f9 b hb).2⟩
        have loop1 : codeAny (model X.prog X.w) X.A (.compLoop (two kx vx ta ia tb ib fa fb sc pos) 1 (.ref it1) (.ref D) ce) (fun r s' => (∃ f, r = .ok f) ∧ ∃ m, m < n ∧ ∃ i H', L2.Inv (X.blk s3 H3 sc ce fp) [] (wipe σ (own.map (·.2))) H' s' ∧ tn i s'.heap ∧ (∀ b ∈ fp, H' b = none) ∧ W i m H') s9 := by
          refine loopB (fun k s' => ∃ j H', L2.Inv (X.blk s3 H3 sc ce fp) ([] ++ pinsAt fp s6.heap) (wipe σ7 vs1) H' s' ∧ tn1 j s'.heap ∧ (∀ b ∈ fp1, H' b = none) ∧ W1 j k H') ?_ m1 ⟨0, H9, I9.weak (wipe_length _ _) (fun j v e => (wipe_some e).1), st9, fun b hb => (f9 b hb).1, w1⟩
          rintro k s10 ⟨j, H10, I10, st10, n10, w10⟩
          rcases turn1 j k H10 w10 with ⟨stop1, nx1⟩ | ⟨go1, Nx1, hNx1, step1⟩
          · unfold Turned
            refine thnF (T1.done (X.blk s3 H3 sc ce fp) rfl rfl rfl hc j _ s10 (wipe σ7 vs1) H10 (fun _ _ => False) I10 (free1 n10) st10 stop1) ?_
            rintro _ s11 ⟨rfl, I11⟩
            refine ⟨⟨_, rfl⟩, fin I11 (hl7.trans (wipe_length σ7 vs1).symm) (fun j v e => ?_) nx1⟩
            obtain ⟨e1, e2⟩ := wipe_some (w7.symm ▸ e)
            rw [wipe_out fun z => e2 (hv j z)]
            exact e1
          · refine clause (Y := X.blk s3 H3 sc ce fp) rfl hc T1 jgb jtb I10 free1 n10 st10 go1 step1 ?_
            intro s11 s12 σ12 b1 H12 st11 w12 I12 q12
            have fin1 : ∀ {s' : Shared} {H' : Hp}, L2.Inv (X.blk s3 H3 sc ce fp) (([] ++ pinsAt fp s6.heap) ++ pinsAt fp1 s11.heap) σ12 H' s' → Nx1 H' → ∃ m, m < k ∧ ∃ j H', L2.Inv (X.blk s3 H3 sc ce fp) ([] ++ pinsAt fp s6.heap) (wipe σ7 vs1) H' s' ∧ tn1 j s'.heap ∧ (∀ b ∈ fp1, H' b = none) ∧ W1 j m H' := by
              intro s' H' I' nx
              obtain ⟨m', hm, w'⟩ := hNx1 H' nx
              obtain ⟨t1, t2⟩ := walk_stays (Y := X.blk s3 H3 sc ce fp) T1 st11 I'
              exact ⟨m', hm, j + 1, H', I'.unpinned.weak (by rw [← w12, wipe_length]) (fun i v e => (wipe_some (w12.symm ▸ e)).1), t1, t2, w'⟩
            cases b1 with
            | false =>
              rw [if_neg (by decide)] at q12 ⊢
              exact fin1 I12 q12
            | true =>
              rw [if_pos rfl] at q12 ⊢
              refine thnF (jk.run _ s12 σ12 H12 _ I12 q12) ?_
              rintro a s13 ⟨ya, H13, I13, ra, q13⟩
              refine thnF (je.run _ s13 σ12 H13 _ I13 q13) ?_
              rintro b s14 ⟨yb, H14, I14, rb, kvs, key, rfl, hD14, small, nx⟩
              exact d_dictSet (X := X.blk s3 H3 sc ce fp) I14 hD14 small ra rb fun s15 I15 => fin1 I15 nx
        exact startB loop1 (T1.self X.A 0 _ _ _ st9 loop1)
  exact codeAny_compStart_dict loop (T.self X.A 0 _ _ _ st4 loop)
end
end Wl

namespace Wl
open PySem PySem.Spec PyProof.Rows L2
/-- the heap keeps all but its lists -/
def Keep (H H' : Hp) : Prop := ∀ p o, (∀ xs, o ≠ .lst xs) → H p = some o → H' p = some o
theorem Keep.refl (H : Hp) : Keep H H := fun _ _ _ h => h
theorem Keep.trans {H H1 H2 : Hp} (a : Keep H H1) (b : Keep H1 H2) : Keep H H2 := fun p o n h => b p o n (a p o n h)
theorem kp_same {H H' : Hp} (s : Same H H') : Keep H H' := fun p o _ h => s p _ h
theorem kp_x {a : Addr} {H H' : Hp} {ys : List V} (s : SameX a H H') (ha : H a = some (.lst ys)) : Keep H H' := fun p o n h => s p _ (fun e => by
  subst e
  rw [ha] at h
  exact n _ (Option.some.inj h).symm) h
theorem kp_upd {a : Addr} {H : Hp} {ys : List V} {o : HO} (ha : H a = some (.lst ys)) : Keep H (upd H a o) := kp_x sameX_upd ha
theorem kp_new {p : Addr} {H : Hp} {o : HO} (hp : H p = none) : Keep H (upd H p o) := kp_same (same_new hp)
theorem Keep.tk {H H' : Hp} (k : Keep H H') : TupKeep H H' := fun p xs h => k p _ (fun ys e => by cases e) h
theorem tk_updD {a : Addr} {H : Hp} {kvs : List (Key × V)} {o : HO} (ha : H a = some (.dK kvs)) : TupKeep H (upd H a o) := fun p xs h => by
  rw [upd_ne (ne_of h ha (by intro z; cases z))]
  exact h
/-- the dict's pairs tell these spots -/
def Ent (H : Hp) (kv : Key × V) (s : Str × Nat × Nat) : Prop := kv.1 = Sum.inr s.1 ∧ ∃ t, kv.2 = .ref t ∧ H t = some (.tup [.int s.2.1, .int s.2.2])
def SpotsAt (H : Hp) (d : Addr) (sp : List (Str × Nat × Nat)) : Prop := ∃ kvs, H d = some (.dK kvs) ∧ Each (Ent H) kvs sp
theorem ent_keep {H H' : Hp} (k : TupKeep H H') {kvs : List (Key × V)} {sp : List (Str × Nat × Nat)} (h : Each (Ent H) kvs sp) : Each (Ent H') kvs sp :=
  Each.mono (fun _ _ ⟨e, t, e2, ht⟩ => ⟨e, t, e2, k _ _ ht⟩) h
theorem SpotsAt.keep {H H' : Hp} {d : Addr} {sp : List (Str × Nat × Nat)} (h : SpotsAt H d sp) (k : Keep H H') : SpotsAt H' d sp := by
  obtain ⟨kvs, h1, h2⟩ := h
  exact ⟨kvs, k _ _ (fun ys e => by cases e) h1, ent_keep k.tk h2⟩
theorem ent_none {H : Hp} {z : Str} : ∀ {kvs : List (Key × V)} {sp : List (Str × Nat × Nat)}, Each (Ent H) kvs sp → z ∉ sp.map (·.1) → valV kvs (Sum.inr z : Key) = none
  | _, _, .nil, _ => rfl
  | _, _, .cons (a := kv) (b := s) r t, h => by
    rw [List.map_cons, List.mem_cons, not_or] at h
    rw [valV_neg (fun e => h.1 (Sum.inr.inj (e.symm.trans r.1)))]
    exact ent_none t h.2
theorem ent_some {H : Hp} {z : Str} {r c : Nat} : ∀ {kvs : List (Key × V)} {sp : List (Str × Nat × Nat)}, Each (Ent H) kvs sp → (sp.map (·.1)).Nodup → (z, r, c) ∈ sp → ∃ t, valV kvs (Sum.inr z : Key) = some (.ref t) ∧ H t = some (.tup [.int r, .int c])
  | _, _, .nil, _, h => by cases h
  | _, _, .cons (a := kv) (b := s) e t, nd, h => by
    obtain ⟨n1, n2⟩ := List.nodup_cons.mp nd
    rcases List.mem_cons.mp h with h | h
    · subst h
      obtain ⟨e1, u, e2, hu⟩ := e
      exact ⟨u, by rw [valV_pos e1, e2], hu⟩
    · have ne : ¬ s.1 = z := fun q => n1 (List.mem_map.mpr ⟨_, h, q.symm⟩)
      obtain ⟨u, e2, hu⟩ := ent_some t n2 h
      exact ⟨u, by rw [valV_neg (fun q => ne (Sum.inr.inj (e.1.symm.trans q)))]; exact e2, hu⟩
theorem ent_keys {H : Hp} : ∀ {kvs : List (Key × V)} {sp : List (Str × Nat × Nat)}, Each (Ent H) kvs sp → kvs.map (fun kv => kV kv.1) = (sp.map (·.1)).map V.str
  | _, _, .nil => rfl
  | _, _, .cons e t => by
    rw [List.map_cons, List.map_cons, List.map_cons, ent_keys t, e.1]
    rfl
section
variable {P : Program} {w : World} {K : PySem.W.Frag} {mg : Str → Option Value} {base : Heap} {f : Addr} {fd : FuncData}
/-! ### wrong_spot of a good grid -/
def spWrong : Sp := fun vs H Q _ => ∃ (L : Addr) (g : Grid) (wd : Nat), vs = [.ref L] ∧ GridAt H L g ∧ Good g wd ∧ ∀ (H' : Hp), Same H H' → Q .non H'
abbrev nWrong : List Str := ["rows", "names", "at", "row", "column", "part"]
theorem scWrong : FnScope nWrong ["rows"] (defScope sWrong) := ⟨rfl, rfl, rfl, by decide +kernel, rfl, by decide +kernel, by decide +kernel⟩
theorem take_snoc {α : Type} {l : List α} {i : Nat} {x : α} (h : l[i]? = some x) : l.take (i + 1) = l.take i ++ [x] := by
  rw [List.take_add_one, h]
  rfl
theorem len_take {α : Type} {l : List α} {i : Nat} {x : α} (h : l[i]? = some x) : (l.take i).length = i := by
  have := (List.getElem?_eq_some_iff.mp h).1
  rw [List.length_take]
  omega
/-- a name isn't among those ahead of it -/
theorem ahead_new {g : Grid} {wd : Nat} (gd : Good g wd) {i j : Nat} {row : Row} {z : Str} (hrow : g[i]? = some row) (ho : row[j]? = some (some z)) : z ∉ (spG 0 (g.take i) ++ spR i 0 (row.take j)).map (·.1) := by
  have hcz : cellAt g i j = some z := cellAt_of hrow ho
  intro hm
  obtain ⟨⟨y, r', c'⟩, hm2, rfl⟩ := List.mem_map.mp hm
  have hlt : (r', c') = (i, j) := by
    have hc2 : cellAt g r' c' = some y := by
      rcases List.mem_append.mp hm2 with h | h
      · obtain ⟨k, row2, e, h1, h2⟩ := (spG_mem _ 0).mp h
        have : r' = k := by omega
        subst this
        rw [List.getElem?_take] at h1
        split at h1
        · exact cellAt_of h1 h2
        · cases h1
      · obtain ⟨e, k, e2, h1⟩ := (spR_mem i _ 0).mp h
        have : c' = k := by omega
        subst this e
        rw [List.getElem?_take] at h1
        split at h1
        · exact cellAt_of hrow h1
        · cases h1
    obtain ⟨h1, h2⟩ := cell_inj gd.nd hc2 hcz
    rw [h1, h2]
  cases hlt
  rcases List.mem_append.mp hm2 with h | h
  · obtain ⟨k, row2, e, h1, h2⟩ := (spG_mem _ 0).mp h
    rw [List.getElem?_take] at h1
    split at h1
    · omega
    · cases h1
  · obtain ⟨e, k, e2, h1⟩ := (spR_mem i _ 0).mp h
    rw [List.getElem?_take] at h1
    split at h1
    · omega
    · cases h1
theorem ahead_len {g : Grid} {wd : Nat} (gd : Good g wd) {i j : Nat} {row : Row} (hrow : g[i]? = some row) : ((spG 0 (g.take i) ++ spR i 0 (row.take j)).map (·.1)).length ≤ 42 := by
  rw [List.map_append, spG_fst, spR_fst, List.length_append]
  have a1 := len_names (g := g.take i) (wd := wd) fun r hr => gd.rows r (List.mem_of_mem_take hr)
  have a2 : (g.take i).length ≤ 6 := by rw [List.length_take]; have := gd.h6; omega
  have a3 : (g.take i).length * wd ≤ 6 * 6 := Nat.mul_le_mul a2 gd.w6
  have a4 : (rnames (row.take j)).length ≤ (row.take j).length := List.length_filterMap_le id _
  have a5 : (row.take j).length ≤ row.length := List.length_take_le' _ _
  have a6 := gd.rows row (List.mem_of_getElem? hrow)
  have a7 := gd.w6
  omega
theorem ahead_snoc {g : Grid} {i j : Nat} {row : Row} {o : Option Str} (ho : row[j]? = some o) : spG 0 (g.take i) ++ spR i 0 (row.take (j + 1)) = spG 0 (g.take i) ++ spR i 0 (row.take j) ++ (o.toList.map fun z => (z, i, j)) := by
  rw [take_snoc ho, spR_snoc, len_take ho, Nat.zero_add, List.append_assoc]
theorem ok_wrong (F : Fun K "wrong_spot" "wrong_spot" sWrong f fd) (B : Bi mg) (hI : Has P w K mg base "is_word" 1 ["thing"] spIsWord) : FnOk P w K mg base CX0 2 f fd ["rows"] spWrong := by
  refine F.ok scWrong (fun vs H Q E h => ?_) (fun cdv A outer s H vs Q E hr h => ?_)
  · obtain ⟨L, g, wd, rfl, _⟩ := h
    rfl
  · obtain ⟨L, g, wd, rfl, hG, gd, q⟩ := h
    refine ⟨_, pss_cons (ps_set (i := 1) scWrong.nd rfl (.inl rfl) (pe_lst pa_nil))
      (pss_cons (ps_for PassesOwn.never rfl (pi_enumT (by rfl) B.enum (pa_cons (pv 0) pa_nil)) (pg_tup rfl (pgs_cons (pg_name (i := 2) scWrong.nd rfl (.inl rfl)) (pgs_cons (pg_name (i := 3) scWrong.nd rfl (.inl rfl)) pgs_nil)))
        (pss_one (ps_for PassesOwn.never rfl (pi_enumT (by rfl) B.enum (pa_cons (pv 3) pa_nil)) (pg_tup rfl (pgs_cons (pg_name (i := 4) scWrong.nd rfl (.inl rfl)) (pgs_cons (pg_name (i := 5) scWrong.nd rfl (.inl rfl)) pgs_nil)))
          (pss_cons (ps_if (pt_cmp (pc_isN (pv 5))) (pss_one ps_continue) pss_nil)
          (pss_cons (ps_if (PW.pt (pw_or (pt_not (pt_val (pe_h hI hr (pa_cons (pv 5) pa_nil)))) (pw_or1 (pt_cmpR op_in_seq (pv 5) (pv 1) (by rfl))))) (pss_one ps_never) pss_nil)
          (pss_one (ps_expr (pe_bm PySem.F.plainAttrs_list PySem.F.slot_list_append PySem.F.type_list_append mt_append (pv 1) (pa_cons (pv 5) pa_nil)))))))))
      (pss_one (ps_ret pe_non))), ?_⟩
    refine ⟨lz, fun d hd => ?_⟩
    obtain ⟨as, hL, hR⟩ := id hG
    have s0 : Same H (upd H d (.lst [])) := same_new hd
    refine ⟨_, rfl, L, _, rfl, .inl (.inl (s0 _ _ hL)), for_it (walk_enumT (K := K) (a := L) (xs := as.map V.ref)) (fun i σ H' => (∃ y2 y3 y4 y5, σ = [some (.ref L), some (.ref d), y2, y3, y4, y5]) ∧ Same H H' ∧ H' d = some (.lst (((spG 0 (g.take i)).map (·.1)).map V.str)))
      ⟨⟨_, _, _, _, rfl⟩, s0, upd_same⟩ (fun i σ H' _ h => .inl (.inl (h.2.1 _ _ hL))) ?_ ?_⟩
    · rintro i x σ H1 H2 hi ⟨⟨y2, y3, y4, y5, rfl⟩, s1, hd1⟩ ⟨T, x1, x2, rfl, hT, rfl, ex1, ex2⟩
      cases ex1
      have ex2 : (as.map V.ref)[i]? = some x2 := ex2
      rw [List.getElem?_map] at ex2
      obtain ⟨p, hp, rfl⟩ := Option.map_eq_some_iff.mp ex2
      obtain ⟨row, hrow, hH⟩ := hR.get hp
      have s2 : Same H1 (upd H1 T (.tup [.int i, .ref p])) := same_new hT
      have hp2 := s2 _ _ (s1 _ _ hH)
      refine ⟨T, _, rfl, .inl (.inl upd_same), rfl, _, _, rfl, _, _, rfl, rfl, ?_⟩
      refine ⟨_, rfl, p, _, rfl, .inl (.inl hp2), for_it (walk_enumT (K := K) (a := p) (xs := row.map oV)) (fun j σ H' => (∃ y4 y5, σ = [some (.ref L), some (.ref d), some (.int i), some (.ref p), y4, y5]) ∧ Same H H' ∧ H' d = some (.lst (((spG 0 (g.take i) ++ spR i 0 (row.take j)).map (·.1)).map V.str)))
        ⟨⟨_, _, rfl⟩, s1.trans s2, by simpa [spR] using s2 _ _ hd1⟩ (fun j σ H' _ h => .inl (.inl (h.2.1 _ _ hH))) ?_ ?_⟩
      · rintro j x σ H3 H4 hj ⟨⟨z4, z5, rfl⟩, s3, hd3⟩ ⟨T2, x1, x2, rfl, hT2, rfl, ex1, ex2⟩
        cases ex1
        have ex2 : (row.map oV)[j]? = some x2 := ex2
        rw [List.getElem?_map] at ex2
        obtain ⟨o, ho, rfl⟩ := Option.map_eq_some_iff.mp ex2
        have s4 : Same H3 (upd H3 T2 (.tup [.int j, oV o])) := same_new hT2
        refine ⟨T2, _, rfl, .inl (.inl upd_same), rfl, _, _, rfl, _, _, rfl, rfl, ?_⟩
        cases o with
        | none =>
          refine ⟨_, rfl, _, rfl, iteT ?_⟩
          refine ⟨⟨_, _, rfl⟩, s3.trans s4, ?_⟩
          rw [ahead_snoc ho]
          simpa using s4 _ _ hd3
        | some z =>
          have hzw : IsWd z := gd.wd z (mem_names.mpr ⟨i, j, cellAt_of hrow ho⟩)
          refine ⟨_, rfl, _, rfl, iteF ?_⟩
          refine ⟨_, rfl, z, rfl, by have := hzw.len; omega, fun H5 s5 => ⟨_, rfl, ?_⟩⟩
          rw [show wdB z = true from hzw]
          have hd5 := s5 _ _ (s4 _ _ hd3)
          have hin : inV (.str z) (((spG 0 (g.take i) ++ spR i 0 (row.take j)).map (·.1)).map V.str) = false := by
            rw [inV_strs]
            exact decide_eq_false (ahead_new gd hrow ho)
          refine iteF ⟨_, rfl, _, rfl, d, _, rfl, .inl (.inl (.inl hd5)), rfl, flat_strs _, false, ?_, ?_⟩
          · exact congrArg V.bl hin
          refine iteF ⟨_, rfl, .inl ⟨rfl, _, .inl (.inl hd5)⟩, _, rfl, d, _, _, rfl, rfl, hd5, ?_, ?_⟩
          · rw [List.length_map]
            exact small1000 (by have := ahead_len gd hrow (j := j); omega)
          · refine ⟨⟨_, _, rfl⟩, same_mut ((s3.trans s4).trans s5) hd, ?_⟩
            rw [upd_same, ahead_snoc ho]
            simp [oV]
      · rintro σ H3 ⟨⟨z4, z5, rfl⟩, s3, hd3⟩
        refine ⟨⟨_, _, _, _, rfl⟩, s3, ?_⟩
        rw [List.length_map, List.take_length] at hd3
        rw [take_snoc hrow, spG_snoc, len_take hrow, Nat.zero_add]
        exact hd3
    · rintro σ H3 ⟨⟨y2, y3, y4, y5, rfl⟩, s3, hd3⟩
      exact q H3 s3
/-! ### spots_in of a good grid -/
def spSpotsIn : Sp := fun vs H Q _ => ∃ (L : Addr) (g : Grid) (wd : Nat), vs = [.ref L] ∧ GridAt H L g ∧ Good g wd ∧
  ∀ (d : Addr) (H' : Hp), H d = none → Same H H' → SpotsAt H' d (spG 0 g) → Q (.ref d) H'
abbrev nSpotsIn : List Str := ["rows", "at", "row", "column", "part"]
theorem scSpotsIn : FnScope nSpotsIn ["rows"] (defScope sSpotsIn) := ⟨rfl, rfl, rfl, by decide +kernel, rfl, by decide +kernel, by decide +kernel⟩
theorem ok_spotsin (F : Fun K "spots_in" "spots_in" sSpotsIn f fd) (B : Bi mg) : FnOk P w K mg base CX0 1 f fd ["rows"] spSpotsIn := by
  refine F.ok scSpotsIn (fun vs H Q E h => ?_) (fun cdv A outer s H vs Q E hr h => ?_)
  · obtain ⟨L, g, wd, rfl, _⟩ := h
    rfl
  · obtain ⟨L, g, wd, rfl, hG, gd, q⟩ := h
    refine ⟨_, pss_one (ps_ret (pe_dc2 (own := [("at", 1), ("row", 2), ("column", 3), ("part", 4)]) (vs1 := [3, 4]) (ga := gTup K 2 (gCons (gName 1) (gCons (gName 2) gNil))) (tta := tYes) (wb := iEnumT K (tCons (tVar 2) tNil)) (gb := gTup K 2 (gCons (gName 3) (gCons (gName 4) gNil))) (ttb := tB (tNotN (tVar 4))) (tk := tVar 4) (tv := tTup (tCons (tVar 1) (tCons (tVar 3) tNil))) rfl scSpotsIn.nd (pi_enumT (by rfl) B.enum (pa_cons (pv 0) pa_nil)) (blkOk_by (N := nSpotsIn) (sc := defScope sSpotsIn) (by decide +kernel)) (by decide)
      (fun _ _ _ _ _ => pg_tup rfl (pgs_cons (pg_name (i := 1) scSpotsIn.nd rfl (.inl rfl)) (pgs_cons (pg_name (i := 2) scSpotsIn.nd rfl (.inl rfl)) pgs_nil))) (fun _ _ _ _ _ => pts_nil)
      (fun _ _ _ _ _ => pi_enumT (by rfl) B.enum (pa_cons (pv 2) pa_nil)) (fun _ _ _ _ _ => pg_tup rfl (pgs_cons (pg_name (i := 3) scSpotsIn.nd rfl (.inl rfl)) (pgs_cons (pg_name (i := 4) scSpotsIn.nd rfl (.inl rfl)) pgs_nil)))
      (fun _ _ _ _ _ => pts_one (pt_cmp (pc_notN (pv 4)))) (fun _ _ _ _ _ => pv 4) (fun _ _ _ _ _ => pe_tup (pa_cons (pv 1) (pa_cons (pv 3) pa_nil))))), ?_⟩
    obtain ⟨as, hL, hR⟩ := id hG
    refine ⟨_, rfl, L, _, rfl, .inl (.inl hL), fun d hd => dc2_it (walk_enumT (K := K) (a := L) (xs := as.map V.ref)) (fun i H' => Same H H' ∧ SpotsAt H' d (spG 0 (g.take i))) ⟨same_new hd, [], upd_same, .nil⟩ (fun i H' _ h => .inl (.inl (h.1 _ _ hL))) ?_ ?_⟩
    · rintro i x H1 H2 hi ⟨s1, kvs1, hd1, e1⟩ ⟨T, x1, x2, rfl, hT, rfl, ex1, ex2⟩
      cases ex1
      have ex2 : (as.map V.ref)[i]? = some x2 := ex2
      rw [List.getElem?_map] at ex2
      obtain ⟨p, hp, rfl⟩ := Option.map_eq_some_iff.mp ex2
      obtain ⟨row, hrow, hH⟩ := hR.get hp
      have s2 : Same H1 (upd H1 T (.tup [.int i, .ref p])) := same_new hT
      have hp2 := s2 _ _ (s1 _ _ hH)
      refine ⟨T, _, rfl, .inl (.inl upd_same), rfl, _, _, rfl, _, _, rfl, rfl, rfl, yes_it ?_⟩
      refine ⟨_, rfl, p, _, rfl, .inl (.inl hp2), inn_it (walk_enumT (K := K) (a := p) (xs := row.map oV)) (fun j H' => Same H H' ∧ SpotsAt H' d (spG 0 (g.take i) ++ spR i 0 (row.take j)))
        ⟨s1.trans s2, kvs1, s2 _ _ hd1, by simpa [spR] using ent_keep (tk_same s2) e1⟩ (fun j H' _ h => .inl (.inl (h.1 _ _ hH))) ?_ ?_⟩
      · rintro j x H3 H4 hj ⟨s3, kvs3, hd3, e3⟩ ⟨T2, x1, x2, rfl, hT2, rfl, ex1, ex2⟩
        cases ex1
        have ex2 : (row.map oV)[j]? = some x2 := ex2
        rw [List.getElem?_map] at ex2
        obtain ⟨o, ho, rfl⟩ := Option.map_eq_some_iff.mp ex2
        have s4 : Same H3 (upd H3 T2 (.tup [.int j, oV o])) := same_new hT2
        refine ⟨T2, _, rfl, .inl (.inl upd_same), rfl, _, _, rfl, _, _, rfl, rfl, rfl, ?_⟩
        cases o with
        | none =>
          refine ⟨_, rfl, _, rfl, iteF ?_⟩
          refine ⟨s3.trans s4, kvs3, s4 _ _ hd3, ?_⟩
          rw [ahead_snoc ho]
          simpa using ent_keep (tk_same s4) e3
        | some z =>
          refine ⟨_, rfl, _, rfl, iteT ?_⟩
          have hd5 := s4 _ _ hd3
          have e5 := ent_keep (tk_same s4) e3
          have hv : valV kvs3 (Sum.inr z : Key) = none := ent_none e5 (ahead_new gd hrow ho)
          refine ⟨_, rfl, _, rfl, _, rfl, lz, fun T6 hT6 => ?_⟩
          have hd6 := (same_new (o := .tup [.int i, .int j]) hT6) _ _ hd5
          refine ⟨kvs3, Sum.inr z, rfl, hd6, ?_, same_mut ((s3.trans s4).trans (same_new hT6)) hd, kvs3 ++ [(Sum.inr z, .ref T6)], ?_, ?_⟩
          · have h1 := e5.length
            have h2 := ahead_len gd hrow (j := j)
            rw [List.length_map] at h2
            exact small1000 (by omega)
          · rw [putK_new _ hv, upd_same]
          · rw [ahead_snoc ho]
            refine Each.append (ent_keep (tk_updD hd6) (ent_keep (tk_new hT6) e5)) (.cons ⟨rfl, T6, rfl, ?_⟩ .nil)
            exact (tk_updD hd6) _ _ upd_same
      · rintro H3 ⟨s3, kvs3, hd3, e3⟩
        refine ⟨s3, kvs3, hd3, ?_⟩
        rw [List.length_map, List.take_length] at e3
        rw [take_snoc hrow, spG_snoc, len_take hrow, Nat.zero_add]
        exact e3
    · rintro H3 ⟨s3, kvs3, hd3, e3⟩
      have hlen : (as.map V.ref).length = g.length := by rw [List.length_map, hR.length]
      rw [hlen, List.take_length] at e3
      exact q d H3 hd s3 ⟨kvs3, hd3, e3⟩
/-! ### checked_spots of a good grid -/
def spSpots : Sp := fun vs H Q _ => ∃ (L : Addr) (g : Grid) (wd : Nat), vs = [.ref L] ∧ GridAt H L g ∧ Good g wd ∧
  ∀ (d : Addr) (H' : Hp), H d = none → Same H H' → SpotsAt H' d (spG 0 g) → Q (.ref d) H'
abbrev nSpots : List Str := ["rows", "wrong", "spots"]
theorem scSpots : FnScope nSpots ["rows"] (defScope sSpots) := ⟨rfl, rfl, rfl, by decide +kernel, rfl, by decide +kernel, by decide +kernel⟩
theorem ok_spots (F : Fun K "checked_spots" "checked_spots" sSpots f fd) (hA : Has P w K mg base "are_rows" 1 ["thing"] spAreRows) (hW : Has P w K mg base "wrong_spot" 2 ["rows"] spWrong) (hS : Has P w K mg base "spots_in" 1 ["rows"] spSpotsIn) :
    FnOk P w K mg base CX0 3 f fd ["rows"] spSpots := by
  refine F.ok scSpots (fun vs H Q E h => ?_) (fun cdv A outer s H vs Q E hr h => ?_)
  · obtain ⟨L, g, wd, rfl, _⟩ := h
    rfl
  · obtain ⟨L, g, wd, rfl, hG, gd, q⟩ := h
    refine ⟨_, pss_cons (ps_if (pt_not (pt_val (pe_h hA hr (pa_cons (pv 0) pa_nil)))) (pss_one ps_never) pss_nil)
      (pss_cons (ps_set (i := 1) scSpots.nd rfl (.inl rfl) (pe_h hW hr (pa_cons (pv 0) pa_nil)))
      (pss_cons (ps_if (pt_cmp (pc_notN (pv 1))) (pss_one ps_never) pss_nil)
      (pss_cons (ps_set (i := 2) scSpots.nd rfl (.inl rfl) (pe_h hS hr (pa_cons (pv 0) pa_nil)))
      (pss_cons (ps_if (pt_not (pt_truth (pv 2) (by intro _; rfl))) (pss_one ps_never) pss_nil)
      (pss_one (ps_ret (pv 2))))))), ?_⟩
    refine ⟨_, rfl, L, g, wd, rfl, hG, gd, true, rfl, iteF ?_⟩
    refine ⟨_, rfl, L, g, wd, rfl, hG, gd, fun H1 s1 => ⟨_, rfl, _, rfl, iteF ?_⟩⟩
    have hG1 : GridAt H1 L g := hG.keep (tk_same s1)
    refine ⟨_, rfl, L, g, wd, rfl, hG1, gd, fun d H2 hd s2 ⟨kvs, hk, he⟩ => ?_⟩
    have hne : kvs.isEmpty = false := by
      cases kvs with
      | nil =>
        have h1 := he.length
        have h2 : ((spG 0 g).map (·.1)).length = (names g).length := by rw [spG_fst]
        rw [List.length_map] at h2
        have h3 : names g = [] := List.eq_nil_of_length_eq_zero (by rw [← h2, ← h1]; rfl)
        exact absurd h3 gd.ne
      | cons a r => rfl
    refine ⟨_, rfl, _, .inr (.inr ⟨kvs, hk, rfl⟩), ?_⟩
    rw [hne]
    refine iteF ⟨_, rfl, q d H2 (s1.free hd) (s1.trans s2) ⟨kvs, hk, he⟩⟩
end
end Wl



namespace Wl
open PySem PySem.Spec PyProof.Rows L2
section
variable {J : It} {ys : List V} {G : Hp → Prop} {slot slot1 : Nat} {wi1 : TI} {tt1 : TT} {te : TE} {vs vs1 : List Nat} {σ : L2.St} {H1 : Hp} {D : Addr} {Qd : Hp → Prop}
theorem flat_take_snoc {α β : Type} {f : α → List β} {ys : List α} {i : Nat} {x : α} (h : ys[i]? = some x) : (ys.take (i + 1)).flatMap f = (ys.take i).flatMap f ++ f x := by
  rw [List.take_add_one, h, List.flatMap_append]
  simp
/-- [e for x in ys for y in inn x if t]: the heap only growing -/
theorem lc2_rel (w : L2.Walk J ys.length G (YAt ys)) (hD : H1 D = none) (inn : V → List V) (keep : V → V → Bool) (R : V → V → V → Hp → Prop) (N : Nat)
    (hG : ∀ H, Same H1 H → G H)
    (hw : ∀ x, wipe ((wipe σ vs).set slot (some x)) vs = wipe σ vs)
    (hw1 : ∀ x y, wipe ((wipe ((wipe σ vs).set slot (some x)) vs1).set slot1 (some y)) vs1 = wipe ((wipe σ vs).set slot (some x)) vs1)
    (hi : ∀ (x : V) (H : Hp) (acc : List V), x ∈ ys → Same H1 H → H D = some (.lst acc) → ∀ Rr : It → Hp → Prop,
      (∀ J1 H4 G1, Same H H4 → L2.Walk J1 (inn x).length G1 (YAt (inn x)) → (∀ H', SameX D H4 H' → G1 H') → Rr J1 H4) → wi1 ((wipe σ vs).set slot (some x)) H Rr)
    (ht : ∀ (x y : V) (H : Hp), x ∈ ys → y ∈ inn x → Same H1 H → ∀ Q : Bool → Hp → Prop, Q (keep x y) H → tt1 ((wipe ((wipe σ vs).set slot (some x)) vs1).set slot1 (some y)) H Q)
    (he : ∀ (x y : V) (H : Hp), x ∈ ys → y ∈ inn x → keep x y = true → Same H1 H → ∀ Q : VK, (∀ z H', Same H H' → R x y z H' → Q z H') → te ((wipe ((wipe σ vs).set slot (some x)) vs1).set slot1 (some y)) H Q)
    (hR : ∀ x y z H H' acc, H D = some (.lst acc) → SameX D H H' → R x y z H → R x y z H')
    (hl : ∀ x ∈ ys, (inn x).length ≤ N) (hn : ys.length * N < sizeLine)
    (hd : ∀ zs H, Same H1 H → H D = some (.lst zs) → Each (fun (xy : V × V) z => R xy.1 xy.2 z H) (ys.flatMap fun x => ((inn x).filter (keep x)).map fun y => (x, y)) zs → Qd H) :
    ∃ W : Nat → Nat → Hp → Prop, (∃ m, W 0 m (upd H1 D (.lst []))) ∧ ∀ i m H, W i m H →
      (J.stop i H ∧ Qd H) ∨ (J.go i H ∧ ∃ Nx : Hp → Prop, (∀ H', Nx H' → ∃ m', m' < m ∧ W (i + 1) m' H') ∧ ∀ x H', J.yld i H x H' → gName slot x (wipe σ vs) H' fun σ2 H2 => wipe σ2 vs = wipe σ vs ∧ tYes σ2 H2 fun b H3 =>
        if b = true then wi1 σ2 H3 fun J1 H4 => ∃ W1 : Nat → Nat → Hp → Prop, (∃ m, W1 0 m H4) ∧ ∀ j k H, W1 j k H →
          (J1.stop j H ∧ Nx H) ∨ (J1.go j H ∧ ∃ Nx1 : Hp → Prop, (∀ H', Nx1 H' → ∃ k', k' < k ∧ W1 (j + 1) k' H') ∧ ∀ x H', J1.yld j H x H' → gName slot1 x (wipe σ2 vs1) H' fun σ3 H5 => wipe σ3 vs1 = wipe σ2 vs1 ∧ tt1 σ3 H5 fun b H6 =>
            if b = true then te σ3 H6 fun y H7 => ∃ acc, H7 D = some (.lst acc) ∧ acc.length < sizeLine ∧ Nx1 (upd H7 D (.lst (acc ++ [y]))) else Nx1 H6)
        else Nx H3) := by
  have cnt : ∀ (l : List V), (∀ x ∈ l, (inn x).length ≤ N) → (l.flatMap fun x => ((inn x).filter (keep x)).map fun y => (x, y)).length ≤ l.length * N := by
    intro l
    induction l with
    | nil => intro _; simp
    | cons x r ih =>
      intro h
      rw [List.flatMap_cons, List.length_append, List.length_map, List.length_cons, Nat.succ_mul]
      have h1 : ((inn x).filter (keep x)).length ≤ (inn x).length := List.length_filter_le _ _
      have h2 := h x List.mem_cons_self
      have h3 := ih fun y hy => h y (List.mem_cons_of_mem _ hy)
      omega
  refine ⟨fun i m H => m = ys.length - i ∧ i ≤ ys.length ∧ ∃ zs, Same H1 H ∧ H D = some (.lst zs) ∧ Each (fun (xy : V × V) z => R xy.1 xy.2 z H) ((ys.take i).flatMap fun x => ((inn x).filter (keep x)).map fun y => (x, y)) zs,
    ⟨ys.length, by simp, Nat.zero_le _, [], same_new hD, upd_same, by simpa using Each.nil⟩, ?_⟩
  rintro i m H ⟨rfl, hi0, zs, s, hz, ez⟩
  by_cases hlt : i < ys.length
  · refine .inr ⟨w.goes i H hlt (hG H s), fun H' => ∃ zs, Same H1 H' ∧ H' D = some (.lst zs) ∧ Each (fun (xy : V × V) z => R xy.1 xy.2 z H') ((ys.take (i + 1)).flatMap fun x => ((inn x).filter (keep x)).map fun y => (x, y)) zs,
      fun H' h => ⟨ys.length - (i + 1), by omega, rfl, hlt, h⟩, fun x H' y => ?_⟩
    obtain ⟨rfl, hx⟩ := w.yields i H x H' hlt (hG H s) y
    have hm : x ∈ ys := List.mem_of_getElem? hx
    have hf := flat_take_snoc (f := fun x => ((inn x).filter (keep x)).map fun y => (x, y)) hx
    refine ⟨hw x, yes_it ?_⟩
    refine hi x _ zs hm s hz _ fun J1 H4 G1 s4 w1 hG1 => ?_
    have hz4 := s4 _ _ hz
    refine ⟨fun j k H => k = (inn x).length - j ∧ j ≤ (inn x).length ∧ ∃ ws, Same H1 H ∧ SameX D H4 H ∧ H D = some (.lst ws) ∧ Each (fun (xy : V × V) z => R xy.1 xy.2 z H) (((ys.take i).flatMap fun x => ((inn x).filter (keep x)).map fun y => (x, y)) ++ (((inn x).take j).filter (keep x)).map fun y => (x, y)) ws,
      ⟨(inn x).length, by simp, Nat.zero_le _, zs, s.trans s4, SameX.refl _ _, hz4, ?_⟩, ?_⟩
    · simpa using ez.mono fun a b r => hR _ _ _ _ _ _ hz (sx s4) r
    · rintro j k H5 ⟨rfl, hj0, ws, s5, x5, hz5, ez5⟩
      by_cases hjt : j < (inn x).length
      · refine .inr ⟨w1.goes j H5 hjt (hG1 H5 x5), fun H' => ∃ ws, Same H1 H' ∧ SameX D H4 H' ∧ H' D = some (.lst ws) ∧ Each (fun (xy : V × V) z => R xy.1 xy.2 z H') (((ys.take i).flatMap fun x => ((inn x).filter (keep x)).map fun y => (x, y)) ++ (((inn x).take (j + 1)).filter (keep x)).map fun y => (x, y)) ws,
          fun H' h => ⟨(inn x).length - (j + 1), by omega, rfl, hjt, h⟩, fun y H' yy => ?_⟩
        obtain ⟨rfl, hy⟩ := w1.yields j H5 y H' hjt (hG1 H5 x5) yy
        have hym : y ∈ inn x := List.mem_of_getElem? hy
        have hf2 := filter_take_snoc (p := keep x) hy
        refine ⟨hw1 x y, ht x y _ hm hym s5 _ ?_⟩
        refine ite_b (fun e => ?_) (fun e => ?_)
        · refine he x y _ hm hym e s5 _ fun z H6 s6 r6 => ⟨ws, s6 _ _ hz5, ?_, ws ++ [z], same_mut (s5.trans s6) hD, ?_, upd_same, ?_⟩
          · have h1 := ez5.length
            have h2 := cnt (ys.take i) fun x hx => hl x (List.mem_of_mem_take hx)
            have h3 : (((inn x).take j).filter (keep x)).length ≤ N := by
              have a1 : (((inn x).take j).filter (keep x)).length ≤ ((inn x).take j).length := List.length_filter_le _ _
              have a2 : ((inn x).take j).length ≤ (inn x).length := List.length_take_le' _ _
              have a3 := hl x hm
              omega
            rw [List.length_append, List.length_map] at h1
            have h4 : (ys.take i).length * N + N ≤ ys.length * N := by
              rw [← Nat.succ_mul]
              refine Nat.mul_le_mul_right N ?_
              rw [List.length_take]
              omega
            omega
          · exact (x5.trans (sx s6)).trans sameX_upd
          · rw [hf2, if_pos e, List.map_append, ← List.append_assoc]
            refine Each.append (ez5.mono fun a b r => ?_) (.cons ?_ .nil)
            · exact hR _ _ _ _ _ _ hz5 (fun b o n h => by rw [upd_ne n]; exact s6 _ _ h) r
            · exact hR _ _ _ _ _ _ (s6 _ _ hz5) sameX_upd r6
        · refine ⟨ws, s5, x5, hz5, ?_⟩
          rw [hf2, if_neg (by rw [e]; decide), List.append_nil]
          exact ez5
      · have e : j = (inn x).length := by omega
        subst e
        refine .inl ⟨w1.stops H5 (hG1 H5 x5), ws, s5, hz5, ?_⟩
        rw [List.take_length] at ez5
        rw [hf]
        exact ez5
  · have e : i = ys.length := by omega
    subst e
    rw [List.take_length] at ez
    exact .inl ⟨w.stops H (hG H s), hd zs H s hz ez⟩
end
end Wl

namespace Wl
open PySem PySem.Spec PyProof.Rows L2
abbrev sCls : Stmt := topS 36
abbrev sInit : Stmt := inClass sCls 0
abbrev sCheck : Stmt := inClass sCls 1
structure Txt (K : PySem.W.Frag) (mg : Str → Option Value) (C : Addr) : Prop where
  cl : Cls K C
  nS : NoAttr K C "spots"
  nR : NoAttr K C "rows"
  mgC : mg "Land" = some (.ref C)
theorem srne : ¬ (("spots" : Str) = "rows") := by decide +kernel
def lf (d L : Addr) : List (Str × V) := putF "rows" (.ref L) (putF "spots" (.ref d) [])
theorem lf_spots (d L : Addr) : (lf d L).lookup ("spots" : Str) = some (.ref d) := by
  unfold lf
  rw [lookup_putF, if_neg srne, lookup_putF, if_pos rfl]
theorem lf_rows (d L : Addr) : (lf d L).lookup ("rows" : Str) = some (.ref L) := by
  unfold lf
  rw [lookup_putF, if_pos rfl]
theorem lf_no (d L : Addr) {m : Str} (h1 : ¬ m = "rows") (h2 : ¬ m = "spots") : (lf d L).lookup m = none := by
  unfold lf
  rw [lookup_putF, if_neg h1, lookup_putF, if_neg h2]
  rfl
def LandAt (C : Addr) (H : Hp) (p L : Addr) (g : Grid) : Prop := ∃ d dx, H p = some (.ins C dx (lf d L)) ∧ SpotsAt H d (spG 0 g) ∧ GridAt H L g
theorem LandAt.keep {C p L : Addr} {H H' : Hp} {g : Grid} (h : LandAt C H p L g) (k : Keep H H') : LandAt C H' p L g := by
  obtain ⟨d, dx, h1, h2, h3⟩ := h
  exact ⟨d, dx, k _ _ (fun xs e => by cases e) h1, h2.keep k, h3.keep k.tk⟩
theorem tk_updI {a : Addr} {H : Hp} {C dx : Addr} {fs : List (Str × V)} {o : HO} (ha : H a = some (.ins C dx fs)) : TupKeep H (upd H a o) := fun p xs h => by
  rw [upd_ne (ne_of h ha (by intro z; cases z))]
  exact h
theorem spots_updI {a d : Addr} {H : Hp} {C dx : Addr} {fs : List (Str × V)} {o : HO} {sp : List (Str × Nat × Nat)} (ha : H a = some (.ins C dx fs)) (h : SpotsAt H d sp) : SpotsAt (upd H a o) d sp := by
  obtain ⟨kvs, h1, h2⟩ := h
  exact ⟨kvs, by rw [upd_ne (ne_of h1 ha (by intro z; cases z))]; exact h1, ent_keep (tk_updI ha) h2⟩
section
variable {P : Program} {w : World} {K : PySem.W.Frag} {mg : Str → Option Value} {base : Heap} {f C : Addr} {fd : FuncData}
def spInit (C : Addr) : Sp := fun vs H Q _ => ∃ (p dx L : Addr) (g : Grid) (wd : Nat), vs = [.ref p, .ref L] ∧ H p = some (.ins C dx []) ∧ GridAt H L g ∧ Good g wd ∧
  ∀ (H' : Hp), (∀ b o, b ≠ p → H b = some o → H' b = some o) → LandAt C H' p L g → Q .non H'
theorem scInit : FnScope ["self", "rows"] ["self", "rows"] (defScope sInit) := ⟨rfl, rfl, rfl, by decide +kernel, rfl, by decide +kernel, by decide +kernel⟩
theorem ok_init (F : Fun K "__init__" "Land.__init__" sInit f fd) (T : Txt K mg C) (hS : Has P w K mg base "checked_spots" 3 ["rows"] spSpots) : FnOk P w K mg base CX0 4 f fd ["self", "rows"] (spInit C) := by
  refine F.ok scInit (fun vs H Q E h => ?_) (fun cdv A outer s H vs Q E hr h => ?_)
  · obtain ⟨p, dx, L, g, wd, rfl, _⟩ := h
    rfl
  · obtain ⟨p, dx, L, g, wd, rfl, hp, hG, gd, q⟩ := h
    refine ⟨_, pss_cons (ps_fld (pv 0) (pe_h hS hr (pa_cons (pv 1) pa_nil)) rfl) (pss_one (ps_fld (pv 0) (pv 1) rfl)), ?_⟩
    refine ⟨_, rfl, L, g, wd, rfl, hG, gd, fun d H1 hd s1 sp1 => ?_⟩
    have hp1 := s1 _ _ hp
    refine ⟨_, rfl, p, C, dx, [], rfl, hp1, T.cl, T.nS, (by show 0 < 1000; decide), ?_⟩
    refine ⟨_, rfl, _, rfl, p, C, dx, _, rfl, upd_same, T.cl, T.nR, (by show 1 < 1000; decide), ?_⟩
    refine q _ (fun b o n e => ?_) ⟨d, dx, upd_same, spots_updI upd_same (spots_updI hp1 sp1), ((hG.keep (tk_same s1)).keep (tk_updI hp1)).keep (tk_updI upd_same)⟩
    rw [upd_ne n, upd_ne n]
    exact s1 _ _ e

/-! ### names -/
def sd (z : Str) : V × PyData := (.str z, .str z)
theorem sort_strs (xs : List Str) : ((xs.map sd).mergeSort (PySem.W.dataLe false (·.2))).map (·.1) = (sortS xs).map V.str := by
  have h : (sortS xs).map sd = (xs.map sd).mergeSort (PySem.W.dataLe false (·.2)) := List.map_mergeSort fun a _ b _ => by
    rw [PySem.W.dataLe_eq]
    exact (le_data_str a b).symm
  rw [← h, List.map_map]
  rfl
theorem alike_strs (xs : List Str) : PySem.W.AllAlike ((xs.map sd).map (·.2)) := by
  intro d hd e he
  obtain ⟨b, hb, rfl⟩ := List.mem_map.mp hd
  obtain ⟨x, _, rfl⟩ := List.mem_map.mp hb
  obtain ⟨c, hc, rfl⟩ := List.mem_map.mp he
  obtain ⟨y, _, rfl⟩ := List.mem_map.mp hc
  rfl
theorem sortable_strs (xs : List Str) : PySem.W.Sortable ((xs.map sd).map (·.2)) := .inr fun d hd => by
  obtain ⟨b, hb, rfl⟩ := List.mem_map.mp hd
  obtain ⟨x, _, rfl⟩ := List.mem_map.mp hb
  exact ⟨(fun e => by cases e), (fun ys e => by cases e)⟩
/-- sorted of a list of texts, as a reading -/
theorem sort_reads {H : Hp} {Q : VK} {a : Addr} {xs : List Str} (h : SqL K H a (xs.map V.str)) (q : ∀ p, H p = none → Q (.ref p) (upd H p (.lst ((sortS xs).map V.str)))) : rSortD K [.ref a] H Q := by
  refine ⟨a, xs.map sd, rfl, ?_, ?_, alike_strs xs, sortable_strs xs, ?_, fun p hp => ?_⟩
  · rw [List.map_map]
    exact h
  · intro b hb
    obtain ⟨x, _, rfl⟩ := List.mem_map.mp hb
    exact .str x
  · intro b hb
    obtain ⟨x, _, rfl⟩ := List.mem_map.mp hb
    show PyData.depth (.str x) ≤ 8
    simp [PyData.depth]
  · rw [sort_strs]
    exact q p hp
def spCheck (C : Addr) : Sp := fun vs H Q _ => ∃ (p L : Addr) (g : Grid) (wd : Nat) (z : Str), vs = [.ref p, .str z] ∧ LandAt C H p L g ∧ Good g wd ∧ z ∈ names g ∧ ∀ (H' : Hp), Same H H' → Q .non H'
theorem scCheck : FnScope ["self", "name"] ["self", "name"] (defScope sCheck) := ⟨rfl, rfl, rfl, by decide +kernel, rfl, by decide +kernel, by decide +kernel⟩
theorem ok_check (F : Fun K "check_name" "Land.check_name" sCheck f fd) (T : Txt K mg C) (hI : Has P w K mg base "is_word" 1 ["thing"] spIsWord) : FnOk P w K mg base CX0 2 f fd ["self", "name"] (spCheck C) := by
  refine F.ok scCheck (fun vs H Q E h => ?_) (fun cdv A outer s H vs Q E hr h => ?_)
  · obtain ⟨p, L, g, wd, z, rfl, _⟩ := h
    rfl
  · obtain ⟨p, L, g, wd, z, rfl, hLa, gd, hz, q⟩ := h
    have hu := hu_of hr
    have hzw := gd.wd z hz
    refine ⟨_, pss_one (ps_if (PW.pt (pw_or (pt_not (pt_val (pe_h hI hr (pa_cons (pv 1) pa_nil)))) (pw_or1 (pt_cmp (pc_dnotin hu (pv 1) (pe_fld (pv 0) rfl)))))) (pss_one ps_never) pss_nil), ?_⟩
    refine ⟨_, rfl, z, rfl, by have := hzw.len; omega, fun H1 s1 => ⟨_, rfl, ?_⟩⟩
    rw [show wdB z = true from hzw]
    refine iteF ?_
    obtain ⟨d, dx, hp, ⟨kvs, hd, he⟩, hG⟩ := hLa.keep (kp_same s1)
    obtain ⟨r, c, hc⟩ := mem_names.mp hz
    obtain ⟨t, hv, ht⟩ := ent_some he (by rw [spG_fst]; exact gd.nd) (spG_cell.mpr hc)
    refine ⟨_, rfl, _, rfl, p, C, dx, _, _, rfl, hp, T.cl, T.nS, lf_spots _ _, d, _, rfl, DGet.k (k := Sum.inr z) hd, _, rfl, ?_⟩
    rw [hv]
    exact iteF (q H1 s1)
end
end Wl



namespace Wl
open PySem PySem.Spec PyProof.Rows L2
/-- at most six rows of at most six -/
structure Sized (g : Grid) (wd : Nat) : Prop where
  h6 : g.length ≤ 6
  w6 : wd ≤ 6
  rows : ∀ r ∈ g, r.length = wd
theorem Good.sized {g : Grid} {wd : Nat} (G : Good g wd) : Sized g wd := ⟨G.h6, G.w6, G.rows⟩
section
variable {P : Program} {w : World} {K : PySem.W.Frag} {mg : Str → Option Value} {base : Heap} {f C : Addr} {fd : FuncData}
/-! ### the law's own names -/
def spNames : Sp := fun vs H Q _ => ∃ (L : Addr) (g : Grid) (wd : Nat), vs = [.ref L] ∧ GridAt H L g ∧ Sized g wd ∧
  ∀ (t : Addr) (H' : Hp), H t = none → Same H H' → H' t = some (.lst ((sortS (names g)).map V.str)) → Q (.ref t) H'
abbrev nNames : List Str := ["_law_laid", "_law_found_here", "_law_row", "_law_town"]
theorem scNames : FnScope nNames ["_law_laid"] (defScope sNames) := ⟨rfl, rfl, rfl, by decide +kernel, rfl, by decide +kernel, by decide +kernel⟩
theorem row_filter (row : Row) : ((row.map oV).filter fun v => !decide (v = .non)).map id = (rnames row).map V.str := by
  rw [List.map_id]
  induction row with
  | nil => rfl
  | cons o r ih =>
    cases o with
    | none => exact ih
    | some z => exact congrArg (V.str z :: ·) ih
theorem names_take {g : Grid} {i : Nat} {row : Row} (h : g[i]? = some row) : names (g.take (i + 1)) = names (g.take i) ++ rnames row := by
  rw [take_snoc h, names_snoc]
theorem ok_names (F : Fun K "_law_names" "_law_names" sNames f fd) (B : Bi mg) : FnOk P w K mg base CX0 1 f fd ["_law_laid"] spNames := by
  refine F.ok scNames (fun vs H Q E h => ?_) (fun cdv A outer s H vs Q E hr h => ?_)
  · obtain ⟨L, g, wd, rfl, _⟩ := h
    rfl
  · obtain ⟨L, g, wd, rfl, ⟨as, hL, hR⟩, gd, q⟩ := h
    refine ⟨_, pss_cons (ps_set (i := 1) scNames.nd rfl (.inl rfl) (pe_lst pa_nil))
      (pss_cons (ps_for PassesOwn.never rfl (pi_tup (pv 0)) (pg_name (i := 2) scNames.nd rfl (.inl rfl))
        (pss_one (ps_expr (pe_bm PySem.F.plainAttrs_list PySem.F.slot_list_extend PySem.F.type_list_extend mt_extend (pv 1) (pa_cons
          (pe_lc (own := [("_law_town", 3)]) (g := gName 3) (tt := tB (tNotN (tVar 3))) rfl scNames.nd (pi_tup (pv 2)) (blkOk_by (N := nNames) (sc := defScope sNames) (by decide +kernel)) (fun _ _ _ _ _ => pg_name (i := 3) scNames.nd rfl (.inl rfl))
            (fun _ _ _ _ _ => pts_one (pt_cmp (pc_notN (pv 3)))) (fun _ _ _ _ _ => pv 3)) pa_nil)))))
      (pss_one (ps_ret (pe_callB (cr_sortD hr.units) (by rfl) B.sorted (by decide +kernel) (pa_cons (pv 1) pa_nil))))), ?_⟩
    refine ⟨lz, fun fA hf => ?_⟩
    have s0 : Same H (upd H fA (.lst [])) := same_new hf
    have hlen : (as.map V.ref).length = g.length := by rw [List.length_map, hR.length]
    refine ⟨_, rfl, L, rfl, ⟨_, .inl (.inl (s0 _ _ hL))⟩, for_tup (K := K) (a := L) (xs := as.map V.ref) (fun i σ H' => (∃ y2 y3, σ = [some (.ref L), some (.ref fA), y2, y3]) ∧ Same H H' ∧ H' fA = some (.lst ((names (g.take i)).map V.str)))
      ⟨⟨_, _, rfl⟩, s0, upd_same⟩ (fun i σ H' _ h => .inl (.inl (h.2.1 _ _ hL))) ?_ ?_⟩
    · rintro i x σ H1 hx ⟨⟨y2, y3, rfl⟩, s1, hf1⟩
      rw [List.getElem?_map] at hx
      obtain ⟨p, hp, rfl⟩ := Option.map_eq_some_iff.mp hx
      obtain ⟨row, hrow, hH⟩ := hR.get hp
      have hrl := gd.rows row (List.mem_of_getElem? hrow)
      refine ⟨_, rfl, .inl ⟨rfl, _, .inl (.inl hf1)⟩, _, rfl, p, rfl, ⟨_, .inl (.inl (s1 _ _ hH))⟩, fun D hD => ?_⟩
      refine lc_map (walk_tup (K := K) (a := p) (xs := row.map oV)) hD (fun v => !decide (v = .non)) id (fun H' s' => .inl (.inl (s' _ _ (s1 _ _ hH)))) (fun _ => rfl) ?_ ?_ ?_ ?_
      · intro x H' hx s' Q' q'
        exact ⟨_, rfl, _, rfl, q'⟩
      · intro x H' hx _ _ Q' q'
        exact ⟨_, rfl, q'⟩
      · rw [List.length_map]
        exact small1000 (by have := gd.w6; omega)
      · intro H2 s2 hD2
        rw [row_filter] at hD2
        have hf2 := s2 _ _ hf1
        refine ⟨fA, D, _, _, rfl, rfl, hf2, hD2, ?_, ⟨_, _, rfl⟩, same_mut (s1.trans s2) hf, ?_⟩
        · rw [List.length_map, List.length_map]
          have a1 := len_names (g := g.take i) (wd := wd) fun r hr => gd.rows r (List.mem_of_mem_take hr)
          have a2 : (g.take i).length ≤ 6 := by rw [List.length_take]; have := gd.h6; omega
          have a3 : (g.take i).length * wd ≤ 6 * 6 := Nat.mul_le_mul a2 gd.w6
          have a4 : (rnames row).length ≤ row.length := List.length_filterMap_le id _
          have a7 := gd.w6
          exact lzl (by omega)
        · rw [upd_same, names_take hrow, List.map_append]
    · rintro σ H1 ⟨⟨y2, y3, rfl⟩, s1, hf1⟩
      rw [hlen, List.take_length] at hf1
      refine ⟨_, rfl, ?_⟩
      dsimp only [tNil]
      refine sort_reads (K := K) (.inl (.inl hf1)) fun p hp => ?_
      exact q p _ (s1.free hp) (s1.trans (same_new hp)) upd_same

theorem grid_get {H : Hp} {L : Addr} {g : Grid} {wd : Nat} (gd : Good g wd) {as : List Addr} (hL : H L = some (.tup (as.map V.ref))) (hR : RowsAt H as g) {x y : Int} (hx : 0 ≤ x ∧ x < g.length) (hy : 0 ≤ y ∧ y < wd) :
    ∃ (p : Addr) (row : Row), atI (as.map V.ref) x = some (.ref p) ∧ H p = some (.tup (row.map oV)) ∧ row.length = wd ∧ atI (row.map oV) y = some (oV (cellAt g x.toNat y.toNat)) := by
  have hx2 : x.toNat < g.length := by omega
  have hg : g[x.toNat]? = some g[x.toNat] := List.getElem?_eq_getElem hx2
  obtain ⟨p, hp, hH⟩ := hR.get2 hg
  have hw := gd.rows _ (List.mem_of_getElem? hg)
  have hy2 : y.toNat < g[x.toNat].length := by omega
  refine ⟨p, g[x.toNat], at_of (j := x.toNat) (by omega) (by rw [List.getElem?_map, hp]; rfl), hH, hw, at_of (j := y.toNat) (by omega) ?_⟩
  rw [List.getElem?_map, List.getElem?_eq_getElem hy2, cellAt_of hg (List.getElem?_eq_getElem hy2)]
  rfl
end
end Wl



namespace Wl
open PySem PySem.Spec PyProof.Rows L2
inductive Wh where
  | first | last | any
  deriving DecidableEq
def whS : Wh → Str
  | .first => "first"
  | .last => "last"
  | .any => "any"
abbrev Chg := Nat × Nat × Wh
def isLet (c : Nat) : Prop := 97 ≤ c ∧ c ≤ 122
instance (c : Nat) : Decidable (isLet c) := by unfold isLet; infer_instance
def OkC (ch : Chg) : Prop := isLet ch.1 ∧ isLet ch.2.1 ∧ ch.1 ≠ ch.2.1
def acts (wh : Wh) (i n : Nat) : Bool := match wh with
  | .first => decide (i = 0)
  | .last => decide (i + 1 = n)
  | .any => true
abbrev Edges := List (Nat × Nat)
def es (chs : List Chg) (i n : Nat) : Edges := (chs.filter fun ch => acts ch.2.2 i n).map fun ch => (ch.1, ch.2.1)
def nbE (c : Nat) (e : Nat × Nat) : List Nat := (if e.1 = c then [e.2] else []) ++ (if e.2 = c then [e.1] else [])
def nbrs (E : Edges) (c : Nat) : List Nat := E.flatMap (nbE c)
theorem mem_nbrs {E : Edges} {c d : Nat} : d ∈ nbrs E c ↔ (c, d) ∈ E ∨ (d, c) ∈ E := by
  unfold nbrs nbE
  rw [List.mem_flatMap]
  constructor
  · rintro ⟨⟨x, y⟩, he, h⟩
    rcases List.mem_append.mp h with k | k
    · by_cases q : x = c
      · rw [if_pos q, List.mem_singleton] at k
        rw [k, ← q]
        exact .inl he
      · rw [if_neg q] at k
        cases k
    · by_cases q : y = c
      · rw [if_pos q, List.mem_singleton] at k
        rw [k, ← q]
        exact .inr he
      · rw [if_neg q] at k
        cases k
  · rintro (h | h)
    · exact ⟨(c, d), h, List.mem_append_left _ (by simp)⟩
    · exact ⟨(d, c), h, List.mem_append_right _ (by simp)⟩
theorem nbrs_symm {E : Edges} {c d : Nat} (h : d ∈ nbrs E c) : c ∈ nbrs E d := mem_nbrs.mpr ((mem_nbrs.mp h).symm)
theorem nbrs_snoc (E : Edges) (x y c : Nat) : nbrs (E ++ [(x, y)]) c = nbrs E c ++ ((if x = c then [y] else []) ++ (if y = c then [x] else [])) := by
  unfold nbrs
  rw [List.flatMap_append]
  simp [nbE]
inductive Conn (E : Edges) : Nat → Nat → Prop
  | refl (a : Nat) : Conn E a a
  | step {a b c : Nat} : Conn E a b → c ∈ nbrs E b → Conn E a c
theorem Conn.trans {E : Edges} {a b c : Nat} (h : Conn E a b) (k : Conn E b c) : Conn E a c := by
  induction k with
  | refl => exact h
  | step _ m ih => exact .step ih m
theorem Conn.symm {E : Edges} {a b : Nat} (h : Conn E a b) : Conn E b a := by
  induction h with
  | refl => exact .refl _
  | step _ m ih => exact (Conn.step (.refl _) (nbrs_symm m)).trans ih
def OkE (E : Edges) : Prop := ∀ e ∈ E, isLet e.1 ∧ isLet e.2
theorem conn_let {E : Edges} (ok : OkE E) {a b : Nat} (h : Conn E a b) (ha : isLet a) : isLet b := by
  induction h with
  | refl => exact ha
  | step _ m _ =>
    rcases mem_nbrs.mp m with m | m
    · exact (ok _ m).2
    · exact (ok _ m).1
theorem es_ok {chs : List Chg} (h : ∀ ch ∈ chs, OkC ch) (i n : Nat) : OkE (es chs i n) := fun e he => by
  obtain ⟨ch, hc, rfl⟩ := List.mem_map.mp he
  have := h ch (List.mem_filter.mp hc).1
  exact ⟨this.1, this.2.1⟩
theorem least_of (p : Nat → Prop) : ∀ n, p n → ∃ m, p m ∧ ∀ d, p d → m ≤ d := by
  intro n
  induction n using Nat.strongRecOn with
  | _ n ih =>
    intro hn
    by_cases h : ∃ k, k < n ∧ p k
    · obtain ⟨k, hk, pk⟩ := h
      exact ih k hk pk
    · exact ⟨n, hn, fun d hd => Nat.le_of_not_lt fun q => h ⟨d, q, hd⟩⟩
noncomputable def lo (E : Edges) (c : Nat) : Nat := Classical.choose (least_of (Conn E c) c (.refl c))
theorem lo_conn (E : Edges) (c : Nat) : Conn E c (lo E c) := (Classical.choose_spec (least_of (Conn E c) c (.refl c))).1
theorem lo_le {E : Edges} {c d : Nat} (h : Conn E c d) : lo E c ≤ d := (Classical.choose_spec (least_of (Conn E c) c (.refl c))).2 d h
theorem lo_self (E : Edges) (c : Nat) : lo E c ≤ c := lo_le (.refl c)
theorem lo_eq {E : Edges} {c d : Nat} : lo E c = lo E d ↔ Conn E c d := by
  constructor
  · intro e
    have h1 := lo_conn E c
    have h2 := lo_conn E d
    rw [← e] at h2
    exact h1.trans h2.symm
  · intro h
    exact Nat.le_antisymm (lo_le (h.trans (lo_conn E d))) (lo_le (h.symm.trans (lo_conn E c)))
theorem lo_of {E : Edges} {c m : Nat} (h : Conn E c m) (k : ∀ d, Conn E c d → m ≤ d) : lo E c = m := Nat.le_antisymm (lo_le h) (k _ (lo_conn E c))
/-! ### words -/
abbrev codes (z : Str) : List Nat := z.cps.toList
def ofC (l : List Nat) : Str := ⟨l.toArray⟩
theorem codes_ofC (l : List Nat) : codes (ofC l) = l := rfl
noncomputable def mean (chs : List Chg) (z : Str) : Str := ofC ((codes z).mapIdx fun i c => lo (es chs i (codes z).length) c)
theorem mean_len (chs : List Chg) (z : Str) : (codes (mean chs z)).length = (codes z).length := by
  unfold mean
  rw [codes_ofC, List.length_mapIdx]
theorem mean_at (chs : List Chg) (z : Str) {i c : Nat} (h : (codes z)[i]? = some c) : (codes (mean chs z))[i]? = some (lo (es chs i (codes z).length) c) := by
  unfold mean
  rw [codes_ofC, List.getElem?_mapIdx, h]
  rfl
/-- they are one: as long, and at each place the letters hang together -/
def OneP (chs : List Chg) (z y : Str) : Prop := (codes z).length = (codes y).length ∧ ∀ i a b, (codes z)[i]? = some a → (codes y)[i]? = some b → Conn (es chs i (codes z).length) b a
theorem one_iff {chs : List Chg} {z y : Str} : OneP chs z y ↔ (codes z).length = (codes y).length ∧ mean chs z = mean chs y := by
  constructor
  · rintro ⟨hl, h⟩
    refine ⟨hl, str_ext ?_⟩
    refine List.ext_getElem? fun i => ?_
    by_cases hi : i < (codes z).length
    · have h1 : (codes z)[i]? = some (codes z)[i] := List.getElem?_eq_getElem hi
      have h2 : (codes y)[i]? = some ((codes y)[i]'(by omega)) := List.getElem?_eq_getElem (by omega)
      have e1 := mean_at chs z h1
      have e2 := mean_at chs y h2
      rw [e1, e2, hl]
      rw [hl] at h
      exact congrArg some (lo_eq.mpr (h i _ _ h1 h2).symm)
    · have q1 : (codes (mean chs z))[i]? = none := List.getElem?_eq_none (by rw [mean_len]; omega)
      have q2 : (codes (mean chs y))[i]? = none := List.getElem?_eq_none (by rw [mean_len]; omega)
      exact q1.trans q2.symm
  · rintro ⟨hl, e⟩
    refine ⟨hl, fun i a b ha hb => ?_⟩
    have e1 := mean_at chs z ha
    have e2 := mean_at chs y hb
    rw [e, e2, ← hl] at e1
    exact lo_eq.mp (Option.some.inj e1)
theorem mean_mean {chs : List Chg} (z : Str) : mean chs (mean chs z) = mean chs z := by
  refine str_ext (List.ext_getElem? fun i => ?_)
  have l1 := mean_len chs z
  have l2 := mean_len chs (mean chs z)
  by_cases hi : i < (codes z).length
  · have h1 : (codes z)[i]? = some (codes z)[i] := List.getElem?_eq_getElem hi
    have e1 := mean_at chs z h1
    have e2 := mean_at chs (mean chs z) e1
    rw [e2, e1, l1]
    exact congrArg some (lo_eq.mpr (lo_conn _ _).symm)
  · have q1 : (codes (mean chs (mean chs z)))[i]? = none := List.getElem?_eq_none (by rw [mean_len, mean_len]; omega)
    have q2 : (codes (mean chs z))[i]? = none := List.getElem?_eq_none (by rw [mean_len]; omega)
    exact q1.trans q2.symm
theorem one_mean (chs : List Chg) (z : Str) : OneP chs (mean chs z) z := one_iff.mpr ⟨mean_len chs z, mean_mean z⟩
theorem one_symm {chs : List Chg} {z y : Str} : OneP chs z y ↔ OneP chs y z := by
  rw [one_iff, one_iff]
  constructor <;> rintro ⟨a, b⟩ <;> exact ⟨a.symm, b.symm⟩
theorem lt_no : ∀ {l m : List Nat}, l.length = m.length → (∀ (i a b : Nat), l[i]? = some a → m[i]? = some b → a ≤ b) → ¬ m < l
  | [], [], _, _ => List.lt_irrefl _
  | a :: l, b :: m, hl, h => by
    have h0 : a ≤ b := h 0 a b rfl rfl
    have ih := lt_no (l := l) (m := m) (by simpa using hl) fun i x y hx hy => h (i + 1) x y (by simpa using hx) (by simpa using hy)
    intro q
    rcases List.cons_lt_cons_iff.mp q with q | ⟨e, q⟩
    · omega
    · exact ih q
  | [], b :: m, hl, _ => by simp at hl
  | a :: l, [], hl, _ => by simp at hl
theorem mean_le (chs : List Chg) (z : Str) : ¬ ltS z (mean chs z) := by
  refine lt_no (mean_len chs z) fun i a b ha hb => ?_
  rw [mean_at chs z hb] at ha
  cases ha
  exact lo_self _ _
theorem es_nil (i n : Nat) : es [] i n = [] := rfl
theorem conn_nil {a b : Nat} (h : Conn [] a b) : a = b := by
  induction h with
  | refl => rfl
  | step _ m _ => cases m
theorem one_plain {z y : Str} : OneP [] z y ↔ z = y := by
  constructor
  · rintro ⟨hl, h⟩
    refine str_ext (List.ext_getElem? fun i => ?_)
    by_cases hi : i < (codes z).length
    · have h1 : (codes z)[i]? = some (codes z)[i] := List.getElem?_eq_getElem hi
      have h2 : (codes y)[i]? = some ((codes y)[i]'(by omega)) := List.getElem?_eq_getElem (by omega)
      exact h1.trans ((congrArg some (conn_nil (h i _ _ h1 h2)).symm).trans h2.symm)
    · have q1 : (codes z)[i]? = none := List.getElem?_eq_none (by omega)
      have q2 : (codes y)[i]? = none := List.getElem?_eq_none (by omega)
      exact q1.trans q2.symm
  · rintro rfl
    refine ⟨rfl, fun i a b h1 h2 => ?_⟩
    rw [h1] at h2
    cases h2
    exact .refl _
theorem mean_plain (z : Str) : mean [] z = z := by
  refine str_ext (List.ext_getElem? fun i => ?_)
  have l1 := mean_len [] z
  by_cases hi : i < (codes z).length
  · have h1 : (codes z)[i]? = some (codes z)[i] := List.getElem?_eq_getElem hi
    exact (mean_at [] z h1).trans ((congrArg some (conn_nil (lo_conn _ _)).symm).trans h1.symm)
  · have q1 : (codes (mean [] z))[i]? = none := List.getElem?_eq_none (by rw [mean_len]; omega)
    have q2 : (codes z)[i]? = none := List.getElem?_eq_none (by omega)
    exact q1.trans q2.symm
theorem wd_codes {z : Str} : IsWd z ↔ (1 ≤ (codes z).length ∧ (codes z).length ≤ 8) ∧ ∀ c ∈ codes z, isLet c := by
  unfold IsWd wdB isLet Str.length codes
  rw [Array.length_toList]
  simp only [Bool.and_eq_true, decide_eq_true_eq, List.all_eq_true]
theorem mean_wd {chs : List Chg} (h : ∀ ch ∈ chs, OkC ch) {z : Str} (hz : IsWd z) : IsWd (mean chs z) := by
  obtain ⟨h1, h2⟩ := wd_codes.mp hz
  refine wd_codes.mpr ⟨by rw [mean_len]; exact h1, fun c hc => ?_⟩
  obtain ⟨i, hi, rfl⟩ := List.mem_iff_getElem.mp hc
  have hi2 : i < (codes z).length := by rw [mean_len] at hi; exact hi
  have e := mean_at chs z (List.getElem?_eq_getElem hi2)
  rw [List.getElem?_eq_getElem hi] at e
  rw [Option.some.inj e]
  exact conn_let (es_ok h _ _) (lo_conn _ _) (h2 _ (List.getElem_mem hi2))
/-! ### the walk over letters, by breadth -/
structure Bfs (E : Edges) (goal : Nat) (tw : List (Nat × Option Nat)) (at' : Nat) : Prop where
  nd : (tw.map (·.1)).Nodup
  lets : ∀ x ∈ tw.map (·.1), isLet x
  conn : ∀ x ∈ tw.map (·.1), Conn E goal x
  head : tw[0]? = some (goal, none)
  par : ∀ (i c d : Nat), tw[i]? = some (c, some d) → ∃ j o, j < i ∧ tw[j]? = some (d, o)
  non : ∀ (i c : Nat), tw[i]? = some (c, none) → i = 0
  closed : ∀ (j x : Nat) (o : Option Nat), j < at' → tw[j]? = some (x, o) → ∀ y ∈ nbrs E x, y ∈ tw.map (·.1)
theorem Bfs.start {E : Edges} {goal : Nat} (h : isLet goal) : Bfs E goal [(goal, none)] 0 := by
  refine ⟨by simp, ?_, ?_, rfl, ?_, ?_, fun j x o hj => by omega⟩
  · intro x hx
    simp at hx
    subst hx
    exact h
  · intro x hx
    simp at hx
    subst hx
    exact .refl _
  · intro i c d hi
    match i, hi with
    | 0, e => cases e
    | n + 1, e => simp at e
  · intro i c hi
    match i, hi with
    | 0, _ => rfl
    | n + 1, e => simp at e
theorem Bfs.len {E : Edges} {goal : Nat} {tw : List (Nat × Option Nat)} {a : Nat} (b : Bfs E goal tw a) : tw.length ≤ 26 := by
  have h := b.nd.length_le_of_subset (l₂ := List.range' 97 26) fun x hx => by
    have := b.lets x hx
    rw [List.mem_range'_1]
    unfold isLet at this
    omega
  simpa using h
theorem Bfs.push {E : Edges} {goal x y : Nat} {tw : List (Nat × Option Nat)} {a : Nat} {o : Option Nat} (b : Bfs E goal tw a) (hx : tw[a]? = some (x, o)) (hy : y ∈ nbrs E x) (hl : isLet y) (hn : y ∉ tw.map (·.1)) : Bfs E goal (tw ++ [(y, some x)]) a := by
  have ha : a < tw.length := (List.getElem?_eq_some_iff.mp hx).1
  have old : ∀ {i : Nat} {p : Nat × Option Nat}, tw[i]? = some p → (tw ++ [(y, some x)])[i]? = some p := fun {i p} h => by
    rw [List.getElem?_append_left (List.getElem?_eq_some_iff.mp h).1]
    exact h
  have back : ∀ {i : Nat} {p : Nat × Option Nat}, (tw ++ [(y, some x)])[i]? = some p → tw[i]? = some p ∨ (i = tw.length ∧ p = (y, some x)) := fun {i p} h => by
    by_cases q : i < tw.length
    · rw [List.getElem?_append_left q] at h
      exact .inl h
    · rw [List.getElem?_append_right (by omega)] at h
      have : i - tw.length = 0 := by
        have := (List.getElem?_eq_some_iff.mp h).1
        simp at this
        omega
      rw [this] at h
      simp at h
      exact .inr ⟨by omega, h.symm⟩
  refine ⟨?_, ?_, ?_, old b.head, ?_, ?_, ?_⟩
  · rw [List.map_append, List.nodup_append]
    refine ⟨b.nd, by simp, fun u hu v hv e => ?_⟩
    simp at hv
    subst hv e
    exact hn hu
  · intro u hu
    rw [List.map_append] at hu
    rcases List.mem_append.mp hu with hu | hu
    · exact b.lets u hu
    · simp at hu
      subst hu
      exact hl
  · intro u hu
    rw [List.map_append] at hu
    rcases List.mem_append.mp hu with hu | hu
    · exact b.conn u hu
    · simp at hu
      subst hu
      exact .step (b.conn x (List.mem_map.mpr ⟨_, List.mem_of_getElem? hx, rfl⟩)) hy
  · intro i c d hi
    rcases back hi with h | ⟨e, h⟩
    · obtain ⟨j, o', hj, h'⟩ := b.par i c d h
      exact ⟨j, o', hj, old h'⟩
    · cases h
      exact ⟨a, o, by omega, old hx⟩
  · intro i c hi
    rcases back hi with h | ⟨e, h⟩
    · exact b.non i c h
    · cases h
  · intro j u o' hj h v hv
    rcases back h with h | ⟨e, h⟩
    · rw [List.map_append]
      exact List.mem_append_left _ (b.closed j u o' hj h v hv)
    · omega
theorem Bfs.next {E : Edges} {goal x : Nat} {tw : List (Nat × Option Nat)} {a : Nat} {o : Option Nat} (b : Bfs E goal tw a) (hx : tw[a]? = some (x, o)) (h : ∀ y ∈ nbrs E x, y ∈ tw.map (·.1)) : Bfs E goal tw (a + 1) := by
  refine ⟨b.nd, b.lets, b.conn, b.head, b.par, b.non, fun j u o' hj hu => ?_⟩
  by_cases q : j < a
  · exact b.closed j u o' q hu
  · have : j = a := by omega
    subst this
    rw [hx] at hu
    cases hu
    exact h
theorem Bfs.done {E : Edges} {goal : Nat} {tw : List (Nat × Option Nat)} {a : Nat} (b : Bfs E goal tw a) (ha : tw.length ≤ a) {c : Nat} : c ∈ tw.map (·.1) ↔ Conn E goal c := by
  refine ⟨b.conn c, fun h => ?_⟩
  induction h with
  | refl => exact List.mem_map.mpr ⟨_, List.mem_of_getElem? b.head, rfl⟩
  | step _ m ih =>
    obtain ⟨⟨u, o⟩, hu, rfl⟩ := List.mem_map.mp ih
    obtain ⟨j, hj, e⟩ := List.mem_iff_getElem.mp hu
    exact b.closed j u o (by omega) (by rw [List.getElem?_eq_getElem hj, e]) _ m
end Wl

namespace Wl
open PySem PySem.Spec PyProof.Rows L2
/-! enumerate(a text) -/
def IteS (z : Str) : It where
  go := fun i _ => i < z.cps.size
  yld := fun i H v H' => ∃ T c, v = .ref T ∧ H T = none ∧ z.cps[i]? = some c ∧ H' = upd H T (.tup [.int (i : Nat), .str (sign c)])
  stop := fun i _ => z.cps.size ≤ i
theorem turn_enumS {P : Program} {w : World} {K : PySem.W.Frag} {elts : List Expr} {kk : Nat} {tpos : Pos} (z : Str) (t : Tok) (e it : Addr) :
    Turn P w K (.Tuple elts kk tpos) (IteS z) [e, it] e (fun i h => (∃ old, IsEnum h e it ((i : Nat) : Int) old) ∧ h.IsStrIter it (strIterType z) z t i ∧ e ≠ it) where
  mem := by simp
  obj := fun i h st b hb => by
    obtain ⟨⟨old, he⟩, ⟨o, ho, hc, hd⟩, _⟩ := st
    rcases (show b = e ∨ b = it by simpa using hb) with q | q
    · subst q; exact ⟨_, he, fun v q => nomatch q⟩
    · subst q; exact ⟨o, ho, fun v q => by rw [hd] at q; cases q⟩
  keep := fun i h h' st k => let ⟨⟨old, he⟩, ⟨o, ho, r⟩, hne⟩ := st; ⟨⟨old, k e (by simp) _ he⟩, ⟨o, k it (by simp) o ho, r⟩, hne⟩
  item := by
    intro X hP hw hK hc i pins s σ H E I hf st hg
    subst hP hw hK
    obtain ⟨⟨old, he⟩, hit, hne⟩ := st
    have hi : i < z.cps.size := hg
    obtain ⟨oi, hoi, _⟩ := id hit
    have hel : e < s.heap.objs.size := Heap.lt_size he
    have hil : it < s.heap.objs.size := Heap.lt_size hoi
    refine wpAny_pyNext_enum_itemD (Draws.text (prog := X.prog) (w := X.w) (A := X.A.in1) (I.ok.hd hc) it z t) he hit hi hne (by simp [hne]) fun y h' tk hy ho hst hTp hsz hk => ?_
    obtain ⟨c, tu, hcz, rfl⟩ := hy
    refine ⟨_, rfl, wpAny_letOwnedTupleGo_enum (s := { s with heap := h', toks := tk + 1 }) ho fun h'' he' sb => ?_⟩
    have hT2 : h''.get? s.heap.objs.size = some { cls := .type "tuple", data := .seq #[.int i tk, .str ⟨#[c]⟩ tu] } := (sb.2 _ (Nat.ne_of_gt hel)).trans hTp
    have new : ObjOk X.prog X.w (upd H s.heap.objs.size (.tup [.int (i : Nat), .str (sign c)])) h'' s.heap.objs.size (.tup [.int (i : Nat), .str (sign c)]) :=
      ⟨by show 2 ≤ sizeLine; decide, [.int i tk, .str ⟨#[c]⟩ tu], .cons ⟨_, rfl⟩ (.cons ⟨_, rfl⟩ .nil), ⟨_, hT2, rfl, _, rfl⟩⟩
    have I1 : L2.Inv X pins σ (upd H s.heap.objs.size (.tup [.int (i : Nat), .str (sign c)])) { s with heap := h'', toks := tk + 1 } :=
      I.turnedNew (ch := [e, it]) (fun b ob hb q => by
        simp only [List.mem_cons, List.not_mem_nil, or_false, not_or] at hb
        exact (sb.2 b hb.1).trans (hk b ob hb.1 hb.2 q)) hf (Nat.le_refl _) new
    have e1 : ((i + 1 : Nat) : Int) = (i : Int) + 1 := by omega
    obtain ⟨o2, ho2, r2⟩ := hst
    refine ⟨.ref s.heap.objs.size, _, I1, rfl, ⟨_, c, rfl, I.hok.fresh (Nat.le_refl _), hcz, rfl⟩, ⟨⟨.str ⟨#[c]⟩ tu, by rw [e1]; exact he'⟩, ⟨o2, (sb.2 it (Ne.symm hne)).trans ho2, r2⟩, hne⟩, fun b hb => ?_⟩
    have hb' : b < s.heap.objs.size := by
      rcases (show b = e ∨ b = it by simpa using hb) with q | q <;> subst q <;> assumption
    rw [upd_ne (Nat.ne_of_lt hb')]
    exact (hf b hb).1
  done := by
    intro X hP hw hK hc i pins s σ H E I hf st hg
    subst hP hw hK
    obtain ⟨⟨old, he⟩, hit, hne⟩ := st
    have hi : z.cps.size ≤ i := hg
    obtain ⟨f0, f1, f2, f3, f4, f5⟩ := hf it (by simp)
    have hTy : s.TypeIs (.ref e) "enumerate" := ⟨_, he, rfl⟩
    show wpAny _ _ (pyNext (.ref e)) _ _ s
    unfold pyNext
    refine wpAny_bind (wpAny_attempt (wpAny_callSpecial?_slot (name := Str.ofString "__next__") hTy F.slot_enumerate_next (wpAny_call_entry F.slot_enumerate_next hTy F.entry_enumerate_next ?_ (F.args_enumerate_next_1 _))))
    show wpAny _ _ (field (.ref e) 2 >>= _) _ _ _
    refine wpAny_bind (wpAny_field he rfl (x := .ref it) rfl (wpAny_bind ?_))
    have hx : z.cps[i]? = none := Array.getElem?_eq_none hi
    cases ha : z.cps.all (· < 128)
    · simp only [strIterType, ha, Bool.false_eq_true, if_false] at hit
      refine wpAny_nextOf_wide_end (I.ok.hd hc) hit hx fun h' x he' hx' => ?_
      obtain ⟨o, ho, hcc⟩ := hx'
      exact wpAny_bind (wpAny_isInstance (T := "StopIteration") (b := true) ⟨o, ho, hcc⟩ isSubtype_stop (wpAny_pure ⟨rfl, I.turned (t' := s.toks) (fun b o hb q => he' b o hb q) f0 f1 f3 f4 f5⟩))
    · simp only [strIterType, ha, if_true] at hit
      refine wpAny_nextOf_ascii_end (I.ok.hd hc) hit hx fun h' x he' hx' => ?_
      obtain ⟨o, ho, hcc⟩ := hx'
      exact wpAny_bind (wpAny_isInstance (T := "StopIteration") (b := true) ⟨o, ho, hcc⟩ isSubtype_stop (wpAny_pure ⟨rfl, I.turned (t' := s.toks) (fun b o hb q => he' b o hb q) f0 f1 f3 f4 f5⟩))
  self := fun A i s Q E st h => let ⟨⟨_, he⟩, _⟩ := st; wpAny_pyIter_enum he h
def iEnumS (ta : TA) : TI := fun σ H R => ta σ H fun vs H1 => ∃ z, vs = [.str z] ∧ R (IteS z) H1
theorem pi_enumS {X : Cx} {e : Expr} {ta : TA} {p pos tpos : Pos} {elts : List Expr} {kk : Nat} (hg : Gl X "enumerate") (hm : X.mg "enumerate" = none) (ha : PA X [e] ta) (hs : starEach [e] X.env = [(false, eval e X.env)] := by rfl) :
    PI X (.Tuple elts kk tpos) (.Call (.Name "enumerate" p) [e] [] pos) (iEnumS ta) := by
  refine ⟨fun pins s σ H R I h => ?_⟩
  refine Call_ (ld_blt I hg hm boot_enumerate (PyProof.Rows.callWith_type1 (thn (ha.run pos pins s σ H _ I h) fun us s1 ⟨vs, H1, I1, r1, q1⟩ => ?_) hs rfl))
  obtain ⟨z, rfl, q⟩ := q1
  obtain ⟨u, rfl, ru⟩ := vals1 r1
  obtain ⟨t, rfl⟩ := ru
  refine call_enumerate_str fun h' he hit hsz hk => wpAny_pyIter_enum he ?_
  refine ⟨s1.heap.objs.size + 1, [s1.heap.objs.size + 1, s1.heap.objs.size], _, _, H1, rfl, I1.kept (t' := s1.toks) hk, turn_enumS z t (s1.heap.objs.size + 1) s1.heap.objs.size, ⟨⟨.none, he⟩, hit, Nat.succ_ne_self _⟩, fun b hb => ?_, q⟩
  have hle : s1.heap.objs.size ≤ b := by
    rcases (show b = s1.heap.objs.size + 1 ∨ b = s1.heap.objs.size by simpa using hb) with q | q <;> rw [q]
    · exact Nat.le_add_right _ _
    · exact Nat.le_refl _
  exact I1.fpOk hle (I1.hok.fresh hle)
theorem walk_enumS {z : Str} : L2.Walk (IteS z) (codes z).length (fun _ => True) (fun i H v H' => ∃ T c, v = .ref T ∧ H T = none ∧ (codes z)[i]? = some c ∧ H' = upd H T (.tup [.int (i : Nat), .str (sign c)])) := by
  have e : (codes z).length = z.cps.size := by simp [codes]
  rw [e]
  refine ⟨fun _ _ hi _ => hi, fun _ _ => Nat.le_refl _, ?_⟩
  rintro i H v H' _ _ ⟨T, c, h1, h2, h3, h4⟩
  exact ⟨T, c, h1, h2, by simpa [codes] using h3, h4⟩
/-! f(k = v, ..) with no place -/
theorem pe_callN0 {X : Cx} {CX : CXT} {k : Nat} {f : Addr} {fd : FuncData} {ps ks : List Str} {sp : Sp} {E : XK} {x : Str} {p pos : Pos} {kws : List Keyword} {tk : TA} {g : List Value → List Value → List Value} {gV : List V → List V → List V}
    (F : FnOk X.prog X.w X.K X.mg X.base CX k f fd ps sp) (hr : Room k X.A) (hg : Gl X x) (hm : X.mg x = some (.ref f)) (hk : PySem.W.keepIn X.K (.ref f) = true) (hb : KBn X.K fd ps 0 ks g gV) (hx : Passes CX X E) (hkw : PK X kws tk)
    (hall : (backToKw pos (keywordEach kws X.env)).all (·.1.isSome) = true := by rfl) (hks : (backToKw pos (keywordEach kws X.env)).filterMap (·.1) = ks := by rfl) (hdb : (x == ("__debug__" : Str)) = false := by decide)
    (hpl : ((backTo pos (starEach [] X.env)).any (·.1) || (backToKw pos (keywordEach kws X.env)).any (·.1.isNone)) = false := by rfl) :
    PE X (.Call (.Name x p) [] kws pos) (L2.tCallN 0 ks.length sp gV E tNil tk) := by
  refine ⟨fun pins s σ H Q I h => ?_⟩
  refine wpAny_Call_Name_kw (ld_glob I hg hm ?_ hdb)
  refine PySem.W.callWith_KW0 (h₀ := X.base) I.ok.mod.kin hk hall ?_ hpl
  refine thn (hkw.run pos pins s σ H _ I h) fun ws s2 ⟨zs, H2, I2, rz, l1, l2, q2⟩ => ⟨I2.kIn, ?_⟩
  rw [hks]
  exact run_fnN (us := []) (vs := []) F hr hb hx I2 .nil rz rfl l2 q2
/-! min of a list of signs -/
def sgV (c : Nat) : V := .str (sign c)
def rMinL (K : PySem.W.Frag) : List V → Hp → VK → Prop := fun vs H Q => ∃ (a : Addr) (cs : List Nat), vs = [V.ref a] ∧ SqL K H a (cs.map sgV) ∧ cs ≠ [] ∧ cs.length ≤ 1000 ∧ ∀ m ∈ cs, (∀ c ∈ cs, m ≤ c) → Q (sgV m) H
theorem dp_signs {K : PySem.W.Frag} {H : Hp} : ∀ cs : List Nat, DpAll K H (cs.map sgV) (cs.map fun c => PyData.str (sign c))
  | [] => .nil
  | c :: r => .cons (.str _) (dp_signs r)
theorem sign_lt (a b : Nat) : ((sign a).cps.toList < (sign b).cps.toList) ↔ a < b := by
  show ([a] < [b]) ↔ _
  constructor
  · intro h
    rcases List.cons_lt_cons_iff.mp h with h | ⟨_, h⟩
    · exact h
    · exact absurd h (List.lt_irrefl _)
  · intro h
    exact List.cons_lt_cons_iff.mpr (.inl h)
theorem minD_signs : ∀ (c : Nat) (cs : List Nat), ∃ m, m ∈ c :: cs ∧ (∀ d ∈ c :: cs, m ≤ d) ∧ PySem.W.minD (.str (sign c)) (cs.map fun c => PyData.str (sign c)) = .str (sign m)
  | c, [] => ⟨c, List.mem_cons_self, fun d hd => by simp at hd; omega, rfl⟩
  | c, d :: r => by
    by_cases h : d < c
    · obtain ⟨m, h1, h2, h3⟩ := minD_signs d r
      refine ⟨m, List.mem_cons_of_mem _ h1, fun x hx => ?_, ?_⟩
      · rcases List.mem_cons.mp hx with rfl | hx
        · have := h2 d List.mem_cons_self
          omega
        · exact h2 x hx
      · rw [← h3]
        unfold PySem.W.minD
        rw [List.map_cons, List.foldl_cons, PySem.W.dataLt_str, decide_eq_true ((sign_lt d c).mpr h)]
        rfl
    · obtain ⟨m, h1, h2, h3⟩ := minD_signs c r
      refine ⟨m, ?_, fun x hx => ?_, ?_⟩
      · rcases List.mem_cons.mp h1 with rfl | h1
        · exact List.mem_cons_self
        · exact List.mem_cons_of_mem _ (List.mem_cons_of_mem _ h1)
      · rcases List.mem_cons.mp hx with rfl | hx
        · exact h2 x List.mem_cons_self
        · rcases List.mem_cons.mp hx with rfl | hx
          · have := h2 c List.mem_cons_self
            omega
          · exact h2 x (List.mem_cons_of_mem _ hx)
      · rw [← h3]
        unfold PySem.W.minD
        rw [List.map_cons, List.foldl_cons, PySem.W.dataLt_str, decide_eq_false (fun q => h ((sign_lt d c).mp q))]
        rfl
theorem cr_minL {X : Cx} (hc : X.calm = true) (hu : X.A.units + 64 < cLine) : CallR X (.builtin "min") (rMinL X.K) := by
  intro pins s σ H vs us Q I r h
  obtain ⟨a, cs, rfl, hs, hne, hlen, q⟩ := h
  obtain ⟨its, rv, hl, hn⟩ := I.list hs
  obtain ⟨u, rfl, ru⟩ := vals1 r
  obtain rfl : u = Value.ref a := ru
  obtain ⟨as, hr⟩ := Dp.readsAll I _ _ its (dp_signs cs) rv
  cases cs with
  | nil => exact absurd rfl hne
  | cons c cs =>
    have al : PySem.W.AlikeAll (((c :: cs)).map fun c => PyData.str (sign c)) := by
      refine ⟨fun x hx y hy => ?_, fun x hx => ?_⟩
      · obtain ⟨i, _, rfl⟩ := List.mem_map.mp hx
        obtain ⟨j, _, rfl⟩ := List.mem_map.mp hy
        rfl
      · obtain ⟨i, _, rfl⟩ := List.mem_map.mp hx
        exact fun q => by cases q
    have dp : ∀ l : List Nat, PyData.depthAll (l.map fun c => PyData.str (sign c)) = 0 := fun l => by
      induction l with
      | nil => rfl
      | cons x r ih => simp [PyData.depthAll, PyData.depth, ih]
    refine PySem.W.min_list_data (x := .str (sign c)) (xs := cs.map fun c => PyData.str (sign c)) (I.ok.hd hc) hl.isList (by simpa using hr) al (by
      have := dp (c :: cs)
      rw [List.map_cons] at this
      omega) fun i v h' tk bs hv hR hk => ?_
    obtain ⟨m, h1, h2, h3⟩ := minD_signs c cs
    rw [h3] at hR
    cases hR with
    | str z t => exact ⟨.str _, H, I.kept (t' := tk) hk, ⟨_, rfl⟩, q m h1 h2⟩
/-! 'a' * 8 -/
def rMulA : R2 := fun x y H Q => x = .str "a" ∧ y = .int 8 ∧ Q (.str "aaaaaaaa") H
theorem op_mulA {X : Cx} : OpR X (binaryOp .Mult) rMulA := by
  intro pins s σ H x y v u Q I rx ry h
  obtain ⟨rfl, rfl, q⟩ := h
  obtain ⟨t, rfl⟩ := rx
  obtain ⟨t', rfl⟩ := ry
  refine P.mul_str (by decide) (fun _ _ => by decide +kernel) (fun _ _ => by decide +kernel) ?_
  have e1 : ((8 : Int) == 1 || ("a" : Str).length == 0) = false := by decide +kernel
  rw [if_neg (by decide), e1]
  have e2 : (⟨(List.replicate (8 : Int).toNat ("a" : Str).cps).foldl (· ++ ·) #[]⟩ : Str) = "aaaaaaaa" := by decide +kernel
  show Made.post (Made.str (⟨(List.replicate (8 : Int).toNat ("a" : Str).cps).foldl (· ++ ·) #[]⟩ : Str)) _ _
  rw [e2]
  exact ⟨by decide +kernel, .str _, H, I.tok _, ⟨_, rfl⟩, q⟩
end Wl

/-! sorted of a list of texts, as a reading; the least of sorted letters stands first. -/
namespace Wl
open PySem PySem.Spec PyProof.Rows L2
def dz (z : Str) : V × PyData := (.str z, .str z)
theorem srt_strs (xs : List Str) : ((xs.map dz).mergeSort (PySem.W.dataLe false (·.2))).map (·.1) = (sortS xs).map V.str := by
  have h : (sortS xs).map dz = (xs.map dz).mergeSort (PySem.W.dataLe false (·.2)) := List.map_mergeSort fun a _ b _ => by
    rw [PySem.W.dataLe_eq]
    exact (le_data_str a b).symm
  rw [← h, List.map_map]
  rfl
theorem srt_reads {K : PySem.W.Frag} {H : Hp} {Q : VK} {a : Addr} {xs : List Str} (h : SqL K H a (xs.map V.str)) (q : ∀ p, H p = none → Q (.ref p) (upd H p (.lst ((sortS xs).map V.str)))) : rSortD K [.ref a] H Q := by
  refine ⟨a, xs.map dz, rfl, ?_, ?_, ?_, ?_, ?_, fun p hp => ?_⟩
  · rw [List.map_map]
    exact h
  · intro b hb
    obtain ⟨x, _, rfl⟩ := List.mem_map.mp hb
    exact .str x
  · intro d hd e he
    obtain ⟨b, hb, rfl⟩ := List.mem_map.mp hd
    obtain ⟨x, _, rfl⟩ := List.mem_map.mp hb
    obtain ⟨c, hc, rfl⟩ := List.mem_map.mp he
    obtain ⟨y, _, rfl⟩ := List.mem_map.mp hc
    rfl
  · refine .inr fun d hd => ?_
    obtain ⟨b, hb, rfl⟩ := List.mem_map.mp hd
    obtain ⟨x, _, rfl⟩ := List.mem_map.mp hb
    exact ⟨(fun e => by cases e), (fun ys e => by cases e)⟩
  · intro b hb
    obtain ⟨x, _, rfl⟩ := List.mem_map.mp hb
    show PyData.depth (.str x) ≤ 8
    simp [PyData.depth]
  · rw [srt_strs]
    exact q p hp
theorem ltS_sign {c d : Nat} : ltS (sign c) (sign d) ↔ c < d := by
  show [c] < [d] ↔ c < d
  constructor
  · intro h
    cases h with
    | rel h => exact h
    | cons h => cases h
  · exact fun h => .rel h
theorem sg_inj1 {c d : Nat} (h : sign c = sign d) : c = d := by
  have e := congrArg (fun z : Str => z.cps.toList) h
  simpa [sign] using e
theorem head_sortS {cs : List Nat} {m : Nat} (hm : m ∈ cs) (hmin : ∀ d ∈ cs, m ≤ d) : (sortS (cs.map sign))[0]? = some (sign m) := by
  have h1 : (sortS (cs.map sign)).Pairwise (fun a b => leB a b = true) := List.pairwise_mergeSort leB_trans leB_total _
  have h2 : sign m ∈ sortS (cs.map sign) := mem_sortS.mpr (List.mem_map.mpr ⟨m, hm, rfl⟩)
  have h3 : ∀ x ∈ sortS (cs.map sign), ∃ c ∈ cs, sign c = x := fun x hx => List.mem_map.mp (mem_sortS.mp hx)
  cases e : sortS (cs.map sign) with
  | nil =>
    rw [e] at h2
    cases h2
  | cons x r =>
    rw [e] at h1 h2 h3
    obtain ⟨c, hc, rfl⟩ := h3 x List.mem_cons_self
    have e2 : c = m := by
      rcases List.mem_cons.mp h2 with h | h
      · exact (sg_inj1 h).symm
      · have q := (List.pairwise_cons.mp h1).1 _ h
        unfold leB at q
        rw [Bool.not_eq_true', decide_eq_false_iff_not, ltS_sign] at q
        have := hmin c hc
        omega
    rw [e2]
    rfl
end Wl

namespace Wl
open PySem PySem.Spec PyProof.Rows L2
end Wl
namespace Wl
open PySem PySem.Spec PyProof.Rows L2
end Wl
namespace Wl
open PySem PySem.Spec PyProof.Rows L2
end Wl
namespace Wl
open PySem PySem.Spec PyProof.Rows L2
abbrev wIsWord : Stmt := topS 27
/-! y = {k: v for x in ..} -/
/-- whether a thing of any kind is a word -/
def Wv (K : PySem.W.Frag) (H : Hp) (v : V) (b : Bool) : Prop := (∃ z, v = .str z ∧ z.length ≤ 1000 ∧ b = wdB z) ∨ (∃ t, TyX K H v t ∧ PySem.W.kitOne K t (.type "str") = some false ∧ b = false)
section
variable {P : Program} {w : World} {K : PySem.W.Frag} {mg : Str → Option Value} {base : Heap} {f : Addr} {fd : FuncData}
def spIsW (K : PySem.W.Frag) : Sp := fun vs H Q _ => ∃ (v : V) (b : Bool), vs = [v] ∧ Wv K H v b ∧ ∀ (H' : Hp), Same H H' → Q (.bl b) H'
theorem scIsW : FnScope nIsWord ["thing"] (defScope wIsWord) := ⟨rfl, rfl, rfl, by decide +kernel, rfl, by decide +kernel, by decide +kernel⟩
theorem ok_isw (F : Fun K "is_word" "is_word" wIsWord f fd) (B : Bi mg) (G : Gk mg) : FnOk P w K mg base CX0 1 f fd ["thing"] (spIsW K) := by
  obtain ⟨t1, g1⟩ := G.letters
  obtain ⟨t2, g2⟩ := G.longest
  refine F.ok scIsW (fun vs H Q E h => ?_) (fun cdv A outer s H vs Q E hr h => ?_)
  · obtain ⟨v, b, rfl, _⟩ := h
    rfl
  · obtain ⟨v, b, rfl, hw, q⟩ := h
    refine ⟨_, pss_cons (ps_if (PW.pt (pw_or (pt_not (pt_val (pe_callB call_isi (by rfl) B.isi (by decide +kernel) (pa_cons (pv 0) (pa_cons (pe_bltn (v := .ty "str") (by rfl) B.str (by decide +kernel) rfl) pa_nil)))))
        (pw_or1 (pt_not (pt_chain op_le op_le pe_int (pe_callB call_len_str (by rfl) B.len PySem.boot_len (pa_cons (pv 0) pa_nil)) (pe_glob (v := .int 8) rfl g2 ⟨_, rfl⟩)))))) (pss_one (ps_ret pe_bl)) pss_nil)
      (pss_one (ps_ret (pe_callB (cr_all rfl) (by rfl) B.all (by decide +kernel) (pa_cons (pe_lc (own := [("letter", 1)]) (g := gName 1) (tt := tYes) rfl scIsW.nd (pi_str (pv 0)) (blkOk_by (N := nIsWord) (sc := defScope wIsWord) (by decide +kernel))
        (fun _ _ _ _ _ => pg_name (i := 1) scIsW.nd rfl (.inl rfl)) (fun _ _ _ _ _ => pts_nil) (fun _ _ _ _ _ => pe_cmpR op_in_sign (pv 1) (pe_glob (v := .str "abcdefghijklmnopqrstuvwxyz") rfl g1 ⟨_, rfl⟩) rfl)) pa_nil)))), ?_⟩
    rcases hw with ⟨z, rfl, hz, rfl⟩ | ⟨t, ty, hk, rfl⟩
    · refine ⟨_, rfl, _, _, _, _, _, rfl, .ty "str", .base (.str z), kit_ty (r := true) (by decide +kernel), true, rfl, ?_⟩
      refine iteF ⟨_, rfl, _, rfl, lzl hz, _, _, rfl, rfl, _, rfl, ite_b (fun e1 => ?_) (fun e1 => ?_)⟩
      · refine ⟨_, _, rfl, rfl, _, rfl, not_b (fun e2 => ?_) (fun e2 => ?_)⟩
        · have e2' : ¬ ((z.length : Int) ≤ 8) := of_decide_eq_false e2
          have : wdB z = false := by
            unfold wdB
            rw [decide_eq_false (show ¬ z.length ≤ 8 by omega)]
            simp
          rw [← this]
          exact q H (Same.refl H)
        · have h1 : 1 ≤ z.length := by
            have := of_decide_eq_true e1
            omega
          have h8 : z.length ≤ 8 := by
            have := of_decide_eq_true e2
            omega
          refine ⟨_, rfl, _, rfl, fun D hD => lc_map walk_signs hD (fun _ => true) letV (fun _ _ => trivial) (fun _ => rfl) (fun x H' _ _ Q' q' => q') ?_ ?_ ?_⟩
          · intro x H' hx _ _ Q' q'
            obtain ⟨c, hc, rfl⟩ := List.mem_map.mp hx
            refine ⟨_, rfl, c, _, rfl, rfl, ?_⟩
            rw [letB_mem]
            have : letV (.str (sign c)) = .bl (letB c) := by
              show V.bl ([c].all letB) = _
              simp
            rw [this] at q'
            exact q'
          · unfold signsOf
            rw [List.length_map, Array.length_toList]
            exact small1000 (by have : z.length = z.cps.size := rfl; omega)
          · intro H' s' hD'
            have e0 : ((signsOf z).filter fun _ => true).map letV = (z.cps.toList.map letB).map V.bl := by
              rw [List.filter_eq_self.mpr fun _ _ => rfl]
              unfold signsOf
              rw [List.map_map, List.map_map]
              refine List.map_congr_left fun c _ => ?_
              show V.bl ([c].all letB) = _
              simp
            refine ⟨D, z.cps.toList.map letB, rfl, .inl (.inl (by rw [hD', e0])), ?_⟩
            have : (z.cps.toList.map letB).all id = wdB z := by
              unfold wdB
              rw [decide_eq_true h1, decide_eq_true h8, List.all_map]
              rfl
            rw [this]
            exact q H' s'
      · refine ⟨false, rfl, iteT ?_⟩
        have : wdB z = false := by
          have e1' : ¬ ((1 : Int) ≤ z.length) := of_decide_eq_false e1
          unfold wdB
          rw [decide_eq_false (show ¬ 1 ≤ z.length by omega)]
          simp
        rw [← this]
        exact q H (Same.refl H)
    · exact ⟨_, rfl, _, _, _, _, _, rfl, .ty "str", ty, hk, false, rfl, iteT (q H (Same.refl H))⟩
/-! ### check_word, is_letter -/
/-! ### changes -/
/-! ### is_tuple_up_to -/
/-! ### reaches -/
end
end Wl






/-! An exception that was caught, as a tracked object: isinstance of it, its fields. -/
namespace Wl
open PySem PySem.Spec PyProof.Rows L2
/-- at a: a caught exception, its class, its own dict; its context is None -/
def exH (a : Addr) (cls : Value) (d : Option Addr) : HO := .ext fun h => ∃ (vs : Array Value) (sl : Array (Option Value)), h.get? a = some ⟨cls, d, .fields vs, sl⟩ ∧ vs[2]? = some .none
section
variable {P : Program} {w : World} {H : Hp} {h : Heap} {a : Addr} {cls : Value} {d : Option Addr}
theorem exH_ok {oe : Obj} {vs : Array Value} (he : h.get? a = some oe) (hz : L2N.Zn cls d oe) (hd : oe.data = .fields vs) : ObjOk P w H h a (exH a cls d) := by
  obtain ⟨c0, d0, dt, sl⟩ := oe
  obtain ⟨e1, e2, e3⟩ := hz
  obtain rfl : c0 = cls := e1
  obtain rfl : d0 = d := e2
  obtain rfl : dt = .fields vs := hd
  refine ⟨⟨vs, sl, he, e3 vs rfl⟩, ⟨_, he⟩, fun h1 h2 z k => ?_⟩
  obtain ⟨vs', sl', q, c⟩ := z
  exact ⟨vs', sl', k _ q, c⟩
theorem exH_at (hok : HOk P w H h) (e : H a = some (exH a cls d)) : ∃ (vs : Array Value) (sl : Array (Option Value)), h.get? a = some ⟨cls, d, .fields vs, sl⟩ ∧ vs[2]? = some .none := by
  have x : ObjOk P w H h a (exH a cls d) := hok a _ e
  exact x.1
theorem exH_hot {A : Around} (hok : HOk P w H h) (e : H a = some (exH a cls d)) (hh : A.handled = some (.ref a)) : HotX.HotAt A a h := by
  obtain ⟨vs, sl, q, c⟩ := exH_at hok e
  exact ⟨hh, _, vs, q, rfl, c⟩
theorem exH_tup {xs : List V} : exH a cls d ≠ .tup xs := fun z => by
  have z' : HO.ext _ = HO.tup xs := z
  cases z'
theorem exH_ne {o : HO} (hn : ∀ φ, o ≠ .ext φ) : exH a cls d ≠ o := fun z => hn _ z.symm
end
/-- what isinstance asks of an exception's class, and of its own dict -/
structure ExK (K : PySem.W.Frag) (C : Addr) : Prop where
  cl : (PySem.W.clsIn K C).isSome = true
  ga : PySem.W.findIn K (.ref C) "__getattribute__" = some (some (.builtin "BaseException.__getattribute__"))
  gg : PySem.W.findIn K (.ref C) "__getattr__" = some none
  sub : PySem.W.subIn K (.ref C) (.type "BaseException") = some true
  ca : PySem.W.findIn K (.ref C) "__class__" = some (some (.builtin "object.__class__"))
  gn : PySem.W.specialIn K (.builtin "object.__class__") "__get__" = some (some (.builtin "getset_descriptor.__get__"))
  tk : PySem.W.takesIn K (.builtin "object.__class__") = some true
  mo : PySem.W.mroIn K C (.type "object") = some true
/-- its own dict, if it has one, is tracked -/
def DxOk (H : Hp) (d : Option Addr) : Prop := ∀ dd, d = some dd → ∃ fs, H dd = some (.xd fs)
section
variable {X : Cx}
theorem inst_of {pins : List (Addr × Obj)} {σ : L2.St} {H : Hp} {s : Shared} {a C : Addr} {d : Option Addr} (I : Inv X pins σ H s) (e : H a = some (exH a (.ref C) d)) (hd : DxOk H d) : ∃ ox od, PySem.W.InstAt s.heap a ox C od := by
  obtain ⟨vs, sl, q, _⟩ := exH_at I.hok e
  cases d with
  | none => exact ⟨_, none, q, rfl, rfl, trivial⟩
  | some dd =>
    obtain ⟨fs, hf⟩ := hd dd rfl
    have hx : ObjOk X.prog X.w H s.heap dd (.xd fs) := I.hok dd _ hf
    obtain ⟨mA, hns, _⟩ := hx
    obtain ⟨od, ho, _⟩ := lookIn_ns hns
    exact ⟨_, some od, q, rfl, rfl, ho⟩
theorem kit_exc {C a : Addr} {ox : Obj} {od : Option Obj} {K : PySem.W.Frag} (E : ExK K C) : PySem.W.KitX K (.ref a) (.ref C) (fun h => PySem.W.InstAt h a ox C od) :=
  PySem.W.kitx_exc E.cl E.ga E.gg E.sub E.ca E.gn E.tk E.mo
/-- isinstance(e, c) -/
def rIsX (K : PySem.W.Frag) : List V → Hp → VK → Prop := fun xs H Q => ∃ (a C : Addr) (d : Option Addr) (c : V) (cv : Value) (b : Bool), xs = [.ref a, c] ∧ H a = some (exH a (.ref C) d) ∧ DxOk H d ∧ ExK K C ∧ ClsV c cv ∧ PySem.W.kitOne K (.ref C) cv = some b ∧ Q (.bl b) H
theorem call_isX : CallR X (.builtin "isinstance") (rIsX X.K) := by
  intro pins s σ H xs us Q I r h
  obtain ⟨a, C, d, c, cv, b, rfl, ea, hd, E, hc, hk, q⟩ := h
  cases r with
  | cons rx rr =>
    cases rr with
    | cons rt rr =>
      cases rr
      cases rx
      obtain rfl := hc.eq rt
      obtain ⟨ox, od, J⟩ := inst_of I ea hd
      exact PySem.W.kia_one (kit_exc E) I.kIn J hk (fun z => nomatch z) fun tk => ⟨.bl b, H, I.kept (t' := tk) fun _ _ z => z, rfl, q⟩
/-- isinstance(e, (c, ..)) -/
def rIsXT (K : PySem.W.Frag) : List V → Hp → VK → Prop := fun xs H Q => ∃ (a C : Addr) (d : Option Addr) (tp : Addr) (cs : List V) (us : List Value) (b : Bool), xs = [.ref a, .ref tp] ∧ H a = some (exH a (.ref C) d) ∧ DxOk H d ∧ ExK K C ∧
  H tp = some (.tup cs) ∧ Paired ClsV cs us ∧ PySem.W.kitAny K (.ref C) us = some b ∧ Q (.bl b) H
theorem call_isXT : CallR X (.builtin "isinstance") (rIsXT X.K) := by
  intro pins s σ H xs us Q I r h
  obtain ⟨a, C, d, tp, cs, uc, b, rfl, ea, hd, E, ht, hp, hk, q⟩ := h
  cases r with
  | cons rx rr =>
    cases rr with
    | cons rt rr =>
      cases rr
      cases rx
      cases rt
      obtain ⟨ox, od, J⟩ := inst_of I ea hd
      obtain ⟨z, its, rv, ⟨o, ho, hc, n, hdat⟩⟩ := I.hok tp _ ht
      obtain rfl := ClsV.all hp rv
      obtain ⟨c0, d0, dt, sl⟩ := o
      obtain rfl : c0 = .type "tuple" := hc
      obtain rfl : dt = .seq its.toArray n := hdat
      exact PySem.W.kia_tup (kit_exc E) I.kIn J ho hk (fun z => nomatch z) fun tk => ⟨.bl b, H, I.kept (t' := tk) fun _ _ z => z, rfl, q⟩
/-- e.f -/
def tXf (K : PySem.W.Frag) (f : Str) (te : TE) : TE := fun σ H Q => te σ H fun x H1 => ∃ (a C dd : Addr) (fs : List (Str × V)) (v : V), x = .ref a ∧ H1 a = some (exH a (.ref C) (some dd)) ∧ H1 dd = some (.xd fs) ∧ XfC K C ∧
  PySem.W.findIn K (.ref C) f = some none ∧ fs.lookup f = some v ∧ Q v H1
theorem pe_xf {e : Expr} {te : TE} {pos : Pos} {n : Str} (he : PE X e te) (hb : attributeBase e n X.env (eval e X.env) = eval e X.env := by rfl) : PE X (.Attribute e n pos) (tXf X.K n te) := by
  refine ⟨fun pins s σ H Q I h => ?_⟩
  refine attr_of hb (thn (he.run pins s σ H _ I h) fun u s1 hh => ?_)
  obtain ⟨x, H1, I1, rx, a, C, dd, fs, v, rfl, ea, ed, T, hno, hl, q⟩ := hh
  obtain rfl : u = Value.ref a := rx
  obtain ⟨vs, sl, hobj, _⟩ := exH_at I1.hok ea
  have hx : ObjOk X.prog X.w H1 s1.heap dd (.xd fs) := I1.hok dd _ ed
  obtain ⟨mA, hns, hr⟩ := hx
  obtain ⟨od, ho, hlk⟩ := lookIn_ns hns
  obtain ⟨u, hu, ru⟩ := RelO.some_of (v := v) (o := mA n) (by rw [← hl]; exact hr n)
  have J : PySem.W.InstAt s1.heap a _ C (some od) := ⟨hobj, rfl, rfl, ho⟩
  exact HandSPX.exc_get I1.kIn J T.ga T.gg T.exC (PySem.W.findObj_own T.hdC hno rfl (by rw [hlk, hu])) (handed_of ru) ⟨v, H1, I1.tok _, ru, q⟩
end
/-! a new object of the state is tracked -/
theorem Inv_track {X : Cx} {pins : List (Addr × Obj)} {σ : L2.St} {H : Hp} {s : Shared} {a : Addr} {o : HO} (I : Inv X pins σ H s) (na : H a = none) (h0 : X.s_0.heap.get? a = none) (hL : a ≠ X.env.locals) (hc : ∀ x c, X.env.cells.lookup x = some c → c ≠ a)
    (hp : ∀ p ∈ X.pn ++ pins, p.1 ≠ a) (ok : ObjOk X.prog X.w (upd H a o) s.heap a o) : Inv X pins σ (upd H a o) s := by
  have ne : ∀ {b u}, H b = some u → b ≠ a := fun {b u} e z => by
    rw [z, na] at e
    cases e
  refine ⟨I.ok, I.os, I.bare, ⟨I.base.keep, I.base.slot, fun b u e n hx => ?_, I.base.there, fun b xs e => ?_, fun b u v e => ?_, fun b ps e => ?_⟩, I.loc, I.cell, ?_, fun x c e => ?_, fun p h => ?_, fun b u e => ?_, I.len⟩
  · rw [upd_ne fun z => by rw [z, h0] at e; cases e]
    exact I.base.free b u e n hx
  · have q := I.base.tups b xs e
    rw [upd_ne (ne q)]
    exact q
  · have q := I.base.frzs b u v e
    rw [upd_ne (ne q)]
    exact q
  · obtain ⟨more, q⟩ := I.base.tbls b ps e
    exact ⟨more, by rw [upd_ne (ne q)]; exact q⟩
  · rw [upd_ne (Ne.symm hL)]
    exact I.free
  · rw [upd_ne (hc x c e)]
    exact I.freeC x c e
  · obtain ⟨q1, q2, q3, q4, q5⟩ := I.pin p h
    exact ⟨q1, by rw [upd_ne (hp p h)]; exact q2, q3, q4, q5⟩
  · by_cases hb : b = a
    · subst hb
      rw [upd_same] at e
      cases e
      exact ok
    · rw [upd_ne hb] at e
      exact (I.hok b u e).stay (fun c v _ q => q) (fun c hc => by rw [upd_ne (ne hc)]; exact hc) (fun c xs hc => by rw [upd_ne (ne hc)]; exact hc)
end Wl

/-! try .. except (A, B, C) as e, several clauses; the exception that was caught is tracked. -/
namespace Wl
open PySem PySem.Spec PyProof.Rows L2
theorem flying_keeps {B h h' : Heap} {l : List Env} {a : Addr} {Z : Obj → Prop} (fl : HandSPX.FlyingZ B l a Z h) (k : ∀ b o, h.get? b = some o → h'.get? b = some o) : HandSPX.FlyingZ B l a Z h' := by
  obtain ⟨f1, f2, f3, oe, vs, T, oT, ts, he, hz, hd, h1, hnT, hTe, hT, hdT, h3⟩ := fl
  exact ⟨fun b o e => k b o (f1 b o e), f2, f3.of_keeps fun b o e _ => ⟨o, k b o e, rfl⟩, oe, vs, T, oT, ts, k _ _ he, hz, hd, h1, hnT, hTe, k _ _ hT, hdT, h3⟩
theorem up_keeps {h h' : Heap} (k : ∀ b o, h.get? b = some o → h'.get? b = some o) : h.UpToSlots h' := Heap.UpToSlots.of_keeps k
/-- a clause's test: m tells of a class whether it is asked for -/
structure TestOk (X : Cx) (t : Expr) (m : Value → Option Bool) : Prop where
  run : ∀ (a : Addr) (pn pins : List (Addr × Obj)) (σ : L2.St) (H : Hp) (s : Shared) (cls : Value) (b : Bool) (Q : Bool → Shared → Prop) (E : Value → Shared → Prop), Inv (X.suite a pn) pins σ H s → m cls = some b →
    PySem.W.Looks (model X.prog X.w) s.heap (typeOf (.ref a)) cls → (∀ h' t', (∀ c o, s.heap.get? c = some o → h'.get? c = some o) → Q b { s with heap := h', toks := t' }) →
    wpAny (model X.prog X.w) (X.A.mark (some (.ref a))) (eval t X.env) (fun c s1 => wpAny (model X.prog X.w) (X.A.mark (some (.ref a))) (excMatches (.ref a) c) Q E s1) E s
theorem test_one {X : Cx} {x : Str} {c : Value} {np : Pos} (hc : Names X x c) : TestOk X (.Name x np) (fun cls => PySem.W.exmOne X.K cls c) := by
  refine ⟨fun a pn pins σ H s cls b Q E I hm LT q => ?_⟩
  have LM := PySem.W.exm_one (M := model X.prog X.w) I.kIn LT hm
  have go : wpAny (model X.prog X.w) (X.A.mark (some (.ref a))) (excMatches (.ref a) c) Q E s := LM.here (q s.heap s.toks fun _ _ z => z)
  obtain ⟨hg, hdbg, hg1 | ⟨hg1, hv, hnn⟩⟩ := hc
  · exact ld_glob (X := X.suite a pn) I hg hg1 go hdbg
  · exact ld_blt (X := X.suite a pn) I hg hg1 hv go hnn hdbg
theorem test_tup3 {X : Cx} {x1 x2 x3 : Str} {c1 c2 c3 : Value} {p1 p2 p3 tp : Pos} {k : Nat} (g1 : Gl X x1) (m1 : X.mg x1 = some c1) (g2 : Gl X x2) (m2 : X.mg x2 = some c2) (g3 : Gl X x3) (m3 : X.mg x3 = some c3)
    (d1 : (x1 == ("__debug__" : Str)) = false := by decide) (d2 : (x2 == ("__debug__" : Str)) = false := by decide) (d3 : (x3 == ("__debug__" : Str)) = false := by decide) :
    TestOk X (.Tuple [.Name x1 p1, .Name x2 p2, .Name x3 p3] k tp) (fun cls => PySem.W.exmAny X.K cls [c1, c2, c3]) := by
  refine ⟨fun a pn pins σ H s cls b Q E I hm LT q => ?_⟩
  refine wpAny_Tuple_spliced ?_
  show wpAny _ _ (spliced [(false, eval (.Name x1 p1) X.env), (false, eval (.Name x2 p2) X.env), (false, eval (.Name x3 p3) X.env)]) _ _ s
  refine Calls.spliced_cons (ld_glob (X := X.suite a pn) I g1 m1 ?_ d1)
  refine Calls.spliced_cons (ld_glob (X := X.suite a pn) I g2 m2 ?_ d2)
  refine Calls.spliced_cons (ld_glob (X := X.suite a pn) I g3 m3 ?_ d3)
  refine Calls.spliced_nil ⟨by show 3 ≤ sizeLine; decide, ?_⟩
  have kp : ∀ c o, s.heap.get? c = some o → (s.heap.push { cls := .type "tuple", data := .seq [c1, c2, c3].toArray }).get? c = some o := fun c o e => Heap.get?_push_of_some _ e
  have LM := PySem.W.exm_tup3 (M := model X.prog X.w) (I.kIn.keeps kp) (LT.keeps kp) (Heap.get?_push_size s.heap (o := { cls := .type "tuple", data := .seq [c1, c2, c3].toArray }) rfl) hm
  exact LM.here (q _ s.toks kp)
/-- what a suite does, the caught exception's address first -/
abbrev ClT := Addr → TS
/-- the clauses, one after the other; Wout: none of them asks for it -/
def wCls (Wout : WX) (D : Ends) : List ((Value → Option Bool) × ClT) → WX
  | [] => Wout
  | (m, ts) :: r => fun cls d σ H => ∃ b, m cls = some b ∧ (b = true → ∀ a, H a = none → ts a D σ (upd H a (exH a cls d))) ∧ (b = false → wCls Wout D r cls d σ H)
/-- .. as n, n in slot i: the name goes behind the suite -/
def tAs (i : Nat) (ts : ClT) : ClT := fun a D σ H => ts a { nx := fun σ' H' => D.nx (σ'.set i none) H', rt := D.rt, bk := fun σ' H' => D.bk (σ'.set i none) H', ct := fun σ' H' => D.ct (σ'.set i none) H' } (σ.set i (some (.ref a))) H
inductive HdsE (X : Cx) : List ExceptHandler → List ((Value → Option Bool) × ClT) → Prop
  | nil : HdsE X [] []
  | one {t : Expr} {m : Value → Option Bool} {ts : ClT} {b₀ : Stmt} {suite : List Stmt} {pos' : Pos} {hds : List ExceptHandler} {l : List ((Value → Option Bool) × ClT)} (ht : TestOk X t m)
      (hsu : ∀ (a : Addr) (pn : List (Addr × Obj)), PSs (X.suite a pn) (b₀ :: suite) (ts a)) (r : HdsE X hds l) : HdsE X (.ExceptHandler (some t) none (b₀ :: suite) pos' :: hds) ((m, ts) :: l)
  | as {t : Expr} {m : Value → Option Bool} {ts : ClT} {i : Nat} {n : Str} {b₀ : Stmt} {suite : List Stmt} {pos' : Pos} {hds : List ExceptHandler} {l : List ((Value → Option Bool) × ClT)} (hi : X.N[i]? = some n) (hln : X.env.kindOf n = some .local) (ht : TestOk X t m)
      (hsu : ∀ (a : Addr) (pn : List (Addr × Obj)), PSs (X.suite a pn) (b₀ :: suite) (ts a)) (r : HdsE X hds l) : HdsE X (.ExceptHandler (some t) (some n) (b₀ :: suite) pos' :: hds) ((m, tAs i ts) :: l)
section
variable {X : Cx} {pins : List (Addr × Obj)} {σ : L2.St} {H : Hp} {s : Shared}
theorem inv_suite {a : Addr} (I : Inv X pins σ H s) : Inv (X.suite a (X.pn ++ pins)) [] σ H s :=
  ⟨I.ok.suite _ _, I.os, I.bare, I.base, I.loc, I.cell, I.free, I.freeC, fun p hp => I.pin p (by rw [List.append_nil] at hp; exact hp), I.hok, I.len⟩
theorem inv_unsuite {a : Addr} {q : List (Addr × Obj)} (I : Inv (X.suite a (X.pn ++ pins)) q σ H s) (ok : X.Ok) : Inv X pins σ H s :=
  ⟨ok, I.os, I.bare, I.base, I.loc, I.cell, I.free, I.freeC, fun p hp => I.pin p (List.mem_append_left _ hp), I.hok, I.len⟩
end
section
variable {X : Cx} {body : List Stmt} {h₀ : ExceptHandler} {hds : List ExceptHandler} {l : List ((Value → Option Bool) × ClT)} {pos : Pos} {tb : WX → TS} {Wout : WX}
theorem ps_tryE (hs : X.stack = X.env :: X.outer) (hf : X.env.frame = some X.env.locals) (hex : X.ex = []) (hN : X.N.Nodup) (tk : L2N.Takes X Wout)
    (hb : ∀ (W : WX) (pn : List (Addr × Obj)) (xe : Value → Shared → Prop), L2N.Takes (X.tr pn xe) W → PassesOwn (model X.prog X.w) X.A X.env xe → PSs (X.tr pn xe) body (tb W))
    (hh : HdsE X (h₀ :: hds) l) : PS X (.Try body (h₀ :: hds) [] [] pos) (fun D σ H => tb (wCls Wout D l) D σ H) := by
  constructor
  intro pins s σ H D I h
  have ok := I.ok
  have hfr : X.A.frames = some (X.env :: X.outer) := by rw [ok.frames, hs]
  refine wpAny_Try_except ?_
  refine wpAny_mono ((hb (wCls Wout D l) (X.pn ++ pins) (fun e sa => wpAny (model X.prog X.w) X.A (noteFrame e X.env) (fun _ sb => wpAny (model X.prog X.w) X.A (setFlight e none) (fun _ sc =>
    wpAny (model X.prog X.w) X.A (handleBy e X.env (h₀ :: hds)) (SP X pins D) X.xe sc) X.xe sb) X.xe sa) (fun u s' xx => ?_) PassesOwn.looking).run [] s σ H D (I.toTry _) h) (fun f s1 hsp => ?_) (fun e s1 he => he)
  · obtain ⟨a, B, sI, pq, σ1, H1, cls, d, rfl, J', nb, up, sky, na, os, ag, wq⟩ := xx
    have J : Inv X pins σ1 H1 sI := J'.ofTry ok
    have sky' : Sky B (X.env :: X.outer) a (L2N.Zn cls d) X.env.locals s'.heap := by rw [← hs]; exact sky
    show wpAny (model X.prog X.w) X.A (noteFrame (.ref a) X.env) _ _ _
    refine L2N.Sky.land L2N.Zn.steady hfr hf sky' fun h3 fl3 up3 => ?_
    -- what holds of any state behind the landing
    have nfr : ∀ {hx : Heap}, HandSPX.FlyingZ B (X.env :: X.outer) a (L2N.Zn cls d) hx → a ∉ frs (X.env :: X.outer) := fun {hx} fl hm => by
      obtain ⟨oe, vs, he, _, hd⟩ := fl.there
      obtain ⟨_, o', e', hnf⟩ := fl.2.2.1.mem hm
      rw [he] at e'
      cases e'
      exact hnf _ hd
    have naI : sI.heap.get? a = none := by
      cases q : sI.heap.get? a with
      | none => rfl
      | some o =>
        have z := nb a o q (by rw [hs]; exact nfr fl3)
        rw [fl3.2.1] at z
        cases z
    have na0 : X.s_0.heap.get? a = none := by
      cases q : X.s_0.heap.get? a with
      | none => rfl
      | some o =>
        obtain ⟨o', z⟩ := J.base.there a o q (by rw [hex]; simp)
        rw [naI] at z
        cases z
    have nL : a ≠ X.env.locals := fun z => nfr fl3 (List.mem_filterMap.mpr ⟨X.env, List.mem_cons_self, by rw [hf, z]⟩)
    -- the clauses, one by one, over a heap that holds the landed one
    have go : ∀ {hds' : List ExceptHandler} {l' : List ((Value → Option Bool) × ClT)}, HdsE X hds' l' → wCls Wout D l' cls d σ1 H1 → ∀ (h5 : Heap) (t5 : Nat), (∀ b o, h3.get? b = some o → h5.get? b = some o) →
        wpAny (model X.prog X.w) X.A (handleBy (.ref a) X.env hds') (SP X pins D) X.xe { s' with heap := h5, toks := t5 } := by
      intro hds' l' hk
      induction hk with
      | nil =>
        intro wq h5 t5 k5
        have fl5 := flying_keeps fl3 k5
        refine wpAny_handleBy_nil ?_
        obtain ⟨k1, k2, k3, oe, vs, T, oT, ts', he, hz, hd, h1, hr⟩ := id fl5
        unfold PySem.passOn
        refine wpAny_bind (wpAny_field he hd h1 ?_)
        rw [if_neg (show ¬ ((Value.ref T == Value.none) = true) from by simp)]
        have fin : wpAny (model X.prog X.w) X.A (setFlight (.ref a) X.env.frame) (fun _ s4 => wpAny (model X.prog X.w) X.A (throw (.ref a) : Sem Flow) (SP X pins D) X.xe s4) X.xe { s' with heap := h5, toks := t5 } := by
          rw [hf]
          refine HandSPX.setFlight_upZ fl5 fun h4 hh4 up4 => wpAny_throw (tk _ _ ?_)
          exact ⟨a, B, sI, pins, σ1, H1, cls, d, rfl, J, nb, ((up.trans up3).trans (up_keeps k5)).trans up4, .inr (.inr (by rw [hs]; exact hh4)), na, os, ag, wq⟩
        first
          | exact wpAny_bind (wpAny_pure (wpAny_bind fin))
          | exact wpAny_bind fin
      | @one t m ts b₀ suite pos' hds2 l2 ht hsu r ih =>
        intro wq h5 t5 k5
        obtain ⟨b, hb1, hyes, hno⟩ := wq
        have fl5 := flying_keeps fl3 k5
        have J5 : Inv X pins σ1 H1 { s' with heap := h5, toks := t5 } := (J.landed (s' := { s' with heap := h5, toks := t5 }) nb fl5.1 ((up.trans up3).trans (up_keeps k5)) os ag)
        obtain ⟨oe5, vs5, he5, hz5, hd5⟩ := fl5.there
        have LT : PySem.W.Looks (model X.prog X.w) h5 (typeOf (.ref a)) cls := fun A Q E s k q => wpAny_typeOf_ref (k _ _ he5) (by rw [hz5.1]; exact q)
        refine wpAny_handleBy_cons (codeAny_handlers_test (ht.run a (X.pn ++ pins) [] σ1 H1 { s' with heap := h5, toks := t5 } cls b _ _ (inv_suite J5) hb1 LT fun h6 t6 k6 => ?_)) (by intro q; cases q)
        cases b with
        | false =>
          show wpAny _ X.A (handleBy (.ref a) X.env hds2) _ _ _
          exact ih (hno rfl) h6 t6 fun c o e => k6 c o (k5 c o e)
        | true =>
          have fl6 := flying_keeps fl5 k6
          refine codeAny_handlers_suite ?_
          refine HandSPX.lands_againZ fl6 fun h7 fl7 up7 => ?_
          have J7 : Inv X pins σ1 H1 { s' with heap := h7, toks := t6 } := J.landed (s' := { s' with heap := h7, toks := t6 }) nb fl7.1 ((((up.trans up3).trans (up_keeps k5)).trans (up_keeps k6)).trans up7) os ag
          obtain ⟨oe7, vs7, he7, hz7, hd7⟩ := fl7.there
          have T7 : Inv X pins σ1 (upd H1 a (exH a cls d)) { s' with heap := h7, toks := t6 } := Inv_track J7 na na0 nL (fun x c e z => by
              obtain ⟨v, o, ho, hdat⟩ := J7.cell x c e
              have ho : h7.get? c = some o := ho
              rw [z, he7] at ho
              cases ho
              rw [hd7] at hdat
              cases hdat) (fun p hp z => by
              have q := (J.pin p hp).1
              rw [z, naI] at q
              cases q) (exH_ok he7 hz7 hd7)
          refine wpAny_mono ((hsu a (X.pn ++ pins)).run [] _ _ _ D (inv_suite T7) (hyes rfl a na)) (fun f s8 hsp => ?_) (fun _ _ z => False.elim z)
          cases f with
          | next =>
            obtain ⟨σ8, H8, S8, q8⟩ := hsp
            exact ⟨_, _, inv_unsuite S8 ok, q8⟩
          | brk =>
            obtain ⟨σ8, H8, S8, q8⟩ := hsp
            exact ⟨_, _, inv_unsuite S8 ok, q8⟩
          | cont =>
            obtain ⟨σ8, H8, S8, q8⟩ := hsp
            exact ⟨_, _, inv_unsuite S8 ok, q8⟩
          | ret u =>
            obtain ⟨v8, σ8, H8, S8, r8, q8⟩ := hsp
            exact ⟨_, _, _, inv_unsuite S8 ok, r8, q8⟩
      | @as t m ts i n b₀ suite pos' hds2 l2 hi hln ht hsu r ih =>
        intro wq h5 t5 k5
        obtain ⟨b, hb1, hyes, hno⟩ := wq
        have fl5 := flying_keeps fl3 k5
        have J5 : Inv X pins σ1 H1 { s' with heap := h5, toks := t5 } := (J.landed (s' := { s' with heap := h5, toks := t5 }) nb fl5.1 ((up.trans up3).trans (up_keeps k5)) os ag)
        obtain ⟨oe5, vs5, he5, hz5, hd5⟩ := fl5.there
        have LT : PySem.W.Looks (model X.prog X.w) h5 (typeOf (.ref a)) cls := fun A Q E s k q => wpAny_typeOf_ref (k _ _ he5) (by rw [hz5.1]; exact q)
        refine wpAny_handleBy_cons (codeAny_handlers_test (ht.run a (X.pn ++ pins) [] σ1 H1 { s' with heap := h5, toks := t5 } cls b _ _ (inv_suite J5) hb1 LT fun h6 t6 k6 => ?_)) (by intro q; cases q)
        cases b with
        | false =>
          show wpAny _ X.A (handleBy (.ref a) X.env hds2) _ _ _
          exact ih (hno rfl) h6 t6 fun c o e => k6 c o (k5 c o e)
        | true =>
          have fl6 := flying_keeps fl5 k6
          refine codeAny_handlers_suite_as ?_
          refine HandSPX.lands_againZ fl6 fun h7 fl7 up7 => ?_
          have J7 : Inv X pins σ1 H1 { s' with heap := h7, toks := t6 } := J.landed (s' := { s' with heap := h7, toks := t6 }) nb fl7.1 ((((up.trans up3).trans (up_keeps k5)).trans (up_keeps k6)).trans up7) os ag
          obtain ⟨oe7, vs7, he7, hz7, hd7⟩ := fl7.there
          have T7 : Inv X pins σ1 (upd H1 a (exH a cls d)) { s' with heap := h7, toks := t6 } := Inv_track J7 na na0 nL (fun x c e z => by
              obtain ⟨v, o, ho, hdat⟩ := J7.cell x c e
              have ho : h7.get? c = some o := ho
              rw [z, he7] at ho
              cases ho
              rw [hd7] at hdat
              cases hdat) (fun p hp z => by
              have q := (J.pin p hp).1
              rw [z, naI] at q
              cases q) (exH_ok he7 hz7 hd7)
          refine store_ok (X := X.suite a (X.pn ++ pins)) (v := .ref a) (inv_suite T7) hN hi (.inl hln) rfl (fun s5 S5 => ?_) (.inr hln)
          refine wpAny_mono ((hsu a (X.pn ++ pins)).run [] s5 _ _ _ S5 (hyes rfl a na)) (fun f s8 hsp => ?_) (fun _ _ z => False.elim z)
          have end_ : ∀ {σ6 : L2.St} {H6 : Hp} {Q : Shared → Prop}, Inv (X.suite a (X.pn ++ pins)) [] σ6 H6 s8 → (∀ s7, Inv X pins (σ6.set i none) H6 s7 → Q s7) →
              wpAny (model X.prog X.w) X.A (do bindName X.env n .none; unbindBehindTheSuite X.env n pos') (fun _ s7 => Q s7) X.xe s8 := fun {σ6 H6 Q} S6 hq => gone_ok (inv_unsuite S6 ok) hN hi hln hq
          cases f with
          | next =>
            obtain ⟨σ8, H8, S8, q8⟩ := hsp
            exact end_ S8 fun s9 J9 => ⟨_, _, J9, q8⟩
          | brk =>
            obtain ⟨σ8, H8, S8, q8⟩ := hsp
            exact end_ S8 fun s9 J9 => ⟨_, _, J9, q8⟩
          | cont =>
            obtain ⟨σ8, H8, S8, q8⟩ := hsp
            exact end_ S8 fun s9 J9 => ⟨_, _, J9, q8⟩
          | ret u =>
            obtain ⟨v8, σ8, H8, S8, r8, q8⟩ := hsp
            exact end_ S8 fun s9 J9 => ⟨_, _, _, J9, r8, q8⟩
    exact go hh wq h3 s'.toks fun _ _ z => z
  · cases f with
    | next =>
      obtain ⟨σ', H', J', q⟩ := hsp
      exact wpAny_execs_nil ⟨σ', H', J'.ofTry ok, q⟩
    | brk =>
      obtain ⟨σ', H', J', q⟩ := hsp
      exact ⟨σ', H', J'.ofTry ok, q⟩
    | cont =>
      obtain ⟨σ', H', J', q⟩ := hsp
      exact ⟨σ', H', J'.ofTry ok, q⟩
    | ret u =>
      obtain ⟨v, σ', H', J', r, q⟩ := hsp
      exact ⟨v, σ', H', J'.ofTry ok, r, q⟩
theorem takes_noN {X : Cx} : L2N.Takes X (fun _ _ _ _ => False) := fun _ _ ⟨_, _, _, _, _, _, _, _, _, _, _, _, _, _, _, _, z⟩ => z.elim
end
end Wl

/-! Own exceptions over ValueError, LookupError or ArithmeticError, whose __init__ stores its one argument under its own name; raised. -/
namespace Wl
open PySem PySem.Spec PyProof.Rows L2
/-- a built-in base of an own exception -/
structure BaseX (B newId initId : String) (bm : List Value) : Prop where
  base : ExcBaseFacts B newId initId bm
  store : StoreFacts B bm "object.__setattr__" "object"
theorem baseVE : BaseX "ValueError" "ValueError.__new__" "ValueError.__init__" [.type "ValueError", .type "Exception", .type "BaseException", .type "object"] := ⟨F.excBase_ValueError, F.store_ValueError⟩
theorem baseLE : BaseX "LookupError" "LookupError.__new__" "LookupError.__init__" [.type "LookupError", .type "Exception", .type "BaseException", .type "object"] := ⟨F.excBase_LookupError, F.store_LookupError⟩
theorem baseAE : BaseX "ArithmeticError" "ArithmeticError.__new__" "ArithmeticError.__init__" [.type "ArithmeticError", .type "Exception", .type "BaseException", .type "object"] := ⟨F.excBase_ArithmeticError, F.store_ArithmeticError⟩
/-- the first store into an exception -/
theorem osa_first {prog : Program} {w : World} {A : Around} {R : Result → Shared → Prop} {hp : Heap} {g : Array GenState} {d : Drawn} {t : Nat} {os : OsState} {K : PySem.W.Frag} {name : Str} {tk : Tok} {v : Value} {x C : Addr} {fv : Array Value} {B newId initId : String} {bm : List Value}
    (BX : BaseX B newId initId bm) (X : K.In hp) (hx : hp.get? x = some { cls := .ref C, data := .fields fv }) (ho : PySem.W.excOver K C bm = true) (hh : PySem.W.hasDictIn K C = true) (ht : PySem.W.takerIn K C name = some none)
    (hq : ∀ h' tk' dx, (∀ b o, b ≠ x → hp.get? b = some o → h'.get? b = some o) → hp.objs.size ≤ dx → dx ≠ x → h'.get? x = some { cls := .ref C, dict := some dx, data := .fields fv } →
      h'.Ns1 dx (fun y => if y = name then some v else none) → R (.ok (.ret .none)) ⟨h', g, d, tk', os⟩) :
    codeAny (model prog w) A (.call (.builtin "object.__setattr__") ⟨[.ref x, .str name tk, v], []⟩) R ⟨hp, g, d, t, os⟩ := by
  have hxs : x ≠ hp.objs.size := Nat.ne_of_lt (Heap.lt_size hx)
  obtain ⟨cd, hc, hd⟩ := PySem.W.any_some hh
  have hcls : PySem.W.Looks (model prog w) hp (classData C) cd := PySem.W.looks_clsIn X hc
  refine PySem.W.osa_openX (s := ⟨hp, g, d, t, os⟩) (od := none) BX.store X ⟨hx, rfl, rfl, trivial⟩ ho ht fun b => ?_
  show wpAny _ _ (Builtin.ObjectAttr.storeInOwnDict (.ref x) (.ref C) (.str name tk) name v b) _ _ _
  obtain ⟨nm, bs, mro, ns, qn, hdd, sn, sb, ab, col, del⟩ := cd
  dsimp only at hd
  subst hd
  unfold Builtin.ObjectAttr.storeInOwnDict Builtin.ObjectAttr.ownDictForStores
  repeat (first | with_reducible refine PySem.HandSPX.store_in_new ?_ ?_ | with_reducible refine wpAny_loadPart_at hx ?_ | with_reducible refine hcls.at ?_ | wp_step)
  · exact ⟨_, #[], _, (Heap.get?_update_ne _ _ _ _ hxs.symm).trans (Heap.get?_push_at rfl rfl), rfl, fun e he => absurd he (by simp), fun _ => rfl⟩
  · intro h' tk' hn' hs
    have h1 : (hp.push { cls := .type "dict", data := .dict #[] }).get? x = some { cls := .ref C, data := .fields fv } := Heap.get?_push_of_some _ hx
    refine hq h' tk' hp.objs.size (fun b o hb ho => ?_) (Nat.le_refl _) hxs.symm ?_ hn'
    · exact (hs.2 b (Nat.ne_of_lt (Heap.lt_size ho))).trans ((Heap.get?_update_ne _ _ _ _ hb).trans (Heap.get?_push_of_some _ ho))
    · exact (hs.2 x hxs).trans (Heap.get?_update_self _ h1 rfl)
/-- what the written part says of the own exception class x, at C, whose __init__ (self, f) stores f -/
structure OwnX (K : PySem.W.Frag) (mg : Str → Option Value) (x f : Str) (C : Addr) : Prop where
  gC : mg x = some (.ref C)
  kC : PySem.W.keepIn K (.ref C) = true
  bas : ∃ B newId initId bm, BaseX B newId initId bm ∧ PySem.W.excInitIn K C bm newId = true ∧ PySem.W.excOver K C bm = true
  sa : PySem.W.findIn K (.ref C) "__setattr__" = some (some (.builtin "object.__setattr__"))
  tk : PySem.W.takerIn K C f = some none
  no : PySem.W.findIn K (.ref C) f = some none
  exC : PySem.W.subIn K (.ref C) (.type "BaseException") = some true
  tyC : PySem.W.typeIn K (.ref C) = some (.type "type")
  hdC : PySem.W.hasDictIn K C = true
  ini : ∃ (fI : Addr) (fd : FuncData) (q : Str) (st : Stmt) (q1 q2 q3 q4 : Pos), PySem.W.findIn K (.ref C) "__init__" = some (some (.ref fI)) ∧ PySem.W.typeIn K (.ref fI) = some (.type "function") ∧ Fun K "__init__" q st fI fd ∧
    Binds K fd ["self", f] [] ∧ FnScope ["self", f] ["self", f] (defScope st) ∧ (∀ y ∈ (["self", f] : List Str), (defScope st).names.lookup y = some .local) ∧ defBody st = [.Assign [.Attribute (.Name "self" q1) f q2] (.Name f q3) q4]
/-- what __init__ leaves of a fresh exception at x -/
structure InitDone (h h' : Heap) (x C dx t1 : Addr) (f : Str) (v : Value) : Prop where
  keep : ∀ b o, b ≠ x → h.get? b = some o → h'.get? b = some o
  obj : h'.get? x = some { cls := .ref C, dict := some dx, data := .fields #[.ref t1, .none, .none, .none, .bool false, .none] }
  dbig : h.objs.size ≤ dx
  dne : dx ≠ x
  ns : h'.Ns1 dx (fun y => if y = f then some v else none)
/-- a made one -/
structure MadeX (h h' : Heap) (e C d : Addr) (f : Str) (v : Value) : Prop where
  keep : ∀ b o, h.get? b = some o → h'.get? b = some o
  new : h.objs.size ≤ e
  obj : ∃ vs, h'.get? e = some { cls := .ref C, dict := some d, data := .fields vs } ∧ vs[1]? = some .none ∧ vs[2]? = some .none
  dbig : h.objs.size ≤ d
  dne : d ≠ e
  ns : h'.Ns1 d (fun y => if y = f then some v else none)
theorem one_line (v : Value) : [v].length ≤ sizeLine := by
  show 1 ≤ sizeLine
  decide
section
variable {prog : Program} {w : World} {A : Around} {R : Result → Shared → Prop} {s : Shared} {K : PySem.W.Frag} {mg : Str → Option Value} {x f : Str} {C : Addr}
theorem own_init (T : OwnX K mg x f C) (nf : f ≠ "self") (ndb : (f == ("__debug__" : Str)) = false) {e t0 fI : Addr} {v : Value} (hfI : PySem.W.findIn K (.ref C) "__init__" = some (some (.ref fI))) (X : K.In s.heap) (hlim : s.heap.NoLimit) (hx : s.heap.get? e = some (HandSPX.excO C t0)) (hnx : K.lookup e = none) (hroom : A.depth < recursionLimit)
    (hq : ∀ h' tk dx, InitDone s.heap h' e C dx t0 f v → R (.ok (.ret .none)) { s with heap := h', toks := tk }) : codeAny (model prog w) A (.call (.ref fI) ⟨[.ref e, v], []⟩) R s := by
  obtain ⟨f2, fd, q, st, q1, q2, q3, q4, hf2, tI, hF, hB, hS, hL, hbody⟩ := T.ini
  obtain rfl : f2 = fI := by
    rw [hfI] at hf2
    cases hf2
    rfl
  obtain ⟨oc, od, kV, doc, pm, an, cdv, ct, osl, rfl, lk, hcd⟩ := hF.ex
  obtain ⟨B, newId, initId, bm, BX, _, hov⟩ := T.bas
  have hb := hB s [.ref e, v] X rfl
  have hb : BindsTo s (PySem.W.fnOf "__init__" q (defArgs st) (defBody st) (defScope st) .none kV doc pm an cdv ct) ⟨[.ref e, v], []⟩ [("self", .ref e), (f, v)] := hb
  refine Att.call_fn (binds := [("self", .ref e), (f, v)]) X hlim lk hcd hroom hb ?_ (fun s₁ IC => ?_) hS.co hS.gen hS.kind
  · simp only [List.all_cons, List.all_nil, Bool.and_true]
    rw [hL "self" (by simp), hL f (by simp)]
    rfl
  obtain ⟨h₁, tk₁, rfl⟩ := IC.toInCall.same
  have k : ∀ b o, s.heap.get? b = some o → h₁.get? b = some o := IC.toInCall.keep
  have hn := IC.toInCall.ns
  have X₁ : K.In h₁ := X.keeps k
  have hx₁ := k _ _ hx
  have kself : (envOfC q (defScope st) s.heap.objs.size f2 cdv).kindOf "self" = some .local := hL "self" (by simp)
  have kf : (envOfC q (defScope st) s.heap.objs.size f2 cdv).kindOf f = some .local := hL f (by simp)
  have m1 : bindL (envOfC q (defScope st) s.heap.objs.size f2 cdv).kindOf [("self", .ref e), (f, v)] (fun _ => none) "self" = some (.ref e) := bindL_get (P := ["self", f]) (vs := [.ref e, v]) (i := 0) hS.nd rfl rfl kself
  have m2 : bindL (envOfC q (defScope st) s.heap.objs.size f2 cdv).kindOf [("self", .ref e), (f, v)] (fun _ => none) f = some v := bindL_get (P := ["self", f]) (vs := [.ref e, v]) (i := 1) hS.nd rfl rfl kf
  rw [hbody]
  show wpAny _ _ (execs _ _) _ _ _
  refine wpAny_execs_cons (plainObj_wpAny_Assign_Attribute ?_)
  refine wpAny_Name (wpAny_loadName_local hS.kind kf hn m2 ?_) ndb
  refine wpAny_Name (wpAny_loadName_local hS.kind kself hn m1 ?_) (by decide)
  refine PySem.W.set_plain X₁ (ox := HandSPX.excO C t0) (od := none) ⟨hx₁, rfl, rfl, trivial⟩ T.sa ?_
  refine osa_first BX X₁ hx₁ hov T.hdC T.tk (fun h₃ tk₃ dx k₃ dn dne hx₃ hn₃ => ?_)
  show wpAny _ _ (execs _ _) _ _ _
  have z : s.heap.objs.size < h₁.objs.size := hn.lt
  exact wpAny_execs_nil (hq h₃ tk₃ dx ⟨fun b o hb e => k₃ b o hb (k b o e), hx₃, Nat.le_of_lt (Nat.lt_of_lt_of_le z dn), dne, hn₃⟩)
theorem own_made (T : OwnX K mg x f C) (nf : f ≠ "self") (ndb : (f == ("__debug__" : Str)) = false) {v : Value} (X : K.In s.heap) (hlim : s.heap.NoLimit) (hroom : A.depth + 1 < recursionLimit)
    (hq : ∀ h' tk e d, MadeX s.heap h' e C d f v → R (.ok (.ret (.ref e))) { s with heap := h', toks := tk }) : codeAny (model prog w) A (.call (.ref C) ⟨[v], []⟩) R s := by
  obtain ⟨B, newId, initId, bm, BX, hini, hov⟩ := T.bas
  obtain ⟨nm, N', qn, bs, bmC, hdct, sn, sub, ab, col, dd, k0, k1, k2, k3, k5, hC, hT⟩ := PySem.W.excInit_of X hini
  obtain ⟨fI, _, _, _, _, _, _, _, hfI, tI, _⟩ := T.ini
  obtain ⟨hp, g, dr, tk, os⟩ := s
  have k : ∀ b o, hp.get? b = some o → ((hp.push (PySem.W.kdv_tup [v])).push (HandSPX.excO C hp.objs.size)).get? b = some o := fun b o e => Heap.get?_push_of_some _ (Heap.get?_push_of_some _ e)
  have hget : ((hp.push (PySem.W.kdv_tup [v])).push (HandSPX.excO C hp.objs.size)).get? (hp.objs.size + 1) = some (HandSPX.excO C hp.objs.size) := by heap_get
  have hnx : K.lookup (hp.objs.size + 1) = none := by
    cases e : K.lookup (hp.objs.size + 1) with
    | none => rfl
    | some o =>
      have z : hp.get? (hp.objs.size + 1) = some o := X _ _ e
      exact absurd (Nat.lt_of_succ_lt (Heap.lt_size z)) (Nat.lt_irrefl _)
  refine HandSPX.call_own BX.base hT hC (PySem.W.looks_findIn X hfI) (fun self => PySem.W.bind_fn X self tI) (one_line v) ?_
  refine own_init (s := ⟨(hp.push (PySem.W.kdv_tup [v])).push (HandSPX.excO C hp.objs.size), g, dr, tk, os⟩) T nf ndb hfI (X.keeps k) (hlim.keeps k) hget hnx ?_ fun h' tk' dx hD => ?_
  · show A.depth + 1 < recursionLimit
    exact hroom
  · obtain ⟨k', hx, dn, dne, hns⟩ := hD
    have old : ∀ b o, hp.get? b = some o → h'.get? b = some o := fun b o e => k' b o (Nat.ne_of_lt (Nat.lt_succ_of_lt (Heap.lt_size e))) (k b o e)
    have z : hp.objs.size + 1 + 1 ≤ dx := by
      have q := dn
      rw [Heap.size_push, Heap.size_push] at q
      exact q
    exact ⟨rfl, hq h' tk' (hp.objs.size + 1) dx ⟨old, Nat.le_succ _, ⟨_, hx, rfl, rfl⟩, Nat.le_trans (Nat.le_trans (Nat.le_succ _) (Nat.le_succ _)) z, dne, hns⟩⟩
end
theorem relO_one {v : V} {u : Value} (r : RelV v u) (f g : Str) : RelO (List.lookup g [(f, v)]) (if g = f then some u else none) := by
  by_cases h : g = f
  · subst h
    rw [if_pos rfl]
    have q : List.lookup g [(g, v)] = some v := by simp [List.lookup]
    rw [q]
    exact r
  · rw [if_neg h]
    have qw : (g == f) = false := by simpa using h
    have q : List.lookup g [(f, v)] = none := by simp [List.lookup, qw]
    rw [q]
    trivial
section
variable {X : Cx} {C : Addr}
/-- x(e) -/
def tMkX (C : Addr) (f : Str) (ta : TA) : L2.St → Hp → XK → Prop := fun σ H Q => ta σ H fun vs H1 => ∃ v, vs = [v] ∧ ∀ d, H1 d = none → Q (.ref C) (some d) (upd H1 d (.xd [(f, v)]))
theorem pmk_x {x f : Str} {a : Expr} {ta : TA} {p pos : Pos} {k : Nat} (T : OwnX X.K X.mg x f C) (hr : Room k X.A) (ha : PA X [a] ta) (nf : f ≠ "self" := by decide) (ndb : (f == ("__debug__" : Str)) = false := by decide) (hg : Gl X x := by rfl) (hdb : (x == ("__debug__" : Str)) = false := by decide)
    (he : starEach (a :: []) X.env = (false, eval a X.env) :: starEach [] X.env := by rfl) (hpl : (backTo pos (starEach [] X.env)).any (·.1) = false := by rfl) :
    L2N.PMk X (.Call (.Name x p) [a] [] pos) (tMkX C f ta) := by
  intro pins s σ H Q I h
  refine wpAny_Call_Name_kw (ld_glob I hg T.gC ?_ hdb)
  refine PySem.W.callWith_K (h₀ := X.base) I.ok.mod.kin T.kC (thn (ha.run pos pins s σ H _ I h) fun us s1 hh => ?_) he hpl
  obtain ⟨vs, H1, I1, r1, v, ev, q1⟩ := hh
  subst ev
  refine ⟨I1.kIn, ?_⟩
  cases r1 with
  | cons rv rn =>
    rename_i v' us'
    cases rn
    show wpAny _ _ (call (.ref C) [v']) _ _ _
    have hlim := I1.nolimit
    obtain ⟨hp, g, dr, tk, os⟩ := s1
    refine wpAny_call (own_made T nf ndb I1.kIn hlim (by have := hr.dp; omega) fun h' tk' e d M => ?_)
    show L2N.MkP X pins σ Q (.ref e) ⟨h', g, dr, tk', os⟩
    obtain ⟨fv, hoe, h1, h2⟩ := M.obj
    have hns := M.ns
    obtain ⟨G', g1, g2⟩ := restrict h' fun b => decide (b ≠ e)
    have gk : ∀ b, b ≠ e → G'.get? b = h'.get? b := fun b hb => g1 b (decide_eq_true hb)
    have ge : G'.get? e = none := g2 e (by simp)
    have old : ∀ b o, hp.get? b = some o → G'.get? b = some o := fun b o q => (gk b (Nat.ne_of_lt (Nat.lt_of_lt_of_le (Heap.lt_size q) M.new))).trans (M.keep b o q)
    have ob : ObjOk X.prog X.w (upd H1 d (.xd [(f, v)])) G' d (.xd [(f, v)]) := ⟨_, hns.at (fun o q => (gk d M.dne).trans q), fun y => relO_one rv f y⟩
    have J : Inv X pins σ (upd H1 d (.xd [(f, v)])) ⟨G', g, dr, tk', os⟩ := I1.laid (t' := tk') old M.dbig ob
    refine ⟨e, _, fv, ⟨G', g, dr, tk', os⟩, _, .ref C, some d, rfl, J, fun b o q => ?_, ge, hoe, ⟨rfl, rfl, fun vs q => ?_⟩, rfl, h1, ?_, rfl, I1.bare, raises_own T.exC T.tyC, q1 d (I1.hok.fresh M.dbig)⟩
    · by_cases hb : b = e
      · have q' : G'.get? b = some o := q
        rw [hb, ge] at q'
        cases q'
      · exact (gk b hb).symm.trans q
    · obtain rfl : fv = vs := Data.fields.inj q
      exact h2
    · rw [upd_ne (Ne.symm M.dne)]
      exact I1.hok.fresh M.new
theorem ps_raiseX {x f : Str} {a : Expr} {ta : TA} {W : WX} {p pos pos2 : Pos} {k : Nat} (hc : X.calm = true) (T : OwnX X.K X.mg x f C) (hr : Room k X.A) (tk : L2N.Takes X W) (ha : PA X [a] ta) (nf : f ≠ "self" := by decide) (ndb : (f == ("__debug__" : Str)) = false := by decide) (hg : Gl X x := by rfl)
    (hdb : (x == ("__debug__" : Str)) = false := by decide) (he : starEach (a :: []) X.env = (false, eval a X.env) :: starEach [] X.env := by rfl) (hpl : (backTo pos (starEach [] X.env)).any (·.1) = false := by rfl) :
    PS X (.Raise (some (.Call (.Name x p) [a] [] pos)) none pos2) (fun _ σ H => tMkX C f ta σ H fun cls d H' => W cls d σ H') := L2N.ps_raise hc tk (pmk_x T hr ha nf ndb hg hdb he hpl)
end
end Wl

/-! Where an exception is being handled: defs called, comprehensions over range. -/
namespace Wl
open PySem PySem.Spec PyProof.Rows L2
/-- what is handled stands at a, tracked -/
def HotH (a : Addr) (H : Hp) : Prop := ∃ cls d, H a = some (exH a cls d)
theorem HotH.same {a : Addr} {H H' : Hp} (h : HotH a H) (s : Same H H') : HotH a H' := by
  obtain ⟨cls, d, e⟩ := h
  exact ⟨cls, d, s _ _ e⟩
/-- a def called there, its promise -/
structure FnT (P : Program) (w : World) (K : PySem.W.Frag) (mg : Str → Option Value) (base : Heap) (CX : CXT) (k : Nat) (f : Addr) (fd : FuncData) (ps : List Str) (sp : Addr → Sp) : Prop where
  len : ∀ a vs H Q E, sp a vs H Q E → vs.length = ps.length
  run : ∀ (A : Around) (outer : List Env) (s : Shared) (H : Hp) (args : Args) (us : List Value) (vs : List V) (Q : VK) (E : XK) (a : Addr), L2H.RoomH k A → A.handled = some (.ref a) → HotH a H → Env0 P w K mg base A outer s H → BindsTo s fd args (ps.zip us) → Vals vs us → sp a vs H Q E →
    codeAny (model P w) A (.call (.ref f) args) (CR CX outer P w H s Q E) s
/-- the body's context -/
def cxT (CX : CXT) (P : Program) (w : World) (K : PySem.W.Frag) (mg : Str → Option Value) (base : Heap) (N : List Str) (qual : Str) (scope : Scope) (f : Addr) (cd : Value) (A : Around) (outer : List Env) (s : Shared) (H : Hp) (E : XK) : Cx :=
  { cxOf CX P w K mg base N qual scope f cd A outer s H E with calm := false }
section
variable {P : Program} {w : World} {K : PySem.W.Frag} {mg : Str → Option Value} {base : Heap} {CX : CXT}
theorem inv_startT {N ps : List Str} {qual : Str} {scope : Scope} {f : Addr} {cd : Value} {A : Around} {outer : List Env} {s s1 : Shared} {H : Hp} {E : XK} {us : List Value} {vs : List V} (S : FnScope N ps scope) (e0 : Env0 P w K mg base A outer s H) (hl : vs.length = ps.length) (r : Vals vs us)
    (x : InCallC s s.heap.objs.size (bindL (envOfC qual scope s.heap.objs.size f cd).kindOf (ps.zip us) fun _ => none) (cellsFrom (s.heap.objs.size + 1) scope.names []) (bindC (envOfC qual scope s.heap.objs.size f cd).kindOf (ps.zip us) fun _ => none) s1) :
    Inv (cxT CX P w K mg base N qual scope f cd A outer s H E) [] (L2.start N vs) H s1 := by
  obtain ⟨oG, es, ep, hG, hd, _⟩ := e0.mod.glob
  have b0 := e0.bs _ _ hG
  have pin : L2H.PinOk outer H s (mainGlobals, oG) := ⟨b0.1, b0.2, fun hm => (by
    have z := (e0.funs.mem hm).1
    rw [hG] at z
    cases z), fun v z => (by
    have z : oG.data = .cell v := z
    rw [hd] at z
    cases z)⟩
  have I := L2H.inv_startH (CX := CX) (E := E) S pin e0 hl r x
  refine ⟨(Cx.Ok.toTry I.ok [] (cxT CX P w K mg base N qual scope f cd A outer s H E).xe), I.os, I.bare, I.base, I.loc, I.cell, I.free, I.freeC, fun p hp => ?_, I.hok, I.len⟩
  exact absurd (show p ∈ ([] : List (Addr × Obj)) ++ [] from hp) (by simp)
theorem fn_ofT {k : Nat} {f : Addr} {name qual : Str} {params : Arguments} {body : List Stmt} {scope : Scope} {dV kV doc pm cdv ct oc : Value} {an od : Option Addr} {osl : Array (Option Value)} {N ps : List Str} {sp : Addr → Sp}
    (lk : K.lookup f = some ⟨oc, od, .func (PySem.W.fnOf name qual params body scope dV kV doc pm an cdv ct), osl⟩) (hcd : PySem.W.codeIn K cdv qual = true) (S : FnScope N ps scope) (len : ∀ a vs H Q E, sp a vs H Q E → vs.length = ps.length)
    (hbody : ∀ (A : Around) (outer : List Env) (s : Shared) (H : Hp) (vs : List V) (Q : VK) (E : XK) (a : Addr), A.handled = some (.ref a) → HotH a H → L2H.RoomH k (A.deeper (envOfC qual scope s.heap.objs.size f cdv)) → sp a vs H Q E →
      ∃ t, PSs (cxT CX P w K mg base N qual scope f cdv A outer s H E) body t ∧ t { nx := fun _ H' => Q .non H', rt := Q } (L2.start N vs) H) :
    FnT P w K mg base CX (k + 1) f (PySem.W.fnOf name qual params body scope dV kV doc pm an cdv ct) ps sp := by
  refine ⟨len, ?_⟩
  intro A outer s H args us vs Q E a hr hot hh e0 hb r hsp
  have hl := len _ _ _ _ _ hsp
  have KX : K.In s.heap := e0.mod.kin.keeps fun b o e => (e0.bs b o e).1
  have lim : s.heap.NoLimit := e0.mod.nolimit.keeps fun b o e => (e0.bs b o e).1
  refine codeAny_call_function hr.depth (KX _ _ lk) rfl S.co S.gen rfl (PySem.W.codeRec_of KX hcd) (hb _ _ _ _ ?_)
  refine wpAny_newFunctionEnv_cells S.kind (fun ⟨n, v⟩ hy => ?_) fun env he s1 x => ?_
  · rcases S.par n (List.of_mem_zip hy).1 with q | q
    · exact .inl q
    · exact .inr ⟨q, PySem.W.cellsFrom_some _ _ _ (.inl q)⟩
  subst he
  refine ⟨lim.keeps x.toInCall.keep, codeAny_func ?_⟩
  obtain ⟨t, ht, hq⟩ := hbody A outer s H vs Q E a hot hh (hr.deeper _) hsp
  refine wpAny_mono (ht.run [] s1 (L2.start N vs) H _ (inv_startT S e0 hl r x) hq) (fun fl s' hs => ?_) fun e s' hs => hs
  have fin : ∀ {σ' : L2.St} {H' : Hp} {v : V} {u : Value}, Inv (cxT CX P w K mg base N qual scope f cdv A outer s H E) [] σ' H' s' → RelV v u → Q v H' → CE outer P w H s Q u s' := by
    intro σ' H' v u J rv q
    exact ⟨v, H', J.os, J.bare, J.base, J.hok, rv, q⟩
  cases fl with
  | ret u =>
    obtain ⟨v, σ', H', J, rv, q⟩ := hs
    exact fin J rv q
  | next =>
    obtain ⟨σ', H', J, q⟩ := hs
    exact fin (v := V.non) (u := Value.none) J rfl q
  | brk =>
    obtain ⟨_, _, _, q⟩ := hs
    exact False.elim q
  | cont =>
    obtain ⟨_, _, _, q⟩ := hs
    exact False.elim q
theorem FunT_ok {x qual : Str} {st : Stmt} {f : Addr} {fd : FuncData} {N ps : List Str} {k : Nat} {sp : Addr → Sp} (F : Fun K x qual st f fd) (S : FnScope N ps (defScope st)) (len : ∀ a vs H Q E, sp a vs H Q E → vs.length = ps.length)
    (hbody : ∀ (cdv : Value) (A : Around) (outer : List Env) (s : Shared) (H : Hp) (vs : List V) (Q : VK) (E : XK) (a : Addr), A.handled = some (.ref a) → HotH a H → L2H.RoomH k (A.deeper (envOfC qual (defScope st) s.heap.objs.size f cdv)) → sp a vs H Q E →
      ∃ t, PSs (cxT CX P w K mg base N qual (defScope st) f cdv A outer s H E) (defBody st) t ∧ t { nx := fun _ H' => Q .non H', rt := Q } (L2.start N vs) H) : FnT P w K mg base CX (k + 1) f fd ps sp := by
  obtain ⟨oc, od, kV, doc, pm, an, cdv, ct, osl, rfl, lk, hcd⟩ := F.ex
  exact fn_ofT lk hcd S len fun A outer s H vs Q E a hot hh hr hsp => hbody cdv A outer s H vs Q E a hot hh hr hsp
/-- defs that keep promises there, by name -/
def HasT (P : Program) (w : World) (K : PySem.W.Frag) (mg : Str → Option Value) (base : Heap) (x : Str) (k : Nat) (ps : List Str) (sp : Addr → Sp) : Prop :=
  ∃ f fd, FnT P w K mg base CX0 k f fd ps sp ∧ mg x = some (.ref f) ∧ PySem.W.keepIn K (.ref f) = true ∧ Binds K fd ps []
end
section
variable {X : Cx} {k j : Nat} {ps : List Str} {sp : Addr → Sp} {x : Str} {p pos : Pos} {e : Expr} {es : List Expr} {t : TA} {hd : Addr}
/-- f(..), where what stands at hd is being handled -/
def tCallT (hd : Addr) (sp : Addr → Sp) (t : TA) : TE := fun σ H Q => t σ H fun vs H1 => HotH hd H1 ∧ sp hd vs H1 Q E0
theorem pe_ht (h : HasT X.prog X.w X.K X.mg X.base x k ps sp) (hr : L2H.RoomH j X.A) (hot : X.A.handled = some (.ref hd)) (ha : PA X (e :: es) t) (hkj : k ≤ j := by decide) (hg : Gl X x := by rfl) (hdb : (x == ("__debug__" : Str)) = false := by decide)
    (he : starEach (e :: es) X.env = (false, eval e X.env) :: starEach es X.env := by rfl) (hpl : (backTo pos (starEach es X.env)).any (·.1) = false := by rfl) :
    PE X (.Call (.Name x p) (e :: es) [] pos) (tCallT hd sp t) := by
  obtain ⟨f, fd, F, g, kp, b⟩ := h
  refine ⟨fun pins s σ H Q I h => ?_⟩
  refine wpAny_Call_Name_kw (ld_glob I hg g ?_ hdb)
  refine PySem.W.callWith_K (h₀ := X.base) I.ok.mod.kin kp (thn (ha.run pos pins s σ H _ I h) fun us s1 ⟨vs, H1, I1, r, hh, q⟩ => ⟨I1.kIn, ?_⟩) he hpl
  have hl : us.length = ps.length := by
    rw [← r.length]
    exact F.len _ _ _ _ _ q
  have bb := b s1 us I1.kIn (by rw [List.append_nil]; exact hl)
  rw [List.append_nil] at bb
  refine wpAny_call (codeAny_mono (F.run X.A X.stack s1 H1 ⟨us, []⟩ us vs Q E0 hd (hr.mono hkj) hot hh I1.env0 bb r q) fun r s' hq => ?_)
  cases r with
  | error e => exact False.elim hq
  | ok fl =>
    cases fl with
    | ret u => exact I1.after hq
    | next => exact False.elim hq
    | brk => exact False.elim hq
    | cont => exact False.elim hq
end
/-! ### comprehensions -/
/-- an iterator's turns, there: its end asks for what is handled -/
def ItHot (hd : Addr) (J : It) : It := { go := J.go, yld := J.yld, stop := fun i H => J.stop i H ∧ HotH hd H }
structure TurnT (P : Program) (w : World) (K : PySem.W.Frag) (hd : Addr) (tg : Expr) (J : It) (fp : List Addr) (it : Addr) (tn : Nat → Heap → Prop) : Prop where
  mem : it ∈ fp
  obj : ∀ i h, tn i h → ∀ b ∈ fp, ∃ o, h.get? b = some o ∧ ∀ v, o.data ≠ .cell v
  keep : ∀ i h h', tn i h → (∀ b ∈ fp, ∀ o, h.get? b = some o → h'.get? b = some o) → tn i h'
  item : ∀ (X : Cx), X.prog = P → X.w = w → X.K = K → X.A.handled = some (.ref hd) → ∀ (i : Nat) (pins : List (Addr × Obj)) (s : Shared) (σ : L2.St) (H : Hp) (E : Value → Shared → Prop), Inv X pins σ H s → (∀ b ∈ fp, FpOk X pins H b) → tn i s.heap → J.go i H →
    wpAny (model P w) X.A (pyNext (.ref it)) (fun r s1 => ∃ u, r = some u ∧
      wpAny (model P w) X.A (letOwnedTupleGo tg (.ref it) u) (fun _ s2 => ∃ x H', Inv X pins σ H' s2 ∧ RelV x u ∧ J.yld i H x H' ∧ tn (i + 1) s2.heap ∧ ∀ b ∈ fp, H' b = none) E s1) E s
  done : ∀ (X : Cx), X.prog = P → X.w = w → X.K = K → X.A.handled = some (.ref hd) → ∀ (i : Nat) (pins : List (Addr × Obj)) (s : Shared) (σ : L2.St) (H : Hp) (E : Value → Shared → Prop), Inv X pins σ H s → (∀ b ∈ fp, FpOk X pins H b) → tn i s.heap → J.stop i H → HotH hd H →
    wpAny (model P w) X.A (pyNext (.ref it)) (fun r s1 => r = none ∧ Inv X pins σ H s1) E s
  self : ∀ (A : Around) (i : Nat) (s : Shared) (Q : Value → Shared → Prop) (E : Value → Shared → Prop), tn i s.heap → Q (.ref it) s → wpAny (model P w) A (pyIter (.ref it)) Q E s
theorem turn_rangeT {P : Program} {w : World} {K : PySem.W.Frag} {hd : Addr} {tg : Expr} (it : Addr) (lo : Int) (n : Nat) : TurnT P w K hd tg (Itr lo n) [it] it (fun i h => IsRangeIter h it (lo + (i : Nat) * 1) ((n : Int) - (i : Nat)) 1) where
  mem := by simp
  obj := by
    intro i h st b hb
    obtain rfl : b = it := by simpa using hb
    refine ⟨_, st, fun v z => ?_⟩
    have z' : Data.fields _ = Data.cell v := z
    cases z'
  keep := fun i h h' st k => k it (by simp) _ st
  item := by
    intro X hP hw hK hc i pins s σ H E I hf st hg
    subst hP hw hK
    obtain ⟨f0, f1, f2, f3, f4, f5⟩ := hf it (by simp)
    have hlt : i < n := hg
    refine wpAny_pyNext_range_item st (by omega) fun h' st' sb => ?_
    have e1 : lo + ((i : Nat) : Int) * 1 + 1 = lo + ((i + 1 : Nat) : Int) * 1 := by omega
    have e2 : (n : Int) - ((i : Nat) : Int) - 1 = (n : Int) - ((i + 1 : Nat) : Int) := by omega
    rw [e1, e2] at st'
    have J1 : Inv X pins σ H { s with heap := h', toks := s.toks + 1 } := I.turned (fun b o hb e => (sb.2 b hb).trans e) f0 f1 f3 f4 f5
    refine ⟨_, rfl, go_of (s := { s with heap := h', toks := s.toks + 1 }) (n := "range_iterator") st' rfl rfl (by decide) ⟨.int (lo + i), H, J1, ⟨s.toks, ?_⟩, ⟨rfl, rfl⟩, st', fun b hb => (hf b hb).1⟩⟩
    rw [Int.mul_one]
  done := by
    intro X hP hw hK hc i pins s σ H E I hf st hg hh
    subst hP hw hK
    obtain ⟨f0, f1, f2, f3, f4, f5⟩ := hf it (by simp)
    obtain ⟨cls, d, ea⟩ := hh
    exact HotX.pyNext_range_end_hot (exH_hot I.hok ea hc) st (by have : n ≤ i := hg; omega) fun h' eb => ⟨rfl, I.turned (t' := s.toks) (fun b o _ e => eb b o e) f0 f1 f3 f4 f5⟩
  self := fun _ _ _ _ _ st h => wpAny_pyIter_rangeiter st h
def PIET (X : Cx) (hd : Addr) (pins : List (Addr × Obj)) (σ : L2.St) (tg : Expr) (R : It → Hp → Prop) (itv : Value) (s2 : Shared) : Prop :=
  ∃ (it : Addr) (fp : List Addr) (tn : Nat → Heap → Prop) (J : It) (H' : Hp), itv = .ref it ∧ Inv X pins σ H' s2 ∧ TurnT X.prog X.w X.K hd tg J fp it tn ∧ tn 0 s2.heap ∧ (∀ b ∈ fp, FpOk X pins H' b) ∧ R (ItHot hd J) H'
structure PIT (X : Cx) (hd : Addr) (tg iter : Expr) (wi : TI) : Prop where
  run : ∀ (pins : List (Addr × Obj)) (s : Shared) (σ : L2.St) (H : Hp) (R : It → Hp → Prop), Inv X pins σ H s → wi σ H R →
    wpAny (model X.prog X.w) X.A (eval iter X.env) (fun v s1 => wpAny (model X.prog X.w) X.A (pyIter v) (PIET X hd pins σ tg R) X.xe s1) X.xe s
/-- range(n) there -/
def iRngT (hd : Addr) (ta : TA) : TI := fun σ H R => ta σ H fun vs H1 => ∃ n : Nat, vs = [.int n] ∧ n ≤ 1000 ∧ R (ItHot hd (Itr 0 n)) H1
theorem pi_rangeT {X : Cx} {hd : Addr} {tg : Expr} {a : Expr} {ta : TA} {p pos : Pos} (hg : Gl X "range") (hm : X.mg "range" = none) (ha : PA X [a] ta) (hs : starEach [a] X.env = [(false, eval a X.env)] := by rfl) : PIT X hd tg (.Call (.Name "range" p) [a] [] pos) (iRngT hd ta) := by
  refine ⟨fun pins s σ H R I h => ?_⟩
  refine Call_ (ld_blt I hg hm boot_range (PyProof.Rows.callWith_type1 (thn (ha.run pos pins s σ H _ I h) fun us s1 hh => ?_) hs rfl))
  obtain ⟨vs, H1, J1, r1, n, e, hn, q⟩ := hh
  subst e
  obtain ⟨u, rfl, t, rfl⟩ := vals1 r1
  refine call_range_1 ?_
  refine wpAny_pyIter_range (IsRange.new ..) (small_one (by omega) (by omega) (by omega) (by omega)) ?_
  have J2 : Inv X pins σ H1 { s1 with heap := s1.heap.push { cls := .type "range", data := .fields #[.int 0 s1.toks, .int n t, .int 1 (s1.toks + 1)] }, toks := s1.toks + 2 } := J1.kept fun b o e => Heap.get?_push_of_some _ e
  refine ⟨_, [_], _, _, H1, rfl, J2.kept (t' := s1.toks + 2) fun b o e => Heap.get?_push_of_some _ e, turn_rangeT _ 0 n, ?_, fun b hb => ?_, q⟩
  · have e2 : ((n : Int)) - ((0 : Nat) : Int) = Builtin.Range.rangeSize 0 n 1 := by rw [rangeSize_one]; split <;> omega
    show IsRangeIter _ _ ((0 : Int) + ((0 : Nat) : Int) * 1) ((n : Int) - ((0 : Nat) : Int)) 1
    rw [e2]
    exact Heap.get?_push_size _ rfl
  · obtain rfl := List.mem_singleton.mp hb
    exact J2.fpOk (Nat.le_refl _) (J2.hok.fresh (Nat.le_refl _))
end Wl

/-! [e for x in it if ..] where an exception is being handled. -/
namespace Wl
open PySem PySem.Spec PyProof.Rows L2
section
variable {X : Cx} {hd : Addr}
theorem lcT_core {pins : List (Addr × Obj)} {s : Shared} {σ : L2.St} {H : Hp} {Q : VK} {elt tg iter : Expr} {ifs : List Expr} {scope : Scope} {own : List (Str × Nat)} {pos pos' : Pos} {wi : TI} {g : TG} {tt : TT} {te : TE} {use : Option (Value → Sem Unit)} {Qf : Value → Shared → Prop}
    (hot : X.A.handled = some (.ref hd)) (hN : X.N.Nodup) (I : Inv X pins σ H s) (hi : PIT X hd tg iter wi) (ok : BlkOk X.N X.env.scope scope own)
    (hg : ∀ (s : Shared) (H : Hp) (C : Addr) (cl : List (Str × Addr)) (fp : List Addr), PG (X.blk s H scope (compEnvC scope cl C X.env) fp) tg g)
    (ht : ∀ (s : Shared) (H : Hp) (C : Addr) (cl : List (Str × Addr)) (fp : List Addr), PTs (X.blk s H scope (compEnvC scope cl C X.env) fp) ifs tt)
    (he : ∀ (s : Shared) (H : Hp) (C : Addr) (cl : List (Str × Addr)) (fp : List Addr), PE (X.blk s H scope (compEnvC scope cl C X.env) fp) elt te) (hs : ∀ x, foldedSetIterable iter X.env x = pure x) (h : tLc wi g tt te (own.map (·.2)) σ H Q)
    (hEnd : ∀ L C s' m H', Inv X pins σ H' s' → Q (.ref L) H' → s'.heap.Ns C m → FpOk X pins H' C → compPost (model X.prog X.w) X.A X.xe use Qf (.ref L) C (.ok .next) s') :
    wpAny (model X.prog X.w) X.A (comprehension (.ListComp elt [⟨tg, iter, ifs, 0⟩] scope pos) scope X.env pos' (newList []) false (eval iter X.env) use) Qf X.xe s := by
  refine wpAny_comprehension_free (use := use) rfl hs (closure_ok fun y hy e => ?_) ok.kind (fun y hy e => by rw [ok.uniq y hy, e]) (thn (hi.run pins s σ H _ I h) fun xv sA hx => thn hx fun itv sB hB => ?_)
  · exact (ok.free y hy e).elim (fun k => I.ok.has _ (.inl k)) (fun k => I.ok.has _ (.inr k))
  obtain ⟨it, fp, tn, J, HB, ei, IB, T, stB, fB, q⟩ := hB
  subst ei
  refine wpAny_newObj_type (newEnv_comp ?_) (by show 0 ≤ sizeLine; decide)
  generalize hL : sB.heap.objs.size = L
  have hLn : HB L = none := IB.hok.fresh (Nat.le_of_eq hL)
  obtain ⟨W, ⟨m0, w0⟩, turn⟩ := q L hLn
  generalize hsC : ({ sB with heap := sB.heap.push { cls := .type "list", data := .seq ([] : List Value).toArray } } : Shared) = sC
  have IC : Inv X pins σ (upd HB L (.lst [])) sC := by
    subst hsC
    refine IB.laid (t' := sB.toks) (fun b o e => Heap.get?_push_of_some _ e) (Nat.le_of_eq hL) ⟨Nat.zero_le _, [], 0, .nil, ?_⟩
    subst hL
    exact Heap.get?_push_size _ rfl
  have eC : sC.heap = sB.heap.push { cls := .type "list", data := .seq ([] : List Value).toArray } := by rw [← hsC]
  have fC : ∀ b ∈ fp, FpOk X pins (upd HB L (.lst [])) b ∧ b < sC.heap.objs.size := by
    intro b hb
    obtain ⟨o, e, _⟩ := T.obj _ _ stB b hb
    have hlt : b < sB.heap.objs.size := Heap.lt_size e
    refine ⟨⟨?_, (fB b hb).2⟩, by rw [eC, Heap.size_push]; exact Nat.lt_succ_of_lt hlt⟩
    rw [upd_ne (by rw [← hL]; exact Nat.ne_of_lt hlt)]
    exact (fB b hb).1
  have stC : tn 0 sC.heap := T.keep _ _ _ stB fun b _ o e => by rw [eC]; exact Heap.get?_push_of_some _ e
  have ID := block_start IC ok hN fC
  have pg := hg sC (upd HB L (.lst [])) sC.heap.objs.size (cellsFrom (sC.heap.objs.size + 1) scope.names (cloFrom X.env.cells scope.names [])) fp
  have pt := ht sC (upd HB L (.lst [])) sC.heap.objs.size (cellsFrom (sC.heap.objs.size + 1) scope.names (cloFrom X.env.cells scope.names [])) fp
  have pe := he sC (upd HB L (.lst [])) sC.heap.objs.size (cellsFrom (sC.heap.objs.size + 1) scope.names (cloFrom X.env.cells scope.names [])) fp
  show codeAny _ _ (.compStart (.ListComp elt [⟨tg, iter, ifs, 0⟩] scope pos) 0 (.ref it) (.ref L) (compEnvC scope (cellsFrom (sC.heap.objs.size + 1) scope.names (cloFrom X.env.cells scope.names [])) sC.heap.objs.size X.env)) (compPost (model X.prog X.w) X.A X.xe use Qf (.ref L) sC.heap.objs.size) { sC with heap := pushCells (sC.heap.push { cls := .type "dict", data := .dict #[] }) scope.names }
  have nfp : ∀ b ∈ fp, (upd HB L (.lst [])) b = none := fun b hb => (fC b hb).1.1
  generalize hce : compEnvC scope (cellsFrom (sC.heap.objs.size + 1) scope.names (cloFrom X.env.cells scope.names [])) sC.heap.objs.size X.env = ce at ID pg pt pe ⊢
  have cL : ce.locals = sC.heap.objs.size := by subst hce; rfl
  generalize hHC : upd HB L (.lst []) = HC at IC ID pg pt pe w0 nfp fC
  generalize hsD : ({ sC with heap := pushCells (sC.heap.push { cls := .type "dict", data := .dict #[] }) scope.names } : Shared) = sD at ID ⊢
  have stD : tn 0 sD.heap := T.keep _ _ _ stC fun b _ o e => by rw [← hsD]; exact pushCells_keeps _ _ _ _ (Heap.get?_push_of_some _ e)
  have stat : ∀ {σ' : L2.St} {H' : Hp} {s' : Shared}, Inv (X.blk sC HC scope ce fp) [] σ' H' s' → (∀ b ∈ fp, H' b = none) → ∀ b ∈ fp, FpOk (X.blk sC HC scope ce fp) [] H' b := by
    intro σ' H' s' I' hn b hb
    exact ⟨hn b hb, (I'.ok.exf b hb).1, I'.ok.exfs b hb, .inl hb, fun x c e => (I'.ok.exf b hb).2 x c e, fun p hp => absurd (show p ∈ ([] : List (Addr × Obj)) ++ [] from hp) (by simp)⟩
  have loop : codeAny (model X.prog X.w) X.A (.compLoop (.ListComp elt [⟨tg, iter, ifs, 0⟩] scope pos) 0 (.ref it) (.ref L) ce) (compPost (model X.prog X.w) X.A X.xe use Qf (.ref L) sC.heap.objs.size) sD := by
    refine compLoop_any (fun n s' => ∃ i H', Inv (X.blk sC HC scope ce fp) [] (wipe σ (own.map (·.2))) H' s' ∧ tn i s'.heap ∧ (∀ b ∈ fp, H' b = none) ∧ W i n H') ?_ m0 ⟨0, HC, ID, stD, nfp, w0⟩
    rintro n sE ⟨i, HE, IE, stE, nE, wE⟩
    rcases turn i n HE wE with ⟨stop, qq⟩ | ⟨go, Nx, hNx, step⟩
    · have td := T.done (X.blk sC HC scope ce fp) rfl rfl rfl hot i [] sE _ HE (fun _ _ => False) IE (stat IE nE) stE stop.1 stop.2
      refine thnF td fun r sF ⟨hr, IF⟩ => ?_
      subst hr
      have IG : Inv X pins σ HE sF := IC.call' (ch := fp) IF.os IF.base IF.hok IF.bare fun b hb => ⟨(fC b hb).1.2.2.2.1, (fC b hb).1.2.1, (fC b hb).1.2.2.2.2.1, (fC b hb).1.2.2.2.2.2⟩
      have nC : HE sC.heap.objs.size = none := by
        have z : HE ce.locals = none := IF.free
        rw [cL] at z
        exact z
      obtain ⟨m, hn, _⟩ := IF.loc
      have hn : sF.heap.Ns ce.locals m := hn
      rw [cL] at hn
      exact hEnd L sC.heap.objs.size sF m HE IG qq hn (IC.fpOk (Nat.le_refl _) nC)
    · have ti := T.item (X.blk sC HC scope ce fp) rfl rfl rfl hot i [] sE _ HE (fun _ _ => False) IE (stat IE nE) stE go
      refine thnF ti fun r sF ⟨u, hr, hF⟩ => ?_
      subst hr
      refine thnF hF fun _ sG ⟨x, HG, IG, rG, yG, stG, nG⟩ => ?_
      have IG' := IG.pinned (stat IG nG) (T.obj _ _ stG)
      refine thnF (pg.run _ sG _ HG x u _ IG' rG (step x HG yG)) fun _ sK ⟨σK, HK, IK, hwK, qK⟩ => ?_
      refine thnF (pt.run _ sK σK HK _ IK qK) fun b sM ⟨HM, IM, qM⟩ => ?_
      have fin : ∀ {s' : Shared} {H' : Hp}, Inv (X.blk sC HC scope ce fp) ([] ++ pinsAt fp sG.heap) σK H' s' → Nx H' → ∃ m, m < n ∧ ∃ i H', Inv (X.blk sC HC scope ce fp) [] (wipe σ (own.map (·.2))) H' s' ∧ tn i s'.heap ∧ (∀ b ∈ fp, H' b = none) ∧ W i m H' := by
        intro s' H' I' nx
        obtain ⟨m', hm, w'⟩ := hNx H' nx
        have pin' : ∀ b ∈ fp, ∀ o, sG.heap.get? b = some o → s'.heap.get? b = some o ∧ H' b = none := fun b hb o e =>
          have z := I'.pin (b, o) (List.mem_append_right _ (List.mem_append_right _ (mem_pinsAt hb e)))
          ⟨z.1, z.2.1⟩
        have hl : (wipe σ (own.map (·.2))).length = σK.length := by rw [← hwK, wipe_length]
        refine ⟨m', hm, i + 1, H', (I'.unpinned (pins := [])).weak hl (fun j v e => ?_), T.keep _ _ _ stG fun b hb o e => (pin' b hb o e).1, fun b hb => ?_, w'⟩
        · rw [← hwK] at e
          exact (wipe_some e).1
        · obtain ⟨o, e, _⟩ := T.obj _ _ stG b hb
          exact (pin' b hb o e).2
      cases b with
      | false =>
        simp only [Bool.false_eq_true, if_false] at qM ⊢
        exact fin IM qM
      | true =>
        simp only [if_true] at qM ⊢
        refine thnF (pe.run _ sM σK HM _ IM qM) fun z sO ⟨yv, HO1, IO, rO, acc, hDO, hzO, nx⟩ => ?_
        exact app_ok (X := X.blk sC HC scope ce fp) IO hDO hzO rO fun sP IP => fin IP nx
  exact codeAny_compStart_list loop (T.self X.A 0 _ _ _ stD loop)
theorem pe_lcT {elt tg iter : Expr} {ifs : List Expr} {scope : Scope} {own : List (Str × Nat)} {pos : Pos} {wi : TI} {g : TG} {tt : TT} {te : TE} (hot : X.A.handled = some (.ref hd)) (hN : X.N.Nodup) (hi : PIT X hd tg iter wi) (ok : BlkOk X.N X.env.scope scope own)
    (hg : ∀ (s : Shared) (H : Hp) (C : Addr) (cl : List (Str × Addr)) (fp : List Addr), PG (X.blk s H scope (compEnvC scope cl C X.env) fp) tg g)
    (ht : ∀ (s : Shared) (H : Hp) (C : Addr) (cl : List (Str × Addr)) (fp : List Addr), PTs (X.blk s H scope (compEnvC scope cl C X.env) fp) ifs tt)
    (he : ∀ (s : Shared) (H : Hp) (C : Addr) (cl : List (Str × Addr)) (fp : List Addr), PE (X.blk s H scope (compEnvC scope cl C X.env) fp) elt te) (hs : ∀ x, foldedSetIterable iter X.env x = pure x := by intro _; rfl) :
    PE X (.ListComp elt [⟨tg, iter, ifs, 0⟩] scope pos) (tLc wi g tt te (own.map (·.2))) := by
  refine ⟨fun pins s σ H Q I h => ?_⟩
  rw [eval_ListComp]
  refine lcT_core hot hN I hi ok hg ht he hs h fun L C s' m H' I' q hn f => ⟨m, hn, fun h'' sb => ?_⟩
  obtain ⟨u0, u1, u2, u3, u4, u5⟩ := f
  exact ⟨.ref L, H', I'.turned (t' := s'.toks) (fun b o hb e => (sb.2 b hb).trans e) u0 u1 u3 u4 u5, rfl, q⟩
end
theorem walk_rangeT {a : Addr} {n : Nat} : L2.Walk (ItHot a (Itr 0 n)) n (HotH a) (YFn fun i => .int ((0 : Int) + i)) :=
  ⟨fun _ _ hi _ => hi, fun _ h => ⟨Nat.le_refl _, h⟩, fun _ _ _ _ _ _ y => y⟩
section
variable {a : Addr} {n slot : Nat} {te : TE} {vs : List Nat} {σ : L2.St} {H1 : Hp} {D : Addr} {Qd : Hp → Prop}
theorem lc_rangeT (hD : H1 D = none) (hot : HotH a H1) (f : Nat → V) (hw : ∀ x, wipe ((wipe σ vs).set slot (some x)) vs = wipe σ vs)
    (he : ∀ (k : Nat) (H : Hp), k < n → Same H1 H → ∀ Q : VK, Q (f k) H → te ((wipe σ vs).set slot (some (.int ((0 : Int) + k)))) H Q) (hn : n ≤ 1000)
    (hd : ∀ H, Same H1 H → H D = some (.lst ((List.range n).map f)) → Qd H) :
    ∃ W : Nat → Nat → Hp → Prop, (∃ m, W 0 m (upd H1 D (.lst []))) ∧ ∀ i m H, W i m H →
      ((ItHot a (Itr 0 n)).stop i H ∧ Qd H) ∨ ((ItHot a (Itr 0 n)).go i H ∧ ∃ Nx : Hp → Prop, (∀ H', Nx H' → ∃ m', m' < m ∧ W (i + 1) m' H') ∧ ∀ x H', (ItHot a (Itr 0 n)).yld i H x H' → gName slot x (wipe σ vs) H' fun σ2 H2 => wipe σ2 vs = wipe σ vs ∧ tYes σ2 H2 fun b H3 =>
        if b = true then te σ2 H3 fun y H4 => ∃ acc, H4 D = some (.lst acc) ∧ acc.length < sizeLine ∧ Nx (upd H4 D (.lst (acc ++ [y]))) else Nx H3) := by
  refine lc_it walk_rangeT (fun i H => Same H1 H ∧ H D = some (.lst ((List.range i).map f))) ⟨same_new hD, upd_same⟩ (fun i H _ h => hot.same h.1) ?_ (fun H h => hd H h.1 h.2)
  rintro i x H H' hi ⟨s, hz⟩ ⟨rfl, rfl⟩
  refine ⟨hw _, yes_it (he i _ hi s _ ⟨_, hz, ?_, same_mut s hD, ?_⟩)⟩
  · rw [List.length_map, List.length_range]
    exact small1000 (by omega)
  · rw [upd_same, List.range_succ, List.map_append]
    rfl
end
end Wl

/-! Defs that may raise: promises put together, called by name, the wishes. -/
namespace Wl
open PySem PySem.Spec PyProof.Rows L2
section
variable {P : Program} {w : World} {K : PySem.W.Frag} {mg : Str → Option Value} {base : Heap} {f : Addr} {fd : FuncData} {ps : List Str} {k j : Nat} {sp sp' : Sp} {CX : CXT}
/-- a def that lets nothing out, where exceptions are told -/
theorem FnOk_x (F : FnOk P w K mg base CX0 k f fd ps sp) : FnOk P w K mg base (L2N.CX P w) k f fd ps sp :=
  ⟨F.len, fun A outer s H args us vs Q E hr e0 hb r h => codeAny_mono (F.run A outer s H args us vs Q E hr e0 hb r h) fun r s' z => by
    cases r with
    | error e => exact False.elim z
    | ok fl => cases fl <;> exact z⟩
/-- two promises of one def -/
theorem FnOk_or (F : FnOk P w K mg base CX k f fd ps sp) (G : FnOk P w K mg base CX j f fd ps sp') : FnOk P w K mg base CX (max k j) f fd ps (fun vs H Q E => sp vs H Q E ∨ sp' vs H Q E) := by
  refine ⟨fun vs H Q E h => h.elim (F.len vs H Q E) (G.len vs H Q E), fun A outer s H args us vs Q E hr e0 hb r h => ?_⟩
  rcases h with h | h
  · exact F.run A outer s H args us vs Q E (hr.mono (Nat.le_max_left _ _)) e0 hb r h
  · exact G.run A outer s H args us vs Q E (hr.mono (Nat.le_max_right _ _)) e0 hb r h
theorem FnOk_xor (F : FnOk P w K mg base CX0 k f fd ps sp) (G : FnOk P w K mg base (L2N.CX P w) k f fd ps sp') : FnOk P w K mg base (L2N.CX P w) k f fd ps (fun vs H Q E => sp vs H Q E ∨ sp' vs H Q E) := by
  have z := FnOk_or (FnOk_x F) G
  rwa [Nat.max_self] at z
/-- as Fun.ok, for a def that may raise; what it raises has no context -/
theorem Fun_okN {x qual : Str} {st : Stmt} {N : List Str} (F : Fun K x qual st f fd) (S : FnScope N ps (defScope st)) (len : ∀ vs H Q E, sp vs H Q E → vs.length = ps.length)
    (hbody : ∀ (cdv : Value) (A : Around) (outer : List Env) (s : Shared) (H : Hp) (vs : List V) (Q : VK) (E : XK), Room k (A.deeper (envOfC qual (defScope st) s.heap.objs.size f cdv)) → sp vs H Q E →
      ∃ t, PSs (cxOf (L2N.CX P w) P w K mg base N qual (defScope st) f cdv A outer s H E) (defBody st) t ∧ t { nx := fun _ H' => Q .non H', rt := Q } (L2.start N vs) H) : FnOk P w K mg base (L2N.CX P w) (k + 1) f fd ps sp := by
  obtain ⟨oc, od, kV, doc, pm, an, cdv, ct, osl, rfl, lk, hcd⟩ := F.ex
  exact fn_of lk hcd S len fun A outer s H vs Q E hr hsp => hbody cdv A outer s H vs Q E hr hsp
def HasX (P : Program) (w : World) (K : PySem.W.Frag) (mg : Str → Option Value) (base : Heap) (x : Str) (k : Nat) (ps : List Str) (sp : Sp) : Prop :=
  ∃ f fd, FnOk P w K mg base (L2N.CX P w) k f fd ps sp ∧ mg x = some (.ref f) ∧ PySem.W.keepIn K (.ref f) = true ∧ Binds K fd ps []
def HasMX (P : Program) (w : World) (K : PySem.W.Frag) (mg : Str → Option Value) (base : Heap) (C : Addr) (m : Str) (k : Nat) (ps : List Str) (sp : Sp) : Prop :=
  ∃ f fd, FnOk P w K mg base (L2N.CX P w) k f fd ps sp ∧ Meth K C m f ∧ Binds K fd ps []
end
section
variable {X : Cx} {k j : Nat} {C : Addr} {ps : List Str} {sp : Sp} {x m : Str} {p pos apos : Pos} {e o : Expr} {es : List Expr} {ta : TE} {t : TA} {W : WX} {E : XK}
/-- what is wished, whatever the slots hold -/
def EW (n : Nat) (W : WX) : XK := fun cls d H => ∀ σ : L2.St, σ.length = n → W cls d σ H
theorem passU {n : Nat} (tk : L2N.Takes X W) (hn : X.N.length = n) : Passes (L2N.CX X.prog X.w) X (EW n W) := fun _ σ _ _ e s' I c => tk e s' (L2N.XE.of_call I (fun _ _ _ h => h σ (I.len.trans hn)) c)
theorem passE (tk : L2N.Takes X (fun cls d _ H => E cls d H)) : Passes (L2N.CX X.prog X.w) X E := fun _ _ _ _ e s' I c => tk e s' (L2N.XE.of_call (W := fun cls d _ H => E cls d H) I (fun _ _ _ h => h) c)
theorem pe_hx (h : HasX X.prog X.w X.K X.mg X.base x k ps sp) (hr : Room j X.A) (hx : Passes (L2N.CX X.prog X.w) X E) (ha : PA X (e :: es) t) (hkj : k ≤ j := by decide) (hg : Gl X x := by rfl) (hdb : (x == ("__debug__" : Str)) = false := by decide)
    (he : starEach (e :: es) X.env = (false, eval e X.env) :: starEach es X.env := by rfl) (hpl : (backTo pos (starEach es X.env)).any (·.1) = false := by rfl) :
    PE X (.Call (.Name x p) (e :: es) [] pos) (tCall sp [] E t) := by
  obtain ⟨f, fd, F, g, kp, b⟩ := h
  exact pe_call F (hr.mono hkj) hg g kp b .nil hx ha hdb he hpl
theorem pe_hmx {pl : Sem Bool} (h : HasMX X.prog X.w X.K X.mg X.base C m k ps sp) (c : Cls X.K C) (hr : Room j X.A) (hx : Passes (L2N.CX X.prog X.w) X E) (ho : PE X o ta) (ha : PA X (e :: es) t) (hkj : k ≤ j := by decide)
    (hst : starEach (e :: es) X.env = (false, eval e X.env) :: starEach es X.env := by rfl) (hpl : (backTo pos (starEach es X.env)).any (·.1) = false := by rfl)
    (ht : eval (.Call (.Attribute o m apos) (e :: es) [] pos) X.env = (do
      let ov ← eval o X.env
      standAt apos.atName
      let (f, first) ← holding [ov] (getMethod ov m pl)
      callWith pos f first (backTo pos (starEach (e :: es) X.env)) (backToKw pos (keywordEach [] X.env))) := by rfl) :
    PE X (.Call (.Attribute o m apos) (e :: es) [] pos) (tMeth C m sp [] E ta t) := by
  obtain ⟨f, fd, F, g, b⟩ := h
  exact pe_meth ho c g F (hr.mono hkj) b .nil hx ha hst hpl ht
theorem pe_hmx0 {pl : Sem Bool} (h : HasMX X.prog X.w X.K X.mg X.base C m k ps sp) (c : Cls X.K C) (hr : Room j X.A) (hx : Passes (L2N.CX X.prog X.w) X E) (ho : PE X o ta) (hkj : k ≤ j := by decide)
    (ht : eval (.Call (.Attribute o m apos) [] [] pos) X.env = (do
      let ov ← eval o X.env
      standAt apos.atName
      let (f, first) ← holding [ov] (getMethod ov m pl)
      callWith pos f first (backTo pos (starEach [] X.env)) (backToKw pos (keywordEach [] X.env))) := by rfl) :
    PE X (.Call (.Attribute o m apos) [] [] pos) (tMeth C m sp [] E ta tNil) := by
  obtain ⟨f, fd, F, g, b⟩ := h
  exact pe_meth0 ho c g F (hr.mono hkj) b .nil hx ht
end
end Wl

/-! What the words' functions refuse. -/
namespace Wl
open PySem PySem.Spec PyProof.Rows L2
/-- an error of the class at C whose field f holds v -/
def Refuses (C : Addr) (f : Str) (v : V) (H : Hp) (E : XK) : Prop := ∀ (d : Addr) (H' : Hp), Same H H' → H' d = some (.xd [(f, v)]) → E (.ref C) (some d) H'
theorem Refuses.same {C : Addr} {f : Str} {v : V} {H H' : Hp} {E : XK} (h : Refuses C f v H E) (s : Same H H') : Refuses C f v H' E := fun d H2 s2 e => h d H2 (s.trans s2) e
theorem Refuses.new {C : Addr} {f : Str} {v : V} {H H' : Hp} {E : XK} (h : Refuses C f v H E) (s : Same H H') : ∀ d, H' d = none → E (.ref C) (some d) (upd H' d (.xd [(f, v)])) := fun d hd => h d _ (s.trans (same_new hd)) upd_same
/-- a thing of some kind -/
def OddV (H : Hp) (v : V) : Prop := (∃ z, v = .str z ∧ z.length ≤ 1000) ∨ v = .non ∨ (∃ b, v = .bl b) ∨ (∃ i, v = .int i) ∨ ∃ p, v = .ref p ∧ ((∃ xs, H p = some (.tup xs)) ∨ (∃ xs, H p = some (.lst xs)) ∨ ∃ kvs, H p = some (.dK kvs))
theorem OddV.same {H H' : Hp} {v : V} (h : OddV H v) (s : Same H H') : OddV H' v := by
  rcases h with h | h | h | h | ⟨p, e, ⟨xs, h⟩ | ⟨xs, h⟩ | ⟨xs, h⟩⟩
  · exact .inl h
  · exact .inr (.inl h)
  · exact .inr (.inr (.inl h))
  · exact .inr (.inr (.inr (.inl h)))
  · exact .inr (.inr (.inr (.inr ⟨p, e, .inl ⟨xs, s _ _ h⟩⟩)))
  · exact .inr (.inr (.inr (.inr ⟨p, e, .inr (.inl ⟨xs, s _ _ h⟩)⟩)))
  · exact .inr (.inr (.inr (.inr ⟨p, e, .inr (.inr ⟨xs, s _ _ h⟩)⟩)))
def wvB : V → Bool
  | .str z => wdB z
  | _ => false
theorem OddV.wv {K : PySem.W.Frag} {H : Hp} {v : V} (h : OddV H v) : Wv K H v (wvB v) := by
  rcases h with ⟨z, e, h⟩ | h | ⟨b, h⟩ | ⟨i, h⟩ | ⟨p, e, ⟨xs, h⟩ | ⟨xs, h⟩ | ⟨xs, h⟩⟩
  · subst e
    exact .inl ⟨z, rfl, h, rfl⟩
  · subst h
    exact .inr ⟨_, .base .non, kit_ty (r := false) (by decide +kernel), rfl⟩
  · subst h
    exact .inr ⟨_, .base (.bl b), kit_ty (r := false) (by decide +kernel), rfl⟩
  · subst h
    exact .inr ⟨_, .base (.int i), kit_ty (r := false) (by decide +kernel), rfl⟩
  · subst e
    exact .inr ⟨_, .base (.tup h), kit_ty (r := false) (by decide +kernel), rfl⟩
  · subst e
    exact .inr ⟨_, .base (.lst h), kit_ty (r := false) (by decide +kernel), rfl⟩
  · subst e
    exact .inr ⟨_, .base (.dK h), kit_ty (r := false) (by decide +kernel), rfl⟩
/-- is it a tuple, and of what; is it a text -/
theorem OddV.tupQ {K : PySem.W.Frag} {H : Hp} {v : V} (h : OddV H v) : (∃ p xs, v = .ref p ∧ H p = some (.tup xs)) ∨ ∃ t, TyX K H v t ∧ PySem.W.kitOne K t (.type "tuple") = some false := by
  rcases h with ⟨z, e, h⟩ | h | ⟨b, h⟩ | ⟨i, h⟩ | ⟨p, e, ⟨xs, h⟩ | ⟨xs, h⟩ | ⟨xs, h⟩⟩
  · subst e
    exact .inr ⟨_, .base (.str z), kit_ty (r := false) (by decide +kernel)⟩
  · subst h
    exact .inr ⟨_, .base .non, kit_ty (r := false) (by decide +kernel)⟩
  · subst h
    exact .inr ⟨_, .base (.bl b), kit_ty (r := false) (by decide +kernel)⟩
  · subst h
    exact .inr ⟨_, .base (.int i), kit_ty (r := false) (by decide +kernel)⟩
  · subst e
    exact .inl ⟨p, xs, rfl, h⟩
  · subst e
    exact .inr ⟨_, .base (.lst h), kit_ty (r := false) (by decide +kernel)⟩
  · subst e
    exact .inr ⟨_, .base (.dK h), kit_ty (r := false) (by decide +kernel)⟩
theorem OddV.strQ {K : PySem.W.Frag} {H : Hp} {v : V} (h : OddV H v) : (∃ z, v = .str z ∧ z.length ≤ 1000) ∨ ∃ t, TyX K H v t ∧ PySem.W.kitOne K t (.type "str") = some false ∧ wvB v = false := by
  rcases h.wv (K := K) with ⟨z, e, l, _⟩ | ⟨t, ty, k, e⟩
  · exact .inl ⟨z, e, l⟩
  · exact .inr ⟨t, ty, k, e⟩
section
variable {P : Program} {w : World} {K : PySem.W.Frag} {mg : Str → Option Value} {base : Heap} {f : Addr} {fd : FuncData} {cW cC : Addr}
/-! ### check_word -/
/-! ### is_letter, is_change of things of any kind -/
end
end Wl



/-! Texts each once, as first met; dicts by texts. -/
namespace Wl
open PySem PySem.Spec PyProof.Rows L2
def addK (acc : List Str) (z : Str) : List Str := if z ∈ acc then acc else acc ++ [z]
def keysOf (l : List Str) : List Str := l.foldl addK []
theorem keysOf_snoc (l : List Str) (z : Str) : keysOf (l ++ [z]) = addK (keysOf l) z := by
  unfold keysOf
  rw [List.foldl_append]
  rfl
theorem mem_addK {acc : List Str} {z y : Str} : y ∈ addK acc z ↔ y ∈ acc ∨ y = z := by
  unfold addK
  split
  · constructor
    · exact .inl
    · rintro (h | rfl) <;> assumption
  · simp
theorem foldK_mem {y : Str} : ∀ {l acc : List Str}, y ∈ l.foldl addK acc ↔ y ∈ acc ∨ y ∈ l
  | [], acc => by simp
  | z :: l, acc => by
    rw [List.foldl_cons, foldK_mem (l := l), mem_addK, List.mem_cons]
    constructor
    · rintro ((h | h) | h)
      · exact .inl h
      · exact .inr (.inl h)
      · exact .inr (.inr h)
    · rintro (h | h | h)
      · exact .inl (.inl h)
      · exact .inl (.inr h)
      · exact .inr h
theorem mem_keysOf {l : List Str} {y : Str} : y ∈ keysOf l ↔ y ∈ l := by
  unfold keysOf
  rw [foldK_mem]
  simp
theorem addK_nodup {acc : List Str} {z : Str} (h : acc.Nodup) : (addK acc z).Nodup := by
  unfold addK
  split
  · exact h
  · rename_i n
    rw [List.nodup_append]
    exact ⟨h, by simp, fun a ha b hb e => n (by rw [List.mem_singleton.mp hb] at e; exact e ▸ ha)⟩
theorem foldK_nodup : ∀ {l acc : List Str}, acc.Nodup → (l.foldl addK acc).Nodup
  | [], _, h => h
  | _ :: l, _, h => foldK_nodup (l := l) (addK_nodup h)
theorem keysOf_nodup (l : List Str) : (keysOf l).Nodup := foldK_nodup List.nodup_nil
theorem addK_len (acc : List Str) (z : Str) : (addK acc z).length ≤ acc.length + 1 := by
  unfold addK
  split
  · omega
  · simp
theorem foldK_len : ∀ (l acc : List Str), (l.foldl addK acc).length ≤ acc.length + l.length
  | [], acc => by simp
  | z :: l, acc => by
    have h1 := foldK_len l (addK acc z)
    have h2 := addK_len acc z
    rw [List.foldl_cons, List.length_cons]
    omega
theorem keysOf_len (l : List Str) : (keysOf l).length ≤ l.length := by
  have := foldK_len l []
  simpa [keysOf] using this
/-- the pairs of a dict whose keys are these texts -/
def kvZ (ad : Str → V) (l : List Str) : List (Key × V) := l.map fun z => (Sum.inr z, ad z)
theorem valV_kvZ (ad : Str → V) (z : Str) : ∀ l : List Str, valV (kvZ ad l) (Sum.inr z : Key) = if z ∈ l then some (ad z) else none
  | [] => rfl
  | d :: r => by
    by_cases h : d = z
    · subst h
      rw [if_pos List.mem_cons_self]
      exact valV_pos rfl
    · have h1 : valV (kvZ ad (d :: r)) (Sum.inr z : Key) = valV (kvZ ad r) (Sum.inr z : Key) := valV_neg fun e => h (Sum.inr.inj e)
      rw [h1, valV_kvZ ad z r]
      have h2 : (z ∈ d :: r) = (z ∈ r) := by
        simp only [List.mem_cons, eq_iff_iff]
        constructor
        · rintro (e | e)
          · exact absurd e.symm h
          · exact e
        · exact .inr
      simp only [h2]
theorem valV_in {ad : Str → V} {z : Str} {l : List Str} (h : z ∈ l) : valV (kvZ ad l) (Sum.inr z : Key) = some (ad z) := by
  rw [valV_kvZ, if_pos h]
theorem valV_out {ad : Str → V} {z : Str} {l : List Str} (h : z ∉ l) : valV (kvZ ad l) (Sum.inr z : Key) = none := by
  rw [valV_kvZ, if_neg h]
theorem kvZ_congr {a b : Str → V} {l : List Str} (h : ∀ c ∈ l, a c = b c) : kvZ a l = kvZ b l := List.map_congr_left fun c hc => by rw [h c hc]
theorem kvZ_keys (ad : Str → V) (l : List Str) : (kvZ ad l).map (fun kv => kV kv.1) = l.map V.str := by
  unfold kvZ
  rw [List.map_map]
  rfl
theorem kvZ_len (ad : Str → V) (l : List Str) : (kvZ ad l).length = l.length := List.length_map _
theorem sortS_nodup {l : List Str} (h : l.Nodup) : (sortS l).Nodup := (List.mergeSort_perm l leB).nodup_iff.mpr h
end Wl

/-! d == e of two dicts of the same texts, their values told by data. -/
namespace Wl
open PySem PySem.Spec PyProof.Rows L2
def rEqDT (K : PySem.W.Frag) : R2 := fun x y H Q => ∃ (a b : Addr) (nms : List Str) (f g : Str → V) (fd gd : Str → PyData), x = .ref a ∧ y = .ref b ∧ H a = some (.dK (kvZ f nms)) ∧ H b = some (.dK (kvZ g nms)) ∧
  (∀ z ∈ nms, Dp K H (f z) (fd z) ∧ Dp K H (g z) (gd z) ∧ (fd z).canLay0 = true ∧ (gd z).canLay0 = true ∧ (fd z).depth ≤ 3) ∧ Q (.bl (nms.all fun z => PyData.eqv (fd z) (gd z))) H
theorem kv_mem {f : Str → V} : ∀ {nms : List Str} {va : List (Key × Value)}, KV (kvZ f nms) va → ∀ {k : Key} {v : Value}, (k, v) ∈ va → ∃ z ∈ nms, k = Sum.inr z ∧ RelV (f z) v
  | [], va, r, k, v, h => by
    cases r
    cases h
  | z :: nms, va, r, k, v, h => by
    have r' : Paired (fun (p : Key × V) (q : Key × Value) => p.1 = q.1 ∧ RelV p.2 q.2) ((Sum.inr z, f z) :: kvZ f nms) va := r
    cases r' with
    | cons e t =>
      rcases List.mem_cons.mp h with h1 | h1
      · obtain ⟨e1, e2⟩ := e
        rw [← h1] at e1 e2
        exact ⟨z, List.mem_cons_self, e1.symm, e2⟩
      · obtain ⟨y, hy, q⟩ := kv_mem (f := f) (nms := nms) t h1
        exact ⟨y, List.mem_cons_of_mem _ hy, q⟩
theorem kv_keys {f : Str → V} : ∀ {nms : List Str} {va : List (Key × Value)}, KV (kvZ f nms) va → va.map (·.1) = nms.map Sum.inr
  | [], va, r => by
    cases r
    rfl
  | z :: nms, va, r => by
    have r' : Paired (fun (p : Key × V) (q : Key × Value) => p.1 = q.1 ∧ RelV p.2 q.2) ((Sum.inr z, f z) :: kvZ f nms) va := r
    cases r' with
    | cons e t =>
      rw [List.map_cons, List.map_cons, kv_keys (f := f) (nms := nms) t, ← e.1]
section
variable {X : Cx}
theorem op_eqDT (hu : X.A.units + 64 < cLine) : OpR X (compareOp .Eq) (rEqDT X.K) := by
  intro pins s σ H x y v u Q I rx ry h
  obtain ⟨a, b, nms, f, g, fd, gd, rfl, rfl, ea, eb, hv, q⟩ := h
  obtain rfl : v = Value.ref a := rx
  obtain rfl : u = Value.ref b := ry
  obtain ⟨_, ya, va, ra, da⟩ := (show ObjOk X.prog X.w H s.heap a (.dK (kvZ f nms)) from I.hok a _ ea)
  obtain ⟨_, yb, vb, rb, db⟩ := (show ObjOk X.prog X.w H s.heap b (.dK (kvZ g nms)) from I.hok b _ eb)
  let e : Key → Bool := fun k => match k with
    | .inl _ => true
    | .inr z => PyData.eqv (fd z) (gd z)
  refine PySem.W.eq_dictsT (knd := mixKind X.prog X.w) (n := 3) (e := e) ya yb da db (fun k v' y' hm hva => ?_) (by omega) ?_
  · obtain ⟨z, hz, rfl, rv⟩ := kv_mem ra hm
    have rr := rb.val (Sum.inr z : Key)
    rw [valV_in hz] at rr
    obtain ⟨y2, hy2, ry2⟩ := rr.some_of
    rw [hva] at hy2
    obtain rfl := Option.some.inj hy2
    obtain ⟨d1, d2, c1, c2, dp⟩ := hv z hz
    obtain ⟨as, r1⟩ := Dp.reads I _ _ _ d1 rv
    obtain ⟨bs, r2⟩ := Dp.reads I _ _ _ d2 ry2
    exact .leaf fun A hA => SeqAt.eqAt_reads _ _ A s _ _ _ _ r1 r2 c1 c2 (by
      have := Nat.min_le_left (fd z).depth (gd z).depth
      omega)
  · have e1 : va.length = nms.length := by
      have := congrArg List.length (kv_keys ra)
      simpa using this
    have e2 : vb.length = nms.length := by
      have := congrArg List.length (kv_keys rb)
      simpa using this
    have e3 : (va.all fun p => (valueAt vb p.1).isSome && e p.1) = nms.all fun z => PyData.eqv (fd z) (gd z) := by
      have h1 : (va.all fun p => (valueAt vb p.1).isSome && e p.1) = (va.map (·.1)).all fun k => (valueAt vb k).isSome && e k := by
        rw [List.all_map]
        rfl
      rw [h1, kv_keys ra, List.all_map, Bool.eq_iff_iff, List.all_eq_true, List.all_eq_true]
      have sm : ∀ z ∈ nms, (valueAt vb (Sum.inr z : Key)).isSome = true := fun z hz => by
        have rr := rb.val (Sum.inr z : Key)
        rw [valV_in hz] at rr
        obtain ⟨y2, hy2, _⟩ := rr.some_of
        rw [hy2]
        rfl
      constructor
      · intro h z hz
        have := h z hz
        simp only [Function.comp, Bool.and_eq_true] at this
        exact this.2
      · intro h z hz
        simp only [Function.comp, Bool.and_eq_true]
        exact ⟨sm z hz, h z hz⟩
    rw [e3, e1, e2]
    refine ⟨.bl _, H, I, ?_, q⟩
    show _ = Value.bool _
    simp
end
end Wl

/-! v == v: a thing beside itself, data or a dict of texts with data. -/
namespace Wl
open PySem PySem.Spec PyProof.Rows L2
def SelfV (K : PySem.W.Frag) (H : Hp) (v : V) : Prop := (∃ d, Dp K H v d ∧ SeqAt.shaped d = true) ∨
  ∃ (p : Addr) (nms : List Str) (g : Str → V) (gd : Str → PyData), v = .ref p ∧ H p = some (.dK (kvZ g nms)) ∧ ∀ z ∈ nms, Dp K H (g z) (gd z) ∧ (gd z).canLay0 = true ∧ (gd z).depth ≤ 3
def rEqSelf (K : PySem.W.Frag) : R2 := fun x y H Q => x = y ∧ SelfV K H x ∧ Q (.bl true) H
theorem op_eqSelf {X : Cx} (hu : X.A.units + 64 < cLine) : OpR X (compareOp .Eq) (rEqSelf X.K) := by
  intro pins s σ H x y v u Q I rx ry h
  obtain ⟨rfl, h | h, q⟩ := h
  · obtain ⟨d, hd, sd⟩ := h
    refine op_eqD hu pins s σ H x x v u Q I rx ry ⟨d, d, hd, hd, sd, sd, ?_⟩
    rw [SeqAt.eqv_refl _ (SeqAt.canLay_of_shaped sd)]
    exact q
  · obtain ⟨p, nms, g, gd, rfl, hp, hz⟩ := h
    refine op_eqDT hu pins s σ H _ _ v u Q I rx ry ⟨p, p, nms, g, g, gd, gd, rfl, rfl, hp, hp, fun z hm => ?_, ?_⟩
    · obtain ⟨h1, h2, h3⟩ := hz z hm
      exact ⟨h1, h1, h2, h2, h3⟩
    · have : (nms.all fun z => PyData.eqv (gd z) (gd z)) = true := List.all_eq_true.mpr fun z hm => SeqAt.eqv_refl _ (hz z hm).2.1
      rw [this]
      exact q
end Wl

/-! Data of any depth under a heap that grows; a heap with one object left out. -/
namespace Wl
open PySem PySem.Spec PyProof.Rows L2
mutual
theorem dp_same {K : PySem.W.Frag} {H H' : Hp} (s : Same H H') : ∀ {v : V} {d : PyData}, Dp K H v d → Dp K H' v d
  | _, _, .non => .non
  | _, _, .bl b => .bl b
  | _, _, .int i => .int i
  | _, _, .str x => .str x
  | _, _, .lst h t => .lst (s.seq h) (dpAll_same s t)
  | _, _, .tup h t => .tup (tup_same s h) (dpAll_same s t)
theorem dpAll_same {K : PySem.W.Frag} {H H' : Hp} (s : Same H H') : ∀ {vs : List V} {ds : List PyData}, DpAll K H vs ds → DpAll K H' vs ds
  | _, _, .nil => .nil
  | _, _, .cons r t => .cons (dp_same s r) (dpAll_same s t)
end
theorem SelfV.same {K : PySem.W.Frag} {H H' : Hp} {v : V} (h : SelfV K H v) (s : Same H H') : SelfV K H' v := by
  rcases h with ⟨d, h1, h2⟩ | ⟨p, nms, g, gd, e, hp, hz⟩
  · exact .inl ⟨d, dp_same s h1, h2⟩
  · exact .inr ⟨p, nms, g, gd, e, s _ _ hp, fun z hm => ⟨dp_same s (hz z hm).1, (hz z hm).2⟩⟩
/-- new behind, new ahead -/
theorem hq_of {H H' : Hp} {p : Addr} (s : Same H H') (h : H' p = none) : H p = none := by
  cases q : H p with
  | none => rfl
  | some o =>
    rw [s p o q] at h
    cases h
/-- H without what stands at a -/
def hid (a : Addr) (H : Hp) : Hp := fun b => if b = a then none else H b
theorem hid_same {a : Addr} {H : Hp} : Same (hid a H) H := fun b o e => by
  unfold hid at e
  by_cases h : b = a
  · rw [if_pos h] at e
    cases e
  · rw [if_neg h] at e
    exact e
theorem hid_x {a : Addr} {H H' : Hp} (s : SameX a H H') : Same (hid a H) (hid a H') := fun b o e => by
  unfold hid at e ⊢
  by_cases h : b = a
  · rw [if_pos h] at e
    cases e
  · rw [if_neg h] at e ⊢
    exact s b o h e
theorem hid_at {a p : Addr} {H : Hp} {o : HO} (h : H p = some o) (hne : p ≠ a) : hid a H p = some o := by
  unfold hid
  rw [if_neg hne]
  exact h
/-- what H' has that H has not -/
def newH (H H' : Hp) : Hp := fun p => match H p with
  | none => H' p
  | some _ => none
theorem new_at {H H' : Hp} {p : Addr} {o : HO} (hn : H p = none) (h : H' p = some o) : newH H H' p = some o := by
  unfold newH
  rw [hn]
  exact h
theorem new_hid {H H' : Hp} {a : Addr} {o : HO} (h : H a = some o) : Same (newH H H') (hid a H') := fun p u e => by
  unfold newH at e
  cases q : H p with
  | some _ =>
    rw [q] at e
    cases e
  | none =>
    rw [q] at e
    exact hid_at e fun z => by
      rw [z, h] at q
      cases q
end Wl

/-! Displays of things that G tells of, whatever they are, while I stands. -/
namespace Wl
open PySem PySem.Spec PyProof.Rows L2
/-- G and I bear a growing heap -/
def Grows (G : Hp → V → Prop) : Prop := ∀ (H H' : Hp) (v : V), G H v → Same H H' → G H' v
def GrowsH (I : Hp → Prop) : Prop := ∀ (H H' : Hp), I H → Same H H' → I H'
def Bld (σ : L2.St) (I : Hp → Prop) (G : Hp → V → Prop) (te : TE) : Prop := ∀ (H : Hp) (Q : VK), I H → (∀ v H', Same H H' → G H' v → Q v H') → te σ H Q
def BldA (σ : L2.St) (I : Hp → Prop) (G : Hp → V → Prop) (n : Nat) (ta : TA) : Prop := ∀ (H : Hp) (Q : List V → Hp → Prop), I H → (∀ vs H', Same H H' → vs.length = n → (∀ v ∈ vs, G H' v) → Q vs H') → ta σ H Q
section
variable {σ : L2.St} {I : Hp → Prop} {G : Hp → V → Prop} {te : TE} {ta : TA} {n : Nat}
theorem bld_nil : BldA σ I G 0 tNil := fun H Q _ q => q [] H (Same.refl H) rfl (fun v hv => by cases hv)
theorem bld_cons (gI : GrowsH I) (gG : Grows G) (h : Bld σ I G te) (k : BldA σ I G n ta) : BldA σ I G (n + 1) (tCons te ta) := fun H Q i q => h H _ i fun v H1 s1 g1 => k H1 _ (gI _ _ i s1) fun vs H2 s2 l2 g2 => q (v :: vs) H2 (s1.trans s2) (by rw [List.length_cons, l2]) (fun u hu => by
  rcases List.mem_cons.mp hu with rfl | hu
  · exact gG _ _ _ g1 s2
  · exact g2 u hu)
/-- a constant -/
theorem bld_c {v : V} (h : ∀ H, I H → G H v) : Bld σ I G (tC v) := fun H Q i q => q v H (Same.refl H) (h H i)
/-- a display of such, as a new list -/
theorem bld_lst (gG : Grows G) (h : BldA σ I G n ta) (hn : n ≤ 1000) {H : Hp} {Q : VK} (i : I H) (q : ∀ p vs H', Same H H' → H p = none → H' p = some (.lst vs) → vs.length = n → (∀ v ∈ vs, G H' v) → Q (.ref p) H') : tLst ta σ H Q :=
  h H _ i fun vs H1 s1 l1 g1 => ⟨lzl (by omega), fun p hp => q p vs _ (s1.trans (same_new hp)) (hq_of s1 hp) upd_same l1 fun v hv => gG _ _ _ (g1 v hv) (same_new hp)⟩
/-- xs + [..] -/
theorem bld_cat (gI : GrowsH I) (gG : Grows G) {i0 m : Nat} (h : BldA σ I G n ta) (hn : n + m ≤ 1000) {H : Hp} {Q : VK} {p : Addr} {xs : List V} (i : I H) (hσ : σ[i0]? = some (some (.ref p))) (hp : H p = some (.lst xs)) (hm : xs.length = m) (hg : ∀ v ∈ xs, G H v)
    (q : ∀ r vs H', Same H H' → H r = none → H' r = some (.lst vs) → vs.length = m + n → (∀ v ∈ vs, G H' v) → Q (.ref r) H') : tOp rCat (tVar i0) (tLst ta) σ H Q := by
  refine ⟨_, hσ, bld_lst (n := n) gG h (by omega) i fun r vs H1 s1 n1 e1 l1 g1 => ⟨p, r, xs, vs, rfl, rfl, s1 _ _ hp, e1, lzl (by omega), fun t ht => ?_⟩⟩
  refine q t (xs ++ vs) _ (s1.trans (same_new ht)) (hq_of s1 ht) upd_same (by rw [List.length_append, hm, l1]) fun v hv => ?_
  rcases List.mem_append.mp hv with hv | hv
  · exact gG _ _ _ (hg v hv) (s1.trans (same_new ht))
  · exact gG _ _ _ (g1 v hv) (same_new ht)
/-- what a display's parts are, all at once -/
def BldX (σ : L2.St) (I : Hp → Prop) (R : Hp → List V → Prop) (ta : TA) : Prop := ∀ (H : Hp) (Q : List V → Hp → Prop), I H → (∀ xs H', Same H H' → I H' → R H' xs → Q xs H') → ta σ H Q
theorem bldx_c {xs : List V} (h : ∀ (H : Hp) (Q : List V → Hp → Prop), Q xs H → ta σ H Q) : BldX σ I (fun _ ys => ys = xs) ta := fun H Q i q => h H Q (q xs H (Same.refl H) i rfl)
theorem bld_tup {R : Hp → List V → Prop} (ht : BldX σ I R ta) (hl : ∀ H xs, R H xs → xs.length ≤ 1000) (g : ∀ (H : Hp) (p : Addr) (xs : List V), I H → R H xs → H p = none → G (upd H p (.tup xs)) (.ref p)) : Bld σ I G (tTup ta) := fun H Q i q =>
  ht H _ i fun xs H1 s1 i1 r1 => ⟨lzl (hl _ _ r1), fun p hp => q (.ref p) _ (s1.trans (same_new hp)) (g H1 p xs i1 r1 hp)⟩
theorem bld_lstX {R : Hp → List V → Prop} (ht : BldX σ I R ta) (hl : ∀ H xs, R H xs → xs.length ≤ 1000) (g : ∀ (H : Hp) (p : Addr) (xs : List V), I H → R H xs → H p = none → G (upd H p (.lst xs)) (.ref p)) : Bld σ I G (tLst ta) := fun H Q i q =>
  ht H _ i fun xs H1 s1 i1 r1 => ⟨lzl (hl _ _ r1), fun p hp => q (.ref p) _ (s1.trans (same_new hp)) (g H1 p xs i1 r1 hp)⟩
end
end Wl

/-! Single steps of a reading, so that the kernel need not unfold what stands in it. -/
namespace Wl
open PySem PySem.Spec PyProof.Rows L2
section
variable {te ta tb : TE} {i : Nat} {B : TS} {D : Ends} {σ : L2.St} {H : Hp} {Q : VK} {r : R2}
theorem st_asg (h : te σ H fun x H1 => B D (σ.set i (some x)) H1) : tSeq (tAsg te (gName i)) B D σ H := h
theorem st_ret (h : te σ H D.rt) : tRet te D σ H := h
theorem st_next (h : D.nx σ H) : tNext D σ H := h
theorem st_nextR {rt : VK} {bk ct : L2.St → Hp → Prop} (h : te σ H D.rt) : tNext { nx := tRet te D, rt := rt, bk := bk, ct := ct } σ H := h
theorem st_op (h : ta σ H fun x H1 => tb σ H1 fun y H2 => r x y H2 Q) : tOp r ta tb σ H Q := h
/-- behind branches: what J says -/
theorem st_join {A : TS} (J : L2.St → Hp → Prop) (h2 : ∀ σ' H', J σ' H' → B D σ' H') (h1 : ∀ D' : Ends, (∀ σ' H', J σ' H' → D'.nx σ' H') → D'.rt = D.rt → A D' σ H) : tSeq A B D σ H := h1 _ (fun σ' H' j => h2 σ' H' j) rfl
end
end Wl

/-! Rows of things of any kind: what is wrong with them, and where. -/
namespace Wl
open PySem PySem.Spec PyProof.Rows L2
abbrev VG := List (List V)
def VGAt (H : Hp) (L : Addr) (g : VG) : Prop := ∃ as : List Addr, H L = some (.tup (as.map V.ref)) ∧ Each (fun (p : Addr) (row : List V) => H p = some (.tup row)) as g
theorem VGAt.same {H H' : Hp} {L : Addr} {g : VG} (h : VGAt H L g) (s : Same H H') : VGAt H' L g := by
  obtain ⟨as, h1, h2⟩ := h
  exact ⟨as, s _ _ h1, Each.mono (fun p row e => s p _ e) h2⟩
theorem GridAt.vg {H : Hp} {L : Addr} {g : Grid} (h : GridAt H L g) : VGAt H L (g.map (List.map oV)) := by
  obtain ⟨as, h1, h2⟩ := h
  refine ⟨as, h1, ?_⟩
  clear h1
  induction h2 with
  | nil => exact .nil
  | cons a _ ih => exact .cons a ih
theorem VGAt.grid {H : Hp} {L : Addr} {g : Grid} (h : VGAt H L (g.map (List.map oV))) : GridAt H L g := by
  obtain ⟨as, h1, h2⟩ := h
  refine ⟨as, h1, ?_⟩
  clear h1
  revert h2
  induction g generalizing as with
  | nil => intro h2; cases h2; exact .nil
  | cons r g ih =>
    intro h2
    cases h2 with
    | cons a b => exact .cons a (ih _ b)
theorem VGAt.det {H : Hp} {L : Addr} {a b : VG} (h : VGAt H L a) (k : VGAt H L b) : a = b := by
  obtain ⟨as, h1, h2⟩ := h
  obtain ⟨bs, k1, k2⟩ := k
  have e : as = bs := by
    have e0 : as.map V.ref = bs.map V.ref := by
      have := h1.symm.trans k1
      injection this with this
      injection this
    exact (List.map_inj_right (fun x y z => V.ref.inj z)).mp e0
  subst e
  clear h1 k1
  induction h2 generalizing b with
  | nil => cases k2; rfl
  | cons x t ih =>
    cases k2 with
    | cons y u =>
      rw [ih u]
      congr 1
      have := x.symm.trans y
      injection this with this
      injection this
theorem oV_inj {a b : Option Str} (h : oV a = oV b) : a = b := by
  cases a <;> cases b <;> first | rfl | cases h
  rfl
theorem grid_det {H : Hp} {L : Addr} {g g' : Grid} (h : GridAt H L g) (k : GridAt H L g') : g = g' := by
  have e := VGAt.det h.vg k.vg
  exact (List.map_inj_right (fun x y z => (List.map_inj_right (fun x y z => oV_inj z)).mp z)).mp e
/-- the texts of a row -/
def strV : V → Option Str
  | .str z => some z
  | _ => none
def strR (r : List V) : List Str := r.filterMap strV
def strG (g : VG) : List Str := (g.map strR).flatten
theorem strR_snoc (r : List V) (v : V) : strR (r ++ [v]) = strR r ++ (strV v).toList := by
  unfold strR
  rw [List.filterMap_append]
  congr 1
theorem strG_snoc (g : VG) (r : List V) : strG (g ++ [r]) = strG g ++ strR r := by
  unfold strG
  simp
def aheadV (g : VG) (i j : Nat) : List Str := strG (g.take i) ++ strR ((g.getD i []).take j)
/-- a part that is no lake and no name, or a name that is known -/
def oddC (known : List Str) : V → Bool
  | .non => false
  | .str z => !wdB z || decide (z ∈ known)
  | _ => true
def OddAt (g : VG) (i j : Nat) : Prop := ∃ row v, g[i]? = some row ∧ row[j]? = some v ∧ oddC (aheadV g i j) v = true
def First (g : VG) : Option (Nat × Nat) → Prop
  | none => ∀ i j, ¬ OddAt g i j
  | some (i, j) => OddAt g i j ∧ ∀ i' j', (i' < i ∨ i' = i ∧ j' < j) → ¬ OddAt g i' j'
theorem First.det {g : VG} {a b : Option (Nat × Nat)} (h : First g a) (k : First g b) : a = b := by
  cases a with
  | none =>
    cases b with
    | none => rfl
    | some q => exact absurd k.1 (h _ _)
  | some p =>
    cases b with
    | none => exact absurd h.1 (k _ _)
    | some q =>
      obtain ⟨i, j⟩ := p
      obtain ⟨i', j'⟩ := q
      have h1 : ¬ (i' < i ∨ i' = i ∧ j' < j) := fun c => h.2 _ _ c k.1
      have h2 : ¬ (i < i' ∨ i = i' ∧ j < j') := fun c => k.2 _ _ c h.1
      have e1 : i = i' := by omega
      have e2 : j = j' := by omega
      rw [e1, e2]
theorem getD_of {g : VG} {i : Nat} {row : List V} (h : g[i]? = some row) : g.getD i [] = row := by
  rw [List.getD_eq_getElem?_getD, h]
  rfl
theorem ahead_nil {g : VG} {i : Nat} {row : List V} (h : g[i]? = some row) : aheadV g i 0 = strG (g.take i) := by
  unfold aheadV strR
  simp
theorem ahead_step {g : VG} {i j : Nat} {row : List V} {v : V} (h : g[i]? = some row) (k : row[j]? = some v) : aheadV g i (j + 1) = aheadV g i j ++ (strV v).toList := by
  unfold aheadV
  rw [getD_of h, take_snoc k, strR_snoc, List.append_assoc]
theorem ahead_end {g : VG} {i : Nat} {row : List V} (h : g[i]? = some row) : aheadV g i row.length = strG (g.take (i + 1)) := by
  unfold aheadV
  rw [getD_of h, List.take_length, take_snoc h, strG_snoc]
/-- what stands where nothing is odd -/
theorem good_cell {known : List Str} {v : V} (h : oddC known v = false) : v = .non ∨ ∃ z, v = .str z ∧ IsWd z ∧ z ∉ known := by
  cases v with
  | non => exact .inl rfl
  | str z =>
    have h' : (!wdB z || decide (z ∈ known)) = false := h
    rw [Bool.or_eq_false_iff, decide_eq_false_iff_not] at h'
    refine .inr ⟨z, rfl, ?_, h'.2⟩
    have := h'.1
    cases hw : wdB z with
    | true => exact hw
    | false => rw [hw] at this; cases this
  | _ => cases h
theorem First.cell {g : VG} (h : First g none) {i j : Nat} {row : List V} {v : V} (h1 : g[i]? = some row) (h2 : row[j]? = some v) : oddC (aheadV g i j) v = false := by
  cases e : oddC (aheadV g i j) v with
  | false => rfl
  | true => exact absurd ⟨row, v, h1, h2, e⟩ (h i j)
theorem First.ndR {g : VG} (h : First g none) {i : Nat} {row : List V} (h1 : g[i]? = some row) (n0 : (strG (g.take i)).Nodup) : ∀ j, j ≤ row.length → (aheadV g i j).Nodup
  | 0, _ => by rw [ahead_nil h1]; exact n0
  | j + 1, hj => by
    have h2 : row[j]? = some row[j] := List.getElem?_eq_getElem (by omega)
    have ih := First.ndR h h1 n0 j (by omega)
    rw [ahead_step h1 h2]
    rcases good_cell (h.cell h1 h2) with e | ⟨z, e, _, hz⟩
    · rw [e]
      simpa [strV] using ih
    · rw [e]
      show (aheadV g i j ++ [z]).Nodup
      rw [List.nodup_append]
      refine ⟨ih, by simp, fun a ha b hb => ?_⟩
      rw [List.mem_singleton] at hb
      subst hb
      intro q
      subst q
      exact hz ha
theorem First.nd {g : VG} (h : First g none) : ∀ i, i ≤ g.length → (strG (g.take i)).Nodup
  | 0, _ => by simp [strG]
  | i + 1, hi => by
    have h1 : g[i]? = some g[i] := List.getElem?_eq_getElem (by omega)
    rw [← ahead_end h1]
    exact First.ndR h h1 (First.nd h i (by omega)) _ (Nat.le_refl _)
def gridV (g : VG) : Grid := g.map (List.map strV)
theorem names_gridV (g : VG) : names (gridV g) = strG g := by
  unfold names gridV strG
  induction g with
  | nil => rfl
  | cons r g ih =>
    rw [List.map_cons, List.flatten_cons, List.filterMap_append, ih, List.map_cons, List.flatten_cons]
    congr 1
    unfold strR
    rw [List.filterMap_map]
    rfl
theorem First.grid {g : VG} (h : First g none) : (gridV g).map (List.map oV) = g := by
  unfold gridV
  rw [List.map_map]
  have : ∀ r ∈ g, (List.map oV ∘ List.map strV) r = r := by
    intro r hr
    obtain ⟨i, hi⟩ := List.mem_iff_getElem?.mp hr
    show (r.map strV).map oV = r
    rw [List.map_map]
    have : ∀ v ∈ r, (oV ∘ strV) v = v := by
      intro v hv
      obtain ⟨j, hj⟩ := List.mem_iff_getElem?.mp hv
      rcases good_cell (h.cell hi hj) with e | ⟨z, e, _⟩
      · rw [e]; rfl
      · rw [e]; rfl
    rw [List.map_congr_left this, List.map_id']
  rw [List.map_congr_left this, List.map_id']
theorem First.wd {g : VG} (h : First g none) : ∀ z ∈ strG g, IsWd z := by
  intro z hz
  unfold strG at hz
  rw [List.mem_flatten] at hz
  obtain ⟨l, hl, hz⟩ := hz
  obtain ⟨r, hr, rfl⟩ := List.mem_map.mp hl
  obtain ⟨i, hi⟩ := List.mem_iff_getElem?.mp hr
  obtain ⟨v, hv, e⟩ := List.mem_filterMap.mp hz
  obtain ⟨j, hj⟩ := List.mem_iff_getElem?.mp hv
  rcases good_cell (h.cell hi hj) with q | ⟨y, q, hy, _⟩
  · rw [q] at e; cases e
  · rw [q] at e
    cases e
    exact hy
structure SizeV (g : VG) (wd : Nat) : Prop where
  h1 : 1 ≤ g.length
  h6 : g.length ≤ 6
  w1 : 1 ≤ wd
  w6 : wd ≤ 6
  rows : ∀ r ∈ g, r.length = wd
structure Good0 (g : Grid) (wd : Nat) : Prop where
  h1 : 1 ≤ g.length
  h6 : g.length ≤ 6
  w1 : 1 ≤ wd
  w6 : wd ≤ 6
  rows : ∀ r ∈ g, r.length = wd
  nd : (names g).Nodup
  wd : ∀ z ∈ names g, IsWd z
theorem First.good0 {g : VG} {wd : Nat} (h : First g none) (s : SizeV g wd) : Good0 (gridV g) wd := by
  have e : g.take g.length = g := List.take_length
  refine ⟨?_, ?_, s.w1, s.w6, ?_, ?_, ?_⟩
  · unfold gridV; rw [List.length_map]; exact s.h1
  · unfold gridV; rw [List.length_map]; exact s.h6
  · intro r hr
    obtain ⟨q, hq, rfl⟩ := List.mem_map.mp hr
    rw [List.length_map]
    exact s.rows q hq
  · rw [names_gridV]
    have := h.nd g.length (Nat.le_refl _)
    rw [e] at this
    exact this
  · rw [names_gridV]
    exact h.wd
/-- a good grid has nothing odd -/
theorem strV_oV (o : Option Str) : strV (oV o) = o := by cases o <;> rfl
theorem gridV_oV (g : Grid) : gridV (g.map (List.map oV)) = g := by
  unfold gridV
  rw [List.map_map]
  have : ∀ r ∈ g, (List.map strV ∘ List.map oV) r = r := by
    intro r _
    show (r.map oV).map strV = r
    rw [List.map_map]
    have : ∀ v ∈ r, (strV ∘ oV) v = v := fun v _ => strV_oV v
    rw [List.map_congr_left this, List.map_id']
  rw [List.map_congr_left this, List.map_id']
/-- what each row is, of a thing that may be none -/
def TupO (H : Hp) (x : V) (o : Option (List V)) : Prop := (∃ p ys, x = .ref p ∧ H p = some (.tup ys) ∧ o = some ys) ∨ (o = none ∧ OddV H x ∧ ∀ p ys, x = .ref p → H p ≠ some (.tup ys))
theorem OddV.tupO {H : Hp} {x : V} (h : OddV H x) : ∃ o, TupO H x o := by
  by_cases c : ∃ p ys, x = .ref p ∧ H p = some (.tup ys)
  · obtain ⟨p, ys, e, k⟩ := c
    exact ⟨some ys, .inl ⟨p, ys, e, k, rfl⟩⟩
  · exact ⟨none, .inr ⟨rfl, h, fun p ys e k => c ⟨p, ys, e, k⟩⟩⟩
theorem TupO.same {H H' : Hp} {x : V} {o : Option (List V)} (h : TupO H x o) (s : Same H H') : TupO H' x o := by
  rcases h with ⟨p, ys, e, k, e2⟩ | ⟨e, ho, n⟩
  · exact .inl ⟨p, ys, e, s _ _ k, e2⟩
  · refine .inr ⟨e, ho.same s, fun p ys e2 k => ?_⟩
    subst e2
    rcases ho with ⟨z, q, _⟩ | q | ⟨b, q⟩ | ⟨i, q⟩ | ⟨p2, q, h⟩
    · cases q
    · cases q
    · cases q
    · cases q
    · cases q
      rcases h with ⟨xs, h⟩ | ⟨xs, h⟩ | ⟨xs, h⟩
      · exact n _ _ rfl h
      · rw [s _ _ h] at k; cases k
      · rw [s _ _ h] at k; cases k
def rowOk (n : Nat) : Option (List V) → Bool
  | none => false
  | some ys => decide (1 ≤ ys.length) && decide (ys.length ≤ 6) && decide (ys.length = n)
def len1 : List (Option (List V)) → Nat
  | some ys :: _ => ys.length
  | _ => 0
def areB (os : List (Option (List V))) : Bool := decide (1 ≤ os.length) && decide (os.length ≤ 6) && os.all (rowOk (len1 os))
theorem areB_size {g : VG} (h : areB (g.map some) = true) : ∃ wd, SizeV g wd := by
  unfold areB at h
  rw [Bool.and_eq_true, Bool.and_eq_true, decide_eq_true_eq, decide_eq_true_eq, List.length_map, List.all_eq_true] at h
  obtain ⟨⟨h1, h6⟩, h2⟩ := h
  have hr : ∀ r ∈ g, 1 ≤ r.length ∧ r.length ≤ 6 ∧ r.length = len1 (g.map some) := by
    intro r hr
    have := h2 (some r) (List.mem_map.mpr ⟨r, hr, rfl⟩)
    unfold rowOk at this
    rw [Bool.and_eq_true, Bool.and_eq_true, decide_eq_true_eq, decide_eq_true_eq, decide_eq_true_eq] at this
    exact ⟨this.1.1, this.1.2, this.2⟩
  cases g with
  | nil => simp at h1
  | cons r g =>
    have h0 := hr r List.mem_cons_self
    refine ⟨r.length, h1, h6, h0.1, h0.2.1, fun q hq => ?_⟩
    have := hr q hq
    rw [this.2.2]
    rfl
theorem size_areB {g : VG} {wd : Nat} (s : SizeV g wd) : areB (g.map some) = true := by
  unfold areB
  rw [Bool.and_eq_true, Bool.and_eq_true, decide_eq_true_eq, decide_eq_true_eq, List.length_map, List.all_eq_true]
  refine ⟨⟨s.h1, s.h6⟩, fun o ho => ?_⟩
  obtain ⟨r, hr, rfl⟩ := List.mem_map.mp ho
  have e : len1 (g.map some) = wd := by
    cases g with
    | nil => cases hr
    | cons a b => exact s.rows a List.mem_cons_self
  show (decide (1 ≤ r.length) && decide (r.length ≤ 6) && decide (r.length = len1 (g.map some))) = true
  rw [e, s.rows r hr, decide_eq_true s.w1, decide_eq_true s.w6, decide_eq_true rfl]
  rfl
/-- what becomes of a thing that is handed in as rows: none, let; some none, refused with no place; some p, with the place p -/
def LandDue (H : Hp) (v : V) (due : Option (Option (Nat × Nat))) : Prop :=
  (due = some none ∧ TupO H v none) ∨
  (due = some none ∧ ∃ L xs os, v = .ref L ∧ H L = some (.tup xs) ∧ Each (TupO H) xs os ∧ areB os = false) ∨
  (∃ L g wd o, v = .ref L ∧ VGAt H L g ∧ SizeV g wd ∧ (∀ r ∈ g, ∀ x ∈ r, OddV H x) ∧ First g o ∧ due = (match o with | some p => some (some p) | none => if strG g = [] then some none else none))
theorem LandDue.same {H H' : Hp} {v : V} {due : Option (Option (Nat × Nat))} (h : LandDue H v due) (s : Same H H') : LandDue H' v due := by
  rcases h with ⟨e, h⟩ | ⟨e, L, xs, os, e2, h1, h2, h3⟩ | ⟨L, g, wd, o, e, h1, h2, h3, h4, h5⟩
  · exact .inl ⟨e, h.same s⟩
  · exact .inr (.inl ⟨e, L, xs, os, e2, s _ _ h1, Each.mono (fun a b t => t.same s) h2, h3⟩)
  · exact .inr (.inr ⟨L, g, wd, o, e, h1.same s, h2, fun r hr x hx => (h3 r hr x hx).same s, h4, h5⟩)
def PlaceAt (H : Hp) : Option (Nat × Nat) → V → Prop
  | none, v => v = .non
  | some (i, j), v => ∃ q, v = .ref q ∧ H q = some (.tup [.int (i : Int), .int (j : Int)])
theorem PlaceAt.same {H H' : Hp} {o : Option (Nat × Nat)} {v : V} (h : PlaceAt H o v) (s : Same H H') : PlaceAt H' o v := by
  cases o with
  | none => exact h
  | some p =>
    obtain ⟨q, e, k⟩ := h
    exact ⟨q, e, s _ _ k⟩
end Wl

namespace Wl
open PySem PySem.Spec PyProof.Rows L2
theorem TupO.kit {K : PySem.W.Frag} {H : Hp} {x : V} (h : TupO H x none) : ∃ t, TyX K H x t ∧ PySem.W.kitOne K t (.type "tuple") = some false := by
  rcases h with ⟨p, ys, e, k, e2⟩ | ⟨e, ho, n⟩
  · cases e2
  · rcases ho.tupQ (K := K) with ⟨p, ys, e, k⟩ | h
    · exact absurd k (n p ys e)
    · exact h
theorem TupO.some_ {H : Hp} {x : V} {ys : List V} (h : TupO H x (some ys)) : ∃ p, x = .ref p ∧ H p = some (.tup ys) := by
  rcases h with ⟨p, zs, e, k, e2⟩ | ⟨e, _⟩
  · cases e2
    exact ⟨p, e, k⟩
  · cases e
theorem all_false {α : Type} {p : α → Bool} {xs : List α} {i : Nat} {x : α} (h : xs[i]? = some x) (e : p x = false) : xs.all p = false := by
  rw [List.all_eq_false]
  exact ⟨x, List.mem_of_getElem? h, by rw [e]; decide⟩
theorem areB_row {os : List (Option (List V))} {i : Nat} {o : Option (List V)} (h : os[i]? = some o) (e : rowOk (len1 os) o = false) : areB os = false := by
  unfold areB
  rw [all_false h e, Bool.and_false]
section
variable {P : Program} {w : World} {K : PySem.W.Frag} {mg : Str → Option Value} {base : Heap} {f : Addr} {fd : FuncData}
def spAreO : Sp := fun vs H Q _ => ∃ (v : V) (b : Bool), vs = [v] ∧ (b = false ∧ TupO H v none ∨ ∃ L xs os, v = .ref L ∧ H L = some (.tup xs) ∧ Each (TupO H) xs os ∧ b = areB os) ∧ Q (.bl b) H
theorem ok_areO (F : Fun K "are_rows" "are_rows" sAreRows f fd) (B : Bi mg) (G : Gk mg) : FnOk P w K mg base CX0 1 f fd ["thing"] spAreO := by
  obtain ⟨t1, g1⟩ := G.mrows
  obtain ⟨t2, g2⟩ := G.mcols
  refine F.ok scAreRows (fun vs H Q E h => ?_) (fun cdv A outer s H vs Q E hr h => ?_)
  · obtain ⟨v, b, rfl, _⟩ := h
    rfl
  · obtain ⟨v, b, rfl, hv, q⟩ := h
    refine ⟨_, pss_cons (ps_if (PW.pt (pw_or (pt_not (pt_val (pe_callB call_isi (by rfl) B.isi (by decide +kernel) (pa_cons (pv 0) (pa_cons (pe_bltn (v := .ty "tuple") (by rfl) B.tuple (by decide +kernel) rfl) pa_nil)))))
        (pw_or1 (pt_not (pt_chain op_le op_le pe_int (pe_callB call_len_seq (by rfl) B.len PySem.boot_len (pa_cons (pv 0) pa_nil)) (pe_glob (v := .int 6) rfl g1 ⟨_, rfl⟩)))))) (pss_one (ps_ret pe_bl)) pss_nil)
      (pss_cons (ps_for PassesOwn.never rfl (pi_tup (pv 0)) (pg_name (i := 1) scAreRows.nd rfl (.inl rfl))
        (pss_one (ps_if (PW.pt (pw_or (pt_not (pt_val (pe_callB call_isi (by rfl) B.isi (by decide +kernel) (pa_cons (pv 1) (pa_cons (pe_bltn (v := .ty "tuple") (by rfl) B.tuple (by decide +kernel) rfl) pa_nil)))))
          (pw_or (pt_not (pt_chain op_le op_le pe_int (pe_callB call_len_seq (by rfl) B.len PySem.boot_len (pa_cons (pv 1) pa_nil)) (pe_glob (v := .int 6) rfl g2 ⟨_, rfl⟩)))
          (pw_or1 (pt_cmpR op_ne (pe_callB call_len_seq (by rfl) B.len PySem.boot_len (pa_cons (pv 1) pa_nil)) (pe_callB call_len_seq (by rfl) B.len PySem.boot_len (pa_cons (pe_ix ix_tup (pv 0) pe_int (fun _ _ => rfl)) pa_nil)) (nomark _)))))) (pss_one (ps_ret pe_bl)) pss_nil)))
      (pss_one (ps_ret pe_bl))), ?_⟩
    rcases hv with ⟨rfl, hv⟩ | ⟨L, xs, os, rfl, hL, he, rfl⟩
    · obtain ⟨t, ty, hk⟩ := hv.kit (K := K)
      exact ⟨_, rfl, _, _, _, _, _, rfl, .ty "tuple", ty, hk, false, rfl, iteT q⟩
    · have hST : SqT K H L xs := .inl (.inl hL)
      have hlen : os.length = xs.length := he.length.symm
      refine ⟨_, rfl, _, _, _, _, _, rfl, .ty "tuple", .base (.tup hL), kit_ty (r := true) (by decide +kernel), true, rfl, ?_⟩
      refine iteF ⟨_, rfl, L, _, rfl, .inr hST, _, _, rfl, rfl, _, rfl, ite_b (fun e1 => ?_) (fun e1 => ?_)⟩
      · have e1' := of_decide_eq_true e1
        refine ⟨_, _, rfl, rfl, _, rfl, not_b (fun e2 => ?_) (fun e2 => ?_)⟩
        · have e2' := of_decide_eq_false e2
          have : areB os = false := by
            unfold areB
            rw [decide_eq_false (show ¬ os.length ≤ 6 by omega), Bool.and_false, Bool.false_and]
          rw [this] at q
          exact q
        · have e2' := of_decide_eq_true e2
          refine ⟨_, rfl, L, rfl, ⟨_, hST⟩, for_tup (K := K) (a := L) (xs := xs) (fun i σ H' => (∃ y, σ = [some (.ref L), y]) ∧ H' = H ∧ ∀ k o, k < i → os[k]? = some o → rowOk (len1 os) o = true) ⟨⟨_, rfl⟩, rfl, fun k o hk => absurd hk (by omega)⟩ (fun i σ H' _ h => by rw [h.2.1]; exact hST) ?_ ?_⟩
          · rintro i x σ H' hx ⟨⟨y, rfl⟩, rfl, hall⟩
            obtain ⟨o, ho, hto⟩ := he.get hx
            have bad : rowOk (len1 os) o = false → Q (.bl false) H' := fun e => by
              rw [areB_row ho e] at q
              exact q
            cases o with
            | none =>
              obtain ⟨t, ty, hk⟩ := hto.kit (K := K)
              exact ⟨_, rfl, _, _, _, _, _, rfl, .ty "tuple", ty, hk, false, rfl, iteT (bad rfl)⟩
            | some ys =>
              obtain ⟨p, rfl, hp⟩ := hto.some_
              have hrT : SqT K H' p ys := .inl (.inl hp)
              have h0 : ∃ p0 ys0, xs[0]? = some (.ref p0) ∧ H' p0 = some (.tup ys0) ∧ len1 os = ys0.length := by
                have : ∃ o0, os[0]? = some o0 := ⟨os[0], List.getElem?_eq_getElem (by have := (List.getElem?_eq_some_iff.mp hx).1; omega)⟩
                obtain ⟨o0, ho0⟩ := this
                obtain ⟨x0, hx0, ht0⟩ := he.get2 ho0
                have : ∃ ys0, o0 = some ys0 := by
                  cases i with
                  | zero =>
                    rw [ho0] at ho
                    exact ⟨ys, Option.some.inj ho⟩
                  | succ i =>
                    have := hall 0 o0 (by omega) ho0
                    cases o0 with
                    | none => cases this
                    | some z => exact ⟨z, rfl⟩
                obtain ⟨ys0, rfl⟩ := this
                obtain ⟨p0, rfl, hp0⟩ := ht0.some_
                refine ⟨p0, ys0, hx0, hp0, ?_⟩
                cases os with
                | nil => cases ho0
                | cons a b =>
                  cases ho0
                  rfl
              obtain ⟨p0, ys0, hx0, hp0, hl0⟩ := h0
              have rk : rowOk (len1 os) (some ys) = (decide (1 ≤ ys.length) && decide (ys.length ≤ 6) && decide (ys.length = len1 os)) := rfl
              refine ⟨_, rfl, _, _, _, _, _, rfl, .ty "tuple", .base (.tup hp), kit_ty (r := true) (by decide +kernel), true, rfl, ?_⟩
              refine iteF ⟨_, rfl, p, _, rfl, .inr hrT, _, _, rfl, rfl, _, rfl, ite_b (fun e3 => ?_) (fun e3 => ?_)⟩
              · have e3' := of_decide_eq_true e3
                refine ⟨_, _, rfl, rfl, _, rfl, not_b (fun e4 => ?_) (fun e4 => ?_)⟩
                · have e4' := of_decide_eq_false e4
                  exact bad (by rw [rk, decide_eq_false (show ¬ ys.length ≤ 6 by omega), Bool.and_false, Bool.false_and])
                · have e4' := of_decide_eq_true e4
                  refine ⟨_, rfl, p, _, rfl, .inr hrT, _, rfl, L, _, 0, .ref p0, rfl, rfl, hST, atI_nat (j := 0) hx0, p0, _, rfl, .inr (.inl (.inl hp0)), rfl, _, rfl, ?_⟩
                  by_cases hq : ys.length = ys0.length
                  · refine iteNS (by rw [hq]) ?_
                    refine ⟨⟨_, rfl⟩, rfl, fun k o2 hk ho2 => ?_⟩
                    by_cases c : k < i
                    · exact hall k o2 c ho2
                    · have : k = i := by omega
                      subst this
                      rw [ho] at ho2
                      cases ho2
                      rw [rk, decide_eq_true (show 1 ≤ ys.length by omega), decide_eq_true (show ys.length ≤ 6 by omega), decide_eq_true (hq.trans hl0.symm)]
                      rfl
                  · have ne : ¬ (V.int (ys.length : Int) = V.int (ys0.length : Int)) := fun z => hq (by have := V.int.inj z; omega)
                    rw [decide_eq_false ne]
                    refine iteT (bad ?_)
                    rw [rk, hl0, decide_eq_false hq, Bool.and_false]
              · have e3' := of_decide_eq_false e3
                refine ⟨_, rfl, iteT (bad ?_)⟩
                rw [rk, decide_eq_false (show ¬ 1 ≤ ys.length by omega)]
                rfl
          · rintro σ H' ⟨⟨y, rfl⟩, rfl, hall⟩
            have : areB os = true := by
              unfold areB
              rw [decide_eq_true (show 1 ≤ os.length by omega), decide_eq_true (show os.length ≤ 6 by omega), List.all_eq_true.mpr]
              · rfl
              · intro o ho
                obtain ⟨k, hk⟩ := List.mem_iff_getElem?.mp ho
                exact hall k o (by have := (List.getElem?_eq_some_iff.mp hk).1; omega) hk
            rw [this] at q
            exact q
      · have e1' := of_decide_eq_false e1
        have : areB os = false := by
          unfold areB
          rw [decide_eq_false (show ¬ 1 ≤ os.length by omega)]
          rfl
        rw [this] at q
        exact ⟨_, rfl, iteT q⟩
end
end Wl

/-! The first part that is none; the spots of a grid that may have no name. -/
namespace Wl
open PySem PySem.Spec PyProof.Rows L2
/-- a name isn't among those ahead of it -/
theorem ahead_new0 {g : Grid} {wd : Nat} (gd : Good0 g wd) {i j : Nat} {row : Row} {z : Str} (hrow : g[i]? = some row) (ho : row[j]? = some (some z)) : z ∉ (spG 0 (g.take i) ++ spR i 0 (row.take j)).map (·.1) := by
  have hcz : cellAt g i j = some z := cellAt_of hrow ho
  intro hm
  obtain ⟨⟨y, r', c'⟩, hm2, rfl⟩ := List.mem_map.mp hm
  have hlt : (r', c') = (i, j) := by
    have hc2 : cellAt g r' c' = some y := by
      rcases List.mem_append.mp hm2 with h | h
      · obtain ⟨k, row2, e, h1, h2⟩ := (spG_mem _ 0).mp h
        have : r' = k := by omega
        subst this
        rw [List.getElem?_take] at h1
        split at h1
        · exact cellAt_of h1 h2
        · cases h1
      · obtain ⟨e, k, e2, h1⟩ := (spR_mem i _ 0).mp h
        have : c' = k := by omega
        subst this e
        rw [List.getElem?_take] at h1
        split at h1
        · exact cellAt_of hrow h1
        · cases h1
    obtain ⟨h1, h2⟩ := cell_inj gd.nd hc2 hcz
    rw [h1, h2]
  cases hlt
  rcases List.mem_append.mp hm2 with h | h
  · obtain ⟨k, row2, e, h1, h2⟩ := (spG_mem _ 0).mp h
    rw [List.getElem?_take] at h1
    split at h1
    · omega
    · cases h1
  · obtain ⟨e, k, e2, h1⟩ := (spR_mem i _ 0).mp h
    rw [List.getElem?_take] at h1
    split at h1
    · omega
    · cases h1
theorem ahead_len0 {g : Grid} {wd : Nat} (gd : Good0 g wd) {i j : Nat} {row : Row} (hrow : g[i]? = some row) : ((spG 0 (g.take i) ++ spR i 0 (row.take j)).map (·.1)).length ≤ 42 := by
  rw [List.map_append, spG_fst, spR_fst, List.length_append]
  have a1 := len_names (g := g.take i) (wd := wd) fun r hr => gd.rows r (List.mem_of_mem_take hr)
  have a2 : (g.take i).length ≤ 6 := by rw [List.length_take]; have := gd.h6; omega
  have a3 : (g.take i).length * wd ≤ 6 * 6 := Nat.mul_le_mul a2 gd.w6
  have a4 : (rnames (row.take j)).length ≤ (row.take j).length := List.length_filterMap_le id _
  have a5 : (row.take j).length ≤ row.length := List.length_take_le' _ _
  have a6 := gd.rows row (List.mem_of_getElem? hrow)
  have a7 := gd.w6
  omega
theorem len_filterMap {α β : Type} (f : α → Option β) (l : List α) : (l.filterMap f).length ≤ l.length := List.length_filterMap_le f l
theorem len_strG {wd : Nat} : ∀ {g : VG}, (∀ r ∈ g, r.length = wd) → (strG g).length ≤ g.length * wd
  | [], _ => by simp [strG]
  | r :: g, h => by
    have ih := len_strG (g := g) fun q hq => h q (List.mem_cons_of_mem _ hq)
    have h1 := h r List.mem_cons_self
    have h2 : (strR r).length ≤ r.length := List.length_filterMap_le _ _
    have e : strG (r :: g) = strR r ++ strG g := rfl
    rw [e, List.length_append, List.length_cons, Nat.add_mul]
    omega
theorem ahead_lenV {g : VG} {wd : Nat} (s : SizeV g wd) {i j : Nat} {row : List V} (hrow : g[i]? = some row) : (aheadV g i j).length ≤ 42 := by
  unfold aheadV
  rw [List.length_append, getD_of hrow]
  have a1 := len_strG (g := g.take i) (wd := wd) fun r hr => s.rows r (List.mem_of_mem_take hr)
  have a2 : (g.take i).length ≤ 6 := by rw [List.length_take]; have := s.h6; omega
  have a3 : (g.take i).length * wd ≤ 6 * 6 := Nat.mul_le_mul a2 s.w6
  have a4 : (strR (row.take j)).length ≤ (row.take j).length := List.length_filterMap_le _ _
  have a5 : (row.take j).length ≤ row.length := List.length_take_le' _ _
  have a6 := s.rows row (List.mem_of_getElem? hrow)
  have a7 := s.w6
  omega
/-- nothing odd ahead of this place -/
def Clean (g : VG) (i j : Nat) : Prop := ∀ i' j', (i' < i ∨ i' = i ∧ j' < j) → ¬ OddAt g i' j'
theorem Clean.step {g : VG} {i j : Nat} (h : Clean g i j) (k : ¬ OddAt g i j) : Clean g i (j + 1) := fun i' j' c o => by
  by_cases e : i' < i ∨ i' = i ∧ j' < j
  · exact h i' j' e o
  · have e1 : i' = i := by omega
    have e2 : j' = j := by omega
    subst e1 e2
    exact k o
theorem Clean.row {g : VG} {i : Nat} {row : List V} (hrow : g[i]? = some row) (h : Clean g i row.length) : Clean g (i + 1) 0 := fun i' j' c o => by
  by_cases e : i' < i ∨ i' = i ∧ j' < row.length
  · exact h i' j' e o
  · have e1 : i' = i := by omega
    subst e1
    obtain ⟨r, v, h1, h2, _⟩ := o
    rw [hrow] at h1
    cases h1
    have := (List.getElem?_eq_some_iff.mp h2).1
    omega
theorem Clean.all {g : VG} (h : Clean g g.length 0) : First g none := fun i j o => by
  obtain ⟨r, v, h1, _⟩ := id o
  have := (List.getElem?_eq_some_iff.mp h1).1
  exact h i j (.inl this) o
theorem not_odd {g : VG} {i j : Nat} {row : List V} {v : V} (h1 : g[i]? = some row) (h2 : row[j]? = some v) (h3 : oddC (aheadV g i j) v = false) : ¬ OddAt g i j := fun ⟨r, x, k1, k2, k3⟩ => by
  rw [h1] at k1
  cases k1
  rw [h2] at k2
  cases k2
  rw [h3] at k3
  cases k3
section
variable {P : Program} {w : World} {K : PySem.W.Frag} {mg : Str → Option Value} {base : Heap} {f : Addr} {fd : FuncData}
def spWrongO : Sp := fun vs H Q _ => ∃ (L : Addr) (g : VG) (wd : Nat), vs = [.ref L] ∧ VGAt H L g ∧ SizeV g wd ∧ (∀ r ∈ g, ∀ x ∈ r, OddV H x) ∧ ∀ (o : Option (Nat × Nat)) (v : V) (H' : Hp), First g o → Same H H' → PlaceAt H' o v → Q v H'
theorem ok_wrongO (F : Fun K "wrong_spot" "wrong_spot" sWrong f fd) (B : Bi mg) (hI : Has P w K mg base "is_word" 1 ["thing"] (spIsW K)) : FnOk P w K mg base CX0 2 f fd ["rows"] spWrongO := by
  refine F.ok scWrong (fun vs H Q E h => ?_) (fun cdv A outer s H vs Q E hr h => ?_)
  · obtain ⟨L, g, wd, rfl, _⟩ := h
    rfl
  · obtain ⟨L, g, wd, rfl, hG, gd, hod, q⟩ := h
    refine ⟨_, pss_cons (ps_set (i := 1) scWrong.nd rfl (.inl rfl) (pe_lst pa_nil))
      (pss_cons (ps_for PassesOwn.never rfl (pi_enumT (by rfl) B.enum (pa_cons (pv 0) pa_nil)) (pg_tup rfl (pgs_cons (pg_name (i := 2) scWrong.nd rfl (.inl rfl)) (pgs_cons (pg_name (i := 3) scWrong.nd rfl (.inl rfl)) pgs_nil)))
        (pss_one (ps_for PassesOwn.never rfl (pi_enumT (by rfl) B.enum (pa_cons (pv 3) pa_nil)) (pg_tup rfl (pgs_cons (pg_name (i := 4) scWrong.nd rfl (.inl rfl)) (pgs_cons (pg_name (i := 5) scWrong.nd rfl (.inl rfl)) pgs_nil)))
          (pss_cons (ps_if (pt_cmp (pc_isN (pv 5))) (pss_one ps_continue) pss_nil)
          (pss_cons (ps_if (PW.pt (pw_or (pt_not (pt_val (pe_h hI hr (pa_cons (pv 5) pa_nil)))) (pw_or1 (pt_cmpR op_in_seq (pv 5) (pv 1) (by rfl))))) (pss_one (ps_ret (pe_tup (pa_cons (pv 2) (pa_cons (pv 4) pa_nil))))) pss_nil)
          (pss_one (ps_expr (pe_bm PySem.F.plainAttrs_list PySem.F.slot_list_append PySem.F.type_list_append mt_append (pv 1) (pa_cons (pv 5) pa_nil)))))))))
      (pss_one (ps_ret pe_non))), ?_⟩
    refine ⟨lz, fun d hd => ?_⟩
    obtain ⟨as, hL, hR⟩ := id hG
    have s0 : Same H (upd H d (.lst [])) := same_new hd
    refine ⟨_, rfl, L, _, rfl, .inl (.inl (s0 _ _ hL)), for_it (walk_enumT (K := K) (a := L) (xs := as.map V.ref)) (fun i σ H' => (∃ y2 y3 y4 y5, σ = [some (.ref L), some (.ref d), y2, y3, y4, y5]) ∧ Same H H' ∧ H' d = some (.lst ((strG (g.take i)).map V.str)) ∧ Clean g i 0)
      ⟨⟨_, _, _, _, rfl⟩, s0, upd_same, fun i' j' c => absurd c (by omega)⟩ (fun i σ H' _ h => .inl (.inl (h.2.1 _ _ hL))) ?_ ?_⟩
    · rintro i x σ H1 H2 hi ⟨⟨y2, y3, y4, y5, rfl⟩, s1, hd1, cl1⟩ ⟨T, x1, x2, rfl, hT, rfl, ex1, ex2⟩
      cases ex1
      have ex2 : (as.map V.ref)[i]? = some x2 := ex2
      rw [List.getElem?_map] at ex2
      obtain ⟨p, hp, rfl⟩ := Option.map_eq_some_iff.mp ex2
      obtain ⟨row, hrow, hH⟩ := hR.get hp
      have s2 : Same H1 (upd H1 T (.tup [.int i, .ref p])) := same_new hT
      have hp2 := s2 _ _ (s1 _ _ hH)
      refine ⟨T, _, rfl, .inl (.inl upd_same), rfl, _, _, rfl, _, _, rfl, rfl, ?_⟩
      refine ⟨_, rfl, p, _, rfl, .inl (.inl hp2), for_it (walk_enumT (K := K) (a := p) (xs := row)) (fun j σ H' => (∃ y4 y5, σ = [some (.ref L), some (.ref d), some (.int i), some (.ref p), y4, y5]) ∧ Same H H' ∧ H' d = some (.lst ((aheadV g i j).map V.str)) ∧ Clean g i j)
        ⟨⟨_, _, rfl⟩, s1.trans s2, by rw [ahead_nil hrow]; exact s2 _ _ hd1, cl1⟩ (fun j σ H' _ h => .inl (.inl (h.2.1 _ _ hH))) ?_ ?_⟩
      · rintro j x σ H3 H4 hj ⟨⟨z4, z5, rfl⟩, s3, hd3, cl3⟩ ⟨T2, x1, x2, rfl, hT2, rfl, ex1, ex2⟩
        cases ex1
        have ho : row[j]? = some x2 := ex2
        have s4 : Same H3 (upd H3 T2 (.tup [.int j, x2])) := same_new hT2
        have s04 := s3.trans s4
        have hox : OddV H x2 := hod row (List.mem_of_getElem? hrow) x2 (List.mem_of_getElem? ho)
        have bad : ∀ {Hn : Hp}, Same H Hn → oddC (aheadV g i j) x2 = true → ∀ t, Hn t = none → Q (.ref t) (upd Hn t (.tup [.int i, .int j])) := fun {Hn} sn e t ht =>
          q (some (i, j)) (.ref t) _ ⟨⟨row, x2, hrow, ho, e⟩, cl3⟩ (sn.trans (same_new ht)) ⟨t, rfl, upd_same⟩
        refine ⟨T2, _, rfl, .inl (.inl upd_same), rfl, _, _, rfl, _, _, rfl, rfl, ?_⟩
        by_cases hn : x2 = .non
        · subst hn
          refine ⟨_, rfl, _, rfl, iteT ?_⟩
          refine ⟨⟨_, _, rfl⟩, s04, ?_, cl3.step (not_odd hrow ho rfl)⟩
          rw [ahead_step hrow ho]
          simpa [strV] using s4 _ _ hd3
        · refine ⟨_, rfl, _, rfl, ?_⟩
          rw [decide_eq_false hn]
          refine iteF ⟨_, rfl, x2, wvB x2, rfl, (hox.same s04).wv, fun H5 s5 => ⟨_, rfl, not_b (fun e => ?_) (fun e => ?_)⟩⟩
          · have od : oddC (aheadV g i j) x2 = true := by
              cases x2 with
              | non => exact absurd rfl hn
              | str z =>
                show (!wdB z || decide (z ∈ aheadV g i j)) = true
                rw [show wdB z = false from e]
                rfl
              | _ => rfl
            exact ⟨_, rfl, _, rfl, lz, fun t ht => bad (s04.trans s5) od t ht⟩
          · obtain ⟨z, rfl, hz⟩ : ∃ z, x2 = .str z ∧ IsWd z := by
              cases x2 with
              | str z => exact ⟨z, rfl, e⟩
              | _ => cases e
            have hd5 := s5 _ _ (s4 _ _ hd3)
            have oc : oddC (aheadV g i j) (.str z) = decide (z ∈ aheadV g i j) := by
              show (!wdB z || decide (z ∈ aheadV g i j)) = _
              rw [show wdB z = true from hz]
              rfl
            refine ⟨_, rfl, _, rfl, d, _, rfl, .inl (.inl (.inl hd5)), rfl, flat_strs _, decide (z ∈ aheadV g i j), congrArg V.bl (inV_strs _ _), ite_b (fun e2 => ?_) (fun e2 => ?_)⟩
            · exact ⟨_, rfl, _, rfl, lz, fun t ht => bad (s04.trans s5) (oc.trans e2) t ht⟩
            · refine ⟨_, rfl, .inl ⟨rfl, _, .inl (.inl hd5)⟩, _, rfl, d, _, _, rfl, rfl, hd5, ?_, ?_⟩
              · rw [List.length_map]
                exact small1000 (by have := ahead_lenV gd hrow (j := j); omega)
              · refine ⟨⟨_, _, rfl⟩, same_mut (s04.trans s5) hd, ?_, cl3.step (not_odd hrow ho (oc.trans e2))⟩
                rw [upd_same, ahead_step hrow ho]
                simp [strV]
      · rintro σ H3 ⟨⟨z4, z5, rfl⟩, s3, hd3, cl3⟩
        refine ⟨⟨_, _, _, _, rfl⟩, s3, ?_, Clean.row hrow cl3⟩
        rw [ahead_end hrow] at hd3
        exact hd3
    · rintro σ H3 ⟨⟨y2, y3, y4, y5, rfl⟩, s3, hd3, cl3⟩
      rw [List.length_map, hR.length] at cl3
      exact q none _ H3 cl3.all s3 rfl
def spSpotsIn0 : Sp := fun vs H Q _ => ∃ (L : Addr) (g : Grid) (wd : Nat), vs = [.ref L] ∧ GridAt H L g ∧ Good0 g wd ∧
  ∀ (d : Addr) (H' : Hp), H d = none → Same H H' → SpotsAt H' d (spG 0 g) → Q (.ref d) H'
theorem ok_spotsin0 (F : Fun K "spots_in" "spots_in" sSpotsIn f fd) (B : Bi mg) : FnOk P w K mg base CX0 1 f fd ["rows"] spSpotsIn0 := by
  refine F.ok scSpotsIn (fun vs H Q E h => ?_) (fun cdv A outer s H vs Q E hr h => ?_)
  · obtain ⟨L, g, wd, rfl, _⟩ := h
    rfl
  · obtain ⟨L, g, wd, rfl, hG, gd, q⟩ := h
    refine ⟨_, pss_one (ps_ret (pe_dc2 (own := [("at", 1), ("row", 2), ("column", 3), ("part", 4)]) (vs1 := [3, 4]) (ga := gTup K 2 (gCons (gName 1) (gCons (gName 2) gNil))) (tta := tYes) (wb := iEnumT K (tCons (tVar 2) tNil)) (gb := gTup K 2 (gCons (gName 3) (gCons (gName 4) gNil))) (ttb := tB (tNotN (tVar 4))) (tk := tVar 4) (tv := tTup (tCons (tVar 1) (tCons (tVar 3) tNil))) rfl scSpotsIn.nd (pi_enumT (by rfl) B.enum (pa_cons (pv 0) pa_nil)) (blkOk_by (N := nSpotsIn) (sc := defScope sSpotsIn) (by decide +kernel)) (by decide)
      (fun _ _ _ _ _ => pg_tup rfl (pgs_cons (pg_name (i := 1) scSpotsIn.nd rfl (.inl rfl)) (pgs_cons (pg_name (i := 2) scSpotsIn.nd rfl (.inl rfl)) pgs_nil))) (fun _ _ _ _ _ => pts_nil)
      (fun _ _ _ _ _ => pi_enumT (by rfl) B.enum (pa_cons (pv 2) pa_nil)) (fun _ _ _ _ _ => pg_tup rfl (pgs_cons (pg_name (i := 3) scSpotsIn.nd rfl (.inl rfl)) (pgs_cons (pg_name (i := 4) scSpotsIn.nd rfl (.inl rfl)) pgs_nil)))
      (fun _ _ _ _ _ => pts_one (pt_cmp (pc_notN (pv 4)))) (fun _ _ _ _ _ => pv 4) (fun _ _ _ _ _ => pe_tup (pa_cons (pv 1) (pa_cons (pv 3) pa_nil))))), ?_⟩
    obtain ⟨as, hL, hR⟩ := id hG
    refine ⟨_, rfl, L, _, rfl, .inl (.inl hL), fun d hd => dc2_it (walk_enumT (K := K) (a := L) (xs := as.map V.ref)) (fun i H' => Same H H' ∧ SpotsAt H' d (spG 0 (g.take i))) ⟨same_new hd, [], upd_same, .nil⟩ (fun i H' _ h => .inl (.inl (h.1 _ _ hL))) ?_ ?_⟩
    · rintro i x H1 H2 hi ⟨s1, kvs1, hd1, e1⟩ ⟨T, x1, x2, rfl, hT, rfl, ex1, ex2⟩
      cases ex1
      have ex2 : (as.map V.ref)[i]? = some x2 := ex2
      rw [List.getElem?_map] at ex2
      obtain ⟨p, hp, rfl⟩ := Option.map_eq_some_iff.mp ex2
      obtain ⟨row, hrow, hH⟩ := hR.get hp
      have s2 : Same H1 (upd H1 T (.tup [.int i, .ref p])) := same_new hT
      have hp2 := s2 _ _ (s1 _ _ hH)
      refine ⟨T, _, rfl, .inl (.inl upd_same), rfl, _, _, rfl, _, _, rfl, rfl, rfl, yes_it ?_⟩
      refine ⟨_, rfl, p, _, rfl, .inl (.inl hp2), inn_it (walk_enumT (K := K) (a := p) (xs := row.map oV)) (fun j H' => Same H H' ∧ SpotsAt H' d (spG 0 (g.take i) ++ spR i 0 (row.take j)))
        ⟨s1.trans s2, kvs1, s2 _ _ hd1, by simpa [spR] using ent_keep (tk_same s2) e1⟩ (fun j H' _ h => .inl (.inl (h.1 _ _ hH))) ?_ ?_⟩
      · rintro j x H3 H4 hj ⟨s3, kvs3, hd3, e3⟩ ⟨T2, x1, x2, rfl, hT2, rfl, ex1, ex2⟩
        cases ex1
        have ex2 : (row.map oV)[j]? = some x2 := ex2
        rw [List.getElem?_map] at ex2
        obtain ⟨o, ho, rfl⟩ := Option.map_eq_some_iff.mp ex2
        have s4 : Same H3 (upd H3 T2 (.tup [.int j, oV o])) := same_new hT2
        refine ⟨T2, _, rfl, .inl (.inl upd_same), rfl, _, _, rfl, _, _, rfl, rfl, rfl, ?_⟩
        cases o with
        | none =>
          refine ⟨_, rfl, _, rfl, iteF ?_⟩
          refine ⟨s3.trans s4, kvs3, s4 _ _ hd3, ?_⟩
          rw [ahead_snoc ho]
          simpa using ent_keep (tk_same s4) e3
        | some z =>
          refine ⟨_, rfl, _, rfl, iteT ?_⟩
          have hd5 := s4 _ _ hd3
          have e5 := ent_keep (tk_same s4) e3
          have hv : valV kvs3 (Sum.inr z : Key) = none := ent_none e5 (ahead_new0 gd hrow ho)
          refine ⟨_, rfl, _, rfl, _, rfl, lz, fun T6 hT6 => ?_⟩
          have hd6 := (same_new (o := .tup [.int i, .int j]) hT6) _ _ hd5
          refine ⟨kvs3, Sum.inr z, rfl, hd6, ?_, same_mut ((s3.trans s4).trans (same_new hT6)) hd, kvs3 ++ [(Sum.inr z, .ref T6)], ?_, ?_⟩
          · have h1 := e5.length
            have h2 := ahead_len0 gd hrow (j := j)
            rw [List.length_map] at h2
            exact small1000 (by omega)
          · rw [putK_new _ hv, upd_same]
          · rw [ahead_snoc ho]
            refine Each.append (ent_keep (tk_updD hd6) (ent_keep (tk_new hT6) e5)) (.cons ⟨rfl, T6, rfl, ?_⟩ .nil)
            exact (tk_updD hd6) _ _ upd_same
      · rintro H3 ⟨s3, kvs3, hd3, e3⟩
        refine ⟨s3, kvs3, hd3, ?_⟩
        rw [List.length_map, List.take_length] at e3
        rw [take_snoc hrow, spG_snoc, len_take hrow, Nat.zero_add]
        exact e3
    · rintro H3 ⟨s3, kvs3, hd3, e3⟩
      have hlen : (as.map V.ref).length = g.length := by rw [List.length_map, hR.length]
      rw [hlen, List.take_length] at e3
      exact q d H3 hd s3 ⟨kvs3, hd3, e3⟩
end
end Wl

/-! xs.count(y), items and y flat. -/
namespace Wl
open PySem PySem.Spec PyProof.Rows L2
theorem countP_vals {y : V} {uy : Value} : ∀ {ys : List V} {its : List Value}, Vals ys its → ys.all flatV = true → (∀ z u, RelV z u → flatV z = true → eqU y u = eqV z y) → its.countP (eqU y) = ys.countP fun z => eqV z y
  | _, _, .nil, _, _ => rfl
  | _, _, .cons r t, f, k => by
    rw [List.all_cons, Bool.and_eq_true] at f
    rw [List.countP_cons, List.countP_cons, countP_vals (uy := uy) t f.2 k, k _ _ r f.1]
def rCntF (K : PySem.W.Frag) : V → List V → Hp → VK → Prop := fun x xs H Q => ∃ (a : Addr) (ys : List V) (y : V), x = V.ref a ∧ xs = [y] ∧ SqL K H a ys ∧ flatV y = true ∧ ys.all flatV = true ∧ Q (.int ((ys.countP fun z => eqV z y : Nat) : Int)) H
theorem mt_countF {X : Cx} : MtR X "list.count" (rCntF X.K) := by
  intro pins s σ H x xs v us Q I rx rxs h
  obtain ⟨a, ys, y, rfl, rfl, hs, fy, fys, q⟩ := h
  cases rx
  obtain ⟨uy, rfl, ry⟩ := rxs.one
  obtain ⟨its, rv, ⟨⟨cls, dd, data, sl⟩, n, ho, hc, hdn, hd⟩, hlen⟩ := I.list hs
  simp only at hc hd
  subst hc hd
  refine call_meets PySem.F.slot_list_count ⟨_, ho, rfl⟩ PySem.F.entry_list_count (PySem.F.args_list_count_2 _ _)
    (SeqAt.list_countAt a its.toArray n dd sl uy (eqU y)) ⟨ho, fun u' hu' => mem_eqAt ry fy rv fys u' (by simpa using hu'), ?_⟩
  have ec : its.toArray.toList.countP (eqU y) = ys.countP fun z => eqV z y := countP_vals (uy := uy) rv fys fun z u r f => eqU_of r f
  refine ⟨.int ((ys.countP fun z => eqV z y : Nat) : Int), H, I.tok _, ⟨s.toks, ?_⟩, q⟩
  rw [ec]
end Wl

/-! Of which class a caught exception is: what the laws' own sorting asks. -/
namespace Wl
open PySem PySem.Spec PyProof.Rows L2
/-- the program's exceptions, in their order -/
def exL : List Str := ["NoWord", "NoChanges", "NoText", "NoAge", "NoSure", "NoRings", "NoThings", "NoCount", "NoRow", "NoLand", "NoName", "NoGathering", "NoMap", "NoTelling", "NoBack", "Told", "Full", "Clash", "TooMany"]
def exN (i : Nat) : Str := exL.getD i ""
def baL : List Str := ["WordError", "LandError", "JoinError"]
def baN (i : Nat) : Str := baL.getD i ""
/-- which base the n-th has -/
def baOf (n : Nat) : Nat := if n ≤ 8 then 0 else if n ≤ 14 then 1 else 2
/-- the globals that hold the classes -/
structure SortG (mg : Str → Option Value) (ad bd : Nat → Addr) : Prop where
  own : ∀ i, i < 19 → mg (exN i) = some (.ref (ad i))
  bas : ∀ i, i < 3 → mg (baN i) = some (.ref (bd i))
  ve : mg "ValueError" = none
  le : mg "LookupError" = none
  ae : mg "ArithmeticError" = none
/-- C is the n-th class, as isinstance answers -/
structure SortC (K : PySem.W.Frag) (ad bd : Nat → Addr) (C : Addr) (n : Nat) : Prop where
  ex : ExK K C
  lt : n < 19
  own : ∀ i, i < 19 → PySem.W.kitOne K (.ref C) (.ref (ad i)) = some (decide (i = n))
  bas : ∀ i, i < 3 → PySem.W.kitOne K (.ref C) (.ref (bd i)) = some (decide (i = baOf n))
  ve : PySem.W.kitOne K (.ref C) (.type "ValueError") = some (decide (0 = baOf n))
  le : PySem.W.kitOne K (.ref C) (.type "LookupError") = some (decide (1 = baOf n))
  ae : PySem.W.kitOne K (.ref C) (.type "ArithmeticError") = some (decide (2 = baOf n))
/-- at e: a caught exception, the n-th -/
structure ExcAt (K : PySem.W.Frag) (ad bd : Nat → Addr) (H : Hp) (e : Addr) (n : Nat) : Prop where
  ex : ∃ (C : Addr) (d : Option Addr), H e = some (exH e (.ref C) d) ∧ DxOk H d ∧ SortC K ad bd C n
theorem ExcAt.same {K : PySem.W.Frag} {ad bd : Nat → Addr} {H H' : Hp} {e : Addr} {n : Nat} (h : ExcAt K ad bd H e n) (s : Same H H') : ExcAt K ad bd H' e n := by
  obtain ⟨C, d, h1, h2, h3⟩ := h.ex
  refine ⟨C, d, s _ _ h1, fun dd e => ?_, h3⟩
  obtain ⟨fs, q⟩ := h2 dd e
  exact ⟨fs, s _ _ q⟩
theorem ExcAt.hot {K : PySem.W.Frag} {ad bd : Nat → Addr} {H : Hp} {e : Addr} {n : Nat} (h : ExcAt K ad bd H e n) : HotH e H := by
  obtain ⟨C, d, h1, _⟩ := h.ex
  exact ⟨_, _, h1⟩
/-- isinstance(e, c) of it -/
abbrev tIs (K : PySem.W.Frag) (i : Nat) (c : V) : TE := tCB (rIsX K) (tCons (tVar i) (tCons (tC c) tNil))
section
variable {K : PySem.W.Frag} {ad bd : Nat → Addr} {H : Hp} {e : Addr} {n j : Nat} {σ : L2.St} {R : VK}
theorem is_own (i : Nat) (h : ExcAt K ad bd H e n) (h0 : σ[j]? = some (some (.ref e))) (hi : i < 19) (q : R (.bl (decide (i = n))) H) : tIs K j (.ref (ad i)) σ H R := by
  obtain ⟨C, d, h1, h2, h3⟩ := h.ex
  exact ⟨_, h0, e, C, d, _, _, _, rfl, h1, h2, h3.ex, .own _, h3.own i hi, q⟩
theorem is_bas (i : Nat) (h : ExcAt K ad bd H e n) (h0 : σ[j]? = some (some (.ref e))) (hi : i < 3) (q : R (.bl (decide (i = baOf n))) H) : tIs K j (.ref (bd i)) σ H R := by
  obtain ⟨C, d, h1, h2, h3⟩ := h.ex
  exact ⟨_, h0, e, C, d, _, _, _, rfl, h1, h2, h3.ex, .own _, h3.bas i hi, q⟩
theorem is_ve (h : ExcAt K ad bd H e n) (h0 : σ[j]? = some (some (.ref e))) (q : R (.bl (decide (0 = baOf n))) H) : tIs K j (.ty "ValueError") σ H R := by
  obtain ⟨C, d, h1, h2, h3⟩ := h.ex
  exact ⟨_, h0, e, C, d, _, _, _, rfl, h1, h2, h3.ex, .ty _, h3.ve, q⟩
theorem is_le (h : ExcAt K ad bd H e n) (h0 : σ[j]? = some (some (.ref e))) (q : R (.bl (decide (1 = baOf n))) H) : tIs K j (.ty "LookupError") σ H R := by
  obtain ⟨C, d, h1, h2, h3⟩ := h.ex
  exact ⟨_, h0, e, C, d, _, _, _, rfl, h1, h2, h3.ex, .ty _, h3.le, q⟩
theorem is_ae (h : ExcAt K ad bd H e n) (h0 : σ[j]? = some (some (.ref e))) (q : R (.bl (decide (2 = baOf n))) H) : tIs K j (.ty "ArithmeticError") σ H R := by
  obtain ⟨C, d, h1, h2, h3⟩ := h.ex
  exact ⟨_, h0, e, C, d, _, _, _, rfl, h1, h2, h3.ex, .ty _, h3.ae, q⟩
end
section
variable {X : Cx} {ad bd : Nat → Addr} {j : Nat} {x y z : Str} {p q r s pos : Pos}
/-- the terms of isinstance(e, ..) -/
theorem pe_own (i : Nat) (B : X.mg "isinstance" = none) (G : SortG X.mg ad bd) (hi : i < 19) (hg : Gl X (exN i)) (hN : X.N[j]? = some y) (hv : Vis X.env.scope y) (g1 : Gl X "isinstance" := by rfl) (h1 : (y == ("__debug__" : Str)) = false := by decide) (h2 : (y == ("__classdict__" : Str)) = false := by decide)
    (h3 : (exN i == ("__debug__" : Str)) = false := by decide)
    (he : starEach [.Name y q, .Name (exN i) r] X.env = [(false, eval (.Name y q) X.env), (false, eval (.Name (exN i) r) X.env)] := by rfl) : PE X (.Call (.Name "isinstance" p) [.Name y q, .Name (exN i) r] [] pos) (tIs X.K j (.ref (ad i))) :=
  pe_callB call_isX g1 B (by decide +kernel) (pa_cons (pe_var hN hv h1 h2) (pa_cons (pe_glob (v := .ref (ad i)) hg (G.own i hi) rfl h3) pa_nil) he)
end
def kinds (n : Nat) : List V := (List.range 19).map fun i => .bl (decide (i = n))
theorem kinds_flat (n : Nat) (h : n < 19) : (kinds n).all flatV = true := by
  have : ∀ m : Fin 19, (kinds m.1).all flatV = true := by decide +kernel
  exact this ⟨n, h⟩
theorem kinds_count (n : Nat) (h : n < 19) : (kinds n).countP (fun z => eqV z (.bl true)) = 1 := by
  have : ∀ m : Fin 19, (kinds m.1).countP (fun z => eqV z (.bl true)) = 1 := by decide +kernel
  exact this ⟨n, h⟩
theorem kinds_at (n : Nat) (h : n < 19) : (kinds n)[n]? = some (.bl true) := by
  unfold kinds
  rw [List.getElem?_map, List.getElem?_range h]
  simp
theorem kinds_none (n : Nat) (h : n < 19) (m : Nat) (z : V) (hm : m < n) (hz : (kinds n)[m]? = some z) : eqV z (.bl true) = false := by
  unfold kinds at hz
  rw [List.getElem?_map, List.getElem?_range (by omega)] at hz
  have e : z = .bl (decide (m = n)) := (Option.some.inj hz).symm
  rw [e, decide_eq_false (by omega)]
  decide +kernel
end Wl

/-! What the head reads off the frame of an own exception's class. -/
namespace Wl
open PySem PySem.Spec PyProof.Rows L2
/-- an exception's class: which it is, its field read, caught by its base -/
structure ErrC (K : PySem.W.Frag) (ad bd : Nat → Addr) (C : Addr) (n : Nat) : Prop where
  sort : SortC K ad bd C n
  xf : XfC K C
  all : PySem.W.exmAny K (.ref C) [.ref (bd 0), .ref (bd 1), .ref (bd 2)] = some true
def adK (K : PySem.W.Frag) (i : Nat) : Addr := He.ga K (exN i)
def bdK (K : PySem.W.Frag) (i : Nat) : Addr := He.ga K (baN i)
/-- what is asked of the n-th exception's class, at C; bm: its built-in bases -/
def errB (K : PySem.W.Frag) (C : Addr) (f : Str) (n : Nat) (bm : List Value) (newId : String) : Bool :=
  PySem.W.excInitIn K C bm newId && (PySem.W.excOver K C bm && (He.eqO (PySem.W.findIn K (.ref C) "__setattr__") (some (some (.builtin "object.__setattr__"))) && (He.eqO (PySem.W.takerIn K C f) (some none) &&
  (He.eqO (PySem.W.findIn K (.ref C) f) (some none) && (decide (PySem.W.subIn K (.ref C) (.type "BaseException") = some true) && (decide (PySem.W.typeIn K (.ref C) = some (.type "type")) && (PySem.W.hasDictIn K C && (PySem.W.keepIn K (.ref C) &&
  ((PySem.W.clsIn K C).isSome && (He.eqO (PySem.W.findIn K (.ref C) "__getattribute__") (some (some (.builtin "BaseException.__getattribute__"))) && (He.eqO (PySem.W.findIn K (.ref C) "__getattr__") (some none) &&
  (He.eqO (PySem.W.findIn K (.ref C) "__class__") (some (some (.builtin "object.__class__"))) && (He.eqO (PySem.W.specialIn K (.builtin "object.__class__") "__get__") (some (some (.builtin "getset_descriptor.__get__"))) &&
  (decide (PySem.W.takesIn K (.builtin "object.__class__") = some true) && (decide (PySem.W.mroIn K C (.type "object") = some true) && (((List.range 19).all fun i => decide (PySem.W.kitOne K (.ref C) (.ref (adK K i)) = some (decide (i = n)))) &&
  (((List.range 3).all fun i => decide (PySem.W.kitOne K (.ref C) (.ref (bdK K i)) = some (decide (i = baOf n)))) && (decide (PySem.W.kitOne K (.ref C) (.type "ValueError") = some (decide (0 = baOf n))) &&
  (decide (PySem.W.kitOne K (.ref C) (.type "LookupError") = some (decide (1 = baOf n))) && (decide (PySem.W.kitOne K (.ref C) (.type "ArithmeticError") = some (decide (2 = baOf n))) &&
  (decide (PySem.W.exmAny K (.ref C) [.ref (bdK K 0), .ref (bdK K 1), .ref (bdK K 2)] = some true) && decide (n < 19))))))))))))))))))))))
def bmOf (n : Nat) : List Value := if n ≤ 8 then [.type "ValueError", .type "Exception", .type "BaseException", .type "object"] else if n ≤ 14 then [.type "LookupError", .type "Exception", .type "BaseException", .type "object"] else [.type "ArithmeticError", .type "Exception", .type "BaseException", .type "object"]
def newOf (n : Nat) : String := if n ≤ 8 then "ValueError.__new__" else if n ≤ 14 then "LookupError.__new__" else "ArithmeticError.__new__"
theorem base_of (n : Nat) : ∃ B initId, BaseX B (newOf n) initId (bmOf n) := by
  unfold newOf bmOf
  by_cases h : n ≤ 8
  · rw [if_pos h, if_pos h]
    exact ⟨_, _, baseVE⟩
  · rw [if_neg h, if_neg h]
    by_cases h2 : n ≤ 14
    · rw [if_pos h2, if_pos h2]
      exact ⟨_, _, baseLE⟩
    · rw [if_neg h2, if_neg h2]
      exact ⟨_, _, baseAE⟩
section
variable {K : PySem.W.Frag} {mg : Str → Option Value} {C : Addr} {f x : Str} {n : Nat}
def errOf (K : PySem.W.Frag) (n : Nat) (f : Str) : Bool := errB K (adK K n) f n (bmOf n) (newOf n)
theorem err_ok (h : errB K C f n (bmOf n) (newOf n) = true) : ErrC K (adK K) (bdK K) C n ∧
    ∀ {q : Str} {st : Stmt} {fI : Addr} {fd : FuncData} {x : Str} {q1 q2 q3 q4 : Pos}, mg x = some (.ref C) → Meth K C "__init__" fI → Fun K "__init__" q st fI fd → Binds K fd ["self", f] [] → FnScope ["self", f] ["self", f] (defScope st) → ((["self", f] : List Str).all fun y => decide ((defScope st).names.lookup y = some .local)) = true →
      defBody st = [.Assign [.Attribute (.Name "self" q1) f q2] (.Name f q3) q4] → OwnX K mg x f C := by
  unfold errB at h
  simp only [Bool.and_eq_true] at h
  obtain ⟨h1, h2, h3, h4, h5, h6, h7, h8, h9, h10, h11, h12, h13, h14, h15, h16, h17, h18, h19, h20, h21, h22, h23⟩ := h
  have hsub := of_decide_eq_true h6
  refine ⟨⟨⟨⟨h10, He.eqO_ok h11, He.eqO_ok h12, hsub, He.eqO_ok h13, He.eqO_ok h14, of_decide_eq_true h15, of_decide_eq_true h16⟩, of_decide_eq_true h23, fun i hi => of_decide_eq_true (List.all_eq_true.mp h17 i (List.mem_range.mpr hi)), fun i hi => of_decide_eq_true (List.all_eq_true.mp h18 i (List.mem_range.mpr hi)),
    of_decide_eq_true h19, of_decide_eq_true h20, of_decide_eq_true h21⟩, ⟨He.eqO_ok h11, He.eqO_ok h12, hsub, h8⟩, of_decide_eq_true h22⟩, ?_⟩
  intro q st fI fd x q1 q2 q3 q4 hg hm hF hB hS hL hb
  obtain ⟨B, ini, BX⟩ := base_of n
  refine ⟨hg, h9, ⟨B, newOf n, ini, bmOf n, BX, h1, h2⟩, He.eqO_ok h3, He.eqO_ok h4, He.eqO_ok h5, hsub, of_decide_eq_true h7, h8, ⟨fI, fd, q, st, q1, q2, q3, q4, hm.at_, ?_, hF, hB, hS, fun y hy => of_decide_eq_true (List.all_eq_true.mp hL y hy), hb⟩⟩
  have z : (PySem.W.typeIn K (.ref fI) == some (.type "function")) = true := hm.fn
  exact beq_iff_eq.mp z
/-- the globals -/
def sortB (K : PySem.W.Frag) : Bool := ((List.range 19).all fun i => (He.Fa.glo (exN i)).ok K) && (((List.range 3).all fun i => (He.Fa.glo (baN i)).ok K) && ((He.Fa.free "ValueError").ok K && ((He.Fa.free "LookupError").ok K && (He.Fa.free "ArithmeticError").ok K)))
theorem sort_ok {h : Heap} (X : K.In h) (G : h.Ns mainGlobals mg) (c : sortB K = true) : SortG mg (adK K) (bdK K) := by
  unfold sortB at c
  simp only [Bool.and_eq_true] at c
  obtain ⟨c1, c2, c3, c4, c5⟩ := c
  exact ⟨fun i hi => He.glo_ok X G (List.all_eq_true.mp c1 i (List.mem_range.mpr hi)), fun i hi => He.glo_ok X G (List.all_eq_true.mp c2 i (List.mem_range.mpr hi)), He.free_ok X G c3, He.free_ok X G c4, He.free_ok X G c5⟩
end
end Wl

/-! checked_spots, Land's __init__, check_name, spot, neighbours: let, or refused. -/
namespace Wl
open PySem PySem.Spec PyProof.Rows L2
/-- refused with the class at cL, its place o -/
def RefPl (cL : Addr) (o : Option (Nat × Nat)) (H : Hp) (E : XK) : Prop := ∀ (v : V) (d : Addr) (H' : Hp), Same H H' → PlaceAt H' o v → H' d = some (.xd [("place", v)]) → E (.ref cL) (some d) H'
theorem RefPl.new {cL : Addr} {o : Option (Nat × Nat)} {H H' : Hp} {E : XK} {v : V} (h : RefPl cL o H E) (s : Same H H') (p : PlaceAt H' o v) : ∀ d, H' d = none → E (.ref cL) (some d) (upd H' d (.xd [("place", v)])) := fun d hd => h v d _ (s.trans (same_new hd)) (p.same (same_new hd)) upd_same
theorem tup_det {H : Hp} {L : Addr} {xs ys : List V} (h : H L = some (.tup xs)) (k : H L = some (.tup ys)) : xs = ys := by
  have := h.symm.trans k
  injection this with this
  injection this
/-- a grid's rows as rows of things -/
theorem VGAt.each {H : Hp} {L : Addr} {g : VG} (h : VGAt H L g) : ∃ xs, H L = some (.tup xs) ∧ Each (TupO H) xs (g.map some) := by
  obtain ⟨as, h1, h2⟩ := h
  refine ⟨_, h1, ?_⟩
  clear h1
  induction h2 with
  | nil => exact .nil
  | cons a _ ih => exact .cons (.inl ⟨_, _, rfl, a, rfl⟩) ih
section
variable {P : Program} {w : World} {K : PySem.W.Frag} {mg : Str → Option Value} {base : Heap} {f C cL cN : Addr} {fd : FuncData}
def spSpotsA (cL : Addr) : Sp := fun vs H Q E => ∃ (v : V) (due : Option (Option (Nat × Nat))), vs = [v] ∧ LandDue H v due ∧ (∀ o, due = some o → RefPl cL o H E) ∧
  (due = none → ∀ (L : Addr) (g : Grid) (wd : Nat) (d : Addr) (H' : Hp), v = .ref L → GridAt H L g → Good g wd → H d = none → Same H H' → SpotsAt H' d (spG 0 g) → Q (.ref d) H')
theorem ok_spotsA (F : Fun K "checked_spots" "checked_spots" sSpots f fd) (TL : OwnX K mg "NoLand" "place" cL) (hA : Has P w K mg base "are_rows" 1 ["thing"] spAreO) (hW : Has P w K mg base "wrong_spot" 2 ["rows"] spWrongO) (hS : Has P w K mg base "spots_in" 1 ["rows"] spSpotsIn0) :
    FnOk P w K mg base (L2N.CX P w) 3 f fd ["rows"] (spSpotsA cL) := by
  refine Fun_okN F scSpots (fun vs H Q E h => ?_) (fun cdv A outer s H vs Q E hr h => ?_)
  · obtain ⟨v, due, rfl, _⟩ := h
    rfl
  · obtain ⟨v, due, rfl, hdue, q1, q2⟩ := h
    refine ⟨_, pss_cons (ps_if (pt_not (pt_val (pe_h hA hr (pa_cons (pv 0) pa_nil)))) (pss_one (ps_raiseX rfl TL hr (L2N.takes_of rfl rfl rfl rfl) (pa_cons pe_non pa_nil))) pss_nil)
      (pss_cons (ps_set (i := 1) scSpots.nd rfl (.inl rfl) (pe_h hW hr (pa_cons (pv 0) pa_nil)))
      (pss_cons (ps_if (pt_cmp (pc_notN (pv 1))) (pss_one (ps_raiseX rfl TL hr (L2N.takes_of rfl rfl rfl rfl) (pa_cons (pv 1) pa_nil))) pss_nil)
      (pss_cons (ps_set (i := 2) scSpots.nd rfl (.inl rfl) (pe_h hS hr (pa_cons (pv 0) pa_nil)))
      (pss_cons (ps_if (pt_not (pt_truth (pv 2) (by intro _; rfl))) (pss_one (ps_raiseX rfl TL hr (L2N.takes_of rfl rfl rfl rfl) (pa_cons pe_non pa_nil))) pss_nil)
      (pss_one (ps_ret (pv 2))))))), ?_⟩
    rcases hdue with ⟨rfl, ht⟩ | ⟨rfl, L, xs, os, rfl, hL, he, hb⟩ | ⟨L, g, wd, o, rfl, hG, hs, hod, hf, rfl⟩
    · exact ⟨_, rfl, v, false, rfl, .inl ⟨rfl, ht⟩, false, rfl, iteT ⟨.non, rfl, fun d hd => (q1 none rfl).new (Same.refl H) rfl d hd⟩⟩
    · exact ⟨_, rfl, _, _, rfl, .inr ⟨L, xs, os, rfl, hL, he, rfl⟩, _, rfl, by rw [hb]; exact iteT ⟨.non, rfl, fun d hd => (q1 none rfl).new (Same.refl H) rfl d hd⟩⟩
    · obtain ⟨xs, hL, he⟩ := hG.each
      refine ⟨_, rfl, _, _, rfl, .inr ⟨L, xs, _, rfl, hL, he, rfl⟩, _, rfl, ?_⟩
      rw [size_areB hs]
      refine iteF ⟨_, rfl, L, g, wd, rfl, hG, hs, hod, fun o' pv' H1 hf' s1 hp => ?_⟩
      cases First.det hf hf'
      cases o with
      | some p =>
        obtain ⟨i, j⟩ := p
        obtain ⟨t, rfl, ht⟩ := hp
        exact ⟨_, rfl, _, rfl, iteT ⟨_, rfl, _, rfl, fun d hd => (q1 (some (i, j)) rfl).new s1 ⟨t, rfl, ht⟩ d hd⟩⟩
      | none =>
        cases hp
        refine ⟨_, rfl, _, rfl, iteF ?_⟩
        have hGr : GridAt H L (gridV g) := VGAt.grid (by rw [hf.grid]; exact hG)
        have g0 := hf.good0 hs
        refine ⟨_, rfl, L, gridV g, wd, rfl, hGr.keep (tk_same s1), g0, fun d H2 hd s2 ⟨kvs, hk, he2⟩ => ?_⟩
        have hl : kvs.length = (strG g).length := by
          have h1 := he2.length
          have h2 : ((spG 0 (gridV g)).map (·.1)).length = (strG g).length := by rw [spG_fst, names_gridV]
          rw [List.length_map] at h2
          omega
        refine ⟨_, rfl, _, .inr (.inr ⟨kvs, hk, rfl⟩), ?_⟩
        by_cases c : strG g = []
        · have ek : kvs = [] := List.eq_nil_of_length_eq_zero (by rw [hl, c]; rfl)
          subst ek
          exact iteT ⟨.non, rfl, fun dd hdd => (q1 none (by simp [c])).new (s1.trans s2) rfl dd hdd⟩
        · have hne : kvs.isEmpty = false := by
            cases kvs with
            | nil => exact absurd (List.eq_nil_of_length_eq_zero hl.symm) c
            | cons a r => rfl
          rw [hne]
          refine iteF ⟨_, rfl, q2 (by simp [c]) L (gridV g) wd d H2 rfl hGr ⟨g0.h1, g0.h6, g0.w1, g0.w6, g0.rows, g0.nd, g0.wd, ?_⟩ (s1.free hd) (s1.trans s2) ⟨kvs, hk, he2⟩⟩
          rw [names_gridV]
          exact c
def spInitA (C cL : Addr) : Sp := fun vs H Q E => ∃ (p dx : Addr) (v : V) (due : Option (Option (Nat × Nat))), vs = [.ref p, v] ∧ H p = some (.ins C dx []) ∧ LandDue H v due ∧ (∀ o, due = some o → RefPl cL o H E) ∧
  (due = none → ∀ (L : Addr) (g : Grid) (wd : Nat) (H' : Hp), v = .ref L → GridAt H L g → Good g wd → (∀ b o, b ≠ p → H b = some o → H' b = some o) → LandAt C H' p L g → Q .non H')
theorem ok_initA (F : Fun K "__init__" "Land.__init__" sInit f fd) (T : Txt K mg C) (hS : HasX P w K mg base "checked_spots" 3 ["rows"] (spSpotsA cL)) : FnOk P w K mg base (L2N.CX P w) 4 f fd ["self", "rows"] (spInitA C cL) := by
  refine Fun_okN F scInit (fun vs H Q E h => ?_) (fun cdv A outer s H vs Q E hr h => ?_)
  · obtain ⟨p, dx, v, due, rfl, _⟩ := h
    rfl
  · obtain ⟨p, dx, v, due, rfl, hp, hdue, q1, q2⟩ := h
    refine ⟨_, pss_cons (ps_fld (pv 0) (pe_hx hS hr (passE (L2N.takes_of rfl rfl rfl rfl)) (pa_cons (pv 1) pa_nil)) rfl) (pss_one (ps_fld (pv 0) (pv 1) rfl)), ?_⟩
    refine ⟨_, rfl, v, due, rfl, hdue, q1, fun e L g wd d H1 ev hG gd hd s1 sp1 => ?_⟩
    subst ev
    have hp1 := s1 _ _ hp
    refine ⟨_, rfl, p, C, dx, [], rfl, hp1, T.cl, T.nS, (by show 0 < 1000; decide), ?_⟩
    refine ⟨_, rfl, _, rfl, p, C, dx, _, rfl, upd_same, T.cl, T.nR, (by show 1 < 1000; decide), ?_⟩
    refine q2 e L g wd _ rfl hG gd (fun b o n e => ?_) ⟨d, dx, upd_same, spots_updI upd_same (spots_updI hp1 sp1), ((hG.keep (tk_same s1)).keep (tk_updI hp1)).keep (tk_updI upd_same)⟩
    rw [upd_ne n, upd_ne n]
    exact s1 _ _ e
/-! ### names: check_name, spot, neighbours -/
def nameB (g : Grid) : V → Bool
  | .str z => wdB z && decide (z ∈ names g)
  | _ => false
theorem wv_str {v : V} (h : wvB v = true) : ∃ z, v = .str z ∧ IsWd z := by
  cases v with
  | str z => exact ⟨z, rfl, h⟩
  | _ => cases h
theorem name_str {g : Grid} {v : V} (h : nameB g v = true) : ∃ z, v = .str z ∧ IsWd z ∧ z ∈ names g := by
  cases v with
  | str z =>
    have h' : (wdB z && decide (z ∈ names g)) = true := h
    rw [Bool.and_eq_true, decide_eq_true_eq] at h'
    exact ⟨z, rfl, h'.1, h'.2⟩
  | _ => cases h
def spNameA (K : PySem.W.Frag) (C cN : Addr) : Sp := fun vs H Q E => ∃ (p L : Addr) (g : Grid) (wd : Nat) (v : V), vs = [.ref p, v] ∧ LandAt C H p L g ∧ Good g wd ∧ Wv K H v (wvB v) ∧ (nameB g v = true → ∀ (H' : Hp), Same H H' → Q .non H') ∧ (nameB g v = false → Refuses cN "name" v H E)
theorem ok_nameA (F : Fun K "check_name" "Land.check_name" sCheck f fd) (T : Txt K mg C) (TN : OwnX K mg "NoName" "name" cN) (hI : Has P w K mg base "is_word" 1 ["thing"] (spIsW K)) : FnOk P w K mg base (L2N.CX P w) 2 f fd ["self", "name"] (spNameA K C cN) := by
  refine Fun_okN F scCheck (fun vs H Q E h => ?_) (fun cdv A outer s H vs Q E hr h => ?_)
  · obtain ⟨p, L, g, wd, v, rfl, _⟩ := h
    rfl
  · obtain ⟨p, L, g, wd, v, rfl, hLa, gd, ho, q1, q2⟩ := h
    have hu := hu_of hr
    refine ⟨_, pss_one (ps_if (PW.pt (pw_or (pt_not (pt_val (pe_h hI hr (pa_cons (pv 1) pa_nil)))) (pw_or1 (pt_cmp (pc_dnotin hu (pv 1) (pe_fld (pv 0) rfl)))))) (pss_one (ps_raiseX rfl TN hr (L2N.takes_of rfl rfl rfl rfl) (pa_cons (pv 1) pa_nil))) pss_nil), ?_⟩
    refine ⟨_, rfl, v, wvB v, rfl, ho, fun H1 s1 => ⟨_, rfl, not_b (fun e => ?_) (fun e => ?_)⟩⟩
    · have en : nameB g v = false := by
        cases v with
        | str z =>
          show (wdB z && decide (z ∈ names g)) = false
          rw [show wdB z = false from e, Bool.false_and]
        | _ => rfl
      exact ⟨_, rfl, v, rfl, fun d hd => (q2 en).new s1 d hd⟩
    · obtain ⟨z, rfl, hz⟩ := wv_str e
      obtain ⟨d, dx, hp, ⟨kvs, hd, he⟩, hG⟩ := hLa.keep (kp_same s1)
      have hn : nameB g (.str z) = decide (z ∈ names g) := by
        show (wdB z && decide (z ∈ names g)) = _
        rw [show wdB z = true from hz, Bool.true_and]
      refine ⟨_, rfl, _, rfl, p, C, dx, _, _, rfl, hp, T.cl, T.nS, lf_spots _ _, d, _, rfl, DGet.k (k := Sum.inr z) hd, _, rfl, ?_⟩
      by_cases hm : z ∈ names g
      · obtain ⟨r, c, hc⟩ := mem_names.mp hm
        obtain ⟨t, hv, ht⟩ := ent_some he (by rw [spG_fst]; exact gd.nd) (spG_cell.mpr hc)
        rw [hv]
        exact iteF (q1 (by rw [hn, decide_eq_true hm]) H1 s1)
      · rw [ent_none he (by rw [spG_fst]; exact hm)]
        exact iteT ⟨_, rfl, _, rfl, fun d2 hd2 => (q2 (by rw [hn, decide_eq_false hm])).new s1 d2 hd2⟩
abbrev sSpot : Stmt := inClass sCls 3
abbrev sNeigh : Stmt := inClass sCls 4
def spSpotA (K : PySem.W.Frag) (C cN : Addr) : Sp := fun vs H Q E => ∃ (p L : Addr) (g : Grid) (wd : Nat) (v : V), vs = [.ref p, v] ∧ LandAt C H p L g ∧ Good g wd ∧ Wv K H v (wvB v) ∧
  (∀ (z : Str) (r c : Nat) (t : Addr) (H' : Hp), v = .str z → cellAt g r c = some z → Same H H' → H' t = some (.tup [.int r, .int c]) → Q (.ref t) H') ∧ (nameB g v = false → Refuses cN "name" v H E)
theorem scSpot : FnScope ["self", "name"] ["self", "name"] (defScope sSpot) := ⟨rfl, rfl, rfl, by decide +kernel, rfl, by decide +kernel, by decide +kernel⟩
theorem ok_spotA (F : Fun K "spot" "Land.spot" sSpot f fd) (T : Txt K mg C) (hC : HasMX P w K mg base C "check_name" 2 ["self", "name"] (spNameA K C cN)) : FnOk P w K mg base (L2N.CX P w) 3 f fd ["self", "name"] (spSpotA K C cN) := by
  refine Fun_okN F scSpot (fun vs H Q E h => ?_) (fun cdv A outer s H vs Q E hr h => ?_)
  · obtain ⟨p, L, g, wd, v, rfl, _⟩ := h
    rfl
  · obtain ⟨p, L, g, wd, v, rfl, hLa, gd, ho, q1, q2⟩ := h
    have hu := hu_of hr
    refine ⟨_, pss_cons (ps_expr (pe_hmx hC T.cl hr (passE (L2N.takes_of rfl rfl rfl rfl)) (pv 0) (pa_cons (pv 1) pa_nil))) (pss_one (ps_ret (pe_dget hu (pe_fld (pv 0) rfl) (pv 1) (fun _ _ => rfl)))), ?_⟩
    obtain ⟨d0, dx0, hp0, _⟩ := id hLa
    refine ⟨_, rfl, p, dx0, _, rfl, hp0, lf_no _ _ (by decide +kernel) (by decide +kernel), _, rfl, p, L, g, wd, v, rfl, hLa, gd, ho, fun e H1 s1 => ?_, q2⟩
    obtain ⟨z, rfl, hz, hm⟩ := name_str e
    obtain ⟨r, c, hc⟩ := mem_names.mp hm
    obtain ⟨d, dx, hp, ⟨kvs, hd, he⟩, hG⟩ := hLa.keep (kp_same s1)
    obtain ⟨t, hv, ht⟩ := ent_some he (by rw [spG_fst]; exact gd.nd) (spG_cell.mpr hc)
    refine ⟨_, rfl, p, C, dx, _, _, rfl, hp, T.cl, T.nS, lf_spots _ _, _, rfl, d, _, rfl, ?_, q1 z r c t H1 rfl hc s1 ht⟩
    rw [← hv]
    exact DGet.k (k := Sum.inr z) hd
end
end Wl

namespace Wl
open PySem PySem.Spec PyProof.Rows L2
abbrev sLNames : Stmt := inClass sCls 2
section
variable {P : Program} {w : World} {K : PySem.W.Frag} {mg : Str → Option Value} {base : Heap} {f C : Addr} {fd : FuncData}
/-! ### names -/
def spLNames (C : Addr) : Sp := fun vs H Q _ => ∃ (p L : Addr) (g : Grid) (wd : Nat), vs = [.ref p] ∧ LandAt C H p L g ∧ Good g wd ∧
  ∀ (t : Addr) (H' : Hp), H t = none → Same H H' → H' t = some (.tup ((sortS (names g)).map V.str)) → Q (.ref t) H'
theorem scLNames : FnScope ["self"] ["self"] (defScope sLNames) := ⟨rfl, rfl, rfl, by decide +kernel, rfl, by decide +kernel, by decide +kernel⟩
theorem ok_lnames (F : Fun K "names" "Land.names" sLNames f fd) (B : Bi mg) (T : Txt K mg C) : FnOk P w K mg base CX0 1 f fd ["self"] (spLNames C) := by
  refine F.ok scLNames (fun vs H Q E h => ?_) (fun cdv A outer s H vs Q E hr h => ?_)
  · obtain ⟨p, L, g, wd, rfl, _⟩ := h
    rfl
  · obtain ⟨p, L, g, wd, rfl, ⟨d, dx, hp, ⟨kvs, hd, he⟩, hG⟩, gd, q⟩ := h
    refine ⟨_, pss_one (ps_ret (pe_callTy call_tuple_of (by rfl) B.tuple (by decide +kernel) (pa_cons (pe_callB (cr_sortD hr.units) (by rfl) B.sorted (by decide +kernel) (pa_cons (pe_callTy (call_list_dK rfl) (by rfl) B.list (by decide +kernel) (pa_cons (pe_fld (pv 0) rfl) pa_nil)) pa_nil)) pa_nil))), ?_⟩
    refine ⟨_, rfl, p, C, dx, _, _, rfl, hp, T.cl, T.nS, lf_spots _ _, d, kvs, rfl, hd, fun a1 h1 => ?_⟩
    rw [ent_keys he, spG_fst]
    dsimp only [tNil]
    refine sort_reads (K := K) (.inl (.inl upd_same)) fun a2 h2 => ?_
    refine ⟨a2, _, rfl, .inl ⟨.inl (.inl upd_same), fun a3 h3 => ?_⟩⟩
    exact q a3 _ (Same.free ((same_new h1).trans (same_new h2)) h3) (((same_new h1).trans (same_new h2)).trans (same_new h3)) upd_same

/-! ### check_name, spot -/
end
end Wl


namespace Wl
open PySem PySem.Spec PyProof.Rows L2
def findS : List (Str × Nat × Nat) → Str → Nat × Nat
  | [], _ => (0, 0)
  | (z, p) :: r, y => if z = y then p else findS r y
theorem findS_mem {y : Str} {p : Nat × Nat} : ∀ {l : List (Str × Nat × Nat)}, (l.map (·.1)).Nodup → (y, p) ∈ l → findS l y = p
  | [], _, h => by cases h
  | (z, q) :: l, nd, h => by
    obtain ⟨n1, n2⟩ := List.nodup_cons.mp nd
    unfold findS
    rcases List.mem_cons.mp h with e | h
    · cases e
      rw [if_pos rfl]
    · have : ¬ z = y := fun e => n1 (List.mem_map.mpr ⟨_, h, e.symm⟩)
      rw [if_neg this]
      exact findS_mem n2 h
def spotOf (g : Grid) (y : Str) : Nat × Nat := findS (spG 0 g) y
theorem spotOf_cell {g : Grid} (nd : (names g).Nodup) {y : Str} {r c : Nat} (h : cellAt g r c = some y) : spotOf g y = (r, c) :=
  findS_mem (by rw [spG_fst]; exact nd) (spG_cell.mpr h)
def Adj (r c r' c' : Nat) : Prop := (r' = r ∧ (c' = c + 1 ∨ c = c' + 1)) ∨ (c' = c ∧ (r' = r + 1 ∨ r = r' + 1))
def pD (p : Int × Int) : PyData := .tuple [.int p.1, .int p.2]
def four (r c : Nat) : List (Int × Int) := [((r : Int) - 1, c), ((r : Int) + 1, c), (r, (c : Int) - 1), (r, (c : Int) + 1)]
def nbB (r c : Nat) (p : Nat × Nat) : Bool := ((four r c).map pD).any fun z => PyData.eqv z (pD (p.1, p.2))
theorem pD_eqv (p q : Int × Int) : PyData.eqv (pD p) (pD q) = decide (p = q) := by
  obtain ⟨a, b⟩ := p
  obtain ⟨c, d⟩ := q
  have e : PyData.eqv (pD (a, b)) (pD (c, d)) = ((a == c) && ((b == d) && true)) := by simp only [pD, PyData.eqv, PyData.eqvAll]
  rw [e]
  by_cases h1 : a = c <;> by_cases h2 : b = d <;> simp [h1, h2]
theorem nbB_iff {r c r' c' : Nat} : nbB r c (r', c') = true ↔ Adj r c r' c' := by
  unfold nbB four
  simp only [List.map_cons, List.map_nil, List.any_cons, List.any_nil, pD_eqv, Bool.or_false, Bool.or_eq_true, decide_eq_true_eq, Prod.mk.injEq]
  unfold Adj
  omega
def nbL (g : Grid) (r c : Nat) : List Str := (sortS (names g)).filter fun y => nbB r c (spotOf g y)
theorem mem_nbL {g : Grid} (nd : (names g).Nodup) {r c : Nat} {y : Str} : y ∈ nbL g r c ↔ ∃ r' c', Adj r c r' c' ∧ cellAt g r' c' = some y := by
  unfold nbL
  rw [List.mem_filter, mem_sortS, mem_names]
  constructor
  · rintro ⟨⟨r', c', h⟩, k⟩
    rw [spotOf_cell nd h] at k
    exact ⟨r', c', nbB_iff.mp k, h⟩
  · rintro ⟨r', c', k, h⟩
    refine ⟨⟨r', c', h⟩, ?_⟩
    rw [spotOf_cell nd h]
    exact nbB_iff.mpr k
theorem nbL_rising {g : Grid} (nd : (names g).Nodup) (r c : Nat) : (nbL g r c).Pairwise ltS := (sortS_rising nd).filter _
theorem nbL_len {g : Grid} {wd : Nat} (G : Good g wd) (r c : Nat) : (nbL g r c).length ≤ 36 := by
  have h1 : (nbL g r c).length ≤ (sortS (names g)).length := List.length_filter_le _ _
  rw [sortS_len] at h1
  have := G.len
  omega
def keepN (g : Grid) (r c : Nat) : V → Bool
  | .str y => nbB r c (spotOf g y)
  | _ => false
theorem filter_strs {p : V → Bool} {q : Str → Bool} (h : ∀ y, p (.str y) = q y) (xs : List Str) : (xs.map V.str).filter p = (xs.filter q).map V.str := by
  rw [List.filter_map]
  congr 1
  exact List.filter_congr fun y _ => h y
section
variable {P : Program} {w : World} {K : PySem.W.Frag} {mg : Str → Option Value} {base : Heap} {f C cN : Addr} {fd : FuncData}
def spNeighA (K : PySem.W.Frag) (C cN : Addr) : Sp := fun vs H Q E => ∃ (p L : Addr) (g : Grid) (wd : Nat) (v : V), vs = [.ref p, v] ∧ LandAt C H p L g ∧ Good g wd ∧ Wv K H v (wvB v) ∧
  (∀ (z : Str) (r c : Nat) (t : Addr) (H' : Hp), v = .str z → cellAt g r c = some z → Same H H' → H' t = some (.tup ((nbL g r c).map V.str)) → Q (.ref t) H') ∧ (nameB g v = false → Refuses cN "name" v H E)
abbrev nNeigh : List Str := ["self", "name", "row", "column", "beside", "other"]
theorem scNeigh : FnScope nNeigh ["self", "name"] (defScope sNeigh) := ⟨rfl, rfl, rfl, by decide +kernel, rfl, by decide +kernel, by decide +kernel⟩
theorem ok_neighA (F : Fun K "neighbours" "Land.neighbours" sNeigh f fd) (B : Bi mg) (T : Txt K mg C) (hS : HasMX P w K mg base C "spot" 3 ["self", "name"] (spSpotA K C cN)) (hN : HasM P w K mg base C "names" 1 ["self"] (spLNames C)) :
    FnOk P w K mg base (L2N.CX P w) 4 f fd ["self", "name"] (spNeighA K C cN) := by
  refine Fun_okN F scNeigh (fun vs H Q E h => ?_) (fun cdv A outer s H vs Q E hr h => ?_)
  · obtain ⟨p, L, g, wd, v, rfl, _⟩ := h
    rfl
  · obtain ⟨p, L, g, wd, v, rfl, hLa, gd, ho, q1, q2⟩ := h
    have hu := hu_of hr
    have hu65 : (A.deeper (envOfC "Land.neighbours" (defScope sNeigh) s.heap.objs.size f cdv)).units + 65 < cLine := by
      have := hr.un
      omega
    refine ⟨_, pss_cons (ps_asg (pe_hmx hS T.cl hr (passE (L2N.takes_of rfl rfl rfl rfl)) (pv 0) (pa_cons (pv 1) pa_nil)) (pg_tup rfl (pgs_cons (pg_name (i := 2) scNeigh.nd rfl (.inl rfl)) (pgs_cons (pg_name (i := 3) scNeigh.nd rfl (.inl rfl)) pgs_nil))))
      (pss_cons (ps_set (i := 4) scNeigh.nd rfl (.inr rfl) (pe_tup (pa_cons (pe_tup (pa_cons (pe_op op_sub (pv 2) pe_int) (pa_cons (pv 3) pa_nil))) (pa_cons (pe_tup (pa_cons (pe_op op_add (pv 2) pe_int) (pa_cons (pv 3) pa_nil)))
        (pa_cons (pe_tup (pa_cons (pv 2) (pa_cons (pe_op op_sub (pv 3) pe_int) pa_nil))) (pa_cons (pe_tup (pa_cons (pv 2) (pa_cons (pe_op op_add (pv 3) pe_int) pa_nil))) pa_nil))))))
      (pss_one (ps_ret (pe_callTy call_tuple_of (by rfl) B.tuple (by decide +kernel) (pa_cons (pe_lc (own := [("other", 5)]) (g := gName 5) (tt := tTest (tOp (rInDT K) (tDGet (tFld K (tVar 0) "spots") (tVar 5)) (tVar 4))) rfl scNeigh.nd (pi_tup (pe_hm0 hN T.cl hr (pv 0)))
        (blkOk_by (N := nNeigh) (sc := defScope sNeigh) (by decide +kernel)) (fun _ _ _ _ _ => pg_name (i := 5) scNeigh.nd rfl (.inl rfl)) (fun _ _ _ _ _ => pts_one (pt_cmpR (op_inDT hu65) (pe_dget hu (pe_fld (pv 0) rfl) (pv 5) (fun _ _ => rfl)) (pv 4) (by rfl))) (fun _ _ _ _ _ => pv 5)) pa_nil))))), ?_⟩
    obtain ⟨d0, dx0, hp0, _⟩ := id hLa
    refine ⟨_, rfl, p, dx0, _, rfl, hp0, lf_no _ _ (by decide +kernel) (by decide +kernel), _, rfl, p, L, g, wd, v, rfl, hLa, gd, ho, fun z r c t H1 ez hc s1 ht => ⟨t, _, rfl, .inl (.inl ht), rfl, _, _, rfl, _, _, rfl, rfl, ?_⟩, q2⟩
    subst ez
    refine ⟨_, rfl, _, _, rfl, rfl, _, rfl, lz, fun t1 h1 => ⟨_, rfl, _, _, rfl, rfl, _, rfl, lz, fun t2 h2 => ⟨_, rfl, _, rfl, _, _, rfl, rfl, lz, fun t3 h3 => ⟨_, rfl, _, rfl, _, _, rfl, rfl, lz, fun t4 h4 => ⟨lz, fun b hb => ?_⟩⟩⟩⟩⟩
    have k1 := (same_new (o := .tup [.int ((r : Int) - 1), .int c]) h1)
    have k2 := (same_new (o := .tup [.int ((r : Int) + 1), .int c]) h2)
    have k3 := (same_new (o := .tup [.int r, .int ((c : Int) - 1)]) h3)
    have k4 := (same_new (o := .tup [.int r, .int ((c : Int) + 1)]) h4)
    have k5 := (same_new (o := .tup [.ref t1, .ref t2, .ref t3, .ref t4]) hb)
    have sAll : Same H1 _ := (k1.trans k2).trans ((k3.trans k4).trans k5)
    have a1 := k5 _ _ (k4 _ _ (k3 _ _ (k2 _ _ (upd_same (H := H1) (a := t1) (o := .tup [.int ((r : Int) - 1), .int c])))))
    have a2 := k5 _ _ (k4 _ _ (k3 _ _ (upd_same (a := t2) (o := .tup [.int ((r : Int) + 1), .int c]))))
    have a3 := k5 _ _ (k4 _ _ (upd_same (a := t3) (o := .tup [.int r, .int ((c : Int) - 1)])))
    have a4 := k5 _ _ (upd_same (a := t4) (o := .tup [.int r, .int ((c : Int) + 1)]))
    have a5 : upd (upd (upd (upd (upd H1 t1 (.tup [.int ((r : Int) - 1), .int c])) t2 (.tup [.int ((r : Int) + 1), .int c])) t3 (.tup [.int r, .int ((c : Int) - 1)])) t4 (.tup [.int r, .int ((c : Int) + 1)])) b (.tup [.ref t1, .ref t2, .ref t3, .ref t4]) b = _ := upd_same
    have sBig : Same H _ := s1.trans sAll
    generalize upd (upd (upd (upd (upd H1 t1 (.tup [.int ((r : Int) - 1), .int c])) t2 (.tup [.int ((r : Int) + 1), .int c])) t3 (.tup [.int r, .int ((c : Int) - 1)])) t4 (.tup [.int r, .int ((c : Int) + 1)])) b (.tup [.ref t1, .ref t2, .ref t3, .ref t4]) = H2 at a1 a2 a3 a4 a5 sBig sAll
    have hLa2 := hLa.keep (kp_same sBig)
    obtain ⟨d2, dx2, hp2, _⟩ := id hLa2
    refine ⟨_, rfl, p, dx2, _, rfl, hp2, lf_no _ _ (by decide +kernel) (by decide +kernel), p, L, g, wd, rfl, hLa2, gd, fun tn H3 htn s3 hn3 => ⟨tn, rfl, ⟨_, .inl (.inl hn3)⟩, fun D hD => ?_⟩⟩
    refine lc_map (walk_tup (K := K) (a := tn) (xs := (sortS (names g)).map V.str)) hD (keepN g r c) id (fun H' s' => .inl (.inl (s' _ _ hn3))) (fun _ => rfl) ?_ ?_ ?_ ?_
    · intro x H' hx s' Q' q'
      obtain ⟨y, hy, rfl⟩ := List.mem_map.mp hx
      obtain ⟨r', c', hc'⟩ := mem_names.mp (mem_sortS.mp hy)
      have s23 : Same H2 H' := s3.trans s'
      obtain ⟨d4, dx4, hp4, ⟨kvs4, hd4, he4⟩, _⟩ := hLa2.keep (kp_same s23)
      obtain ⟨t9, hv, ht9⟩ := ent_some he4 (by rw [spG_fst]; exact gd.nd) (spG_cell.mpr hc')
      refine ⟨_, rfl, p, C, dx4, _, _, rfl, hp4, T.cl, T.nS, lf_spots _ _, _, rfl, d4, .ref t9, rfl, ?_, _, rfl, pD (r', c'), (four r c).map pD, .tup (.inl (.inl ht9)) (.cons (.int _) (.cons (.int _) .nil)), .tup (.inl (.inl (s23 _ _ a5))) ?_, rfl, rfl, _, rfl, ?_⟩
      · rw [← hv]
        exact DGet.k (k := Sum.inr y) hd4
      · exact .cons (.tup (.inl (.inl (s23 _ _ a1))) (.cons (.int _) (.cons (.int _) .nil))) (.cons (.tup (.inl (.inl (s23 _ _ a2))) (.cons (.int _) (.cons (.int _) .nil))) (.cons (.tup (.inl (.inl (s23 _ _ a3))) (.cons (.int _) (.cons (.int _) .nil))) (.cons (.tup (.inl (.inl (s23 _ _ a4))) (.cons (.int _) (.cons (.int _) .nil))) .nil)))
      · have : keepN g r c (.str y) = nbB r c (r', c') := by
          show nbB r c (spotOf g y) = _
          rw [spotOf_cell gd.nd hc']
        rw [this] at q'
        exact q'
    · intro x H' hx _ _ Q' q'
      exact ⟨_, rfl, q'⟩
    · rw [List.length_map, sortS_len]
      exact small1000 (by have := gd.len; omega)
    · intro H4 s4 hD4
      rw [filter_strs (q := fun y => nbB r c (spotOf g y)) (fun _ => rfl), List.map_id] at hD4
      refine ⟨D, _, rfl, .inl ⟨.inl (.inl hD4), fun t5 ht5 => ?_⟩⟩
      exact q1 z r c t5 _ rfl hc ((sBig.trans (s3.trans s4)).trans (same_new ht5)) upd_same
end
end Wl


/-! A land's text. -/
namespace Wl
open PySem PySem.Spec PyProof.Rows L2
def partS : Option Str → Str
  | none => "-"
  | some z => z
def lineS (row : Row) : Str := Txt.join (" " : Str) (row.map partS)
def landS (g : Grid) : Str := Txt.join ("\n" : Str) (g.map lineS)
theorem tl_dash : TL.tl ("-" : Str) = [45] := by decide +kernel
theorem tl_blank : TL.tl (" " : Str) = [32] := by decide +kernel
theorem tl_end : TL.tl ("\n" : Str) = [10] := by decide +kernel
theorem wd_tl {z : Str} (h : IsWd z) : (1 ≤ (TL.tl z).length ∧ (TL.tl z).length ≤ 8) ∧ ∀ c ∈ TL.tl z, 97 ≤ c ∧ c ≤ 122 := by
  refine ⟨by rw [← TL.len_tl]; exact h.len, ?_⟩
  unfold IsWd wdB at h
  simp only [Bool.and_eq_true, decide_eq_true_eq, List.all_eq_true] at h
  exact h.2
theorem wd_dash {z : Str} (h : IsWd z) : z ≠ "-" := fun e => by
  have := (wd_tl h).2 45 (by rw [e, tl_dash]; simp)
  omega
/-- a part of a row -/
def OkP (o : Option Str) : Prop := ∀ z, o = some z → IsWd z
theorem part_tl {o : Option Str} (h : OkP o) : (TL.tl (partS o)).length ≤ 8 ∧ ∀ c ∈ TL.tl (partS o), 45 ≤ c ∧ c ≤ 122 := by
  cases o with
  | none =>
    show (TL.tl ("-" : Str)).length ≤ 8 ∧ ∀ c ∈ TL.tl ("-" : Str), 45 ≤ c ∧ c ≤ 122
    rw [tl_dash]
    exact ⟨by decide, fun c hc => by rw [List.mem_singleton.mp hc]; decide⟩
  | some z =>
    have := wd_tl (h z rfl)
    exact ⟨this.1.2, fun c hc => ⟨by have := this.2 c hc; omega, (this.2 c hc).2⟩⟩
theorem join_mem {S : List Nat} {c : Nat} : ∀ {ps : List (List Nat)}, c ∈ TL.joinL S ps → c ∈ S ∨ ∃ p ∈ ps, c ∈ p
  | [], h => by cases h
  | [p], h => .inr ⟨p, List.mem_singleton.mpr rfl, h⟩
  | p :: q :: r, h => by
    have h : c ∈ p ++ (S ++ TL.joinL S (q :: r)) := h
    rcases List.mem_append.mp h with h | h
    · exact .inr ⟨p, List.mem_cons_self, h⟩
    · rcases List.mem_append.mp h with h | h
      · exact .inl h
      · rcases join_mem h with h | ⟨u, hu, h⟩
        · exact .inl h
        · exact .inr ⟨u, List.mem_cons_of_mem _ hu, h⟩
theorem join_size {S : List Nat} {m : Nat} : ∀ {ps : List (List Nat)}, (∀ p ∈ ps, p.length ≤ m) → (TL.joinL S ps).length ≤ ps.length * (m + S.length)
  | [], _ => by simp [TL.joinL]
  | [p], h => by
    have := h p (List.mem_singleton.mpr rfl)
    show p.length ≤ _
    simp
    omega
  | p :: q :: r, h => by
    have h1 := h p List.mem_cons_self
    have h2 := join_size (S := S) (m := m) (ps := q :: r) fun u hu => h u (List.mem_cons_of_mem _ hu)
    show (p ++ (S ++ TL.joinL S (q :: r))).length ≤ _
    rw [List.length_append, List.length_append, List.length_cons, Nat.succ_mul]
    omega
theorem line_tl (row : Row) : TL.tl (lineS row) = TL.joinL [32] (row.map fun o => TL.tl (partS o)) := by
  unfold lineS
  rw [TL.join_eq, TL.tl_join, tl_blank, List.map_map]
  rfl
theorem line_codes {row : Row} (h : ∀ o ∈ row, OkP o) {c : Nat} (hc : c ∈ TL.tl (lineS row)) : c = 32 ∨ (45 ≤ c ∧ c ≤ 122) := by
  rw [line_tl] at hc
  rcases join_mem hc with hc | ⟨p, hp, hc⟩
  · exact .inl (List.mem_singleton.mp hc)
  · obtain ⟨o, ho, rfl⟩ := List.mem_map.mp hp
    exact .inr ((part_tl (h o ho)).2 c hc)
theorem line_len {row : Row} (h : ∀ o ∈ row, OkP o) (h6 : row.length ≤ 6) : (lineS row).length ≤ 54 := by
  rw [TL.len_tl, line_tl]
  have := join_size (S := [32]) (m := 8) (ps := row.map fun o => TL.tl (partS o)) fun p hp => by
    obtain ⟨o, ho, rfl⟩ := List.mem_map.mp hp
    exact (part_tl (h o ho)).1
  rw [List.length_map] at this
  simp at this
  omega
theorem line_split {row : Row} (h : ∀ o ∈ row, OkP o) (ne : row ≠ []) : Txt.split (lineS row) (" " : Str) = row.map partS := by
  unfold lineS
  refine TL.split_join tl_blank (by decide +kernel) (fun e => ne (List.map_eq_nil_iff.mp e)) fun p hp hc => ?_
  obtain ⟨o, ho, rfl⟩ := List.mem_map.mp hp
  have := (part_tl (h o ho)).2 32 hc
  omega
theorem land_split {g : Grid} (h : ∀ r ∈ g, ∀ o ∈ r, OkP o) (ne : g ≠ []) : Txt.split (landS g) ("\n" : Str) = g.map lineS := by
  unfold landS
  refine TL.split_join tl_end (by decide +kernel) (fun e => ne (List.map_eq_nil_iff.mp e)) fun p hp hc => ?_
  obtain ⟨r, hr, rfl⟩ := List.mem_map.mp hp
  have := line_codes (h r hr) hc
  omega
theorem land_len {g : Grid} (h : ∀ r ∈ g, ∀ o ∈ r, OkP o) (hg : g.length ≤ 6) (hr : ∀ r ∈ g, r.length ≤ 6) : (landS g).length ≤ 330 := by
  unfold landS
  rw [TL.len_tl, TL.join_eq, TL.tl_join, tl_end]
  have := join_size (S := [10]) (m := 54) (ps := (g.map lineS).map TL.tl) fun p hp => by
    obtain ⟨z, hz, rfl⟩ := List.mem_map.mp hp
    obtain ⟨r, hr', rfl⟩ := List.mem_map.mp hz
    rw [← TL.len_tl]
    exact line_len (h r hr') (hr r hr')
  rw [List.length_map, List.length_map] at this
  have e : (54 + [10].length) = 55 := rfl
  rw [e] at this
  omega
theorem names_part {g : Grid} (h : ∀ z ∈ names g, IsWd z) : ∀ r ∈ g, ∀ o ∈ r, OkP o := fun r hr o ho z e => h z (by
  unfold names
  rw [List.mem_filterMap]
  exact ⟨o, List.mem_flatten.mpr ⟨r, hr, ho⟩, e⟩)
theorem Good.parts {g : Grid} {wd : Nat} (G : Good g wd) : ∀ r ∈ g, ∀ o ∈ r, OkP o := names_part G.wd
theorem Good.nn {g : Grid} {wd : Nat} (G : Good g wd) : g ≠ [] := fun e => by
  have := G.h1
  rw [e] at this
  simp at this
theorem Good.six {g : Grid} {wd : Nat} (G : Good g wd) : ∀ r ∈ g, r.length ≤ 6 := fun r hr => by
  rw [G.rows r hr]
  exact G.w6
theorem part_inj {o u : Option Str} (h : OkP o) (k : OkP u) (e : partS o = partS u) : o = u := by
  cases o with
  | none =>
    cases u with
    | none => rfl
    | some z => exact absurd e.symm (wd_dash (k z rfl))
  | some y =>
    cases u with
    | none => exact absurd e (wd_dash (h y rfl))
    | some z => exact congrArg some e
theorem map_part_inj : ∀ {r q : Row}, (∀ o ∈ r, OkP o) → (∀ o ∈ q, OkP o) → r.map partS = q.map partS → r = q
  | [], [], _, _, _ => rfl
  | [], _ :: _, _, _, e => by simp at e
  | _ :: _, [], _, _, e => by simp at e
  | o :: r, u :: q, h, k, e => by
    simp only [List.map_cons, List.cons.injEq] at e
    rw [part_inj (h o List.mem_cons_self) (k u List.mem_cons_self) e.1, map_part_inj (fun x hx => h x (List.mem_cons_of_mem _ hx)) (fun x hx => k x (List.mem_cons_of_mem _ hx)) e.2]
theorem line_inj {r q : Row} (h : ∀ o ∈ r, OkP o) (k : ∀ o ∈ q, OkP o) (nr : r ≠ []) (nq : q ≠ []) (e : lineS r = lineS q) : r = q := by
  have := congrArg (fun z => Txt.split z (" " : Str)) e
  simp only [line_split h nr, line_split k nq] at this
  exact map_part_inj h k this
/-- unlike lands have unlike texts -/
theorem land_inj {g g' : Grid} {wd wd' : Nat} (G : Good g wd) (G' : Good g' wd') (e : landS g = landS g') : g = g' := by
  have h := congrArg (fun z => Txt.split z ("\n" : Str)) e
  simp only [land_split G.parts G.nn, land_split G'.parts G'.nn] at h
  have ne : ∀ {l : Grid} {v : Nat}, Good l v → ∀ r ∈ l, r ≠ [] := fun {l v} L r hr q => by
    have h1 := L.rows r hr
    have h2 := L.w1
    rw [q] at h1
    simp at h1
    omega
  have key : ∀ {l m : Grid}, (∀ r ∈ l, r ≠ [] ∧ ∀ o ∈ r, OkP o) → (∀ r ∈ m, r ≠ [] ∧ ∀ o ∈ r, OkP o) → l.map lineS = m.map lineS → l = m := by
    intro l
    induction l with
    | nil =>
      intro m _ _ e
      cases m with
      | nil => rfl
      | cons _ _ => simp at e
    | cons r l ih =>
      intro m hl hm e
      cases m with
      | nil => simp at e
      | cons q m =>
        simp only [List.map_cons, List.cons.injEq] at e
        have a := hl r List.mem_cons_self
        have b := hm q List.mem_cons_self
        rw [line_inj a.2 b.2 a.1 b.1 e.1, ih (fun x hx => hl x (List.mem_cons_of_mem _ hx)) (fun x hx => hm x (List.mem_cons_of_mem _ hx)) e.2]
  exact key (fun r hr => ⟨ne G r hr, G.parts r hr⟩) (fun r hr => ⟨ne G' r hr, G'.parts r hr⟩) h
end Wl

/-! Rules of ours for objects of own classes: len, str, repr, ==, !=, in a list of one, each by the class's own method. -/
namespace Wl
open PySem PySem.Spec PyProof.Rows L2
section
variable {X : Cx} {n : Nat} {f : Addr} {fd : FuncData} {ps : List Str} {sp : Sp} {C : Addr}
theorem v1 (a : Addr) : Vals [V.ref a] [Value.ref a] := .cons rfl .nil
theorem v2 (a b : Addr) : Vals [V.ref a, V.ref b] [Value.ref a, Value.ref b] := .cons rfl (.cons rfl .nil)
/-- an own def called somewhere below the running body -/
theorem run_own {A : Around} {pins : List (Addr × Obj)} {s : Shared} {σ : L2.St} {H : Hp} {vs : List V} {us : List Value} {Q : VK} (F : FnOk X.prog X.w X.K X.mg X.base CX0 n f fd ps sp) (hb : Binds X.K fd ps []) (sb : Sub X n A) (I : L2.Inv X pins σ H s) (r : Vals vs us) (hsp : sp vs H Q E0) :
    wpAny (model X.prog X.w) A (call (.ref f) us) (EP X pins σ Q) X.xe s := by
  have e0 : Env0 X.prog X.w X.K X.mg X.base A X.stack s H := by
    have e := I.env0
    exact ⟨by rw [sb.fr]; exact e.frames, e.mod, e.bs, e.bsz, e.funs, e.frf, e.hok, e.bare⟩
  have hl := F.len _ _ _ _ hsp
  have hb' : BindsTo s fd ⟨us, []⟩ (ps.zip us) := by
    have := hb s us I.kIn (by rw [List.append_nil, ← r.length]; exact hl)
    rw [List.append_nil] at this
    exact this
  refine wpAny_call (codeAny_mono (F.run A X.stack s H ⟨us, []⟩ us vs _ E0 sb.room e0 hb' r hsp) fun r s' hq => ?_)
  cases r with
  | error e => exact pass0 pins σ H s e s' I hq
  | ok fl =>
    cases fl with
    | ret w => exact I.after hq
    | next => exact False.elim hq
    | brk => exact False.elim hq
    | cont => exact False.elim hq
/-- len(o) -/
def rLenO (C : Addr) (sp : Sp) : List V → Hp → VK → Prop := fun xs H Q => ∃ a dx fs, xs = [V.ref a] ∧ H a = some (.ins C dx fs) ∧ sp [.ref a] H (fun v H' => ∃ k : Nat, v = .int (k : Int) ∧ k < 2 ^ 62 ∧ Q (.int (k : Int)) H') E0
theorem cr_lenO (F : FnOk X.prog X.w X.K X.mg X.base CX0 n f fd ps sp) (hb : Binds X.K fd ps []) (m : Meth X.K C "__len__" f) (hr : Room (n + 1) X.A) : CallR X (.builtin "len") (rLenO C sp) := by
  intro pins s σ H xs us Q I r h
  obtain ⟨a, dx, fs, rfl, ha, hsp⟩ := h
  obtain ⟨u, rfl, ru⟩ := vals1 r
  obtain rfl : u = Value.ref a := ru
  obtain ⟨mA, J, _⟩ := ins_get I.hok ha
  obtain ⟨od, J, _⟩ := J.look
  obtain ⟨m', hF⟩ := I.fr
  refine PySem.W.len_K hF I.ok.mod.kin J m.at_ m.fn (wpAny_mono (run_own F hb (Sub.in1 ⟨hr, rfl⟩) I (v1 a) hsp) (fun v s' hq => ?_) fun _ _ z => z)
  obtain ⟨z, H', I', rz, k, rfl, hk, q⟩ := hq
  obtain ⟨t, rfl⟩ := rz
  exact ⟨⟨by omega, by omega⟩, .int (k : Int), H', I'.tok _, ⟨_, rfl⟩, q⟩
/-- str(o) -/
def rStrO (C : Addr) (sp : Sp) : List V → Hp → VK → Prop := fun xs H Q => ∃ a dx fs, xs = [V.ref a] ∧ H a = some (.ins C dx fs) ∧ sp [.ref a] H (fun v H' => ∃ z, v = .str z ∧ Q (.str z) H') E0
theorem room_u2 {k : Nat} {A : Around} (r : Room k A) : A.units + 2 < cLine := by have := r.un; omega
theorem cr_strO (F : FnOk X.prog X.w X.K X.mg X.base CX0 n f fd ps sp) (hb : Binds X.K fd ps []) (m : Meth X.K C "__str__" f) (hr : Room (n + 2) X.A) : CallR X (.type "str") (rStrO C sp) := by
  intro pins s σ H xs us Q I r h
  obtain ⟨a, dx, fs, rfl, ha, hsp⟩ := h
  obtain ⟨u, rfl, ru⟩ := vals1 r
  obtain rfl : u = Value.ref a := ru
  obtain ⟨mA, J, _⟩ := ins_get I.hok ha
  obtain ⟨od, J, _⟩ := J.look
  refine PySem.W.kso_call (show X.A.units + 1 + 1 < cLine from room_u2 hr) I.kIn J m.at_ m.fn (wpAny_mono (run_own F hb (Sub.in1 (Sub.in1 ⟨hr, rfl⟩)) I (v1 a) hsp) (fun v s' hq => ?_) fun _ _ z => z)
  obtain ⟨z, H', I', rz, y, rfl, q⟩ := hq
  obtain ⟨t, rfl⟩ := rz
  exact ⟨.str y, H', I', ⟨_, rfl⟩, q⟩
/-- repr(o) -/
theorem cr_reprO (F : FnOk X.prog X.w X.K X.mg X.base CX0 n f fd ps sp) (hb : Binds X.K fd ps []) (m : Meth X.K C "__repr__" f) (hr : Room (n + 1) X.A) : CallR X (.builtin "repr") (rStrO C sp) := by
  intro pins s σ H xs us Q I r h
  obtain ⟨a, dx, fs, rfl, ha, hsp⟩ := h
  obtain ⟨u, rfl, ru⟩ := vals1 r
  obtain rfl : u = Value.ref a := ru
  obtain ⟨mA, J, _⟩ := ins_get I.hok ha
  obtain ⟨od, J, _⟩ := J.look
  obtain ⟨m', hF⟩ := I.fr
  refine PySem.W.repr_K (show X.A.units + 1 < cLine from by have := room_u2 hr; omega) hF I.ok.mod.kin J m.at_ m.fn (wpAny_mono (run_own F hb (Sub.in1 ⟨hr, rfl⟩) I (v1 a) hsp) (fun v s' hq => ?_) fun _ _ z => z)
  obtain ⟨z, H', I', rz, y, rfl, q⟩ := hq
  obtain ⟨t, rfl⟩ := rz
  exact ⟨.str y, H', I', ⟨_, rfl⟩, q⟩
/-- x == y of two of one class -/
def rEqO (C : Addr) (sp : Sp) (g : Bool → Bool) : R2 := fun x y H Q => ∃ a dx fs b dy gs, x = V.ref a ∧ y = V.ref b ∧ H a = some (.ins C dx fs) ∧ H b = some (.ins C dy gs) ∧ sp [.ref a, .ref b] H (fun v H' => ∃ c, v = .bl c ∧ Q (.bl (g c)) H') E0
theorem rc_eqO {A : Around} {pins : List (Addr × Obj)} {s : Shared} {σ : L2.St} {H : Hp} {a b dx dy : Addr} {fs gs : List (Str × V)} {Q : Bool → Hp → Prop} (F : FnOk X.prog X.w X.K X.mg X.base CX0 n f fd ps sp) (hb : Binds X.K fd ps []) (m : Meth X.K C "__eq__" f) (sb : Sub X n A) (I : L2.Inv X pins σ H s)
    (ha : H a = some (.ins C dx fs)) (hb' : H b = some (.ins C dy gs)) (hsp : sp [.ref a, .ref b] H (fun v H' => ∃ c, v = .bl c ∧ Q c H') E0) :
    wpAny (model X.prog X.w) A (richCompare .Eq (.ref a) (.ref b)) (fun v s' => ∃ c, v = .bool c ∧ ∃ H', L2.Inv X pins σ H' s' ∧ Q c H') X.xe s := by
  obtain ⟨mA, J, _⟩ := ins_get I.hok ha
  obtain ⟨mB, J', _⟩ := ins_get I.hok hb'
  obtain ⟨od, J, _⟩ := J.look
  obtain ⟨od', J', _⟩ := J'.look
  obtain ⟨m', hF⟩ := I.fr
  refine PySem.W.cmp_K (op := .Eq) (tb := .ref C) sb.room.units0 hF I.ok.mod.kin J J'.type (by simp [PySem.W.notFirst]) m.at_ m.fn (wpAny_mono (run_own F hb sb I (v2 a b) hsp) (fun v s' hq => ?_) fun _ _ z => z)
  obtain ⟨z, H', I', rz, c, rfl, q⟩ := hq
  cases rz
  exact ⟨c, rfl, H', I', q⟩
theorem op_eqO (F : FnOk X.prog X.w X.K X.mg X.base CX0 n f fd ps sp) (hb : Binds X.K fd ps []) (m : Meth X.K C "__eq__" f) (hr : Room n X.A) : OpR X (compareOp .Eq) (rEqO C sp id) := by
  intro pins s σ H x y v u Q I rx ry h
  obtain ⟨a, dx, fs, b, dy, gs, rfl, rfl, ha, hb', hsp⟩ := h
  cases rx
  cases ry
  show wpAny (model X.prog X.w) X.A (richCompare .Eq (.ref a) (.ref b)) (EP X pins σ Q) X.xe s
  refine wpAny_mono (rc_eqO F hb m ⟨hr, rfl⟩ I ha hb' hsp) (fun v s' hq => ?_) fun _ _ z => z
  obtain ⟨c, rfl, H', I', q⟩ := hq
  exact ⟨.bl c, H', I', rfl, q⟩
/-- what the class says of != -/
structure NeC (K : PySem.W.Frag) (C : Addr) : Prop where
  ne : PySem.W.findIn K (.ref C) "__ne__" = some (some (.builtin "object.__ne__"))
  ob : PySem.W.mroIn K C (.type "object") = some true
theorem ifBound_B {M : Model} {A : Around} {E : Value → Shared → Prop} {s : Shared} {K : PySem.W.Frag} {x C : Addr} {ox : Obj} {od : Option Obj} {name : Str} {id : String} {args : List Value} {Q : Option Value → Shared → Prop} (X : K.In s.heap) (I : PySem.W.InstAt s.heap x ox C od) (hs : PySem.W.findIn K (.ref C) name = some (some (.builtin id)))
    (hb : ∀ self, bindSpecial (.builtin id) self = pure (.builtin id, [self])) (h : wpAny M A (call (.builtin id) (.ref x :: args)) (fun v => Q (some v)) E s) : wpAny M A (callSpecialIfBound? (.ref x) name args) Q E s := by
  simp only [callSpecialIfBound?, bindSpecialIfBound?]
  refine wpAny_holding (wpAny_bind (wpAny_bind (wpAny_bind (I.type.here ((PySem.W.looks_findIn X hs).here ?_)))))
  refine wpAny_bind (wpAny_askSetting (wpAny_ite ?_))
  have fin : wpAny M A (call (.builtin id) ([.ref x] ++ args) >>= fun v => pure (some v)) Q E s := wpAny_bind (wpAny_mono h (fun v s' h' => wpAny_pure h') fun _ _ h' => h')
  split
  · exact wpAny_bind ((PySem.W.Looks.of_pure (hb _)).here (wpAny_pure (by exact fin)))
  · exact wpAny_tryCatch (wpAny_bind ((PySem.W.Looks.of_pure (hb _)).here (wpAny_pure (by exact fin))))
theorem obj_neK {A : Around} {E : Value → Shared → Prop} {s : Shared} {prog : Program} {w : World} {K : PySem.W.Frag} {x C f : Addr} {y : Value} {ox : Obj} {od : Option Obj} {Q : Value → Shared → Prop} (hu : A.units + 1 < cLine) (X : K.In s.heap) (I : PySem.W.InstAt s.heap x ox C od) (N : NeC K C) (he : PySem.W.findIn K (.ref C) "__eq__" = some (some (.ref f))) (hf : PySem.W.isFn K (.ref f) = true)
    (h : wpAny (model prog w) A.in1 (call (.ref f) [.ref x, y]) (fun v s' => ∃ c, v = .bool c ∧ Q (.bool (!c)) s') E s) : wpAny (model prog w) A (call (.builtin "object.__ne__") [.ref x, y]) Q E s := by
  refine wpAny_call (codeAny_call_builtin PySem.F.slot_object_ne.plain PySem.F.cmpEntry_ne (PySem.W.check_slot (i := "object.__ne__") (owner := "object") (n := "__ne__") (by decide +kernel) (by decide +kernel) (I.type.andThen (PySem.W.looks_mroIn X N.ob)) (PySem.F.cmpArgs_ne _ _) ?_))
  unfold Builtin.«object.__ne__»
  refine wpAny_bind (m := slotArgs "__ne__" 1 _) (wpAny_pure ?_)
  refine wpAny_bind (m := cRoomFor _ _) (wpAny_cRoomFor (show A.in1.units < cLine from hu) ?_)
  refine wpAny_bind (m := callSpecialIfBound? (.ref x) (Str.ofString "__eq__") _) (PySem.W.ifBound_K X I he hf (wpAny_mono h (fun r s' hq => ?_) fun _ _ z => z))
  obtain ⟨c, rfl, q⟩ := hq
  exact wpAny_bind (wpAny_truthy_bool (wpAny_pure q))
end
end Wl
namespace Wl
open PySem PySem.Spec PyProof.Rows L2
theorem ne_K {A : Around} {E : Value → Shared → Prop} {s : Shared} {prog : Program} {w : World} {K : PySem.W.Frag} {x C f : Addr} {y : Addr} {ox oy : Obj} {od od' : Option Obj} {Q : Value → Shared → Prop} (hu : A.units + 2 < cLine) (X : K.In s.heap) (I : PySem.W.InstAt s.heap x ox C od) (I' : PySem.W.InstAt s.heap y oy C od') (N : NeC K C) (he : PySem.W.findIn K (.ref C) "__eq__" = some (some (.ref f))) (hf : PySem.W.isFn K (.ref f) = true)
    (h : wpAny (model prog w) A.in1 (call (.ref f) [.ref x, .ref y]) (fun v s' => ∃ c, v = .bool c ∧ Q (.bool (!c)) s') E s) : wpAny (model prog w) A (richCompare .NotEq (.ref x) (.ref y)) Q E s := by
  have one : wpAny (model prog w) A (tryCompare (.ref x) "__ne__" (.ref y)) (fun r s' => ∃ v, r = some v ∧ Q v s') E s := by
    unfold tryCompare
    refine wpAny_bind (ifBound_B X I N.ne PySem.F.slot_object_ne.bind (wpAny_mono (obj_neK (Q := fun v s' => ∃ c, v = .bool c ∧ Q v s') (by omega) X I N he hf (wpAny_mono h (fun v s' hv => ?_) fun _ _ z => z)) (fun v s' hv => ?_) fun _ _ z => z))
    · obtain ⟨c, rfl, q⟩ := hv
      exact ⟨c, rfl, _, rfl, q⟩
    · obtain ⟨c, rfl, q⟩ := hv
      exact wpAny_pure ⟨_, rfl, q⟩
  unfold richCompare
  simp only [oneThing_ref]
  refine wpAny_holding (wpAny_bind (wpAny_cRoomFor (by omega) ?_))
  refine wpAny_bind (I.type.here (wpAny_bind (I'.type.here ?_)))
  rw [show (Value.ref C != Value.ref C) = false from by simp]
  simp only [Bool.false_eq_true, if_false]
  refine wpAny_bind (wpAny_pure ?_)
  simp only [Bool.false_eq_true, if_false]
  refine wpAny_bind (wpAny_mono one (fun r s' z => ?_) fun _ _ e => e)
  obtain ⟨v, rfl, hq⟩ := z
  exact wpAny_pure hq
section
variable {X : Cx} {n : Nat} {f : Addr} {fd : FuncData} {ps : List Str} {sp : Sp} {C : Addr}
theorem op_neO (F : FnOk X.prog X.w X.K X.mg X.base CX0 n f fd ps sp) (hb : Binds X.K fd ps []) (m : Meth X.K C "__eq__" f) (N : NeC X.K C) (hr : Room (n + 1) X.A) : OpR X (compareOp .NotEq) (rEqO C sp not) := by
  intro pins s σ H x y v u Q I rx ry h
  obtain ⟨a, dx, fs, b, dy, gs, rfl, rfl, ha, hb', hsp⟩ := h
  cases rx
  cases ry
  obtain ⟨mA, J, _⟩ := ins_get I.hok ha
  obtain ⟨mB, J', _⟩ := ins_get I.hok hb'
  obtain ⟨od, J, _⟩ := J.look
  obtain ⟨od', J', _⟩ := J'.look
  show wpAny (model X.prog X.w) X.A (richCompare .NotEq (.ref a) (.ref b)) (EP X pins σ Q) X.xe s
  refine ne_K (room_u2 hr) I.kIn J J' N m.at_ m.fn (wpAny_mono (run_own F hb (Sub.in1 ⟨hr, rfl⟩) I (v2 a b) hsp) (fun v s' hq => ?_) fun _ _ z => z)
  obtain ⟨z, H', I', rz, c, rfl, q⟩ := hq
  cases rz
  exact ⟨c, rfl, .bl (!c), H', I', rfl, q⟩
/-! x in xs, x not in xs, of objects -/
open GQ MeetsSeq MeetsSeq2 MeetsSeq3 SeqRoads2 in
open AutoSeq1 (wpAny_loadPart') in
theorem contains_loopO {prog : Program} {w : World} {A : Around} {R : Result → Shared → Prop} {l : Addr} {items : Array Value} {x : Value} (P : Nat → Shared → Prop)
    (hl : ∀ i s, P i s → ∃ k, s.heap.get? l = some { cls := .type "list", data := .seq items k })
    (turn : ∀ (i : Nat) (h : i < items.size) (s : Shared), P i s → wpAny (model prog w) A.in1 (eqBool items[i] x) (fun b s' => if b = true then R (.ok (.ret (.bool true))) s' else P (i + 1) s') (fun e s' => R (.error e) s') s)
    (fin : ∀ s, P items.size s → R (.ok (.ret (.bool false))) s) (k : Nat) :
    ∀ i : Nat, items.size - i = k → i ≤ items.size → ∀ s, P i s → wpAny (model prog w) A.in1 (Builtin.«list.__contains__.loop» ⟨[.ref l, x, rawInt i], []⟩) (FinOf prog w A R) (fun e s' => R (.error e) s') s := by
  induction k with
  | zero =>
    intro i hk hi s h
    obtain ⟨k, hl1⟩ := hl i s h
    have e : i = items.size := by omega
    have q := fin s (e ▸ h)
    obtain ⟨hp, g, d, tk, os⟩ := s
    wp_walk using wpAny_loadPart' hl1
    have hi1 : items[((i : Nat) : Int).toNat]? = none := by simp; omega
    rw [hi1]
    wp_walk
    exact q
  | succ k ih =>
    intro i hk hi s h
    obtain ⟨k1, hl1⟩ := hl i s h
    have hlt : i < items.size := by omega
    have ht := turn i hlt s h
    obtain ⟨hp, g, d, tk, os⟩ := s
    wp_walk using wpAny_loadPart' hl1
    have hi1 : items[((i : Nat) : Int).toNat]? = some items[i] := by simp [hlt]
    rw [hi1]
    refine wpAny_bind (wpAny_mono ht (fun b s2 h2 => ?_) fun _ _ z => z)
    cases b with
    | true =>
      rw [if_pos rfl] at h2
      wp_walk
      exact h2
    | false =>
      rw [if_neg (by decide)] at h2
      have hrec := ih (i + 1) (by omega) (by omega) s2 h2
      obtain ⟨hp2, g2, d2, tk2, os2⟩ := s2
      have hc : ((i : Int) + 1) = ((i + 1 : Nat) : Int) := by omega
      wp_walk
      rw [hc]
      exact ⟨plainId_quiet plain_contains_loop _, codeAny_builtin entry_contains_loop (by
        rw [Around.under_plainId plain_contains_loop _]
        exact hrec)⟩
open GQ MeetsSeq MeetsSeq2 MeetsSeq3 SeqRoads2 in
open AutoSeq1 (wpAny_loadPart') in
theorem containsO {prog : Program} {w : World} {A : Around} {R : Result → Shared → Prop} {s : Shared} {l : Addr} {items : Array Value} {x : Value} (P : Nat → Shared → Prop)
    (hl : ∀ i s, P i s → ∃ k, s.heap.get? l = some { cls := .type "list", data := .seq items k })
    (turn : ∀ (i : Nat) (h : i < items.size) (s : Shared), P i s → wpAny (model prog w) A.in1 (eqBool items[i] x) (fun b s' => if b = true then R (.ok (.ret (.bool true))) s' else P (i + 1) s') (fun e s' => R (.error e) s') s)
    (fin : ∀ s, P items.size s → R (.ok (.ret (.bool false))) s) (h : P 0 s) :
    wpAny (model prog w) A.in1 (Builtin.«list.__contains__» ⟨[.ref l, x], []⟩) (FinOf prog w A R) (fun e s' => R (.error e) s') s := by
  have hrec := contains_loopO (A := A) (R := R) P hl turn fin _ 0 rfl (Nat.zero_le _) s h
  obtain ⟨k, hl1⟩ := hl 0 s h
  obtain ⟨hp, g, d, tk, os⟩ := s
  wp_walk using wpAny_loadPart' hl1
  exact ⟨plainId_quiet plain_contains_loop _, codeAny_builtin entry_contains_loop (by
    rw [Around.under_plainId plain_contains_loop _]
    exact hrec)⟩
/-- x in [y]: both of one class -/
def rInO (C : Addr) (sp : Sp) (g : Bool → Bool) : R2 := fun x y H Q => ∃ a dx fs l b dy gs, x = V.ref a ∧ y = V.ref l ∧ H l = some (.lst [.ref b]) ∧ H a = some (.ins C dx fs) ∧ H b = some (.ins C dy gs) ∧ (a = b → Q (.bl (g true)) H) ∧
  (a ≠ b → sp [.ref b, .ref a] H (fun v H' => ∃ c, v = .bl c ∧ H' l = some (.lst [.ref b]) ∧ Q (.bl (g c)) H') E0)
theorem op_inO' (F : FnOk X.prog X.w X.K X.mg X.base CX0 n f fd ps sp) (hb : Binds X.K fd ps []) (m : Meth X.K C "__eq__" f) (hr : Room (n + 1) X.A) {g : Bool → Bool} {pins : List (Addr × Obj)} {s : Shared} {σ : L2.St} {H : Hp} {x y : V} {v u : Value} {Q : VK} (I : L2.Inv X pins σ H s) (rx : RelV x v) (ry : RelV y u) (h : rInO C sp g x y H Q) :
    wpAny (model X.prog X.w) X.A (contains u v) (fun b s' => EP X pins σ Q (.bool (g b)) s') X.xe s := by
  obtain ⟨a, dx, fs, l, b, dy, gs, rfl, rfl, hl, ha, hb', q1, q2⟩ := h
  cases rx
  cases ry
  obtain ⟨z, its, k, r, ho⟩ := I.hok l _ hl
  obtain ⟨u, rfl, ru⟩ := vals1 r
  obtain rfl : u = Value.ref b := ru
  refine wpAny_contains_slot ⟨_, ho, rfl⟩ PySem.F.slot_list_contains (wpAny_mono (GQ.call_here PySem.F.slot_list_contains ⟨_, ho, rfl⟩ PySem.F.entry_list_contains (PySem.F.args_list_contains_2 _ _)
    (containsO (R := wants (fun v s' => ∃ c, v = .bool c ∧ EP X pins σ Q (.bool (g c)) s') X.xe) (items := #[.ref b]) (fun i s' => (i = 0 ∧ s' = s) ∨ (i = 1 ∧ ∃ H', L2.Inv X pins σ H' s' ∧ H' l = some (.lst [.ref b]) ∧ Q (.bl (g false)) H')) (fun i s' h => ?_) (fun i hi s' h => ?_) (fun s' h => ?_) (.inl ⟨rfl, rfl⟩))) (fun v s' hv => ?_) fun _ _ e => e)
  · rcases h with ⟨rfl, rfl⟩ | ⟨rfl, H', I', hl', _⟩
    · exact ⟨k, ho⟩
    · obtain ⟨z', its', k', r', ho'⟩ := I'.hok l _ hl'
      obtain ⟨u, rfl, ru⟩ := vals1 r'
      obtain rfl : u = Value.ref b := ru
      exact ⟨k', ho'⟩
  · have e0 : i = 0 := by simp at hi; omega
    subst e0
    rcases h with ⟨_, rfl⟩ | ⟨e, _⟩
    · show wpAny (model X.prog X.w) X.A.in1 (eqBool (.ref b) (.ref a)) _ _ _
      by_cases e : b = a
      · subst e
        refine SeqAt.EqAt.same (A := X.A.in1) (s := s') (.ref b) X.prog X.w _ _ ?_
        rw [if_pos rfl]
        exact ⟨_, rfl, .bl (g true), H, I, rfl, q1 rfl⟩
      · refine GQ.eqBool_refG e (wpAny_mono (rc_eqO F hb m (Sub.in1 ⟨hr, rfl⟩) I hb' ha (Q := fun c H' => H' l = some (.lst [.ref b]) ∧ Q (.bl (g c)) H') (q2 (Ne.symm e))) (fun v s2 hq => ?_) fun _ _ z => z)
        obtain ⟨c, rfl, H', I', hl', q⟩ := hq
        refine ⟨c, rfl, ?_⟩
        cases c with
        | true =>
          rw [if_pos rfl]
          exact ⟨_, rfl, .bl (g true), H', I', rfl, q⟩
        | false =>
          rw [if_neg (by decide)]
          exact .inr ⟨rfl, H', I', hl', q⟩
    · omega
  · rcases h with ⟨e, _⟩ | ⟨_, H', I', hl', q⟩
    · simp at e
    · exact ⟨_, rfl, .bl (g false), H', I', rfl, q⟩
  · obtain ⟨c, rfl, q⟩ := hv
    exact wpAny_truthy_bool q
theorem op_inO (F : FnOk X.prog X.w X.K X.mg X.base CX0 n f fd ps sp) (hb : Binds X.K fd ps []) (m : Meth X.K C "__eq__" f) (hr : Room (n + 1) X.A) : OpR X (compareOp .In) (rInO C sp id) := by
  intro pins s σ H x y v u Q I rx ry h
  show wpAny _ X.A (do return Value.bool (← contains u v)) _ _ s
  exact wpAny_bind (wpAny_mono (op_inO' F hb m hr I rx ry h) (fun b s' q => wpAny_pure q) fun _ _ z => z)
theorem op_notInO (F : FnOk X.prog X.w X.K X.mg X.base CX0 n f fd ps sp) (hb : Binds X.K fd ps []) (m : Meth X.K C "__eq__" f) (hr : Room (n + 1) X.A) : OpR X (compareOp .NotIn) (rInO C sp not) := by
  intro pins s σ H x y v u Q I rx ry h
  show wpAny _ X.A (do return Value.bool (!(← contains u v))) _ _ s
  exact wpAny_bind (wpAny_mono (op_inO' F hb m hr I rx ry h) (fun b s' q => wpAny_pure q) fun _ _ z => z)
end
end Wl

/-! repr of data of any depth: a text that the data alone says. -/
namespace Wl
open PySem PySem.Spec PyProof.Rows L2
/-- data that can be shown -/
structure Shows (d : PyData) : Prop where
  lay : PyData.canLay0 d = true
  deep : d.depth ≤ 8
  wgt : d.weight ≤ 2 ^ 20
  sh : d.showable = true
  ish : d.intsShort 13 = true
theorem Shows.size {d : PyData} (h : Shows d) : d.shown.length ≤ sizeLine := by
  have h1 : PyData.layable0 d = true := by
    show (PyData.canLay0 d && decide (PyData.depth d ≤ 64) && decide (PyData.weight d ≤ 2 ^ 20)) = true
    rw [h.lay, decide_eq_true (Nat.le_trans h.deep (by decide)), decide_eq_true h.wgt]
    rfl
  exact Nat.le_trans (shown_le13 h1 h.ish) (by decide)
section
variable {X : Cx}
def rReprD (K : PySem.W.Frag) : List V → Hp → VK → Prop := fun xs H Q => ∃ (a : Addr) (d : PyData), xs = [V.ref a] ∧ Dp K H (.ref a) d ∧ Shows d ∧ Q (.str d.shown) H
theorem cr_reprD (hg : X.A.guards = some []) (hu : X.A.units + 64 < cLine) : CallR X (.builtin "repr") (rReprD X.K) := by
  intro pins s σ H xs us Q I r h
  obtain ⟨a, d, rfl, hd, hs, q⟩ := h
  rw [Vals.ref1 r]
  obtain ⟨as, r1⟩ := Dp.reads I d (.ref a) (.ref a) hd rfl
  have := hs.deep
  refine repr_of_reads' r1 hs.sh (PyData.noDict_hsm (PyData.hasDict_of_canLay d hs.lay)) hg (by omega) (fun _ _ e => e) (fun h' u tk hk => ?_) hs.size
  exact ⟨.str _, H, I.kept hk, ⟨u, rfl⟩, q⟩
end
end Wl

/-! repr of a pair (text, thing): the thing data, or an empty dict, by itself or in a tuple. x.upper() of a text. -/
namespace Wl
open PySem PySem.Spec PyProof.Rows L2
/-- d is what v holds -/
def RepV (K : PySem.W.Frag) (H : Hp) (v : V) (d : PyData) : Prop := (d.hasDict = false ∧ Dp K H v d) ∨ (∃ p, v = .ref p ∧ H p = some (.dK []) ∧ d = .dict []) ∨ ∃ p q, v = .ref p ∧ H p = some (.tup [.ref q]) ∧ H q = some (.dK []) ∧ d = .tuple [.dict []]
/-- the pair can be shown -/
structure ShowsP (nm : Str) (d : PyData) : Prop where
  sh : (PyData.tuple [.str nm, d]).showable = true
  deep : (PyData.tuple [.str nm, d]).depth ≤ 8
  size : (PyData.tuple [.str nm, d]).shown.length ≤ sizeLine
theorem ShowsP.of {nm : Str} {d : PyData} (h : Shows (.tuple [.str nm, d])) : ShowsP nm d := ⟨h.sh, h.deep, h.size⟩
section
variable {X : Cx} {pins : List (Addr × Obj)} {σ : L2.St} {H : Hp} {s : Shared}
theorem edict_reads (I : Inv X pins σ H s) {p : Addr} (h : H p = some (.dK [])) : Reads s.heap (.ref p) (.dict []) (p :: [] ++ []) ∧ p ≠ sysModules := by
  obtain ⟨_, hs, vs, kv, o, es, ep, ho, hx, hd, _, hp, _⟩ := I.hok p _ h
  cases kv
  have he : es.toList = [] := by
    generalize es.toList = l at hp
    cases hp
    rfl
  refine ⟨Reads.dict ho hx.1 hd ?_ ?_, fun e => ?_⟩
  · rw [he]
    exact ReadsAll.nil
  · rw [he]
    exact ReadsAll.nil
  · rw [e] at hs
    exact absurd hs (by decide)
theorem RepV.reads (I : Inv X pins σ H s) {v : V} {u : Value} {d : PyData} (h : RepV X.K H v d) (r : RelV v u) : ∃ as, Reads s.heap u d as ∧ (d.hasDict = true → sysModules ∉ as) := by
  rcases h with ⟨hd, h⟩ | ⟨p, rfl, hp, rfl⟩ | ⟨p, q, rfl, hp, hq, rfl⟩
  · obtain ⟨as, r1⟩ := Dp.reads I d v u h r
    exact ⟨as, r1, fun z => by rw [hd] at z; cases z⟩
  · cases (show u = Value.ref p from r)
    obtain ⟨r1, ne⟩ := edict_reads I hp
    exact ⟨_, r1, fun _ => by simpa using Ne.symm ne⟩
  · cases (show u = Value.ref p from r)
    obtain ⟨r1, ne⟩ := edict_reads I hq
    obtain ⟨z, its, rv, ⟨o, ho, hc, n, hdat⟩⟩ := I.hok p _ hp
    cases rv with
    | cons rq rn =>
      cases rn
      cases rq
      exact ⟨_, Reads.tuple ho hc hdat (ReadsAll.cons r1 ReadsAll.nil), fun _ => by simpa using Ne.symm ne⟩
def rReprP (K : PySem.W.Frag) : List V → Hp → VK → Prop := fun xs H Q => ∃ (a : Addr) (nm : Str) (v : V) (d : PyData), xs = [V.ref a] ∧ H a = some (.tup [.str nm, v]) ∧ RepV K H v d ∧ ShowsP nm d ∧ Q (.str (PyData.tuple [.str nm, d]).shown) H
theorem cr_reprP (hg : X.A.guards = some []) (hu : X.A.units + 64 < cLine) : CallR X (.builtin "repr") (rReprP X.K) := by
  intro pins s σ H xs us Q I r h
  obtain ⟨a, nm, v, d, rfl, ha, hv, hs, q⟩ := h
  rw [Vals.ref1 r]
  obtain ⟨z, its, rv, ⟨o, ho, hc, n, hdat⟩⟩ := I.hok a _ ha
  cases rv with
  | cons rn rv =>
    cases rv with
    | cons rx rv =>
      cases rv
      obtain ⟨t, rfl⟩ := rn
      obtain ⟨as, r1, hsm⟩ := hv.reads I rx
      have r2 := Reads.tuple ho hc hdat (ReadsAll.cons (Reads.str nm t) (ReadsAll.cons r1 ReadsAll.nil))
      have := hs.deep
      refine repr_of_reads' r2 hs.sh (fun z => ?_) hg (by omega) (fun _ _ e => e) (fun h' u tk hk => ?_) hs.size
      · have z2 : d.hasDict = true := by simpa [PyData.hasDict, PyData.hasDictAll] using z
        simpa using hsm z2
      · exact ⟨.str _, H, I.kept hk, ⟨u, rfl⟩, q⟩
end
section
variable {X : Cx}
def tUp (te : TE) : TE := fun σ H Q => te σ H fun x H1 => ∃ z, x = .str z ∧ z.length ≤ 5592405 ∧ Q (.str (Txt.upper z)) H1
theorem pe_upper {o : Expr} {te : TE} {p1 p2 : Pos} (he : PE X o te) (hb : attributeBase o "upper" X.env (eval o X.env) = eval o X.env := by rfl) (hl : (p1.endLine == p2.line) = true := by rfl) : PE X (.Call (.Attribute o "upper" p1) [] [] p2) (tUp te) := by
  refine ⟨fun pins s σ H Q I h => ?_⟩
  refine J1.ev_upper hb hl (thn (he.run pins s σ H _ I h) fun u s1 hh => ?_)
  obtain ⟨x, H1, I1, rx, z, rfl, hz, q⟩ := hh
  obtain ⟨t, rfl⟩ := rx
  exact ⟨z, t, rfl, hz, fun t' k => ⟨.str _, H1, I1.tok _, ⟨t', rfl⟩, q⟩⟩
theorem upper_wd {z : Str} (h : IsWd z) : (Txt.upper z).length = z.length ∧ wdB (Txt.upper z) = false := by
  have h0 : wdB z = true := h
  unfold wdB at h0
  simp only [Bool.and_eq_true, decide_eq_true_eq, List.all_eq_true] at h0
  obtain ⟨⟨h1, h2⟩, h3⟩ := h0
  have e : Txt.upper z = ⟨z.cps.map PyProof.Rows.up1⟩ := PyProof.Rows.upper_ascii fun c hc => by
    have := h3 c hc
    omega
  rw [e]
  have l : (Str.mk (z.cps.map PyProof.Rows.up1)).length = z.length := by
    show (z.cps.map PyProof.Rows.up1).size = z.cps.size
    exact Array.size_map ..
  refine ⟨l, ?_⟩
  unfold wdB
  have : (((Str.mk (z.cps.map PyProof.Rows.up1)).cps.toList.all fun c => decide (97 ≤ c) && decide (c ≤ 122))) = false := by
    rw [Array.toList_map]
    have hne : z.cps.toList ≠ [] := fun q => by
      have h1 : 1 ≤ z.cps.size := h1
      rw [← Array.length_toList] at h1
      rw [q] at h1
      simp at h1
    cases ez : z.cps.toList with
    | nil => exact absurd ez hne
    | cons c r =>
      have := h3 c (by rw [ez]; exact List.mem_cons_self)
      rw [List.map_cons, List.all_cons]
      have : PyProof.Rows.up1 c = c - 32 := by
        unfold PyProof.Rows.up1
        rw [if_pos this]
      rw [this]
      have : decide (97 ≤ c - 32) = false := decide_eq_false (by omega)
      rw [this]
      rfl
  rw [this, Bool.and_false]
end
end Wl

/-! Promises of defs that are kept where no text of a list, tuple or dict is being made around them: what repr of a list needs. -/
namespace Wl
open PySem PySem.Spec PyProof.Rows L2
structure FnOkG (P : Program) (w : World) (K : PySem.W.Frag) (mg : Str → Option Value) (base : Heap) (k : Nat) (f : Addr) (fd : FuncData) (ps : List Str) (sp : Sp) : Prop where
  len : ∀ vs H Q E, sp vs H Q E → vs.length = ps.length
  run : ∀ (A : Around) (outer : List Env) (s : Shared) (H : Hp) (args : Args) (us : List Value) (vs : List V) (Q : VK) (E : XK), A.guards = some [] → Room k A →
    Env0 P w K mg base A outer s H → BindsTo s fd args (ps.zip us) → Vals vs us → sp vs H Q E → codeAny (model P w) A (.call (.ref f) args) (CR CX0 outer P w H s Q E) s
section
variable {P : Program} {w : World} {K : PySem.W.Frag} {mg : Str → Option Value} {base : Heap} {k : Nat} {f : Addr} {fd : FuncData} {ps N : List Str} {sp : Sp}
theorem FnOkG.of (F : FnOk P w K mg base CX0 k f fd ps sp) : FnOkG P w K mg base k f fd ps sp := ⟨F.len, fun A o s H ar us vs Q E _ => F.run A o s H ar us vs Q E⟩
/-- a def's promise by its body, no such text being made -/
theorem okG {x qual : Str} {st : Stmt} (F : Fun K x qual st f fd) (S : FnScope N ps (defScope st)) (ln : ∀ vs H Q E, sp vs H Q E → vs.length = ps.length)
    (bd : ∀ (cdv : Value) (A : Around) (outer : List Env) (s : Shared) (H : Hp) (vs : List V) (Q : VK) (E : XK), A.guards = some [] → Room k (A.deeper (envOfC qual (defScope st) s.heap.objs.size f cdv)) → sp vs H Q E →
      ∃ t, PSs (cxOf CX0 P w K mg base N qual (defScope st) f cdv A outer s H E).nox (defBody st) t ∧ t { nx := fun _ H' => Q .non H', rt := Q } (start N vs) H) : FnOkG P w K mg base (k + 1) f fd ps sp := by
  obtain ⟨oc, od, kV, doc, pm, an, cd, ct, sl, rfl, at_, hc⟩ := F.ex
  refine ⟨ln, fun A ou s H ar us vs Q E hg room ev bnd rel pr => ?_⟩
  have lv := ln _ _ _ _ pr
  have inK : K.In s.heap := ev.mod.kin.keeps fun b o q => (ev.bs b o q).1
  have nol : s.heap.NoLimit := ev.mod.nolimit.keeps fun b o q => (ev.bs b o q).1
  refine codeAny_call_function room.depth (inK _ _ at_) rfl S.co S.gen rfl (PySem.W.codeRec_of inK hc) (bnd _ _ _ _ ?_)
  refine wpAny_newFunctionEnv_cells S.kind (fun y hy => ?_) fun env ee s1 ic => ?_
  · rcases S.par y.1 (List.of_mem_zip hy).1 with q | q
    · exact .inl q
    · exact .inr ⟨q, PySem.W.cellsFrom_some _ _ _ (.inl q)⟩
  · subst ee
    refine ⟨nol.keeps ic.toInCall.keep, codeAny_func ?_⟩
    obtain ⟨t, der, rd⟩ := bd cd A ou s H vs Q E hg (room.deeper _) pr
    have J0 : L2.Inv (cxOf CX0 P w K mg base N qual (defScope st) f cd A ou s H E) [] (start N vs) H s1 := inv_start S room.hd ev lv rel ic
    refine wpAny_mono (der.nox.run [] s1 (start N vs) H _ J0 rd) (fun fl s2 z => ?_) fun _ _ z => z
    cases fl with
    | ret u => exact let ⟨v, _, H2, J, rv, q⟩ := z; ⟨v, H2, J.os, J.bare, J.base, J.hok, rv, q⟩
    | next => exact let ⟨_, H2, J, q⟩ := z; ⟨V.non, H2, J.os, J.bare, J.base, J.hok, rfl, q⟩
    | brk => exact let ⟨_, _, _, q⟩ := z; q.elim
    | cont => exact let ⟨_, _, _, q⟩ := z; q.elim
/-- such a def by its name -/
def HasQ (P : Program) (w : World) (K : PySem.W.Frag) (mg : Str → Option Value) (base : Heap) (x : Str) (k : Nat) (ps : List Str) (sp : Sp) : Prop :=
  ∃ f fd, FnOkG P w K mg base k f fd ps sp ∧ mg x = some (.ref f) ∧ PySem.W.keepIn K (.ref f) = true ∧ Binds K fd ps []
end
section
variable {X : Cx} {k j : Nat} {ps : List Str} {sp : Sp} {x : Str} {p pos : Pos} {e : Expr} {es : List Expr} {t : TA}
theorem pe_hQ (h : HasQ X.prog X.w X.K X.mg X.base x k ps sp) (hgd : X.A.guards = some []) (hr : Room j X.A) (ha : PA X (e :: es) t) (hkj : k ≤ j := by decide) (hg : Gl X x := by rfl) (hdb : (x == ("__debug__" : Str)) = false := by decide)
    (he : starEach (e :: es) X.env = (false, eval e X.env) :: starEach es X.env := by rfl) (hpl : (backTo pos (starEach es X.env)).any (·.1) = false := by rfl) :
    PE X (.Call (.Name x p) (e :: es) [] pos) (tCall sp [] E0 t) := by
  obtain ⟨f, fd, F, g, kp, b⟩ := h
  refine ⟨fun pins s σ H Q I hh => ?_⟩
  refine wpAny_Call_Name_kw (ld_glob I hg g ?_ hdb)
  refine PySem.W.callWith_K (h₀ := X.base) I.ok.mod.kin kp (thn (ha.run pos pins s σ H _ I hh) fun us s1 ⟨vs, H1, I1, r, q⟩ => ⟨I1.kIn, ?_⟩) he hpl
  have q' : sp vs H1 Q E0 := by
    have z : sp (vs ++ []) H1 Q E0 := q
    rw [List.append_nil] at z
    exact z
  have hl := F.len _ _ _ _ q'
  have hb' : BindsTo s1 fd ⟨us, []⟩ (ps.zip us) := by
    have z := b s1 us I1.kIn (by rw [List.append_nil, ← r.length]; exact hl)
    rw [List.append_nil] at z
    exact z
  refine wpAny_call (codeAny_mono (F.run X.A X.stack s1 H1 ⟨us, []⟩ us vs _ E0 hgd (hr.mono hkj) I1.env0 hb' r q') fun r s' hq => ?_)
  cases r with
  | error e => exact pass0 pins σ H1 s1 e s' I1 hq
  | ok fl =>
    cases fl with
    | ret w => exact I1.after hq
    | next => exact hq.elim
    | brk => exact hq.elim
    | cont => exact hq.elim
end
/-- the law's own call, by such a promise -/
theorem law_callG {P : Program} {w : World} {K : PySem.W.Frag} {mg mb : Str → Option Value} {k : Nat} {fa a : Addr} {fd : FuncData} {x : Str} {sp : Sp} {s₁ : Shared} {vs : List Value} {ns : List Int}
    (KX : K.In s₁.heap) (hns : s₁.heap.Ns mainGlobals mg) (hb : s₁.heap.Ns builtinsNs mb) (hbb : ∀ x : Str, x ≠ "__name__" → mb x = bootBuiltins x) (lim : s₁.heap.NoLimit) (gens : s₁.gens = #[])
    (ha : s₁.heap.get? a = some { cls := .type "list", data := .seq vs.toArray }) (hi : IntsAre vs ns) (hl : ns.length ≤ sizeLine) (room : Room k callerA)
    (F : ∀ base : Heap, K.In base → base.Ns mainGlobals mg → FnOkG P w K mg base k fa fd [x] sp) (bnd : ∀ (s : Shared) (u : Value), BindsTo s fd ⟨[u], []⟩ [(x, u)])
    (pr : ∀ H : Hp, Only H → SqL K H a (ns.map V.int) → sp [.ref a] H (fun v _ => v = .bl true) E0) :
    codeAny (model P w) callerA (.call (.ref fa) ⟨[.ref a], []⟩) (fun r s' => r = .ok (.ret (.bool true)) ∧ OldK s₁.heap s'.heap ∧ s'.os = s₁.os ∧ AllBare s'.gens) s₁ := by
  have rv := vals_ints hi
  have main : ∀ H : Hp, Only H → SqL K H a (ns.map V.int) → HOk P w H s₁.heap → (∀ b u, H b = some u → b = a ∧ K.lookup a = none) →
      codeAny (model P w) callerA (.call (.ref fa) ⟨[.ref a], []⟩) (fun r s' => r = .ok (.ret (.bool true)) ∧ OldK s₁.heap s'.heap ∧ s'.os = s₁.os ∧ AllBare s'.gens) s₁ := by
    intro H only sq hok own
    have free : ∀ b, (b = a → K.lookup a ≠ none) → H b = none := fun b hn => by
      cases q : H b with
      | none => rfl
      | some u => exact absurd (own b u q).2 (hn (own b u q).1)
    have dictN : ∀ {b : Addr} {o : Obj} {es : Array DictEntry} {ep : Nat}, s₁.heap.get? b = some o → o.data = .dict es ep → H b = none := fun {b o es ep} e d => by
      cases q : H b with
      | none => rfl
      | some u =>
        obtain ⟨rfl, _⟩ := own b u q
        rw [ha] at e
        cases e
        cases d
    have nsB : ∀ {b : Addr} {m : Str → Option Value}, s₁.heap.Ns b m → (hidT s₁.heap H).Ns b m := fun {b m} ⟨o, es, ep, e, d, r⟩ => ⟨o, es, ep, hidT_get e (dictN e d), d, r⟩
    have kB : K.In (hidT s₁.heap H) := fun b o e => hidT_get (KX b o e) (free b fun z q => by rw [z, q] at e; cases e)
    have md : Mod K mg (hidT s₁.heap H) := ⟨kB, nsB hns, ⟨mb, nsB hb, hbb⟩, let ⟨mc, h1, h2⟩ := lim; ⟨mc, nsB h1, h2⟩⟩
    have ev : Env0 P w K mg (hidT s₁.heap H) callerA [] s₁ H := ⟨rfl, md, fun _ _ e => of_hidT e, Nat.le_of_eq (hidT_size _ _), trivial, fun b z => absurd (show b ∈ ([] : List Addr) from z) (by simp), hok, .of_eq gens⟩
    refine codeAny_mono ((F _ kB (nsB hns)).run callerA [] s₁ H ⟨[.ref a], []⟩ [.ref a] [.ref a] _ _ rfl room ev (bnd s₁ (.ref a)) (.cons rfl .nil) (pr H only sq)) fun r s' h => ?_
    match r, h with
    | .error e, h => exact (show False from h).elim
    | .ok .next, h => exact h.elim
    | .ok .brk, h => exact h.elim
    | .ok .cont, h => exact h.elim
    | .ok (.ret u), ⟨v, H', os, bare, un, hok', r', q⟩ =>
      obtain rfl : v = .bl true := q
      obtain rfl : u = Value.bool true := r'
      refine ⟨rfl, OldK.of_keep fun b o e => ?_, os, bare⟩
      rcases only b with z | ⟨ob, xs, z⟩
      · exact un.keep b o e z (fun y => absurd (show b ∈ ([] : List Addr) from y) (by simp)) (by simp)
      · have e1 := (hok b _ z).1
        rw [e] at e1
        cases e1
        exact (hok' b _ (un.frzs b _ _ z)).1
  cases hk : K.lookup a with
  | some o =>
    have e := KX a o hk
    rw [ha] at e
    cases e
    refine main (fun _ => none) (fun _ => .inl rfl) (.inr ⟨_, vs.toArray, _, hk, rfl, rfl, rfl, ?_, by simpa using rv⟩) (fun b u z => nomatch z) fun b u z => nomatch z
    rw [List.size_toArray, hi.length]
    exact hl
  | none =>
    have at_ : ∀ b u, (if b = a then some (HO.frz { cls := .type "list", data := .seq vs.toArray } (.lst (ns.map V.int))) else none) = some u → b = a ∧ u = HO.frz { cls := .type "list", data := .seq vs.toArray } (.lst (ns.map V.int)) := fun b u z => by
      by_cases c : b = a
      · rw [if_pos c] at z
        exact ⟨c, (Option.some.inj z).symm⟩
      · rw [if_neg c] at z
        cases z
    refine main (fun b => if b = a then some (.frz { cls := .type "list", data := .seq vs.toArray } (.lst (ns.map V.int))) else none) (fun b => ?_) (.inl (.inr ⟨_, if_pos rfl⟩)) (fun b u z => ?_) fun b u z => ⟨(at_ b u z).1, hk⟩
    · by_cases c : b = a
      · exact .inr ⟨_, _, if_pos c⟩
      · exact .inl (if_neg c)
    · obtain ⟨rfl, rfl⟩ := at_ b u z
      exact ⟨ha, by rw [List.length_map]; exact hl, vs, _, rv, ha⟩
theorem walk_ofG {l : PySem.W.OpenLaw} {n k : Nat} {q : Program} {loose : List Str} {XP : (Str → Option Value) → Heap → Prop} {YP : World → Heap → Prop} {d : DefRec} {x : Str}
    (hn : l.most = some n) (hn2 : n ≤ sizeLine) (hdf : d.params.defaults = []) (hr : Room k callerA)
    (F : ∀ (w : World) (mg : Str → Option Value) (fa : Addr) (h : Heap), YP w h → h.Ns mainGlobals mg → mg d.name = some (.ref fa) →
      ∃ (K : PySem.W.Frag) (fd : FuncData) (sp : Sp), K.In h ∧ (∀ (s : Shared) (u : Value), BindsTo s fd ⟨[u], []⟩ [(x, u)]) ∧ (∀ (H : Hp) (a : Addr) (ns : List Int), ns.length ≤ n → Only H → SqL K H a (ns.map V.int) → sp [.ref a] H (fun v _ => v = .bl true) E0) ∧
        ∀ base : Heap, K.In base → base.Ns mainGlobals mg → FnOkG l.prog w K mg base k fa fd [x] sp) :
    PySem.W.WalkO q loose XP YP l.row.toRowW d [] (fun f vs => PySem.call f vs) := by
  refine Att.attach_call hn hdf fun w s₀ s₁ mg mb fa o pm cd doc a vs ns G Y ho hd hcd hmg hobj hints hlen hg => ?_
  obtain ⟨K, fd, sp, inK, bnd, pr, keeps⟩ := F w mg fa _ Y G.T.g hmg
  exact law_callG inK G.T.g G.T.b G.T.builtins G.T.nolimit hg hobj hints (Nat.le_trans hlen hn2) hr keeps bnd fun H only sq => pr H a ns hlen only sq
end Wl

/-! repr of a thing of any kind: data, an empty dict, or an object of an own class; also where an exception is being handled. -/
namespace Wl
open PySem PySem.Spec PyProof.Rows L2
structure ShowsV (d : PyData) : Prop where
  sh : d.showable = true
  deep : d.depth ≤ 8
  size : d.shown.length ≤ sizeLine
section
variable {X : Cx} {n : Nat} {f : Addr} {fd : FuncData} {ps : List Str} {sp : Sp} {spT : Addr → Sp} {C hd : Addr}
theorem repr_data {pins : List (Addr × Obj)} {σ : L2.St} {H : Hp} {s : Shared} {v : V} {u : Value} {d : PyData} {Q : VK} (hg : X.A.guards = some []) (hu : X.A.units + 64 < cLine) (I : Inv X pins σ H s) (r : RelV v u) (hv : RepV X.K H v d) (hs : ShowsV d) (q : Q (.str d.shown) H) :
    wpAny (model X.prog X.w) X.A (call (.builtin "repr") [u]) (EP X pins σ Q) X.xe s := by
  have hdp := hs.deep
  have big : ∀ {a : Addr} {as : List Addr}, u = .ref a → Reads s.heap (.ref a) d as → (d.hasDict = true → sysModules ∉ as) → wpAny (model X.prog X.w) X.A (call (.builtin "repr") [u]) (EP X pins σ Q) X.xe s := fun {a as} e r1 hsm => by
    subst e
    exact repr_of_reads' r1 hs.sh hsm hg (by omega) (fun _ _ e => e) (fun h' t tk hk => ⟨.str _, H, I.kept hk, ⟨t, rfl⟩, q⟩) hs.size
  obtain ⟨as, r1, hsm⟩ := hv.reads I r
  rcases hv with ⟨hd, h⟩ | ⟨p, rfl, hp, rfl⟩ | ⟨p, p2, rfl, hp, hq, rfl⟩
  · cases h with
    | non =>
      cases (show u = Value.none from r)
      exact PySem.P.repr_of_none ⟨.str _, H, I.tok _, ⟨_, rfl⟩, q⟩
    | bl b =>
      cases (show u = Value.bool b from r)
      exact PySem.P.repr_of_bool ⟨.str _, H, I.tok _, ⟨_, rfl⟩, q⟩
    | int i =>
      obtain ⟨t, rfl⟩ := r
      exact PySem.P.repr_of_int (by simpa [PyData.showable] using hs.sh) ⟨.str _, H, I.tok _, ⟨_, rfl⟩, q⟩
    | str x =>
      obtain ⟨t, rfl⟩ := r
      exact PySem.P.repr_of_str ⟨.str _, H, I.tok _, ⟨_, rfl⟩, q⟩ hs.size
    | lst h1 h2 =>
      cases (show u = Value.ref _ from r)
      exact big rfl r1 hsm
    | tup h1 h2 =>
      cases (show u = Value.ref _ from r)
      exact big rfl r1 hsm
  · cases (show u = Value.ref _ from r)
    exact big rfl r1 hsm
  · cases (show u = Value.ref _ from r)
    exact big rfl r1 hsm
def rReprV (K : PySem.W.Frag) (C : Addr) (sp : Sp) : List V → Hp → VK → Prop := fun xs H Q => ∃ v, xs = [v] ∧ ((∃ d, RepV K H v d ∧ ShowsV d ∧ Q (.str d.shown) H) ∨ rStrO C sp [v] H Q)
theorem cr_reprV (F : FnOk X.prog X.w X.K X.mg X.base CX0 n f fd ps sp) (hb : Binds X.K fd ps []) (m : Meth X.K C "__repr__" f) (hg : X.A.guards = some []) (hr : Room (n + 1) X.A) : CallR X (.builtin "repr") (rReprV X.K C sp) := by
  intro pins s σ H xs us Q I r h
  obtain ⟨v, rfl, ⟨d, hv, hs, q⟩ | h⟩ := h
  · obtain ⟨u, rfl, ru⟩ := vals1 r
    exact repr_data hg (by have := hr.un; omega) I ru hv hs q
  · exact cr_reprO F hb m hr pins s σ H _ us Q I r h
/-- an own def called somewhere below the running body, an exception being handled -/
theorem run_ownT {A : Around} {pins : List (Addr × Obj)} {s : Shared} {σ : L2.St} {H : Hp} {vs : List V} {us : List Value} {Q : VK} (F : FnT X.prog X.w X.K X.mg X.base CX0 n f fd ps spT) (hb : Binds X.K fd ps []) (rm : L2H.RoomH n A) (fr : A.frames = X.A.frames) (hot : A.handled = some (.ref hd)) (I : L2.Inv X pins σ H s) (hh : HotH hd H) (r : Vals vs us) (hsp : spT hd vs H Q E0) :
    wpAny (model X.prog X.w) A (call (.ref f) us) (EP X pins σ Q) X.xe s := by
  have e0 : Env0 X.prog X.w X.K X.mg X.base A X.stack s H := by
    have e := I.env0
    exact ⟨by rw [fr]; exact e.frames, e.mod, e.bs, e.bsz, e.funs, e.frf, e.hok, e.bare⟩
  have hl := F.len _ _ _ _ _ hsp
  have hb' : BindsTo s fd ⟨us, []⟩ (ps.zip us) := by
    have := hb s us I.kIn (by rw [List.append_nil, ← r.length]; exact hl)
    rw [List.append_nil] at this
    exact this
  refine wpAny_call (codeAny_mono (F.run A X.stack s H ⟨us, []⟩ us vs _ E0 hd rm hot hh e0 hb' r hsp) fun r s' hq => ?_)
  cases r with
  | error e => exact False.elim hq
  | ok fl =>
    cases fl with
    | ret w => exact I.after hq
    | next => exact False.elim hq
    | brk => exact False.elim hq
    | cont => exact False.elim hq
def rReprT (K : PySem.W.Frag) (C hd : Addr) (sp : Addr → Sp) : List V → Hp → VK → Prop := fun xs H Q => ∃ v, xs = [v] ∧ ((∃ d, RepV K H v d ∧ ShowsV d ∧ Q (.str d.shown) H) ∨ ∃ a dx fs, v = .ref a ∧ H a = some (.ins C dx fs) ∧ HotH hd H ∧ sp hd [.ref a] H (fun v H' => ∃ z, v = .str z ∧ Q (.str z) H') E0)
theorem cr_reprT (F : FnT X.prog X.w X.K X.mg X.base CX0 n f fd ps spT) (hb : Binds X.K fd ps []) (m : Meth X.K C "__repr__" f) (hg : X.A.guards = some []) (hr : L2H.RoomH (n + 1) X.A) (hot : X.A.handled = some (.ref hd)) : CallR X (.builtin "repr") (rReprT X.K C hd spT) := by
  intro pins s σ H xs us Q I r h
  obtain ⟨v, rfl, ⟨d, hv, hs, q⟩ | ⟨a, dx, fs, rfl, ha, hh, hsp⟩⟩ := h
  · obtain ⟨u, rfl, ru⟩ := vals1 r
    exact repr_data hg (by have := hr.un; omega) I ru hv hs q
  · obtain ⟨u, rfl, ru⟩ := vals1 r
    obtain rfl : u = Value.ref a := ru
    obtain ⟨mA, J, _⟩ := ins_get I.hok ha
    obtain ⟨od, J, _⟩ := J.look
    obtain ⟨m', hF⟩ := I.fr
    refine PySem.W.repr_K (show X.A.units + 1 < cLine from by have := hr.un; omega) hF I.ok.mod.kin J m.at_ m.fn (wpAny_mono (run_ownT (A := X.A.in1) F hb ⟨by have := hr.dp; show X.A.depth + 3 * n + 5 < _; omega, by have := hr.un; show X.A.units + 1 + 16 * n + 200 < _; omega⟩ rfl hot I hh (v1 a) hsp) (fun v s' hq => ?_) fun _ _ z => z)
    obtain ⟨z, H', I', rz, y, rfl, q⟩ := hq
    obtain ⟨t, rfl⟩ := rz
    exact ⟨.str y, H', I', ⟨_, rfl⟩, q⟩
end
end Wl

namespace Wl
open PySem PySem.Spec PyProof.Rows L2
abbrev sRepr : Stmt := inClass sCls 9
section
variable {P : Program} {w : World} {K : PySem.W.Frag} {mg : Str → Option Value} {base : Heap} {f C : Addr} {fd : FuncData}
/-! ### == -/
/-! ### len -/
/-! ### repr -/
def reprS (n : Nat) : Str := ("Land(" : Str) ++ (toString (n : Int) : String) ++ (")" : Str)
def spLRepr (C : Addr) : Sp := fun vs H Q _ => ∃ (p L : Addr) (g : Grid), vs = [.ref p] ∧ LandAt C H p L g ∧ (names g).length ≤ 36 ∧ Q (.str (reprS (names g).length)) H
theorem scRepr : FnScope ["self"] ["self"] (defScope sRepr) := ⟨rfl, rfl, rfl, by decide +kernel, rfl, by decide +kernel, by decide +kernel⟩
theorem add_len (x y : Str) : (x ++ y).length = x.length + y.length := by
  rw [TL.len_tl, TL.tl_append, List.length_append, ← TL.len_tl, ← TL.len_tl]
theorem dig_len {n : Nat} (h : n ≤ 36) : ((toString (n : Int) : String) : Str).length ≤ 2 := by
  have : ∀ k : Fin 37, ((toString ((k.val : Nat) : Int) : String) : Str).length ≤ 2 := by decide +kernel
  exact this ⟨n, by omega⟩
theorem str_n (n : Nat) (h : n ≤ 36) : (((n : Nat) : Int).natAbs).log2 < 1920 := by
  have : ((n : Nat) : Int).natAbs = n := Int.natAbs_natCast n
  rw [this]
  have h2 : n.log2 ≤ n := Nat.log2_le_self n
  omega
theorem ok_lrepr (F : Fun K "__repr__" "Land.__repr__" sRepr f fd) (B : Bi mg) (T : Txt K mg C) : FnOk P w K mg base CX0 1 f fd ["self"] (spLRepr C) := by
  refine F.ok scRepr (fun vs H Q E h => ?_) (fun cdv A outer s H vs Q E hr h => ?_)
  · obtain ⟨p, L, g, rfl, _⟩ := h
    rfl
  · obtain ⟨p, L, g, rfl, ⟨d, dx, i1, ⟨kvs, hk, he⟩, _⟩, h36, q⟩ := h
    refine ⟨_, pss_one (ps_ret (pe_joined (.cons pe_str (.cons (pe_fmt (pe_callB call_lenD (by rfl) B.len PySem.boot_len (pa_cons (pe_fld (pv 0) rfl) pa_nil))) (.cons pe_str .nil))))), ?_⟩
    have ek : kvs.length = (names g).length := by
      rw [he.length, ← spG_fst g 0, List.length_map]
    refine ⟨_, rfl, by decide +kernel, _, rfl, p, C, dx, _, _, rfl, i1, T.cl, T.nS, lf_spots _ _, d, kvs, rfl, hk, .inr ⟨_, rfl, ?_, _, rfl, ?_, _, rfl, ?_, ?_⟩⟩
    · rw [ek]
      exact str_n _ h36
    · rw [ek]
      exact lzl (by rw [add_len, add_len]; have := dig_len h36; have : (Str.empty).length = 0 := rfl; have : ("Land(" : Str).length = 5 := (by decide +kernel); omega)
    · rw [ek]
      exact lzl (by rw [add_len, add_len, add_len]; have := dig_len h36; have : (Str.empty).length = 0 := rfl; have : ("Land(" : Str).length = 5 := (by decide +kernel); have : (")" : Str).length = 1 := (by decide +kernel); omega)
    · have e0 : (Str.empty ++ ("Land(" : Str)) = ("Land(" : Str) := by decide +kernel
      rw [ek]
      show Q (.str (Str.empty ++ ("Land(" : Str) ++ _ ++ (")" : Str))) H
      rw [e0]
      exact q
/-! ### str -/
theorem ok_lreprT (F : Fun K "__repr__" "Land.__repr__" sRepr f fd) (B : Bi mg) (T : Txt K mg C) : FnT P w K mg base CX0 1 f fd ["self"] (fun _ => spLRepr C) := by
  refine FunT_ok F scRepr (fun a vs H Q E h => ?_) (fun cdv A outer s H vs Q E a hot hh hr h => ?_)
  · obtain ⟨p, L, g, rfl, _⟩ := h
    rfl
  · obtain ⟨p, L, g, rfl, ⟨d, dx, i1, ⟨kvs, hk, he⟩, _⟩, h36, q⟩ := h
    refine ⟨_, pss_one (ps_ret (pe_joined (.cons pe_str (.cons (pe_fmt (pe_callB call_lenD (by rfl) B.len PySem.boot_len (pa_cons (pe_fld (pv 0) rfl) pa_nil))) (.cons pe_str .nil))))), ?_⟩
    have ek : kvs.length = (names g).length := by
      rw [he.length, ← spG_fst g 0, List.length_map]
    refine ⟨_, rfl, by decide +kernel, _, rfl, p, C, dx, _, _, rfl, i1, T.cl, T.nS, lf_spots _ _, d, kvs, rfl, hk, .inr ⟨_, rfl, ?_, _, rfl, ?_, _, rfl, ?_, ?_⟩⟩
    · rw [ek]
      exact str_n _ h36
    · rw [ek]
      exact lzl (by rw [add_len, add_len]; have := dig_len h36; have : (Str.empty).length = 0 := rfl; have : ("Land(" : Str).length = 5 := (by decide +kernel); omega)
    · rw [ek]
      exact lzl (by rw [add_len, add_len, add_len]; have := dig_len h36; have : (Str.empty).length = 0 := rfl; have : ("Land(" : Str).length = 5 := (by decide +kernel); have : (")" : Str).length = 1 := (by decide +kernel); omega)
    · have e0 : (Str.empty ++ ("Land(" : Str)) = ("Land(" : Str) := by decide +kernel
      rw [ek]
      show Q (.str (Str.empty ++ ("Land(" : Str) ++ _ ++ (")" : Str))) H
      rw [e0]
      exact q
/-! ### str -/
end
end Wl



namespace Wl
open PySem PySem.Spec PyProof.Rows L2
abbrev sSort : Stmt := topS 46
def sortN : List Str := ["no word", "changes", "text", "age", "sure", "rings", "things", "count", "row", "land", "name", "gathering", "map", "telling", "back", "told", "full", "clash", "too many"]
def nameW (n : Nat) : Str := sortN.getD n ""
def okN (n : Nat) : Bool := n == 9 || n == 10
theorem okN_or {n : Nat} (h : okN n = true) : n = 9 ∨ n = 10 := by
  unfold okN at h
  rw [Bool.or_eq_true, beq_iff_eq, beq_iff_eq] at h
  exact h
abbrev sB (n : Nat) : List V := [.bl (decide (0 = baOf n)), .bl (decide (1 = baOf n)), .bl (decide (2 = baOf n))]
abbrev dB (n : Nat) : PyData := .list [.bool (decide (0 = baOf n)), .bool (decide (1 = baOf n)), .bool (decide (2 = baOf n))]
abbrev sD (n : Nat) : List V := [.bl (decide ((n : Int) < 9)), .bl (decide ((n : Int) < 15)), .bl (decide (14 < (n : Int)))]
abbrev dD (n : Nat) : PyData := .list [.bool (decide ((n : Int) < 9)), .bool (decide ((n : Int) < 15)), .bool (decide (14 < (n : Int)))]
section
variable {P : Program} {w : World} {K : PySem.W.Frag} {mg : Str → Option Value} {base : Heap} {f : Addr} {fd : FuncData} {ad bd : Nat → Addr}
theorem sortN_at {n : Nat} (h : okN n = true) : (sortN.map V.str)[n]? = some (.str (nameW n)) := by
  rcases okN_or h with rfl | rfl <;> rfl
theorem eq_due {n : Nat} (h : okN n = true) : PyData.eqv (dB n) (dD n) = true := by
  rcases okN_or h with rfl | rfl <;> decide +kernel
def spSort (K : PySem.W.Frag) (ad bd : Nat → Addr) : Addr → Sp := fun a vs H Q _ => ∃ n, vs = [.ref a] ∧ ExcAt K ad bd H a n ∧ okN n = true ∧ ∀ H', Same H H' → Q (.str (nameW n)) H'
abbrev nSort : List Str := ["_law_e", "_law_some", "_law_at", "_law_bases", "_law_kinds", "_law_due", "_law_texts"]
theorem scSort : FnScope nSort ["_law_e"] (defScope sSort) := ⟨rfl, rfl, rfl, by decide +kernel, rfl, by decide +kernel, by decide +kernel⟩
theorem ok_sort (F : Fun K "_law_sort" "_law_sort" sSort f fd) (B : Bi mg) (G : SortG mg ad bd) : FnT P w K mg base CX0 1 f fd ["_law_e"] (spSort K ad bd) := by
  refine FunT_ok F scSort (fun a vs H Q E h => ?_) (fun cdv A outer s H vs Q E a hot hh hr h => ?_)
  · obtain ⟨n, rfl, _⟩ := h
    rfl
  · obtain ⟨n, rfl, hE, hok, q⟩ := h
    have hn9 : 9 ≤ n := by rcases okN_or hok with h | h <;> omega
    have hn : n < 19 := by rcases okN_or hok with h | h <;> omega
    have hot2 : (cxT CX0 P w K mg base nSort "_law_sort" (defScope sSort) f cdv A outer s H E).A.handled = some (.ref a) := hot
    have io : ∀ (i : Nat) (hi : i < 19) {r p q pos : Pos} (hg : Gl (cxT CX0 P w K mg base nSort "_law_sort" (defScope sSort) f cdv A outer s H E) (exN i)) (h3 : (exN i == ("__debug__" : Str)) = false)
      (he : starEach [.Name "_law_e" q, .Name (exN i) r] (cxT CX0 P w K mg base nSort "_law_sort" (defScope sSort) f cdv A outer s H E).env = [(false, eval (.Name "_law_e" q) (cxT CX0 P w K mg base nSort "_law_sort" (defScope sSort) f cdv A outer s H E).env), (false, eval (.Name (exN i) r) (cxT CX0 P w K mg base nSort "_law_sort" (defScope sSort) f cdv A outer s H E).env)]),
      PE (cxT CX0 P w K mg base nSort "_law_sort" (defScope sSort) f cdv A outer s H E) (.Call (.Name "isinstance" p) [.Name "_law_e" q, .Name (exN i) r] [] pos) (tIs K 0 (.ref (ad i))) :=
      fun i hi {r p q pos} hg h3 he => pe_own (j := 0) i B.isi G hi hg rfl (.inl rfl) rfl (by decide) (by decide) h3 he
    have ib : ∀ (x : Str) (c : V) (u : Value) {r p q pos : Pos} (hm : mg x = some u) (rc : RelV c u) (hg : Gl (cxT CX0 P w K mg base nSort "_law_sort" (defScope sSort) f cdv A outer s H E) x) (h3 : (x == ("__debug__" : Str)) = false)
      (he : starEach [.Name "_law_e" q, .Name x r] (cxT CX0 P w K mg base nSort "_law_sort" (defScope sSort) f cdv A outer s H E).env = [(false, eval (.Name "_law_e" q) (cxT CX0 P w K mg base nSort "_law_sort" (defScope sSort) f cdv A outer s H E).env), (false, eval (.Name x r) (cxT CX0 P w K mg base nSort "_law_sort" (defScope sSort) f cdv A outer s H E).env)]),
      PE (cxT CX0 P w K mg base nSort "_law_sort" (defScope sSort) f cdv A outer s H E) (.Call (.Name "isinstance" p) [.Name "_law_e" q, .Name x r] [] pos) (tIs K 0 c) :=
      fun x c u {r p q pos} hm rc hg h3 he => pe_callB call_isX (by rfl) B.isi (by decide +kernel) (pa_cons (pv 0) (pa_cons (pe_glob (v := c) hg hm rc h3) pa_nil) he)
    have hu : (cxT CX0 P w K mg base nSort "_law_sort" (defScope sSort) f cdv A outer s H E).A.units + 64 < cLine := by
      have := hr.un
      show (A.deeper (envOfC "_law_sort" (defScope sSort) s.heap.objs.size f cdv)).units + 64 < cLine
      omega
    refine ⟨_, pss_cons (ps_set (i := 1) scSort.nd rfl (.inl rfl) (pe_lst (pa_cons (io 0 (by decide) (by rfl) (by decide) (by rfl)) (pa_cons (io 1 (by decide) (by rfl) (by decide) (by rfl)) (pa_cons (io 2 (by decide) (by rfl) (by decide) (by rfl)) (pa_cons (io 3 (by decide) (by rfl) (by decide) (by rfl)) pa_nil))))))
      (pss_cons (ps_set (i := 1) scSort.nd rfl (.inl rfl) (pe_op op_cat (pv 1) (pe_lst (pa_cons (io 4 (by decide) (by rfl) (by decide) (by rfl)) (pa_cons (io 5 (by decide) (by rfl) (by decide) (by rfl)) (pa_cons (io 6 (by decide) (by rfl) (by decide) (by rfl)) (pa_cons (io 7 (by decide) (by rfl) (by decide) (by rfl)) pa_nil)))))))
      (pss_cons (ps_set (i := 1) scSort.nd rfl (.inl rfl) (pe_op op_cat (pv 1) (pe_lst (pa_cons (io 8 (by decide) (by rfl) (by decide) (by rfl)) (pa_cons (io 9 (by decide) (by rfl) (by decide) (by rfl)) (pa_cons (io 10 (by decide) (by rfl) (by decide) (by rfl)) (pa_cons (io 11 (by decide) (by rfl) (by decide) (by rfl)) pa_nil)))))))
      (pss_cons (ps_set (i := 1) scSort.nd rfl (.inl rfl) (pe_op op_cat (pv 1) (pe_lst (pa_cons (io 12 (by decide) (by rfl) (by decide) (by rfl)) (pa_cons (io 13 (by decide) (by rfl) (by decide) (by rfl)) (pa_cons (io 14 (by decide) (by rfl) (by decide) (by rfl)) (pa_cons (io 15 (by decide) (by rfl) (by decide) (by rfl)) pa_nil)))))))
      (pss_cons (ps_set (i := 1) scSort.nd rfl (.inl rfl) (pe_op op_cat (pv 1) (pe_lst (pa_cons (io 16 (by decide) (by rfl) (by decide) (by rfl)) (pa_cons (io 17 (by decide) (by rfl) (by decide) (by rfl)) (pa_cons (io 18 (by decide) (by rfl) (by decide) (by rfl)) pa_nil))))))
      (pss_cons (ps_if (pt_cmpR op_ne (pe_bm PySem.F.plainAttrs_list PySem.F.slot_list_count PySem.F.type_list_count mt_countF (pv 1) (pa_cons pe_bl pa_nil)) pe_int (nomark _)) (pss_one ps_never) pss_nil)
      (pss_cons (ps_set (i := 2) scSort.nd rfl (.inl rfl) (pe_bm PySem.F.plainAttrs_list PySem.F.slot_list_index PySem.F.type_list_index mt_index (pv 1) (pa_cons pe_bl pa_nil)))
      (pss_cons (ps_set (i := 3) scSort.nd rfl (.inl rfl) (pe_lst (pa_cons (ib "WordError" (.ref (bd 0)) _ (G.bas 0 (by decide)) rfl (by rfl) (by decide) (by rfl)) (pa_cons (ib "LandError" (.ref (bd 1)) _ (G.bas 1 (by decide)) rfl (by rfl) (by decide) (by rfl)) (pa_cons (ib "JoinError" (.ref (bd 2)) _ (G.bas 2 (by decide)) rfl (by rfl) (by decide) (by rfl)) pa_nil)))))
      (pss_cons (ps_set (i := 4) scSort.nd rfl (.inl rfl) (pe_lst (pa_cons (pe_callB call_isX (by rfl) B.isi (by decide +kernel) (pa_cons (pv 0) (pa_cons (pe_bltn (v := .ty "ValueError") (by rfl) G.ve (by decide +kernel) rfl) pa_nil))) (pa_cons (pe_callB call_isX (by rfl) B.isi (by decide +kernel) (pa_cons (pv 0) (pa_cons (pe_bltn (v := .ty "LookupError") (by rfl) G.le (by decide +kernel) rfl) pa_nil)))
          (pa_cons (pe_callB call_isX (by rfl) B.isi (by decide +kernel) (pa_cons (pv 0) (pa_cons (pe_bltn (v := .ty "ArithmeticError") (by rfl) G.ae (by decide +kernel) rfl) pa_nil))) pa_nil)))))
      (pss_cons (ps_set (i := 5) scSort.nd rfl (.inl rfl) (pe_lst (pa_cons (pe_cmpR op_lt (pv 2) pe_int (nomark _)) (pa_cons (pe_chain op_le op_lt pe_int (pv 2) pe_int) (pa_cons (pe_cmpR op_gt (pv 2) pe_int (nomark _)) pa_nil)))))
      (pss_cons (ps_if (PW.pt (pw_or (pt_cmpR (op_neD hu) (pv 3) (pv 5) (nomark _)) (pw_or1 (pt_cmpR (op_neD hu) (pv 4) (pv 5) (nomark _))))) (pss_one ps_never) pss_nil)
      (pss_cons (ps_set (i := 6) scSort.nd rfl (.inl rfl) (pe_lst (pa_cons pe_str (pa_cons pe_str (pa_cons pe_str (pa_cons pe_str (pa_cons pe_str (pa_cons pe_str (pa_cons pe_str (pa_cons pe_str (pa_cons pe_str (pa_cons pe_str (pa_cons pe_str pa_nil)))))))))))))
      (pss_one (ps_ret (pe_ix ix_list (pe_op op_cat (pv 6) (pe_lst (pa_cons pe_str (pa_cons pe_str (pa_cons pe_str (pa_cons pe_str (pa_cons pe_str (pa_cons pe_str (pa_cons pe_str (pa_cons pe_str pa_nil)))))))))) (pv 2) (fun _ _ => rfl))))))))))))))), ?_⟩
    refine (is_own 0 hE rfl (by decide) (is_own 1 hE rfl (by decide) (is_own 2 hE rfl (by decide) (is_own 3 hE rfl (by decide) ⟨lz, fun p1 h1 => ?_⟩))))
    have hE := hE.same (same_new (o := .lst ((kinds n).take 4)) h1)
    have s1 : Same H (upd H p1 (.lst ((kinds n).take 4))) := same_new h1
    have a1 : upd H p1 (.lst ((kinds n).take 4)) p1 = some (.lst ((kinds n).take 4)) := upd_same
    show tSeq _ _ _ _ (upd H p1 (.lst ((kinds n).take 4)))
    generalize upd H p1 (.lst ((kinds n).take 4)) = H1 at hE s1 a1
    refine ⟨_, rfl, (is_own 4 hE rfl (by decide) (is_own 5 hE rfl (by decide) (is_own 6 hE rfl (by decide) (is_own 7 hE rfl (by decide) ⟨lz, fun q0 g0 => ⟨p1, q0, _, _, rfl, rfl, (same_new g0) _ _ a1, upd_same, lz, fun r0 k0 => ?_⟩⟩))))⟩
    have t0 : Same H1 (upd (upd H1 q0 (.lst (((kinds n).drop 4).take 4))) r0 (.lst ((kinds n).take 8))) := (same_new g0).trans (same_new k0)
    have hE := hE.same t0
    have s1 := s1.trans t0
    have a1 : upd (upd H1 q0 (.lst (((kinds n).drop 4).take 4))) r0 (.lst ((kinds n).take 8)) r0 = some (.lst ((kinds n).take 8)) := upd_same
    show tSeq _ _ _ _ (upd (upd H1 q0 (.lst (((kinds n).drop 4).take 4))) r0 (.lst ((kinds n).take 8)))
    generalize upd (upd H1 q0 (.lst (((kinds n).drop 4).take 4))) r0 (.lst ((kinds n).take 8)) = HB0 at hE s1 a1
    clear t0 g0 k0
    refine ⟨_, rfl, (is_own 8 hE rfl (by decide) (is_own 9 hE rfl (by decide) (is_own 10 hE rfl (by decide) (is_own 11 hE rfl (by decide) ⟨lz, fun q1 g1 => ⟨r0, q1, _, _, rfl, rfl, (same_new g1) _ _ a1, upd_same, lz, fun r1 k1 => ?_⟩⟩))))⟩
    have t1 : Same HB0 (upd (upd HB0 q1 (.lst (((kinds n).drop 8).take 4))) r1 (.lst ((kinds n).take 12))) := (same_new g1).trans (same_new k1)
    have hE := hE.same t1
    have s1 := s1.trans t1
    have a1 : upd (upd HB0 q1 (.lst (((kinds n).drop 8).take 4))) r1 (.lst ((kinds n).take 12)) r1 = some (.lst ((kinds n).take 12)) := upd_same
    show tSeq _ _ _ _ (upd (upd HB0 q1 (.lst (((kinds n).drop 8).take 4))) r1 (.lst ((kinds n).take 12)))
    generalize upd (upd HB0 q1 (.lst (((kinds n).drop 8).take 4))) r1 (.lst ((kinds n).take 12)) = HB1 at hE s1 a1
    clear t1 g1 k1
    refine ⟨_, rfl, (is_own 12 hE rfl (by decide) (is_own 13 hE rfl (by decide) (is_own 14 hE rfl (by decide) (is_own 15 hE rfl (by decide) ⟨lz, fun q2 g2 => ⟨r1, q2, _, _, rfl, rfl, (same_new g2) _ _ a1, upd_same, lz, fun r2 k2 => ?_⟩⟩))))⟩
    have t2 : Same HB1 (upd (upd HB1 q2 (.lst (((kinds n).drop 12).take 4))) r2 (.lst ((kinds n).take 16))) := (same_new g2).trans (same_new k2)
    have hE := hE.same t2
    have s1 := s1.trans t2
    have a1 : upd (upd HB1 q2 (.lst (((kinds n).drop 12).take 4))) r2 (.lst ((kinds n).take 16)) r2 = some (.lst ((kinds n).take 16)) := upd_same
    show tSeq _ _ _ _ (upd (upd HB1 q2 (.lst (((kinds n).drop 12).take 4))) r2 (.lst ((kinds n).take 16)))
    generalize upd (upd HB1 q2 (.lst (((kinds n).drop 12).take 4))) r2 (.lst ((kinds n).take 16)) = HB2 at hE s1 a1
    clear t2 g2 k2
    refine ⟨_, rfl, (is_own 16 hE rfl (by decide) (is_own 17 hE rfl (by decide) (is_own 18 hE rfl (by decide) ⟨lz, fun q3 g3 => ⟨r2, q3, _, _, rfl, rfl, (same_new g3) _ _ a1, upd_same, lz, fun r3 k3 => ?_⟩⟩)))⟩
    have t3 : Same HB2 (upd (upd HB2 q3 (.lst (((kinds n).drop 16).take 3))) r3 (.lst ((kinds n).take 19))) := (same_new g3).trans (same_new k3)
    have hE := hE.same t3
    have s1 := s1.trans t3
    have a1 : upd (upd HB2 q3 (.lst (((kinds n).drop 16).take 3))) r3 (.lst ((kinds n).take 19)) r3 = some (.lst ((kinds n).take 19)) := upd_same
    show tSeq _ _ _ _ (upd (upd HB2 q3 (.lst (((kinds n).drop 16).take 3))) r3 (.lst ((kinds n).take 19)))
    generalize upd (upd HB2 q3 (.lst (((kinds n).drop 16).take 3))) r3 (.lst ((kinds n).take 19)) = HB3 at hE s1 a1
    clear t3 g3 k3
    have a1 : HB3 r3 = some (.lst (kinds n)) := a1
    refine ⟨_, rfl, .inl ⟨rfl, _, .inl (.inl a1)⟩, r3, kinds n, .bl true, rfl, rfl, .inl (.inl a1), rfl, kinds_flat n hn, rfl, _, rfl, ?_⟩
    rw [kinds_count n hn]
    refine iteNS (by simp) ?_
    refine ⟨_, rfl, .inl ⟨rfl, _, .inl (.inl a1)⟩, r3, kinds n, .bl true, n, .bl true, rfl, rfl, .inl (.inl a1), rfl, kinds_flat n hn, kinds_at n hn, rfl, fun m z' hm hz => kinds_none n hn m z' hm hz, ?_⟩
    clear io ib hot hh
    refine is_bas 0 hE rfl (by decide) (is_bas 1 hE rfl (by decide) (is_bas 2 hE rfl (by decide) ⟨lz, fun p4 h4 => ?_⟩))
    have k5 : Same HB3 (upd HB3 p4 (.lst (sB n))) := same_new h4
    have hE := hE.same k5
    have s1 := s1.trans k5
    have aB : upd HB3 p4 (.lst (sB n)) p4 = some (.lst (sB n)) := upd_same
    generalize upd HB3 p4 (.lst (sB n)) = H5 at hE s1 aB
    clear k5
    refine is_ve hE rfl (is_le hE rfl (is_ae hE rfl ⟨lz, fun p5 h5 => ?_⟩))
    have k6 : Same H5 (upd H5 p5 (.lst (sB n))) := same_new h5
    have s1 := s1.trans k6
    have aB := k6 _ _ aB
    have aP : upd H5 p5 (.lst (sB n)) p5 = some (.lst (sB n)) := upd_same
    generalize upd H5 p5 (.lst (sB n)) = H6 at s1 aB aP
    clear k6
    refine ⟨_, rfl, _, _, rfl, rfl, _, rfl, _, _, rfl, rfl, _, rfl, ite_b (fun e => ?_) (fun e => absurd (of_decide_eq_false e) (by omega))⟩
    refine ⟨_, _, rfl, rfl, _, rfl, _, _, rfl, rfl, lz, fun p6 h6 => ?_⟩
    have k7 : Same H6 (upd H6 p6 (.lst (sD n))) := same_new h6
    have s1 := s1.trans k7
    have aB := k7 _ _ aB
    have aP := k7 _ _ aP
    have aD : upd H6 p6 (.lst (sD n)) p6 = some (.lst (sD n)) := upd_same
    show tSeq _ _ _ _ (upd H6 p6 (.lst (sD n)))
    generalize upd H6 p6 (.lst (sD n)) = H7 at s1 aB aP aD
    clear k7
    have eB : ∀ {p : Addr}, H7 p = some (.lst (sB n)) → Dp K H7 (.ref p) (dB n) := fun h => .lst (.inl (.inl h)) (.cons (.bl _) (.cons (.bl _) (.cons (.bl _) .nil)))
    have eD : Dp K H7 (.ref p6) (dD n) := .lst (.inl (.inl aD)) (.cons (.bl _) (.cons (.bl _) (.cons (.bl _) .nil)))
    refine ⟨_, rfl, _, rfl, _, _, eB aB, eD, rfl, rfl, _, rfl, ?_⟩
    rw [eq_due hok]
    refine iteF ⟨_, rfl, _, rfl, _, _, eB aP, eD, rfl, rfl, _, rfl, ?_⟩
    rw [eq_due hok]
    refine iteF ?_
    refine ⟨lz, fun t1 m1 => ?_⟩
    refine ⟨_, rfl, lz, fun t4 m4 => ⟨t1, t4, _, _, rfl, rfl, (same_new m4) _ _ upd_same, upd_same, lz, fun t5 m5 => ⟨_, rfl, t5, sortN.map V.str, (n : Int), _, rfl, rfl, .inl (.inl upd_same), atI_nat (sortN_at hok), ?_⟩⟩⟩
    exact q _ (s1.trans ((same_new m1).trans ((same_new m4).trans (same_new m5))))
end
end Wl

/-! what is told of a Land that is made, of a village that is looked up. -/
namespace Wl
open PySem PySem.Spec PyProof.Rows L2
abbrev sMade : Stmt := topS 47
abbrev sFound : Stmt := topS 48
def suF (K : PySem.W.Frag) (ad bd : Nat → Addr) (i : Nat) (fl : Str) : ClT := fun a => tRet (tTup (tCons (tCallT a (spSort K ad bd) (tCons (tVar i) tNil)) (tCons (tXf K fl (tVar i)) tNil)))
def suR (K : PySem.W.Frag) (C : Addr) (ad bd : Nat → Addr) (i : Nat) (fl : Str) : ClT := fun a => tRet (tTup (tCons (tCallT a (spSort K ad bd) (tCons (tVar i) tNil)) (tCons (tCB (rReprT K C a (fun _ => spLRepr C)) (tCons (tXf K fl (tVar i)) tNil)) tNil)))
theorem w_hit {Wout : WX} {D : Ends} {m : Value → Option Bool} {ts : ClT} {r : List ((Value → Option Bool) × ClT)} {cls : Value} {d : Option Addr} {σ : L2.St} {H : Hp} (h : m cls = some true) (k : ∀ a, H a = none → ts a D σ (upd H a (exH a cls d))) : wCls Wout D ((m, ts) :: r) cls d σ H :=
  ⟨true, h, fun _ => k, fun z => by cases z⟩
abbrev clF (K : PySem.W.Frag) (ad bd : Nat → Addr) (i : Nat) (c : Addr) (fl : Str) : (Value → Option Bool) × ClT := (fun cls => PySem.W.exmOne K cls (.ref c), tAs i (suF K ad bd i fl))
abbrev clR (K : PySem.W.Frag) (C : Addr) (ad bd : Nat → Addr) (i : Nat) (c : Addr) (fl : Str) : (Value → Option Bool) × ClT := (fun cls => PySem.W.exmOne K cls (.ref c), tAs i (suR K C ad bd i fl))
/-- the text that repr makes of a thing -/
def ShownV (K : PySem.W.Frag) (C : Addr) (H : Hp) (v : V) (txt : Str) : Prop := (∃ d, RepV K H v d ∧ ShowsV d ∧ txt = d.shown) ∨ ∃ a L g, v = .ref a ∧ LandAt C H a L g ∧ (names g).length ≤ 36 ∧ txt = reprS (names g).length
theorem RepV.same {K : PySem.W.Frag} {H H' : Hp} {v : V} {d : PyData} (h : RepV K H v d) (s : Same H H') : RepV K H' v d := by
  rcases h with ⟨e, h⟩ | ⟨p, e, h, e2⟩ | ⟨p, q, e, h, h2, e2⟩
  · exact .inl ⟨e, dp_same s h⟩
  · exact .inr (.inl ⟨p, e, s _ _ h, e2⟩)
  · exact .inr (.inr ⟨p, q, e, s _ _ h, s _ _ h2, e2⟩)
theorem ShownV.same {K : PySem.W.Frag} {C : Addr} {H H' : Hp} {v : V} {txt : Str} (h : ShownV K C H v txt) (s : Same H H') : ShownV K C H' v txt := by
  rcases h with ⟨d, a, b, c⟩ | ⟨a, L, g, e, hL, h36, e2⟩
  · exact .inl ⟨d, a.same s, b, c⟩
  · exact .inr ⟨a, L, g, e, hL.keep (kp_same s), h36, e2⟩
section
variable {K : PySem.W.Frag} {ad bd : Nat → Addr}
theorem suF_read {C a d : Addr} {n i : Nat} {fl : Str} {v : V} {H0 : Hp} {D : Ends} {σ : L2.St} (hE : ErrC K ad bd C n) (hn : okN n = true) (hf : PySem.W.findIn K (.ref C) fl = some none) (hi : i < σ.length) (hd : H0 d = some (.xd [(fl, v)])) (ha : H0 a = none)
    (h : ∀ p H', Same H0 H' → H' p = some (.tup [.str (nameW n), v]) → D.rt (.ref p) H') : tAs i (suF K ad bd i fl) a D σ (upd H0 a (exH a (.ref C) (some d))) := by
  have s1 : Same H0 (upd H0 a (exH a (.ref C) (some d))) := same_new ha
  have e1 : upd H0 a (exH a (.ref C) (some d)) a = some (exH a (.ref C) (some d)) := upd_same
  have hd := s1 _ _ hd
  generalize upd H0 a (exH a (.ref C) (some d)) = H1 at e1 hd s1
  have hX : ExcAt K ad bd H1 a n := ⟨C, some d, e1, fun dd z => by cases z; exact ⟨_, hd⟩, hE.sort⟩
  have hv : (σ.set i (some (.ref a)))[i]? = some (some (.ref a)) := by rw [List.getElem?_set_self hi]
  refine ⟨_, hv, hX.hot, n, rfl, hX, hn, fun H2 t2 => ?_⟩
  have hd := t2 _ _ hd
  have e1 := t2 _ _ e1
  have s := s1.trans t2
  exact ⟨_, hv, a, C, d, _, v, rfl, e1, hd, hE.xf, hf, by simp [List.lookup], lz, fun p hp => h p _ (s.trans (same_new hp)) upd_same⟩
theorem suR_read {CL C a d : Addr} {n i : Nat} {fl txt : Str} {v : V} {H0 : Hp} {D : Ends} {σ : L2.St} (hE : ErrC K ad bd C n) (hn : okN n = true) (hf : PySem.W.findIn K (.ref C) fl = some none) (hi : i < σ.length) (hd : H0 d = some (.xd [(fl, v)])) (ha : H0 a = none) (hs : ShownV K CL H0 v txt)
    (h : ∀ p H', Same H0 H' → H' p = some (.tup [.str (nameW n), .str txt]) → D.rt (.ref p) H') : tAs i (suR K CL ad bd i fl) a D σ (upd H0 a (exH a (.ref C) (some d))) := by
  have s1 : Same H0 (upd H0 a (exH a (.ref C) (some d))) := same_new ha
  have e1 : upd H0 a (exH a (.ref C) (some d)) a = some (exH a (.ref C) (some d)) := upd_same
  have hd := s1 _ _ hd
  generalize upd H0 a (exH a (.ref C) (some d)) = H1 at e1 hd s1
  have hX : ExcAt K ad bd H1 a n := ⟨C, some d, e1, fun dd z => by cases z; exact ⟨_, hd⟩, hE.sort⟩
  have hv : (σ.set i (some (.ref a)))[i]? = some (some (.ref a)) := by rw [List.getElem?_set_self hi]
  refine ⟨_, hv, hX.hot, n, rfl, hX, hn, fun H2 t2 => ?_⟩
  have hd := t2 _ _ hd
  have e1 := t2 _ _ e1
  have s := s1.trans t2
  have fin : ∀ p, H2 p = none → D.rt (.ref p) (upd H2 p (.tup [.str (nameW n), .str txt])) := fun p hp => h p _ (s.trans (same_new hp)) upd_same
  refine ⟨_, hv, a, C, d, _, v, rfl, e1, hd, hE.xf, hf, by simp [List.lookup], v, rfl, ?_⟩
  rcases hs.same s with ⟨dd, h1, h2, rfl⟩ | ⟨b, L, g, rfl, hL, h36, rfl⟩
  · exact .inl ⟨dd, h1, h2, lz, fin⟩
  · obtain ⟨d3, dx3, hb, h4⟩ := id hL
    exact .inr ⟨b, dx3, _, rfl, hb, ⟨_, _, e1⟩, b, L, g, rfl, hL, h36, _, rfl, lz, fin⟩
end
def MadeAt (H : Hp) : Option (Option (Nat × Nat)) → Addr → Prop
  | none, p => H p = some (.tup [.str "made", .non])
  | some o, p => ∃ v, PlaceAt H o v ∧ H p = some (.tup [.str "land", v])
def HasIA (P : Program) (w : World) (K : PySem.W.Frag) (mg : Str → Option Value) (base : Heap) (C cL : Addr) : Prop :=
  ∃ f fd, Mk K C f ∧ FnOk P w K mg base (L2N.CX P w) 4 f fd ["self", "rows"] (spInitA C cL) ∧ Binds K fd ["self", "rows"] []
section
variable {P : Program} {w : World} {K : PySem.W.Frag} {mg : Str → Option Value} {base : Heap} {f fR C cL cN : Addr} {fd fdR : FuncData} {ad bd : Nat → Addr}
abbrev nMade : List Str := ["_law_laid", "_law_e"]
theorem scMade : FnScope nMade ["_law_laid"] (defScope sMade) := ⟨rfl, rfl, rfl, by decide +kernel, rfl, by decide +kernel, by decide +kernel⟩
def spMade : Sp := fun vs H Q _ => ∃ (v : V) (due : Option (Option (Nat × Nat))), vs = [v] ∧ LandDue H v due ∧ ∀ (p' : Addr) (H' : Hp), Same H H' → MadeAt H' due p' → Q (.ref p') H'
theorem ok_made (F : Fun K "_law_made" "_law_made" sMade f fd) (T : Txt K mg C) (TL : OwnX K mg "NoLand" "place" cL) (EL : ErrC K ad bd cL 9) (G : SortG mg ad bd) (hm : PySem.W.exmOne K (.ref cL) (.ref (bd 1)) = some true)
    (hI : HasIA P w K mg base C cL) (hS : HasT P w K mg base "_law_sort" 1 ["_law_e"] (spSort K ad bd)) : FnOk P w K mg base CX0 6 f fd ["_law_laid"] spMade := by
  obtain ⟨fI, fdI, MI, GI, bI⟩ := hI
  refine F.ok scMade (fun vs H Q E h => ?_) (fun cdv A outer s H vs Q E hr h => ?_)
  · obtain ⟨v, due, rfl, _⟩ := h
    rfl
  · obtain ⟨v, due, rfl, hdue, q⟩ := h
    have rH : ∀ a : Addr, L2H.RoomH 5 ((A.deeper (envOfC "_law_made" (defScope sMade) s.heap.objs.size f cdv)).mark (some (.ref a))) := fun a => ⟨hr.dp, hr.un⟩
    refine ⟨_, pss_cons (ps_tryE (l := [clF K ad bd 1 (bd 1) "place"]) rfl rfl rfl scMade.nd takes_noN
      (fun W pn xe tk po => pss_one (ps_expr (pe_make MI GI hr rfl T.mgC bI .nil (passU (n := 2) tk rfl) (pa_cons (pv 0) pa_nil))))
      (.as (i := 1) rfl rfl (test_one ⟨by rfl, by decide, .inl (G.bas 1 (by decide))⟩) (fun a pn => pss_one (ps_ret (pe_tup (pa_cons (pe_ht hS (rH a) rfl (pa_cons (pv 1) pa_nil)) (pa_cons (Wl.pe_xf (pv 1)) pa_nil))))) .nil))
      (pss_one (ps_ret (pe_tup (pa_cons pe_str (pa_cons pe_non pa_nil))))), ?_⟩
    refine ⟨_, rfl, fun y dy ny ndy ne => ?_⟩
    have sm : Same H (upd (upd H dy (.own y)) y (.ins C dy [])) := fun b o e => by
      rw [upd_ne (ne_of_none e ny), upd_ne (ne_of_none e ndy)]
      exact e
    refine ⟨y, dy, v, due, rfl, upd_same, hdue.same sm, fun o e => ?_, fun e L g wd H' ev hG gd hk hLa => ?_⟩
    · subst e
      exact fun u d H1 s1 hp e1 σ hl => w_hit hm fun a ha => suF_read EL (by decide +kernel) TL.no (by omega) e1 ha fun p' H' s' e' => q p' H' ((sm.trans s1).trans s') ⟨u, hp.same s', e'⟩
    · subst e
      have sH : Same H H' := fun b o hb => hk b o (fun z => by subst z; rw [ny] at hb; cases hb) (sm _ _ hb)
      exact ⟨rfl, lz, fun p' hp' => q p' _ (sH.trans (same_new hp')) upd_same⟩
abbrev nFound : List Str := ["_law_way", "_law_country", "_law_town", "_law_e"]
abbrev psFound : List Str := ["_law_way", "_law_country", "_law_town"]
theorem scFound : FnScope nFound psFound (defScope sFound) := ⟨rfl, rfl, rfl, by decide +kernel, rfl, by decide +kernel, by decide +kernel⟩
def spFound (K : PySem.W.Frag) (C : Addr) : Sp := fun vs H Q _ => ∃ (way : Int) (p L : Addr) (g : Grid) (wd : Nat) (v : V), vs = [.int way, .ref p, v] ∧ LandAt C H p L g ∧ Good g wd ∧ Wv K H v (wvB v) ∧
  (nameB g v = true → ∀ (p' : Addr) (H' : Hp), Same H H' → H' p' = some (.tup [.str "made", .str ""]) → Q (.ref p') H') ∧
  (nameB g v = false → ∃ txt, ShownV K C H v txt ∧ ∀ (p' : Addr) (H' : Hp), Same H H' → H' p' = some (.tup [.str "name", .str txt]) → Q (.ref p') H')
theorem ok_found (F : Fun K "_law_found" "_law_found" sFound f fd) (hrep : mg "repr" = none) (T : Txt K mg C) (TN : OwnX K mg "NoName" "name" cN) (EN : ErrC K ad bd cN 10) (G : SortG mg ad bd) (hm : PySem.W.exmOne K (.ref cN) (.ref (bd 1)) = some true)
    (FR : FnT P w K mg base CX0 1 fR fdR ["self"] (fun _ => spLRepr C)) (bR : Binds K fdR ["self"] []) (mR : Meth K C "__repr__" fR)
    (hSp : HasMX P w K mg base C "spot" 3 ["self", "name"] (spSpotA K C cN)) (hNe : HasMX P w K mg base C "neighbours" 4 ["self", "name"] (spNeighA K C cN)) (hS : HasT P w K mg base "_law_sort" 1 ["_law_e"] (spSort K ad bd)) : FnOkG P w K mg base 6 f fd psFound (spFound K C) := by
  refine okG F scFound (fun vs H Q E h => ?_) (fun cdv A outer s H vs Q E hgd hr h => ?_)
  · obtain ⟨way, p, L, g, wd, v, rfl, _⟩ := h
    rfl
  · obtain ⟨way, p, L, g, wd, v, rfl, hLa, gd, ho, q1, q2⟩ := h
    have rH : ∀ a : Addr, L2H.RoomH 5 ((A.deeper (envOfC "_law_found" (defScope sFound) s.heap.objs.size f cdv)).mark (some (.ref a))) := fun a => ⟨hr.dp, hr.un⟩
    refine ⟨_, pss_cons (ps_tryE (l := [clR K C ad bd 3 (bd 1) "name"]) rfl rfl rfl scFound.nd takes_noN
      (fun W pn xe tk po => pss_one (ps_if (pt_cmpR op_eq (pv 0) pe_int (nomark _)) (pss_one (ps_expr (pe_hmx hSp T.cl hr (passU (n := 4) tk rfl) (pv 1) (pa_cons (pv 2) pa_nil))))
        (pss_one (ps_expr (pe_hmx hNe T.cl hr (passU (n := 4) tk rfl) (pv 1) (pa_cons (pv 2) pa_nil))))))
      (.as (i := 3) rfl rfl (test_one ⟨by rfl, by decide, .inl (G.bas 1 (by decide))⟩) (fun a pn => pss_one (ps_ret (pe_tup (pa_cons (pe_ht hS (rH a) rfl (pa_cons (pv 3) pa_nil)) (pa_cons (pe_callB (cr_reprT FR bR mR hgd ((rH a).mono (by decide)) rfl) (by rfl) hrep (by decide +kernel) (pa_cons (Wl.pe_xf (pv 3)) pa_nil)) pa_nil))))) .nil))
      (pss_one (ps_ret (pe_tup (pa_cons pe_str (pa_cons pe_str pa_nil))))), ?_⟩
    obtain ⟨d0, dx0, hp0, _⟩ := id hLa
    have good : ∀ {z : Str} {r c : Nat}, v = .str z → cellAt g r c = some z → nameB g v = true := fun {z r c} e hc => by
      subst e
      have hz : z ∈ names g := mem_names.mpr ⟨r, c, hc⟩
      show (wdB z && decide (z ∈ names g)) = true
      rw [show wdB z = true from gd.wd z hz, decide_eq_true hz]
      rfl
    have bad : ∀ {Dn : Ends}, Dn.rt = Q → nameB g v = false → Refuses cN "name" v H (EW 4 (wCls (fun _ _ _ _ => False) Dn [clR K C ad bd 3 (bd 1) "name"])) := fun {Dn} hD e d H1 s1 e1 σ hl => by
      obtain ⟨txt, ht, q⟩ := q2 e
      exact w_hit hm fun a ha => suR_read EN (by decide +kernel) TN.no (by omega) e1 ha (ht.same s1) fun p' H' s' e' => by
        rw [hD]
        exact q p' H' (s1.trans s') e'
    refine ⟨_, rfl, rfl, _, rfl, ite_b (fun e => ?_) (fun e => ?_)⟩
    · refine ⟨_, rfl, p, dx0, _, rfl, hp0, lf_no _ _ (by decide +kernel) (by decide +kernel), _, rfl, p, L, g, wd, v, rfl, hLa, gd, ho, fun z r c t H' ev hc s' ht => ?_, bad rfl⟩
      exact ⟨lz, fun p' hp' => q1 (good ev hc) p' _ (s'.trans (same_new hp')) upd_same⟩
    · refine ⟨_, rfl, p, dx0, _, rfl, hp0, lf_no _ _ (by decide +kernel) (by decide +kernel), _, rfl, p, L, g, wd, v, rfl, hLa, gd, ho, fun z r c t H' ev hc s' ht => ?_, bad rfl⟩
      exact ⟨lz, fun p' hp' => q1 (good ev hc) p' _ (s'.trans (same_new hp')) upd_same⟩
end
end Wl

namespace Wl
open PySem PySem.Spec PyProof.Rows L2
section
variable {K : PySem.W.Frag} {H : Hp} {Q : VK}
theorem cat_reads {a b : Addr} {xs ys : List V} (ha : H a = some (.tup xs)) (hb : H b = some (.tup ys)) (hz : xs.length + ys.length ≤ 1000) (q : ∀ u H', Same H H' → H' u = some (.tup (xs ++ ys)) → Q (.ref u) H') : rCatA K (.ref a) (.ref b) H Q := by
  refine ⟨a, b, xs, ys, rfl, rfl, .inl (.inl ha), .inl (.inl hb), lzl hz, fun e => ?_, fun _ e => ?_, fun _ _ p hp => ?_⟩
  · subst e
    exact q b H (Same.refl H) hb
  · subst e
    refine q a H (Same.refl H) ?_
    rw [List.append_nil]
    exact ha
  · exact q p _ (same_new hp) upd_same
theorem sl_reads {a : Addr} {xs : List V} {lo hi : Option Int} (ha : H a = some (.tup xs)) (q : ∀ u H', Same H H' → H' u = some (.tup (cutV xs lo hi)) → Q (.ref u) H') : rSlA K (.ref a) lo hi H Q := by
  refine ⟨a, xs, rfl, .inl (.inl ha), fun ⟨e1, e2⟩ => ?_, fun _ p hp => q p _ (same_new hp) upd_same⟩
  refine q a H (Same.refl H) ?_
  unfold cutV
  rw [e1, e2, List.drop_zero, Nat.sub_zero, List.take_length]
  exact ha
end
theorem cut_to (xs : List V) (c : Nat) : cutV xs none (some (c : Int)) = xs.take c := by
  unfold cutV
  rw [HT.sIx_none, HT.sIx_nat, List.drop_zero, Nat.sub_zero]
  by_cases h : c ≤ xs.length
  · rw [Nat.min_eq_left h]
  · rw [Nat.min_eq_right (by omega), List.take_length, List.take_of_length_le (by omega)]
theorem cut_from (xs : List V) (c : Nat) : cutV xs (some (c : Int)) none = xs.drop c := by
  unfold cutV
  rw [HT.sIx_none, HT.sIx_nat]
  by_cases h : c ≤ xs.length
  · rw [Nat.min_eq_left h, ← List.length_drop, List.take_length]
  · rw [Nat.min_eq_right (by omega), List.drop_length, List.drop_eq_nil_of_le (by omega), List.take_nil]
section
variable {P : Program} {w : World} {K : PySem.W.Frag} {mg : Str → Option Value} {base : Heap} {f C D : Addr} {fd : FuncData}
/-! ### a telling put, one way or another -/
end
end Wl



/-! parts drawn, and put into rows. -/
namespace Wl
open PySem PySem.Spec PyProof.Rows L2
abbrev sOddP : Stmt := topS 49
abbrev sPutV : Stmt := topS 50
theorem OddV.sx {a : Addr} {H H' : Hp} {v : V} (h : OddV H v) (s : SameX a H H') (hp : PurseAt H' a) : OddV H' v := by
  rcases h with h | h | h | h | ⟨p, e, h⟩
  · exact .inl h
  · exact .inr (.inl h)
  · exact .inr (.inr (.inl h))
  · exact .inr (.inr (.inr (.inl h)))
  · refine .inr (.inr (.inr (.inr ⟨p, e, ?_⟩)))
    by_cases c : p = a
    · subst c
      exact .inr (.inl hp.lst)
    · rcases h with ⟨xs, h⟩ | ⟨xs, h⟩ | ⟨xs, h⟩
      · exact .inl ⟨xs, s _ _ c h⟩
      · exact .inr (.inl ⟨xs, s _ _ c h⟩)
      · exact .inr (.inr ⟨xs, s _ _ c h⟩)
def OddN (H : Hp) (v : V) : Prop := OddV H v ∧ v ≠ .non
theorem odd_grows : Grows OddN := fun _ _ _ h s => ⟨h.1.same s, h.2⟩
abbrev IT : Hp → Prop := fun _ => True
theorem it_grows : GrowsH IT := fun _ _ _ _ => trivial
theorem od_t {H : Hp} {p : Addr} {xs : List V} (h : H p = some (.tup xs)) : OddV H (.ref p) := .inr (.inr (.inr (.inr ⟨p, rfl, .inl ⟨xs, h⟩⟩)))
theorem od_l {H : Hp} {p : Addr} {xs : List V} (h : H p = some (.lst xs)) : OddV H (.ref p) := .inr (.inr (.inr (.inr ⟨p, rfl, .inr (.inl ⟨xs, h⟩)⟩)))
theorem od_d {H : Hp} {p : Addr} (h : H p = some (.dK [])) : OddV H (.ref p) := .inr (.inr (.inr (.inr ⟨p, rfl, .inr (.inr ⟨_, h⟩)⟩)))
theorem od_s {H : Hp} {z : Str} (l : z.length ≤ 1000) : OddV H (.str z) := .inl ⟨z, rfl, l⟩
theorem od_n {H : Hp} : OddV H .non := .inr (.inl rfl)
theorem od_b {H : Hp} {b : Bool} : OddV H (.bl b) := .inr (.inr (.inl ⟨b, rfl⟩))
theorem od_i {H : Hp} {i : Int} : OddV H (.int i) := .inr (.inr (.inr (.inl ⟨i, rfl⟩)))
section
variable {σ : L2.St} {I : Hp → Prop}
theorem bo_s {z : Str} (h : Nat.ble z.length 1000 = true := by decide +kernel) : Bld σ I OddN (tC (.str z)) := bld_c fun _ _ => ⟨od_s (Nat.le_of_ble_eq_true h), fun e => by cases e⟩
theorem bo_i {i : Int} : Bld σ I OddN (tC (.int i)) := bld_c fun _ _ => ⟨od_i, fun e => by cases e⟩
theorem bo_b {b : Bool} : Bld σ I OddN (tC (.bl b)) := bld_c fun _ _ => ⟨od_b, fun e => by cases e⟩
theorem bo_t0 : Bld σ I OddN (tTup tNil) := fun H Q i q => ⟨lz, fun p hp => q _ _ (same_new hp) ⟨od_t upd_same, fun e => by cases e⟩⟩
theorem bo_l0 : Bld σ I OddN (tLst tNil) := fun H Q i q => ⟨lz, fun p hp => q _ _ (same_new hp) ⟨od_l upd_same, fun e => by cases e⟩⟩
theorem bo_t1 {v : V} : Bld σ I OddN (tTup (tCons (tC v) tNil)) := fun H Q i q => ⟨lz, fun p hp => q _ _ (same_new hp) ⟨od_t upd_same, fun e => by cases e⟩⟩
theorem bo_l1 {v : V} : Bld σ I OddN (tLst (tCons (tC v) tNil)) := fun H Q i q => ⟨lz, fun p hp => q _ _ (same_new hp) ⟨od_l upd_same, fun e => by cases e⟩⟩
theorem bo_d : Bld σ I OddN tDNewK := fun H Q i q d hd => q _ _ (same_new hd) ⟨od_d upd_same, fun e => by cases e⟩
theorem bo_tl {v : V} : Bld σ I OddN (tTup (tCons (tC v) (tCons (tLst tNil) tNil))) := fun H Q i q => ⟨lz, fun l hl => ⟨lz, fun p hp => q _ _ ((same_new hl).trans (same_new hp)) ⟨od_t upd_same, fun e => by cases e⟩⟩⟩
end
abbrev nOddP : List Str := ["_law_purse_here", "_law_towns", "_law_some", "_law_way"]
abbrev psOddP : List Str := ["_law_purse_here", "_law_towns"]
theorem scOddP : FnScope nOddP psOddP (defScope sOddP) := ⟨rfl, rfl, rfl, by decide +kernel, rfl, by decide +kernel, by decide +kernel⟩
section
variable {P : Program} {w : World} {K : PySem.W.Frag} {mg : Str → Option Value} {base : Heap} {f : Addr} {fd : FuncData}
def spOddP : Sp := fun vs H Q _ => ∃ (a t : Addr) (ws : List Str), vs = [.ref a, .ref t] ∧ PurseAt H a ∧ H t = some (.lst (ws.map V.str)) ∧ t ≠ a ∧ 1 ≤ ws.length ∧ ws.length ≤ 36 ∧ (∀ z ∈ ws, IsWd z) ∧
  ∀ (v : V) (H' : Hp), PurseAt H' a → SameX a H H' → OddN H' v → Q v H'
theorem ok_oddp (F : Fun K "_law_odd_part" "_law_odd_part" sOddP f fd) (B : Bi mg) (hP : Has P w K mg base "_law_pick" 1 ["_law_purse_here", "_law_many"] spPick) : FnOk P w K mg base CX0 2 f fd psOddP spOddP := by
  refine F.ok scOddP (fun vs H Q E h => ?_) (fun cdv A outer s H vs Q E hr h => ?_)
  · obtain ⟨a, t, ws, rfl, _⟩ := h
    rfl
  · obtain ⟨a, t, ws, rfl, hA, ht, nt, h1, h36, hw, q⟩ := h
    refine ⟨_, pss_cons (ps_set (i := 2) scOddP.nd rfl (.inl rfl) (pe_lst (pa_cons pe_str (pa_cons pe_str (pa_cons pe_str (pa_cons pe_str (pa_cons pe_str (pa_cons pe_str (pa_cons pe_int (pa_cons pe_int (pa_cons pe_bl (pa_cons pe_bl (pa_cons (pe_lst pa_nil) (pa_cons (pe_lst (pa_cons pe_str pa_nil)) (pa_cons pe_dnewK (pa_cons (pe_tup pa_nil) (pa_cons (pe_tup (pa_cons pe_str pa_nil)) (pa_cons (pe_tup (pa_cons pe_str (pa_cons (pe_lst pa_nil) pa_nil))) (pa_cons (pe_lst (pa_cons pe_non pa_nil)) pa_nil)))))))))))))))))))
      (pss_cons (ps_set (i := 3) scOddP.nd rfl (.inl rfl) (pe_h hP hr (pa_cons (pv 0) (pa_cons (pe_op op_add (pe_callB call_len_seq (by rfl) B.len PySem.boot_len (pa_cons (pv 2) pa_nil)) pe_int) pa_nil))))
      (pss_one (ps_ret (pe_ix ix_list (pe_op op_cat (pv 2) (pe_op op_rep (pe_lst (pa_cons (pe_ix ix_list (pv 1) (pe_h hP hr (pa_cons (pv 0) (pa_cons (pe_callB call_len_seq (by rfl) B.len PySem.boot_len (pa_cons (pv 1) pa_nil)) pa_nil))) (fun _ _ => rfl)) pa_nil)) pe_int)) (pv 3) (fun _ _ => rfl))))), ?_⟩
    have gI := it_grows
    have gG := odd_grows
    refine st_asg (bld_lst (I := IT) (n := 17) gG (bld_cons gI gG bo_s (bld_cons gI gG bo_s (bld_cons gI gG bo_s (bld_cons gI gG bo_s (bld_cons gI gG bo_s (bld_cons gI gG bo_s (bld_cons gI gG bo_i (bld_cons gI gG bo_i (bld_cons gI gG bo_b (bld_cons gI gG bo_b
      (bld_cons gI gG bo_l0 (bld_cons gI gG bo_l1 (bld_cons gI gG bo_d (bld_cons gI gG bo_t0 (bld_cons gI gG bo_t1 (bld_cons gI gG bo_tl (bld_cons gI gG bo_l1 bld_nil))))))))))))))))) (by decide) trivial fun p vs H1 s1 n1 e1 l1 g1 => ?_)
    have np : p ≠ a := hA.ne n1
    have hA1 := hA.same s1
    refine ⟨_, rfl, _, rfl, p, _, rfl, .inl (.inl (.inl e1)), _, _, rfl, rfl, a, _, rfl, hA1, by rw [l1]; decide, by rw [l1]; decide, fun i H2 i0 i1 hA2 x2 _ => ?_⟩
    have e2 := x2 _ _ np e1
    have ht2 := x2 _ _ nt (s1 _ _ ht)
    refine ⟨_, rfl, _, rfl, _, rfl, _, rfl, t, _, rfl, .inl (.inl (.inl ht2)), a, _, rfl, hA2, by rw [List.length_map]; omega, by rw [List.length_map]; omega, fun j H3 j0 j1 hA3 x3 _ => ?_⟩
    have e3 := x3 _ _ np e2
    have ht3 := x3 _ _ nt ht2
    rw [List.length_map] at j1
    obtain ⟨z, hz, hat⟩ := atI_strs (zs := ws) j0 j1
    refine ⟨t, _, j, _, rfl, rfl, .inl (.inl ht3), hat, lz, fun r hr => ⟨r, 3, _, rfl, rfl, upd_same, by decide, by decide, lz, fun r2 hr2 => ?_⟩⟩
    have k4 := (same_new (o := .lst [V.str z]) hr).trans (same_new (o := .lst (List.replicate (3 : Int).toNat [V.str z]).flatten) hr2)
    refine ⟨p, r2, vs, [.str z, .str z, .str z], rfl, rfl, k4 _ _ e3, upd_same, lzl (by rw [l1]; exact Nat.le_of_ble_eq_true rfl), fun r3 hr3 => ?_⟩
    have k5 := k4.trans (same_new (o := .lst (vs ++ [.str z, .str z, .str z])) hr3)
    have l20 : (vs ++ [V.str z, .str z, .str z]).length = 20 := by rw [List.length_append, l1]; rfl
    obtain ⟨v, hv⟩ : ∃ v, (vs ++ [V.str z, .str z, .str z])[i.toNat]? = some v := ⟨_, List.getElem?_eq_getElem (by rw [l1] at i1; omega)⟩
    have ei : (i.toNat : Int) = i := Int.toNat_of_nonneg i0
    have sx' := ((sx (a := a) s1).trans (x2.trans x3)).trans (sx k5)
    refine ⟨_, rfl, r3, _, i, v, rfl, rfl, .inl (.inl upd_same), ?_, q v _ (hA3.same k5) sx' ?_⟩
    · rw [← ei]
      exact atI_nat hv
    · rcases List.mem_append.mp (List.mem_of_getElem? hv) with hm | hm
      · have := g1 v hm
        exact ⟨this.1.sx ((x2.trans x3).trans (sx k5)) (hA3.same k5), this.2⟩
      · have e : v = .str z := by
          simp only [List.mem_cons, List.mem_nil_iff, or_false, or_self] at hm
          exact hm
        subst e
        exact ⟨od_s (by have := (hw z hz).len; omega), fun e => by cases e⟩
def setV (g : VG) (r c : Nat) (v : V) : VG := g.set r ((g.getD r []).set c v)
theorem set_parts {α : Type} {l : List α} {n : Nat} {x y : α} (h : l[n]? = some y) : l.take n ++ [x] ++ l.drop (n + 1) = l.set n x := by
  have hl := (List.getElem?_eq_some_iff.mp h).1
  rw [List.set_eq_take_append_cons_drop, if_pos hl, List.append_assoc]
  rfl
theorem each_set {α β : Type} {R : α → β → Prop} {x : α} {y : β} (r : R x y) : ∀ {as : List α} {bs : List β} (n : Nat), Each R as bs → Each R (as.set n x) (bs.set n y)
  | _, _, _, .nil => .nil
  | _, _, 0, .cons _ t => .cons r t
  | _, _, n + 1, .cons a t => .cons a (each_set r n t)
abbrev nPutV : List Str := ["_law_laid", "_law_row", "_law_column", "_law_part", "_law_line"]
abbrev psPutV : List Str := ["_law_laid", "_law_row", "_law_column", "_law_part"]
theorem scPutV : FnScope nPutV psPutV (defScope sPutV) := ⟨rfl, rfl, rfl, by decide +kernel, rfl, by decide +kernel, by decide +kernel⟩
def spPutV : Sp := fun vs H Q _ => ∃ (L : Addr) (g : VG) (wd r c : Nat) (v : V), vs = [.ref L, .int (r : Int), .int (c : Int), v] ∧ VGAt H L g ∧ SizeV g wd ∧ r < g.length ∧ c < wd ∧ ∀ (p : Addr) (H' : Hp), Same H H' → VGAt H' p (setV g r c v) → Q (.ref p) H'
theorem ok_putv (F : Fun K "_law_put" "_law_put" sPutV f fd) : FnOk P w K mg base CX0 1 f fd psPutV spPutV := by
  refine F.ok scPutV (fun vs H Q E h => ?_) (fun cdv A outer s H vs Q E hr h => ?_)
  · obtain ⟨L, g, wd, r, c, v, rfl, _⟩ := h
    rfl
  · obtain ⟨L, g, wd, r, c, v, rfl, ⟨as, hL, hR⟩, gs, hrl, hcl, q⟩ := h
    refine ⟨_, pss_cons (ps_set (i := 4) scPutV.nd rfl (.inl rfl) (pe_op op_catA (pe_op op_catA (pe_slice sl_tupA (pe_ix ix_tup (pv 0) (pv 1) (fun _ _ => rfl)) po_none (po_some (pv 2))) (pe_tup (pa_cons (pv 3) pa_nil))) (pe_slice sl_tupA (pe_ix ix_tup (pv 0) (pv 1) (fun _ _ => rfl)) (po_some (pe_op op_add (pv 2) pe_int)) po_none)))
      (pss_one (ps_ret (pe_op op_catA (pe_op op_catA (pe_slice sl_tupA (pv 0) po_none (po_some (pv 1))) (pe_tup (pa_cons (pv 4) pa_nil))) (pe_slice sl_tupA (pv 0) (po_some (pe_op op_add (pv 1) pe_int)) po_none)))), ?_⟩
    obtain ⟨row, hrow⟩ : ∃ row, g[r]? = some row := ⟨_, List.getElem?_eq_getElem hrl⟩
    obtain ⟨p, hp, hH⟩ := hR.get2 hrow
    have hw := gs.rows _ (List.mem_of_getElem? hrow)
    have hxp : (as.map V.ref)[r]? = some (.ref p) := by rw [List.getElem?_map, hp]; rfl
    have hal := hR.length
    obtain ⟨x0, hcell⟩ : ∃ x, row[c]? = some x := ⟨_, List.getElem?_eq_getElem (by omega)⟩
    have h6 := gs.h6
    have w6 := gs.w6
    refine st_asg (st_op (st_op ⟨_, rfl, _, rfl, L, _, (r : Int), .ref p, rfl, rfl, .inl (.inl hL), atI_nat hxp, ?_⟩))
    unfold tNoPart
    refine ⟨_, rfl, (c : Int), rfl, sl_reads hH fun u1 H1 s1 hu1 => ⟨_, rfl, lz, fun u2 hu2 => ?_⟩⟩
    have k2 := same_new (o := .tup [v]) hu2
    rw [cut_to] at hu1
    refine cat_reads (k2 _ _ hu1) upd_same (by rw [List.length_take, List.length_singleton]; omega) fun u3 H3 s3 hu3 => ?_
    have s03 := s1.trans (k2.trans s3)
    refine ⟨_, rfl, _, rfl, L, _, (r : Int), .ref p, rfl, rfl, .inl (.inl (s03 _ _ hL)), atI_nat hxp, _, rfl, _, _, rfl, rfl, ((c + 1 : Nat) : Int), by simp, ?_⟩
    refine sl_reads (s03 _ _ hH) fun u4 H4 s4 hu4 => ?_
    rw [cut_from] at hu4
    refine cat_reads (s4 _ _ hu3) hu4 (by rw [List.length_append, List.length_take, List.length_singleton, List.length_drop]; omega) fun u5 H5 s5 hu5 => ?_
    rw [set_parts hcell] at hu5
    have s05 := s03.trans (s4.trans s5)
    refine st_ret (st_op (st_op ⟨_, rfl, ?_⟩))
    refine ⟨_, rfl, (r : Int), rfl, sl_reads (s05 _ _ hL) fun u6 H6 s6 hu6 => ⟨_, rfl, lz, fun u7 hu7 => ?_⟩⟩
    have k7 := same_new (o := .tup [V.ref u5]) hu7
    rw [cut_to] at hu6
    refine cat_reads (k7 _ _ hu6) upd_same (by rw [List.length_take, List.length_singleton]; omega) fun u8 H8 s8 hu8 => ?_
    have s08 := s05.trans (s6.trans (k7.trans s8))
    refine ⟨_, rfl, _, rfl, _, _, rfl, rfl, ((r + 1 : Nat) : Int), by simp, ?_⟩
    refine sl_reads (s08 _ _ hL) fun u9 H9 s9 hu9 => ?_
    rw [cut_from] at hu9
    refine cat_reads (s9 _ _ hu8) hu9 (by rw [List.length_append, List.length_take, List.length_singleton, List.length_drop, List.length_map]; omega) fun u10 H10 s10 hu10 => ?_
    rw [set_parts hxp] at hu10
    have s010 := s08.trans (s9.trans s10)
    have hu5' := (s6.trans (k7.trans (s8.trans (s9.trans s10)))) _ _ hu5
    refine q u10 H10 s010 ⟨as.set r u5, ?_, ?_⟩
    · rw [hu10, List.map_set]
    · unfold setV
      rw [getD_of hrow]
      exact each_set (R := fun (b : Addr) (z : List V) => H10 b = some (.tup z)) hu5' r (Each.mono (fun b z e => s010 _ _ e) hR)
end
end Wl

/-! the law's own first odd part. -/
namespace Wl
open PySem PySem.Spec PyProof.Rows L2
abbrev sFirst : Stmt := topS 51
abbrev nFirst : List Str := ["_law_laid", "_law_known", "_law_row", "_law_column", "_law_part", "_law_good", "_law_sign"]
theorem scFirst : FnScope nFirst ["_law_laid"] (defScope sFirst) := ⟨rfl, rfl, rfl, by decide +kernel, rfl, by decide +kernel, by decide +kernel⟩
section
variable {P : Program} {w : World} {K : PySem.W.Frag} {mg : Str → Option Value} {base : Heap} {f : Addr} {fd : FuncData}
theorem ok_first (F : Fun K "_law_first_odd" "_law_first_odd" sFirst f fd) (B : Bi mg) : FnOk P w K mg base CX0 1 f fd ["_law_laid"] spWrongO := by
  refine F.ok scFirst (fun vs H Q E h => ?_) (fun cdv A outer s H vs Q E hr h => ?_)
  · obtain ⟨L, g, wd, rfl, _⟩ := h
    rfl
  · obtain ⟨L, g, wd, rfl, hG, gs, hod, q⟩ := h
    refine ⟨_, pss_cons (ps_set (i := 1) scFirst.nd rfl (.inl rfl) (pe_lst pa_nil))
      (pss_cons (ps_for PassesOwn.never rfl (pi_range1 rfl B.range (pa_cons (pe_callB call_len_seq (by rfl) B.len PySem.boot_len (pa_cons (pv 0) pa_nil)) pa_nil)) (pg_name (i := 2) scFirst.nd rfl (.inl rfl))
        (pss_one (ps_for PassesOwn.never rfl (pi_range1 rfl B.range (pa_cons (pe_callB call_len_seq (by rfl) B.len PySem.boot_len (pa_cons (pe_ix ix_tup (pv 0) (pv 2) (fun _ _ => rfl)) pa_nil)) pa_nil)) (pg_name (i := 3) scFirst.nd rfl (.inl rfl))
          (pss_cons (ps_set (i := 4) scFirst.nd rfl (.inl rfl) (pe_ix ix_tup (pe_ix ix_tup (pv 0) (pv 2) (fun _ _ => rfl)) (pv 3) (fun _ _ => rfl)))
          (pss_one (ps_if (pt_cmp (pc_notN (pv 4)))
            (pss_cons (ps_set (i := 5) scFirst.nd rfl (.inl rfl) (pe_and (pe_callB call_isi (by rfl) B.isi (by decide +kernel) (pa_cons (pv 4) (pa_cons (pe_bltn (v := .ty "str") (by rfl) B.str (by decide +kernel) rfl) pa_nil))) (pe_one (pe_chain op_le op_le pe_int (pe_callB call_len_str (by rfl) B.len PySem.boot_len (pa_cons (pv 4) pa_nil)) pe_int))))
            (pss_cons (ps_if (PW.pt (pw_or (pt_not (pt_val (pv 5)))
                (pw_or (pt_not (pt_val (pe_callB (cr_all rfl) (by rfl) B.all (by decide +kernel) (pa_cons (pe_lc (own := [("_law_sign", 6)]) (g := gName 6) (tt := tYes) rfl scFirst.nd (pi_str (pv 4)) (blkOk_by (N := nFirst) (sc := defScope sFirst) (by decide +kernel))
                  (fun _ _ _ _ _ => pg_name (i := 6) scFirst.nd rfl (.inl rfl)) (fun _ _ _ _ _ => pts_nil) (fun _ _ _ _ _ => pe_cmpR op_in_sign (pv 6) pe_str rfl)) pa_nil))))
                (pw_or1 (pt_cmpR op_in_seq (pv 4) (pv 1) (by rfl)))))) (pss_one (ps_ret (pe_tup (pa_cons (pv 2) (pa_cons (pv 3) pa_nil))))) pss_nil)
            (pss_one (ps_expr (pe_bm PySem.F.plainAttrs_list PySem.F.slot_list_append PySem.F.type_list_append mt_append (pv 1) (pa_cons (pv 4) pa_nil)))))) pss_nil))))))
      (pss_one (ps_ret pe_non))), ?_⟩
    refine ⟨lz, fun d hd => ?_⟩
    obtain ⟨as, hL, hR⟩ := id hG
    have s0 : Same H (upd H d (.lst [])) := same_new hd
    have hal := hR.length
    refine ⟨_, rfl, L, _, rfl, .inr (.inl (.inl (s0 _ _ hL))), ?_⟩
    rw [List.length_map, hal]
    refine ⟨_, rfl, by have := gs.h6; omega, by have := gs.h6; omega, ?_⟩
    refine for_range (lo := 0) (n := g.length) (fun i σ H' => (∃ y2 y3 y4 y5 y6, σ = [some (.ref L), some (.ref d), y2, y3, y4, y5, y6]) ∧ Same H H' ∧ H' d = some (.lst ((strG (g.take i)).map V.str)) ∧ Clean g i 0)
      ⟨⟨_, _, _, _, _, rfl⟩, s0, upd_same, fun i' j' c => absurd c (by omega)⟩ ?_ ?_
    · rintro i σ H1 hi ⟨⟨y2, y3, y4, y5, y6, rfl⟩, s1, hd1, cl1⟩
      obtain ⟨row, hrow⟩ : ∃ row, g[i]? = some row := ⟨_, List.getElem?_eq_getElem hi⟩
      obtain ⟨p, hp, hH⟩ := hR.get2 hrow
      have hxp : (as.map V.ref)[i]? = some (.ref p) := by rw [List.getElem?_map, hp]; rfl
      have hat : atI (as.map V.ref) (0 + (i : Int)) = some (.ref p) := by rw [Int.zero_add]; exact atI_nat hxp
      have hw := gs.rows _ (List.mem_of_getElem? hrow)
      have w6 := gs.w6
      refine ⟨_, rfl, _, rfl, L, _, _, _, rfl, rfl, .inl (.inl (s1 _ _ hL)), hat, p, _, rfl, .inr (.inl (.inl (s1 _ _ hH))), ?_⟩
      refine ⟨_, rfl, by omega, by omega, ?_⟩
      refine for_range (lo := 0) (n := row.length) (fun j σ H' => (∃ y3 y4 y5 y6, σ = [some (.ref L), some (.ref d), some (.int (0 + (i : Int))), y3, y4, y5, y6]) ∧ Same H H' ∧ H' d = some (.lst ((aheadV g i j).map V.str)) ∧ Clean g i j)
        ⟨⟨_, _, _, _, rfl⟩, s1, by rw [ahead_nil hrow]; exact hd1, cl1⟩ ?_ ?_
      · rintro j σ H3 hj ⟨⟨y3, y4, y5, y6, rfl⟩, s3, hd3, cl3⟩
        obtain ⟨v, ho⟩ : ∃ v, row[j]? = some v := ⟨_, List.getElem?_eq_getElem hj⟩
        have hat2 : atI row (0 + (j : Int)) = some v := by rw [Int.zero_add]; exact atI_nat ho
        have hox : OddV H v := hod row (List.mem_of_getElem? hrow) v (List.mem_of_getElem? ho)
        have bad : ∀ {Hn : Hp}, Same H Hn → oddC (aheadV g i j) v = true → ∀ t, Hn t = none → Q (.ref t) (upd Hn t (.tup [.int (0 + (i : Int)), .int (0 + (j : Int))])) := fun {Hn} sn e t ht => by
          rw [Int.zero_add, Int.zero_add]
          exact q (some (i, j)) (.ref t) _ ⟨⟨row, v, hrow, ho, e⟩, cl3⟩ (sn.trans (same_new ht)) ⟨t, rfl, upd_same⟩
        refine ⟨_, rfl, _, rfl, L, _, _, _, rfl, rfl, .inl (.inl (s3 _ _ hL)), hat, _, rfl, p, _, _, v, rfl, rfl, .inl (.inl (s3 _ _ hH)), hat2, ?_⟩
        by_cases hn : v = .non
        · subst hn
          refine ⟨_, rfl, _, rfl, iteF ?_⟩
          refine ⟨⟨_, _, _, _, rfl⟩, s3, ?_, cl3.step (not_odd hrow ho rfl)⟩
          rw [ahead_step hrow ho]
          simpa [strV] using hd3
        · refine ⟨_, rfl, _, rfl, ?_⟩
          rw [decide_eq_false hn]
          refine iteT ?_
          have odF : wvB v = false → oddC (aheadV g i j) v = true := fun e => by
            cases v with
            | non => exact absurd rfl hn
            | str z =>
              show (!wdB z || decide (z ∈ aheadV g i j)) = true
              rw [show wdB z = false from e]
              rfl
            | _ => rfl
          rcases hox.strQ (K := K) with ⟨z, rfl, hz⟩ | _
          · refine ⟨_, rfl, _, _, _, _, _, rfl, .ty "str", .base (.str z), kit_ty (r := true) (by decide +kernel), true, rfl, iteT ?_⟩
            refine ⟨_, rfl, _, rfl, lzl hz, _, _, rfl, rfl, _, rfl, ite_b (fun e1 => ?_) (fun e1 => ?_)⟩
            · refine ⟨_, _, rfl, rfl, ?_⟩
              refine ⟨_, rfl, _, rfl, not_b (fun e2 => ?_) (fun e2 => ?_)⟩
              · refine ⟨_, rfl, _, rfl, lz, fun t ht => bad s3 (odF ?_) t ht⟩
                have e2' := of_decide_eq_false e2
                show wdB z = false
                unfold wdB
                rw [decide_eq_false (show ¬ z.length ≤ 8 by omega)]
                simp
              · have h1 : 1 ≤ z.length := by
                  have := of_decide_eq_true e1
                  omega
                have h8 : z.length ≤ 8 := by
                  have := of_decide_eq_true e2
                  omega
                refine ⟨_, rfl, _, rfl, fun D hD => lc_map walk_signs hD (fun _ => true) letV (fun _ _ => trivial) (fun _ => rfl) (fun x H' _ _ Q' q' => q') ?_ ?_ ?_⟩
                · intro x H' hx _ _ Q' q'
                  obtain ⟨c, hc, rfl⟩ := List.mem_map.mp hx
                  refine ⟨_, rfl, c, _, rfl, rfl, ?_⟩
                  rw [letB_mem]
                  have : letV (.str (sign c)) = .bl (letB c) := by
                    show V.bl ([c].all letB) = _
                    simp
                  rw [this] at q'
                  exact q'
                · unfold signsOf
                  rw [List.length_map, Array.length_toList]
                  exact small1000 (by have : z.length = z.cps.size := rfl; omega)
                · intro H' s' hD'
                  have e0 : ((signsOf z).filter fun _ => true).map letV = (z.cps.toList.map letB).map V.bl := by
                    rw [List.filter_eq_self.mpr fun _ _ => rfl]
                    unfold signsOf
                    rw [List.map_map, List.map_map]
                    refine List.map_congr_left fun c _ => ?_
                    show V.bl ([c].all letB) = _
                    simp
                  have ew : (z.cps.toList.map letB).all id = wdB z := by
                    unfold wdB
                    rw [decide_eq_true h1, decide_eq_true h8, List.all_map]
                    rfl
                  have s4 := s3.trans s'
                  refine ⟨D, z.cps.toList.map letB, rfl, .inl (.inl (by rw [hD', e0])), _, rfl, not_b (fun e3 => ?_) (fun e3 => ?_)⟩
                  · exact ⟨_, rfl, _, rfl, lz, fun t ht => bad s4 (odF (ew.symm.trans e3)) t ht⟩
                  · have hzw : wdB z = true := ew.symm.trans e3
                    have hd5 := s' _ _ hd3
                    have oc : oddC (aheadV g i j) (.str z) = decide (z ∈ aheadV g i j) := by
                      show (!wdB z || decide (z ∈ aheadV g i j)) = _
                      rw [hzw]
                      rfl
                    refine ⟨_, rfl, _, rfl, d, _, rfl, .inl (.inl (.inl hd5)), rfl, flat_strs _, decide (z ∈ aheadV g i j), congrArg V.bl (inV_strs _ _), ite_b (fun e4 => ?_) (fun e4 => ?_)⟩
                    · exact ⟨_, rfl, _, rfl, lz, fun t ht => bad s4 (oc.trans e4) t ht⟩
                    · refine ⟨_, rfl, .inl ⟨rfl, _, .inl (.inl hd5)⟩, _, rfl, d, _, _, rfl, rfl, hd5, ?_, ?_⟩
                      · rw [List.length_map]
                        exact small1000 (by have := ahead_lenV gs hrow (j := j); omega)
                      · refine ⟨⟨_, _, _, _, rfl⟩, same_mut s4 hd, ?_, cl3.step (not_odd hrow ho (oc.trans e4))⟩
                        rw [upd_same, ahead_step hrow ho]
                        simp [strV]
            · refine ⟨_, rfl, false, rfl, iteT ⟨_, rfl, _, rfl, lz, fun t ht => bad s3 (odF ?_) t ht⟩⟩
              have e1' := of_decide_eq_false e1
              show wdB z = false
              unfold wdB
              rw [decide_eq_false (show ¬ 1 ≤ z.length by omega)]
              simp
          · rename_i hns
            obtain ⟨t, ty, hk, hwv⟩ := hns
            have ty3 : ∃ t, TyX K H3 v t ∧ PySem.W.kitOne K t (.type "str") = some false := by
              rcases (hox.same s3).strQ (K := K) with ⟨z, rfl, _⟩ | ⟨t, ty, hk, _⟩
              · cases ty with
                | base b =>
                  cases b
                  rw [show PySem.W.kitOne K (.type "str") (.type "str") = some true from kit_ty (r := true) (by decide +kernel)] at hk
                  cases hk
              · exact ⟨t, ty, hk⟩
            obtain ⟨t, ty, hk⟩ := ty3
            exact ⟨_, rfl, _, _, _, _, _, rfl, .ty "str", ty, hk, false, rfl, iteF ⟨_, rfl, false, rfl, iteT ⟨_, rfl, _, rfl, lz, fun t ht => bad s3 (odF hwv) t ht⟩⟩⟩
      · rintro σ H3 ⟨⟨y3, y4, y5, y6, rfl⟩, s3, hd3, cl3⟩
        refine ⟨⟨_, _, _, _, _, rfl⟩, s3, ?_, Clean.row hrow cl3⟩
        rw [ahead_end hrow] at hd3
        exact hd3
    · rintro σ H3 ⟨⟨y2, y3, y4, y5, y6, rfl⟩, s3, hd3, cl3⟩
      exact q none _ H3 cl3.all s3 rfl
end
end Wl

/-! rows with one or two odd parts: refused at the first. -/
namespace Wl
open PySem PySem.Spec PyProof.Rows L2
abbrev sPR : Stmt := topS 52
theorem VGAt.tk {H H' : Hp} {L : Addr} {g : VG} (h : VGAt H L g) (k : TupKeep H H') : VGAt H' L g := by
  obtain ⟨as, h1, h2⟩ := h
  exact ⟨as, k _ _ h1, Each.mono (fun p row e => k _ _ e) h2⟩
theorem purse_tk {a : Addr} {H H' : Hp} (hA : PurseAt H a) (s : SameX a H H') : TupKeep H H' := by
  obtain ⟨ys, hy⟩ := hA.lst
  exact tk_x s hy
theorem getD_get {g : VG} {r : Nat} (h : r < g.length) : g[r]? = some (g.getD r []) := by
  rw [List.getD_eq_getElem?_getD, List.getElem?_eq_getElem h]
  rfl
theorem setV_size {g : VG} {wd r c : Nat} {v : V} (s : SizeV g wd) (hr : r < g.length) : SizeV (setV g r c v) wd ∧ (setV g r c v).length = g.length := by
  have hl : (setV g r c v).length = g.length := by unfold setV; rw [List.length_set]
  refine ⟨⟨by rw [hl]; exact s.h1, by rw [hl]; exact s.h6, s.w1, s.w6, fun q hq => ?_⟩, hl⟩
  unfold setV at hq
  rcases List.mem_or_eq_of_mem_set hq with h | h
  · exact s.rows q h
  · rw [h, List.length_set]
    exact s.rows _ (List.mem_of_getElem? (getD_get hr))
theorem setV_all {P : V → Prop} {g : VG} {r c : Nat} {v : V} (hr : r < g.length) (h : ∀ q ∈ g, ∀ x ∈ q, P x) (hv : P v) : ∀ q ∈ setV g r c v, ∀ x ∈ q, P x := fun q hq x hx => by
  unfold setV at hq
  rcases List.mem_or_eq_of_mem_set hq with h1 | h1
  · exact h q h1 x hx
  · subst h1
    rcases List.mem_or_eq_of_mem_set hx with h2 | h2
    · exact h _ (List.mem_of_getElem? (getD_get hr)) x h2
    · subst h2
      exact hv
theorem setV_mem {g : VG} {wd r c : Nat} {v : V} (s : SizeV g wd) (hr : r < g.length) (hc : c < wd) : ∃ q ∈ setV g r c v, v ∈ q := by
  have hw := s.rows _ (List.mem_of_getElem? (getD_get hr))
  refine ⟨(g.getD r []).set c v, ?_, List.mem_set (by omega) _⟩
  unfold setV
  exact List.mem_set hr _
theorem strG_ne {g : VG} (h : First g none) {q : List V} {v : V} (hq : q ∈ g) (hv : v ∈ q) (hn : v ≠ .non) : strG g ≠ [] := by
  obtain ⟨i, hi⟩ := List.mem_iff_getElem?.mp hq
  obtain ⟨j, hj⟩ := List.mem_iff_getElem?.mp hv
  rcases good_cell (h.cell hi hj) with e | ⟨z, e, _⟩
  · exact absurd e hn
  · subst e
    have : z ∈ strG g := by
      unfold strG
      rw [List.mem_flatten]
      exact ⟨strR q, List.mem_map.mpr ⟨q, hq, rfl⟩, List.mem_filterMap.mpr ⟨_, hv, rfl⟩⟩
    intro e
    rw [e] at this
    cases this
theorem good_size {g : Grid} {wd : Nat} (gd : Good g wd) : SizeV (g.map (List.map oV)) wd := by
  refine ⟨by rw [List.length_map]; exact gd.h1, by rw [List.length_map]; exact gd.h6, gd.w1, gd.w6, fun r hr => ?_⟩
  obtain ⟨q, hq, rfl⟩ := List.mem_map.mp hr
  rw [List.length_map]
  exact gd.rows q hq
theorem good_odd {g : Grid} {wd : Nat} (gd : Good g wd) {H : Hp} : ∀ r ∈ g.map (List.map oV), ∀ x ∈ r, OddV H x := fun r hr x hx => by
  obtain ⟨q, hq, rfl⟩ := List.mem_map.mp hr
  obtain ⟨o, ho, rfl⟩ := List.mem_map.mp hx
  cases o with
  | none => exact od_n
  | some z =>
    have hz : z ∈ names g := by
      unfold names
      rw [List.mem_filterMap]
      exact ⟨some z, List.mem_flatten.mpr ⟨q, hq, ho⟩, rfl⟩
    exact od_s (by have := (gd.wd z hz).len; omega)
theorem sh2 (i j : Nat) : SeqAt.shaped (PyData.tuple [.str "land", .tuple [.int (i : Int), .int (j : Int)]]) = true :=
  shaped_tuple (by
    have : PyData.canLay0 (.str "land") = true := by decide +kernel
    simp [PyData.canLayAll0, PyData.canLay0] at this ⊢
    exact this) (by simp [PyData.depthAll, PyData.depth])
abbrev nPR : List Str := ["_law_purse_here", "_law_laid", "_law_odd", "_law_turn", "_law_row", "_law_column", "_law_first", "_law_told"]
abbrev psPR : List Str := ["_law_purse_here", "_law_laid"]
theorem scPR : FnScope nPR psPR (defScope sPR) := ⟨rfl, rfl, rfl, by decide +kernel, rfl, by decide +kernel, by decide +kernel⟩
section
variable {P : Program} {w : World} {K : PySem.W.Frag} {mg : Str → Option Value} {base : Heap} {f : Addr} {fd : FuncData}
def spPR : Sp := fun vs H Q _ => ∃ (a L : Addr) (g : Grid) (wd : Nat), vs = [.ref a, .ref L] ∧ PurseAt H a ∧ GridAt H L g ∧ Good g wd ∧ ∀ (H' : Hp), PurseAt H' a → SameX a H H' → Q (.bl true) H'
theorem ok_pr (F : Fun K "_law_parts_right" "_law_parts_right" sPR f fd) (B : Bi mg) (hP : Has P w K mg base "_law_pick" 1 ["_law_purse_here", "_law_many"] spPick) (hN : Has P w K mg base "_law_names" 1 ["_law_laid"] spNames)
    (hO : Has P w K mg base "_law_odd_part" 2 psOddP spOddP) (hU : Has P w K mg base "_law_put" 1 psPutV spPutV) (hF : Has P w K mg base "_law_first_odd" 1 ["_law_laid"] spWrongO) (hM : Has P w K mg base "_law_made" 6 ["_law_laid"] spMade) : FnOk P w K mg base CX0 7 f fd psPR spPR := by
  refine F.ok scPR (fun vs H Q E h => ?_) (fun cdv A outer s H vs Q E hr h => ?_)
  · obtain ⟨a, L, g, wd, rfl, _⟩ := h
    rfl
  · obtain ⟨a, L, g, wd, rfl, hA, hG, gd, q⟩ := h
    refine ⟨_, pss_cons (ps_set (i := 2) scPR.nd rfl (.inl rfl) (pv 1))
      (pss_cons (ps_for PassesOwn.never rfl (pi_range1 rfl B.range (pa_cons (pe_op op_add pe_int (pe_h hP hr (pa_cons (pv 0) (pa_cons pe_int pa_nil)))) pa_nil)) (pg_name (i := 3) scPR.nd rfl (.inl rfl))
        (pss_cons (ps_par (i := 4) (j := 5) (by rfl) scPR.nd rfl rfl (by decide) rfl rfl (pa_cons (pe_h hP hr (pa_cons (pv 0) (pa_cons (pe_callB call_len_seq (by rfl) B.len PySem.boot_len (pa_cons (pv 1) pa_nil)) pa_nil))) (pa_cons (pe_h hP hr (pa_cons (pv 0) (pa_cons (pe_callB call_len_seq (by rfl) B.len PySem.boot_len (pa_cons (pe_ix ix_tup (pv 1) pe_int (fun _ _ => rfl)) pa_nil)) pa_nil))) pa_nil)) (by rfl))
        (pss_one (ps_set (i := 2) scPR.nd rfl (.inl rfl) (pe_h hU hr (pa_cons (pv 2) (pa_cons (pv 4) (pa_cons (pv 5) (pa_cons (pe_h hO hr (pa_cons (pv 0) (pa_cons (pe_h hN hr (pa_cons (pv 1) pa_nil)) pa_nil))) pa_nil)))))))))
      (pss_cons (ps_set (i := 6) scPR.nd rfl (.inl rfl) (pe_h hF hr (pa_cons (pv 2) pa_nil)))
      (pss_cons (ps_if (pt_cmp (pc_isN (pv 6))) (pss_one (ps_ret (pe_cmpR op_eq (pe_ix ix_tup (pe_h hM hr (pa_cons (pv 2) pa_nil)) pe_int (fun _ _ => rfl)) pe_str (nomark _)))) pss_nil)
      (pss_cons (ps_set (i := 7) scPR.nd rfl (.inl rfl) (pe_h hM hr (pa_cons (pv 2) pa_nil)))
      (pss_one (ps_ret (pe_and (pe_cmpR (op_eqD hr.units) (pv 7) (pe_tup (pa_cons pe_str (pa_cons (pv 6) pa_nil))) (nomark _)) (pe_one (pe_callB call_isi (by rfl) B.isi (by decide +kernel) (pa_cons (pe_ix ix_tup (pv 7) pe_int (fun _ _ => rfl)) (pa_cons (pe_bltn (v := .ty "tuple") (by rfl) B.tuple (by decide +kernel) rfl) pa_nil))))))))))), ?_⟩
    refine ⟨_, rfl, ?_⟩
    refine ⟨_, rfl, a, 2, rfl, hA, by decide, by decide, fun r H1 r0 r1 hA1 x1 _ => ⟨_, _, rfl, rfl, ?_⟩⟩
    obtain ⟨n, en⟩ : ∃ n : Nat, 1 + r = (n : Int) := ⟨(1 + r).toNat, by omega⟩
    refine ⟨1 + r, rfl, by omega, by omega, ?_⟩
    rw [show (1 + r).toNat = n by omega]
    have hn : 1 ≤ n ∧ n ≤ 2 := by omega
    have hG1 := hG.keep (purse_tk hA x1)
    refine for_range (lo := 0) (n := n) (fun i σ H' => (∃ (M : Addr) (vg : VG) (y3 y4 y5 y6 y7 : Option V), σ = [some (.ref a), some (.ref L), some (.ref M), y3, y4, y5, y6, y7] ∧ VGAt H' M vg ∧ SizeV vg wd ∧ vg.length = g.length ∧ (∀ q ∈ vg, ∀ x ∈ q, OddV H' x) ∧ (0 < i → ∃ q ∈ vg, ∃ x ∈ q, x ≠ .non)) ∧ PurseAt H' a ∧ SameX a H1 H')
      ⟨⟨L, _, _, _, _, _, _, rfl, hG1.vg, good_size gd, by rw [List.length_map], good_odd gd, fun h => absurd h (by decide)⟩, hA1, SameX.refl _ _⟩ ?_ ?_
    · rintro i σ H2 hi ⟨⟨M, vg, y3, y4, y5, y6, y7, rfl, hM2, sz, hl, hod, _⟩, hA2, x2⟩
      have hG2 := hG1.keep (purse_tk hA1 x2)
      obtain ⟨as, hL, hR⟩ := id hG2
      have hal := hR.length
      have g1 := gd.h1
      have g6 := gd.h6
      have w1 := gd.w1
      have w6 := gd.w6
      refine ⟨_, rfl, _, rfl, L, _, rfl, .inr (.inl (.inl hL)), a, _, rfl, hA2, by rw [List.length_map]; omega, by rw [List.length_map]; omega, fun rr H3 rr0 rr1 hA3 x3 _ => ?_⟩
      rw [List.length_map, hal] at rr1
      have hG3 := hG2.keep (purse_tk hA2 x3)
      obtain ⟨as3, hL3, hR3⟩ := id hG3
      have hal3 := hR3.length
      obtain ⟨p0, hp0⟩ : ∃ p0, as3[0]? = some p0 := ⟨as3[0], List.getElem?_eq_getElem (by omega)⟩
      obtain ⟨row0, hrow0, hH0⟩ := hR3.get hp0
      have hw0 := gd.rows row0 (List.mem_of_getElem? hrow0)
      refine ⟨_, rfl, _, rfl, L, _, 0, .ref p0, rfl, rfl, .inl (.inl hL3), atI_nat (j := 0) (by rw [List.getElem?_map, hp0]; rfl), p0, _, rfl, .inr (.inl (.inl hH0)), a, _, rfl, hA3, by rw [List.length_map]; omega, by rw [List.length_map]; omega, fun cc H4 cc0 cc1 hA4 x4 _ => ?_⟩
      rw [List.length_map, hw0] at cc1
      have hG4 := hG3.keep (purse_tk hA3 x4)
      obtain ⟨rn, ern⟩ : ∃ rn : Nat, rr = (rn : Int) := ⟨rr.toNat, by omega⟩
      obtain ⟨cn, ecn⟩ : ∃ cn : Nat, cc = (cn : Int) := ⟨cc.toNat, by omega⟩
      subst ern ecn
      refine ⟨_, _, rfl, ?_⟩
      refine ⟨_, rfl, _, rfl, _, rfl, _, rfl, _, rfl, L, g, wd, rfl, hG4, gd.sized, fun t H5 nt5 s5 ht5 => ?_⟩
      have hA5 := hA4.same s5
      refine ⟨a, t, _, rfl, hA5, ht5, hA4.ne nt5, by rw [sortS_len]; exact Nat.pos_of_ne_zero fun e => gd.ne (List.eq_nil_of_length_eq_zero e), by rw [sortS_len]; exact gd.len, fun z hz => gd.wd z (mem_sortS.mp hz), fun v H6 hA6 x6 hv => ?_⟩
      have x26 : SameX a H2 H6 := x3.trans (x4.trans ((sx s5).trans x6))
      have tk26 : TupKeep H2 H6 := purse_tk hA2 x26
      refine ⟨M, vg, wd, rn, cn, v, rfl, hM2.tk tk26, sz, by omega, by omega, fun p H7 s7 hp7 => ?_⟩
      have hr : rn < vg.length := by omega
      obtain ⟨sz', hl'⟩ := setV_size (c := cn) (v := v) sz hr
      refine ⟨⟨p, _, _, _, _, _, _, rfl, hp7, sz', hl'.trans hl, setV_all hr (fun q hq x hx => ((hod q hq x hx).sx x26 hA6).same s7) (hv.1.same s7), fun _ => ?_⟩, hA6.same s7, x2.trans (x26.trans (sx s7))⟩
      obtain ⟨q, hq, hvq⟩ := setV_mem (v := v) sz hr (show cn < wd by omega)
      exact ⟨q, hq, v, hvq, hv.2⟩
    · rintro σ H2 ⟨⟨M, vg, y3, y4, y5, y6, y7, rfl, hM2, sz, hl, hod, hne⟩, hA2, x2⟩
      obtain ⟨qn, hqn, vn, hvn, hnn⟩ := hne (by omega)
      refine ⟨_, rfl, M, vg, wd, rfl, hM2, sz, hod, fun o pv H3 hf s3 hpv => ?_⟩
      have hM3 := hM2.same s3
      have hod3 : ∀ q ∈ vg, ∀ x ∈ q, OddV H3 x := fun q hq x hx => (hod q hq x hx).same s3
      have x13 := (x1.trans x2).trans (sx s3)
      have hA3 := hA2.same s3
      have hdue : LandDue H3 (.ref M) (match (generalizing := false) o with | some p => some (some p) | none => if strG vg = [] then some none else none) := .inr (.inr ⟨M, vg, wd, o, rfl, hM3, sz, hod3, hf, rfl⟩)
      cases o with
      | none =>
        cases hpv
        refine ⟨_, rfl, _, rfl, iteT ?_⟩
        have hs : strG vg ≠ [] := strG_ne hf hqn hvn hnn
        refine ⟨_, rfl, _, _, rfl, hdue, fun p' H4 s4 hm => ?_⟩
        rw [if_neg hs] at hm
        have hm : H4 p' = some (.tup [.str "made", .non]) := hm
        refine ⟨p', _, 0, _, rfl, rfl, .inl (.inl hm), atI_nat (j := 0) rfl, rfl, ?_⟩
        exact q H4 (hA3.same s4) (x13.trans (sx s4))
      | some ij =>
        obtain ⟨i, j⟩ := ij
        obtain ⟨u, rfl, hu⟩ := hpv
        refine ⟨_, rfl, _, rfl, iteF ?_⟩
        refine ⟨_, rfl, _, _, rfl, hdue, fun p' H4 s4 ⟨v', hv', hm⟩ => ?_⟩
        obtain ⟨u2, rfl, hu2⟩ := hv'
        refine ⟨_, rfl, _, rfl, lz, fun t5 ht5 => ?_⟩
        have k5 := same_new (o := .tup [V.str "land", .ref u]) ht5
        have dA : ∀ {x : Addr} {Hn : Hp}, Hn x = some (.tup [.int (i : Int), .int (j : Int)]) → Dp K Hn (.ref x) (.tuple [.int i, .int j]) := fun h => .tup (.inl (.inl h)) (.cons (.int _) (.cons (.int _) .nil))
        refine ⟨.tuple [.str "land", .tuple [.int i, .int j]], .tuple [.str "land", .tuple [.int i, .int j]], .tup (.inl (.inl (k5 _ _ hm))) (.cons (.str _) (.cons (dA (k5 _ _ hu2)) .nil)), .tup (.inl (.inl upd_same)) (.cons (.str _) (.cons (dA (k5 _ _ (s4 _ _ hu))) .nil)), sh2 i j, sh2 i j, _, rfl, ?_⟩
        have ee : PyData.eqv (.tuple [.str "land", .tuple [.int i, .int j]]) (.tuple [.str "land", .tuple [.int i, .int j]]) = true := by
          simp [PyData.eqv, PyData.eqvAll]
        rw [ee]
        refine iteT ⟨_, rfl, p', _, 1, .ref u2, rfl, rfl, .inl (.inl (k5 _ _ hm)), atI_nat (j := 1) rfl, _, _, _, _, _, rfl, .ty "tuple", .base (.tup (k5 _ _ hu2)), kit_ty (r := true) (by decide +kernel), ?_⟩
        exact q _ ((hA3.same s4).same k5) ((x13.trans (sx s4)).trans (sx k5))
end
end Wl

/-! A tuple times 0 or 1. -/
namespace Wl
open PySem PySem.Spec PyProof.Rows L2
theorem times_same (l : Addr) (items : Array Value) (n : Nat) (dd : Option Addr) (sl : Array (Option Value)) (x : Int) (u : Tok) (c0 : (decide (x < -(2 ^ 63)) || decide (x ≥ 2 ^ 63)) = false) (c1 : (items.isEmpty || x == 1) = true) :
    Meets (Builtin.«tuple.__mul__» ⟨[.ref l, .int x u], []⟩) (fun _ R s => s.heap.get? l = some { cls := .type "tuple", dict := dd, data := .seq items n, slots := sl } ∧ R (.ok (.ret (Value.ref l))) s) :=
  .of_wp fun prog w A R s h => by
    obtain ⟨hp, g, d, tk, os⟩ := s
    obtain ⟨hl, h⟩ := h
    have f1 := AutoSeq1.idx_int
    have tl : Shared.TypeIs ⟨hp, g, d, tk, os⟩ (.ref l) "tuple" := ⟨_, hl, rfl⟩
    wp_walk using wpAny_loadPart' hl
    all_goals (try (refine wpAny_ite_false (decide_eq_false (by rw [c0]; exact Bool.false_ne_true)) ?_; wp_walk using wpAny_loadPart' hl))
    exact ⟨_, rfl, h⟩
theorem times_none (l : Addr) (items : Array Value) (n : Nat) (dd : Option Addr) (sl : Array (Option Value)) (u : Tok) (c1 : (items.isEmpty || (0 : Int) == 1) = false) :
    Meets (Builtin.«tuple.__mul__» ⟨[.ref l, .int 0 u], []⟩) (fun _ R s => s.heap.get? l = some { cls := .type "tuple", dict := dd, data := .seq items n, slots := sl } ∧
      R (.ok (.ret (Value.ref s.heap.objs.size))) { s with heap := s.heap.push { cls := Value.type "tuple", data := Data.seq #[] }, toks := s.toks }) :=
  .of_wp fun prog w A R s h => by
    obtain ⟨hp, g, d, tk, os⟩ := s
    obtain ⟨hl, h⟩ := h
    have f1 := AutoSeq1.idx_int
    have c2 : (decide ((0 : Int) ≤ 0) || items.isEmpty) = true := by rw [decide_eq_true (Int.le_refl 0)]; rfl
    wp_walk using wpAny_loadPart' hl
    refine wpAny_ite_false (decide_eq_false (fun e => by rw [c1] at e; cases e)) ?_
    wp_walk using wpAny_loadPart' hl
    all_goals (try (refine wpAny_ite_true (decide_eq_true c2) ?_; wp_walk using wpAny_loadPart' hl))
    exact ⟨_, rfl, h⟩
def rTimesT (K : PySem.W.Frag) : R2 := fun x y H Q => ∃ l k xs, x = .ref l ∧ y = .int k ∧ SqT K H l xs ∧ ((k = 1 ∧ Q (.ref l) H) ∨ (k = 0 ∧ (xs = [] → Q (.ref l) H) ∧ ∀ p, H p = none → Q (.ref p) (upd H p (.tup []))))
section
variable {X : Cx}
theorem op_timesT : OpR X (binaryOp .Mult) (rTimesT X.K) := by
  intro pins s σ H x y v u Q I rx ry h
  obtain ⟨l, k, xs, rfl, rfl, hT, q⟩ := h
  cases rx
  obtain ⟨t, rfl⟩ := ry
  obtain ⟨its, r, ⟨⟨cls, dd, data, sl⟩, ho, hc, n, hd⟩, hs⟩ := I.tuple hT
  simp only at hc hd
  subst hc hd
  have road : ∀ {Q' : Value → Shared → Prop}, wpAny (model X.prog X.w) X.A (call (.builtin "tuple.__mul__") [.ref l, .int k t]) Q' X.xe s → wpAny (model X.prog X.w) X.A (binaryOp .Mult (.ref l) (.int k t)) Q' X.xe s := fun {Q'} hq =>
    wpAny_binaryOp_repeat_ref (T := "tuple") (U := "int") (by decide) ⟨_, ho, rfl⟩ (fun s' => typeIs_int s' k t) noFill_tuple_mul F.fills_int_mul F.slot_int_rmul repeat_tuple F.slot_int_index.lookup
      (call_meets F.slot_int_rmul (typeIs_int s k t) F.entry_int_rmul (F.args_int_rmul_2 _ _) (int_rmul_tuple k t l its.toArray n dd sl) ⟨ho, rfl, ⟨_, ho, rfl⟩, hq⟩)
  refine road ?_
  rcases q with ⟨rfl, q⟩ | ⟨rfl, q0, q1⟩
  · exact call_meets F.slot_tuple_mul ⟨_, ho, rfl⟩ F.entry_tuple_mul (F.args_tuple_mul_2 _ _) (times_same l its.toArray n dd sl 1 t (by decide) (by simp)) ⟨ho, ⟨.ref l, H, I, rfl, q⟩⟩
  · cases its with
    | nil =>
      have e : xs = [] := by
        cases xs with
        | nil => rfl
        | cons a b => cases r
      exact call_meets F.slot_tuple_mul ⟨_, ho, rfl⟩ F.entry_tuple_mul (F.args_tuple_mul_2 _ _) (times_same l _ n dd sl 0 t (by decide) (by simp)) ⟨ho, ⟨.ref l, H, I, rfl, q0 e⟩⟩
    | cons a b =>
      refine call_meets F.slot_tuple_mul ⟨_, ho, rfl⟩ F.entry_tuple_mul (F.args_tuple_mul_2 _ _) (times_none l _ n dd sl t (by simp)) ⟨ho, ?_⟩
      have hn : H s.heap.objs.size = none := I.hok.fresh (Nat.le_refl _)
      refine ⟨.ref s.heap.objs.size, upd H s.heap.objs.size (.tup []), ?_, rfl, q1 _ hn⟩
      refine I.laid (t' := s.toks) (fun b o e => Heap.get?_push_of_some _ e) (Nat.le_refl _) ?_
      exact ⟨by simp, [], .nil, ⟨_, Heap.get?_push_size _ rfl, rfl, _, rfl⟩⟩
end
end Wl

/-! A tuple times a number, whichever object it gives. -/
namespace Wl
open PySem PySem.Spec PyProof.Rows L2
def rMulTu (K : PySem.W.Frag) : R2 := fun x y H Q => ∃ l k xs, x = .ref l ∧ y = .int k ∧ H l = some (.tup xs) ∧ xs ≠ [] ∧ 0 ≤ k ∧ k ≤ 1000 ∧ xs.length ≤ 1000 ∧ ∀ u H', Same H H' → H' u = some (.tup (List.replicate k.toNat xs).flatten) → Q (.ref u) H'
theorem op_mulTu {X : Cx} : OpR X (binaryOp .Mult) (rMulTu X.K) := by
  intro pins s σ H x y v u Q I rx ry h
  obtain ⟨l, k, xs, rfl, rfl, hT, hne, h0, h1, hz, q⟩ := h
  rcases Int.lt_or_le k 2 with h2 | h2
  · refine op_timesT pins s σ H _ _ v u Q I rx ry ⟨l, k, xs, rfl, rfl, .inl (.inl hT), ?_⟩
    rcases (by omega : k = 1 ∨ k = 0) with rfl | rfl
    · exact .inl ⟨rfl, q l H (Same.refl H) (by rw [hT]; simp)⟩
    · exact .inr ⟨rfl, fun e => absurd e hne, fun p hp => q p _ (same_new hp) upd_same⟩
  · exact op_repT pins s σ H _ _ v u Q I rx ry ⟨l, k, xs, rfl, rfl, .inl (.inl hT), hne, h2, h1, hz, fun p hp => q p _ (same_new hp) upd_same⟩
end Wl

/-! Rules of ours: an object of an own class beside things of other kinds, by == and != -/
namespace Wl
open PySem PySem.Spec PyProof.Rows L2
section
variable {M : Model} {prog : Program} {w : World} {A : Around} {E : Value → Shared → Prop} {s : Shared} {K : PySem.W.Frag} {x C dx : Addr} {od : Option Obj}
theorem dec_none {Q : Fin → Shared → Prop} (hq : Q (.done (.ret .notImplemented)) s) : wpAny M A (Builtin.«NoneType.__eq__» ⟨[.none, .ref x], []⟩) Q E s := by
  unfold Builtin.«NoneType.__eq__»
  refine wpAny_bind (m := slotArgs "__eq__" 1 _) (wpAny_pure ?_)
  exact wpAny_pure hq
theorem dec_int {v : Value} {Q : Fin → Shared → Prop} (hv : (∃ n t, v = .int n t) ∨ ∃ b, v = .bool b) (ho : s.heap.get? x = some (PySem.W.instObj C dx)) (hq : Q (.done (.ret .notImplemented)) s) : wpAny M A (Builtin.«int.__eq__» ⟨[v, .ref x], []⟩) Q E s := by
  show wpAny M A (slotArgs "__eq__" 1 _ >>= _) Q E s
  refine wpAny_bind (wpAny_pure ?_)
  rcases hv with ⟨n, t, rfl⟩ | ⟨b, rfl⟩
  all_goals
    refine wpAny_bind (wpAny_pure ?_)
    refine wpAny_bind (m := asInt? (.ref x)) ?_
    unfold asInt?
    refine wpAny_bind (wpAny_load ho ?_)
    exact wpAny_pure (wpAny_bind (wpAny_rule (wpAny_pure hq)))
theorem dec_str {z : Str} {t : Tok} {Q : Fin → Shared → Prop} (ho : s.heap.get? x = some (PySem.W.instObj C dx)) (hq : Q (.done (.ret .notImplemented)) s) : wpAny M A (Builtin.«str.__eq__» ⟨[.str z t, .ref x], []⟩) Q E s := by
  unfold Builtin.«str.__eq__» Builtin.Str.strCompare
  refine wpAny_bind (wpAny_pure ?_)
  refine wpAny_bind (m := asStr? (.ref x)) ?_
  unfold asStr?
  refine wpAny_bind (wpAny_load ho ?_)
  exact wpAny_pure (wpAny_bind (wpAny_rule (wpAny_pure hq)))
theorem isin_own {T : String} (X : K.In s.heap) (I : PySem.W.InstAt s.heap x (PySem.W.instObj C dx) C od) (hm : PySem.W.mroIn K C (.type T) = some false) : PySem.W.Looks M s.heap (isInstance (.ref x) (.type T)) false := by
  unfold isInstance
  exact I.type.andThen (PySem.W.looks_mroIn X hm)
theorem dec_list {v : Value} {Q : Fin → Shared → Prop} (X : K.In s.heap) (I : PySem.W.InstAt s.heap x (PySem.W.instObj C dx) C od) (hm : PySem.W.mroIn K C (.type "list") = some false) (hq : Q (.done (.ret .notImplemented)) s) : wpAny M A (Builtin.«list.__eq__» ⟨[v, .ref x], []⟩) Q E s := by
  show wpAny M A (slotArgs "__eq__" 1 _ >>= _) Q E s
  refine wpAny_bind (wpAny_pure ?_)
  refine wpAny_bind (m := isInstance (.ref x) (.type "list")) ((isin_own X I hm).here ?_)
  exact wpAny_pure hq
theorem dec_tup {v : Value} {Q : Fin → Shared → Prop} (X : K.In s.heap) (I : PySem.W.InstAt s.heap x (PySem.W.instObj C dx) C od) (hm : PySem.W.mroIn K C (.type "tuple") = some false) (hq : Q (.done (.ret .notImplemented)) s) : wpAny M A (Builtin.«tuple.__eq__» ⟨[v, .ref x], []⟩) Q E s := by
  show wpAny M A (slotArgs "__eq__" 1 _ >>= _) Q E s
  refine wpAny_bind (wpAny_pure ?_)
  refine wpAny_bind (m := isInstance (.ref x) (.type "tuple")) ((isin_own X I hm).here ?_)
  exact wpAny_pure hq
theorem dec_dict {a : Addr} {Q : Fin → Shared → Prop} (hT : s.TypeIs (.ref a) "dict") (X : K.In s.heap) (I : PySem.W.InstAt s.heap x (PySem.W.instObj C dx) C od) (hm : PySem.W.mroIn K C (.type "dict") = some false) (hq : Q (.done (.ret .notImplemented)) s) : wpAny (model prog w) A (Builtin.«dict.__eq__» ⟨[.ref a, .ref x], []⟩) Q E s := by
  show wpAny (model prog w) A (Builtin.Dict.dictSlotArgs "__eq__" ⟨[.ref a, .ref x], []⟩ >>= _) Q E s
  refine wpAny_bind ?_
  unfold Builtin.Dict.dictSlotArgs
  refine wpAny_bind (wpAny_notOrdered_dict hT ?_)
  refine wpAny_pure ?_
  refine wpAny_bind (m := isInstance (.ref x) (.type "dict")) ((isin_own X I hm).here ?_)
  exact wpAny_bind (wpAny_rule (wpAny_pure hq))
theorem rc_back {v : Value} {T id : String} {f : Addr} {Q : Value → Shared → Prop} (hu : A.units < cLine) (X : K.In s.heap) (I : PySem.W.InstAt s.heap x (PySem.W.instObj C dx) C od) (hT : s.TypeIs v T) (hm : PySem.W.mroIn K C (.type T) = some false) (hs : Slot T (cmpInfo .Eq).2.1 id)
    (hd : ∀ Q' : Value → Shared → Prop, Q' .notImplemented s → wpAny (model prog w) A (call (.builtin id) [v, .ref x]) Q' E s)
    (he : PySem.W.findIn K (.ref C) "__eq__" = some (some (.ref f))) (hf : PySem.W.isFn K (.ref f) = true)
    (h : wpAny (model prog w) A (call (.ref f) [.ref x, v]) (fun r s' => ∃ c, r = .bool c ∧ Q r s') E s) : wpAny (model prog w) A (richCompare .Eq v (.ref x)) Q E s := by
  have one : wpAny (model prog w) A (tryCompare v "__eq__" (.ref x)) (fun r s' => r = none ∧ s' = s) E s := wpAny_tryCompare_declines hT hs (hd _ ⟨rfl, rfl, rfl⟩)
  have two : wpAny (model prog w) A (tryCompare (.ref x) "__eq__" v) (fun r s' => ∃ v, r = some v ∧ Q v s') E s := by
    unfold tryCompare
    refine wpAny_bind (PySem.W.ifBound_K X I he hf (wpAny_mono h (fun r s' hv => ?_) fun _ _ e => e))
    obtain ⟨c, rfl, q⟩ := hv
    exact wpAny_pure ⟨_, rfl, q⟩
  simp only [richCompare, cmpInfo_Eq, hT.oneThing_none]
  refine wpAny_holding (wpAny_bind (wpAny_cRoomFor hu ?_))
  refine wpAny_bind (wpAny_typeOf hT (wpAny_bind (I.type.here ?_)))
  split
  · refine wpAny_bind ((PySem.W.looks_mroIn X hm).here ?_)
    simp only [Bool.false_eq_true, if_false, Bool.not_false, if_true]
    refine wpAny_bind (m := tryCompare v _ (.ref x)) (wpAny_mono one (fun r s1 z => ?_) fun _ _ e => e)
    obtain ⟨z1, z2⟩ := z
    subst z1
    subst z2
    refine wpAny_bind (m := tryCompare (.ref x) _ v) (wpAny_mono two (fun r s2 z => ?_) fun _ _ e => e)
    obtain ⟨r2, rfl, q⟩ := z
    exact wpAny_pure q
  · rename_i q
    exact absurd (by simp) q
end
/-- x != y, x of an own class whose == is a def of its own -/
theorem ne_T {A : Around} {E : Value → Shared → Prop} {s : Shared} {prog : Program} {w : World} {K : PySem.W.Frag} {x C f : Addr} {y tb : Value} {ox : Obj} {od : Option Obj} {Q : Value → Shared → Prop} (hu : A.units + 2 < cLine) (X : K.In s.heap) (I : PySem.W.InstAt s.heap x ox C od) (hb : PySem.W.Looks (model prog w) s.heap (typeOf y) tb) (hn : PySem.W.notFirst K C tb = true) (N : NeC K C) (he : PySem.W.findIn K (.ref C) "__eq__" = some (some (.ref f))) (hf : PySem.W.isFn K (.ref f) = true)
    (h : wpAny (model prog w) A.in1 (call (.ref f) [.ref x, y]) (fun v s' => ∃ c, v = .bool c ∧ Q (.bool (!c)) s') E s) : wpAny (model prog w) A (richCompare .NotEq (.ref x) y) Q E s := by
  have one : wpAny (model prog w) A (tryCompare (.ref x) "__ne__" y) (fun r s' => ∃ v, r = some v ∧ Q v s') E s := by
    unfold tryCompare
    refine wpAny_bind (ifBound_B X I N.ne PySem.F.slot_object_ne.bind (wpAny_mono (obj_neK (Q := fun v s' => ∃ c, v = .bool c ∧ Q v s') (by omega) X I N he hf (wpAny_mono h (fun v s' hv => ?_) fun _ _ z => z)) (fun v s' hv => ?_) fun _ _ z => z))
    · obtain ⟨c, rfl, q⟩ := hv
      exact ⟨c, rfl, _, rfl, q⟩
    · obtain ⟨c, rfl, q⟩ := hv
      exact wpAny_pure ⟨_, rfl, q⟩
  unfold richCompare
  simp only [oneThing_ref]
  refine wpAny_holding (wpAny_bind (wpAny_cRoomFor (by omega) ?_))
  refine wpAny_bind (I.type.here (wpAny_bind (hb.here ?_)))
  split
  · rename_i q
    have e : PySem.W.subIn K tb (.ref C) = some false := by
      rcases Bool.or_eq_true_iff.mp hn with e | e
      · rw [beq_iff_eq.mp e] at q; simp at q
      · exact beq_iff_eq.mp e
    refine wpAny_bind ((PySem.W.looks_subIn X e).here ?_)
    simp only [Bool.false_eq_true, if_false]
    refine wpAny_bind (wpAny_mono one (fun r s' z => ?_) fun _ _ e => e)
    obtain ⟨v, rfl, hq⟩ := z
    exact wpAny_pure hq
  · refine wpAny_bind (wpAny_pure ?_)
    simp only [Bool.false_eq_true, if_false]
    refine wpAny_bind (wpAny_mono one (fun r s' z => ?_) fun _ _ e => e)
    obtain ⟨v, rfl, hq⟩ := z
    exact wpAny_pure hq
section
variable {X : Cx} {n : Nat} {f : Addr} {fd : FuncData} {ps : List Str} {sp : Sp} {C : Addr}
theorem look_ty {pins : List (Addr × Obj)} {s : Shared} {σ : L2.St} {H : Hp} {y : V} {u t : Value} (I : L2.Inv X pins σ H s) (ry : RelV y u) (ty : TyX X.K H y t) : PySem.W.Looks (model X.prog X.w) s.heap (typeOf u) t := by
  obtain ⟨Pr, k, hP, _⟩ := kit_of I ry ty
  exact k.ty _ _ I.kIn hP
/-- x == y, x of an own class -/
def rEqT (K : PySem.W.Frag) (C : Addr) (sp : Sp) (g : Bool → Bool) : R2 := fun x y H Q => ∃ a dx fs t, x = V.ref a ∧ H a = some (.ins C dx fs) ∧ TyX K H y t ∧ PySem.W.notFirst K C t = true ∧ sp [.ref a, y] H (fun v H' => ∃ c, v = .bl c ∧ Q (.bl (g c)) H') E0
theorem rc_eqT {A : Around} {pins : List (Addr × Obj)} {s : Shared} {σ : L2.St} {H : Hp} {a dx : Addr} {fs : List (Str × V)} {y : V} {u t : Value} {Q : Bool → Hp → Prop} (F : FnOk X.prog X.w X.K X.mg X.base CX0 n f fd ps sp) (hb : Binds X.K fd ps []) (m : Meth X.K C "__eq__" f) (sb : Sub X n A) (I : L2.Inv X pins σ H s)
    (ha : H a = some (.ins C dx fs)) (ry : RelV y u) (ty : TyX X.K H y t) (hn : PySem.W.notFirst X.K C t = true) (hsp : sp [.ref a, y] H (fun v H' => ∃ c, v = .bl c ∧ Q c H') E0) :
    wpAny (model X.prog X.w) A (richCompare .Eq (.ref a) u) (fun v s' => ∃ c, v = .bool c ∧ ∃ H', L2.Inv X pins σ H' s' ∧ Q c H') X.xe s := by
  obtain ⟨mA, J, _⟩ := ins_get I.hok ha
  obtain ⟨od, J, _⟩ := J.look
  obtain ⟨m', hF⟩ := I.fr
  have r2 : Vals [V.ref a, y] [Value.ref a, u] := .cons rfl (.cons ry .nil)
  refine PySem.W.cmp_K (op := .Eq) (tb := t) sb.room.units0 hF I.ok.mod.kin J (look_ty I ry ty) hn m.at_ m.fn (wpAny_mono (run_own F hb sb I r2 hsp) (fun v s' hq => ?_) fun _ _ z => z)
  obtain ⟨z, H', I', rz, c, rfl, q⟩ := hq
  cases rz
  exact ⟨c, rfl, H', I', q⟩
theorem op_eqT (F : FnOk X.prog X.w X.K X.mg X.base CX0 n f fd ps sp) (hb : Binds X.K fd ps []) (m : Meth X.K C "__eq__" f) (hr : Room n X.A) : OpR X (compareOp .Eq) (rEqT X.K C sp id) := by
  intro pins s σ H x y v u Q I rx ry h
  obtain ⟨a, dx, fs, t, rfl, ha, ty, hn, hsp⟩ := h
  cases rx
  show wpAny (model X.prog X.w) X.A (richCompare .Eq (.ref a) u) (EP X pins σ Q) X.xe s
  refine wpAny_mono (rc_eqT F hb m ⟨hr, rfl⟩ I ha ry ty hn hsp) (fun v s' hq => ?_) fun _ _ z => z
  obtain ⟨c, rfl, H', I', q⟩ := hq
  exact ⟨.bl c, H', I', rfl, q⟩
theorem op_neT (F : FnOk X.prog X.w X.K X.mg X.base CX0 n f fd ps sp) (hb : Binds X.K fd ps []) (m : Meth X.K C "__eq__" f) (N : NeC X.K C) (hr : Room (n + 1) X.A) : OpR X (compareOp .NotEq) (rEqT X.K C sp not) := by
  intro pins s σ H x y v u Q I rx ry h
  obtain ⟨a, dx, fs, t, rfl, ha, ty, hn, hsp⟩ := h
  cases rx
  obtain ⟨mA, J, _⟩ := ins_get I.hok ha
  obtain ⟨od, J, _⟩ := J.look
  have r2 : Vals [V.ref a, y] [Value.ref a, u] := .cons rfl (.cons ry .nil)
  show wpAny (model X.prog X.w) X.A (richCompare .NotEq (.ref a) u) (EP X pins σ Q) X.xe s
  refine ne_T (room_u2 hr) I.kIn J (look_ty I ry ty) hn N m.at_ m.fn (wpAny_mono (run_own F hb (Sub.in1 ⟨hr, rfl⟩) I r2 hsp) (fun v s' hq => ?_) fun _ _ z => z)
  obtain ⟨z, H', I', rz, c, rfl, q⟩ := hq
  cases rz
  exact ⟨c, rfl, .bl (!c), H', I', rfl, q⟩
/-- things that are of no own class -/
inductive OthV (H : Hp) : V → String → Prop where
  | non : OthV H .non "NoneType"
  | bl (b : Bool) : OthV H (.bl b) "bool"
  | int (i : Int) : OthV H (.int i) "int"
  | str (z : Str) : OthV H (.str z) "str"
  | lst {a : Addr} {xs : List V} (e : H a = some (.lst xs)) : OthV H (.ref a) "list"
  | tup {a : Addr} {xs : List V} (e : H a = some (.tup xs)) : OthV H (.ref a) "tuple"
  | dK {a : Addr} {kvs : List (Key × V)} (e : H a = some (.dK kvs)) : OthV H (.ref a) "dict"
theorem OthV.ty {K : PySem.W.Frag} {H : Hp} {y : V} {T : String} (h : OthV H y T) : TyX K H y (.type T) := by
  cases h with
  | non => exact .base .non
  | bl b => exact .base (.bl b)
  | int i => exact .base (.int i)
  | str z => exact .base (.str z)
  | lst e => exact .base (.lst e)
  | tup e => exact .base (.tup e)
  | dK e => exact .base (.dK e)
theorem mro7 : fastBuiltinMro "NoneType" = some [.type "NoneType", .type "object"] ∧ fastBuiltinMro "bool" = some [.type "bool", .type "int", .type "object"] ∧ fastBuiltinMro "int" = some [.type "int", .type "object"] ∧ fastBuiltinMro "str" = some [.type "str", .type "object"] ∧ fastBuiltinMro "list" = some [.type "list", .type "object"] ∧ fastBuiltinMro "tuple" = some [.type "tuple", .type "object"] ∧ fastBuiltinMro "dict" = some [.type "dict", .type "object"] := by
  refine ⟨?_, ?_, ?_, ?_, ?_, ?_, ?_⟩ <;> decide +kernel
theorem OthV.notFirst {K : PySem.W.Frag} {C : Addr} {H : Hp} {y : V} {T : String} (h : OthV H y T) : PySem.W.notFirst K C (.type T) = true := by
  have m := mro7
  have go : ∀ (T : String) (l : List Value), fastBuiltinMro T = some l → (l.contains (.ref C)) = false → PySem.W.notFirst K C (.type T) = true := fun T l e1 e2 => by
    show (Value.type T == .ref C || ((fastBuiltinMro T).map (·.contains (.ref C))) == some false) = true
    rw [e1]
    show (Value.type T == .ref C || some (l.contains (.ref C)) == some false) = true
    rw [e2]
    simp
  cases h with
  | non => exact go _ _ m.1 (by simp)
  | bl b => exact go _ _ m.2.1 (by simp)
  | int i => exact go _ _ m.2.2.1 (by simp)
  | str z => exact go _ _ m.2.2.2.1 (by simp)
  | lst e => exact go _ _ m.2.2.2.2.1 (by simp)
  | tup e => exact go _ _ m.2.2.2.2.2.1 (by simp)
  | dK e => exact go _ _ m.2.2.2.2.2.2 (by simp)
end
end Wl

/-! y == x, x of an own class, y of no own class; x in ys -/
namespace Wl
open PySem PySem.Spec PyProof.Rows L2
/-- the built-in kinds a class is no kind of -/
structure NoKind (K : PySem.W.Frag) (C : Addr) : Prop where
  non : PySem.W.mroIn K C (.type "NoneType") = some false
  bl : PySem.W.mroIn K C (.type "bool") = some false
  int : PySem.W.mroIn K C (.type "int") = some false
  str : PySem.W.mroIn K C (.type "str") = some false
  lst : PySem.W.mroIn K C (.type "list") = some false
  tup : PySem.W.mroIn K C (.type "tuple") = some false
  dK : PySem.W.mroIn K C (.type "dict") = some false
section
variable {X : Cx} {n : Nat} {f : Addr} {fd : FuncData} {ps : List Str} {sp : Sp} {C : Addr}
theorem rc_eqR {A : Around} {pins : List (Addr × Obj)} {s : Shared} {σ : L2.St} {H : Hp} {a dx : Addr} {fs : List (Str × V)} {y : V} {u : Value} {T : String} {Q : Bool → Hp → Prop} (F : FnOk X.prog X.w X.K X.mg X.base CX0 n f fd ps sp) (hb : Binds X.K fd ps []) (m : Meth X.K C "__eq__" f) (N : NoKind X.K C) (sb : Sub X n A) (I : L2.Inv X pins σ H s)
    (ha : H a = some (.ins C dx fs)) (ry : RelV y u) (o : OthV H y T) (hsp : sp [.ref a, y] H (fun v H' => ∃ c, v = .bl c ∧ Q c H') E0) :
    wpAny (model X.prog X.w) A (richCompare .Eq u (.ref a)) (fun v s' => ∃ c, v = .bool c ∧ ∃ H', L2.Inv X pins σ H' s' ∧ Q c H') X.xe s := by
  obtain ⟨mA, J, _⟩ := ins_get I.hok ha
  have hob := J.obj
  obtain ⟨od, J, _⟩ := J.look
  have r2 : Vals [V.ref a, y] [Value.ref a, u] := .cons rfl (.cons ry .nil)
  have hu := sb.room.units0
  have run : wpAny (model X.prog X.w) A (call (.ref f) [.ref a, u]) (fun r s' => ∃ c, r = .bool c ∧ ∃ c', r = .bool c' ∧ ∃ H', L2.Inv X pins σ H' s' ∧ Q c' H') X.xe s := wpAny_mono (run_own F hb sb I r2 hsp) (fun v s' hq => by
    obtain ⟨z, H', I', rz, c, rfl, q⟩ := hq
    cases rz
    exact ⟨c, rfl, c, rfl, H', I', q⟩) fun _ _ z => z
  cases o with
  | non =>
    obtain rfl : u = Value.none := ry
    exact rc_back hu I.kIn J (T := "NoneType") rfl N.non PySem.F.slot_NoneType_eq (fun Q' q => wpAny_call_entry PySem.F.slot_NoneType_eq rfl PySem.F.entry_NoneType_eq (dec_none ⟨_, rfl, q⟩) (PySem.F.args_NoneType_eq_2 _ _)) m.at_ m.fn run
  | bl b =>
    obtain rfl : u = Value.bool b := ry
    exact rc_back hu I.kIn J (T := "bool") rfl N.bl PySem.F.slot_bool_eq (fun Q' q => wpAny_call_entry PySem.F.slot_bool_eq rfl PySem.F.entry_int_eq (dec_int (.inr ⟨b, rfl⟩) hob ⟨_, rfl, q⟩) (PySem.F.args_int_eq_2 _ _)) m.at_ m.fn run
  | int i =>
    obtain ⟨t, rfl⟩ := ry
    exact rc_back hu I.kIn J (T := "int") rfl N.int PySem.F.slot_int_eq (fun Q' q => wpAny_call_entry PySem.F.slot_int_eq rfl PySem.F.entry_int_eq (dec_int (.inl ⟨i, t, rfl⟩) hob ⟨_, rfl, q⟩) (PySem.F.args_int_eq_2 _ _)) m.at_ m.fn run
  | str z =>
    obtain ⟨t, rfl⟩ := ry
    exact rc_back hu I.kIn J (T := "str") rfl N.str PySem.F.slot_str_eq (fun Q' q => wpAny_call_entry PySem.F.slot_str_eq rfl PySem.F.entry_str_eq (dec_str hob ⟨_, rfl, q⟩) (PySem.F.args_str_eq_2 _ _)) m.at_ m.fn run
  | lst e =>
    rename_i l xs
    obtain rfl : u = Value.ref l := ry
    obtain ⟨its, r, ⟨ob, k, e1, e2, _⟩, _⟩ := I.list (.inl (.inl e))
    have hT : s.TypeIs (.ref l) "list" := ⟨ob, e1, e2⟩
    exact rc_back hu I.kIn J (T := "list") hT N.lst PySem.F.slot_list_eq (fun Q' q => wpAny_call_entry PySem.F.slot_list_eq hT PySem.F.entry_list_eq (dec_list I.kIn J N.lst ⟨_, rfl, q⟩) (PySem.F.args_list_eq_2 _ _)) m.at_ m.fn run
  | tup e =>
    rename_i l xs
    obtain rfl : u = Value.ref l := ry
    obtain ⟨its, r, ⟨ob, e1, e2, _⟩, _⟩ := I.tuple (.inl (.inl e))
    have hT : s.TypeIs (.ref l) "tuple" := ⟨ob, e1, e2⟩
    exact rc_back hu I.kIn J (T := "tuple") hT N.tup PySem.F.slot_tuple_eq (fun Q' q => wpAny_call_entry PySem.F.slot_tuple_eq hT PySem.F.entry_tuple_eq (dec_tup I.kIn J N.tup ⟨_, rfl, q⟩) (PySem.F.args_tuple_eq_2 _ _)) m.at_ m.fn run
  | dK e =>
    rename_i l kvs
    obtain rfl : u = Value.ref l := ry
    obtain ⟨_, _, vs, _, d⟩ := I.hok l _ e
    have hT : s.TypeIs (.ref l) "dict" := d.typeIs
    exact rc_back hu I.kIn J (T := "dict") hT N.dK PySem.F.slot_dict_eq (fun Q' q => wpAny_call_entry PySem.F.slot_dict_eq hT PySem.F.entry_dict_eq (dec_dict hT I.kIn J N.dK ⟨_, rfl, q⟩) (PySem.F.args_dict_eq_2 _ _)) m.at_ m.fn run
/-- y == x, y of no own class, x of an own one -/
def rEqR (C : Addr) (sp : Sp) : R2 := fun y x H Q => ∃ a dx fs T, x = V.ref a ∧ H a = some (.ins C dx fs) ∧ OthV H y T ∧ sp [.ref a, y] H (fun v H' => ∃ c, v = .bl c ∧ Q (.bl c) H') E0
theorem op_eqR (F : FnOk X.prog X.w X.K X.mg X.base CX0 n f fd ps sp) (hb : Binds X.K fd ps []) (m : Meth X.K C "__eq__" f) (N : NoKind X.K C) (hr : Room n X.A) : OpR X (compareOp .Eq) (rEqR C sp) := by
  intro pins s σ H y x u v Q I ry rx h
  obtain ⟨a, dx, fs, T, rfl, ha, o, hsp⟩ := h
  cases rx
  show wpAny (model X.prog X.w) X.A (richCompare .Eq u (.ref a)) (EP X pins σ Q) X.xe s
  refine wpAny_mono (rc_eqR F hb m N ⟨hr, rfl⟩ I ha ry o hsp) (fun v s' hq => ?_) fun _ _ z => z
  obtain ⟨c, rfl, H', I', q⟩ := hq
  exact ⟨.bl c, H', I', rfl, q⟩
/-- one rule or another -/
theorem op_or {op : Value → Value → Sem Value} {r1 r2 : R2} (h1 : OpR X op r1) (h2 : OpR X op r2) : OpR X op (fun x y H Q => r1 x y H Q ∨ r2 x y H Q) := by
  intro pins s σ H x y v u Q I rx ry h
  rcases h with h | h
  · exact h1 pins s σ H x y v u Q I rx ry h
  · exact h2 pins s σ H x y v u Q I rx ry h
end
end Wl

/-! t * 1, t a tuple: the same tuple -/
namespace Wl
open PySem PySem.Spec PyProof.Rows L2
open AutoSeq1 (wpAny_loadPart') in
theorem tuple_mul1 (l : Addr) (items : Array Value) (n : Nat) (dd : Option Addr) (sl : Array (Option Value)) (u : Tok) :
    Meets (Builtin.«tuple.__mul__» ⟨[.ref l, .int 1 u], []⟩) (fun _ R s => s.heap.get? l = some { cls := .type "tuple", dict := dd, data := .seq items n, slots := sl } ∧ R (.ok (.ret (Value.ref l))) s) :=
  .of_wp fun prog w A R s h => by
    obtain ⟨hp, g, d, tk, os⟩ := s
    obtain ⟨hl, h⟩ := h
    have f1 := AutoSeq1.idx_int
    wp_walk using wpAny_loadPart' hl
    exact ⟨_, rfl, h⟩
section
variable {X : Cx}
def rRep1 (K : PySem.W.Frag) : R2 := fun x y H Q => ∃ l xs, x = .ref l ∧ y = .int 1 ∧ SqT K H l xs ∧ Q (.ref l) H
theorem op_rep1 : OpR X (binaryOp .Mult) (rRep1 X.K) := by
  intro pins s σ H x y v u Q I rx ry h
  obtain ⟨l, xs, rfl, rfl, hT, q⟩ := h
  cases rx
  obtain ⟨t, rfl⟩ := ry
  obtain ⟨its, r, ⟨⟨cls, dd, data, sl⟩, ho, hc, n, hd⟩, hs⟩ := I.tuple hT
  simp only at hc hd
  subst hc hd
  exact wpAny_binaryOp_repeat_ref (T := "tuple") (U := "int") (by decide) ⟨_, ho, rfl⟩ (fun s' => typeIs_int s' 1 t) noFill_tuple_mul F.fills_int_mul F.slot_int_rmul repeat_tuple F.slot_int_index.lookup
    (call_meets F.slot_int_rmul (typeIs_int s 1 t) F.entry_int_rmul (F.args_int_rmul_2 _ _) (int_rmul_tuple 1 t l its.toArray n dd sl) ⟨ho, rfl, ⟨_, ho, rfl⟩, call_meets F.slot_tuple_mul ⟨_, ho, rfl⟩ F.entry_tuple_mul (F.args_tuple_mul_2 _ _) (tuple_mul1 l its.toArray n dd sl t) ⟨ho, .ref l, H, I, rfl, q⟩⟩)
/-- (None,) * n -/
theorem op_repN : OpR X (binaryOp .Mult) (fun x y H Q => rRepT X.K x y H Q ∨ rRep1 X.K x y H Q) := op_or op_repT op_rep1
theorem rep_reads {K : PySem.W.Frag} {H : Hp} {Q : VK} {l : Addr} {v : V} {n : Nat} (h : H l = some (.tup [v])) (h1 : 1 ≤ n) (h2 : n ≤ 100) (q : ∀ p H', Same H H' → H' p = some (.tup (List.replicate n v)) → Q (.ref p) H') : rRepT K (.ref l) (.int (n : Nat)) H Q ∨ rRep1 K (.ref l) (.int (n : Nat)) H Q := by
  by_cases e : n = 1
  · subst e
    exact .inr ⟨l, [v], rfl, rfl, .inl (.inl h), q l H (Same.refl H) h⟩
  · refine .inl ⟨l, n, [v], rfl, rfl, .inl (.inl h), by simp, by omega, by omega, by simp, fun p hp => q p _ (same_new hp) ?_⟩
    rw [upd_same, Int.toNat_natCast]
    congr 2
    clear h q h1 h2 e hp
    induction n with
    | zero => rfl
    | succ n ih => rw [List.replicate_succ, List.replicate_succ, List.flatten_cons, ih]; rfl
end
end Wl

/-! what is no tuple of tuples of a Land's size. -/
namespace Wl
open PySem PySem.Spec PyProof.Rows L2
def FD (H : Hp) (v : V) : Prop := LandDue H v (some none)
theorem fd_grows : Grows FD := fun _ _ _ h s => h.same s
theorem TupO.det {H : Hp} {x : V} {o o' : Option (List V)} (h : TupO H x o) (k : TupO H x o') : o = o' := by
  rcases h with ⟨p, ys, e, h, e2⟩ | ⟨e, ho, n⟩
  · subst e e2
    rcases k with ⟨q, zs, e, k, e2⟩ | ⟨e, _, n⟩
    · cases e
      rw [e2, tup_det h k]
    · exact absurd h (n _ _ rfl)
  · subst e
    rcases k with ⟨q, zs, e, k, e2⟩ | ⟨e, _, _⟩
    · exact absurd k (n _ _ e)
    · exact e.symm
theorem fd_n {H : Hp} {v : V} (h : TupO H v none) : FD H v := .inl ⟨rfl, h⟩
theorem tn_c {H : Hp} {v : V} (h : OddV H v) (n : ∀ p, v ≠ .ref p) : TupO H v none := .inr ⟨rfl, h, fun p _ e => absurd e (n p)⟩
theorem tn_l {H : Hp} {p : Addr} {xs : List V} (h : H p = some (.lst xs)) : TupO H (.ref p) none := .inr ⟨rfl, od_l h, fun q ys e k => by cases e; rw [h] at k; cases k⟩
theorem tn_d {H : Hp} {p : Addr} (h : H p = some (.dK [])) : TupO H (.ref p) none := .inr ⟨rfl, od_d h, fun q ys e k => by cases e; rw [h] at k; cases k⟩
theorem tu_t {H : Hp} {p : Addr} {xs : List V} (h : H p = some (.tup xs)) : TupO H (.ref p) (some xs) := .inl ⟨p, xs, rfl, h, rfl⟩
theorem each_tup {H : Hp} : ∀ {xs : List V}, (∀ x ∈ xs, OddV H x) → ∃ os, Each (TupO H) xs os
  | [], _ => ⟨[], .nil⟩
  | x :: xs, h => by
    obtain ⟨os, ho⟩ := each_tup (xs := xs) fun y hy => h y (List.mem_cons_of_mem _ hy)
    obtain ⟨o, h1⟩ := (h x List.mem_cons_self).tupO
    exact ⟨o :: os, .cons h1 ho⟩
theorem fd_of {H : Hp} {L : Addr} {xs : List V} (hL : H L = some (.tup xs)) (hall : ∀ x ∈ xs, OddV H x) (hb : ∀ os, Each (TupO H) xs os → areB os = false) : FD H (.ref L) := by
  obtain ⟨os, ho⟩ := each_tup hall
  exact .inr (.inl ⟨rfl, L, xs, os, rfl, hL, ho, hb os ho⟩)
/-- of a wrong number of rows -/
theorem fd_len {H : Hp} {L : Addr} {xs : List V} (hL : H L = some (.tup xs)) (hall : ∀ x ∈ xs, OddV H x) (h : xs.length = 0 ∨ 6 < xs.length) : FD H (.ref L) := fd_of hL hall fun os ho => by
  have := ho.length
  unfold areB
  rcases h with h | h
  · rw [decide_eq_false (show ¬ 1 ≤ os.length by omega)]
    rfl
  · rw [decide_eq_false (show ¬ os.length ≤ 6 by omega), Bool.and_false]
    rfl
/-- one of them is no tuple, or one of a wrong length -/
theorem fd_row {H : Hp} {L : Addr} {xs : List V} (hL : H L = some (.tup xs)) (hall : ∀ x ∈ xs, OddV H x) {x : V} (hx : x ∈ xs) {o : Option (List V)} (ho : TupO H x o) (h : ∀ n, rowOk n o = false) : FD H (.ref L) := fd_of hL hall fun os he => by
  obtain ⟨k, hk⟩ := List.mem_iff_getElem?.mp hx
  obtain ⟨o', hk', ho'⟩ := he.get hk
  cases ho.det ho'
  exact areB_row hk' (h _)
theorem fd_b {H : Hp} {L : Addr} {xs : List V} (hL : H L = some (.tup xs)) (hall : ∀ x ∈ xs, OddV H x) {x : V} (hx : x ∈ xs) (ho : TupO H x none) : FD H (.ref L) := fd_row hL hall hx ho fun _ => rfl
theorem fd_c {H : Hp} {L q : Addr} {xs ys : List V} (hL : H L = some (.tup xs)) (hall : ∀ x ∈ xs, OddV H x) (hx : V.ref q ∈ xs) (hq : H q = some (.tup ys)) (h : ys.length = 0 ∨ 6 < ys.length) : FD H (.ref L) := fd_row hL hall hx (tu_t hq) fun n => by
  show (decide (1 ≤ ys.length) && decide (ys.length ≤ 6) && decide (ys.length = n)) = false
  rcases h with h | h
  · rw [decide_eq_false (show ¬ 1 ≤ ys.length by omega)]
    rfl
  · rw [decide_eq_false (show ¬ ys.length ≤ 6 by omega), Bool.and_false]
    rfl
/-- one is not as long as the first -/
theorem fd_d {H : Hp} {L q : Addr} {x : V} {xs ys : List V} {o : Option (List V)} (hL : H L = some (.tup (.ref q :: xs))) (hall : ∀ x ∈ V.ref q :: xs, OddV H x) (hq : H q = some (.tup ys)) (hx : x ∈ xs) (ho : TupO H x o) (h : rowOk ys.length o = false) : FD H (.ref L) := fd_of hL hall fun os he => by
  cases he with
  | cons e t =>
    cases (tu_t hq).det e
    obtain ⟨k, hk⟩ := List.mem_iff_getElem?.mp hx
    obtain ⟨o', hk', ho'⟩ := t.get hk
    cases ho.det ho'
    exact areB_row (i := k + 1) (by rw [List.getElem?_cons_succ]; exact hk') h
end Wl

/-! rows of lakes alone. -/
namespace Wl
open PySem PySem.Spec PyProof.Rows L2
abbrev sLakes : Stmt := topS 54
abbrev nLakes : List Str := ["_law_purse_here", "_law_high", "_law_wide"]
theorem scLakes : FnScope nLakes ["_law_purse_here"] (defScope sLakes) := ⟨rfl, rfl, rfl, by decide +kernel, rfl, by decide +kernel, by decide +kernel⟩
theorem flat_rep {n : Nat} {v : V} : (List.replicate n [v]).flatten = List.replicate n v := by
  induction n with
  | zero => rfl
  | succ n ih => rw [List.replicate_succ, List.replicate_succ, List.flatten_cons, ih]; rfl
theorem each_rep {α β : Type} {R : α → β → Prop} {a : α} {b : β} (h : R a b) : ∀ n, Each R (List.replicate n a) (List.replicate n b)
  | 0 => .nil
  | n + 1 => .cons h (each_rep h n)
theorem lakes_fd {H : Hp} {p u : Addr} {hi wd : Nat} (h1 : 1 ≤ hi) (h6 : hi ≤ 6) (w1 : 1 ≤ wd) (w6 : wd ≤ 6) (hu : H u = some (.tup (List.replicate wd .non))) (hp : H p = some (.tup (List.replicate hi (.ref u)))) : FD H (.ref p) := by
  have hc : ∀ r ∈ List.replicate hi (List.replicate wd V.non), ∀ x ∈ r, x = V.non := fun r hr x hx => by
    rw [(List.mem_replicate.mp hr).2] at hx
    exact (List.mem_replicate.mp hx).2
  refine .inr (.inr ⟨p, List.replicate hi (List.replicate wd .non), wd, none, rfl, ⟨List.replicate hi u, by rw [List.map_replicate]; exact hp, each_rep (R := fun (p : Addr) (row : List V) => H p = some (.tup row)) hu hi⟩, ⟨by rw [List.length_replicate]; exact h1, by rw [List.length_replicate]; exact h6, w1, w6, fun r hr => by rw [(List.mem_replicate.mp hr).2, List.length_replicate]⟩, fun r hr x hx => by rw [hc r hr x hx]; exact od_n, ?_, ?_⟩)
  · rintro i j ⟨row, v, e1, e2, e3⟩
    rw [hc row (List.mem_of_getElem? e1) v (List.mem_of_getElem? e2)] at e3
    cases e3
  · have : strG (List.replicate hi (List.replicate wd V.non)) = [] := by
      unfold strG
      rw [List.flatten_eq_nil_iff]
      intro l hl
      obtain ⟨r, hr, rfl⟩ := List.mem_map.mp hl
      unfold strR
      rw [List.filterMap_eq_nil_iff]
      intro x hx
      rw [hc r hr x hx]
      rfl
    show some none = if strG _ = [] then some none else none
    rw [if_pos this]
section
variable {P : Program} {w : World} {K : PySem.W.Frag} {mg : Str → Option Value} {base : Heap} {f : Addr} {fd : FuncData}
def spLakes : Sp := fun vs H Q _ => ∃ (a : Addr), vs = [.ref a] ∧ PurseAt H a ∧ ∀ (p : Addr) (H' : Hp), PurseAt H' a → SameX a H H' → FD H' (.ref p) → Q (.ref p) H'
theorem ok_lakes (F : Fun K "_law_lakes" "_law_lakes" sLakes f fd) (hP : Has P w K mg base "_law_pick" 1 ["_law_purse_here", "_law_many"] spPick) : FnOk P w K mg base CX0 2 f fd ["_law_purse_here"] spLakes := by
  refine F.ok scLakes (fun vs H Q E h => ?_) (fun cdv A outer s H vs Q E hr h => ?_)
  · obtain ⟨a, rfl, _⟩ := h
    rfl
  · obtain ⟨a, rfl, hA, q⟩ := h
    refine ⟨_, pss_cons (ps_par (i := 1) (j := 2) (by rfl) scLakes.nd rfl rfl (by decide) rfl rfl (pa_cons (pe_op op_add pe_int (pe_h hP hr (pa_cons (pv 0) (pa_cons pe_int pa_nil)))) (pa_cons (pe_op op_add pe_int (pe_h hP hr (pa_cons (pv 0) (pa_cons pe_int pa_nil)))) pa_nil)) (by rfl))
      (pss_one (ps_ret (pe_op op_mulTu (pe_tup (pa_cons (pe_op op_mulTu (pe_tup (pa_cons pe_non pa_nil)) (pv 2)) pa_nil)) (pv 1)))), ?_⟩
    refine ⟨_, rfl, a, 6, rfl, hA, by decide, by decide, fun r1 H1 r10 r11 hA1 x1 _ => ⟨_, _, rfl, rfl, ?_⟩⟩
    refine ⟨_, rfl, a, 6, rfl, hA1, by decide, by decide, fun r2 H2 r20 r21 hA2 x2 _ => ⟨_, _, rfl, rfl, _, _, rfl, ?_⟩⟩
    refine ⟨lz, fun u0 hu0 => ⟨_, rfl, u0, _, [.non], rfl, rfl, upd_same, by simp, by omega, by omega, Nat.le_of_ble_eq_true rfl, fun u1 H3 s3 e3 => ⟨lz, fun u2 hu2 => ⟨_, rfl, u2, _, [.ref u1], rfl, rfl, upd_same, by simp, by omega, by omega, Nat.le_of_ble_eq_true rfl, fun u3 H4 s4 e4 => ?_⟩⟩⟩⟩
    have k2 := same_new (o := .tup [V.ref u1]) hu2
    have s24 := (same_new (o := .tup [V.non]) hu0).trans (s3.trans (k2.trans s4))
    rw [flat_rep] at e3 e4
    exact q u3 H4 (hA2.same s24) (x1.trans (x2.trans (sx s24))) (lakes_fd (hi := (1 + r1).toNat) (wd := (1 + r2).toNat) (by omega) (by omega) (by omega) (by omega) (s4 _ _ (k2 _ _ e3)) e4)
end
end Wl

/-! what is no tuple of tuples of a Land's size. -/
namespace Wl
open PySem PySem.Spec PyProof.Rows L2
abbrev tLine (K : PySem.W.Frag) : TE := tCB (fun xs H Q => ∃ p ys, xs = [V.ref p] ∧ (SqL K H p ys ∨ SqT K H p ys) ∧ ∀ l, H l = none → Q (V.ref l) (upd H l (.lst ys))) (tCons (tVar 6) tNil)
abbrev tWide (K : PySem.W.Frag) : TE := tOp (rCatA K) (tVar 6) (tOp (rMulTu K) (tTup (tCons (tC .non) tNil)) (tC (.int 6)))
theorem btL : bootBuiltins "list" = some (.type "list") := by decide +kernel
abbrev sForms : Stmt := topS 53
abbrev nForms : List Str := ["_law_purse_here", "_law_laid", "_law_row", "_law_part", "_law_wide", "_law_some", "_law_line"]
abbrev psForms : List Str := ["_law_purse_here", "_law_laid"]
theorem scForms : FnScope nForms psForms (defScope sForms) := ⟨rfl, rfl, rfl, by decide +kernel, rfl, by decide +kernel, by decide +kernel⟩
theorem isS_od {H : Hp} {x : V} (h : x = .non ∨ ∃ z, x = .str z ∧ z.length ≤ 1000) : OddV H x := by
  rcases h with rfl | ⟨z, rfl, h⟩
  · exact od_n
  · exact od_s h
theorem isS_tn {H : Hp} {x : V} (h : x = .non ∨ ∃ z, x = .str z ∧ z.length ≤ 1000) : TupO H x none := tn_c (isS_od h) fun p e => by
  subst e
  rcases h with h | ⟨z, h, _⟩ <;> cases h
/-- a grid's rows -/
structure Rws (H : Hp) (L : Addr) (wd : Nat) (p0 : Addr) (row0 : List V) (as : List V) : Prop where
  at_ : H L = some (.tup (.ref p0 :: as))
  first : H p0 = some (.tup row0)
  len0 : row0.length = wd
  all : ∀ x ∈ V.ref p0 :: as, ∃ p ys, x = .ref p ∧ H p = some (.tup ys) ∧ ys.length = wd
  few : as.length + 1 ≤ 6
  odd0 : ∀ x ∈ row0, x = .non ∨ ∃ z, x = .str z ∧ z.length ≤ 1000
theorem Rws.odd {H : Hp} {L p0 : Addr} {wd : Nat} {row0 as : List V} (h : Rws H L wd p0 row0 as) : ∀ x ∈ V.ref p0 :: as, OddV H x := fun x hx => by
  obtain ⟨p, ys, rfl, e, _⟩ := h.all x hx
  exact od_t e
theorem Rws.tk {H H' : Hp} {L p0 : Addr} {wd : Nat} {row0 as : List V} (h : Rws H L wd p0 row0 as) (k : TupKeep H H') : Rws H' L wd p0 row0 as :=
  ⟨k _ _ h.at_, k _ _ h.first, h.len0, fun x hx => by
    obtain ⟨p, ys, e1, e2, e3⟩ := h.all x hx
    exact ⟨p, ys, e1, k _ _ e2, e3⟩, h.few, h.odd0⟩
theorem rws_of {H : Hp} {L : Addr} {g : Grid} {wd : Nat} (h : GridAt H L g) (gd : Good g wd) : ∃ p0 row0 as, Rws H L wd p0 row0 as := by
  obtain ⟨as, hL, hR⟩ := h
  have hl := hR.length
  have g1 := gd.h1
  have g6 := gd.h6
  have hall : ∀ x ∈ as.map V.ref, ∃ p ys, x = .ref p ∧ H p = some (.tup ys) ∧ ys.length = wd := fun x hx => by
    obtain ⟨p, hp, rfl⟩ := List.mem_map.mp hx
    obtain ⟨i, hi⟩ := List.mem_iff_getElem?.mp hp
    obtain ⟨row, hrow, e⟩ := hR.get hi
    exact ⟨p, _, rfl, e, by rw [List.length_map]; exact gd.rows row (List.mem_of_getElem? hrow)⟩
  cases as with
  | nil => simp at hl; omega
  | cons p0 as =>
    cases hR with
    | cons e t =>
      rename_i row g'
      refine ⟨p0, _, as.map V.ref, hL, e, by rw [List.length_map]; exact gd.rows row List.mem_cons_self, hall, by rw [List.length_map]; rw [List.length_cons] at hl; omega, fun x hx => ?_⟩
      obtain ⟨y, hy, rfl⟩ := List.mem_map.mp hx
      cases y with
      | none => exact .inl rfl
      | some z =>
        have hz : z ∈ names (row :: g') := by
          unfold names
          rw [List.mem_filterMap]
          exact ⟨some z, List.mem_flatten.mpr ⟨row, List.mem_cons_self, hy⟩, rfl⟩
        exact .inr ⟨z, rfl, by have := (gd.wd z hz).len; omega⟩
theorem rowOk_len {n : Nat} {ys : List V} (h : ys.length ≠ n) : rowOk n (some ys) = false := by
  show (decide (1 ≤ ys.length) && decide (ys.length ≤ 6) && decide (ys.length = n)) = false
  rw [decide_eq_false h, Bool.and_false]
theorem rep_mem {n : Nat} {v x : V} (h : x ∈ (List.replicate n [v]).flatten) : x = v := by
  rw [List.mem_flatten] at h
  obtain ⟨l, hl, hx⟩ := h
  rw [(List.mem_replicate.mp hl).2] at hx
  exact List.mem_singleton.mp hx
theorem cut_last (xs : List V) (h : 1 ≤ xs.length) : (cutV xs none (some (-1))).length = xs.length - 1 := by
  unfold cutV
  have e : HT.sIx xs.length xs.length (some (-1)) = xs.length - 1 := by
    unfold HT.sIx
    simp only
    rw [if_pos (by decide)]
    omega
  rw [HT.sIx_none, e, List.drop_zero, List.length_take]
  omega
section
variable {σ : L2.St} {I : Hp → Prop} {K : PySem.W.Frag}
theorem bf_s {z : Str} (h : Nat.ble z.length 1000 = true := by decide +kernel) : Bld σ I FD (tC (.str z)) := bld_c fun _ _ => fd_n (tn_c (od_s (Nat.le_of_ble_eq_true h)) fun p e => by cases e)
theorem bf_n : Bld σ I FD (tC .non) := bld_c fun _ _ => fd_n (tn_c od_n fun p e => by cases e)
theorem bf_b {b : Bool} : Bld σ I FD (tC (.bl b)) := bld_c fun _ _ => fd_n (tn_c od_b fun p e => by cases e)
theorem bf_i {i : Int} : Bld σ I FD (tC (.int i)) := bld_c fun _ _ => fd_n (tn_c od_i fun p e => by cases e)
theorem bf_t0 : Bld σ I FD (tTup tNil) := fun H Q i q => ⟨lz, fun p hp => q _ _ (same_new hp) (fd_len upd_same (fun x hx => by cases hx) (.inl rfl))⟩
theorem bf_l0 : Bld σ I FD (tLst tNil) := fun H Q i q => ⟨lz, fun p hp => q _ _ (same_new hp) (fd_n (tn_l upd_same))⟩
theorem bf_d : Bld σ I FD tDNewK := fun H Q i q d hd => q _ _ (same_new hd) (fd_n (tn_d upd_same))
theorem bf_tt : Bld σ I FD (tTup (tCons (tTup tNil) tNil)) := fun H Q i q => ⟨lz, fun e he => ⟨lz, fun p hp => q _ _ ((same_new he).trans (same_new hp)) (fd_c (q := e) upd_same (fun x hx => by
  rw [List.mem_singleton.mp hx]
  exact od_t ((same_new hp) _ _ upd_same)) List.mem_cons_self ((same_new hp) _ _ upd_same) (.inl rfl))⟩⟩
theorem bf_tl : Bld σ I FD (tTup (tCons (tLst tNil) tNil)) := fun H Q i q => ⟨lz, fun e he => ⟨lz, fun p hp => q _ _ ((same_new he).trans (same_new hp)) (fd_b upd_same (fun x hx => by
  rw [List.mem_singleton.mp hx]
  exact od_l ((same_new hp) _ _ upd_same)) List.mem_cons_self (tn_l ((same_new hp) _ _ upd_same)))⟩⟩
theorem bf_tn : Bld σ I FD (tTup (tCons (tC .non) tNil)) := fun H Q i q => ⟨lz, fun p hp => q _ _ (same_new hp) (fd_b upd_same (fun x hx => by
  rw [List.mem_singleton.mp hx]
  exact od_n) List.mem_cons_self (isS_tn (.inl rfl)))⟩
theorem bf_t7 {z1 z2 z3 z4 z5 z6 z7 : Str} (h : ∀ z ∈ [z1, z2, z3, z4, z5, z6, z7], z.length ≤ 1000) : Bld σ I FD (tTup (tCons (tTup (tCons (tC (.str z1)) (tCons (tC (.str z2)) (tCons (tC (.str z3)) (tCons (tC (.str z4)) (tCons (tC (.str z5)) (tCons (tC (.str z6)) (tCons (tC (.str z7)) tNil)))))))) tNil)) := fun H Q i q =>
  ⟨lz, fun u1 h1 => ⟨lz, fun u2 h2 => q _ _ ((same_new h1).trans (same_new h2)) (fd_c (q := u1) upd_same (fun x hx => by
    rw [List.mem_singleton.mp hx]
    exact od_t ((same_new h2) _ _ upd_same)) List.mem_cons_self ((same_new h2) _ _ upd_same) (.inr (Nat.le_of_ble_eq_true rfl)))⟩⟩
theorem bf_m1 {n m : Int} (h0 : 0 ≤ n) (h1 : n ≤ 1000) (m0 : 1 ≤ m) (m1 : m ≤ 1000) (h : 6 < n.toNat) : Bld σ I FD (tOp (rMulTu K) (tTup (tCons (tOp (rMulTu K) (tTup (tCons (tC .non) tNil)) (tC (.int n))) tNil)) (tC (.int m))) := fun H Q i q =>
  ⟨lz, fun u0 hu0 => ⟨u0, n, [.non], rfl, rfl, upd_same, by simp, h0, h1, Nat.le_of_ble_eq_true rfl, fun u1 H1 s1 e1 => ⟨lz, fun u2 hu2 => ⟨u2, m, [.ref u1], rfl, rfl, upd_same, by simp, by omega, m1, Nat.le_of_ble_eq_true rfl, fun u3 H3 s3 e3 => by
    have k2 := same_new (o := .tup [V.ref u1]) hu2
    have e1' := s3 _ _ (k2 _ _ e1)
    refine q _ _ ((same_new hu0).trans (s1.trans (k2.trans s3))) (fd_c (q := u1) e3 (fun x hx => by
      rw [rep_mem hx]
      exact od_t e1') ?_ e1' (.inr ?_))
    · rw [List.mem_flatten]
      exact ⟨[.ref u1], List.mem_replicate.mpr ⟨by omega, rfl⟩, List.mem_cons_self⟩
    · rw [List.length_flatten, List.map_replicate, List.sum_replicate_nat]
      simpa using h⟩⟩⟩⟩
theorem bf_m2 {m : Int} (m0 : 6 < m.toNat) (m1 : m ≤ 1000) : Bld σ I FD (tOp (rMulTu K) (tTup (tCons (tTup (tCons (tC .non) tNil)) tNil)) (tC (.int m))) := fun H Q i q =>
  ⟨lz, fun u1 hu1 => ⟨lz, fun u2 hu2 => ⟨u2, m, [.ref u1], rfl, rfl, upd_same, by simp, by omega, m1, Nat.le_of_ble_eq_true rfl, fun u3 H3 s3 e3 => by
    have k2 := same_new (o := .tup [V.ref u1]) hu2
    refine q _ _ ((same_new hu1).trans (k2.trans s3)) (fd_len e3 (fun x hx => by
      rw [rep_mem hx]
      exact od_t (s3 _ _ (k2 _ _ upd_same))) (.inr ?_))
    rw [List.length_flatten, List.map_replicate, List.sum_replicate_nat]
    simpa using m0⟩⟩⟩
/-- laid + (x,) -/
theorem bf_cat {tx : TE} {H3 : Hp} {L p0 : Addr} {wd : Nat} {row0 as : List V} (R3 : Rws H3 L wd p0 row0 as) (h1 : σ[1]? = some (some (.ref L)))
    (hx : ∀ (H : Hp) (Q : VK), Same H3 H → (∀ v H', Same H H' → OddV H' v → (∃ o, TupO H' v o ∧ rowOk row0.length o = false) → Q v H') → tx σ H Q) : Bld σ (fun H => Same H3 H) FD (tOp (rCatA K) (tVar 1) (tTup (tCons tx tNil))) := fun H Q i q =>
  ⟨_, h1, hx H _ i fun v H1 s1 ho ⟨o, hb, hr⟩ => ⟨lz, fun u hu => by
    have k := same_new (o := .tup [v]) hu
    have R := R3.tk (tk_same ((i.trans s1).trans k))
    refine cat_reads R.at_ upd_same (by have := R.few; rw [List.length_cons, List.length_singleton]; omega) fun u2 H2 s2 hu2 => ?_
    have R := R.tk (tk_same s2)
    refine q _ H2 (s1.trans (k.trans s2)) (fd_d (q := p0) (xs := as ++ [v]) (x := v) hu2 (fun x hx => ?_) R.first (by simp) ((hb.same k).same s2) hr)
    rw [← List.cons_append, List.mem_append] at hx
    rcases hx with hx | hx
    · exact R.odd x hx
    · rw [List.mem_singleton.mp hx]
      exact (ho.same k).same s2⟩⟩
end
section
variable {P : Program} {w : World} {K : PySem.W.Frag} {mg : Str → Option Value} {base : Heap} {f : Addr} {fd : FuncData}
def spForms : Sp := fun vs H Q _ => ∃ (a L : Addr) (g : Grid) (wd : Nat), vs = [.ref a, .ref L] ∧ PurseAt H a ∧ GridAt H L g ∧ Good g wd ∧
  ∀ (t : Addr) (ys : List V) (H' : Hp), PurseAt H' a → SameX a H H' → H' t = some (.lst ys) → t ≠ a → ys.length ≤ 100 → (∀ v ∈ ys, FD H' v) → Q (.ref t) H'
theorem ok_forms (F : Fun K "_law_forms" "_law_forms" sForms f fd) (B : Bi mg) (hP : Has P w K mg base "_law_pick" 1 ["_law_purse_here", "_law_many"] spPick) (hN : Has P w K mg base "_law_names" 1 ["_law_laid"] spNames)
    (hO : Has P w K mg base "_law_odd_part" 2 psOddP spOddP) : FnOk P w K mg base CX0 3 f fd psForms spForms := by
  refine F.ok scForms (fun vs H Q E h => ?_) (fun cdv A outer s H vs Q E hr h => ?_)
  · obtain ⟨a, L, g, wd, rfl, _⟩ := h
    rfl
  · obtain ⟨a, L, g, wd, rfl, hA, hG, gd, q⟩ := h
    refine ⟨_, pss_cons (ps_set (i := 2) scForms.nd rfl (.inl rfl) (pe_h hP hr (pa_cons (pv 0) (pa_cons (pe_callB call_len_seq (by rfl) B.len PySem.boot_len (pa_cons (pv 1) pa_nil)) pa_nil))))
      (pss_cons (ps_set (i := 3) scForms.nd rfl (.inl rfl) (pe_h hO hr (pa_cons (pv 0) (pa_cons (pe_h hN hr (pa_cons (pv 1) pa_nil)) pa_nil))))
      (pss_cons (ps_set (i := 4) scForms.nd rfl (.inl rfl) (pe_callB call_len_seq (by rfl) B.len PySem.boot_len (pa_cons (pe_ix ix_tup (pv 1) pe_int (fun _ _ => rfl)) pa_nil)))
      (pss_cons (ps_set (i := 5) scForms.nd rfl (.inl rfl) (pe_lst (pa_cons pe_non (pa_cons pe_bl (pa_cons pe_int (pa_cons pe_str (pa_cons (pe_tup pa_nil) (pa_cons (pe_lst pa_nil) (pa_cons pe_dnewK (pa_cons (pe_callTy call_list_of (by rfl) B.list (by decide +kernel) (pa_cons (pv 1) pa_nil)) (pa_cons (pe_lc (own := [("_law_line", 6)]) (g := gName 6) (tt := tYes) (te := tLine K) rfl scForms.nd (pi_tup (pv 1)) (blkOk_by (N := nForms) (sc := defScope sForms) (by decide +kernel)) (fun _ _ _ _ _ => pg_name (i := 6) scForms.nd rfl (.inl rfl)) (fun _ _ _ _ _ => pts_nil) (fun _ _ _ _ _ => (pe_callTy call_list_of (by rfl) B.list btL (pa_cons (pv 6) pa_nil)))) (pa_cons pe_str (pa_cons (pe_tup (pa_cons (pe_tup pa_nil) pa_nil)) (pa_cons (pe_tup (pa_cons (pe_lst pa_nil) pa_nil)) (pa_cons (pe_tup (pa_cons pe_non pa_nil)) pa_nil)))))))))))))))
      (pss_cons (ps_set (i := 5) scForms.nd rfl (.inl rfl) (pe_op op_cat (pv 5) (pe_lst (pa_cons (pe_op op_catA (pe_op op_catA (pe_slice sl_tupA (pv 1) po_none (po_some (pv 2))) (pe_tup (pa_cons (pe_callTy call_list_of (by rfl) B.list (by decide +kernel) (pa_cons (pe_ix ix_tup (pv 1) (pv 2) (fun _ _ => rfl)) pa_nil)) pa_nil))) (pe_slice sl_tupA (pv 1) (po_some (pe_op op_add (pv 2) pe_int)) po_none)) (pa_cons (pe_op op_catA (pv 1) (pe_tup (pa_cons (pe_op op_catA (pe_ix ix_tup (pv 1) pe_int (fun _ _ => rfl)) (pe_tup (pa_cons (pv 3) pa_nil))) pa_nil))) (pa_cons (pe_ix ix_tup (pv 1) pe_int (fun _ _ => rfl)) pa_nil))))))
      (pss_cons (ps_set (i := 5) scForms.nd rfl (.inl rfl) (pe_op op_cat (pv 5) (pe_lst (pa_cons (pe_op op_catA (pv 1) (pe_tup (pa_cons (pe_tup pa_nil) pa_nil))) (pa_cons (pe_op op_catA (pv 1) (pe_tup (pa_cons pe_non pa_nil))) (pa_cons (pe_op op_catA (pv 1) (pe_tup (pa_cons (pe_slice sl_str pe_str po_none (po_some (pv 4))) pa_nil))) (pa_cons (pe_op op_catA (pv 1) (pe_tup (pa_cons (pe_op op_catA (pe_slice sl_tupA (pe_ix ix_tup (pv 1) pe_int (fun _ _ => rfl)) po_none (po_some (pe_un un_neg pe_int))) (pe_tup (pa_cons (pv 3) (pa_cons (pv 3) pa_nil)))) pa_nil))) pa_nil)))))))
      (pss_cons (ps_set (i := 5) scForms.nd rfl (.inl rfl) (pe_op op_cat (pv 5) (pe_lst (pa_cons (pe_op op_catA (pe_op op_mulTu (pe_tup (pa_cons (pe_op op_mulTu (pe_tup (pa_cons pe_non pa_nil)) (pv 4)) pa_nil)) pe_int) (pv 1)) (pa_cons (pe_tup (pa_cons (pe_tup (pa_cons pe_str (pa_cons pe_str (pa_cons pe_str (pa_cons pe_str (pa_cons pe_str (pa_cons pe_str (pa_cons pe_str pa_nil)))))))) pa_nil)) (pa_cons (pe_tup (pa_cons (pe_tup (pa_cons pe_str (pa_cons (pv 3) pa_nil))) (pa_cons (pe_tup (pa_cons pe_str pa_nil)) pa_nil))) pa_nil))))))
      (pss_one (ps_ret (pe_op op_cat (pv 5) (pe_lst (pa_cons (pe_op op_mulTu (pe_tup (pa_cons (pe_op op_mulTu (pe_tup (pa_cons pe_non pa_nil)) pe_int) pa_nil)) pe_int) (pa_cons (pe_callTy call_tuple_of (by rfl) B.tuple (by decide +kernel) (pa_cons (pe_lc (own := [("_law_line", 6)]) (g := gName 6) (tt := tYes) (te := tWide K) rfl scForms.nd (pi_tup (pv 1)) (blkOk_by (N := nForms) (sc := defScope sForms) (by decide +kernel)) (fun _ _ _ _ _ => pg_name (i := 6) scForms.nd rfl (.inl rfl)) (fun _ _ _ _ _ => pts_nil) (fun _ _ _ _ _ => (pe_op op_catA (pv 6) (pe_op op_mulTu (pe_tup (pa_cons pe_non pa_nil)) pe_int)))) pa_nil)) (pa_cons (pe_op op_mulTu (pe_tup (pa_cons (pe_tup (pa_cons pe_non pa_nil)) pa_nil)) pe_int) pa_nil))))))))))))), ?_⟩
    obtain ⟨p0, row0, as, rw0⟩ := rws_of hG gd
    have w1 := gd.w1
    have w6 := gd.w6
    refine ⟨_, rfl, _, rfl, L, _, rfl, .inr (.inl (.inl rw0.at_)), a, _, rfl, hA, by rw [List.length_cons]; omega, by have := rw0.few; rw [List.length_cons]; omega, fun r H1 r0 r1 hA1 x1 _ => ?_⟩
    obtain ⟨rn, ern⟩ : ∃ rn : Nat, r = (rn : Int) := ⟨r.toNat, by omega⟩
    subst ern
    rw [List.length_cons] at r1
    have hG1 := hG.keep (purse_tk hA x1)
    refine ⟨_, rfl, _, rfl, L, g, wd, rfl, hG1, gd.sized, fun t H2 nt s2 ht => ?_⟩
    have hA2 := hA1.same s2
    refine ⟨a, t, _, rfl, hA2, ht, hA1.ne nt, by rw [sortS_len]; exact Nat.pos_of_ne_zero fun e => gd.ne (List.eq_nil_of_length_eq_zero e), by rw [sortS_len]; exact gd.len, fun z hz => gd.wd z (mem_sortS.mp hz), fun part H3 hA3 x3 hpt => ?_⟩
    have x13 := x1.trans ((sx s2).trans x3)
    have hG3 := hG.keep (purse_tk hA x13)
    have rws3 := rw0.tk (purse_tk hA x13)
    have hwd := rws3.len0
    subst hwd
    have gI : GrowsH (fun H => Same H3 H) := fun _ _ h s => h.trans s
    have gG := fd_grows
    refine ⟨_, rfl, L, _, 0, .ref p0, rfl, rfl, .inl (.inl rws3.at_), atI_nat (j := 0) rfl, p0, _, rfl, .inr (.inl (.inl rws3.first)), ?_⟩
    refine st_asg (bld_lst (I := fun H => Same H3 H) (n := 13) gG (bld_cons gI gG bf_n (bld_cons gI gG bf_b (bld_cons gI gG bf_i (bld_cons gI gG bf_s (bld_cons gI gG bf_t0 (bld_cons gI gG bf_l0 (bld_cons gI gG bf_d (bld_cons gI gG ?i8 (bld_cons gI gG ?i9 (bld_cons gI gG bf_s (bld_cons gI gG bf_tt (bld_cons gI gG bf_tl (bld_cons gI gG bf_tn bld_nil))))))))))))) (by decide) (Same.refl _) fun p vs H4 s4 n4 e4 l4 g4 => ?_)
    case i8 =>
      intro H5 Q5 i5 q5
      have R := rws3.tk (tk_same i5)
      exact ⟨_, rfl, L, _, rfl, .inr (.inl (.inl R.at_)), fun l hl => q5 _ _ (same_new hl) (fd_n (tn_l upd_same))⟩
    case i9 =>
      intro H5 Q5 i5 q5
      have R := rws3.tk (tk_same i5)
      refine ⟨_, rfl, L, rfl, ⟨_, .inl (.inl R.at_)⟩, fun D hD => lc_rel (walk_tup (K := K) (a := L) (xs := _)) hD (fun _ => true) (fun _ _ _ => True) (fun H' s' => .inl (.inl (s' _ _ R.at_))) (fun _ => rfl) (fun x H' _ _ Q' q' => q') ?_ (fun _ _ _ _ _ _ _ _ => trivial) ?_ (fun zs H6 s6 hD6 _ => q5 (.ref D) H6 s6 (fd_n (tn_l hD6)))⟩
      · intro x H' hx _ s' Q' q'
        obtain ⟨p, ys, rfl, e, _⟩ := R.all x hx
        exact ⟨_, rfl, p, ys, rfl, .inr (.inl (.inl (s' _ _ e))), fun l hl => q' _ _ (same_new hl) trivial⟩
      · exact small1000 (by have := R.few; rw [List.length_cons]; omega)
    refine st_asg (bld_cat (I := fun H => Same H3 H) (n := 3) (m := 13) gI gG (bld_cons gI gG ?i14 (bld_cons gI gG (bf_cat rws3 rfl ?i15) (bld_cons gI gG ?i16 bld_nil))) (by decide) s4 rfl e4 l4 g4 fun p5 vs5 H5 s5 n5 e5 l5 g5 => ?_)
    case i14 =>
      intro H5 Q5 i5 q5
      have R := rws3.tk (tk_same i5)
      refine st_op (st_op ⟨_, rfl, ?_⟩)
      unfold tNoPart
      have hlt : rn < (V.ref p0 :: as).length := by rw [List.length_cons]; omega
      obtain ⟨x, hx⟩ : ∃ x, (V.ref p0 :: as)[rn]? = some x := ⟨_, List.getElem?_eq_getElem hlt⟩
      obtain ⟨p, ys, rfl, ep, _⟩ := R.all x (List.mem_of_getElem? hx)
      have few := R.few
      refine ⟨_, rfl, (rn : Int), rfl, sl_reads R.at_ fun u1 H6 s6 hu1 => ?_⟩
      refine ⟨_, rfl, _, rfl, L, _, (rn : Int), .ref p, rfl, rfl, .inl (.inl (s6 _ _ R.at_)), atI_nat hx, p, ys, rfl, .inr (.inl (.inl (s6 _ _ ep))), fun l hl => ⟨lz, fun u2 hu2 => ?_⟩⟩
      have k := (same_new (o := .lst ys) hl).trans (same_new (o := .tup [V.ref l]) hu2)
      have hl2 := (same_new (o := .tup [V.ref l]) hu2) _ _ (upd_same (H := H6) (a := l) (o := .lst ys))
      rw [cut_to] at hu1
      refine cat_reads (k _ _ hu1) upd_same (by rw [List.length_take, List.length_singleton, List.length_cons]; omega) fun u3 H7 s7 hu3 => ?_
      have s57 := s6.trans (k.trans s7)
      refine ⟨_, rfl, _, rfl, _, _, rfl, rfl, ((rn + 1 : Nat) : Int), by simp, ?_⟩
      refine sl_reads (s57 _ _ R.at_) fun u4 H8 s8 hu4 => ?_
      rw [cut_from] at hu4
      refine cat_reads (s8 _ _ hu3) hu4 (by rw [List.length_append, List.length_take, List.length_singleton, List.length_drop, List.length_cons]; omega) fun u5 H9 s9 hu5 => ?_
      rw [set_parts hx] at hu5
      have s59 := s57.trans (s8.trans s9)
      have hl9 := (s7.trans (s8.trans s9)) _ _ hl2
      have R9 := R.tk (tk_same s59)
      refine q5 _ H9 s59 (fd_b hu5 (fun y hy => ?_) (List.mem_set hlt _) (tn_l hl9))
      rcases List.mem_or_eq_of_mem_set hy with h | h
      · exact R9.odd y h
      · rw [h]
        exact od_l hl9
    case i15 =>
      intro H5 Q5 i5 q5
      have R := rws3.tk (tk_same i5)
      refine st_op ⟨_, rfl, L, _, 0, .ref p0, rfl, rfl, .inl (.inl R.at_), atI_nat (j := 0) rfl, _, rfl, lz, fun u hu => cat_reads ((same_new hu) _ _ R.first) upd_same (by rw [List.length_singleton]; omega) fun u2 H6 s6 h6 => q5 _ _ ((same_new hu).trans s6) (od_t h6) ⟨_, tu_t h6, rowOk_len (by rw [List.length_append, List.length_singleton]; omega)⟩⟩
    case i16 =>
      intro H5 Q5 i5 q5
      have R := rws3.tk (tk_same i5)
      obtain ⟨x0, rest, e0⟩ : ∃ x0 rest, row0 = x0 :: rest := by
        cases e : row0 with
        | nil => rw [e] at w1; exact absurd w1 (by decide)
        | cons x r => exact ⟨x, r, rfl⟩
      exact ⟨_, rfl, L, _, 0, .ref p0, rfl, rfl, .inl (.inl R.at_), atI_nat (j := 0) rfl, q5 _ _ (Same.refl _) (fd_b R.first (fun x hx => isS_od (R.odd0 x hx)) (x := x0) (by rw [e0]; exact List.mem_cons_self) (isS_tn (R.odd0 x0 (by rw [e0]; exact List.mem_cons_self))))⟩
    refine st_asg (bld_cat (I := fun H => Same H3 H) (n := 4) (m := 16) gI gG (bld_cons gI gG (bf_cat rws3 rfl ?i17) (bld_cons gI gG (bf_cat rws3 rfl ?i18) (bld_cons gI gG (bf_cat rws3 rfl ?i19) (bld_cons gI gG (bf_cat rws3 rfl ?i20) bld_nil)))) (by decide) (s4.trans s5) rfl e5 l5 g5 fun p6 vs6 H6 s6 n6 e6 l6 g6 => ?_)
    case i17 => exact fun H5 Q5 i5 q5 => ⟨lz, fun e he => q5 _ _ (same_new he) (od_t upd_same) ⟨_, tu_t upd_same, rowOk_len (by rw [List.length_nil]; omega)⟩⟩
    case i18 => exact fun H5 Q5 i5 q5 => q5 .non H5 (Same.refl _) od_n ⟨none, isS_tn (.inl rfl), rfl⟩
    case i19 =>
      intro H5 Q5 i5 q5
      have lc : (cutS "abcdef" none (some (row0.length : Int))).length ≤ 1000 := Nat.le_trans (cutS_length _ _ _) (by decide +kernel)
      exact ⟨_, rfl, _, rfl, _, rfl, lzl (by decide +kernel), q5 _ H5 (Same.refl _) (od_s lc) ⟨none, isS_tn (.inr ⟨_, rfl, lc⟩), rfl⟩⟩
    case i20 =>
      intro H5 Q5 i5 q5
      have R := rws3.tk (tk_same i5)
      refine st_op ⟨_, rfl, L, _, 0, .ref p0, rfl, rfl, .inl (.inl R.at_), atI_nat (j := 0) rfl, ?_⟩
      unfold tNoPart
      refine ⟨1, rfl, -1, rfl, sl_reads R.first fun u1 H6 s6 hu1 => ⟨_, rfl, _, rfl, lz, fun u2 hu2 => ?_⟩⟩
      have k := same_new (o := .tup [part, part]) hu2
      have hc := cut_last row0 w1
      refine cat_reads (k _ _ hu1) upd_same (by rw [hc]; show _ + 2 ≤ 1000; omega) fun u3 H7 s7 h7 => ?_
      exact q5 _ _ (s6.trans (k.trans s7)) (od_t h7) ⟨_, tu_t h7, rowOk_len (by rw [List.length_append, hc]; show _ + 2 ≠ _; omega)⟩
    refine st_asg (bld_cat (I := fun H => Same H3 H) (n := 3) (m := 20) gI gG (bld_cons gI gG ?i21 (bld_cons gI gG (bf_t7 (by decide +kernel)) (bld_cons gI gG ?i23 bld_nil))) (by decide) ((s4.trans s5).trans s6) rfl e6 l6 g6 fun p7 vs7 H7 s7 n7 e7 l7 g7 => ?_)
    case i21 =>
      intro H5 Q5 i5 q5
      have R := rws3.tk (tk_same i5)
      refine st_op ⟨lz, fun u0 hu0 => ⟨_, rfl, u0, _, [.non], rfl, rfl, upd_same, by simp, by omega, by omega, Nat.le_of_ble_eq_true rfl, fun u1 H6 s6 e6 => ⟨lz, fun u2 hu2 => ⟨u2, 6, [.ref u1], rfl, rfl, upd_same, by simp, by decide, by decide, Nat.le_of_ble_eq_true rfl, fun u3 H7 s7 e7 => ⟨_, rfl, ?_⟩⟩⟩⟩⟩
      have k2 := same_new (o := .tup [V.ref u1]) hu2
      have s57 := (same_new (o := .tup [V.non]) hu0).trans (s6.trans (k2.trans s7))
      have R7 := R.tk (tk_same s57)
      have few := R7.few
      have l6 : (List.replicate (6 : Int).toNat [V.ref u1]).flatten.length = 6 := rfl
      refine cat_reads e7 R7.at_ (by rw [l6, List.length_cons]; omega) fun u4 H8 s8 e8 => ?_
      have R8 := R7.tk (tk_same s8)
      refine q5 _ H8 (s57.trans s8) (fd_len e8 (fun x hx => ?_) (.inr (by rw [List.length_append, l6, List.length_cons]; omega)))
      rcases List.mem_append.mp hx with hx | hx
      · rw [rep_mem hx]
        exact od_t (s8 _ _ (s7 _ _ (k2 _ _ e6)))
      · exact R8.odd x hx
    case i23 =>
      intro H5 Q5 i5 q5
      refine ⟨_, rfl, lz, fun u1 h1 => ⟨lz, fun u2 h2 => ⟨lz, fun u3 h3 => q5 _ _ ((same_new h1).trans ((same_new h2).trans (same_new h3))) (fd_d (q := u1) (x := .ref u2) upd_same (fun x hx => ?_) ((same_new h3) _ _ ((same_new h2) _ _ upd_same)) List.mem_cons_self (tu_t ((same_new h3) _ _ upd_same)) (rowOk_len (by simp)))⟩⟩⟩
      rcases List.mem_cons.mp hx with rfl | hx
      · exact od_t ((same_new h3) _ _ ((same_new h2) _ _ upd_same))
      · rw [List.mem_singleton.mp hx]
        exact od_t ((same_new h3) _ _ upd_same)
    have i7 := ((s4.trans s5).trans s6).trans s7
    refine st_ret (bld_cat (I := fun H => Same H3 H) (n := 3) (m := 23) gI gG (bld_cons gI gG (bf_m1 (by decide) (by decide) (by decide) (by decide) (by decide)) (bld_cons gI gG ?i25 (bld_cons gI gG (bf_m2 (by decide) (by decide)) bld_nil))) (by decide) i7 rfl e7 l7 g7 fun p8 vs8 H8 s8 n8 e8 l8 g8 => ?_)
    case i25 =>
      intro H5 Q5 i5 q5
      have R := rws3.tk (tk_same i5)
      have few := R.few
      refine ⟨_, rfl, L, rfl, ⟨_, .inl (.inl R.at_)⟩, fun D hD => lc_rel (walk_tup (K := K) (a := L) (xs := _)) hD (fun _ => true) (fun _ y H => ∃ p ys, y = V.ref p ∧ H p = some (.tup ys) ∧ 6 < ys.length) (fun H' s' => .inl (.inl (s' _ _ R.at_))) (fun _ => rfl) (fun x H' _ _ Q' q' => q') ?_ ?_ ?_ ?_⟩
      · intro x H' hx _ s' Q' q'
        obtain ⟨p, ys, rfl, e, le⟩ := R.all x hx
        refine st_op ⟨_, rfl, lz, fun u0 hu0 => ⟨u0, 6, [.non], rfl, rfl, upd_same, by simp, by decide, by decide, Nat.le_of_ble_eq_true rfl, fun u1 H6 s6 e6 => ?_⟩⟩
        have k := (same_new (o := .tup [V.non]) hu0).trans s6
        have l6 : (List.replicate (6 : Int).toNat [V.non]).flatten.length = 6 := rfl
        exact cat_reads (k _ _ (s' _ _ e)) e6 (by rw [l6]; omega) fun u2 H7 s7 e7 => q' _ _ (k.trans s7) ⟨u2, _, rfl, e7, by rw [List.length_append, l6]; omega⟩
      · rintro x y H' H'' acc ha sx ⟨p, ys, e, hp, l⟩
        refine ⟨p, ys, e, sx _ _ (fun z => ?_) hp, l⟩
        subst z
        rw [ha] at hp
        cases hp
      · exact small1000 (by rw [List.length_cons]; omega)
      · intro zs H6 s6 hD6 he
        refine ⟨D, zs, rfl, .inl ⟨.inl (.inl hD6), fun t ht => ?_⟩⟩
        rw [List.filter_eq_self.mpr fun _ _ => rfl] at he
        have k := same_new (o := .tup zs) ht
        cases he with
        | cons e t =>
          obtain ⟨p, ys, e1, e2, e3⟩ := e
          subst e1
          refine q5 _ _ (s6.trans k) (fd_c (q := p) upd_same (fun x hx => ?_) List.mem_cons_self (k _ _ e2) (.inr e3))
          rcases List.mem_cons.mp hx with rfl | hx
          · exact od_t (k _ _ e2)
          · obtain ⟨_, _, p', ys', e1', e2', _⟩ := t.mem2 hx
            subst e1'
            exact od_t (k _ _ e2')
    have sAll := i7.trans s8
    exact q p8 vs8 H8 (hA3.same sAll) (x13.trans (sx sAll)) e8 (hA3.ne (i7.free n8)) (by rw [l8]; decide) g8
end
end Wl

/-! what repr makes of plain texts is a text that can be laid. -/
namespace Wl
open PySem PySem.Spec PyProof.Rows L2
def TOk (s : Str) : Prop := ∀ c ∈ s.cps.toList, c < 1114112
theorem tok_app {a b : Str} (ha : TOk a) (hb : TOk b) : TOk (a ++ b) := fun c hc => by
  have e : (a ++ b).cps.toList = a.cps.toList ++ b.cps.toList := TL.tl_append a b
  rw [e, List.mem_append] at hc
  rcases hc with h | h
  · exact ha c h
  · exact hb c h
theorem tok_lay {s : Str} (h : TOk s) : PyData.canLay0 (.str s) = true := by
  show PyData.strOk s = true
  unfold PyData.strOk
  rw [← Array.all_toList, List.all_eq_true]
  intro c hc
  exact decide_eq_true (h c hc)
def tokB (s : Str) : Bool := s.cps.toList.all fun c => decide (c < 1114112)
theorem tok_c {s : Str} (h : tokB s = true := by decide +kernel) : TOk s := fun c hc => of_decide_eq_true (List.all_eq_true.mp h c hc)
theorem tok_ascii {s : Str} (h : ∀ c ∈ s.cps.toList, c < 128) : TOk s := fun c hc => by have := h c hc; omega
theorem rc_ok : ∀ c : Fin 128, ((Builtin.Str.reprChar 39 c.1).all fun d => decide (d < 1114112)) = true ∧ ((Builtin.Str.reprChar 34 c.1).all fun d => decide (d < 1114112)) = true := by decide +kernel
theorem quote_or (x : Str) : reprQuote x = 34 ∨ reprQuote x = 39 := by
  unfold reprQuote
  split
  · exact .inl rfl
  · exact .inr rfl
theorem foldl_ok (q : Nat) (hq : q = 34 ∨ q = 39) : ∀ (l : List Nat) (acc : Array Nat), (∀ c ∈ l, c < 128) → (∀ d ∈ acc.toList, d < 1114112) → ∀ d ∈ (l.foldl (fun out c => out ++ (Builtin.Str.reprChar q c).toArray) acc).toList, d < 1114112
  | [], acc, _, h => h
  | c :: r, acc, hl, h => by
    refine foldl_ok q hq r _ (fun d hd => hl d (List.mem_cons_of_mem _ hd)) fun d hd => ?_
    rw [Array.toList_append, List.mem_append] at hd
    rcases hd with hd | hd
    · exact h d hd
    · have hd : d ∈ Builtin.Str.reprChar q c := hd
      have k := rc_ok ⟨c, hl c List.mem_cons_self⟩
      rcases hq with rfl | rfl
      · exact of_decide_eq_true (List.all_eq_true.mp k.2 d hd)
      · exact of_decide_eq_true (List.all_eq_true.mp k.1 d hd)
theorem tok_repr {x : Str} (h : ∀ c ∈ x.cps.toList, c < 128) : TOk (reprText x) := by
  intro d hd
  have e : (reprText x).cps.toList = (x.cps.toList.foldl (fun out c => out ++ (Builtin.Str.reprChar (reprQuote x) c).toArray) #[reprQuote x]).toList ++ [reprQuote x] := by
    unfold reprText
    show ((x.cps.foldl (fun out c => out ++ (Builtin.Str.reprChar (reprQuote x) c).toArray) #[reprQuote x]).push (reprQuote x)).toList = _
    rw [Array.toList_push, ← Array.foldl_toList]
  rw [e, List.mem_append] at hd
  have hq : reprQuote x < 1114112 := by rcases quote_or x with h | h <;> omega
  rcases hd with hd | hd
  · refine foldl_ok _ (quote_or x) _ _ h (fun d hd => ?_) d hd
    have : d = reprQuote x := by simpa using hd
    omega
  · rw [List.mem_singleton.mp hd]
    exact hq
theorem tok_ls {x : Str} (h : ∀ c ∈ x.cps.toList, c < 128) : TOk (PyData.list [.str x]).shown := by
  have e : (PyData.list [.str x]).shown = (("[" : Str) ++ ((if 0 > 0 then ", " else "" : String) : Str) ++ reprText x) ++ ("]" : Str) := by
    simp only [PyData.shown, PyData.shownAll]
    rfl
  rw [e]
  exact tok_app (tok_app (tok_app tok_c tok_c) (tok_repr h)) tok_c
theorem tok_tp {x : Str} (h : ∀ c ∈ x.cps.toList, c < 128) : TOk (PyData.tuple [.str x]).shown := by
  have e : (PyData.tuple [.str x]).shown = (("(" : Str) ++ reprText x) ++ (",)" : Str) := by
    simp only [PyData.shown, PyData.shownAll]
    rfl
  rw [e]
  exact tok_app (tok_app tok_c (tok_repr h)) tok_c
theorem tok_s {x : Str} (h : ∀ c ∈ x.cps.toList, c < 128) : TOk (PyData.str x).shown := by
  have e : (PyData.str x).shown = reprText x := by simp only [PyData.shown]
  rw [e]
  exact tok_repr h
end Wl

/-! names that are none of a Land. -/
namespace Wl
open PySem PySem.Spec PyProof.Rows L2
abbrev sNR : Stmt := topS 55
/-- a thing that is no village of the Land of g -/
def NG (K : PySem.W.Frag) (C : Addr) (g : Grid) (H : Hp) (v : V) : Prop := (OddV H v ∨ ∃ q L, v = .ref q ∧ LandAt C H q L g) ∧ nameB g v = false ∧ ∃ txt, ShownV K C H v txt ∧ TOk txt
theorem ng_grows {K : PySem.W.Frag} {C : Addr} {g : Grid} : Grows (NG K C g) := fun H H' v h s => by
  obtain ⟨h1, h2, txt, h3, h4⟩ := h
  refine ⟨?_, h2, txt, h3.same s, h4⟩
  rcases h1 with h1 | ⟨q, L, e, h1⟩
  · exact .inl (h1.same s)
  · exact .inr ⟨q, L, e, h1.keep (kp_same s)⟩
theorem name_bad {g : Grid} {v : V} (h : wvB v = false) : nameB g v = false := by
  cases v with
  | str z =>
    show (wdB z && decide (z ∈ names g)) = false
    rw [show wdB z = false from h, Bool.false_and]
  | _ => rfl
theorem shv {d : PyData} (h1 : d.showable = true := by decide +kernel) (h2 : Nat.ble d.depth 8 = true := by decide +kernel) (h3 : Nat.ble d.shown.length 1000 = true := by decide +kernel) : ShowsV d :=
  ⟨h1, Nat.le_of_ble_eq_true h2, Nat.le_trans (Nat.le_of_ble_eq_true h3) (by rw [sizeLine_eq]; omega)⟩
theorem shv_of {d : PyData} (h : Shows d) : ShowsV d := ⟨h.sh, h.deep, h.size⟩
theorem asc_lay {y : Str} (h : ∀ c ∈ y.cps.toList, c < 128) : PyData.canLay0 (.str y) = true := tok_lay (tok_ascii h)
theorem shv_s {y : Str} (h : ∀ c ∈ y.cps.toList, c < 128) (l : y.length ≤ 100) : ShowsV (.str y) := by
  refine shv_of ⟨asc_lay h, by simp [PyData.depth], ?_, by simp [PyData.showable], by simp [PyData.intsShort]⟩
  have l1 : y.cps.size ≤ 100 := l
  simp only [PyData.weight]
  omega
theorem shv_l {y : Str} (h : ∀ c ∈ y.cps.toList, c < 128) (l : y.length ≤ 100) : ShowsV (.list [.str y]) := by
  refine shv_of ⟨?_, by simp [PyData.depth, PyData.depthAll], ?_, by simp [PyData.showable, PyData.showableAll], by simp [PyData.intsShort, PyData.intsShortAll]⟩
  · show (PyData.canLay0 (.str y) && true) = true
    rw [asc_lay h]
    rfl
  · have l1 : y.cps.size ≤ 100 := l
    simp only [PyData.weight, PyData.weightAll]
    omega
theorem shv_t {y : Str} (h : ∀ c ∈ y.cps.toList, c < 128) (l : y.length ≤ 100) : ShowsV (.tuple [.str y]) := by
  refine shv_of ⟨?_, by simp [PyData.depth, PyData.depthAll], ?_, by simp [PyData.showable, PyData.showableAll], by simp [PyData.intsShort, PyData.intsShortAll]⟩
  · show (PyData.canLay0 (.str y) && true) = true
    rw [asc_lay h]
    rfl
  · have l1 : y.cps.size ≤ 100 := l
    simp only [PyData.weight, PyData.weightAll]
    omega
theorem wd_asc {z : Str} (h : IsWd z) : ∀ c ∈ z.cps.toList, c < 128 := by
  have h0 : wdB z = true := h
  unfold wdB at h0
  simp only [Bool.and_eq_true, decide_eq_true_eq, List.all_eq_true] at h0
  intro c hc
  have := h0.2 c hc
  omega
theorem up_asc {z : Str} (h : IsWd z) : ∀ c ∈ (Txt.upper z).cps.toList, c < 128 := by
  have e : Txt.upper z = ⟨z.cps.map PyProof.Rows.up1⟩ := PyProof.Rows.upper_ascii (wd_asc h)
  rw [e]
  intro c hc
  rw [Array.toList_map] at hc
  obtain ⟨b, hb, rfl⟩ := List.mem_map.mp hc
  have := wd_asc h b hb
  unfold PyProof.Rows.up1
  split <;> omega
theorem sp_cps : (" " : Str).cps.toList = [32] := by decide +kernel
theorem sp_bad (z : Str) : wdB (z ++ " ") = false := by
  unfold wdB
  have : ((z ++ (" " : Str)).cps.toList.all fun c => decide (97 ≤ c) && decide (c ≤ 122)) = false := by
    have e : (z ++ (" " : Str)).cps.toList = z.cps.toList ++ (" " : Str).cps.toList := TL.tl_append z " "
    rw [e, sp_cps, List.all_append]
    simp
  rw [this, Bool.and_false]
section
variable {σ : L2.St} {I : Hp → Prop} {K : PySem.W.Frag} {C : Addr} {g : Grid}
theorem ng_d {H : Hp} {v : V} {d : PyData} (ho : OddV H v) (hb : wvB v = false) (hr : RepV K H v d) (hs : ShowsV d) (ht : TOk d.shown) : NG K C g H v := ⟨.inl ho, name_bad hb, _, .inl ⟨d, hr, hs, rfl⟩, ht⟩
theorem bn_n : Bld σ I (NG K C g) (tC .non) := bld_c fun _ _ => ng_d od_n rfl (.inl ⟨rfl, .non⟩) shv tok_c
theorem bn_b {b : Bool} (hs : ShowsV (.bool b)) (ht : TOk (PyData.bool b).shown) : Bld σ I (NG K C g) (tC (.bl b)) := bld_c fun _ _ => ng_d od_b rfl (.inl ⟨rfl, .bl b⟩) hs ht
theorem bn_i {i : Int} (hs : ShowsV (.int i)) (ht : TOk (PyData.int i).shown) : Bld σ I (NG K C g) (tC (.int i)) := bld_c fun _ _ => ng_d od_i rfl (.inl ⟨rfl, .int i⟩) hs ht
theorem bn_s {z : Str} (hb : wdB z = false) (hs : ShowsV (.str z)) (ht : TOk (PyData.str z).shown) (l : Nat.ble z.length 1000 = true) : Bld σ I (NG K C g) (tC (.str z)) := bld_c fun _ _ => ng_d (od_s (Nat.le_of_ble_eq_true l)) hb (.inl ⟨rfl, .str z⟩) hs ht
theorem bn_t0 : Bld σ I (NG K C g) (tTup tNil) := fun H Q i q => ⟨lz, fun p hp => q _ _ (same_new hp) (ng_d (od_t upd_same) rfl (.inl ⟨rfl, .tup (.inl (.inl upd_same)) .nil⟩) shv tok_c)⟩
theorem bn_l0 : Bld σ I (NG K C g) (tLst tNil) := fun H Q i q => ⟨lz, fun p hp => q _ _ (same_new hp) (ng_d (od_l upd_same) rfl (.inl ⟨rfl, .lst (.inl (.inl upd_same)) .nil⟩) shv tok_c)⟩
theorem bn_d : Bld σ I (NG K C g) tDNewK := fun H Q i q d hd => q _ _ (same_new hd) (ng_d (od_d upd_same) rfl (.inr (.inl ⟨d, rfl, upd_same, rfl⟩)) shv tok_c)
theorem bn_tl : Bld σ I (NG K C g) (tTup (tCons (tLst tNil) tNil)) := fun H Q i q => ⟨lz, fun l hl => ⟨lz, fun p hp => q _ _ ((same_new hl).trans (same_new hp)) (ng_d (od_t upd_same) rfl (.inl ⟨rfl, .tup (.inl (.inl upd_same)) (.cons (.lst (.inl (.inl ((same_new hp) _ _ upd_same))) .nil) .nil)⟩) shv tok_c)⟩⟩
theorem bn_00 : Bld σ I (NG K C g) (tTup (tCons (tC (.int 0)) (tCons (tC (.int 0)) tNil))) := fun H Q i q => ⟨lz, fun p hp => q _ _ (same_new hp) (ng_d (od_t upd_same) rfl (.inl ⟨rfl, .tup (.inl (.inl upd_same)) (.cons (.int 0) (.cons (.int 0) .nil))⟩) shv tok_c)⟩
theorem bn_pow : Bld σ I (NG K C g) (tOp (rI CPow fun i j => .int (i ^ j.toNat)) (tC (.int 10)) (tC (.int 30))) := fun H Q _ q => ⟨10, 30, rfl, rfl, ⟨by decide, by decide, by decide⟩, q _ _ (Same.refl H) (ng_d od_i rfl (.inl ⟨rfl, .int _⟩) shv tok_c)⟩
end
end Wl

/-! names that are none are refused, a village is found. -/
namespace Wl
open PySem PySem.Spec PyProof.Rows L2
abbrev nNR : List Str := ["_law_purse_here", "_law_country", "_law_laid", "_law_towns", "_law_some", "_law_one", "_law_way"]
abbrev psNR : List Str := ["_law_purse_here", "_law_country", "_law_laid"]
theorem scNR : FnScope nNR psNR (defScope sNR) := ⟨rfl, rfl, rfl, by decide +kernel, rfl, by decide +kernel, by decide +kernel⟩
theorem shown_reads {K : PySem.W.Frag} {C : Addr} {H : Hp} {v : V} {txt : Str} {Q : VK} (h : ShownV K C H v txt) (q : Q (.str txt) H) : rReprV K C (spLRepr C) [v] H Q := by
  rcases h with ⟨d, h1, h2, rfl⟩ | ⟨a, L, g, rfl, hL, h36, rfl⟩
  · exact ⟨_, rfl, .inl ⟨d, h1, h2, q⟩⟩
  · obtain ⟨d3, dx3, hb, h4⟩ := id hL
    exact ⟨_, rfl, .inr ⟨a, dx3, _, rfl, hb, a, L, g, rfl, hL, h36, _, rfl, q⟩⟩
theorem tok_land : ∀ n, n ≤ 36 → TOk (reprS n) := fun n h => by
  have : ∀ k : Fin 37, tokB (reprS k.1) = true := by decide +kernel
  exact tok_c (this ⟨n, by omega⟩)
section
variable {P : Program} {w : World} {K : PySem.W.Frag} {mg : Str → Option Value} {base : Heap} {f fR C : Addr} {fd fdR : FuncData}
abbrev tF5 (K : PySem.W.Frag) (C : Addr) : TE := tCall (spFound K C) [] E0 (tCons (tVar 6) (tCons (tVar 1) (tCons (tVar 5) tNil)))
abbrev tFm (K : PySem.W.Frag) (C : Addr) : TE := tOp rEq (tOp (rIxT K) (tCall (spFound K C) [] E0 (tCons (tVar 6) (tCons (tVar 1) (tCons (tOp (rIxL K) (tVar 3) (tUn (rU fun i => .int (-i)) (tC (.int 1)))) tNil)))) (tC (.int 0))) (tC (.str "made"))
theorem ng_wv {g : Grid} {H : Hp} {v : V} (insC : C8.InsC K C) (hk : PySem.W.kitOne K (.ref C) (.type "str") = some false) (h : NG K C g H v) : Wv K H v (wvB v) := by
  rcases h.1 with h1 | ⟨q, L, rfl, d, dx, h1, _⟩
  · exact h1.wv
  · exact .inr ⟨_, .base (.ins h1 insC.cl insC.ha insC.hn insC.htk insC.hm), hk, rfl⟩
def spNR (C : Addr) : Sp := fun vs H Q _ => ∃ (a p L : Addr) (g : Grid) (wd : Nat), vs = [.ref a, .ref p, .ref L] ∧ LandAt C H p L g ∧ Good g wd ∧ ∀ (H' : Hp), Same H H' → Q (.bl true) H'
theorem ok_nr (F : Fun K "_law_names_right" "_law_names_right" sNR f fd) (B : Bi mg) (hrep : mg "repr" = none) (insC : C8.InsC K C) (hk : PySem.W.kitOne K (.ref C) (.type "str") = some false)
    (FR : FnOk P w K mg base CX0 1 fR fdR ["self"] (spLRepr C)) (bR : Binds K fdR ["self"] []) (mR : Meth K C "__repr__" fR)
    (hN : Has P w K mg base "_law_names" 1 ["_law_laid"] spNames) (hF : HasQ P w K mg base "_law_found" 6 psFound (spFound K C)) : FnOkG P w K mg base 7 f fd psNR (spNR C) := by
  refine okG F scNR (fun vs H Q E h => ?_) (fun cdv A outer s H vs Q E hgd hr h => ?_)
  · obtain ⟨a, p, L, g, wd, rfl, _⟩ := h
    rfl
  · obtain ⟨a, p, L, g, wd, rfl, hLa, gd, q⟩ := h
    refine ⟨_, pss_cons (ps_set (i := 3) scNR.nd rfl (.inr rfl) (pe_h hN hr (pa_cons (pv 2) pa_nil)))
      (pss_cons (ps_set (i := 4) scNR.nd rfl (.inl rfl) (pe_lst (pa_cons pe_non (pa_cons pe_bl (pa_cons pe_int (pa_cons pe_str (pa_cons pe_str (pa_cons (pe_op op_add_str (pe_ix ix_list (pv 3) pe_int (fun _ _ => rfl)) pe_str) (pa_cons (pe_upper (pe_ix ix_list (pv 3) pe_int (fun _ _ => rfl))) (pa_cons pe_str (pa_cons (pe_lst pa_nil) (pa_cons pe_dnewK (pa_cons (pe_tup pa_nil) (pa_cons (pe_lst (pa_cons (pe_ix ix_list (pv 3) pe_int (fun _ _ => rfl)) pa_nil)) (pa_cons (pe_tup (pa_cons (pe_ix ix_list (pv 3) pe_int (fun _ _ => rfl)) pa_nil)) pa_nil)))))))))))))))
      (pss_cons (ps_set (i := 4) scNR.nd rfl (.inl rfl) (pe_op op_cat (pv 4) (pe_lst (pa_cons (pe_tup (pa_cons (pe_lst pa_nil) pa_nil)) (pa_cons (pv 1) (pa_cons (pe_tup (pa_cons pe_int (pa_cons pe_int pa_nil))) (pa_cons (pe_op op_pow pe_int pe_int) pa_nil)))))))
      (pss_cons (ps_for PassesOwn.never rfl (pi_list (pv 4)) (pg_name (i := 5) scNR.nd rfl (.inr rfl))
        (pss_one (ps_if (pt_cmpR (op_neD hr.units) (pe_lc (own := [("_law_way", 6)]) (g := gName 6) (tt := tYes) (te := tF5 K C) rfl scNR.nd (pi_range1 (by rfl) B.range (pa_cons pe_int pa_nil)) (blkOk_by (N := nNR) (sc := defScope sNR) (by decide +kernel)) (fun _ _ _ _ _ => pg_name (i := 6) scNR.nd rfl (.inl rfl)) (fun _ _ _ _ _ => pts_nil) (fun _ _ _ _ _ => pe_hQ hF hgd hr (pa_cons (pv 6) (pa_cons (pv 1) (pa_cons (pv 5) pa_nil)))))
          (pe_op op_rep (pe_lst (pa_cons (pe_tup (pa_cons pe_str (pa_cons (pe_callB (cr_reprV FR bR mR hgd (hr.mono (by decide))) (by rfl) hrep (by decide +kernel) (pa_cons (pv 5) pa_nil)) pa_nil))) pa_nil)) pe_int) (nomark _)) (pss_one (ps_ret pe_bl)) pss_nil)))
      (pss_one (ps_ret (pe_callB (cr_all rfl) (by rfl) B.all (by decide +kernel) (pa_cons (pe_lc (own := [("_law_way", 6)]) (g := gName 6) (tt := tYes) (te := tFm K C) rfl scNR.nd (pi_range1 (by rfl) B.range (pa_cons pe_int pa_nil)) (blkOk_by (N := nNR) (sc := defScope sNR) (by decide +kernel)) (fun _ _ _ _ _ => pg_name (i := 6) scNR.nd rfl (.inl rfl)) (fun _ _ _ _ _ => pts_nil)
        (fun _ _ _ _ _ => pe_cmpR op_eq (pe_ix ix_tup (pe_hQ hF hgd hr (pa_cons (pv 6) (pa_cons (pv 1) (pa_cons (pe_ix ix_list (pv 3) (pe_un un_neg pe_int) (fun _ _ => rfl)) pa_nil)))) pe_int (fun _ _ => rfl)) pe_str (nomark _))) pa_nil))))))), ?_⟩
    obtain ⟨d0, dx0, hp0, _, hG0⟩ := id hLa
    refine st_asg (te := tCall spNames [] E0 (tCons (tVar 2) tNil)) ⟨_, rfl, L, g, wd, rfl, hG0, gd.sized, fun t H3 nt s3 ht => ?_⟩
    obtain ⟨z0, rest, ez0⟩ : ∃ z0 rest, sortS (names g) = z0 :: rest := by
      cases e : sortS (names g) with
      | nil =>
        have : (sortS (names g)).length = 0 := by rw [e]; rfl
        rw [sortS_len] at this
        exact absurd (List.eq_nil_of_length_eq_zero this) gd.ne
      | cons z t => exact ⟨z, t, rfl⟩
    have wz0 : IsWd z0 := gd.wd z0 (mem_sortS.mp (by rw [ez0]; exact List.mem_cons_self))
    have l8 := wz0.len.2
    have ht0 : H3 t = some (.lst (.str z0 :: rest.map V.str)) := by rw [ht, ez0]; rfl
    have gI : GrowsH (fun H => Same H3 H) := fun _ _ h s => h.trans s
    have gG : Grows (NG K C g) := ng_grows
    have hLa3 := hLa.keep (kp_same s3)
    have h36 := gd.len
    refine st_asg (bld_lst (I := fun H => Same H3 H) (n := 13) gG (bld_cons gI gG bn_n (bld_cons gI gG (bn_b (b := true) shv tok_c) (bld_cons gI gG (bn_i (i := 0) shv tok_c) (bld_cons gI gG (bn_s (z := "") (by decide +kernel) shv tok_c (by decide +kernel)) (bld_cons gI gG (bn_s (z := "A") (by decide +kernel) shv tok_c (by decide +kernel)) (bld_cons gI gG ?i6 (bld_cons gI gG ?i7 (bld_cons gI gG (bn_s (z := "nowherexx") (by decide +kernel) shv tok_c (by decide +kernel)) (bld_cons gI gG bn_l0 (bld_cons gI gG bn_d (bld_cons gI gG bn_t0 (bld_cons gI gG ?i12 (bld_cons gI gG ?i13 bld_nil))))))))))))) (by decide) (Same.refl _) fun p4 x4 H4 s4 n4 e4 l4 g4 => ?_)
    case i6 =>
      intro H5 Q5 i5 q5
      have l1 : (" " : Str).length = 1 := rfl
      have ll : (z0 ++ (" " : Str)).length = z0.length + 1 := by
        show (z0.cps ++ (" " : Str).cps).size = _
        rw [Array.size_append]
        rfl
      have asc : ∀ c ∈ (z0 ++ (" " : Str)).cps.toList, c < 128 := fun c hc => by
        have e : (z0 ++ (" " : Str)).cps.toList = z0.cps.toList ++ (" " : Str).cps.toList := TL.tl_append z0 " "
        rw [e, sp_cps, List.mem_append] at hc
        rcases hc with hc | hc
        · exact wd_asc wz0 c hc
        · have : c = 32 := List.mem_singleton.mp hc
          omega
      refine ⟨_, rfl, t, _, 0, .str z0, rfl, rfl, .inl (.inl (i5 _ _ ht0)), atI_nat (j := 0) rfl, z0, " ", rfl, rfl, by rw [l1, sizeLine_eq]; omega, q5 _ _ (Same.refl _) (ng_d (od_s (by omega)) (sp_bad z0) (.inl ⟨rfl, .str _⟩) (shv_s asc (by omega)) (tok_s asc))⟩
    case i7 =>
      intro H5 Q5 i5 q5
      obtain ⟨e1, e2⟩ := upper_wd wz0
      exact ⟨_, rfl, t, _, 0, .str z0, rfl, rfl, .inl (.inl (i5 _ _ ht0)), atI_nat (j := 0) rfl, z0, rfl, by omega, q5 _ _ (Same.refl _) (ng_d (od_s (by omega)) e2 (.inl ⟨rfl, .str _⟩) (shv_s (up_asc wz0) (by omega)) (tok_s (up_asc wz0)))⟩
    case i12 =>
      intro H5 Q5 i5 q5
      exact ⟨_, rfl, t, _, 0, .str z0, rfl, rfl, .inl (.inl (i5 _ _ ht0)), atI_nat (j := 0) rfl, lz, fun u hu => q5 _ _ (same_new hu) (ng_d (od_l upd_same) rfl (.inl ⟨rfl, .lst (.inl (.inl upd_same)) (.cons (.str z0) .nil)⟩) (shv_l (wd_asc wz0) (by omega)) (tok_ls (wd_asc wz0)))⟩
    case i13 =>
      intro H5 Q5 i5 q5
      exact ⟨_, rfl, t, _, 0, .str z0, rfl, rfl, .inl (.inl (i5 _ _ ht0)), atI_nat (j := 0) rfl, lz, fun u hu => q5 _ _ (same_new hu) (ng_d (od_t upd_same) rfl (.inl ⟨rfl, .tup (.inl (.inl upd_same)) (.cons (.str z0) .nil)⟩) (shv_t (wd_asc wz0) (by omega)) (tok_tp (wd_asc wz0)))⟩
    refine st_asg (bld_cat (I := fun H => Same H3 H) (n := 4) (m := 13) gI gG (bld_cons gI gG bn_tl (bld_cons gI gG ?j2 (bld_cons gI gG bn_00 (bld_cons gI gG bn_pow bld_nil)))) (by decide) s4 rfl e4 l4 g4 fun Al xs H5 s5 n5 e5 l5 g5 => ?_)
    case j2 =>
      intro H6 Q6 i6 q6
      exact ⟨_, rfl, q6 _ _ (Same.refl _) ⟨.inr ⟨p, L, rfl, hLa3.keep (kp_same i6)⟩, rfl, _, .inr ⟨p, L, g, rfl, hLa3.keep (kp_same i6), h36, rfl⟩, tok_land _ h36⟩⟩
    have s35 := s4.trans s5
    have hLa5 := hLa3.keep (kp_same s35)
    have ht5 := s35 _ _ ht0
    have S5 : Same H H5 := s3.trans s35
    refine ⟨_, rfl, Al, rfl, ⟨_, .inl (.inl e5)⟩, for_list (K := K) (a := Al) (xs := xs) (fun i σ H' => (∃ y5 y6, σ = [some (.ref a), some (.ref p), some (.ref L), some (.ref t), some (.ref Al), y5, y6]) ∧ Same H5 H') ⟨⟨_, _, rfl⟩, Same.refl _⟩ (fun i σ H' _ h => .inl (.inl (h.2 _ _ e5))) ?_ ?_⟩
    · rintro i x σ H6 hx ⟨⟨y5, y6, rfl⟩, s6⟩
      have ng := ng_grows _ _ _ (g5 x (List.mem_of_getElem? hx)) s6
      obtain ⟨_, hbad, txt, hsh, htk⟩ := id ng
      have hLa6 := hLa5.keep (kp_same s6)
      refine ⟨2, rfl, by decide, by decide, fun D hD => lc_range (lo := 0) (n := 2) (fun j H' => ∃ qs : List Addr, qs.length = j ∧ H' D = some (.lst (qs.map V.ref)) ∧ (∀ q ∈ qs, H' q = some (.tup [.str "name", .str txt])) ∧ Same H6 H') ⟨[], rfl, upd_same, fun q hq => (by cases hq), same_new hD⟩ ?_ ?_⟩
      · rintro j Ha hj ⟨qs, hl, hDa, hqs, sa⟩
        refine ⟨rfl, yes_it ⟨_, rfl, _, rfl, _, rfl, _, p, L, g, wd, x, rfl, hLa6.keep (kp_same sa), gd, ng_wv insC hk (ng_grows _ _ _ ng sa), fun e => absurd (e.symm.trans hbad) (by decide), fun _ => ⟨txt, hsh.same sa, fun p' Hb sb hb => ⟨_, sb _ _ hDa, ?_, ?_⟩⟩⟩⟩
        · rw [List.length_map]
          exact small1000 (by omega)
        · refine ⟨qs ++ [p'], by rw [List.length_append, hl]; rfl, by rw [upd_same, List.map_append]; rfl, fun q hq => ?_, same_mut (sa.trans sb) hD⟩
          have nq : ∀ {q : Addr} {o : List V}, Hb q = some (.tup o) → q ≠ D := fun {q o} e z => by
            subst z
            rw [sb _ _ hDa] at e
            cases e
          rcases List.mem_append.mp hq with hq | hq
          · rw [upd_ne (nq (sb _ _ (hqs q hq)))]
            exact sb _ _ (hqs q hq)
          · rw [List.mem_singleton.mp hq, upd_ne (nq hb)]
            exact hb
      · rintro Hc ⟨qs, hl, hDc, hqs, sc⟩
        obtain ⟨q1, q2, eqs⟩ : ∃ q1 q2, qs = [q1, q2] := by
          match qs, hl with
          | [_, _], _ => exact ⟨_, _, rfl⟩
        subst eqs
        refine ⟨_, rfl, ?_⟩
        unfold tNil
        refine shown_reads (hsh.same sc) ?_
        refine ⟨lz, fun u hu => ⟨lz, fun l hl => ⟨l, 2, _, rfl, rfl, upd_same, by decide, by decide, lz, fun r hr => ?_⟩⟩⟩
        have k := (same_new (o := .tup [V.str "name", .str txt]) hu).trans ((same_new (o := .lst [V.ref u]) hl).trans (same_new (o := .lst (List.replicate (2 : Int).toNat [V.ref u]).flatten) hr))
        have hu' := ((same_new (o := .lst [V.ref u]) hl).trans (same_new (o := .lst (List.replicate (2 : Int).toNat [V.ref u]).flatten) hr)) _ _ (upd_same (H := Hc) (a := u) (o := .tup [V.str "name", .str txt]))
        have dT : ∀ {x : Addr} {Hn : Hp}, Hn x = some (.tup [.str "name", .str txt]) → Dp K Hn (.ref x) (.tuple [.str "name", .str txt]) := fun h => .tup (.inl (.inl h)) (.cons (.str _) (.cons (.str _) .nil))
        have sh : SeqAt.shaped (.list [.tuple [.str "name", .str txt], .tuple [.str "name", .str txt]]) = true := shaped_list (by
          have e1 : PyData.canLay0 (.str "name") = true := by decide +kernel
          have e2 := tok_lay htk
          simp [PyData.canLayAll0, PyData.canLay0] at e1 e2 ⊢
          exact ⟨e1, e2⟩) (by simp [PyData.depthAll, PyData.depth])
        refine ⟨.list [.tuple [.str "name", .str txt], .tuple [.str "name", .str txt]], .list [.tuple [.str "name", .str txt], .tuple [.str "name", .str txt]], .lst (.inl (.inl (k _ _ hDc))) (.cons (dT (k _ _ (hqs q1 (by simp)))) (.cons (dT (k _ _ (hqs q2 (by simp)))) .nil)), .lst (.inl (.inl upd_same)) (.cons (dT hu') (.cons (dT hu') .nil)), sh, sh, _, rfl, ?_⟩
        have ee : (!PyData.eqv (.list [.tuple [.str "name", .str txt], .tuple [.str "name", .str txt]]) (.list [.tuple [.str "name", .str txt], .tuple [.str "name", .str txt]])) = false := by
          simp [PyData.eqv, PyData.eqvAll]
        rw [ee]
        exact iteF ⟨⟨_, _, rfl⟩, s6.trans (sc.trans k)⟩
    · rintro σ H6 ⟨⟨y5, y6, rfl⟩, s6⟩
      have hLa6 := hLa5.keep (kp_same s6)
      have hts6 : H6 t = some (.lst ((sortS (names g)).map V.str)) := s6 _ _ (s35 _ _ ht)
      have hne : sortS (names g) ≠ [] := by rw [ez0]; simp
      obtain ⟨ini, zl, ezl⟩ : ∃ ini zl, sortS (names g) = ini ++ [zl] := ⟨_, _, (List.dropLast_concat_getLast hne).symm⟩
      have hzl : zl ∈ names g := mem_sortS.mp (by rw [ezl]; simp)
      have wzl := gd.wd zl hzl
      have ngz : nameB g (.str zl) = true := by
        show (wdB zl && decide (zl ∈ names g)) = true
        rw [show wdB zl = true from wzl, decide_eq_true hzl]
        rfl
      refine ⟨2, rfl, by decide, by decide, fun D hD => lc_range (lo := 0) (n := 2) (fun j H' => H' D = some (.lst ((List.replicate j true).map V.bl)) ∧ Same H6 H') ⟨upd_same, same_new hD⟩ ?_ ?_⟩
      · rintro j Ha hj ⟨hDa, sa⟩
        refine ⟨rfl, yes_it ⟨_, rfl, _, rfl, _, rfl, 1, rfl, t, _, -1, .str zl, rfl, rfl, .inl (.inl (sa _ _ hts6)), by rw [ezl, List.map_append]; exact L2.atI_last _ _, _, p, L, g, wd, .str zl, rfl, hLa6.keep (kp_same sa), gd, .inl ⟨zl, rfl, by have := wzl.len; omega, rfl⟩, fun _ p' Hb sb hb => ?_, fun e => absurd (e.symm.trans ngz) (by decide)⟩⟩
        refine ⟨p', _, 0, _, rfl, rfl, .inl (.inl hb), atI_nat (j := 0) rfl, rfl, _, sb _ _ hDa, ?_, ?_, same_mut (sa.trans sb) hD⟩
        · rw [List.length_map, List.length_replicate]
          exact small1000 (by omega)
        · rw [upd_same, List.replicate_succ', List.map_append]
          rfl
      · rintro Hc ⟨hDc, sc⟩
        exact ⟨D, List.replicate 2 true, rfl, .inl (.inl hDc), q Hc (S5.trans (s6.trans sc))⟩
end
end Wl

/-! the law. -/
namespace Wl
open PySem PySem.Spec PyProof.Rows L2
abbrev sLaw : Stmt := topS 56
abbrev nLaw : List Str := ["_law_script", "_law_k", "_law_purse_here", "_law_great", "_law_laid", "_law_turn", "_law_odd"]
theorem scLaw : FnScope nLaw ["_law_script"] (defScope sLaw) := ⟨rfl, rfl, rfl, by decide +kernel, rfl, by decide +kernel, by decide +kernel⟩
theorem same_x {H H1 H2 : Hp} {a : Addr} (s : Same H H1) (x : SameX a H1 H2) (n : H a = none) : Same H H2 := fun b o e => x b o (fun z => by
  subst z
  rw [n] at e
  cases e) (s _ _ e)
def spLaw (K : PySem.W.Frag) : Sp := fun vs H Q _ => ∃ (a : Addr) (ns : List Int), vs = [.ref a] ∧ SqL K H a (ns.map V.int) ∧ ns.length ≤ 63 ∧ ∀ H', Q (.bl true) H'
theorem FD.sx {a : Addr} {H H' : Hp} {v : V} (hA : PurseAt H a) (h : FD H v) (s : Same H H') : FD H' v := LandDue.same h s
theorem strG_oV (g : Grid) : strG (g.map (List.map oV)) = names g := by rw [← names_gridV, gridV_oV]
theorem map_tru : ∀ zz : List V, zz.map (fun _ => V.bl true) = (List.replicate zz.length true).map V.bl
  | [] => rfl
  | a :: b => by rw [List.map_cons, map_tru b]; rfl
theorem good_due {H : Hp} {L : Addr} {g : Grid} {wd : Nat} (h : GridAt H L g) (gd : Good g wd) : LandDue H (.ref L) none := by
  have hf : First (g.map (List.map oV)) none := by
    rintro i j ⟨row, v, e1, e2, e3⟩
    rw [List.getElem?_map] at e1
    obtain ⟨r, hr, rfl⟩ := Option.map_eq_some_iff.mp e1
    rw [List.getElem?_map] at e2
    obtain ⟨o, ho, rfl⟩ := Option.map_eq_some_iff.mp e2
    cases o with
    | none => cases e3
    | some z =>
      have hc : cellAt g i j = some z := cellAt_of hr ho
      have hz : z ∈ names g := mem_names.mpr ⟨i, j, hc⟩
      have e3' : (!wdB z || decide (z ∈ aheadV (g.map (List.map oV)) i j)) = true := e3
      rw [show wdB z = true from gd.wd z hz] at e3'
      have hm : z ∈ aheadV (g.map (List.map oV)) i j := by simpa using e3'
      have ea : aheadV (g.map (List.map oV)) i j = (spG 0 (g.take i) ++ spR i 0 (r.take j)).map (·.1) := by
        unfold aheadV
        rw [List.map_append, spG_fst, spR_fst, getD_of (row := r.map oV) (by rw [List.getElem?_map, hr]; rfl), ← List.map_take, strG_oV]
        congr 1
        · rw [← List.map_take]
          unfold strR rnames
          rw [List.filterMap_map]
          congr 1
          funext o
          exact strV_oV o
      rw [ea] at hm
      exact ahead_new gd hr ho hm
  refine .inr (.inr ⟨L, _, wd, none, rfl, h.vg, good_size gd, good_odd gd, hf, ?_⟩)
  have : strG (g.map (List.map oV)) ≠ [] := by
    rw [← names_gridV, gridV_oV]
    exact gd.ne
  show none = if strG (g.map (List.map oV)) = [] then some none else none
  rw [if_neg this]
section
variable {P : Program} {w : World} {K : PySem.W.Frag} {mg : Str → Option Value} {base : Heap} {f C cL : Addr} {fd : FuncData}
abbrev tPR : TE := tCall spPR [] E0 (tCons (tVar 2) (tCons (tVar 4) tNil))
abbrev tMd (K : PySem.W.Frag) : TE := tOp (rEqD K) (tCall spMade [] E0 (tCons (tVar 6) tNil)) (tTup (tCons (tC (.str "land")) (tCons (tC .non) tNil)))
theorem md_eq {H : Hp} {p q : Addr} {z : Str} (hz : PyData.canLay0 (.str z) = true) (hp : H p = some (.tup [.str z, .non])) (hq : H q = some (.tup [.str z, .non])) : ∃ d1 d2, Dp K H (.ref p) d1 ∧ Dp K H (.ref q) d2 ∧ SeqAt.shaped d1 = true ∧ SeqAt.shaped d2 = true ∧ PyData.eqv d1 d2 = true := by
  have sh : SeqAt.shaped (.tuple [.str z, .none]) = true := shaped_tuple (by
    simp [PyData.canLayAll0, PyData.canLay0] at hz ⊢
    exact hz) (by simp [PyData.depthAll, PyData.depth])
  exact ⟨.tuple [.str z, .none], .tuple [.str z, .none], .tup (.inl (.inl hp)) (.cons (.str _) (.cons .non .nil)), .tup (.inl (.inl hq)) (.cons (.str _) (.cons .non .nil)), sh, sh, by simp [PyData.eqv, PyData.eqvAll]⟩
theorem ok_law (F : Fun K "law" "law" sLaw f fd) (B : Bi mg) (T : Txt K mg C) (hI : HasIA P w K mg base C cL)
    (hCell : Has P w K mg base "_law_cell" 1 ["_law_script", "_law_k"] (spCell K)) (hPurse : Has P w K mg base "_law_purse" 1 ["_law_cell_here"] spPurse) (hPick : Has P w K mg base "_law_pick" 1 ["_law_purse_here", "_law_many"] spPick) (hLand : Has P w K mg base "_law_land" 4 ["_law_purse_here", "_law_most"] spLand)
    (hPR : Has P w K mg base "_law_parts_right" 7 psPR spPR) (hM : Has P w K mg base "_law_made" 6 ["_law_laid"] spMade) (hFo : Has P w K mg base "_law_forms" 3 psForms spForms) (hLk : Has P w K mg base "_law_lakes" 2 ["_law_purse_here"] spLakes) (hNR : HasQ P w K mg base "_law_names_right" 7 psNR (spNR C)) :
    FnOkG P w K mg base 8 f fd ["_law_script"] (spLaw K) := by
  obtain ⟨fI, fdI, MI, GI, bI⟩ := hI
  refine okG F scLaw (fun vs H Q E h => ?_) (fun cdv A outer s H vs Q E hgd hr h => ?_)
  · obtain ⟨a, ns, rfl, _⟩ := h
    rfl
  · obtain ⟨a, ns, rfl, hSc, hlen, q⟩ := h
    refine ⟨_, pss_cons (ps_for PassesOwn.never rfl (pi_range1 rfl B.range (pa_cons (pe_callB (call_max2 rfl) (by rfl) B.max (by decide +kernel) (pa_cons pe_int (pa_cons (pe_callB (call_min2 rfl) (by rfl) B.min (by decide +kernel) (pa_cons (pe_callB call_len_seq (by rfl) B.len PySem.boot_len (pa_cons (pv 0) pa_nil)) (pa_cons pe_int pa_nil))) pa_nil))) pa_nil)) (pg_name (i := 1) scLaw.nd rfl (.inl rfl))
        (pss_cons (ps_set (i := 2) scLaw.nd rfl (.inr rfl) (pe_h hPurse hr (pa_cons (pe_h hCell hr (pa_cons (pv 0) (pa_cons (pv 1) pa_nil))) pa_nil)))
        (pss_cons (ps_set (i := 3) scLaw.nd rfl (.inl rfl) (pe_cmpR op_eq (pe_h hPick hr (pa_cons (pv 2) (pa_cons pe_int pa_nil))) pe_int (nomark _)))
        (pss_cons (ps_set (i := 4) scLaw.nd rfl (.inr rfl) (pe_h hLand hr (pa_cons (pv 2) (pa_cons (pe_ix (ix_list : IxR _ (rIxL K)) (pe_lst (pa_cons pe_int (pa_cons pe_int pa_nil))) (pe_callTy call_int1 (by rfl) B.int (by decide +kernel) (pa_cons (pv 3) pa_nil)) (fun _ _ => rfl)) pa_nil))))
        (pss_cons (ps_if (pt_not (pt_val (pe_callB (cr_all rfl) (by rfl) B.all (by decide +kernel) (pa_cons (pe_lc (own := [("_law_turn", 5)]) (g := gName 5) (tt := tYes) (te := tPR) rfl scLaw.nd (pi_range1 (by rfl) B.range (pa_cons pe_int pa_nil)) (blkOk_by (N := nLaw) (sc := defScope sLaw) (by decide +kernel)) (fun _ _ _ _ _ => pg_name (i := 5) scLaw.nd rfl (.inl rfl)) (fun _ _ _ _ _ => pts_nil)
            (fun _ _ _ _ _ => pe_h hPR hr (pa_cons (pv 2) (pa_cons (pv 4) pa_nil)))) pa_nil)))) (pss_one (ps_ret pe_bl)) pss_nil)
        (pss_cons (ps_if (pt_not (pt_val (pe_callB (cr_all rfl) (by rfl) B.all (by decide +kernel) (pa_cons (pe_lc (own := [("_law_odd", 6)]) (g := gName 6) (tt := tYes) (te := tMd K) rfl scLaw.nd (pi_list (pe_h hFo hr (pa_cons (pv 2) (pa_cons (pv 4) pa_nil)))) (blkOk_by (N := nLaw) (sc := defScope sLaw) (by decide +kernel)) (fun _ _ _ _ _ => pg_name (i := 6) scLaw.nd rfl (.inl rfl)) (fun _ _ _ _ _ => pts_nil)
            (fun _ _ _ _ _ => pe_cmpR (op_eqD hr.units) (pe_h hM hr (pa_cons (pv 6) pa_nil)) (pe_tup (pa_cons pe_str (pa_cons pe_non pa_nil))) (nomark _))) pa_nil)))) (pss_one (ps_ret pe_bl)) pss_nil)
        (pss_cons (ps_if (PW.pt (pw_or (pt_cmpR (op_neD hr.units) (pe_h hM hr (pa_cons (pe_h hLk hr (pa_cons (pv 2) pa_nil)) pa_nil)) (pe_tup (pa_cons pe_str (pa_cons pe_non pa_nil))) (nomark _)) (pw_or1 (pt_cmpR (op_neD hr.units) (pe_h hM hr (pa_cons (pv 4) pa_nil)) (pe_tup (pa_cons pe_str (pa_cons pe_non pa_nil))) (nomark _))))) (pss_one (ps_ret pe_bl)) pss_nil)
        (pss_one (ps_if (pt_not (pt_val (pe_hQ hNR hgd hr (pa_cons (pv 2) (pa_cons (pe_make MI GI (hr.mono (by decide)) rfl T.mgC bI .nil (passE (E := fun _ _ _ => False) takes_noN) (pa_cons (pv 4) pa_nil)) (pa_cons (pv 4) pa_nil)))))) (pss_one (ps_ret pe_bl)) pss_nil)))))))))
      (pss_one (ps_ret pe_bl)), ?_⟩
    have hln : ((ns.map V.int).length : Int) = ns.length := by rw [List.length_map]
    refine ⟨_, rfl, a, _, rfl, .inl hSc, _, _, rfl, _, _, rfl, _, rfl, ?_, ?_, ?_⟩
    · rw [hln]; split <;> split <;> omega
    · rw [hln]; split <;> split <;> omega
    rw [hln]
    refine for_range (lo := 0) (n := _) (fun i σ H' => (∃ y1 y2 y3 y4 y5 y6, σ = [some (.ref a), y1, y2, y3, y4, y5, y6]) ∧ Same H H') ⟨⟨_, _, _, _, _, _, rfl⟩, Same.refl H⟩ ?_ ?_
    · rintro i σ H1 hi ⟨⟨y1, y2, y3, y4, y5, y6, rfl⟩, s1⟩
      have hi8 : i < 64 := by
        have : ∀ n : Int, (if (if (5 : Int) < n then (5 : Int) else n) > 2 then (if (5 : Int) < n then (5 : Int) else n) else 2).toNat ≤ 63 := fun n => by
          split <;> split <;> omega
        exact Nat.lt_of_lt_of_le hi (Nat.le_trans (this _) (by decide))
      refine ⟨_, rfl, _, rfl, a, ns, 0 + i, rfl, s1.seq hSc, by omega, by omega, fun v H2 s2 => ⟨v, rfl, fun pu H3 hpu s3 hP3 => ?_⟩⟩
      have hpu0 : H pu = none := (s1.trans s2).free hpu
      have sP3 : Same H H3 := (s1.trans s2).trans s3
      refine ⟨_, rfl, pu, 4, rfl, hP3, by decide, by decide, fun r4 H4 _ _ hP4 x4 _ => ⟨rfl, ?_⟩⟩
      refine ⟨_, rfl, lz, fun l hl => ⟨_, rfl, .inr ⟨_, rfl, ?_⟩⟩⟩
      have k4 := same_new (o := .lst [V.int 4, .int 6]) hl
      obtain ⟨m, hm, hat⟩ : ∃ m : Int, (m = 4 ∨ m = 6) ∧ atI [V.int 4, .int 6] (if decide (V.int r4 = V.int 3) then (1 : Int) else 0) = some (.int m) := by
        cases decide (V.int r4 = V.int 3)
        · exact ⟨4, .inl rfl, rfl⟩
        · exact ⟨6, .inr rfl, rfl⟩
      refine ⟨l, _, _, .int m, rfl, rfl, .inl (.inl upd_same), hat, pu, m, rfl, hP4.same k4, by omega, by omega, fun L g wd H5 gd l1 l2 hG5 hP5 x5 => ?_⟩
      have S5 : Same H H5 := same_x sP3 (x4.trans ((sx k4).trans x5)) hpu0
      -- parts
      refine ⟨6, rfl, by decide, by decide, fun D hD => lc_range (lo := 0) (n := 6) (fun j H' => H' D = some (.lst ((List.replicate j true).map V.bl)) ∧ PurseAt H' pu ∧ SameX pu H5 H') ⟨upd_same, hP5.same (same_new hD), sx (same_new hD)⟩ ?_ ?_⟩
      · rintro j Ha hj ⟨hDa, hPa, xa⟩
        have nD : D ≠ pu := hP5.ne hD
        refine ⟨rfl, yes_it ⟨_, rfl, _, rfl, pu, L, g, wd, rfl, hPa, hG5.keep (purse_tk hP5 xa), gd, fun Hb hPb xb => ⟨_, xb _ _ nD hDa, ?_, ?_, ?_, sameX_mut (xa.trans xb) hD⟩⟩⟩
        · rw [List.length_map, List.length_replicate]
          exact small1000 (by omega)
        · rw [upd_same, List.replicate_succ', List.map_append]
          rfl
        · obtain ⟨x0, x1, x2, hx, hx1⟩ := hPb
          exact ⟨x0, x1, x2, by rw [upd_ne nD.symm]; exact hx, hx1⟩
      · rintro H6 ⟨hD6, hP6, x6⟩
        have hG6 := hG5.keep (purse_tk hP5 x6)
        refine ⟨D, List.replicate 6 true, rfl, .inl (.inl hD6), true, rfl, iteF ?_⟩
        -- forms
        refine ⟨_, rfl, _, rfl, pu, L, g, wd, rfl, hP6, hG6, gd, fun t ys H7 hP7 x7 ht7 nt l7 hf7 => ⟨t, rfl, ⟨_, .inl (.inl ht7)⟩, fun D2 hD2 => ?_⟩⟩
        have hG7 := hG6.keep (purse_tk hP6 x7)
        refine lc_rel (walk_list (K := K) (a := t) (xs := ys)) hD2 (fun _ => true) (fun _ y _ => y = .bl true) (fun H' s' => .inl (.inl (s' _ _ ht7))) (fun _ => rfl) (fun x H' _ _ Q' q' => q') ?_ (fun _ _ _ _ _ _ _ e => e) (small1000 (by omega)) ?_
        · intro x H' hx _ s' Q' q'
          refine ⟨_, rfl, x, some none, rfl, (hf7 x hx).same s', fun p' Hb sb ⟨u, hu, hb⟩ => ⟨lz, fun r hr => ?_⟩⟩
          cases hu
          have k := same_new (o := .tup [V.str "land", .non]) hr
          obtain ⟨d1, d2, e1, e2, e3, e4, e5⟩ := md_eq (K := K) (z := "land") (by decide +kernel) (k _ _ hb) (upd_same (H := Hb) (a := r))
          refine ⟨d1, d2, e1, e2, e3, e4, ?_⟩
          rw [e5]
          exact q' _ _ (sb.trans k) rfl
        · intro zs H8 s8 hD8 he
          have hP8 := hP7.same s8
          have hG8 := hG7.keep (tk_same s8)
          have ez := each_fn (f := fun _ : V => V.bl true) he
          have ez2 : zs = (List.replicate (ys.filter fun _ => true).length true).map V.bl := by
            rw [ez, map_tru]
          rw [ez2] at hD8
          have hall : ∀ n : Nat, (List.replicate n true).all id = true := fun n => by
            rw [List.all_eq_true]
            intro x hx
            exact (List.mem_replicate.mp hx).2
          refine ⟨D2, _, rfl, .inl (.inl hD8), _, rfl, ?_⟩
          rw [hall]
          refine iteF ?_
          -- lakes
          refine ⟨_, rfl, pu, rfl, hP8, fun p9 H9 hP9 x9 hf9 => ⟨_, some none, rfl, hf9, fun p' Hb sb ⟨u, hu, hb⟩ => ⟨lz, fun r hr => ?_⟩⟩⟩
          cases hu
          have k := same_new (o := .tup [V.str "land", .non]) hr
          obtain ⟨d1, d2, e1, e2, e3, e4, e5⟩ := md_eq (K := K) (z := "land") (by decide +kernel) (k _ _ hb) (upd_same (H := Hb) (a := r))
          refine ⟨d1, d2, e1, e2, e3, e4, _, rfl, ?_⟩
          rw [e5]
          have hG9 := hG8.keep (purse_tk hP8 x9)
          have s9 := sb.trans k
          have hGa := hG9.keep (tk_same s9)
          refine iteF ⟨_, rfl, _, none, rfl, good_due hGa gd, fun p2 Hc sc hc => ⟨lz, fun r2 hr2 => ?_⟩⟩
          have hc : Hc p2 = some (.tup [.str "made", .non]) := hc
          have k2 := same_new (o := .tup [V.str "made", .non]) hr2
          obtain ⟨d1, d2, e1, e2, e3, e4, e5⟩ := md_eq (K := K) (z := "made") (by decide +kernel) (k2 _ _ hc) (upd_same (H := Hc) (a := r2))
          refine ⟨d1, d2, e1, e2, e3, e4, _, rfl, ?_⟩
          rw [e5]
          have sA := s9.trans (sc.trans k2)
          have hGd := hG9.keep (tk_same sA)
          -- names
          refine iteF ⟨_, rfl, _, rfl, fun y dy ny ndy ne => ?_⟩
          have sm : ∀ {Hn : Hp}, Hn y = none → Hn dy = none → Same Hn (upd (upd Hn dy (.own y)) y (.ins C dy [])) := fun n1 n2 b o e => by
            rw [upd_ne (ne_of_none e n1), upd_ne (ne_of_none e n2)]
            exact e
          refine ⟨y, dy, .ref L, none, rfl, upd_same, good_due (hGd.keep (tk_same (sm ny ndy))) gd, (fun o e => by cases e), fun _ L' g' wd' Hm eL hGm gdm hk hLa => ⟨rfl, _, rfl, ?_⟩⟩
          cases eL
          cases grid_det hGm (hGd.keep (tk_same (sm ny ndy)))
          refine ⟨pu, y, L, g, wd, rfl, hLa, gd, fun Hf sf => ⟨true, rfl, iteF ?_⟩⟩
          have sMk : Same _ Hm := fun b o hb => hk b o (fun z => by subst z; rw [ny] at hb; cases hb) (sm ny ndy _ _ hb)
          refine ⟨⟨_, _, _, _, _, _, rfl⟩, ?_⟩
          have S6 := same_x S5 x6 hpu0
          have S7 := same_x S6 x7 hpu0
          have S9 := same_x (S7.trans s8) x9 hpu0
          exact (S9.trans sA).trans (sMk.trans sf)
    · rintro σ H1 ⟨⟨y1, y2, y3, y4, y5, y6, rfl⟩, s1⟩
      exact q H1
end
end Wl

namespace Wl
open PySem PySem.Spec PyProof.Rows L2
/-- an exception's class that is not followed -/
def isExc (o : Obj) : Bool := match o.data with
  | .cls cd => (cd.mro.any fun v => match v with | .type n => n == "Exception" | _ => false) && !(decide (cd.name = "NoLand") || decide (cd.name = "NoName") || decide (cd.name = "WordError") || decide (cd.name = "LandError") || decide (cd.name = "JoinError"))
  | _ => false
/-- what these objects name, exceptions left out -/
def refsL (g : Addr → Option Obj) (as : List Addr) : List Addr := as.flatMap fun a => match g a with
  | some o => if isExc o then [] else He.refsD o
  | none => []
def layK (g : Addr → Option Obj) : Nat → List Addr → List Addr
  | 0, l => l
  | n + 1, l => l ++ layK g n (refsL g l)
def frK (g : Addr → Option Obj) : PySem.W.Frag := He.frG g (layK g 4 [mainGlobals])
/-- the hook of facts over such a frame, with one more test of the frame -/
def hookK (fa : List He.Fa) (fn : List He.DefD) (ex : PySem.W.Frag → Bool) : PySem.W.Hook where
  α := He.AlD × Bool
  obs := fun s => (He.obsD fa fn (frK s.heap.get?), ex (frK s.heap.get?))
  val := fun _ => (He.valD fn, true)
  says := fun _ h => ∃ K : PySem.W.Frag, K.In h ∧ He.SaysD fa fn K ∧ ex K = true
  of := fun _ _ e => ⟨_, He.frG_in, congrArg (fun z : He.AlD × Bool => z.1) e, congrArg (fun z : He.AlD × Bool => z.2) e⟩
  keeps := fun _ _ _ ⟨K, hK, c⟩ k => ⟨K, PySem.W.Frag.In.keeps hK k, c⟩
theorem map3 {α β γ δ : Type} {o : Option α} {f : α → β} {g : α → γ} {h : α → δ} {a : β} {b : γ} {c : δ} (h1 : o.map (fun s => (f s, g s)) = some (a, b)) (h2 : o.map h = some c) : o.map (fun s => (f s, g s, h s)) = some (a, b, c) := by
  cases o with
  | none => cases h1
  | some x =>
    have e1 := Option.some.inj h1
    have e2 := Option.some.inj h2
    show some (f x, g x, h x) = _
    rw [(Prod.mk.inj e1).1, (Prod.mk.inj e1).2, e2]
/-- what else a class says: isinstance -/
def exC (K : PySem.W.Frag) (x : Str) : Bool :=
  He.eqO (PySem.W.findIn K (.ref (He.ga K x)) "__class__") (some (some (.builtin "object.__class__"))) && (decide (PySem.W.mroIn K (He.ga K x) (.type "object") = some true) && decide (PySem.W.kitOne K (.ref (He.ga K x)) (.ref (He.ga K x)) = some true))
def exT0 (K : PySem.W.Frag) : Bool :=
  He.eqO (PySem.W.specialIn K (.builtin "object.__class__") "__get__") (some (some (.builtin "getset_descriptor.__get__"))) && (decide (PySem.W.takesIn K (.builtin "object.__class__") = some true) && exC K "Land")
def exX (K : PySem.W.Frag) : Bool := sortB K && (errOf K 9 "place" && (errOf K 10 "name" && decide (PySem.W.kitOne K (.ref (He.ga K "Land")) (.type "str") = some false)))
def dOf (x : Str) (st : Stmt) (ds : List He.Dv) : He.DefD := ⟨(x, none), x, x, defArgs st, defBody st, defScope st, ds, []⟩
def dMet (cl m q : Str) (st : Stmt) (ds : List He.Dv) : He.DefD := ⟨(cl, some m), m, q, defArgs st, defBody st, defScope st, ds, []⟩
def exT (K : PySem.W.Frag) : Bool := exT0 K && exX K
def fn : List He.DefD := dMet "NoLand" "__init__" "NoLand.__init__" (inClass (topS 14) 0) [] :: dMet "NoName" "__init__" "NoName.__init__" (inClass (topS 15) 0) [] :: dOf "is_word" wIsWord [] :: dOf "are_rows" sAreRows [] :: dOf "wrong_spot" sWrong [] :: dOf "spots_in" sSpotsIn [] :: dOf "checked_spots" sSpots [] :: dMet "Land" "__init__" "Land.__init__" sInit [] :: dMet "Land" "check_name" "Land.check_name" sCheck [] :: dMet "Land" "names" "Land.names" sLNames [] :: dMet "Land" "spot" "Land.spot" sSpot [] :: dMet "Land" "neighbours" "Land.neighbours" sNeigh [] :: dMet "Land" "__repr__" "Land.__repr__" sRepr [] :: dOf "_law_cell" sCell [] :: dOf "_law_purse" sPurse [] :: dOf "_law_pick" sPick [] :: dOf "_law_menu" sMenu [] :: dOf "_law_word" sWord [] :: dOf "_law_fresh" sFresh [] :: dOf "_law_land" sLand [] :: dOf "_law_names" sNames [] :: dOf "_law_sort" sSort [] :: dOf "_law_made" sMade [] :: dOf "_law_found" sFound [] :: dOf "_law_odd_part" sOddP [] :: dOf "_law_put" sPutV [] :: dOf "_law_first_odd" sFirst [] :: dOf "_law_parts_right" sPR [] :: dOf "_law_forms" sForms [] :: dOf "_law_lakes" sLakes [] :: dOf "_law_names_right" sNR [] :: dOf "law" sLaw [] :: []
def fa : List He.Fa := .glo "NoLand" :: .meth "NoLand" "__init__" :: .glo "NoName" :: .meth "NoName" "__init__" :: .glo "is_word" :: .glo "are_rows" :: .glo "wrong_spot" :: .glo "spots_in" :: .glo "checked_spots" :: .glo "Land" :: .meth "Land" "check_name" :: .meth "Land" "names" :: .meth "Land" "spot" :: .meth "Land" "neighbours" :: .meth "Land" "__repr__" :: .glo "_law_cell" :: .glo "_law_purse" :: .glo "_law_pick" :: .glo "_law_menu" :: .glo "_law_word" :: .glo "_law_fresh" :: .glo "_law_land" :: .glo "_law_names" :: .glo "_law_sort" :: .glo "_law_made" :: .glo "_law_found" :: .glo "_law_odd_part" :: .glo "_law_put" :: .glo "_law_first_odd" :: .glo "_law_parts_right" :: .glo "_law_forms" :: .glo "_law_lakes" :: .glo "_law_names_right" :: .glo "law" :: .str "LETTERS" "abcdefghijklmnopqrstuvwxyz" :: .int "LONGEST_WORD" 8 :: .int "MOST_ROWS" 6 :: .int "MOST_COLUMNS" 6 :: .free "repr" :: .cls "Land" :: .mkr "Land" :: .noat "Land" "spots" :: .noat "Land" "rows" :: .exm "NoLand" "LandError" true :: .exm "NoName" "LandError" true :: .free "len" :: .free "range" :: .free "isinstance" :: .free "tuple" :: .free "list" :: .free "sorted" :: .free "all" :: .free "int" :: .free "max" :: .free "min" :: .free "enumerate" :: .free "str" :: []
abbrev R : PySem.W.OpenRow := PySem.W.OpenLaw.row PySem.Challenge.rw_wordlines_k07_lands_refused
abbrev hk : PySem.W.Hook := hookK fa fn exT
def ob (s : PySem.W.SharedT) : He.AlD × Bool := (He.obsD fa fn (frK (HandSHeadRun.getT s)), exT (frK (HandSHeadRun.getT s)))
theorem ob_eq (s : PySem.W.SharedT) : ob s = hk.obs s.abs := by
  have e : HandSHeadRun.getT s = s.abs.heap.get? := funext (HandSHeadRun.getT_eq s)
  unfold ob
  rw [e]
  rfl
def others : List PySem.Str := "_wall" :: "WordError" :: "LandError" :: "JoinError" :: "NoWord" :: "NoChanges" :: "NoText" :: "NoAge" :: "NoSure" :: "NoRings" :: "NoThings" :: "NoCount" :: "NoRow" :: "NoLand" :: "NoName" :: "NoGathering" :: "NoMap" :: "NoTelling" :: "NoBack" :: "Told" :: "Full" :: "Clash" :: "TooMany" :: "LETTERS" :: "LONGEST_WORD" :: "is_word" :: "MOST_ROWS" :: "MOST_COLUMNS" :: "LAKE" :: "are_rows" :: "wrong_spot" :: "spots_in" :: "checked_spots" :: "Land" :: "_law_cell" :: "_law_purse" :: "_law_pick" :: "_law_menu" :: "_law_word" :: "_law_fresh" :: "_law_land" :: "_law_names" :: "_law_sort" :: "_law_made" :: "_law_found" :: "_law_odd_part" :: "_law_put" :: "_law_first_odd" :: "_law_parts_right" :: "_law_forms" :: "_law_lakes" :: "_law_names_right" :: []
theorem facts {P : Program} {w : World} {K : PySem.W.Frag} {h : Heap} {mg : Str → Option Value} {f : Addr} (X : K.In h) (G : h.Ns mainGlobals mg) (hfa : mg ("law" : Str) = some (.ref f)) (c : He.SaysD fa fn K) (cx : exT K = true) :
    ∃ fd : FuncData, (∀ (s : Shared) (v : Value), BindsTo s fd ⟨[v], []⟩ [("_law_script", v)]) ∧ ∀ base : Heap, K.In base → base.Ns mainGlobals mg → FnOkG P w K mg base 8 f fd ["_law_script"] (spLaw K) := by
  have B : Bi mg := ⟨He.free_ok X G (c.fact 45 (f := .free "len") rfl), He.free_ok X G (c.fact 46 (f := .free "range") rfl), He.free_ok X G (c.fact 47 (f := .free "isinstance") rfl), He.free_ok X G (c.fact 48 (f := .free "tuple") rfl), He.free_ok X G (c.fact 49 (f := .free "list") rfl), He.free_ok X G (c.fact 50 (f := .free "sorted") rfl), He.free_ok X G (c.fact 51 (f := .free "all") rfl), He.free_ok X G (c.fact 52 (f := .free "int") rfl), He.free_ok X G (c.fact 53 (f := .free "max") rfl), He.free_ok X G (c.fact 54 (f := .free "min") rfl), He.free_ok X G (c.fact 55 (f := .free "enumerate") rfl), He.free_ok X G (c.fact 56 (f := .free "str") rfl)⟩
  obtain ⟨fd0, F0⟩ := c.def_ 0 (d := dMet "NoLand" "__init__" "NoLand.__init__" (inClass (topS 14) 0) []) rfl
  obtain ⟨fd1, F1⟩ := c.def_ 1 (d := dMet "NoName" "__init__" "NoName.__init__" (inClass (topS 15) 0) []) rfl
  obtain ⟨fd2, F2⟩ := c.def_ 2 (d := dOf "is_word" wIsWord []) rfl
  obtain ⟨fd3, F3⟩ := c.def_ 3 (d := dOf "are_rows" sAreRows []) rfl
  obtain ⟨fd4, F4⟩ := c.def_ 4 (d := dOf "wrong_spot" sWrong []) rfl
  obtain ⟨fd5, F5⟩ := c.def_ 5 (d := dOf "spots_in" sSpotsIn []) rfl
  obtain ⟨fd6, F6⟩ := c.def_ 6 (d := dOf "checked_spots" sSpots []) rfl
  obtain ⟨fd7, F7⟩ := c.def_ 7 (d := dMet "Land" "__init__" "Land.__init__" sInit []) rfl
  obtain ⟨fd8, F8⟩ := c.def_ 8 (d := dMet "Land" "check_name" "Land.check_name" sCheck []) rfl
  obtain ⟨fd9, F9⟩ := c.def_ 9 (d := dMet "Land" "names" "Land.names" sLNames []) rfl
  obtain ⟨fd10, F10⟩ := c.def_ 10 (d := dMet "Land" "spot" "Land.spot" sSpot []) rfl
  obtain ⟨fd11, F11⟩ := c.def_ 11 (d := dMet "Land" "neighbours" "Land.neighbours" sNeigh []) rfl
  obtain ⟨fd12, F12⟩ := c.def_ 12 (d := dMet "Land" "__repr__" "Land.__repr__" sRepr []) rfl
  obtain ⟨fd13, F13⟩ := c.def_ 13 (d := dOf "_law_cell" sCell []) rfl
  obtain ⟨fd14, F14⟩ := c.def_ 14 (d := dOf "_law_purse" sPurse []) rfl
  obtain ⟨fd15, F15⟩ := c.def_ 15 (d := dOf "_law_pick" sPick []) rfl
  obtain ⟨fd16, F16⟩ := c.def_ 16 (d := dOf "_law_menu" sMenu []) rfl
  obtain ⟨fd17, F17⟩ := c.def_ 17 (d := dOf "_law_word" sWord []) rfl
  obtain ⟨fd18, F18⟩ := c.def_ 18 (d := dOf "_law_fresh" sFresh []) rfl
  obtain ⟨fd19, F19⟩ := c.def_ 19 (d := dOf "_law_land" sLand []) rfl
  obtain ⟨fd20, F20⟩ := c.def_ 20 (d := dOf "_law_names" sNames []) rfl
  obtain ⟨fd21, F21⟩ := c.def_ 21 (d := dOf "_law_sort" sSort []) rfl
  obtain ⟨fd22, F22⟩ := c.def_ 22 (d := dOf "_law_made" sMade []) rfl
  obtain ⟨fd23, F23⟩ := c.def_ 23 (d := dOf "_law_found" sFound []) rfl
  obtain ⟨fd24, F24⟩ := c.def_ 24 (d := dOf "_law_odd_part" sOddP []) rfl
  obtain ⟨fd25, F25⟩ := c.def_ 25 (d := dOf "_law_put" sPutV []) rfl
  obtain ⟨fd26, F26⟩ := c.def_ 26 (d := dOf "_law_first_odd" sFirst []) rfl
  obtain ⟨fd27, F27⟩ := c.def_ 27 (d := dOf "_law_parts_right" sPR []) rfl
  obtain ⟨fd28, F28⟩ := c.def_ 28 (d := dOf "_law_forms" sForms []) rfl
  obtain ⟨fd29, F29⟩ := c.def_ 29 (d := dOf "_law_lakes" sLakes []) rfl
  obtain ⟨fd30, F30⟩ := c.def_ 30 (d := dOf "_law_names_right" sNR []) rfl
  obtain ⟨fd31, F31⟩ := c.def_ 31 (d := dOf "law" sLaw []) rfl
  have e := hfa.symm.trans (He.glo_ok X G (c.fact 33 (f := .glo "law") rfl))
  cases e
  have f0 : Fun K "__init__" "NoLand.__init__" (inClass (topS 14) 0) _ fd0 := He5.fun_of F0
  have f1 : Fun K "__init__" "NoName.__init__" (inClass (topS 15) 0) _ fd1 := He5.fun_of F1
  have f2 : Fun K "is_word" "is_word" wIsWord _ fd2 := He5.fun_of F2
  have f3 : Fun K "are_rows" "are_rows" sAreRows _ fd3 := He5.fun_of F3
  have f4 : Fun K "wrong_spot" "wrong_spot" sWrong _ fd4 := He5.fun_of F4
  have f5 : Fun K "spots_in" "spots_in" sSpotsIn _ fd5 := He5.fun_of F5
  have f6 : Fun K "checked_spots" "checked_spots" sSpots _ fd6 := He5.fun_of F6
  have f7 : Fun K "__init__" "Land.__init__" sInit _ fd7 := He5.fun_of F7
  have f8 : Fun K "check_name" "Land.check_name" sCheck _ fd8 := He5.fun_of F8
  have f9 : Fun K "names" "Land.names" sLNames _ fd9 := He5.fun_of F9
  have f10 : Fun K "spot" "Land.spot" sSpot _ fd10 := He5.fun_of F10
  have f11 : Fun K "neighbours" "Land.neighbours" sNeigh _ fd11 := He5.fun_of F11
  have f12 : Fun K "__repr__" "Land.__repr__" sRepr _ fd12 := He5.fun_of F12
  have f13 : Fun K "_law_cell" "_law_cell" sCell _ fd13 := He5.fun_of F13
  have f14 : Fun K "_law_purse" "_law_purse" sPurse _ fd14 := He5.fun_of F14
  have f15 : Fun K "_law_pick" "_law_pick" sPick _ fd15 := He5.fun_of F15
  have f16 : Fun K "_law_menu" "_law_menu" sMenu _ fd16 := He5.fun_of F16
  have f17 : Fun K "_law_word" "_law_word" sWord _ fd17 := He5.fun_of F17
  have f18 : Fun K "_law_fresh" "_law_fresh" sFresh _ fd18 := He5.fun_of F18
  have f19 : Fun K "_law_land" "_law_land" sLand _ fd19 := He5.fun_of F19
  have f20 : Fun K "_law_names" "_law_names" sNames _ fd20 := He5.fun_of F20
  have f21 : Fun K "_law_sort" "_law_sort" sSort _ fd21 := He5.fun_of F21
  have f22 : Fun K "_law_made" "_law_made" sMade _ fd22 := He5.fun_of F22
  have f23 : Fun K "_law_found" "_law_found" sFound _ fd23 := He5.fun_of F23
  have f24 : Fun K "_law_odd_part" "_law_odd_part" sOddP _ fd24 := He5.fun_of F24
  have f25 : Fun K "_law_put" "_law_put" sPutV _ fd25 := He5.fun_of F25
  have f26 : Fun K "_law_first_odd" "_law_first_odd" sFirst _ fd26 := He5.fun_of F26
  have f27 : Fun K "_law_parts_right" "_law_parts_right" sPR _ fd27 := He5.fun_of F27
  have f28 : Fun K "_law_forms" "_law_forms" sForms _ fd28 := He5.fun_of F28
  have f29 : Fun K "_law_lakes" "_law_lakes" sLakes _ fd29 := He5.fun_of F29
  have f30 : Fun K "_law_names_right" "_law_names_right" sNR _ fd30 := He5.fun_of F30
  have f31 : Fun K "law" "law" sLaw _ fd31 := He5.fun_of F31
  refine ⟨fd31, fun s v => ?_, fun base _ _ => ?_⟩
  · obtain ⟨oc, od, kV, doc, pm, an, cdv, ct, osl, e, l, c⟩ := f31.ex
    subst e
    exact .of_eq rfl
  have hrepr : mg "repr" = none := He.free_ok X G (c.fact 38 (f := .free "repr") rfl)
  have Gk' : Gk mg := ⟨He.str_ok X G (c.fact 34 (f := .str "LETTERS" "abcdefghijklmnopqrstuvwxyz") rfl), He.int_ok X G (c.fact 35 (f := .int "LONGEST_WORD" 8) rfl), He.int_ok X G (c.fact 36 (f := .int "MOST_ROWS" 6) rfl), He.int_ok X G (c.fact 37 (f := .int "MOST_COLUMNS" 6) rfl)⟩
  have T : Txt K mg (He.ga K "Land") := ⟨He.cls_ok (c.fact 39 (f := .cls "Land") rfl), He.noat_ok (c.fact 41 (f := .noat "Land" "spots") rfl), He.noat_ok (c.fact 42 (f := .noat "Land" "rows") rfl), He.glo_ok X G (c.fact 9 (f := .glo "Land") rfl)⟩
  unfold exT at cx
  rw [Bool.and_eq_true] at cx
  obtain ⟨cx, cz⟩ := cx
  unfold exT0 exC at cx
  simp only [Bool.and_eq_true] at cx
  obtain ⟨e2, e3, a1, a2, a3⟩ := cx
  have insC : C8.InsC K (He.ga K "Land") := ⟨T.cl, He.eqO_ok a1, He.eqO_ok e2, of_decide_eq_true e3, of_decide_eq_true a2, of_decide_eq_true a3⟩
  unfold exX at cz
  simp only [Bool.and_eq_true] at cz
  obtain ⟨z0, x0, x1, y0⟩ := cz
  have SG : SortG mg (adK K) (bdK K) := sort_ok X G z0
  have ENoLand := err_ok (mg := mg) (C := He.ga K "NoLand") (f := "place") (n := 9) x0
  have ENoName := err_ok (mg := mg) (C := He.ga K "NoName") (f := "name") (n := 10) x1
  have hkS : PySem.W.kitOne K (.ref (He.ga K "Land")) (.type "str") = some false := of_decide_eq_true y0
  have hmL : PySem.W.exmOne K (.ref (He.ga K "NoLand")) (.ref (bdK K 1)) = some true := He.exm_ok (c.fact 43 (f := .exm "NoLand" "LandError" true) rfl)
  have hmN : PySem.W.exmOne K (.ref (He.ga K "NoName")) (.ref (bdK K 1)) = some true := He.exm_ok (c.fact 44 (f := .exm "NoName" "LandError" true) rfl)
  have TNoLand : OwnX K mg "NoLand" "place" (He.ga K "NoLand") := ENoLand.2 (He.glo_ok X G (c.fact 0 (f := .glo "NoLand") rfl)) (He.meth_ok (c.fact 1 (f := .meth "NoLand" "__init__") rfl)) f0 (f0.binds fun _ _ _ _ _ _ us hl => match us, hl with | [_, _], _ => rfl) ⟨rfl, rfl, rfl, by decide +kernel, rfl, by decide +kernel, by decide +kernel⟩ (by decide +kernel) rfl
  have TNoName : OwnX K mg "NoName" "name" (He.ga K "NoName") := ENoName.2 (He.glo_ok X G (c.fact 2 (f := .glo "NoName") rfl)) (He.meth_ok (c.fact 3 (f := .meth "NoName" "__init__") rfl)) f1 (f1.binds fun _ _ _ _ _ _ us hl => match us, hl with | [_, _], _ => rfl) ⟨rfl, rfl, rfl, by decide +kernel, rfl, by decide +kernel, by decide +kernel⟩ (by decide +kernel) rfl
  have h_is_word : Has P w K mg base "is_word" 1 ["thing"] (spIsW K) := ⟨_, fd2, ok_isw f2 B Gk', He.glo_ok X G (c.fact 4 (f := .glo "is_word") rfl), f2.kp, f2.binds fun _ _ _ _ _ _ us hl => match us, hl with | [_], _ => rfl⟩
  have h_are_rows : Has P w K mg base "are_rows" 1 ["thing"] spAreO := ⟨_, fd3, ok_areO f3 B Gk', He.glo_ok X G (c.fact 5 (f := .glo "are_rows") rfl), f3.kp, f3.binds fun _ _ _ _ _ _ us hl => match us, hl with | [_], _ => rfl⟩
  have h_wrong_spot : Has P w K mg base "wrong_spot" 2 ["rows"] spWrongO := ⟨_, fd4, ok_wrongO f4 B h_is_word, He.glo_ok X G (c.fact 6 (f := .glo "wrong_spot") rfl), f4.kp, f4.binds fun _ _ _ _ _ _ us hl => match us, hl with | [_], _ => rfl⟩
  have h_spots_in : Has P w K mg base "spots_in" 1 ["rows"] spSpotsIn0 := ⟨_, fd5, ok_spotsin0 f5 B, He.glo_ok X G (c.fact 7 (f := .glo "spots_in") rfl), f5.kp, f5.binds fun _ _ _ _ _ _ us hl => match us, hl with | [_], _ => rfl⟩
  have hX_checked_spots : HasX P w K mg base "checked_spots" 3 ["rows"] (spSpotsA (He.ga K "NoLand")) := ⟨_, fd6, ok_spotsA f6 TNoLand h_are_rows h_wrong_spot h_spots_in, (He.glo_ok X G (c.fact 8 (f := .glo "checked_spots") rfl)), f6.kp, (f6.binds fun _ _ _ _ _ _ us hl => match us, hl with | [_], _ => rfl)⟩
  have h_Land__init__ : HasIA P w K mg base (He.ga K "Land") (He.ga K "NoLand") := ⟨_, fd7, He.mkr_ok (c.fact 40 (f := .mkr "Land") rfl), ok_initA f7 T hX_checked_spots, (f7.binds fun _ _ _ _ _ _ us hl => match us, hl with | [_, _], _ => rfl)⟩
  have h_check_name : HasMX P w K mg base (He.ga K "Land") "check_name" 2 ["self", "name"] (spNameA K (He.ga K "Land") (He.ga K "NoName")) := ⟨_, fd8, ok_nameA f8 T TNoName h_is_word, He.meth_ok (c.fact 10 (f := .meth "Land" "check_name") rfl), f8.binds fun _ _ _ _ _ _ us hl => match us, hl with | [_, _], _ => rfl⟩
  have h_names : HasM P w K mg base (He.ga K "Land") "names" 1 ["self"] (spLNames (He.ga K "Land")) := ⟨_, fd9, ok_lnames f9 B T, He.meth_ok (c.fact 11 (f := .meth "Land" "names") rfl), f9.binds fun _ _ _ _ _ _ us hl => match us, hl with | [_], _ => rfl⟩
  have h_spot : HasMX P w K mg base (He.ga K "Land") "spot" 3 ["self", "name"] (spSpotA K (He.ga K "Land") (He.ga K "NoName")) := ⟨_, fd10, ok_spotA f10 T h_check_name, He.meth_ok (c.fact 12 (f := .meth "Land" "spot") rfl), f10.binds fun _ _ _ _ _ _ us hl => match us, hl with | [_, _], _ => rfl⟩
  have h_neighbours : HasMX P w K mg base (He.ga K "Land") "neighbours" 4 ["self", "name"] (spNeighA K (He.ga K "Land") (He.ga K "NoName")) := ⟨_, fd11, ok_neighA f11 B T h_spot h_names, He.meth_ok (c.fact 13 (f := .meth "Land" "neighbours") rfl), f11.binds fun _ _ _ _ _ _ us hl => match us, hl with | [_, _], _ => rfl⟩
  have h_Land__repr__ : HasM P w K mg base (He.ga K "Land") "__repr__" 1 ["self"] (spLRepr (He.ga K "Land")) := ⟨_, fd12, ok_lrepr f12 B T, He.meth_ok (c.fact 14 (f := .meth "Land" "__repr__") rfl), f12.binds fun _ _ _ _ _ _ us hl => match us, hl with | [_], _ => rfl⟩
  have FR0 := ok_lrepr (P := P) (w := w) (base := base) f12 B T
  have FR1 := ok_lreprT (P := P) (w := w) (base := base) f12 B T
  have bR : Binds K fd12 ["self"] [] := (f12.binds fun _ _ _ _ _ _ us hl => match us, hl with | [_], _ => rfl)
  have mR : Meth K (He.ga K "Land") "__repr__" _ := (He.meth_ok (c.fact 14 (f := .meth "Land" "__repr__") rfl))
  have h__law_cell : Has P w K mg base "_law_cell" 1 ["_law_script", "_law_k"] (spCell K) := ⟨_, fd13, ok_cell f13 B, He.glo_ok X G (c.fact 15 (f := .glo "_law_cell") rfl), f13.kp, f13.binds fun _ _ _ _ _ _ us hl => match us, hl with | [_, _], _ => rfl⟩
  have h__law_purse : Has P w K mg base "_law_purse" 1 ["_law_cell_here"] spPurse := ⟨_, fd14, ok_purse f14 B, He.glo_ok X G (c.fact 16 (f := .glo "_law_purse") rfl), f14.kp, f14.binds fun _ _ _ _ _ _ us hl => match us, hl with | [_], _ => rfl⟩
  have h__law_pick : Has P w K mg base "_law_pick" 1 ["_law_purse_here", "_law_many"] spPick := ⟨_, fd15, ok_pick f15, He.glo_ok X G (c.fact 17 (f := .glo "_law_pick") rfl), f15.kp, f15.binds fun _ _ _ _ _ _ us hl => match us, hl with | [_, _], _ => rfl⟩
  have h__law_menu : Has P w K mg base "_law_menu" 1 [] spMenu := ⟨_, fd16, ok_menu f16, He.glo_ok X G (c.fact 18 (f := .glo "_law_menu") rfl), f16.kp, f16.binds fun _ _ _ _ _ _ us hl => match us, hl with | [], _ => rfl⟩
  have h__law_word : Has P w K mg base "_law_word" 2 ["_law_purse_here"] spWord := ⟨_, fd17, ok_word f17 B h__law_pick h__law_menu, He.glo_ok X G (c.fact 19 (f := .glo "_law_word") rfl), f17.kp, f17.binds fun _ _ _ _ _ _ us hl => match us, hl with | [_], _ => rfl⟩
  have h__law_fresh : Has P w K mg base "_law_fresh" 3 ["_law_purse_here", "_law_used"] spFresh := ⟨_, fd18, ok_fresh f18 B h__law_word, He.glo_ok X G (c.fact 20 (f := .glo "_law_fresh") rfl), f18.kp, f18.binds fun _ _ _ _ _ _ us hl => match us, hl with | [_, _], _ => rfl⟩
  have h__law_land : Has P w K mg base "_law_land" 4 ["_law_purse_here", "_law_most"] spLand := ⟨_, fd19, ok_land f19 B h__law_pick h__law_fresh, He.glo_ok X G (c.fact 21 (f := .glo "_law_land") rfl), f19.kp, f19.binds fun _ _ _ _ _ _ us hl => match us, hl with | [_, _], _ => rfl⟩
  have h__law_names : Has P w K mg base "_law_names" 1 ["_law_laid"] spNames := ⟨_, fd20, ok_names f20 B, He.glo_ok X G (c.fact 22 (f := .glo "_law_names") rfl), f20.kp, f20.binds fun _ _ _ _ _ _ us hl => match us, hl with | [_], _ => rfl⟩
  have h__law_sort : HasT P w K mg base "_law_sort" 1 ["_law_e"] (spSort K (adK K) (bdK K)) := ⟨_, fd21, ok_sort f21 B SG, He.glo_ok X G (c.fact 23 (f := .glo "_law_sort") rfl), f21.kp, f21.binds fun _ _ _ _ _ _ us hl => match us, hl with | [_], _ => rfl⟩
  have h__law_made : Has P w K mg base "_law_made" 6 ["_law_laid"] spMade := ⟨_, fd22, ok_made f22 T TNoLand ENoLand.1 SG hmL h_Land__init__ h__law_sort, He.glo_ok X G (c.fact 24 (f := .glo "_law_made") rfl), f22.kp, f22.binds fun _ _ _ _ _ _ us hl => match us, hl with | [_], _ => rfl⟩
  have h__law_found : HasQ P w K mg base "_law_found" 6 ["_law_way", "_law_country", "_law_town"] (spFound K (He.ga K "Land")) := ⟨_, fd23, ok_found f23 hrepr T TNoName ENoName.1 SG hmN FR1 bR mR h_spot h_neighbours h__law_sort, He.glo_ok X G (c.fact 25 (f := .glo "_law_found") rfl), f23.kp, f23.binds fun _ _ _ _ _ _ us hl => match us, hl with | [_, _, _], _ => rfl⟩
  have h__law_odd_part : Has P w K mg base "_law_odd_part" 2 ["_law_purse_here", "_law_towns"] spOddP := ⟨_, fd24, ok_oddp f24 B h__law_pick, He.glo_ok X G (c.fact 26 (f := .glo "_law_odd_part") rfl), f24.kp, f24.binds fun _ _ _ _ _ _ us hl => match us, hl with | [_, _], _ => rfl⟩
  have h__law_put : Has P w K mg base "_law_put" 1 ["_law_laid", "_law_row", "_law_column", "_law_part"] spPutV := ⟨_, fd25, ok_putv f25, He.glo_ok X G (c.fact 27 (f := .glo "_law_put") rfl), f25.kp, f25.binds fun _ _ _ _ _ _ us hl => match us, hl with | [_, _, _, _], _ => rfl⟩
  have h__law_first_odd : Has P w K mg base "_law_first_odd" 1 ["_law_laid"] spWrongO := ⟨_, fd26, ok_first f26 B, He.glo_ok X G (c.fact 28 (f := .glo "_law_first_odd") rfl), f26.kp, f26.binds fun _ _ _ _ _ _ us hl => match us, hl with | [_], _ => rfl⟩
  have h__law_parts_right : Has P w K mg base "_law_parts_right" 7 ["_law_purse_here", "_law_laid"] spPR := ⟨_, fd27, ok_pr f27 B h__law_pick h__law_names h__law_odd_part h__law_put h__law_first_odd h__law_made, He.glo_ok X G (c.fact 29 (f := .glo "_law_parts_right") rfl), f27.kp, f27.binds fun _ _ _ _ _ _ us hl => match us, hl with | [_, _], _ => rfl⟩
  have h__law_forms : Has P w K mg base "_law_forms" 3 ["_law_purse_here", "_law_laid"] spForms := ⟨_, fd28, ok_forms f28 B h__law_pick h__law_names h__law_odd_part, He.glo_ok X G (c.fact 30 (f := .glo "_law_forms") rfl), f28.kp, f28.binds fun _ _ _ _ _ _ us hl => match us, hl with | [_, _], _ => rfl⟩
  have h__law_lakes : Has P w K mg base "_law_lakes" 2 ["_law_purse_here"] spLakes := ⟨_, fd29, ok_lakes f29 h__law_pick, He.glo_ok X G (c.fact 31 (f := .glo "_law_lakes") rfl), f29.kp, f29.binds fun _ _ _ _ _ _ us hl => match us, hl with | [_], _ => rfl⟩
  have h__law_names_right : HasQ P w K mg base "_law_names_right" 7 ["_law_purse_here", "_law_country", "_law_laid"] (spNR (He.ga K "Land")) := ⟨_, fd30, ok_nr f30 B hrepr insC hkS FR0 bR mR h__law_names h__law_found, He.glo_ok X G (c.fact 32 (f := .glo "_law_names_right") rfl), f30.kp, f30.binds fun _ _ _ _ _ _ us hl => match us, hl with | [_, _, _], _ => rfl⟩
  exact ok_law f31 B T h_Land__init__ h__law_cell h__law_purse h__law_pick h__law_land h__law_parts_right h__law_made h__law_forms h__law_lakes h__law_names_right
end Wl

namespace Wl
open PySem PySem.Spec PyProof.Rows L2
noncomputable abbrev atEnd (w : World) (os : OsState) : Option PySem.W.SharedT := HandSHeadRun.endF (HandSHeadRun.stepQ (HandSHeadRun.denQ HandSHeadRun.tabQ) R.prog w) 12000 R.prog w os
theorem runA (w : World) (os : OsState) : (atEnd w os).map (fun s => (HandSHeadRun.looksF R.prog (PySem.W.boot_heap w.params) s.abs, HandSHeadRun.seenQ (PySem.W.view R.prog [56]) others (importedModules R.prog.main.body) (fun s => PySem.W.xlAt (PySem.W.view R.prog [56]) [] s && PySem.W.recOk R.toRowW.records s) s.abs)) = some (true, PySem.W.openGood (PySem.W.view R.prog [56]) others) := by
  kernel_rfl
theorem runB (w : World) (os : OsState) : (atEnd w os).map ob = some (He.valD fn, true) := by
  kernel_rfl
theorem run (w : World) : HandSHeadRun.RunEq R (PySem.W.view R.prog [56]) hk ob 12000 others w := fun os => map3 (runA w os) (runB w os)
end Wl

open PySem PySem.W PySem.Calls PyProof.Rows
theorem PySem.Challenge.cw_wordlines_k07_lands_refused_holds : PySem.Challenge.rw_wordlines_k07_lands_refused.Holds := by
  w_on; o_law
  refine HandSHeadRun.head_any (r := OpenLaw.row PySem.Challenge.rw_wordlines_k07_lands_refused) (q := view (OpenLaw.row PySem.Challenge.rw_wordlines_k07_lands_refused).prog [56]) (H := Wl.hk) (ob := Wl.ob) (M := 12000) (loose := Wl.others) (d := HandSHeadRun.topDef (OpenLaw.row PySem.Challenge.rw_wordlines_k07_lands_refused).prog 56) (kwd := []) Wl.ob_eq
    (by kernel_rfl) (fun s => by kernel_rfl) Wl.run (by kernel_rfl) (by kernel_rfl) (by kernel_rfl) (by rfl) (by first | assumption | decide +kernel) (by decide +kernel) ⟨rfl, rfl, rfl, rfl, rfl, by decide +kernel⟩ ?hw ?hc
  case hw => w_witness2
  case hc =>
    refine Wl.walk_ofG (l := PySem.Challenge.rw_wordlines_k07_lands_refused) (n := 63) (k := 8) (x := "_law_script") rfl (by decide) (by kernel_rfl) ⟨rfl, by decide, by decide⟩ ?F
    intro w mg fa h Y G hmg0
    obtain ⟨K, KX, c, cx⟩ := Y
    have hmg : mg ("law" : PySem.Str) = some (.ref fa) := by
      have e : (HandSHeadRun.topDef (OpenLaw.row PySem.Challenge.rw_wordlines_k07_lands_refused).prog 56).name = ("law" : PySem.Str) := by kernel_rfl
      rw [← e]
      exact hmg0
    obtain ⟨fd, hb, hF⟩ := Wl.facts (P := (PySem.Challenge.rw_wordlines_k07_lands_refused).prog) (w := w) KX G hmg c cx
    exact ⟨K, fd, Wl.spLaw K, KX, hb, fun H a ns hl _ hS => ⟨a, ns, rfl, hS, hl, fun _ => rfl⟩, hF⟩

