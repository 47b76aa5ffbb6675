import PyProof.Rows.All
import Wide.All
import OpenK.AllK
import Wide.FinOn
import HandS.ForMost
import HandS.Defaults
import HandS.MakeKwOnly
import HandS.Conv
import HandS.IsInst
import HandS.Walk
import HandS.Flow
import KE.SortData
import KE.DataMinMax
import KE.GoesMore
import HandS.Replace
import HandS.DictComp
import HandS.MakeKw
import HandS.Style
import HandS.OwnEq
import KE.KCallOwn
import KE.KFmtOwn
import HandS.Codes
import HandS.FStr
import HandS.DictEq
import HandS.Small
import PyProof.Rows.Range3
import PyProof.ListTruth
import HandS.TupAny
import HandS.TupMul
import HandS.HeadEnd
import PyProof.ReprHeads
import KE.KStateDown
import Lean
import HandS.Ends
import HandS.More
import HandS.WordsExc
import HandS.Head0
import HandS.Head1
import HandS.Head2
import HandS.HeadHook1
import HandS.HeadHook2
import HandS.HeadNt
import PySem.Challenge.RW_wordlines_k06_lands_alike_and_shown
set_option Elab.async false
set_option linter.all false
set_option maxRecDepth 100000
set_option maxHeartbeats 0
/-! Rules of ours beside the layer: sorted of data, min and max of two texts, in of nested tuples, methods by keyword, enumerate of a tuple. -/
namespace Wl
open PySem PySem.Spec PyProof.Rows L2

/-! sorted(list of data) -/
def rSortD (K : PySem.W.Frag) : List V → Hp → VK → Prop := fun vs H Q =>
  ∃ (a : Addr) (bs : List (V × PyData)), vs = [V.ref a] ∧ SqL K H a (bs.map (·.1)) ∧ (∀ b ∈ bs, Dp K H b.1 b.2) ∧
    PySem.W.AllAlike (bs.map (·.2)) ∧ PySem.W.Sortable (bs.map (·.2)) ∧ (∀ b ∈ bs, b.2.depth ≤ 8) ∧
    ∀ p, H p = none → Q (.ref p) (upd H p (.lst ((bs.mergeSort (PySem.W.dataLe false (·.2))).map (·.1))))
theorem each_of_vals : ∀ {bs : List (V × PyData)} {its : List Value}, Vals (bs.map (·.1)) its → PySem.W.EachIs (fun u b => RelV b.1 u) its bs
  | [], [], _ => .nil
  | [], _ :: _, h => nomatch h
  | _ :: _, [], h => nomatch h
  | b :: bs, u :: us, h => by
    cases h with
    | cons r t => exact .cons r (each_of_vals t)
theorem vals_of_each : ∀ {bs : List (V × PyData)} {its : List Value}, PySem.W.EachIs (fun u b => RelV b.1 u) its bs → Vals (bs.map (·.1)) its
  | _, _, .nil => .nil
  | _, _, .cons r t => .cons r (vals_of_each t)
theorem each_reads {X : Cx} {pins : List (Addr × Obj)} {σ : L2.St} {H : Hp} {s : Shared} (I : Inv X pins σ H s) :
    ∀ {bs : List (V × PyData)} {its : List Value}, (∀ b ∈ bs, Dp X.K H b.1 b.2) → PySem.W.EachIs (fun u b => RelV b.1 u) its bs →
      PySem.W.EachIs (fun v b => ∃ as, Reads s.heap v b.2 as) its bs
  | _, _, _, .nil => .nil
  | _, _, hd, .cons r t => .cons (Dp.reads I _ _ _ (hd _ List.mem_cons_self) r) (each_reads I (fun b m => hd b (List.mem_cons_of_mem _ m)) t)
theorem cr_sortD {X : Cx} (hu : X.A.units + 64 < cLine) : CallR X (.builtin "sorted") (rSortD X.K) := by
  intro pins s σ H vs us Q I r h
  obtain ⟨a, bs, rfl, hs, hd, ha, hk, hz, q⟩ := h
  obtain ⟨its, rv, hl, hn⟩ := I.list hs
  obtain ⟨u, rfl, ru⟩ := vals1 r
  obtain rfl : u = Value.ref a := ru
  have e := each_of_vals rv
  have hbn : bs.length ≤ sizeLine := by
    rw [List.length_map] at hn
    exact hn
  refine PySem.W.sorted_data (R := fun u b => RelV b.1 u) (enc := (·.2)) hl.isList e (each_reads I hd e) ha hk hbn (fun b hb => ?_) fun out ho eo => ?_
  · have := hz b hb
    omega
  · have rv2 := vals_of_each eo
    obtain ⟨n, hn2⟩ := sortedAll_at s.heap its out.toArray
    have hlen : ((bs.mergeSort (PySem.W.dataLe false (·.2))).map (·.1)).length ≤ sizeLine := by
      rw [List.length_map, List.length_mergeSort]
      exact hbn
    exact ⟨.ref (s.heap.objs.size + 1), _, I.laid (t' := s.toks) (o := .lst ((bs.mergeSort (PySem.W.dataLe false (·.2))).map (·.1))) (fun b o e => sortedAll_old e) (Nat.le_succ _) ⟨hlen, out, n, rv2, hn2⟩, rfl, q _ (I.hok.fresh (Nat.le_succ _))⟩

/-! min, max of a tuple of two texts -/
def rTwo (K : PySem.W.Frag) (f : Str → Str → Str) : List V → Hp → VK → Prop := fun vs H Q =>
  ∃ (a : Addr) (x y : Str), vs = [V.ref a] ∧ SqT K H a [.str x, .str y] ∧ Q (.str (f x y)) H
def lessOf (x y : Str) : Str := if y.cps.toList < x.cps.toList then y else x
def moreOf (x y : Str) : Str := if x.cps.toList < y.cps.toList then y else x
theorem alike2 (x y : Str) : PySem.W.AlikeAll [PyData.str x, .str y] := by
  refine ⟨fun a ha b hb => ?_, fun a ha => ?_⟩
  · simp only [List.mem_cons, List.not_mem_nil, or_false] at ha hb
    rcases ha with rfl | rfl <;> rcases hb with rfl | rfl <;> rfl
  · simp only [List.mem_cons, List.not_mem_nil, or_false] at ha
    rcases ha with rfl | rfl <;> exact fun z => by cases z
theorem dp2 {K : PySem.W.Frag} {H : Hp} (x y : Str) : DpAll K H [.str x, .str y] [PyData.str x, .str y] := .cons (.str x) (.cons (.str y) .nil)
theorem cr_minT {X : Cx} (hc : X.calm = true) (hu : X.A.units + 64 < cLine) : CallR X (.builtin "min") (rTwo X.K lessOf) := by
  intro pins s σ H vs us Q I r h
  obtain ⟨a, x, y, rfl, hs, q⟩ := h
  obtain ⟨its, rv, hl, hn⟩ := I.tuple hs
  obtain ⟨u, rfl, ru⟩ := vals1 r
  obtain rfl : u = Value.ref a := ru
  obtain ⟨as, hr⟩ := Dp.readsAll I _ _ its (dp2 x y) rv
  refine PySem.W.min_tuple_data (I.ok.hd hc) (show s.heap.IsTuple a its.toArray from hl) (by simpa using hr) (alike2 x y) (by
    have : PyData.depthAll [PyData.str x, .str y] = 0 := rfl
    omega) fun i v h' tk bs hv hR hk => ?_
  have e : PySem.W.minD (.str x) [.str y] = .str (lessOf x y) := by
    unfold PySem.W.minD lessOf
    simp only [List.foldl_cons, List.foldl_nil, PySem.W.dataLt_str]
    by_cases c : y.cps.toList < x.cps.toList <;> simp [c]
  rw [e] at hR
  cases hR with
  | str z t => exact ⟨.str _, H, I.kept (t' := tk) hk, ⟨_, rfl⟩, q⟩
theorem cr_maxT {X : Cx} (hc : X.calm = true) (hu : X.A.units + 64 < cLine) : CallR X (.builtin "max") (rTwo X.K moreOf) := by
  intro pins s σ H vs us Q I r h
  obtain ⟨a, x, y, rfl, hs, q⟩ := h
  obtain ⟨its, rv, hl, hn⟩ := I.tuple hs
  obtain ⟨u, rfl, ru⟩ := vals1 r
  obtain rfl : u = Value.ref a := ru
  obtain ⟨as, hr⟩ := Dp.readsAll I _ _ its (dp2 x y) rv
  refine PySem.W.max_tuple_data (I.ok.hd hc) (show s.heap.IsTuple a its.toArray from hl) (by simpa using hr) (alike2 x y) (by
    have : PyData.depthAll [PyData.str x, .str y] = 0 := rfl
    omega) fun i v h' tk bs hv hR hk => ?_
  have e : PySem.W.maxD (.str x) [.str y] = .str (moreOf x y) := by
    unfold PySem.W.maxD moreOf
    simp only [List.foldl_cons, List.foldl_nil, PySem.W.dataLt_str]
    by_cases c : x.cps.toList < y.cps.toList <;> simp [c]
  rw [e] at hR
  cases hR with
  | str z t => exact ⟨.str _, H, I.kept (t' := tk) hk, ⟨_, rfl⟩, q⟩

/-! x in a tuple of data -/
def rInDT (K : PySem.W.Frag) : R2 := fun x y H Q => ∃ d ds, Dp K H x d ∧ Dp K H y (.tuple ds) ∧ SeqAt.shaped d = true ∧
  SeqAt.shaped (.tuple ds) = true ∧ Q (.bl (ds.any fun z => PyData.eqv z d)) H
theorem op_inDT {X : Cx} (hu : X.A.units + 65 < cLine) : OpR X (compareOp .In) (rInDT X.K) := by
  intro pins s σ H x y v u Q I rx ry h
  obtain ⟨d, ds, hd, he, sd, se, q⟩ := h
  obtain ⟨as, r1⟩ := Dp.reads I d x v hd rx
  obtain ⟨bs, r2⟩ := Dp.reads I (.tuple ds) y u he ry
  exact SeqAt.in_tuple_reads r2 r1 (SeqAt.canLay_of_shaped se) (SeqAt.canLay_of_shaped sd) (room_in_shaped sd hu) ⟨.bl _, H, I, rfl, q⟩

/-! o.m(k = e): one argument by its name -/
def g2 {α : Type} : List α → List α → List α
  | [a], [b] => [a, b]
  | _, _ => []
theorem g2_rel : ∀ {vs : List V} {us : List Value} {zs : List V} {ws : List Value}, Vals vs us → Vals zs ws → Vals (g2 vs zs) (g2 us ws)
  | _, _, _, _, .nil, _ => .nil
  | _, _, _, _, .cons a (.cons b c), _ => .nil
  | _, _, _, _, .cons a .nil, .nil => .nil
  | _, _, _, _, .cons a .nil, .cons b .nil => .cons a (.cons b .nil)
  | _, _, _, _, .cons a .nil, .cons b (.cons c d) => .nil
def tMethK (C : Addr) (m : Str) (sp : Sp) (E : XK) (ta : TE) (tk : TA) : TE := fun σ H Q => ta σ H fun x H1 =>
  ∃ a dx fs, x = .ref a ∧ H1 a = some (.ins C dx fs) ∧ fs.lookup m = none ∧ tk σ H1 fun zs H2 => sp (g2 [.ref a] zs) H2 Q E
theorem pe_methK {X : Cx} {CX : CXT} {k : Nat} {f C : Addr} {fd : FuncData} {ps ks : List Str} {sp : Sp} {E : XK} {m : Str} {pos apos : Pos} {o : Expr} {kws : List Keyword} {ta : TE} {tk : TA} {pl : Sem Bool}
    (he : PE X o ta) (c : Cls X.K C) (hm : Meth X.K C m f) (F : FnOk X.prog X.w X.K X.mg X.base CX k f fd ps sp) (hr : Room k X.A) (hb : KBinds X.K fd ps ks g2 g2) (hx : Passes CX X E) (hkw : PK X kws tk)
    (hall : (backToKw pos (keywordEach kws X.env)).all (·.1.isSome) = true := by rfl) (hks : (backToKw pos (keywordEach kws X.env)).filterMap (·.1) = ks := by rfl)
    (hpl : ((backTo pos (starEach [] X.env)).any (·.1) || (backToKw pos (keywordEach kws X.env)).any (·.1.isNone)) = false := by rfl)
    (ht : eval (.Call (.Attribute o m apos) [] kws pos) X.env = (do
      let ov ← eval o X.env
      standAt apos.atName
      let (f, first) ← holding [ov] (getMethod ov m pl)
      callWith pos f first (backTo pos (starEach [] X.env)) (backToKw pos (keywordEach kws X.env))) := by rfl) :
    PE X (.Call (.Attribute o m apos) [] kws pos) (tMethK C m sp E ta tk) := by
  refine ⟨fun pins s σ H Q I h => ?_⟩
  refine PySem.W.methodCall_KW (pl := pl) (thn (he.run pins s σ H _ I h) fun u s1 ⟨x, H1, I1, rx, a, dx, fs, ex, ea, l, q⟩ => ?_) ht
  subst ex
  obtain rfl : u = Value.ref a := rx
  refine getmeth_ok I1 ea c hm l ?_
  refine PySem.W.callWith_KW0 (first := [.ref a]) (h₀ := X.base) I.ok.mod.kin hm.kp hall (thn (hkw.run pos pins s1 σ H1 _ I1 q) fun ws s2 ⟨zs, H2, I2, rz, q2⟩ => ⟨I2.kIn, ?_⟩) hpl
  rw [hks]
  exact run_fnk (us := [.ref a]) (vs := [.ref a]) F hr hb hx I2 (.cons rfl .nil) rz q2

/-! enumerate(a tuple) -/
open AutoSeq1 (wpAny_loadPart') in
theorem new_enumT (l : Addr) (items : Array Value) (n : Nat) (dct : Option Addr) (sl : Array (Option Value)) :
    Meets (Builtin.«enumerate.__new__» ⟨[.type "enumerate", .ref l], []⟩) (fun _ R s =>
      s.heap.get? l = some { cls := .type "tuple", dict := dct, data := .seq items n, slots := sl } ∧
      R (.ok (.ret (.ref (s.heap.push { cls := .type "tuple_iterator", data := .fields #[.ref l, .int 0 0] }).objs.size)))
        { s with heap := (s.heap.push { cls := .type "tuple_iterator", data := .fields #[.ref l, .int 0 0] }).push { cls := .type "enumerate", data := .fields #[.none, .bool false, .ref s.heap.objs.size, rawInt 0, .none, .none] } }) :=
  .of_wp fun prog w A R s h => by
    obtain ⟨hp, g, d, tk, os⟩ := s
    obtain ⟨hl, h⟩ := h
    have hsub := sub_enumerate
    have hT : Heap.IsTuple (Shared.heap ⟨hp, g, d, tk, os⟩) l items := ⟨_, hl, rfl, n, rfl⟩
    wp_walk using wpAny_loadPart' hl
    refine wpAny_stack_any fun st => wpAny_pure ?_
    split
    · rename_i c _ _ _ _ _
      cases (c == Value.type "enumerate") <;> (wp_walk using wpAny_loadPart' hl, wpAny_pyIter_tuple hT; exact ⟨_, rfl, h⟩)
    · (wp_walk using wpAny_loadPart' hl, wpAny_pyIter_tuple hT); exact ⟨_, rfl, h⟩
section
variable {prog : Program} {w : World} {A : Around} {E : Value → Shared → Prop} {s : Shared}
theorem make_enumT {l : Addr} {items : Array Value} {Q : Value → Shared → Prop} (hL : s.heap.IsTuple l items)
    (h : ∀ h', IsEnum h' (s.heap.objs.size + 1) s.heap.objs.size 0 .none → h'.IsTupleIter s.heap.objs.size l 0 →
      (∀ b o, s.heap.get? b = some o → h'.get? b = some o) → Q (.ref (s.heap.objs.size + 1)) { s with heap := h' }) :
    wpAny (model prog w) A (call (.type "enumerate") [.ref l]) Q E s := by
  obtain ⟨⟨c, dct, dt, sl⟩, hl, hc, n, hd⟩ := hL
  obtain rfl : c = .type "tuple" := hc
  obtain rfl : dt = .seq items n := hd
  refine callType_new F.called_enumerate (by decide) (F.typeCall_enumerate_1 _) (F.newCall_enumerate_1 _) (fun obj => F.args_object_init_2 obj _) F.entry_enumerate_new (new_enumT l items n dct sl) ⟨hl, ?_⟩
  have hz : (s.heap.push { cls := .type "tuple_iterator", data := .fields #[.ref l, .int 0 0] }).objs.size = s.heap.objs.size + 1 := Heap.size_push ..
  rw [hz]
  have he : IsEnum ((s.heap.push { cls := .type "tuple_iterator", data := .fields #[.ref l, .int 0 0] }).push { cls := .type "enumerate", data := .fields #[.none, .bool false, .ref s.heap.objs.size, rawInt 0, .none, .none] })
      (s.heap.objs.size + 1) s.heap.objs.size 0 .none := hz ▸ Heap.get?_push_size (s.heap.push { cls := .type "tuple_iterator", data := .fields #[.ref l, .int 0 0] }) rfl
  exact ⟨⟨_, he, rfl⟩, h _ he ⟨_, Heap.get?_push_of_some _ (Heap.get?_push_size _ rfl), rfl, rfl⟩ fun b o x => Heap.get?_push_of_some _ (Heap.get?_push_of_some _ x)⟩
end
def IteT (K : PySem.W.Frag) (a : Addr) : It where
  go := fun i H => ∃ (xs : List V) (x : V), SqT K H a xs ∧ xs[i]? = some x
  yld := fun i H v H' => ∃ T x, v = .ref T ∧ H T = none ∧ H' = upd H T (.tup [.int (i : Nat), x]) ∧ ∀ xs, SqT K H a xs → xs[i]? = some x
  stop := fun i H => ∃ xs : List V, SqT K H a xs ∧ xs.length ≤ i
theorem apart_of {h : Heap} {a b : Addr} {o u : Obj} (ha : h.get? a = some o) (hb : h.get? b = some u) (hc : o.cls ≠ u.cls) : a ≠ b := fun e => by
  subst e
  rw [ha] at hb
  exact hc (congrArg Obj.cls (Option.some.inj hb))
theorem turn_enumT {P : Program} {w : World} {K : PySem.W.Frag} {elts : List Expr} {kk : Nat} {tpos : Pos} (a e it : Addr) :
    Turn P w K (.Tuple elts kk tpos) (IteT K a) [e, it] e (fun i h => (∃ old, IsEnum h e it ((i : Nat) : Int) old) ∧ h.IsTupleIter it a i ∧ e ≠ it) where
  mem := by simp
  obj := fun i h st b hb => by
    obtain ⟨⟨old, he⟩, ⟨o, ho, hc, hd⟩, _⟩ := st
    rcases (show b = e ∨ b = it by simpa using hb) with z | z
    · subst z; exact ⟨_, he, fun v q => nomatch q⟩
    · subst z; exact ⟨o, ho, fun v q => by rw [hd] at q; cases q⟩
  keep := fun i h h' st k => let ⟨⟨old, he⟩, hi, hne⟩ := st; ⟨⟨old, k e (by simp) _ he⟩, hi.at fun o q => k it (by simp) o q, hne⟩
  item := by
    intro X hP hw hK hc i pins s σ H E I hf st hg
    subst hP hw hK
    obtain ⟨⟨old, he⟩, hit, hne⟩ := st
    obtain ⟨xs, x, hq, hx⟩ := hg
    obtain ⟨its, rv, p, hz⟩ := I.tuple hq
    obtain ⟨u, hu, ru⟩ := rv.get hx
    have hT : s.heap.IsTuple a its.toArray := p
    obtain ⟨oi, hoi, hci, _⟩ := id hit
    obtain ⟨oa, hoa, hca, _⟩ := id hT
    have hel : e < s.heap.objs.size := Heap.lt_size he
    have hil : it < s.heap.objs.size := Heap.lt_size hoi
    have nai : a ≠ it := apart_of hoa hoi (by rw [hca, hci]; decide)
    have nea : e ≠ a := apart_of he hoa (by rw [hca]; show Value.type "enumerate" ≠ Value.type "tuple"; decide)
    have hi : i < its.toArray.size := by
      have := (List.getElem?_eq_some_iff.mp hu).1
      simpa using this
    refine wpAny_pyNext_enum_itemD (Draws.tuple (prog := X.prog) (w := X.w) (A := X.A.in1) (I.ok.hd hc) it a nai its.toArray) he ⟨hit, hT⟩ hi hne (by simp [hne, nea]) fun y h' tk hy ho hst hTp hsz hk => ?_
    obtain rfl : u = y := by
      have q : its.toArray[i]? = some u := by simpa using hu
      exact Option.some.inj (q.symm.trans hy)
    refine ⟨_, rfl, wpAny_letOwnedTupleGo_enum (s := { s with heap := h', toks := tk + 1 }) ho fun h'' he' sb => ?_⟩
    have hT2 : h''.get? s.heap.objs.size = some { cls := .type "tuple", data := .seq #[.int i tk, u] } := (sb.2 _ (Nat.ne_of_gt hel)).trans hTp
    have new : ObjOk X.prog X.w (upd H s.heap.objs.size (.tup [.int (i : Nat), x])) h'' s.heap.objs.size (.tup [.int (i : Nat), x]) :=
      ⟨by show 2 ≤ sizeLine; decide, [.int i tk, u], .cons ⟨_, rfl⟩ (.cons ru .nil), ⟨_, hT2, rfl, _, rfl⟩⟩
    have I1 : L2.Inv X pins σ (upd H s.heap.objs.size (.tup [.int (i : Nat), x])) { s with heap := h'', toks := tk + 1 } :=
      I.turnedNew (ch := [e, it]) (fun b ob hb q => by
        simp only [List.mem_cons, List.not_mem_nil, or_false, not_or] at hb
        exact (sb.2 b hb.1).trans (hk b ob hb.1 hb.2 q)) hf (Nat.le_refl _) new
    have e1 : ((i + 1 : Nat) : Int) = (i : Int) + 1 := by omega
    refine ⟨.ref s.heap.objs.size, _, I1, rfl, ⟨_, x, rfl, I.hok.fresh (Nat.le_refl _), rfl, fun ys hy => by rw [I.tuple_inj hy hq]; exact hx⟩,
      ⟨⟨u, by rw [e1]; exact he'⟩, hst.1.at fun o q => (sb.2 it (Ne.symm hne)).trans q, hne⟩, fun b hb => ?_⟩
    have hb' : b < s.heap.objs.size := by
      rcases (show b = e ∨ b = it by simpa using hb) with z | z <;> subst z <;> assumption
    rw [upd_ne (Nat.ne_of_lt hb')]
    exact (hf b hb).1
  done := by
    intro X hP hw hK hc i pins s σ H E I hf st hg
    subst hP hw hK
    obtain ⟨⟨old, he⟩, hit, hne⟩ := st
    obtain ⟨xs, hq, hx⟩ := hg
    obtain ⟨its, rv, p, hz⟩ := I.tuple hq
    obtain ⟨f0, f1, f2, f3, f4, f5⟩ := hf it (by simp)
    have hT : s.heap.IsTuple a its.toArray := p
    have hl : xs.length = its.length := rv.length
    have hT2 : ¬ (i < its.toArray.size) := by simp; omega
    show wpAny _ _ (pyNext (.ref e)) _ _ s
    have hTy : s.TypeIs (.ref e) "enumerate" := ⟨_, he, rfl⟩
    unfold pyNext
    refine wpAny_bind (wpAny_attempt (wpAny_callSpecial?_slot (name := Str.ofString "__next__") hTy F.slot_enumerate_next (wpAny_call_entry F.slot_enumerate_next hTy F.entry_enumerate_next ?_ (F.args_enumerate_next_1 _))))
    show wpAny _ _ (field (.ref e) 2 >>= _) _ _ _
    refine wpAny_bind (wpAny_field he rfl (x := .ref it) rfl (wpAny_bind (wpAny_nextOf_tuple_end (I.ok.hd hc) hit hT (Array.getElem?_eq_none (by omega)) fun h' x he' hx' => ?_)))
    obtain ⟨o, ho, hcc⟩ := hx'
    exact wpAny_bind (wpAny_isInstance (T := "StopIteration") (b := true) ⟨o, ho, hcc⟩ isSubtype_stop (wpAny_pure ⟨rfl, I.turned (t' := s.toks) (fun b o hb q => he' b o hb q) f0 f1 f3 f4 f5⟩))
  self := fun A i s Q E st h => let ⟨⟨_, he⟩, _⟩ := st; wpAny_pyIter_enum he h
def iEnumT (K : PySem.W.Frag) (ta : TA) : TI := fun σ H R => ta σ H fun vs H1 => ∃ a xs, vs = [.ref a] ∧ SqT K H1 a xs ∧ R (IteT K a) H1
theorem pi_enumT {X : Cx} {e : Expr} {ta : TA} {p pos tpos : Pos} {elts : List Expr} {kk : Nat} (hg : Gl X "enumerate") (hm : X.mg "enumerate" = none) (ha : PA X [e] ta) (hs : starEach [e] X.env = [(false, eval e X.env)] := by rfl) :
    PI X (.Tuple elts kk tpos) (.Call (.Name "enumerate" p) [e] [] pos) (iEnumT X.K ta) := by
  refine ⟨fun pins s σ H R I h => ?_⟩
  refine Call_ (ld_blt I hg hm boot_enumerate (PyProof.Rows.callWith_type1 (thn (ha.run pos pins s σ H _ I h) fun us s1 ⟨vs, H1, I1, r1, q1⟩ => ?_) hs rfl))
  obtain ⟨a, xs, rfl, hq, q⟩ := q1
  obtain ⟨u, rfl, ru⟩ := vals1 r1
  obtain rfl : u = Value.ref a := ru
  obtain ⟨its, rv, p', hz⟩ := I1.tuple hq
  refine make_enumT (show s1.heap.IsTuple a its.toArray from p') fun h' he hit hk => wpAny_pyIter_enum he ?_
  refine ⟨s1.heap.objs.size + 1, [s1.heap.objs.size + 1, s1.heap.objs.size], _, _, H1, rfl, I1.kept (t' := s1.toks) hk, turn_enumT a (s1.heap.objs.size + 1) s1.heap.objs.size, ⟨⟨.none, he⟩, hit, Nat.succ_ne_self _⟩, fun b hb => ?_, q⟩
  have hle : s1.heap.objs.size ≤ b := by
    rcases (show b = s1.heap.objs.size + 1 ∨ b = s1.heap.objs.size by simpa using hb) with z | z <;> rw [z]
    · exact Nat.le_add_right _ _
    · exact Nat.le_refl _
  exact I1.fpOk hle (I1.hok.fresh hle)
theorem walk_enumT {K : PySem.W.Frag} {a : Addr} {xs : List V} : Walk (IteT K a) xs.length (fun H => SqT K H a xs) (YPair (fun i => some (.int (i : Nat))) (fun i => xs[i]?)) := by
  refine ⟨fun i _ hi q => ⟨xs, xs[i], q, by simp [hi]⟩, fun _ q => ⟨xs, q, Nat.le_refl _⟩, ?_⟩
  rintro i H v H' _ q ⟨T, x, h1, h2, h3, h4⟩
  exact ⟨T, .int (i : Nat), x, h1, h2, h3, rfl, h4 xs q⟩
end Wl

namespace Wl
open PySem

/-! ### strictly rising lists -/
theorem rising_ext {α : Type} {lt : α → α → Prop} (ir : ∀ a, ¬ lt a a) (tr : ∀ a b c, lt a b → lt b c → lt a c) :
    ∀ {l m : List α}, l.Pairwise lt → m.Pairwise lt → (∀ x, x ∈ l ↔ x ∈ m) → l = m
  | [], [], _, _, _ => rfl
  | [], y :: m, _, _, h => absurd ((h y).mpr List.mem_cons_self) (by simp)
  | x :: l, [], _, _, h => absurd ((h x).mp List.mem_cons_self) (by simp)
  | x :: l, y :: m, hl, hm, h => by
    obtain ⟨hx, hl'⟩ := List.pairwise_cons.mp hl
    obtain ⟨hy, hm'⟩ := List.pairwise_cons.mp hm
    have e : x = y := by
      rcases List.mem_cons.mp ((h x).mp List.mem_cons_self) with e | h1
      · exact e
      · rcases List.mem_cons.mp ((h y).mpr List.mem_cons_self) with e | h2
        · exact e.symm
        · exact absurd (tr _ _ _ (hx y h2) (hy x h1)) (ir x)
    subst e
    have : l = m := rising_ext ir tr hl' hm' fun z => by
      constructor
      · intro hz
        rcases List.mem_cons.mp ((h z).mp (List.mem_cons_of_mem _ hz)) with e | q
        · exact absurd (hx z hz) (by rw [e]; exact ir x)
        · exact q
      · intro hz
        rcases List.mem_cons.mp ((h z).mpr (List.mem_cons_of_mem _ hz)) with e | q
        · exact absurd (hy z hz) (by rw [e]; exact ir x)
        · exact q
    rw [this]

/-! ### texts by their codes -/
theorem str_ext {a b : Str} (h : a.cps.toList = b.cps.toList) : a = b := by
  cases a; cases b
  exact congrArg Str.mk (Array.ext' h)
abbrev ltS (a b : Str) : Prop := a.cps.toList < b.cps.toList
theorem ltS_irr (a : Str) : ¬ ltS a a := List.lt_irrefl _
theorem ltS_tr (a b c : Str) (h : ltS a b) (k : ltS b c) : ltS a c := List.lt_trans h k
theorem ltS_tot {a b : Str} (h : ¬ ltS a b) (k : ¬ ltS b a) : a = b :=
  str_ext (List.le_antisymm (List.not_lt.mp k) (List.not_lt.mp h))
def leB (a b : Str) : Bool := !decide (ltS b a)
theorem leB_trans (a b c : Str) (h : leB a b = true) (k : leB b c = true) : leB a c = true := by
  simp only [leB, Bool.not_eq_true', decide_eq_false_iff_not] at h k ⊢
  exact fun q => by
    by_cases e : ltS a b
    · exact k (ltS_tr _ _ _ q e)
    · have := ltS_tot e h
      subst this
      exact k q
theorem leB_total (a b : Str) : (leB a b || leB b a) = true := by
  simp only [leB, Bool.or_eq_true, Bool.not_eq_true', decide_eq_false_iff_not]
  by_cases h : ltS b a
  · exact .inr fun q => ltS_irr _ (ltS_tr _ _ _ h q)
  · exact .inl h
def sortS (xs : List Str) : List Str := xs.mergeSort leB
theorem mem_sortS {xs : List Str} {z : Str} : z ∈ sortS xs ↔ z ∈ xs := List.mem_mergeSort
theorem sortS_len (xs : List Str) : (sortS xs).length = xs.length := List.length_mergeSort _
theorem sortS_rising {xs : List Str} (h : xs.Nodup) : (sortS xs).Pairwise ltS := by
  have h1 : (sortS xs).Pairwise (fun a b => leB a b = true) := List.pairwise_mergeSort leB_trans leB_total xs
  have h2 : (sortS xs).Pairwise (· ≠ ·) := (List.mergeSort_perm xs leB).nodup_iff.mpr h
  refine List.Pairwise.imp₂ ?_ h1 h2
  intro a b q n
  simp only [leB, Bool.not_eq_true', decide_eq_false_iff_not] at q
  exact Classical.byContradiction fun c => n (ltS_tot c q)
/-- what is strictly rising with the same members is the sorted list -/
theorem sortS_eq {xs l : List Str} (h : xs.Nodup) (hl : l.Pairwise ltS) (hm : ∀ z, z ∈ l ↔ z ∈ xs) : l = sortS xs :=
  rising_ext ltS_irr ltS_tr hl (sortS_rising h) fun z => (hm z).trans mem_sortS.symm

/-! ### pairs of texts -/
abbrev Two := Str × Str
def ltP (p q : Two) : Prop := ltS p.1 q.1 ∨ (p.1 = q.1 ∧ ltS p.2 q.2)
instance (p q : Two) : Decidable (ltP p q) := by unfold ltP; infer_instance
theorem ltP_irr (p : Two) : ¬ ltP p p := by
  rintro (h | ⟨_, h⟩) <;> exact ltS_irr _ h
theorem ltP_tr (p q r : Two) (h : ltP p q) (k : ltP q r) : ltP p r := by
  obtain ⟨p1, p2⟩ := p
  obtain ⟨q1, q2⟩ := q
  obtain ⟨r1, r2⟩ := r
  rcases h with h | ⟨e, h⟩ <;> rcases k with k | ⟨f, k⟩
  · exact .inl (ltS_tr _ _ _ h k)
  · simp only at f; subst f; exact .inl h
  · simp only at e; subst e; exact .inl k
  · simp only at e f; subst e f; exact .inr ⟨rfl, ltS_tr _ _ _ h k⟩
theorem ltP_tot {p q : Two} (h : ¬ ltP p q) (k : ¬ ltP q p) : p = q := by
  obtain ⟨p1, p2⟩ := p
  obtain ⟨q1, q2⟩ := q
  simp only [ltP, not_or, not_and] at h k
  have e : p1 = q1 := ltS_tot h.1 k.1
  subst e
  rw [ltS_tot (h.2 rfl) (k.2 rfl)]
def lePB (a b : Two) : Bool := !decide (ltP b a)
theorem lePB_trans (a b c : Two) (h : lePB a b = true) (k : lePB b c = true) : lePB a c = true := by
  simp only [lePB, Bool.not_eq_true', decide_eq_false_iff_not] at h k ⊢
  exact fun q => by
    by_cases e : ltP a b
    · exact k (ltP_tr _ _ _ q e)
    · have := ltP_tot e h
      subst this
      exact k q
theorem lePB_total (a b : Two) : (lePB a b || lePB b a) = true := by
  simp only [lePB, Bool.or_eq_true, Bool.not_eq_true', decide_eq_false_iff_not]
  by_cases h : ltP b a
  · exact .inr fun q => ltP_irr _ (ltP_tr _ _ _ h q)
  · exact .inl h
def sortP (xs : List Two) : List Two := xs.mergeSort lePB
theorem mem_sortP {xs : List Two} {z : Two} : z ∈ sortP xs ↔ z ∈ xs := List.mem_mergeSort
theorem sortP_len (xs : List Two) : (sortP xs).length = xs.length := List.length_mergeSort _
theorem sortP_rising {xs : List Two} (h : xs.Nodup) : (sortP xs).Pairwise ltP := by
  have h1 : (sortP xs).Pairwise (fun a b => lePB a b = true) := List.pairwise_mergeSort lePB_trans lePB_total xs
  have h2 : (sortP xs).Pairwise (· ≠ ·) := (List.mergeSort_perm xs lePB).nodup_iff.mpr h
  refine List.Pairwise.imp₂ ?_ h1 h2
  intro a b q n
  simp only [lePB, Bool.not_eq_true', decide_eq_false_iff_not] at q
  exact Classical.byContradiction fun c => n (ltP_tot c q)
theorem sortP_eq {xs l : List Two} (h : xs.Nodup) (hl : l.Pairwise ltP) (hm : ∀ z, z ∈ l ↔ z ∈ xs) : l = sortP xs :=
  rising_ext ltP_irr ltP_tr hl (sortP_rising h) fun z => (hm z).trans mem_sortP.symm

/-! ### the machine's order is ours -/
theorem le_data_str (a b : Str) : (!PySem.W.dataLt (.str b) (.str a)) = leB a b := by
  rw [PySem.W.dataLt_str]
  rfl
theorem le_data_two (a b : Two) : (!PySem.W.dataLt (.tuple [.str b.1, .str b.2]) (.tuple [.str a.1, .str a.2])) = lePB a b := by
  rw [PySem.W.dataLt_pair rfl rfl, PySem.W.dataLt_str, PySem.W.dataLt_str]
  unfold lePB
  congr 1
  have q : ∀ x y : Str, (PyData.eqv (.str x) (.str y) = true) = (x = y) := fun x y => by simp [PyData.eqv]
  simp only [q]
  by_cases h : b.1 = a.1
  · by_cases k : b.2 = a.2
    · have e : b = a := Prod.ext h k
      subst e
      simp [ltP_irr]
    · simp only [h, k, if_true, if_false, ltP]
      by_cases z : ltS b.2 a.2
      · simp [z]
      · simp [z, ltS_irr]
  · simp only [h, if_false, ltP]
    by_cases z : ltS b.1 a.1 <;> simp [z, h]
end Wl

namespace Wl
open PySem PySem.Spec PyProof.Rows L2

/-! ### defs that keep promises, by name -/
def Has (P : Program) (w : World) (K : PySem.W.Frag) (mg : Str → Option Value) (base : Heap) (x : Str) (k : Nat) (ps : List Str) (sp : Sp) : Prop :=
  ∃ f fd, FnOk P w K mg base CX0 k f fd ps sp ∧ mg x = some (.ref f) ∧ PySem.W.keepIn K (.ref f) = true ∧ Binds K fd ps []
def HasM (P : Program) (w : World) (K : PySem.W.Frag) (mg : Str → Option Value) (base : Heap) (C : Addr) (m : Str) (k : Nat) (ps : List Str) (sp : Sp) : Prop :=
  ∃ f fd, FnOk P w K mg base CX0 k f fd ps sp ∧ Meth K C m f ∧ Binds K fd ps []
section
variable {X : Cx} {k j : Nat} {C : Addr} {ps ks : List Str} {sp : Sp} {x m : Str} {p pos apos : Pos} {e o : Expr} {es : List Expr} {kws : List Keyword} {ta : TE} {t tk : TA}
theorem pe_h (h : Has X.prog X.w X.K X.mg X.base x k ps sp) (hr : Room j X.A) (ha : PA X (e :: es) t) (hkj : k ≤ j := by decide) (hg : Gl X x := by rfl) (hdb : (x == ("__debug__" : Str)) = false := by decide)
    (he : starEach (e :: es) X.env = (false, eval e X.env) :: starEach es X.env := by rfl) (hpl : (backTo pos (starEach es X.env)).any (·.1) = false := by rfl) :
    PE X (.Call (.Name x p) (e :: es) [] pos) (tCall sp [] E0 t) := by
  obtain ⟨f, fd, F, g, kp, b⟩ := h
  exact pe_call F (hr.mono hkj) hg g kp b .nil pass0 ha hdb he hpl
theorem pe_h0 (h : Has X.prog X.w X.K X.mg X.base x k ps sp) (hr : Room j X.A) (hkj : k ≤ j := by decide) (hg : Gl X x := by rfl) (hdb : (x == ("__debug__" : Str)) = false := by decide) :
    PE X (.Call (.Name x p) [] [] pos) (tCall sp [] E0 tNil) := by
  obtain ⟨f, fd, F, g, kp, b⟩ := h
  exact pe_call0 F (hr.mono hkj) hg g kp b .nil pass0 hdb
theorem pe_hm {pl : Sem Bool} (h : HasM X.prog X.w X.K X.mg X.base C m k ps sp) (c : Cls X.K C) (hr : Room j X.A) (ho : PE X o ta) (ha : PA X (e :: es) t) (hkj : k ≤ j := by decide)
    (hst : starEach (e :: es) X.env = (false, eval e X.env) :: starEach es X.env := by rfl) (hpl : (backTo pos (starEach es X.env)).any (·.1) = false := by rfl)
    (ht : eval (.Call (.Attribute o m apos) (e :: es) [] pos) X.env = (do
      let ov ← eval o X.env
      standAt apos.atName
      let (f, first) ← holding [ov] (getMethod ov m pl)
      callWith pos f first (backTo pos (starEach (e :: es) X.env)) (backToKw pos (keywordEach [] X.env))) := by rfl) :
    PE X (.Call (.Attribute o m apos) (e :: es) [] pos) (tMeth C m sp [] E0 ta t) := by
  obtain ⟨f, fd, F, g, b⟩ := h
  exact pe_meth ho c g F (hr.mono hkj) b .nil pass0 ha hst hpl ht
theorem pe_hm0 {pl : Sem Bool} (h : HasM X.prog X.w X.K X.mg X.base C m k ps sp) (c : Cls X.K C) (hr : Room j X.A) (ho : PE X o ta) (hkj : k ≤ j := by decide)
    (ht : eval (.Call (.Attribute o m apos) [] [] pos) X.env = (do
      let ov ← eval o X.env
      standAt apos.atName
      let (f, first) ← holding [ov] (getMethod ov m pl)
      callWith pos f first (backTo pos (starEach [] X.env)) (backToKw pos (keywordEach [] X.env))) := by rfl) :
    PE X (.Call (.Attribute o m apos) [] [] pos) (tMeth C m sp [] E0 ta tNil) := by
  obtain ⟨f, fd, F, g, b⟩ := h
  exact pe_meth0 ho c g F (hr.mono hkj) b .nil pass0 ht
end

/-! ### heaps -/
theorem same_new {H : Hp} {p : Addr} {o : HO} (h : H p = none) : Same H (upd H p o) := fun b x e => by
  rw [upd_ne (ne_of_none e h)]
  exact e
theorem same_mut {H H' : Hp} {p : Addr} {o : HO} (s : Same H H') (h : H p = none) : Same H (upd H' p o) := fun b x e => by
  rw [upd_ne (ne_of_none e h)]
  exact s b x e
theorem tup_same {K : PySem.W.Frag} {H H' : Hp} {a : Addr} {xs : List V} (e : Same H H') (h : SqT K H a xs) : SqT K H' a xs := by
  rcases h with (h | ⟨o, h⟩) | h
  · exact .inl (.inl (e _ _ h))
  · exact .inl (.inr ⟨o, e _ _ h⟩)
  · exact .inr h
/-- all but what stands at a is as it was -/
def SameX (a : Addr) (H H' : Hp) : Prop := ∀ b o, b ≠ a → H b = some o → H' b = some o
theorem SameX.refl (a : Addr) (H : Hp) : SameX a H H := fun _ _ _ h => h
theorem SameX.trans {a : Addr} {H H1 H2 : Hp} (s : SameX a H H1) (t : SameX a H1 H2) : SameX a H H2 := fun b o n h => t b o n (s b o n h)
theorem sx {a : Addr} {H H' : Hp} (s : Same H H') : SameX a H H' := fun b o _ h => s b o h
theorem sameX_upd {a : Addr} {H : Hp} {o : HO} : SameX a H (upd H a o) := fun b u n h => by rw [upd_ne n]; exact h
/-- an object that H does not know may change -/
theorem sameX_mut {a : Addr} {H H' : Hp} {p : Addr} {o : HO} (s : SameX a H H') (h : H p = none) : SameX a H (upd H' p o) := fun b u n e => by
  rw [upd_ne (ne_of_none e h)]
  exact s b u n e
theorem SameX.free {a l : Addr} {H H' : Hp} (e : SameX a H H') (n : l ≠ a) (h : H' l = none) : H l = none := by
  cases q : H l with
  | none => rfl
  | some o =>
    rw [e l o n q] at h
    cases h
theorem SameX.tup {K : PySem.W.Frag} {a p : Addr} {H H' : Hp} {xs ys : List V} (e : SameX a H H') (ha : H a = some (.lst ys)) (h : SqT K H p xs) : SqT K H' p xs := by
  rcases h with (h | ⟨o, h⟩) | h
  · exact .inl (.inl (e _ _ (ne_of h ha (by intro z; cases z)) h))
  · exact .inl (.inr ⟨o, e _ _ (ne_of h ha (by intro z; cases z)) h⟩)
  · exact .inr h

/-! ### tests whose answer is known -/
theorem ite_b {b : Bool} {A B : Prop} (h1 : b = true → A) (h2 : b = false → B) : if b = true then A else B := by
  cases b with
  | true => exact iteT (h1 rfl)
  | false => exact iteF (h2 rfl)
theorem not_b {b : Bool} {A B : Prop} (h1 : b = false → A) (h2 : b = true → B) : if (!b) = true then A else B := by
  cases b with
  | true => exact iteF (h2 rfl)
  | false => exact iteT (h1 rfl)

theorem yes_it {σ : L2.St} {H : Hp} {A B : Hp → Prop} (h : A H) : tYes σ H (fun b H' => if b = true then A H' else B H') := by
  show if true = true then A H else B H
  rw [if_pos rfl]
  exact h
theorem lz {n : Nat} (h : Nat.ble n 1000 = true := by rfl) : n ≤ sizeLine := Nat.le_trans (Nat.le_of_ble_eq_true h) (by decide)
theorem lzl {n : Nat} (h : n ≤ 1000) : n ≤ sizeLine := Nat.le_trans h (by decide)

/-! ### words -/
def wdB (z : Str) : Bool := decide (1 ≤ z.length) && decide (z.length ≤ 8) && z.cps.toList.all fun c => decide (97 ≤ c) && decide (c ≤ 122)
def IsWd (z : Str) : Prop := wdB z = true
instance (z : Str) : Decidable (IsWd z) := inferInstanceAs (Decidable (wdB z = true))
def oV : Option Str → V
  | none => .non
  | some z => .str z

/-! ### the built-ins that the text leaves as they are -/
structure Bi (mg : Str → Option Value) : Prop where
  len : mg "len" = none
  range : mg "range" = none
  isi : mg "isinstance" = none
  tuple : mg "tuple" = none
  list : mg "list" = none
  sorted : mg "sorted" = none
  all : mg "all" = none
  int : mg "int" = none
  max : mg "max" = none
  min : mg "min" = none
  enum : mg "enumerate" = none
  str : mg "str" = none
end Wl
namespace Wl
open PySem PySem.Spec PyProof.Rows L2
theorem atI_tab {ns : List Int} {r : Int} (h0 : 0 ≤ r) (h : r < ns.length) : ∃ n ∈ ns, atI (ns.map V.int) r = some (.int n) := by
  have hr : r.toNat < ns.length := by omega
  refine ⟨ns[r.toNat], List.getElem_mem hr, at_of (j := r.toNat) (by omega) ?_⟩
  rw [List.getElem?_map, List.getElem?_eq_getElem hr]
  rfl
theorem atI_strs {zs : List Str} {r : Int} (h0 : 0 ≤ r) (h : r < zs.length) : ∃ z ∈ zs, atI (zs.map V.str) r = some (.str z) := by
  have hr : r.toNat < zs.length := by omega
  refine ⟨zs[r.toNat], List.getElem_mem hr, at_of (j := r.toNat) (by omega) ?_⟩
  rw [List.getElem?_map, List.getElem?_eq_getElem hr]
  rfl
theorem letters_eq : ("abcdefghijklmnopqrstuvwxyz" : Str).cps.toList = List.range' 97 26 := by decide +kernel
theorem letter_at {r : Int} (h0 : 0 ≤ r) (h : r < 26) : atI ("abcdefghijklmnopqrstuvwxyz" : Str).cps.toList r = some (97 + r.toNat) := by
  rw [letters_eq]
  refine at_of' (j := r.toNat) (by omega) ?_
  rw [List.getElem?_range' (by omega)]
  congr 1
  omega
where
  at_of' {xs : List Nat} {z : Int} {j : Nat} {v : Nat} (e : z = (j : Int)) (h : xs[j]? = some v) : atI xs z = some v := by
    rw [e]
    exact atI_nat h
def sign (c : Nat) : Str := ⟨#[c]⟩
theorem joinL_flat : ∀ ps : List (List Nat), TL.joinL [] ps = ps.flatten
  | [] => rfl
  | [p] => by simp [TL.joinL]
  | p :: q :: r => by
    show p ++ ([] ++ TL.joinL [] (q :: r)) = _
    rw [joinL_flat (q :: r)]
    simp
theorem join_codes (ys : List Str) : (Txt.join ("" : Str) ys).cps.toList = (ys.map fun y => y.cps.toList).flatten := by
  have h := TL.tl_join ("" : Str) ys
  rw [show TL.tl ("" : Str) = [] by decide +kernel, joinL_flat] at h
  rw [TL.join_eq]
  exact h
theorem join_signs (cs : List Nat) : (Txt.join ("" : Str) (cs.map sign)).cps.toList = cs := by
  rw [join_codes, List.map_map]
  induction cs with
  | nil => rfl
  | cons c r ih => exact congrArg (c :: ·) ih
theorem isWd_of {z : Str} (h1 : 1 ≤ z.cps.toList.length) (h8 : z.cps.toList.length ≤ 8) (hc : ∀ c ∈ z.cps.toList, 97 ≤ c ∧ c ≤ 122) : IsWd z := by
  unfold IsWd wdB Str.length
  rw [Array.length_toList] at h1 h8
  simp only [Bool.and_eq_true, decide_eq_true_eq, List.all_eq_true]
  exact ⟨⟨h1, h8⟩, hc⟩
theorem IsWd.len {z : Str} (h : IsWd z) : 1 ≤ z.length ∧ z.length ≤ 8 := by
  unfold IsWd wdB at h
  simp only [Bool.and_eq_true, decide_eq_true_eq] at h
  exact h.1
end Wl

namespace Wl
open PySem PySem.Spec PyProof.Rows L2

inductive Each {α β : Type} (R : α → β → Prop) : List α → List β → Prop
  | nil : Each R [] []
  | cons {a : α} {b : β} {as : List α} {bs : List β} : R a b → Each R as bs → Each R (a :: as) (b :: bs)
section
variable {α β : Type} {R S : α → β → Prop}
theorem Each.length : ∀ {as : List α} {bs : List β}, Each R as bs → as.length = bs.length
  | _, _, .nil => rfl
  | _, _, .cons _ t => congrArg (· + 1) t.length
theorem Each.mono (h : ∀ a b, R a b → S a b) : ∀ {as : List α} {bs : List β}, Each R as bs → Each S as bs
  | _, _, .nil => .nil
  | _, _, .cons r t => .cons (h _ _ r) (t.mono h)
theorem Each.append : ∀ {as : List α} {bs : List β} {cs : List α} {ds : List β}, Each R as bs → Each R cs ds → Each R (as ++ cs) (bs ++ ds)
  | _, _, _, _, .nil, s => s
  | _, _, _, _, .cons r t, s => .cons r (t.append s)
theorem Each.get : ∀ {as : List α} {bs : List β} {i : Nat} {a : α}, Each R as bs → as[i]? = some a → ∃ b, bs[i]? = some b ∧ R a b
  | _, _, _, _, .nil, e => by simp at e
  | _, _, 0, _, .cons r _, e => by simp at e; subst e; exact ⟨_, rfl, r⟩
  | _, _, i + 1, x, .cons _ t, e => by
    obtain ⟨u, h1, h2⟩ := t.get (i := i) (a := x) (by simpa using e)
    exact ⟨u, by simpa using h1, h2⟩
theorem Each.get2 : ∀ {as : List α} {bs : List β} {i : Nat} {b : β}, Each R as bs → bs[i]? = some b → ∃ a, as[i]? = some a ∧ R a b
  | _, _, _, _, .nil, e => by simp at e
  | _, _, 0, _, .cons r _, e => by simp at e; subst e; exact ⟨_, rfl, r⟩
  | _, _, i + 1, x, .cons _ t, e => by
    obtain ⟨u, h1, h2⟩ := t.get2 (i := i) (b := x) (by simpa using e)
    exact ⟨u, by simpa using h1, h2⟩
theorem Each.mem2 : ∀ {as : List α} {bs : List β} {b : β}, Each R as bs → b ∈ bs → ∃ a ∈ as, R a b
  | _, _, _, .nil, h => by simp at h
  | _, _, _, .cons r t, h => by
    rcases List.mem_cons.mp h with rfl | h
    · exact ⟨_, List.mem_cons_self, r⟩
    · obtain ⟨a, ha, hr⟩ := t.mem2 h
      exact ⟨a, List.mem_cons_of_mem _ ha, hr⟩
theorem each_fn {f : α → β} : ∀ {as : List α} {bs : List β}, Each (fun a b => b = f a) as bs → bs = as.map f
  | _, _, .nil => rfl
  | _, _, .cons r t => by rw [List.map_cons, ← each_fn t, r]
theorem each_map_l {γ : Type} {g : γ → α} : ∀ {cs : List γ} {bs : List β}, Each R (cs.map g) bs → Each (fun c b => R (g c) b) cs bs
  | [], [], _ => .nil
  | [], _ :: _, h => nomatch h
  | _ :: _, [], h => nomatch h
  | _ :: _, _ :: _, .cons r t => .cons r (each_map_l t)
theorem each_map_r {γ : Type} {g : γ → α} : ∀ {cs : List γ} {bs : List β}, Each (fun c b => R (g c) b) cs bs → Each R (cs.map g) bs
  | _, _, .nil => .nil
  | _, _, .cons r t => .cons r (each_map_r t)
end

theorem filter_take_snoc {α : Type} {p : α → Bool} {ys : List α} {i : Nat} {x : α} (h : ys[i]? = some x) : (ys.take (i + 1)).filter p = (ys.take i).filter p ++ (if p x then [x] else []) := by
  rw [List.take_add_one, h, List.filter_append]
  congr 1
  by_cases c : p x = true
  · simp [c]
  · simp [c]

section
variable {J : It} {ys : List V} {G : Hp → Prop} {slot : Nat} {tt : TT} {te : TE} {vs : List Nat} {σ : L2.St} {H1 : Hp} {D : Addr} {Qd : Hp → Prop}
/-- a comprehension [e for x in ys if t]: each e a value that R tells of, the heap only growing -/
theorem lc_rel (w : L2.Walk J ys.length G (YAt ys)) (hD : H1 D = none) (keep : V → Bool) (R : V → V → Hp → Prop)
    (hG : ∀ H, Same H1 H → G H)
    (hw : ∀ x, wipe ((wipe σ vs).set slot (some x)) vs = wipe σ vs)
    (ht : ∀ (x : V) (H : Hp), x ∈ ys → Same H1 H → ∀ Q : Bool → Hp → Prop, Q (keep x) H → tt ((wipe σ vs).set slot (some x)) H Q)
    (he : ∀ (x : V) (H : Hp), x ∈ ys → keep x = true → Same H1 H → ∀ Q : VK, (∀ y H', Same H H' → R x y H' → Q y H') → te ((wipe σ vs).set slot (some x)) H Q)
    (hR : ∀ x y H H' acc, H D = some (.lst acc) → SameX D H H' → R x y H → R x y H')
    (hn : ys.length < sizeLine)
    (hd : ∀ zs H, Same H1 H → H D = some (.lst zs) → Each (fun x z => R x z H) (ys.filter keep) zs → Qd H) :
    ∃ W : Nat → Nat → Hp → Prop, (∃ m, W 0 m (upd H1 D (.lst []))) ∧ ∀ i m H, W i m H →
      (J.stop i H ∧ Qd H) ∨ (J.go i H ∧ ∃ Nx : Hp → Prop, (∀ H', Nx H' → ∃ m', m' < m ∧ W (i + 1) m' H') ∧ ∀ x H', J.yld i H x H' → gName slot x (wipe σ vs) H' fun σ2 H2 => wipe σ2 vs = wipe σ vs ∧ tt σ2 H2 fun b H3 =>
        if b = true then te σ2 H3 fun y H4 => ∃ acc, H4 D = some (.lst acc) ∧ acc.length < sizeLine ∧ Nx (upd H4 D (.lst (acc ++ [y]))) else Nx H3) := by
  refine lc_it w (fun i H => ∃ zs, Same H1 H ∧ H D = some (.lst zs) ∧ Each (fun x z => R x z H) ((ys.take i).filter keep) zs) ⟨[], same_new hD, upd_same, by simpa using Each.nil⟩ (fun i H _ h => ?_) ?_ ?_
  · obtain ⟨zs, s, _⟩ := h
    exact hG H s
  · rintro i x H H' hi ⟨zs, s, hz, ez⟩ ⟨rfl, hx⟩
    have hm : x ∈ ys := List.mem_of_getElem? hx
    refine ⟨hw x, ht x _ hm s _ ?_⟩
    have hf := filter_take_snoc (p := keep) hx
    refine ite_b (fun e => ?_) (fun e => ?_)
    · refine he x _ hm e s _ fun y H4 s4 r4 => ⟨zs, s4 _ _ hz, ?_, zs ++ [y], same_mut (s.trans s4) hD, upd_same, ?_⟩
      · have h1 := ez.length
        have h2 : ((ys.take i).filter keep).length ≤ (ys.take i).length := List.length_filter_le _ _
        have h3 : (ys.take i).length ≤ ys.length := List.length_take_le' _ _
        omega
      · rw [hf, if_pos e]
        have hD4 : H4 D = some (.lst zs) := s4 _ _ hz
        refine Each.append (ez.mono fun a b r => ?_) (.cons ?_ .nil)
        · exact hR _ _ _ _ _ hz (fun b o n h => by rw [upd_ne n]; exact s4 _ _ h) r
        · exact hR _ _ _ _ _ hD4 sameX_upd r4
    · refine ⟨zs, s, hz, ?_⟩
      rw [hf, if_neg (by rw [e]; decide), List.append_nil]
      exact ez
  · rintro H ⟨zs, s, hz, ez⟩
    rw [List.take_length] at ez
    exact hd zs H s hz ez
/-- the same, each e a plain value, the heap as it was -/
theorem lc_map (w : L2.Walk J ys.length G (YAt ys)) (hD : H1 D = none) (keep : V → Bool) (f : V → V)
    (hG : ∀ H, Same H1 H → G H)
    (hw : ∀ x, wipe ((wipe σ vs).set slot (some x)) vs = wipe σ vs)
    (ht : ∀ (x : V) (H : Hp), x ∈ ys → Same H1 H → ∀ Q : Bool → Hp → Prop, Q (keep x) H → tt ((wipe σ vs).set slot (some x)) H Q)
    (he : ∀ (x : V) (H : Hp), x ∈ ys → keep x = true → Same H1 H → ∀ Q : VK, Q (f x) H → te ((wipe σ vs).set slot (some x)) H Q)
    (hn : ys.length < sizeLine)
    (hd : ∀ H, Same H1 H → H D = some (.lst ((ys.filter keep).map f)) → Qd H) :
    ∃ W : Nat → Nat → Hp → Prop, (∃ m, W 0 m (upd H1 D (.lst []))) ∧ ∀ i m H, W i m H →
      (J.stop i H ∧ Qd H) ∨ (J.go i H ∧ ∃ Nx : Hp → Prop, (∀ H', Nx H' → ∃ m', m' < m ∧ W (i + 1) m' H') ∧ ∀ x H', J.yld i H x H' → gName slot x (wipe σ vs) H' fun σ2 H2 => wipe σ2 vs = wipe σ vs ∧ tt σ2 H2 fun b H3 =>
        if b = true then te σ2 H3 fun y H4 => ∃ acc, H4 D = some (.lst acc) ∧ acc.length < sizeLine ∧ Nx (upd H4 D (.lst (acc ++ [y]))) else Nx H3) :=
  lc_rel w hD keep (fun x y _ => y = f x) hG hw ht (fun x H hx hk s Q q => he x H hx hk s Q (q _ H (Same.refl H) rfl)) (fun _ _ _ _ _ _ _ r => r) hn fun zs H s hz ez => hd H s (by rw [hz, each_fn ez])
end
/-- a text's signs as a list -/
def signsOf (z : Str) : List V := z.cps.toList.map fun c => .str (sign c)
theorem walk_signs {z : Str} : L2.Walk (Its z) (signsOf z).length (fun _ => True) (YAt (signsOf z)) := by
  have e : (signsOf z).length = z.cps.size := by simp [signsOf]
  rw [e]
  refine ⟨fun _ _ hi _ => hi, fun _ _ => Nat.le_refl _, ?_⟩
  rintro i H x H' _ _ ⟨rfl, c, hc, rfl⟩
  refine ⟨rfl, ?_⟩
  have : z.cps.toList[i]? = some c := by simpa using hc
  simp only [signsOf, List.getElem?_map, this]
  rfl
theorem yes_pure {σ : L2.St} {H : Hp} {Q : Bool → Hp → Prop} (h : Q true H) : tYes σ H Q := h
theorem inV_strs (z : Str) (ws : List Str) : inV (.str z) (ws.map V.str) = decide (z ∈ ws) := by
  unfold inV
  induction ws with
  | nil => rfl
  | cons x r ih =>
    rw [List.map_cons, List.any_cons, ih]
    by_cases h : x = z
    · subst h
      simp [eqV]
    · have h2 : ¬ z = x := fun e => h e.symm
      simp [eqV, h, h2]
theorem flat_strs (ws : List Str) : (ws.map V.str).all flatV = true := by
  rw [List.all_eq_true]
  intro v hv
  obtain ⟨x, _, rfl⟩ := List.mem_map.mp hv
  rfl
theorem dp_strs {K : PySem.W.Frag} {H : Hp} : ∀ ws : List Str, DpAll K H (ws.map V.str) (ws.map PyData.str)
  | [] => .nil
  | z :: r => .cons (.str z) (dp_strs r)
theorem wd_ok {z : Str} (h : IsWd z) : PyData.strOk z = true := by
  unfold PyData.strOk
  rw [← Array.all_toList, List.all_eq_true]
  intro c hc
  unfold IsWd wdB at h
  simp only [Bool.and_eq_true, decide_eq_true_eq, List.all_eq_true] at h
  have := h.2 c hc
  exact decide_eq_true (by omega)
theorem lay_strs : ∀ {ws : List Str}, (∀ z ∈ ws, IsWd z) → PyData.canLayAll0 (ws.map PyData.str) = true
  | [], _ => by simp [PyData.canLayAll0]
  | z :: r, h => by
    have h1 := wd_ok (h z List.mem_cons_self)
    have h2 := lay_strs (ws := r) fun y hy => h y (List.mem_cons_of_mem _ hy)
    simp [PyData.canLayAll0, PyData.canLay0, h1, h2]
theorem depth_strs : ∀ ws : List Str, PyData.depthAll (ws.map PyData.str) = 0
  | [] => by simp [PyData.depthAll]
  | z :: r => by simp [PyData.depthAll, PyData.depth, depth_strs r]
theorem shaped_list {ds : List PyData} (h : PyData.canLayAll0 ds = true) (d : PyData.depthAll ds ≤ 60) : SeqAt.shaped (.list ds) = true := by
  unfold SeqAt.shaped
  rw [Bool.and_eq_true]
  refine ⟨by simpa [PyData.canLay0] using h, decide_eq_true ?_⟩
  simp only [PyData.depth]
  omega
theorem shaped_tuple {ds : List PyData} (h : PyData.canLayAll0 ds = true) (d : PyData.depthAll ds ≤ 60) : SeqAt.shaped (.tuple ds) = true := by
  unfold SeqAt.shaped
  rw [Bool.and_eq_true]
  refine ⟨by simpa [PyData.canLay0] using h, decide_eq_true ?_⟩
  simp only [PyData.depth]
  omega
theorem cut_hi (z : Str) (k : Nat) : (cutS z none (some (k : Int))).cps.toList = z.cps.toList.take k := by
  show ((z.cps.toList.drop (HT.sIx z.length 0 none)).take (HT.sIx z.length z.length (some (k : Int)) - HT.sIx z.length 0 none)) = _
  rw [HT.sIx_none, HT.sIx_nat, Nat.sub_zero, List.drop_zero]
  have : z.length = z.cps.toList.length := by simp [Str.length]
  rw [this]
  by_cases h : k ≤ z.cps.toList.length
  · rw [Nat.min_eq_left h]
  · rw [Nat.min_eq_right (by omega), List.take_length, List.take_of_length_le (by omega)]
end Wl

namespace Wl
open PySem PySem.Spec PyProof.Rows L2
inductive Wh where
  | first | last | any
  deriving DecidableEq
def whS : Wh → Str
  | .first => "first"
  | .last => "last"
  | .any => "any"
abbrev Chg := Nat × Nat × Wh
def isLet (c : Nat) : Prop := 97 ≤ c ∧ c ≤ 122
instance (c : Nat) : Decidable (isLet c) := by unfold isLet; infer_instance
def OkC (ch : Chg) : Prop := isLet ch.1 ∧ isLet ch.2.1 ∧ ch.1 ≠ ch.2.1
def acts (wh : Wh) (i n : Nat) : Bool := match wh with
  | .first => decide (i = 0)
  | .last => decide (i + 1 = n)
  | .any => true
abbrev Edges := List (Nat × Nat)
def es (chs : List Chg) (i n : Nat) : Edges := (chs.filter fun ch => acts ch.2.2 i n).map fun ch => (ch.1, ch.2.1)
def nbE (c : Nat) (e : Nat × Nat) : List Nat := (if e.1 = c then [e.2] else []) ++ (if e.2 = c then [e.1] else [])
def nbrs (E : Edges) (c : Nat) : List Nat := E.flatMap (nbE c)
theorem mem_nbrs {E : Edges} {c d : Nat} : d ∈ nbrs E c ↔ (c, d) ∈ E ∨ (d, c) ∈ E := by
  unfold nbrs nbE
  rw [List.mem_flatMap]
  constructor
  · rintro ⟨⟨x, y⟩, he, h⟩
    rcases List.mem_append.mp h with k | k
    · by_cases q : x = c
      · rw [if_pos q, List.mem_singleton] at k
        rw [k, ← q]
        exact .inl he
      · rw [if_neg q] at k
        cases k
    · by_cases q : y = c
      · rw [if_pos q, List.mem_singleton] at k
        rw [k, ← q]
        exact .inr he
      · rw [if_neg q] at k
        cases k
  · rintro (h | h)
    · exact ⟨(c, d), h, List.mem_append_left _ (by simp)⟩
    · exact ⟨(d, c), h, List.mem_append_right _ (by simp)⟩
theorem nbrs_symm {E : Edges} {c d : Nat} (h : d ∈ nbrs E c) : c ∈ nbrs E d := mem_nbrs.mpr ((mem_nbrs.mp h).symm)
theorem nbrs_snoc (E : Edges) (x y c : Nat) : nbrs (E ++ [(x, y)]) c = nbrs E c ++ ((if x = c then [y] else []) ++ (if y = c then [x] else [])) := by
  unfold nbrs
  rw [List.flatMap_append]
  simp [nbE]
inductive Conn (E : Edges) : Nat → Nat → Prop
  | refl (a : Nat) : Conn E a a
  | step {a b c : Nat} : Conn E a b → c ∈ nbrs E b → Conn E a c
theorem Conn.trans {E : Edges} {a b c : Nat} (h : Conn E a b) (k : Conn E b c) : Conn E a c := by
  induction k with
  | refl => exact h
  | step _ m ih => exact .step ih m
theorem Conn.symm {E : Edges} {a b : Nat} (h : Conn E a b) : Conn E b a := by
  induction h with
  | refl => exact .refl _
  | step _ m ih => exact (Conn.step (.refl _) (nbrs_symm m)).trans ih
def OkE (E : Edges) : Prop := ∀ e ∈ E, isLet e.1 ∧ isLet e.2
theorem conn_let {E : Edges} (ok : OkE E) {a b : Nat} (h : Conn E a b) (ha : isLet a) : isLet b := by
  induction h with
  | refl => exact ha
  | step _ m _ =>
    rcases mem_nbrs.mp m with m | m
    · exact (ok _ m).2
    · exact (ok _ m).1
theorem es_ok {chs : List Chg} (h : ∀ ch ∈ chs, OkC ch) (i n : Nat) : OkE (es chs i n) := fun e he => by
  obtain ⟨ch, hc, rfl⟩ := List.mem_map.mp he
  have := h ch (List.mem_filter.mp hc).1
  exact ⟨this.1, this.2.1⟩
theorem least_of (p : Nat → Prop) : ∀ n, p n → ∃ m, p m ∧ ∀ d, p d → m ≤ d := by
  intro n
  induction n using Nat.strongRecOn with
  | _ n ih =>
    intro hn
    by_cases h : ∃ k, k < n ∧ p k
    · obtain ⟨k, hk, pk⟩ := h
      exact ih k hk pk
    · exact ⟨n, hn, fun d hd => Nat.le_of_not_lt fun q => h ⟨d, q, hd⟩⟩
noncomputable def lo (E : Edges) (c : Nat) : Nat := Classical.choose (least_of (Conn E c) c (.refl c))
theorem lo_conn (E : Edges) (c : Nat) : Conn E c (lo E c) := (Classical.choose_spec (least_of (Conn E c) c (.refl c))).1
theorem lo_le {E : Edges} {c d : Nat} (h : Conn E c d) : lo E c ≤ d := (Classical.choose_spec (least_of (Conn E c) c (.refl c))).2 d h
theorem lo_self (E : Edges) (c : Nat) : lo E c ≤ c := lo_le (.refl c)
theorem lo_eq {E : Edges} {c d : Nat} : lo E c = lo E d ↔ Conn E c d := by
  constructor
  · intro e
    have h1 := lo_conn E c
    have h2 := lo_conn E d
    rw [← e] at h2
    exact h1.trans h2.symm
  · intro h
    exact Nat.le_antisymm (lo_le (h.trans (lo_conn E d))) (lo_le (h.symm.trans (lo_conn E c)))
theorem lo_of {E : Edges} {c m : Nat} (h : Conn E c m) (k : ∀ d, Conn E c d → m ≤ d) : lo E c = m := Nat.le_antisymm (lo_le h) (k _ (lo_conn E c))
/-! ### words -/
abbrev codes (z : Str) : List Nat := z.cps.toList
def ofC (l : List Nat) : Str := ⟨l.toArray⟩
theorem codes_ofC (l : List Nat) : codes (ofC l) = l := rfl
noncomputable def mean (chs : List Chg) (z : Str) : Str := ofC ((codes z).mapIdx fun i c => lo (es chs i (codes z).length) c)
theorem mean_len (chs : List Chg) (z : Str) : (codes (mean chs z)).length = (codes z).length := by
  unfold mean
  rw [codes_ofC, List.length_mapIdx]
theorem mean_at (chs : List Chg) (z : Str) {i c : Nat} (h : (codes z)[i]? = some c) : (codes (mean chs z))[i]? = some (lo (es chs i (codes z).length) c) := by
  unfold mean
  rw [codes_ofC, List.getElem?_mapIdx, h]
  rfl
/-- they are one: as long, and at each place the letters hang together -/
def OneP (chs : List Chg) (z y : Str) : Prop := (codes z).length = (codes y).length ∧ ∀ i a b, (codes z)[i]? = some a → (codes y)[i]? = some b → Conn (es chs i (codes z).length) b a
theorem one_iff {chs : List Chg} {z y : Str} : OneP chs z y ↔ (codes z).length = (codes y).length ∧ mean chs z = mean chs y := by
  constructor
  · rintro ⟨hl, h⟩
    refine ⟨hl, str_ext ?_⟩
    refine List.ext_getElem? fun i => ?_
    by_cases hi : i < (codes z).length
    · have h1 : (codes z)[i]? = some (codes z)[i] := List.getElem?_eq_getElem hi
      have h2 : (codes y)[i]? = some ((codes y)[i]'(by omega)) := List.getElem?_eq_getElem (by omega)
      have e1 := mean_at chs z h1
      have e2 := mean_at chs y h2
      rw [e1, e2, hl]
      rw [hl] at h
      exact congrArg some (lo_eq.mpr (h i _ _ h1 h2).symm)
    · have q1 : (codes (mean chs z))[i]? = none := List.getElem?_eq_none (by rw [mean_len]; omega)
      have q2 : (codes (mean chs y))[i]? = none := List.getElem?_eq_none (by rw [mean_len]; omega)
      exact q1.trans q2.symm
  · rintro ⟨hl, e⟩
    refine ⟨hl, fun i a b ha hb => ?_⟩
    have e1 := mean_at chs z ha
    have e2 := mean_at chs y hb
    rw [e, e2, ← hl] at e1
    exact lo_eq.mp (Option.some.inj e1)
theorem mean_mean {chs : List Chg} (z : Str) : mean chs (mean chs z) = mean chs z := by
  refine str_ext (List.ext_getElem? fun i => ?_)
  have l1 := mean_len chs z
  have l2 := mean_len chs (mean chs z)
  by_cases hi : i < (codes z).length
  · have h1 : (codes z)[i]? = some (codes z)[i] := List.getElem?_eq_getElem hi
    have e1 := mean_at chs z h1
    have e2 := mean_at chs (mean chs z) e1
    rw [e2, e1, l1]
    exact congrArg some (lo_eq.mpr (lo_conn _ _).symm)
  · have q1 : (codes (mean chs (mean chs z)))[i]? = none := List.getElem?_eq_none (by rw [mean_len, mean_len]; omega)
    have q2 : (codes (mean chs z))[i]? = none := List.getElem?_eq_none (by rw [mean_len]; omega)
    exact q1.trans q2.symm
theorem one_mean (chs : List Chg) (z : Str) : OneP chs (mean chs z) z := one_iff.mpr ⟨mean_len chs z, mean_mean z⟩
theorem one_symm {chs : List Chg} {z y : Str} : OneP chs z y ↔ OneP chs y z := by
  rw [one_iff, one_iff]
  constructor <;> rintro ⟨a, b⟩ <;> exact ⟨a.symm, b.symm⟩
theorem lt_no : ∀ {l m : List Nat}, l.length = m.length → (∀ (i a b : Nat), l[i]? = some a → m[i]? = some b → a ≤ b) → ¬ m < l
  | [], [], _, _ => List.lt_irrefl _
  | a :: l, b :: m, hl, h => by
    have h0 : a ≤ b := h 0 a b rfl rfl
    have ih := lt_no (l := l) (m := m) (by simpa using hl) fun i x y hx hy => h (i + 1) x y (by simpa using hx) (by simpa using hy)
    intro q
    rcases List.cons_lt_cons_iff.mp q with q | ⟨e, q⟩
    · omega
    · exact ih q
  | [], b :: m, hl, _ => by simp at hl
  | a :: l, [], hl, _ => by simp at hl
theorem mean_le (chs : List Chg) (z : Str) : ¬ ltS z (mean chs z) := by
  refine lt_no (mean_len chs z) fun i a b ha hb => ?_
  rw [mean_at chs z hb] at ha
  cases ha
  exact lo_self _ _
theorem es_nil (i n : Nat) : es [] i n = [] := rfl
theorem conn_nil {a b : Nat} (h : Conn [] a b) : a = b := by
  induction h with
  | refl => rfl
  | step _ m _ => cases m
theorem one_plain {z y : Str} : OneP [] z y ↔ z = y := by
  constructor
  · rintro ⟨hl, h⟩
    refine str_ext (List.ext_getElem? fun i => ?_)
    by_cases hi : i < (codes z).length
    · have h1 : (codes z)[i]? = some (codes z)[i] := List.getElem?_eq_getElem hi
      have h2 : (codes y)[i]? = some ((codes y)[i]'(by omega)) := List.getElem?_eq_getElem (by omega)
      exact h1.trans ((congrArg some (conn_nil (h i _ _ h1 h2)).symm).trans h2.symm)
    · have q1 : (codes z)[i]? = none := List.getElem?_eq_none (by omega)
      have q2 : (codes y)[i]? = none := List.getElem?_eq_none (by omega)
      exact q1.trans q2.symm
  · rintro rfl
    refine ⟨rfl, fun i a b h1 h2 => ?_⟩
    rw [h1] at h2
    cases h2
    exact .refl _
theorem mean_plain (z : Str) : mean [] z = z := by
  refine str_ext (List.ext_getElem? fun i => ?_)
  have l1 := mean_len [] z
  by_cases hi : i < (codes z).length
  · have h1 : (codes z)[i]? = some (codes z)[i] := List.getElem?_eq_getElem hi
    exact (mean_at [] z h1).trans ((congrArg some (conn_nil (lo_conn _ _)).symm).trans h1.symm)
  · have q1 : (codes (mean [] z))[i]? = none := List.getElem?_eq_none (by rw [mean_len]; omega)
    have q2 : (codes z)[i]? = none := List.getElem?_eq_none (by omega)
    exact q1.trans q2.symm
theorem wd_codes {z : Str} : IsWd z ↔ (1 ≤ (codes z).length ∧ (codes z).length ≤ 8) ∧ ∀ c ∈ codes z, isLet c := by
  unfold IsWd wdB isLet Str.length codes
  rw [Array.length_toList]
  simp only [Bool.and_eq_true, decide_eq_true_eq, List.all_eq_true]
theorem mean_wd {chs : List Chg} (h : ∀ ch ∈ chs, OkC ch) {z : Str} (hz : IsWd z) : IsWd (mean chs z) := by
  obtain ⟨h1, h2⟩ := wd_codes.mp hz
  refine wd_codes.mpr ⟨by rw [mean_len]; exact h1, fun c hc => ?_⟩
  obtain ⟨i, hi, rfl⟩ := List.mem_iff_getElem.mp hc
  have hi2 : i < (codes z).length := by rw [mean_len] at hi; exact hi
  have e := mean_at chs z (List.getElem?_eq_getElem hi2)
  rw [List.getElem?_eq_getElem hi] at e
  rw [Option.some.inj e]
  exact conn_let (es_ok h _ _) (lo_conn _ _) (h2 _ (List.getElem_mem hi2))
/-! ### the walk over letters, by breadth -/
structure Bfs (E : Edges) (goal : Nat) (tw : List (Nat × Option Nat)) (at' : Nat) : Prop where
  nd : (tw.map (·.1)).Nodup
  lets : ∀ x ∈ tw.map (·.1), isLet x
  conn : ∀ x ∈ tw.map (·.1), Conn E goal x
  head : tw[0]? = some (goal, none)
  par : ∀ (i c d : Nat), tw[i]? = some (c, some d) → ∃ j o, j < i ∧ tw[j]? = some (d, o)
  non : ∀ (i c : Nat), tw[i]? = some (c, none) → i = 0
  closed : ∀ (j x : Nat) (o : Option Nat), j < at' → tw[j]? = some (x, o) → ∀ y ∈ nbrs E x, y ∈ tw.map (·.1)
theorem Bfs.start {E : Edges} {goal : Nat} (h : isLet goal) : Bfs E goal [(goal, none)] 0 := by
  refine ⟨by simp, ?_, ?_, rfl, ?_, ?_, fun j x o hj => by omega⟩
  · intro x hx
    simp at hx
    subst hx
    exact h
  · intro x hx
    simp at hx
    subst hx
    exact .refl _
  · intro i c d hi
    match i, hi with
    | 0, e => cases e
    | n + 1, e => simp at e
  · intro i c hi
    match i, hi with
    | 0, _ => rfl
    | n + 1, e => simp at e
theorem Bfs.len {E : Edges} {goal : Nat} {tw : List (Nat × Option Nat)} {a : Nat} (b : Bfs E goal tw a) : tw.length ≤ 26 := by
  have h := b.nd.length_le_of_subset (l₂ := List.range' 97 26) fun x hx => by
    have := b.lets x hx
    rw [List.mem_range'_1]
    unfold isLet at this
    omega
  simpa using h
theorem Bfs.push {E : Edges} {goal x y : Nat} {tw : List (Nat × Option Nat)} {a : Nat} {o : Option Nat} (b : Bfs E goal tw a) (hx : tw[a]? = some (x, o)) (hy : y ∈ nbrs E x) (hl : isLet y) (hn : y ∉ tw.map (·.1)) : Bfs E goal (tw ++ [(y, some x)]) a := by
  have ha : a < tw.length := (List.getElem?_eq_some_iff.mp hx).1
  have old : ∀ {i : Nat} {p : Nat × Option Nat}, tw[i]? = some p → (tw ++ [(y, some x)])[i]? = some p := fun {i p} h => by
    rw [List.getElem?_append_left (List.getElem?_eq_some_iff.mp h).1]
    exact h
  have back : ∀ {i : Nat} {p : Nat × Option Nat}, (tw ++ [(y, some x)])[i]? = some p → tw[i]? = some p ∨ (i = tw.length ∧ p = (y, some x)) := fun {i p} h => by
    by_cases q : i < tw.length
    · rw [List.getElem?_append_left q] at h
      exact .inl h
    · rw [List.getElem?_append_right (by omega)] at h
      have : i - tw.length = 0 := by
        have := (List.getElem?_eq_some_iff.mp h).1
        simp at this
        omega
      rw [this] at h
      simp at h
      exact .inr ⟨by omega, h.symm⟩
  refine ⟨?_, ?_, ?_, old b.head, ?_, ?_, ?_⟩
  · rw [List.map_append, List.nodup_append]
    refine ⟨b.nd, by simp, fun u hu v hv e => ?_⟩
    simp at hv
    subst hv e
    exact hn hu
  · intro u hu
    rw [List.map_append] at hu
    rcases List.mem_append.mp hu with hu | hu
    · exact b.lets u hu
    · simp at hu
      subst hu
      exact hl
  · intro u hu
    rw [List.map_append] at hu
    rcases List.mem_append.mp hu with hu | hu
    · exact b.conn u hu
    · simp at hu
      subst hu
      exact .step (b.conn x (List.mem_map.mpr ⟨_, List.mem_of_getElem? hx, rfl⟩)) hy
  · intro i c d hi
    rcases back hi with h | ⟨e, h⟩
    · obtain ⟨j, o', hj, h'⟩ := b.par i c d h
      exact ⟨j, o', hj, old h'⟩
    · cases h
      exact ⟨a, o, by omega, old hx⟩
  · intro i c hi
    rcases back hi with h | ⟨e, h⟩
    · exact b.non i c h
    · cases h
  · intro j u o' hj h v hv
    rcases back h with h | ⟨e, h⟩
    · rw [List.map_append]
      exact List.mem_append_left _ (b.closed j u o' hj h v hv)
    · omega
theorem Bfs.next {E : Edges} {goal x : Nat} {tw : List (Nat × Option Nat)} {a : Nat} {o : Option Nat} (b : Bfs E goal tw a) (hx : tw[a]? = some (x, o)) (h : ∀ y ∈ nbrs E x, y ∈ tw.map (·.1)) : Bfs E goal tw (a + 1) := by
  refine ⟨b.nd, b.lets, b.conn, b.head, b.par, b.non, fun j u o' hj hu => ?_⟩
  by_cases q : j < a
  · exact b.closed j u o' q hu
  · have : j = a := by omega
    subst this
    rw [hx] at hu
    cases hu
    exact h
theorem Bfs.done {E : Edges} {goal : Nat} {tw : List (Nat × Option Nat)} {a : Nat} (b : Bfs E goal tw a) (ha : tw.length ≤ a) {c : Nat} : c ∈ tw.map (·.1) ↔ Conn E goal c := by
  refine ⟨b.conn c, fun h => ?_⟩
  induction h with
  | refl => exact List.mem_map.mpr ⟨_, List.mem_of_getElem? b.head, rfl⟩
  | step _ m ih =>
    obtain ⟨⟨u, o⟩, hu, rfl⟩ := List.mem_map.mp ih
    obtain ⟨j, hj, e⟩ := List.mem_iff_getElem.mp hu
    exact b.closed j u o (by omega) (by rw [List.getElem?_eq_getElem hj, e]) _ m
end Wl

namespace Wl
open PySem PySem.Spec PyProof.Rows L2
/-! enumerate(a text) -/
def IteS (z : Str) : It where
  go := fun i _ => i < z.cps.size
  yld := fun i H v H' => ∃ T c, v = .ref T ∧ H T = none ∧ z.cps[i]? = some c ∧ H' = upd H T (.tup [.int (i : Nat), .str (sign c)])
  stop := fun i _ => z.cps.size ≤ i
theorem turn_enumS {P : Program} {w : World} {K : PySem.W.Frag} {elts : List Expr} {kk : Nat} {tpos : Pos} (z : Str) (t : Tok) (e it : Addr) :
    Turn P w K (.Tuple elts kk tpos) (IteS z) [e, it] e (fun i h => (∃ old, IsEnum h e it ((i : Nat) : Int) old) ∧ h.IsStrIter it (strIterType z) z t i ∧ e ≠ it) where
  mem := by simp
  obj := fun i h st b hb => by
    obtain ⟨⟨old, he⟩, ⟨o, ho, hc, hd⟩, _⟩ := st
    rcases (show b = e ∨ b = it by simpa using hb) with q | q
    · subst q; exact ⟨_, he, fun v q => nomatch q⟩
    · subst q; exact ⟨o, ho, fun v q => by rw [hd] at q; cases q⟩
  keep := fun i h h' st k => let ⟨⟨old, he⟩, ⟨o, ho, r⟩, hne⟩ := st; ⟨⟨old, k e (by simp) _ he⟩, ⟨o, k it (by simp) o ho, r⟩, hne⟩
  item := by
    intro X hP hw hK hc i pins s σ H E I hf st hg
    subst hP hw hK
    obtain ⟨⟨old, he⟩, hit, hne⟩ := st
    have hi : i < z.cps.size := hg
    obtain ⟨oi, hoi, _⟩ := id hit
    have hel : e < s.heap.objs.size := Heap.lt_size he
    have hil : it < s.heap.objs.size := Heap.lt_size hoi
    refine wpAny_pyNext_enum_itemD (Draws.text (prog := X.prog) (w := X.w) (A := X.A.in1) (I.ok.hd hc) it z t) he hit hi hne (by simp [hne]) fun y h' tk hy ho hst hTp hsz hk => ?_
    obtain ⟨c, tu, hcz, rfl⟩ := hy
    refine ⟨_, rfl, wpAny_letOwnedTupleGo_enum (s := { s with heap := h', toks := tk + 1 }) ho fun h'' he' sb => ?_⟩
    have hT2 : h''.get? s.heap.objs.size = some { cls := .type "tuple", data := .seq #[.int i tk, .str ⟨#[c]⟩ tu] } := (sb.2 _ (Nat.ne_of_gt hel)).trans hTp
    have new : ObjOk X.prog X.w (upd H s.heap.objs.size (.tup [.int (i : Nat), .str (sign c)])) h'' s.heap.objs.size (.tup [.int (i : Nat), .str (sign c)]) :=
      ⟨by show 2 ≤ sizeLine; decide, [.int i tk, .str ⟨#[c]⟩ tu], .cons ⟨_, rfl⟩ (.cons ⟨_, rfl⟩ .nil), ⟨_, hT2, rfl, _, rfl⟩⟩
    have I1 : L2.Inv X pins σ (upd H s.heap.objs.size (.tup [.int (i : Nat), .str (sign c)])) { s with heap := h'', toks := tk + 1 } :=
      I.turnedNew (ch := [e, it]) (fun b ob hb q => by
        simp only [List.mem_cons, List.not_mem_nil, or_false, not_or] at hb
        exact (sb.2 b hb.1).trans (hk b ob hb.1 hb.2 q)) hf (Nat.le_refl _) new
    have e1 : ((i + 1 : Nat) : Int) = (i : Int) + 1 := by omega
    obtain ⟨o2, ho2, r2⟩ := hst
    refine ⟨.ref s.heap.objs.size, _, I1, rfl, ⟨_, c, rfl, I.hok.fresh (Nat.le_refl _), hcz, rfl⟩, ⟨⟨.str ⟨#[c]⟩ tu, by rw [e1]; exact he'⟩, ⟨o2, (sb.2 it (Ne.symm hne)).trans ho2, r2⟩, hne⟩, fun b hb => ?_⟩
    have hb' : b < s.heap.objs.size := by
      rcases (show b = e ∨ b = it by simpa using hb) with q | q <;> subst q <;> assumption
    rw [upd_ne (Nat.ne_of_lt hb')]
    exact (hf b hb).1
  done := by
    intro X hP hw hK hc i pins s σ H E I hf st hg
    subst hP hw hK
    obtain ⟨⟨old, he⟩, hit, hne⟩ := st
    have hi : z.cps.size ≤ i := hg
    obtain ⟨f0, f1, f2, f3, f4, f5⟩ := hf it (by simp)
    have hTy : s.TypeIs (.ref e) "enumerate" := ⟨_, he, rfl⟩
    show wpAny _ _ (pyNext (.ref e)) _ _ s
    unfold pyNext
    refine wpAny_bind (wpAny_attempt (wpAny_callSpecial?_slot (name := Str.ofString "__next__") hTy F.slot_enumerate_next (wpAny_call_entry F.slot_enumerate_next hTy F.entry_enumerate_next ?_ (F.args_enumerate_next_1 _))))
    show wpAny _ _ (field (.ref e) 2 >>= _) _ _ _
    refine wpAny_bind (wpAny_field he rfl (x := .ref it) rfl (wpAny_bind ?_))
    have hx : z.cps[i]? = none := Array.getElem?_eq_none hi
    cases ha : z.cps.all (· < 128)
    · simp only [strIterType, ha, Bool.false_eq_true, if_false] at hit
      refine wpAny_nextOf_wide_end (I.ok.hd hc) hit hx fun h' x he' hx' => ?_
      obtain ⟨o, ho, hcc⟩ := hx'
      exact wpAny_bind (wpAny_isInstance (T := "StopIteration") (b := true) ⟨o, ho, hcc⟩ isSubtype_stop (wpAny_pure ⟨rfl, I.turned (t' := s.toks) (fun b o hb q => he' b o hb q) f0 f1 f3 f4 f5⟩))
    · simp only [strIterType, ha, if_true] at hit
      refine wpAny_nextOf_ascii_end (I.ok.hd hc) hit hx fun h' x he' hx' => ?_
      obtain ⟨o, ho, hcc⟩ := hx'
      exact wpAny_bind (wpAny_isInstance (T := "StopIteration") (b := true) ⟨o, ho, hcc⟩ isSubtype_stop (wpAny_pure ⟨rfl, I.turned (t' := s.toks) (fun b o hb q => he' b o hb q) f0 f1 f3 f4 f5⟩))
  self := fun A i s Q E st h => let ⟨⟨_, he⟩, _⟩ := st; wpAny_pyIter_enum he h
def iEnumS (ta : TA) : TI := fun σ H R => ta σ H fun vs H1 => ∃ z, vs = [.str z] ∧ R (IteS z) H1
theorem pi_enumS {X : Cx} {e : Expr} {ta : TA} {p pos tpos : Pos} {elts : List Expr} {kk : Nat} (hg : Gl X "enumerate") (hm : X.mg "enumerate" = none) (ha : PA X [e] ta) (hs : starEach [e] X.env = [(false, eval e X.env)] := by rfl) :
    PI X (.Tuple elts kk tpos) (.Call (.Name "enumerate" p) [e] [] pos) (iEnumS ta) := by
  refine ⟨fun pins s σ H R I h => ?_⟩
  refine Call_ (ld_blt I hg hm boot_enumerate (PyProof.Rows.callWith_type1 (thn (ha.run pos pins s σ H _ I h) fun us s1 ⟨vs, H1, I1, r1, q1⟩ => ?_) hs rfl))
  obtain ⟨z, rfl, q⟩ := q1
  obtain ⟨u, rfl, ru⟩ := vals1 r1
  obtain ⟨t, rfl⟩ := ru
  refine call_enumerate_str fun h' he hit hsz hk => wpAny_pyIter_enum he ?_
  refine ⟨s1.heap.objs.size + 1, [s1.heap.objs.size + 1, s1.heap.objs.size], _, _, H1, rfl, I1.kept (t' := s1.toks) hk, turn_enumS z t (s1.heap.objs.size + 1) s1.heap.objs.size, ⟨⟨.none, he⟩, hit, Nat.succ_ne_self _⟩, fun b hb => ?_, q⟩
  have hle : s1.heap.objs.size ≤ b := by
    rcases (show b = s1.heap.objs.size + 1 ∨ b = s1.heap.objs.size by simpa using hb) with q | q <;> rw [q]
    · exact Nat.le_add_right _ _
    · exact Nat.le_refl _
  exact I1.fpOk hle (I1.hok.fresh hle)
theorem walk_enumS {z : Str} : L2.Walk (IteS z) (codes z).length (fun _ => True) (fun i H v H' => ∃ T c, v = .ref T ∧ H T = none ∧ (codes z)[i]? = some c ∧ H' = upd H T (.tup [.int (i : Nat), .str (sign c)])) := by
  have e : (codes z).length = z.cps.size := by simp [codes]
  rw [e]
  refine ⟨fun _ _ hi _ => hi, fun _ _ => Nat.le_refl _, ?_⟩
  rintro i H v H' _ _ ⟨T, c, h1, h2, h3, h4⟩
  exact ⟨T, c, h1, h2, by simpa [codes] using h3, h4⟩
/-! f(k = v, ..) with no place -/
theorem pe_callN0 {X : Cx} {CX : CXT} {k : Nat} {f : Addr} {fd : FuncData} {ps ks : List Str} {sp : Sp} {E : XK} {x : Str} {p pos : Pos} {kws : List Keyword} {tk : TA} {g : List Value → List Value → List Value} {gV : List V → List V → List V}
    (F : FnOk X.prog X.w X.K X.mg X.base CX k f fd ps sp) (hr : Room k X.A) (hg : Gl X x) (hm : X.mg x = some (.ref f)) (hk : PySem.W.keepIn X.K (.ref f) = true) (hb : KBn X.K fd ps 0 ks g gV) (hx : Passes CX X E) (hkw : PK X kws tk)
    (hall : (backToKw pos (keywordEach kws X.env)).all (·.1.isSome) = true := by rfl) (hks : (backToKw pos (keywordEach kws X.env)).filterMap (·.1) = ks := by rfl) (hdb : (x == ("__debug__" : Str)) = false := by decide)
    (hpl : ((backTo pos (starEach [] X.env)).any (·.1) || (backToKw pos (keywordEach kws X.env)).any (·.1.isNone)) = false := by rfl) :
    PE X (.Call (.Name x p) [] kws pos) (L2.tCallN 0 ks.length sp gV E tNil tk) := by
  refine ⟨fun pins s σ H Q I h => ?_⟩
  refine wpAny_Call_Name_kw (ld_glob I hg hm ?_ hdb)
  refine PySem.W.callWith_KW0 (h₀ := X.base) I.ok.mod.kin hk hall ?_ hpl
  refine thn (hkw.run pos pins s σ H _ I h) fun ws s2 ⟨zs, H2, I2, rz, l1, l2, q2⟩ => ⟨I2.kIn, ?_⟩
  rw [hks]
  exact run_fnN (us := []) (vs := []) F hr hb hx I2 .nil rz rfl l2 q2
/-! min of a list of signs -/
def sgV (c : Nat) : V := .str (sign c)
def rMinL (K : PySem.W.Frag) : List V → Hp → VK → Prop := fun vs H Q => ∃ (a : Addr) (cs : List Nat), vs = [V.ref a] ∧ SqL K H a (cs.map sgV) ∧ cs ≠ [] ∧ cs.length ≤ 1000 ∧ ∀ m ∈ cs, (∀ c ∈ cs, m ≤ c) → Q (sgV m) H
theorem dp_signs {K : PySem.W.Frag} {H : Hp} : ∀ cs : List Nat, DpAll K H (cs.map sgV) (cs.map fun c => PyData.str (sign c))
  | [] => .nil
  | c :: r => .cons (.str _) (dp_signs r)
theorem sign_lt (a b : Nat) : ((sign a).cps.toList < (sign b).cps.toList) ↔ a < b := by
  show ([a] < [b]) ↔ _
  constructor
  · intro h
    rcases List.cons_lt_cons_iff.mp h with h | ⟨_, h⟩
    · exact h
    · exact absurd h (List.lt_irrefl _)
  · intro h
    exact List.cons_lt_cons_iff.mpr (.inl h)
theorem minD_signs : ∀ (c : Nat) (cs : List Nat), ∃ m, m ∈ c :: cs ∧ (∀ d ∈ c :: cs, m ≤ d) ∧ PySem.W.minD (.str (sign c)) (cs.map fun c => PyData.str (sign c)) = .str (sign m)
  | c, [] => ⟨c, List.mem_cons_self, fun d hd => by simp at hd; omega, rfl⟩
  | c, d :: r => by
    by_cases h : d < c
    · obtain ⟨m, h1, h2, h3⟩ := minD_signs d r
      refine ⟨m, List.mem_cons_of_mem _ h1, fun x hx => ?_, ?_⟩
      · rcases List.mem_cons.mp hx with rfl | hx
        · have := h2 d List.mem_cons_self
          omega
        · exact h2 x hx
      · rw [← h3]
        unfold PySem.W.minD
        rw [List.map_cons, List.foldl_cons, PySem.W.dataLt_str, decide_eq_true ((sign_lt d c).mpr h)]
        rfl
    · obtain ⟨m, h1, h2, h3⟩ := minD_signs c r
      refine ⟨m, ?_, fun x hx => ?_, ?_⟩
      · rcases List.mem_cons.mp h1 with rfl | h1
        · exact List.mem_cons_self
        · exact List.mem_cons_of_mem _ (List.mem_cons_of_mem _ h1)
      · rcases List.mem_cons.mp hx with rfl | hx
        · exact h2 x List.mem_cons_self
        · rcases List.mem_cons.mp hx with rfl | hx
          · have := h2 c List.mem_cons_self
            omega
          · exact h2 x (List.mem_cons_of_mem _ hx)
      · rw [← h3]
        unfold PySem.W.minD
        rw [List.map_cons, List.foldl_cons, PySem.W.dataLt_str, decide_eq_false (fun q => h ((sign_lt d c).mp q))]
        rfl
theorem cr_minL {X : Cx} (hc : X.calm = true) (hu : X.A.units + 64 < cLine) : CallR X (.builtin "min") (rMinL X.K) := by
  intro pins s σ H vs us Q I r h
  obtain ⟨a, cs, rfl, hs, hne, hlen, q⟩ := h
  obtain ⟨its, rv, hl, hn⟩ := I.list hs
  obtain ⟨u, rfl, ru⟩ := vals1 r
  obtain rfl : u = Value.ref a := ru
  obtain ⟨as, hr⟩ := Dp.readsAll I _ _ its (dp_signs cs) rv
  cases cs with
  | nil => exact absurd rfl hne
  | cons c cs =>
    have al : PySem.W.AlikeAll (((c :: cs)).map fun c => PyData.str (sign c)) := by
      refine ⟨fun x hx y hy => ?_, fun x hx => ?_⟩
      · obtain ⟨i, _, rfl⟩ := List.mem_map.mp hx
        obtain ⟨j, _, rfl⟩ := List.mem_map.mp hy
        rfl
      · obtain ⟨i, _, rfl⟩ := List.mem_map.mp hx
        exact fun q => by cases q
    have dp : ∀ l : List Nat, PyData.depthAll (l.map fun c => PyData.str (sign c)) = 0 := fun l => by
      induction l with
      | nil => rfl
      | cons x r ih => simp [PyData.depthAll, PyData.depth, ih]
    refine PySem.W.min_list_data (x := .str (sign c)) (xs := cs.map fun c => PyData.str (sign c)) (I.ok.hd hc) hl.isList (by simpa using hr) al (by
      have := dp (c :: cs)
      rw [List.map_cons] at this
      omega) fun i v h' tk bs hv hR hk => ?_
    obtain ⟨m, h1, h2, h3⟩ := minD_signs c cs
    rw [h3] at hR
    cases hR with
    | str z t => exact ⟨.str _, H, I.kept (t' := tk) hk, ⟨_, rfl⟩, q m h1 h2⟩
/-! 'a' * 8 -/
def rMulA : R2 := fun x y H Q => x = .str "a" ∧ y = .int 8 ∧ Q (.str "aaaaaaaa") H
theorem op_mulA {X : Cx} : OpR X (binaryOp .Mult) rMulA := by
  intro pins s σ H x y v u Q I rx ry h
  obtain ⟨rfl, rfl, q⟩ := h
  obtain ⟨t, rfl⟩ := rx
  obtain ⟨t', rfl⟩ := ry
  refine P.mul_str (by decide) (fun _ _ => by decide +kernel) (fun _ _ => by decide +kernel) ?_
  have e1 : ((8 : Int) == 1 || ("a" : Str).length == 0) = false := by decide +kernel
  rw [if_neg (by decide), e1]
  have e2 : (⟨(List.replicate (8 : Int).toNat ("a" : Str).cps).foldl (· ++ ·) #[]⟩ : Str) = "aaaaaaaa" := by decide +kernel
  show Made.post (Made.str (⟨(List.replicate (8 : Int).toNat ("a" : Str).cps).foldl (· ++ ·) #[]⟩ : Str)) _ _
  rw [e2]
  exact ⟨by decide +kernel, .str _, H, I.tok _, ⟨_, rfl⟩, q⟩
end Wl

/-! sorted of a list of texts, as a reading; the least of sorted letters stands first. -/
namespace Wl
open PySem PySem.Spec PyProof.Rows L2
def dz (z : Str) : V × PyData := (.str z, .str z)
theorem srt_strs (xs : List Str) : ((xs.map dz).mergeSort (PySem.W.dataLe false (·.2))).map (·.1) = (sortS xs).map V.str := by
  have h : (sortS xs).map dz = (xs.map dz).mergeSort (PySem.W.dataLe false (·.2)) := List.map_mergeSort fun a _ b _ => by
    rw [PySem.W.dataLe_eq]
    exact (le_data_str a b).symm
  rw [← h, List.map_map]
  rfl
theorem srt_reads {K : PySem.W.Frag} {H : Hp} {Q : VK} {a : Addr} {xs : List Str} (h : SqL K H a (xs.map V.str)) (q : ∀ p, H p = none → Q (.ref p) (upd H p (.lst ((sortS xs).map V.str)))) : rSortD K [.ref a] H Q := by
  refine ⟨a, xs.map dz, rfl, ?_, ?_, ?_, ?_, ?_, fun p hp => ?_⟩
  · rw [List.map_map]
    exact h
  · intro b hb
    obtain ⟨x, _, rfl⟩ := List.mem_map.mp hb
    exact .str x
  · intro d hd e he
    obtain ⟨b, hb, rfl⟩ := List.mem_map.mp hd
    obtain ⟨x, _, rfl⟩ := List.mem_map.mp hb
    obtain ⟨c, hc, rfl⟩ := List.mem_map.mp he
    obtain ⟨y, _, rfl⟩ := List.mem_map.mp hc
    rfl
  · refine .inr fun d hd => ?_
    obtain ⟨b, hb, rfl⟩ := List.mem_map.mp hd
    obtain ⟨x, _, rfl⟩ := List.mem_map.mp hb
    exact ⟨(fun e => by cases e), (fun ys e => by cases e)⟩
  · intro b hb
    obtain ⟨x, _, rfl⟩ := List.mem_map.mp hb
    show PyData.depth (.str x) ≤ 8
    simp [PyData.depth]
  · rw [srt_strs]
    exact q p hp
theorem ltS_sign {c d : Nat} : ltS (sign c) (sign d) ↔ c < d := by
  show [c] < [d] ↔ c < d
  constructor
  · intro h
    cases h with
    | rel h => exact h
    | cons h => cases h
  · exact fun h => .rel h
theorem sg_inj1 {c d : Nat} (h : sign c = sign d) : c = d := by
  have e := congrArg (fun z : Str => z.cps.toList) h
  simpa [sign] using e
theorem head_sortS {cs : List Nat} {m : Nat} (hm : m ∈ cs) (hmin : ∀ d ∈ cs, m ≤ d) : (sortS (cs.map sign))[0]? = some (sign m) := by
  have h1 : (sortS (cs.map sign)).Pairwise (fun a b => leB a b = true) := List.pairwise_mergeSort leB_trans leB_total _
  have h2 : sign m ∈ sortS (cs.map sign) := mem_sortS.mpr (List.mem_map.mpr ⟨m, hm, rfl⟩)
  have h3 : ∀ x ∈ sortS (cs.map sign), ∃ c ∈ cs, sign c = x := fun x hx => List.mem_map.mp (mem_sortS.mp hx)
  cases e : sortS (cs.map sign) with
  | nil =>
    rw [e] at h2
    cases h2
  | cons x r =>
    rw [e] at h1 h2 h3
    obtain ⟨c, hc, rfl⟩ := h3 x List.mem_cons_self
    have e2 : c = m := by
      rcases List.mem_cons.mp h2 with h | h
      · exact (sg_inj1 h).symm
      · have q := (List.pairwise_cons.mp h1).1 _ h
        unfold leB at q
        rw [Bool.not_eq_true', decide_eq_false_iff_not, ltS_sign] at q
        have := hmin c hc
        omega
    rw [e2]
    rfl
end Wl

namespace Wl
open PySem PySem.Spec PyProof.Rows L2
def topS (i : Nat) : Stmt := PySem.Challenge.pw_wordlines_k06_lands_alike_and_shown.main.body.getD i (.Pass ⟨0, 0, 0, 0⟩)
end Wl
namespace Wl
open PySem PySem.Spec PyProof.Rows L2
end Wl
namespace Wl
open PySem PySem.Spec PyProof.Rows L2
end Wl
namespace Wl
open PySem PySem.Spec PyProof.Rows L2
abbrev wIsWord : Stmt := topS 23
abbrev wCheck : Stmt := topS 24
abbrev wIsLetter : Stmt := topS 25
abbrev wIsChange : Stmt := topS 26
abbrev wTupTo : Stmt := topS 27
abbrev wChecked : Stmt := topS 28
abbrev wReaches : Stmt := topS 29
abbrev wTurned : Stmt := topS 30
/-! y = {k: v for x in ..} -/
theorem ps_setDc {X : Cx} {i : Nat} {y : Str} {py : Pos} {kx vx tg iter : Expr} {ifs : List Expr} {scope : Scope} {own : List (Str × Nat)} {pos spos : Pos} {wi : TI} {g : TG} {tt : TT} {tk tv : TE} (hc : X.calm = true) (hN : X.N.Nodup) (hy : X.N[i]? = some y) (hyl : X.env.scope.names.lookup y = some .local)
    (hsw : swapsWith (.DictComp kx vx [⟨tg, iter, ifs, 0⟩] scope pos) (some (.Name y py)) spos.line X.env = pure true) (hi : PI X tg iter wi) (ok : BlkOk X.N X.env.scope scope own)
    (hg : ∀ (s : Shared) (H : Hp) (C : Addr) (cl : List (Str × Addr)) (fp : List Addr), PG (X.blk s H scope (compEnvC scope cl C X.env) fp) tg g) (ht : ∀ (s : Shared) (H : Hp) (C : Addr) (cl : List (Str × Addr)) (fp : List Addr), PTs (X.blk s H scope (compEnvC scope cl C X.env) fp) ifs tt)
    (hk : ∀ (s : Shared) (H : Hp) (C : Addr) (cl : List (Str × Addr)) (fp : List Addr), PE (X.blk s H scope (compEnvC scope cl C X.env) fp) kx tk) (he : ∀ (s : Shared) (H : Hp) (C : Addr) (cl : List (Str × Addr)) (fp : List Addr), PE (X.blk s H scope (compEnvC scope cl C X.env) fp) vx tv)
    (hs : ∀ x, foldedSetIterable iter X.env x = pure x := by intro _; rfl) :
    PS X (.Assign [.Name y py] (.DictComp kx vx [⟨tg, iter, ifs, 0⟩] scope pos) spos) (tAsg (tDc wi g tt tk tv (own.map (·.2))) (gName i)) := by
  constructor
  intro pins s σ H D I h
  rw [exec_Assign_Name_used _ _ _ _ hsw]
  refine wpAny_bind (wpAny_standAt (wpAny_bind ?_))
  show wpAny _ X.A (do let _ ← comprehension (.DictComp kx vx [⟨tg, iter, ifs, 0⟩] scope pos) scope X.env (firstIterPos [⟨tg, iter, ifs, 0⟩] pos) newDict false (eval iter X.env) (some (assign (.Name y py) X.env))) _ _ s
  have h2 : tDc wi g tt tk tv (own.map (·.2)) σ H (fun x H1 => gName i x σ H1 D.nx) := h
  refine wpAny_bind (thn (dc_core (Qf := fun _ s' => SP X pins D .next s') hc hN I hi ok hg ht hk he hs h2 fun L C s' m H' I' q hn f => ?_) fun _ s' hq => wpAny_pure (wpAny_pure hq))
  show wpAny _ _ (assign (.Name y py) X.env (.ref L)) _ _ _
  obtain ⟨f0, f1, f2, f3, f4, f5⟩ := f
  refine wpAny_assign_Name (store_ok2 (v := V.ref L) I' hN hy (.inl hyl) rfl (fun s2 I2 ⟨a, sb, ha⟩ => ?_) (.inr hyl))
  have haC : C ≠ a := ha.elim (fun z => z ▸ f1) (fun z e => f4 y a z e.symm)
  exact ⟨m, hn.sameBut sb haC, fun h3 sb3 => ⟨_, H', I2.turned (t' := s2.toks) (fun b o hb e => (sb3.2 b hb).trans e) f0 f1 f3 f4 f5, q⟩⟩
theorem sw_dict {kx vx : Expr} {gs : List Comprehension} {scope : Scope} {pos py : Pos} {y : Str} {l : Nat} {env : Env} (hk : env.scope.kind = .function) (hy : env.scope.names.lookup y = some .local) (hl : (py.line == pos.line) = true)
    (ha : (scope.names.any fun (n, k) => n == y && (k == .local || k == .cell)) = false) : swapsWith (.DictComp kx vx gs scope pos) (some (.Name y py)) l env = pure true := by
  have ky : env.kindOf y = some .local := hy
  have hb : env.blockKind = .function := by
    show env.blockKind = _
    unfold Env.blockKind
    rw [hk]
    rfl
  show (do return env.blockKind == .function && env.kindOf y == some .local && py.line == pos.line && !(scope.names.any fun (n, k) => n == y && (k == .local || k == .cell)) : Sem Bool) = _
  rw [hb, ky, ha, hl]
  rfl

structure Bw (mg : Str → Option Value) : Prop where
  bool : mg "bool" = none
structure Gw (K : PySem.W.Frag) (mg : Str → Option Value) : Prop where
  letters : ∃ t, mg "LETTERS" = some (.str "abcdefghijklmnopqrstuvwxyz" t)
  longest : ∃ t, mg "LONGEST_WORD" = some (.int 8 t)
  mostch : ∃ t, mg "MOST_CHANGES" = some (.int 12 t)
  wheres : ∃ a, mg "WHERES" = some (.ref a) ∧ ∀ H, SqT K H a [.str "first", .str "last", .str "any"]
def letB (c : Nat) : Bool := decide (97 ≤ c) && decide (c ≤ 122)
def letV : V → V
  | .str s => .bl (s.cps.toList.all letB)
  | v => v
theorem letB_mem (c : Nat) : decide (c ∈ ("abcdefghijklmnopqrstuvwxyz" : Str).cps.toList) = letB c := by
  rw [letters_eq]
  unfold letB
  by_cases h : c ∈ List.range' 97 26
  · rw [decide_eq_true h]
    rw [List.mem_range'_1] at h
    simp
    omega
  · rw [decide_eq_false h]
    rw [List.mem_range'_1] at h
    symm
    rw [Bool.and_eq_false_iff, decide_eq_false_iff_not, decide_eq_false_iff_not]
    omega
/-- whether a thing of any kind is a word -/
def Wv (K : PySem.W.Frag) (H : Hp) (v : V) (b : Bool) : Prop := (∃ z, v = .str z ∧ z.length ≤ 1000 ∧ b = wdB z) ∨ (∃ t, TyX K H v t ∧ PySem.W.kitOne K t (.type "str") = some false ∧ b = false)
section
variable {P : Program} {w : World} {K : PySem.W.Frag} {mg : Str → Option Value} {base : Heap} {f : Addr} {fd : FuncData}
def spIsW (K : PySem.W.Frag) : Sp := fun vs H Q _ => ∃ (v : V) (b : Bool), vs = [v] ∧ Wv K H v b ∧ ∀ (H' : Hp), Same H H' → Q (.bl b) H'
abbrev nIsWord : List Str := ["thing", "letter"]
theorem scIsW : FnScope nIsWord ["thing"] (defScope wIsWord) := ⟨rfl, rfl, rfl, by decide +kernel, rfl, by decide +kernel, by decide +kernel⟩
theorem ok_isw (F : Fun K "is_word" "is_word" wIsWord f fd) (B : Bi mg) (G : Gw K mg) : FnOk P w K mg base CX0 1 f fd ["thing"] (spIsW K) := by
  obtain ⟨t1, g1⟩ := G.letters
  obtain ⟨t2, g2⟩ := G.longest
  refine F.ok scIsW (fun vs H Q E h => ?_) (fun cdv A outer s H vs Q E hr h => ?_)
  · obtain ⟨v, b, rfl, _⟩ := h
    rfl
  · obtain ⟨v, b, rfl, hw, q⟩ := h
    refine ⟨_, pss_cons (ps_if (PW.pt (pw_or (pt_not (pt_val (pe_callB call_isi (by rfl) B.isi (by decide +kernel) (pa_cons (pv 0) (pa_cons (pe_bltn (v := .ty "str") (by rfl) B.str (by decide +kernel) rfl) pa_nil)))))
        (pw_or1 (pt_not (pt_chain op_le op_le pe_int (pe_callB call_len_str (by rfl) B.len PySem.boot_len (pa_cons (pv 0) pa_nil)) (pe_glob (v := .int 8) rfl g2 ⟨_, rfl⟩)))))) (pss_one (ps_ret pe_bl)) pss_nil)
      (pss_one (ps_ret (pe_callB (cr_all rfl) (by rfl) B.all (by decide +kernel) (pa_cons (pe_lc (own := [("letter", 1)]) (g := gName 1) (tt := tYes) rfl scIsW.nd (pi_str (pv 0)) (blkOk_by (N := nIsWord) (sc := defScope wIsWord) (by decide +kernel))
        (fun _ _ _ _ _ => pg_name (i := 1) scIsW.nd rfl (.inl rfl)) (fun _ _ _ _ _ => pts_nil) (fun _ _ _ _ _ => pe_cmpR op_in_sign (pv 1) (pe_glob (v := .str "abcdefghijklmnopqrstuvwxyz") rfl g1 ⟨_, rfl⟩) rfl)) pa_nil)))), ?_⟩
    rcases hw with ⟨z, rfl, hz, rfl⟩ | ⟨t, ty, hk, rfl⟩
    · refine ⟨_, rfl, _, _, _, _, _, rfl, .ty "str", .base (.str z), kit_ty (r := true) (by decide +kernel), true, rfl, ?_⟩
      refine iteF ⟨_, rfl, _, rfl, lzl hz, _, _, rfl, rfl, _, rfl, ite_b (fun e1 => ?_) (fun e1 => ?_)⟩
      · refine ⟨_, _, rfl, rfl, _, rfl, not_b (fun e2 => ?_) (fun e2 => ?_)⟩
        · have e2' : ¬ ((z.length : Int) ≤ 8) := of_decide_eq_false e2
          have : wdB z = false := by
            unfold wdB
            rw [decide_eq_false (show ¬ z.length ≤ 8 by omega)]
            simp
          rw [← this]
          exact q H (Same.refl H)
        · have h1 : 1 ≤ z.length := by
            have := of_decide_eq_true e1
            omega
          have h8 : z.length ≤ 8 := by
            have := of_decide_eq_true e2
            omega
          refine ⟨_, rfl, _, rfl, fun D hD => lc_map walk_signs hD (fun _ => true) letV (fun _ _ => trivial) (fun _ => rfl) (fun x H' _ _ Q' q' => q') ?_ ?_ ?_⟩
          · intro x H' hx _ _ Q' q'
            obtain ⟨c, hc, rfl⟩ := List.mem_map.mp hx
            refine ⟨_, rfl, c, _, rfl, rfl, ?_⟩
            rw [letB_mem]
            have : letV (.str (sign c)) = .bl (letB c) := by
              show V.bl ([c].all letB) = _
              simp
            rw [this] at q'
            exact q'
          · unfold signsOf
            rw [List.length_map, Array.length_toList]
            exact small1000 (by have : z.length = z.cps.size := rfl; omega)
          · intro H' s' hD'
            have e0 : ((signsOf z).filter fun _ => true).map letV = (z.cps.toList.map letB).map V.bl := by
              rw [List.filter_eq_self.mpr fun _ _ => rfl]
              unfold signsOf
              rw [List.map_map, List.map_map]
              refine List.map_congr_left fun c _ => ?_
              show V.bl ([c].all letB) = _
              simp
            refine ⟨D, z.cps.toList.map letB, rfl, .inl (.inl (by rw [hD', e0])), ?_⟩
            have : (z.cps.toList.map letB).all id = wdB z := by
              unfold wdB
              rw [decide_eq_true h1, decide_eq_true h8, List.all_map]
              rfl
            rw [this]
            exact q H' s'
      · refine ⟨false, rfl, iteT ?_⟩
        have : wdB z = false := by
          have e1' : ¬ ((1 : Int) ≤ z.length) := of_decide_eq_false e1
          unfold wdB
          rw [decide_eq_false (show ¬ 1 ≤ z.length by omega)]
          simp
        rw [← this]
        exact q H (Same.refl H)
    · exact ⟨_, rfl, _, _, _, _, _, rfl, .ty "str", ty, hk, false, rfl, iteT (q H (Same.refl H))⟩
theorem wv_wd {K : PySem.W.Frag} {H : Hp} {z : Str} (h : IsWd z) : Wv K H (.str z) true := .inl ⟨z, rfl, by have := h.len; omega, (show wdB z = true from h).symm⟩
theorem sign_wd {c : Nat} (h : isLet c) : IsWd (sign c) := wd_codes.mpr ⟨⟨Nat.le_refl 1, Nat.le_of_ble_eq_true rfl⟩, fun d hd => by
  have : d = c := by simpa [codes, sign] using hd
  rw [this]
  exact h⟩
/-! ### check_word, is_letter -/
def spCheckW : Sp := fun vs H Q _ => ∃ (z : Str), vs = [.str z] ∧ IsWd z ∧ ∀ (H' : Hp), Same H H' → Q .non H'
theorem scCheckW : FnScope ["word"] ["word"] (defScope wCheck) := ⟨rfl, rfl, rfl, by decide +kernel, rfl, by decide +kernel, by decide +kernel⟩
theorem ok_checkw (F : Fun K "check_word" "check_word" wCheck f fd) (hI : Has P w K mg base "is_word" 1 ["thing"] (spIsW K)) : FnOk P w K mg base CX0 2 f fd ["word"] spCheckW := by
  refine F.ok scCheckW (fun vs H Q E h => ?_) (fun cdv A outer s H vs Q E hr h => ?_)
  · obtain ⟨z, rfl, _⟩ := h
    rfl
  · obtain ⟨z, rfl, hz, q⟩ := h
    exact ⟨_, pss_one (ps_if (pt_not (pt_val (pe_h hI hr (pa_cons (pv 0) pa_nil)))) (pss_one ps_never) pss_nil), _, rfl, _, true, rfl, wv_wd hz, fun H1 s1 => ⟨_, rfl, iteF (q H1 s1)⟩⟩
def spIsLet : Sp := fun vs H Q _ => ∃ (c : Nat), vs = [sgV c] ∧ isLet c ∧ ∀ (H' : Hp), Same H H' → Q (.bl true) H'
theorem scIsLet : FnScope ["thing"] ["thing"] (defScope wIsLetter) := ⟨rfl, rfl, rfl, by decide +kernel, rfl, by decide +kernel, by decide +kernel⟩
theorem ok_islet (F : Fun K "is_letter" "is_letter" wIsLetter f fd) (B : Bi mg) (hI : Has P w K mg base "is_word" 1 ["thing"] (spIsW K)) : FnOk P w K mg base CX0 2 f fd ["thing"] spIsLet := by
  refine F.ok scIsLet (fun vs H Q E h => ?_) (fun cdv A outer s H vs Q E hr h => ?_)
  · obtain ⟨z, rfl, _⟩ := h
    rfl
  · obtain ⟨c, rfl, hc, q⟩ := h
    refine ⟨_, pss_one (ps_ret (pe_and (pe_h hI hr (pa_cons (pv 0) pa_nil)) (pe_one (pe_cmpR op_eq (pe_callB call_len_str (by rfl) B.len PySem.boot_len (pa_cons (pv 0) pa_nil)) pe_int (nomark _))))), ?_⟩
    refine ⟨_, rfl, _, true, rfl, wv_wd (sign_wd hc), fun H1 s1 => ⟨true, rfl, iteT ⟨_, rfl, _, rfl, lz, rfl, ?_⟩⟩⟩
    rw [show decide (V.int ((sign c).length : Int) = V.int 1) = true from decide_eq_true rfl]
    exact q H1 s1
/-! ### changes -/
def chV (ch : Chg) : List V := [sgV ch.1, sgV ch.2.1, .str (whS ch.2.2)]
theorem wh_dec (a b : Wh) : decide (V.str (whS a) = V.str (whS b)) = decide (a = b) := by
  cases a <;> cases b <;> decide +kernel
theorem sg_dec (a b : Nat) : decide (sgV a = sgV b) = decide (a = b) := by
  by_cases h : a = b
  · subst h
    simp
  · have : sgV a ≠ sgV b := fun e => h (by
      have e2 := congrArg (fun z : Str => z.cps.toList) (V.str.inj e)
      simpa [sign] using e2)
    rw [decide_eq_false h, decide_eq_false this]
def spIsCh : Sp := fun vs H Q _ => ∃ (p : Addr) (ch : Chg), vs = [.ref p] ∧ H p = some (.tup (chV ch)) ∧ OkC ch ∧ ∀ (H' : Hp), Same H H' → Q (.bl true) H'
abbrev nIsCh : List Str := ["thing", "one", "other", "where"]
theorem scIsCh : FnScope nIsCh ["thing"] (defScope wIsChange) := ⟨rfl, rfl, rfl, by decide +kernel, rfl, by decide +kernel, by decide +kernel⟩
theorem ok_isch (F : Fun K "is_change" "is_change" wIsChange f fd) (B : Bi mg) (G : Gw K mg) (hL : Has P w K mg base "is_letter" 2 ["thing"] spIsLet) : FnOk P w K mg base CX0 3 f fd ["thing"] spIsCh := by
  obtain ⟨wa, gw, hw⟩ := G.wheres
  refine F.ok scIsCh (fun vs H Q E h => ?_) (fun cdv A outer s H vs Q E hr h => ?_)
  · obtain ⟨p, ch, rfl, _⟩ := h
    rfl
  · obtain ⟨p, ch, rfl, hp, ok, q⟩ := h
    refine ⟨_, pss_cons (ps_if (PW.pt (pw_or (pt_not (pt_val (pe_callB call_isi (by rfl) B.isi (by decide +kernel) (pa_cons (pv 0) (pa_cons (pe_bltn (v := .ty "tuple") (by rfl) B.tuple (by decide +kernel) rfl) pa_nil)))))
        (pw_or1 (pt_cmpR op_ne (pe_callB call_len_seq (by rfl) B.len PySem.boot_len (pa_cons (pv 0) pa_nil)) pe_int (nomark _))))) (pss_one (ps_ret pe_bl)) pss_nil)
      (pss_cons (ps_asg (pv 0) (pg_tup rfl (pgs_cons (pg_name (i := 1) scIsCh.nd rfl (.inl rfl)) (pgs_cons (pg_name (i := 2) scIsCh.nd rfl (.inl rfl)) (pgs_cons (pg_name (i := 3) scIsCh.nd rfl (.inl rfl)) pgs_nil)))))
      (pss_cons (ps_if (PW.pt (pw_or (pt_not (pt_val (pe_h hL hr (pa_cons (pv 1) pa_nil)))) (pw_or (pt_not (pt_val (pe_h hL hr (pa_cons (pv 2) pa_nil)))) (pw_or1 (pt_cmpR op_eq (pv 1) (pv 2) (nomark _)))))) (pss_one (ps_ret pe_bl)) pss_nil)
      (pss_one (ps_ret (pe_and (pe_callB call_isi (by rfl) B.isi (by decide +kernel) (pa_cons (pv 3) (pa_cons (pe_bltn (v := .ty "str") (by rfl) B.str (by decide +kernel) rfl) pa_nil))) (pe_one (pe_cmpR op_in_seq (pv 3) (pe_glob (v := .ref wa) rfl gw rfl) (by rfl)))))))), ?_⟩
    refine ⟨_, rfl, _, _, _, _, _, rfl, .ty "tuple", .base (.tup hp), kit_ty (r := true) (by decide +kernel), true, rfl, ?_⟩
    refine iteF ⟨_, rfl, p, _, rfl, .inr (.inl (.inl hp)), rfl, _, rfl, ?_⟩
    refine iteNS rfl ?_
    refine ⟨_, rfl, p, _, rfl, .inl (.inl hp), rfl, _, _, rfl, _, _, rfl, _, _, rfl, rfl, ?_⟩
    refine ⟨_, rfl, ch.1, rfl, ok.1, fun H1 s1 => ⟨true, rfl, iteF ⟨_, rfl, ch.2.1, rfl, ok.2.1, fun H2 s2 => ⟨true, rfl, iteF ⟨_, rfl, _, rfl, rfl, _, rfl, ?_⟩⟩⟩⟩⟩
    rw [sg_dec, decide_eq_false ok.2.2]
    refine iteF ⟨_, rfl, _, _, _, _, _, rfl, .ty "str", .base (.str _), kit_ty (r := true) (by decide +kernel), true, rfl, iteT ⟨_, rfl, wa, _, rfl, .inr (hw H2), rfl, rfl, ?_⟩⟩
    have e : inV (.str (whS ch.2.2)) [.str "first", .str "last", .str "any"] = true := by
      generalize ch.2.2 = wh
      cases wh <;> decide +kernel
    rw [if_neg (by decide), e]
    exact q H2 (s1.trans s2)
/-- a tuple of changes -/
def ChAt (H : Hp) (S : Addr) (chs : List Chg) : Prop := ∃ as : List Addr, H S = some (.tup (as.map V.ref)) ∧ Each (fun (p : Addr) (ch : Chg) => H p = some (.tup (chV ch))) as chs
theorem ChAt.keep {H H' : Hp} {S : Addr} {chs : List Chg} (h : ChAt H S chs) (k : ∀ p xs, H p = some (.tup xs) → H' p = some (.tup xs)) : ChAt H' S chs := by
  obtain ⟨as, h1, h2⟩ := h
  exact ⟨as, k _ _ h1, h2.mono fun p ch e => k _ _ e⟩
theorem ChAt.same {H H' : Hp} {S : Addr} {chs : List Chg} (h : ChAt H S chs) (s : Same H H') : ChAt H' S chs := h.keep fun p xs e => s _ _ e
def OkCs (chs : List Chg) : Prop := chs.length ≤ 12 ∧ ∀ ch ∈ chs, OkC ch
/-- what is handed in for changes: None, or a tuple of them -/
def ChV (H : Hp) (v : V) (chs : List Chg) : Prop := (v = .non ∧ chs = []) ∨ ∃ S, v = .ref S ∧ ChAt H S chs
theorem ChV.same {H H' : Hp} {v : V} {chs : List Chg} (h : ChV H v chs) (s : Same H H') : ChV H' v chs := by
  rcases h with h | ⟨S, e, h⟩
  · exact .inl h
  · exact .inr ⟨S, e, h.same s⟩
def spChecked : Sp := fun vs H Q _ => ∃ (v : V) (chs : List Chg), vs = [v] ∧ ChV H v chs ∧ OkCs chs ∧ ∀ (S : Addr) (H' : Hp), Same H H' → ChAt H' S chs → Q (.ref S) H'
abbrev nChecked : List Str := ["changes", "place", "change"]
theorem scChecked : FnScope nChecked ["changes"] (defScope wChecked) := ⟨rfl, rfl, rfl, by decide +kernel, rfl, by decide +kernel, by decide +kernel⟩
/-! ### is_tuple_up_to -/
def spTupTo : Sp := fun vs H Q _ => ∃ (S : Addr) (xs : List V) (n : Int), vs = [.ref S, .int n] ∧ H S = some (.tup xs) ∧ Q (.bl (decide ((xs.length : Int) ≤ n))) H
theorem scTupTo : FnScope ["thing", "most"] ["thing", "most"] (defScope wTupTo) := ⟨rfl, rfl, rfl, by decide +kernel, rfl, by decide +kernel, by decide +kernel⟩
theorem ok_tupto (F : Fun K "is_tuple_up_to" "is_tuple_up_to" wTupTo f fd) (B : Bi mg) : FnOk P w K mg base CX0 1 f fd ["thing", "most"] spTupTo := by
  refine F.ok scTupTo (fun vs H Q E h => ?_) (fun cdv A outer s H vs Q E hr h => ?_)
  · obtain ⟨S, xs, n, rfl, _⟩ := h
    rfl
  · obtain ⟨S, xs, n, rfl, hS, q⟩ := h
    refine ⟨_, pss_one (ps_ret (pe_and (pe_callB call_isi (by rfl) B.isi (by decide +kernel) (pa_cons (pv 0) (pa_cons (pe_bltn (v := .ty "tuple") (by rfl) B.tuple (by decide +kernel) rfl) pa_nil))) (pe_one (pe_cmpR op_le (pe_callB call_len_seq (by rfl) B.len PySem.boot_len (pa_cons (pv 0) pa_nil)) (pv 1) (nomark _))))), ?_⟩
    exact ⟨_, rfl, _, _, _, _, _, rfl, .ty "tuple", .base (.tup hS), kit_ty (r := true) (by decide +kernel), true, rfl, iteT ⟨_, rfl, S, _, rfl, .inr (.inl (.inl hS)), _, rfl, _, _, rfl, rfl, q⟩⟩
theorem ok_checked (F : Fun K "checked_changes" "checked_changes" wChecked f fd) (B : Bi mg) (G : Gw K mg) (hTu : Has P w K mg base "is_tuple_up_to" 1 ["thing", "most"] spTupTo) (hC : Has P w K mg base "is_change" 3 ["thing"] spIsCh) : FnOk P w K mg base CX0 4 f fd ["changes"] spChecked := by
  obtain ⟨t1, g1⟩ := G.mostch
  refine F.ok scChecked (fun vs H Q E h => ?_) (fun cdv A outer s H vs Q E hr h => ?_)
  · obtain ⟨v, chs, rfl, _⟩ := h
    rfl
  · obtain ⟨v, chs, rfl, hv, ok, q⟩ := h
    refine ⟨_, pss_cons (ps_if (pt_cmp (pc_isN (pv 0))) (pss_one (ps_ret (pe_tup pa_nil))) pss_nil)
      (pss_cons (ps_if (pt_not (pt_val (pe_h hTu hr (pa_cons (pv 0) (pa_cons (pe_glob (v := .int 12) rfl g1 ⟨_, rfl⟩) pa_nil))))) (pss_one ps_never) pss_nil)
      (pss_cons (ps_for PassesOwn.never rfl (pi_enumT (by rfl) B.enum (pa_cons (pv 0) pa_nil)) (pg_tup rfl (pgs_cons (pg_name (i := 1) scChecked.nd rfl (.inl rfl)) (pgs_cons (pg_name (i := 2) scChecked.nd rfl (.inl rfl)) pgs_nil)))
        (pss_one (ps_if (pt_not (pt_val (pe_h hC hr (pa_cons (pv 2) pa_nil)))) (pss_one ps_never) pss_nil)))
      (pss_one (ps_ret (pv 0))))), ?_⟩
    rcases hv with ⟨rfl, rfl⟩ | ⟨S, rfl, as, hS, hE⟩
    · exact ⟨_, rfl, _, rfl, iteT ⟨lz, fun p hp => q p _ (same_new hp) ⟨[], upd_same, .nil⟩⟩⟩
    · refine ⟨_, rfl, _, rfl, iteF ?_⟩
      have hl : (as.map V.ref).length = chs.length := by rw [List.length_map, hE.length]
      refine ⟨_, rfl, S, _, 12, rfl, hS, _, rfl, ?_⟩
      rw [hl, decide_eq_true (by have := ok.1; omega)]
      refine iteF ⟨_, rfl, S, _, rfl, .inl (.inl hS), for_it (walk_enumT (K := K) (a := S) (xs := as.map V.ref)) (fun i σ H' => (∃ y1 y2, σ = [some (.ref S), y1, y2]) ∧ Same H H') ⟨⟨_, _, rfl⟩, Same.refl H⟩ (fun i σ H' _ h => .inl (.inl (h.2 _ _ hS))) ?_ ?_⟩
      · rintro i x σ H1 H2 hi ⟨⟨y1, y2, rfl⟩, s1⟩ ⟨T, x1, x2, rfl, hT, rfl, ex1, ex2⟩
        cases ex1
        have ex2 : (as.map V.ref)[i]? = some x2 := ex2
        rw [List.getElem?_map] at ex2
        obtain ⟨p, hp, rfl⟩ := Option.map_eq_some_iff.mp ex2
        obtain ⟨ch, hch, hH⟩ := hE.get hp
        have s2 : Same H1 (upd H1 T (.tup [.int i, .ref p])) := same_new hT
        refine ⟨T, _, rfl, .inl (.inl upd_same), rfl, _, _, rfl, _, _, rfl, rfl, ?_⟩
        exact ⟨_, rfl, p, ch, rfl, s2 _ _ (s1 _ _ hH), ok.2 ch (List.mem_of_getElem? hch), fun H3 s3 => ⟨true, rfl, iteF ⟨⟨_, _, rfl⟩, (s1.trans s2).trans s3⟩⟩⟩
      · rintro σ H1 ⟨⟨y1, y2, rfl⟩, s1⟩
        exact ⟨_, rfl, q S H1 s1 ⟨as, s1 _ _ hS, hE.mono fun p ch e => s1 _ _ e⟩⟩
/-! ### reaches -/
def spReaches : Sp := fun vs H Q _ => ∃ (wh : Wh) (i n : Nat), vs = [.str (whS wh), .int i, .int n] ∧ Q (.bl (acts wh i n)) H
theorem scReaches : FnScope ["where", "place", "length"] ["where", "place", "length"] (defScope wReaches) := ⟨rfl, rfl, rfl, by decide +kernel, rfl, by decide +kernel, by decide +kernel⟩
theorem int_dec (a b : Int) : decide (V.int a = V.int b) = decide (a = b) := by
  by_cases h : a = b
  · subst h
    simp
  · rw [decide_eq_false h, decide_eq_false fun e => h (V.int.inj e)]
theorem ok_reaches (F : Fun K "reaches" "reaches" wReaches f fd) : FnOk P w K mg base CX0 1 f fd ["where", "place", "length"] spReaches := by
  refine F.ok scReaches (fun vs H Q E h => ?_) (fun cdv A outer s H vs Q E hr h => ?_)
  · obtain ⟨wh, i, n, rfl, _⟩ := h
    rfl
  · obtain ⟨wh, i, n, rfl, q⟩ := h
    refine ⟨_, pss_cons (ps_if (pt_cmpR op_eq (pv 0) pe_str (nomark _)) (pss_one (ps_ret (pe_cmpR op_eq (pv 1) pe_int (nomark _)))) pss_nil)
      (pss_cons (ps_if (pt_cmpR op_eq (pv 0) pe_str (nomark _)) (pss_one (ps_ret (pe_cmpR op_eq (pv 1) (pe_op op_sub (pv 2) pe_int) (nomark _)))) pss_nil)
      (pss_one (ps_ret pe_bl))), ?_⟩
    have e1 : decide (V.str (whS wh) = V.str "first") = decide (wh = .first) := wh_dec wh .first
    have e2 : decide (V.str (whS wh) = V.str "last") = decide (wh = .last) := wh_dec wh .last
    refine ⟨_, rfl, rfl, _, rfl, ?_⟩
    rw [e1]
    cases wh with
    | first =>
      refine iteT ⟨_, rfl, rfl, ?_⟩
      rw [int_dec]
      have : decide ((i : Int) = 0) = acts .first i n := by
        unfold acts
        by_cases h : i = 0
        · simp [h]
        · simp [h]
      rw [this]
      exact q
    | last =>
      refine iteF ⟨_, rfl, rfl, _, rfl, ?_⟩
      rw [e2]
      refine iteT ⟨_, rfl, _, rfl, _, _, rfl, rfl, rfl, ?_⟩
      rw [int_dec]
      have : decide ((i : Int) = (n : Int) - 1) = acts .last i n := by
        unfold acts
        by_cases h : i + 1 = n
        · rw [decide_eq_true h, decide_eq_true (by omega)]
        · rw [decide_eq_false h, decide_eq_false (by omega)]
      rw [this]
      exact q
    | any =>
      refine iteF ⟨_, rfl, rfl, _, rfl, ?_⟩
      rw [e2]
      exact iteF q
end
end Wl




namespace Wl
open PySem PySem.Spec PyProof.Rows L2
abbrev wSteps : Stmt := topS 31
/-! a dict comprehension over a walk -/
theorem dc_it {J : It} {n : Nat} {G : Hp → Prop} {Y : Nat → Hp → V → Hp → Prop} (w : L2.Walk J n G Y) {g : TG} {tt : TT} {tk tv : TE} {vs : List Nat} {σ : L2.St} {H1 : Hp} {D : Addr} {Qd : Hp → Prop} (Pv : Nat → Hp → Prop) (h0 : Pv 0 (upd H1 D (.dK []))) (hG : ∀ i H, i ≤ n → Pv i H → G H)
    (hs : ∀ i x H H', i < n → Pv i H → Y i H x H' → g x (wipe σ vs) H' fun σ2 H2 => wipe σ2 vs = wipe σ vs ∧ tt σ2 H2 fun b H3 =>
      if b = true then tk σ2 H3 fun y H4 => tv σ2 H4 fun z H5 => ∃ kvs k, y = kV k ∧ H5 D = some (.dK kvs) ∧ kvs.length < sizeLine ∧ Pv (i + 1) (upd H5 D (.dK (putK kvs k z))) else Pv (i + 1) H3) (hd : ∀ H, Pv n H → Qd H) :
    ∃ W : Nat → Nat → Hp → Prop, (∃ m, W 0 m (upd H1 D (.dK []))) ∧ ∀ i m H, W i m H →
      (J.stop i H ∧ Qd H) ∨ (J.go i H ∧ ∃ Nx : Hp → Prop, (∀ H', Nx H' → ∃ m', m' < m ∧ W (i + 1) m' H') ∧ ∀ x H', J.yld i H x H' → g x (wipe σ vs) H' fun σ2 H2 => wipe σ2 vs = wipe σ vs ∧ tt σ2 H2 fun b H3 =>
        if b = true then tk σ2 H3 fun y H4 => tv σ2 H4 fun z H5 => ∃ kvs k, y = kV k ∧ H5 D = some (.dK kvs) ∧ kvs.length < sizeLine ∧ Nx (upd H5 D (.dK (putK kvs k z))) else Nx H3) := by
  refine ⟨fun i m H => m = n - i ∧ i ≤ n ∧ Pv i H, ⟨n, by simp, Nat.zero_le _, h0⟩, ?_⟩
  rintro i m H ⟨rfl, hi, p⟩
  have q := hG i H hi p
  by_cases hlt : i < n
  · exact .inr ⟨w.goes i H hlt q, Pv (i + 1), fun H' p' => ⟨n - (i + 1), by omega, rfl, hlt, p'⟩, fun x H' y => hs i x H H' hlt p (w.yields i H x H' hlt q y)⟩
  · have e : i = n := by omega
    subst e
    exact .inl ⟨w.stops H q, hd H p⟩
abbrev kS (c : Nat) : Key := Sum.inr (sign c)
theorem kS_inj {a b : Nat} (h : kS a = kS b) : a = b := by
  have e := congrArg (fun z : Str => z.cps.toList) (Sum.inr.inj h)
  simpa [sign] using e
def kvL (ad : Nat → V) (l : List Nat) : List (Key × V) := l.map fun c => (kS c, ad c)
theorem valV_kvL (ad : Nat → V) (c : Nat) : ∀ l : List Nat, valV (kvL ad l) (kS c) = if c ∈ l then some (ad c) else none
  | [] => rfl
  | d :: r => by
    by_cases h : d = c
    · subst h
      rw [if_pos List.mem_cons_self]
      exact valV_pos rfl
    · have h1 : valV (kvL ad (d :: r)) (kS c) = valV (kvL ad r) (kS c) := valV_neg fun e => h (kS_inj e)
      rw [h1, valV_kvL ad c r]
      have h2 : (c ∈ d :: r) = (c ∈ r) := by
        simp only [List.mem_cons, eq_iff_iff]
        constructor
        · rintro (e | e)
          · exact absurd e.symm h
          · exact e
        · exact .inr
      simp only [h2]
theorem kvL_congr {a b : Nat → V} {l : List Nat} (h : ∀ c ∈ l, a c = b c) : kvL a l = kvL b l := List.map_congr_left fun c hc => by rw [h c hc]
structure TurnI (H : Hp) (D : Addr) (ad : Nat → Addr) (E : Edges) : Prop where
  dict : H D = some (.dK (kvL (fun c => .ref (ad c)) (List.range' 97 26)))
  lst : ∀ c, isLet c → H (ad c) = some (.lst ((nbrs E c).map sgV))
  inj : ∀ c d, isLet c → isLet d → ad c = ad d → c = d
theorem let_mem {c : Nat} : isLet c ↔ c ∈ List.range' 97 26 := by
  rw [List.mem_range'_1]
  unfold isLet
  omega
def TurnAt (H : Hp) (D : Addr) (E : Edges) : Prop := ∃ ad, TurnI H D ad E
theorem TurnI.val {H : Hp} {D : Addr} {ad : Nat → Addr} {E : Edges} (t : TurnI H D ad E) {c : Nat} (h : isLet c) : DGet H D (sgV c) (some (.ref (ad c))) := by
  have := DGet.k (k := kS c) t.dict
  rw [valV_kvL, if_pos (let_mem.mp h)] at this
  exact this
theorem TurnI.same {H H' : Hp} {D : Addr} {ad : Nat → Addr} {E : Edges} (t : TurnI H D ad E) (s : Same H H') : TurnI H' D ad E := ⟨s _ _ t.dict, fun c h => s _ _ (t.lst c h), t.inj⟩
theorem room1 {k : Nat} {A : Around} (r : Room k A) : A.units + 1 < cLine := by have := r.un; omega
theorem nbrs_len (E : Edges) (c : Nat) : (nbrs E c).length ≤ 2 * E.length := by
  induction E with
  | nil => simp [nbrs]
  | cons e r ih =>
    have h1 : nbrs (e :: r) c = nbE c e ++ nbrs r c := rfl
    have h2 : (nbE c e).length ≤ 2 := by
      unfold nbE
      split <;> split <;> simp
    rw [h1, List.length_append, List.length_cons]
    omega
theorem es_len (chs : List Chg) (i n : Nat) : (es chs i n).length ≤ chs.length := by
  unfold es
  rw [List.length_map]
  exact List.length_filter_le _ _
theorem es_snoc (l : List Chg) (ch : Chg) (i n : Nat) : es (l ++ [ch]) i n = es l i n ++ (if acts ch.2.2 i n = true then [(ch.1, ch.2.1)] else []) := by
  unfold es
  rw [List.filter_append, List.map_append]
  by_cases h : acts ch.2.2 i n = true
  · simp [h]
  · simp [h]
theorem signs_abc : signsOf "abcdefghijklmnopqrstuvwxyz" = (List.range' 97 26).map sgV := by
  unfold signsOf
  rw [letters_eq]
  rfl
theorem TurnI.push {H : Hp} {D : Addr} {ad : Nat → Addr} {E : Edges} (t : TurnI H D ad E) {a b : Nat} (ha : isLet a) (hb : isLet b) (hn : a ≠ b) :
    TurnI (upd (upd H (ad a) (.lst ((nbrs E a).map sgV ++ [sgV b]))) (ad b) (.lst ((nbrs E b).map sgV ++ [sgV a]))) D ad (E ++ [(a, b)]) := by
  have nab : ad a ≠ ad b := fun e => hn (t.inj a b ha hb e)
  have nd : ∀ c, isLet c → D ≠ ad c := fun c hc => ne_of t.dict (t.lst c hc) (by intro z; cases z)
  refine ⟨?_, fun c hc => ?_, t.inj⟩
  · rw [upd_ne (nd b hb), upd_ne (nd a ha)]
    exact t.dict
  · rw [nbrs_snoc]
    by_cases h1 : b = c
    · subst h1
      rw [upd_same, if_neg hn, if_pos rfl, List.map_append]
      rfl
    · have n1 : ad c ≠ ad b := fun e => h1 (t.inj c b hc hb e).symm
      rw [upd_ne n1, if_neg h1]
      by_cases h2 : a = c
      · subst h2
        rw [upd_same, if_pos rfl, List.map_append]
        rfl
      · have n2 : ad c ≠ ad a := fun e => h2 (t.inj c a hc ha e).symm
        rw [upd_ne n2, if_neg h2, t.lst c hc]
        simp
section
variable {P : Program} {w : World} {K : PySem.W.Frag} {mg : Str → Option Value} {base : Heap} {f : Addr} {fd : FuncData}
def spTurned : Sp := fun vs H Q _ => ∃ (S : Addr) (chs : List Chg) (i n : Nat), vs = [.ref S, .int i, .int n] ∧ ChAt H S chs ∧ OkCs chs ∧ ∀ (D : Addr) (H' : Hp), Same H H' → TurnAt H' D (es chs i n) → Q (.ref D) H'
abbrev nTurned : List Str := ["changes", "place", "length", "turned", "letter", "one", "other", "where"]
theorem scTurned : FnScope nTurned ["changes", "place", "length"] (defScope wTurned) := ⟨rfl, rfl, rfl, by decide +kernel, rfl, by decide +kernel, by decide +kernel⟩
theorem ok_turned (F : Fun K "turned_letters" "turned_letters" wTurned f fd) (G : Gw K mg) (hR : Has P w K mg base "reaches" 1 ["where", "place", "length"] spReaches) : FnOk P w K mg base CX0 2 f fd ["changes", "place", "length"] spTurned := by
  obtain ⟨t1, g1⟩ := G.letters
  refine F.ok scTurned (fun vs H Q E h => ?_) (fun cdv A outer s H vs Q E hr h => ?_)
  · obtain ⟨S, chs, i, n, rfl, _⟩ := h
    rfl
  · obtain ⟨S, chs, pl, n, rfl, ⟨as, hS, hE⟩, ok, q⟩ := h
    refine ⟨_, pss_cons (ps_setDc (i := 3) (own := [("letter", 4)]) (g := gName 4) (tt := tYes) rfl scTurned.nd rfl rfl (sw_dict rfl rfl rfl rfl) (pi_str (pe_glob (v := .str "abcdefghijklmnopqrstuvwxyz") rfl g1 ⟨_, rfl⟩)) (blkOk_by (N := nTurned) (sc := defScope wTurned) (by decide +kernel))
        (fun _ _ _ _ _ => pg_name (i := 4) scTurned.nd rfl (.inl rfl)) (fun _ _ _ _ _ => pts_nil) (fun _ _ _ _ _ => pv 4) (fun _ _ _ _ _ => pe_lst pa_nil))
      (pss_cons (ps_for PassesOwn.never rfl (pi_tup (pv 0)) (pg_tup rfl (pgs_cons (pg_name (i := 5) scTurned.nd rfl (.inl rfl)) (pgs_cons (pg_name (i := 6) scTurned.nd rfl (.inl rfl)) (pgs_cons (pg_name (i := 7) scTurned.nd rfl (.inl rfl)) pgs_nil))))
        (pss_one (ps_if (pt_val (pe_h hR hr (pa_cons (pv 7) (pa_cons (pv 1) (pa_cons (pv 2) pa_nil)))))
          (pss_cons (ps_expr (pe_bm PySem.F.plainAttrs_list PySem.F.slot_list_append PySem.F.type_list_append mt_append (pe_dget (room1 hr) (pv 3) (pv 5) (fun _ _ => rfl)) (pa_cons (pv 6) pa_nil)))
          (pss_one (ps_expr (pe_bm PySem.F.plainAttrs_list PySem.F.slot_list_append PySem.F.type_list_append mt_append (pe_dget (room1 hr) (pv 3) (pv 6) (fun _ _ => rfl)) (pa_cons (pv 5) pa_nil))))) pss_nil)))
      (pss_one (ps_ret (pv 3)))), ?_⟩
    refine ⟨_, rfl, fun D hD => dc_it walk_signs (fun i H' => ∃ ad : Nat → Addr, Same H H' ∧ H' D = some (.dK (kvL (fun c => .ref (ad c)) (List.range' 97 i))) ∧ (∀ c ∈ List.range' 97 i, H' (ad c) = some (.lst []) ∧ H (ad c) = none) ∧ ∀ c d, c ∈ List.range' 97 i → d ∈ List.range' 97 i → ad c = ad d → c = d) ⟨fun _ => 0, same_new hD, upd_same, fun c hc => by simp at hc, fun c d hc => by simp at hc⟩ (fun _ _ _ _ => trivial) ?_ ?_⟩
    · rintro i x H1 H2 hi ⟨ad, s1, hd, hl, hj⟩ ⟨rfl, hx⟩
      have hi26 : i < 26 := by
        rw [signs_abc, List.length_map, List.length_range'] at hi
        exact hi
      rw [signs_abc, List.getElem?_map, List.getElem?_range' hi26] at hx
      obtain rfl := Option.some.inj hx
      have e97 : 97 + 1 * i = 97 + i := by omega
      rw [e97]
      refine ⟨rfl, yes_it ⟨_, rfl, lz, fun p hp => ⟨_, kS (97 + i), rfl, (same_new hp) _ _ hd, ?_, fun c => if c = 97 + i then p else ad c, ?_, ?_, ?_, ?_⟩⟩⟩
      · unfold kvL
        rw [List.length_map, List.length_range']
        exact small1000 (by omega)
      · exact same_mut (s1.trans (same_new hp)) hD
      · rw [upd_same, putK_new]
        · have e : List.range' 97 (i + 1) = List.range' 97 i ++ [97 + i] := by
            have := List.range'_concat (s := 97) (n := i) (step := 1)
            simpa using this
          rw [e]
          unfold kvL
          rw [List.map_append]
          have e2 : (List.range' 97 i).map (fun c => (kS c, V.ref (if c = 97 + i then p else ad c))) = (List.range' 97 i).map fun c => (kS c, V.ref (ad c)) := List.map_congr_left fun c hc => by
            rw [List.mem_range'_1] at hc
            rw [if_neg (by omega)]
          rw [e2]
          simp
        · rw [valV_kvL, if_neg]
          rw [List.mem_range'_1]
          omega
      · intro c hc
        rw [List.mem_range'_1] at hc
        have nD : p ≠ D := (ne_of_none hd hp).symm
        dsimp only
        by_cases h : c = 97 + i
        · rw [if_pos h]
          exact ⟨by rw [upd_ne nD, upd_same], s1.free hp⟩
        · rw [if_neg h]
          obtain ⟨h1, h2⟩ := hl c (by rw [List.mem_range'_1]; omega)
          have n1 : ad c ≠ D := ne_of h1 hd (by intro z; cases z)
          exact ⟨by rw [upd_ne n1]; exact (same_new hp) _ _ h1, h2⟩
      · intro c d hc hd' e
        rw [List.mem_range'_1] at hc hd'
        dsimp only at e
        have np : ∀ c, c < 97 + i → 97 ≤ c → ad c ≠ p := fun c h1 h2 => ne_of_none (hl c (by rw [List.mem_range'_1]; omega)).1 hp
        by_cases h1 : c = 97 + i <;> by_cases h2 : d = 97 + i
        · omega
        · rw [if_pos h1, if_neg h2] at e
          exact absurd e.symm (np d (by omega) (by omega))
        · rw [if_neg h1, if_pos h2] at e
          exact absurd e (np c (by omega) (by omega))
        · rw [if_neg h1, if_neg h2] at e
          exact hj c d (by rw [List.mem_range'_1]; omega) (by rw [List.mem_range'_1]; omega) e
    · rintro H1 ⟨ad, s1, hd, hl, hj⟩
      have e26 : (signsOf "abcdefghijklmnopqrstuvwxyz").length = 26 := by rw [signs_abc, List.length_map, List.length_range']
      rw [e26] at hd hl hj
      have T1 : TurnI H1 D ad (es (chs.take 0) pl n) := ⟨hd, fun c hc => (hl c (let_mem.mp hc)).1, fun c d hc hd' e => hj c d (let_mem.mp hc) (let_mem.mp hd') e⟩
      refine ⟨_, rfl, S, rfl, ⟨_, .inl (.inl (s1 _ _ hS))⟩, for_it (walk_tup (K := K) (a := S) (xs := as.map V.ref)) (fun i σ H' => (∃ y4 y5 y6 y7, σ = [some (.ref S), some (.int pl), some (.int n), some (.ref D), y4, y5, y6, y7]) ∧ Same H H' ∧ TurnI H' D ad (es (chs.take i) pl n)) ⟨⟨_, _, _, _, rfl⟩, s1, T1⟩ (fun i σ H' _ h => .inl (.inl (h.2.1 _ _ hS))) ?_ ?_⟩
      · rintro i x σ H2 H3 hi ⟨⟨y4, y5, y6, y7, rfl⟩, s2, t2⟩ ⟨rfl, hx⟩
        rw [List.getElem?_map] at hx
        obtain ⟨p, hp, rfl⟩ := Option.map_eq_some_iff.mp hx
        obtain ⟨ch, hch, hH⟩ := hE.get hp
        obtain ⟨o1, o2, o3⟩ := ok.2 ch (List.mem_of_getElem? hch)
        have etk : chs.take (i + 1) = chs.take i ++ [ch] := by rw [List.take_add_one, hch]; rfl
        have lenE : ∀ c, ((nbrs (es (chs.take i) pl n) c).map sgV).length < sizeLine := fun c => by
          rw [List.length_map]
          have h1 := nbrs_len (es (chs.take i) pl n) c
          have h2 := es_len (chs.take i) pl n
          have h3 : (chs.take i).length ≤ chs.length := List.length_take_le' _ _
          have h4 := ok.1
          exact small1000 (by omega)
        refine ⟨p, _, rfl, .inl (.inl (s2 _ _ hH)), rfl, _, _, rfl, _, _, rfl, _, _, rfl, rfl, ?_⟩
        refine ⟨_, rfl, _, rfl, _, rfl, ch.2.2, pl, n, rfl, _, rfl, ite_b (fun e => ?_) (fun e => ?_)⟩
        · refine ⟨_, rfl, _, rfl, D, _, rfl, t2.val o1, .inl ⟨rfl, _, .inl (.inl (t2.lst _ o1))⟩, _, rfl, ad ch.1, _, _, rfl, rfl, t2.lst _ o1, lenE _, ?_⟩
          have nab : ad ch.2.1 ≠ ad ch.1 := fun e => o3 (t2.inj _ _ o2 o1 e).symm
          have hb : upd H3 (ad ch.1) (.lst ((nbrs (es (chs.take i) pl n) ch.1).map sgV ++ [sgV ch.2.1])) (ad ch.2.1) = some (.lst ((nbrs (es (chs.take i) pl n) ch.2.1).map sgV)) := by
            rw [upd_ne nab]
            exact t2.lst _ o2
          have hDg : DGet (upd H3 (ad ch.1) (.lst ((nbrs (es (chs.take i) pl n) ch.1).map sgV ++ [sgV ch.2.1]))) D (sgV ch.2.1) (some (.ref (ad ch.2.1))) := by
            have nD : D ≠ ad ch.1 := ne_of t2.dict (t2.lst _ o1) (by intro z; cases z)
            have := DGet.k (k := kS ch.2.1) (show upd H3 (ad ch.1) (.lst ((nbrs (es (chs.take i) pl n) ch.1).map sgV ++ [sgV ch.2.1])) D = _ by rw [upd_ne nD]; exact t2.dict)
            rw [valV_kvL, if_pos (let_mem.mp o2)] at this
            exact this
          refine ⟨_, rfl, _, rfl, D, _, rfl, hDg, .inl ⟨rfl, _, .inl (.inl hb)⟩, _, rfl, ad ch.2.1, _, _, rfl, rfl, hb, lenE _, ⟨_, _, _, _, rfl⟩, ?_, ?_⟩
          · exact same_mut (same_mut s2 (hl _ (let_mem.mp o1)).2) (hl _ (let_mem.mp o2)).2
          · rw [etk, es_snoc, if_pos e]
            exact t2.push o1 o2 o3
        · refine ⟨⟨_, _, _, _, rfl⟩, s2, ?_⟩
          rw [etk, es_snoc, if_neg (by rw [e]; decide), List.append_nil]
          exact t2
      · rintro σ H2 ⟨⟨y4, y5, y6, y7, rfl⟩, s2, t2⟩
        have : chs.take (as.map V.ref).length = chs := by rw [List.length_map, hE.length, List.take_length]
        rw [this] at t2
        exact ⟨_, rfl, q D H2 s2 ⟨ad, t2⟩⟩
end
end Wl




namespace Wl
open PySem PySem.Spec PyProof.Rows L2
abbrev Tw := List (Nat × Option Nat)
def oS : Option Nat → V
  | none => .non
  | some d => sgV d
def twK (tw : Tw) : List (Key × V) := tw.map fun p => (kS p.1, oS p.2)
theorem twK_snoc (tw : Tw) (c : Nat) (o : Option Nat) : twK (tw ++ [(c, o)]) = twK tw ++ [(kS c, oS o)] := by
  unfold twK
  rw [List.map_append]
  rfl
theorem twK_in (tw : Tw) (c : Nat) : (valV (twK tw) (kS c)).isSome = decide (c ∈ tw.map (·.1)) := by
  rw [← valV_any]
  induction tw with
  | nil => rfl
  | cons p r ih =>
    have e : twK (p :: r) = (kS p.1, oS p.2) :: twK r := rfl
    rw [e, List.any_cons, ih, List.map_cons]
    by_cases h : p.1 = c
    · subst h
      simp
    · have h1 : ¬ kS p.1 = kS c := fun q => h (kS_inj q)
      have h2 : ¬ c = p.1 := fun q => h q.symm
      rw [decide_eq_false h1]
      simp [h2]
theorem twK_none {tw : Tw} {c : Nat} (h : c ∉ tw.map (·.1)) : valV (twK tw) (kS c) = none := by
  have := twK_in tw c
  rw [decide_eq_false h] at this
  cases q : valV (twK tw) (kS c) with
  | none => rfl
  | some v => rw [q] at this; cases this
theorem twK_val : ∀ {tw : Tw} {i c : Nat} {o : Option Nat}, (tw.map (·.1)).Nodup → tw[i]? = some (c, o) → valV (twK tw) (kS c) = some (oS o)
  | [], i, c, o, _, h => by simp at h
  | p :: r, 0, c, o, _, h => by
    simp at h
    subst h
    exact valV_pos rfl
  | p :: r, i + 1, c, o, nd, h => by
    rw [List.map_cons, List.nodup_cons] at nd
    have h' : r[i]? = some (c, o) := by simpa using h
    have hm : c ∈ r.map (·.1) := List.mem_map.mpr ⟨_, List.mem_of_getElem? h', rfl⟩
    have e : valV (twK (p :: r)) (kS c) = valV (twK r) (kS c) := valV_neg fun q => by
      have := kS_inj q
      rw [this] at nd
      exact nd.1 hm
    rw [e]
    exact twK_val nd.2 h'
section
variable {P : Program} {w : World} {K : PySem.W.Frag} {mg : Str → Option Value} {base : Heap} {f : Addr} {fd : FuncData}
def spSteps : Sp := fun vs H Q _ => ∃ (g : Nat) (D : Addr) (E : Edges), vs = [sgV g, .ref D] ∧ isLet g ∧ TurnAt H D E ∧ OkE E ∧ E.length ≤ 12 ∧ ∀ (W : Addr) (tw : Tw) (H' : Hp), Same H H' → H' W = some (.dK (twK tw)) → Bfs E g tw tw.length → Q (.ref W) H'
abbrev nSteps : List Str := ["goal", "turned", "toward", "waiting", "at", "letter", "ahead"]
theorem scSteps : FnScope nSteps ["goal", "turned"] (defScope wSteps) := ⟨rfl, rfl, rfl, by decide +kernel, rfl, by decide +kernel, by decide +kernel⟩
theorem ok_steps (F : Fun K "steps_toward" "steps_toward" wSteps f fd) (B : Bi mg) : FnOk P w K mg base CX0 1 f fd ["goal", "turned"] spSteps := by
  refine F.ok scSteps (fun vs H Q E h => ?_) (fun cdv A outer s H vs Q E hr h => ?_)
  · obtain ⟨g, D, E, rfl, _⟩ := h
    rfl
  · obtain ⟨g, D, Ed, rfl, hg, ⟨ad, t⟩, okE, lE, q⟩ := h
    refine ⟨_, pss_cons (ps_set (i := 2) scSteps.nd rfl (.inl rfl) (pe_disp (pps_cons (pv 0) pe_non pps_nil) rfl rfl (by simp) (by decide)))
      (pss_cons (ps_set (i := 3) scSteps.nd rfl (.inl rfl) (pe_lst (pa_cons (pv 0) pa_nil)))
      (pss_cons (ps_set (i := 4) scSteps.nd rfl (.inl rfl) pe_int)
      (pss_cons (ps_while PassesOwn.never (pt_cmpR op_lt (pv 4) (pe_callB call_len_seq (by rfl) B.len PySem.boot_len (pa_cons (pv 3) pa_nil)) (nomark _))
        (pss_cons (ps_set (i := 5) scSteps.nd rfl (.inl rfl) (pe_ix ix_list (pv 3) (pv 4) (fun _ _ => rfl)))
        (pss_cons (ps_for PassesOwn.never rfl (pi_list (pe_dget (room1 hr) (pv 1) (pv 5) (fun _ _ => rfl))) (pg_name (i := 6) scSteps.nd rfl (.inl rfl))
          (pss_one (ps_if (pt_cmp (pc_dnotin (room1 hr) (pv 6) (pv 2)))
            (pss_cons (ps_dput (room1 hr) (pv 2) (pv 6) (pv 5) rfl)
            (pss_one (ps_expr (pe_bm PySem.F.plainAttrs_list PySem.F.slot_list_append PySem.F.type_list_append mt_append (pv 3) (pa_cons (pv 6) pa_nil))))) pss_nil)))
        (pss_one (ps_aug (i := 4) scSteps.nd rfl (.inl rfl) pe_int ip_add)))))
      (pss_one (ps_ret (pv 2)))))), ?_⟩
    intro W hW
    refine ⟨_, rfl, upd_same, [(kS g, .non)], rfl, by simp, ?_⟩
    have sW : Same H (upd (upd H W (.dK [])) W (.dK (mergeK [] [(kS g, .non)]))) := same_mut (same_new hW) hW
    have eW : (upd (upd H W (.dK [])) W (.dK (mergeK [] [(kS g, .non)]))) W = some (.dK (twK [(g, none)])) := upd_same
    generalize upd (upd H W (.dK [])) W (.dK (mergeK [] [(kS g, .non)])) = H1 at sW eW
    refine ⟨_, rfl, lz, fun L hL => ?_⟩
    have nLW : L ≠ W := (ne_of_none eW hL).symm
    have hL0 : H L = none := sW.free hL
    refine ⟨fun m σ H' => ∃ (tw : Tw) (a : Nat) (y5 y6 : Option V), m = 26 - a ∧ σ = [some (sgV g), some (.ref D), some (.ref W), some (.ref L), some (.int a), y5, y6] ∧ Same H H' ∧ H' W = some (.dK (twK tw)) ∧ H' L = some (.lst (tw.map fun p => sgV p.1)) ∧ Bfs Ed g tw a ∧ a ≤ tw.length,
      ⟨26, [(g, none)], 0, _, _, rfl, rfl, sW.trans (same_new hL), (same_new hL) _ _ eW, upd_same, Bfs.start hg, by simp⟩, ?_⟩
    rintro m σ H2 ⟨tw, a, y5, y6, rfl, rfl, s2, hW2, hL2, b2, ha⟩
    have h26 := b2.len
    refine ⟨_, rfl, _, rfl, L, _, rfl, .inl (.inl (.inl hL2)), _, _, rfl, rfl, _, rfl, ite_b (fun e => ?_) (fun e => ?_)⟩
    · have hlt : a < tw.length := by
        have := of_decide_eq_true e
        rw [List.length_map] at this
        omega
      obtain ⟨⟨x, o⟩, hx⟩ : ∃ p, tw[a]? = some p := ⟨tw[a], List.getElem?_eq_getElem hlt⟩
      have hxl : isLet x := b2.lets x (List.mem_map.mpr ⟨_, List.mem_of_getElem? hx, rfl⟩)
      refine ⟨_, fun σ' H' h => h, ?_⟩
      refine ⟨_, rfl, _, rfl, L, _, _, sgV x, rfl, rfl, .inl (.inl hL2), atI_nat (j := a) (by rw [List.getElem?_map, hx]; rfl), ?_⟩
      have lenN : (nbrs Ed x).length ≤ 24 := by
        have := nbrs_len Ed x
        omega
      refine ⟨_, rfl, _, rfl, D, _, rfl, (t.same s2).val hxl, ad x, rfl, ⟨_, .inl (.inl ((t.same s2).lst x hxl))⟩, for_it (walk_list (K := K) (a := ad x) (xs := (nbrs Ed x).map sgV)) (fun j σ H' => ∃ (tw' : Tw) (y6 : Option V), σ = [some (sgV g), some (.ref D), some (.ref W), some (.ref L), some (.int a), some (sgV x), y6] ∧ Same H H' ∧ H' W = some (.dK (twK tw')) ∧ H' L = some (.lst (tw'.map fun p => sgV p.1)) ∧ Bfs Ed g tw' a ∧ tw'[a]? = some (x, o) ∧ ∀ y ∈ (nbrs Ed x).take j, y ∈ tw'.map (·.1))
        ⟨tw, _, rfl, s2, hW2, hL2, b2, hx, fun y hy => by simp at hy⟩ (fun j σ H' _ h => ?_) ?_ ?_⟩
      · obtain ⟨_, _, _, s3, _⟩ := h
        exact .inl (.inl ((t.same s3).lst x hxl))
      · rintro j v σ H3 H4 hj ⟨tw', y6', rfl, s3, hW3, hL3, b3, hx3, hin⟩ ⟨rfl, hv⟩
        rw [List.getElem?_map] at hv
        obtain ⟨c, hc, rfl⟩ := Option.map_eq_some_iff.mp hv
        have hcn : c ∈ nbrs Ed x := List.mem_of_getElem? hc
        have hcl : isLet c := conn_let okE (Conn.step (.refl x) hcn) hxl
        have l3 := b3.len
        have etk : (nbrs Ed x).take (j + 1) = (nbrs Ed x).take j ++ [c] := by rw [List.take_add_one, hc]; rfl
        refine ⟨_, rfl, _, rfl, W, _, rfl, DGet.k (k := kS c) hW3, _, rfl, ?_⟩
        rw [twK_in]
        refine not_b (fun e => ?_) (fun e => ?_)
        · have hnot := of_decide_eq_false e
          have lK : (twK tw').length < sizeLine := by
            unfold twK
            rw [List.length_map]
            exact small1000 (by omega)
          refine ⟨_, rfl, _, rfl, _, rfl, W, _, rfl, DPut.k (k := kS c) hW3 lK, ?_⟩
          rw [putK_new _ (twK_none hnot)]
          have hL4 : upd H4 W (.dK (twK tw' ++ [(kS c, sgV x)])) L = some (.lst (tw'.map fun p => sgV p.1)) := by
            rw [upd_ne nLW]
            exact hL3
          refine ⟨_, rfl, .inl ⟨rfl, _, .inl (.inl hL4)⟩, _, rfl, L, _, _, rfl, rfl, hL4, ?_, tw' ++ [(c, some x)], _, rfl, ?_, ?_, ?_, b3.push hx3 hcn hcl hnot, ?_, ?_⟩
          · rw [List.length_map]
            exact small1000 (by omega)
          · exact same_mut (same_mut s3 hW) hL0
          · rw [upd_ne nLW.symm, upd_same, twK_snoc]
            rfl
          · rw [upd_same, List.map_append]
            rfl
          · rw [List.getElem?_append_left (List.getElem?_eq_some_iff.mp hx3).1]
            exact hx3
          · intro y hy
            rw [etk] at hy
            rw [List.map_append]
            rcases List.mem_append.mp hy with hy | hy
            · exact List.mem_append_left _ (hin y hy)
            · rw [List.mem_singleton] at hy
              subst hy
              exact List.mem_append_right _ (by simp)
        · have hyes := of_decide_eq_true e
          refine ⟨tw', _, rfl, s3, hW3, hL3, b3, hx3, fun y hy => ?_⟩
          rw [etk] at hy
          rcases List.mem_append.mp hy with hy | hy
          · exact hin y hy
          · rw [List.mem_singleton] at hy
            subst hy
            exact hyes
      · rintro σ H3 ⟨tw', y6', rfl, s3, hW3, hL3, b3, hx3, hin⟩
        have hall : ∀ y ∈ nbrs Ed x, y ∈ tw'.map (·.1) := fun y hy => hin y (by rw [List.length_map, List.take_length]; exact hy)
        have hl3 : a < tw'.length := (List.getElem?_eq_some_iff.mp hx3).1
        exact ⟨_, rfl, _, _, rfl, rfl, 26 - (a + 1), by omega, tw', a + 1, _, _, rfl, rfl, s3, hW3, hL3, b3.next hx3 hall, hl3⟩
    · have hge : tw.length ≤ a := by
        have := of_decide_eq_false e
        rw [List.length_map] at this
        omega
      have : a = tw.length := by omega
      subst this
      exact ⟨_, rfl, q W tw H2 s2 hW2 b2⟩
end
end Wl




namespace Wl
open PySem PySem.Spec PyProof.Rows L2
abbrev wLetAt : Stmt := topS 32
abbrev wMean : Stmt := topS 33
section
variable {P : Program} {w : World} {K : PySem.W.Frag} {mg : Str → Option Value} {base : Heap} {f : Addr} {fd : FuncData}
/-- a def whose last parameter may be left out: None -/
abbrev FunN (K : PySem.W.Frag) (x : Str) (st : Stmt) (f : Addr) (fd : FuncData) : Prop := FunD K x x (defArgs st) (defBody st) (defScope st) [.non] [] f fd
def HasN (P : Program) (w : World) (K : PySem.W.Frag) (mg : Str → Option Value) (base : Heap) (x : Str) (st : Stmt) (k : Nat) (ps : List Str) (sp : Sp) : Prop :=
  ∃ f fd, FnOk P w K mg base CX0 k f fd ps sp ∧ mg x = some (.ref f) ∧ FunN K x st f fd
abbrev ps2 : List Str := ["word", "changes"]
theorem bindM2 {x : Str} (F : FunN K x wMean f fd) : Binds K fd ps2 [] := by
  obtain ⟨ds, h1, h2⟩ := F.binds1 (ps := ps2) 2 1 (by simp) rfl (fun T kV doc pm an cdv ct us its l1 l2 => by
      match us, its, l1, l2 with
      | [a, b], [d], _, _ => exact ⟨_, rfl, rfl⟩)
  cases h1
  exact h2
/-! keywords -/
end
end Wl




namespace Wl
open PySem PySem.Spec PyProof.Rows L2
theorem cut_len (z : Str) (lo hi : Option Int) : (cutS z lo hi).length ≤ z.length := by
  have e : ∀ x : Str, x.length = x.cps.toList.length := fun x => by simp [Str.length]
  rw [e, e]
  show (List.take _ (List.drop _ z.cps.toList)).length ≤ _
  rw [List.length_take, List.length_drop]
  omega
theorem add_len (x y : Str) : (x ++ y).length = x.length + y.length := by
  rw [TL.len_tl, TL.tl_append, List.length_append, ← TL.len_tl, ← TL.len_tl]
theorem codes_len (z : Str) : (codes z).length = z.length := by simp [codes, Str.length]
theorem ones_sum (l : List Nat) : (l.map fun _ => 1).sum = l.length := by
  induction l with
  | nil => rfl
  | cons x r ih => rw [List.map_cons, List.sum_cons, ih, List.length_cons]; omega
section
variable {P : Program} {w : World} {K : PySem.W.Frag} {mg : Str → Option Value} {base : Heap} {f : Addr} {fd : FuncData}
theorem okN {x : Str} {st : Stmt} {N ps : List Str} {k : Nat} {sp : Sp} (F : FunN K x st f fd) (S : FnScope N ps (defScope st)) (len : ∀ vs H Q E, sp vs H Q E → vs.length = ps.length)
    (hbody : ∀ (cdv : Value) (A : Around) (outer : List Env) (s : Shared) (H : Hp) (vs : List V) (Q : VK) (E : XK), Room k (A.deeper (envOfC x (defScope st) s.heap.objs.size f cdv)) → sp vs H Q E →
      ∃ t, PSs (cxOf CX0 P w K mg base N x (defScope st) f cdv A outer s H E).nox (defBody st) t ∧ t { nx := fun _ H' => Q .non H', rt := Q } (start N vs) H) : FnOk P w K mg base CX0 (k + 1) f fd ps sp :=
  F.ok S len fun cdv A outer s H vs Q E hr hsp => let ⟨t, h, q⟩ := hbody cdv A outer s H vs Q E hr hsp; ⟨t, h.nox, q⟩
def spLetAt : Sp := fun vs H Q _ => ∃ (z : Str) (i b : Nat) (S : Addr) (chs : List Chg), vs = [.str z, .int (i : Int), .ref S] ∧ IsWd z ∧ (codes z)[i]? = some b ∧ ChAt H S chs ∧ OkCs chs ∧
  ∀ (L : Addr) (cs : List Nat) (H' : Hp), Same H H' → H' L = some (.lst ((sortS (cs.map sign)).map V.str)) → (∀ d, d ∈ cs ↔ Conn (es chs i (codes z).length) b d) → Q (.ref L) H'
theorem scLetAt : FnScope ["word", "place", "changes"] ["word", "place", "changes"] (defScope wLetAt) := ⟨rfl, rfl, rfl, by decide +kernel, rfl, by decide +kernel, by decide +kernel⟩
theorem ok_letat (F : Fun K "letters_at" "letters_at" wLetAt f fd) (B : Bi mg) (hS : Has P w K mg base "steps_toward" 1 ["goal", "turned"] spSteps) (hT : Has P w K mg base "turned_letters" 2 ["changes", "place", "length"] spTurned) : FnOk P w K mg base CX0 3 f fd ["word", "place", "changes"] spLetAt := by
  refine F.ok scLetAt (fun vs H Q E h => ?_) (fun cdv A outer s H vs Q E hr h => ?_)
  · obtain ⟨z, i, b, S, chs, rfl, _⟩ := h
    rfl
  · obtain ⟨z, i, b, S, chs, rfl, hz, hb, hS', ok, q⟩ := h
    refine ⟨_, pss_one (ps_ret (pe_callB (cr_sortD hr.units) (by rfl) B.sorted (by decide +kernel) (pa_cons (pe_callTy (call_list_dK rfl) (by rfl) B.list (by decide +kernel) (pa_cons (pe_h hS hr (pa_cons (pe_ix ix_str (pv 0) (pv 1) (fun _ _ => rfl)) (pa_cons (pe_h hT hr (pa_cons (pv 2) (pa_cons (pv 1) (pa_cons (pe_callB call_len_str (by rfl) B.len PySem.boot_len (pa_cons (pv 0) pa_nil)) pa_nil)))) pa_nil))) pa_nil)) pa_nil))), ?_⟩
    have z8 := hz.len
    have hbl : isLet b := (wd_codes.mp hz).2 b (List.mem_of_getElem? hb)
    refine ⟨_, rfl, _, rfl, z, _, b, rfl, rfl, lzl (by omega), atI_nat hb, _, rfl, _, rfl, _, rfl, _, rfl, lzl (by omega), S, chs, i, z.length, rfl, hS', ok, fun D H4 s4 t4 => ?_⟩
    rw [← codes_len z] at t4
    refine ⟨b, D, es chs i (codes z).length, rfl, hbl, t4, es_ok ok.2 _ _, Nat.le_trans (es_len _ _ _) ok.1, fun W tw H5 s5 hW bf => ?_⟩
    refine ⟨W, _, rfl, hW, fun L hL => ?_⟩
    have eL : (twK tw).map (fun kv => kV kv.1) = ((tw.map (·.1)).map sign).map V.str := by
      unfold twK
      rw [List.map_map, List.map_map, List.map_map]
      rfl
    dsimp only [tNil]
    refine srt_reads (K := K) (xs := (tw.map (·.1)).map sign) (.inl (.inl (by rw [upd_same, eL]))) fun p hp => ?_
    exact q p (tw.map (·.1)) _ (s4.trans (s5.trans ((same_new hL).trans (same_new hp)))) upd_same fun d => bf.done (Nat.le_refl _)
def spMean : Sp := fun vs H Q _ => ∃ (z : Str) (v : V) (chs : List Chg), vs = [.str z, v] ∧ IsWd z ∧ ChV H v chs ∧ OkCs chs ∧ ∀ (H' : Hp), Same H H' → Q (.str (mean chs z)) H'
abbrev nMean : List Str := ["word", "changes", "known", "place"]
theorem scMean : FnScope nMean ps2 (defScope wMean) := ⟨rfl, rfl, rfl, by decide +kernel, rfl, by decide +kernel, by decide +kernel⟩
theorem room64 {k : Nat} {A : Around} (r : Room k A) : A.units + 64 < cLine := by have := r.un; omega
theorem ok_mean (F : FunN K "meaning" wMean f fd) (B : Bi mg) (hCk : Has P w K mg base "check_word" 2 ["word"] spCheckW) (hCh : Has P w K mg base "checked_changes" 4 ["changes"] spChecked)
    (hL : Has P w K mg base "letters_at" 3 ["word", "place", "changes"] spLetAt) : FnOk P w K mg base CX0 5 f fd ps2 spMean := by
  refine okN F scMean (fun vs H Q E h => ?_) (fun cdv A outer s H vs Q E hr h => ?_)
  · obtain ⟨z, v, chs, rfl, _⟩ := h
    rfl
  · obtain ⟨z, v, chs, rfl, hz, hv, ok, q⟩ := h
    refine ⟨_, pss_cons (ps_expr (pe_h hCk hr (pa_cons (pv 0) pa_nil)))
      (pss_cons (ps_set (i := 2) scMean.nd rfl (.inr rfl) (pe_h hCh hr (pa_cons (pv 1) pa_nil)))
      (pss_one (ps_ret (pe_join pe_str (pe_lc (own := [("place", 3)]) (g := gName 3) (tt := tYes) (te := tOp (rIxL K) (tCall spLetAt [] E0 (tCons (tVar 0) (tCons (tVar 3) (tCons (tVar 2) tNil)))) (tC (.int 0))) rfl scMean.nd (pi_range1 rfl B.range (pa_cons (pe_callB call_len_str (by rfl) B.len PySem.boot_len (pa_cons (pv 0) pa_nil)) pa_nil)) (blkOk_by (N := nMean) (sc := defScope wMean) (by decide +kernel))
        (fun _ _ _ _ _ => pg_name (i := 3) scMean.nd rfl (.inl rfl)) (fun _ _ _ _ _ => pts_nil) (fun _ _ _ _ _ => pe_ix ix_list (pe_h hL hr (pa_cons (pv 0) (pa_cons (pv 3) (pa_cons (pv 2) pa_nil)))) pe_int (fun _ _ => rfl))))))), ?_⟩
    have z8 := hz.len
    refine ⟨_, rfl, z, rfl, hz, fun Ha sa => ⟨_, rfl, v, chs, rfl, hv.same sa, ok, fun S H1 s1 hS => ?_⟩⟩
    have s01 : Same H H1 := sa.trans s1
    refine ⟨⟨_, rfl⟩, _, rfl, _, rfl, lzl (by omega), (z.length : Int), rfl, by omega, by omega, fun D hD => lc_range (lo := 0) (n := z.length) (fun i H' => Same H1 H' ∧ H' D = some (.lst ((((codes (mean chs z)).take i).map sign).map V.str))) ⟨same_new hD, upd_same⟩ ?_ ?_⟩
    · rintro i H2 hi ⟨s2, hD2⟩
      obtain ⟨b, hb⟩ : ∃ b, (codes z)[i]? = some b := ⟨_, List.getElem?_eq_getElem (by rw [codes_len]; exact hi)⟩
      have ei : (0 : Int) + (i : Int) = (i : Int) := by omega
      rw [ei]
      refine ⟨rfl, yes_it ⟨_, rfl, _, rfl, _, rfl, z, i, b, S, chs, rfl, hz, hb, hS.same s2, ok, fun L cs H3 s3 hL3 hcs => ?_⟩⟩
      have hlo : ∀ d ∈ cs, lo (es chs i (codes z).length) b ≤ d := fun d hd => lo_le ((hcs d).mp hd)
      have hhd := head_sortS ((hcs _).mpr (lo_conn (es chs i (codes z).length) b)) hlo
      refine ⟨L, _, 0, .str (sign (lo (es chs i (codes z).length) b)), rfl, rfl, .inl (.inl hL3), atI_nat (j := 0) (by rw [List.getElem?_map, hhd]; rfl), _, s3 _ _ hD2, ?_, same_mut (s2.trans s3) hD, ?_⟩
      · rw [List.length_map, List.length_map]
        have h1 : ((codes (mean chs z)).take i).length ≤ (codes (mean chs z)).length := List.length_take_le' _ _
        rw [mean_len, codes_len] at h1
        exact small1000 (by omega)
      · rw [upd_same, List.take_add_one, mean_at chs z hb, List.map_append, List.map_append]
        rfl
    · rintro H2 ⟨s2, hx⟩
      have e1 : (codes (mean chs z)).take z.length = codes (mean chs z) := by rw [← codes_len z, ← mean_len chs z, List.take_length]
      rw [e1] at hx
      refine ⟨_, D, (codes (mean chs z)).map sign, rfl, rfl, .inl (.inl (.inl hx)), ?_, ?_⟩
      · have e0 : ("" : Str).length = 0 := by decide +kernel
        have e1 : ((codes (mean chs z)).map sign).map (·.length) = (codes (mean chs z)).map fun _ => 1 := by
          rw [List.map_map]
          rfl
        rw [e0, e1, Nat.mul_zero, ones_sum, mean_len, codes_len]
        omega
      · have e2 : Txt.join ("" : Str) ((codes (mean chs z)).map sign) = mean chs z := str_ext (join_signs _)
        rw [e2]
        exact q H2 (s01.trans s2)
end
end Wl




namespace Wl
open PySem PySem.Spec PyProof.Rows L2

/-! ### the text by places -/
abbrev sCell : Stmt := topS 60
abbrev sPurse : Stmt := topS 61
abbrev sPick : Stmt := topS 62
abbrev sMenu : Stmt := topS 63
abbrev sWord : Stmt := topS 64

section
variable {P : Program} {w : World} {K : PySem.W.Frag} {mg : Str → Option Value} {base : Heap} {f : Addr} {fd : FuncData}

/-! ### a cell of the script: some int -/
def spCell (K : PySem.W.Frag) : Sp := fun vs H Q _ => ∃ (a : Addr) (ns : List Int) (k : Int), vs = [.ref a, .int k] ∧ SqL K H a (ns.map V.int) ∧ 0 ≤ k ∧ k ≤ 63 ∧
  ∀ (v : Int) (H' : Hp), Same H H' → Q (.int v) H'
theorem scCell : FnScope ["_law_script", "_law_k", "_law_state", "_law_cell_here"] ["_law_script", "_law_k"] (defScope sCell) :=
  ⟨rfl, rfl, rfl, by decide +kernel, rfl, by decide +kernel, by decide +kernel⟩
theorem mem_cut {xs : List V} {lo hi : Option Int} {v : V} (h : v ∈ cutV xs lo hi) : v ∈ xs := List.mem_of_mem_drop (List.mem_of_mem_take h)
theorem ok_cell (F : Fun K "_law_cell" "_law_cell" sCell f fd) (B : Bi mg) : FnOk P w K mg base CX0 1 f fd ["_law_script", "_law_k"] (spCell K) := by
  refine F.ok scCell (fun vs H Q E h => ?_) (fun cdv A outer s H vs Q E hr h => ?_)
  · obtain ⟨a, ns, k, rfl, _⟩ := h
    rfl
  · obtain ⟨a, ns, k, rfl, hS, k0, k1, q⟩ := h
    refine ⟨_, pss_cons (ps_if (pt_cmpR op_lt (pv 1) (pe_callB call_len_seq (by rfl) B.len PySem.boot_len (pa_cons (pv 0) pa_nil)) (nomark _)) (pss_one (ps_ret (pe_ix ix_list (pv 0) (pv 1) (fun _ _ => rfl)))) pss_nil)
      (pss_cons (ps_set (i := 2) scCell.nd rfl (.inl rfl) (pe_op op_mod (pe_op op_mul pe_int (pe_op op_add (pe_op op_add (pe_op op_mul (pv 1) (pv 1)) (pe_op op_mul pe_int (pv 1))) pe_int)) pe_int))
      (pss_cons (ps_for PassesOwn.never rfl (pi_list (pe_slice sl_list (pv 0) po_none (po_some pe_int))) (pg_name (i := 3) scCell.nd rfl (.inl rfl))
        (pss_one (ps_set (i := 2) scCell.nd rfl (.inl rfl) (pe_op op_mod (pe_op op_add (pe_op op_mul (pv 2) pe_int) (pv 3)) pe_int))))
      (pss_one (ps_ret (pv 2))))), ?_⟩
    refine ⟨_, rfl, .ref a, rfl, a, _, rfl, .inl hS, _, _, rfl, rfl, _, rfl, ite_b (fun e => ?_) (fun e => ?_)⟩
    · have hk : k < ((ns.map V.int).length : Int) := of_decide_eq_true e
      rw [List.length_map] at hk
      have hk2 : k.toNat < ns.length := by omega
      refine ⟨_, rfl, _, rfl, a, _, k, .int ns[k.toNat], rfl, rfl, hS, at_of (j := k.toNat) (by omega) ?_, q _ H (Same.refl H)⟩
      rw [List.getElem?_map, List.getElem?_eq_getElem hk2]
      rfl
    · refine ⟨_, rfl, _, rfl, k, k, rfl, rfl, .inl ⟨by omega, by omega⟩, _, rfl, 5, k, rfl, rfl, .inl ⟨by decide, by decide⟩, _, _, rfl, rfl, _, _, rfl, rfl, _, _, rfl, rfl, .inl ⟨by decide, by decide⟩, _, _, rfl, rfl, (show (0 : Int) < 1000000033 by decide), ?_⟩
      refine ⟨_, rfl, 4, rfl, a, _, rfl, hS, fun p hp => ?_⟩
      have hc : SqL K (upd H p (.lst (cutV (ns.map V.int) none (some 4)))) p (cutV (ns.map V.int) none (some 4)) := .inl (.inl upd_same)
      refine ⟨p, rfl, ⟨_, hc⟩, for_list (K := K) (a := p) (xs := cutV (ns.map V.int) none (some 4)) (fun i σ H' => (∃ (z : Int) (y : Option V), σ = [some (.ref a), some (.int k), some (.int z), y]) ∧ H' = upd H p (.lst (cutV (ns.map V.int) none (some 4))))
        ⟨⟨_, _, rfl⟩, rfl⟩ (fun i σ H' _ h => by rw [h.2]; exact hc) ?_ ?_⟩
      · rintro i x σ H' hx ⟨⟨z, y, rfl⟩, rfl⟩
        obtain ⟨n, rfl⟩ : ∃ n, x = V.int n := by
          obtain ⟨n, _, e⟩ := List.mem_map.mp (mem_cut (List.mem_of_getElem? hx))
          exact ⟨n, e.symm⟩
        refine ⟨_, rfl, z, 30029, rfl, rfl, .inr ⟨by decide, by decide⟩, _, rfl, _, _, rfl, rfl, _, _, rfl, rfl, (show (0 : Int) < 1000000033 by decide), ⟨⟨_, _, rfl⟩, rfl⟩⟩
      · rintro σ H' ⟨⟨z, y, rfl⟩, rfl⟩
        exact ⟨_, rfl, q _ _ (same_new hp)⟩

/-! ### the purse -/
def PurseAt (H : Hp) (a : Addr) : Prop := ∃ s b c : Int, H a = some (.lst [.int s, .int b, .int c]) ∧ 0 ≤ b
theorem PurseAt.same {H H' : Hp} {a : Addr} (h : PurseAt H a) (s : Same H H') : PurseAt H' a := by
  obtain ⟨s0, b, c, ha, hb⟩ := h
  exact ⟨s0, b, c, s _ _ ha, hb⟩
theorem PurseAt.ne {H : Hp} {a p : Addr} (h : PurseAt H a) (hp : H p = none) : p ≠ a := by
  obtain ⟨s0, b, c, ha, hb⟩ := h
  exact (ne_of_none ha hp).symm
theorem PurseAt.lst {H : Hp} {a : Addr} (h : PurseAt H a) : ∃ ys, H a = some (.lst ys) := by
  obtain ⟨s0, b, c, ha, hb⟩ := h
  exact ⟨_, ha⟩
def spPurse : Sp := fun vs H Q _ => ∃ (n : Int), vs = [.int n] ∧ ∀ (a : Addr) (H' : Hp), H a = none → Same H H' → PurseAt H' a → Q (.ref a) H'
theorem scPurse : FnScope ["_law_cell_here"] ["_law_cell_here"] (defScope sPurse) :=
  ⟨rfl, rfl, rfl, by decide +kernel, rfl, by decide +kernel, by decide +kernel⟩
theorem ok_purse (F : Fun K "_law_purse" "_law_purse" sPurse f fd) (B : Bi mg) : FnOk P w K mg base CX0 1 f fd ["_law_cell_here"] spPurse := by
  refine F.ok scPurse (fun vs H Q E h => ?_) (fun cdv A outer s H vs Q E hr h => ?_)
  · obtain ⟨n, rfl, _⟩ := h
    rfl
  · obtain ⟨n, rfl, q⟩ := h
    refine ⟨_, pss_one (ps_ret (pe_lst (pa_cons (pe_op op_add (pe_op op_mul (pe_op op_mod (pv 0) pe_int) pe_int) pe_int)
      (pa_cons (pe_ix ix_list (pe_lst (pa_cons pe_int (pa_cons (pv 0) pa_nil))) (pe_callTy call_int1 (by rfl) B.int (by decide +kernel) (pa_cons (pe_cmpR op_ge (pv 0) (pe_op op_pow pe_int pe_int) (nomark _)) pa_nil)) (fun _ _ => rfl))
      (pa_cons pe_int pa_nil))))), ?_⟩
    refine ⟨_, rfl, _, _, rfl, rfl, (show (0 : Int) < 1000000033 by decide), _, _, rfl, rfl, .inr ⟨by decide, by decide⟩, _, _, rfl, rfl, _, rfl, lz, fun p hp => ?_⟩
    have e18 : (10 : Int) ^ (18 : Int).toNat = 1000000000000000000 := by decide
    refine ⟨_, rfl, 10, 18, rfl, rfl, ⟨by decide, by decide, by decide⟩, _, _, rfl, rfl, .inr ⟨_, rfl, ?_⟩⟩
    refine ⟨p, [.int 0, .int n], _, .int (if decide ((10 : Int) ^ (18 : Int).toNat ≤ n) = true then n else 0), rfl, rfl, .inl (.inl upd_same), ?_, lz, fun a ha => ?_⟩
    · by_cases c : (10 : Int) ^ (18 : Int).toNat ≤ n
      · simp only [decide_eq_true c, if_true]
        exact atI_nat (j := 1) rfl
      · simp only [decide_eq_false c]
        exact atI_nat (j := 0) rfl
    · have hp2 : Same H (upd H p (.lst [.int 0, .int n])) := same_new hp
      refine q a _ (hp2.free ha) (hp2.trans (same_new ha)) ⟨_, _, _, upd_same, ?_⟩
      by_cases c : (10 : Int) ^ (18 : Int).toNat ≤ n
      · simp only [decide_eq_true c, if_true]
        rw [e18] at c
        omega
      · simp only [decide_eq_false c]
        exact Int.le_refl 0
/-! ### a pick: some number below many -/
def spPick : Sp := fun vs H Q _ => ∃ (a : Addr) (m : Int), vs = [.ref a, .int m] ∧ PurseAt H a ∧ 0 < m ∧ m < 1073741824 ∧
  ∀ (r : Int) (H' : Hp), 0 ≤ r → r < m → PurseAt H' a → SameX a H H' → (∀ p, H p = none → H' p = none) → Q (.int r) H'
theorem scPick : FnScope ["_law_purse_here", "_law_many", "_law_state", "_law_taken"] ["_law_purse_here", "_law_many"] (defScope sPick) :=
  ⟨rfl, rfl, rfl, by decide +kernel, rfl, by decide +kernel, by decide +kernel⟩
theorem none_upd {H : Hp} {a : Addr} {o u : HO} (h : H a = some o) : ∀ p, H p = none → upd H a u p = none := fun p hp => by
  rw [upd_ne (ne_of_none h hp).symm]
  exact hp
theorem ok_pick (F : Fun K "_law_pick" "_law_pick" sPick f fd) : FnOk P w K mg base CX0 1 f fd ["_law_purse_here", "_law_many"] spPick := by
  refine F.ok scPick (fun vs H Q E h => ?_) (fun cdv A outer s H vs Q E hr h => ?_)
  · obtain ⟨a, m, rfl, _⟩ := h
    rfl
  · obtain ⟨a, m, rfl, ⟨s0, b, c, ha, hb⟩, m0, m1, q⟩ := h
    refine ⟨_, pss_cons (ps_asg (pe_op op_add (pe_ix ix_list (pv 0) pe_int (fun _ _ => rfl)) pe_int) (pg_sub (pv 0) pe_int set_list))
      (pss_cons (ps_set (i := 2) scPick.nd rfl (.inl rfl) (pe_op op_mod (pe_ix ix_list (pv 0) pe_int (fun _ _ => rfl)) pe_int))
      (pss_cons (ps_asg (pe_op op_add (pe_op op_mul (pv 2) (pe_op op_add (pe_op op_mod (pv 2) pe_int) pe_int)) (pe_op op_mul pe_int (pe_ix ix_list (pv 0) pe_int (fun _ _ => rfl)))) (pg_sub (pv 0) pe_int set_list))
      (pss_cons (ps_if (pt_cmpR op_gt (pe_ix ix_list (pv 0) pe_int (fun _ _ => rfl)) pe_int (nomark _))
        (pss_cons (ps_set (i := 3) scPick.nd rfl (.inl rfl) (pe_op op_mod (pe_ix ix_list (pv 0) pe_int (fun _ _ => rfl)) (pv 1)))
        (pss_cons (ps_asg (pe_op op_fdiv (pe_ix ix_list (pv 0) pe_int (fun _ _ => rfl)) (pv 1)) (pg_sub (pv 0) pe_int set_list))
        (pss_one (ps_ret (pv 3))))) pss_nil)
      (pss_one (ps_ret (pe_op op_mod (pe_op op_fdiv (pe_op op_mod (pe_ix ix_list (pv 0) pe_int (fun _ _ => rfl)) pe_int) pe_int) (pv 1))))))), ?_⟩
    have hmod : ∀ x : Int, 0 ≤ x % 1000000033 ∧ x % 1000000033 < 1000000033 := fun x => by omega
    refine ⟨_, rfl, a, _, 2, .int c, rfl, rfl, .inl (.inl ha), atI_nat (j := 2) rfl, _, _, rfl, rfl, _, rfl, a, _, 2, 2, rfl, rfl, ha, rfl, ?_⟩
    refine ⟨_, rfl, a, _, 0, .int s0, rfl, rfl, .inl (.inl upd_same), atI_nat (j := 0) rfl, _, _, rfl, rfl, (show (0 : Int) < 1000000033 by decide), ?_⟩
    refine ⟨_, rfl, _, rfl, _, _, rfl, rfl, (show (0 : Int) < 60013 by decide), _, _, rfl, rfl, _, _, rfl, rfl, .inl ⟨by have := hmod s0; omega, by have := hmod s0; omega⟩,
      _, rfl, a, _, 2, _, rfl, rfl, .inl (.inl upd_same), atI_nat (j := 2) rfl, _, _, rfl, rfl, .inl ⟨by decide, by decide⟩, _, _, rfl, rfl, _, rfl, a, _, 0, 0, rfl, rfl, upd_same, rfl, ?_⟩
    refine ⟨_, rfl, a, _, 1, .int b, rfl, rfl, .inl (.inl upd_same), atI_nat (j := 1) rfl, _, _, rfl, rfl, _, rfl, ite_b (fun e => ?_) (fun e => ?_)⟩
    · refine ⟨_, rfl, a, _, 1, .int b, rfl, rfl, .inl (.inl upd_same), atI_nat (j := 1) rfl, _, rfl, b, m, rfl, rfl, m0, ?_⟩
      refine ⟨_, rfl, a, _, 1, .int b, rfl, rfl, .inl (.inl upd_same), atI_nat (j := 1) rfl, _, rfl, b, m, rfl, rfl, ⟨m0, m1⟩, _, rfl, a, _, 1, 1, rfl, rfl, upd_same, rfl, ?_⟩
      refine ⟨_, rfl, q _ _ (Int.emod_nonneg _ (by omega)) (Int.emod_lt_of_pos _ m0) ⟨_, _, _, upd_same, ?_⟩ (((sameX_upd).trans sameX_upd).trans sameX_upd) fun p hp => ?_⟩
      · exact Int.ediv_nonneg hb (by omega)
      · exact none_upd upd_same p (none_upd upd_same p (none_upd ha p hp))
    · refine ⟨_, rfl, a, _, 0, _, rfl, rfl, .inl (.inl upd_same), atI_nat (j := 0) rfl, _, _, rfl, rfl, (show (0 : Int) < 1000000033 by decide), _, _, rfl, rfl, ⟨by decide, by decide⟩, _, rfl, _, m, rfl, rfl, m0, ?_⟩
      exact q _ _ (Int.emod_nonneg _ (by omega)) (Int.emod_lt_of_pos _ m0) ⟨_, _, _, upd_same, hb⟩ ((sameX_upd).trans sameX_upd) fun p hp => none_upd upd_same p (none_upd ha p hp)

/-! ### the menu, a word -/
def menuW : List Str := ["put", "doubt", "strike", "back", "change", "one", "map", "words", "parted", "line", "rings", "thin", "fate", "asks", "habit", "apart", "near", "paper", "ok", "no", "none", "self", "may", "not", "has", "any"]
theorem menu_wd : ∀ z ∈ menuW, IsWd z := by decide +kernel
theorem menu_len : menuW.length = 26 := by decide +kernel
def spMenu : Sp := fun vs H Q _ => vs = [] ∧ ∀ (p : Addr) (H' : Hp), H p = none → Same H H' → H' p = some (.lst (menuW.map V.str)) → Q (.ref p) H'
theorem scMenu : FnScope ["_law_some"] [] (defScope sMenu) := ⟨rfl, rfl, rfl, by decide +kernel, rfl, by decide +kernel, by decide +kernel⟩
theorem ok_menu (F : Fun K "_law_menu" "_law_menu" sMenu f fd) : FnOk P w K mg base CX0 1 f fd [] spMenu := by
  refine F.ok scMenu (fun vs H Q E h => ?_) (fun cdv A outer s H vs Q E hr h => ?_)
  · obtain ⟨rfl, _⟩ := h
    rfl
  · obtain ⟨rfl, q⟩ := h
    refine ⟨_, pss_cons (ps_set (i := 0) scMenu.nd rfl (.inl rfl) (pe_lst (pa_cons pe_str (pa_cons pe_str (pa_cons pe_str (pa_cons pe_str (pa_cons pe_str (pa_cons pe_str (pa_cons pe_str (pa_cons pe_str (pa_cons pe_str (pa_cons pe_str (pa_cons pe_str (pa_cons pe_str pa_nil))))))))))))))
      (pss_cons (ps_set (i := 0) scMenu.nd rfl (.inl rfl) (pe_op op_cat (pv 0) (pe_lst (pa_cons pe_str (pa_cons pe_str (pa_cons pe_str (pa_cons pe_str (pa_cons pe_str (pa_cons pe_str (pa_cons pe_str (pa_cons pe_str (pa_cons pe_str (pa_cons pe_str (pa_cons pe_str (pa_cons pe_str pa_nil)))))))))))))))
      (pss_one (ps_ret (pe_op op_cat (pv 0) (pe_lst (pa_cons pe_str (pa_cons pe_str pa_nil))))))), ?_⟩
    refine ⟨lz, fun p1 h1 => ?_⟩
    refine ⟨_, rfl, lz, fun p2 h2 => ⟨p1, p2, _, _, rfl, rfl, (same_new h2) _ _ upd_same, upd_same, lz, fun p3 h3 => ?_⟩⟩
    refine ⟨_, rfl, lz, fun p4 h4 => ⟨p3, p4, _, _, rfl, rfl, (same_new h4) _ _ upd_same, upd_same, lz, fun p5 h5 => ?_⟩⟩
    exact q p5 _ (Same.free (((same_new h1).trans (same_new h2)).trans ((same_new h3).trans (same_new h4))) h5) ((((same_new h1).trans (same_new h2)).trans ((same_new h3).trans (same_new h4))).trans (same_new h5)) upd_same

def spWord : Sp := fun vs H Q _ => ∃ (a : Addr), vs = [.ref a] ∧ PurseAt H a ∧ ∀ (z : Str) (H' : Hp), IsWd z → PurseAt H' a → SameX a H H' → Q (.str z) H'
abbrev nWord : List Str := ["_law_purse_here", "_law_way", "_law_wide", "_law_size", "_law_k"]
theorem scWord : FnScope nWord ["_law_purse_here"] (defScope sWord) :=
  ⟨rfl, rfl, rfl, by decide +kernel, rfl, by decide +kernel, by decide +kernel⟩
theorem ok_word (F : Fun K "_law_word" "_law_word" sWord f fd) (B : Bi mg) (hp : Has P w K mg base "_law_pick" 1 ["_law_purse_here", "_law_many"] spPick) (hm : Has P w K mg base "_law_menu" 1 [] spMenu) :
    FnOk P w K mg base CX0 2 f fd ["_law_purse_here"] spWord := by
  refine F.ok scWord (fun vs H Q E h => ?_) (fun cdv A outer s H vs Q E hr h => ?_)
  · obtain ⟨a, rfl, _⟩ := h
    rfl
  · obtain ⟨a, rfl, hA, q⟩ := h
    refine ⟨_, pss_cons (ps_asg (pe_tup (pa_cons (pe_h hp hr (pa_cons (pv 0) (pa_cons pe_int pa_nil))) (pa_cons (pe_ix ix_list (pe_lst (pa_cons pe_int (pa_cons pe_int (pa_cons pe_int pa_nil)))) (pe_h hp hr (pa_cons (pv 0) (pa_cons pe_int pa_nil))) (fun _ _ => rfl)) pa_nil)))
        (pg_tup rfl (pgs_cons (pg_name (i := 1) scWord.nd rfl (.inl rfl)) (pgs_cons (pg_name (i := 2) scWord.nd rfl (.inr rfl)) pgs_nil))))
      (pss_cons (ps_if (pt_cmpR op_eq (pv 1) pe_int (nomark _)) (pss_one (ps_ret (pe_ix ix_list (pe_h0 hm hr) (pe_h hp hr (pa_cons (pv 0) (pa_cons pe_int pa_nil))) (fun _ _ => rfl)))) pss_nil)
      (pss_cons (ps_set (i := 3) scWord.nd rfl (.inl rfl) (pe_ix ix_list (pe_lst (pa_cons pe_int (pa_cons pe_int (pa_cons pe_int (pa_cons pe_int (pa_cons (pe_op op_add pe_int (pe_h hp hr (pa_cons (pv 0) (pa_cons pe_int pa_nil)))) pa_nil)))))) (pe_h hp hr (pa_cons (pv 0) (pa_cons pe_int pa_nil))) (fun _ _ => rfl)))
      (pss_one (ps_ret (pe_join pe_str (pe_lc (own := [("_law_k", 4)]) (g := gName 4) (tt := tYes) rfl scWord.nd (pi_range1 (by rfl) B.range (pa_cons (pv 3) pa_nil)) (blkOk_by (N := nWord) (sc := defScope sWord) (by decide +kernel))
        (fun _ _ _ _ _ => pg_name (i := 4) scWord.nd rfl (.inl rfl)) (fun _ _ _ _ _ => pts_nil) (fun _ _ _ _ _ => pe_ix ix_str pe_str (pe_h hp hr (pa_cons (pv 0) (pa_cons (pv 2) pa_nil))) (fun _ _ => rfl)))))))), ?_⟩
    -- way, wide
    refine ⟨_, rfl, a, 4, rfl, hA, by decide, by decide, fun r1 H1 r10 r11 hA1 s1 n1 => ?_⟩
    refine ⟨lz, fun p hp => ⟨_, rfl, a, 3, rfl, hA1.same (same_new hp), by decide, by decide, fun r2 H2 r20 r21 hA2 s2 n2 => ?_⟩⟩
    have npa := hA1.ne hp
    obtain ⟨wd, hwm, hwd⟩ := atI_tab (ns := [3, 5, 26]) r20 r21
    have hw : 0 < wd ∧ wd ≤ 26 := by
      simp only [List.mem_cons, List.not_mem_nil, or_false] at hwm
      omega
    have s2' : SameX a H H2 := (s1.trans (sx (same_new hp))).trans s2
    refine ⟨p, _, r2, .int wd, rfl, rfl, .inl (.inl (s2 _ _ npa upd_same)), hwd, lz, fun t ht => ?_⟩
    refine ⟨t, _, rfl, .inl (.inl upd_same), rfl, _, _, rfl, _, _, rfl, rfl, ?_⟩
    have hA3 := hA2.same (same_new (o := .tup [.int r1, .int wd]) ht)
    have s3 : SameX a H _ := s2'.trans (sx (same_new (o := .tup [.int r1, .int wd]) ht))
    generalize upd H2 t (.tup [.int r1, .int wd]) = H3 at hA3 s3
    refine ⟨_, rfl, rfl, _, rfl, ite_b (fun e => ?_) (fun e => ?_)⟩
    · -- menu()[..]
      refine ⟨rfl, fun p4 H4 hp4 s4 h4 => ⟨_, rfl, a, 26, rfl, hA3.same s4, by decide, by decide, fun r5 H5 r50 r51 hA5 s5 n5 => ?_⟩⟩
      obtain ⟨z, hz, hzi⟩ := atI_strs (zs := menuW) r50 (by rw [menu_len]; exact r51)
      exact ⟨p4, _, r5, .str z, rfl, rfl, .inl (.inl (s5 _ _ (hA3.ne hp4) h4)), hzi, q z H5 (menu_wd z hz) hA5 ((s3.trans (sx s4)).trans s5)⟩
    · -- size
      refine ⟨_, rfl, a, 8, rfl, hA3, by decide, by decide, fun r4 H4 r40 r41 hA4 s4 n4 => ⟨_, _, rfl, rfl, lz, fun p5 hp5 => ⟨_, rfl, a, 5, rfl, hA4.same (same_new hp5), by decide, by decide, fun r6 H6 r60 r61 hA6 s6 n6 => ?_⟩⟩⟩
      have np5 := hA4.ne hp5
      obtain ⟨sz, hsm, hsz⟩ := atI_tab (ns := [1, 2, 3, 4, 1 + r4]) r60 r61
      have hs8 : 1 ≤ sz ∧ sz ≤ 8 := by
        simp only [List.mem_cons, List.not_mem_nil, or_false] at hsm
        omega
      refine ⟨p5, _, r6, .int sz, rfl, rfl, .inl (.inl (s6 _ _ np5 upd_same)), hsz, ?_⟩
      have s6' : SameX a H H6 := ((s3.trans s4).trans (sx (same_new hp5))).trans s6
      -- join of the signs
      refine ⟨⟨_, rfl⟩, _, rfl, sz, rfl, by omega, by omega, fun D hD => lc_range (lo := 0) (n := sz.toNat)
        (fun i H' => ∃ cs : List Nat, cs.length = i ∧ (∀ c ∈ cs, 97 ≤ c ∧ c ≤ 122) ∧ H' D = some (.lst ((cs.map sign).map V.str)) ∧ PurseAt H' a ∧ SameX a H6 H')
        ⟨[], rfl, fun c hc => by simp at hc, upd_same, hA6.same (same_new hD), sx (same_new hD)⟩ ?_ ?_⟩
      · rintro i H7 hi ⟨cs, hcl, hcs, hDl, hA7, s7⟩
        refine ⟨rfl, yes_it ⟨_, rfl, _, rfl, a, wd, rfl, hA7, hw.1, by omega, fun r8 H8 r80 r81 hA8 s8 n8 => ?_⟩⟩
        have nD := hA6.ne hD
        refine ⟨_, r8, _, rfl, rfl, lz, letter_at r80 (by omega), _, s8 _ _ nD hDl, ?_, ?_⟩
        · rw [List.length_map, List.length_map]
          exact small1000 (by omega)
        · refine ⟨cs ++ [97 + r8.toNat], by simp [hcl], fun c hc => ?_, ?_, ?_, sameX_mut (s7.trans s8) hD⟩
          · rcases List.mem_append.mp hc with hc | hc
            · exact hcs c hc
            · rw [List.mem_singleton.mp hc]
              omega
          · rw [upd_same, List.map_append, List.map_append]
            rfl
          · obtain ⟨x0, x1, x2, hx, hx1⟩ := hA8
            exact ⟨x0, x1, x2, by rw [upd_ne nD.symm]; exact hx, hx1⟩
      · rintro H7 ⟨cs, hcl, hcs, hDl, hA7, s7⟩
        refine ⟨_, D, cs.map sign, rfl, rfl, .inl (.inl (.inl hDl)), ?_, ?_⟩
        · have e0 : ("" : Str).length = 0 := by decide +kernel
          have e1 : (cs.map sign).map (·.length) = cs.map fun _ => 1 := by
            rw [List.map_map]
            rfl
          rw [e0, e1, Nat.mul_zero]
          have e2 : ∀ l : List Nat, (l.map fun _ => 1).sum = l.length := fun l => by
            induction l with
            | nil => rfl
            | cons x r ih => rw [List.map_cons, List.sum_cons, ih, List.length_cons]; omega
          rw [e2]
          omega
        · refine q _ H7 (isWd_of ?_ ?_ ?_) hA7 (s6'.trans s7)
          · rw [join_signs]; omega
          · rw [join_signs]; omega
          · rw [join_signs]; exact hcs
end
end Wl




namespace Wl
open PySem
def Closed (E : Edges) (l : List Nat) : Prop := ∀ e ∈ E, (e.1 ∈ l ↔ e.2 ∈ l)
theorem closed_conn {E : Edges} {l : List Nat} (h : Closed E l) {c d : Nat} (hc : c ∈ l) (k : Conn E c d) : d ∈ l := by
  induction k with
  | refl => exact hc
  | step _ m ih =>
    rcases mem_nbrs.mp m with m | m
    · exact (h _ m).mp ih
    · exact (h _ m).mpr ih
theorem filt_more {p q : Nat × Nat → Bool} : ∀ {E : Edges}, (∀ e, p e = true → q e = true) → (∃ e ∈ E, p e = false ∧ q e = true) → (E.filter p).length + 1 ≤ (E.filter q).length
  | [], _, ⟨_, h, _⟩ => nomatch h
  | e :: E, h, ⟨x, hx, h1, h2⟩ => by
    have sub : ∀ E : Edges, (E.filter p).length ≤ (E.filter q).length := fun E => by
      induction E with
      | nil => exact Nat.le_refl _
      | cons y r ih =>
        rw [List.filter_cons, List.filter_cons]
        by_cases c : p y = true
        · rw [if_pos c, if_pos (h y c), List.length_cons, List.length_cons]
          omega
        · rw [if_neg c]
          split
          · rw [List.length_cons]
            omega
          · exact ih
    have s1 := sub E
    rw [List.filter_cons, List.filter_cons]
    rcases List.mem_cons.mp hx with rfl | hx
    · rw [if_neg (by rw [h1]; decide), if_pos h2, List.length_cons]
      omega
    · have ih := filt_more (E := E) h ⟨x, hx, h1, h2⟩
      by_cases c : p e = true
      · rw [if_pos c, if_pos (h e c), List.length_cons, List.length_cons]
        omega
      · rw [if_neg c]
        split
        · rw [List.length_cons]
          omega
        · exact ih
/-- the edges within -/
def inE (E : Edges) (l : List Nat) : Nat := (E.filter fun e => decide (e.1 ∈ l) && decide (e.2 ∈ l)).length
structure KinB (E : Edges) (c : Nat) (l : List Nat) : Prop where
  nd : l.Nodup
  lets : ∀ x ∈ l, isLet x
  conn : ∀ x ∈ l, Conn E c x
  mem : c ∈ l
  few : l.length ≤ inE E l + 1
theorem KinB.start {E : Edges} {c : Nat} (h : isLet c) : KinB E c [c] := ⟨by simp, fun x hx => by simp at hx; subst hx; exact h, fun x hx => by simp at hx; subst hx; exact .refl _, by simp, by simp⟩
theorem KinB.push {E : Edges} {c x y : Nat} {l : List Nat} (b : KinB E c l) (hx : x ∈ l) (hy : y ∉ l) (hn : y ∈ nbrs E x) (hl : isLet y) : KinB E c (l ++ [y]) := by
  have hfew : inE E l + 1 ≤ inE E (l ++ [y]) := by
    refine filt_more (fun e he => ?_) ?_
    · simp only [Bool.and_eq_true, decide_eq_true_eq] at he ⊢
      exact ⟨List.mem_append_left _ he.1, List.mem_append_left _ he.2⟩
    · rcases mem_nbrs.mp hn with m | m
      · exact ⟨_, m, by simp [hy], by simp [hx]⟩
      · exact ⟨_, m, by simp [hy], by simp [hx]⟩
  refine ⟨?_, fun u hu => ?_, fun u hu => ?_, List.mem_append_left _ b.mem, by have := b.few; rw [List.length_append, List.length_singleton]; omega⟩
  · rw [List.nodup_append]
    refine ⟨b.nd, by simp, fun u hu v hv e => ?_⟩
    simp at hv
    subst hv e
    exact hy hu
  · rcases List.mem_append.mp hu with hu | hu
    · exact b.lets u hu
    · simp at hu; subst hu; exact hl
  · rcases List.mem_append.mp hu with hu | hu
    · exact b.conn u hu
    · simp at hu; subst hu; exact .step (b.conn x hx) hn
theorem KinB.len {E : Edges} {c : Nat} {l : List Nat} (b : KinB E c l) : l.length ≤ 26 := by
  have h := b.nd.length_le_of_subset (l₂ := List.range' 97 26) fun x hx => by
    have := b.lets x hx
    rw [List.mem_range'_1]
    unfold isLet at this
    omega
  simpa using h
def KinP (E : Edges) (c : Nat) (l0 : List Nat) (Ej : Edges) (l : List Nat) : Prop := KinB E c l ∧ ((l = l0 ∧ ∀ e ∈ Ej, (e.1 ∈ l ↔ e.2 ∈ l)) ∨ (¬ Closed E l0 ∧ l0.length + 1 ≤ l.length))
theorem KinP.add {E : Edges} {c a b : Nat} {l0 l : List Nat} {Ej Ek : Edges} (p : KinP E c l0 Ej l) (he : (a, b) ∈ E ∨ (b, a) ∈ E) (ha : a ∈ l) (hb : b ∉ l) (hl : isLet b) : KinP E c l0 Ek (l ++ [b]) := by
  obtain ⟨p1, p2⟩ := p
  refine ⟨p1.push ha hb (mem_nbrs.mpr he) hl, .inr ?_⟩
  rw [List.length_append, List.length_singleton]
  rcases p2 with ⟨e, _⟩ | ⟨h1, h2⟩
  · subst e
    refine ⟨fun cl => ?_, Nat.le_refl _⟩
    rcases he with he | he
    · exact hb ((cl _ he).mp ha)
    · exact hb ((cl _ he).mpr ha)
  · exact ⟨h1, by omega⟩
theorem KinP.skip {E : Edges} {c a b : Nat} {l0 l : List Nat} {Ej : Edges} (p : KinP E c l0 Ej l) (h : a ∈ l ↔ b ∈ l) : KinP E c l0 (Ej ++ [(a, b)]) l := by
  obtain ⟨p1, p2⟩ := p
  refine ⟨p1, ?_⟩
  rcases p2 with ⟨e, q⟩ | q
  · refine .inl ⟨e, fun x hx => ?_⟩
    rcases List.mem_append.mp hx with hx | hx
    · exact q x hx
    · rw [List.mem_singleton] at hx
      subst hx
      exact h
  · exact .inr q
def KinK (E : Edges) (c k : Nat) (l : List Nat) : Prop := KinB E c l ∧ (Closed E l ∨ k + 1 ≤ l.length)
theorem KinK.begin {E : Edges} {c k : Nat} {l : List Nat} (h : KinK E c k l) : KinP E c l [] l := ⟨h.1, .inl ⟨rfl, fun e he => by cases he⟩⟩
theorem KinK.next {E : Edges} {c k : Nat} {l0 l : List Nat} (h : KinK E c k l0) (p : KinP E c l0 E l) : KinK E c (k + 1) l := by
  refine ⟨p.1, ?_⟩
  rcases p.2 with ⟨_, q⟩ | ⟨q1, q2⟩
  · exact .inl q
  · rcases h.2 with h2 | h2
    · exact absurd h2 q1
    · exact .inr (by omega)
theorem KinK.done {E : Edges} {c : Nat} {l : List Nat} (h : KinK E c 26 l) {d : Nat} : d ∈ l ↔ Conn E c d := by
  have hl := h.1.len
  rcases h.2 with h2 | h2
  · exact ⟨h.1.conn d, closed_conn h2 h.1.mem⟩
  · omega
theorem KinK.doneE {E : Edges} {c k : Nat} {l : List Nat} (h : KinK E c k l) {d : Nat} (hk : E.length + 1 ≤ k) : d ∈ l ↔ Conn E c d := by
  have hl := h.1.few
  have h3 : inE E l ≤ E.length := List.length_filter_le _ _
  rcases h.2 with h2 | h2
  · exact ⟨h.1.conn d, closed_conn h2 h.1.mem⟩
  · omega
end Wl

namespace Wl
open PySem PySem.Spec PyProof.Rows L2
def sd (z : Str) : V × PyData := (.str z, .str z)
theorem sort_strs (xs : List Str) : ((xs.map sd).mergeSort (PySem.W.dataLe false (·.2))).map (·.1) = (sortS xs).map V.str := by
  have h : (sortS xs).map sd = (xs.map sd).mergeSort (PySem.W.dataLe false (·.2)) := List.map_mergeSort fun a _ b _ => by
    rw [PySem.W.dataLe_eq]
    exact (le_data_str a b).symm
  rw [← h, List.map_map]
  rfl
theorem alike_strs (xs : List Str) : PySem.W.AllAlike ((xs.map sd).map (·.2)) := by
  intro d hd e he
  obtain ⟨b, hb, rfl⟩ := List.mem_map.mp hd
  obtain ⟨x, _, rfl⟩ := List.mem_map.mp hb
  obtain ⟨c, hc, rfl⟩ := List.mem_map.mp he
  obtain ⟨y, _, rfl⟩ := List.mem_map.mp hc
  rfl
theorem sortable_strs (xs : List Str) : PySem.W.Sortable ((xs.map sd).map (·.2)) := .inr fun d hd => by
  obtain ⟨b, hb, rfl⟩ := List.mem_map.mp hd
  obtain ⟨x, _, rfl⟩ := List.mem_map.mp hb
  exact ⟨(fun e => by cases e), (fun ys e => by cases e)⟩
section
variable {a : Nat} {l : List Nat}
end
section
variable {P : Program} {w : World} {K : PySem.W.Frag} {mg : Str → Option Value} {base : Heap} {f : Addr} {fd : FuncData}
end
end Wl




namespace Wl
open PySem PySem.Spec PyProof.Rows L2
abbrev sFresh : Stmt := topS 65
abbrev sLand : Stmt := topS 66
abbrev sNames : Stmt := topS 67

/-! ### a word that is not in use -/
def spareS (A B : Str) : List Str := ((List.range' 97 26).map fun c => A ++ sign c) ++ (List.range' 97 13).map fun c => B ++ sign c ++ ("z" : Str)
theorem codes_add (x y : Str) : (x ++ y).cps.toList = x.cps.toList ++ y.cps.toList := TL.tl_append x y
theorem spare_free (A B : Str) (ws : List Str) (h : ws.length ≤ 35) : ∃ z ∈ spareS A B, z ∉ ws := by
  refine Classical.byContradiction fun no => ?_
  have all : ∀ z ∈ spareS A B, z ∈ ws := fun z hz => Classical.byContradiction fun k => no ⟨z, hz, k⟩
  have nd : (((List.range' 97 25).map fun c => A ++ sign c) ++ (List.range' 97 13).map fun c => B ++ sign c ++ ("z" : Str)).Nodup := by
    have zc : ("z" : Str).cps.toList = [122] := by decide +kernel
    have c1 : ∀ c, (A ++ sign c).cps.toList = A.cps.toList ++ [c] := fun c => codes_add A (sign c)
    have c2 : ∀ c, (B ++ sign c ++ ("z" : Str)).cps.toList = B.cps.toList ++ [c] ++ [122] := fun c => by
      rw [codes_add, codes_add, zc]
      rfl
    rw [List.nodup_append]
    refine ⟨?_, ?_, ?_⟩
    · refine List.pairwise_map.mpr ((List.nodup_range' (s := 97) (n := 25) (step := 1)).imp fun {a b} ne e => ne ?_)
      have := congrArg (fun z : Str => z.cps.toList) e
      simp only [c1] at this
      simpa using this
    · refine List.pairwise_map.mpr ((List.nodup_range' (s := 97) (n := 13) (step := 1)).imp fun {a b} ne e => ne ?_)
      have := congrArg (fun z : Str => z.cps.toList) e
      simp only [c2] at this
      simpa using this
    · intro x hx y hy e
      obtain ⟨c, hc, rfl⟩ := List.mem_map.mp hx
      obtain ⟨d, hd, rfl⟩ := List.mem_map.mp hy
      have := congrArg (fun z : Str => z.cps.toList.getLast?) e
      simp only [c1, c2, List.getLast?_append, List.getLast?_singleton, Option.some_or, Option.some.injEq] at this
      rw [List.mem_range'_1] at hc
      omega
  have sub : (((List.range' 97 25).map fun c => A ++ sign c) ++ (List.range' 97 13).map fun c => B ++ sign c ++ ("z" : Str)) ⊆ ws := by
    intro z hz
    refine all z ?_
    rcases List.mem_append.mp hz with hz | hz
    · obtain ⟨c, hc, rfl⟩ := List.mem_map.mp hz
      refine List.mem_append.mpr (.inl (List.mem_map.mpr ⟨c, ?_, rfl⟩))
      rw [List.mem_range'_1] at hc ⊢
      omega
    · exact List.mem_append.mpr (.inr hz)
  have := nd.length_le_of_subset sub
  simp at this
  omega
theorem spare_wd {z : Str} (h : IsWd z) : ∀ y ∈ spareS (cutS z none (some 7)) (cutS z none (some 6)), IsWd y := by
  have hl := h.len
  have hz : z.length = z.cps.toList.length := by simp [Str.length]
  have hc : ∀ c ∈ z.cps.toList, 97 ≤ c ∧ c ≤ 122 := by
    unfold IsWd wdB at h
    simp only [Bool.and_eq_true, decide_eq_true_eq, List.all_eq_true] at h
    exact h.2
  have zc : ("z" : Str).cps.toList = [122] := by decide +kernel
  intro y hy
  rcases List.mem_append.mp hy with hy | hy
  · obtain ⟨c, hcm, rfl⟩ := List.mem_map.mp hy
    rw [List.mem_range'_1] at hcm
    have e : (cutS z none (some 7) ++ sign c).cps.toList = z.cps.toList.take 7 ++ [c] := by
      rw [codes_add, show ((7 : Int)) = ((7 : Nat) : Int) from rfl, cut_hi]
      rfl
    refine isWd_of ?_ ?_ ?_
    · rw [e]; simp
    · rw [e]; simp; omega
    · rw [e]
      intro d hd
      rcases List.mem_append.mp hd with hd | hd
      · exact hc d (List.mem_of_mem_take hd)
      · rw [List.mem_singleton.mp hd]; omega
  · obtain ⟨c, hcm, rfl⟩ := List.mem_map.mp hy
    rw [List.mem_range'_1] at hcm
    have e : (cutS z none (some 6) ++ sign c ++ ("z" : Str)).cps.toList = z.cps.toList.take 6 ++ [c] ++ [122] := by
      rw [codes_add, codes_add, show ((6 : Int)) = ((6 : Nat) : Int) from rfl, cut_hi, zc]
      rfl
    refine isWd_of ?_ ?_ ?_
    · rw [e]; simp
    · rw [e]; simp; omega
    · rw [e]
      intro d hd
      rcases List.mem_append.mp hd with hd | hd
      · rcases List.mem_append.mp hd with hd | hd
        · exact hc d (List.mem_of_mem_take hd)
        · rw [List.mem_singleton.mp hd]; omega
      · rw [List.mem_singleton.mp hd]; omega

section
variable {P : Program} {w : World} {K : PySem.W.Frag} {mg : Str → Option Value} {base : Heap} {f : Addr} {fd : FuncData}
def spFresh : Sp := fun vs H Q _ => ∃ (a u : Addr) (ws : List Str), vs = [.ref a, .ref u] ∧ PurseAt H a ∧ H u = some (.lst (ws.map V.str)) ∧ u ≠ a ∧ ws.length ≤ 35 ∧
  ∀ (z : Str) (H' : Hp), IsWd z → z ∉ ws → PurseAt H' a → SameX a H H' → Q (.str z) H'
abbrev nFresh : List Str := ["_law_purse_here", "_law_used", "_law_sound", "_law_spare", "_law_sign", "_law_one"]
theorem scFresh : FnScope nFresh ["_law_purse_here", "_law_used"] (defScope sFresh) :=
  ⟨rfl, rfl, rfl, by decide +kernel, rfl, by decide +kernel, by decide +kernel⟩
def addS (A : Str) (B : Str) : V → V
  | .str s => .str (A ++ s ++ B)
  | v => v
theorem wd_line {z : Str} (h : IsWd z) : z.length ≤ sizeLine := lzl (by have := h.len; omega)
theorem ok_fresh (F : Fun K "_law_fresh" "_law_fresh" sFresh f fd) (B : Bi mg) (hW : Has P w K mg base "_law_word" 2 ["_law_purse_here"] spWord) :
    FnOk P w K mg base CX0 3 f fd ["_law_purse_here", "_law_used"] spFresh := by
  refine F.ok scFresh (fun vs H Q E h => ?_) (fun cdv A outer s H vs Q E hr h => ?_)
  · obtain ⟨a, u, ws, rfl, _⟩ := h
    rfl
  · obtain ⟨a, u, ws, rfl, hA, hu, nua, hl, q⟩ := h
    refine ⟨_, pss_cons (ps_set (i := 2) scFresh.nd rfl (.inr rfl) (pe_h hW hr (pa_cons (pv 0) pa_nil)))
      (pss_cons (ps_if (pt_cmpR op_notIn_seq (pv 2) (pv 1) (by rfl)) (pss_one (ps_ret (pv 2))) pss_nil)
      (pss_cons (ps_setLc (i := 3) (own := [("_law_sign", 4)]) (g := gName 4) (tt := tYes) rfl scFresh.nd rfl rfl (sw_true rfl rfl rfl (by decide +kernel)) (pi_str pe_str) (blkOk_by (N := nFresh) (sc := defScope sFresh) (by decide +kernel))
        (fun _ _ _ _ _ => pg_name (i := 4) scFresh.nd rfl (.inl rfl)) (fun _ _ _ _ _ => pts_nil) (fun _ _ _ _ _ => pe_op op_add_str (pe_slice sl_str (pv 2) po_none (po_some pe_int)) (pv 4)))
      (pss_cons (ps_set (i := 3) scFresh.nd rfl (.inl rfl) (pe_op op_cat (pv 3) (pe_lc (own := [("_law_sign", 4)]) (g := gName 4) (tt := tYes) rfl scFresh.nd (pi_str pe_str) (blkOk_by (N := nFresh) (sc := defScope sFresh) (by decide +kernel))
        (fun _ _ _ _ _ => pg_name (i := 4) scFresh.nd rfl (.inl rfl)) (fun _ _ _ _ _ => pts_nil) (fun _ _ _ _ _ => pe_op op_add_str (pe_op op_add_str (pe_slice sl_str (pv 2) po_none (po_some pe_int)) (pv 4)) pe_str))))
      (pss_one (ps_ret (pe_ix ix_list (pe_lc (own := [("_law_one", 5)]) (g := gName 5) (tt := tTest (tOp (rIn K true) (tVar 5) (tVar 1))) rfl scFresh.nd (pi_list (pv 3)) (blkOk_by (N := nFresh) (sc := defScope sFresh) (by decide +kernel))
        (fun _ _ _ _ _ => pg_name (i := 5) scFresh.nd rfl (.inl rfl)) (fun _ _ _ _ _ => pts_one (pt_cmpR op_notIn_seq (pv 5) (pv 1) (by rfl))) (fun _ _ _ _ _ => pv 5)) pe_int (fun _ _ => rfl))))))), ?_⟩
    refine ⟨_, rfl, a, rfl, hA, fun z H1 hz hA1 s1 => ?_⟩
    have hu1 : H1 u = some (.lst (ws.map V.str)) := s1 _ _ nua hu
    refine ⟨_, rfl, _, rfl, u, ws.map V.str, rfl, .inl (.inl (.inl hu1)), rfl, flat_strs ws, _, rfl, ite_b (fun e => ?_) (fun e => ?_)⟩
    · rw [if_pos rfl, inV_strs, Bool.not_eq_true', decide_eq_false_iff_not] at e
      exact ⟨_, rfl, q z H1 hz e hA1 s1⟩
    · refine ⟨_, rfl, fun D hD => lc_map walk_signs hD (fun _ => true) (addS (cutS z none (some 7)) ⟨#[]⟩) (fun _ _ => trivial) (fun _ => rfl) (fun x H' _ _ Q' q' => q') ?_ lz ?_⟩
      · intro x H' hx _ _ Q' q'
        obtain ⟨c, hc, rfl⟩ := List.mem_map.mp hx
        refine ⟨_, rfl, 7, rfl, z, rfl, wd_line hz, _, rfl, _, _, rfl, rfl, ?_, ?_⟩
        · have := cutS_length z none (some 7)
          have := hz.len
          exact lzl (by show (cutS z none (some 7)).length + 1 ≤ 1000; omega)
        · have e0 : addS (cutS z none (some 7)) ⟨#[]⟩ (.str (sign c)) = .str (cutS z none (some 7) ++ sign c) := by
            refine congrArg V.str (str_ext ?_)
            rw [codes_add]
            simp
          rw [e0] at q'
          exact q'
      · intro H2 s2 hD2
        have hu2 := s2 _ _ hu1
        have hA2 := hA1.same s2
        refine ⟨_, rfl, _, rfl, fun D3 hD3 => lc_map walk_signs hD3 (fun _ => true) (addS (cutS z none (some 6)) "z") (fun _ _ => trivial) (fun _ => rfl) (fun x H' _ _ Q' q' => q') ?_ lz ?_⟩
        · intro x H' hx _ _ Q' q'
          obtain ⟨c, hc, rfl⟩ := List.mem_map.mp hx
          have h6 := cutS_length z none (some 6)
          have hl8 := hz.len
          have hz1 : ("z" : Str).length = 1 := by decide +kernel
          have hadd : (cutS z none (some 6) ++ sign c).length = (cutS z none (some 6)).length + 1 := by
            rw [TL.len_tl, TL.tl_append, List.length_append, ← TL.len_tl]
            rfl
          refine ⟨_, rfl, 6, rfl, z, rfl, wd_line hz, _, rfl, _, _, rfl, rfl, ?_, _, _, rfl, rfl, ?_, q'⟩
          · exact lzl (by show (cutS z none (some 6)).length + 1 ≤ 1000; omega)
          · exact lzl (by rw [hz1]; show (cutS z none (some 6) ++ sign c).length + 1 ≤ 1000; omega)
        · intro H4 s4 hD4
          have e26 : (signsOf ("abcdefghijklmnopqrstuvwxyz" : Str)).filter (fun _ => true) = signsOf ("abcdefghijklmnopqrstuvwxyz" : Str) := List.filter_eq_self.mpr fun _ _ => rfl
          have e13 : (signsOf ("abcdefghijklm" : Str)).filter (fun _ => true) = signsOf ("abcdefghijklm" : Str) := List.filter_eq_self.mpr fun _ _ => rfl
          have c13 : ("abcdefghijklm" : Str).cps.toList = List.range' 97 13 := by decide +kernel
          have eall : ((signsOf ("abcdefghijklmnopqrstuvwxyz" : Str)).filter (fun _ => true)).map (addS (cutS z none (some 7)) ⟨#[]⟩) ++ ((signsOf ("abcdefghijklm" : Str)).filter (fun _ => true)).map (addS (cutS z none (some 6)) "z")
              = (spareS (cutS z none (some 7)) (cutS z none (some 6))).map V.str := by
            rw [e26, e13]
            unfold signsOf spareS
            rw [letters_eq, c13, List.map_append, List.map_map, List.map_map, List.map_map, List.map_map]
            congr 1
          refine ⟨D, D3, _, _, rfl, rfl, s4 _ _ hD2, hD4, lz, fun p5 hp5 => ?_⟩
          rw [eall]
          have s5 : Same H1 (upd H4 p5 (.lst ((spareS (cutS z none (some 7)) (cutS z none (some 6))).map V.str))) := (s2.trans s4).trans (same_new hp5)
          refine ⟨_, rfl, p5, rfl, ⟨_, .inl (.inl upd_same)⟩, fun D6 hD6 => lc_map (walk_list (K := K) (a := p5) (xs := (spareS (cutS z none (some 7)) (cutS z none (some 6))).map V.str)) hD6 (fun v => !inV v (ws.map V.str)) id (fun H' s' => .inl (.inl (s' _ _ upd_same))) (fun _ => rfl) ?_ ?_ lz ?_⟩
          · intro x H' hx s' Q' q'
            obtain ⟨y, hy, rfl⟩ := List.mem_map.mp hx
            exact ⟨_, rfl, _, rfl, u, _, rfl, .inl (.inl (.inl (s' _ _ (s5 _ _ hu1)))), rfl, flat_strs ws, _, rfl, q'⟩
          · intro x H' hx _ _ Q' q'
            exact ⟨_, rfl, q'⟩
          · intro H7 s7 hD7
            obtain ⟨y0, hy0, hn0⟩ := spare_free (cutS z none (some 7)) (cutS z none (some 6)) ws hl
            have hf : ((spareS (cutS z none (some 7)) (cutS z none (some 6))).map V.str).filter (fun v => !inV v (ws.map V.str)) = ((spareS (cutS z none (some 7)) (cutS z none (some 6))).filter fun y => decide (y ∉ ws)).map V.str := by
              rw [List.filter_map]
              congr 1
              refine List.filter_congr fun y _ => ?_
              simp only [Function.comp, inV_strs]
              by_cases c : y ∈ ws <;> simp [c]
            rw [List.map_id, hf] at hD7
            have hm0 : y0 ∈ (spareS (cutS z none (some 7)) (cutS z none (some 6))).filter fun y => decide (y ∉ ws) := List.mem_filter.mpr ⟨hy0, decide_eq_true hn0⟩
            cases hcl : (spareS (cutS z none (some 7)) (cutS z none (some 6))).filter fun y => decide (y ∉ ws) with
            | nil =>
              rw [hcl] at hm0
              cases hm0
            | cons y r =>
              have hym : y ∈ (spareS (cutS z none (some 7)) (cutS z none (some 6))).filter fun y => decide (y ∉ ws) := by
                rw [hcl]
                exact List.mem_cons_self
              obtain ⟨hy1, hy2⟩ := List.mem_filter.mp hym
              refine ⟨D6, _, 0, .str y, rfl, rfl, .inl (.inl hD7), atI_nat (j := 0) (by rw [hcl]; rfl), ?_⟩
              exact q y H7 (spare_wd hz y hy1) (of_decide_eq_true hy2) (hA1.same (s5.trans s7)) (s1.trans (sx (s5.trans s7)))
end
end Wl




namespace Wl
open PySem PySem.Spec PyProof.Rows L2
abbrev Row := List (Option Str)
abbrev Grid := List Row
def rnames (r : Row) : List Str := r.filterMap id
def names (g : Grid) : List Str := g.flatten.filterMap id
theorem names_nil : names [] = [] := rfl
theorem names_snoc (g : Grid) (r : Row) : names (g ++ [r]) = names g ++ rnames r := by
  unfold names rnames
  rw [List.flatten_append, List.filterMap_append]
  simp
theorem names_cons (r : Row) (g : Grid) : names (r :: g) = rnames r ++ names g := by
  unfold names rnames
  rw [List.flatten_cons, List.filterMap_append]
theorem rnames_snoc (r : Row) (o : Option Str) : rnames (r ++ [o]) = rnames r ++ o.toList := by
  unfold rnames
  rw [List.filterMap_append]
  cases o <;> rfl
structure Good (g : Grid) (wd : Nat) : Prop where
  h1 : 1 ≤ g.length
  h6 : g.length ≤ 6
  w1 : 1 ≤ wd
  w6 : wd ≤ 6
  rows : ∀ r ∈ g, r.length = wd
  nd : (names g).Nodup
  wd : ∀ z ∈ names g, IsWd z
  ne : names g ≠ []
/-- the heap keeps its tuples -/
def TupKeep (H H' : Hp) : Prop := ∀ p xs, H p = some (.tup xs) → H' p = some (.tup xs)
theorem TupKeep.refl (H : Hp) : TupKeep H H := fun _ _ h => h
theorem TupKeep.trans {H H1 H2 : Hp} (a : TupKeep H H1) (b : TupKeep H1 H2) : TupKeep H H2 := fun p xs h => b p xs (a p xs h)
theorem tk_same {H H' : Hp} (s : Same H H') : TupKeep H H' := fun p xs h => s p _ h
theorem tk_x {a : Addr} {H H' : Hp} {ys : List V} (s : SameX a H H') (ha : H a = some (.lst ys)) : TupKeep H H' := fun p xs h => s p _ (ne_of h ha (by intro z; cases z)) h
theorem tk_upd {a : Addr} {H : Hp} {ys : List V} {o : HO} (ha : H a = some (.lst ys)) : TupKeep H (upd H a o) := tk_x sameX_upd ha
theorem tk_new {p : Addr} {H : Hp} {o : HO} (hp : H p = none) : TupKeep H (upd H p o) := tk_same (same_new hp)
/-- rows of a grid as tuples -/
def RowsAt (H : Hp) (as : List Addr) (g : Grid) : Prop := Each (fun (p : Addr) (row : Row) => H p = some (.tup (row.map oV))) as g
theorem RowsAt.keep {H H' : Hp} {as : List Addr} {g : Grid} (h : RowsAt H as g) (k : TupKeep H H') : RowsAt H' as g := Each.mono (fun p row e => k p _ e) h
def GridAt (H : Hp) (L : Addr) (g : Grid) : Prop := ∃ as : List Addr, H L = some (.tup (as.map V.ref)) ∧ RowsAt H as g
theorem GridAt.keep {H H' : Hp} {L : Addr} {g : Grid} (h : GridAt H L g) (k : TupKeep H H') : GridAt H' L g := by
  obtain ⟨as, h1, h2⟩ := h
  exact ⟨as, k _ _ h1, h2.keep k⟩
/-- the part at a row and a column, none where there is none -/
def cellAt (g : Grid) (r c : Nat) : Option Str := match g[r]? with
  | some row => (row[c]?).getD none
  | none => none
theorem cellAt_some {g : Grid} {r c : Nat} {z : Str} (h : cellAt g r c = some z) : ∃ row, g[r]? = some row ∧ row[c]? = some (some z) := by
  unfold cellAt at h
  cases e : g[r]? with
  | none => rw [e] at h; cases h
  | some row =>
    rw [e] at h
    refine ⟨row, rfl, ?_⟩
    cases e2 : row[c]? with
    | none => simp only [e2] at h; cases h
    | some o => simp only [e2, Option.getD_some] at h; rw [h]
theorem cellAt_of {g : Grid} {r c : Nat} {row : Row} {o : Option Str} (h : g[r]? = some row) (k : row[c]? = some o) : cellAt g r c = o := by
  unfold cellAt
  rw [h]
  simp [k]
/-! ### the spots -/
def spR (i j : Nat) : Row → List (Str × Nat × Nat)
  | [] => []
  | none :: r => spR i (j + 1) r
  | some z :: r => (z, i, j) :: spR i (j + 1) r
def spG (i : Nat) : Grid → List (Str × Nat × Nat)
  | [] => []
  | row :: g => spR i 0 row ++ spG (i + 1) g
theorem spR_snoc (i : Nat) : ∀ (r : Row) (j : Nat) (o : Option Str), spR i j (r ++ [o]) = spR i j r ++ (o.toList.map fun z => (z, i, j + r.length))
  | [], j, none => rfl
  | [], j, some z => rfl
  | none :: r, j, o => by
    show spR i (j + 1) (r ++ [o]) = spR i (j + 1) r ++ _
    rw [spR_snoc i r (j + 1) o, List.length_cons]
    congr 2
    funext z
    rw [Nat.add_right_comm, Nat.add_assoc]
  | some y :: r, j, o => by
    show (y, i, j) :: spR i (j + 1) (r ++ [o]) = (y, i, j) :: spR i (j + 1) r ++ _
    rw [spR_snoc i r (j + 1) o, List.length_cons, List.cons_append]
    congr 3
    funext z
    rw [Nat.add_right_comm, Nat.add_assoc]
theorem spG_snoc : ∀ (g : Grid) (i : Nat) (r : Row), spG i (g ++ [r]) = spG i g ++ spR (i + g.length) 0 r
  | [], i, r => by simp [spG]
  | x :: g, i, r => by
    show spR i 0 x ++ spG (i + 1) (g ++ [r]) = spR i 0 x ++ spG (i + 1) g ++ _
    rw [spG_snoc g (i + 1) r, List.length_cons, List.append_assoc]
    congr 3
    omega
theorem spR_fst (i : Nat) : ∀ (r : Row) (j : Nat), (spR i j r).map (·.1) = rnames r
  | [], _ => rfl
  | none :: r, j => spR_fst i r (j + 1)
  | some z :: r, j => congrArg (z :: ·) (spR_fst i r (j + 1))
theorem spG_fst : ∀ (g : Grid) (i : Nat), (spG i g).map (·.1) = names g
  | [], _ => rfl
  | r :: g, i => by
    show (spR i 0 r ++ spG (i + 1) g).map (·.1) = _
    rw [List.map_append, spR_fst, spG_fst g (i + 1), names_cons]
theorem spR_mem (i : Nat) {z : Str} {a b : Nat} : ∀ (r : Row) (j : Nat), (z, a, b) ∈ spR i j r ↔ a = i ∧ ∃ k, b = j + k ∧ r[k]? = some (some z)
  | [], j => by simp [spR]
  | none :: r, j => by
    show (z, a, b) ∈ spR i (j + 1) r ↔ _
    rw [spR_mem i r (j + 1)]
    constructor
    · rintro ⟨h, k, e, q⟩
      exact ⟨h, k + 1, by omega, by simpa using q⟩
    · rintro ⟨h, k, e, q⟩
      cases k with
      | zero => simp at q
      | succ k => exact ⟨h, k, by omega, by simpa using q⟩
  | some y :: r, j => by
    show (z, a, b) ∈ (y, i, j) :: spR i (j + 1) r ↔ _
    rw [List.mem_cons, spR_mem i r (j + 1)]
    constructor
    · rintro (h | ⟨h, k, e, q⟩)
      · cases h
        exact ⟨rfl, 0, rfl, rfl⟩
      · exact ⟨h, k + 1, by omega, by simpa using q⟩
    · rintro ⟨h, k, e, q⟩
      cases k with
      | zero =>
        simp at q
        subst q h
        exact .inl (by rw [e, Nat.add_zero])
      | succ k => exact .inr ⟨h, k, by omega, by simpa using q⟩
theorem spG_mem {z : Str} {a b : Nat} : ∀ (g : Grid) (i : Nat), (z, a, b) ∈ spG i g ↔ ∃ k row, a = i + k ∧ g[k]? = some row ∧ row[b]? = some (some z)
  | [], i => by simp [spG]
  | r :: g, i => by
    show (z, a, b) ∈ spR i 0 r ++ spG (i + 1) g ↔ _
    rw [List.mem_append, spR_mem, spG_mem g (i + 1)]
    constructor
    · rintro (⟨h, k, e, q⟩ | ⟨k, row, e, q, t⟩)
      · exact ⟨0, r, by omega, rfl, by rw [e, Nat.zero_add]; exact q⟩
      · exact ⟨k + 1, row, by omega, by simpa using q, t⟩
    · rintro ⟨k, row, e, q, t⟩
      cases k with
      | zero =>
        simp at q
        subst q
        exact .inl ⟨by omega, b, by omega, t⟩
      | succ k => exact .inr ⟨k, row, by omega, by simpa using q, t⟩
theorem spG_cell {g : Grid} {z : Str} {r c : Nat} : (z, r, c) ∈ spG 0 g ↔ cellAt g r c = some z := by
  rw [spG_mem]
  constructor
  · rintro ⟨k, row, e, q, t⟩
    have : r = k := by omega
    subst this
    exact cellAt_of q t
  · intro h
    obtain ⟨row, q, t⟩ := cellAt_some h
    exact ⟨r, row, by omega, q, t⟩
theorem mem_names {g : Grid} {z : Str} : z ∈ names g ↔ ∃ r c, cellAt g r c = some z := by
  rw [← spG_fst g 0]
  constructor
  · intro h
    obtain ⟨⟨y, r, c⟩, hm, rfl⟩ := List.mem_map.mp h
    exact ⟨r, c, spG_cell.mp hm⟩
  · rintro ⟨r, c, h⟩
    exact List.mem_map.mpr ⟨_, spG_cell.mpr h, rfl⟩
theorem nodup_fst {α β : Type} : ∀ {l : List (α × β)}, (l.map (·.1)).Nodup → ∀ {a : α} {b b' : β}, (a, b) ∈ l → (a, b') ∈ l → b = b'
  | [], _, _, _, _, h, _ => by cases h
  | x :: l, nd, a, b, b', h, k => by
    obtain ⟨h1, h2⟩ := List.nodup_cons.mp nd
    rcases List.mem_cons.mp h with e | h <;> rcases List.mem_cons.mp k with e' | k
    · rw [← e] at e'
      exact (Prod.mk.inj e').2.symm
    · exact absurd (List.mem_map.mpr ⟨_, k, by rw [← e]⟩) h1
    · exact absurd (List.mem_map.mpr ⟨_, h, by rw [← e']⟩) h1
    · exact nodup_fst h2 h k
theorem cell_inj {g : Grid} (nd : (names g).Nodup) {z : Str} {r c r' c' : Nat} (h : cellAt g r c = some z) (k : cellAt g r' c' = some z) : r = r' ∧ c = c' := by
  have := nodup_fst (l := spG 0 g) (by rw [spG_fst]; exact nd) (spG_cell.mpr h) (spG_cell.mpr k)
  exact Prod.mk.inj this
theorem Good.cell {g : Grid} {wd : Nat} (G : Good g wd) {r c : Nat} {z : Str} (h : cellAt g r c = some z) : r < g.length ∧ c < wd := by
  obtain ⟨row, h1, h2⟩ := cellAt_some h
  obtain ⟨a, e⟩ := List.getElem?_eq_some_iff.mp h1
  obtain ⟨b, _⟩ := List.getElem?_eq_some_iff.mp h2
  have := G.rows row (List.mem_of_getElem? h1)
  exact ⟨a, by omega⟩
theorem Good.len {g : Grid} {wd : Nat} (G : Good g wd) : (names g).length ≤ 36 := by
  have h : ∀ l : Grid, (∀ r ∈ l, r.length = wd) → (names l).length ≤ l.length * wd := by
    intro l
    induction l with
    | nil => intro _; simp [names]
    | cons r l ih =>
      intro h
      rw [names_cons, List.length_append, List.length_cons]
      have h1 : (rnames r).length ≤ wd := by
        have := List.length_filterMap_le id r
        have := h r List.mem_cons_self
        unfold rnames
        omega
      have h2 := ih fun r hr => h r (List.mem_cons_of_mem _ hr)
      rw [Nat.succ_mul]
      omega
  have h1 := h g G.rows
  have h2 : g.length * wd ≤ 6 * 6 := Nat.mul_le_mul G.h6 G.w6
  omega
end Wl

namespace Wl
open PySem PySem.Spec PyProof.Rows L2
section
variable {P : Program} {w : World} {K : PySem.W.Frag} {mg : Str → Option Value} {base : Heap} {f : Addr} {fd : FuncData}
def spLand : Sp := fun vs H Q _ => ∃ (a : Addr) (m : Int), vs = [.ref a, .int m] ∧ PurseAt H a ∧ 1 ≤ m ∧ m ≤ 6 ∧
  ∀ (L : Addr) (g : Grid) (wd : Nat) (H' : Hp), Good g wd → (g.length : Int) ≤ m → (wd : Int) ≤ m → GridAt H' L g → PurseAt H' a → SameX a H H' → Q (.ref L) H'
abbrev nLand : List Str := ["_law_purse_here", "_law_most", "_law_high", "_law_wide", "_law_towns", "_law_laid", "_law_row", "_law_parts", "_law_column", "_law_lake", "_law_town"]
theorem scLand : FnScope nLand ["_law_purse_here", "_law_most"] (defScope sLand) :=
  ⟨rfl, rfl, rfl, by decide +kernel, rfl, by decide +kernel, by decide +kernel⟩
/-- what holds of the heap while the land is laid: the rows laid so far, the parts of this one -/
structure Laying (H0 H : Hp) (a tA lA : Addr) (g : Grid) (wd : Nat) (ps : Row) : Prop where
  purse : PurseAt H a
  same : SameX a H0 H
  towns : H tA = some (.lst ((names g ++ rnames ps).map V.str))
  laid : ∃ as, H lA = some (.lst (as.map V.ref)) ∧ RowsAt H as g
  rows : ∀ r ∈ g, r.length = wd
  nd : (names g ++ rnames ps).Nodup
  wds : ∀ z ∈ names g ++ rnames ps, IsWd z
theorem len_names {g : Grid} {wd : Nat} (h : ∀ r ∈ g, r.length = wd) : (names g).length ≤ g.length * wd := by
  induction g with
  | nil => simp [names]
  | cons r l ih =>
    rw [names_cons, List.length_append, List.length_cons]
    have h1 : (rnames r).length ≤ wd := by
      have := List.length_filterMap_le id r
      have := h r List.mem_cons_self
      unfold rnames
      omega
    have h2 := ih fun r hr => h r (List.mem_cons_of_mem _ hr)
    rw [Nat.succ_mul]
    omega
theorem lake_reads {σ : L2.St} {H : Hp} {Q : VK} {a tA : Addr} {ws : List Str} {x y hi wd : Int} (e0 : σ[0]? = some (some (.ref a))) (e4 : σ[4]? = some (some (.ref tA))) (e6 : σ[6]? = some (some (.int x))) (e8 : σ[8]? = some (some (.int y)))
    (e2 : σ[2]? = some (some (.int hi))) (e3 : σ[3]? = some (some (.int wd))) (hA : PurseAt H a) (ht : H tA = some (.lst (ws.map V.str))) (nta : tA ≠ a) (hws : ∀ z ∈ ws, IsWd z)
    (q : ∀ (b : Bool) (H' : Hp), PurseAt H' a → SameX a H H' → (b = true → ws ≠ [] ∨ x + y + 2 < hi + wd) → Q (.bl b) H') :
    tAndV (tOp rEq (tCall spPick [] E0 (tCons (tVar 0) (tCons (tC (.int 6)) tNil))) (tC (.int 5)))
      (tOrV (tOp (rNeD K) (tVar 4) (tLst tNil)) (tOp (rI0 fun i j => .bl (decide (i < j))) (tOp (rI0 fun i j => .int (i + j)) (tOp (rI0 fun i j => .int (i + j)) (tVar 6) (tVar 8)) (tC (.int 2))) (tOp (rI0 fun i j => .int (i + j)) (tVar 2) (tVar 3)))) σ H Q := by
  refine ⟨_, e0, a, 6, rfl, hA, by decide, by decide, fun r H1 r0 r1 hA1 s1 n1 => ⟨rfl, _, rfl, ite_b (fun e => ?_) (fun e => ?_)⟩⟩
  · refine ⟨_, e4, lz, fun p hp => ⟨.list (ws.map .str), .list [], .lst (.inl (.inl ((same_new hp) _ _ (s1 _ _ nta ht)))) (dp_strs ws), .lst (.inl (.inl upd_same)) .nil, shaped_list (lay_strs hws) (by rw [depth_strs]; decide), rfl, _, rfl, ite_b (fun e => ?_) (fun e => ?_)⟩⟩
    · refine q true _ (hA1.same (same_new hp)) (s1.trans (sx (same_new hp))) fun _ => .inl fun z => ?_
      subst z
      cases e
    · refine ⟨_, e6, _, e8, _, _, rfl, rfl, _, _, rfl, rfl, _, e2, _, e3, _, _, rfl, rfl, _, _, rfl, rfl, ?_⟩
      exact q _ _ (hA1.same (same_new hp)) (s1.trans (sx (same_new hp))) fun z => .inr (of_decide_eq_true z)
  · exact q false _ hA1 s1 fun z => by cases z
theorem Laying.go {H0 H H' : Hp} {a tA lA : Addr} {g : Grid} {wd : Nat} {ps : Row} (h : Laying H0 H a tA lA g wd ps) (nt : tA ≠ a) (nl : lA ≠ a) (hp : PurseAt H' a) (s : SameX a H H') : Laying H0 H' a tA lA g wd ps := by
  obtain ⟨as, hl, hR⟩ := h.laid
  obtain ⟨ys, ha⟩ := h.purse.lst
  exact ⟨hp, h.same.trans s, s _ _ nt h.towns, ⟨as, s _ _ nl hl, hR.keep (tk_x s ha)⟩, h.rows, h.nd, h.wds⟩
theorem ok_land (F : Fun K "_law_land" "_law_land" sLand f fd) (B : Bi mg) (hp : Has P w K mg base "_law_pick" 1 ["_law_purse_here", "_law_many"] spPick) (hF : Has P w K mg base "_law_fresh" 3 ["_law_purse_here", "_law_used"] spFresh) :
    FnOk P w K mg base CX0 4 f fd ["_law_purse_here", "_law_most"] spLand := by
  refine F.ok scLand (fun vs H Q E h => ?_) (fun cdv A outer s H vs Q E hr h => ?_)
  · obtain ⟨a, m, rfl, _⟩ := h
    rfl
  · obtain ⟨a, m, rfl, hA, m1, m6, q⟩ := h
    refine ⟨_, pss_cons (ps_par3 (i := 2) (j := 3) (l := 4) (by rfl) scLand.nd rfl rfl rfl (by decide) (by decide) (by decide) rfl rfl rfl (pa_cons (pe_op op_add pe_int (pe_h hp hr (pa_cons (pv 0) (pa_cons (pv 1) pa_nil)))) (pa_cons (pe_op op_add pe_int (pe_h hp hr (pa_cons (pv 0) (pa_cons (pv 1) pa_nil)))) (pa_cons (pe_lst pa_nil) pa_nil))) (by rfl))
      (pss_cons (ps_set (i := 5) scLand.nd rfl (.inl rfl) (pe_lst pa_nil))
      (pss_cons (ps_for PassesOwn.never rfl (pi_range1 rfl B.range (pa_cons (pv 2) pa_nil)) (pg_name (i := 6) scLand.nd rfl (.inl rfl))
        (pss_cons (ps_set (i := 7) scLand.nd rfl (.inl rfl) (pe_lst pa_nil))
        (pss_cons (ps_for PassesOwn.never rfl (pi_range1 rfl B.range (pa_cons (pv 3) pa_nil)) (pg_name (i := 8) scLand.nd rfl (.inl rfl))
          (pss_cons (ps_set (i := 9) scLand.nd rfl (.inl rfl) (pe_and (pe_cmpR op_eq (pe_h hp hr (pa_cons (pv 0) (pa_cons pe_int pa_nil))) pe_int (nomark _)) (pe_one (pe_or (pe_cmpR (op_neD hr.units) (pv 4) (pe_lst pa_nil) (nomark _)) (pe_one (pe_cmpR op_lt (pe_op op_add (pe_op op_add (pv 6) (pv 8)) pe_int) (pe_op op_add (pv 2) (pv 3)) (nomark _)))))))
          (pss_cons (ps_set (i := 10) scLand.nd rfl (.inl rfl) (pe_h hF hr (pa_cons (pv 0) (pa_cons (pv 4) pa_nil))))
          (pss_cons (ps_if (pt_truth (pv 9) (by intro _; rfl)) (pss_one (ps_set (i := 10) scLand.nd rfl (.inl rfl) pe_non)) (pss_one (ps_expr (pe_bm PySem.F.plainAttrs_list PySem.F.slot_list_append PySem.F.type_list_append mt_append (pv 4) (pa_cons (pv 10) pa_nil)))))
          (pss_one (ps_expr (pe_bm PySem.F.plainAttrs_list PySem.F.slot_list_append PySem.F.type_list_append mt_append (pv 7) (pa_cons (pv 10) pa_nil))))))))
        (pss_one (ps_expr (pe_bm PySem.F.plainAttrs_list PySem.F.slot_list_append PySem.F.type_list_append mt_append (pv 5) (pa_cons (pe_callTy call_tuple_of (by rfl) B.tuple (by decide +kernel) (pa_cons (pv 7) pa_nil)) pa_nil)))))))
      (pss_one (ps_ret (pe_callTy call_tuple_of (by rfl) B.tuple (by decide +kernel) (pa_cons (pv 5) pa_nil)))))), ?_⟩
    refine ⟨_, rfl, _, rfl, a, m, rfl, hA, by omega, by omega, fun r1 H1 r10 r11 hA1 s1 n1 => ⟨_, _, rfl, rfl, ?_⟩⟩
    refine ⟨_, rfl, _, rfl, a, m, rfl, hA1, by omega, by omega, fun r2 H2 r20 r21 hA2 s2 n2 => ⟨_, _, rfl, rfl, ?_⟩⟩
    refine ⟨lz, fun tA htA => ⟨_, _, _, rfl, lz, fun lA hlA => ?_⟩⟩
    have nta : tA ≠ a := hA2.ne htA
    have nla : lA ≠ a := (hA2.same (same_new htA)).ne hlA
    have nlt : lA ≠ tA := (ne_of_none upd_same hlA).symm
    have htA0 : H tA = none := SameX.free (s1.trans s2) nta htA
    have hlA0 : H lA = none := SameX.free ((s1.trans s2).trans (sx (same_new htA))) nla hlA
    obtain ⟨hi, ehi⟩ : ∃ hi : Nat, 1 + r1 = (hi : Int) := ⟨(1 + r1).toNat, by omega⟩
    obtain ⟨wd, ewd⟩ : ∃ wd : Nat, 1 + r2 = (wd : Int) := ⟨(1 + r2).toNat, by omega⟩
    have n1 : (1 + r1).toNat = hi := by omega
    have n2 : (1 + r2).toNat = wd := by omega
    have hhi : 1 ≤ hi ∧ hi ≤ 6 := by omega
    have hwd : 1 ≤ wd ∧ wd ≤ 6 := by omega
    have L0 : Laying H (upd (upd H2 tA (.lst [])) lA (.lst [])) a tA lA [] wd [] := by
      refine ⟨(hA2.same (same_new htA)).same (same_new hlA), sameX_mut (sameX_mut (s1.trans s2) htA0) hlA0, ?_, ⟨[], upd_same, .nil⟩, (fun r hr => nomatch hr), List.nodup_nil, (fun z hz => nomatch hz)⟩
      rw [upd_ne nlt.symm, upd_same]
      rfl
    generalize upd (upd H2 tA (.lst [])) lA (.lst []) = H3 at L0
    refine ⟨_, rfl, 1 + r1, rfl, by omega, by omega, ?_⟩
    rw [n1]
    refine for_range (lo := 0) (n := hi) (fun i σ H' => ∃ (g : Grid) (y6 y7 y8 y9 y10 : Option V), σ = [some (.ref a), some (.int m), some (.int (1 + r1)), some (.int (1 + r2)), some (.ref tA), some (.ref lA), y6, y7, y8, y9, y10] ∧ g.length = i ∧ Laying H H' a tA lA g wd [] ∧ (i = hi → names g ≠ []))
      ⟨[], none, none, none, none, none, rfl, rfl, L0, fun e => by omega⟩ ?_ ?_
    · rintro i σ H4 hi4 ⟨g, y6, y7, y8, y9, y10, rfl, hgl, L4, _⟩
      refine ⟨lz, fun pA hpA => ?_⟩
      have npa : pA ≠ a := L4.purse.ne hpA
      have npt : pA ≠ tA := (ne_of_none L4.towns hpA).symm
      obtain ⟨as4, hl4, hR4⟩ := L4.laid
      have npl : pA ≠ lA := (ne_of_none hl4 hpA).symm
      have L5 := L4.go nta nla (L4.purse.same (same_new (o := .lst []) hpA)) (sx (same_new hpA))
      refine ⟨_, rfl, 1 + r2, rfl, by omega, by omega, ?_⟩
      rw [n2]
      refine for_range (lo := 0) (n := wd) (fun j σ H' => ∃ (ps : Row) (y8 y9 y10 : Option V), σ = [some (.ref a), some (.int m), some (.int (1 + r1)), some (.int (1 + r2)), some (.ref tA), some (.ref lA), some (.int (0 + i)), some (.ref pA), y8, y9, y10] ∧ ps.length = j ∧ Laying H H' a tA lA g wd ps ∧ H' pA = some (.lst (ps.map oV)) ∧ (i + 1 = hi → j = wd → names g ++ rnames ps ≠ []))
        ⟨[], _, _, _, rfl, rfl, L5, upd_same, fun _ e => by omega⟩ ?_ ?_
      · rintro j σ H6 hj ⟨ps, z8, z9, z10, rfl, hpl, L6, hp6, _⟩
        refine lake_reads (a := a) (tA := tA) (x := 0 + i) (y := 0 + j) (hi := 1 + r1) (wd := 1 + r2) rfl rfl rfl rfl rfl rfl L6.purse L6.towns nta L6.wds fun b H7 hA7 s7 hb => ?_
        have L7 := L6.go nta nla hA7 s7
        have hp7 := s7 _ _ npa hp6
        have hlen : (names g ++ rnames ps).length ≤ 35 := by
          have h1 := len_names L6.rows
          have h2 : (rnames ps).length ≤ ps.length := List.length_filterMap_le id ps
          rw [List.length_append]
          have h3 : g.length * wd ≤ 5 * wd := Nat.mul_le_mul_right _ (by omega)
          omega
        refine ⟨_, rfl, _, rfl, a, tA, names g ++ rnames ps, rfl, L7.purse, L7.towns, nta, hlen, fun z H8 hz hzn hA8 s8 => ?_⟩
        have L8 := L7.go nta nla hA8 s8
        have hp8 := s8 _ _ npa hp7
        have hlt : ((names g ++ rnames ps).map V.str).length < sizeLine := by
          rw [List.length_map]
          exact small1000 (by omega)
        have hpl2 : (ps.map oV).length < sizeLine := by
          rw [List.length_map]
          exact small1000 (by omega)
        refine ⟨_, rfl, b, rfl, ite_b (fun e => ?_) (fun e => ?_)⟩
        · -- a lake
          refine ⟨_, rfl, .inl ⟨rfl, _, .inl (.inl hp8)⟩, _, rfl, pA, _, _, rfl, rfl, hp8, hpl2, ?_⟩
          obtain ⟨as8, hl8, hR8⟩ := L8.laid
          refine ⟨ps ++ [none], _, _, _, rfl, by simp [hpl], ⟨?_, ?_, ?_, ⟨as8, ?_, hR8.keep (tk_upd hp8)⟩, L8.rows, ?_, ?_⟩, ?_, ?_⟩
          · obtain ⟨x0, x1, x2, hx, hx1⟩ := L8.purse
            exact ⟨x0, x1, x2, by rw [upd_ne npa.symm]; exact hx, hx1⟩
          · exact sameX_mut L8.same (SameX.free L4.same npa hpA)
          · rw [upd_ne npt.symm, rnames_snoc]
            simpa using L8.towns
          · rw [upd_ne npl.symm]
            exact hl8
          · rw [rnames_snoc]
            simpa using L8.nd
          · rw [rnames_snoc]
            simpa using L8.wds
          · rw [upd_same, List.map_append]
            rfl
          · intro e1 e2
            rw [rnames_snoc]
            rcases hb e with h | h
            · simpa using h
            · omega
        · -- a village
          refine ⟨_, rfl, .inl ⟨rfl, _, .inl (.inl L8.towns)⟩, _, rfl, tA, _, _, rfl, rfl, L8.towns, hlt, ?_⟩
          have hp9 : upd H8 tA (.lst ((names g ++ rnames ps).map V.str ++ [.str z])) pA = some (.lst (ps.map oV)) := by
            rw [upd_ne npt]
            exact hp8
          refine ⟨_, rfl, .inl ⟨rfl, _, .inl (.inl hp9)⟩, _, rfl, pA, _, _, rfl, rfl, hp9, hpl2, ?_⟩
          obtain ⟨as8, hl8, hR8⟩ := L8.laid
          have en : names g ++ rnames (ps ++ [some z]) = (names g ++ rnames ps) ++ [z] := by
            rw [rnames_snoc, List.append_assoc]
            rfl
          refine ⟨ps ++ [some z], _, _, _, rfl, by simp [hpl], ⟨?_, ?_, ?_, ⟨as8, ?_, (hR8.keep (tk_upd L8.towns)).keep (tk_upd hp9)⟩, L8.rows, ?_, ?_⟩, ?_, ?_⟩
          · obtain ⟨x0, x1, x2, hx, hx1⟩ := L8.purse
            exact ⟨x0, x1, x2, by rw [upd_ne npa.symm, upd_ne nta.symm]; exact hx, hx1⟩
          · exact sameX_mut (sameX_mut L8.same htA0) (SameX.free L4.same npa hpA)
          · rw [upd_ne npt.symm, upd_same, en]
            simp
          · rw [upd_ne npl.symm, upd_ne nlt]
            exact hl8
          · rw [en, List.nodup_append]
            refine ⟨L8.nd, by simp, fun x hx y hy e => ?_⟩
            rw [List.mem_singleton.mp hy] at e
            rw [e] at hx
            exact hzn hx
          · rw [en]
            intro y hy
            rcases List.mem_append.mp hy with hy | hy
            · exact L8.wds y hy
            · rw [List.mem_singleton.mp hy]
              exact hz
          · rw [upd_same, List.map_append]
            rfl
          · intro _ _
            rw [en]
            simp
      · rintro σ H6 ⟨ps, z8, z9, z10, rfl, hpl, L6, hp6, hne⟩
        obtain ⟨as6, hl6, hR6⟩ := L6.laid
        refine ⟨_, rfl, .inl ⟨rfl, _, .inl (.inl hl6)⟩, _, rfl, pA, _, rfl, .inl ⟨.inl (.inl hp6), fun t ht => ?_⟩⟩
        have nlt6 : lA ≠ t := ne_of_none hl6 ht
        refine ⟨lA, _, _, rfl, rfl, (same_new ht) _ _ hl6, ?_, ?_⟩
        · rw [List.length_map, hR6.length]
          exact small1000 (by omega)
        · refine ⟨g ++ [ps], _, _, _, _, _, rfl, by simp [hgl], ⟨?_, ?_, ?_, ⟨as6 ++ [t], ?_, ?_⟩, ?_, ?_, ?_⟩, ?_⟩
          · obtain ⟨x0, x1, x2, hx, hx1⟩ := L6.purse.same (same_new (o := .tup (ps.map oV)) ht)
            exact ⟨x0, x1, x2, by rw [upd_ne nla.symm]; exact hx, hx1⟩
          · exact sameX_mut (L6.same.trans (sx (same_new ht))) hlA0
          · rw [upd_ne nlt.symm, (same_new ht) _ _ L6.towns, names_snoc]
            simp [rnames]
          · rw [upd_same, List.map_append]
            rfl
          · refine Each.append ((hR6.keep (tk_new ht)).keep (tk_upd ((same_new ht) _ _ hl6))) (.cons ?_ .nil)
            rw [upd_ne nlt6.symm, upd_same]
          · intro r hr
            rcases List.mem_append.mp hr with hr | hr
            · exact L6.rows r hr
            · rw [List.mem_singleton.mp hr]
              exact hpl
          · rw [names_snoc]
            simpa [rnames] using L6.nd
          · rw [names_snoc]
            simpa [rnames] using L6.wds
          · intro e
            rw [names_snoc]
            exact hne e rfl
    · rintro σ H4 ⟨g, y6, y7, y8, y9, y10, rfl, hgl, L4, hne⟩
      obtain ⟨as4, hl4, hR4⟩ := L4.laid
      refine ⟨_, rfl, lA, _, rfl, .inl ⟨.inl (.inl hl4), fun t ht => ?_⟩⟩
      refine q t g wd _ ⟨by omega, by omega, hwd.1, hwd.2, L4.rows, ?_, ?_, hne rfl⟩ (by omega) (by omega) ⟨as4, upd_same, hR4.keep (tk_new ht)⟩ (L4.purse.same (same_new ht)) (L4.same.trans (sx (same_new ht)))
      · simpa [rnames] using L4.nd
      · simpa [rnames] using L4.wds
end
end Wl




namespace Wl
open PySem PySem.Spec PyProof.Rows L2
abbrev sAreRows : Stmt := topS 38
abbrev sWrong : Stmt := topS 39
abbrev sSpotsIn : Stmt := topS 40
abbrev sSpots : Stmt := topS 41
structure Gk (mg : Str → Option Value) : Prop where
  letters : ∃ t, mg "LETTERS" = some (.str "abcdefghijklmnopqrstuvwxyz" t)
  longest : ∃ t, mg "LONGEST_WORD" = some (.int 8 t)
  mrows : ∃ t, mg "MOST_ROWS" = some (.int 6 t)
  mcols : ∃ t, mg "MOST_COLUMNS" = some (.int 6 t)
section
variable {P : Program} {w : World} {K : PySem.W.Frag} {mg : Str → Option Value} {base : Heap} {f : Addr} {fd : FuncData}

/-! ### is_word of a text -/
def spIsWord : Sp := fun vs H Q _ => ∃ (z : Str), vs = [.str z] ∧ z.length ≤ 1000 ∧ ∀ (H' : Hp), Same H H' → Q (.bl (wdB z)) H'
end
end Wl




namespace Wl
open PySem PySem.Spec PyProof.Rows L2
section
variable {P : Program} {w : World} {K : PySem.W.Frag} {mg : Str → Option Value} {base : Heap} {f : Addr} {fd : FuncData}

/-! ### are_rows of a good grid -/
def spAreRows : Sp := fun vs H Q _ => ∃ (L : Addr) (g : Grid) (wd : Nat), vs = [.ref L] ∧ GridAt H L g ∧ Good g wd ∧ Q (.bl true) H
abbrev nAreRows : List Str := ["thing", "row"]
theorem scAreRows : FnScope nAreRows ["thing"] (defScope sAreRows) := ⟨rfl, rfl, rfl, by decide +kernel, rfl, by decide +kernel, by decide +kernel⟩
theorem ok_arerows (F : Fun K "are_rows" "are_rows" sAreRows f fd) (B : Bi mg) (G : Gk mg) : FnOk P w K mg base CX0 1 f fd ["thing"] spAreRows := by
  obtain ⟨t1, g1⟩ := G.mrows
  obtain ⟨t2, g2⟩ := G.mcols
  refine F.ok scAreRows (fun vs H Q E h => ?_) (fun cdv A outer s H vs Q E hr h => ?_)
  · obtain ⟨L, g, wd, rfl, _⟩ := h
    rfl
  · obtain ⟨L, g, wd, rfl, ⟨as, hL, hR⟩, gd, q⟩ := h
    refine ⟨_, pss_cons (ps_if (PW.pt (pw_or (pt_not (pt_val (pe_callB call_isi (by rfl) B.isi (by decide +kernel) (pa_cons (pv 0) (pa_cons (pe_bltn (v := .ty "tuple") (by rfl) B.tuple (by decide +kernel) rfl) pa_nil)))))
        (pw_or1 (pt_not (pt_chain op_le op_le pe_int (pe_callB call_len_seq (by rfl) B.len PySem.boot_len (pa_cons (pv 0) pa_nil)) (pe_glob (v := .int 6) rfl g1 ⟨_, rfl⟩)))))) (pss_one (ps_ret pe_bl)) pss_nil)
      (pss_cons (ps_for PassesOwn.never rfl (pi_tup (pv 0)) (pg_name (i := 1) scAreRows.nd rfl (.inl rfl))
        (pss_one (ps_if (PW.pt (pw_or (pt_not (pt_val (pe_callB call_isi (by rfl) B.isi (by decide +kernel) (pa_cons (pv 1) (pa_cons (pe_bltn (v := .ty "tuple") (by rfl) B.tuple (by decide +kernel) rfl) pa_nil)))))
          (pw_or (pt_not (pt_chain op_le op_le pe_int (pe_callB call_len_seq (by rfl) B.len PySem.boot_len (pa_cons (pv 1) pa_nil)) (pe_glob (v := .int 6) rfl g2 ⟨_, rfl⟩)))
          (pw_or1 (pt_cmpR op_ne (pe_callB call_len_seq (by rfl) B.len PySem.boot_len (pa_cons (pv 1) pa_nil)) (pe_callB call_len_seq (by rfl) B.len PySem.boot_len (pa_cons (pe_ix ix_tup (pv 0) pe_int (fun _ _ => rfl)) pa_nil)) (nomark _)))))) (pss_one (ps_ret pe_bl)) pss_nil)))
      (pss_one (ps_ret pe_bl))), ?_⟩
    have hlen : (as.map V.ref).length = g.length := by rw [List.length_map, hR.length]
    have hST : SqT K H L (as.map V.ref) := .inl (.inl hL)
    have h16 : 1 ≤ g.length ∧ g.length ≤ 6 := ⟨gd.h1, gd.h6⟩
    have w16 : 1 ≤ wd ∧ wd ≤ 6 := ⟨gd.w1, gd.w6⟩
    refine ⟨_, rfl, _, _, _, _, _, rfl, .ty "tuple", .base (.tup hL), kit_ty (r := true) (by decide +kernel), true, rfl, ?_⟩
    refine iteF ⟨_, rfl, L, _, rfl, .inr hST, _, _, rfl, rfl, _, rfl, ite_b (fun e1 => ?_) (fun e1 => ?_)⟩
    · refine ⟨_, _, rfl, rfl, _, rfl, not_b (fun e2 => ?_) (fun e2 => ?_)⟩
      · have := of_decide_eq_false e2
        omega
      · refine ⟨_, rfl, L, rfl, ⟨_, hST⟩, for_tup (K := K) (a := L) (xs := as.map V.ref) (fun i σ H' => (∃ y, σ = [some (.ref L), y]) ∧ H' = H) ⟨⟨_, rfl⟩, rfl⟩ (fun i σ H' _ h => by rw [h.2]; exact hST) ?_ ?_⟩
        · rintro i x σ H' hx ⟨⟨y, rfl⟩, rfl⟩
          rw [List.getElem?_map] at hx
          obtain ⟨p, hp, rfl⟩ := Option.map_eq_some_iff.mp hx
          obtain ⟨row, hrow, hH⟩ := hR.get hp
          have hrl : (row.map oV).length = wd := by rw [List.length_map]; exact gd.rows row (List.mem_of_getElem? hrow)
          have hrT : SqT K H' p (row.map oV) := .inl (.inl hH)
          obtain ⟨p0, hp0⟩ : ∃ p0, as[0]? = some p0 := by
            cases as with
            | nil =>
              have := hR.length
              simp at this
              omega
            | cons a0 r => exact ⟨a0, rfl⟩
          obtain ⟨row0, hrow0, hH0⟩ := hR.get hp0
          have hr0l : (row0.map oV).length = wd := by rw [List.length_map]; exact gd.rows row0 (List.mem_of_getElem? hrow0)
          refine ⟨_, rfl, _, _, _, _, _, rfl, .ty "tuple", .base (.tup hH), kit_ty (r := true) (by decide +kernel), true, rfl, ?_⟩
          refine iteF ⟨_, rfl, p, _, rfl, .inr hrT, _, _, rfl, rfl, _, rfl, ite_b (fun e3 => ?_) (fun e3 => ?_)⟩
          · refine ⟨_, _, rfl, rfl, _, rfl, not_b (fun e4 => ?_) (fun e4 => ?_)⟩
            · have := of_decide_eq_false e4
              omega
            · refine ⟨_, rfl, p, _, rfl, .inr hrT, _, rfl, L, _, 0, .ref p0, rfl, rfl, hST, atI_nat (j := 0) (by rw [List.getElem?_map, hp0]; rfl), p0, _, rfl, .inr (.inl (.inl hH0)), rfl, _, rfl, ?_⟩
              refine iteNS (by rw [hrl, hr0l]) ?_
              exact ⟨⟨_, rfl⟩, rfl⟩
          · have := of_decide_eq_false e3
            omega
        · rintro σ H' ⟨⟨y, rfl⟩, rfl⟩
          exact q
    · have := of_decide_eq_false e1
      omega
end
end Wl




/-! A dict comprehension of two clauses: {k: v for a in .. if .. for b in .. if ..}. -/
namespace Wl
open PySem PySem.Spec PyProof.Rows L2
/-- the whole of it -/
abbrev two (kx vx ta ia tb ib : Expr) (fa fb : List Expr) (sc : Scope) (pos : Pos) : Expr := .DictComp kx vx [⟨ta, ia, fa, 0⟩, ⟨tb, ib, fb, 0⟩] sc pos
/-- a clause's tests -/
abbrev testsOf (fs : List Expr) (env : Env) : Sem Bool :=
  forIn fs true fun c r => if r = true then (do let y ← isTrue c env (eval c env); pure (ForInStep.yield y)) else pure (ForInStep.yield r)
/-- a turn of a clause: no item is left, or one comes, is stored and tested -/
def Turned (M : Model) (A : Around) (env : Env) (tg : Expr) (it : Value) (fs : List Expr) (stop : Shared → Prop) (k : Bool → Shared → Prop) (E : Value → Shared → Prop) (s : Shared) : Prop :=
  wpAny M A (pyNext it) (fun r s1 => match r with
    | none => stop s1
    | some u => wpAny M A (letOwnedTupleGo tg it u) (fun _ s2 => wpAny M A (assign tg env u) (fun _ s3 => wpAny M A (testsOf fs env) k E s3) E s2) E s1) E s
section
variable {kx vx ta ia tb ib : Expr} {fa fb : List Expr} {sc : Scope} {pos : Pos} {it : Value} {D : Addr} {env : Env}
theorem turnA : compTurn (two kx vx ta ia tb ib fa fb sc pos) 0 it (.ref D) env = (do
    standAt ia.pos
    match ← pyNext it with
    | none => pure (.done .next)
    | some u =>
      letOwnedTupleGo ta it u
      assign ta env u
      let yes ← testsOf fa env
      if yes = true then
        let x ← eval ib env
        standAt ib.pos
        let z ← foldedSetIterable ib env x
        let _ ← runOwn (.compStart (two kx vx ta ia tb ib fa fb sc pos) 1 (← holding [z] (pyIter z)) (.ref D) env) env
      again (.compLoop (two kx vx ta ia tb ib fa fb sc pos) 0 it (.ref D) env)) := rfl
theorem turnB : compTurn (two kx vx ta ia tb ib fa fb sc pos) 1 it (.ref D) env = (do
    standAt ib.pos
    match ← pyNext it with
    | none => pure (.done .next)
    | some u =>
      letOwnedTupleGo tb it u
      assign tb env u
      let yes ← testsOf fb env
      if yes = true then
        (do
          let a ← eval kx env
          let b ← holding [a] (eval vx env)
          standAt { kx.pos with endLine := vx.pos.endLine, endCol := vx.pos.endCol }
          holding [a, b] (dictSet D a b))
      again (.compLoop (two kx vx ta ia tb ib fa fb sc pos) 1 it (.ref D) env)) := rfl
variable {prog : Program} {w : World} {A : Around} {R : Result → Shared → Prop} {s : Shared}
/-- what an error leaves behind it -/
abbrev errs (prog : Program) (w : World) (A : Around) (env : Env) (R : Result → Shared → Prop) : Value → Shared → Prop := notedBy (model prog w) A env fun e s' => R (.error e) s'
theorem loopA (plain : ∀ x, foldedSetIterable ib env x = pure x) (I : Nat → Shared → Prop)
    (turn : ∀ n s, I n s → Turned (model prog w) A env ta it fa (R (.ok .next)) (fun yes s1 => if yes = true then
        wpAny (model prog w) A (eval ib env) (fun x s2 => wpAny (model prog w) A (pyIter x) (fun j s3 => codeAny (model prog w) A (.compStart (two kx vx ta ia tb ib fa fb sc pos) 1 j (.ref D) env) (fun r s4 => (∃ f, r = .ok f) ∧ ∃ m, m < n ∧ I m s4) s3) (errs prog w A env R) s2) (errs prog w A env R) s1
      else ∃ m, m < n ∧ I m s1) (errs prog w A env R) s)
    (n : Nat) (h : I n s) : codeAny (model prog w) A (.compLoop (two kx vx ta ia tb ib fa fb sc pos) 0 it (.ref D) env) R s := by
  refine codeAny_loop rfl I (fun n s hI => wpAny_noted ?_) n h
  have key := turn n s hI
  unfold Turned at key
  show wpAny _ A (compTurn (two kx vx ta ia tb ib fa fb sc pos) 0 it (.ref D) env) _ _ s
  rw [turnA]
  refine wpAny_bind (wpAny_standAt (wpAny_bind (wpAny_mono key ?_ fun _ _ z => z)))
  rintro (_ | u) s1 k1
  · exact wpAny_pure k1
  · refine wpAny_bind (wpAny_mono k1 (fun _ s2 k2 => wpAny_bind (wpAny_mono k2 (fun _ s3 k3 => wpAny_bind (wpAny_mono k3 ?_ fun _ _ z => z)) fun _ _ z => z)) fun _ _ z => z)
    rintro (_ | _) s4 k4
    · exact wpAny_pure ⟨rfl, k4⟩
    · refine wpAny_bind (wpAny_mono k4 (fun x s5 k5 => wpAny_bind (wpAny_standAt (wpAny_bind (wpAny_of_eq (plain x) (wpAny_bind (wpAny_holding (wpAny_mono k5 (fun j s6 k6 => ?_) fun _ _ z => z))))))) fun _ _ z => z)
      refine wpAny_bind (wpAny_runOwn ?_)
      rw [Around.mark_none]
      refine codeAny_mono k6 ?_
      rintro (e | f) s7 ⟨⟨g, eg⟩, k7⟩
      · cases eg
      · first
          | exact wpAny_pure ⟨rfl, k7⟩
          | exact wpAny_bind (wpAny_pure (wpAny_pure ⟨rfl, k7⟩))
theorem loopB (I : Nat → Shared → Prop)
    (turn : ∀ n s, I n s → Turned (model prog w) A env tb it fb (R (.ok .next)) (fun yes s1 => if yes = true then
        wpAny (model prog w) A (eval kx env) (fun a s2 => wpAny (model prog w) A (eval vx env) (fun b s3 => wpAny (model prog w) A (dictSet D a b) (fun _ s4 => ∃ m, m < n ∧ I m s4) (errs prog w A env R) s3) (errs prog w A env R) s2) (errs prog w A env R) s1
      else ∃ m, m < n ∧ I m s1) (errs prog w A env R) s)
    (n : Nat) (h : I n s) : codeAny (model prog w) A (.compLoop (two kx vx ta ia tb ib fa fb sc pos) 1 it (.ref D) env) R s := by
  refine codeAny_loop rfl I (fun n s hI => wpAny_noted ?_) n h
  have key := turn n s hI
  unfold Turned at key
  show wpAny _ A (compTurn (two kx vx ta ia tb ib fa fb sc pos) 1 it (.ref D) env) _ _ s
  rw [turnB]
  refine wpAny_bind (wpAny_standAt (wpAny_bind (wpAny_mono key ?_ fun _ _ z => z)))
  rintro (_ | u) s1 k1
  · exact wpAny_pure k1
  · refine wpAny_bind (wpAny_mono k1 (fun _ s2 k2 => wpAny_bind (wpAny_mono k2 (fun _ s3 k3 => wpAny_bind (wpAny_mono k3 ?_ fun _ _ z => z)) fun _ _ z => z)) fun _ _ z => z)
    rintro (_ | _) s4 k4
    · exact wpAny_pure ⟨rfl, k4⟩
    · refine wpAny_bind (wpAny_bind (wpAny_mono k4 (fun a s5 k5 => ?_) fun _ _ z => z))
      refine wpAny_bind (wpAny_holding (wpAny_mono k5 (fun b s6 k6 => ?_) fun _ _ z => z))
      exact wpAny_bind (wpAny_standAt (wpAny_holding (wpAny_mono k6 (fun _ s7 k7 => wpAny_pure ⟨rfl, k7⟩) fun _ _ z => z)))
theorem startB (h0 : codeAny (model prog w) A (.compLoop (two kx vx ta ia tb ib fa fb sc pos) 1 it (.ref D) env) R s)
    (h1 : wpAny (model prog w) A (pyIter it) (fun j s' => codeAny (model prog w) A (.compLoop (two kx vx ta ia tb ib fa fb sc pos) 1 j (.ref D) env) R s') (errs prog w A env R) s) :
    codeAny (model prog w) A (.compStart (two kx vx ta ia tb ib fa fb sc pos) 1 it (.ref D) env) R s := by
  refine codeAny_of_tree (wpAny_notedAt (?_ : wpAny _ _ (compStart (two kx vx ta ia tb ib fa fb sc pos) 1 it (.ref D) env) _ _ s))
  unfold compStart
  show wpAny _ _ (ask >>= _) _ _ s
  refine wpAny_bind (wpAny_askSetting (wpAny_ite ?_))
  split
  · first
      | exact wpAny_pure ⟨rfl, h0⟩
      | exact wpAny_bind (wpAny_pure (wpAny_pure ⟨rfl, h0⟩))
  · refine wpAny_bind (wpAny_rule ?_)
    show wpAny _ _ (standAt ib.pos >>= _) _ _ s
    exact wpAny_bind (wpAny_standAt (wpAny_bind (wpAny_mono h1 (fun j s' h' => wpAny_pure ⟨rfl, h'⟩) fun _ _ z => z)))
end
section
variable {Y : Cx} {pins : List (Addr × Obj)} {σ : L2.St} {H : Hp} {s : Shared} {tg : Expr} {J : It} {fp : List Addr} {it : Addr} {tn : Nat → Heap → Prop}
/-- an item comes: stored and tested, the walk's objects held meanwhile -/
theorem clause {g : TG} {tt : TT} {fs : List Expr} {i : Nat} {C : L2.St → Prop} {Z : L2.St → Bool → Hp → Prop} {stop : Shared → Prop} {k : Bool → Shared → Prop} {E : Value → Shared → Prop}
    (quiet : Y.xe = fun _ _ => False) (hc : Y.calm = true) (T : Turn Y.prog Y.w Y.K tg J fp it tn) (pg : PG Y tg g) (pt : PTs Y fs tt) (I : L2.Inv Y pins σ H s)
    (free : ∀ {H' : Hp}, (∀ b ∈ fp, H' b = none) → ∀ b ∈ fp, FpOk Y pins H' b) (none0 : ∀ b ∈ fp, H b = none) (st : tn i s.heap) (go : J.go i H)
    (step : ∀ x H', J.yld i H x H' → g x σ H' fun σ2 H2 => C σ2 ∧ tt σ2 H2 (Z σ2))
    (next : ∀ {s1 s2 : Shared} {σ2 : L2.St} {b : Bool} {H2 : Hp}, tn (i + 1) s1.heap → C σ2 → L2.Inv Y (pins ++ pinsAt fp s1.heap) σ2 H2 s2 → Z σ2 b H2 → k b s2) :
    Turned (model Y.prog Y.w) Y.A Y.env tg (.ref it) fs stop k E s := by
  unfold Turned
  refine thnF (T.item Y rfl rfl rfl hc i pins s σ H (fun _ _ => False) I (free none0) st go) ?_
  rintro _ s1 ⟨u, rfl, h1⟩
  refine thnF h1 ?_
  rintro _ s2 ⟨x, H2, I2, rx, yx, st2, n2⟩
  have held := I2.pinned (free n2) (T.obj _ _ st2)
  have run1 := pg.run _ s2 _ H2 x u _ held rx (step x H2 yx)
  rw [quiet] at run1
  refine thnF run1 ?_
  rintro _ s3 ⟨σ3, H3, I3, c3, q3⟩
  have run2 := pt.run _ s3 σ3 H3 _ I3 q3
  rw [quiet] at run2
  refine thnF run2 ?_
  rintro b s4 ⟨H4, I4, q4⟩
  exact next st2 c3 I4 q4
/-- behind the turn the walk's objects stand as they did -/
theorem walk_stays {i : Nat} {h : Heap} (T : Turn Y.prog Y.w Y.K tg J fp it tn) (st : tn i h) (I : L2.Inv Y (pins ++ pinsAt fp h) σ H s) : tn i s.heap ∧ ∀ b ∈ fp, H b = none := by
  have each : ∀ b ∈ fp, ∀ o, h.get? b = some o → s.heap.get? b = some o ∧ H b = none := fun b hb o e => by
    have z := I.pin (b, o) (List.mem_append_right _ (List.mem_append_right _ (mem_pinsAt hb e)))
    exact ⟨z.1, z.2.1⟩
  refine ⟨T.keep i h s.heap st fun b hb o e => (each b hb o e).1, fun b hb => ?_⟩
  obtain ⟨o, e, _⟩ := T.obj i h st b hb
  exact (each b hb o e).2
end
section
variable {X : Cx}
/-- the second clause: its walk, in each turn of it a pair put -/
def InnD (gb : TG) (ttb : TT) (tk tv : TE) (vs1 : List Nat) (D : Addr) (σ2 : L2.St) (Nx : Hp → Prop) (J1 : It) (H4 : Hp) : Prop :=
  ∃ W1 : Nat → Nat → Hp → Prop, (∃ m, W1 0 m H4) ∧ ∀ j k H, W1 j k H → (J1.stop j H ∧ Nx H) ∨ (J1.go j H ∧ ∃ Nx1 : Hp → Prop, (∀ H', Nx1 H' → ∃ k', k' < k ∧ W1 (j + 1) k' H') ∧
    ∀ x H', J1.yld j H x H' → gb x (wipe σ2 vs1) H' fun σ3 H5 => wipe σ3 vs1 = wipe σ2 vs1 ∧ ttb σ3 H5 fun yes H6 =>
      if yes = true then tk σ3 H6 fun y H7 => tv σ3 H7 fun z H8 => ∃ kvs k, y = kV k ∧ H8 D = some (.dK kvs) ∧ kvs.length < sizeLine ∧ Nx1 (upd H8 D (.dK (putK kvs k z))) else Nx1 H6)
/-- what the comprehension asks: the first clause's walk, in each turn the second's; vs: the names of both clauses, vs1: of the second -/
def tDc2 (wa : TI) (ga : TG) (tta : TT) (wb : TI) (gb : TG) (ttb : TT) (tk tv : TE) (vs vs1 : List Nat) : TE := fun σ H Q => wa σ H fun J H1 => ∀ D, H1 D = none →
  ∃ W : Nat → Nat → Hp → Prop, (∃ m, W 0 m (upd H1 D (.dK []))) ∧ ∀ i m H, W i m H → (J.stop i H ∧ Q (.ref D) H) ∨ (J.go i H ∧ ∃ Nx : Hp → Prop, (∀ H', Nx H' → ∃ m', m' < m ∧ W (i + 1) m' H') ∧
    ∀ x H', J.yld i H x H' → ga x (wipe σ vs) H' fun σ2 H2 => wipe σ2 vs = wipe σ vs ∧ tta σ2 H2 fun yes H3 => if yes = true then wb σ2 H3 (InnD gb ttb tk tv vs1 D σ2 Nx) else Nx H3)
/-- the first clause by a walk that is known -/
theorem dc2_it {J : It} {n : Nat} {G : Hp → Prop} {Y : Nat → Hp → V → Hp → Prop} (w : L2.Walk J n G Y) {ga gb : TG} {tta ttb : TT} {wb : TI} {tk tv : TE} {vs vs1 : List Nat} {σ : L2.St} {H1 : Hp} {D : Addr} {Qd : Hp → Prop} (Pv : Nat → Hp → Prop) (h0 : Pv 0 (upd H1 D (.dK []))) (hG : ∀ i H, i ≤ n → Pv i H → G H)
    (hs : ∀ i x H H', i < n → Pv i H → Y i H x H' → ga x (wipe σ vs) H' fun σ2 H2 => wipe σ2 vs = wipe σ vs ∧ tta σ2 H2 fun yes H3 => if yes = true then wb σ2 H3 (InnD gb ttb tk tv vs1 D σ2 (Pv (i + 1))) else Pv (i + 1) H3) (hd : ∀ H, Pv n H → Qd H) :
    ∃ W : Nat → Nat → Hp → Prop, (∃ m, W 0 m (upd H1 D (.dK []))) ∧ ∀ i m H, W i m H → (J.stop i H ∧ Qd H) ∨ (J.go i H ∧ ∃ Nx : Hp → Prop, (∀ H', Nx H' → ∃ m', m' < m ∧ W (i + 1) m' H') ∧
      ∀ x H', J.yld i H x H' → ga x (wipe σ vs) H' fun σ2 H2 => wipe σ2 vs = wipe σ vs ∧ tta σ2 H2 fun yes H3 => if yes = true then wb σ2 H3 (InnD gb ttb tk tv vs1 D σ2 Nx) else Nx H3) := by
  refine ⟨fun i m H => m + i = n ∧ Pv i H, ⟨n, by simp, h0⟩, fun i m H ⟨e, p⟩ => ?_⟩
  have q := hG i H (by omega) p
  by_cases lt : i < n
  · exact .inr ⟨w.goes i H lt q, Pv (i + 1), fun H' p' => ⟨m - 1, by omega, by omega, p'⟩, fun x H' y => hs i x H H' lt p (w.yields i H x H' lt q y)⟩
  · obtain rfl : i = n := by omega
    exact .inl ⟨w.stops H q, hd H p⟩
/-- the second clause by a walk that is known -/
theorem inn_it {J1 : It} {n : Nat} {G : Hp → Prop} {Y : Nat → Hp → V → Hp → Prop} (w : L2.Walk J1 n G Y) {gb : TG} {ttb : TT} {tk tv : TE} {vs1 : List Nat} {σ2 : L2.St} {H4 : Hp} {D : Addr} {Nx : Hp → Prop} (Pv : Nat → Hp → Prop) (h0 : Pv 0 H4) (hG : ∀ i H, i ≤ n → Pv i H → G H)
    (hs : ∀ j x H H', j < n → Pv j H → Y j H x H' → gb x (wipe σ2 vs1) H' fun σ3 H5 => wipe σ3 vs1 = wipe σ2 vs1 ∧ ttb σ3 H5 fun yes H6 =>
      if yes = true then tk σ3 H6 fun y H7 => tv σ3 H7 fun z H8 => ∃ kvs k, y = kV k ∧ H8 D = some (.dK kvs) ∧ kvs.length < sizeLine ∧ Pv (j + 1) (upd H8 D (.dK (putK kvs k z))) else Pv (j + 1) H6) (hd : ∀ H, Pv n H → Nx H) :
    InnD gb ttb tk tv vs1 D σ2 Nx J1 H4 := by
  refine ⟨fun j k H => k + j = n ∧ Pv j H, ⟨n, by simp, h0⟩, fun j k H ⟨e, p⟩ => ?_⟩
  have q := hG j H (by omega) p
  by_cases lt : j < n
  · exact .inr ⟨w.goes j H lt q, Pv (j + 1), fun H' p' => ⟨k - 1, by omega, by omega, p'⟩, fun x H' y => hs j x H H' lt p (w.yields j H x H' lt q y)⟩
  · obtain rfl : j = n := by omega
    exact .inl ⟨w.stops H q, hd H p⟩
/-- a block of this scope -/
abbrev inBlk (X : Cx) (sc : Scope) (s : Shared) (H : Hp) (C : Addr) (cl : List (Str × Addr)) (fp : List Addr) : Cx := X.blk s H sc (compEnvC sc cl C X.env) fp
theorem pe_dc2 {kx vx ta ia tb ib : Expr} {fa fb : List Expr} {sc : Scope} {own : List (Str × Nat)} {vs1 : List Nat} {pos : Pos} {wa wb : TI} {ga gb : TG} {tta ttb : TT} {tk tv : TE} (hc : X.calm = true) (hN : X.N.Nodup) (hi : PI X ta ia wa) (ok : BlkOk X.N X.env.scope sc own) (hv : ∀ i ∈ vs1, i ∈ own.map (·.2))
    (hga : ∀ s H C cl fp, PG (inBlk X sc s H C cl fp) ta ga) (hta : ∀ s H C cl fp, PTs (inBlk X sc s H C cl fp) fa tta) (hib : ∀ s H C cl fp, PI (inBlk X sc s H C cl fp) tb ib wb) (hgb : ∀ s H C cl fp, PG (inBlk X sc s H C cl fp) tb gb) (htb : ∀ s H C cl fp, PTs (inBlk X sc s H C cl fp) fb ttb)
    (hk : ∀ s H C cl fp, PE (inBlk X sc s H C cl fp) kx tk) (he : ∀ s H C cl fp, PE (inBlk X sc s H C cl fp) vx tv)
    (pa : ∀ x, foldedSetIterable ia X.env x = pure x := by intro _; rfl) (pb : ∀ env x, foldedSetIterable ib env x = pure x := by intro _ _; rfl) :
    PE X (.DictComp kx vx [⟨ta, ia, fa, 0⟩, ⟨tb, ib, fb, 0⟩] sc pos) (tDc2 wa ga tta wb gb ttb tk tv (own.map (·.2)) vs1) := by
  refine ⟨fun pins s σ H Q I h => ?_⟩
  rw [arm_eval_DictComp]
  have clo : ∀ y ∈ sc.names, y.2 = .free → ∃ c, X.env.cells.lookup y.1 = some c := fun y hy e => (ok.free y hy e).elim (fun k => I.ok.has _ (.inl k)) fun k => I.ok.has _ (.inr k)
  refine wpAny_comprehension_free rfl pa (closure_ok clo) ok.kind (fun y hy e => by rw [ok.uniq y hy, e]) (thn (hi.run pins s σ H _ I h) fun _ _ h1 => thn h1 ?_)
  rintro _ s2 ⟨it, fp, tn, J, H2, rfl, I2, T, st2, f2, q⟩
  refine wpAny_newObj_type (newEnv_comp ?_)
  generalize hD : s2.heap.objs.size = D
  have newD : H2 D = none := I2.hok.fresh (Nat.le_of_eq hD)
  obtain ⟨W, ⟨m0, w0⟩, turn⟩ := q D newD
  generalize hs3 : ({ s2 with heap := s2.heap.push { cls := .type "dict", data := .dict #[] } } : Shared) = s3
  have e3 : s3.heap = s2.heap.push { cls := .type "dict", data := .dict #[] } := by rw [← hs3]
  have I3 : L2.Inv X pins σ (upd H2 D (.dK [])) s3 := by
    rw [← hs3]
    exact I2.laid (t' := s2.toks) (fun b o e => Heap.get?_push_of_some _ e) (Nat.le_of_eq hD) (hD ▸ dk_empty s2.heap I2.big)
  have f3 : ∀ b ∈ fp, FpOk X pins (upd H2 D (.dK [])) b ∧ b < s3.heap.objs.size := fun b hb => by
    obtain ⟨o, e, _⟩ := T.obj _ _ st2 b hb
    have small := Heap.lt_size e
    refine ⟨⟨?_, (f2 b hb).2⟩, ?_⟩
    · rw [upd_ne (Nat.ne_of_lt (hD ▸ small))]
      exact (f2 b hb).1
    · rw [e3, Heap.size_push]
      exact Nat.lt_succ_of_lt small
  have st3 : tn 0 s3.heap := T.keep _ _ _ st2 fun b _ o e => by
    rw [e3]
    exact Heap.get?_push_of_some _ e
  have I4 := block_start I3 ok hN f3
  generalize hcl : cellsFrom (s3.heap.objs.size + 1) sc.names (cloFrom X.env.cells sc.names []) = cl at I4
  show codeAny _ _ (.compStart (two kx vx ta ia tb ib fa fb sc pos) 0 (.ref it) (.ref D) (compEnvC sc cl s3.heap.objs.size X.env)) (compPost (model X.prog X.w) X.A X.xe none (EP X pins σ Q) (.ref D) s3.heap.objs.size) { s3 with heap := pushCells (s3.heap.push { cls := .type "dict", data := .dict #[] }) sc.names }
  have none3 : ∀ b ∈ fp, (upd H2 D (.dK [])) b = none := fun b hb => (f3 b hb).1.1
  generalize hH3 : upd H2 D (.dK []) = H3 at I3 I4 w0 none3 f3
  have jga : PG (X.blk s3 H3 sc (compEnvC sc cl s3.heap.objs.size X.env) fp) ta ga := hga s3 H3 s3.heap.objs.size cl fp
  have jta : PTs (X.blk s3 H3 sc (compEnvC sc cl s3.heap.objs.size X.env) fp) fa tta := hta s3 H3 s3.heap.objs.size cl fp
  have jib : PI (X.blk s3 H3 sc (compEnvC sc cl s3.heap.objs.size X.env) fp) tb ib wb := hib s3 H3 s3.heap.objs.size cl fp
  have jgb : PG (X.blk s3 H3 sc (compEnvC sc cl s3.heap.objs.size X.env) fp) tb gb := hgb s3 H3 s3.heap.objs.size cl fp
  have jtb : PTs (X.blk s3 H3 sc (compEnvC sc cl s3.heap.objs.size X.env) fp) fb ttb := htb s3 H3 s3.heap.objs.size cl fp
  have jk : PE (X.blk s3 H3 sc (compEnvC sc cl s3.heap.objs.size X.env) fp) kx tk := hk s3 H3 s3.heap.objs.size cl fp
  have je : PE (X.blk s3 H3 sc (compEnvC sc cl s3.heap.objs.size X.env) fp) vx tv := he s3 H3 s3.heap.objs.size cl fp
  generalize hs4 : ({ s3 with heap := pushCells (s3.heap.push { cls := .type "dict", data := .dict #[] }) sc.names } : Shared) = s4 at I4 ⊢
  have st4 : tn 0 s4.heap := T.keep _ _ _ st3 fun b _ o e => by
    rw [← hs4]
    exact pushCells_keeps _ _ _ _ (Heap.get?_push_of_some _ e)
  generalize hce : compEnvC sc cl s3.heap.objs.size X.env = ce at I4 jga jta jib jgb jtb jk je ⊢
  have cL : ce.locals = s3.heap.objs.size := by
    subst hce
    rfl
  have free0 : ∀ {H' : Hp}, (∀ b ∈ fp, H' b = none) → ∀ b ∈ fp, FpOk (X.blk s3 H3 sc ce fp) [] H' b := fun n b hb =>
    ⟨n b hb, (I4.ok.exf b hb).1, I4.ok.exfs b hb, .inl hb, (I4.ok.exf b hb).2, fun p hp => nomatch (show p ∈ ([] : List (Addr × Obj)) from hp)⟩
  have loop : codeAny (model X.prog X.w) X.A (.compLoop (two kx vx ta ia tb ib fa fb sc pos) 0 (.ref it) (.ref D) ce) (compPost (model X.prog X.w) X.A X.xe none (EP X pins σ Q) (.ref D) s3.heap.objs.size) s4 := by
    refine loopA (pb ce) (fun n s' => ∃ i H', L2.Inv (X.blk s3 H3 sc ce fp) [] (wipe σ (own.map (·.2))) H' s' ∧ tn i s'.heap ∧ (∀ b ∈ fp, H' b = none) ∧ W i n H') ?_ m0 ⟨0, H3, I4, st4, none3, w0⟩
    rintro n s5 ⟨i, H5, I5, st5, n5, w5⟩
    rcases turn i n H5 w5 with ⟨stop, qq⟩ | ⟨go, Nx, hNx, step⟩
    · unfold Turned
      refine thnF (T.done (X.blk s3 H3 sc ce fp) rfl rfl rfl hc i [] s5 _ H5 (fun _ _ => False) I5 (free0 n5) st5 stop) ?_
      rintro _ s6 ⟨rfl, I6⟩
      have I7 : L2.Inv X pins σ H5 s6 := I3.call' (ch := fp) I6.os I6.base I6.hok I6.bare fun b hb => by
        obtain ⟨⟨_, a1, _, a3, a4, a5⟩, _⟩ := f3 b hb
        exact ⟨a3, a1, a4, a5⟩
      have nC : H5 s3.heap.objs.size = none := cL ▸ (show H5 ce.locals = none from I6.free)
      obtain ⟨m, hn, _⟩ := I6.loc
      have hn : s6.heap.Ns s3.heap.objs.size m := cL ▸ (show s6.heap.Ns ce.locals m from hn)
      obtain ⟨g0, g1, _, g3, g4, g5⟩ := I3.fpOk (H' := H5) (Nat.le_refl _) nC
      exact ⟨m, hn, fun h2 sb => ⟨.ref D, H5, I7.turned (t' := s6.toks) (fun b o hb e => (sb.2 b hb).trans e) g0 g1 g3 g4 g5, rfl, qq⟩⟩
    · refine clause (Y := X.blk s3 H3 sc ce fp) rfl hc T jga jta I5 free0 n5 st5 go step ?_
      intro s6 s7 σ7 b H7 st6 w7 I7 q7
      have hl7 : (wipe σ (own.map (·.2))).length = σ7.length := by rw [← w7, wipe_length]
      have fin : ∀ {σ8 : L2.St} {s8 : Shared} {H8 : Hp}, L2.Inv (X.blk s3 H3 sc ce fp) ([] ++ pinsAt fp s6.heap) σ8 H8 s8 → (wipe σ (own.map (·.2))).length = σ8.length → (∀ (j : Nat) v, (wipe σ (own.map (·.2)))[j]? = some (some v) → σ8[j]? = some (some v)) → Nx H8 →
          ∃ m, m < n ∧ ∃ i H', L2.Inv (X.blk s3 H3 sc ce fp) [] (wipe σ (own.map (·.2))) H' s8 ∧ tn i s8.heap ∧ (∀ b ∈ fp, H' b = none) ∧ W i m H' := by
        intro σ8 s8 H8 I8 hl hk nx
        obtain ⟨m', hm, w'⟩ := hNx H8 nx
        obtain ⟨t1, t2⟩ := walk_stays (Y := X.blk s3 H3 sc ce fp) T st6 I8
        exact ⟨m', hm, i + 1, H8, (I8.unpinned (pins := [])).weak hl hk, t1, t2, w'⟩
      cases b with
      | false =>
        rw [if_neg (by decide)] at q7 ⊢
        exact fin I7 hl7 (fun j v e => (wipe_some (w7.symm ▸ e)).1) q7
      | true =>
        rw [if_pos rfl] at q7 ⊢
        refine thnF (jib.run _ s7 σ7 H7 _ I7 q7) fun _ s8 h8 => thnF h8 ?_
        rintro _ s9 ⟨it1, fp1, tn1, J1, H9, rfl, I9, T1, st9, f9, W1, ⟨m1, w1⟩, turn1⟩
        have free1 : ∀ {H' : Hp}, (∀ b ∈ fp1, H' b = none) → ∀ b ∈ fp1, FpOk (X.blk s3 H3 sc ce fp) ([] ++ pinsAt fp s6.heap) H' b := fun n b hb => ⟨n b hb, (f9 b hb).2⟩
        have loop1 : codeAny (model X.prog X.w) X.A (.compLoop (two kx vx ta ia tb ib fa fb sc pos) 1 (.ref it1) (.ref D) ce) (fun r s' => (∃ f, r = .ok f) ∧ ∃ m, m < n ∧ ∃ i H', L2.Inv (X.blk s3 H3 sc ce fp) [] (wipe σ (own.map (·.2))) H' s' ∧ tn i s'.heap ∧ (∀ b ∈ fp, H' b = none) ∧ W i m H') s9 := by
          refine loopB (fun k s' => ∃ j H', L2.Inv (X.blk s3 H3 sc ce fp) ([] ++ pinsAt fp s6.heap) (wipe σ7 vs1) H' s' ∧ tn1 j s'.heap ∧ (∀ b ∈ fp1, H' b = none) ∧ W1 j k H') ?_ m1 ⟨0, H9, I9.weak (wipe_length _ _) (fun j v e => (wipe_some e).1), st9, fun b hb => (f9 b hb).1, w1⟩
          rintro k s10 ⟨j, H10, I10, st10, n10, w10⟩
          rcases turn1 j k H10 w10 with ⟨stop1, nx1⟩ | ⟨go1, Nx1, hNx1, step1⟩
          · unfold Turned
            refine thnF (T1.done (X.blk s3 H3 sc ce fp) rfl rfl rfl hc j _ s10 (wipe σ7 vs1) H10 (fun _ _ => False) I10 (free1 n10) st10 stop1) ?_
            rintro _ s11 ⟨rfl, I11⟩
            refine ⟨⟨_, rfl⟩, fin I11 (hl7.trans (wipe_length σ7 vs1).symm) (fun j v e => ?_) nx1⟩
            obtain ⟨e1, e2⟩ := wipe_some (w7.symm ▸ e)
            rw [wipe_out fun z => e2 (hv j z)]
            exact e1
          · refine clause (Y := X.blk s3 H3 sc ce fp) rfl hc T1 jgb jtb I10 free1 n10 st10 go1 step1 ?_
            intro s11 s12 σ12 b1 H12 st11 w12 I12 q12
            have fin1 : ∀ {s' : Shared} {H' : Hp}, L2.Inv (X.blk s3 H3 sc ce fp) (([] ++ pinsAt fp s6.heap) ++ pinsAt fp1 s11.heap) σ12 H' s' → Nx1 H' → ∃ m, m < k ∧ ∃ j H', L2.Inv (X.blk s3 H3 sc ce fp) ([] ++ pinsAt fp s6.heap) (wipe σ7 vs1) H' s' ∧ tn1 j s'.heap ∧ (∀ b ∈ fp1, H' b = none) ∧ W1 j m H' := by
              intro s' H' I' nx
              obtain ⟨m', hm, w'⟩ := hNx1 H' nx
              obtain ⟨t1, t2⟩ := walk_stays (Y := X.blk s3 H3 sc ce fp) T1 st11 I'
              exact ⟨m', hm, j + 1, H', I'.unpinned.weak (by rw [← w12, wipe_length]) (fun i v e => (wipe_some (w12.symm ▸ e)).1), t1, t2, w'⟩
            cases b1 with
            | false =>
              rw [if_neg (by decide)] at q12 ⊢
              exact fin1 I12 q12
            | true =>
              rw [if_pos rfl] at q12 ⊢
              refine thnF (jk.run _ s12 σ12 H12 _ I12 q12) ?_
              rintro a s13 ⟨ya, H13, I13, ra, q13⟩
              refine thnF (je.run _ s13 σ12 H13 _ I13 q13) ?_
              rintro b s14 ⟨yb, H14, I14, rb, kvs, key, rfl, hD14, small, nx⟩
              exact d_dictSet (X := X.blk s3 H3 sc ce fp) I14 hD14 small ra rb fun s15 I15 => fin1 I15 nx
        exact startB loop1 (T1.self X.A 0 _ _ _ st9 loop1)
  exact codeAny_compStart_dict loop (T.self X.A 0 _ _ _ st4 loop)
end
end Wl

namespace Wl
open PySem PySem.Spec PyProof.Rows L2
/-- the heap keeps all but its lists -/
def Keep (H H' : Hp) : Prop := ∀ p o, (∀ xs, o ≠ .lst xs) → H p = some o → H' p = some o
theorem Keep.refl (H : Hp) : Keep H H := fun _ _ _ h => h
theorem Keep.trans {H H1 H2 : Hp} (a : Keep H H1) (b : Keep H1 H2) : Keep H H2 := fun p o n h => b p o n (a p o n h)
theorem kp_same {H H' : Hp} (s : Same H H') : Keep H H' := fun p o _ h => s p _ h
theorem kp_x {a : Addr} {H H' : Hp} {ys : List V} (s : SameX a H H') (ha : H a = some (.lst ys)) : Keep H H' := fun p o n h => s p _ (fun e => by
  subst e
  rw [ha] at h
  exact n _ (Option.some.inj h).symm) h
theorem kp_upd {a : Addr} {H : Hp} {ys : List V} {o : HO} (ha : H a = some (.lst ys)) : Keep H (upd H a o) := kp_x sameX_upd ha
theorem kp_new {p : Addr} {H : Hp} {o : HO} (hp : H p = none) : Keep H (upd H p o) := kp_same (same_new hp)
theorem Keep.tk {H H' : Hp} (k : Keep H H') : TupKeep H H' := fun p xs h => k p _ (fun ys e => by cases e) h
theorem tk_updD {a : Addr} {H : Hp} {kvs : List (Key × V)} {o : HO} (ha : H a = some (.dK kvs)) : TupKeep H (upd H a o) := fun p xs h => by
  rw [upd_ne (ne_of h ha (by intro z; cases z))]
  exact h
/-- the dict's pairs tell these spots -/
def Ent (H : Hp) (kv : Key × V) (s : Str × Nat × Nat) : Prop := kv.1 = Sum.inr s.1 ∧ ∃ t, kv.2 = .ref t ∧ H t = some (.tup [.int s.2.1, .int s.2.2])
def SpotsAt (H : Hp) (d : Addr) (sp : List (Str × Nat × Nat)) : Prop := ∃ kvs, H d = some (.dK kvs) ∧ Each (Ent H) kvs sp
theorem ent_keep {H H' : Hp} (k : TupKeep H H') {kvs : List (Key × V)} {sp : List (Str × Nat × Nat)} (h : Each (Ent H) kvs sp) : Each (Ent H') kvs sp :=
  Each.mono (fun _ _ ⟨e, t, e2, ht⟩ => ⟨e, t, e2, k _ _ ht⟩) h
theorem SpotsAt.keep {H H' : Hp} {d : Addr} {sp : List (Str × Nat × Nat)} (h : SpotsAt H d sp) (k : Keep H H') : SpotsAt H' d sp := by
  obtain ⟨kvs, h1, h2⟩ := h
  exact ⟨kvs, k _ _ (fun ys e => by cases e) h1, ent_keep k.tk h2⟩
theorem ent_none {H : Hp} {z : Str} : ∀ {kvs : List (Key × V)} {sp : List (Str × Nat × Nat)}, Each (Ent H) kvs sp → z ∉ sp.map (·.1) → valV kvs (Sum.inr z : Key) = none
  | _, _, .nil, _ => rfl
  | _, _, .cons (a := kv) (b := s) r t, h => by
    rw [List.map_cons, List.mem_cons, not_or] at h
    rw [valV_neg (fun e => h.1 (Sum.inr.inj (e.symm.trans r.1)))]
    exact ent_none t h.2
theorem ent_some {H : Hp} {z : Str} {r c : Nat} : ∀ {kvs : List (Key × V)} {sp : List (Str × Nat × Nat)}, Each (Ent H) kvs sp → (sp.map (·.1)).Nodup → (z, r, c) ∈ sp → ∃ t, valV kvs (Sum.inr z : Key) = some (.ref t) ∧ H t = some (.tup [.int r, .int c])
  | _, _, .nil, _, h => by cases h
  | _, _, .cons (a := kv) (b := s) e t, nd, h => by
    obtain ⟨n1, n2⟩ := List.nodup_cons.mp nd
    rcases List.mem_cons.mp h with h | h
    · subst h
      obtain ⟨e1, u, e2, hu⟩ := e
      exact ⟨u, by rw [valV_pos e1, e2], hu⟩
    · have ne : ¬ s.1 = z := fun q => n1 (List.mem_map.mpr ⟨_, h, q.symm⟩)
      obtain ⟨u, e2, hu⟩ := ent_some t n2 h
      exact ⟨u, by rw [valV_neg (fun q => ne (Sum.inr.inj (e.1.symm.trans q)))]; exact e2, hu⟩
theorem ent_keys {H : Hp} : ∀ {kvs : List (Key × V)} {sp : List (Str × Nat × Nat)}, Each (Ent H) kvs sp → kvs.map (fun kv => kV kv.1) = (sp.map (·.1)).map V.str
  | _, _, .nil => rfl
  | _, _, .cons e t => by
    rw [List.map_cons, List.map_cons, List.map_cons, ent_keys t, e.1]
    rfl
section
variable {P : Program} {w : World} {K : PySem.W.Frag} {mg : Str → Option Value} {base : Heap} {f : Addr} {fd : FuncData}
/-! ### wrong_spot of a good grid -/
def spWrong : Sp := fun vs H Q _ => ∃ (L : Addr) (g : Grid) (wd : Nat), vs = [.ref L] ∧ GridAt H L g ∧ Good g wd ∧ ∀ (H' : Hp), Same H H' → Q .non H'
abbrev nWrong : List Str := ["rows", "names", "at", "row", "column", "part"]
theorem scWrong : FnScope nWrong ["rows"] (defScope sWrong) := ⟨rfl, rfl, rfl, by decide +kernel, rfl, by decide +kernel, by decide +kernel⟩
theorem take_snoc {α : Type} {l : List α} {i : Nat} {x : α} (h : l[i]? = some x) : l.take (i + 1) = l.take i ++ [x] := by
  rw [List.take_add_one, h]
  rfl
theorem len_take {α : Type} {l : List α} {i : Nat} {x : α} (h : l[i]? = some x) : (l.take i).length = i := by
  have := (List.getElem?_eq_some_iff.mp h).1
  rw [List.length_take]
  omega
/-- a name isn't among those ahead of it -/
theorem ahead_new {g : Grid} {wd : Nat} (gd : Good g wd) {i j : Nat} {row : Row} {z : Str} (hrow : g[i]? = some row) (ho : row[j]? = some (some z)) : z ∉ (spG 0 (g.take i) ++ spR i 0 (row.take j)).map (·.1) := by
  have hcz : cellAt g i j = some z := cellAt_of hrow ho
  intro hm
  obtain ⟨⟨y, r', c'⟩, hm2, rfl⟩ := List.mem_map.mp hm
  have hlt : (r', c') = (i, j) := by
    have hc2 : cellAt g r' c' = some y := by
      rcases List.mem_append.mp hm2 with h | h
      · obtain ⟨k, row2, e, h1, h2⟩ := (spG_mem _ 0).mp h
        have : r' = k := by omega
        subst this
        rw [List.getElem?_take] at h1
        split at h1
        · exact cellAt_of h1 h2
        · cases h1
      · obtain ⟨e, k, e2, h1⟩ := (spR_mem i _ 0).mp h
        have : c' = k := by omega
        subst this e
        rw [List.getElem?_take] at h1
        split at h1
        · exact cellAt_of hrow h1
        · cases h1
    obtain ⟨h1, h2⟩ := cell_inj gd.nd hc2 hcz
    rw [h1, h2]
  cases hlt
  rcases List.mem_append.mp hm2 with h | h
  · obtain ⟨k, row2, e, h1, h2⟩ := (spG_mem _ 0).mp h
    rw [List.getElem?_take] at h1
    split at h1
    · omega
    · cases h1
  · obtain ⟨e, k, e2, h1⟩ := (spR_mem i _ 0).mp h
    rw [List.getElem?_take] at h1
    split at h1
    · omega
    · cases h1
theorem ahead_len {g : Grid} {wd : Nat} (gd : Good g wd) {i j : Nat} {row : Row} (hrow : g[i]? = some row) : ((spG 0 (g.take i) ++ spR i 0 (row.take j)).map (·.1)).length ≤ 42 := by
  rw [List.map_append, spG_fst, spR_fst, List.length_append]
  have a1 := len_names (g := g.take i) (wd := wd) fun r hr => gd.rows r (List.mem_of_mem_take hr)
  have a2 : (g.take i).length ≤ 6 := by rw [List.length_take]; have := gd.h6; omega
  have a3 : (g.take i).length * wd ≤ 6 * 6 := Nat.mul_le_mul a2 gd.w6
  have a4 : (rnames (row.take j)).length ≤ (row.take j).length := List.length_filterMap_le id _
  have a5 : (row.take j).length ≤ row.length := List.length_take_le' _ _
  have a6 := gd.rows row (List.mem_of_getElem? hrow)
  have a7 := gd.w6
  omega
theorem ahead_snoc {g : Grid} {i j : Nat} {row : Row} {o : Option Str} (ho : row[j]? = some o) : spG 0 (g.take i) ++ spR i 0 (row.take (j + 1)) = spG 0 (g.take i) ++ spR i 0 (row.take j) ++ (o.toList.map fun z => (z, i, j)) := by
  rw [take_snoc ho, spR_snoc, len_take ho, Nat.zero_add, List.append_assoc]
theorem ok_wrong (F : Fun K "wrong_spot" "wrong_spot" sWrong f fd) (B : Bi mg) (hI : Has P w K mg base "is_word" 1 ["thing"] spIsWord) : FnOk P w K mg base CX0 2 f fd ["rows"] spWrong := by
  refine F.ok scWrong (fun vs H Q E h => ?_) (fun cdv A outer s H vs Q E hr h => ?_)
  · obtain ⟨L, g, wd, rfl, _⟩ := h
    rfl
  · obtain ⟨L, g, wd, rfl, hG, gd, q⟩ := h
    refine ⟨_, pss_cons (ps_set (i := 1) scWrong.nd rfl (.inl rfl) (pe_lst pa_nil))
      (pss_cons (ps_for PassesOwn.never rfl (pi_enumT (by rfl) B.enum (pa_cons (pv 0) pa_nil)) (pg_tup rfl (pgs_cons (pg_name (i := 2) scWrong.nd rfl (.inl rfl)) (pgs_cons (pg_name (i := 3) scWrong.nd rfl (.inl rfl)) pgs_nil)))
        (pss_one (ps_for PassesOwn.never rfl (pi_enumT (by rfl) B.enum (pa_cons (pv 3) pa_nil)) (pg_tup rfl (pgs_cons (pg_name (i := 4) scWrong.nd rfl (.inl rfl)) (pgs_cons (pg_name (i := 5) scWrong.nd rfl (.inl rfl)) pgs_nil)))
          (pss_cons (ps_if (pt_cmp (pc_isN (pv 5))) (pss_one ps_continue) pss_nil)
          (pss_cons (ps_if (PW.pt (pw_or (pt_not (pt_val (pe_h hI hr (pa_cons (pv 5) pa_nil)))) (pw_or1 (pt_cmpR op_in_seq (pv 5) (pv 1) (by rfl))))) (pss_one ps_never) pss_nil)
          (pss_one (ps_expr (pe_bm PySem.F.plainAttrs_list PySem.F.slot_list_append PySem.F.type_list_append mt_append (pv 1) (pa_cons (pv 5) pa_nil)))))))))
      (pss_one (ps_ret pe_non))), ?_⟩
    refine ⟨lz, fun d hd => ?_⟩
    obtain ⟨as, hL, hR⟩ := id hG
    have s0 : Same H (upd H d (.lst [])) := same_new hd
    refine ⟨_, rfl, L, _, rfl, .inl (.inl (s0 _ _ hL)), for_it (walk_enumT (K := K) (a := L) (xs := as.map V.ref)) (fun i σ H' => (∃ y2 y3 y4 y5, σ = [some (.ref L), some (.ref d), y2, y3, y4, y5]) ∧ Same H H' ∧ H' d = some (.lst (((spG 0 (g.take i)).map (·.1)).map V.str)))
      ⟨⟨_, _, _, _, rfl⟩, s0, upd_same⟩ (fun i σ H' _ h => .inl (.inl (h.2.1 _ _ hL))) ?_ ?_⟩
    · rintro i x σ H1 H2 hi ⟨⟨y2, y3, y4, y5, rfl⟩, s1, hd1⟩ ⟨T, x1, x2, rfl, hT, rfl, ex1, ex2⟩
      cases ex1
      have ex2 : (as.map V.ref)[i]? = some x2 := ex2
      rw [List.getElem?_map] at ex2
      obtain ⟨p, hp, rfl⟩ := Option.map_eq_some_iff.mp ex2
      obtain ⟨row, hrow, hH⟩ := hR.get hp
      have s2 : Same H1 (upd H1 T (.tup [.int i, .ref p])) := same_new hT
      have hp2 := s2 _ _ (s1 _ _ hH)
      refine ⟨T, _, rfl, .inl (.inl upd_same), rfl, _, _, rfl, _, _, rfl, rfl, ?_⟩
      refine ⟨_, rfl, p, _, rfl, .inl (.inl hp2), for_it (walk_enumT (K := K) (a := p) (xs := row.map oV)) (fun j σ H' => (∃ y4 y5, σ = [some (.ref L), some (.ref d), some (.int i), some (.ref p), y4, y5]) ∧ Same H H' ∧ H' d = some (.lst (((spG 0 (g.take i) ++ spR i 0 (row.take j)).map (·.1)).map V.str)))
        ⟨⟨_, _, rfl⟩, s1.trans s2, by simpa [spR] using s2 _ _ hd1⟩ (fun j σ H' _ h => .inl (.inl (h.2.1 _ _ hH))) ?_ ?_⟩
      · rintro j x σ H3 H4 hj ⟨⟨z4, z5, rfl⟩, s3, hd3⟩ ⟨T2, x1, x2, rfl, hT2, rfl, ex1, ex2⟩
        cases ex1
        have ex2 : (row.map oV)[j]? = some x2 := ex2
        rw [List.getElem?_map] at ex2
        obtain ⟨o, ho, rfl⟩ := Option.map_eq_some_iff.mp ex2
        have s4 : Same H3 (upd H3 T2 (.tup [.int j, oV o])) := same_new hT2
        refine ⟨T2, _, rfl, .inl (.inl upd_same), rfl, _, _, rfl, _, _, rfl, rfl, ?_⟩
        cases o with
        | none =>
          refine ⟨_, rfl, _, rfl, iteT ?_⟩
          refine ⟨⟨_, _, rfl⟩, s3.trans s4, ?_⟩
          rw [ahead_snoc ho]
          simpa using s4 _ _ hd3
        | some z =>
          have hzw : IsWd z := gd.wd z (mem_names.mpr ⟨i, j, cellAt_of hrow ho⟩)
          refine ⟨_, rfl, _, rfl, iteF ?_⟩
          refine ⟨_, rfl, z, rfl, by have := hzw.len; omega, fun H5 s5 => ⟨_, rfl, ?_⟩⟩
          rw [show wdB z = true from hzw]
          have hd5 := s5 _ _ (s4 _ _ hd3)
          have hin : inV (.str z) (((spG 0 (g.take i) ++ spR i 0 (row.take j)).map (·.1)).map V.str) = false := by
            rw [inV_strs]
            exact decide_eq_false (ahead_new gd hrow ho)
          refine iteF ⟨_, rfl, _, rfl, d, _, rfl, .inl (.inl (.inl hd5)), rfl, flat_strs _, false, ?_, ?_⟩
          · exact congrArg V.bl hin
          refine iteF ⟨_, rfl, .inl ⟨rfl, _, .inl (.inl hd5)⟩, _, rfl, d, _, _, rfl, rfl, hd5, ?_, ?_⟩
          · rw [List.length_map]
            exact small1000 (by have := ahead_len gd hrow (j := j); omega)
          · refine ⟨⟨_, _, rfl⟩, same_mut ((s3.trans s4).trans s5) hd, ?_⟩
            rw [upd_same, ahead_snoc ho]
            simp [oV]
      · rintro σ H3 ⟨⟨z4, z5, rfl⟩, s3, hd3⟩
        refine ⟨⟨_, _, _, _, rfl⟩, s3, ?_⟩
        rw [List.length_map, List.take_length] at hd3
        rw [take_snoc hrow, spG_snoc, len_take hrow, Nat.zero_add]
        exact hd3
    · rintro σ H3 ⟨⟨y2, y3, y4, y5, rfl⟩, s3, hd3⟩
      exact q H3 s3
/-! ### spots_in of a good grid -/
def spSpotsIn : Sp := fun vs H Q _ => ∃ (L : Addr) (g : Grid) (wd : Nat), vs = [.ref L] ∧ GridAt H L g ∧ Good g wd ∧
  ∀ (d : Addr) (H' : Hp), H d = none → Same H H' → SpotsAt H' d (spG 0 g) → Q (.ref d) H'
abbrev nSpotsIn : List Str := ["rows", "at", "row", "column", "part"]
theorem scSpotsIn : FnScope nSpotsIn ["rows"] (defScope sSpotsIn) := ⟨rfl, rfl, rfl, by decide +kernel, rfl, by decide +kernel, by decide +kernel⟩
theorem ok_spotsin (F : Fun K "spots_in" "spots_in" sSpotsIn f fd) (B : Bi mg) : FnOk P w K mg base CX0 1 f fd ["rows"] spSpotsIn := by
  refine F.ok scSpotsIn (fun vs H Q E h => ?_) (fun cdv A outer s H vs Q E hr h => ?_)
  · obtain ⟨L, g, wd, rfl, _⟩ := h
    rfl
  · obtain ⟨L, g, wd, rfl, hG, gd, q⟩ := h
    refine ⟨_, pss_one (ps_ret (pe_dc2 (own := [("at", 1), ("row", 2), ("column", 3), ("part", 4)]) (vs1 := [3, 4]) (ga := gTup K 2 (gCons (gName 1) (gCons (gName 2) gNil))) (tta := tYes) (wb := iEnumT K (tCons (tVar 2) tNil)) (gb := gTup K 2 (gCons (gName 3) (gCons (gName 4) gNil))) (ttb := tB (tNotN (tVar 4))) (tk := tVar 4) (tv := tTup (tCons (tVar 1) (tCons (tVar 3) tNil))) rfl scSpotsIn.nd (pi_enumT (by rfl) B.enum (pa_cons (pv 0) pa_nil)) (blkOk_by (N := nSpotsIn) (sc := defScope sSpotsIn) (by decide +kernel)) (by decide)
      (fun _ _ _ _ _ => pg_tup rfl (pgs_cons (pg_name (i := 1) scSpotsIn.nd rfl (.inl rfl)) (pgs_cons (pg_name (i := 2) scSpotsIn.nd rfl (.inl rfl)) pgs_nil))) (fun _ _ _ _ _ => pts_nil)
      (fun _ _ _ _ _ => pi_enumT (by rfl) B.enum (pa_cons (pv 2) pa_nil)) (fun _ _ _ _ _ => pg_tup rfl (pgs_cons (pg_name (i := 3) scSpotsIn.nd rfl (.inl rfl)) (pgs_cons (pg_name (i := 4) scSpotsIn.nd rfl (.inl rfl)) pgs_nil)))
      (fun _ _ _ _ _ => pts_one (pt_cmp (pc_notN (pv 4)))) (fun _ _ _ _ _ => pv 4) (fun _ _ _ _ _ => pe_tup (pa_cons (pv 1) (pa_cons (pv 3) pa_nil))))), ?_⟩
    obtain ⟨as, hL, hR⟩ := id hG
    refine ⟨_, rfl, L, _, rfl, .inl (.inl hL), fun d hd => dc2_it (walk_enumT (K := K) (a := L) (xs := as.map V.ref)) (fun i H' => Same H H' ∧ SpotsAt H' d (spG 0 (g.take i))) ⟨same_new hd, [], upd_same, .nil⟩ (fun i H' _ h => .inl (.inl (h.1 _ _ hL))) ?_ ?_⟩
    · rintro i x H1 H2 hi ⟨s1, kvs1, hd1, e1⟩ ⟨T, x1, x2, rfl, hT, rfl, ex1, ex2⟩
      cases ex1
      have ex2 : (as.map V.ref)[i]? = some x2 := ex2
      rw [List.getElem?_map] at ex2
      obtain ⟨p, hp, rfl⟩ := Option.map_eq_some_iff.mp ex2
      obtain ⟨row, hrow, hH⟩ := hR.get hp
      have s2 : Same H1 (upd H1 T (.tup [.int i, .ref p])) := same_new hT
      have hp2 := s2 _ _ (s1 _ _ hH)
      refine ⟨T, _, rfl, .inl (.inl upd_same), rfl, _, _, rfl, _, _, rfl, rfl, rfl, yes_it ?_⟩
      refine ⟨_, rfl, p, _, rfl, .inl (.inl hp2), inn_it (walk_enumT (K := K) (a := p) (xs := row.map oV)) (fun j H' => Same H H' ∧ SpotsAt H' d (spG 0 (g.take i) ++ spR i 0 (row.take j)))
        ⟨s1.trans s2, kvs1, s2 _ _ hd1, by simpa [spR] using ent_keep (tk_same s2) e1⟩ (fun j H' _ h => .inl (.inl (h.1 _ _ hH))) ?_ ?_⟩
      · rintro j x H3 H4 hj ⟨s3, kvs3, hd3, e3⟩ ⟨T2, x1, x2, rfl, hT2, rfl, ex1, ex2⟩
        cases ex1
        have ex2 : (row.map oV)[j]? = some x2 := ex2
        rw [List.getElem?_map] at ex2
        obtain ⟨o, ho, rfl⟩ := Option.map_eq_some_iff.mp ex2
        have s4 : Same H3 (upd H3 T2 (.tup [.int j, oV o])) := same_new hT2
        refine ⟨T2, _, rfl, .inl (.inl upd_same), rfl, _, _, rfl, _, _, rfl, rfl, rfl, ?_⟩
        cases o with
        | none =>
          refine ⟨_, rfl, _, rfl, iteF ?_⟩
          refine ⟨s3.trans s4, kvs3, s4 _ _ hd3, ?_⟩
          rw [ahead_snoc ho]
          simpa using ent_keep (tk_same s4) e3
        | some z =>
          refine ⟨_, rfl, _, rfl, iteT ?_⟩
          have hd5 := s4 _ _ hd3
          have e5 := ent_keep (tk_same s4) e3
          have hv : valV kvs3 (Sum.inr z : Key) = none := ent_none e5 (ahead_new gd hrow ho)
          refine ⟨_, rfl, _, rfl, _, rfl, lz, fun T6 hT6 => ?_⟩
          have hd6 := (same_new (o := .tup [.int i, .int j]) hT6) _ _ hd5
          refine ⟨kvs3, Sum.inr z, rfl, hd6, ?_, same_mut ((s3.trans s4).trans (same_new hT6)) hd, kvs3 ++ [(Sum.inr z, .ref T6)], ?_, ?_⟩
          · have h1 := e5.length
            have h2 := ahead_len gd hrow (j := j)
            rw [List.length_map] at h2
            exact small1000 (by omega)
          · rw [putK_new _ hv, upd_same]
          · rw [ahead_snoc ho]
            refine Each.append (ent_keep (tk_updD hd6) (ent_keep (tk_new hT6) e5)) (.cons ⟨rfl, T6, rfl, ?_⟩ .nil)
            exact (tk_updD hd6) _ _ upd_same
      · rintro H3 ⟨s3, kvs3, hd3, e3⟩
        refine ⟨s3, kvs3, hd3, ?_⟩
        rw [List.length_map, List.take_length] at e3
        rw [take_snoc hrow, spG_snoc, len_take hrow, Nat.zero_add]
        exact e3
    · rintro H3 ⟨s3, kvs3, hd3, e3⟩
      have hlen : (as.map V.ref).length = g.length := by rw [List.length_map, hR.length]
      rw [hlen, List.take_length] at e3
      exact q d H3 hd s3 ⟨kvs3, hd3, e3⟩
/-! ### checked_spots of a good grid -/
def spSpots : Sp := fun vs H Q _ => ∃ (L : Addr) (g : Grid) (wd : Nat), vs = [.ref L] ∧ GridAt H L g ∧ Good g wd ∧
  ∀ (d : Addr) (H' : Hp), H d = none → Same H H' → SpotsAt H' d (spG 0 g) → Q (.ref d) H'
abbrev nSpots : List Str := ["rows", "wrong", "spots"]
theorem scSpots : FnScope nSpots ["rows"] (defScope sSpots) := ⟨rfl, rfl, rfl, by decide +kernel, rfl, by decide +kernel, by decide +kernel⟩
theorem ok_spots (F : Fun K "checked_spots" "checked_spots" sSpots f fd) (hA : Has P w K mg base "are_rows" 1 ["thing"] spAreRows) (hW : Has P w K mg base "wrong_spot" 2 ["rows"] spWrong) (hS : Has P w K mg base "spots_in" 1 ["rows"] spSpotsIn) :
    FnOk P w K mg base CX0 3 f fd ["rows"] spSpots := by
  refine F.ok scSpots (fun vs H Q E h => ?_) (fun cdv A outer s H vs Q E hr h => ?_)
  · obtain ⟨L, g, wd, rfl, _⟩ := h
    rfl
  · obtain ⟨L, g, wd, rfl, hG, gd, q⟩ := h
    refine ⟨_, pss_cons (ps_if (pt_not (pt_val (pe_h hA hr (pa_cons (pv 0) pa_nil)))) (pss_one ps_never) pss_nil)
      (pss_cons (ps_set (i := 1) scSpots.nd rfl (.inl rfl) (pe_h hW hr (pa_cons (pv 0) pa_nil)))
      (pss_cons (ps_if (pt_cmp (pc_notN (pv 1))) (pss_one ps_never) pss_nil)
      (pss_cons (ps_set (i := 2) scSpots.nd rfl (.inl rfl) (pe_h hS hr (pa_cons (pv 0) pa_nil)))
      (pss_cons (ps_if (pt_not (pt_truth (pv 2) (by intro _; rfl))) (pss_one ps_never) pss_nil)
      (pss_one (ps_ret (pv 2))))))), ?_⟩
    refine ⟨_, rfl, L, g, wd, rfl, hG, gd, true, rfl, iteF ?_⟩
    refine ⟨_, rfl, L, g, wd, rfl, hG, gd, fun H1 s1 => ⟨_, rfl, _, rfl, iteF ?_⟩⟩
    have hG1 : GridAt H1 L g := hG.keep (tk_same s1)
    refine ⟨_, rfl, L, g, wd, rfl, hG1, gd, fun d H2 hd s2 ⟨kvs, hk, he⟩ => ?_⟩
    have hne : kvs.isEmpty = false := by
      cases kvs with
      | nil =>
        have h1 := he.length
        have h2 : ((spG 0 g).map (·.1)).length = (names g).length := by rw [spG_fst]
        rw [List.length_map] at h2
        have h3 : names g = [] := List.eq_nil_of_length_eq_zero (by rw [← h2, ← h1]; rfl)
        exact absurd h3 gd.ne
      | cons a r => rfl
    refine ⟨_, rfl, _, .inr (.inr ⟨kvs, hk, rfl⟩), ?_⟩
    rw [hne]
    refine iteF ⟨_, rfl, q d H2 (s1.free hd) (s1.trans s2) ⟨kvs, hk, he⟩⟩
end
end Wl




namespace Wl
open PySem PySem.Spec PyProof.Rows L2
section
variable {J : It} {ys : List V} {G : Hp → Prop} {slot slot1 : Nat} {wi1 : TI} {tt1 : TT} {te : TE} {vs vs1 : List Nat} {σ : L2.St} {H1 : Hp} {D : Addr} {Qd : Hp → Prop}
theorem flat_take_snoc {α β : Type} {f : α → List β} {ys : List α} {i : Nat} {x : α} (h : ys[i]? = some x) : (ys.take (i + 1)).flatMap f = (ys.take i).flatMap f ++ f x := by
  rw [List.take_add_one, h, List.flatMap_append]
  simp
/-- [e for x in ys for y in inn x if t]: the heap only growing -/
theorem lc2_rel (w : L2.Walk J ys.length G (YAt ys)) (hD : H1 D = none) (inn : V → List V) (keep : V → V → Bool) (R : V → V → V → Hp → Prop) (N : Nat)
    (hG : ∀ H, Same H1 H → G H)
    (hw : ∀ x, wipe ((wipe σ vs).set slot (some x)) vs = wipe σ vs)
    (hw1 : ∀ x y, wipe ((wipe ((wipe σ vs).set slot (some x)) vs1).set slot1 (some y)) vs1 = wipe ((wipe σ vs).set slot (some x)) vs1)
    (hi : ∀ (x : V) (H : Hp) (acc : List V), x ∈ ys → Same H1 H → H D = some (.lst acc) → ∀ Rr : It → Hp → Prop,
      (∀ J1 H4 G1, Same H H4 → L2.Walk J1 (inn x).length G1 (YAt (inn x)) → (∀ H', SameX D H4 H' → G1 H') → Rr J1 H4) → wi1 ((wipe σ vs).set slot (some x)) H Rr)
    (ht : ∀ (x y : V) (H : Hp), x ∈ ys → y ∈ inn x → Same H1 H → ∀ Q : Bool → Hp → Prop, Q (keep x y) H → tt1 ((wipe ((wipe σ vs).set slot (some x)) vs1).set slot1 (some y)) H Q)
    (he : ∀ (x y : V) (H : Hp), x ∈ ys → y ∈ inn x → keep x y = true → Same H1 H → ∀ Q : VK, (∀ z H', Same H H' → R x y z H' → Q z H') → te ((wipe ((wipe σ vs).set slot (some x)) vs1).set slot1 (some y)) H Q)
    (hR : ∀ x y z H H' acc, H D = some (.lst acc) → SameX D H H' → R x y z H → R x y z H')
    (hl : ∀ x ∈ ys, (inn x).length ≤ N) (hn : ys.length * N < sizeLine)
    (hd : ∀ zs H, Same H1 H → H D = some (.lst zs) → Each (fun (xy : V × V) z => R xy.1 xy.2 z H) (ys.flatMap fun x => ((inn x).filter (keep x)).map fun y => (x, y)) zs → Qd H) :
    ∃ W : Nat → Nat → Hp → Prop, (∃ m, W 0 m (upd H1 D (.lst []))) ∧ ∀ i m H, W i m H →
      (J.stop i H ∧ Qd H) ∨ (J.go i H ∧ ∃ Nx : Hp → Prop, (∀ H', Nx H' → ∃ m', m' < m ∧ W (i + 1) m' H') ∧ ∀ x H', J.yld i H x H' → gName slot x (wipe σ vs) H' fun σ2 H2 => wipe σ2 vs = wipe σ vs ∧ tYes σ2 H2 fun b H3 =>
        if b = true then wi1 σ2 H3 fun J1 H4 => ∃ W1 : Nat → Nat → Hp → Prop, (∃ m, W1 0 m H4) ∧ ∀ j k H, W1 j k H →
          (J1.stop j H ∧ Nx H) ∨ (J1.go j H ∧ ∃ Nx1 : Hp → Prop, (∀ H', Nx1 H' → ∃ k', k' < k ∧ W1 (j + 1) k' H') ∧ ∀ x H', J1.yld j H x H' → gName slot1 x (wipe σ2 vs1) H' fun σ3 H5 => wipe σ3 vs1 = wipe σ2 vs1 ∧ tt1 σ3 H5 fun b H6 =>
            if b = true then te σ3 H6 fun y H7 => ∃ acc, H7 D = some (.lst acc) ∧ acc.length < sizeLine ∧ Nx1 (upd H7 D (.lst (acc ++ [y]))) else Nx1 H6)
        else Nx H3) := by
  have cnt : ∀ (l : List V), (∀ x ∈ l, (inn x).length ≤ N) → (l.flatMap fun x => ((inn x).filter (keep x)).map fun y => (x, y)).length ≤ l.length * N := by
    intro l
    induction l with
    | nil => intro _; simp
    | cons x r ih =>
      intro h
      rw [List.flatMap_cons, List.length_append, List.length_map, List.length_cons, Nat.succ_mul]
      have h1 : ((inn x).filter (keep x)).length ≤ (inn x).length := List.length_filter_le _ _
      have h2 := h x List.mem_cons_self
      have h3 := ih fun y hy => h y (List.mem_cons_of_mem _ hy)
      omega
  refine ⟨fun i m H => m = ys.length - i ∧ i ≤ ys.length ∧ ∃ zs, Same H1 H ∧ H D = some (.lst zs) ∧ Each (fun (xy : V × V) z => R xy.1 xy.2 z H) ((ys.take i).flatMap fun x => ((inn x).filter (keep x)).map fun y => (x, y)) zs,
    ⟨ys.length, by simp, Nat.zero_le _, [], same_new hD, upd_same, by simpa using Each.nil⟩, ?_⟩
  rintro i m H ⟨rfl, hi0, zs, s, hz, ez⟩
  by_cases hlt : i < ys.length
  · refine .inr ⟨w.goes i H hlt (hG H s), fun H' => ∃ zs, Same H1 H' ∧ H' D = some (.lst zs) ∧ Each (fun (xy : V × V) z => R xy.1 xy.2 z H') ((ys.take (i + 1)).flatMap fun x => ((inn x).filter (keep x)).map fun y => (x, y)) zs,
      fun H' h => ⟨ys.length - (i + 1), by omega, rfl, hlt, h⟩, fun x H' y => ?_⟩
    obtain ⟨rfl, hx⟩ := w.yields i H x H' hlt (hG H s) y
    have hm : x ∈ ys := List.mem_of_getElem? hx
    have hf := flat_take_snoc (f := fun x => ((inn x).filter (keep x)).map fun y => (x, y)) hx
    refine ⟨hw x, yes_it ?_⟩
    refine hi x _ zs hm s hz _ fun J1 H4 G1 s4 w1 hG1 => ?_
    have hz4 := s4 _ _ hz
    refine ⟨fun j k H => k = (inn x).length - j ∧ j ≤ (inn x).length ∧ ∃ ws, Same H1 H ∧ SameX D H4 H ∧ H D = some (.lst ws) ∧ Each (fun (xy : V × V) z => R xy.1 xy.2 z H) (((ys.take i).flatMap fun x => ((inn x).filter (keep x)).map fun y => (x, y)) ++ (((inn x).take j).filter (keep x)).map fun y => (x, y)) ws,
      ⟨(inn x).length, by simp, Nat.zero_le _, zs, s.trans s4, SameX.refl _ _, hz4, ?_⟩, ?_⟩
    · simpa using ez.mono fun a b r => hR _ _ _ _ _ _ hz (sx s4) r
    · rintro j k H5 ⟨rfl, hj0, ws, s5, x5, hz5, ez5⟩
      by_cases hjt : j < (inn x).length
      · refine .inr ⟨w1.goes j H5 hjt (hG1 H5 x5), fun H' => ∃ ws, Same H1 H' ∧ SameX D H4 H' ∧ H' D = some (.lst ws) ∧ Each (fun (xy : V × V) z => R xy.1 xy.2 z H') (((ys.take i).flatMap fun x => ((inn x).filter (keep x)).map fun y => (x, y)) ++ (((inn x).take (j + 1)).filter (keep x)).map fun y => (x, y)) ws,
          fun H' h => ⟨(inn x).length - (j + 1), by omega, rfl, hjt, h⟩, fun y H' yy => ?_⟩
        obtain ⟨rfl, hy⟩ := w1.yields j H5 y H' hjt (hG1 H5 x5) yy
        have hym : y ∈ inn x := List.mem_of_getElem? hy
        have hf2 := filter_take_snoc (p := keep x) hy
        refine ⟨hw1 x y, ht x y _ hm hym s5 _ ?_⟩
        refine ite_b (fun e => ?_) (fun e => ?_)
        · refine he x y _ hm hym e s5 _ fun z H6 s6 r6 => ⟨ws, s6 _ _ hz5, ?_, ws ++ [z], same_mut (s5.trans s6) hD, ?_, upd_same, ?_⟩
          · have h1 := ez5.length
            have h2 := cnt (ys.take i) fun x hx => hl x (List.mem_of_mem_take hx)
            have h3 : (((inn x).take j).filter (keep x)).length ≤ N := by
              have a1 : (((inn x).take j).filter (keep x)).length ≤ ((inn x).take j).length := List.length_filter_le _ _
              have a2 : ((inn x).take j).length ≤ (inn x).length := List.length_take_le' _ _
              have a3 := hl x hm
              omega
            rw [List.length_append, List.length_map] at h1
            have h4 : (ys.take i).length * N + N ≤ ys.length * N := by
              rw [← Nat.succ_mul]
              refine Nat.mul_le_mul_right N ?_
              rw [List.length_take]
              omega
            omega
          · exact (x5.trans (sx s6)).trans sameX_upd
          · rw [hf2, if_pos e, List.map_append, ← List.append_assoc]
            refine Each.append (ez5.mono fun a b r => ?_) (.cons ?_ .nil)
            · exact hR _ _ _ _ _ _ hz5 (fun b o n h => by rw [upd_ne n]; exact s6 _ _ h) r
            · exact hR _ _ _ _ _ _ (s6 _ _ hz5) sameX_upd r6
        · refine ⟨ws, s5, x5, hz5, ?_⟩
          rw [hf2, if_neg (by rw [e]; decide), List.append_nil]
          exact ez5
      · have e : j = (inn x).length := by omega
        subst e
        refine .inl ⟨w1.stops H5 (hG1 H5 x5), ws, s5, hz5, ?_⟩
        rw [List.take_length] at ez5
        rw [hf]
        exact ez5
  · have e : i = ys.length := by omega
    subst e
    rw [List.take_length] at ez
    exact .inl ⟨w.stops H (hG H s), hd zs H s hz ez⟩
end
end Wl

namespace Wl
open PySem PySem.Spec PyProof.Rows L2
abbrev sCls : Stmt := topS 42
abbrev sInit : Stmt := inClass sCls 0
abbrev sCheck : Stmt := inClass sCls 1
abbrev sLNames : Stmt := inClass sCls 2
abbrev sSpot : Stmt := inClass sCls 3
abbrev sNeigh : Stmt := inClass sCls 4
abbrev sBord : Stmt := inClass sCls 5
structure Txt (K : PySem.W.Frag) (mg : Str → Option Value) (C : Addr) : Prop where
  cl : Cls K C
  nS : NoAttr K C "spots"
  nR : NoAttr K C "rows"
  mgC : mg "Land" = some (.ref C)
theorem srne : ¬ (("spots" : Str) = "rows") := by decide +kernel
def lf (d L : Addr) : List (Str × V) := putF "rows" (.ref L) (putF "spots" (.ref d) [])
theorem lf_spots (d L : Addr) : (lf d L).lookup ("spots" : Str) = some (.ref d) := by
  unfold lf
  rw [lookup_putF, if_neg srne, lookup_putF, if_pos rfl]
theorem lf_rows (d L : Addr) : (lf d L).lookup ("rows" : Str) = some (.ref L) := by
  unfold lf
  rw [lookup_putF, if_pos rfl]
theorem lf_no (d L : Addr) {m : Str} (h1 : ¬ m = "rows") (h2 : ¬ m = "spots") : (lf d L).lookup m = none := by
  unfold lf
  rw [lookup_putF, if_neg h1, lookup_putF, if_neg h2]
  rfl
def LandAt (C : Addr) (H : Hp) (p L : Addr) (g : Grid) : Prop := ∃ d dx, H p = some (.ins C dx (lf d L)) ∧ SpotsAt H d (spG 0 g) ∧ GridAt H L g
theorem LandAt.keep {C p L : Addr} {H H' : Hp} {g : Grid} (h : LandAt C H p L g) (k : Keep H H') : LandAt C H' p L g := by
  obtain ⟨d, dx, h1, h2, h3⟩ := h
  exact ⟨d, dx, k _ _ (fun xs e => by cases e) h1, h2.keep k, h3.keep k.tk⟩
theorem tk_updI {a : Addr} {H : Hp} {C dx : Addr} {fs : List (Str × V)} {o : HO} (ha : H a = some (.ins C dx fs)) : TupKeep H (upd H a o) := fun p xs h => by
  rw [upd_ne (ne_of h ha (by intro z; cases z))]
  exact h
theorem spots_updI {a d : Addr} {H : Hp} {C dx : Addr} {fs : List (Str × V)} {o : HO} {sp : List (Str × Nat × Nat)} (ha : H a = some (.ins C dx fs)) (h : SpotsAt H d sp) : SpotsAt (upd H a o) d sp := by
  obtain ⟨kvs, h1, h2⟩ := h
  exact ⟨kvs, by rw [upd_ne (ne_of h1 ha (by intro z; cases z))]; exact h1, ent_keep (tk_updI ha) h2⟩
section
variable {P : Program} {w : World} {K : PySem.W.Frag} {mg : Str → Option Value} {base : Heap} {f C : Addr} {fd : FuncData}
def spInit (C : Addr) : Sp := fun vs H Q _ => ∃ (p dx L : Addr) (g : Grid) (wd : Nat), vs = [.ref p, .ref L] ∧ H p = some (.ins C dx []) ∧ GridAt H L g ∧ Good g wd ∧
  ∀ (H' : Hp), (∀ b o, b ≠ p → H b = some o → H' b = some o) → LandAt C H' p L g → Q .non H'
theorem scInit : FnScope ["self", "rows"] ["self", "rows"] (defScope sInit) := ⟨rfl, rfl, rfl, by decide +kernel, rfl, by decide +kernel, by decide +kernel⟩
theorem ok_init (F : Fun K "__init__" "Land.__init__" sInit f fd) (T : Txt K mg C) (hS : Has P w K mg base "checked_spots" 3 ["rows"] spSpots) : FnOk P w K mg base CX0 4 f fd ["self", "rows"] (spInit C) := by
  refine F.ok scInit (fun vs H Q E h => ?_) (fun cdv A outer s H vs Q E hr h => ?_)
  · obtain ⟨p, dx, L, g, wd, rfl, _⟩ := h
    rfl
  · obtain ⟨p, dx, L, g, wd, rfl, hp, hG, gd, q⟩ := h
    refine ⟨_, pss_cons (ps_fld (pv 0) (pe_h hS hr (pa_cons (pv 1) pa_nil)) rfl) (pss_one (ps_fld (pv 0) (pv 1) rfl)), ?_⟩
    refine ⟨_, rfl, L, g, wd, rfl, hG, gd, fun d H1 hd s1 sp1 => ?_⟩
    have hp1 := s1 _ _ hp
    refine ⟨_, rfl, p, C, dx, [], rfl, hp1, T.cl, T.nS, (by show 0 < 1000; decide), ?_⟩
    refine ⟨_, rfl, _, rfl, p, C, dx, _, rfl, upd_same, T.cl, T.nR, (by show 1 < 1000; decide), ?_⟩
    refine q _ (fun b o n e => ?_) ⟨d, dx, upd_same, spots_updI upd_same (spots_updI hp1 sp1), ((hG.keep (tk_same s1)).keep (tk_updI hp1)).keep (tk_updI upd_same)⟩
    rw [upd_ne n, upd_ne n]
    exact s1 _ _ e

/-! ### names -/
def spLNames (C : Addr) : Sp := fun vs H Q _ => ∃ (p L : Addr) (g : Grid) (wd : Nat), vs = [.ref p] ∧ LandAt C H p L g ∧ Good g wd ∧
  ∀ (t : Addr) (H' : Hp), H t = none → Same H H' → H' t = some (.tup ((sortS (names g)).map V.str)) → Q (.ref t) H'
theorem scLNames : FnScope ["self"] ["self"] (defScope sLNames) := ⟨rfl, rfl, rfl, by decide +kernel, rfl, by decide +kernel, by decide +kernel⟩
/-- sorted of a list of texts, as a reading -/
theorem sort_reads {H : Hp} {Q : VK} {a : Addr} {xs : List Str} (h : SqL K H a (xs.map V.str)) (q : ∀ p, H p = none → Q (.ref p) (upd H p (.lst ((sortS xs).map V.str)))) : rSortD K [.ref a] H Q := by
  refine ⟨a, xs.map sd, rfl, ?_, ?_, alike_strs xs, sortable_strs xs, ?_, fun p hp => ?_⟩
  · rw [List.map_map]
    exact h
  · intro b hb
    obtain ⟨x, _, rfl⟩ := List.mem_map.mp hb
    exact .str x
  · intro b hb
    obtain ⟨x, _, rfl⟩ := List.mem_map.mp hb
    show PyData.depth (.str x) ≤ 8
    simp [PyData.depth]
  · rw [sort_strs]
    exact q p hp
theorem ok_lnames (F : Fun K "names" "Land.names" sLNames f fd) (B : Bi mg) (T : Txt K mg C) : FnOk P w K mg base CX0 1 f fd ["self"] (spLNames C) := by
  refine F.ok scLNames (fun vs H Q E h => ?_) (fun cdv A outer s H vs Q E hr h => ?_)
  · obtain ⟨p, L, g, wd, rfl, _⟩ := h
    rfl
  · obtain ⟨p, L, g, wd, rfl, ⟨d, dx, hp, ⟨kvs, hd, he⟩, hG⟩, gd, q⟩ := h
    refine ⟨_, pss_one (ps_ret (pe_callTy call_tuple_of (by rfl) B.tuple (by decide +kernel) (pa_cons (pe_callB (cr_sortD hr.units) (by rfl) B.sorted (by decide +kernel) (pa_cons (pe_callTy (call_list_dK rfl) (by rfl) B.list (by decide +kernel) (pa_cons (pe_fld (pv 0) rfl) pa_nil)) pa_nil)) pa_nil))), ?_⟩
    refine ⟨_, rfl, p, C, dx, _, _, rfl, hp, T.cl, T.nS, lf_spots _ _, d, kvs, rfl, hd, fun a1 h1 => ?_⟩
    rw [ent_keys he, spG_fst]
    dsimp only [tNil]
    refine sort_reads (K := K) (.inl (.inl upd_same)) fun a2 h2 => ?_
    refine ⟨a2, _, rfl, .inl ⟨.inl (.inl upd_same), fun a3 h3 => ?_⟩⟩
    exact q a3 _ (Same.free ((same_new h1).trans (same_new h2)) h3) (((same_new h1).trans (same_new h2)).trans (same_new h3)) upd_same

/-! ### check_name, spot -/
def spCheck (C : Addr) : Sp := fun vs H Q _ => ∃ (p L : Addr) (g : Grid) (wd : Nat) (z : Str), vs = [.ref p, .str z] ∧ LandAt C H p L g ∧ Good g wd ∧ z ∈ names g ∧ ∀ (H' : Hp), Same H H' → Q .non H'
theorem scCheck : FnScope ["self", "name"] ["self", "name"] (defScope sCheck) := ⟨rfl, rfl, rfl, by decide +kernel, rfl, by decide +kernel, by decide +kernel⟩
theorem ok_check (F : Fun K "check_name" "Land.check_name" sCheck f fd) (T : Txt K mg C) (hI : Has P w K mg base "is_word" 1 ["thing"] spIsWord) : FnOk P w K mg base CX0 2 f fd ["self", "name"] (spCheck C) := by
  refine F.ok scCheck (fun vs H Q E h => ?_) (fun cdv A outer s H vs Q E hr h => ?_)
  · obtain ⟨p, L, g, wd, z, rfl, _⟩ := h
    rfl
  · obtain ⟨p, L, g, wd, z, rfl, hLa, gd, hz, q⟩ := h
    have hu := hu_of hr
    have hzw := gd.wd z hz
    refine ⟨_, pss_one (ps_if (PW.pt (pw_or (pt_not (pt_val (pe_h hI hr (pa_cons (pv 1) pa_nil)))) (pw_or1 (pt_cmp (pc_dnotin hu (pv 1) (pe_fld (pv 0) rfl)))))) (pss_one ps_never) pss_nil), ?_⟩
    refine ⟨_, rfl, z, rfl, by have := hzw.len; omega, fun H1 s1 => ⟨_, rfl, ?_⟩⟩
    rw [show wdB z = true from hzw]
    refine iteF ?_
    obtain ⟨d, dx, hp, ⟨kvs, hd, he⟩, hG⟩ := hLa.keep (kp_same s1)
    obtain ⟨r, c, hc⟩ := mem_names.mp hz
    obtain ⟨t, hv, ht⟩ := ent_some he (by rw [spG_fst]; exact gd.nd) (spG_cell.mpr hc)
    refine ⟨_, rfl, _, rfl, p, C, dx, _, _, rfl, hp, T.cl, T.nS, lf_spots _ _, d, _, rfl, DGet.k (k := Sum.inr z) hd, _, rfl, ?_⟩
    rw [hv]
    exact iteF (q H1 s1)
def spSpot (C : Addr) : Sp := fun vs H Q _ => ∃ (p L : Addr) (g : Grid) (wd : Nat) (z : Str) (r c : Nat), vs = [.ref p, .str z] ∧ LandAt C H p L g ∧ Good g wd ∧ cellAt g r c = some z ∧
  ∀ (t : Addr) (H' : Hp), Same H H' → H' t = some (.tup [.int r, .int c]) → Q (.ref t) H'
theorem scSpot : FnScope ["self", "name"] ["self", "name"] (defScope sSpot) := ⟨rfl, rfl, rfl, by decide +kernel, rfl, by decide +kernel, by decide +kernel⟩
end
end Wl




namespace Wl
open PySem PySem.Spec PyProof.Rows L2
/-- at most six rows of at most six -/
structure Sized (g : Grid) (wd : Nat) : Prop where
  h6 : g.length ≤ 6
  w6 : wd ≤ 6
  rows : ∀ r ∈ g, r.length = wd
theorem Good.sized {g : Grid} {wd : Nat} (G : Good g wd) : Sized g wd := ⟨G.h6, G.w6, G.rows⟩
section
variable {P : Program} {w : World} {K : PySem.W.Frag} {mg : Str → Option Value} {base : Heap} {f C : Addr} {fd : FuncData}
/-! ### the law's own names -/
def spNames : Sp := fun vs H Q _ => ∃ (L : Addr) (g : Grid) (wd : Nat), vs = [.ref L] ∧ GridAt H L g ∧ Sized g wd ∧
  ∀ (t : Addr) (H' : Hp), H t = none → Same H H' → H' t = some (.lst ((sortS (names g)).map V.str)) → Q (.ref t) H'
abbrev nNames : List Str := ["_law_laid", "_law_found", "_law_row", "_law_town"]
theorem scNames : FnScope nNames ["_law_laid"] (defScope sNames) := ⟨rfl, rfl, rfl, by decide +kernel, rfl, by decide +kernel, by decide +kernel⟩
theorem row_filter (row : Row) : ((row.map oV).filter fun v => !decide (v = .non)).map id = (rnames row).map V.str := by
  rw [List.map_id]
  induction row with
  | nil => rfl
  | cons o r ih =>
    cases o with
    | none => exact ih
    | some z => exact congrArg (V.str z :: ·) ih
theorem names_take {g : Grid} {i : Nat} {row : Row} (h : g[i]? = some row) : names (g.take (i + 1)) = names (g.take i) ++ rnames row := by
  rw [take_snoc h, names_snoc]
theorem ok_names (F : Fun K "_law_names" "_law_names" sNames f fd) (B : Bi mg) : FnOk P w K mg base CX0 1 f fd ["_law_laid"] spNames := by
  refine F.ok scNames (fun vs H Q E h => ?_) (fun cdv A outer s H vs Q E hr h => ?_)
  · obtain ⟨L, g, wd, rfl, _⟩ := h
    rfl
  · obtain ⟨L, g, wd, rfl, ⟨as, hL, hR⟩, gd, q⟩ := h
    refine ⟨_, pss_cons (ps_set (i := 1) scNames.nd rfl (.inl rfl) (pe_lst pa_nil))
      (pss_cons (ps_for PassesOwn.never rfl (pi_tup (pv 0)) (pg_name (i := 2) scNames.nd rfl (.inl rfl))
        (pss_one (ps_expr (pe_bm PySem.F.plainAttrs_list PySem.F.slot_list_extend PySem.F.type_list_extend mt_extend (pv 1) (pa_cons
          (pe_lc (own := [("_law_town", 3)]) (g := gName 3) (tt := tB (tNotN (tVar 3))) rfl scNames.nd (pi_tup (pv 2)) (blkOk_by (N := nNames) (sc := defScope sNames) (by decide +kernel)) (fun _ _ _ _ _ => pg_name (i := 3) scNames.nd rfl (.inl rfl))
            (fun _ _ _ _ _ => pts_one (pt_cmp (pc_notN (pv 3)))) (fun _ _ _ _ _ => pv 3)) pa_nil)))))
      (pss_one (ps_ret (pe_callB (cr_sortD hr.units) (by rfl) B.sorted (by decide +kernel) (pa_cons (pv 1) pa_nil))))), ?_⟩
    refine ⟨lz, fun fA hf => ?_⟩
    have s0 : Same H (upd H fA (.lst [])) := same_new hf
    have hlen : (as.map V.ref).length = g.length := by rw [List.length_map, hR.length]
    refine ⟨_, rfl, L, rfl, ⟨_, .inl (.inl (s0 _ _ hL))⟩, for_tup (K := K) (a := L) (xs := as.map V.ref) (fun i σ H' => (∃ y2 y3, σ = [some (.ref L), some (.ref fA), y2, y3]) ∧ Same H H' ∧ H' fA = some (.lst ((names (g.take i)).map V.str)))
      ⟨⟨_, _, rfl⟩, s0, upd_same⟩ (fun i σ H' _ h => .inl (.inl (h.2.1 _ _ hL))) ?_ ?_⟩
    · rintro i x σ H1 hx ⟨⟨y2, y3, rfl⟩, s1, hf1⟩
      rw [List.getElem?_map] at hx
      obtain ⟨p, hp, rfl⟩ := Option.map_eq_some_iff.mp hx
      obtain ⟨row, hrow, hH⟩ := hR.get hp
      have hrl := gd.rows row (List.mem_of_getElem? hrow)
      refine ⟨_, rfl, .inl ⟨rfl, _, .inl (.inl hf1)⟩, _, rfl, p, rfl, ⟨_, .inl (.inl (s1 _ _ hH))⟩, fun D hD => ?_⟩
      refine lc_map (walk_tup (K := K) (a := p) (xs := row.map oV)) hD (fun v => !decide (v = .non)) id (fun H' s' => .inl (.inl (s' _ _ (s1 _ _ hH)))) (fun _ => rfl) ?_ ?_ ?_ ?_
      · intro x H' hx s' Q' q'
        exact ⟨_, rfl, _, rfl, q'⟩
      · intro x H' hx _ _ Q' q'
        exact ⟨_, rfl, q'⟩
      · rw [List.length_map]
        exact small1000 (by have := gd.w6; omega)
      · intro H2 s2 hD2
        rw [row_filter] at hD2
        have hf2 := s2 _ _ hf1
        refine ⟨fA, D, _, _, rfl, rfl, hf2, hD2, ?_, ⟨_, _, rfl⟩, same_mut (s1.trans s2) hf, ?_⟩
        · rw [List.length_map, List.length_map]
          have a1 := len_names (g := g.take i) (wd := wd) fun r hr => gd.rows r (List.mem_of_mem_take hr)
          have a2 : (g.take i).length ≤ 6 := by rw [List.length_take]; have := gd.h6; omega
          have a3 : (g.take i).length * wd ≤ 6 * 6 := Nat.mul_le_mul a2 gd.w6
          have a4 : (rnames row).length ≤ row.length := List.length_filterMap_le id _
          have a7 := gd.w6
          exact lzl (by omega)
        · rw [upd_same, names_take hrow, List.map_append]
    · rintro σ H1 ⟨⟨y2, y3, rfl⟩, s1, hf1⟩
      rw [hlen, List.take_length] at hf1
      refine ⟨_, rfl, ?_⟩
      dsimp only [tNil]
      refine sort_reads (K := K) (.inl (.inl hf1)) fun p hp => ?_
      exact q p _ (s1.free hp) (s1.trans (same_new hp)) upd_same

theorem grid_get {H : Hp} {L : Addr} {g : Grid} {wd : Nat} (gd : Good g wd) {as : List Addr} (hL : H L = some (.tup (as.map V.ref))) (hR : RowsAt H as g) {x y : Int} (hx : 0 ≤ x ∧ x < g.length) (hy : 0 ≤ y ∧ y < wd) :
    ∃ (p : Addr) (row : Row), atI (as.map V.ref) x = some (.ref p) ∧ H p = some (.tup (row.map oV)) ∧ row.length = wd ∧ atI (row.map oV) y = some (oV (cellAt g x.toNat y.toNat)) := by
  have hx2 : x.toNat < g.length := by omega
  have hg : g[x.toNat]? = some g[x.toNat] := List.getElem?_eq_getElem hx2
  obtain ⟨p, hp, hH⟩ := hR.get2 hg
  have hw := gd.rows _ (List.mem_of_getElem? hg)
  have hy2 : y.toNat < g[x.toNat].length := by omega
  refine ⟨p, g[x.toNat], at_of (j := x.toNat) (by omega) (by rw [List.getElem?_map, hp]; rfl), hH, hw, at_of (j := y.toNat) (by omega) ?_⟩
  rw [List.getElem?_map, List.getElem?_eq_getElem hy2, cellAt_of hg (List.getElem?_eq_getElem hy2)]
  rfl
end
end Wl




/-! A land's text. -/
namespace Wl
open PySem PySem.Spec PyProof.Rows L2
def partS : Option Str → Str
  | none => "-"
  | some z => z
def lineS (row : Row) : Str := Txt.join (" " : Str) (row.map partS)
def landS (g : Grid) : Str := Txt.join ("\n" : Str) (g.map lineS)
theorem tl_dash : TL.tl ("-" : Str) = [45] := by decide +kernel
theorem tl_blank : TL.tl (" " : Str) = [32] := by decide +kernel
theorem tl_end : TL.tl ("\n" : Str) = [10] := by decide +kernel
theorem wd_tl {z : Str} (h : IsWd z) : (1 ≤ (TL.tl z).length ∧ (TL.tl z).length ≤ 8) ∧ ∀ c ∈ TL.tl z, 97 ≤ c ∧ c ≤ 122 := by
  refine ⟨by rw [← TL.len_tl]; exact h.len, ?_⟩
  unfold IsWd wdB at h
  simp only [Bool.and_eq_true, decide_eq_true_eq, List.all_eq_true] at h
  exact h.2
theorem wd_dash {z : Str} (h : IsWd z) : z ≠ "-" := fun e => by
  have := (wd_tl h).2 45 (by rw [e, tl_dash]; simp)
  omega
/-- a part of a row -/
def OkP (o : Option Str) : Prop := ∀ z, o = some z → IsWd z
theorem part_tl {o : Option Str} (h : OkP o) : (TL.tl (partS o)).length ≤ 8 ∧ ∀ c ∈ TL.tl (partS o), 45 ≤ c ∧ c ≤ 122 := by
  cases o with
  | none =>
    show (TL.tl ("-" : Str)).length ≤ 8 ∧ ∀ c ∈ TL.tl ("-" : Str), 45 ≤ c ∧ c ≤ 122
    rw [tl_dash]
    exact ⟨by decide, fun c hc => by rw [List.mem_singleton.mp hc]; decide⟩
  | some z =>
    have := wd_tl (h z rfl)
    exact ⟨this.1.2, fun c hc => ⟨by have := this.2 c hc; omega, (this.2 c hc).2⟩⟩
theorem join_mem {S : List Nat} {c : Nat} : ∀ {ps : List (List Nat)}, c ∈ TL.joinL S ps → c ∈ S ∨ ∃ p ∈ ps, c ∈ p
  | [], h => by cases h
  | [p], h => .inr ⟨p, List.mem_singleton.mpr rfl, h⟩
  | p :: q :: r, h => by
    have h : c ∈ p ++ (S ++ TL.joinL S (q :: r)) := h
    rcases List.mem_append.mp h with h | h
    · exact .inr ⟨p, List.mem_cons_self, h⟩
    · rcases List.mem_append.mp h with h | h
      · exact .inl h
      · rcases join_mem h with h | ⟨u, hu, h⟩
        · exact .inl h
        · exact .inr ⟨u, List.mem_cons_of_mem _ hu, h⟩
theorem join_size {S : List Nat} {m : Nat} : ∀ {ps : List (List Nat)}, (∀ p ∈ ps, p.length ≤ m) → (TL.joinL S ps).length ≤ ps.length * (m + S.length)
  | [], _ => by simp [TL.joinL]
  | [p], h => by
    have := h p (List.mem_singleton.mpr rfl)
    show p.length ≤ _
    simp
    omega
  | p :: q :: r, h => by
    have h1 := h p List.mem_cons_self
    have h2 := join_size (S := S) (m := m) (ps := q :: r) fun u hu => h u (List.mem_cons_of_mem _ hu)
    show (p ++ (S ++ TL.joinL S (q :: r))).length ≤ _
    rw [List.length_append, List.length_append, List.length_cons, Nat.succ_mul]
    omega
theorem line_tl (row : Row) : TL.tl (lineS row) = TL.joinL [32] (row.map fun o => TL.tl (partS o)) := by
  unfold lineS
  rw [TL.join_eq, TL.tl_join, tl_blank, List.map_map]
  rfl
theorem line_codes {row : Row} (h : ∀ o ∈ row, OkP o) {c : Nat} (hc : c ∈ TL.tl (lineS row)) : c = 32 ∨ (45 ≤ c ∧ c ≤ 122) := by
  rw [line_tl] at hc
  rcases join_mem hc with hc | ⟨p, hp, hc⟩
  · exact .inl (List.mem_singleton.mp hc)
  · obtain ⟨o, ho, rfl⟩ := List.mem_map.mp hp
    exact .inr ((part_tl (h o ho)).2 c hc)
theorem line_len {row : Row} (h : ∀ o ∈ row, OkP o) (h6 : row.length ≤ 6) : (lineS row).length ≤ 54 := by
  rw [TL.len_tl, line_tl]
  have := join_size (S := [32]) (m := 8) (ps := row.map fun o => TL.tl (partS o)) fun p hp => by
    obtain ⟨o, ho, rfl⟩ := List.mem_map.mp hp
    exact (part_tl (h o ho)).1
  rw [List.length_map] at this
  simp at this
  omega
theorem line_split {row : Row} (h : ∀ o ∈ row, OkP o) (ne : row ≠ []) : Txt.split (lineS row) (" " : Str) = row.map partS := by
  unfold lineS
  refine TL.split_join tl_blank (by decide +kernel) (fun e => ne (List.map_eq_nil_iff.mp e)) fun p hp hc => ?_
  obtain ⟨o, ho, rfl⟩ := List.mem_map.mp hp
  have := (part_tl (h o ho)).2 32 hc
  omega
theorem land_split {g : Grid} (h : ∀ r ∈ g, ∀ o ∈ r, OkP o) (ne : g ≠ []) : Txt.split (landS g) ("\n" : Str) = g.map lineS := by
  unfold landS
  refine TL.split_join tl_end (by decide +kernel) (fun e => ne (List.map_eq_nil_iff.mp e)) fun p hp hc => ?_
  obtain ⟨r, hr, rfl⟩ := List.mem_map.mp hp
  have := line_codes (h r hr) hc
  omega
theorem land_len {g : Grid} (h : ∀ r ∈ g, ∀ o ∈ r, OkP o) (hg : g.length ≤ 6) (hr : ∀ r ∈ g, r.length ≤ 6) : (landS g).length ≤ 330 := by
  unfold landS
  rw [TL.len_tl, TL.join_eq, TL.tl_join, tl_end]
  have := join_size (S := [10]) (m := 54) (ps := (g.map lineS).map TL.tl) fun p hp => by
    obtain ⟨z, hz, rfl⟩ := List.mem_map.mp hp
    obtain ⟨r, hr', rfl⟩ := List.mem_map.mp hz
    rw [← TL.len_tl]
    exact line_len (h r hr') (hr r hr')
  rw [List.length_map, List.length_map] at this
  have e : (54 + [10].length) = 55 := rfl
  rw [e] at this
  omega
theorem names_part {g : Grid} (h : ∀ z ∈ names g, IsWd z) : ∀ r ∈ g, ∀ o ∈ r, OkP o := fun r hr o ho z e => h z (by
  unfold names
  rw [List.mem_filterMap]
  exact ⟨o, List.mem_flatten.mpr ⟨r, hr, ho⟩, e⟩)
theorem Good.parts {g : Grid} {wd : Nat} (G : Good g wd) : ∀ r ∈ g, ∀ o ∈ r, OkP o := names_part G.wd
theorem Good.nn {g : Grid} {wd : Nat} (G : Good g wd) : g ≠ [] := fun e => by
  have := G.h1
  rw [e] at this
  simp at this
theorem Good.six {g : Grid} {wd : Nat} (G : Good g wd) : ∀ r ∈ g, r.length ≤ 6 := fun r hr => by
  rw [G.rows r hr]
  exact G.w6
theorem part_inj {o u : Option Str} (h : OkP o) (k : OkP u) (e : partS o = partS u) : o = u := by
  cases o with
  | none =>
    cases u with
    | none => rfl
    | some z => exact absurd e.symm (wd_dash (k z rfl))
  | some y =>
    cases u with
    | none => exact absurd e (wd_dash (h y rfl))
    | some z => exact congrArg some e
theorem map_part_inj : ∀ {r q : Row}, (∀ o ∈ r, OkP o) → (∀ o ∈ q, OkP o) → r.map partS = q.map partS → r = q
  | [], [], _, _, _ => rfl
  | [], _ :: _, _, _, e => by simp at e
  | _ :: _, [], _, _, e => by simp at e
  | o :: r, u :: q, h, k, e => by
    simp only [List.map_cons, List.cons.injEq] at e
    rw [part_inj (h o List.mem_cons_self) (k u List.mem_cons_self) e.1, map_part_inj (fun x hx => h x (List.mem_cons_of_mem _ hx)) (fun x hx => k x (List.mem_cons_of_mem _ hx)) e.2]
theorem line_inj {r q : Row} (h : ∀ o ∈ r, OkP o) (k : ∀ o ∈ q, OkP o) (nr : r ≠ []) (nq : q ≠ []) (e : lineS r = lineS q) : r = q := by
  have := congrArg (fun z => Txt.split z (" " : Str)) e
  simp only [line_split h nr, line_split k nq] at this
  exact map_part_inj h k this
/-- unlike lands have unlike texts -/
theorem land_inj {g g' : Grid} {wd wd' : Nat} (G : Good g wd) (G' : Good g' wd') (e : landS g = landS g') : g = g' := by
  have h := congrArg (fun z => Txt.split z ("\n" : Str)) e
  simp only [land_split G.parts G.nn, land_split G'.parts G'.nn] at h
  have ne : ∀ {l : Grid} {v : Nat}, Good l v → ∀ r ∈ l, r ≠ [] := fun {l v} L r hr q => by
    have h1 := L.rows r hr
    have h2 := L.w1
    rw [q] at h1
    simp at h1
    omega
  have key : ∀ {l m : Grid}, (∀ r ∈ l, r ≠ [] ∧ ∀ o ∈ r, OkP o) → (∀ r ∈ m, r ≠ [] ∧ ∀ o ∈ r, OkP o) → l.map lineS = m.map lineS → l = m := by
    intro l
    induction l with
    | nil =>
      intro m _ _ e
      cases m with
      | nil => rfl
      | cons _ _ => simp at e
    | cons r l ih =>
      intro m hl hm e
      cases m with
      | nil => simp at e
      | cons q m =>
        simp only [List.map_cons, List.cons.injEq] at e
        have a := hl r List.mem_cons_self
        have b := hm q List.mem_cons_self
        rw [line_inj a.2 b.2 a.1 b.1 e.1, ih (fun x hx => hl x (List.mem_cons_of_mem _ hx)) (fun x hx => hm x (List.mem_cons_of_mem _ hx)) e.2]
  exact key (fun r hr => ⟨ne G r hr, G.parts r hr⟩) (fun r hr => ⟨ne G' r hr, G'.parts r hr⟩) h
end Wl

/-! Rules of ours for objects of own classes: len, str, repr, ==, !=, in a list of one, each by the class's own method. -/
namespace Wl
open PySem PySem.Spec PyProof.Rows L2
section
variable {X : Cx} {n : Nat} {f : Addr} {fd : FuncData} {ps : List Str} {sp : Sp} {C : Addr}
theorem v1 (a : Addr) : Vals [V.ref a] [Value.ref a] := .cons rfl .nil
theorem v2 (a b : Addr) : Vals [V.ref a, V.ref b] [Value.ref a, Value.ref b] := .cons rfl (.cons rfl .nil)
/-- an own def called somewhere below the running body -/
theorem run_own {A : Around} {pins : List (Addr × Obj)} {s : Shared} {σ : L2.St} {H : Hp} {vs : List V} {us : List Value} {Q : VK} (F : FnOk X.prog X.w X.K X.mg X.base CX0 n f fd ps sp) (hb : Binds X.K fd ps []) (sb : Sub X n A) (I : L2.Inv X pins σ H s) (r : Vals vs us) (hsp : sp vs H Q E0) :
    wpAny (model X.prog X.w) A (call (.ref f) us) (EP X pins σ Q) X.xe s := by
  have e0 : Env0 X.prog X.w X.K X.mg X.base A X.stack s H := by
    have e := I.env0
    exact ⟨by rw [sb.fr]; exact e.frames, e.mod, e.bs, e.bsz, e.funs, e.frf, e.hok, e.bare⟩
  have hl := F.len _ _ _ _ hsp
  have hb' : BindsTo s fd ⟨us, []⟩ (ps.zip us) := by
    have := hb s us I.kIn (by rw [List.append_nil, ← r.length]; exact hl)
    rw [List.append_nil] at this
    exact this
  refine wpAny_call (codeAny_mono (F.run A X.stack s H ⟨us, []⟩ us vs _ E0 sb.room e0 hb' r hsp) fun r s' hq => ?_)
  cases r with
  | error e => exact pass0 pins σ H s e s' I hq
  | ok fl =>
    cases fl with
    | ret w => exact I.after hq
    | next => exact False.elim hq
    | brk => exact False.elim hq
    | cont => exact False.elim hq
/-- len(o) -/
def rLenO (C : Addr) (sp : Sp) : List V → Hp → VK → Prop := fun xs H Q => ∃ a dx fs, xs = [V.ref a] ∧ H a = some (.ins C dx fs) ∧ sp [.ref a] H (fun v H' => ∃ k : Nat, v = .int (k : Int) ∧ k < 2 ^ 62 ∧ Q (.int (k : Int)) H') E0
theorem cr_lenO (F : FnOk X.prog X.w X.K X.mg X.base CX0 n f fd ps sp) (hb : Binds X.K fd ps []) (m : Meth X.K C "__len__" f) (hr : Room (n + 1) X.A) : CallR X (.builtin "len") (rLenO C sp) := by
  intro pins s σ H xs us Q I r h
  obtain ⟨a, dx, fs, rfl, ha, hsp⟩ := h
  obtain ⟨u, rfl, ru⟩ := vals1 r
  obtain rfl : u = Value.ref a := ru
  obtain ⟨mA, J, _⟩ := ins_get I.hok ha
  obtain ⟨od, J, _⟩ := J.look
  obtain ⟨m', hF⟩ := I.fr
  refine PySem.W.len_K hF I.ok.mod.kin J m.at_ m.fn (wpAny_mono (run_own F hb (Sub.in1 ⟨hr, rfl⟩) I (v1 a) hsp) (fun v s' hq => ?_) fun _ _ z => z)
  obtain ⟨z, H', I', rz, k, rfl, hk, q⟩ := hq
  obtain ⟨t, rfl⟩ := rz
  exact ⟨⟨by omega, by omega⟩, .int (k : Int), H', I'.tok _, ⟨_, rfl⟩, q⟩
/-- str(o) -/
def rStrO (C : Addr) (sp : Sp) : List V → Hp → VK → Prop := fun xs H Q => ∃ a dx fs, xs = [V.ref a] ∧ H a = some (.ins C dx fs) ∧ sp [.ref a] H (fun v H' => ∃ z, v = .str z ∧ Q (.str z) H') E0
theorem room_u2 {k : Nat} {A : Around} (r : Room k A) : A.units + 2 < cLine := by have := r.un; omega
theorem cr_strO (F : FnOk X.prog X.w X.K X.mg X.base CX0 n f fd ps sp) (hb : Binds X.K fd ps []) (m : Meth X.K C "__str__" f) (hr : Room (n + 2) X.A) : CallR X (.type "str") (rStrO C sp) := by
  intro pins s σ H xs us Q I r h
  obtain ⟨a, dx, fs, rfl, ha, hsp⟩ := h
  obtain ⟨u, rfl, ru⟩ := vals1 r
  obtain rfl : u = Value.ref a := ru
  obtain ⟨mA, J, _⟩ := ins_get I.hok ha
  obtain ⟨od, J, _⟩ := J.look
  refine PySem.W.kso_call (show X.A.units + 1 + 1 < cLine from room_u2 hr) I.kIn J m.at_ m.fn (wpAny_mono (run_own F hb (Sub.in1 (Sub.in1 ⟨hr, rfl⟩)) I (v1 a) hsp) (fun v s' hq => ?_) fun _ _ z => z)
  obtain ⟨z, H', I', rz, y, rfl, q⟩ := hq
  obtain ⟨t, rfl⟩ := rz
  exact ⟨.str y, H', I', ⟨_, rfl⟩, q⟩
/-- repr(o) -/
theorem cr_reprO (F : FnOk X.prog X.w X.K X.mg X.base CX0 n f fd ps sp) (hb : Binds X.K fd ps []) (m : Meth X.K C "__repr__" f) (hr : Room (n + 1) X.A) : CallR X (.builtin "repr") (rStrO C sp) := by
  intro pins s σ H xs us Q I r h
  obtain ⟨a, dx, fs, rfl, ha, hsp⟩ := h
  obtain ⟨u, rfl, ru⟩ := vals1 r
  obtain rfl : u = Value.ref a := ru
  obtain ⟨mA, J, _⟩ := ins_get I.hok ha
  obtain ⟨od, J, _⟩ := J.look
  obtain ⟨m', hF⟩ := I.fr
  refine PySem.W.repr_K (show X.A.units + 1 < cLine from by have := room_u2 hr; omega) hF I.ok.mod.kin J m.at_ m.fn (wpAny_mono (run_own F hb (Sub.in1 ⟨hr, rfl⟩) I (v1 a) hsp) (fun v s' hq => ?_) fun _ _ z => z)
  obtain ⟨z, H', I', rz, y, rfl, q⟩ := hq
  obtain ⟨t, rfl⟩ := rz
  exact ⟨.str y, H', I', ⟨_, rfl⟩, q⟩
/-- x == y of two of one class -/
def rEqO (C : Addr) (sp : Sp) (g : Bool → Bool) : R2 := fun x y H Q => ∃ a dx fs b dy gs, x = V.ref a ∧ y = V.ref b ∧ H a = some (.ins C dx fs) ∧ H b = some (.ins C dy gs) ∧ sp [.ref a, .ref b] H (fun v H' => ∃ c, v = .bl c ∧ Q (.bl (g c)) H') E0
theorem rc_eqO {A : Around} {pins : List (Addr × Obj)} {s : Shared} {σ : L2.St} {H : Hp} {a b dx dy : Addr} {fs gs : List (Str × V)} {Q : Bool → Hp → Prop} (F : FnOk X.prog X.w X.K X.mg X.base CX0 n f fd ps sp) (hb : Binds X.K fd ps []) (m : Meth X.K C "__eq__" f) (sb : Sub X n A) (I : L2.Inv X pins σ H s)
    (ha : H a = some (.ins C dx fs)) (hb' : H b = some (.ins C dy gs)) (hsp : sp [.ref a, .ref b] H (fun v H' => ∃ c, v = .bl c ∧ Q c H') E0) :
    wpAny (model X.prog X.w) A (richCompare .Eq (.ref a) (.ref b)) (fun v s' => ∃ c, v = .bool c ∧ ∃ H', L2.Inv X pins σ H' s' ∧ Q c H') X.xe s := by
  obtain ⟨mA, J, _⟩ := ins_get I.hok ha
  obtain ⟨mB, J', _⟩ := ins_get I.hok hb'
  obtain ⟨od, J, _⟩ := J.look
  obtain ⟨od', J', _⟩ := J'.look
  obtain ⟨m', hF⟩ := I.fr
  refine PySem.W.cmp_K (op := .Eq) (tb := .ref C) sb.room.units0 hF I.ok.mod.kin J J'.type (by simp [PySem.W.notFirst]) m.at_ m.fn (wpAny_mono (run_own F hb sb I (v2 a b) hsp) (fun v s' hq => ?_) fun _ _ z => z)
  obtain ⟨z, H', I', rz, c, rfl, q⟩ := hq
  cases rz
  exact ⟨c, rfl, H', I', q⟩
theorem op_eqO (F : FnOk X.prog X.w X.K X.mg X.base CX0 n f fd ps sp) (hb : Binds X.K fd ps []) (m : Meth X.K C "__eq__" f) (hr : Room n X.A) : OpR X (compareOp .Eq) (rEqO C sp id) := by
  intro pins s σ H x y v u Q I rx ry h
  obtain ⟨a, dx, fs, b, dy, gs, rfl, rfl, ha, hb', hsp⟩ := h
  cases rx
  cases ry
  show wpAny (model X.prog X.w) X.A (richCompare .Eq (.ref a) (.ref b)) (EP X pins σ Q) X.xe s
  refine wpAny_mono (rc_eqO F hb m ⟨hr, rfl⟩ I ha hb' hsp) (fun v s' hq => ?_) fun _ _ z => z
  obtain ⟨c, rfl, H', I', q⟩ := hq
  exact ⟨.bl c, H', I', rfl, q⟩
/-- what the class says of != -/
structure NeC (K : PySem.W.Frag) (C : Addr) : Prop where
  ne : PySem.W.findIn K (.ref C) "__ne__" = some (some (.builtin "object.__ne__"))
  ob : PySem.W.mroIn K C (.type "object") = some true
theorem ifBound_B {M : Model} {A : Around} {E : Value → Shared → Prop} {s : Shared} {K : PySem.W.Frag} {x C : Addr} {ox : Obj} {od : Option Obj} {name : Str} {id : String} {args : List Value} {Q : Option Value → Shared → Prop} (X : K.In s.heap) (I : PySem.W.InstAt s.heap x ox C od) (hs : PySem.W.findIn K (.ref C) name = some (some (.builtin id)))
    (hb : ∀ self, bindSpecial (.builtin id) self = pure (.builtin id, [self])) (h : wpAny M A (call (.builtin id) (.ref x :: args)) (fun v => Q (some v)) E s) : wpAny M A (callSpecialIfBound? (.ref x) name args) Q E s := by
  simp only [callSpecialIfBound?, bindSpecialIfBound?]
  refine wpAny_holding (wpAny_bind (wpAny_bind (wpAny_bind (I.type.here ((PySem.W.looks_findIn X hs).here ?_)))))
  refine wpAny_bind (wpAny_askSetting (wpAny_ite ?_))
  have fin : wpAny M A (call (.builtin id) ([.ref x] ++ args) >>= fun v => pure (some v)) Q E s := wpAny_bind (wpAny_mono h (fun v s' h' => wpAny_pure h') fun _ _ h' => h')
  split
  · exact wpAny_bind ((PySem.W.Looks.of_pure (hb _)).here (wpAny_pure (by exact fin)))
  · exact wpAny_tryCatch (wpAny_bind ((PySem.W.Looks.of_pure (hb _)).here (wpAny_pure (by exact fin))))
theorem obj_neK {A : Around} {E : Value → Shared → Prop} {s : Shared} {prog : Program} {w : World} {K : PySem.W.Frag} {x C f : Addr} {y : Value} {ox : Obj} {od : Option Obj} {Q : Value → Shared → Prop} (hu : A.units + 1 < cLine) (X : K.In s.heap) (I : PySem.W.InstAt s.heap x ox C od) (N : NeC K C) (he : PySem.W.findIn K (.ref C) "__eq__" = some (some (.ref f))) (hf : PySem.W.isFn K (.ref f) = true)
    (h : wpAny (model prog w) A.in1 (call (.ref f) [.ref x, y]) (fun v s' => ∃ c, v = .bool c ∧ Q (.bool (!c)) s') E s) : wpAny (model prog w) A (call (.builtin "object.__ne__") [.ref x, y]) Q E s := by
  refine wpAny_call (codeAny_call_builtin PySem.F.slot_object_ne.plain PySem.F.cmpEntry_ne (PySem.W.check_slot (i := "object.__ne__") (owner := "object") (n := "__ne__") (by decide +kernel) (by decide +kernel) (I.type.andThen (PySem.W.looks_mroIn X N.ob)) (PySem.F.cmpArgs_ne _ _) ?_))
  unfold Builtin.«object.__ne__»
  refine wpAny_bind (m := slotArgs "__ne__" 1 _) (wpAny_pure ?_)
  refine wpAny_bind (m := cRoomFor _ _) (wpAny_cRoomFor (show A.in1.units < cLine from hu) ?_)
  refine wpAny_bind (m := callSpecialIfBound? (.ref x) (Str.ofString "__eq__") _) (PySem.W.ifBound_K X I he hf (wpAny_mono h (fun r s' hq => ?_) fun _ _ z => z))
  obtain ⟨c, rfl, q⟩ := hq
  exact wpAny_bind (wpAny_truthy_bool (wpAny_pure q))
end
end Wl
namespace Wl
open PySem PySem.Spec PyProof.Rows L2
theorem ne_K {A : Around} {E : Value → Shared → Prop} {s : Shared} {prog : Program} {w : World} {K : PySem.W.Frag} {x C f : Addr} {y : Addr} {ox oy : Obj} {od od' : Option Obj} {Q : Value → Shared → Prop} (hu : A.units + 2 < cLine) (X : K.In s.heap) (I : PySem.W.InstAt s.heap x ox C od) (I' : PySem.W.InstAt s.heap y oy C od') (N : NeC K C) (he : PySem.W.findIn K (.ref C) "__eq__" = some (some (.ref f))) (hf : PySem.W.isFn K (.ref f) = true)
    (h : wpAny (model prog w) A.in1 (call (.ref f) [.ref x, .ref y]) (fun v s' => ∃ c, v = .bool c ∧ Q (.bool (!c)) s') E s) : wpAny (model prog w) A (richCompare .NotEq (.ref x) (.ref y)) Q E s := by
  have one : wpAny (model prog w) A (tryCompare (.ref x) "__ne__" (.ref y)) (fun r s' => ∃ v, r = some v ∧ Q v s') E s := by
    unfold tryCompare
    refine wpAny_bind (ifBound_B X I N.ne PySem.F.slot_object_ne.bind (wpAny_mono (obj_neK (Q := fun v s' => ∃ c, v = .bool c ∧ Q v s') (by omega) X I N he hf (wpAny_mono h (fun v s' hv => ?_) fun _ _ z => z)) (fun v s' hv => ?_) fun _ _ z => z))
    · obtain ⟨c, rfl, q⟩ := hv
      exact ⟨c, rfl, _, rfl, q⟩
    · obtain ⟨c, rfl, q⟩ := hv
      exact wpAny_pure ⟨_, rfl, q⟩
  unfold richCompare
  simp only [oneThing_ref]
  refine wpAny_holding (wpAny_bind (wpAny_cRoomFor (by omega) ?_))
  refine wpAny_bind (I.type.here (wpAny_bind (I'.type.here ?_)))
  rw [show (Value.ref C != Value.ref C) = false from by simp]
  simp only [Bool.false_eq_true, if_false]
  refine wpAny_bind (wpAny_pure ?_)
  simp only [Bool.false_eq_true, if_false]
  refine wpAny_bind (wpAny_mono one (fun r s' z => ?_) fun _ _ e => e)
  obtain ⟨v, rfl, hq⟩ := z
  exact wpAny_pure hq
section
variable {X : Cx} {n : Nat} {f : Addr} {fd : FuncData} {ps : List Str} {sp : Sp} {C : Addr}
theorem op_neO (F : FnOk X.prog X.w X.K X.mg X.base CX0 n f fd ps sp) (hb : Binds X.K fd ps []) (m : Meth X.K C "__eq__" f) (N : NeC X.K C) (hr : Room (n + 1) X.A) : OpR X (compareOp .NotEq) (rEqO C sp not) := by
  intro pins s σ H x y v u Q I rx ry h
  obtain ⟨a, dx, fs, b, dy, gs, rfl, rfl, ha, hb', hsp⟩ := h
  cases rx
  cases ry
  obtain ⟨mA, J, _⟩ := ins_get I.hok ha
  obtain ⟨mB, J', _⟩ := ins_get I.hok hb'
  obtain ⟨od, J, _⟩ := J.look
  obtain ⟨od', J', _⟩ := J'.look
  show wpAny (model X.prog X.w) X.A (richCompare .NotEq (.ref a) (.ref b)) (EP X pins σ Q) X.xe s
  refine ne_K (room_u2 hr) I.kIn J J' N m.at_ m.fn (wpAny_mono (run_own F hb (Sub.in1 ⟨hr, rfl⟩) I (v2 a b) hsp) (fun v s' hq => ?_) fun _ _ z => z)
  obtain ⟨z, H', I', rz, c, rfl, q⟩ := hq
  cases rz
  exact ⟨c, rfl, .bl (!c), H', I', rfl, q⟩
/-! x in xs, x not in xs, of objects -/
open GQ MeetsSeq MeetsSeq2 MeetsSeq3 SeqRoads2 in
open AutoSeq1 (wpAny_loadPart') in
theorem contains_loopO {prog : Program} {w : World} {A : Around} {R : Result → Shared → Prop} {l : Addr} {items : Array Value} {x : Value} (P : Nat → Shared → Prop)
    (hl : ∀ i s, P i s → ∃ k, s.heap.get? l = some { cls := .type "list", data := .seq items k })
    (turn : ∀ (i : Nat) (h : i < items.size) (s : Shared), P i s → wpAny (model prog w) A.in1 (eqBool items[i] x) (fun b s' => if b = true then R (.ok (.ret (.bool true))) s' else P (i + 1) s') (fun e s' => R (.error e) s') s)
    (fin : ∀ s, P items.size s → R (.ok (.ret (.bool false))) s) (k : Nat) :
    ∀ i : Nat, items.size - i = k → i ≤ items.size → ∀ s, P i s → wpAny (model prog w) A.in1 (Builtin.«list.__contains__.loop» ⟨[.ref l, x, rawInt i], []⟩) (FinOf prog w A R) (fun e s' => R (.error e) s') s := by
  induction k with
  | zero =>
    intro i hk hi s h
    obtain ⟨k, hl1⟩ := hl i s h
    have e : i = items.size := by omega
    have q := fin s (e ▸ h)
    obtain ⟨hp, g, d, tk, os⟩ := s
    wp_walk using wpAny_loadPart' hl1
    have hi1 : items[((i : Nat) : Int).toNat]? = none := by simp; omega
    rw [hi1]
    wp_walk
    exact q
  | succ k ih =>
    intro i hk hi s h
    obtain ⟨k1, hl1⟩ := hl i s h
    have hlt : i < items.size := by omega
    have ht := turn i hlt s h
    obtain ⟨hp, g, d, tk, os⟩ := s
    wp_walk using wpAny_loadPart' hl1
    have hi1 : items[((i : Nat) : Int).toNat]? = some items[i] := by simp [hlt]
    rw [hi1]
    refine wpAny_bind (wpAny_mono ht (fun b s2 h2 => ?_) fun _ _ z => z)
    cases b with
    | true =>
      rw [if_pos rfl] at h2
      wp_walk
      exact h2
    | false =>
      rw [if_neg (by decide)] at h2
      have hrec := ih (i + 1) (by omega) (by omega) s2 h2
      obtain ⟨hp2, g2, d2, tk2, os2⟩ := s2
      have hc : ((i : Int) + 1) = ((i + 1 : Nat) : Int) := by omega
      wp_walk
      rw [hc]
      exact ⟨plainId_quiet plain_contains_loop _, codeAny_builtin entry_contains_loop (by
        rw [Around.under_plainId plain_contains_loop _]
        exact hrec)⟩
open GQ MeetsSeq MeetsSeq2 MeetsSeq3 SeqRoads2 in
open AutoSeq1 (wpAny_loadPart') in
theorem containsO {prog : Program} {w : World} {A : Around} {R : Result → Shared → Prop} {s : Shared} {l : Addr} {items : Array Value} {x : Value} (P : Nat → Shared → Prop)
    (hl : ∀ i s, P i s → ∃ k, s.heap.get? l = some { cls := .type "list", data := .seq items k })
    (turn : ∀ (i : Nat) (h : i < items.size) (s : Shared), P i s → wpAny (model prog w) A.in1 (eqBool items[i] x) (fun b s' => if b = true then R (.ok (.ret (.bool true))) s' else P (i + 1) s') (fun e s' => R (.error e) s') s)
    (fin : ∀ s, P items.size s → R (.ok (.ret (.bool false))) s) (h : P 0 s) :
    wpAny (model prog w) A.in1 (Builtin.«list.__contains__» ⟨[.ref l, x], []⟩) (FinOf prog w A R) (fun e s' => R (.error e) s') s := by
  have hrec := contains_loopO (A := A) (R := R) P hl turn fin _ 0 rfl (Nat.zero_le _) s h
  obtain ⟨k, hl1⟩ := hl 0 s h
  obtain ⟨hp, g, d, tk, os⟩ := s
  wp_walk using wpAny_loadPart' hl1
  exact ⟨plainId_quiet plain_contains_loop _, codeAny_builtin entry_contains_loop (by
    rw [Around.under_plainId plain_contains_loop _]
    exact hrec)⟩
/-- x in [y]: both of one class -/
def rInO (C : Addr) (sp : Sp) (g : Bool → Bool) : R2 := fun x y H Q => ∃ a dx fs l b dy gs, x = V.ref a ∧ y = V.ref l ∧ H l = some (.lst [.ref b]) ∧ H a = some (.ins C dx fs) ∧ H b = some (.ins C dy gs) ∧ (a = b → Q (.bl (g true)) H) ∧
  (a ≠ b → sp [.ref b, .ref a] H (fun v H' => ∃ c, v = .bl c ∧ H' l = some (.lst [.ref b]) ∧ Q (.bl (g c)) H') E0)
theorem op_inO' (F : FnOk X.prog X.w X.K X.mg X.base CX0 n f fd ps sp) (hb : Binds X.K fd ps []) (m : Meth X.K C "__eq__" f) (hr : Room (n + 1) X.A) {g : Bool → Bool} {pins : List (Addr × Obj)} {s : Shared} {σ : L2.St} {H : Hp} {x y : V} {v u : Value} {Q : VK} (I : L2.Inv X pins σ H s) (rx : RelV x v) (ry : RelV y u) (h : rInO C sp g x y H Q) :
    wpAny (model X.prog X.w) X.A (contains u v) (fun b s' => EP X pins σ Q (.bool (g b)) s') X.xe s := by
  obtain ⟨a, dx, fs, l, b, dy, gs, rfl, rfl, hl, ha, hb', q1, q2⟩ := h
  cases rx
  cases ry
  obtain ⟨z, its, k, r, ho⟩ := I.hok l _ hl
  obtain ⟨u, rfl, ru⟩ := vals1 r
  obtain rfl : u = Value.ref b := ru
  refine wpAny_contains_slot ⟨_, ho, rfl⟩ PySem.F.slot_list_contains (wpAny_mono (GQ.call_here PySem.F.slot_list_contains ⟨_, ho, rfl⟩ PySem.F.entry_list_contains (PySem.F.args_list_contains_2 _ _)
    (containsO (R := wants (fun v s' => ∃ c, v = .bool c ∧ EP X pins σ Q (.bool (g c)) s') X.xe) (items := #[.ref b]) (fun i s' => (i = 0 ∧ s' = s) ∨ (i = 1 ∧ ∃ H', L2.Inv X pins σ H' s' ∧ H' l = some (.lst [.ref b]) ∧ Q (.bl (g false)) H')) (fun i s' h => ?_) (fun i hi s' h => ?_) (fun s' h => ?_) (.inl ⟨rfl, rfl⟩))) (fun v s' hv => ?_) fun _ _ e => e)
  · rcases h with ⟨rfl, rfl⟩ | ⟨rfl, H', I', hl', _⟩
    · exact ⟨k, ho⟩
    · obtain ⟨z', its', k', r', ho'⟩ := I'.hok l _ hl'
      obtain ⟨u, rfl, ru⟩ := vals1 r'
      obtain rfl : u = Value.ref b := ru
      exact ⟨k', ho'⟩
  · have e0 : i = 0 := by simp at hi; omega
    subst e0
    rcases h with ⟨_, rfl⟩ | ⟨e, _⟩
    · show wpAny (model X.prog X.w) X.A.in1 (eqBool (.ref b) (.ref a)) _ _ _
      by_cases e : b = a
      · subst e
        refine SeqAt.EqAt.same (A := X.A.in1) (s := s') (.ref b) X.prog X.w _ _ ?_
        rw [if_pos rfl]
        exact ⟨_, rfl, .bl (g true), H, I, rfl, q1 rfl⟩
      · refine GQ.eqBool_refG e (wpAny_mono (rc_eqO F hb m (Sub.in1 ⟨hr, rfl⟩) I hb' ha (Q := fun c H' => H' l = some (.lst [.ref b]) ∧ Q (.bl (g c)) H') (q2 (Ne.symm e))) (fun v s2 hq => ?_) fun _ _ z => z)
        obtain ⟨c, rfl, H', I', hl', q⟩ := hq
        refine ⟨c, rfl, ?_⟩
        cases c with
        | true =>
          rw [if_pos rfl]
          exact ⟨_, rfl, .bl (g true), H', I', rfl, q⟩
        | false =>
          rw [if_neg (by decide)]
          exact .inr ⟨rfl, H', I', hl', q⟩
    · omega
  · rcases h with ⟨e, _⟩ | ⟨_, H', I', hl', q⟩
    · simp at e
    · exact ⟨_, rfl, .bl (g false), H', I', rfl, q⟩
  · obtain ⟨c, rfl, q⟩ := hv
    exact wpAny_truthy_bool q
theorem op_inO (F : FnOk X.prog X.w X.K X.mg X.base CX0 n f fd ps sp) (hb : Binds X.K fd ps []) (m : Meth X.K C "__eq__" f) (hr : Room (n + 1) X.A) : OpR X (compareOp .In) (rInO C sp id) := by
  intro pins s σ H x y v u Q I rx ry h
  show wpAny _ X.A (do return Value.bool (← contains u v)) _ _ s
  exact wpAny_bind (wpAny_mono (op_inO' F hb m hr I rx ry h) (fun b s' q => wpAny_pure q) fun _ _ z => z)
theorem op_notInO (F : FnOk X.prog X.w X.K X.mg X.base CX0 n f fd ps sp) (hb : Binds X.K fd ps []) (m : Meth X.K C "__eq__" f) (hr : Room (n + 1) X.A) : OpR X (compareOp .NotIn) (rInO C sp not) := by
  intro pins s σ H x y v u Q I rx ry h
  show wpAny _ X.A (do return Value.bool (!(← contains u v))) _ _ s
  exact wpAny_bind (wpAny_mono (op_inO' F hb m hr I rx ry h) (fun b s' q => wpAny_pure q) fun _ _ z => z)
end
end Wl

namespace Wl
open PySem PySem.Spec PyProof.Rows L2
def oD : Option Str → PyData
  | none => .none
  | some z => .str z
def rD (row : Row) : PyData := .tuple (row.map oD)
def gD (g : Grid) : PyData := .tuple (g.map rD)
theorem dp_row {K : PySem.W.Frag} {H : Hp} : ∀ row : Row, DpAll K H (row.map oV) (row.map oD)
  | [] => .nil
  | none :: r => .cons .non (dp_row r)
  | some z :: r => .cons (.str z) (dp_row r)
theorem dp_rows {K : PySem.W.Frag} {H : Hp} : ∀ {as : List Addr} {g : Grid}, RowsAt H as g → DpAll K H (as.map V.ref) (g.map rD)
  | _, _, .nil => .nil
  | _, _, .cons e t => .cons (.tup (.inl (.inl e)) (dp_row _)) (dp_rows t)
theorem dp_grid {K : PySem.W.Frag} {H : Hp} {L : Addr} {g : Grid} (h : GridAt H L g) : Dp K H (.ref L) (gD g) := by
  obtain ⟨as, hL, hR⟩ := h
  exact .tup (.inl (.inl hL)) (dp_rows hR)
theorem lay_row : ∀ {row : Row}, (∀ z ∈ rnames row, IsWd z) → PyData.canLayAll0 (row.map oD) = true
  | [], _ => by simp [PyData.canLayAll0]
  | none :: r, h => by simp [PyData.canLayAll0, oD, PyData.canLay0, lay_row (row := r) h]
  | some z :: r, h => by
    have h1 := wd_ok (h z (by simp [rnames]))
    have h2 := lay_row (row := r) fun y hy => h y (by simp only [rnames, List.filterMap_cons] at hy ⊢; exact List.mem_cons_of_mem _ hy)
    simp [PyData.canLayAll0, oD, PyData.canLay0, h1, h2]
theorem depth_row : ∀ row : Row, PyData.depthAll (row.map oD) = 0
  | [] => by simp [PyData.depthAll]
  | none :: r => by simp [PyData.depthAll, PyData.depth, oD, depth_row r]
  | some z :: r => by simp [PyData.depthAll, PyData.depth, oD, depth_row r]
theorem lay_grid : ∀ {g : Grid}, (∀ z ∈ names g, IsWd z) → PyData.canLayAll0 (g.map rD) = true
  | [], _ => by simp [PyData.canLayAll0]
  | r :: g, h => by
    rw [names_cons] at h
    have h1 := lay_row (row := r) fun z hz => h z (List.mem_append_left _ hz)
    have h2 := lay_grid (g := g) fun z hz => h z (List.mem_append_right _ hz)
    simp [PyData.canLayAll0, rD, PyData.canLay0, h1, h2]
theorem depth_grid : ∀ g : Grid, PyData.depthAll (g.map rD) ≤ 1
  | [] => by simp [PyData.depthAll]
  | r :: g => by
    have := depth_grid g
    have := depth_row r
    simp only [List.map_cons, PyData.depthAll, rD, PyData.depth]
    omega
theorem shaped_grid {g : Grid} {wd : Nat} (gd : Good g wd) : SeqAt.shaped (gD g) = true := shaped_tuple (lay_grid gd.wd) (by have := depth_grid g; omega)
theorem same_x {H0 H1 H2 : Hp} {a : Addr} (s : Same H0 H1) (x : SameX a H1 H2) (h : H0 a = none) : Same H0 H2 := fun b o e => x b o (ne_of_none e h) (s b o e)
theorem made_same {H1 H' : Hp} {x dx C : Addr} (nx : H1 x = none) (ndx : H1 dx = none) (h : ∀ b o, b ≠ x → (upd (upd H1 dx (.own x)) x (.ins C dx [])) b = some o → H' b = some o) : Same H1 H' := fun b o e => by
  have n1 : b ≠ x := ne_of_none e nx
  refine h b o n1 ?_
  rw [upd_ne n1, upd_ne (ne_of_none e ndx)]
  exact e

theorem o_eqv (a b : Option Str) : PyData.eqv (oD a) (oD b) = decide (a = b) := by
  cases a with
  | none => cases b <;> simp [oD, PyData.eqv]
  | some x =>
    cases b with
    | none => simp [oD, PyData.eqv]
    | some y =>
      simp only [oD, PyData.eqv, Option.some.injEq]
      by_cases h : x = y
      · subst h
        simp
      · rw [decide_eq_false h]
        exact beq_eq_false_iff_ne.mpr h
theorem row_eqv : ∀ r q : Row, PyData.eqvAll (r.map oD) (q.map oD) = decide (r = q)
  | [], [] => by simp [PyData.eqvAll]
  | [], _ :: _ => by simp [PyData.eqvAll]
  | _ :: _, [] => by simp [PyData.eqvAll]
  | o :: r, u :: q => by
    simp only [List.map_cons, PyData.eqvAll, o_eqv, row_eqv r q, List.cons.injEq]
    by_cases h1 : o = u <;> by_cases h2 : r = q <;> simp [h1, h2]
theorem rows_eqv : ∀ g g' : Grid, PyData.eqvAll (g.map rD) (g'.map rD) = decide (g = g')
  | [], [] => by simp [PyData.eqvAll]
  | [], _ :: _ => by simp [PyData.eqvAll]
  | _ :: _, [] => by simp [PyData.eqvAll]
  | r :: g, q :: g' => by
    simp only [List.map_cons, PyData.eqvAll, rD, PyData.eqv, row_eqv, rows_eqv g g', List.cons.injEq]
    by_cases h1 : r = q <;> by_cases h2 : g = g' <;> simp [h1, h2]
theorem grid_eqv (g g' : Grid) : PyData.eqv (gD g) (gD g') = decide (g = g') := by
  unfold gD
  simp only [PyData.eqv, rows_eqv]
/-- what the class says of itself, for isinstance and != -/
structure Txt2 (K : PySem.W.Frag) (mg : Str → Option Value) (C : Addr) : Prop where
  t : Txt K mg C
  ins : C8.InsC K C
  ne : NeC K C
theorem fs_no {m : Str} {d L : Addr} (h1 : ¬ m = "rows" := by decide +kernel) (h2 : ¬ m = "spots" := by decide +kernel) : (lf d L).lookup m = none := lf_no d L h1 h2
abbrev sEq : Stmt := inClass sCls 6
abbrev sLen : Stmt := inClass sCls 7
abbrev sStr : Stmt := inClass sCls 8
abbrev sRepr : Stmt := inClass sCls 9
section
variable {P : Program} {w : World} {K : PySem.W.Frag} {mg : Str → Option Value} {base : Heap} {f C : Addr} {fd : FuncData}
theorem LandAt.ins {H : Hp} {p L : Addr} {g : Grid} (h : LandAt C H p L g) : ∃ dx d, H p = some (.ins C dx (lf d L)) := by
  obtain ⟨d, dx, h1, _⟩ := h
  exact ⟨dx, d, h1⟩
theorem LandAt.grid {H : Hp} {p L : Addr} {g : Grid} (h : LandAt C H p L g) : GridAt H L g := by
  obtain ⟨d, dx, _, _, h3⟩ := h
  exact h3
theorem LandAt.same {H H' : Hp} {p L : Addr} {g : Grid} (h : LandAt C H p L g) (s : Same H H') : LandAt C H' p L g := h.keep (kp_same s)
/-! ### == -/
def spLEq (C : Addr) : Sp := fun vs H Q _ => ∃ (p L q M : Addr) (g g' : Grid) (wd wd' : Nat), vs = [.ref p, .ref q] ∧ LandAt C H p L g ∧ Good g wd ∧ LandAt C H q M g' ∧ Good g' wd' ∧ Q (.bl (decide (g = g'))) H
theorem scEq : FnScope ["self", "other"] ["self", "other"] (defScope sEq) := ⟨rfl, rfl, rfl, by decide +kernel, rfl, by decide +kernel, by decide +kernel⟩
theorem ok_leq (F : Fun K "__eq__" "Land.__eq__" sEq f fd) (B : Bi mg) (T : Txt2 K mg C) : FnOk P w K mg base CX0 1 f fd ["self", "other"] (spLEq C) := by
  refine F.ok scEq (fun vs H Q E h => ?_) (fun cdv A outer s H vs Q E hr h => ?_)
  · obtain ⟨p, L, q, M, g, g', wd, wd', rfl, _⟩ := h
    rfl
  · obtain ⟨p, L, q, M, g, g', wd, wd', rfl, h1, gd, h2, gd', qq⟩ := h
    refine ⟨_, pss_one (ps_ret (pe_and (pe_callB (C8.call_isC (C := C) T.ins) (by rfl) B.isi (by decide +kernel) (pa_cons (pv 1) (pa_cons (pe_glob (v := .ref C) rfl T.t.mgC rfl) pa_nil))) (pe_one (pe_cmpR (op_eqD hr.units) (pe_fld (pv 0) rfl) (pe_fld (pv 1) rfl) (nomark _))))), ?_⟩
    obtain ⟨dx, d, i1⟩ := h1.ins
    obtain ⟨dy, e, i2⟩ := h2.ins
    refine ⟨_, rfl, q, dy, _, rfl, i2, true, rfl, iteT ⟨_, rfl, p, C, dx, _, _, rfl, i1, T.t.cl, T.t.nR, lf_rows _ _, _, rfl, q, C, dy, _, _, rfl, i2, T.t.cl, T.t.nR, lf_rows _ _, _, _, dp_grid h1.grid, dp_grid h2.grid, shaped_grid gd, shaped_grid gd', ?_⟩⟩
    rw [grid_eqv]
    exact qq
/-! ### len -/
def spLLen (C : Addr) : Sp := fun vs H Q _ => ∃ (p L : Addr) (g : Grid), vs = [.ref p] ∧ LandAt C H p L g ∧ Q (.int (names g).length) H
theorem scLen : FnScope ["self"] ["self"] (defScope sLen) := ⟨rfl, rfl, rfl, by decide +kernel, rfl, by decide +kernel, by decide +kernel⟩
theorem ok_llen (F : Fun K "__len__" "Land.__len__" sLen f fd) (B : Bi mg) (T : Txt K mg C) : FnOk P w K mg base CX0 1 f fd ["self"] (spLLen C) := by
  refine F.ok scLen (fun vs H Q E h => ?_) (fun cdv A outer s H vs Q E hr h => ?_)
  · obtain ⟨p, L, g, rfl, _⟩ := h
    rfl
  · obtain ⟨p, L, g, rfl, ⟨d, dx, i1, ⟨kvs, hk, he⟩, _⟩, q⟩ := h
    refine ⟨_, pss_one (ps_ret (pe_callB call_lenD (by rfl) B.len PySem.boot_len (pa_cons (pe_fld (pv 0) rfl) pa_nil))), ?_⟩
    refine ⟨_, rfl, p, C, dx, _, _, rfl, i1, T.cl, T.nS, lf_spots _ _, d, kvs, rfl, hk, ?_⟩
    have : kvs.length = (names g).length := by
      rw [he.length, ← spG_fst g 0, List.length_map]
    rw [this]
    exact q
/-! ### repr -/
def reprS (n : Nat) : Str := ("Land(" : Str) ++ (toString (n : Int) : String) ++ (")" : Str)
def spLRepr (C : Addr) : Sp := fun vs H Q _ => ∃ (p L : Addr) (g : Grid), vs = [.ref p] ∧ LandAt C H p L g ∧ (names g).length ≤ 36 ∧ Q (.str (reprS (names g).length)) H
theorem scRepr : FnScope ["self"] ["self"] (defScope sRepr) := ⟨rfl, rfl, rfl, by decide +kernel, rfl, by decide +kernel, by decide +kernel⟩
theorem dig_len {n : Nat} (h : n ≤ 36) : ((toString (n : Int) : String) : Str).length ≤ 2 := by
  have : ∀ k : Fin 37, ((toString ((k.val : Nat) : Int) : String) : Str).length ≤ 2 := by decide +kernel
  exact this ⟨n, by omega⟩
theorem str_n (n : Nat) (h : n ≤ 36) : (((n : Nat) : Int).natAbs).log2 < 1920 := by
  have : ((n : Nat) : Int).natAbs = n := Int.natAbs_natCast n
  rw [this]
  have h2 : n.log2 ≤ n := Nat.log2_le_self n
  omega
theorem ok_lrepr (F : Fun K "__repr__" "Land.__repr__" sRepr f fd) (B : Bi mg) (T : Txt K mg C) : FnOk P w K mg base CX0 1 f fd ["self"] (spLRepr C) := by
  refine F.ok scRepr (fun vs H Q E h => ?_) (fun cdv A outer s H vs Q E hr h => ?_)
  · obtain ⟨p, L, g, rfl, _⟩ := h
    rfl
  · obtain ⟨p, L, g, rfl, ⟨d, dx, i1, ⟨kvs, hk, he⟩, _⟩, h36, q⟩ := h
    refine ⟨_, pss_one (ps_ret (pe_joined (.cons pe_str (.cons (pe_fmt (pe_callB call_lenD (by rfl) B.len PySem.boot_len (pa_cons (pe_fld (pv 0) rfl) pa_nil))) (.cons pe_str .nil))))), ?_⟩
    have ek : kvs.length = (names g).length := by
      rw [he.length, ← spG_fst g 0, List.length_map]
    refine ⟨_, rfl, by decide +kernel, _, rfl, p, C, dx, _, _, rfl, i1, T.cl, T.nS, lf_spots _ _, d, kvs, rfl, hk, .inr ⟨_, rfl, ?_, _, rfl, ?_, _, rfl, ?_, ?_⟩⟩
    · rw [ek]
      exact str_n _ h36
    · rw [ek]
      exact lzl (by rw [add_len, add_len]; have := dig_len h36; have : (Str.empty).length = 0 := rfl; have : ("Land(" : Str).length = 5 := (by decide +kernel); omega)
    · rw [ek]
      exact lzl (by rw [add_len, add_len, add_len]; have := dig_len h36; have : (Str.empty).length = 0 := rfl; have : ("Land(" : Str).length = 5 := (by decide +kernel); have : (")" : Str).length = 1 := (by decide +kernel); omega)
    · have e0 : (Str.empty ++ ("Land(" : Str)) = ("Land(" : Str) := by decide +kernel
      rw [ek]
      show Q (.str (Str.empty ++ ("Land(" : Str) ++ _ ++ (")" : Str))) H
      rw [e0]
      exact q
/-! ### str -/
def showV : V → V
  | .non => .str "-"
  | v => v
theorem sum_len {m : Nat} : ∀ {l : List Str}, (∀ z ∈ l, z.length ≤ m) → (l.map (·.length)).sum ≤ l.length * m
  | [], _ => by simp
  | z :: r, h => by
    have h1 := h z List.mem_cons_self
    have h2 := sum_len (m := m) (l := r) fun y hy => h y (List.mem_cons_of_mem _ hy)
    rw [List.map_cons, List.sum_cons, List.length_cons, Nat.succ_mul]
    omega
theorem oV_inj {o u : Option Str} (h : oV o = oV u) : o = u := by
  cases o with
  | none =>
    cases u with
    | none => rfl
    | some z => cases h
  | some y =>
    cases u with
    | none => cases h
    | some z =>
      cases h
      rfl
theorem map_oV_inj : ∀ {r q : Row}, r.map oV = q.map oV → r = q
  | [], [], _ => rfl
  | [], _ :: _, e => by simp at e
  | _ :: _, [], e => by simp at e
  | o :: r, u :: q, e => by
    simp only [List.map_cons, List.cons.injEq] at e
    rw [oV_inj e.1, map_oV_inj e.2]
theorem lines_of {H : Hp} : ∀ {as : List Addr} {g : Grid} {zs : List V}, RowsAt H as g → Each (fun (x z : V) => ∀ (pr : Addr) (row : Row), x = .ref pr → H pr = some (.tup (row.map oV)) → z = .str (lineS row)) (as.map V.ref) zs → zs = (g.map lineS).map V.str
  | [], [], [], _, _ => rfl
  | [], [], _ :: _, _, h => nomatch h
  | [], _ :: _, _, h, _ => nomatch h
  | _ :: _, [], _, h, _ => nomatch h
  | _ :: _, _ :: _, [], _, h => nomatch h
  | a :: as, r :: g, z :: zs, .cons e t, .cons e' t' => by
    rw [e' a r rfl e, lines_of t t']
    rfl
def spLStr (C : Addr) : Sp := fun vs H Q _ => ∃ (p L : Addr) (g : Grid) (wd : Nat), vs = [.ref p] ∧ LandAt C H p L g ∧ Good g wd ∧ ∀ (H' : Hp), Same H H' → Q (.str (landS g)) H'
abbrev nStr : List Str := ["self", "row", "part"]
theorem scStr : FnScope nStr ["self"] (defScope sStr) := ⟨rfl, rfl, rfl, by decide +kernel, rfl, by decide +kernel, by decide +kernel⟩
theorem ok_lstr (F : Fun K "__str__" "Land.__str__" sStr f fd) (T : Txt K mg C) (hlk : ∃ t, mg "LAKE" = some (.str "-" t)) : FnOk P w K mg base CX0 1 f fd ["self"] (spLStr C) := by
  obtain ⟨tl, gl⟩ := hlk
  refine F.ok scStr (fun vs H Q E h => ?_) (fun cdv A outer s H vs Q E hr h => ?_)
  · obtain ⟨p, L, g, wd, rfl, _⟩ := h
    rfl
  · obtain ⟨p, L, g, wd, rfl, ⟨d, dx, i1, _, as, hL, hR⟩, gd, q⟩ := h
    refine ⟨_, pss_one (ps_ret (pe_join pe_str (pe_lc (own := [("row", 1)]) (g := gName 1) (tt := tYes) (te := tM1 (fun x xs H Q => ∃ a p, ∃ ys : List Str, x = .str a ∧ xs = [.ref p] ∧ (SqL K H p (ys.map V.str) ∨ SqT K H p (ys.map V.str)) ∧ (ys.map (·.length)).sum + ys.length * a.length ≤ 16777216 ∧ Q (.str (Txt.join a ys)) H) (tC (.str " ")) (tLc (iTup K (tVar 1)) (gName 2) tYes (tIf (tB (tIsN (tVar 2))) (tC (.str "-")) (tVar 2)) [2])) rfl scStr.nd (pi_tup (pe_fld (pv 0) rfl)) (blkOk_by (N := nStr) (sc := defScope sStr) (by decide +kernel)) (fun _ _ _ _ _ => pg_name (i := 1) scStr.nd rfl (.inl rfl)) (fun _ _ _ _ _ => pts_nil)
      (fun _ _ _ _ _ => pe_join pe_str (pe_lc (own := [("part", 2)]) (g := gName 2) (tt := tYes) rfl scStr.nd (pi_tup (pv 1)) (blkOk_by (N := nStr) (sc := { kind := .function, names := [(".0", .local), ("row", .local)], isGenerator := false, isCoroutine := false }) (by decide +kernel)) (fun _ _ _ _ _ => pg_name (i := 2) scStr.nd rfl (.inl rfl)) (fun _ _ _ _ _ => pts_nil) (fun _ _ _ _ _ => pe_ifExp (pt_cmp (pc_isN (pv 2))) (pe_glob (v := .str "-") (by rfl) gl ⟨_, rfl⟩) (pv 2))))))), ?_⟩
    refine ⟨⟨_, rfl⟩, _, rfl, p, C, dx, _, _, rfl, i1, T.cl, T.nR, lf_rows _ _, L, rfl, ⟨_, .inl (.inl hL)⟩, fun D hD => ?_⟩
    have h6 : as.length ≤ 6 := by rw [hR.length]; exact gd.h6
    refine lc_rel (walk_tup (K := K) (a := L) (xs := as.map V.ref)) hD (fun _ => true) (fun x y _ => ∀ (pr : Addr) (row : Row), x = .ref pr → H pr = some (.tup (row.map oV)) → y = .str (lineS row)) (fun H' s' => .inl (.inl (s' _ _ hL))) (fun _ => rfl) (fun x H' _ _ Q' q' => q') ?_ (fun _ _ _ _ _ _ _ r => r) ?_ ?_
    · intro x H' hx _ s' Q' q'
      obtain ⟨pr, hpr, rfl⟩ := List.mem_map.mp hx
      obtain ⟨i, hi, ei⟩ := List.mem_iff_getElem.mp hpr
      obtain ⟨row, hrow, hH⟩ := hR.get (i := i) (a := pr) (by rw [List.getElem?_eq_getElem hi, ei])
      have hrm := List.mem_of_getElem? hrow
      have hr6 : row.length ≤ 6 := gd.six row hrm
      refine ⟨⟨_, rfl⟩, _, rfl, pr, rfl, ⟨_, .inl (.inl (s' _ _ hH))⟩, fun D2 hD2 => ?_⟩
      refine lc_map (walk_tup (K := K) (a := pr) (xs := row.map oV)) hD2 (fun _ => true) showV (fun H2 s2 => .inl (.inl (s2 _ _ (s' _ _ hH)))) (fun _ => rfl) (fun x H' _ _ Q' q' => q') ?_ ?_ ?_
      · intro x H2 hx2 _ _ Q2 q2
        obtain ⟨o, _, rfl⟩ := List.mem_map.mp hx2
        refine ⟨_, rfl, _, rfl, ?_⟩
        cases o with
        | none => exact iteT q2
        | some z => exact iteF ⟨_, rfl, q2⟩
      · rw [List.length_map]
        exact small1000 (by omega)
      · intro H2 s2 hD3
        have e1 : ((row.map oV).filter fun _ => true).map showV = (row.map partS).map V.str := by
          rw [List.filter_eq_self.mpr fun _ _ => rfl, List.map_map, List.map_map]
          refine List.map_congr_left fun o _ => ?_
          cases o <;> rfl
        rw [e1] at hD3
        refine ⟨_, D2, row.map partS, rfl, rfl, .inl (.inl (.inl hD3)), ?_, q' _ H2 s2 fun pr2 row2 e2 h2 => ?_⟩
        · have := sum_len (l := row.map partS) (m := 8) fun z hz => by
            obtain ⟨o, ho, rfl⟩ := List.mem_map.mp hz
            rw [TL.len_tl]
            exact (part_tl (gd.parts row hrm o ho)).1
          rw [List.length_map] at this ⊢
          have e : (" " : Str).length = 1 := by decide +kernel
          rw [e]
          omega
        · obtain rfl : pr = pr2 := V.ref.inj e2
          rw [hH] at h2
          have : row = row2 := map_oV_inj (HO.tup.inj (Option.some.inj h2))
          rw [← this]
          rfl
    · rw [List.length_map]
      exact small1000 (by omega)
    · intro zs H1 s1 hD1 he
      rw [List.filter_eq_self.mpr fun _ _ => rfl] at he
      have e1 : zs = (g.map lineS).map V.str := lines_of hR he
      rw [e1] at hD1
      refine ⟨_, D, g.map lineS, rfl, rfl, .inl (.inl (.inl hD1)), ?_, q H1 s1⟩
      have := sum_len (l := g.map lineS) (m := 54) fun z hz => by
        obtain ⟨r, hr', rfl⟩ := List.mem_map.mp hz
        exact line_len (gd.parts r hr') (gd.six r hr')
      rw [List.length_map] at this ⊢
      have e : ("\n" : Str).length = 1 := by decide +kernel
      have := gd.h6
      rw [e]
      omega
end
end Wl


namespace Wl
open PySem PySem.Spec PyProof.Rows L2
abbrev sIsWhole : Stmt := topS 21
abbrev sIsNum : Stmt := topS 22
abbrev sCheckW : Stmt := topS 24
abbrev sCheckA : Stmt := topS 48
abbrev sCheckS : Stmt := topS 49
abbrev sKeyOf : Stmt := topS 50
abbrev sGat : Stmt := topS 52
abbrev sGInit : Stmt := inClass sGat 0
abbrev sGPlace : Stmt := inClass sGat 1
abbrev sGPut : Stmt := inClass sGat 2
/-- what was told -/
structure Tel where
  v : Str
  th : Str
  wo : Str
  tl : Str
  age : Nat
  g : Str
  sure : Bool
deriving DecidableEq
def telV (t : Tel) : List V := [.str t.v, .str t.th, .str t.wo, .str t.tl, .int (t.age : Int), .str t.g, .bl t.sure]
def keyV (t : Tel) : List V := [.str t.v, .str t.tl, .str t.th, .str t.g]
structure OkT (t : Tel) : Prop where
  v : IsWd t.v
  th : IsWd t.th
  wo : IsWd t.wo
  tl : IsWd t.tl
  age : t.age ≤ 120
  g : IsWd t.g
def TelsAt (H : Hp) (as : List Addr) (ts : List Tel) : Prop := Each (fun (p : Addr) (t : Tel) => H p = some (.tup (telV t))) as ts
theorem TelsAt.keep {H H' : Hp} {as : List Addr} {ts : List Tel} (h : TelsAt H as ts) (k : TupKeep H H') : TelsAt H' as ts := Each.mono (fun p t e => k p _ e) h
section
variable {P : Program} {w : World} {K : PySem.W.Frag} {mg : Str → Option Value} {base : Heap} {f C : Addr} {fd : FuncData}
structure Bg (mg : Str → Option Value) : Prop where
  bool : mg "bool" = none
  oldest : ∃ t, mg "OLDEST" = some (.int 120 t)
  most : ∃ t, mg "MOST_TELLINGS" = some (.int 200 t)
  dot : ∃ t, mg "DOT" = some (.str "." t)
  doubt : ∃ t, mg "DOUBT" = some (.str "?" t)
/-! ### is_whole, is_number_from -/
def spIsWhole : Sp := fun vs H Q _ => ∃ (n : Int), vs = [.int n] ∧ Q (.bl true) H
theorem scIsWhole : FnScope ["thing"] ["thing"] (defScope sIsWhole) := ⟨rfl, rfl, rfl, by decide +kernel, rfl, by decide +kernel, by decide +kernel⟩
theorem ok_iswhole (F : Fun K "is_whole" "is_whole" sIsWhole f fd) (B : Bi mg) (B2 : Bg mg) : FnOk P w K mg base CX0 1 f fd ["thing"] spIsWhole := by
  refine F.ok scIsWhole (fun vs H Q E h => ?_) (fun cdv A outer s H vs Q E hr h => ?_)
  · obtain ⟨n, rfl, _⟩ := h
    rfl
  · obtain ⟨n, rfl, q⟩ := h
    refine ⟨_, pss_one (ps_ret (pe_and (pe_callB call_isi (by rfl) B.isi (by decide +kernel) (pa_cons (pv 0) (pa_cons (pe_bltn (v := .ty "int") (by rfl) B.int (by decide +kernel) rfl) pa_nil)))
      (pe_one (pe_not (pe_callB call_isi (by rfl) B.isi (by decide +kernel) (pa_cons (pv 0) (pa_cons (pe_bltn (v := .ty "bool") (by rfl) B2.bool (by decide +kernel) rfl) pa_nil))))))), ?_⟩
    refine ⟨_, rfl, _, _, _, _, _, rfl, .ty "int", .base (.int n), kit_ty (r := true) (by decide +kernel), true, rfl, iteT ?_⟩
    exact ⟨_, rfl, _, _, _, _, _, rfl, .ty "bool", .base (.int n), kit_ty (r := false) (by decide +kernel), false, rfl, q⟩
def spIsNum : Sp := fun vs H Q _ => ∃ (n lo hi : Int), vs = [.int n, .int lo, .int hi] ∧ lo ≤ n ∧ n ≤ hi ∧ Q (.bl true) H
theorem scIsNum : FnScope ["thing", "least", "most"] ["thing", "least", "most"] (defScope sIsNum) := ⟨rfl, rfl, rfl, by decide +kernel, rfl, by decide +kernel, by decide +kernel⟩
theorem ok_isnum (F : Fun K "is_number_from" "is_number_from" sIsNum f fd) (hI : Has P w K mg base "is_whole" 1 ["thing"] spIsWhole) : FnOk P w K mg base CX0 2 f fd ["thing", "least", "most"] spIsNum := by
  refine F.ok scIsNum (fun vs H Q E h => ?_) (fun cdv A outer s H vs Q E hr h => ?_)
  · obtain ⟨n, lo, hi, rfl, _⟩ := h
    rfl
  · obtain ⟨n, lo, hi, rfl, h1, h2, q⟩ := h
    refine ⟨_, pss_one (ps_ret (pe_and (pe_h hI hr (pa_cons (pv 0) pa_nil)) (pe_one (pe_chain op_le op_le (pv 1) (pv 0) (pv 2))))), ?_⟩
    refine ⟨_, rfl, n, rfl, true, rfl, iteT ?_⟩
    refine ⟨_, rfl, _, rfl, _, _, rfl, rfl, _, rfl, ?_⟩
    rw [decide_eq_true h1]
    refine iteT ⟨_, rfl, _, _, rfl, rfl, ?_⟩
    show Q (.bl (decide (n ≤ hi))) H
    rw [decide_eq_true h2]
    exact q
/-! ### check_word -/
/-! ### check_age -/
def spCheckA : Sp := fun vs H Q _ => ∃ (n : Nat), vs = [.int (n : Int)] ∧ n ≤ 120 ∧ Q .non H
theorem scCheckA : FnScope ["age"] ["age"] (defScope sCheckA) := ⟨rfl, rfl, rfl, by decide +kernel, rfl, by decide +kernel, by decide +kernel⟩
theorem ok_checka (F : Fun K "check_age" "check_age" sCheckA f fd) (B2 : Bg mg) (hI : Has P w K mg base "is_number_from" 2 ["thing", "least", "most"] spIsNum) : FnOk P w K mg base CX0 3 f fd ["age"] spCheckA := by
  obtain ⟨t, gt⟩ := B2.oldest
  refine F.ok scCheckA (fun vs H Q E h => ?_) (fun cdv A outer s H vs Q E hr h => ?_)
  · obtain ⟨z, rfl, _⟩ := h
    rfl
  · obtain ⟨n, rfl, hn, q⟩ := h
    refine ⟨_, pss_one (ps_if (pt_not (pt_val (pe_h hI hr (pa_cons (pv 0) (pa_cons pe_int (pa_cons (pe_glob (v := .int 120) rfl gt ⟨_, rfl⟩) pa_nil)))))) (pss_one ps_never) pss_nil), ?_⟩
    exact ⟨_, rfl, n, 0, 120, rfl, by omega, by omega, true, rfl, iteF q⟩
/-! ### check_sure -/
def spCheckS : Sp := fun vs H Q _ => ∃ (b : Bool), vs = [.bl b] ∧ Q .non H
theorem scCheckS : FnScope ["sure"] ["sure"] (defScope sCheckS) := ⟨rfl, rfl, rfl, by decide +kernel, rfl, by decide +kernel, by decide +kernel⟩
theorem ok_checks (F : Fun K "check_sure" "check_sure" sCheckS f fd) (B : Bi mg) (B2 : Bg mg) : FnOk P w K mg base CX0 1 f fd ["sure"] spCheckS := by
  refine F.ok scCheckS (fun vs H Q E h => ?_) (fun cdv A outer s H vs Q E hr h => ?_)
  · obtain ⟨z, rfl, _⟩ := h
    rfl
  · obtain ⟨b, rfl, q⟩ := h
    refine ⟨_, pss_one (ps_if (pt_not (pt_val (pe_callB call_isi (by rfl) B.isi (by decide +kernel) (pa_cons (pv 0) (pa_cons (pe_bltn (v := .ty "bool") (by rfl) B2.bool (by decide +kernel) rfl) pa_nil))))) (pss_one ps_never) pss_nil), ?_⟩
    exact ⟨_, rfl, _, _, _, _, _, rfl, .ty "bool", .base (.bl b), kit_ty (r := true) (by decide +kernel), true, rfl, iteF q⟩
/-! ### key_of -/
def spKeyOf : Sp := fun vs H Q _ => ∃ (p : Addr) (t : Tel), vs = [.ref p] ∧ H p = some (.tup (telV t)) ∧ ∀ u, H u = none → Q (.ref u) (upd H u (.tup (keyV t)))
theorem scKeyOf : FnScope ["telling"] ["telling"] (defScope sKeyOf) := ⟨rfl, rfl, rfl, by decide +kernel, rfl, by decide +kernel, by decide +kernel⟩
theorem ok_keyof (F : Fun K "key_of" "key_of" sKeyOf f fd) : FnOk P w K mg base CX0 1 f fd ["telling"] spKeyOf := by
  refine F.ok scKeyOf (fun vs H Q E h => ?_) (fun cdv A outer s H vs Q E hr h => ?_)
  · obtain ⟨p, t, rfl, _⟩ := h
    rfl
  · obtain ⟨p, t, rfl, hp, q⟩ := h
    refine ⟨_, pss_one (ps_ret (pe_tup (pa_cons (pe_ix ix_tup (pv 0) pe_int (fun _ _ => rfl)) (pa_cons (pe_ix ix_tup (pv 0) pe_int (fun _ _ => rfl)) (pa_cons (pe_ix ix_tup (pv 0) pe_int (fun _ _ => rfl)) (pa_cons (pe_ix ix_tup (pv 0) pe_int (fun _ _ => rfl)) pa_nil)))))), ?_⟩
    refine ⟨_, rfl, p, _, _, _, rfl, rfl, .inl (.inl hp), atI_nat (j := 0) rfl, _, rfl, p, _, _, _, rfl, rfl, .inl (.inl hp), atI_nat (j := 3) rfl, _, rfl, p, _, _, _, rfl, rfl, .inl (.inl hp), atI_nat (j := 1) rfl, _, rfl, p, _, _, _, rfl, rfl, .inl (.inl hp), atI_nat (j := 5) rfl, lz, fun u hu => q u hu⟩
end
end Wl




namespace Wl
open PySem PySem.Spec PyProof.Rows L2
/-! A Gathering on the heap. -/
def gf (l t d : Addr) : List (Str × V) := putF "deeds" (.ref d) (putF "told" (.ref t) (putF "land" (.ref l) []))
theorem gf_land (l t d : Addr) : (gf l t d).lookup ("land" : Str) = some (.ref l) := by
  unfold gf
  rw [lookup_putF, if_neg (by decide +kernel), lookup_putF, if_neg (by decide +kernel), lookup_putF, if_pos rfl]
theorem gf_told (l t d : Addr) : (gf l t d).lookup ("told" : Str) = some (.ref t) := by
  unfold gf
  rw [lookup_putF, if_neg (by decide +kernel), lookup_putF, if_pos rfl]
theorem gf_deeds (l t d : Addr) : (gf l t d).lookup ("deeds" : Str) = some (.ref d) := by
  unfold gf
  rw [lookup_putF, if_pos rfl]
theorem gf_no (l t d : Addr) {m : Str} (h1 : ¬ m = "deeds" := by decide +kernel) (h2 : ¬ m = "told" := by decide +kernel) (h3 : ¬ m = "land" := by decide +kernel) : (gf l t d).lookup m = none := by
  unfold gf
  rw [lookup_putF, if_neg h1, lookup_putF, if_neg h2, lookup_putF, if_neg h3]
  rfl
structure GR where
  pl : Addr
  L : Addr
  td : Addr
  dd : Addr
  g : Grid
  as : List Addr
  ts : List Tel
  ds : List V
structure GatAt (C D : Addr) (H : Hp) (p : Addr) (r : GR) : Prop where
  at_ : ∃ dx, H p = some (.ins D dx (gf r.pl r.td r.dd))
  land : LandAt C H r.pl r.L r.g
  told : H r.td = some (.lst (r.as.map V.ref))
  tels : TelsAt H r.as r.ts
  deeds : H r.dd = some (.lst r.ds)
  ne : r.td ≠ r.dd
theorem GatAt.same {C D : Addr} {H H' : Hp} {p : Addr} {r : GR} (h : GatAt C D H p r) (s : Same H H') : GatAt C D H' p r :=
  ⟨let ⟨dx, e⟩ := h.at_; ⟨dx, s _ _ e⟩, h.land.keep (kp_same s), s _ _ h.told, h.tels.keep (tk_same s), s _ _ h.deeds, h.ne⟩
/-- all but what stands at a and b is as it was -/
def Same2 (a b : Addr) (H H' : Hp) : Prop := ∀ c o, c ≠ a → c ≠ b → H c = some o → H' c = some o
theorem Same2.of {a b : Addr} {H H' : Hp} (s : Same H H') : Same2 a b H H' := fun c o _ _ h => s c o h
theorem Same2.trans {a b : Addr} {H H1 H2 : Hp} (s : Same2 a b H H1) (t : Same2 a b H1 H2) : Same2 a b H H2 := fun c o n m h => t c o n m (s c o n m h)
structure TxtG (K : PySem.W.Frag) (mg : Str → Option Value) (D : Addr) : Prop where
  cl : Cls K D
  nL : NoAttr K D "land"
  nT : NoAttr K D "told"
  nD : NoAttr K D "deeds"
  mgD : mg "Gathering" = some (.ref D)
def keyS (t : Tel) : List Str := [t.v, t.tl, t.th, t.g]
theorem keyV_eq (t : Tel) : keyV t = (keyS t).map V.str := rfl
theorem strs_eqv : ∀ a b : List Str, PyData.eqvAll (a.map PyData.str) (b.map PyData.str) = decide (a = b)
  | [], [] => by simp [PyData.eqvAll]
  | [], _ :: _ => by simp [PyData.eqvAll]
  | _ :: _, [] => by simp [PyData.eqvAll]
  | x :: a, y :: b => by
    have e : PyData.eqv (.str x) (.str y) = decide (x = y) := o_eqv (some x) (some y) |>.trans (by simp)
    simp only [List.map_cons, PyData.eqvAll, e, strs_eqv a b, List.cons.injEq]
    by_cases h1 : x = y <;> by_cases h2 : a = b <;> simp [h1, h2]
theorem tup_eqv (a b : List Str) : PyData.eqv (.tuple (a.map PyData.str)) (.tuple (b.map PyData.str)) = decide (a = b) := by
  simp only [PyData.eqv, strs_eqv]
theorem shaped_strs {a : List Str} (h : ∀ z ∈ a, IsWd z) : SeqAt.shaped (.tuple (a.map PyData.str)) = true := shaped_tuple (lay_strs h) (by rw [depth_strs]; omega)
theorem OkT.key {t : Tel} (h : OkT t) : ∀ z ∈ keyS t, IsWd z := fun z hz => by
  simp only [keyS, List.mem_cons, List.not_mem_nil, or_false] at hz
  rcases hz with rfl | rfl | rfl | rfl
  · exact h.v
  · exact h.tl
  · exact h.th
  · exact h.g
section
variable {P : Program} {w : World} {K : PySem.W.Frag} {mg : Str → Option Value} {base : Heap} {f C D : Addr} {fd : FuncData}
theorem land_but {H H' : Hp} {p pl L dx : Addr} {g : Grid} {fs : List (Str × V)} (h : LandAt C H pl L g) (hp : H p = some (.ins D dx fs)) (n : p ≠ pl) (k : ∀ b o, b ≠ p → H b = some o → H' b = some o) : LandAt C H' pl L g := by
  obtain ⟨d, dl, k1, ⟨kvs, k2, k3⟩, k4⟩ := h
  have tk : TupKeep H H' := fun b xs e => k b _ (ne_of e hp (by intro z; cases z)) e
  exact ⟨d, dl, k _ _ n.symm k1, ⟨kvs, k _ _ (ne_of k2 hp (by intro z; cases z)) k2, ent_keep tk k3⟩, k4.keep tk⟩
/-! ### a new one -/
def spGInit (C D : Addr) : Sp := fun vs H Q _ => ∃ (p dx pl L : Addr) (g : Grid), vs = [.ref p, .ref pl] ∧ H p = some (.ins D dx []) ∧ LandAt C H pl L g ∧ p ≠ pl ∧
  ∀ (td dd : Addr) (H' : Hp), H td = none → H dd = none → (∀ b o, b ≠ p → H b = some o → H' b = some o) → GatAt C D H' p ⟨pl, L, td, dd, g, [], [], []⟩ → Q .non H'
theorem scGInit : FnScope ["self", "land"] ["self", "land"] (defScope sGInit) := ⟨rfl, rfl, rfl, by decide +kernel, rfl, by decide +kernel, by decide +kernel⟩
theorem ok_ginit (F : Fun K "__init__" "Gathering.__init__" sGInit f fd) (B : Bi mg) (T : Txt2 K mg C) (TG : TxtG K mg D) : FnOk P w K mg base CX0 1 f fd ["self", "land"] (spGInit C D) := by
  refine F.ok scGInit (fun vs H Q E h => ?_) (fun cdv A outer s H vs Q E hr h => ?_)
  · obtain ⟨p, dx, pl, L, g, rfl, _⟩ := h
    rfl
  · obtain ⟨p, dx, pl, L, g, rfl, hp, hLa, npl, q⟩ := h
    refine ⟨_, pss_cons (ps_if (pt_not (pt_val (pe_callB (C8.call_isC (C := C) T.ins) (by rfl) B.isi (by decide +kernel) (pa_cons (pv 1) (pa_cons (pe_glob (v := .ref C) rfl T.t.mgC rfl) pa_nil))))) (pss_one ps_never) pss_nil)
      (pss_cons (ps_fld (pv 0) (pv 1) rfl) (pss_cons (ps_fld (pv 0) (pe_lst pa_nil) rfl) (pss_one (ps_fld (pv 0) (pe_lst pa_nil) rfl)))), ?_⟩
    obtain ⟨dl, d, i1⟩ := hLa.ins
    refine ⟨_, rfl, pl, dl, _, rfl, i1, true, rfl, iteF ?_⟩
    refine ⟨_, rfl, _, rfl, p, D, dx, [], rfl, hp, TG.cl, TG.nL, (by show 0 < 1000; decide), ?_⟩
    refine ⟨lz, fun td htd => ⟨_, rfl, p, D, dx, putF "land" (.ref pl) [], rfl, (same_new htd) _ _ upd_same, TG.cl, TG.nT, (by show 1 < 1000; decide), ?_⟩⟩
    refine ⟨lz, fun dd hdd => ⟨_, rfl, p, D, dx, putF "told" (.ref td) (putF "land" (.ref pl) []), rfl, (same_new hdd) _ _ upd_same, TG.cl, TG.nD, (by show 2 < 1000; decide), ?_⟩⟩
    have ntp : td ≠ p := fun e => by
      rw [e, upd_same] at htd
      cases htd
    have htd0 : H td = none := by
      rw [upd_ne ntp] at htd
      exact htd
    have ndp : dd ≠ p := fun e => by
      rw [e, upd_same] at hdd
      cases hdd
    have ndt : dd ≠ td := fun e => by
      rw [e, upd_ne ntp, upd_same] at hdd
      cases hdd
    have hdd0 : H dd = none := by
      rw [upd_ne ndp, upd_ne ndt, upd_ne ndp] at hdd
      exact hdd
    have all : ∀ b o, b ≠ p → H b = some o → upd (upd (upd (upd (upd H p (.ins D dx (putF "land" (.ref pl) []))) td (.lst [])) p (.ins D dx (putF "told" (.ref td) (putF "land" (.ref pl) [])))) dd (.lst [])) p (.ins D dx (gf pl td dd)) b = some o := fun b o n e => by
      rw [upd_ne n, upd_ne (ne_of_none e hdd0), upd_ne n, upd_ne (ne_of_none e htd0), upd_ne n]
      exact e
    refine q td dd _ htd0 hdd0 all ⟨⟨dx, upd_same⟩, ?_, ?_, .nil, ?_, ndt.symm⟩
    · exact land_but hLa hp npl all
    · rw [upd_ne ntp, upd_ne ndt.symm, upd_ne ntp, upd_same]
      rfl
    · rw [upd_ne ndp, upd_same]
/-! ### where a key stands -/
def plV (o : Option Nat) : V := match o with
  | some i => .int (i : Int)
  | none => .non
def spGPlace (C D : Addr) : Sp := fun vs H Q _ => ∃ (p kp : Addr) (r : GR) (ks : List Str), vs = [.ref p, .ref kp] ∧ GatAt C D H p r ∧ (∀ t ∈ r.ts, OkT t) ∧ r.ts.length ≤ 200 ∧ H kp = some (.tup (ks.map V.str)) ∧ (∀ z ∈ ks, IsWd z) ∧
  ∀ (H' : Hp), Same H H' → Q (plV (r.ts.findIdx? fun t => decide (keyS t = ks))) H'
abbrev nGPlace : List Str := ["self", "key", "place", "telling"]
theorem scGPlace : FnScope nGPlace ["self", "key"] (defScope sGPlace) := ⟨rfl, rfl, rfl, by decide +kernel, rfl, by decide +kernel, by decide +kernel⟩
theorem find_at {α : Type} {q : α → Bool} {l : List α} {i : Nat} {x : α} (h : l[i]? = some x) (hq : q x = true) (hn : ∀ j y, j < i → l[j]? = some y → q y = false) : l.findIdx? q = some i := by
  rw [List.findIdx?_eq_some_iff_getElem]
  obtain ⟨hi, e⟩ := List.getElem?_eq_some_iff.mp h
  refine ⟨hi, by rw [e]; exact hq, fun j hj => ?_⟩
  rw [hn j _ hj (List.getElem?_eq_getElem (by omega))]
  decide
theorem ok_gplace (F : Fun K "place_of" "Gathering.place_of" sGPlace f fd) (B : Bi mg) (TG : TxtG K mg D) (hK : Has P w K mg base "key_of" 1 ["telling"] spKeyOf) : FnOk P w K mg base CX0 2 f fd ["self", "key"] (spGPlace C D) := by
  refine F.ok scGPlace (fun vs H Q E h => ?_) (fun cdv A outer s H vs Q E hr h => ?_)
  · obtain ⟨p, kp, r, ks, rfl, _⟩ := h
    rfl
  · obtain ⟨p, kp, r, ks, rfl, hG, hok, h200, hk, hkw, q⟩ := h
    refine ⟨_, pss_cons (ps_for PassesOwn.never rfl (pi_enum (by rfl) B.enum (pa_cons (pe_fld (pv 0) rfl) pa_nil)) (pg_tup rfl (pgs_cons (pg_name (i := 2) scGPlace.nd rfl (.inl rfl)) (pgs_cons (pg_name (i := 3) scGPlace.nd rfl (.inl rfl)) pgs_nil)))
        (pss_one (ps_if (pt_cmpR (op_eqD hr.units) (pe_h hK hr (pa_cons (pv 3) pa_nil)) (pv 1) (nomark _)) (pss_one (ps_ret (pv 2))) pss_nil)))
      (pss_one (ps_ret pe_non)), ?_⟩
    obtain ⟨dx, hp⟩ := hG.at_
    refine ⟨_, rfl, p, D, dx, _, _, rfl, hp, TG.cl, TG.nT, gf_told _ _ _, r.td, _, rfl, .inl (.inl hG.told), for_it (walk_enum (K := K) (a := r.td) (xs := r.as.map V.ref)) (fun i σ H' => (∃ y2 y3, σ = [some (.ref p), some (.ref kp), y2, y3]) ∧ Same H H' ∧ ∀ j t, j < i → r.ts[j]? = some t → keyS t ≠ ks)
      ⟨⟨_, _, rfl⟩, Same.refl H, fun j t hj => absurd hj (Nat.not_lt_zero _)⟩ (fun i σ H' _ h => .inl (.inl (h.2.1 _ _ hG.told))) ?_ ?_⟩
    · rintro i x σ H1 H2 hi ⟨⟨y2, y3, rfl⟩, s1, hno⟩ ⟨T, x1, x2, rfl, hT, rfl, ex1, ex2⟩
      have ex1 : (some (V.int (i : Nat)) : Option V) = some x1 := ex1
      cases ex1
      have ex2 : (r.as.map V.ref)[i]? = some x2 := ex2
      rw [List.getElem?_map] at ex2
      obtain ⟨pt, hpt, rfl⟩ := Option.map_eq_some_iff.mp ex2
      obtain ⟨t, ht, hpt1⟩ := Each.get hG.tels hpt
      have okt := hok t (List.mem_of_getElem? ht)
      have sT : Same H1 (upd H1 T (.tup [V.int (i : Nat), .ref pt])) := same_new hT
      refine ⟨T, _, rfl, .inl (.inl upd_same), rfl, _, _, rfl, _, _, rfl, rfl, ?_⟩
      have s2 := s1.trans sT
      generalize upd H1 T (.tup [V.int (i : Nat), .ref pt]) = H2 at s2
      refine ⟨_, rfl, pt, t, rfl, s2 _ _ hpt1, fun u hu => ?_⟩
      have s3 := same_new (o := .tup (keyV t)) hu
      refine ⟨_, rfl, .tuple ((keyS t).map .str), .tuple (ks.map .str), .tup (.inl (.inl upd_same)) (dp_strs (keyS t)), .tup (.inl (.inl (s3 _ _ (s2 _ _ hk)))) (dp_strs ks), shaped_strs okt.key, shaped_strs hkw, _, rfl, ?_⟩
      rw [tup_eqv]
      refine ite_b (fun e => ?_) (fun e => ?_)
      · refine ⟨_, rfl, ?_⟩
        have := q _ (s2.trans s3)
        rw [find_at ht e fun j y hj hy => decide_eq_false (hno j y hj hy)] at this
        exact this
      · refine ⟨⟨_, _, rfl⟩, s2.trans s3, fun j y hj hy => ?_⟩
        by_cases c : j = i
        · subst c
          rw [ht] at hy
          cases hy
          exact of_decide_eq_false e
        · exact hno j y (by omega) hy
    · rintro σ H1 ⟨⟨y2, y3, rfl⟩, s1, hno⟩
      have e : (r.ts.findIdx? fun t => decide (keyS t = ks)) = none := by
        rw [List.findIdx?_eq_none_iff]
        intro t ht
        obtain ⟨j, hj, ej⟩ := List.mem_iff_getElem.mp ht
        refine decide_eq_false (hno j t ?_ (by rw [List.getElem?_eq_getElem hj, ej]))
        rw [List.length_map]
        have := hG.tels.length
        omega
      have := q H1 s1
      rw [e] at this
      exact this
end
end Wl




namespace Wl
open PySem PySem.Spec PyProof.Rows L2
abbrev psPut : List Str := ["self", "village", "thing", "word", "teller", "age", "gatherer", "sure"]
abbrev nPut : List Str := ["self", "village", "thing", "word", "teller", "age", "gatherer", "sure", "key"]
theorem scPut : FnScope nPut psPut (defScope sGPut) := ⟨rfl, rfl, rfl, by decide +kernel, rfl, by decide +kernel, by decide +kernel⟩
def GR.add (r : GR) (q : Addr) (t : Tel) : GR := { r with as := r.as ++ [q], ts := r.ts ++ [t], ds := r.ds ++ [.non] }
section
variable {P : Program} {w : World} {K : PySem.W.Frag} {mg : Str → Option Value} {base : Heap} {f C D : Addr} {fd : FuncData}
/-- put: the last two may be left out -/
abbrev FunP (K : PySem.W.Frag) (f : Addr) (fd : FuncData) : Prop := FunD K "put" "Gathering.put" (defArgs sGPut) (defBody sGPut) (defScope sGPut) [.str "self", .bl true] [] f fd
theorem okD {x qual : Str} {params : Arguments} {body : List Stmt} {scope : Scope} {dvs : List V} {N ps : List Str} {k : Nat} {sp : Sp} (F : FunD K x qual params body scope dvs [] f fd) (S : FnScope N ps scope) (len : ∀ vs H Q E, sp vs H Q E → vs.length = ps.length)
    (hbody : ∀ (cdv : Value) (A : Around) (outer : List Env) (s : Shared) (H : Hp) (vs : List V) (Q : VK) (E : XK), Room k (A.deeper (envOfC qual scope s.heap.objs.size f cdv)) → sp vs H Q E →
      ∃ t, PSs (cxOf CX0 P w K mg base N qual scope f cdv A outer s H E).nox body t ∧ t { nx := fun _ H' => Q .non H', rt := Q } (start N vs) H) : FnOk P w K mg base CX0 (k + 1) f fd ps sp :=
  F.ok S len fun cdv A outer s H vs Q E hr hsp => let ⟨t, h, q⟩ := hbody cdv A outer s H vs Q E hr hsp; ⟨t, h.nox, q⟩
def spPut (C D : Addr) : Sp := fun vs H Q _ => ∃ (p : Addr) (r : GR) (wd : Nat) (t : Tel), vs = .ref p :: telV t ∧ GatAt C D H p r ∧ Good r.g wd ∧ (∀ u ∈ r.ts, OkT u) ∧ OkT t ∧ t.v ∈ names r.g ∧ keyS t ∉ r.ts.map keyS ∧ r.ts.length < 200 ∧ r.ds.length < 1000 ∧
  ∀ (q : Addr) (H' : Hp), H q = none → Same2 r.td r.dd H H' → GatAt C D H' p (r.add q t) → Q .non H'
theorem find_no {l : List Tel} {t : Tel} (h : keyS t ∉ l.map keyS) : (l.findIdx? fun u => decide (keyS u = keyS t)) = none := by
  rw [List.findIdx?_eq_none_iff]
  intro u hu
  exact decide_eq_false fun e => h (List.mem_map.mpr ⟨u, hu, e⟩)
theorem ok_put (F : FunP K f fd) (B : Bi mg) (B2 : Bg mg) (T : Txt K mg C) (TG : TxtG K mg D) (hCk : HasM P w K mg base C "check_name" 2 ["self", "name"] (spCheck C)) (hW : Has P w K mg base "check_word" 2 ["word"] spCheckW)
    (hA : Has P w K mg base "check_age" 3 ["age"] spCheckA) (hS : Has P w K mg base "check_sure" 1 ["sure"] spCheckS) (hP : HasM P w K mg base D "place_of" 2 ["self", "key"] (spGPlace C D)) : FnOk P w K mg base CX0 4 f fd psPut (spPut C D) := by
  obtain ⟨t200, g200⟩ := B2.most
  refine okD F scPut (fun vs H Q E h => ?_) (fun cdv A outer s H vs Q E hr h => ?_)
  · obtain ⟨p, r, wd, t, rfl, _⟩ := h
    rfl
  · obtain ⟨p, r, wd, t, rfl, hG, gd, hok, okt, hv, hnew, h200, hds, q⟩ := h
    refine ⟨_, pss_cons (ps_expr (pe_hm hCk T.cl hr (pe_fld (pv 0) rfl) (pa_cons (pv 1) pa_nil)))
      (pss_cons (ps_expr (pe_h hW hr (pa_cons (pv 2) pa_nil)))
      (pss_cons (ps_expr (pe_h hW hr (pa_cons (pv 3) pa_nil)))
      (pss_cons (ps_expr (pe_h hW hr (pa_cons (pv 4) pa_nil)))
      (pss_cons (ps_expr (pe_h hA hr (pa_cons (pv 5) pa_nil)))
      (pss_cons (ps_expr (pe_h hW hr (pa_cons (pv 6) pa_nil)))
      (pss_cons (ps_expr (pe_h hS hr (pa_cons (pv 7) pa_nil)))
      (pss_cons (ps_set (i := 8) scPut.nd rfl (.inl rfl) (pe_tup (pa_cons (pv 1) (pa_cons (pv 4) (pa_cons (pv 2) (pa_cons (pv 6) pa_nil))))))
      (pss_cons (ps_if (pt_cmp (pc_notN (pe_hm hP TG.cl hr (pv 0) (pa_cons (pv 8) pa_nil)))) (pss_one ps_never) pss_nil)
      (pss_cons (ps_if (pt_cmpR op_ge (pe_callB call_len_seq (by rfl) B.len PySem.boot_len (pa_cons (pe_fld (pv 0) rfl) pa_nil)) (pe_glob (v := .int 200) rfl g200 ⟨_, rfl⟩) (nomark _)) (pss_one ps_never) pss_nil)
      (pss_cons (ps_expr (pe_bm PySem.F.plainAttrs_list PySem.F.slot_list_append PySem.F.type_list_append mt_append (pe_fld (pv 0) rfl) (pa_cons (pe_tup (pa_cons (pv 1) (pa_cons (pv 2) (pa_cons (pv 3) (pa_cons (pv 4) (pa_cons (pv 5) (pa_cons (pv 6) (pa_cons (pv 7) pa_nil)))))))) pa_nil)))
      (pss_one (ps_expr (pe_bm PySem.F.plainAttrs_list PySem.F.slot_list_append PySem.F.type_list_append mt_append (pe_fld (pv 0) rfl) (pa_cons pe_non pa_nil)))))))))))))), ?_⟩
    obtain ⟨dx, hp⟩ := hG.at_
    obtain ⟨dl, d, hl⟩ := hG.land.ins
    refine ⟨_, rfl, p, D, dx, _, _, rfl, hp, TG.cl, TG.nL, gf_land _ _ _, r.pl, dl, _, rfl, hl, fs_no, _, rfl, r.pl, r.L, r.g, wd, t.v, rfl, hG.land, gd, hv, fun H1 s1 => ?_⟩
    refine ⟨_, rfl, t.th, rfl, okt.th, fun H2 s2 => ?_⟩
    refine ⟨_, rfl, t.wo, rfl, okt.wo, fun H3 s3 => ?_⟩
    refine ⟨_, rfl, t.tl, rfl, okt.tl, fun H4 s4 => ?_⟩
    refine ⟨_, rfl, t.age, rfl, okt.age, ?_⟩
    refine ⟨_, rfl, t.g, rfl, okt.g, fun H5 s5 => ?_⟩
    refine ⟨_, rfl, t.sure, rfl, ?_⟩
    have s15 := ((s1.trans s2).trans (s3.trans s4)).trans s5
    refine ⟨_, rfl, _, rfl, _, rfl, _, rfl, lz, fun kp hkp => ?_⟩
    have s6 := same_new (o := .tup [V.str t.v, V.str t.tl, V.str t.th, V.str t.g]) hkp
    have hkp6 : upd H5 kp (.tup [V.str t.v, V.str t.tl, V.str t.th, V.str t.g]) kp = some (.tup ((keyS t).map V.str)) := upd_same
    have s16 := s15.trans s6
    have hG6 := hG.same s16
    generalize upd H5 kp (.tup [V.str t.v, V.str t.tl, V.str t.th, V.str t.g]) = H6 at hkp6 s16 hG6
    obtain ⟨dx6, hp6⟩ := hG6.at_
    refine ⟨_, rfl, p, dx6, _, rfl, hp6, gf_no _ _ _, _, rfl, p, kp, r, keyS t, rfl, hG6, hok, by omega, hkp6, okt.key, fun H7 s7 => ?_⟩
    rw [find_no hnew]
    refine ⟨_, rfl, iteF ?_⟩
    have hG7 := hG6.same s7
    obtain ⟨dx7, hp7⟩ := hG7.at_
    have hlen : r.as.length = r.ts.length := hG.tels.length
    refine ⟨_, rfl, p, D, dx7, _, _, rfl, hp7, TG.cl, TG.nT, gf_told _ _ _, r.td, _, rfl, .inl (.inl (.inl hG7.told)), _, _, rfl, rfl, _, rfl, ?_⟩
    have hno : decide ((200 : Int) ≤ ((r.as.map V.ref).length : Int)) = false := decide_eq_false (by rw [List.length_map]; omega)
    rw [hno]
    refine iteF ⟨_, rfl, p, D, dx7, _, _, rfl, hp7, TG.cl, TG.nT, gf_told _ _ _, .inl ⟨rfl, _, .inl (.inl hG7.told)⟩, _, rfl, _, rfl, _, rfl, _, rfl, _, rfl, _, rfl, _, rfl, lz, fun qa hqa => ?_⟩
    have s8 := same_new (o := .tup [V.str t.v, V.str t.th, V.str t.wo, V.str t.tl, V.int (t.age : Int), V.str t.g, V.bl t.sure]) hqa
    have hG8 := hG7.same s8
    have hqa8 : upd H7 qa (.tup [V.str t.v, V.str t.th, V.str t.wo, V.str t.tl, V.int (t.age : Int), V.str t.g, V.bl t.sure]) qa = some (.tup (telV t)) := upd_same
    have s18 := s16.trans (s7.trans s8)
    have hqa0 : H qa = none := (s16.trans s7).free hqa
    refine ⟨r.td, _, _, rfl, rfl, hG8.told, by rw [List.length_map]; exact small1000 (by omega), ?_⟩
    obtain ⟨dx8, hp8⟩ := hG8.at_
    have hd8 := hG8.deeds
    have ht8 := hG8.told
    generalize upd H7 qa (.tup [V.str t.v, V.str t.th, V.str t.wo, V.str t.tl, V.int (t.age : Int), V.str t.g, V.bl t.sure]) = H8 at hG8 hqa8 s18 hp8 hd8 ht8
    have k9 : Keep H8 (upd H8 r.td (.lst (r.as.map V.ref ++ [.ref qa]))) := kp_upd ht8
    have hp9 := k9 _ _ (fun xs e => by cases e) hp8
    have hd9 : upd H8 r.td (.lst (r.as.map V.ref ++ [.ref qa])) r.dd = some (.lst r.ds) := by
      rw [upd_ne hG.ne.symm]
      exact hd8
    have ht9 : upd H8 r.td (.lst (r.as.map V.ref ++ [.ref qa])) r.td = some (.lst (r.as.map V.ref ++ [.ref qa])) := upd_same
    have m9 : Same2 r.td r.dd H8 (upd H8 r.td (.lst (r.as.map V.ref ++ [.ref qa]))) := fun c o n _ e => by
      rw [upd_ne n]
      exact e
    generalize upd H8 r.td (.lst (r.as.map V.ref ++ [.ref qa])) = H9 at k9 hp9 hd9 ht9 m9
    refine ⟨_, rfl, p, D, dx8, _, _, rfl, hp9, TG.cl, TG.nD, gf_deeds _ _ _, .inl ⟨rfl, _, .inl (.inl hd9)⟩, r.dd, _, _, rfl, rfl, hd9, small1000 (by omega), ?_⟩
    have k10 : Keep H9 (upd H9 r.dd (.lst (r.ds ++ [.non]))) := kp_upd hd9
    have kk := k9.trans k10
    refine q qa _ hqa0 ?_ ⟨⟨dx8, k10 _ _ (fun xs e => by cases e) hp9⟩, hG8.land.keep kk, ?_, ?_, upd_same, hG.ne⟩
    · refine (Same2.of s18).trans (m9.trans fun c o _ n e => ?_)
      rw [upd_ne n]
      exact e
    · show upd H9 r.dd (.lst (r.ds ++ [.non])) r.td = some (.lst ((r.as ++ [qa]).map V.ref))
      rw [upd_ne hG.ne, ht9, List.map_append]
      rfl
    · exact Each.append (hG8.tels.keep kk.tk) (.cons (kk.tk _ _ hqa8) .nil)
end
end Wl




namespace Wl
open PySem PySem.Spec PyProof.Rows L2
/-! o.m(e, .., k = v, ..) of a method that may leave some out. -/
def tMethN (C : Addr) (m : Str) (n j : Nat) (sp : Sp) (gV : List V → List V → List V) (E : XK) (ta : TE) (t tk : TA) : TE := fun σ H Q => ta σ H fun x H1 =>
  ∃ a dx fs, x = .ref a ∧ H1 a = some (.ins C dx fs) ∧ fs.lookup m = none ∧ t σ H1 fun vs H2 => tk σ H2 fun zs H3 => vs.length = n ∧ zs.length = j ∧ sp (gV (.ref a :: vs) zs) H3 Q E
section
variable {X : Cx} {CX : CXT} {k n : Nat} {f C : Addr} {fd : FuncData} {ps ks : List Str} {sp : Sp} {E : XK} {m : Str} {pos apos : Pos} {o e : Expr} {es : List Expr} {kws : List Keyword} {ta : TE} {t tk : TA} {pl : Sem Bool} {g : List Value → List Value → List Value} {gV : List V → List V → List V}
theorem pe_methN0 (he : PE X o ta) (c : Cls X.K C) (hm : Meth X.K C m f) (F : FnOk X.prog X.w X.K X.mg X.base CX k f fd ps sp) (hr : Room k X.A) (hb : KBn X.K fd ps 1 ks g gV) (hx : Passes CX X E) (hkw : PK X kws tk)
    (hall : (backToKw pos (keywordEach kws X.env)).all (·.1.isSome) = true := by rfl) (hks : (backToKw pos (keywordEach kws X.env)).filterMap (·.1) = ks := by rfl)
    (hpl : ((backTo pos (starEach [] X.env)).any (·.1) || (backToKw pos (keywordEach kws X.env)).any (·.1.isNone)) = false := by rfl)
    (ht : eval (.Call (.Attribute o m apos) [] kws pos) X.env = (do
      let ov ← eval o X.env
      standAt apos.atName
      let (f, first) ← holding [ov] (getMethod ov m pl)
      callWith pos f first (backTo pos (starEach [] X.env)) (backToKw pos (keywordEach kws X.env))) := by rfl) :
    PE X (.Call (.Attribute o m apos) [] kws pos) (tMethN C m 0 ks.length sp gV E ta tNil tk) := by
  refine ⟨fun pins s σ H Q I h => ?_⟩
  refine PySem.W.methodCall_KW (pl := pl) (thn (he.run pins s σ H _ I h) fun u s1 ⟨x, H1, I1, rx, a, dx, fs, ex, ea, l, q⟩ => ?_) ht
  subst ex
  obtain rfl : u = Value.ref a := rx
  refine getmeth_ok I1 ea c hm l ?_
  refine PySem.W.callWith_KW0 (first := [.ref a]) (h₀ := X.base) I.ok.mod.kin hm.kp hall (thn (hkw.run pos pins s1 σ H1 _ I1 q) fun ws s2 ⟨zs, H2, I2, rz, _, l2, q2⟩ => ⟨I2.kIn, ?_⟩) hpl
  rw [hks]
  exact run_fnN (us := [.ref a]) (vs := [.ref a]) F hr hb hx I2 (.cons rfl .nil) rz rfl l2 q2
theorem pe_methN (he : PE X o ta) (c : Cls X.K C) (hm : Meth X.K C m f) (F : FnOk X.prog X.w X.K X.mg X.base CX k f fd ps sp) (hr : Room k X.A) (hb : KBn X.K fd ps (n + 1) ks g gV) (hx : Passes CX X E) (ha : PA X (e :: es) t) (hkw : PK X kws tk)
    (hall : (backToKw pos (keywordEach kws X.env)).all (·.1.isSome) = true := by rfl) (hks : (backToKw pos (keywordEach kws X.env)).filterMap (·.1) = ks := by rfl)
    (hst : starEach (e :: es) X.env = (false, eval e X.env) :: starEach es X.env := by rfl)
    (hpl : ((backTo pos (starEach (e :: es) X.env)).any (·.1) || (backToKw pos (keywordEach kws X.env)).any (·.1.isNone)) = false := by rfl)
    (ht : eval (.Call (.Attribute o m apos) (e :: es) kws pos) X.env = (do
      let ov ← eval o X.env
      standAt apos.atName
      let (f, first) ← holding [ov] (getMethod ov m pl)
      callWith pos f first (backTo pos (starEach (e :: es) X.env)) (backToKw pos (keywordEach kws X.env))) := by rfl) :
    PE X (.Call (.Attribute o m apos) (e :: es) kws pos) (tMethN C m n ks.length sp gV E ta t tk) := by
  refine ⟨fun pins s σ H Q I h => ?_⟩
  refine PySem.W.methodCall_KW (pl := pl) (thn (he.run pins s σ H _ I h) fun u s1 ⟨x, H1, I1, rx, a, dx, fs, ex, ea, l, q⟩ => ?_) ht
  subst ex
  obtain rfl : u = Value.ref a := rx
  refine getmeth_ok I1 ea c hm l ?_
  refine PySem.W.callWith_KW (first := [.ref a]) (h₀ := X.base) I.ok.mod.kin hm.kp hall (thn (ha.run pos pins s1 σ H1 _ I1 q) fun us s2 ⟨vs, H2, I2, r, q2⟩ => ?_) hpl hst
  refine thn (hkw.run pos pins s2 σ H2 _ I2 q2) fun ws s3 ⟨zs, H3, I3, rz, l1, l2, q3⟩ => ⟨I3.kIn, ?_⟩
  rw [hks]
  exact run_fnN (us := .ref a :: us) (vs := .ref a :: vs) F hr hb hx I3 (.cons rfl r) rz (by rw [List.length_cons, l1]) l2 q3
end
/-! the ways to call put -/
/-- age, village, gatherer, word, teller, thing; sure left out -/
def gP1 {α : Type} : List α → List α → List α → List α
  | [s], [_, b], [ag, v, g, w, tl, th] => [s, v, th, w, tl, ag, g, b]
  | _, _, _ => []
/-- five by place, sure by name -/
def gP2 {α : Type} : List α → List α → List α → List α
  | [s, v, th, w, tl, ag], [g, _], [b] => [s, v, th, w, tl, ag, g, b]
  | _, _, _ => []
/-- all by name: sure, gatherer, age, teller, word, thing, village -/
def gP3 {α : Type} : List α → List α → List α → List α
  | [s], [_, _], [b, g, ag, tl, w, th, v] => [s, v, th, w, tl, ag, g, b]
  | _, _, _ => []
theorem gP1_rel {vs ds zs : List V} {us its ws : List Value} (r1 : Vals vs us) (r2 : Vals ds its) (r3 : Vals zs ws) : Vals (gP1 vs ds zs) (gP1 us its ws) := by
  rcases r1 with _ | ⟨a1, _ | ⟨_, _⟩⟩
  · exact .nil
  · rcases r2 with _ | ⟨b1, _ | ⟨b2, _ | ⟨_, _⟩⟩⟩
    · exact .nil
    · exact .nil
    · rcases r3 with _ | ⟨c1, _ | ⟨c2, _ | ⟨c3, _ | ⟨c4, _ | ⟨c5, _ | ⟨c6, _ | ⟨_, _⟩⟩⟩⟩⟩⟩⟩
      all_goals first | exact .nil | exact .cons a1 (.cons c2 (.cons c6 (.cons c4 (.cons c5 (.cons c1 (.cons c3 (.cons b2 .nil)))))))
    · exact .nil
  · exact .nil
theorem gP2_rel {vs ds zs : List V} {us its ws : List Value} (r1 : Vals vs us) (r2 : Vals ds its) (r3 : Vals zs ws) : Vals (gP2 vs ds zs) (gP2 us its ws) := by
  rcases r1 with _ | ⟨a1, _ | ⟨a2, _ | ⟨a3, _ | ⟨a4, _ | ⟨a5, _ | ⟨a6, _ | ⟨_, _⟩⟩⟩⟩⟩⟩⟩
  all_goals first | exact .nil | skip
  rcases r2 with _ | ⟨b1, _ | ⟨b2, _ | ⟨_, _⟩⟩⟩
  all_goals first | exact .nil | skip
  rcases r3 with _ | ⟨c1, _ | ⟨_, _⟩⟩
  all_goals first | exact .nil | exact .cons a1 (.cons a2 (.cons a3 (.cons a4 (.cons a5 (.cons a6 (.cons b1 (.cons c1 .nil)))))))
theorem gP3_rel {vs ds zs : List V} {us its ws : List Value} (r1 : Vals vs us) (r2 : Vals ds its) (r3 : Vals zs ws) : Vals (gP3 vs ds zs) (gP3 us its ws) := by
  rcases r1 with _ | ⟨a1, _ | ⟨_, _⟩⟩
  all_goals first | exact .nil | skip
  rcases r2 with _ | ⟨b1, _ | ⟨b2, _ | ⟨_, _⟩⟩⟩
  all_goals first | exact .nil | skip
  rcases r3 with _ | ⟨c1, _ | ⟨c2, _ | ⟨c3, _ | ⟨c4, _ | ⟨c5, _ | ⟨c6, _ | ⟨c7, _ | ⟨_, _⟩⟩⟩⟩⟩⟩⟩⟩
  all_goals first | exact .nil | exact .cons a1 (.cons c7 (.cons c6 (.cons c5 (.cons c4 (.cons c3 (.cons c2 (.cons c1 .nil)))))))
section
variable {K : PySem.W.Frag} {f : Addr} {fd : FuncData}
theorem put_b8 (F : FunP K f fd) : Binds K fd psPut [] := by
  obtain ⟨ds, h1, h2⟩ := F.binds1 (ps := psPut) 8 2 (by simp) rfl (fun T kV doc pm an cdv ct us its l1 l2 => by
      match us, its, l1, l2 with
      | [_, _, _, _, _, _, _, _], [_, _], _, _ => exact ⟨_, rfl, rfl⟩)
  cases h1
  exact h2
theorem put_b6 (F : FunP K f fd) : ∃ ds, Vals [V.str "self", V.bl true] ds ∧ Binds K fd psPut ds :=
  F.binds1 (ps := psPut) 6 0 (by simp) rfl (fun T kV doc pm an cdv ct us its l1 l2 => by
      match us, its, l1, l2 with
      | [_, _, _, _, _, _], [_, _], _, _ => exact ⟨_, rfl, rfl⟩)
theorem put_k1 (F : FunP K f fd) : ∃ its : List Value, KBn K fd psPut 1 ["age", "village", "gatherer", "word", "teller", "thing"] (fun us ws => gP1 us its ws) (fun vs zs => gP1 vs [.str "self", .bl true] zs) :=
  F.kbindsD 1 _ gP1 (by simp) gP1_rel (fun T kV doc pm an cdv ct us its ws l1 l2 l3 => by
      match us, its, ws, l1, l2, l3 with
      | [_], [_, _], [_, _, _, _, _, _], _, _, _ => exact ⟨_, rfl, rfl⟩)
theorem put_k2 (F : FunP K f fd) : ∃ its : List Value, KBn K fd psPut 6 ["sure"] (fun us ws => gP2 us its ws) (fun vs zs => gP2 vs [.str "self", .bl true] zs) :=
  F.kbindsD 6 _ gP2 (by simp) gP2_rel (fun T kV doc pm an cdv ct us its ws l1 l2 l3 => by
      match us, its, ws, l1, l2, l3 with
      | [_, _, _, _, _, _], [_, _], [_], _, _, _ => exact ⟨_, rfl, rfl⟩)
theorem put_k3 (F : FunP K f fd) : ∃ its : List Value, KBn K fd psPut 1 ["sure", "gatherer", "age", "teller", "word", "thing", "village"] (fun us ws => gP3 us its ws) (fun vs zs => gP3 vs [.str "self", .bl true] zs) :=
  F.kbindsD 1 _ gP3 (by simp) gP3_rel (fun T kV doc pm an cdv ct us its ws l1 l2 l3 => by
      match us, its, ws, l1, l2, l3 with
      | [_], [_, _], [_, _, _, _, _, _, _], _, _, _ => exact ⟨_, rfl, rfl⟩)
end
end Wl




/-! Texts each once, as first met; dicts by texts. -/
namespace Wl
open PySem PySem.Spec PyProof.Rows L2
def addK (acc : List Str) (z : Str) : List Str := if z ∈ acc then acc else acc ++ [z]
def keysOf (l : List Str) : List Str := l.foldl addK []
theorem keysOf_snoc (l : List Str) (z : Str) : keysOf (l ++ [z]) = addK (keysOf l) z := by
  unfold keysOf
  rw [List.foldl_append]
  rfl
theorem mem_addK {acc : List Str} {z y : Str} : y ∈ addK acc z ↔ y ∈ acc ∨ y = z := by
  unfold addK
  split
  · constructor
    · exact .inl
    · rintro (h | rfl) <;> assumption
  · simp
theorem foldK_mem {y : Str} : ∀ {l acc : List Str}, y ∈ l.foldl addK acc ↔ y ∈ acc ∨ y ∈ l
  | [], acc => by simp
  | z :: l, acc => by
    rw [List.foldl_cons, foldK_mem (l := l), mem_addK, List.mem_cons]
    constructor
    · rintro ((h | h) | h)
      · exact .inl h
      · exact .inr (.inl h)
      · exact .inr (.inr h)
    · rintro (h | h | h)
      · exact .inl (.inl h)
      · exact .inl (.inr h)
      · exact .inr h
theorem mem_keysOf {l : List Str} {y : Str} : y ∈ keysOf l ↔ y ∈ l := by
  unfold keysOf
  rw [foldK_mem]
  simp
theorem addK_nodup {acc : List Str} {z : Str} (h : acc.Nodup) : (addK acc z).Nodup := by
  unfold addK
  split
  · exact h
  · rename_i n
    rw [List.nodup_append]
    exact ⟨h, by simp, fun a ha b hb e => n (by rw [List.mem_singleton.mp hb] at e; exact e ▸ ha)⟩
theorem foldK_nodup : ∀ {l acc : List Str}, acc.Nodup → (l.foldl addK acc).Nodup
  | [], _, h => h
  | _ :: l, _, h => foldK_nodup (l := l) (addK_nodup h)
theorem keysOf_nodup (l : List Str) : (keysOf l).Nodup := foldK_nodup List.nodup_nil
theorem addK_len (acc : List Str) (z : Str) : (addK acc z).length ≤ acc.length + 1 := by
  unfold addK
  split
  · omega
  · simp
theorem foldK_len : ∀ (l acc : List Str), (l.foldl addK acc).length ≤ acc.length + l.length
  | [], acc => by simp
  | z :: l, acc => by
    have h1 := foldK_len l (addK acc z)
    have h2 := addK_len acc z
    rw [List.foldl_cons, List.length_cons]
    omega
theorem keysOf_len (l : List Str) : (keysOf l).length ≤ l.length := by
  have := foldK_len l []
  simpa [keysOf] using this
/-- the pairs of a dict whose keys are these texts -/
def kvZ (ad : Str → V) (l : List Str) : List (Key × V) := l.map fun z => (Sum.inr z, ad z)
theorem valV_kvZ (ad : Str → V) (z : Str) : ∀ l : List Str, valV (kvZ ad l) (Sum.inr z : Key) = if z ∈ l then some (ad z) else none
  | [] => rfl
  | d :: r => by
    by_cases h : d = z
    · subst h
      rw [if_pos List.mem_cons_self]
      exact valV_pos rfl
    · have h1 : valV (kvZ ad (d :: r)) (Sum.inr z : Key) = valV (kvZ ad r) (Sum.inr z : Key) := valV_neg fun e => h (Sum.inr.inj e)
      rw [h1, valV_kvZ ad z r]
      have h2 : (z ∈ d :: r) = (z ∈ r) := by
        simp only [List.mem_cons, eq_iff_iff]
        constructor
        · rintro (e | e)
          · exact absurd e.symm h
          · exact e
        · exact .inr
      simp only [h2]
theorem valV_in {ad : Str → V} {z : Str} {l : List Str} (h : z ∈ l) : valV (kvZ ad l) (Sum.inr z : Key) = some (ad z) := by
  rw [valV_kvZ, if_pos h]
theorem valV_out {ad : Str → V} {z : Str} {l : List Str} (h : z ∉ l) : valV (kvZ ad l) (Sum.inr z : Key) = none := by
  rw [valV_kvZ, if_neg h]
theorem kvZ_congr {a b : Str → V} {l : List Str} (h : ∀ c ∈ l, a c = b c) : kvZ a l = kvZ b l := List.map_congr_left fun c hc => by rw [h c hc]
theorem kvZ_keys (ad : Str → V) (l : List Str) : (kvZ ad l).map (fun kv => kV kv.1) = l.map V.str := by
  unfold kvZ
  rw [List.map_map]
  rfl
theorem kvZ_len (ad : Str → V) (l : List Str) : (kvZ ad l).length = l.length := List.length_map _
theorem sortS_nodup {l : List Str} (h : l.Nodup) : (sortS l).Nodup := (List.mergeSort_perm l leB).nodup_iff.mpr h
end Wl

namespace Wl
open PySem PySem.Spec PyProof.Rows L2
abbrev sGTell : Stmt := inClass sGat 6
abbrev sCheckG : Stmt := topS 53
abbrev sSum : Stmt := topS 56
abbrev sByV : Stmt := topS 57
/-- what was told of a word: rows that begin with these words -/
def RowsT (H : Hp) (t : Addr) (ws : List Str) : Prop := ∃ as : List Addr, H t = some (.tup (as.map V.ref)) ∧ Each (fun (p : Addr) (z : Str) => ∃ a b n : Int, H p = some (.tup [.str z, .int a, .int b, .int n])) as ws
theorem RowsT.keep {H H' : Hp} {t : Addr} {ws : List Str} (h : RowsT H t ws) (k : TupKeep H H') : RowsT H' t ws := by
  obtain ⟨as, h1, h2⟩ := h
  exact ⟨as, k _ _ h1, h2.mono fun p z ⟨a, b, n, e⟩ => ⟨a, b, n, k _ _ e⟩⟩
noncomputable def wordsIn (chs : List Chg) (ts : List Tel) : List Str := sortS (keysOf (ts.map fun t => mean chs t.wo))
theorem mem_wordsIn {chs : List Chg} {ts : List Tel} {z : Str} : z ∈ wordsIn chs ts ↔ ∃ t ∈ ts, mean chs t.wo = z := by
  unfold wordsIn
  rw [mem_sortS, mem_keysOf, List.mem_map]
section
variable {P : Program} {w : World} {K : PySem.W.Frag} {mg : Str → Option Value} {base : Heap} {f C D : Addr} {fd : FuncData}
/-! ### tellings, as put in -/
abbrev FunT (K : PySem.W.Frag) (f : Addr) (fd : FuncData) : Prop := FunD K "tellings" "Gathering.tellings" (defArgs sGTell) (defBody sGTell) (defScope sGTell) [.non] [] f fd
def spTell (C D : Addr) : Sp := fun vs H Q _ => ∃ (p : Addr) (r : GR), vs = [.ref p, .non] ∧ GatAt C D H p r ∧ ∀ (l : Addr), H l = none → Q (.ref l) (upd H l (.lst (r.as.map V.ref)))
theorem scTell : FnScope ["self", "keying"] ["self", "keying"] (defScope sGTell) := ⟨rfl, rfl, rfl, by decide +kernel, rfl, by decide +kernel, by decide +kernel⟩
theorem tell_b1 (F : FunT K f fd) : ∃ ds, Vals [V.non] ds ∧ Binds K fd ["self", "keying"] ds :=
  F.binds1 (ps := ["self", "keying"]) 1 0 (by simp) rfl (fun T kV doc pm an cdv ct us its l1 l2 => by
      match us, its, l1, l2 with
      | [_], [_], _, _ => exact ⟨_, rfl, rfl⟩)
theorem ok_tell (F : FunT K f fd) (B : Bi mg) (TG : TxtG K mg D) : FnOk P w K mg base CX0 1 f fd ["self", "keying"] (spTell C D) := by
  refine okD F scTell (fun vs H Q E h => ?_) (fun cdv A outer s H vs Q E hr h => ?_)
  · obtain ⟨p, r, rfl, _⟩ := h
    rfl
  · obtain ⟨p, r, rfl, hG, q⟩ := h
    refine ⟨_, pss_cons (ps_if (pt_cmp (pc_isN (pv 1))) (pss_one (ps_ret (pe_callTy call_list_of (by rfl) B.list (by decide +kernel) (pa_cons (pe_fld (pv 0) rfl) pa_nil)))) pss_nil) (pss_one ps_never), ?_⟩
    obtain ⟨dx, hp⟩ := hG.at_
    exact ⟨_, rfl, _, rfl, iteT ⟨_, rfl, p, D, dx, _, _, rfl, hp, TG.cl, TG.nT, gf_told _ _ _, r.td, _, rfl, .inl (.inl (.inl hG.told)), q⟩⟩
/-! ### check_gathering -/
def spCheckG (C D : Addr) : Sp := fun vs H Q _ => ∃ (p : Addr) (r : GR), vs = [.ref p] ∧ GatAt C D H p r ∧ Q .non H
theorem scCheckG : FnScope ["thing"] ["thing"] (defScope sCheckG) := ⟨rfl, rfl, rfl, by decide +kernel, rfl, by decide +kernel, by decide +kernel⟩
theorem ok_checkg (F : Fun K "check_gathering" "check_gathering" sCheckG f fd) (B : Bi mg) (TG : TxtG K mg D) (ins : C8.InsC K D) : FnOk P w K mg base CX0 1 f fd ["thing"] (spCheckG C D) := by
  refine F.ok scCheckG (fun vs H Q E h => ?_) (fun cdv A outer s H vs Q E hr h => ?_)
  · obtain ⟨p, r, rfl, _⟩ := h
    rfl
  · obtain ⟨p, r, rfl, hG, q⟩ := h
    refine ⟨_, pss_one (ps_if (pt_not (pt_val (pe_callB (C8.call_isC (C := D) ins) (by rfl) B.isi (by decide +kernel) (pa_cons (pv 0) (pa_cons (pe_glob (v := .ref D) rfl TG.mgD rfl) pa_nil))))) (pss_one ps_never) pss_nil), ?_⟩
    obtain ⟨dx, hp⟩ := hG.at_
    exact ⟨_, rfl, p, dx, _, rfl, hp, true, rfl, iteF q⟩
/-! ### summed_up -/
structure AgesI (H0 H : Hp) (d : Addr) (ks : List Str) (ad : Str → Addr) (m : Nat) : Prop where
  dict : H d = some (.dK (kvZ (fun z => .ref (ad z)) ks))
  lst : ∀ z ∈ ks, ∃ ns : List Int, H (ad z) = some (.lst (ns.map V.int)) ∧ ns ≠ [] ∧ ns.length ≤ m
  inj : ∀ z ∈ ks, ∀ y ∈ ks, ad z = ad y → z = y
  new : ∀ z ∈ ks, H0 (ad z) = none
theorem AgesI.same {H0 H H' : Hp} {d : Addr} {ks : List Str} {ad : Str → Addr} {m : Nat} (h : AgesI H0 H d ks ad m) (s : Same H H') : AgesI H0 H' d ks ad m :=
  ⟨s _ _ h.dict, fun z hz => let ⟨ns, e, k⟩ := h.lst z hz; ⟨ns, s _ _ e, k⟩, h.inj, h.new⟩
def spSum : Sp := fun vs H Q _ => ∃ (l S : Addr) (as : List Addr) (ts : List Tel) (chs : List Chg), vs = [.ref l, .ref S] ∧ H l = some (.lst (as.map V.ref)) ∧ TelsAt H as ts ∧ (∀ t ∈ ts, OkT t) ∧ ts.length ≤ 200 ∧ ChAt H S chs ∧ OkCs chs ∧
  ∀ (t : Addr) (H' : Hp), Same H H' → RowsT H' t (wordsIn chs ts) → Q (.ref t) H'
abbrev nSum : List Str := ["tellings", "changes", "ages", "telling", "word"]
theorem scSum : FnScope nSum ["tellings", "changes"] (defScope sSum) := ⟨rfl, rfl, rfl, by decide +kernel, rfl, by decide +kernel, by decide +kernel⟩
theorem ok_sum (F : Fun K "summed_up" "summed_up" sSum f fd) (B : Bi mg) (hM : HasN P w K mg base "meaning" wMean 5 ps2 spMean) : FnOk P w K mg base CX0 6 f fd ["tellings", "changes"] spSum := by
  obtain ⟨fM, fdM, FM, mM, NM⟩ := hM
  have bM := bindM2 NM
  refine F.ok scSum (fun vs H Q E h => ?_) (fun cdv A outer s H vs Q E hr h => ?_)
  · obtain ⟨l, S, as, ts, chs, rfl, _⟩ := h
    rfl
  · obtain ⟨l, S, as, ts, chs, rfl, hl, hT, hok, h200, hS, okc, q⟩ := h
    have hu := hu_of hr
    refine ⟨_, pss_cons (ps_set (i := 2) scSum.nd rfl (.inr rfl) pe_dnewK)
      (pss_cons (ps_for PassesOwn.never rfl (pi_list (pv 0)) (pg_name (i := 3) scSum.nd rfl (.inl rfl))
        (pss_cons (ps_set (i := 4) scSum.nd rfl (.inl rfl) (pe_call FM hr rfl mM NM.kp bM .nil pass0 (pa_cons (pe_ix ix_tup (pv 3) pe_int (fun _ _ => rfl)) (pa_cons (pv 1) pa_nil))))
        (pss_cons (ps_if (pt_cmp (pc_dnotin hu (pv 4) (pv 2))) (pss_one (ps_dput hu (pv 2) (pv 4) (pe_lst pa_nil) rfl)) pss_nil)
        (pss_one (ps_expr (pe_bm PySem.F.plainAttrs_list PySem.F.slot_list_append PySem.F.type_list_append mt_append (pe_dget hu (pv 2) (pv 4) (fun _ _ => rfl)) (pa_cons (pe_ix ix_tup (pv 3) pe_int (fun _ _ => rfl)) pa_nil)))))))
      (pss_one (ps_ret (pe_callTy call_tuple_of (by rfl) B.tuple (by decide +kernel) (pa_cons (pe_lc (own := [("word", 4)]) (g := gName 4) (tt := tYes)
        (te := tTup (tCons (tVar 4) (tCons (tCB (rMin K) (tCons (tDGet (tVar 2) (tVar 4)) tNil)) (tCons (tCB (rMax K) (tCons (tDGet (tVar 2) (tVar 4)) tNil)) (tCons (tCB (fun xs H Q => ∃ p ys, xs = [.ref p] ∧ ((SqL K H p ys) ∨ SqT K H p ys) ∧ Q (.int ys.length) H) (tCons (tDGet (tVar 2) (tVar 4)) tNil)) tNil)))))
        rfl scSum.nd (pi_list (pe_callB (cr_sortD hr.units) (by rfl) B.sorted (by decide +kernel) (pa_cons (pe_callTy (call_list_dK rfl) (by rfl) B.list (by decide +kernel) (pa_cons (pv 2) pa_nil)) pa_nil))) (blkOk_by (N := nSum) (sc := defScope sSum) (by decide +kernel)) (fun _ _ _ _ _ => pg_name (i := 4) scSum.nd rfl (.inl rfl)) (fun _ _ _ _ _ => pts_nil)
        (fun _ _ _ _ _ => pe_tup (pa_cons (pv 4) (pa_cons (pe_callB (cr_min rfl) (by rfl) B.min (by decide +kernel) (pa_cons (pe_dget hu (pv 2) (pv 4) (fun _ _ => rfl)) pa_nil)) (pa_cons (pe_callB (cr_max rfl) (by rfl) B.max (by decide +kernel) (pa_cons (pe_dget hu (pv 2) (pv 4) (fun _ _ => rfl)) pa_nil)) (pa_cons (pe_callB call_len_seq (by rfl) B.len PySem.boot_len (pa_cons (pe_dget hu (pv 2) (pv 4) (fun _ _ => rfl)) pa_nil)) pa_nil)))))) pa_nil))))), ?_⟩
    intro d hd
    have hlen : as.length = ts.length := hT.length
    have s0 : Same H (upd H d (.dK [])) := same_new hd
    refine ⟨_, rfl, l, rfl, ⟨_, .inl (.inl (s0 _ _ hl))⟩, for_list (K := K) (a := l) (xs := as.map V.ref) (fun i σ H' => (∃ y3 y4, σ = [some (.ref l), some (.ref S), some (.ref d), y3, y4]) ∧ Same H H' ∧ ∃ ad, AgesI H H' d (keysOf ((ts.take i).map fun t => mean chs t.wo)) ad i)
      ⟨⟨_, _, rfl⟩, s0, fun _ => 0, ⟨upd_same, fun z hz => (by cases hz), fun z hz => (by cases hz), fun z hz => (by cases hz)⟩⟩ (fun i σ H' _ h => .inl (.inl (h.2.1 _ _ hl))) ?_ ?_⟩
    · rintro i x σ H1 hx ⟨⟨y3, y4, rfl⟩, s1, ad, I1⟩
      rw [List.getElem?_map] at hx
      obtain ⟨pt, hpt, rfl⟩ := Option.map_eq_some_iff.mp hx
      obtain ⟨t, ht, hH⟩ := Each.get hT hpt
      have okt := hok t (List.mem_of_getElem? ht)
      have hi200 : i < 200 := by
        have := (List.getElem?_eq_some_iff.mp ht).1
        omega
      have hpt1 := s1 _ _ hH
      refine ⟨_, rfl, pt, _, _, _, rfl, rfl, .inl (.inl hpt1), atI_nat (j := 2) rfl, _, rfl, t.wo, .ref S, chs, rfl, okt.wo, .inr ⟨S, rfl, hS.same s1⟩, okc, fun H2 s2 => ?_⟩
      have I2 := I1.same s2
      have hpt2 := s2 _ _ hpt1
      generalize hz : mean chs t.wo = z
      have ek : keysOf ((ts.take (i + 1)).map fun t => mean chs t.wo) = addK (keysOf ((ts.take i).map fun t => mean chs t.wo)) z := by
        rw [take_snoc ht, List.map_append, ← hz]
        exact keysOf_snoc _ _
      have kl := keysOf_len ((ts.take i).map fun t => mean chs t.wo)
      rw [List.length_map, List.length_take] at kl
      generalize keysOf ((ts.take i).map fun t => mean chs t.wo) = ks at I2 ek kl
      have s12 := s1.trans s2
      refine ⟨_, rfl, _, rfl, d, _, rfl, DGet.k (k := Sum.inr z) I2.dict, _, rfl, ?_⟩
      by_cases hm : z ∈ ks
      · rw [valV_in hm]
        refine iteF ?_
        obtain ⟨ns, hn, hne, hnl⟩ := I2.lst z hm
        have e1 : addK ks z = ks := if_pos hm
        have nd : d ≠ ad z := ne_of I2.dict hn (by intro q; cases q)
        refine ⟨_, rfl, _, rfl, d, .ref (ad z), rfl, ?_, .inl ⟨rfl, _, .inl (.inl hn)⟩, _, rfl, pt, _, _, _, rfl, rfl, .inl (.inl hpt2), atI_nat (j := 4) rfl, ad z, _, _, rfl, rfl, hn, ?_, ⟨_, _, rfl⟩, same_mut s12 (I2.new z hm), ad, ?_⟩
        · have := DGet.k (k := Sum.inr z) I2.dict
          rw [valV_in hm] at this
          exact this
        · rw [List.length_map]
          exact small1000 (by omega)
        · rw [ek, e1]
          refine ⟨by rw [upd_ne nd]; exact I2.dict, fun y hy => ?_, I2.inj, I2.new⟩
          by_cases c : y = z
          · subst c
            exact ⟨ns ++ [(t.age : Int)], by rw [upd_same, List.map_append]; rfl, by simp, by rw [List.length_append]; simp; omega⟩
          · obtain ⟨ms, h1, h2, h3⟩ := I2.lst y hy
            exact ⟨ms, by rw [upd_ne fun e => c (I2.inj y hy z hm e)]; exact h1, h2, by omega⟩
      · rw [valV_out hm]
        refine iteT ⟨lz, fun L hL => ⟨_, rfl, _, rfl, d, _, rfl, DPut.k (k := Sum.inr z) ((same_new hL) _ _ I2.dict) ?_, ?_⟩⟩
        · rw [kvZ_len]
          exact small1000 (by omega)
        have hv : valV (kvZ (fun z => V.ref (ad z)) ks) (Sum.inr z : Key) = none := valV_out hm
        have nLd : d ≠ L := ne_of_none I2.dict hL
        have s3 : Same H2 (upd H2 L (.lst [])) := same_new hL
        have hd3 := s3 _ _ I2.dict
        have hL3 : upd H2 L (.lst []) L = some (.lst []) := upd_same
        have hpt3 := s3 _ _ hpt2
        have I3 := I2.same s3
        have hL0 : H L = none := s12.free hL
        generalize upd H2 L (.lst []) = H3 at s3 hd3 hL3 hpt3 I3
        rw [putK_new _ hv]
        let ad' : Str → Addr := fun y => if y = z then L else ad y
        have eA : kvZ (fun z => V.ref (ad z)) ks ++ [(Sum.inr z, V.ref L)] = kvZ (fun y => V.ref (ad' y)) (ks ++ [z]) := by
          unfold kvZ
          rw [List.map_append]
          congr 1
          · refine List.map_congr_left fun y hy => ?_
            have : y ≠ z := fun e => hm (e ▸ hy)
            simp only [ad', if_neg this]
          · simp [ad']
        rw [eA]
        have e1 : addK ks z = ks ++ [z] := if_neg hm
        have hd4 : upd H3 d (.dK (kvZ (fun y => V.ref (ad' y)) (ks ++ [z]))) d = some (.dK (kvZ (fun y => V.ref (ad' y)) (ks ++ [z]))) := upd_same
        have hL4 : upd H3 d (.dK (kvZ (fun y => V.ref (ad' y)) (ks ++ [z]))) L = some (.lst []) := by
          rw [upd_ne nLd.symm]
          exact hL3
        have hpt4 : upd H3 d (.dK (kvZ (fun y => V.ref (ad' y)) (ks ++ [z]))) pt = some (.tup (telV t)) := by
          rw [upd_ne (ne_of hpt3 hd3 (by intro q; cases q))]
          exact hpt3
        have s14 : Same H (upd H3 d (.dK (kvZ (fun y => V.ref (ad' y)) (ks ++ [z])))) := same_mut (s12.trans s3) hd
        have old : ∀ y ∈ ks, ∃ ms : List Int, upd H3 d (.dK (kvZ (fun y => V.ref (ad' y)) (ks ++ [z]))) (ad y) = some (.lst (ms.map V.int)) ∧ ms ≠ [] ∧ ms.length ≤ i := fun y hy => by
          obtain ⟨ms, h1, h2, h3⟩ := I3.lst y hy
          exact ⟨ms, by rw [upd_ne (ne_of h1 hd3 (by intro q; cases q))]; exact h1, h2, h3⟩
        have nL : ∀ y ∈ ks, ad y ≠ L := fun y hy e => by
          obtain ⟨ms, h1, _⟩ := I2.lst y hy
          rw [e, hL] at h1
          cases h1
        generalize upd H3 d (.dK (kvZ (fun y => V.ref (ad' y)) (ks ++ [z]))) = H4 at hd4 hL4 hpt4 s14 old
        have nLd4 : d ≠ L := nLd
        refine ⟨_, rfl, _, rfl, d, .ref L, rfl, ?_, .inl ⟨rfl, _, .inl (.inl hL4)⟩, _, rfl, pt, _, _, _, rfl, rfl, .inl (.inl hpt4), atI_nat (j := 4) rfl, L, _, _, rfl, rfl, hL4, (by show 0 < sizeLine; decide), ⟨_, _, rfl⟩, same_mut s14 hL0, ad', ?_⟩
        · have := DGet.k (k := Sum.inr z) hd4
          have eL : ad' z = L := if_pos rfl
          rw [valV_in (by simp), eL] at this
          exact this
        · rw [ek, e1]
          refine ⟨by rw [upd_ne nLd]; exact hd4, fun y hy => ?_, fun y hy x hx e => ?_, fun y hy => ?_⟩
          · by_cases c : y = z
            · subst c
              exact ⟨[(t.age : Int)], by simp only [ad', if_true]; rw [upd_same]; rfl, by simp, by simp⟩
            · have hy' : y ∈ ks := by
                rcases List.mem_append.mp hy with h | h
                · exact h
                · exact absurd (List.mem_singleton.mp h) c
              obtain ⟨ms, h1, h2, h3⟩ := old y hy'
              refine ⟨ms, ?_, h2, by omega⟩
              simp only [ad', if_neg c]
              rw [upd_ne (nL y hy')]
              exact h1
          · have mm : ∀ u ∈ ks ++ [z], u ≠ z → u ∈ ks := fun u hu c => by
              rcases List.mem_append.mp hu with h | h
              · exact h
              · exact absurd (List.mem_singleton.mp h) c
            by_cases c1 : y = z
            · by_cases c2 : x = z
              · rw [c1, c2]
              · simp only [ad', if_pos c1, if_neg c2] at e
                exact absurd e.symm (nL x (mm x hx c2))
            · by_cases c2 : x = z
              · simp only [ad', if_neg c1, if_pos c2] at e
                exact absurd e (nL y (mm y hy c1))
              · simp only [ad', if_neg c1, if_neg c2] at e
                exact I2.inj y (mm y hy c1) x (mm x hx c2) e
          · by_cases c : y = z
            · simp only [ad', if_pos c]
              exact hL0
            · have hy' : y ∈ ks := by
                rcases List.mem_append.mp hy with h | h
                · exact h
                · exact absurd (List.mem_singleton.mp h) c
              simp only [ad', if_neg c]
              exact I2.new y hy'
    · rintro σ H1 ⟨⟨y3, y4, rfl⟩, s1, ad, I1⟩
      rw [List.length_map, hlen, List.take_length] at I1
      have kl := keysOf_len (ts.map fun t => mean chs t.wo)
      rw [List.length_map] at kl
      have kn := keysOf_nodup (ts.map fun t => mean chs t.wo)
      have ew : wordsIn chs ts = sortS (keysOf (ts.map fun t => mean chs t.wo)) := rfl
      generalize keysOf (ts.map fun t => mean chs t.wo) = ks at I1 kl kn ew
      refine ⟨_, rfl, d, _, rfl, I1.dict, fun a1 h1 => ?_⟩
      rw [kvZ_keys]
      dsimp only [tNil]
      refine sort_reads (K := K) (.inl (.inl upd_same)) fun a2 h2 => ?_
      have s3 : Same H1 (upd (upd H1 a1 (.lst (ks.map V.str))) a2 (.lst ((sortS ks).map V.str))) := (same_new h1).trans (same_new h2)
      have ha2 : upd (upd H1 a1 (.lst (ks.map V.str))) a2 (.lst ((sortS ks).map V.str)) a2 = some (.lst ((sortS ks).map V.str)) := upd_same
      generalize upd (upd H1 a1 (.lst (ks.map V.str))) a2 (.lst ((sortS ks).map V.str)) = H3 at s3 ha2
      have I3 := I1.same s3
      refine ⟨a2, rfl, ⟨_, .inl (.inl ha2)⟩, fun Dd hD => ?_⟩
      refine lc_rel (walk_list (K := K) (a := a2) (xs := (sortS ks).map V.str)) hD (fun _ => true) (fun x y H' => ∃ z p, ∃ a b n : Int, x = .str z ∧ y = .ref p ∧ H' p = some (.tup [.str z, .int a, .int b, .int n])) (fun H' s' => .inl (.inl (s' _ _ ha2))) (fun _ => rfl) (fun x H' _ _ Q' q' => q') ?_ ?_ ?_ ?_
      · intro x H' hx _ s' Q' q'
        obtain ⟨z, hz, rfl⟩ := List.mem_map.mp hx
        have hzk : z ∈ ks := mem_sortS.mp hz
        obtain ⟨ns, hn, hne, hnl⟩ := I3.lst z hzk
        have hdv : DGet H' d (.str z) (some (.ref (ad z))) := by
          have := DGet.k (k := Sum.inr z) (s' _ _ I3.dict)
          rw [valV_in hzk] at this
          exact this
        have hn' := s' _ _ hn
        have hp : 0 < ns.length := List.length_pos_iff.mpr hne
        refine ⟨_, rfl, _, rfl, _, rfl, d, _, rfl, hdv, ad z, ns, rfl, .inl (.inl hn'), hp, fun m1 _ _ => ⟨_, rfl, _, rfl, d, _, rfl, hdv, ad z, ns, rfl, .inl (.inl hn'), hp, fun m2 _ _ => ⟨_, rfl, _, rfl, d, _, rfl, hdv, ad z, _, rfl, .inl (.inl (.inl hn')), lz, fun p hp => ?_⟩⟩⟩
        exact q' _ _ (same_new hp) ⟨z, p, m1, m2, _, rfl, rfl, upd_same⟩
      · rintro x y H4 H5 acc hD4 x5 ⟨z, p, a, b, n, e1, e2, e3⟩
        exact ⟨z, p, a, b, n, e1, e2, x5 _ _ (ne_of e3 hD4 (by intro q; cases q)) e3⟩
      · rw [List.length_map, sortS_len]
        exact small1000 (by omega)
      · intro zs H4 s4 hD4 he
        rw [List.filter_eq_self.mpr fun _ _ => rfl] at he
        have key : ∀ {l : List Str} {zs : List V}, Each (fun (x z : V) => ∃ y p, ∃ a b n : Int, x = .str y ∧ z = .ref p ∧ H4 p = some (.tup [.str y, .int a, .int b, .int n])) (l.map V.str) zs → ∃ as : List Addr, zs = as.map V.ref ∧ Each (fun (p : Addr) (z : Str) => ∃ a b n : Int, H4 p = some (.tup [.str z, .int a, .int b, .int n])) as l := by
          intro l
          induction l with
          | nil =>
            intro zs h
            cases h
            exact ⟨[], rfl, .nil⟩
          | cons z r ih =>
            intro zs h
            cases h with
            | cons e t =>
              obtain ⟨y, p, a, b, n, e1, rfl, e3⟩ := e
              obtain ⟨as, rfl, h2⟩ := ih t
              have e1 := V.str.inj e1
              subst e1
              exact ⟨p :: as, rfl, .cons ⟨a, b, n, e3⟩ h2⟩
        obtain ⟨bs, rfl, hb⟩ := key he
        refine ⟨Dd, _, rfl, .inl ⟨.inl (.inl hD4), fun t ht => ?_⟩⟩
        have s5 := same_new (o := .tup (bs.map V.ref)) ht
        refine q t _ (((s1.trans s3).trans s4).trans s5) ?_
        rw [ew]
        exact ⟨bs, upd_same, hb.mono fun p z ⟨a, b, n, e⟩ => ⟨a, b, n, s5 _ _ e⟩⟩
end
end Wl



namespace Wl
open PySem PySem.Spec PyProof.Rows L2
theorem telV_inj' {t u : Tel} (h : telV t = telV u) : t = u := by
  cases t
  cases u
  simp only [telV, List.cons.injEq, V.str.injEq, V.int.injEq, V.bl.injEq, and_true] at h
  obtain ⟨h1, h2, h3, h4, h5, h6, h7⟩ := h
  have h5 := Int.ofNat.inj h5
  subst h1 h2 h3 h4 h5 h6 h7
  rfl
/-- a test of tellings, as a test of values -/
noncomputable def keepBy (H : Hp) (pr : Tel → Bool) (x : V) : Bool := open Classical in if h : ∃ t : Tel, ∃ p, x = .ref p ∧ H p = some (.tup (telV t)) then pr h.choose else false
theorem keepBy_at {H : Hp} {pr : Tel → Bool} {p : Addr} {t : Tel} (h : H p = some (.tup (telV t))) : keepBy H pr (.ref p) = pr t := by
  unfold keepBy
  have e : ∃ t : Tel, ∃ q, V.ref p = .ref q ∧ H q = some (.tup (telV t)) := ⟨t, p, rfl, h⟩
  rw [dif_pos e]
  obtain ⟨q, e1, e2⟩ := e.choose_spec
  have e1 := V.ref.inj e1
  subst e1
  rw [h] at e2
  rw [← telV_inj' (HO.tup.inj (Option.some.inj e2))]
theorem tels_filter {H H' : Hp} {pr : Tel → Bool} : ∀ {as : List Addr} {ts : List Tel}, TelsAt H as ts → TelsAt H' as ts → ∃ bs : List Addr, ((as.map V.ref).filter (keepBy H pr)).map id = bs.map V.ref ∧ TelsAt H' bs (ts.filter pr)
  | _, _, .nil, .nil => ⟨[], rfl, .nil⟩
  | _, _, .cons (a := p) (b := t) e r, .cons e' r' => by
    obtain ⟨bs, h1, h2⟩ := tels_filter (pr := pr) r r'
    rw [List.map_cons, List.filter_cons, keepBy_at e, List.filter_cons]
    by_cases c : pr t = true
    · rw [if_pos c, if_pos c]
      exact ⟨p :: bs, by rw [List.map_cons, h1]; rfl, .cons e' h2⟩
    · rw [if_neg c, if_neg c]
      exact ⟨bs, h1, h2⟩
section
variable {P : Program} {w : World} {K : PySem.W.Frag} {mg : Str → Option Value} {base : Heap} {f C D : Addr} {fd : FuncData}
/-- [t for t in tellings if ..] -/
theorem pick_tels {H1 : Hp} {a Dd : Addr} {as : List Addr} {ts : List Tel} {tt : TT} {te : TE} {slot : Nat} {vs : List Nat} {σ : L2.St} {Qd : Hp → Prop} (hl : H1 a = some (.lst (as.map V.ref))) (hT : TelsAt H1 as ts) (hD : H1 Dd = none) (pr : Tel → Bool) (hn : ts.length ≤ 200)
    (hw : ∀ x, wipe ((wipe σ vs).set slot (some x)) vs = wipe σ vs)
    (ht : ∀ (p : Addr) (t : Tel) (H : Hp), t ∈ ts → H p = some (.tup (telV t)) → Same H1 H → ∀ Q : Bool → Hp → Prop, Q (pr t) H → tt ((wipe σ vs).set slot (some (.ref p))) H Q)
    (he : ∀ (x : V) (H : Hp) (Q : VK), Q x H → te ((wipe σ vs).set slot (some x)) H Q)
    (hd : ∀ (bs : List Addr) (H : Hp), Same H1 H → H Dd = some (.lst (bs.map V.ref)) → TelsAt H bs (ts.filter pr) → Qd H) :
    ∃ W : Nat → Nat → Hp → Prop, (∃ m, W 0 m (upd H1 Dd (.lst []))) ∧ ∀ i m H, W i m H →
      ((Itl K a).stop i H ∧ Qd H) ∨ ((Itl K a).go i H ∧ ∃ Nx : Hp → Prop, (∀ H', Nx H' → ∃ m', m' < m ∧ W (i + 1) m' H') ∧ ∀ x H', (Itl K a).yld i H x H' → gName slot x (wipe σ vs) H' fun σ2 H2 => wipe σ2 vs = wipe σ vs ∧ tt σ2 H2 fun b H3 =>
        if b = true then te σ2 H3 fun y H4 => ∃ acc, H4 Dd = some (.lst acc) ∧ acc.length < sizeLine ∧ Nx (upd H4 Dd (.lst (acc ++ [y]))) else Nx H3) := by
  have hlen := hT.length
  refine lc_map (walk_list (K := K) (a := a) (xs := as.map V.ref)) hD (keepBy H1 pr) id (fun H' s' => .inl (.inl (s' _ _ hl))) hw ?_ ?_ ?_ ?_
  · intro x H' hx s' Q' q'
    obtain ⟨p, hp, rfl⟩ := List.mem_map.mp hx
    obtain ⟨i, hi, ei⟩ := List.mem_iff_getElem.mp hp
    obtain ⟨t, htm, hH⟩ := Each.get hT (i := i) (a := p) (by rw [List.getElem?_eq_getElem hi, ei])
    rw [keepBy_at hH] at q'
    exact ht p t H' (List.mem_of_getElem? htm) (s' _ _ hH) s' Q' q'
  · intro x H' hx _ _ Q' q'
    exact he x H' Q' q'
  · rw [List.length_map]
    exact small1000 (by omega)
  · intro H2 s2 hD2
    obtain ⟨bs, e1, e2⟩ := tels_filter (pr := pr) hT (hT.keep (tk_same s2))
    rw [e1] at hD2
    exact hd bs H2 s2 hD2 e2
/-! ### by_village -/
def ByV (H : Hp) (D : Addr) (nms : List Str) (chs : List Chg) (ts : List Tel) : Prop := ∃ ad : Str → Addr, H D = some (.dK (kvZ (fun z => .ref (ad z)) nms)) ∧ ∀ z ∈ nms, RowsT H (ad z) (wordsIn chs (ts.filter fun t => decide (t.v = z)))
def spByV : Sp := fun vs H Q _ => ∃ (tn l S : Addr) (nms : List Str) (as : List Addr) (ts : List Tel) (chs : List Chg), vs = [.ref tn, .ref l, .ref S] ∧ H tn = some (.tup (nms.map V.str)) ∧ nms.Nodup ∧ nms.length ≤ 36 ∧ H l = some (.lst (as.map V.ref)) ∧ TelsAt H as ts ∧ (∀ t ∈ ts, OkT t) ∧ ts.length ≤ 200 ∧ ChAt H S chs ∧ OkCs chs ∧
  ∀ (Dd : Addr) (H' : Hp), H Dd = none → Same H H' → ByV H' Dd nms chs ts → Q (.ref Dd) H'
abbrev nByV : List Str := ["names", "tellings", "changes", "name", "telling"]
theorem scByV : FnScope nByV ["names", "tellings", "changes"] (defScope sByV) := ⟨rfl, rfl, rfl, by decide +kernel, rfl, by decide +kernel, by decide +kernel⟩
theorem str_dec (a b : Str) : decide (V.str a = V.str b) = decide (a = b) := by
  by_cases h : a = b
  · subst h
    simp
  · rw [decide_eq_false h, decide_eq_false fun e => h (V.str.inj e)]
theorem ok_byv (F : Fun K "by_village" "by_village" sByV f fd) (hS : Has P w K mg base "summed_up" 6 ["tellings", "changes"] spSum) : FnOk P w K mg base CX0 7 f fd ["names", "tellings", "changes"] spByV := by
  refine F.ok scByV (fun vs H Q E h => ?_) (fun cdv A outer s H vs Q E hr h => ?_)
  · obtain ⟨tn, l, S, nms, as, ts, chs, rfl, _⟩ := h
    rfl
  · obtain ⟨tn, l, S, nms, as, ts, chs, rfl, hn, nd, n36, hl, hT, hok, h200, hC, okc, q⟩ := h
    refine ⟨_, pss_one (ps_ret (pe_dc (own := [("name", 3)]) (g := gName 3) (tt := tYes) (tk := tVar 3) (tv := tCall spSum [] E0 (tCons (tLc (iList K (tVar 1)) (gName 4) (tTest (tOp rEq (tOp (rIxT K) (tVar 4) (tC (.int 0))) (tVar 3))) (tVar 4) [4]) (tCons (tVar 2) tNil)))
      rfl scByV.nd (pi_tup (pv 0)) (blkOk_by (N := nByV) (sc := defScope sByV) (by decide +kernel)) (fun _ _ _ _ _ => pg_name (i := 3) scByV.nd rfl (.inr rfl)) (fun _ _ _ _ _ => pts_nil) (fun _ _ _ _ _ => pv 3)
      (fun _ _ _ _ _ => pe_h hS hr (pa_cons (pe_lc (own := [("telling", 4)]) (g := gName 4) (tt := tTest (tOp rEq (tOp (rIxT K) (tVar 4) (tC (.int 0))) (tVar 3))) (te := tVar 4) rfl scByV.nd (pi_list (pv 1)) (blkOk_by (N := nByV) (sc := { kind := .function, names := [(".0", .local), ("name", .cell), ("summed_up", .globalImplicit), ("changes", .cell), ("tellings", .cell)], isGenerator := false, isCoroutine := false }) (by decide +kernel))
        (fun _ _ _ _ _ => pg_name (i := 4) scByV.nd rfl (.inl rfl)) (fun _ _ _ _ _ => pts_one (pt_cmpR op_eq (pe_ix ix_tup (pv 4) pe_int (fun _ _ => rfl)) (pv 3) (nomark _))) (fun _ _ _ _ _ => pv 4)) (pa_cons (pv 2) pa_nil))))), ?_⟩
    refine ⟨_, rfl, tn, rfl, ⟨_, .inl (.inl hn)⟩, fun Dd hD => dc_it (walk_tup (K := K) (a := tn) (xs := nms.map V.str)) (fun i H' => Same H H' ∧ ByV H' Dd (nms.take i) chs ts) ⟨same_new hD, fun _ => 0, upd_same, fun z hz => by simp at hz⟩ (fun i H' _ h => .inl (.inl (h.1 _ _ hn))) ?_ ?_⟩
    · rintro i x H1 H2 hi ⟨s1, ad, hd1, hr1⟩ ⟨rfl, hx⟩
      rw [List.getElem?_map] at hx
      obtain ⟨z, hz, rfl⟩ := Option.map_eq_some_iff.mp hx
      have hl1 := s1 _ _ hl
      have hT1 : TelsAt H2 as ts := hT.keep (tk_same s1)
      refine ⟨rfl, yes_it ⟨_, rfl, _, rfl, l, rfl, ⟨_, .inl (.inl hl1)⟩, fun De hE => ?_⟩⟩
      refine pick_tels (K := K) hl1 hT1 hE (fun t => decide (t.v = z)) h200 (fun _ => rfl) ?_ (fun x H' Q' q' => ⟨_, rfl, q'⟩) ?_
      · intro p t H' _ hp _ Q' q'
        refine ⟨_, rfl, p, _, _, _, rfl, rfl, .inl (.inl hp), atI_nat (j := 0) rfl, _, rfl, rfl, _, rfl, ?_⟩
        rw [str_dec]
        exact q'
      · intro bs H3 s3 hE3 hb3
        refine ⟨_, rfl, De, S, bs, _, chs, rfl, hE3, hb3, fun t ht => hok t (List.mem_filter.mp ht).1, Nat.le_trans (List.length_filter_le _ _) h200, (hC.same s1).same s3, okc, fun t H4 s4 r4 => ?_⟩
        have s34 := s3.trans s4
        have hd4 := s34 _ _ hd1
        have hnew : z ∉ nms.take i := fun hm => by
          obtain ⟨j, hj, ej⟩ := List.mem_iff_getElem.mp hm
          rw [List.length_take] at hj
          rw [List.getElem_take] at ej
          obtain ⟨hi2, ei⟩ := List.getElem?_eq_some_iff.mp hz
          have := (List.getElem_inj nd).mp (ej.trans ei.symm)
          omega
        have hv : valV (kvZ (fun z => V.ref (ad z)) (nms.take i)) (Sum.inr z : Key) = none := valV_out hnew
        refine ⟨_, Sum.inr z, rfl, hd4, ?_, same_mut (s1.trans s34) hD, fun y => if y = z then t else ad y, ?_, fun y hy => ?_⟩
        · rw [kvZ_len, List.length_take]
          exact small1000 (by omega)
        · rw [putK_new _ hv, upd_same, take_snoc hz]
          unfold kvZ
          rw [List.map_append]
          congr 2
          congr 1
          · refine List.map_congr_left fun y hy => ?_
            have : y ≠ z := fun e => hnew (e ▸ hy)
            simp only [if_neg this]
          · simp
        · have tk := tk_updD (o := .dK (putK (kvZ (fun z => V.ref (ad z)) (nms.take i)) (Sum.inr z) (.ref t))) hd4
          by_cases c : y = z
          · subst c
            simp only [if_true]
            exact r4.keep tk
          · simp only [if_neg c]
            have hy' : y ∈ nms.take i := by
              rw [take_snoc hz] at hy
              rcases List.mem_append.mp hy with h | h
              · exact h
              · exact absurd (List.mem_singleton.mp h) c
            exact ((hr1 y hy').keep (tk_same s34)).keep tk
    · rintro H1 ⟨s1, h1⟩
      rw [List.length_map, List.take_length] at h1
      exact q Dd H1 hD s1 h1
end
end Wl



namespace Wl
open PySem PySem.Spec PyProof.Rows L2
abbrev sMap : Stmt := topS 58
abbrev sMInit : Stmt := inClass sMap 0
/-! A WordMap on the heap. -/
abbrev m1 (pl : Addr) : List (Str × V) := putF "land" (.ref pl) []
abbrev m2 (pl : Addr) (z : Str) : List (Str × V) := putF "thing" (.str z) (m1 pl)
abbrev m3 (pl : Addr) (z : Str) (S : Addr) : List (Str × V) := putF "changes" (.ref S) (m2 pl z)
abbrev m4 (pl : Addr) (z : Str) (S a : Addr) : List (Str × V) := putF "sure_words" (.ref a) (m3 pl z S)
abbrev m5 (pl : Addr) (z : Str) (S a b : Addr) : List (Str × V) := putF "doubtful_words" (.ref b) (m4 pl z S a)
abbrev mf (pl : Addr) (z : Str) (S a b c : Addr) : List (Str × V) := putF "said" (.ref c) (m5 pl z S a b)
theorem m3_land (pl : Addr) (z : Str) (S : Addr) : (m3 pl z S).lookup ("land" : Str) = some (.ref pl) := by
  unfold m3 m2 m1
  rw [lookup_putF, if_neg (by decide +kernel), lookup_putF, if_neg (by decide +kernel), lookup_putF, if_pos rfl]
theorem m5_sure (pl : Addr) (z : Str) (S a b : Addr) : (m5 pl z S a b).lookup ("sure_words" : Str) = some (.ref a) := by
  unfold m5 m4
  rw [lookup_putF, if_neg (by decide +kernel), lookup_putF, if_pos rfl]
theorem mf_land (pl : Addr) (z : Str) (S a b c : Addr) : (mf pl z S a b c).lookup ("land" : Str) = some (.ref pl) := by
  unfold mf m5 m4
  rw [lookup_putF, if_neg (by decide +kernel), lookup_putF, if_neg (by decide +kernel), lookup_putF, if_neg (by decide +kernel), m3_land]
theorem mf_changes (pl : Addr) (z : Str) (S a b c : Addr) : (mf pl z S a b c).lookup ("changes" : Str) = some (.ref S) := by
  unfold mf m5 m4 m3
  rw [lookup_putF, if_neg (by decide +kernel), lookup_putF, if_neg (by decide +kernel), lookup_putF, if_neg (by decide +kernel), lookup_putF, if_pos rfl]
theorem mf_said (pl : Addr) (z : Str) (S a b c : Addr) : (mf pl z S a b c).lookup ("said" : Str) = some (.ref c) := by
  unfold mf
  rw [lookup_putF, if_pos rfl]
theorem mf_no (pl : Addr) (z : Str) (S a b c : Addr) {m : Str} (h1 : ¬ m = "said" := by decide +kernel) (h2 : ¬ m = "doubtful_words" := by decide +kernel) (h3 : ¬ m = "sure_words" := by decide +kernel) (h4 : ¬ m = "changes" := by decide +kernel) (h5 : ¬ m = "thing" := by decide +kernel) (h6 : ¬ m = "land" := by decide +kernel) : (mf pl z S a b c).lookup m = none := by
  unfold mf m5 m4 m3 m2 m1
  rw [lookup_putF, if_neg h1, lookup_putF, if_neg h2, lookup_putF, if_neg h3, lookup_putF, if_neg h4, lookup_putF, if_neg h5, lookup_putF, if_neg h6]
  rfl
/-- what a map shows: of each village its words -/
def SaidAt (H : Hp) (d : Addr) (nms : List Str) (said : Str → List Str) : Prop := ∃ ad : Str → Addr, H d = some (.dK (kvZ (fun z => .ref (ad z)) nms)) ∧ ∀ z ∈ nms, H (ad z) = some (.tup ((said z).map V.str))
theorem SaidAt.keep {H H' : Hp} {d : Addr} {nms : List Str} {said : Str → List Str} (h : SaidAt H d nms said) (k : Keep H H') : SaidAt H' d nms said := by
  obtain ⟨ad, h1, h2⟩ := h
  exact ⟨ad, k _ _ (fun xs e => by cases e) h1, fun z hz => k _ _ (fun xs e => by cases e) (h2 z hz)⟩
structure MR where
  pl : Addr
  L : Addr
  S : Addr
  sd : Addr
  g : Grid
  z : Str
  chs : List Chg
  said : Str → List Str
structure MapAt (C W : Addr) (H : Hp) (p : Addr) (r : MR) : Prop where
  at_ : ∃ dx a b, H p = some (.ins W dx (mf r.pl r.z r.S a b r.sd))
  land : LandAt C H r.pl r.L r.g
  ch : ChAt H r.S r.chs
  said : SaidAt H r.sd (sortS (names r.g)) r.said
theorem MapAt.keep {C W : Addr} {H H' : Hp} {p : Addr} {r : MR} (h : MapAt C W H p r) (k : Keep H H') : MapAt C W H' p r := by
  obtain ⟨dx, a, b, e⟩ := h.at_
  exact ⟨⟨dx, a, b, k _ _ (fun xs e => by cases e) e⟩, h.land.keep k, h.ch.keep fun p xs e => k.tk p xs e, h.said.keep k⟩
theorem MapAt.same {C W : Addr} {H H' : Hp} {p : Addr} {r : MR} (h : MapAt C W H p r) (s : Same H H') : MapAt C W H' p r := h.keep (kp_same s)
structure TxtM (K : PySem.W.Frag) (mg : Str → Option Value) (W : Addr) : Prop where
  cl : Cls K W
  nL : NoAttr K W "land"
  nT : NoAttr K W "thing"
  nC : NoAttr K W "changes"
  nS : NoAttr K W "sure_words"
  nD : NoAttr K W "doubtful_words"
  nA : NoAttr K W "said"
  mgW : mg "WordMap" = some (.ref W)
/-- the tellings that a map shows -/
def shownOf (ts : List Tel) (z : Str) (lo hi : Nat) : List Tel := ts.filter fun t => decide (t.th = z) && (decide (lo ≤ t.age) && decide (t.age ≤ hi))
noncomputable def saidOf (chs : List Chg) (ts : List Tel) (z : Str) (lo hi : Nat) (y : Str) : List Str := wordsIn chs (((shownOf ts z lo hi).filter fun t => t.sure).filter fun t => decide (t.v = y))
/-- all but what stands at p is as it was -/
def But (p : Addr) (H H' : Hp) : Prop := ∀ b o, b ≠ p → H b = some o → H' b = some o
theorem But.upd {p : Addr} {H H' : Hp} {o : HO} (h : But p H H') : But p H (L2.upd H' p o) := fun b u n e => by
  rw [upd_ne n]
  exact h b u n e
theorem But.same {p : Addr} {H H1 H2 : Hp} (h : But p H H1) (s : Same H1 H2) : But p H H2 := fun b u n e => s _ _ (h b u n e)
theorem But.tk {p dx W : Addr} {fs : List (Str × V)} {H H' : Hp} (h : But p H H') (hp : H p = some (.ins W dx fs)) : TupKeep H H' := fun b xs e => h b _ (ne_of e hp (by intro z; cases z)) e
theorem gat_but {C D W g p dx : Addr} {H H' : Hp} {r : GR} {fs : List (Str × V)} (h : GatAt C D H g r) (hp : H p = some (.ins W dx fs)) (n1 : p ≠ g) (n2 : p ≠ r.pl) (k : But p H H') : GatAt C D H' g r := by
  obtain ⟨dg, e⟩ := h.at_
  exact ⟨⟨dg, k _ _ n1.symm e⟩, land_but h.land hp n2 k, k _ _ (ne_of h.told hp (by intro z; cases z)) h.told, h.tels.keep (k.tk hp), k _ _ (ne_of h.deeds hp (by intro z; cases z)) h.deeds, h.ne⟩
section
variable {P : Program} {w : World} {K : PySem.W.Frag} {mg : Str → Option Value} {base : Heap} {f C D W : Addr} {fd : FuncData}
abbrev FunI (K : PySem.W.Frag) (f : Addr) (fd : FuncData) : Prop := FunD K "__init__" "WordMap.__init__" (defArgs sMInit) (defBody sMInit) (defScope sMInit) [.non, .int 0, .int 120] [] f fd
abbrev psMI : List Str := ["self", "gathering", "thing", "changes", "least", "most"]
abbrev nMI : List Str := ["self", "gathering", "thing", "changes", "least", "most", "known", "told", "names", "telling", "name", "row"]
theorem scMI : FnScope nMI psMI (defScope sMInit) := ⟨rfl, rfl, rfl, by decide +kernel, rfl, by decide +kernel, by decide +kernel⟩
def HasT (P : Program) (w : World) (K : PySem.W.Frag) (mg : Str → Option Value) (base : Heap) (C D : Addr) : Prop := ∃ f fd, FnOk P w K mg base CX0 1 f fd ["self", "keying"] (spTell C D) ∧ Meth K D "tellings" f ∧ FunT K f fd
def spMI (C D W : Addr) : Sp := fun vs H Q _ => ∃ (p dx g : Addr) (r : GR) (wd : Nat) (z : Str) (v : V) (chs : List Chg) (lo hi : Nat), vs = [.ref p, .ref g, .str z, v, .int (lo : Int), .int (hi : Int)] ∧ H p = some (.ins W dx []) ∧ GatAt C D H g r ∧ Good r.g wd ∧ (∀ t ∈ r.ts, OkT t) ∧ r.ts.length ≤ 200 ∧ IsWd z ∧ ChV H v chs ∧ OkCs chs ∧ lo ≤ hi ∧ hi ≤ 120 ∧
  ∀ (S d : Addr) (H' : Hp), But p H H' → MapAt C W H' p ⟨r.pl, r.L, S, d, r.g, z, chs, saidOf chs r.ts z lo hi⟩ → Q .non H'
theorem words_rows {H : Hp} : ∀ {as : List Addr} {ws : List Str} {zs : List V}, Each (fun (p : Addr) (z : Str) => ∃ a b n : Int, H p = some (.tup [.str z, .int a, .int b, .int n])) as ws → Each (fun (x z : V) => ∀ (p : Addr) (u : Str) (a b n : Int), x = .ref p → H p = some (.tup [.str u, .int a, .int b, .int n]) → z = .str u) (as.map V.ref) zs → zs = ws.map V.str
  | [], [], [], _, _ => rfl
  | [], [], _ :: _, _, h => nomatch h
  | [], _ :: _, _, h, _ => nomatch h
  | _ :: _, [], _, h, _ => nomatch h
  | _ :: _, _ :: _, [], _, h => nomatch h
  | a :: as, r :: g, z :: zs, .cons e t, .cons e' t' => by
    obtain ⟨x, y, n, e⟩ := e
    rw [e' a r x y n rfl e, words_rows t t']
    rfl
theorem ok_minit (F : FunI K f fd) (B : Bi mg) (T : Txt K mg C) (TG : TxtG K mg D) (TM : TxtM K mg W) (hCG : Has P w K mg base "check_gathering" 1 ["thing"] (spCheckG C D)) (hW : Has P w K mg base "check_word" 2 ["word"] spCheckW)
    (hCh : Has P w K mg base "checked_changes" 4 ["changes"] spChecked) (hA : Has P w K mg base "check_age" 3 ["age"] spCheckA) (hT : HasT P w K mg base C D) (hN : HasM P w K mg base C "names" 1 ["self"] (spLNames C)) (hB : Has P w K mg base "by_village" 7 ["names", "tellings", "changes"] spByV) : FnOk P w K mg base CX0 8 f fd psMI (spMI C D W) := by
  obtain ⟨fT, fdT, FT, mT, FnT⟩ := hT
  obtain ⟨dsT, vT, bT⟩ := tell_b1 FnT
  refine okD F scMI (fun vs H Q E h => ?_) (fun cdv A outer s H vs Q E hr h => ?_)
  · obtain ⟨p, dx, g, r, wd, z, v, chs, lo, hi, rfl, _⟩ := h
    rfl
  · obtain ⟨p, dx, g, r, wd, z, v, chs, lo, hi, rfl, hp, hG, gd, hok, h200, hz, hv, okc, hlo, hhi, q⟩ := h
    have hu := hu_of hr
    refine ⟨_, pss_cons (ps_expr (pe_h hCG hr (pa_cons (pv 1) pa_nil)))
      (pss_cons (ps_expr (pe_h hW hr (pa_cons (pv 2) pa_nil)))
      (pss_cons (ps_set (i := 6) scMI.nd rfl (.inl rfl) (pe_h hCh hr (pa_cons (pv 3) pa_nil)))
      (pss_cons (ps_expr (pe_h hA hr (pa_cons (pv 4) pa_nil)))
      (pss_cons (ps_expr (pe_h hA hr (pa_cons (pv 5) pa_nil)))
      (pss_cons (ps_if (pt_cmpR op_lt (pv 5) (pv 4) (nomark _)) (pss_one ps_never) pss_nil)
      (pss_cons (ps_fld (pv 0) (pe_fld (pv 1) rfl) rfl)
      (pss_cons (ps_fld (pv 0) (pv 2) rfl)
      (pss_cons (ps_fld (pv 0) (pv 6) rfl)
      (pss_cons (ps_setLc (i := 7) (own := [("telling", 9)]) (g := gName 9) (tt := tAnd (tTest (tOp rEq (tOp (rIxT K) (tVar 9) (tC (.int 1))) (tVar 2))) (tTest (tChain (rI0 fun i j => .bl (decide (i ≤ j))) (rI0 fun i j => .bl (decide (i ≤ j))) (tVar 4) (tOp (rIxT K) (tVar 9) (tC (.int 4))) (tVar 5)))) (te := tVar 9) rfl scMI.nd rfl rfl (sw_true rfl rfl rfl (by decide +kernel)) (pi_list (pe_meth0 (pv 1) TG.cl mT FT (hr.mono (by decide)) bT vT pass0)) (blkOk_by (N := nMI) (sc := defScope sMInit) (by decide +kernel))
        (fun _ _ _ _ _ => pg_name (i := 9) scMI.nd rfl (.inl rfl)) (fun _ _ _ _ _ => pts_one (PW.pt (pw_and (pt_cmpR op_eq (pe_ix ix_tup (pv 9) pe_int (fun _ _ => rfl)) (pv 2) (nomark _)) (pw_and1 (pt_chain op_le op_le (pv 4) (pe_ix ix_tup (pv 9) pe_int (fun _ _ => rfl)) (pv 5)))))) (fun _ _ _ _ _ => pv 9))
      (pss_cons (ps_set (i := 8) scMI.nd rfl (.inl rfl) (pe_hm0 hN T.cl hr (pe_fld (pv 0) rfl)))
      (pss_cons (ps_fld (pv 0) (pe_h hB hr (pa_cons (pv 8) (pa_cons (pe_lc (own := [("telling", 9)]) (g := gName 9) (tt := tB (tOp (rIxT K) (tVar 9) (tC (.int 6)))) (te := tVar 9) rfl scMI.nd (pi_list (pv 7)) (blkOk_by (N := nMI) (sc := defScope sMInit) (by decide +kernel)) (fun _ _ _ _ _ => pg_name (i := 9) scMI.nd rfl (.inl rfl)) (fun _ _ _ _ _ => pts_one (pt_val (pe_ix ix_tup (pv 9) pe_int (fun _ _ => rfl)))) (fun _ _ _ _ _ => pv 9)) (pa_cons (pv 6) pa_nil)))) rfl)
      (pss_cons (ps_fld (pv 0) (pe_h hB hr (pa_cons (pv 8) (pa_cons (pe_lc (own := [("telling", 9)]) (g := gName 9) (tt := tNot (tB (tOp (rIxT K) (tVar 9) (tC (.int 6))))) (te := tVar 9) rfl scMI.nd (pi_list (pv 7)) (blkOk_by (N := nMI) (sc := defScope sMInit) (by decide +kernel)) (fun _ _ _ _ _ => pg_name (i := 9) scMI.nd rfl (.inl rfl)) (fun _ _ _ _ _ => pts_one (pt_not (pt_val (pe_ix ix_tup (pv 9) pe_int (fun _ _ => rfl))))) (fun _ _ _ _ _ => pv 9)) (pa_cons (pv 6) pa_nil)))) rfl)
      (pss_one (ps_fld (pv 0) (pe_dc (own := [("name", 10)]) (g := gName 10) (tt := tYes) (tk := tVar 10) (tv := tCB (fun xs H Q => ∃ p ys, xs = [.ref p] ∧ ((SqL K H p ys ∧ ∀ l, H l = none → Q (.ref l) (upd H l (.tup ys))) ∨ (SqT K H p ys ∧ Q (.ref p) H))) (tCons (tLc (iTup K (tDGet (tFld K (tVar 0) "sure_words") (tVar 10))) (gName 11) tYes (tOp (rIxT K) (tVar 11) (tC (.int 0))) [11]) tNil))
        rfl scMI.nd (pi_tup (pv 8)) (blkOk_by (N := nMI) (sc := defScope sMInit) (by decide +kernel)) (fun _ _ _ _ _ => pg_name (i := 10) scMI.nd rfl (.inl rfl)) (fun _ _ _ _ _ => pts_nil) (fun _ _ _ _ _ => pv 10)
        (fun _ _ _ _ _ => pe_callTy call_tuple_of (by rfl) B.tuple (by decide +kernel) (pa_cons (pe_lc (own := [("row", 11)]) (g := gName 11) (tt := tYes) (te := tOp (rIxT K) (tVar 11) (tC (.int 0))) rfl scMI.nd (pi_tup (pe_dget hu (pe_fld (pv 0) rfl) (pv 10) (fun _ _ => rfl))) (blkOk_by (N := nMI) (sc := { kind := .function, names := [(".0", .local), ("name", .local), ("tuple", .globalImplicit), ("self", .cell)], isGenerator := false, isCoroutine := false }) (by decide +kernel))
          (fun _ _ _ _ _ => pg_name (i := 11) scMI.nd rfl (.inl rfl)) (fun _ _ _ _ _ => pts_nil) (fun _ _ _ _ _ => pe_ix ix_tup (pv 11) pe_int (fun _ _ => rfl))) pa_nil))) rfl)))))))))))))), ?_⟩
    refine ⟨_, rfl, g, r, rfl, hG, ?_⟩
    refine ⟨_, rfl, z, rfl, hz, fun H1 s1 => ?_⟩
    refine ⟨_, rfl, v, chs, rfl, hv.same s1, okc, fun S H2 s2 hS => ?_⟩
    refine ⟨_, rfl, lo, rfl, by omega, ?_⟩
    refine ⟨_, rfl, hi, rfl, by omega, ?_⟩
    refine ⟨_, rfl, _, rfl, _, _, rfl, rfl, _, rfl, ?_⟩
    rw [decide_eq_false (show ¬ ((hi : Int) < (lo : Int)) by omega)]
    refine iteF ?_
    have s02 := s1.trans s2
    have hG2 := hG.same s02
    have hp2 := s02 _ _ hp
    have npg : p ≠ g := fun e => by
      obtain ⟨dg, eg⟩ := hG2.at_
      rw [← e, hp2] at eg
      have := (HO.ins.inj (Option.some.inj eg)).2.2
      have l := gf_land r.pl r.td r.dd
      rw [← this] at l
      cases l
    have npl : p ≠ r.pl := fun e => by
      obtain ⟨dl, d, el⟩ := hG2.land.ins
      rw [← e, hp2] at el
      have := (HO.ins.inj (Option.some.inj el)).2.2
      have l := lf_rows d r.L
      rw [← this] at l
      cases l
    obtain ⟨dg, hg2⟩ := hG2.at_
    refine ⟨_, rfl, g, D, dg, _, _, rfl, hg2, TG.cl, TG.nL, gf_land _ _ _, _, rfl, p, W, dx, [], rfl, hp2, TM.cl, TM.nL, (by show 0 < 1000; decide), ?_⟩
    refine ⟨_, rfl, _, rfl, p, W, dx, m1 r.pl, rfl, upd_same, TM.cl, TM.nT, (by show 1 < 1000; decide), ?_⟩
    refine ⟨_, rfl, _, rfl, p, W, dx, m2 r.pl z, rfl, upd_same, TM.cl, TM.nC, (by show 2 < 1000; decide), ?_⟩
    have k5 : But p H2 (L2.upd (L2.upd (L2.upd H2 p (.ins W dx (m1 r.pl))) p (.ins W dx (m2 r.pl z))) p (.ins W dx (m3 r.pl z S))) := But.upd (But.upd (But.upd fun b o _ e => e))
    have hp5 : L2.upd (L2.upd (L2.upd H2 p (.ins W dx (m1 r.pl))) p (.ins W dx (m2 r.pl z))) p (.ins W dx (m3 r.pl z S)) p = some (.ins W dx (m3 r.pl z S)) := upd_same
    generalize L2.upd (L2.upd (L2.upd H2 p (.ins W dx (m1 r.pl))) p (.ins W dx (m2 r.pl z))) p (.ins W dx (m3 r.pl z S)) = H5 at k5 hp5
    have hG5 := gat_but hG2 hp2 npg npl k5
    have hS5 : ChAt H5 S chs := hS.keep (k5.tk hp2)
    have k05 : But p H H5 := fun b o n e => k5 b o n (s02 _ _ e)
    obtain ⟨dg5, hg5⟩ := hG5.at_
    refine ⟨_, rfl, g, dg5, _, rfl, hg5, gf_no _ _ _, g, r, rfl, hG5, fun l hl => ⟨l, rfl, ⟨_, .inl (.inl upd_same)⟩, fun Dd hD => ?_⟩⟩
    have s6 := same_new (o := .lst (r.as.map V.ref)) hl
    have hl6 : L2.upd H5 l (.lst (r.as.map V.ref)) l = some (.lst (r.as.map V.ref)) := upd_same
    generalize L2.upd H5 l (.lst (r.as.map V.ref)) = H6 at s6 hl6 hD
    refine pick_tels (K := K) hl6 (hG5.tels.keep (tk_same s6)) hD (fun t => decide (t.th = z) && (decide (lo ≤ t.age) && decide (t.age ≤ hi))) h200 (fun _ => rfl) ?_ (fun x H' Q' q' => ⟨_, rfl, q'⟩) ?_
    · intro pt t H' _ hpt _ Q' q'
      refine ⟨_, rfl, pt, _, _, _, rfl, rfl, .inl (.inl hpt), atI_nat (j := 1) rfl, _, rfl, rfl, _, rfl, ?_⟩
      rw [str_dec]
      refine ite_b (fun e => ?_) (fun e => ?_)
      · rw [e, Bool.true_and] at q'
        refine ⟨_, rfl, _, rfl, pt, _, _, _, rfl, rfl, .inl (.inl hpt), atI_nat (j := 4) rfl, _, _, rfl, rfl, _, rfl, ite_b (fun e2 => ?_) (fun e2 => ?_)⟩
        · refine ⟨_, rfl, _, _, rfl, rfl, _, rfl, ?_⟩
          have e3 : decide (lo ≤ t.age) = true := decide_eq_true (by have := of_decide_eq_true e2; omega)
          have e4 : decide ((t.age : Int) ≤ (hi : Int)) = decide (t.age ≤ hi) := by
            by_cases c : t.age ≤ hi
            · rw [decide_eq_true c, decide_eq_true (by omega)]
            · rw [decide_eq_false c, decide_eq_false (by omega)]
          rw [e3, Bool.true_and] at q'
          rw [e4]
          exact q'
        · have e3 : decide (lo ≤ t.age) = false := decide_eq_false (by have := of_decide_eq_false e2; omega)
          rw [e3, Bool.false_and] at q'
          exact ⟨false, rfl, q'⟩
      · rw [e, Bool.false_and] at q'
        exact q'
    intro bs H7 s7 hD7 hb7
    have s57 := s6.trans s7
    have eT : (r.ts.filter fun t => decide (t.th = z) && (decide (lo ≤ t.age) && decide (t.age ≤ hi))) = shownOf r.ts z lo hi := rfl
    rw [eT] at hb7
    have okS : ∀ t ∈ shownOf r.ts z lo hi, OkT t := fun t ht => hok t (List.mem_filter.mp ht).1
    have lenS : (shownOf r.ts z lo hi).length ≤ 200 := Nat.le_trans (List.length_filter_le _ _) h200
    have esd : saidOf chs r.ts z lo hi = fun y => wordsIn chs (((shownOf r.ts z lo hi).filter fun t => t.sure).filter fun t => decide (t.v = y)) := rfl
    generalize shownOf r.ts z lo hi = ts at hb7 okS lenS esd
    have hp7 := s57 _ _ hp5
    have hL7 := hG5.land.same s57
    obtain ⟨dl7, dd7, hl7⟩ := hL7.ins
    refine ⟨_, rfl, p, W, dx, _, _, rfl, hp7, TM.cl, TM.nL, m3_land _ _ _, r.pl, dl7, _, rfl, hl7, fs_no, r.pl, r.L, r.g, wd, rfl, hL7, gd, fun tn H8 ntn s8 htn => ?_⟩
    have nds : (sortS (names r.g)).Nodup := sortS_nodup gd.nd
    have n36 : (sortS (names r.g)).length ≤ 36 := by
      rw [sortS_len]
      have a1 := len_names gd.rows
      have a3 : r.g.length * wd ≤ 6 * 6 := Nat.mul_le_mul gd.h6 gd.w6
      omega
    -- the sure ones
    have hD8 := s8 _ _ hD7
    have hb8 : TelsAt H8 bs ts := hb7.keep (tk_same s8)
    refine ⟨_, rfl, _, rfl, Dd, rfl, ⟨_, .inl (.inl hD8)⟩, fun De hE => ?_⟩
    refine pick_tels (K := K) hD8 hb8 hE (fun t => t.sure) lenS (fun _ => rfl) (fun pt t H' _ hpt _ Q' q' => ⟨_, rfl, pt, _, _, _, rfl, rfl, .inl (.inl hpt), atI_nat (j := 6) rfl, _, rfl, q'⟩) (fun x H' Q' q' => ⟨_, rfl, q'⟩) ?_
    intro cs H9 s9 hE9 hc9
    have s89 := s8.trans s9
    refine ⟨_, rfl, tn, De, S, _, cs, _, chs, rfl, s9 _ _ htn, nds, n36, hE9, hc9, fun t ht => okS t (List.mem_filter.mp ht).1, Nat.le_trans (List.length_filter_le _ _) lenS, (hS5.same s57).same s89, okc, fun D1 H10 nD1 s10 bv1 => ?_⟩
    have s710 := s89.trans s10
    have hp10 := s710 _ _ hp7
    refine ⟨_, rfl, p, W, dx, m3 r.pl z S, rfl, hp10, TM.cl, TM.nS, (by show 3 < 1000; decide), ?_⟩
    have k11 : But p H5 (L2.upd H10 p (.ins W dx (m4 r.pl z S D1))) := But.upd fun b o _ e => s710 _ _ (s57 _ _ e)
    have k10 : But p H10 (L2.upd H10 p (.ins W dx (m4 r.pl z S D1))) := But.upd fun b o _ e => e
    have hp11 : L2.upd H10 p (.ins W dx (m4 r.pl z S D1)) p = some (.ins W dx (m4 r.pl z S D1)) := upd_same
    have nlst : ∀ {a : Addr} {xs : List V}, H10 a = some (.lst xs) → a ≠ p := fun e => ne_of e hp10 (by intro q; cases q)
    have hD11 := k10 _ _ (nlst (s9.trans s10 _ _ hD8)) (s9.trans s10 _ _ hD8)
    have htn11 := k10.tk hp10 _ _ (s9.trans s10 _ _ htn)
    have hb11 : TelsAt (L2.upd H10 p (.ins W dx (m4 r.pl z S D1))) bs ts := (hb8.keep (tk_same (s9.trans s10))).keep (k10.tk hp10)
    have hS11 : ChAt (L2.upd H10 p (.ins W dx (m4 r.pl z S D1))) S chs := ((hS5.same s57).same s710).keep (k10.tk hp10)
    have bv11 : ByV (L2.upd H10 p (.ins W dx (m4 r.pl z S D1))) D1 (sortS (names r.g)) chs (ts.filter fun t => t.sure) := by
      obtain ⟨ad, h1, h2⟩ := bv1
      exact ⟨ad, k10 _ _ (ne_of h1 hp10 (by intro q; cases q)) h1, fun y hy => (h2 y hy).keep (k10.tk hp10)⟩
    generalize L2.upd H10 p (.ins W dx (m4 r.pl z S D1)) = H11 at k11 hp11 hD11 htn11 hb11 hS11 bv11
    -- the doubtful ones
    refine ⟨_, rfl, _, rfl, Dd, rfl, ⟨_, .inl (.inl hD11)⟩, fun Df hF => ?_⟩
    refine pick_tels (K := K) hD11 hb11 hF (fun t => !t.sure) lenS (fun _ => rfl) (fun pt t H' _ hpt _ Q' q' => ⟨_, rfl, pt, _, _, _, rfl, rfl, .inl (.inl hpt), atI_nat (j := 6) rfl, _, rfl, q'⟩) (fun x H' Q' q' => ⟨_, rfl, q'⟩) ?_
    intro es H12 s12 hF12 hc12
    refine ⟨_, rfl, tn, Df, S, _, es, _, chs, rfl, s12 _ _ htn11, nds, n36, hF12, hc12, fun t ht => okS t (List.mem_filter.mp ht).1, Nat.le_trans (List.length_filter_le _ _) lenS, hS11.same s12, okc, fun D2 H13 nD2 s13 bv2 => ?_⟩
    have s1113 := s12.trans s13
    have hp13 := s1113 _ _ hp11
    refine ⟨_, rfl, p, W, dx, m4 r.pl z S D1, rfl, hp13, TM.cl, TM.nD, (by show 4 < 1000; decide), ?_⟩
    have k13 : But p H13 (L2.upd H13 p (.ins W dx (m5 r.pl z S D1 D2))) := But.upd fun b o _ e => e
    have k14 : But p H5 (L2.upd H13 p (.ins W dx (m5 r.pl z S D1 D2))) := But.upd fun b o n e => s1113 _ _ (k11 b o n e)
    have hp14 : L2.upd H13 p (.ins W dx (m5 r.pl z S D1 D2)) p = some (.ins W dx (m5 r.pl z S D1 D2)) := upd_same
    have htn14 := k13.tk hp13 _ _ (s1113 _ _ htn11)
    have bv14 : ByV (L2.upd H13 p (.ins W dx (m5 r.pl z S D1 D2))) D1 (sortS (names r.g)) chs (ts.filter fun t => t.sure) := by
      obtain ⟨ad, h1, h2⟩ := bv11
      have h1' := s1113 _ _ h1
      exact ⟨ad, k13 _ _ (ne_of h1' hp13 (by intro q; cases q)) h1', fun y hy => ((h2 y hy).keep (tk_same s1113)).keep (k13.tk hp13)⟩
    generalize L2.upd H13 p (.ins W dx (m5 r.pl z S D1 D2)) = H14 at k14 hp14 htn14 bv14
    obtain ⟨ad, hd14, hr14⟩ := bv14
    -- what is said
    refine ⟨_, rfl, tn, rfl, ⟨_, .inl (.inl htn14)⟩, fun Ds hDs => dc_it (walk_tup (K := K) (a := tn) (xs := (sortS (names r.g)).map V.str)) (fun i H' => Same H14 H' ∧ SaidAt H' Ds ((sortS (names r.g)).take i) (saidOf chs r.ts z lo hi)) ⟨same_new hDs, fun _ => 0, upd_same, fun z hz => by simp at hz⟩ (fun i H' _ h => .inl (.inl (h.1 _ _ htn14))) ?_ ?_⟩
    · rintro i x H15 H16 hi' ⟨s15, ad2, hd15, hr15⟩ ⟨rfl, hx⟩
      rw [List.getElem?_map] at hx
      obtain ⟨y, hy, rfl⟩ := Option.map_eq_some_iff.mp hx
      have hym := List.mem_of_getElem? hy
      obtain ⟨as2, ha2, hb2⟩ := hr14 y hym
      have hdv : DGet H16 D1 (.str y) (some (.ref (ad y))) := by
        have := DGet.k (k := Sum.inr y) (s15 _ _ hd14)
        rw [valV_in hym] at this
        exact this
      have hay := s15 _ _ ha2
      refine ⟨rfl, yes_it ⟨_, rfl, _, rfl, p, W, dx, _, _, rfl, s15 _ _ hp14, TM.cl, TM.nS, m5_sure _ _ _ _ _, _, rfl, D1, _, rfl, hdv, ad y, rfl, ⟨_, .inl (.inl hay)⟩, fun Dr hDr => ?_⟩⟩
      have hlen2 := hb2.length
      have hw2 : (wordsIn chs ((ts.filter fun t => t.sure).filter fun t => decide (t.v = y))).length ≤ 200 := by
        unfold wordsIn
        rw [sortS_len]
        refine Nat.le_trans (keysOf_len _) ?_
        rw [List.length_map]
        exact Nat.le_trans (List.length_filter_le _ _) (Nat.le_trans (List.length_filter_le _ _) lenS)
      refine lc_rel (walk_tup (K := K) (a := ad y) (xs := as2.map V.ref)) hDr (fun _ => true) (fun x u _ => ∀ (p : Addr) (v : Str) (a b n : Int), x = .ref p → H14 p = some (.tup [.str v, .int a, .int b, .int n]) → u = .str v) (fun H' s' => .inl (.inl (s' _ _ hay))) (fun _ => rfl) (fun x H' _ _ Q' q' => q') ?_ (fun _ _ _ _ _ _ _ r => r) ?_ ?_
      · intro x H' hx _ s' Q' q'
        obtain ⟨pr, hpr, rfl⟩ := List.mem_map.mp hx
        obtain ⟨k, hk, ek⟩ := List.mem_iff_getElem.mp hpr
        obtain ⟨u, hu2, a, b, n, hH⟩ := Each.get hb2 (i := k) (a := pr) (by rw [List.getElem?_eq_getElem hk, ek])
        refine ⟨_, rfl, pr, _, _, .str u, rfl, rfl, .inl (.inl (s' _ _ (s15 _ _ hH))), atI_nat (j := 0) rfl, ?_⟩
        refine q' _ _ (Same.refl _) fun p' v a' b' n' e1 e2 => ?_
        have e1 := V.ref.inj e1
        subst e1
        rw [hH] at e2
        have := HO.tup.inj (Option.some.inj e2)
        simp only [List.cons.injEq] at this
        exact this.1
      · rw [List.length_map]
        exact small1000 (by omega)
      · intro zs H17 s17 hD17 he
        rw [List.filter_eq_self.mpr fun _ _ => rfl] at he
        have ez := words_rows hb2 he
        rw [ez] at hD17
        refine ⟨Dr, _, rfl, .inl ⟨.inl (.inl hD17), fun tt htt => ?_⟩⟩
        have s18 := same_new (o := .tup ((wordsIn chs ((ts.filter fun t => t.sure).filter fun t => decide (t.v = y))).map V.str)) htt
        have s1518 := s17.trans s18
        have hd18 := s1518 _ _ hd15
        have htt18 : L2.upd H17 tt (.tup ((wordsIn chs ((ts.filter fun t => t.sure).filter fun t => decide (t.v = y))).map V.str)) tt = some (.tup ((saidOf chs r.ts z lo hi y).map V.str)) := by
          rw [upd_same, esd]
        generalize L2.upd H17 tt (.tup ((wordsIn chs ((ts.filter fun t => t.sure).filter fun t => decide (t.v = y))).map V.str)) = H18 at s18 s1518 hd18 htt18
        have hnew : y ∉ (sortS (names r.g)).take i := fun hm => by
          obtain ⟨j, hj, ej⟩ := List.mem_iff_getElem.mp hm
          rw [List.length_take] at hj
          rw [List.getElem_take] at ej
          obtain ⟨hi2, ei⟩ := List.getElem?_eq_some_iff.mp hy
          have := (List.getElem_inj nds).mp (ej.trans ei.symm)
          omega
        have hv : valV (kvZ (fun z => V.ref (ad2 z)) ((sortS (names r.g)).take i)) (Sum.inr y : Key) = none := valV_out hnew
        refine ⟨_, Sum.inr y, rfl, hd18, ?_, same_mut (s15.trans s1518) hDs, fun u => if u = y then tt else ad2 u, ?_, fun u hu3 => ?_⟩
        · rw [kvZ_len, List.length_take]
          exact small1000 (by omega)
        · rw [putK_new _ hv, upd_same, take_snoc hy]
          unfold kvZ
          rw [List.map_append]
          congr 2
          congr 1
          · refine List.map_congr_left fun u hu3 => ?_
            have : u ≠ y := fun e => hnew (e ▸ hu3)
            simp only [if_neg this]
          · simp
        · have tk := tk_updD (o := .dK (putK (kvZ (fun z => V.ref (ad2 z)) ((sortS (names r.g)).take i)) (Sum.inr y) (.ref tt))) hd18
          by_cases c : u = y
          · subst c
            simp only [if_true]
            exact tk _ _ htt18
          · simp only [if_neg c]
            have hu' : u ∈ (sortS (names r.g)).take i := by
              rw [take_snoc hy] at hu3
              rcases List.mem_append.mp hu3 with h | h
              · exact h
              · exact absurd (List.mem_singleton.mp h) c
            exact tk _ _ (s1518 _ _ (hr15 u hu'))
    · rintro H15 ⟨s15, sd15⟩
      rw [List.length_map, List.take_length] at sd15
      have hp15 := s15 _ _ hp14
      refine ⟨_, rfl, p, W, dx, m5 r.pl z S D1 D2, rfl, hp15, TM.cl, TM.nA, (by show 5 < 1000; decide), ?_⟩
      have k16 : But p H15 (L2.upd H15 p (.ins W dx (mf r.pl z S D1 D2 Ds))) := But.upd fun b o _ e => e
      have k516 : But p H5 (L2.upd H15 p (.ins W dx (mf r.pl z S D1 D2 Ds))) := But.upd fun b o n e => s15 _ _ (k14 b o n e)
      refine q S Ds _ (fun b o n e => k516 b o n (k05 b o n e)) ⟨⟨dx, D1, D2, upd_same⟩, land_but hG5.land hp5 npl k516, hS5.keep (k516.tk hp5), ?_⟩
      obtain ⟨ad3, h1, h2⟩ := sd15
      exact ⟨ad3, k16 _ _ (ne_of h1 hp15 (by intro q; cases q)) h1, fun y hy => k16.tk hp15 _ _ (h2 y hy)⟩
end
end Wl



/-! Rules of ours: an object of an own class beside things of other kinds, by == and != -/
namespace Wl
open PySem PySem.Spec PyProof.Rows L2
section
variable {M : Model} {prog : Program} {w : World} {A : Around} {E : Value → Shared → Prop} {s : Shared} {K : PySem.W.Frag} {x C dx : Addr} {od : Option Obj}
theorem dec_none {Q : Fin → Shared → Prop} (hq : Q (.done (.ret .notImplemented)) s) : wpAny M A (Builtin.«NoneType.__eq__» ⟨[.none, .ref x], []⟩) Q E s := by
  unfold Builtin.«NoneType.__eq__»
  refine wpAny_bind (m := slotArgs "__eq__" 1 _) (wpAny_pure ?_)
  exact wpAny_pure hq
theorem dec_int {v : Value} {Q : Fin → Shared → Prop} (hv : (∃ n t, v = .int n t) ∨ ∃ b, v = .bool b) (ho : s.heap.get? x = some (PySem.W.instObj C dx)) (hq : Q (.done (.ret .notImplemented)) s) : wpAny M A (Builtin.«int.__eq__» ⟨[v, .ref x], []⟩) Q E s := by
  show wpAny M A (slotArgs "__eq__" 1 _ >>= _) Q E s
  refine wpAny_bind (wpAny_pure ?_)
  rcases hv with ⟨n, t, rfl⟩ | ⟨b, rfl⟩
  all_goals
    refine wpAny_bind (wpAny_pure ?_)
    refine wpAny_bind (m := asInt? (.ref x)) ?_
    unfold asInt?
    refine wpAny_bind (wpAny_load ho ?_)
    exact wpAny_pure (wpAny_bind (wpAny_rule (wpAny_pure hq)))
theorem dec_str {z : Str} {t : Tok} {Q : Fin → Shared → Prop} (ho : s.heap.get? x = some (PySem.W.instObj C dx)) (hq : Q (.done (.ret .notImplemented)) s) : wpAny M A (Builtin.«str.__eq__» ⟨[.str z t, .ref x], []⟩) Q E s := by
  unfold Builtin.«str.__eq__» Builtin.Str.strCompare
  refine wpAny_bind (wpAny_pure ?_)
  refine wpAny_bind (m := asStr? (.ref x)) ?_
  unfold asStr?
  refine wpAny_bind (wpAny_load ho ?_)
  exact wpAny_pure (wpAny_bind (wpAny_rule (wpAny_pure hq)))
theorem isin_own {T : String} (X : K.In s.heap) (I : PySem.W.InstAt s.heap x (PySem.W.instObj C dx) C od) (hm : PySem.W.mroIn K C (.type T) = some false) : PySem.W.Looks M s.heap (isInstance (.ref x) (.type T)) false := by
  unfold isInstance
  exact I.type.andThen (PySem.W.looks_mroIn X hm)
theorem dec_list {v : Value} {Q : Fin → Shared → Prop} (X : K.In s.heap) (I : PySem.W.InstAt s.heap x (PySem.W.instObj C dx) C od) (hm : PySem.W.mroIn K C (.type "list") = some false) (hq : Q (.done (.ret .notImplemented)) s) : wpAny M A (Builtin.«list.__eq__» ⟨[v, .ref x], []⟩) Q E s := by
  show wpAny M A (slotArgs "__eq__" 1 _ >>= _) Q E s
  refine wpAny_bind (wpAny_pure ?_)
  refine wpAny_bind (m := isInstance (.ref x) (.type "list")) ((isin_own X I hm).here ?_)
  exact wpAny_pure hq
theorem dec_tup {v : Value} {Q : Fin → Shared → Prop} (X : K.In s.heap) (I : PySem.W.InstAt s.heap x (PySem.W.instObj C dx) C od) (hm : PySem.W.mroIn K C (.type "tuple") = some false) (hq : Q (.done (.ret .notImplemented)) s) : wpAny M A (Builtin.«tuple.__eq__» ⟨[v, .ref x], []⟩) Q E s := by
  show wpAny M A (slotArgs "__eq__" 1 _ >>= _) Q E s
  refine wpAny_bind (wpAny_pure ?_)
  refine wpAny_bind (m := isInstance (.ref x) (.type "tuple")) ((isin_own X I hm).here ?_)
  exact wpAny_pure hq
theorem dec_dict {a : Addr} {Q : Fin → Shared → Prop} (hT : s.TypeIs (.ref a) "dict") (X : K.In s.heap) (I : PySem.W.InstAt s.heap x (PySem.W.instObj C dx) C od) (hm : PySem.W.mroIn K C (.type "dict") = some false) (hq : Q (.done (.ret .notImplemented)) s) : wpAny (model prog w) A (Builtin.«dict.__eq__» ⟨[.ref a, .ref x], []⟩) Q E s := by
  show wpAny (model prog w) A (Builtin.Dict.dictSlotArgs "__eq__" ⟨[.ref a, .ref x], []⟩ >>= _) Q E s
  refine wpAny_bind ?_
  unfold Builtin.Dict.dictSlotArgs
  refine wpAny_bind (wpAny_notOrdered_dict hT ?_)
  refine wpAny_pure ?_
  refine wpAny_bind (m := isInstance (.ref x) (.type "dict")) ((isin_own X I hm).here ?_)
  exact wpAny_bind (wpAny_rule (wpAny_pure hq))
theorem rc_back {v : Value} {T id : String} {f : Addr} {Q : Value → Shared → Prop} (hu : A.units < cLine) (X : K.In s.heap) (I : PySem.W.InstAt s.heap x (PySem.W.instObj C dx) C od) (hT : s.TypeIs v T) (hm : PySem.W.mroIn K C (.type T) = some false) (hs : Slot T (cmpInfo .Eq).2.1 id)
    (hd : ∀ Q' : Value → Shared → Prop, Q' .notImplemented s → wpAny (model prog w) A (call (.builtin id) [v, .ref x]) Q' E s)
    (he : PySem.W.findIn K (.ref C) "__eq__" = some (some (.ref f))) (hf : PySem.W.isFn K (.ref f) = true)
    (h : wpAny (model prog w) A (call (.ref f) [.ref x, v]) (fun r s' => ∃ c, r = .bool c ∧ Q r s') E s) : wpAny (model prog w) A (richCompare .Eq v (.ref x)) Q E s := by
  have one : wpAny (model prog w) A (tryCompare v "__eq__" (.ref x)) (fun r s' => r = none ∧ s' = s) E s := wpAny_tryCompare_declines hT hs (hd _ ⟨rfl, rfl, rfl⟩)
  have two : wpAny (model prog w) A (tryCompare (.ref x) "__eq__" v) (fun r s' => ∃ v, r = some v ∧ Q v s') E s := by
    unfold tryCompare
    refine wpAny_bind (PySem.W.ifBound_K X I he hf (wpAny_mono h (fun r s' hv => ?_) fun _ _ e => e))
    obtain ⟨c, rfl, q⟩ := hv
    exact wpAny_pure ⟨_, rfl, q⟩
  simp only [richCompare, cmpInfo_Eq, hT.oneThing_none]
  refine wpAny_holding (wpAny_bind (wpAny_cRoomFor hu ?_))
  refine wpAny_bind (wpAny_typeOf hT (wpAny_bind (I.type.here ?_)))
  split
  · refine wpAny_bind ((PySem.W.looks_mroIn X hm).here ?_)
    simp only [Bool.false_eq_true, if_false, Bool.not_false, if_true]
    refine wpAny_bind (m := tryCompare v _ (.ref x)) (wpAny_mono one (fun r s1 z => ?_) fun _ _ e => e)
    obtain ⟨z1, z2⟩ := z
    subst z1
    subst z2
    refine wpAny_bind (m := tryCompare (.ref x) _ v) (wpAny_mono two (fun r s2 z => ?_) fun _ _ e => e)
    obtain ⟨r2, rfl, q⟩ := z
    exact wpAny_pure q
  · rename_i q
    exact absurd (by simp) q
end
/-- x != y, x of an own class whose == is a def of its own -/
theorem ne_T {A : Around} {E : Value → Shared → Prop} {s : Shared} {prog : Program} {w : World} {K : PySem.W.Frag} {x C f : Addr} {y tb : Value} {ox : Obj} {od : Option Obj} {Q : Value → Shared → Prop} (hu : A.units + 2 < cLine) (X : K.In s.heap) (I : PySem.W.InstAt s.heap x ox C od) (hb : PySem.W.Looks (model prog w) s.heap (typeOf y) tb) (hn : PySem.W.notFirst K C tb = true) (N : NeC K C) (he : PySem.W.findIn K (.ref C) "__eq__" = some (some (.ref f))) (hf : PySem.W.isFn K (.ref f) = true)
    (h : wpAny (model prog w) A.in1 (call (.ref f) [.ref x, y]) (fun v s' => ∃ c, v = .bool c ∧ Q (.bool (!c)) s') E s) : wpAny (model prog w) A (richCompare .NotEq (.ref x) y) Q E s := by
  have one : wpAny (model prog w) A (tryCompare (.ref x) "__ne__" y) (fun r s' => ∃ v, r = some v ∧ Q v s') E s := by
    unfold tryCompare
    refine wpAny_bind (ifBound_B X I N.ne PySem.F.slot_object_ne.bind (wpAny_mono (obj_neK (Q := fun v s' => ∃ c, v = .bool c ∧ Q v s') (by omega) X I N he hf (wpAny_mono h (fun v s' hv => ?_) fun _ _ z => z)) (fun v s' hv => ?_) fun _ _ z => z))
    · obtain ⟨c, rfl, q⟩ := hv
      exact ⟨c, rfl, _, rfl, q⟩
    · obtain ⟨c, rfl, q⟩ := hv
      exact wpAny_pure ⟨_, rfl, q⟩
  unfold richCompare
  simp only [oneThing_ref]
  refine wpAny_holding (wpAny_bind (wpAny_cRoomFor (by omega) ?_))
  refine wpAny_bind (I.type.here (wpAny_bind (hb.here ?_)))
  split
  · rename_i q
    have e : PySem.W.subIn K tb (.ref C) = some false := by
      rcases Bool.or_eq_true_iff.mp hn with e | e
      · rw [beq_iff_eq.mp e] at q; simp at q
      · exact beq_iff_eq.mp e
    refine wpAny_bind ((PySem.W.looks_subIn X e).here ?_)
    simp only [Bool.false_eq_true, if_false]
    refine wpAny_bind (wpAny_mono one (fun r s' z => ?_) fun _ _ e => e)
    obtain ⟨v, rfl, hq⟩ := z
    exact wpAny_pure hq
  · refine wpAny_bind (wpAny_pure ?_)
    simp only [Bool.false_eq_true, if_false]
    refine wpAny_bind (wpAny_mono one (fun r s' z => ?_) fun _ _ e => e)
    obtain ⟨v, rfl, hq⟩ := z
    exact wpAny_pure hq
section
variable {X : Cx} {n : Nat} {f : Addr} {fd : FuncData} {ps : List Str} {sp : Sp} {C : Addr}
theorem look_ty {pins : List (Addr × Obj)} {s : Shared} {σ : L2.St} {H : Hp} {y : V} {u t : Value} (I : L2.Inv X pins σ H s) (ry : RelV y u) (ty : TyX X.K H y t) : PySem.W.Looks (model X.prog X.w) s.heap (typeOf u) t := by
  obtain ⟨Pr, k, hP, _⟩ := kit_of I ry ty
  exact k.ty _ _ I.kIn hP
/-- x == y, x of an own class -/
def rEqT (K : PySem.W.Frag) (C : Addr) (sp : Sp) (g : Bool → Bool) : R2 := fun x y H Q => ∃ a dx fs t, x = V.ref a ∧ H a = some (.ins C dx fs) ∧ TyX K H y t ∧ PySem.W.notFirst K C t = true ∧ sp [.ref a, y] H (fun v H' => ∃ c, v = .bl c ∧ Q (.bl (g c)) H') E0
theorem rc_eqT {A : Around} {pins : List (Addr × Obj)} {s : Shared} {σ : L2.St} {H : Hp} {a dx : Addr} {fs : List (Str × V)} {y : V} {u t : Value} {Q : Bool → Hp → Prop} (F : FnOk X.prog X.w X.K X.mg X.base CX0 n f fd ps sp) (hb : Binds X.K fd ps []) (m : Meth X.K C "__eq__" f) (sb : Sub X n A) (I : L2.Inv X pins σ H s)
    (ha : H a = some (.ins C dx fs)) (ry : RelV y u) (ty : TyX X.K H y t) (hn : PySem.W.notFirst X.K C t = true) (hsp : sp [.ref a, y] H (fun v H' => ∃ c, v = .bl c ∧ Q c H') E0) :
    wpAny (model X.prog X.w) A (richCompare .Eq (.ref a) u) (fun v s' => ∃ c, v = .bool c ∧ ∃ H', L2.Inv X pins σ H' s' ∧ Q c H') X.xe s := by
  obtain ⟨mA, J, _⟩ := ins_get I.hok ha
  obtain ⟨od, J, _⟩ := J.look
  obtain ⟨m', hF⟩ := I.fr
  have r2 : Vals [V.ref a, y] [Value.ref a, u] := .cons rfl (.cons ry .nil)
  refine PySem.W.cmp_K (op := .Eq) (tb := t) sb.room.units0 hF I.ok.mod.kin J (look_ty I ry ty) hn m.at_ m.fn (wpAny_mono (run_own F hb sb I r2 hsp) (fun v s' hq => ?_) fun _ _ z => z)
  obtain ⟨z, H', I', rz, c, rfl, q⟩ := hq
  cases rz
  exact ⟨c, rfl, H', I', q⟩
theorem op_eqT (F : FnOk X.prog X.w X.K X.mg X.base CX0 n f fd ps sp) (hb : Binds X.K fd ps []) (m : Meth X.K C "__eq__" f) (hr : Room n X.A) : OpR X (compareOp .Eq) (rEqT X.K C sp id) := by
  intro pins s σ H x y v u Q I rx ry h
  obtain ⟨a, dx, fs, t, rfl, ha, ty, hn, hsp⟩ := h
  cases rx
  show wpAny (model X.prog X.w) X.A (richCompare .Eq (.ref a) u) (EP X pins σ Q) X.xe s
  refine wpAny_mono (rc_eqT F hb m ⟨hr, rfl⟩ I ha ry ty hn hsp) (fun v s' hq => ?_) fun _ _ z => z
  obtain ⟨c, rfl, H', I', q⟩ := hq
  exact ⟨.bl c, H', I', rfl, q⟩
theorem op_neT (F : FnOk X.prog X.w X.K X.mg X.base CX0 n f fd ps sp) (hb : Binds X.K fd ps []) (m : Meth X.K C "__eq__" f) (N : NeC X.K C) (hr : Room (n + 1) X.A) : OpR X (compareOp .NotEq) (rEqT X.K C sp not) := by
  intro pins s σ H x y v u Q I rx ry h
  obtain ⟨a, dx, fs, t, rfl, ha, ty, hn, hsp⟩ := h
  cases rx
  obtain ⟨mA, J, _⟩ := ins_get I.hok ha
  obtain ⟨od, J, _⟩ := J.look
  have r2 : Vals [V.ref a, y] [Value.ref a, u] := .cons rfl (.cons ry .nil)
  show wpAny (model X.prog X.w) X.A (richCompare .NotEq (.ref a) u) (EP X pins σ Q) X.xe s
  refine ne_T (room_u2 hr) I.kIn J (look_ty I ry ty) hn N m.at_ m.fn (wpAny_mono (run_own F hb (Sub.in1 ⟨hr, rfl⟩) I r2 hsp) (fun v s' hq => ?_) fun _ _ z => z)
  obtain ⟨z, H', I', rz, c, rfl, q⟩ := hq
  cases rz
  exact ⟨c, rfl, .bl (!c), H', I', rfl, q⟩
/-- things that are of no own class -/
inductive OthV (H : Hp) : V → String → Prop where
  | non : OthV H .non "NoneType"
  | bl (b : Bool) : OthV H (.bl b) "bool"
  | int (i : Int) : OthV H (.int i) "int"
  | str (z : Str) : OthV H (.str z) "str"
  | lst {a : Addr} {xs : List V} (e : H a = some (.lst xs)) : OthV H (.ref a) "list"
  | tup {a : Addr} {xs : List V} (e : H a = some (.tup xs)) : OthV H (.ref a) "tuple"
  | dK {a : Addr} {kvs : List (Key × V)} (e : H a = some (.dK kvs)) : OthV H (.ref a) "dict"
theorem OthV.ty {K : PySem.W.Frag} {H : Hp} {y : V} {T : String} (h : OthV H y T) : TyX K H y (.type T) := by
  cases h with
  | non => exact .base .non
  | bl b => exact .base (.bl b)
  | int i => exact .base (.int i)
  | str z => exact .base (.str z)
  | lst e => exact .base (.lst e)
  | tup e => exact .base (.tup e)
  | dK e => exact .base (.dK e)
theorem mro7 : fastBuiltinMro "NoneType" = some [.type "NoneType", .type "object"] ∧ fastBuiltinMro "bool" = some [.type "bool", .type "int", .type "object"] ∧ fastBuiltinMro "int" = some [.type "int", .type "object"] ∧ fastBuiltinMro "str" = some [.type "str", .type "object"] ∧ fastBuiltinMro "list" = some [.type "list", .type "object"] ∧ fastBuiltinMro "tuple" = some [.type "tuple", .type "object"] ∧ fastBuiltinMro "dict" = some [.type "dict", .type "object"] := by
  refine ⟨?_, ?_, ?_, ?_, ?_, ?_, ?_⟩ <;> decide +kernel
theorem OthV.notFirst {K : PySem.W.Frag} {C : Addr} {H : Hp} {y : V} {T : String} (h : OthV H y T) : PySem.W.notFirst K C (.type T) = true := by
  have m := mro7
  have go : ∀ (T : String) (l : List Value), fastBuiltinMro T = some l → (l.contains (.ref C)) = false → PySem.W.notFirst K C (.type T) = true := fun T l e1 e2 => by
    show (Value.type T == .ref C || ((fastBuiltinMro T).map (·.contains (.ref C))) == some false) = true
    rw [e1]
    show (Value.type T == .ref C || some (l.contains (.ref C)) == some false) = true
    rw [e2]
    simp
  cases h with
  | non => exact go _ _ m.1 (by simp)
  | bl b => exact go _ _ m.2.1 (by simp)
  | int i => exact go _ _ m.2.2.1 (by simp)
  | str z => exact go _ _ m.2.2.2.1 (by simp)
  | lst e => exact go _ _ m.2.2.2.2.1 (by simp)
  | tup e => exact go _ _ m.2.2.2.2.2.1 (by simp)
  | dK e => exact go _ _ m.2.2.2.2.2.2 (by simp)
end
end Wl

/-! y == x, x of an own class, y of no own class; x in ys -/
namespace Wl
open PySem PySem.Spec PyProof.Rows L2
/-- the built-in kinds a class is no kind of -/
structure NoKind (K : PySem.W.Frag) (C : Addr) : Prop where
  non : PySem.W.mroIn K C (.type "NoneType") = some false
  bl : PySem.W.mroIn K C (.type "bool") = some false
  int : PySem.W.mroIn K C (.type "int") = some false
  str : PySem.W.mroIn K C (.type "str") = some false
  lst : PySem.W.mroIn K C (.type "list") = some false
  tup : PySem.W.mroIn K C (.type "tuple") = some false
  dK : PySem.W.mroIn K C (.type "dict") = some false
section
variable {X : Cx} {n : Nat} {f : Addr} {fd : FuncData} {ps : List Str} {sp : Sp} {C : Addr}
theorem rc_eqR {A : Around} {pins : List (Addr × Obj)} {s : Shared} {σ : L2.St} {H : Hp} {a dx : Addr} {fs : List (Str × V)} {y : V} {u : Value} {T : String} {Q : Bool → Hp → Prop} (F : FnOk X.prog X.w X.K X.mg X.base CX0 n f fd ps sp) (hb : Binds X.K fd ps []) (m : Meth X.K C "__eq__" f) (N : NoKind X.K C) (sb : Sub X n A) (I : L2.Inv X pins σ H s)
    (ha : H a = some (.ins C dx fs)) (ry : RelV y u) (o : OthV H y T) (hsp : sp [.ref a, y] H (fun v H' => ∃ c, v = .bl c ∧ Q c H') E0) :
    wpAny (model X.prog X.w) A (richCompare .Eq u (.ref a)) (fun v s' => ∃ c, v = .bool c ∧ ∃ H', L2.Inv X pins σ H' s' ∧ Q c H') X.xe s := by
  obtain ⟨mA, J, _⟩ := ins_get I.hok ha
  have hob := J.obj
  obtain ⟨od, J, _⟩ := J.look
  have r2 : Vals [V.ref a, y] [Value.ref a, u] := .cons rfl (.cons ry .nil)
  have hu := sb.room.units0
  have run : wpAny (model X.prog X.w) A (call (.ref f) [.ref a, u]) (fun r s' => ∃ c, r = .bool c ∧ ∃ c', r = .bool c' ∧ ∃ H', L2.Inv X pins σ H' s' ∧ Q c' H') X.xe s := wpAny_mono (run_own F hb sb I r2 hsp) (fun v s' hq => by
    obtain ⟨z, H', I', rz, c, rfl, q⟩ := hq
    cases rz
    exact ⟨c, rfl, c, rfl, H', I', q⟩) fun _ _ z => z
  cases o with
  | non =>
    obtain rfl : u = Value.none := ry
    exact rc_back hu I.kIn J (T := "NoneType") rfl N.non PySem.F.slot_NoneType_eq (fun Q' q => wpAny_call_entry PySem.F.slot_NoneType_eq rfl PySem.F.entry_NoneType_eq (dec_none ⟨_, rfl, q⟩) (PySem.F.args_NoneType_eq_2 _ _)) m.at_ m.fn run
  | bl b =>
    obtain rfl : u = Value.bool b := ry
    exact rc_back hu I.kIn J (T := "bool") rfl N.bl PySem.F.slot_bool_eq (fun Q' q => wpAny_call_entry PySem.F.slot_bool_eq rfl PySem.F.entry_int_eq (dec_int (.inr ⟨b, rfl⟩) hob ⟨_, rfl, q⟩) (PySem.F.args_int_eq_2 _ _)) m.at_ m.fn run
  | int i =>
    obtain ⟨t, rfl⟩ := ry
    exact rc_back hu I.kIn J (T := "int") rfl N.int PySem.F.slot_int_eq (fun Q' q => wpAny_call_entry PySem.F.slot_int_eq rfl PySem.F.entry_int_eq (dec_int (.inl ⟨i, t, rfl⟩) hob ⟨_, rfl, q⟩) (PySem.F.args_int_eq_2 _ _)) m.at_ m.fn run
  | str z =>
    obtain ⟨t, rfl⟩ := ry
    exact rc_back hu I.kIn J (T := "str") rfl N.str PySem.F.slot_str_eq (fun Q' q => wpAny_call_entry PySem.F.slot_str_eq rfl PySem.F.entry_str_eq (dec_str hob ⟨_, rfl, q⟩) (PySem.F.args_str_eq_2 _ _)) m.at_ m.fn run
  | lst e =>
    rename_i l xs
    obtain rfl : u = Value.ref l := ry
    obtain ⟨its, r, ⟨ob, k, e1, e2, _⟩, _⟩ := I.list (.inl (.inl e))
    have hT : s.TypeIs (.ref l) "list" := ⟨ob, e1, e2⟩
    exact rc_back hu I.kIn J (T := "list") hT N.lst PySem.F.slot_list_eq (fun Q' q => wpAny_call_entry PySem.F.slot_list_eq hT PySem.F.entry_list_eq (dec_list I.kIn J N.lst ⟨_, rfl, q⟩) (PySem.F.args_list_eq_2 _ _)) m.at_ m.fn run
  | tup e =>
    rename_i l xs
    obtain rfl : u = Value.ref l := ry
    obtain ⟨its, r, ⟨ob, e1, e2, _⟩, _⟩ := I.tuple (.inl (.inl e))
    have hT : s.TypeIs (.ref l) "tuple" := ⟨ob, e1, e2⟩
    exact rc_back hu I.kIn J (T := "tuple") hT N.tup PySem.F.slot_tuple_eq (fun Q' q => wpAny_call_entry PySem.F.slot_tuple_eq hT PySem.F.entry_tuple_eq (dec_tup I.kIn J N.tup ⟨_, rfl, q⟩) (PySem.F.args_tuple_eq_2 _ _)) m.at_ m.fn run
  | dK e =>
    rename_i l kvs
    obtain rfl : u = Value.ref l := ry
    obtain ⟨_, _, vs, _, d⟩ := I.hok l _ e
    have hT : s.TypeIs (.ref l) "dict" := d.typeIs
    exact rc_back hu I.kIn J (T := "dict") hT N.dK PySem.F.slot_dict_eq (fun Q' q => wpAny_call_entry PySem.F.slot_dict_eq hT PySem.F.entry_dict_eq (dec_dict hT I.kIn J N.dK ⟨_, rfl, q⟩) (PySem.F.args_dict_eq_2 _ _)) m.at_ m.fn run
/-- y == x, y of no own class, x of an own one -/
def rEqR (C : Addr) (sp : Sp) : R2 := fun y x H Q => ∃ a dx fs T, x = V.ref a ∧ H a = some (.ins C dx fs) ∧ OthV H y T ∧ sp [.ref a, y] H (fun v H' => ∃ c, v = .bl c ∧ Q (.bl c) H') E0
theorem op_eqR (F : FnOk X.prog X.w X.K X.mg X.base CX0 n f fd ps sp) (hb : Binds X.K fd ps []) (m : Meth X.K C "__eq__" f) (N : NoKind X.K C) (hr : Room n X.A) : OpR X (compareOp .Eq) (rEqR C sp) := by
  intro pins s σ H y x u v Q I ry rx h
  obtain ⟨a, dx, fs, T, rfl, ha, o, hsp⟩ := h
  cases rx
  show wpAny (model X.prog X.w) X.A (richCompare .Eq u (.ref a)) (EP X pins σ Q) X.xe s
  refine wpAny_mono (rc_eqR F hb m N ⟨hr, rfl⟩ I ha ry o hsp) (fun v s' hq => ?_) fun _ _ z => z
  obtain ⟨c, rfl, H', I', q⟩ := hq
  exact ⟨.bl c, H', I', rfl, q⟩
/-- one rule or another -/
theorem op_or {op : Value → Value → Sem Value} {r1 r2 : R2} (h1 : OpR X op r1) (h2 : OpR X op r2) : OpR X op (fun x y H Q => r1 x y H Q ∨ r2 x y H Q) := by
  intro pins s σ H x y v u Q I rx ry h
  rcases h with h | h
  · exact h1 pins s σ H x y v u Q I rx ry h
  · exact h2 pins s σ H x y v u Q I rx ry h
end
end Wl

/-! x in ys, ys a list or a tuple of things, x of an own class -/
namespace Wl
open PySem PySem.Spec PyProof.Rows L2
open GQ MeetsSeq MeetsSeq2 MeetsSeq3 SeqRoads2 in
open AutoSeq1 (wpAny_loadPart') in
theorem containsT {prog : Program} {w : World} {A : Around} {R : Result → Shared → Prop} {s : Shared} {l : Addr} {items : Array Value} {n : Nat} {dd : Option Addr} {sl : Array (Option Value)} {x : Value} (P : Nat → Shared → Prop)
    (turn : ∀ (i : Nat) (h : i < items.size) (s : Shared), P i s → wpAny (model prog w) A.in1 (eqBool items[i] x) (fun b s' => if b = true then R (.ok (.ret (.bool true))) s' else P (i + 1) s') (fun e s' => R (.error e) s') s)
    (fin : ∀ s, P items.size s → R (.ok (.ret (.bool false))) s) (hl : s.heap.get? l = some { cls := .type "tuple", dict := dd, data := .seq items n, slots := sl }) (h : P 0 s) :
    wpAny (model prog w) A.in1 (Builtin.«tuple.__contains__» ⟨[.ref l, x], []⟩) (FinOf prog w A R) (fun e s' => R (.error e) s') s := by
  have h0 := h
  obtain ⟨hp, g, d, tk, os⟩ := s
  wp_walk using wpAny_loadPart' hl, wpAny_forIn_array _ (fun rest b s' => b.1 = none ∧ ∃ i, rest = items.toList.drop i ∧ i ≤ items.size ∧ P i s') _
  case turn =>
    rintro y rest b s' ⟨hb', i, hz, hi, hI⟩
    have hlt : i < items.toList.length := by
      rcases Nat.lt_or_ge i items.toList.length with h' | h'
      · exact h'
      · rw [List.drop_of_length_le h'] at hz; cases hz
    have h1 : i < items.size := by simpa using hlt
    rw [List.drop_eq_getElem_cons hlt] at hz
    injection hz with hy hrest
    have hy : y = items[i] := by simpa using hy
    subst hy
    refine wpAny_bind (wpAny_mono (turn i h1 s' hI) (fun r s2 q2 => ?_) fun _ _ x => x)
    cases r with
    | true =>
      rw [if_pos rfl] at q2
      wp_walk
      first
        | exact q2
        | exact ⟨_, rfl, q2⟩
    | false =>
      rw [if_neg (by decide)] at q2
      wp_walk
      exact ⟨rfl, i + 1, hrest, h1, q2⟩
  case fin =>
    rintro ⟨b1, b2⟩ s' ⟨hb', i, hz, hi, hI⟩
    simp only at hb'
    subst hb'
    have hge : items.size ≤ i := by
      rcases Nat.lt_or_ge i items.toList.length with h' | h'
      · rw [List.drop_eq_getElem_cons h'] at hz; cases hz
      · simpa using h'
    have hi' : i = items.size := by omega
    have hR : R (.ok (.ret (.bool false))) s' := fin s' (hi' ▸ hI)
    wp_walk
    exact hR
  case h =>
    exact ⟨rfl, 0, rfl, Nat.zero_le _, h0⟩
open GQ MeetsSeq MeetsSeq2 MeetsSeq3 SeqRoads2 in
open AutoSeq1 (wpAny_loadPart') in
theorem contains_loopV {prog : Program} {w : World} {A : Around} {R : Result → Shared → Prop} {l : Addr} {N : Nat} {x : Value} (P : Nat → Shared → Prop)
    (hl : ∀ i s, P i s → ∃ (items : Array Value) (k : Nat), s.heap.get? l = some { cls := .type "list", data := .seq items k } ∧ items.size = N ∧ ∀ h : i < items.size, wpAny (model prog w) A.in1 (eqBool items[i] x) (fun b s' => if b = true then R (.ok (.ret (.bool true))) s' else P (i + 1) s') (fun e s' => R (.error e) s') s)
    (fin : ∀ s, P N s → R (.ok (.ret (.bool false))) s) (k : Nat) :
    ∀ i : Nat, N - i = k → i ≤ N → ∀ s, P i s → wpAny (model prog w) A.in1 (Builtin.«list.__contains__.loop» ⟨[.ref l, x, rawInt i], []⟩) (FinOf prog w A R) (fun e s' => R (.error e) s') s := by
  induction k with
  | zero =>
    intro i hk hi s h
    obtain ⟨items, k, hl1, hN, _⟩ := hl i s h
    have e : i = N := by omega
    have q := fin s (e ▸ h)
    obtain ⟨hp, g, d, tk, os⟩ := s
    wp_walk using wpAny_loadPart' hl1
    have hi1 : items[((i : Nat) : Int).toNat]? = none := by simp; omega
    rw [hi1]
    wp_walk
    exact q
  | succ k ih =>
    intro i hk hi s h
    obtain ⟨items, k1, hl1, hN, turn⟩ := hl i s h
    have hlt : i < items.size := by omega
    have ht := turn hlt
    obtain ⟨hp, g, d, tk, os⟩ := s
    wp_walk using wpAny_loadPart' hl1
    have hi1 : items[((i : Nat) : Int).toNat]? = some items[i] := by simp [hlt]
    rw [hi1]
    refine wpAny_bind (wpAny_mono ht (fun b s2 h2 => ?_) fun _ _ z => z)
    cases b with
    | true =>
      rw [if_pos rfl] at h2
      wp_walk
      exact h2
    | false =>
      rw [if_neg (by decide)] at h2
      have hrec := ih (i + 1) (by omega) (by omega) s2 h2
      obtain ⟨hp2, g2, d2, tk2, os2⟩ := s2
      have hc : ((i : Int) + 1) = ((i + 1 : Nat) : Int) := by omega
      wp_walk
      rw [hc]
      exact ⟨plainId_quiet plain_contains_loop _, codeAny_builtin entry_contains_loop (by
        rw [Around.under_plainId plain_contains_loop _]
        exact hrec)⟩
open GQ MeetsSeq MeetsSeq2 MeetsSeq3 SeqRoads2 in
open AutoSeq1 (wpAny_loadPart') in
theorem containsV {prog : Program} {w : World} {A : Around} {R : Result → Shared → Prop} {s : Shared} {l : Addr} {N : Nat} {x : Value} (P : Nat → Shared → Prop)
    (hl : ∀ i s, P i s → ∃ (items : Array Value) (k : Nat), s.heap.get? l = some { cls := .type "list", data := .seq items k } ∧ items.size = N ∧ ∀ h : i < items.size, wpAny (model prog w) A.in1 (eqBool items[i] x) (fun b s' => if b = true then R (.ok (.ret (.bool true))) s' else P (i + 1) s') (fun e s' => R (.error e) s') s)
    (fin : ∀ s, P N s → R (.ok (.ret (.bool false))) s) (h : P 0 s) :
    wpAny (model prog w) A.in1 (Builtin.«list.__contains__» ⟨[.ref l, x], []⟩) (FinOf prog w A R) (fun e s' => R (.error e) s') s := by
  have hrec := contains_loopV (A := A) (R := R) P hl fin _ 0 rfl (Nat.zero_le _) s h
  obtain ⟨items, k, hl1, _⟩ := hl 0 s h
  obtain ⟨hp, g, d, tk, os⟩ := s
  wp_walk using wpAny_loadPart' hl1
  exact ⟨plainId_quiet plain_contains_loop _, codeAny_builtin entry_contains_loop (by
    rw [Around.under_plainId plain_contains_loop _]
    exact hrec)⟩
theorem OthV.same {H H' : Hp} {y : V} {T : String} (h : OthV H y T) (s : Same H H') : OthV H' y T := by
  cases h with
  | non => exact .non
  | bl b => exact .bl b
  | int i => exact .int i
  | str z => exact .str z
  | lst e => exact .lst (s _ _ e)
  | tup e => exact .tup (s _ _ e)
  | dK e => exact .dK (s _ _ e)
/-- how an item is found beside x at a -/
def ItemOk (C a : Addr) (sp : Sp) (H : Hp) (z : V) (c : Bool) : Prop :=
  (∃ T, OthV H z T ∧ ∀ H', Same H H' → sp [.ref a, z] H' (fun v H'' => ∃ r, v = .bl r ∧ r = c ∧ Same H' H'') E0) ∨
  (z = .ref a ∧ c = true) ∨
  (∃ b dy gs, z = .ref b ∧ b ≠ a ∧ H b = some (.ins C dy gs) ∧ ∀ H', Same H H' → sp [.ref b, .ref a] H' (fun v H'' => ∃ r, v = .bl r ∧ r = c ∧ Same H' H'') E0)
section
variable {X : Cx} {n : Nat} {f : Addr} {fd : FuncData} {ps : List Str} {sp : Sp} {C : Addr}
theorem eqBool_flatG {prog : Program} {w : World} {A : Around} {E : Value → Shared → Prop} {s : Shared} {v : Value} {a : Addr} {Q : Bool → Shared → Prop} (hne : v ≠ .ref a) (h : wpAny (model prog w) A (richCompare .Eq v (.ref a)) (fun v s' => ∃ r, v = .bool r ∧ Q r s') E s) : wpAny (model prog w) A (eqBool v (.ref a)) Q E s := by
  unfold eqBool
  refine wpAny_holding ?_
  refine wpAny_ite_split (fun hab => absurd (eq_of_beq hab) hne) (fun _ => ?_)
  cases v <;>
  · refine wpAny_bind (wpAny_mono h (fun v s' hv => ?_) fun _ _ x => x)
    obtain ⟨r, rfl, q⟩ := hv
    exact wpAny_truthy_bool q
theorem eq_item {A : Around} {pins : List (Addr × Obj)} {s : Shared} {σ : L2.St} {H H' : Hp} {a dx : Addr} {fs : List (Str × V)} {z : V} {u : Value} {c : Bool} (F : FnOk X.prog X.w X.K X.mg X.base CX0 n f fd ps sp) (hb : Binds X.K fd ps []) (m : Meth X.K C "__eq__" f) (N : NoKind X.K C) (sb : Sub X n A) (I : L2.Inv X pins σ H' s)
    (s0 : Same H H') (ha : H a = some (.ins C dx fs)) (rz : RelV z u) (it : ItemOk C a sp H z c) :
    wpAny (model X.prog X.w) A (eqBool u (.ref a)) (fun b s' => b = c ∧ ∃ H'', L2.Inv X pins σ H'' s' ∧ Same H H'') X.xe s := by
  have ha' := s0 _ _ ha
  rcases it with ⟨T, o, hsp⟩ | ⟨rfl, rfl⟩ | ⟨b, dy, gs, rfl, hne, hb', hsp⟩
  · have hne : u ≠ .ref a := fun e => by
      subst e
      cases o with
      | non => cases rz
      | bl b => cases rz
      | int i => obtain ⟨t, e⟩ := rz; cases e
      | str y => obtain ⟨t, e⟩ := rz; cases e
      | lst e => cases rz; rw [ha] at e; cases e
      | tup e => cases rz; rw [ha] at e; cases e
      | dK e => cases rz; rw [ha] at e; cases e
    refine eqBool_flatG hne (wpAny_mono (rc_eqR F hb m N sb I ha' rz (o.same s0) (Q := fun r H'' => r = c ∧ Same H' H'') (hsp H' s0)) (fun v s' hq => ?_) fun _ _ x => x)
    obtain ⟨r, rfl, H'', I', rfl, s2⟩ := hq
    exact ⟨_, rfl, rfl, H'', I', s0.trans s2⟩
  · cases rz
    exact SeqAt.EqAt.same (A := A) (s := s) (.ref a) X.prog X.w X.xe _ ⟨rfl, H', I, s0⟩
  · cases rz
    refine GQ.eqBool_refG hne (wpAny_mono (rc_eqO F hb m sb I (s0 _ _ hb') ha' (Q := fun r H'' => r = c ∧ Same H' H'') (hsp H' s0)) (fun v s' hq => ?_) fun _ _ x => x)
    obtain ⟨r, rfl, H'', I', rfl, s2⟩ := hq
    exact ⟨_, rfl, rfl, H'', I', s0.trans s2⟩
/-- x in ys -/
def rInG (C : Addr) (sp : Sp) (g : Bool → Bool) : R2 := fun x y H Q => ∃ a dx fs l xs cs, x = V.ref a ∧ y = V.ref l ∧ (H l = some (.lst xs) ∨ H l = some (.tup xs)) ∧ H a = some (.ins C dx fs) ∧ Each (ItemOk C a sp H) xs cs ∧ ∀ H', Same H H' → Q (.bl (g (cs.any id))) H'
theorem Each.at {α β : Type} {R : α → β → Prop} : ∀ {xs : List α} {ys : List β} {i : Nat} (h : Each R xs ys) (hi : i < xs.length), ∃ y, ys[i]? = some y ∧ R xs[i] y
  | _, _, i, .nil, hi => by simp at hi
  | _, _, 0, .cons e r, hi => ⟨_, rfl, e⟩
  | _, _, i + 1, .cons e r, hi => by
    obtain ⟨y, h1, h2⟩ := Each.at (i := i) r (by simpa using hi)
    exact ⟨y, by simpa using h1, by simpa using h2⟩
theorem Vals.at {xs : List V} {us : List Value} {i : Nat} (r : Vals xs us) (hi : i < us.length) : ∃ x, xs[i]? = some x ∧ RelV x us[i] := by
  induction r generalizing i with
  | nil => simp at hi
  | cons e r ih =>
    cases i with
    | zero => exact ⟨_, rfl, e⟩
    | succ i =>
      obtain ⟨x, h1, h2⟩ := ih (i := i) (by simpa using hi)
      exact ⟨x, by simpa using h1, by simpa using h2⟩
theorem op_inG' (F : FnOk X.prog X.w X.K X.mg X.base CX0 n f fd ps sp) (hb : Binds X.K fd ps []) (m : Meth X.K C "__eq__" f) (N : NoKind X.K C) (hr : Room (n + 1) X.A) {g : Bool → Bool} {pins : List (Addr × Obj)} {s : Shared} {σ : L2.St} {H : Hp} {x y : V} {v u : Value} {Q : VK} (I : L2.Inv X pins σ H s) (rx : RelV x v) (ry : RelV y u) (h : rInG C sp g x y H Q) :
    wpAny (model X.prog X.w) X.A (contains u v) (fun b s' => EP X pins σ Q (.bool (g b)) s') X.xe s := by
  obtain ⟨a, dx, fs, l, xs, cs, rfl, rfl, hl, ha, hE, q⟩ := h
  cases rx
  cases ry
  have lc : xs.length = cs.length := hE.length
  -- one item
  have turn : ∀ (its : List Value) (r : Vals xs its) (i : Nat) (hi : i < its.length) (s' : Shared), (∃ H', L2.Inv X pins σ H' s' ∧ Same H H' ∧ (cs.take i).any id = false) → wpAny (model X.prog X.w) X.A.in1 (eqBool its[i] (.ref a)) (fun b s2 => if b = true then (∃ H', L2.Inv X pins σ H' s2 ∧ Same H H' ∧ cs.any id = true) else ∃ H', L2.Inv X pins σ H' s2 ∧ Same H H' ∧ (cs.take (i + 1)).any id = false) X.xe s' := fun its r i hi s' ⟨H', I', s0, ht⟩ => by
    obtain ⟨z, hz, rz⟩ := Vals.at r hi
    obtain ⟨hzl, ez⟩ := List.getElem?_eq_some_iff.mp hz
    obtain ⟨c, hc, it⟩ := Each.at hE hzl
    rw [ez] at it
    refine wpAny_mono (eq_item F hb m N (Sub.in1 ⟨hr, rfl⟩) I' s0 ha rz it) (fun b s2 hq => ?_) fun _ _ e => e
    obtain ⟨rfl, H'', I'', s2'⟩ := hq
    refine ite_b (fun e => ?_) (fun e => ?_)
    · refine ⟨H'', I'', s2', ?_⟩
      rw [List.any_eq_true]
      exact ⟨_, List.mem_of_getElem? hc, e⟩
    · refine ⟨H'', I'', s2', ?_⟩
      rw [List.take_add_one, hc, List.any_append, ht, Bool.false_or]
      simpa using e
  have fin : ∀ (s' : Shared), (∃ H', L2.Inv X pins σ H' s' ∧ Same H H' ∧ (cs.take xs.length).any id = false) → EP X pins σ Q (.bool (g false)) s' := fun s' ⟨H', I', s0, ht⟩ => by
    rw [lc, List.take_length] at ht
    have := q H' s0
    rw [ht] at this
    exact ⟨.bl (g false), H', I', rfl, this⟩
  have good : ∀ (s' : Shared), (∃ H', L2.Inv X pins σ H' s' ∧ Same H H' ∧ cs.any id = true) → EP X pins σ Q (.bool (g true)) s' := fun s' ⟨H', I', s0, ht⟩ => by
    have := q H' s0
    rw [ht] at this
    exact ⟨.bl (g true), H', I', rfl, this⟩
  rcases hl with hl | hl
  · obtain ⟨z, its, k, r, ho⟩ := I.hok l _ hl
    have ri : its.length = xs.length := r.length.symm
    refine wpAny_contains_slot ⟨_, ho, rfl⟩ PySem.F.slot_list_contains (wpAny_mono (GQ.call_here PySem.F.slot_list_contains ⟨_, ho, rfl⟩ PySem.F.entry_list_contains (PySem.F.args_list_contains_2 _ _)
      (containsV (R := wants (fun v s' => ∃ c, v = .bool c ∧ EP X pins σ Q (.bool (g c)) s') X.xe) (N := xs.length) (fun i s' => ∃ H', L2.Inv X pins σ H' s' ∧ Same H H' ∧ (cs.take i).any id = false) (fun i s' h => ?_) (fun s' h => ?_) ⟨H, I, Same.refl H, rfl⟩)) (fun v s' hv => ?_) fun _ _ e => e)
    · obtain ⟨H', I', s0, h3⟩ := id h
      obtain ⟨z', its', k', r', ho'⟩ := I'.hok l _ (s0 _ _ hl)
      refine ⟨its'.toArray, k', ho', by simpa using r'.length.symm, fun hi => ?_⟩
      have hi' : i < its'.length := by simpa using hi
      have t := turn its' r' i hi' s' h
      have e : its'.toArray[i] = its'[i] := by simp
      rw [e]
      refine wpAny_mono t (fun b s2 hq => ?_) fun _ _ e => e
      cases b with
      | true =>
        rw [if_pos rfl] at hq ⊢
        exact ⟨_, rfl, good _ hq⟩
      | false =>
        rw [if_neg (by decide)] at hq ⊢
        exact hq
    · exact ⟨_, rfl, fin _ h⟩
    · obtain ⟨c, rfl, q⟩ := hv
      exact wpAny_truthy_bool q
  · obtain ⟨its, r, ⟨⟨cls, dd, data, sl⟩, ho, hc, n', hd⟩, _⟩ := I.tuple (.inl (.inl hl))
    simp only at hc hd
    subst hc hd
    have ri : its.length = xs.length := r.length.symm
    refine wpAny_contains_slot ⟨_, ho, rfl⟩ PySem.F.slot_tuple_contains (wpAny_mono (GQ.call_here PySem.F.slot_tuple_contains ⟨_, ho, rfl⟩ PySem.F.entry_tuple_contains (PySem.F.args_tuple_contains_2 _ _)
      (containsT (R := wants (fun v s' => ∃ c, v = .bool c ∧ EP X pins σ Q (.bool (g c)) s') X.xe) (items := its.toArray) (fun i s' => ∃ H', L2.Inv X pins σ H' s' ∧ Same H H' ∧ (cs.take i).any id = false) (fun i hi s' h => ?_) (fun s' h => ?_) ho ⟨H, I, Same.refl H, rfl⟩)) (fun v s' hv => ?_) fun _ _ e => e)
    · have hi' : i < its.length := by simpa using hi
      have t := turn its r i hi' s' h
      have e : its.toArray[i] = its[i] := by simp
      rw [e]
      refine wpAny_mono t (fun b s2 hq => ?_) fun _ _ e => e
      cases b with
      | true =>
        rw [if_pos rfl] at hq ⊢
        exact ⟨_, rfl, good _ hq⟩
      | false =>
        rw [if_neg (by decide)] at hq ⊢
        exact hq
    · have e : its.toArray.size = xs.length := by simpa using ri
      rw [e] at h
      exact ⟨_, rfl, fin _ h⟩
    · obtain ⟨c, rfl, q⟩ := hv
      exact wpAny_truthy_bool q
theorem op_inG (F : FnOk X.prog X.w X.K X.mg X.base CX0 n f fd ps sp) (hb : Binds X.K fd ps []) (m : Meth X.K C "__eq__" f) (N : NoKind X.K C) (hr : Room (n + 1) X.A) : OpR X (compareOp .In) (rInG C sp id) := by
  intro pins s σ H x y v u Q I rx ry h
  show wpAny _ X.A (do return Value.bool (← contains u v)) _ _ s
  exact wpAny_bind (wpAny_mono (op_inG' F hb m N hr I rx ry h) (fun b s' q => wpAny_pure q) fun _ _ z => z)
end
end Wl

/-! bool(x), x of an own class with a __len__ of its own -/
namespace Wl
open PySem PySem.Spec PyProof.Rows L2
section
variable {prog : Program} {w : World} {A : Around} {E : Value → Shared → Prop} {s : Shared} {K : PySem.W.Frag} {x C f : Addr} {ox : Obj} {od : Option Obj}
theorem truthy_len {Q : Bool → Shared → Prop} (X : K.In s.heap) (I : PySem.W.InstAt s.heap x ox C od) (hb : PySem.W.findIn K (.ref C) "__bool__" = some none) (hs : PySem.W.findIn K (.ref C) "__len__" = some (some (.ref f))) (hf : PySem.W.isFn K (.ref f) = true)
    (h : wpAny (model prog w) A.in1 (call (.ref f) [.ref x]) (fun r s' => ∃ (n : Nat) (t : Tok), r = .int (n : Int) t ∧ n < 2 ^ 62 ∧ ∀ k, Q (n != 0) { s' with toks := k }) E s) : wpAny (model prog w) A (truthy (.ref x)) Q E s := by
  unfold truthy
  refine wpAny_bind (m := callSpecial? (.ref x) (Str.ofString "__bool__")) (wpAny_bind (wpAny_bind (I.type.here ((PySem.W.looks_findIn X hb).here (wpAny_pure ?_)))))
  refine wpAny_bind (wpAny_bind (I.type.here ((PySem.W.looks_findIn X hs).here ?_)))
  show wpAny _ _ (if (some (Value.ref f)).isNone = true then _ else _) _ _ _
  rw [if_neg (by simp)]
  refine wpAny_bind (m := runValue (.builtin "len" ⟨[.ref x], []⟩)) (wpAny_runValue (codeAny_builtin entry_len ?_))
  rw [Around.under_plainId plain_len _]
  unfold Builtin.«len»
  refine wpAny_bind (m := oneArg "len" _) (wpAny_pure ?_)
  refine wpAny_bind (m := callSpecial? (.ref x) (Str.ofString "__len__")) (PySem.W.special_fn X I hs (beq_iff_eq.mp hf) (wpAny_mono h (fun r s' hr => ?_) fun _ _ y => y))
  obtain ⟨n, t, rfl, hn, q⟩ := hr
  refine wpAny_bind (wpAny_holding (wpAny_pure ?_))
  refine wpAny_bind (wpAny_letGo ?_)
  show wpAny _ _ (if (n : Int) < 0 then _ else _) _ _ _
  rw [if_neg (by omega)]
  show wpAny _ _ (if (n : Int) ≥ 2 ^ 63 then _ else _) _ _ _
  rw [if_neg (by omega)]
  refine wpAny_bind (wpAny_mkInt (wpAny_pure ?_))
  refine wpAny_pure ?_
  have e : (((n : Int)) != 0) = (n != 0) := by
    cases n with
    | zero => rfl
    | succ k => simp; omega
  rw [e]
  exact q _
open PySem.Sem (wp) in
theorem bool_new : MeetsIn prog w (Builtin.«bool.__new__» ⟨[.type "bool", .ref x], []⟩) (fun A R s => wpAny (model prog w) A.in1 (truthy (.ref x)) (fun b s' => R (.ok (.ret (.bool b))) s') (fun e s' => R (.error e) s') s) := fun A R s h => by
  have f1 := F.conv_sub_bool
  unfold Builtin.«bool.__new__»
  refine wpAny_bind (wpAny_pure ?_)
  refine wpAny_bind (m := isSubtype (.type "bool") (.type "bool")) ?_
  rw [f1]
  refine wpAny_pure ?_
  refine wpAny_bind (m := someArgs "bool" 0 1 _) (wpAny_pure ?_)
  exact wpAny_bind (wpAny_mono h (fun b s' q => wpAny_pure q) fun _ _ e => e)
end
section
variable {X : Cx} {n : Nat} {f : Addr} {fd : FuncData} {ps : List Str} {sp : Sp} {C : Addr}
/-- bool(o) -/
def rBoolO (C : Addr) (sp : Sp) : List V → Hp → VK → Prop := fun xs H Q => ∃ a dx fs, xs = [V.ref a] ∧ H a = some (.ins C dx fs) ∧ sp [.ref a] H (fun v H' => ∃ k : Nat, v = .int (k : Int) ∧ k < 2 ^ 62 ∧ Q (.bl (k != 0)) H') E0
theorem cr_boolO (F : FnOk X.prog X.w X.K X.mg X.base CX0 n f fd ps sp) (hb : Binds X.K fd ps []) (m : Meth X.K C "__len__" f) (nb : PySem.W.findIn X.K (.ref C) "__bool__" = some none) (hr : Room (n + 3) X.A) : CallR X (.type "bool") (rBoolO C sp) := by
  intro pins s σ H xs us Q I r h
  obtain ⟨a, dx, fs, rfl, ha, hsp⟩ := h
  obtain ⟨u, rfl, ru⟩ := vals1 r
  obtain rfl : u = Value.ref a := ru
  obtain ⟨mA, J, _⟩ := ins_get I.hok ha
  obtain ⟨od, J, _⟩ := J.look
  refine callType_newIn PySem.F.called_bool PySem.F.newNe_bool (PySem.F.typeCall_bool_1 _) (PySem.F.newCall_bool_1 _) (fun obj => PySem.F.args_object_init_2 obj _) PySem.F.entry_bool_new bool_new ?_
  refine truthy_len I.kIn J nb m.at_ m.fn (wpAny_mono (run_own F hb (Sub.in1 (Sub.in1 (Sub.in1 ⟨hr, rfl⟩))) I (v1 a) hsp) (fun v s' hq => ?_) fun _ _ z => z)
  obtain ⟨z, H', I', rz, k, rfl, hk, q⟩ := hq
  obtain ⟨t, rfl⟩ := rz
  exact ⟨k, t, rfl, hk, fun tk => ⟨rfl, .bl (k != 0), H', I'.tok _, rfl, q⟩⟩
end
end Wl

namespace Wl
open PySem PySem.Spec PyProof.Rows L2
/-- one promise or another -/
def spOr (a b : Sp) : Sp := fun vs H Q E => a vs H Q E ∨ b vs H Q E
theorem FnOk.or2 {P : Program} {w : World} {K : PySem.W.Frag} {mg : Str → Option Value} {base : Heap} {CX : CXT} {k : Nat} {f : Addr} {fd : FuncData} {ps : List Str} {sp sp' : Sp} (F : FnOk P w K mg base CX k f fd ps sp) (F' : FnOk P w K mg base CX k f fd ps sp') : FnOk P w K mg base CX k f fd ps (spOr sp sp') :=
  ⟨fun vs H Q E h => h.elim (F.len vs H Q E) (F'.len vs H Q E), fun A outer s H args us vs Q E hr he hb hv hs => hs.elim (F.run A outer s H args us vs Q E hr he hb hv) (F'.run A outer s H args us vs Q E hr he hb hv)⟩
abbrev sGEq : Stmt := inClass (topS 52) 10
abbrev sMEq : Stmt := inClass (topS 58) 7
/-- things of built-in kinds are no objects of the class -/
structure KitNo (K : PySem.W.Frag) (C : Addr) : Prop where
  non : PySem.W.kitOne K (.type "NoneType") (.ref C) = some false
  bl : PySem.W.kitOne K (.type "bool") (.ref C) = some false
  int : PySem.W.kitOne K (.type "int") (.ref C) = some false
  str : PySem.W.kitOne K (.type "str") (.ref C) = some false
  lst : PySem.W.kitOne K (.type "list") (.ref C) = some false
  tup : PySem.W.kitOne K (.type "tuple") (.ref C) = some false
  dK : PySem.W.kitOne K (.type "dict") (.ref C) = some false
theorem KitNo.at {K : PySem.W.Frag} {C : Addr} {H : Hp} {y : V} {T : String} (k : KitNo K C) (o : OthV H y T) : PySem.W.kitOne K (.type T) (.ref C) = some false := by
  cases o with
  | non => exact k.non
  | bl b => exact k.bl
  | int i => exact k.int
  | str z => exact k.str
  | lst e => exact k.lst
  | tup e => exact k.tup
  | dK e => exact k.dK
section
variable {P : Program} {w : World} {K : PySem.W.Frag} {mg : Str → Option Value} {base : Heap} {f C D W : Addr} {fd : FuncData}
/-- == of a thing that is none of the class -/
def spEqX (K : PySem.W.Frag) (C : Addr) : Sp := fun vs H Q _ => ∃ (p : Addr) (y : V) (t : Value), vs = [.ref p, y] ∧ TyX K H y t ∧ PySem.W.kitOne K t (.ref C) = some false ∧ Q (.bl false) H
theorem ok_leqx (F : Fun K "__eq__" "Land.__eq__" sEq f fd) (B : Bi mg) (T : Txt2 K mg C) : FnOk P w K mg base CX0 1 f fd ["self", "other"] (spEqX K C) := by
  refine F.ok scEq (fun vs H Q E h => ?_) (fun cdv A outer s H vs Q E hr h => ?_)
  · obtain ⟨p, y, t, rfl, _⟩ := h
    rfl
  · obtain ⟨p, y, t, rfl, ty, k, q⟩ := h
    refine ⟨_, pss_one (ps_ret (pe_and (pe_callB call_isi (by rfl) B.isi (by decide +kernel) (pa_cons (pv 1) (pa_cons (pe_glob (v := .ref C) rfl T.t.mgC rfl) pa_nil))) (pe_one (pe_cmpR (op_eqD hr.units) (pe_fld (pv 0) rfl) (pe_fld (pv 1) rfl) (nomark _))))), ?_⟩
    exact ⟨_, rfl, _, _, _, _, _, rfl, .own C, ty, k, false, rfl, iteF q⟩
theorem scGEq : FnScope ["self", "other"] ["self", "other"] (defScope sGEq) := ⟨rfl, rfl, rfl, by decide +kernel, rfl, by decide +kernel, by decide +kernel⟩
theorem ok_geqx (F : Fun K "__eq__" "Gathering.__eq__" sGEq f fd) (B : Bi mg) (T : TxtG K mg D) : FnOk P w K mg base CX0 1 f fd ["self", "other"] (spEqX K D) := by
  refine F.ok scGEq (fun vs H Q E h => ?_) (fun cdv A outer s H vs Q E hr h => ?_)
  · obtain ⟨p, y, t, rfl, _⟩ := h
    rfl
  · obtain ⟨p, y, t, rfl, ty, k, q⟩ := h
    refine ⟨_, pss_one (ps_ret (pe_and (pe_callB call_isi (by rfl) B.isi (by decide +kernel) (pa_cons (pv 1) (pa_cons (pe_glob (v := .ref D) rfl T.mgD rfl) pa_nil))) (pe_and (pe_cmpR (op_eqD hr.units) (pe_fld (pv 0) rfl) (pe_fld (pv 1) rfl) (nomark _)) (pe_one (pe_cmpR (op_eqD hr.units) (pe_callB (cr_sortD hr.units) (by rfl) B.sorted (by decide +kernel) (pa_cons (pe_fld (pv 0) rfl) pa_nil)) (pe_callB (cr_sortD hr.units) (by rfl) B.sorted (by decide +kernel) (pa_cons (pe_fld (pv 1) rfl) pa_nil)) (nomark _)))))), ?_⟩
    exact ⟨_, rfl, _, _, _, _, _, rfl, .own D, ty, k, false, rfl, iteF q⟩
theorem scMEq : FnScope ["self", "other"] ["self", "other"] (defScope sMEq) := ⟨rfl, rfl, rfl, by decide +kernel, rfl, by decide +kernel, by decide +kernel⟩
theorem ok_meqx (F : Fun K "__eq__" "WordMap.__eq__" sMEq f fd) (B : Bi mg) (T : TxtM K mg W) : FnOk P w K mg base CX0 1 f fd ["self", "other"] (spEqX K W) := by
  refine F.ok scMEq (fun vs H Q E h => ?_) (fun cdv A outer s H vs Q E hr h => ?_)
  · obtain ⟨p, y, t, rfl, _⟩ := h
    rfl
  · obtain ⟨p, y, t, rfl, ty, k, q⟩ := h
    refine ⟨_, pss_one (ps_ret (pe_and (pe_callB call_isi (by rfl) B.isi (by decide +kernel) (pa_cons (pv 1) (pa_cons (pe_glob (v := .ref W) rfl T.mgW rfl) pa_nil))) (pe_and (pe_cmpR (op_eqD hr.units) (pe_fld (pv 0) rfl) (pe_fld (pv 1) rfl) (nomark _)) (pe_one (pe_cmpR (op_eqD hr.units) (pe_fld (pv 0) rfl) (pe_fld (pv 1) rfl) (nomark _)))))), ?_⟩
    exact ⟨_, rfl, _, _, _, _, _, rfl, .own W, ty, k, false, rfl, iteF q⟩
end
end Wl

namespace Wl
open PySem PySem.Spec PyProof.Rows L2
abbrev sOtherR : Stmt := topS 68
abbrev sText : Stmt := topS 69
abbrev sIs : Stmt := topS 70
abbrev sTwoR : Stmt := topS 71
abbrev sShownR : Stmt := topS 72
abbrev sOthersR : Stmt := topS 73
abbrev sLaw : Stmt := topS 74
theorem rows_true : ∀ {xs zs : List V}, Each (fun (x z : V) => z = V.bl true) xs zs → zs = (xs.map fun _ => true).map V.bl
  | [], [], _ => rfl
  | [], _ :: _, h => nomatch h
  | _ :: _, [], h => nomatch h
  | x :: xs, z :: zs, .cons e t => by
    rw [e, rows_true t]
    rfl
theorem all_true {α : Type} (xs : List α) : ((xs.map fun _ => true).all id) = true := by
  rw [List.all_map]
  simp
section
variable {P : Program} {w : World} {K : PySem.W.Frag} {mg : Str → Option Value} {base : Heap} {f C D W : Addr} {fd : FuncData}
/-! ### is it due -/
def spIs : Sp := fun vs H Q _ => ∃ (b c : Bool), vs = [.bl b, .bl c] ∧ Q (.bl (decide (b = c))) H
theorem scIs : FnScope ["_law_told", "_law_due"] ["_law_told", "_law_due"] (defScope sIs) := ⟨rfl, rfl, rfl, by decide +kernel, rfl, by decide +kernel, by decide +kernel⟩
theorem ok_is (F : Fun K "_law_is" "_law_is" sIs f fd) (B : Bi mg) (B2 : Bg mg) : FnOk P w K mg base CX0 1 f fd ["_law_told", "_law_due"] spIs := by
  refine F.ok scIs (fun vs H Q E h => ?_) (fun cdv A outer s H vs Q E hr h => ?_)
  · obtain ⟨b, c, rfl, _⟩ := h
    rfl
  · obtain ⟨b, c, rfl, q⟩ := h
    refine ⟨_, pss_one (ps_ret (pe_and (pe_callB call_isi (by rfl) B.isi (by decide +kernel) (pa_cons (pv 0) (pa_cons (pe_bltn (v := .ty "bool") (by rfl) B2.bool (by decide +kernel) rfl) pa_nil))) (pe_one (pe_cmpR op_eq (pv 0) (pv 1) (nomark _))))), ?_⟩
    refine ⟨_, rfl, _, _, _, _, _, rfl, .ty "bool", .base (.bl b), kit_ty (r := true) (by decide +kernel), true, rfl, iteT ?_⟩
    refine ⟨_, rfl, _, rfl, rfl, ?_⟩
    have e : decide (V.bl b = V.bl c) = decide (b = c) := by
      rw [Bool.eq_iff_iff, decide_eq_true_eq, decide_eq_true_eq, V.bl.injEq]
    rw [e]
    exact q
/-! ### two Lands -/
def spTwo (C : Addr) : Sp := fun vs H Q _ => ∃ (p L q M : Addr) (g g' : Grid) (wd wd' : Nat), vs = [.ref p, .ref q, .bl (decide (g = g'))] ∧ LandAt C H p L g ∧ Good g wd ∧ LandAt C H q M g' ∧ Good g' wd' ∧ p ≠ q ∧ ∀ (H' : Hp), Same H H' → Q (.bl true) H'
abbrev psTwo : List Str := ["_law_one", "_law_second", "_law_alike"]
abbrev nTwo : List Str := ["_law_one", "_law_second", "_law_alike", "_law_told", "_law_answer"]
theorem scTwo : FnScope nTwo psTwo (defScope sTwoR) := ⟨rfl, rfl, rfl, by decide +kernel, rfl, by decide +kernel, by decide +kernel⟩
abbrev spLE (K : PySem.W.Frag) (C : Addr) : Sp := spOr (spLEq C) (spEqX K C)
theorem le_land {C : Addr} {H : Hp} {p L q M : Addr} {g g' : Grid} {wd wd' : Nat} {Q : VK} {E : XK} (h1 : LandAt C H p L g) (gd : Good g wd) (h2 : LandAt C H q M g') (gd' : Good g' wd') (h : Q (.bl (decide (g = g'))) H) : spLE K C [.ref p, .ref q] H Q E := .inl ⟨p, L, q, M, g, g', wd, wd', rfl, h1, gd, h2, gd', h⟩
theorem item_land {C : Addr} {H : Hp} {p L q M : Addr} {g g' : Grid} {wd wd' : Nat} (h1 : LandAt C H p L g) (gd : Good g wd) (h2 : LandAt C H q M g') (gd' : Good g' wd') (hne : q ≠ p) : ItemOk C p (spLE K C) H (.ref q) (decide (g' = g)) := by
  obtain ⟨dy, e, i2⟩ := h2.ins
  exact .inr (.inr ⟨q, dy, _, rfl, hne, i2, fun H' s => le_land (h2.same s) gd' (h1.same s) gd ⟨_, rfl, rfl, Same.refl H'⟩⟩)
theorem item_oth {C a : Addr} {H : Hp} {y : V} {T : String} (k : KitNo K C) (o : OthV H y T) : ItemOk C a (spLE K C) H y false :=
  .inl ⟨T, o, fun H' s => .inr ⟨a, y, _, rfl, (o.same s).ty, k.at o, _, rfl, rfl, Same.refl H'⟩⟩
theorem ok_two (F : Fun K "_law_two_right" "_law_two_right" sTwoR f fd) (B : Bi mg) (T : Txt2 K mg C) (N : NoKind K C) (kn : KitNo K C) (hIs : Has P w K mg base "_law_is" 1 ["_law_told", "_law_due"] spIs) (hE : HasM P w K mg base C "__eq__" 1 ["self", "other"] (spLE K C)) : FnOk P w K mg base CX0 4 f fd psTwo (spTwo C) := by
  obtain ⟨fE, fdE, FE, mE, bE⟩ := hE
  refine F.ok scTwo (fun vs H Q E h => ?_) (fun cdv A outer s H vs Q E hr h => ?_)
  · obtain ⟨p, L, q, M, g, g', wd, wd', rfl, _⟩ := h
    rfl
  · obtain ⟨p, L, q, M, g, g', wd, wd', rfl, h1, gd, h2, gd', hne, qq⟩ := h
    refine ⟨_, pss_cons (ps_set (i := 3) scTwo.nd rfl (.inl rfl) (pe_lst (pa_cons (pe_cmpR (op_eqO FE bE mE (hr.mono (by decide))) (pv 0) (pv 1) (nomark _)) (pa_cons (pe_cmpR (op_eqO FE bE mE (hr.mono (by decide))) (pv 1) (pv 0) (nomark _)) (pa_cons (pe_not (pe_cmpR (op_neO FE bE mE T.ne (hr.mono (by decide))) (pv 0) (pv 1) (nomark _))) (pa_cons (pe_cmpR (op_inG FE bE mE N (hr.mono (by decide))) (pv 0) (pe_lst (pa_cons (pv 1) pa_nil)) (by rfl)) (pa_cons (pe_cmpR (op_inG FE bE mE N (hr.mono (by decide))) (pv 1) (pe_tup (pa_cons pe_non (pa_cons (pv 0) pa_nil))) (by rfl)) pa_nil)))))))
      (pss_one (ps_ret (pe_callB (cr_all rfl) (by rfl) B.all (by decide +kernel) (pa_cons (pe_lc (own := [("_law_answer", 4)]) (g := gName 4) (tt := tYes) (te := tCall spIs [] E0 (tCons (tVar 4) (tCons (tVar 2) tNil))) rfl scTwo.nd (pi_list (pv 3)) (blkOk_by (N := nTwo) (sc := defScope sTwoR) (by decide +kernel))
        (fun _ _ _ _ _ => pg_name (i := 4) scTwo.nd rfl (.inl rfl)) (fun _ _ _ _ _ => pts_nil) (fun _ _ _ _ _ => pe_h hIs hr (pa_cons (pv 4) (pa_cons (pv 2) pa_nil)))) pa_nil)))), ?_⟩
    have ec : decide (g' = g) = decide (g = g') := by
      rw [Bool.eq_iff_iff, decide_eq_true_eq, decide_eq_true_eq]
      exact eq_comm
    obtain ⟨dx, d, i1⟩ := h1.ins
    obtain ⟨dy, e, i2⟩ := h2.ins
    refine ⟨_, rfl, _, rfl, p, dx, _, q, dy, _, rfl, rfl, i1, i2, le_land h1 gd h2 gd' ⟨_, rfl, ?_⟩⟩
    refine ⟨_, rfl, _, rfl, q, dy, _, p, dx, _, rfl, rfl, i2, i1, le_land h2 gd' h1 gd ⟨_, rfl, ?_⟩⟩
    refine ⟨_, rfl, _, rfl, p, dx, _, q, dy, _, rfl, rfl, i1, i2, le_land h1 gd h2 gd' ⟨_, rfl, _, rfl, ?_⟩⟩
    refine ⟨_, rfl, _, rfl, lz, fun l1 hl1 => ?_⟩
    have s1 := same_new (o := .lst [V.ref q]) hl1
    have hl1' : upd H l1 (.lst [V.ref q]) l1 = some (.lst [V.ref q]) := upd_same
    generalize upd H l1 (.lst [V.ref q]) = H1 at s1 hl1' ⊢
    refine ⟨p, dx, _, l1, _, [decide (g' = g)], rfl, rfl, .inl hl1', s1 _ _ i1, .cons (item_land (h1.same s1) gd (h2.same s1) gd' hne.symm) .nil, fun H2 s2 => ?_⟩
    have s02 := s1.trans s2
    refine ⟨_, rfl, _, rfl, lz, fun t1 ht1 => ?_⟩
    have s3 := same_new (o := .tup [V.non, V.ref p]) ht1
    have ht1' : upd H2 t1 (.tup [V.non, V.ref p]) t1 = some (.tup [V.non, V.ref p]) := upd_same
    generalize upd H2 t1 (.tup [V.non, V.ref p]) = H3 at s3 ht1' ⊢
    have s03 := s02.trans s3
    refine ⟨q, dy, _, t1, _, [false, decide (g = g')], rfl, rfl, .inr ht1', s03 _ _ i2, .cons (item_oth kn .non) (.cons (item_land (h2.same s03) gd' (h1.same s03) gd hne) .nil), fun H4 s4 => ⟨lz, fun Tl hTl => ?_⟩⟩
    have s04 := s03.trans s4
    have s45 := same_new (o := .lst [V.bl (id (decide (g = g'))), V.bl (id (decide (g' = g))), V.bl (!(not (decide (g = g')))), V.bl (id ([decide (g' = g)].any id)), V.bl (id ([false, decide (g = g')].any id))]) hTl
    have hTl' : upd H4 Tl (.lst [V.bl (id (decide (g = g'))), V.bl (id (decide (g' = g))), V.bl (!(not (decide (g = g')))), V.bl (id ([decide (g' = g)].any id)), V.bl (id ([false, decide (g = g')].any id))]) Tl = some (.lst [V.bl (id (decide (g = g'))), V.bl (id (decide (g' = g))), V.bl (!(not (decide (g = g')))), V.bl (id ([decide (g' = g)].any id)), V.bl (id ([false, decide (g = g')].any id))]) := upd_same
    refine ⟨_, rfl, Tl, rfl, ⟨_, .inl (.inl hTl')⟩, fun Dd hD => ?_⟩
    refine lc_rel (walk_list (K := K) (a := Tl) (xs := [V.bl (id (decide (g = g'))), V.bl (id (decide (g' = g))), V.bl (!(not (decide (g = g')))), V.bl (id ([decide (g' = g)].any id)), V.bl (id ([false, decide (g = g')].any id))])) hD (fun _ => true) (fun x y _ => y = .bl true) (fun H' s' => .inl (.inl (s' _ _ hTl'))) (fun _ => rfl) (fun x H' _ _ Q' q' => q') ?_ (fun _ _ _ _ _ _ _ r => r) lz ?_
    · intro x H' hx _ s' Q' q'
      obtain ⟨b, rfl, hb⟩ : ∃ b : Bool, x = .bl b ∧ b = decide (g = g') := by
        simp only [List.mem_cons, List.not_mem_nil, or_false] at hx
        rcases hx with rfl | rfl | rfl | rfl | rfl
        · exact ⟨_, rfl, rfl⟩
        · exact ⟨_, rfl, ec⟩
        · exact ⟨_, rfl, by simp⟩
        · exact ⟨_, rfl, by simp [ec]⟩
        · exact ⟨_, rfl, by simp⟩
      exact ⟨_, rfl, _, rfl, b, _, rfl, q' _ H' (Same.refl H') (by rw [hb]; simp)⟩
    · intro zs H8 s8 hD8 he
      rw [List.filter_eq_self.mpr fun _ _ => rfl] at he
      have ez := rows_true he
      subst ez
      refine ⟨Dd, _, rfl, .inl (.inl hD8), ?_⟩
      rw [all_true]
      exact qq H8 ((s04.trans s45).trans s8)
end
end Wl

namespace Wl
open PySem PySem.Spec PyProof.Rows L2
section
variable {P : Program} {w : World} {K : PySem.W.Frag} {mg : Str → Option Value} {base : Heap} {f C D W : Addr} {fd : FuncData}
def HasI (P : Program) (w : World) (K : PySem.W.Frag) (mg : Str → Option Value) (base : Heap) (C : Addr) : Prop :=
  ∃ f fd, Mk K C f ∧ FnOk P w K mg base CX0 4 f fd ["self", "rows"] (spInit C) ∧ Binds K fd ["self", "rows"] []
def HasG (P : Program) (w : World) (K : PySem.W.Frag) (mg : Str → Option Value) (base : Heap) (C D : Addr) : Prop :=
  ∃ f fd, Mk K D f ∧ FnOk P w K mg base CX0 1 f fd ["self", "land"] (spGInit C D) ∧ Binds K fd ["self", "land"] []
def HasW (P : Program) (w : World) (K : PySem.W.Frag) (mg : Str → Option Value) (base : Heap) (C D W : Addr) : Prop := ∃ f fd, Mk K W f ∧ FnOk P w K mg base CX0 8 f fd psMI (spMI C D W) ∧ FunI K f fd
theorem mi_b3 (F : FunI K f fd) : ∃ ds, Vals [V.non, V.int 0, V.int 120] ds ∧ Binds K fd psMI ds :=
  F.binds1 (ps := psMI) 3 0 (by simp) rfl (fun T kV doc pm an cdv ct us its l1 l2 => by
      match us, its, l1, l2 with
      | [_, _, _], [_, _, _], _, _ => exact ⟨_, rfl, rfl⟩)
/-- two classes, neither a kind of the other -/
structure Apart2 (K : PySem.W.Frag) (C D : Addr) : Prop where
  s1 : PySem.W.notFirst K C (.ref D) = true
  s2 : PySem.W.notFirst K D (.ref C) = true
  k1 : PySem.W.kitOne K (.ref D) (.ref C) = some false
  k2 : PySem.W.kitOne K (.ref C) (.ref D) = some false
theorem ins_ty {H : Hp} {a dx : Addr} {fs : List (Str × V)} (c : C8.InsC K C) (h : H a = some (.ins C dx fs)) : TyX K H (.ref a) (.ref C) := .base (.ins h c.cl c.ha c.hn c.htk c.hm)
/-- what stands beside a Land here -/
def Kd (D W : Addr) (H : Hp) (x : V) : Prop := (∃ T, OthV H x T) ∨ (∃ a dx fs, x = .ref a ∧ H a = some (.ins D dx fs)) ∨ (∃ a dx fs, x = .ref a ∧ H a = some (.ins W dx fs))
theorem Kd.same {H H' : Hp} {x : V} (h : Kd D W H x) (s : Same H H') : Kd D W H' x := by
  rcases h with ⟨T, o⟩ | ⟨a, dx, fs, e, h⟩ | ⟨a, dx, fs, e, h⟩
  · exact .inl ⟨T, o.same s⟩
  · exact .inr (.inl ⟨a, dx, fs, e, s _ _ h⟩)
  · exact .inr (.inr ⟨a, dx, fs, e, s _ _ h⟩)
theorem kd_ty {H : Hp} {x : V} (kn : KitNo K C) (ad : Apart2 K C D) (aw : Apart2 K C W) (insD : C8.InsC K D) (insW : C8.InsC K W) (h : Kd D W H x) : ∃ t, TyX K H x t ∧ PySem.W.notFirst K C t = true ∧ PySem.W.kitOne K t (.ref C) = some false := by
  rcases h with ⟨T, o⟩ | ⟨a, dx, fs, rfl, h⟩ | ⟨a, dx, fs, rfl, h⟩
  · exact ⟨_, o.ty, o.notFirst, kn.at o⟩
  · exact ⟨_, ins_ty insD h, ad.s1, ad.k1⟩
  · exact ⟨_, ins_ty insW h, aw.s1, aw.k1⟩
theorem kd_back {H : Hp} {x : V} {p dx : Addr} {fs : List (Str × V)} {Q : VK} (kn : KitNo K C) (ad : Apart2 K C D) (aw : Apart2 K C W) (insC : C8.InsC K C) (hp : H p = some (.ins C dx fs)) (h : Kd D W H x) (q : Q (.bl false) H) : rEqR C (spLE K C) x (.ref p) H Q ∨ (rEqT K D (spEqX K D) id x (.ref p) H Q ∨ rEqT K W (spEqX K W) id x (.ref p) H Q) := by
  rcases h with ⟨T, o⟩ | ⟨a, dy, gs, rfl, h⟩ | ⟨a, dy, gs, rfl, h⟩
  · exact .inl ⟨p, dx, _, T, rfl, hp, o, .inr ⟨p, x, _, rfl, o.ty, kn.at o, false, rfl, q⟩⟩
  · exact .inr (.inl ⟨a, dy, _, _, rfl, h, ins_ty insC hp, ad.s2, a, _, _, rfl, ins_ty insC hp, ad.k2, false, rfl, q⟩)
  · exact .inr (.inr ⟨a, dy, _, _, rfl, h, ins_ty insC hp, aw.s2, a, _, _, rfl, ins_ty insC hp, aw.k2, false, rfl, q⟩)
theorem items_oth {a : Addr} {H : Hp} (kn : KitNo K C) : ∀ {xs : List V}, (∀ x ∈ xs, ∃ T, OthV H x T) → Each (ItemOk C a (spLE K C) H) xs (xs.map fun _ => false)
  | [], _ => .nil
  | x :: xs, h => by
    obtain ⟨T, o⟩ := h x List.mem_cons_self
    exact .cons (item_oth kn o) (items_oth kn fun y hy => h y (List.mem_cons_of_mem _ hy))
theorem any_false {α : Type} (xs : List α) : (xs.map fun _ => false).any id = false := by
  rw [List.any_map]
  simp
def spOthers (C : Addr) : Sp := fun vs H Q _ => ∃ (p L : Addr) (g : Grid) (wd : Nat), vs = [.ref p, .ref L] ∧ LandAt C H p L g ∧ Good g wd ∧ ∀ (H' : Hp), Same H H' → Q (.bl true) H'
abbrev psOthers : List Str := ["_law_country", "_law_laid"]
abbrev nOthers : List Str := ["_law_country", "_law_laid", "_law_held", "_law_some", "_law_one"]
theorem scOthers : FnScope nOthers psOthers (defScope sOthersR) := ⟨rfl, rfl, rfl, by decide +kernel, rfl, by decide +kernel, by decide +kernel⟩
theorem ok_others (F : Fun K "_law_others_right" "_law_others_right" sOthersR f fd) (B : Bi mg) (hlist : mg "list" = none) (hrep : mg "repr" = none) (T : Txt2 K mg C) (TG : TxtG K mg D) (TM : TxtM K mg W) (insD : C8.InsC K D) (insW : C8.InsC K W) (N : NoKind K C) (kn : KitNo K C) (ad : Apart2 K C D) (aw : Apart2 K C W) (hIs : Has P w K mg base "_law_is" 1 ["_law_told", "_law_due"] spIs) (hE : HasM P w K mg base C "__eq__" 1 ["self", "other"] (spLE K C))
    (hGE : HasM P w K mg base D "__eq__" 1 ["self", "other"] (spEqX K D)) (hME : HasM P w K mg base W "__eq__" 1 ["self", "other"] (spEqX K W)) (hS : HasM P w K mg base C "__str__" 1 ["self"] (spLStr C)) (hR : HasM P w K mg base C "__repr__" 1 ["self"] (spLRepr C)) (hL : HasM P w K mg base C "__len__" 1 ["self"] (spLLen C))
    (hI : HasI P w K mg base C) (hGi : HasG P w K mg base C D) (hW : HasW P w K mg base C D W) : FnOk P w K mg base CX0 10 f fd psOthers (spOthers C) := by
  obtain ⟨fE, fdE, FE, mE, bE⟩ := hE
  obtain ⟨fGE, fdGE, FGE, mGE, bGE⟩ := hGE
  obtain ⟨fME, fdME, FME, mME, bME⟩ := hME
  obtain ⟨fS, fdS, FS, mS, bS⟩ := hS
  obtain ⟨fR, fdR, FR, mR, bR⟩ := hR
  obtain ⟨fL, fdL, FL, mL, bL⟩ := hL
  obtain ⟨fI, fdI, MI, GI, bI⟩ := hI
  obtain ⟨fG, fdG, MG, GG, bG⟩ := hGi
  obtain ⟨fW, fdW, MW, GW, FnW⟩ := hW
  obtain ⟨ds3, v3, b3⟩ := mi_b3 FnW
  refine F.ok scOthers (fun vs H Q E h => ?_) (fun cdv A outer s H vs Q E hr h => ?_)
  · obtain ⟨p, L, g, wd, rfl, _⟩ := h
    rfl
  · obtain ⟨p, L, g, wd, rfl, h1, gd, q⟩ := h
    refine ⟨_, pss_cons (ps_set (i := 2) scOthers.nd rfl (.inl rfl) (pe_make MG GG (hr.mono (by decide)) rfl TG.mgD bG .nil pass0 (pa_cons (pv 0) pa_nil)))
      (pss_cons (ps_set (i := 3) scOthers.nd rfl (.inl rfl) (pe_lst (pa_cons (pv 1) (pa_cons (pe_callTy call_list_of (by rfl) hlist (by decide +kernel) (pa_cons (pv 1) pa_nil)) (pa_cons (pe_callTy (cr_strO FS bS mS (hr.mono (by decide))) (by rfl) B.str (by decide +kernel) (pa_cons (pv 0) pa_nil)) (pa_cons (pe_callB (cr_reprO FR bR mR (hr.mono (by decide))) (by rfl) hrep (by decide +kernel) (pa_cons (pv 0) pa_nil)) (pa_cons (pe_callB (cr_lenO FL bL mL (hr.mono (by decide))) (by rfl) B.len PySem.boot_len (pa_cons (pv 0) pa_nil)) (pa_cons pe_non (pa_cons pe_bl (pa_cons (pe_tup pa_nil) (pa_cons (pe_lst pa_nil) (pa_cons pe_dnewK (pa_cons (pe_tup (pa_cons (pv 0) pa_nil)) (pa_cons (pe_lst (pa_cons (pv 0) pa_nil)) pa_nil))))))))))))))
      (pss_cons (ps_for PassesOwn.never rfl (pi_list (pe_op op_cat (pv 3) (pe_lst (pa_cons (pv 2) (pa_cons (pe_make MW GW hr rfl TM.mgW b3 v3 pass0 (pa_cons (pv 2) (pa_cons pe_str pa_nil))) pa_nil))))) (pg_name (i := 4) scOthers.nd rfl (.inl rfl))
        (pss_cons (ps_if (PW.pt (pw_or (pt_not (pt_val (pe_h hIs hr (pa_cons (pe_cmpR (op_eqT FE bE mE (hr.mono (by decide))) (pv 0) (pv 4) (nomark _)) (pa_cons pe_bl pa_nil))))) (pw_or1 (pt_not (pt_val (pe_h hIs hr (pa_cons (pe_cmpR (op_or (op_eqR FE bE mE N (hr.mono (by decide))) (op_or (op_eqT FGE bGE mGE (hr.mono (by decide))) (op_eqT FME bME mME (hr.mono (by decide))))) (pv 4) (pv 0) (nomark _)) (pa_cons pe_bl pa_nil)))))))) (pss_one (ps_ret pe_bl)) pss_nil)
        (pss_one (ps_if (pt_not (pt_val (pe_h hIs hr (pa_cons (pe_cmpR (op_neT FE bE mE T.ne (hr.mono (by decide))) (pv 0) (pv 4) (nomark _)) (pa_cons pe_bl pa_nil))))) (pss_one (ps_ret pe_bl)) pss_nil))))
      (pss_one (ps_ret (pe_and (pe_not (pe_cmpR (op_inG FE bE mE N (hr.mono (by decide))) (pv 0) (pv 3) (by rfl))) (pe_one (pe_cmpR (op_inG FE bE mE N (hr.mono (by decide))) (pv 0) (pe_op op_cat (pv 3) (pe_lst (pa_cons (pe_make MI GI (hr.mono (by decide)) rfl T.t.mgC bI .nil pass0 (pa_cons (pv 1) pa_nil)) pa_nil))) (by rfl)))))))), ?_⟩
    obtain ⟨dx, d, i1⟩ := h1.ins
    obtain ⟨ras, hL0, hrows⟩ := h1.grid
    -- a Gathering of it
    refine ⟨_, rfl, fun h0 dh nh ndh neh => ?_⟩
    have s1 : Same H (upd (upd H dh (.own h0)) h0 (.ins D dh [])) := fun b o e => by
      rw [upd_ne (ne_of_none e nh), upd_ne (ne_of_none e ndh)]
      exact e
    have nhp : h0 ≠ p := fun e => by
      rw [e, i1] at nh
      cases nh
    refine ⟨h0, dh, p, L, g, rfl, upd_same, h1.same s1, nhp, fun td dd H1 htd hdd k1 hG1 => ⟨rfl, ?_⟩⟩
    have s01 : Same H H1 := fun b o e => k1 b o (ne_of_none e nh) (s1 b o e)
    -- twelve things
    refine ⟨_, rfl, _, rfl, L, _, rfl, .inr (.inl (.inl (s01 _ _ hL0))), fun l1 hl1 => ?_⟩
    have s2 := same_new (o := .lst (ras.map V.ref)) hl1
    have c1 : upd H1 l1 (.lst (ras.map V.ref)) l1 = some (.lst (ras.map V.ref)) := upd_same
    generalize upd H1 l1 (.lst (ras.map V.ref)) = H2 at s2 c1 ⊢
    have s02 := s01.trans s2
    refine ⟨_, rfl, p, dx, _, rfl, s02 _ _ i1, p, L, g, wd, rfl, h1.same s02, gd, fun H3 s3 => ⟨_, rfl, ?_⟩⟩
    have s03 := s02.trans s3
    refine ⟨_, rfl, p, dx, _, rfl, s03 _ _ i1, p, L, g, rfl, h1.same s03, gd.len, _, rfl, ?_⟩
    refine ⟨_, rfl, p, dx, _, rfl, s03 _ _ i1, p, L, g, rfl, h1.same s03, _, rfl, by have := gd.len; omega, ?_⟩
    refine ⟨lz, fun t1 ht1 => ?_⟩
    have s4 := same_new (o := .tup []) ht1
    have c2 : upd H3 t1 (.tup []) t1 = some (.tup []) := upd_same
    generalize upd H3 t1 (.tup []) = H4 at s4 c2 ⊢
    refine ⟨lz, fun l2 hl2 => ?_⟩
    have s5 := same_new (o := .lst []) hl2
    have c3 : upd H4 l2 (.lst []) l2 = some (.lst []) := upd_same
    generalize upd H4 l2 (.lst []) = H5 at s5 c3 ⊢
    intro d1 hd1
    have s6 := same_new (o := .dK []) hd1
    have c4 : upd H5 d1 (.dK []) d1 = some (.dK []) := upd_same
    generalize upd H5 d1 (.dK []) = H6 at s6 c4 ⊢
    refine ⟨_, rfl, lz, fun t2 ht2 => ?_⟩
    have s7 := same_new (o := .tup [V.ref p]) ht2
    have c5 : upd H6 t2 (.tup [V.ref p]) t2 = some (.tup [V.ref p]) := upd_same
    generalize upd H6 t2 (.tup [V.ref p]) = H7 at s7 c5 ⊢
    refine ⟨_, rfl, lz, fun l3 hl3 => ?_⟩
    have s8 := same_new (o := .lst [V.ref p]) hl3
    have c6 : upd H7 l3 (.lst [V.ref p]) l3 = some (.lst [V.ref p]) := upd_same
    generalize upd H7 l3 (.lst [V.ref p]) = H8 at s8 c6 ⊢
    refine ⟨lz, fun So hSo => ?_⟩
    have s78 := s7.trans s8
    have s68 := s6.trans s78
    have s58 := s5.trans s68
    have s48 := s4.trans s58
    have s28 := s3.trans s48
    have oth : ∀ x ∈ [V.ref L, V.ref l1, V.str (landS g), V.str (reprS (names g).length), V.int ((names g).length : Int), V.non, V.bl true, V.ref t1, V.ref l2, V.ref d1, V.ref t2, V.ref l3], ∃ T, OthV H8 x T := fun x hx => by
      simp only [List.mem_cons, List.not_mem_nil, or_false] at hx
      rcases hx with rfl | rfl | rfl | rfl | rfl | rfl | rfl | rfl | rfl | rfl | rfl | rfl
      · exact ⟨_, .tup ((s02.trans s28) _ _ hL0)⟩
      · exact ⟨_, .lst (s28 _ _ c1)⟩
      · exact ⟨_, .str _⟩
      · exact ⟨_, .str _⟩
      · exact ⟨_, .int _⟩
      · exact ⟨_, .non⟩
      · exact ⟨_, .bl _⟩
      · exact ⟨_, .tup (s58 _ _ c2)⟩
      · exact ⟨_, .lst (s68 _ _ c3)⟩
      · exact ⟨_, .dK (s78 _ _ c4)⟩
      · exact ⟨_, .tup (s8 _ _ c5)⟩
      · exact ⟨_, .lst c6⟩
    obtain ⟨xs, exs⟩ : ∃ xs, xs = [V.ref L, V.ref l1, V.str (landS g), V.str (reprS (names g).length), V.int ((names g).length : Int), V.non, V.bl true, V.ref t1, V.ref l2, V.ref d1, V.ref t2, V.ref l3] := ⟨_, rfl⟩
    have lxs : xs.length = 12 := by rw [exs]; rfl
    rw [← exs] at oth ⊢
    clear exs
    have s9 := same_new (o := .lst xs) hSo
    have hSo9 : upd H8 So (.lst xs) So = some (.lst xs) := upd_same
    generalize upd H8 So (.lst xs) = H9 at s9 hSo9 ⊢
    have oth9 : ∀ x ∈ xs, ∃ T, OthV H9 x T := fun x hx => let ⟨T, o⟩ := oth x hx; ⟨T, o.same s9⟩
    have s19 := (s2.trans s28).trans s9
    have s09 := s01.trans s19
    -- a map
    refine ⟨_, rfl, _, rfl, _, rfl, fun m0 dm nm ndm nem => ?_⟩
    have s10 : Same H9 (upd (upd H9 dm (.own m0)) m0 (.ins W dm [])) := fun b o e => by
      rw [upd_ne (ne_of_none e nm), upd_ne (ne_of_none e ndm)]
      exact e
    refine ⟨m0, dm, h0, _, wd, "bread", .non, [], 0, 120, rfl, upd_same, hG1.same (s19.trans s10), gd, fun t ht => (List.not_mem_nil ht).elim, Nat.zero_le _, by decide +kernel, .inl ⟨rfl, rfl⟩, ⟨by decide, fun ch h => (List.not_mem_nil h).elim⟩, by decide, by decide, fun S' d' H10 hb hM => ⟨rfl, lz, fun l4 hl4 => ?_⟩⟩
    have s910 : Same H9 H10 := fun b o e => hb b o (ne_of_none e nm) (s10 _ _ e)
    have s11 := same_new (o := .lst [V.ref h0, V.ref m0]) hl4
    have c7 : upd H10 l4 (.lst [V.ref h0, V.ref m0]) l4 = some (.lst [V.ref h0, V.ref m0]) := upd_same
    generalize upd H10 l4 (.lst [V.ref h0, V.ref m0]) = H11 at s11 c7 ⊢
    have s911 := s910.trans s11
    refine ⟨So, l4, _, _, rfl, rfl, s911 _ _ hSo9, c7, lzl (by simp only [List.length_append, lxs, List.length_cons, List.length_nil]; omega), fun Al hAl => ?_⟩
    have s12 := same_new (o := .lst (xs ++ [V.ref h0, V.ref m0])) hAl
    have c8 : upd H11 Al (.lst (xs ++ [V.ref h0, V.ref m0])) Al = some (.lst (xs ++ [V.ref h0, V.ref m0])) := upd_same
    generalize upd H11 Al (.lst (xs ++ [V.ref h0, V.ref m0])) = H12 at s12 c8 ⊢
    have s912 := s911.trans s12
    have s012 := s09.trans s912
    obtain ⟨dg, hg⟩ := hG1.at_
    obtain ⟨dmm, ma, mb, hm⟩ := hM.at_
    have kd : ∀ x ∈ xs ++ [V.ref h0, V.ref m0], Kd D W H12 x := fun x hx => by
      rcases List.mem_append.mp hx with hx | hx
      · obtain ⟨T, o⟩ := oth9 x hx
        exact .inl ⟨T, o.same s912⟩
      · simp only [List.mem_cons, List.not_mem_nil, or_false] at hx
        rcases hx with rfl | rfl
        · exact .inr (.inl ⟨h0, dg, _, rfl, (s19.trans s912) _ _ hg⟩)
        · exact .inr (.inr ⟨m0, dmm, _, rfl, s12 _ _ (s11 _ _ hm)⟩)
    refine ⟨Al, rfl, ⟨_, .inl (.inl c8)⟩, for_list (K := K) (a := Al) (xs := xs ++ [V.ref h0, V.ref m0]) (fun i σ H' => (∃ y4, σ = [some (.ref p), some (.ref L), some (.ref h0), some (.ref So), y4]) ∧ Same H12 H') ⟨⟨_, rfl⟩, Same.refl _⟩ (fun i σ H' _ h => .inl (.inl (h.2 _ _ c8))) ?_ ?_⟩
    · rintro i x σ H13 hx ⟨⟨y4, rfl⟩, s13⟩
      have k13 := (kd x (List.mem_of_getElem? hx)).same s13
      have i13 := (s012.trans s13) _ _ i1
      obtain ⟨t, ty, nf, kt⟩ := kd_ty kn ad aw insD insW k13
      refine ⟨_, rfl, _, rfl, p, dx, _, t, rfl, i13, ty, nf, .inr ⟨p, x, t, rfl, ty, kt, false, rfl, false, false, rfl, _, rfl, ?_⟩⟩
      refine not_b (fun e => absurd e (by decide)) (fun _ => ?_)
      refine ⟨_, rfl, _, rfl, kd_back kn ad aw T.ins i13 k13 ⟨false, false, rfl, _, rfl, ?_⟩⟩
      refine not_b (fun e => absurd e (by decide)) (fun _ => ?_)
      refine ⟨_, rfl, _, rfl, p, dx, _, t, rfl, i13, ty, nf, .inr ⟨p, x, t, rfl, ty, kt, false, rfl, true, true, rfl, _, rfl, ?_⟩⟩
      refine not_b (fun e => absurd e (by decide)) (fun _ => ?_)
      exact ⟨⟨_, rfl⟩, s13⟩
    rintro σ H13 ⟨⟨y4, rfl⟩, s13⟩
    have s913 := s912.trans s13
    have s013 := s012.trans s13
    have oth13 : ∀ x ∈ xs, ∃ T, OthV H13 x T := fun x hx => let ⟨T, o⟩ := oth9 x hx; ⟨T, o.same s913⟩
    refine ⟨_, rfl, _, rfl, p, dx, _, So, xs, _, rfl, rfl, .inl (s913 _ _ hSo9), s013 _ _ i1, items_oth kn oth13, fun H14 s14 => ⟨_, rfl, true, by rw [any_false]; rfl, iteT ?_⟩⟩
    have s914 := s913.trans s14
    have s014 := s013.trans s14
    refine ⟨_, rfl, _, rfl, _, rfl, fun p2 d2 np2 nd2 ne2 => ?_⟩
    have kp1 : TupKeep H14 (upd (upd H14 d2 (.own p2)) p2 (.ins C d2 [])) := fun b xs h => by
      rw [upd_ne (ne_of_none h np2), upd_ne (ne_of_none h nd2)]
      exact h
    refine ⟨p2, d2, L, g, wd, rfl, upd_same, (h1.same s014).grid.keep kp1, gd, fun H15 k15 hLa => ⟨rfl, lz, fun l5 hl5 => ?_⟩⟩
    have s15 := made_same np2 nd2 k15
    have s16 := same_new (o := .lst [V.ref p2]) hl5
    have c9 : upd H15 l5 (.lst [V.ref p2]) l5 = some (.lst [V.ref p2]) := upd_same
    generalize upd H15 l5 (.lst [V.ref p2]) = H16 at s16 c9 ⊢
    have s1416 := s15.trans s16
    refine ⟨So, l5, _, _, rfl, rfl, (s914.trans s1416) _ _ hSo9, c9, lzl (by simp only [List.length_append, lxs, List.length_cons, List.length_nil]; omega), fun Al2 hAl2 => ?_⟩
    have s17 := same_new (o := .lst (xs ++ [V.ref p2])) hAl2
    have c10 : upd H16 Al2 (.lst (xs ++ [V.ref p2])) Al2 = some (.lst (xs ++ [V.ref p2])) := upd_same
    generalize upd H16 Al2 (.lst (xs ++ [V.ref p2])) = H17 at s17 c10 ⊢
    have s1417 := s1416.trans s17
    have s017 := s014.trans s1417
    have npp : p2 ≠ p := fun e => by
      have := s014 _ _ i1
      rw [← e, np2] at this
      cases this
    have oth17 : ∀ x ∈ xs, ∃ T, OthV H17 x T := fun x hx => let ⟨T, o⟩ := oth9 x hx; ⟨T, o.same (s914.trans s1417)⟩
    refine ⟨p, dx, _, Al2, _, (xs.map fun _ => false) ++ [decide (g = g)], rfl, rfl, .inl c10, s017 _ _ i1, Each.append (items_oth kn oth17) (.cons (item_land (h1.same s017) gd ((hLa.same s16).same s17) gd npp) .nil), fun H18 s18 => ?_⟩
    have ea : (((xs.map fun _ => false) ++ [decide (g = g)]).any id) = true := by
      rw [List.any_append]
      simp
    rw [ea]
    exact q H18 (s017.trans s18)
end
end Wl

/-! t[::-1], t a tuple. -/
namespace Wl
open PySem PySem.Spec PyProof.Rows L2
theorem places_back (n : Nat) : Builtin.Slice.slicePlaces ((n : Int) - 1) (-1) (-1) = n := by
  unfold Builtin.Slice.slicePlaces
  rw [if_neg (by decide : ¬ ((-1 : Int) > 0)), show (- -1 : Int) = 1 from rfl, Int.ediv_one]
  split <;> omega
theorem pick_back (xs : Array Value) : ((List.range xs.size).filterMap fun (k : Nat) => xs[((xs.size : Int) - 1 + (k : Int) * -1).toNat]?).toArray = xs.toList.reverse.toArray := by
  have := PySem.W.krv_pick xs
  unfold slicePick at this
  have e : sliceBounds none none (some (-1)) xs.size = ((xs.size : Int) - 1, -1, -1) := by simp [sliceBounds]
  rw [e, PySem.W.krv_sliceRange, List.filterMap_map] at this
  rw [← this]
  congr 1
  have key : ∀ (l : List Nat), (∀ k ∈ l, k < xs.size) → (l.filterMap fun (k : Nat) => xs[((xs.size : Int) - 1 + (k : Int) * -1).toNat]?) = l.filterMap ((fun x => xs[x]?) ∘ fun k => xs.size - 1 - k) := by
    intro l
    induction l with
    | nil => intro _; rfl
    | cons k r ih =>
      intro hk
      have h1 := hk k List.mem_cons_self
      have e : ((xs.size : Int) - 1 + (k : Int) * -1).toNat = xs.size - 1 - k := by omega
      rw [List.filterMap_cons, List.filterMap_cons, ih fun j hj => hk j (List.mem_cons_of_mem _ hj), e]
      rfl
  exact key _ fun k hk => List.mem_range.mp hk
section
variable {prog : Program} {w : World} {A : Around} {E : Value → Shared → Prop} {s : Shared}
theorem item_back {t sl : Addr} {items : Array Value} {vl vu vs : Value} {Q : Value → Shared → Prop} (ht : s.heap.IsTuple t items) (hs : s.heap.IsSliceOf sl vl vu vs) (pl : IsPart vl none) (pu : IsPart vu none) (ps : IsPart vs (some (-1)))
    (h : Q (.ref s.heap.objs.size) { s with heap := s.heap.push { cls := .type "tuple", data := .seq items.toList.reverse.toArray } }) (hz : items.size ≤ sizeLine) : wpAny (model prog w) A (getItem (.ref t) (.ref sl)) Q E s := by
  obtain ⟨os, hos, hcs, hds⟩ := id hs
  have hTs : s.TypeIs (.ref sl) "slice" := ⟨os, hos, hcs⟩
  have hso : sizeOk (.seq items.toList.reverse.toArray) := by
    show items.toList.reverse.toArray.size ≤ sizeLine
    rw [List.size_toArray, List.length_reverse, Array.length_toList]
    exact hz
  unfold getItem
  refine wpAny_holding (wpAny_bind (wpAny_sequenceKey ht.typeIs (by decide) (wpAny_bind (wpAny_callSpecial?_slot (name := Str.ofString "__getitem__") ht.typeIs PyProof.Rows.slot_tuple_getitem (wpAny_call_entry PyProof.Rows.slot_tuple_getitem ht.typeIs entry_tuple_getitem ?_ (args_tuple_getitem _ _))))))
  refine (show wpAny _ _ (Builtin.Tuple.tupleItemsOf (.ref t) >>= _) _ _ s from wpAny_bind (PyProof.Rows.tupleItemsOf_ ht (wpAny_bind (wpAny_typeOf hTs ?_))))
  rw [if_pos (by decide)]
  refine wpAny_bind ?_
  unfold Builtin.Slice.sliceApplied Builtin.Slice.sliceFields
  refine wpAny_bind (wpAny_bind (wpAny_field hos hds (x := vl) rfl (wpAny_bind (wpAny_field hos hds (x := vu) rfl (wpAny_bind (wpAny_field hos hds (x := vs) rfl (wpAny_pure (wpAny_bind (HT.slicePart_ ps ?_)))))))))
  show wpAny _ _ (if ((-1 : Int) == 0) = true then _ else _) _ _ s
  rw [if_neg (by decide)]
  refine wpAny_bind (HT.slicePart_ pl (wpAny_bind (HT.slicePart_ pu (wpAny_bind (wpAny_pure ?_)))))
  show wpAny _ _ (pure ((items.size : Int) - 1, (-1 : Int), Builtin.Slice.slicePlaces ((items.size : Int) - 1) (-1) (-1))) _ _ s
  rw [places_back]
  refine wpAny_pure ?_
  show wpAny _ _ (if (((items.size : Int) - 1 == 0) && ((-1 : Int) == 1) && (items.size == items.size)) = true then _ else _) _ _ s
  rw [if_neg (by simp), pick_back]
  first
    | exact wpAny_bind (m := Builtin.Tuple.tupleExact _) (wpAny_newObj_type (wpAny_pure ⟨_, rfl, wpAny_pure h⟩) hso)
    | exact wpAny_bind (m := Builtin.Tuple.tupleExact _) (wpAny_newObj_type (wpAny_bind (wpAny_pure (wpAny_pure ⟨_, rfl, wpAny_pure h⟩))) hso)
    | exact wpAny_bind (wpAny_bind (m := Builtin.Tuple.tupleExact _) (wpAny_newObj_type (wpAny_pure (wpAny_pure ⟨_, rfl, wpAny_pure h⟩)) hso))
    | exact wpAny_bind (wpAny_bind (m := Builtin.Tuple.tupleExact _) (wpAny_newObj_type (wpAny_pure ⟨_, rfl, wpAny_pure h⟩) hso))
end
def tRevT (K : PySem.W.Frag) (te : TE) : TE := fun σ H Q => te σ H fun x H1 => ∃ a xs, x = .ref a ∧ SqT K H1 a xs ∧ ∀ p, H1 p = none → Q (.ref p) (upd H1 p (.tup xs.reverse))
theorem pe_revT {X : Cx} {e : Expr} {te : TE} {k : Nat} {p1 p2 p3 pos : Pos} (he : PE X e te) : PE X (.Subscript e (.Slice none none (some (.UnaryOp .USub (.Constant (.int 1) k p1) p2)) p3) pos) (tRevT X.K te) := by
  refine ⟨fun pins s σ H Q I h => Subscript_ (thn (he.run pins s σ H _ I h) fun v s1 ⟨x, H1, I1, r1, a, xs, ex, hx, q⟩ => ?_)⟩
  subst ex
  cases r1
  have hst : PO X (some (.UnaryOp .USub (.Constant (.int 1) k p1) p2)) (tPart (tUn (rU fun i => .int (-i)) (tC (.int 1)))) := po_some (pe_un un_neg pe_int)
  refine wpAny_Slice (thn (po_none.run pins s1 σ H1 (fun o H2 => o = none ∧ H2 = H1) I1 ⟨rfl, rfl⟩) fun vl s2 ⟨l, H2, I2, pl, el, e2⟩ => ?_)
  subst el e2
  refine thn (po_none.run pins s2 σ H2 (fun o H3 => o = none ∧ H3 = H2) I2 ⟨rfl, rfl⟩) fun vu s3 ⟨u, H3, I3, pu, eu, e3⟩ => ?_
  subst eu e3
  refine thn (hst.run pins s3 σ H3 (fun o H4 => o = some (-1) ∧ H4 = H3) I3 ⟨1, rfl, -1, rfl, rfl, rfl⟩) fun vs s4 ⟨o, H4, I4, ps, eo, e4⟩ => ?_
  subst eo e4
  have J : L2.Inv X pins σ H4 { s4 with heap := s4.heap.push { cls := .type "slice", data := .fields #[vl, vu, vs] } } := I4.kept (t' := s4.toks) fun b ob q => Heap.get?_push_of_some _ q
  obtain ⟨its, r, ht, hz⟩ := J.tuple hx
  have hlen := r.length
  show wpAny (model X.prog X.w) X.A (subscriptTail e (.Slice none none (some (.UnaryOp .USub (.Constant (.int 1) k p1) p2)) p3) (.ref a) (.ref s4.heap.objs.size)) _ _ _
  refine tail_any (ops := [.ref a, .ref s4.heap.objs.size]) ht.typeIs (PyProof.Rows.slot_tuple_getitem.lookup) ?_ (by with_unfolding_all rfl)
  refine item_back ht (Heap.IsSliceOf.new _ vl vu vs) pl pu ps ?_ (by rw [List.size_toArray]; omega)
  refine ⟨.ref _, _, J.laid (t' := s4.toks) (o := .tup xs.reverse) (fun b ob q => Heap.get?_push_of_some _ q) (Nat.le_refl _) ?_, rfl, q _ (J.hok.fresh (Nat.le_refl _))⟩
  exact ⟨by rw [List.length_reverse]; exact hz, _, r.reverse, ⟨_, Heap.get?_push_size _ rfl, rfl, 0, rfl⟩⟩
end Wl

namespace Wl
open PySem PySem.Spec PyProof.Rows L2
section
variable {J : It} {ys : List V} {G : Hp → Prop} {slot : Nat} {tt : TT} {te : TE} {vs : List Nat} {σ : L2.St} {H1 : Hp} {D : Addr} {Qd : Hp → Prop}
/-- a comprehension whose test makes new objects -/
theorem lc_keep (w : L2.Walk J ys.length G (YAt ys)) (hD : H1 D = none) (keep : V → Bool) (f : V → V)
    (hG : ∀ H, Same H1 H → G H)
    (hw : ∀ x, wipe ((wipe σ vs).set slot (some x)) vs = wipe σ vs)
    (ht : ∀ (x : V) (H : Hp), x ∈ ys → Same H1 H → ∀ Q : Bool → Hp → Prop, (∀ H', Same H H' → Q (keep x) H') → tt ((wipe σ vs).set slot (some x)) H Q)
    (he : ∀ (x : V) (H : Hp), x ∈ ys → keep x = true → Same H1 H → ∀ Q : VK, Q (f x) H → te ((wipe σ vs).set slot (some x)) H Q)
    (hn : ys.length < sizeLine)
    (hd : ∀ H, Same H1 H → H D = some (.lst ((ys.filter keep).map f)) → Qd H) :
    ∃ W : Nat → Nat → Hp → Prop, (∃ m, W 0 m (upd H1 D (.lst []))) ∧ ∀ i m H, W i m H →
      (J.stop i H ∧ Qd H) ∨ (J.go i H ∧ ∃ Nx : Hp → Prop, (∀ H', Nx H' → ∃ m', m' < m ∧ W (i + 1) m' H') ∧ ∀ x H', J.yld i H x H' → gName slot x (wipe σ vs) H' fun σ2 H2 => wipe σ2 vs = wipe σ vs ∧ tt σ2 H2 fun b H3 =>
        if b = true then te σ2 H3 fun y H4 => ∃ acc, H4 D = some (.lst acc) ∧ acc.length < sizeLine ∧ Nx (upd H4 D (.lst (acc ++ [y]))) else Nx H3) := by
  refine lc_it w (fun i H => Same H1 H ∧ H D = some (.lst (((ys.take i).filter keep).map f))) ⟨same_new hD, upd_same⟩ (fun i H _ h => hG H h.1) ?_ ?_
  · rintro i x H H' hi ⟨s, hz⟩ ⟨rfl, hx⟩
    have hm : x ∈ ys := List.mem_of_getElem? hx
    refine ⟨hw x, ht x _ hm s _ fun H3 s3 => ?_⟩
    have hf := filter_take_snoc (p := keep) hx
    refine ite_b (fun e => ?_) (fun e => ?_)
    · refine he x _ hm e (s.trans s3) _ ⟨_, s3 _ _ hz, ?_, same_mut (s.trans s3) hD, ?_⟩
      · have h2 : ((ys.take i).filter keep).length ≤ (ys.take i).length := List.length_filter_le _ _
        have h3 : (ys.take i).length ≤ ys.length := List.length_take_le' _ _
        rw [List.length_map]
        omega
      · rw [upd_same, hf, if_pos e, List.map_append]
        rfl
    · refine ⟨s.trans s3, ?_⟩
      rw [hf, if_neg (by rw [e]; decide), List.append_nil]
      exact s3 _ _ hz
  · rintro H ⟨s, hz⟩
    rw [List.take_length] at hz
    exact hd H s hz
end
theorem names_app (a b : Grid) : names (a ++ b) = names a ++ names b := by
  induction a with
  | nil => rfl
  | cons r a ih => rw [List.cons_append, names_cons, names_cons, ih, List.append_assoc]
theorem rnames_mid (x y : Row) (o : Option Str) : rnames (x ++ o :: y) = rnames x ++ (o.toList ++ rnames y) := by
  unfold rnames
  rw [List.filterMap_append]
  cases o <;> rfl
theorem names_mid (A B : Grid) (x y : Row) (o : Option Str) : names (A ++ (x ++ o :: y) :: B) = (names A ++ rnames x) ++ (o.toList ++ (rnames y ++ names B)) := by
  rw [names_app, names_cons, rnames_mid]
  simp only [List.append_assoc]
theorem names_rev (g : Grid) : (names g.reverse).Perm (names g) := by
  unfold names
  exact (List.Perm.flatten (List.reverse_perm g)).filterMap id
theorem rnames_rev (r : Row) : rnames r.reverse = (rnames r).reverse := by
  unfold rnames
  rw [List.filterMap_reverse]
theorem names_mrev : ∀ g : Grid, (names (g.map List.reverse)).Perm (names g)
  | [] => .refl _
  | r :: g => by
    rw [List.map_cons, names_cons, names_cons, rnames_rev]
    exact (List.reverse_perm _).append (names_mrev g)
theorem Good.perm {g g' : Grid} {wd : Nat} (G : Good g wd) (hl : g'.length = g.length) (hr : ∀ r ∈ g', r.length = wd) (p : (names g').Perm (names g)) : Good g' wd :=
  ⟨by rw [hl]; exact G.h1, by rw [hl]; exact G.h6, G.w1, G.w6, hr, p.nodup_iff.mpr G.nd, fun z hz => G.wd z (p.mem_iff.mp hz), fun e => G.ne (by rw [e] at p; exact p.symm.eq_nil)⟩
theorem Good.rev {g : Grid} {wd : Nat} (G : Good g wd) : Good g.reverse wd := G.perm (List.length_reverse) (fun r hr => G.rows r (List.mem_reverse.mp hr)) (names_rev g)
theorem Good.mrev {g : Grid} {wd : Nat} (G : Good g wd) : Good (g.map List.reverse) wd := G.perm (List.length_map _) (fun r hr => by
  obtain ⟨q, hq, rfl⟩ := List.mem_map.mp hr
  rw [List.length_reverse]
  exact G.rows q hq) (names_mrev g)
theorem Good.put {A B : Grid} {x y : Row} {u o : Option Str} {wd : Nat} (G : Good (A ++ (x ++ u :: y) :: B) wd) (ho : ∀ z, o = some z → IsWd z ∧ z ∉ names (A ++ (x ++ u :: y) :: B)) (ne : names (A ++ (x ++ o :: y) :: B) ≠ []) : Good (A ++ (x ++ o :: y) :: B) wd := by
  have hnd := G.nd
  have hwd := G.wd
  rw [names_mid] at hnd hwd ho
  refine ⟨by simp; omega, by have := G.h6; simpa using this, G.w1, G.w6, fun r hr => ?_, ?_, ?_, ne⟩
  · rcases List.mem_append.mp hr with hr | hr
    · exact G.rows r (List.mem_append_left _ hr)
    · rcases List.mem_cons.mp hr with rfl | hr
      · have := G.rows (x ++ u :: y) (List.mem_append_right _ List.mem_cons_self)
        simpa using this
      · exact G.rows r (List.mem_append_right _ (List.mem_cons_of_mem _ hr))
  · rw [names_mid]
    generalize names A ++ rnames x = X at *
    generalize rnames y ++ names B = Y at *
    have h0 : (X ++ Y).Nodup := by
      refine List.Nodup.sublist ?_ hnd
      exact List.Sublist.append (List.Sublist.refl X) (List.sublist_append_right _ _)
    cases o with
    | none => exact h0
    | some z =>
      have hz := (ho z rfl).2
      have hzx : z ∉ X ++ Y := fun h => hz (by
        rcases List.mem_append.mp h with h | h
        · exact List.mem_append_left _ h
        · exact List.mem_append_right _ (List.mem_append_right _ h))
      have : (X ++ z :: Y).Perm (z :: (X ++ Y)) := List.perm_middle
      exact this.nodup_iff.mpr (List.nodup_cons.mpr ⟨hzx, h0⟩)
  · rw [names_mid]
    intro z hz
    rcases List.mem_append.mp hz with hz | hz
    · exact hwd z (List.mem_append_left _ hz)
    · rcases List.mem_append.mp hz with hz | hz
      · exact (ho z (by cases o <;> simp_all)).1
      · exact hwd z (List.mem_append_right _ (List.mem_append_right _ hz))
theorem each_take {α β : Type} {R : α → β → Prop} : ∀ {as : List α} {bs : List β} (n : Nat), Each R as bs → Each R (as.take n) (bs.take n)
  | _, _, 0, _ => by simpa using Each.nil
  | _, _, n + 1, .nil => by simpa using Each.nil
  | _, _, n + 1, .cons r t => .cons r (each_take n t)
theorem each_drop {α β : Type} {R : α → β → Prop} : ∀ {as : List α} {bs : List β} (n : Nat), Each R as bs → Each R (as.drop n) (bs.drop n)
  | _, _, 0, h => by simpa using h
  | _, _, n + 1, .nil => by simpa using Each.nil
  | _, _, n + 1, .cons r t => each_drop n t
theorem each_rev {α β : Type} {R : α → β → Prop} : ∀ {as : List α} {bs : List β}, Each R as bs → Each R as.reverse bs.reverse
  | _, _, .nil => .nil
  | _, _, .cons r t => by
    rw [List.reverse_cons, List.reverse_cons]
    exact Each.append (each_rev t) (.cons r .nil)
section
variable {K : PySem.W.Frag} {H : Hp} {Q : VK}
theorem cat_reads {a b : Addr} {xs ys : List V} (ha : H a = some (.tup xs)) (hb : H b = some (.tup ys)) (hz : xs.length + ys.length ≤ 1000) (q : ∀ u H', Same H H' → H' u = some (.tup (xs ++ ys)) → Q (.ref u) H') : rCatA K (.ref a) (.ref b) H Q := by
  refine ⟨a, b, xs, ys, rfl, rfl, .inl (.inl ha), .inl (.inl hb), lzl hz, fun e => ?_, fun _ e => ?_, fun _ _ p hp => ?_⟩
  · subst e
    exact q b H (Same.refl H) hb
  · subst e
    refine q a H (Same.refl H) ?_
    rw [List.append_nil]
    exact ha
  · exact q p _ (same_new hp) upd_same
theorem sl_reads {a : Addr} {xs : List V} {lo hi : Option Int} (ha : H a = some (.tup xs)) (q : ∀ u H', Same H H' → H' u = some (.tup (cutV xs lo hi)) → Q (.ref u) H') : rSlA K (.ref a) lo hi H Q := by
  refine ⟨a, xs, rfl, .inl (.inl ha), fun ⟨e1, e2⟩ => ?_, fun _ p hp => q p _ (same_new hp) upd_same⟩
  refine q a H (Same.refl H) ?_
  unfold cutV
  rw [e1, e2, List.drop_zero, Nat.sub_zero, List.take_length]
  exact ha
end
theorem cut_to (xs : List V) (c : Nat) : cutV xs none (some (c : Int)) = xs.take c := by
  unfold cutV
  rw [HT.sIx_none, HT.sIx_nat, List.drop_zero, Nat.sub_zero]
  by_cases h : c ≤ xs.length
  · rw [Nat.min_eq_left h]
  · rw [Nat.min_eq_right (by omega), List.take_length, List.take_of_length_le (by omega)]
theorem cut_from (xs : List V) (c : Nat) : cutV xs (some (c : Int)) none = xs.drop c := by
  unfold cutV
  rw [HT.sIx_none, HT.sIx_nat]
  by_cases h : c ≤ xs.length
  · rw [Nat.min_eq_left h, ← List.length_drop, List.take_length]
  · rw [Nat.min_eq_right (by omega), List.drop_length, List.drop_eq_nil_of_le (by omega), List.take_nil]
end Wl


namespace Wl
open PySem PySem.Spec PyProof.Rows L2
section
variable {P : Program} {w : World} {K : PySem.W.Frag} {mg : Str → Option Value} {base : Heap} {f C : Addr} {fd : FuncData}
theorem revs_of {H H' : Hp} : ∀ {as : List Addr} {g : Grid} {zs : List V}, RowsAt H as g → Each (fun (x z : V) => ∀ (pr : Addr) (row : Row), x = .ref pr → H pr = some (.tup (row.map oV)) → ∃ t, z = .ref t ∧ H' t = some (.tup (row.reverse.map oV))) (as.map V.ref) zs → ∃ bs : List Addr, zs = bs.map V.ref ∧ RowsAt H' bs (g.map List.reverse)
  | [], [], [], _, _ => ⟨[], rfl, .nil⟩
  | [], [], _ :: _, _, h => nomatch h
  | [], _ :: _, _, h, _ => nomatch h
  | _ :: _, [], _, h, _ => nomatch h
  | _ :: _, _ :: _, [], _, h => nomatch h
  | a :: as, r :: g, z :: zs, .cons e t, .cons e' t' => by
    obtain ⟨u, rfl, hu⟩ := e' a r rfl e
    obtain ⟨bs, rfl, hb⟩ := revs_of t t'
    exact ⟨u :: bs, rfl, .cons hu hb⟩
end
end Wl


/-! t * 1, t a tuple: the same tuple -/
namespace Wl
open PySem PySem.Spec PyProof.Rows L2
open AutoSeq1 (wpAny_loadPart') in
theorem tuple_mul1 (l : Addr) (items : Array Value) (n : Nat) (dd : Option Addr) (sl : Array (Option Value)) (u : Tok) :
    Meets (Builtin.«tuple.__mul__» ⟨[.ref l, .int 1 u], []⟩) (fun _ R s => s.heap.get? l = some { cls := .type "tuple", dict := dd, data := .seq items n, slots := sl } ∧ R (.ok (.ret (Value.ref l))) s) :=
  .of_wp fun prog w A R s h => by
    obtain ⟨hp, g, d, tk, os⟩ := s
    obtain ⟨hl, h⟩ := h
    have f1 := AutoSeq1.idx_int
    wp_walk using wpAny_loadPart' hl
    exact ⟨_, rfl, h⟩
section
variable {X : Cx}
def rRep1 (K : PySem.W.Frag) : R2 := fun x y H Q => ∃ l xs, x = .ref l ∧ y = .int 1 ∧ SqT K H l xs ∧ Q (.ref l) H
theorem op_rep1 : OpR X (binaryOp .Mult) (rRep1 X.K) := by
  intro pins s σ H x y v u Q I rx ry h
  obtain ⟨l, xs, rfl, rfl, hT, q⟩ := h
  cases rx
  obtain ⟨t, rfl⟩ := ry
  obtain ⟨its, r, ⟨⟨cls, dd, data, sl⟩, ho, hc, n, hd⟩, hs⟩ := I.tuple hT
  simp only at hc hd
  subst hc hd
  exact wpAny_binaryOp_repeat_ref (T := "tuple") (U := "int") (by decide) ⟨_, ho, rfl⟩ (fun s' => typeIs_int s' 1 t) noFill_tuple_mul F.fills_int_mul F.slot_int_rmul repeat_tuple F.slot_int_index.lookup
    (call_meets F.slot_int_rmul (typeIs_int s 1 t) F.entry_int_rmul (F.args_int_rmul_2 _ _) (int_rmul_tuple 1 t l its.toArray n dd sl) ⟨ho, rfl, ⟨_, ho, rfl⟩, call_meets F.slot_tuple_mul ⟨_, ho, rfl⟩ F.entry_tuple_mul (F.args_tuple_mul_2 _ _) (tuple_mul1 l its.toArray n dd sl t) ⟨ho, .ref l, H, I, rfl, q⟩⟩)
/-- (None,) * n -/
theorem op_repN : OpR X (binaryOp .Mult) (fun x y H Q => rRepT X.K x y H Q ∨ rRep1 X.K x y H Q) := op_or op_repT op_rep1
theorem rep_reads {K : PySem.W.Frag} {H : Hp} {Q : VK} {l : Addr} {v : V} {n : Nat} (h : H l = some (.tup [v])) (h1 : 1 ≤ n) (h2 : n ≤ 100) (q : ∀ p H', Same H H' → H' p = some (.tup (List.replicate n v)) → Q (.ref p) H') : rRepT K (.ref l) (.int (n : Nat)) H Q ∨ rRep1 K (.ref l) (.int (n : Nat)) H Q := by
  by_cases e : n = 1
  · subst e
    exact .inr ⟨l, [v], rfl, rfl, .inl (.inl h), q l H (Same.refl H) h⟩
  · refine .inl ⟨l, n, [v], rfl, rfl, .inl (.inl h), by simp, by omega, by omega, by simp, fun p hp => q p _ (same_new hp) ?_⟩
    rw [upd_same, Int.toNat_natCast]
    congr 2
    clear h q h1 h2 e hp
    induction n with
    | zero => rfl
    | succ n ih => rw [List.replicate_succ, List.replicate_succ, List.flatten_cons, ih]; rfl
end
end Wl

namespace Wl
open PySem PySem.Spec PyProof.Rows L2
/-- what may stand in the place of a part -/
def PartOk (g : Grid) (r c : Nat) (o : Option Str) : Prop := (∃ row, g[r]? = some row ∧ row[c]? = some o) ∨ (∃ z, o = some z ∧ IsWd z ∧ z ∉ names g) ∨ (o = none ∧ 1 < (names g).length)
def putG (g : Grid) (r c : Nat) (row : Row) (o : Option Str) : Grid := g.take r ++ (row.take c ++ o :: row.drop (c + 1)) :: g.drop (r + 1)
theorem put_good {g : Grid} {wd r c : Nat} {row : Row} {o : Option Str} (gd : Good g wd) (hr : g[r]? = some row) (hc : c < row.length) (h : PartOk g r c o) : Good (putG g r c row o) wd := by
  obtain ⟨hrl, erow⟩ := List.getElem?_eq_some_iff.mp hr
  have egr : g = g.take r ++ row :: g.drop (r + 1) := by
    rw [← erow, ← List.drop_eq_getElem_cons hrl, List.take_append_drop]
  have er : row = row.take c ++ row[c] :: row.drop (c + 1) := by
    rw [← List.drop_eq_getElem_cons hc, List.take_append_drop]
  unfold putG
  rcases h with ⟨row2, h2, h3⟩ | h | h
  · have e : row2 = row := Option.some.inj (h2.symm.trans hr)
    subst e
    have : o = row2[c] := by
      rw [List.getElem?_eq_getElem hc] at h3
      exact (Option.some.inj h3).symm
    rw [this, ← er, ← egr]
    exact gd
  · obtain ⟨z, rfl, hz, hn⟩ := h
    have gd2 := gd
    rw [egr, er] at gd2
    refine Good.put gd2 (fun y hy => ?_) ?_
    · cases hy
      rw [← er, ← egr]
      exact ⟨hz, hn⟩
    · rw [names_mid]
      simp
  · obtain ⟨rfl, hn⟩ := h
    have gd2 := gd
    have e2 : names g = (names (g.take r) ++ rnames (row.take c)) ++ ((row[c]).toList ++ (rnames (row.drop (c + 1)) ++ names (g.drop (r + 1)))) := by
      rw [← names_mid, ← er, ← egr]
    rw [egr, er] at gd2
    refine Good.put gd2 (fun y hy => by cases hy) ?_
    rw [names_mid]
    intro e
    rw [e2] at hn
    have e3 := congrArg List.length e
    simp only [List.length_append, Option.toList, List.length_nil] at e3 hn
    have : (row[c]).toList.length ≤ 1 := by cases row[c] <;> simp
    simp only [Option.toList] at this
    omega
theorem short_good {g : Grid} {wd r : Nat} (gd : Good g wd) (h : names (g.take r ++ g.drop (r + 1)) ≠ []) : Good (g.take r ++ g.drop (r + 1)) wd := by
  have hs : (g.take r ++ g.drop (r + 1)).Sublist g := by
    have h1 : (g.drop (r + 1)).Sublist (g.drop r) := by
      rw [← List.drop_drop]
      exact List.drop_sublist 1 _
    have := (List.Sublist.refl (g.take r)).append h1
    rwa [List.take_append_drop] at this
  have hn : (names (g.take r ++ g.drop (r + 1))).Sublist (names g) := by
    have e1 : names g = names (g.take r) ++ names (g.drop r) := by rw [← names_app, List.take_append_drop]
    rw [e1, names_app]
    refine (List.Sublist.refl _).append ?_
    rw [← List.drop_drop]
    cases g.drop r with
    | nil => exact List.Sublist.refl _
    | cons x t =>
      rw [names_cons]
      exact List.sublist_append_right _ _
  refine ⟨?_, Nat.le_trans hs.length_le gd.h6, gd.w1, gd.w6, fun q hq => gd.rows q (hs.subset hq), hn.nodup gd.nd, fun z hz => gd.wd z (hn.subset hz), h⟩
  cases e : g.take r ++ g.drop (r + 1) with
  | nil =>
    rw [e] at h
    exact absurd rfl h
  | cons a b => simp
theorem more_good {g : Grid} {wd : Nat} (gd : Good g wd) (h : g.length < 6) : Good (g ++ [List.replicate wd none]) wd := by
  have hn : names (g ++ [List.replicate wd none]) = names g := by
    rw [names_app]
    have : names [List.replicate wd (none : Option Str)] = [] := by
      unfold names
      simp
    rw [this, List.append_nil]
  refine ⟨by simp, by simp; omega, gd.w1, gd.w6, fun q hq => ?_, by rw [hn]; exact gd.nd, by rw [hn]; exact gd.wd, by rw [hn]; exact gd.ne⟩
  rcases List.mem_append.mp hq with hq | hq
  · exact gd.rows q hq
  · rw [List.mem_singleton.mp hq]
    exact List.length_replicate
end Wl

namespace Wl
open PySem PySem.Spec PyProof.Rows L2
theorem and_b {b : Bool} {A B C : Prop} (h1 : b = true → A) (h2 : C) : if b = true then A else (if false = true then B else C) := by
  cases b with
  | true => exact iteT (h1 rfl)
  | false => exact iteF (iteF h2)
section
variable {P : Program} {w : World} {K : PySem.W.Frag} {mg : Str → Option Value} {base : Heap} {f C : Addr} {fd : FuncData}
def spOtherR : Sp := fun vs H Q _ => ∃ (a L : Addr) (g : Grid) (wd : Nat), vs = [.ref a, .ref L] ∧ PurseAt H a ∧ GridAt H L g ∧ Good g wd ∧ (names g).length ≤ 35 ∧
  ∀ (M : Addr) (g' : Grid) (wd' : Nat) (H' : Hp), Good g' wd' → GridAt H' M g' → PurseAt H' a → SameX a H H' → Q (.ref M) H'
abbrev nOtherR : List Str := ["_law_purse_here", "_law_laid", "_law_way", "_law_row", "_law_column", "_law_towns", "_law_fresh_here", "_law_part", "_law_short", "_law_line"]
abbrev psOtherR : List Str := ["_law_purse_here", "_law_laid"]
theorem scOtherR : FnScope nOtherR psOtherR (defScope sOtherR) := ⟨rfl, rfl, rfl, by decide +kernel, rfl, by decide +kernel, by decide +kernel⟩
theorem ok_otherR (F : Fun K "_law_other_rows" "_law_other_rows" sOtherR f fd) (B : Bi mg) (hp : Has P w K mg base "_law_pick" 1 ["_law_purse_here", "_law_many"] spPick) (hN : Has P w K mg base "_law_names" 1 ["_law_laid"] spNames) (hF : Has P w K mg base "_law_fresh" 3 ["_law_purse_here", "_law_used"] spFresh) :
    FnOk P w K mg base CX0 4 f fd psOtherR spOtherR := by
  refine F.ok scOtherR (fun vs H Q E h => ?_) (fun cdv A outer s H vs Q E hr h => ?_)
  · obtain ⟨a, L, g, wd, rfl, _⟩ := h
    rfl
  · obtain ⟨a, L, g, wd, rfl, hA, hG, gd, few, q⟩ := h
    refine ⟨_, pss_cons (ps_par (i := 2) (j := 3) (by rfl) scOtherR.nd rfl rfl (by decide) rfl rfl (pa_cons (pe_h hp hr (pa_cons (pv 0) (pa_cons pe_int pa_nil))) (pa_cons (pe_h hp hr (pa_cons (pv 0) (pa_cons (pe_callB call_len_seq (by rfl) B.len PySem.boot_len (pa_cons (pv 1) pa_nil)) pa_nil))) pa_nil)) (by rfl))
      (pss_cons (ps_par (i := 4) (j := 5) (by rfl) scOtherR.nd rfl rfl (by decide) rfl rfl (pa_cons (pe_h hp hr (pa_cons (pv 0) (pa_cons (pe_callB call_len_seq (by rfl) B.len PySem.boot_len (pa_cons (pe_ix ix_tup (pv 1) pe_int (fun _ _ => rfl)) pa_nil)) pa_nil))) (pa_cons (pe_h hN hr (pa_cons (pv 1) pa_nil)) pa_nil)) (by rfl))
      (pss_cons (ps_set (i := 6) scOtherR.nd rfl (.inl rfl) (pe_h hF hr (pa_cons (pv 0) (pa_cons (pv 5) pa_nil))))
      (pss_cons (ps_set (i := 7) scOtherR.nd rfl (.inl rfl) (pe_ix ix_tup (pe_ix ix_tup (pv 1) (pv 3) (fun _ _ => rfl)) (pv 4) (fun _ _ => rfl)))
      (C8.pss_cut (ps_if (pt_cmpR op_eq (pv 2) pe_int (nomark _)) (pss_one (ps_set (i := 7) scOtherR.nd rfl (.inl rfl) (pv 6))) pss_nil)
      (C8.pss_cut (ps_if (PW.pt (pw_and (pt_cmpR op_eq (pv 2) pe_int (nomark _)) (pw_and1 (pt_cmpR op_gt (pe_callB call_len_seq (by rfl) B.len PySem.boot_len (pa_cons (pv 5) pa_nil)) pe_int (nomark _))))) (pss_one (ps_set (i := 7) scOtherR.nd rfl (.inl rfl) pe_non)) pss_nil)
      (C8.pss_cut (ps_if (PW.pt (pw_and (pt_cmpR op_eq (pv 2) pe_int (nomark _)) (pw_and1 (pt_cmpR op_gt (pe_callB call_len_seq (by rfl) B.len PySem.boot_len (pa_cons (pv 1) pa_nil)) pe_int (nomark _)))))
        (pss_cons (ps_set (i := 8) scOtherR.nd rfl (.inl rfl) (pe_op op_catA (pe_slice sl_tupA (pv 1) po_none (po_some (pv 3))) (pe_slice sl_tupA (pv 1) (po_some (pe_op op_add (pv 3) pe_int)) po_none)))
        (pss_one (ps_ret (pe_ifExp (pt_cmpR (op_neD hr.units) (pe_h hN hr (pa_cons (pv 8) pa_nil)) (pe_lst pa_nil) (nomark _)) (pv 8) (pv 1))))) pss_nil)
      (C8.pss_cut (ps_if (PW.pt (pw_and (pt_cmpR op_eq (pv 2) pe_int (nomark _)) (pw_and1 (pt_cmpR op_lt (pe_callB call_len_seq (by rfl) B.len PySem.boot_len (pa_cons (pv 1) pa_nil)) pe_int (nomark _)))))
        (pss_one (ps_ret (pe_op op_catA (pv 1) (pe_tup (pa_cons (pe_op op_repN (pe_tup (pa_cons pe_non pa_nil)) (pe_callB call_len_seq (by rfl) B.len PySem.boot_len (pa_cons (pe_ix ix_tup (pv 1) pe_int (fun _ _ => rfl)) pa_nil))) pa_nil))))) pss_nil)
      (pss_cons (ps_if (pt_cmpR op_eq (pv 2) pe_int (nomark _)) (pss_one (ps_ret (pe_revT (pv 1)))) pss_nil)
      (pss_cons (ps_if (pt_cmpR op_eq (pv 2) pe_int (nomark _)) (pss_one (ps_ret (pe_callTy call_tuple_of (by rfl) B.tuple (by decide +kernel) (pa_cons (pe_lc (own := [("_law_line", 9)]) (g := gName 9) (tt := tYes) (te := tRevT K (tVar 9)) rfl scOtherR.nd (pi_tup (pv 1)) (blkOk_by (N := nOtherR) (sc := defScope sOtherR) (by decide +kernel)) (fun _ _ _ _ _ => pg_name (i := 9) scOtherR.nd rfl (.inl rfl)) (fun _ _ _ _ _ => pts_nil) (fun _ _ _ _ _ => pe_revT (pv 9))) pa_nil)))) pss_nil)
      (pss_cons (ps_set (i := 9) scOtherR.nd rfl (.inl rfl) (pe_op op_catA (pe_op op_catA (pe_slice sl_tupA (pe_ix ix_tup (pv 1) (pv 3) (fun _ _ => rfl)) po_none (po_some (pv 4))) (pe_tup (pa_cons (pv 7) pa_nil))) (pe_slice sl_tupA (pe_ix ix_tup (pv 1) (pv 3) (fun _ _ => rfl)) (po_some (pe_op op_add (pv 4) pe_int)) po_none)))
      (pss_one (ps_ret (pe_op op_catA (pe_op op_catA (pe_slice sl_tupA (pv 1) po_none (po_some (pv 3))) (pe_tup (pa_cons (pv 9) pa_nil))) (pe_slice sl_tupA (pv 1) (po_some (pe_op op_add (pv 3) pe_int)) po_none)))))))))))))), ?_⟩
    obtain ⟨as, hL, hR⟩ := id hG
    have lenA : as.length = g.length := hR.length
    have h6 := gd.h6
    have h1 := gd.h1
    have w6 := gd.w6
    have w1 := gd.w1
    have lenL : ((as.map V.ref).length : Int) = g.length := by rw [List.length_map, lenA]
    obtain ⟨pys, hpu⟩ := hA.lst
    refine ⟨_, rfl, a, 7, rfl, hA, by decide, by decide, fun way H1 y0 y1 hA1 x1 _ => ?_⟩
    have hL1 := tk_x x1 hpu _ _ hL
    refine ⟨_, rfl, _, rfl, L, _, rfl, .inr (.inl (.inl hL1)), a, _, rfl, hA1, by rw [lenL]; omega, by rw [lenL]; omega, fun ri H2 z0 z1 hA2 x2 _ => ⟨_, _, rfl, ?_⟩⟩
    rw [lenL] at z1
    have x02 := x1.trans x2
    have hR2 := hR.keep (tk_x x02 hpu)
    have hL2 := tk_x x02 hpu _ _ hL
    -- the first row
    obtain ⟨g0, hg0⟩ : ∃ g0, g[0]? = some g0 := ⟨g[0], List.getElem?_eq_getElem (by omega)⟩
    obtain ⟨p0, hp0, hH0⟩ := hR2.get2 hg0
    have hl0 := gd.rows _ (List.mem_of_getElem? hg0)
    -- the column, the names, a new one
    refine ⟨_, rfl, _, rfl, L, _, 0, .ref p0, rfl, rfl, .inl (.inl hL2), atI_nat (j := 0) (by rw [List.getElem?_map, hp0]; rfl), p0, _, rfl, .inr (.inl (.inl hH0)), a, _, rfl, hA2, by rw [List.length_map, hl0]; omega, by rw [List.length_map, hl0]; omega, fun ci H3 v0 v1 hA3 x3 _ => ?_⟩
    rw [List.length_map, hl0] at v1
    have x03 := x02.trans x3
    have hR3 := hR.keep (tk_x x03 hpu)
    have hL3 := tk_x x03 hpu _ _ hL
    refine ⟨_, rfl, L, g, wd, rfl, ⟨as, hL3, hR3⟩, gd.sized, fun tw H4 ntw s4 htw => ⟨_, _, rfl, ?_⟩⟩
    have hA4 := hA3.same s4
    have nta : tw ≠ a := hA3.ne ntw
    refine ⟨_, rfl, _, rfl, a, tw, _, rfl, hA4, htw, nta, by rw [sortS_len]; exact few, fun fr H5 wfr nfr hA5 x5 => ?_⟩
    have nfr' : fr ∉ names g := fun e => nfr (mem_sortS.mpr e)
    have htw5 := x5 _ _ nta htw
    have x05 : SameX a H H5 := (x03.trans (sx s4)).trans x5
    have hR5 := hR.keep (tk_x x05 hpu)
    have hL5 := tk_x x05 hpu _ _ hL
    obtain ⟨r, rfl⟩ : ∃ r : Nat, ri = (r : Int) := ⟨ri.toNat, by omega⟩
    obtain ⟨c, rfl⟩ : ∃ c : Nat, ci = (c : Int) := ⟨ci.toNat, by omega⟩
    have hrg : r < g.length := by omega
    obtain ⟨row, hrow⟩ : ∃ row, g[r]? = some row := ⟨g[r], List.getElem?_eq_getElem hrg⟩
    obtain ⟨pr, hpa, hpr⟩ := hR5.get2 hrow
    have hrl := gd.rows _ (List.mem_of_getElem? hrow)
    have hcr : c < row.length := by omega
    have hcu : row[c]? = some row[c] := List.getElem?_eq_getElem hcr
    refine ⟨_, rfl, _, rfl, L, _, _, .ref pr, rfl, rfl, .inl (.inl hL5), at_of (j := r) rfl (by rw [List.getElem?_map, hpa]; rfl), _, rfl, pr, _, _, oV row[c], rfl, rfl, .inl (.inl hpr), at_of (j := c) rfl (by rw [List.getElem?_map, hcu]; rfl), ?_⟩
    have ok0 : PartOk g r c row[c] := .inl ⟨row, hrow, hcu⟩
    generalize row[c] = o0 at ok0
    refine ⟨fun σ H' => H' = H5 ∧ ∃ o, PartOk g r c o ∧ σ = [some (.ref a), some (.ref L), some (.int way), some (.int (r : Nat)), some (.int (c : Nat)), some (.ref tw), some (.str fr), some (oV o), none, none], ?_, ?_⟩
    · refine ⟨_, rfl, rfl, _, rfl, ite_b (fun e => ?_) (fun e => ?_)⟩
      · exact ⟨_, rfl, rfl, some fr, .inr (.inl ⟨fr, rfl, wfr, nfr'⟩), rfl⟩
      · exact ⟨rfl, o0, ok0, rfl⟩
    rintro σ H' ⟨rfl, o1, ok1, rfl⟩
    refine ⟨fun σ H'' => H'' = H' ∧ ∃ o, PartOk g r c o ∧ σ = [some (.ref a), some (.ref L), some (.int way), some (.int (r : Nat)), some (.int (c : Nat)), some (.ref tw), some (.str fr), some (oV o), none, none], ?_, ?_⟩
    · refine ⟨_, rfl, rfl, _, rfl, ite_b (fun e => ?_) (fun e => iteF ⟨rfl, o1, ok1, rfl⟩)⟩
      refine ⟨_, rfl, tw, _, rfl, .inl (.inl (.inl htw5)), _, _, rfl, rfl, _, rfl, ite_b (fun e2 => ?_) (fun e2 => ⟨rfl, o1, ok1, rfl⟩)⟩
      refine ⟨rfl, none, .inr (.inr ⟨rfl, ?_⟩), rfl⟩
      have : (1 : Int) < (((sortS (names g)).map V.str).length : Int) := of_decide_eq_true e2
      rw [List.length_map, sortS_len] at this
      omega
    rintro σ H'' ⟨rfl, o, ok, rfl⟩
    -- a row less
    refine ⟨fun σ H' => H' = H'' ∧ σ = [some (.ref a), some (.ref L), some (.int way), some (.int (r : Nat)), some (.int (c : Nat)), some (.ref tw), some (.str fr), some (oV o), none, none], ?_, ?_⟩
    · refine ⟨_, rfl, rfl, _, rfl, and_b (fun e3 => ?_) ⟨rfl, rfl⟩⟩
      refine ⟨_, rfl, L, _, rfl, .inr (.inl (.inl hL5)), _, _, rfl, rfl, _, rfl, ite_b (fun e3b => ?_) (fun _ => ⟨rfl, rfl⟩)⟩
      refine ⟨_, rfl, _, rfl, (r : Int), rfl, sl_reads hL5 fun v1 H6 s6 hv1 => ?_⟩
      refine ⟨_, rfl, _, rfl, _, _, rfl, rfl, ((r : Int) + 1), rfl, ?_⟩
      dsimp only [tNoPart]
      refine sl_reads (s6 _ _ hL5) fun v2 H7 s7 hv2 => ?_
      rw [cut_to, ← List.map_take] at hv1
      rw [show ((r : Int) + 1) = ((r + 1 : Nat) : Int) by omega, cut_from, ← List.map_drop] at hv2
      refine cat_reads (s7 _ _ hv1) hv2 (by
        simp only [List.length_append, List.length_map, List.length_take, List.length_drop]
        omega) fun M H8 s8 hM => ?_
      rw [← List.map_append] at hM
      have s58 := s6.trans (s7.trans s8)
      have hG8 : GridAt H8 M (g.take r ++ g.drop (r + 1)) := ⟨_, hM, Each.append (RowsAt.keep (each_take r hR5) (tk_same s58)) (RowsAt.keep (each_drop (r + 1) hR5) (tk_same s58))⟩
      have hsz : Sized (g.take r ++ g.drop (r + 1)) wd := by
        refine ⟨?_, w6, fun q hq => ?_⟩
        · simp only [List.length_append, List.length_take, List.length_drop]
          omega
        · rcases List.mem_append.mp hq with hq | hq
          · exact gd.rows q (List.mem_of_mem_take hq)
          · exact gd.rows q (List.mem_of_mem_drop hq)
      refine ⟨_, rfl, M, _, wd, rfl, hG8, hsz, fun t H9 nt s9 ht => ⟨lz, fun e he => ?_⟩⟩
      have s10 := same_new (o := .lst []) he
      have ht10 := s10 _ _ ht
      have he10 : upd H9 e (.lst []) e = some (.lst []) := upd_same
      have s810 := s9.trans s10
      generalize upd H9 e (.lst []) = H10 at ht10 he10 s810 s10
      have s510 := s58.trans s810
      generalize hgg : g.take r ++ g.drop (r + 1) = g' at hG8 hsz ht10
      by_cases hne : names g' = []
      · rw [hne, show sortS [] = [] from List.eq_nil_of_length_eq_zero (sortS_len [])] at ht10
        refine ⟨.list [], .list [], .lst (.inl (.inl ht10)) .nil, .lst (.inl (.inl he10)) .nil, rfl, rfl, _, rfl, iteF ?_⟩
        exact ⟨_, rfl, q L g wd _ gd ⟨as, s510 _ _ hL5, hR5.keep (tk_same s510)⟩ (hA5.same s510) (x05.trans (sx s510))⟩
      · have gd' : Good g' wd := by
          subst hgg
          exact short_good gd hne
        have hws : ∀ z ∈ sortS (names g'), IsWd z := fun z hz => gd'.wd z (mem_sortS.mp hz)
        have shN : SeqAt.shaped (.list ((sortS (names g')).map PyData.str)) = true := shaped_list (lay_strs hws) (by rw [depth_strs]; omega)
        have hno : PyData.eqv (.list ((sortS (names g')).map PyData.str)) (.list []) = false := by
          cases e : sortS (names g') with
          | nil =>
            have := sortS_len (names g')
            rw [e] at this
            exact absurd (List.eq_nil_of_length_eq_zero this.symm) hne
          | cons z zs => simp [PyData.eqv, PyData.eqvAll]
        refine ⟨.list ((sortS (names g')).map .str), .list [], .lst (.inl (.inl ht10)) (dp_strs _), .lst (.inl (.inl he10)) .nil, shN, rfl, _, rfl, ?_⟩
        rw [hno]
        exact iteT ⟨_, rfl, q M g' wd _ gd' (hG8.keep (tk_same s810)) (hA5.same s510) (x05.trans (sx s510))⟩
    rintro σ H' ⟨rfl, rfl⟩
    -- a row more
    refine ⟨fun σ H'' => H'' = H' ∧ σ = [some (.ref a), some (.ref L), some (.int way), some (.int (r : Nat)), some (.int (c : Nat)), some (.ref tw), some (.str fr), some (oV o), none, none], ?_, ?_⟩
    · refine ⟨_, rfl, rfl, _, rfl, and_b (fun e6 => ?_) ⟨rfl, rfl⟩⟩
      refine ⟨_, rfl, L, _, rfl, .inr (.inl (.inl hL5)), _, _, rfl, rfl, _, rfl, ite_b (fun e6b => ?_) (fun _ => ⟨rfl, rfl⟩)⟩
      have l6 : g.length < 6 := by
        have : (((as.map V.ref).length : Nat) : Int) < 6 := of_decide_eq_true e6b
        rw [lenL] at this
        omega
      have hH5 := tk_x (x3.trans ((sx s4).trans x5)) hA2.lst.choose_spec _ _ hH0
      refine ⟨_, rfl, lz, fun t1 ht1 => ?_⟩
      have s6 := same_new (o := .tup [V.non]) ht1
      have ht1' : upd H' t1 (.tup [V.non]) t1 = some (.tup [V.non]) := upd_same
      generalize upd H' t1 (.tup [V.non]) = H6 at s6 ht1' ⊢
      refine ⟨_, rfl, L, _, 0, .ref p0, rfl, rfl, .inl (.inl (s6 _ _ hL5)), atI_nat (j := 0) (by rw [List.getElem?_map, hp0]; rfl), p0, _, rfl, .inr (.inl (.inl (s6 _ _ hH5))), ?_⟩
      rw [List.length_map, hl0]
      refine rep_reads ht1' w1 (by omega) fun t2 H7 s7 ht2 => ⟨lz, fun t3 ht3 => ?_⟩
      have s8 := same_new (o := .tup [V.ref t2]) ht3
      have s68 := s6.trans (s7.trans s8)
      refine cat_reads (s68 _ _ hL5) upd_same (by simp only [List.length_map, List.length_cons, List.length_nil]; omega) fun M H9 s9 hM => ?_
      have s59 := s68.trans s9
      refine q M (g ++ [List.replicate wd none]) wd _ (more_good gd l6) ⟨as ++ [t2], by rw [hM, List.map_append]; rfl, Each.append (hR5.keep (tk_same s59)) (.cons ?_ .nil)⟩ (hA5.same s59) (x05.trans (sx s59))
      rw [List.map_replicate]
      exact (s8.trans s9) _ _ ht2
    rintro σ H'' ⟨rfl, rfl⟩
    -- turned about
    refine ⟨_, rfl, rfl, _, rfl, ite_b (fun e0 => ?_) (fun e0 => ?_)⟩
    · refine ⟨_, rfl, L, _, rfl, .inl (.inl hL5), fun M hM => ?_⟩
      refine q M g.reverse wd _ gd.rev ⟨as.reverse, ?_, RowsAt.keep (each_rev hR5) (tk_new hM)⟩ (hA5.same (same_new hM)) (x05.trans (sx (same_new hM)))
      rw [upd_same, List.map_reverse]
    refine ⟨_, rfl, rfl, _, rfl, ite_b (fun e1 => ?_) (fun e1 => ?_)⟩
    · refine ⟨_, rfl, L, rfl, ⟨_, .inl (.inl hL5)⟩, fun D hD => ?_⟩
      refine lc_rel (walk_tup (K := K) (a := L) (xs := as.map V.ref)) hD (fun _ => true) (fun x y H6 => ∀ (pr : Addr) (row : Row), x = .ref pr → H'' pr = some (.tup (row.map oV)) → ∃ t, y = .ref t ∧ H6 t = some (.tup (row.reverse.map oV))) (fun H6 s' => .inl (.inl (s' _ _ hL5))) (fun _ => rfl) (fun x H6 _ _ Q' q' => q') ?_ ?_ ?_ ?_
      · intro x H6 hx _ s' Q' q'
        obtain ⟨pr, hpr, rfl⟩ := List.mem_map.mp hx
        obtain ⟨i, hi, ei⟩ := List.mem_iff_getElem.mp hpr
        obtain ⟨row, hrow, hH⟩ := hR5.get (i := i) (a := pr) (by rw [List.getElem?_eq_getElem hi, ei])
        refine ⟨_, rfl, pr, _, rfl, .inl (.inl (s' _ _ hH)), fun t ht => q' _ _ (same_new ht) fun pr2 row2 e2 h2 => ⟨t, rfl, ?_⟩⟩
        obtain rfl : pr = pr2 := V.ref.inj e2
        rw [hH] at h2
        have : row = row2 := map_oV_inj (HO.tup.inj (Option.some.inj h2))
        rw [upd_same, ← this, List.map_reverse]
      · intro x y H6 H7 acc hacc xs' r pr row e h
        obtain ⟨t, rfl, ht⟩ := r pr row e h
        exact ⟨t, rfl, xs' _ _ (ne_of ht hacc (by intro z; cases z)) ht⟩
      · rw [List.length_map]
        exact small1000 (by omega)
      · intro zs H6 s6 hD6 he
        rw [List.filter_eq_self.mpr fun _ _ => rfl] at he
        obtain ⟨bs, rfl, hb⟩ := revs_of hR5 he
        refine ⟨D, _, rfl, .inl ⟨.inl (.inl hD6), fun M hM => ?_⟩⟩
        exact q M _ wd _ gd.mrev ⟨bs, upd_same, hb.keep (tk_new hM)⟩ ((hA5.same s6).same (same_new hM)) (x05.trans (sx (s6.trans (same_new hM))))
    -- one part otherwise
    have atr : atI (as.map V.ref) ((r : Nat) : Int) = some (.ref pr) := at_of (j := r) rfl (by rw [List.getElem?_map, hpa]; rfl)
    refine ⟨_, rfl, _, rfl, L, _, _, _, rfl, rfl, .inl (.inl hL5), atr, _, rfl, (c : Int), rfl, sl_reads hpr fun u1 H9 s9 hu1 => ?_⟩
    refine ⟨_, rfl, lz, fun u2 hu2 => ?_⟩
    have s10 := same_new (o := .tup [oV o]) hu2
    refine cat_reads (s10 _ _ hu1) upd_same (by
      have := cutV_length (row.map oV) none (some (c : Int))
      rw [List.length_map] at this
      simp only [List.length_cons, List.length_nil]
      omega) fun u3 H11 s11 hu3 => ?_
    have s811 := s9.trans (s10.trans s11)
    refine ⟨_, rfl, _, rfl, L, _, _, _, rfl, rfl, .inl (.inl (s811 _ _ hL5)), atr, _, rfl, _, _, rfl, rfl, ((c : Int) + 1), rfl, ?_⟩
    dsimp only [tNoPart]
    refine sl_reads (s811 _ _ hpr) fun u4 H12 s12 hu4 => ?_
    rw [cut_to, ← List.map_take] at hu3
    rw [show ((c : Int) + 1) = ((c + 1 : Nat) : Int) by omega, cut_from, ← List.map_drop] at hu4
    refine cat_reads (s12 _ _ hu3) hu4 (by
      simp only [List.length_append, List.length_map, List.length_take, List.length_drop, List.length_cons, List.length_nil]
      omega) fun ln H13 s13 hln => ?_
    have eln : (List.map oV (row.take c) ++ [oV o]) ++ List.map oV (row.drop (c + 1)) = (row.take c ++ o :: row.drop (c + 1)).map oV := by
      rw [List.map_append, List.map_cons, List.append_assoc]
      rfl
    rw [eln] at hln
    have s13' := s811.trans (s12.trans s13)
    have hL13 := s13' _ _ hL5
    have hR13 := hR5.keep (tk_same s13')
    clear hu1 hu2 s10 s11 hu3 hu4
    refine ⟨_, rfl, _, rfl, (r : Int), rfl, sl_reads hL13 fun v1 H14 s14 hv1 => ?_⟩
    refine ⟨_, rfl, lz, fun v2 hv2 => ?_⟩
    have s15 := same_new (o := .tup [V.ref ln]) hv2
    refine cat_reads (s15 _ _ hv1) upd_same (by
      have := cutV_length (as.map V.ref) none (some (r : Int))
      rw [List.length_map] at this
      simp only [List.length_cons, List.length_nil]
      omega) fun v3 H16 s16 hv3 => ?_
    have s1316 := s14.trans (s15.trans s16)
    refine ⟨_, rfl, _, rfl, _, _, rfl, rfl, ((r : Int) + 1), rfl, ?_⟩
    dsimp only [tNoPart]
    refine sl_reads (s1316 _ _ hL13) fun v4 H17 s17 hv4 => ?_
    rw [cut_to, ← List.map_take] at hv3
    rw [show ((r : Int) + 1) = ((r + 1 : Nat) : Int) by omega, cut_from, ← List.map_drop] at hv4
    refine cat_reads (s17 _ _ hv3) hv4 (by
      simp only [List.length_append, List.length_map, List.length_take, List.length_drop, List.length_cons, List.length_nil]
      omega) fun M H18 s18 hM => ?_
    have eM : (List.map V.ref (as.take r) ++ [V.ref ln]) ++ List.map V.ref (as.drop (r + 1)) = (as.take r ++ ln :: as.drop (r + 1)).map V.ref := by
      rw [List.map_append, List.map_cons, List.append_assoc]
      rfl
    rw [eM] at hM
    have s1318 := s1316.trans (s17.trans s18)
    have sAll := s13'.trans s1318
    refine q M (putG g r c row o) wd _ (put_good gd hrow hcr ok) ⟨_, hM, Each.append ?_ (.cons (s1318 _ _ hln) ?_)⟩ (hA5.same sAll) (x05.trans (sx sAll))
    · exact RowsAt.keep (each_take r hR13) (tk_same s1318)
    · exact RowsAt.keep (each_drop (r + 1) hR13) (tk_same s1318)
end
end Wl

/-! Promises of defs that are kept where no text of a list, tuple or dict is being made around them: what repr of a list needs. -/
namespace Wl
open PySem PySem.Spec PyProof.Rows L2
structure FnOkG (P : Program) (w : World) (K : PySem.W.Frag) (mg : Str → Option Value) (base : Heap) (k : Nat) (f : Addr) (fd : FuncData) (ps : List Str) (sp : Sp) : Prop where
  len : ∀ vs H Q E, sp vs H Q E → vs.length = ps.length
  run : ∀ (A : Around) (outer : List Env) (s : Shared) (H : Hp) (args : Args) (us : List Value) (vs : List V) (Q : VK) (E : XK), A.guards = some [] → Room k A →
    Env0 P w K mg base A outer s H → BindsTo s fd args (ps.zip us) → Vals vs us → sp vs H Q E → codeAny (model P w) A (.call (.ref f) args) (CR CX0 outer P w H s Q E) s
section
variable {P : Program} {w : World} {K : PySem.W.Frag} {mg : Str → Option Value} {base : Heap} {k : Nat} {f : Addr} {fd : FuncData} {ps N : List Str} {sp : Sp}
theorem FnOkG.of (F : FnOk P w K mg base CX0 k f fd ps sp) : FnOkG P w K mg base k f fd ps sp := ⟨F.len, fun A o s H ar us vs Q E _ => F.run A o s H ar us vs Q E⟩
/-- a def's promise by its body, no such text being made -/
theorem okG {x qual : Str} {st : Stmt} (F : Fun K x qual st f fd) (S : FnScope N ps (defScope st)) (ln : ∀ vs H Q E, sp vs H Q E → vs.length = ps.length)
    (bd : ∀ (cdv : Value) (A : Around) (outer : List Env) (s : Shared) (H : Hp) (vs : List V) (Q : VK) (E : XK), A.guards = some [] → Room k (A.deeper (envOfC qual (defScope st) s.heap.objs.size f cdv)) → sp vs H Q E →
      ∃ t, PSs (cxOf CX0 P w K mg base N qual (defScope st) f cdv A outer s H E).nox (defBody st) t ∧ t { nx := fun _ H' => Q .non H', rt := Q } (start N vs) H) : FnOkG P w K mg base (k + 1) f fd ps sp := by
  obtain ⟨oc, od, kV, doc, pm, an, cd, ct, sl, rfl, at_, hc⟩ := F.ex
  refine ⟨ln, fun A ou s H ar us vs Q E hg room ev bnd rel pr => ?_⟩
  have lv := ln _ _ _ _ pr
  have inK : K.In s.heap := ev.mod.kin.keeps fun b o q => (ev.bs b o q).1
  have nol : s.heap.NoLimit := ev.mod.nolimit.keeps fun b o q => (ev.bs b o q).1
  refine codeAny_call_function room.depth (inK _ _ at_) rfl S.co S.gen rfl (PySem.W.codeRec_of inK hc) (bnd _ _ _ _ ?_)
  refine wpAny_newFunctionEnv_cells S.kind (fun y hy => ?_) fun env ee s1 ic => ?_
  · rcases S.par y.1 (List.of_mem_zip hy).1 with q | q
    · exact .inl q
    · exact .inr ⟨q, PySem.W.cellsFrom_some _ _ _ (.inl q)⟩
  · subst ee
    refine ⟨nol.keeps ic.toInCall.keep, codeAny_func ?_⟩
    obtain ⟨t, der, rd⟩ := bd cd A ou s H vs Q E hg (room.deeper _) pr
    have J0 : L2.Inv (cxOf CX0 P w K mg base N qual (defScope st) f cd A ou s H E) [] (start N vs) H s1 := inv_start S room.hd ev lv rel ic
    refine wpAny_mono (der.nox.run [] s1 (start N vs) H _ J0 rd) (fun fl s2 z => ?_) fun _ _ z => z
    cases fl with
    | ret u => exact let ⟨v, _, H2, J, rv, q⟩ := z; ⟨v, H2, J.os, J.bare, J.base, J.hok, rv, q⟩
    | next => exact let ⟨_, H2, J, q⟩ := z; ⟨V.non, H2, J.os, J.bare, J.base, J.hok, rfl, q⟩
    | brk => exact let ⟨_, _, _, q⟩ := z; q.elim
    | cont => exact let ⟨_, _, _, q⟩ := z; q.elim
/-- such a def by its name -/
def HasQ (P : Program) (w : World) (K : PySem.W.Frag) (mg : Str → Option Value) (base : Heap) (x : Str) (k : Nat) (ps : List Str) (sp : Sp) : Prop :=
  ∃ f fd, FnOkG P w K mg base k f fd ps sp ∧ mg x = some (.ref f) ∧ PySem.W.keepIn K (.ref f) = true ∧ Binds K fd ps []
end
section
variable {X : Cx} {k j : Nat} {ps : List Str} {sp : Sp} {x : Str} {p pos : Pos} {e : Expr} {es : List Expr} {t : TA}
theorem pe_hQ (h : HasQ X.prog X.w X.K X.mg X.base x k ps sp) (hgd : X.A.guards = some []) (hr : Room j X.A) (ha : PA X (e :: es) t) (hkj : k ≤ j := by decide) (hg : Gl X x := by rfl) (hdb : (x == ("__debug__" : Str)) = false := by decide)
    (he : starEach (e :: es) X.env = (false, eval e X.env) :: starEach es X.env := by rfl) (hpl : (backTo pos (starEach es X.env)).any (·.1) = false := by rfl) :
    PE X (.Call (.Name x p) (e :: es) [] pos) (tCall sp [] E0 t) := by
  obtain ⟨f, fd, F, g, kp, b⟩ := h
  refine ⟨fun pins s σ H Q I hh => ?_⟩
  refine wpAny_Call_Name_kw (ld_glob I hg g ?_ hdb)
  refine PySem.W.callWith_K (h₀ := X.base) I.ok.mod.kin kp (thn (ha.run pos pins s σ H _ I hh) fun us s1 ⟨vs, H1, I1, r, q⟩ => ⟨I1.kIn, ?_⟩) he hpl
  have q' : sp vs H1 Q E0 := by
    have z : sp (vs ++ []) H1 Q E0 := q
    rw [List.append_nil] at z
    exact z
  have hl := F.len _ _ _ _ q'
  have hb' : BindsTo s1 fd ⟨us, []⟩ (ps.zip us) := by
    have z := b s1 us I1.kIn (by rw [List.append_nil, ← r.length]; exact hl)
    rw [List.append_nil] at z
    exact z
  refine wpAny_call (codeAny_mono (F.run X.A X.stack s1 H1 ⟨us, []⟩ us vs _ E0 hgd (hr.mono hkj) I1.env0 hb' r q') fun r s' hq => ?_)
  cases r with
  | error e => exact pass0 pins σ H1 s1 e s' I1 hq
  | ok fl =>
    cases fl with
    | ret w => exact I1.after hq
    | next => exact hq.elim
    | brk => exact hq.elim
    | cont => exact hq.elim
end
/-- the law's own call, by such a promise -/
theorem law_callG {P : Program} {w : World} {K : PySem.W.Frag} {mg mb : Str → Option Value} {k : Nat} {fa a : Addr} {fd : FuncData} {x : Str} {sp : Sp} {s₁ : Shared} {vs : List Value} {ns : List Int}
    (KX : K.In s₁.heap) (hns : s₁.heap.Ns mainGlobals mg) (hb : s₁.heap.Ns builtinsNs mb) (hbb : ∀ x : Str, x ≠ "__name__" → mb x = bootBuiltins x) (lim : s₁.heap.NoLimit) (gens : s₁.gens = #[])
    (ha : s₁.heap.get? a = some { cls := .type "list", data := .seq vs.toArray }) (hi : IntsAre vs ns) (hl : ns.length ≤ sizeLine) (room : Room k callerA)
    (F : ∀ base : Heap, K.In base → base.Ns mainGlobals mg → FnOkG P w K mg base k fa fd [x] sp) (bnd : ∀ (s : Shared) (u : Value), BindsTo s fd ⟨[u], []⟩ [(x, u)])
    (pr : ∀ H : Hp, Only H → SqL K H a (ns.map V.int) → sp [.ref a] H (fun v _ => v = .bl true) E0) :
    codeAny (model P w) callerA (.call (.ref fa) ⟨[.ref a], []⟩) (fun r s' => r = .ok (.ret (.bool true)) ∧ OldK s₁.heap s'.heap ∧ s'.os = s₁.os ∧ AllBare s'.gens) s₁ := by
  have rv := vals_ints hi
  have main : ∀ H : Hp, Only H → SqL K H a (ns.map V.int) → HOk P w H s₁.heap → (∀ b u, H b = some u → b = a ∧ K.lookup a = none) →
      codeAny (model P w) callerA (.call (.ref fa) ⟨[.ref a], []⟩) (fun r s' => r = .ok (.ret (.bool true)) ∧ OldK s₁.heap s'.heap ∧ s'.os = s₁.os ∧ AllBare s'.gens) s₁ := by
    intro H only sq hok own
    have free : ∀ b, (b = a → K.lookup a ≠ none) → H b = none := fun b hn => by
      cases q : H b with
      | none => rfl
      | some u => exact absurd (own b u q).2 (hn (own b u q).1)
    have dictN : ∀ {b : Addr} {o : Obj} {es : Array DictEntry} {ep : Nat}, s₁.heap.get? b = some o → o.data = .dict es ep → H b = none := fun {b o es ep} e d => by
      cases q : H b with
      | none => rfl
      | some u =>
        obtain ⟨rfl, _⟩ := own b u q
        rw [ha] at e
        cases e
        cases d
    have nsB : ∀ {b : Addr} {m : Str → Option Value}, s₁.heap.Ns b m → (hidT s₁.heap H).Ns b m := fun {b m} ⟨o, es, ep, e, d, r⟩ => ⟨o, es, ep, hidT_get e (dictN e d), d, r⟩
    have kB : K.In (hidT s₁.heap H) := fun b o e => hidT_get (KX b o e) (free b fun z q => by rw [z, q] at e; cases e)
    have md : Mod K mg (hidT s₁.heap H) := ⟨kB, nsB hns, ⟨mb, nsB hb, hbb⟩, let ⟨mc, h1, h2⟩ := lim; ⟨mc, nsB h1, h2⟩⟩
    have ev : Env0 P w K mg (hidT s₁.heap H) callerA [] s₁ H := ⟨rfl, md, fun _ _ e => of_hidT e, Nat.le_of_eq (hidT_size _ _), trivial, fun b z => absurd (show b ∈ ([] : List Addr) from z) (by simp), hok, .of_eq gens⟩
    refine codeAny_mono ((F _ kB (nsB hns)).run callerA [] s₁ H ⟨[.ref a], []⟩ [.ref a] [.ref a] _ _ rfl room ev (bnd s₁ (.ref a)) (.cons rfl .nil) (pr H only sq)) fun r s' h => ?_
    match r, h with
    | .error e, h => exact (show False from h).elim
    | .ok .next, h => exact h.elim
    | .ok .brk, h => exact h.elim
    | .ok .cont, h => exact h.elim
    | .ok (.ret u), ⟨v, H', os, bare, un, hok', r', q⟩ =>
      obtain rfl : v = .bl true := q
      obtain rfl : u = Value.bool true := r'
      refine ⟨rfl, OldK.of_keep fun b o e => ?_, os, bare⟩
      rcases only b with z | ⟨ob, xs, z⟩
      · exact un.keep b o e z (fun y => absurd (show b ∈ ([] : List Addr) from y) (by simp)) (by simp)
      · have e1 := (hok b _ z).1
        rw [e] at e1
        cases e1
        exact (hok' b _ (un.frzs b _ _ z)).1
  cases hk : K.lookup a with
  | some o =>
    have e := KX a o hk
    rw [ha] at e
    cases e
    refine main (fun _ => none) (fun _ => .inl rfl) (.inr ⟨_, vs.toArray, _, hk, rfl, rfl, rfl, ?_, by simpa using rv⟩) (fun b u z => nomatch z) fun b u z => nomatch z
    rw [List.size_toArray, hi.length]
    exact hl
  | none =>
    have at_ : ∀ b u, (if b = a then some (HO.frz { cls := .type "list", data := .seq vs.toArray } (.lst (ns.map V.int))) else none) = some u → b = a ∧ u = HO.frz { cls := .type "list", data := .seq vs.toArray } (.lst (ns.map V.int)) := fun b u z => by
      by_cases c : b = a
      · rw [if_pos c] at z
        exact ⟨c, (Option.some.inj z).symm⟩
      · rw [if_neg c] at z
        cases z
    refine main (fun b => if b = a then some (.frz { cls := .type "list", data := .seq vs.toArray } (.lst (ns.map V.int))) else none) (fun b => ?_) (.inl (.inr ⟨_, if_pos rfl⟩)) (fun b u z => ?_) fun b u z => ⟨(at_ b u z).1, hk⟩
    · by_cases c : b = a
      · exact .inr ⟨_, _, if_pos c⟩
      · exact .inl (if_neg c)
    · obtain ⟨rfl, rfl⟩ := at_ b u z
      exact ⟨ha, by rw [List.length_map]; exact hl, vs, _, rv, ha⟩
theorem walk_ofG {l : PySem.W.OpenLaw} {n k : Nat} {q : Program} {loose : List Str} {XP : (Str → Option Value) → Heap → Prop} {YP : World → Heap → Prop} {d : DefRec} {x : Str}
    (hn : l.most = some n) (hn2 : n ≤ sizeLine) (hdf : d.params.defaults = []) (hr : Room k callerA)
    (F : ∀ (w : World) (mg : Str → Option Value) (fa : Addr) (h : Heap), YP w h → h.Ns mainGlobals mg → mg d.name = some (.ref fa) →
      ∃ (K : PySem.W.Frag) (fd : FuncData) (sp : Sp), K.In h ∧ (∀ (s : Shared) (u : Value), BindsTo s fd ⟨[u], []⟩ [(x, u)]) ∧ (∀ (H : Hp) (a : Addr) (ns : List Int), ns.length ≤ n → Only H → SqL K H a (ns.map V.int) → sp [.ref a] H (fun v _ => v = .bl true) E0) ∧
        ∀ base : Heap, K.In base → base.Ns mainGlobals mg → FnOkG l.prog w K mg base k fa fd [x] sp) :
    PySem.W.WalkO q loose XP YP l.row.toRowW d [] (fun f vs => PySem.call f vs) := by
  refine Att.attach_call hn hdf fun w s₀ s₁ mg mb fa o pm cd doc a vs ns G Y ho hd hcd hmg hobj hints hlen hg => ?_
  obtain ⟨K, fd, sp, inK, bnd, pr, keeps⟩ := F w mg fa _ Y G.T.g hmg
  exact law_callG inK G.T.g G.T.b G.T.builtins G.T.nolimit hg hobj hints (Nat.le_trans hlen hn2) hr keeps bnd fun H only sq => pr H a ns hlen only sq
end Wl

/-! repr([x]), x of an own class with a __repr__ of its own -/
namespace Wl
open PySem PySem.Spec PyProof.Rows L2
section
variable {prog : Program} {w : World} {A : Around} {E : Value → Shared → Prop} {s : Shared} {K : PySem.W.Frag} {x C f : Addr} {ox : Obj} {od : Option Obj}
theorem under_own {b : Nat} {Q : Str → Shared → Prop} (hb : b ≤ sizeLine) (hu : A.units < cLine) (X : K.In s.heap) (I : PySem.W.InstAt s.heap x ox C od) (hs : PySem.W.findIn K (.ref C) "__repr__" = some (some (.ref f))) (hf : PySem.W.isFn K (.ref f) = true)
    (h : wpAny (model prog w) A (call (.ref f) [.ref x]) (fun v s' => ∃ z u, v = .str z u ∧ Q z s') E s) : wpAny (model prog w) A (pyReprUnder b (.ref x)) Q E s := by
  refine wpAny_pyReprUnder_ref hb ?_
  unfold pyReprObjUnder pyReprObjBy
  refine wpAny_bind (wpAny_cRoomFor hu ?_)
  refine wpAny_bind (wpAny_bind (I.type.here ((PySem.W.looks_findIn X hs).here ?_)))
  show wpAny _ _ (if (some (Value.ref f)).isNone = true then _ else _) _ _ _
  rw [if_neg (by simp)]
  refine wpAny_bind (m := callSpecialIfBoundBy? _ (.ref x) (Str.ofString "__repr__")) ?_
  have fin : wpAny (model prog w) A (call (.ref f) [.ref x] >>= fun v => pure (some v)) (fun (r : Option Value) s' => wpAny (model prog w) A (match r with
      | some r => do if ← isInstance r (.type "str") then pure r else raiseError "TypeError" s!"__repr__ returned non-string (type {← typeNameOf r})"
      | none => unsupported "repr:special-get-raises") (fun v s' => ∃ y u, v = .str y u ∧ Q y s') E s') E s :=
    wpAny_bind (wpAny_mono h (fun v s' hv => by
      obtain ⟨z, u, rfl, q⟩ := hv
      refine wpAny_pure ?_
      exact wpAny_bind (wpAny_isInstance (T := "str") (b := true) rfl isSubtype_str_str (wpAny_pure ⟨z, u, rfl, q⟩))) fun _ _ e => e)
  simp only [callSpecialIfBoundBy?, bindSpecialIfBound?]
  refine wpAny_holding (wpAny_bind (wpAny_bind (wpAny_bind (I.type.here ((PySem.W.looks_findIn X hs).here ?_)))))
  refine wpAny_bind (wpAny_askSetting (wpAny_ite ?_))
  split
  · exact wpAny_bind ((PySem.W.bind_fn X _ (beq_iff_eq.mp hf)).here (wpAny_pure (by exact fin)))
  · exact wpAny_tryCatch (wpAny_bind ((PySem.W.bind_fn X _ (beq_iff_eq.mp hf)).here (wpAny_pure (by exact fin))))
/-- the text of a list of one, by the text of that one -/
theorem repr_one {a : Addr} {v : Value} {n : Nat} {Q : Value → Shared → Prop} (hg : A.guards = some []) (ha : s.heap.get? a = some { cls := .type "list", data := .seq #[v] n })
    (h : wpAny (model prog w) (A.under (.builtin "list.__repr__.loop" ⟨[.ref a, rawInt 0, .ref s.heap.objs.size, rawInt 0], []⟩)) (pyReprUnder 1 v) (fun z s' => z.length ≤ 1000 ∧ (∃ m, s'.heap.get? a = some { cls := .type "list", data := .seq #[v] m }) ∧
      (∃ c, s'.heap.get? s.heap.objs.size = some { cls := .type "list", data := .seq #[] c }) ∧ ∀ h' u tk, (∀ b o, b ≠ s.heap.objs.size → s'.heap.get? b = some o → h'.get? b = some o) → (∃ t c, h'.get? s.heap.objs.size = some { cls := .type "list", data := .seq #[.str z t] c }) → Q (.str (listText [z]) u) { s' with heap := h', toks := tk }) E { s with heap := s.heap.push { cls := .type "list", data := .seq #[] } }) :
    wpAny (model prog w) A (call (.builtin "list.__repr__") [.ref a]) Q E s := by
  have hT : s.TypeIs (.ref a) "list" := ⟨_, ha, rfl⟩
  have hne : a ≠ s.heap.objs.size := Nat.ne_of_lt (Heap.lt_size ha)
  refine wpAny_call (codeAny_call_builtin PySem.F.slot_list_repr.plain PySem.F.entry_list_repr (PySem.F.slot_list_repr.check _ _ _ _ _ _ _ _ hT (PySem.F.args_list_repr_1 _) ?_))
  refine wpAny_list_repr_head (A := A.in1) (b := 0) (x := v) (l := []) hg (fun _ _ _ z => nomatch z) ha rfl ?_
  refine wpAny_bind (m := newList []) (wpAny_newObj_type ?_)
  refine wpAny_pure ⟨PySem.F.quiet_list_repr_loop _, codeAny_builtin PySem.F.entry_list_repr_loop ?_⟩
  show wpAny _ _ (Builtin.«list.__repr__.loop» ⟨[.ref a, .int 0 0, .ref s.heap.objs.size, .int 0 0], []⟩) _ _ _
  rw [repr_loop_tree]
  refine wpAny_bind (wpAny_listItems (Heap.get?_push_of_some _ ha) rfl ?_)
  show wpAny _ _ (do
    let s ← holding [v] (pyReprUnder 1 v)
    let signs := (0 : Int).toNat + (s.length + 2)
    let r ← mkStr s
    Builtin.List.listUpdate (.ref _) (·.push r)
    again (.builtin "list.__repr__.loop" ⟨[.ref a, rawInt (0 + 1), .ref _, rawInt signs], []⟩)) _ _ _
  refine wpAny_bind (wpAny_holding (wpAny_mono h (fun z s2 hz => ?_) fun _ _ e => e))
  obtain ⟨hl, ⟨m, ha2⟩, ⟨c, hp2⟩, q⟩ := hz
  refine wpAny_bind (wpAny_mkStr ?_ (lzl hl))
  refine wpAny_bind ?_
  show wpAny _ _ (updateSeq s.heap.objs.size _) _ _ _
  refine wpAny_updateSeq hp2 rfl (wpAny_pure ⟨PySem.F.quiet_list_repr_loop _, codeAny_builtin PySem.F.entry_list_repr_loop ?_⟩) (Nat.zero_le _)
  show wpAny _ _ (Builtin.«list.__repr__.loop» ⟨[.ref a, .int 1 0, .ref s.heap.objs.size, .int _ 0], []⟩) _ _ _
  rw [repr_loop_tree]
  refine wpAny_bind (wpAny_listItems ((Heap.get?_update_other _ _ hne.symm).trans ha2) rfl ?_)
  show wpAny _ _ (reprEnd (.ref s.heap.objs.size)) _ _ _
  unfold reprEnd
  refine wpAny_bind (wpAny_listItems (Heap.get?_update_self _ hp2 rfl) rfl ?_)
  have e1 : ((#[] : Array Value).push (.str z s2.toks)).toList = strValues [(z, s2.toks)] := rfl
  rw [e1, repr_fold]
  refine wpAny_bind (wpAny_pure ?_)
  have e2 : (listText [z]).length ≤ sizeLine := by
    refine lzl' ?_
    show (("[" : Str) ++ ("" : Str) ++ z ++ ("]" : Str)).length ≤ 1002
    rw [strLen_append, strLen_append, strLen_append]
    have : ("[" : Str).length = 1 := by decide +kernel
    have : ("]" : Str).length = 1 := by decide +kernel
    have : ("" : Str).length = 0 := by decide +kernel
    omega
  refine wpAny_bind (wpAny_mkStr (wpAny_pure ?_) e2)
  exact q _ _ _ (fun b o hb e => (Heap.get?_update_other _ _ fun z => hb z.symm).trans e) ⟨_, _, Heap.get?_update_self _ hp2 rfl⟩
where
  lzl' {n : Nat} (h : n ≤ 1002) : n ≤ sizeLine := Nat.le_trans h (by decide)
end
section
variable {X : Cx} {n : Nat} {f : Addr} {fd : FuncData} {ps : List Str} {sp : Sp} {C : Addr}
theorem guard_room {k : Nat} {A : Around} {args : Args} (r : Room (k + 2) A) : Room k (A.under (.builtin "list.__repr__.loop" args)) := by
  have e1 : (Code.builtin "list.__repr__.loop" args).weight = 1 := by
    show (Code.builtin "list.__repr__.loop" args).frames + (if (Code.builtin "list.__repr__.loop" args).isCreation then 1 else 0) + (if (Code.builtin "list.__repr__.loop" args).isGuard then 1 else 0) + (if (Code.builtin "list.__repr__.loop" args).isCaller then claimMargin else 0) = 1
    simp [Code.frames, Code.isFrame, Code.isCreation, Code.isGuard, guardIds, Code.isCaller]
  have e2 : (Code.builtin "list.__repr__.loop" args).cUnits = 1 := by
    simp [Code.cUnits, Code.frames, Code.isFrame]
  refine ⟨r.hd, ?_, ?_⟩
  · show A.depth + (Code.builtin "list.__repr__.loop" args).weight + 3 * k + 5 < recursionLimit
    have := r.dp
    omega
  · show A.units + (Code.builtin "list.__repr__.loop" args).cUnits + 16 * k + 200 < cLine
    have := r.un
    omega
theorem guard_frames {A : Around} {args : Args} : (A.under (.builtin "list.__repr__.loop" args)).frames = A.frames := by
  show pushEnvs (Code.builtin "list.__repr__.loop" args).envs A.frames = A.frames
  have : (Code.builtin "list.__repr__.loop" args).envs = [] := rfl
  rw [this]
  cases A.frames <;> rfl
def brS (z : Str) : Str := ("[" : Str) ++ z ++ ("]" : Str)
theorem listText_one (z : Str) : listText [z] = brS z := by
  show ("[" : Str) ++ ("" : Str) ++ z ++ ("]" : Str) = ("[" : Str) ++ z ++ ("]" : Str)
  rw [show ("[" : Str) ++ ("" : Str) = ("[" : Str) from by decide +kernel]
/-- repr([o]) -/
def rReprL (C : Addr) (sp : Sp) : List V → Hp → VK → Prop := fun xs H Q => ∃ l a dx fs, xs = [V.ref l] ∧ H l = some (.lst [.ref a]) ∧ H a = some (.ins C dx fs) ∧
  ∀ H1, Same H H1 → sp [.ref a] H1 (fun v H' => ∃ z, v = .str z ∧ z.length ≤ 1000 ∧ Same H1 H' ∧ ∀ H2, Same H H2 → Q (.str (brS z)) H2) E0
theorem cr_reprL (F : FnOk X.prog X.w X.K X.mg X.base CX0 n f fd ps sp) (hb : Binds X.K fd ps []) (m : Meth X.K C "__repr__" f) (hg : X.A.guards = some []) (hr : Room (n + 4) X.A) : CallR X (.builtin "repr") (rReprL C sp) := by
  intro pins s σ H xs us Q I r h
  obtain ⟨l, a, dx, fs, rfl, hl, ha, hsp⟩ := h
  obtain ⟨u, rfl, ru⟩ := vals1 r
  obtain rfl : u = Value.ref l := ru
  obtain ⟨z0, its, k0, rv, ho⟩ := I.hok l _ hl
  obtain ⟨u, rfl, ru⟩ := vals1 rv
  obtain rfl : u = Value.ref a := ru
  have hT : s.TypeIs (.ref l) "list" := ⟨_, ho, rfl⟩
  refine PySem.Calls.call_function_entry PySem.F.kind_repr PySem.F.plain_repr PySem.F.entry_repr (PySem.F.args_repr1 _) ?_
  unfold Builtin.«repr»
  refine wpAny_bind (m := oneArg "repr" _) (wpAny_pure ?_)
  refine wpAny_bind (wpAny_cRoomFor (show X.A.units + 1 < cLine from by have := hr.un; omega) ?_)
  refine wpAny_bind (wpAny_specialOf (name := Str.ofString "__repr__") hT PySem.F.slot_list_repr.lookup ?_)
  refine wpAny_bind (m := callSpecialIfBound? (.ref l) (Str.ofString "__repr__")) (wpAny_callSpecialIfBound?_slot (name := Str.ofString "__repr__") hT PySem.F.slot_list_repr ?_)
  refine repr_one (A := X.A.in1) hg ho ?_
  have J : L2.Inv X pins σ (upd H s.heap.objs.size (.lst [])) { s with heap := s.heap.push { cls := .type "list", data := .seq #[] } } :=
    I.laid (t' := s.toks) (fun b o e => Heap.get?_push_of_some _ e) (Nat.le_refl _) ⟨Nat.zero_le _, [], 0, .nil, Heap.get?_push_size _ rfl⟩
  have np := I.hok.fresh (Nat.le_refl s.heap.objs.size)
  have s1 : Same H (upd H s.heap.objs.size (.lst [])) := same_new np
  obtain ⟨mA, JA, _⟩ := ins_get J.hok (s1 _ _ ha)
  obtain ⟨od, JA, _⟩ := JA.look
  have sb : Sub X n (X.A.in1.under (.builtin "list.__repr__.loop" ⟨[.ref l, rawInt 0, .ref s.heap.objs.size, rawInt 0], []⟩)) := ⟨(guard_room (Room.in1 (hr.mono (by omega)))), guard_frames⟩
  refine under_own lz (by have := sb.room.un; omega) J.kIn JA m.at_ m.fn (wpAny_mono (run_own F hb sb J (v1 a) (hsp _ s1)) (fun v s' hq => ?_) fun _ _ z => z)
  obtain ⟨zv, H', I', rz, y, rfl, hy, s2, q⟩ := hq
  obtain ⟨t, rfl⟩ := rz
  have hl' := s2 _ _ (s1 _ _ hl)
  have hp' := s2 _ _ (upd_same (H := H) (a := s.heap.objs.size) (o := .lst []))
  obtain ⟨z1, its1, k1, rv1, ho1⟩ := I'.hok l _ hl'
  obtain ⟨u, rfl, ru⟩ := vals1 rv1
  obtain rfl : u = Value.ref a := ru
  obtain ⟨z2, its2, k2, rv2, ho2⟩ := I'.hok _ _ hp'
  obtain rfl : its2 = [] := by
    cases rv2
    rfl
  refine ⟨y, t, rfl, hy, ⟨k1, ho1⟩, ⟨k2, ho2⟩, fun h' u tk kp ⟨tz, cz, hz⟩ => ?_⟩
  have np' : Mut (H' s.heap.objs.size) := by rw [hp']; trivial
  have J2 := I'.write (t' := tk) (o := .lst [V.str y]) np' (.inl rfl) kp ⟨_, hz⟩ ⟨lz, [.str y tz], cz, .cons ⟨_, rfl⟩ .nil, hz⟩
  refine wpAny_bind (wpAny_isInstance (T := "str") (b := true) rfl isSubtype_str_str (wpAny_pure ⟨_, rfl, .str _, _, J2, ⟨_, rfl⟩, ?_⟩))
  rw [listText_one]
  exact q _ (same_mut (s1.trans s2) np)
end
end Wl

namespace Wl
open PySem PySem.Spec PyProof.Rows L2
section
variable {P : Program} {w : World} {K : PySem.W.Frag} {mg : Str → Option Value} {base : Heap} {f C : Addr} {fd : FuncData}
/-! ### the text -/
def spText : Sp := fun vs H Q _ => ∃ (L : Addr) (g : Grid) (wd : Nat), vs = [.ref L] ∧ GridAt H L g ∧ Good g wd ∧ ∀ (H' : Hp), Same H H' → Q (.str (landS g)) H'
abbrev nText : List Str := ["_law_laid", "_law_lines", "_law_line", "_law_town"]
theorem scText : FnScope nText ["_law_laid"] (defScope sText) := ⟨rfl, rfl, rfl, by decide +kernel, rfl, by decide +kernel, by decide +kernel⟩
theorem ok_text (F : Fun K "_law_text" "_law_text" sText f fd) : FnOk P w K mg base CX0 1 f fd ["_law_laid"] spText := by
  refine F.ok scText (fun vs H Q E h => ?_) (fun cdv A outer s H vs Q E hr h => ?_)
  · obtain ⟨L, g, wd, rfl, _⟩ := h
    rfl
  · obtain ⟨L, g, wd, rfl, ⟨as, hL, hR⟩, gd, q⟩ := h
    refine ⟨_, pss_cons (ps_set (i := 1) scText.nd rfl (.inl rfl) (pe_lst pa_nil))
      (pss_cons (ps_for PassesOwn.never rfl (pi_tup (pv 0)) (pg_name (i := 2) scText.nd rfl (.inl rfl))
        (pss_one (ps_expr (pe_bm PySem.F.plainAttrs_list PySem.F.slot_list_append PySem.F.type_list_append mt_append (pv 1) (pa_cons (pe_join pe_str (pe_lc (own := [("_law_town", 3)]) (g := gName 3) (tt := tYes) rfl scText.nd (pi_tup (pv 2)) (blkOk_by (N := nText) (sc := defScope sText) (by decide +kernel)) (fun _ _ _ _ _ => pg_name (i := 3) scText.nd rfl (.inl rfl)) (fun _ _ _ _ _ => pts_nil) (fun _ _ _ _ _ => pe_ifExp (pt_cmp (pc_isN (pv 3))) pe_str (pv 3)))) pa_nil)))))
      (pss_one (ps_ret (pe_join pe_str (pv 1))))), ?_⟩
    have h6 := gd.h6
    have lenA : as.length = g.length := hR.length
    refine ⟨lz, fun lA hlA => ?_⟩
    have nl : lA ≠ L := (ne_of_none hL hlA).symm
    refine ⟨_, rfl, L, rfl, ⟨_, .inl (.inl (show upd H lA (.lst []) L = _ from by rw [upd_ne nl.symm]; exact hL))⟩, for_tup (K := K) (a := L) (xs := as.map V.ref) (fun i σ H' => (∃ y2, σ = [some (.ref L), some (.ref lA), y2, none]) ∧ Same H H' ∧ H' lA = some (.lst (((g.take i).map lineS).map V.str))) ⟨⟨_, rfl⟩, same_new hlA, upd_same⟩ (fun i σ H' _ h => .inl (.inl (h.2.1 _ _ hL))) ?_ ?_⟩
    · rintro i x σ H1 hx ⟨⟨y2, rfl⟩, s1, hl1⟩
      rw [List.getElem?_map] at hx
      obtain ⟨pr, hpr, rfl⟩ := Option.map_eq_some_iff.mp hx
      obtain ⟨row, hrow, hH⟩ := hR.get hpr
      have hrm := List.mem_of_getElem? hrow
      have hr6 : row.length ≤ 6 := gd.six row hrm
      refine ⟨_, rfl, .inl ⟨rfl, _, .inl (.inl hl1)⟩, ⟨_, rfl⟩, _, rfl, pr, rfl, ⟨_, .inl (.inl (s1 _ _ hH))⟩, fun D2 hD2 => ?_⟩
      refine lc_map (walk_tup (K := K) (a := pr) (xs := row.map oV)) hD2 (fun _ => true) showV (fun H2 s2 => .inl (.inl (s2 _ _ (s1 _ _ hH)))) (fun _ => rfl) (fun x H' _ _ Q' q' => q') ?_ ?_ ?_
      · intro x H2 hx2 _ _ Q2 q2
        obtain ⟨o, _, rfl⟩ := List.mem_map.mp hx2
        refine ⟨_, rfl, _, rfl, ?_⟩
        cases o with
        | none => exact iteT q2
        | some z => exact iteF ⟨_, rfl, q2⟩
      · rw [List.length_map]
        exact small1000 (by omega)
      · intro H2 s2 hD3
        have e1 : ((row.map oV).filter fun _ => true).map showV = (row.map partS).map V.str := by
          rw [List.filter_eq_self.mpr fun _ _ => rfl, List.map_map, List.map_map]
          refine List.map_congr_left fun o _ => ?_
          cases o <;> rfl
        rw [e1] at hD3
        refine ⟨_, D2, row.map partS, rfl, rfl, .inl (.inl (.inl hD3)), ?_, ?_⟩
        · have := sum_len (l := row.map partS) (m := 8) fun z hz => by
            obtain ⟨o, ho, rfl⟩ := List.mem_map.mp hz
            rw [TL.len_tl]
            exact (part_tl (gd.parts row hrm o ho)).1
          rw [List.length_map] at this ⊢
          have e : (" " : Str).length = 1 := by decide +kernel
          rw [e]
          omega
        · refine ⟨lA, _, _, rfl, rfl, s2 _ _ hl1, ?_, ⟨_, rfl⟩, same_mut (s1.trans s2) hlA, ?_⟩
          · rw [List.length_map, List.length_map, List.length_take]
            exact small1000 (by omega)
          · rw [upd_same, List.take_add_one, hrow, List.map_append, List.map_append]
            rfl
    · rintro σ H1 ⟨⟨y2, rfl⟩, s1, hl1⟩
      rw [List.length_map, lenA, List.take_length] at hl1
      refine ⟨⟨_, rfl⟩, _, rfl, _, lA, g.map lineS, rfl, rfl, .inl (.inl (.inl hl1)), ?_, q H1 s1⟩
      have := sum_len (l := g.map lineS) (m := 54) fun z hz => by
        obtain ⟨r, hr', rfl⟩ := List.mem_map.mp hz
        exact line_len (gd.parts r hr') (gd.six r hr')
      rw [List.length_map] at this ⊢
      have e : ("\n" : Str).length = 1 := by decide +kernel
      rw [e]
      omega
end
end Wl

namespace Wl
open PySem PySem.Spec PyProof.Rows L2
theorem Good.few {g : Grid} {wd : Nat} (gd : Good g wd) : (names g).length ≤ 36 := by
  have a1 := len_names (g := g) (wd := wd) gd.rows
  have a3 : g.length * wd ≤ 6 * 6 := Nat.mul_le_mul gd.h6 gd.w6
  omega

section
variable {P : Program} {w : World} {K : PySem.W.Frag} {mg : Str → Option Value} {base : Heap} {f C : Addr} {fd : FuncData}
def spShown (C : Addr) : Sp := fun vs H Q _ => ∃ (p L M : Addr) (g : Grid) (wd : Nat), vs = [.ref p, .ref M] ∧ LandAt C H p L g ∧ GridAt H M g ∧ Good g wd ∧ ∀ (H' : Hp), Same H H' → Q (.bl true) H'
abbrev nShown : List Str := ["_law_country", "_law_laid", "_law_many", "_law_turn"]
abbrev psShown : List Str := ["_law_country", "_law_laid"]
theorem scShown : FnScope nShown psShown (defScope sShownR) := ⟨rfl, rfl, rfl, by decide +kernel, rfl, by decide +kernel, by decide +kernel⟩
theorem repr_len {n : Nat} (h : n ≤ 36) : (reprS n).length ≤ 1000 := by
  unfold reprS
  rw [add_len, add_len]
  have := dig_len h
  have : ("Land(" : Str).length = 5 := by decide +kernel
  have : (")" : Str).length = 1 := by decide +kernel
  omega
theorem br_repr (n : Nat) : brS (reprS n) = ("[Land(" : Str) ++ (toString (n : Int) : String) ++ (")]" : Str) := by
  unfold brS reprS
  refine str_ext ?_
  simp only [codes_add]
  rw [show ("[Land(" : Str).cps.toList = ("[" : Str).cps.toList ++ ("Land(" : Str).cps.toList from by decide +kernel, show (")]" : Str).cps.toList = (")" : Str).cps.toList ++ ("]" : Str).cps.toList from by decide +kernel]
  simp only [List.append_assoc]
theorem ok_shown (F : Fun K "_law_shown_right" "_law_shown_right" sShownR f fd) (B : Bi mg) (B2 : Bg mg) (hrep : mg "repr" = none) (T : Txt2 K mg C) (nb : PySem.W.findIn K (.ref C) "__bool__" = some none) (hN : Has P w K mg base "_law_names" 1 ["_law_laid"] spNames) (hT : Has P w K mg base "_law_text" 1 ["_law_laid"] spText)
    (hS : HasM P w K mg base C "__str__" 1 ["self"] (spLStr C)) (hR : HasM P w K mg base C "__repr__" 1 ["self"] (spLRepr C)) (hL : HasM P w K mg base C "__len__" 1 ["self"] (spLLen C)) : FnOkG P w K mg base 6 f fd psShown (spShown C) := by
  obtain ⟨fS, fdS, FS, mS, bS⟩ := hS
  obtain ⟨fR, fdR, FR, mR, bR⟩ := hR
  obtain ⟨fL, fdL, FL, mL, bL⟩ := hL
  refine okG F scShown (fun vs H Q E h => ?_) (fun cdv A outer s H vs Q E hgd hr h => ?_)
  · obtain ⟨p, L, M, g, wd, rfl, _⟩ := h
    rfl
  · obtain ⟨p, L, M, g, wd, rfl, hP, hM, gd, q⟩ := h
    refine ⟨_, pss_cons (ps_set (i := 2) scShown.nd rfl (.inl rfl) (pe_callB call_len_seq (by rfl) B.len PySem.boot_len (pa_cons (pe_h hN hr (pa_cons (pv 1) pa_nil)) pa_nil)))
      (pss_cons (ps_for PassesOwn.never rfl (pi_range1 rfl B.range (pa_cons pe_int pa_nil)) (pg_name (i := 3) scShown.nd rfl (.inl rfl))
        (pss_cons (ps_if (PW.pt (pw_or (pt_cmpR op_ne (pe_callB (cr_lenO FL bL mL (hr.mono (by decide))) (by rfl) B.len PySem.boot_len (pa_cons (pv 0) pa_nil)) (pv 2) (nomark _)) (pw_or (pt_cmpR op_notBl (pe_callTy (cr_boolO FL bL mL nb (hr.mono (by decide))) (by rfl) B2.bool (by decide +kernel) (pa_cons (pv 0) pa_nil)) pe_bl (nomark _)) (pw_or1 (pt_cmpR op_ne (pe_callTy (cr_strO FS bS mS (hr.mono (by decide))) (by rfl) B.str (by decide +kernel) (pa_cons (pv 0) pa_nil)) (pe_h hT hr (pa_cons (pv 1) pa_nil)) (nomark _)))))) (pss_one (ps_ret pe_bl)) pss_nil)
        (pss_one (ps_if (pt_cmpR op_ne (pe_callB (cr_reprO FR bR mR (hr.mono (by decide))) (by rfl) hrep (by decide +kernel) (pa_cons (pv 0) pa_nil)) (pe_op op_add_str (pe_op op_add_str pe_str (pe_callTy call_str_int (by rfl) B.str (by decide +kernel) (pa_cons (pv 2) pa_nil))) pe_str) (nomark _)) (pss_one (ps_ret pe_bl)) pss_nil))))
      (pss_one (ps_ret (pe_cmpR op_eq (pe_callB (cr_reprL FR bR mR hgd (hr.mono (by decide))) (by rfl) hrep (by decide +kernel) (pa_cons (pe_lst (pa_cons (pv 0) pa_nil)) pa_nil)) (pe_op op_add_str (pe_op op_add_str pe_str (pe_callTy call_str_int (by rfl) B.str (by decide +kernel) (pa_cons (pv 2) pa_nil))) pe_str) (nomark _))))), ?_⟩
    have few : (names g).length ≤ 36 := gd.few
    obtain ⟨dx, d, i1⟩ := hP.ins
    have nz : 1 ≤ (names g).length := by
      have := gd.ne
      cases e : names g with
      | nil => exact absurd e this
      | cons a b => simp
    refine ⟨_, rfl, M, g, wd, rfl, hM, gd.sized, fun t H1 nt s1 ht => ⟨t, _, rfl, .inl (.inl (.inl ht)), ?_⟩⟩
    rw [List.length_map, sortS_len]
    refine ⟨2, rfl, by decide, by decide, for_range (n := 2) (fun i σ H' => (∃ y3, σ = [some (.ref p), some (.ref M), some (.int ((names g).length : Nat)), y3]) ∧ Same H H') ⟨⟨_, rfl⟩, s1⟩ ?_ ?_⟩
    · rintro i σ H2 _ ⟨⟨y3, rfl⟩, s2⟩
      have h2 := hP.same s2
      refine ⟨_, rfl, p, dx, _, rfl, s2 _ _ i1, p, L, g, rfl, h2, _, rfl, by omega, _, rfl, rfl, _, rfl, ?_⟩
      refine iteNS rfl ⟨_, rfl, p, dx, _, rfl, s2 _ _ i1, p, L, g, rfl, h2, _, rfl, by omega, ?_⟩
      refine ⟨_, true, rfl, rfl, _, rfl, ?_⟩
      have eb : (!decide (((names g).length != 0) = true)) = false := by
        have : ((names g).length != 0) = true := bne_iff_ne.mpr (by omega)
        rw [this]
        rfl
      rw [eb]
      refine iteF ⟨_, rfl, p, dx, _, rfl, s2 _ _ i1, p, L, g, wd, rfl, h2, gd, fun H3 s3 => ⟨_, rfl, ?_⟩⟩
      refine ⟨_, rfl, M, g, wd, rfl, hM.keep (tk_same (s2.trans s3)), gd, fun H4 s4 => ⟨rfl, _, rfl, iteNS rfl ?_⟩⟩
      have s04 := s2.trans (s3.trans s4)
      refine ⟨_, rfl, p, dx, _, rfl, s04 _ _ i1, p, L, g, rfl, hP.same s04, few, _, rfl, ?_⟩
      refine ⟨_, rfl, _, rfl, str_n _ few, _, _, rfl, rfl, ?_, _, _, rfl, rfl, ?_, rfl, _, rfl, iteNS rfl ⟨⟨_, rfl⟩, s04⟩⟩
      · have := dig_len few
        have : ("Land(" : Str).length = 5 := by decide +kernel
        exact lzl (by omega)
      · have := dig_len few
        have : ("Land(" : Str).length = 5 := by decide +kernel
        have : (")" : Str).length = 1 := by decide +kernel
        exact lzl (by rw [add_len]; omega)
    · rintro σ H2 ⟨⟨y3, rfl⟩, s2⟩
      refine ⟨_, rfl, lz, fun l hl => ?_⟩
      have s3 := same_new (o := .lst [V.ref p]) hl
      have hl' : upd H2 l (.lst [V.ref p]) l = some (.lst [V.ref p]) := upd_same
      generalize upd H2 l (.lst [V.ref p]) = H3 at s3 hl' ⊢
      have s03 := s2.trans s3
      refine ⟨l, p, dx, _, rfl, hl', s03 _ _ i1, fun H4 s4 => ⟨p, L, g, rfl, hP.same (s03.trans s4), few, _, rfl, repr_len few, Same.refl _, fun H5 s5 => ?_⟩⟩
      refine ⟨_, rfl, _, rfl, str_n _ few, _, _, rfl, rfl, ?_, _, _, rfl, rfl, ?_, rfl, ?_⟩
      · have := dig_len few
        have : ("[Land(" : Str).length = 6 := by decide +kernel
        exact lzl (by omega)
      · have := dig_len few
        have : ("[Land(" : Str).length = 6 := by decide +kernel
        have : (")]" : Str).length = 2 := by decide +kernel
        exact lzl (by rw [add_len]; omega)
      · rw [br_repr, decide_eq_true rfl]
        exact q H5 (s03.trans s5)
end
end Wl

namespace Wl
open PySem PySem.Spec PyProof.Rows L2
section
variable {P : Program} {w : World} {K : PySem.W.Frag} {mg : Str → Option Value} {base : Heap} {f C : Addr} {fd : FuncData}
def spLaw (K : PySem.W.Frag) : Sp := fun vs H Q _ => ∃ (a : Addr) (ns : List Int), vs = [.ref a] ∧ SqL K H a (ns.map V.int) ∧ ns.length ≤ 63 ∧ ∀ (H' : Hp), Q (.bl true) H'
abbrev nLaw : List Str := ["_law_script", "_law_k", "_law_purse_here", "_law_laid", "_law_second", "_law_country"]
theorem scLaw : FnScope nLaw ["_law_script"] (defScope sLaw) := ⟨rfl, rfl, rfl, by decide +kernel, rfl, by decide +kernel, by decide +kernel⟩
theorem few16 {g : Grid} {wd : Nat} (gd : Good g wd) (h1 : (g.length : Int) ≤ 4) (h2 : (wd : Int) ≤ 4) : (names g).length ≤ 35 := by
  have a1 := len_names (g := g) (wd := wd) gd.rows
  have a3 : g.length * wd ≤ 4 * 4 := Nat.mul_le_mul (by omega) (by omega)
  omega
theorem ok_law (F : Fun K "law" "law" sLaw f fd) (B : Bi mg) (T : Txt2 K mg C) (hI : HasI P w K mg base C)
    (hCell : Has P w K mg base "_law_cell" 1 ["_law_script", "_law_k"] (spCell K)) (hPurse : Has P w K mg base "_law_purse" 1 ["_law_cell_here"] spPurse)
    (hLand : Has P w K mg base "_law_land" 4 ["_law_purse_here", "_law_most"] spLand) (hOther : Has P w K mg base "_law_other_rows" 4 psOtherR spOtherR) (hTwo : Has P w K mg base "_law_two_right" 4 psTwo (spTwo C))
    (hShown : HasQ P w K mg base "_law_shown_right" 6 psShown (spShown C)) (hOthers : Has P w K mg base "_law_others_right" 10 psOthers (spOthers C)) : FnOkG P w K mg base 11 f fd ["_law_script"] (spLaw K) := by
  obtain ⟨fI, fdI, MI, GI, bI⟩ := hI
  refine okG F scLaw (fun vs H Q E h => ?_) (fun cdv A outer s H vs Q E hgd hr h => ?_)
  · obtain ⟨a, ns, rfl, _⟩ := h
    rfl
  · obtain ⟨a, ns, rfl, hSc, hlen, q⟩ := h
    have hr4 : Room (4 + 1) (A.deeper (envOfC "law" (defScope sLaw) s.heap.objs.size f cdv)) := hr.mono (by decide)
    refine ⟨_, pss_cons (ps_for PassesOwn.never rfl (pi_range1 rfl B.range (pa_cons (pe_callB (call_max2 rfl) (by rfl) B.max (by decide +kernel) (pa_cons pe_int (pa_cons (pe_callB (call_min2 rfl) (by rfl) B.min (by decide +kernel) (pa_cons (pe_callB call_len_seq (by rfl) B.len PySem.boot_len (pa_cons (pv 0) pa_nil)) (pa_cons pe_int pa_nil))) pa_nil))) pa_nil)) (pg_name (i := 1) scLaw.nd rfl (.inl rfl))
        (pss_cons (ps_set (i := 2) scLaw.nd rfl (.inl rfl) (pe_h hPurse hr (pa_cons (pe_h hCell hr (pa_cons (pv 0) (pa_cons (pv 1) pa_nil))) pa_nil)))
        (pss_cons (ps_set (i := 3) scLaw.nd rfl (.inl rfl) (pe_h hLand hr (pa_cons (pv 2) (pa_cons pe_int pa_nil))))
        (pss_cons (ps_set (i := 4) scLaw.nd rfl (.inl rfl) (pe_h hOther hr (pa_cons (pv 2) (pa_cons (pv 3) pa_nil))))
        (pss_cons (ps_set (i := 5) scLaw.nd rfl (.inl rfl) (pe_make MI GI hr4 rfl T.t.mgC bI .nil pass0 (pa_cons (pv 3) pa_nil)))
        (pss_cons (ps_if (PW.pt (pw_or (pt_not (pt_val (pe_h hTwo hr (pa_cons (pv 5) (pa_cons (pe_make MI GI hr4 rfl T.t.mgC bI .nil pass0 (pa_cons (pv 4) pa_nil)) (pa_cons (pe_cmpR (op_eqD hr.units) (pv 3) (pv 4) (nomark _)) pa_nil)))))) (pw_or1 (pt_not (pt_val (pe_h hTwo hr (pa_cons (pv 5) (pa_cons (pe_make MI GI hr4 rfl T.t.mgC bI .nil pass0 (pa_cons (pv 3) pa_nil)) (pa_cons pe_bl pa_nil))))))))) (pss_one (ps_ret pe_bl)) pss_nil)
        (pss_cons (ps_if (PW.pt (pw_or (pt_not (pt_val (pe_hQ hShown hgd hr (pa_cons (pv 5) (pa_cons (pv 3) pa_nil))))) (pw_or1 (pt_not (pt_val (pe_hQ hShown hgd hr (pa_cons (pe_make MI GI hr4 rfl T.t.mgC bI .nil pass0 (pa_cons (pv 4) pa_nil)) (pa_cons (pv 4) pa_nil)))))))) (pss_one (ps_ret pe_bl)) pss_nil)
        (pss_one (ps_if (pt_not (pt_val (pe_h hOthers hr (pa_cons (pv 5) (pa_cons (pv 3) pa_nil))))) (pss_one (ps_ret pe_bl)) pss_nil)))))))))
      (pss_one (ps_ret pe_bl)), ?_⟩
    have hln : ((ns.map V.int).length : Int) = ns.length := by rw [List.length_map]
    refine ⟨_, rfl, a, _, rfl, .inl hSc, _, _, rfl, _, _, rfl, _, rfl, ?_, ?_, ?_⟩
    · rw [hln]; split <;> split <;> omega
    · rw [hln]; split <;> split <;> omega
    rw [hln]
    refine for_range (lo := 0) (n := _) (fun i σ H' => (∃ y1 y2 y3 y4 y5, σ = [some (.ref a), y1, y2, y3, y4, y5]) ∧ Same H H') ⟨⟨_, _, _, _, _, rfl⟩, Same.refl H⟩ ?_ ?_
    · rintro i σ H1 hi ⟨⟨y1, y2, y3, y4, y5, rfl⟩, s1⟩
      have hi8 : i < 64 := by
        have : ∀ n : Int, (if (if (5 : Int) < n then (5 : Int) else n) > 2 then (if (5 : Int) < n then (5 : Int) else n) else 2).toNat ≤ 63 := fun n => by
          split <;> split <;> omega
        exact Nat.lt_of_lt_of_le hi (Nat.le_trans (this _) (by decide))
      refine ⟨_, rfl, _, rfl, a, ns, 0 + i, rfl, s1.seq hSc, by omega, by omega, fun v H2 s2 => ⟨v, rfl, fun pu H3 hpu s3 hP3 => ?_⟩⟩
      have hpu0 : H pu = none := (s1.trans s2).free hpu
      have sP3 : Same H H3 := (s1.trans s2).trans s3
      refine ⟨_, rfl, pu, 4, rfl, hP3, by decide, by decide, fun L g wd H4 gd l1 l2 hG4 hP4 x4 => ?_⟩
      refine ⟨_, rfl, _, rfl, pu, L, g, wd, rfl, hP4, hG4, gd, few16 gd l1 l2, fun M g' wd' H5 gd' hM5 hP5 x5 => ?_⟩
      obtain ⟨pys, hpys⟩ := hP4.lst
      have hG5 : GridAt H5 L g := hG4.keep (tk_x x5 hpys)
      have s5 : Same H H5 := same_x sP3 (x4.trans x5) hpu0
      -- a Land of the rows
      refine ⟨_, rfl, fun p dp np ndp _ => ?_⟩
      have kp1 : TupKeep H5 (upd (upd H5 dp (.own p)) p (.ins C dp [])) := fun b xs h => by
        rw [upd_ne (ne_of_none h np), upd_ne (ne_of_none h ndp)]
        exact h
      refine ⟨p, dp, L, g, wd, rfl, upd_same, hG5.keep kp1, gd, fun H6 k6 hLa => ⟨rfl, ?_⟩⟩
      have s6 := made_same np ndp k6
      obtain ⟨dx, d, i6⟩ := hLa.ins
      have hG6 := hG5.keep (tk_same s6)
      have hM6 := hM5.keep (tk_same s6)
      -- another
      refine ⟨_, rfl, _, rfl, fun p2 dp2 np2 ndp2 _ => ?_⟩
      have kp2 : TupKeep H6 (upd (upd H6 dp2 (.own p2)) p2 (.ins C dp2 [])) := fun b xs h => by
        rw [upd_ne (ne_of_none h np2), upd_ne (ne_of_none h ndp2)]
        exact h
      have ne2 : p ≠ p2 := ne_of_none i6 np2
      refine ⟨p2, dp2, M, g', wd', rfl, upd_same, hM6.keep kp2, gd', fun H7 k7 hLb => ⟨rfl, ?_⟩⟩
      have s7 := made_same np2 ndp2 k7
      refine ⟨_, rfl, _, rfl, _, _, dp_grid (hG6.keep (tk_same s7)), dp_grid (hM6.keep (tk_same s7)), shaped_grid gd, shaped_grid gd', ?_⟩
      rw [grid_eqv]
      refine ⟨p, L, p2, M, g, g', wd, wd', rfl, hLa.same s7, gd, hLb, gd', ne2, fun H8 s8 => ⟨true, rfl, iteF ?_⟩⟩
      have s68 := s7.trans s8
      have hG8 := hG6.keep (tk_same s68)
      have hLa8 := hLa.same s68
      refine ⟨_, rfl, _, rfl, fun p3 dp3 np3 ndp3 _ => ?_⟩
      have kp3 : TupKeep H8 (upd (upd H8 dp3 (.own p3)) p3 (.ins C dp3 [])) := fun b xs h => by
        rw [upd_ne (ne_of_none h np3), upd_ne (ne_of_none h ndp3)]
        exact h
      have ne3 : p ≠ p3 := ne_of_none (s68 _ _ i6) np3
      refine ⟨p3, dp3, L, g, wd, rfl, upd_same, hG8.keep kp3, gd, fun H9 k9 hLc => ⟨rfl, ?_⟩⟩
      have s9 := made_same np3 ndp3 k9
      refine ⟨p, L, p3, L, g, g, wd, wd, by rw [show decide (g = g) = true from decide_eq_true rfl]; rfl, hLa8.same s9, gd, hLc, gd, ne3, fun H10 s10 => ⟨true, rfl, iteF ?_⟩⟩
      have s610 := s68.trans (s9.trans s10)
      refine ⟨_, rfl, _, rfl, p, L, L, g, wd, rfl, hLa.same s610, hG6.keep (tk_same s610), gd, fun H11 s11 => ⟨true, rfl, iteF ?_⟩⟩
      have s611 := s610.trans s11
      have hM11 := hM6.keep (tk_same s611)
      refine ⟨_, rfl, fun p4 dp4 np4 ndp4 _ => ?_⟩
      have kp4 : TupKeep H11 (upd (upd H11 dp4 (.own p4)) p4 (.ins C dp4 [])) := fun b xs h => by
        rw [upd_ne (ne_of_none h np4), upd_ne (ne_of_none h ndp4)]
        exact h
      refine ⟨p4, dp4, M, g', wd', rfl, upd_same, hM11.keep kp4, gd', fun H12 k12 hLd => ⟨rfl, _, rfl, ?_⟩⟩
      have s12 := made_same np4 ndp4 k12
      refine ⟨p4, M, M, g', wd', rfl, hLd, hM11.keep (tk_same s12), gd', fun H13 s13 => ⟨true, rfl, iteF ?_⟩⟩
      have s613 := s611.trans (s12.trans s13)
      refine ⟨_, rfl, _, rfl, p, L, g, wd, rfl, hLa.same s613, gd, fun H14 s14 => ⟨true, rfl, iteF ?_⟩⟩
      exact ⟨⟨_, _, _, _, _, rfl⟩, (s5.trans s6).trans (s613.trans s14)⟩
    · rintro σ H1 ⟨⟨y1, y2, y3, y4, y5, rfl⟩, s1⟩
      exact q H1
end
end Wl

namespace Wl
open PySem PySem.Spec PyProof.Rows L2
/-- an exception's class -/
def isExc (o : Obj) : Bool := match o.data with
  | .cls cd => cd.mro.any fun v => match v with | .type n => n == "Exception" | _ => false
  | _ => false
/-- what these objects name, exceptions left out -/
def refsL (g : Addr → Option Obj) (as : List Addr) : List Addr := as.flatMap fun a => match g a with
  | some o => if isExc o then [] else He.refsD o
  | none => []
def layK (g : Addr → Option Obj) : Nat → List Addr → List Addr
  | 0, l => l
  | n + 1, l => l ++ layK g n (refsL g l)
def frK (g : Addr → Option Obj) : PySem.W.Frag := He.frG g (layK g 4 [mainGlobals])
/-- the hook of facts over such a frame, with one more test of the frame -/
def hookK (fa : List He.Fa) (fn : List He.DefD) (ex : PySem.W.Frag → Bool) : PySem.W.Hook where
  α := He.AlD × Bool
  obs := fun s => (He.obsD fa fn (frK s.heap.get?), ex (frK s.heap.get?))
  val := fun _ => (He.valD fn, true)
  says := fun _ h => ∃ K : PySem.W.Frag, K.In h ∧ He.SaysD fa fn K ∧ ex K = true
  of := fun _ _ e => ⟨_, He.frG_in, congrArg (fun z : He.AlD × Bool => z.1) e, congrArg (fun z : He.AlD × Bool => z.2) e⟩
  keeps := fun _ _ _ ⟨K, hK, c⟩ k => ⟨K, PySem.W.Frag.In.keeps hK k, c⟩
theorem map3 {α β γ δ : Type} {o : Option α} {f : α → β} {g : α → γ} {h : α → δ} {a : β} {b : γ} {c : δ} (h1 : o.map (fun s => (f s, g s)) = some (a, b)) (h2 : o.map h = some c) : o.map (fun s => (f s, g s, h s)) = some (a, b, c) := by
  cases o with
  | none => cases h1
  | some x =>
    have e1 := Option.some.inj h1
    have e2 := Option.some.inj h2
    show some (f x, g x, h x) = _
    rw [(Prod.mk.inj e1).1, (Prod.mk.inj e1).2, e2]
def dOf (x : Str) (st : Stmt) (ds : List He.Dv) : He.DefD := ⟨(x, none), x, x, defArgs st, defBody st, defScope st, ds, []⟩
def dMet (cl m q : Str) (st : Stmt) (ds : List He.Dv) : He.DefD := ⟨(cl, some m), m, q, defArgs st, defBody st, defScope st, ds, []⟩
/-- what else a class says: isinstance -/
def exC (K : PySem.W.Frag) (x : Str) : Bool :=
  He.eqO (PySem.W.findIn K (.ref (He.ga K x)) "__class__") (some (some (.builtin "object.__class__"))) && (decide (PySem.W.mroIn K (He.ga K x) (.type "object") = some true) && decide (PySem.W.kitOne K (.ref (He.ga K x)) (.ref (He.ga K x)) = some true))
/-- and of all classes: isinstance, !=; the tuple of places -/
def exT0 (K : PySem.W.Frag) : Bool :=
  He.eqO (PySem.W.specialIn K (.builtin "object.__class__") "__get__") (some (some (.builtin "getset_descriptor.__get__"))) && (decide (PySem.W.takesIn K (.builtin "object.__class__") = some true) && (exC K "Land" && (exC K "Gathering" && (exC K "WordMap" &&
  (He.eqO (PySem.W.findIn K (.ref (He.ga K "Land")) "__ne__") (some (some (.builtin "object.__ne__"))) && He.tupB K "WHERES" [.str "first", .str "last", .str "any"])))))
/-- what else: beside things of other kinds; no truth of its own -/
def exX (K : PySem.W.Frag) : Bool :=
  decide (PySem.W.mroIn K (He.ga K "Land") (.type "NoneType") = some false) && (decide (PySem.W.mroIn K (He.ga K "Land") (.type "bool") = some false) && (decide (PySem.W.mroIn K (He.ga K "Land") (.type "int") = some false) && (decide (PySem.W.mroIn K (He.ga K "Land") (.type "str") = some false) && (decide (PySem.W.mroIn K (He.ga K "Land") (.type "list") = some false) && (decide (PySem.W.mroIn K (He.ga K "Land") (.type "tuple") = some false) && (decide (PySem.W.mroIn K (He.ga K "Land") (.type "dict") = some false) && (decide (PySem.W.kitOne K (.type "NoneType") (.ref (He.ga K "Land")) = some false) && (decide (PySem.W.kitOne K (.type "bool") (.ref (He.ga K "Land")) = some false) && (decide (PySem.W.kitOne K (.type "int") (.ref (He.ga K "Land")) = some false) && (decide (PySem.W.kitOne K (.type "str") (.ref (He.ga K "Land")) = some false) && (decide (PySem.W.kitOne K (.type "list") (.ref (He.ga K "Land")) = some false) && (decide (PySem.W.kitOne K (.type "tuple") (.ref (He.ga K "Land")) = some false) && (decide (PySem.W.kitOne K (.type "dict") (.ref (He.ga K "Land")) = some false) && (PySem.W.notFirst K (He.ga K "Land") (.ref (He.ga K "Gathering")) && (PySem.W.notFirst K (He.ga K "Gathering") (.ref (He.ga K "Land")) && (decide (PySem.W.kitOne K (.ref (He.ga K "Gathering")) (.ref (He.ga K "Land")) = some false) && (decide (PySem.W.kitOne K (.ref (He.ga K "Land")) (.ref (He.ga K "Gathering")) = some false) && (PySem.W.notFirst K (He.ga K "Land") (.ref (He.ga K "WordMap")) && (PySem.W.notFirst K (He.ga K "WordMap") (.ref (He.ga K "Land")) && (decide (PySem.W.kitOne K (.ref (He.ga K "WordMap")) (.ref (He.ga K "Land")) = some false) && (decide (PySem.W.kitOne K (.ref (He.ga K "Land")) (.ref (He.ga K "WordMap")) = some false) && (He.eqO (PySem.W.findIn K (.ref (He.ga K "Land")) "__bool__") (some none)))))))))))))))))))))))
def exT (K : PySem.W.Frag) : Bool := exT0 K && exX K
def fn : List He.DefD := dOf "is_word" wIsWord [] :: dOf "is_whole" sIsWhole [] :: dOf "is_number_from" sIsNum [] :: dOf "check_word" wCheck [] :: dOf "is_letter" wIsLetter [] :: dOf "is_change" wIsChange [] :: dOf "is_tuple_up_to" wTupTo [] :: dOf "checked_changes" wChecked [] :: dOf "reaches" wReaches [] :: dOf "turned_letters" wTurned [] :: dOf "steps_toward" wSteps [] :: dOf "letters_at" wLetAt [] :: dOf "meaning" wMean [.non] :: dOf "are_rows" sAreRows [] :: dOf "wrong_spot" sWrong [] :: dOf "spots_in" sSpotsIn [] :: dOf "checked_spots" sSpots [] :: dMet "Land" "__init__" "Land.__init__" sInit [] :: dMet "Land" "names" "Land.names" sLNames [] :: dMet "Land" "__eq__" "Land.__eq__" sEq [] :: dMet "Land" "__len__" "Land.__len__" sLen [] :: dMet "Land" "__str__" "Land.__str__" sStr [] :: dMet "Land" "__repr__" "Land.__repr__" sRepr [] :: dOf "check_age" sCheckA [] :: dMet "Gathering" "__init__" "Gathering.__init__" sGInit [] :: dMet "Gathering" "__eq__" "Gathering.__eq__" sGEq [] :: dMet "Gathering" "tellings" "Gathering.tellings" sGTell [.non] :: dOf "check_gathering" sCheckG [] :: dOf "summed_up" sSum [] :: dOf "by_village" sByV [] :: dMet "WordMap" "__init__" "WordMap.__init__" sMInit [.non, .int 0, .int 120] :: dMet "WordMap" "__eq__" "WordMap.__eq__" sMEq [] :: dOf "_law_cell" sCell [] :: dOf "_law_purse" sPurse [] :: dOf "_law_pick" sPick [] :: dOf "_law_menu" sMenu [] :: dOf "_law_word" sWord [] :: dOf "_law_fresh" sFresh [] :: dOf "_law_land" sLand [] :: dOf "_law_names" sNames [] :: dOf "_law_other_rows" sOtherR [] :: dOf "_law_text" sText [] :: dOf "_law_is" sIs [] :: dOf "_law_two_right" sTwoR [] :: dOf "_law_shown_right" sShownR [] :: dOf "_law_others_right" sOthersR [] :: dOf "law" sLaw [] :: []
def fa : List He.Fa := .glo "is_word" :: .glo "is_whole" :: .glo "is_number_from" :: .glo "check_word" :: .glo "is_letter" :: .glo "is_change" :: .glo "is_tuple_up_to" :: .glo "checked_changes" :: .glo "reaches" :: .glo "turned_letters" :: .glo "steps_toward" :: .glo "letters_at" :: .glo "meaning" :: .glo "are_rows" :: .glo "wrong_spot" :: .glo "spots_in" :: .glo "checked_spots" :: .glo "check_age" :: .glo "check_gathering" :: .glo "summed_up" :: .glo "by_village" :: .glo "_law_cell" :: .glo "_law_purse" :: .glo "_law_pick" :: .glo "_law_menu" :: .glo "_law_word" :: .glo "_law_fresh" :: .glo "_law_land" :: .glo "_law_names" :: .glo "_law_other_rows" :: .glo "_law_text" :: .glo "_law_is" :: .glo "_law_two_right" :: .glo "_law_shown_right" :: .glo "_law_others_right" :: .glo "law" :: .glo "Land" :: .cls "Land" :: .mkr "Land" :: .noat "Land" "spots" :: .noat "Land" "rows" :: .glo "Gathering" :: .cls "Gathering" :: .mkr "Gathering" :: .noat "Gathering" "land" :: .noat "Gathering" "told" :: .noat "Gathering" "deeds" :: .glo "WordMap" :: .cls "WordMap" :: .mkr "WordMap" :: .noat "WordMap" "land" :: .noat "WordMap" "thing" :: .noat "WordMap" "changes" :: .noat "WordMap" "sure_words" :: .noat "WordMap" "doubtful_words" :: .noat "WordMap" "said" :: .meth "Land" "names" :: .meth "Land" "__eq__" :: .meth "Land" "__len__" :: .meth "Land" "__str__" :: .meth "Land" "__repr__" :: .meth "Gathering" "__eq__" :: .meth "Gathering" "tellings" :: .meth "WordMap" "__eq__" :: .str "LETTERS" "abcdefghijklmnopqrstuvwxyz" :: .int "LONGEST_WORD" 8 :: .int "MOST_CHANGES" 12 :: .int "MOST_ROWS" 6 :: .int "MOST_COLUMNS" 6 :: .int "OLDEST" 120 :: .int "MOST_TELLINGS" 200 :: .str "DOT" "." :: .str "DOUBT" "?" :: .str "LAKE" "-" :: .glo "WHERES" :: .free "len" :: .free "range" :: .free "isinstance" :: .free "tuple" :: .free "list" :: .free "sorted" :: .free "all" :: .free "int" :: .free "max" :: .free "min" :: .free "enumerate" :: .free "str" :: .free "bool" :: .free "repr" :: []
abbrev R : PySem.W.OpenRow := PySem.W.OpenLaw.row PySem.Challenge.rw_wordlines_k06_lands_alike_and_shown
abbrev hk : PySem.W.Hook := hookK fa fn exT
def ob (s : PySem.W.SharedT) : He.AlD × Bool := (He.obsD fa fn (frK (HandSHeadRun.getT s)), exT (frK (HandSHeadRun.getT s)))
theorem ob_eq (s : PySem.W.SharedT) : ob s = hk.obs s.abs := by
  have e : HandSHeadRun.getT s = s.abs.heap.get? := funext (HandSHeadRun.getT_eq s)
  unfold ob
  rw [e]
  rfl
def others : List PySem.Str := "_wall" :: "WordError" :: "LandError" :: "JoinError" :: "NoWord" :: "NoChanges" :: "NoAge" :: "NoSure" :: "NoLand" :: "NoName" :: "NoGathering" :: "NoTelling" :: "NoBack" :: "Told" :: "Full" :: "LETTERS" :: "WHERES" :: "LONGEST_WORD" :: "MOST_CHANGES" :: "is_whole" :: "is_number_from" :: "is_word" :: "check_word" :: "is_letter" :: "is_change" :: "is_tuple_up_to" :: "checked_changes" :: "reaches" :: "turned_letters" :: "steps_toward" :: "letters_at" :: "meaning" :: "MOST_ROWS" :: "MOST_COLUMNS" :: "LAKE" :: "are_rows" :: "wrong_spot" :: "spots_in" :: "checked_spots" :: "Land" :: "MOST_TELLINGS" :: "OLDEST" :: "DOT" :: "DOUBT" :: "check_age" :: "check_sure" :: "key_of" :: "telling_row" :: "Gathering" :: "check_gathering" :: "NOT_ASKED" :: "summed_up" :: "by_village" :: "WordMap" :: "_law_cell" :: "_law_purse" :: "_law_pick" :: "_law_menu" :: "_law_word" :: "_law_fresh" :: "_law_land" :: "_law_names" :: "_law_other_rows" :: "_law_text" :: "_law_is" :: "_law_two_right" :: "_law_shown_right" :: "_law_others_right" :: []
theorem facts {P : Program} {w : World} {K : PySem.W.Frag} {h : Heap} {mg : Str → Option Value} {f : Addr} (X : K.In h) (G : h.Ns mainGlobals mg) (hfa : mg ("law" : Str) = some (.ref f)) (c : He.SaysD fa fn K) (cx : exT K = true) :
    ∃ fd : FuncData, (∀ (s : Shared) (v : Value), BindsTo s fd ⟨[v], []⟩ [("_law_script", v)]) ∧ ∀ base : Heap, K.In base → base.Ns mainGlobals mg → FnOkG P w K mg base 11 f fd ["_law_script"] (spLaw K) := by
  have B : Bi mg := ⟨He.free_ok X G (c.fact 75 (f := .free "len") rfl), He.free_ok X G (c.fact 76 (f := .free "range") rfl), He.free_ok X G (c.fact 77 (f := .free "isinstance") rfl), He.free_ok X G (c.fact 78 (f := .free "tuple") rfl), He.free_ok X G (c.fact 79 (f := .free "list") rfl), He.free_ok X G (c.fact 80 (f := .free "sorted") rfl), He.free_ok X G (c.fact 81 (f := .free "all") rfl), He.free_ok X G (c.fact 82 (f := .free "int") rfl), He.free_ok X G (c.fact 83 (f := .free "max") rfl), He.free_ok X G (c.fact 84 (f := .free "min") rfl), He.free_ok X G (c.fact 85 (f := .free "enumerate") rfl), He.free_ok X G (c.fact 86 (f := .free "str") rfl)⟩
  have hrepr : mg "repr" = none := He.free_ok X G (c.fact 88 (f := .free "repr") rfl)
  have hlk : ∃ t, mg "LAKE" = some (.str "-" t) := He.str_ok X G (c.fact 73 (f := .str "LAKE" "-") rfl)
  have B2 : Bg mg := ⟨He.free_ok X G (c.fact 87 (f := .free "bool") rfl), He.int_ok X G (c.fact 69 (f := .int "OLDEST" 120) rfl), He.int_ok X G (c.fact 70 (f := .int "MOST_TELLINGS" 200) rfl), He.str_ok X G (c.fact 71 (f := .str "DOT" ".") rfl), He.str_ok X G (c.fact 72 (f := .str "DOUBT" "?") rfl)⟩
  have Gk' : Gk mg := ⟨He.str_ok X G (c.fact 64 (f := .str "LETTERS" "abcdefghijklmnopqrstuvwxyz") rfl), He.int_ok X G (c.fact 65 (f := .int "LONGEST_WORD" 8) rfl), He.int_ok X G (c.fact 67 (f := .int "MOST_ROWS" 6) rfl), He.int_ok X G (c.fact 68 (f := .int "MOST_COLUMNS" 6) rfl)⟩
  have T : Txt K mg (He.ga K "Land") := ⟨He.cls_ok (c.fact 37 (f := .cls "Land") rfl), He.noat_ok (c.fact 39 (f := .noat "Land" "spots") rfl), He.noat_ok (c.fact 40 (f := .noat "Land" "rows") rfl), He.glo_ok X G (c.fact 36 (f := .glo "Land") rfl)⟩
  have TG : TxtG K mg (He.ga K "Gathering") := ⟨He.cls_ok (c.fact 42 (f := .cls "Gathering") rfl), He.noat_ok (c.fact 44 (f := .noat "Gathering" "land") rfl), He.noat_ok (c.fact 45 (f := .noat "Gathering" "told") rfl), He.noat_ok (c.fact 46 (f := .noat "Gathering" "deeds") rfl), He.glo_ok X G (c.fact 41 (f := .glo "Gathering") rfl)⟩
  have TM : TxtM K mg (He.ga K "WordMap") := ⟨He.cls_ok (c.fact 48 (f := .cls "WordMap") rfl), He.noat_ok (c.fact 50 (f := .noat "WordMap" "land") rfl), He.noat_ok (c.fact 51 (f := .noat "WordMap" "thing") rfl), He.noat_ok (c.fact 52 (f := .noat "WordMap" "changes") rfl), He.noat_ok (c.fact 53 (f := .noat "WordMap" "sure_words") rfl), He.noat_ok (c.fact 54 (f := .noat "WordMap" "doubtful_words") rfl), He.noat_ok (c.fact 55 (f := .noat "WordMap" "said") rfl), He.glo_ok X G (c.fact 47 (f := .glo "WordMap") rfl)⟩
  unfold exT at cx
  rw [Bool.and_eq_true] at cx
  obtain ⟨cx, cz⟩ := cx
  unfold exT0 exC at cx
  simp only [Bool.and_eq_true] at cx
  obtain ⟨e2, e3, ⟨a1, a2, a3⟩, ⟨b1, b2, b3⟩, ⟨c1, c2, c3⟩, e6, e7⟩ := cx
  have T2 : Txt2 K mg (He.ga K "Land") := ⟨T, ⟨T.cl, He.eqO_ok a1, He.eqO_ok e2, of_decide_eq_true e3, of_decide_eq_true a2, of_decide_eq_true a3⟩, ⟨He.eqO_ok e6, of_decide_eq_true a2⟩⟩
  have insD : C8.InsC K (He.ga K "Gathering") := ⟨TG.cl, He.eqO_ok b1, He.eqO_ok e2, of_decide_eq_true e3, of_decide_eq_true b2, of_decide_eq_true b3⟩
  have insW : C8.InsC K (He.ga K "WordMap") := ⟨TM.cl, He.eqO_ok c1, He.eqO_ok e2, of_decide_eq_true e3, of_decide_eq_true c2, of_decide_eq_true c3⟩
  have Gw' : Gw K mg := ⟨He.str_ok X G (c.fact 64 (f := .str "LETTERS" "abcdefghijklmnopqrstuvwxyz") rfl), He.int_ok X G (c.fact 65 (f := .int "LONGEST_WORD" 8) rfl), He.int_ok X G (c.fact 66 (f := .int "MOST_CHANGES" 12) rfl), _, He.glo_ok X G (c.fact 74 (f := .glo "WHERES") rfl), fun H => He.tupB_ok e7 H⟩
  unfold exX at cz
  simp only [Bool.and_eq_true] at cz
  obtain ⟨z0, z1, z2, z3, z4, z5, z6, z7, z8, z9, z10, z11, z12, z13, z14, z15, z16, z17, z18, z19, z20, z21, z22⟩ := cz
  have NK : NoKind K (He.ga K "Land") := ⟨of_decide_eq_true z0, of_decide_eq_true z1, of_decide_eq_true z2, of_decide_eq_true z3, of_decide_eq_true z4, of_decide_eq_true z5, of_decide_eq_true z6⟩
  have KN : KitNo K (He.ga K "Land") := ⟨of_decide_eq_true z7, of_decide_eq_true z8, of_decide_eq_true z9, of_decide_eq_true z10, of_decide_eq_true z11, of_decide_eq_true z12, of_decide_eq_true z13⟩
  have AD : Apart2 K (He.ga K "Land") (He.ga K "Gathering") := ⟨z14, z15, of_decide_eq_true z16, of_decide_eq_true z17⟩
  have AW : Apart2 K (He.ga K "Land") (He.ga K "WordMap") := ⟨z18, z19, of_decide_eq_true z20, of_decide_eq_true z21⟩
  have nb : PySem.W.findIn K (.ref (He.ga K "Land")) "__bool__" = some none := He.eqO_ok z22
  obtain ⟨fd0, F0⟩ := c.def_ 0 (d := dOf "is_word" wIsWord []) rfl
  obtain ⟨fd1, F1⟩ := c.def_ 1 (d := dOf "is_whole" sIsWhole []) rfl
  obtain ⟨fd2, F2⟩ := c.def_ 2 (d := dOf "is_number_from" sIsNum []) rfl
  obtain ⟨fd3, F3⟩ := c.def_ 3 (d := dOf "check_word" wCheck []) rfl
  obtain ⟨fd4, F4⟩ := c.def_ 4 (d := dOf "is_letter" wIsLetter []) rfl
  obtain ⟨fd5, F5⟩ := c.def_ 5 (d := dOf "is_change" wIsChange []) rfl
  obtain ⟨fd6, F6⟩ := c.def_ 6 (d := dOf "is_tuple_up_to" wTupTo []) rfl
  obtain ⟨fd7, F7⟩ := c.def_ 7 (d := dOf "checked_changes" wChecked []) rfl
  obtain ⟨fd8, F8⟩ := c.def_ 8 (d := dOf "reaches" wReaches []) rfl
  obtain ⟨fd9, F9⟩ := c.def_ 9 (d := dOf "turned_letters" wTurned []) rfl
  obtain ⟨fd10, F10⟩ := c.def_ 10 (d := dOf "steps_toward" wSteps []) rfl
  obtain ⟨fd11, F11⟩ := c.def_ 11 (d := dOf "letters_at" wLetAt []) rfl
  obtain ⟨fd12, F12⟩ := c.def_ 12 (d := dOf "meaning" wMean [.non]) rfl
  obtain ⟨fd13, F13⟩ := c.def_ 13 (d := dOf "are_rows" sAreRows []) rfl
  obtain ⟨fd14, F14⟩ := c.def_ 14 (d := dOf "wrong_spot" sWrong []) rfl
  obtain ⟨fd15, F15⟩ := c.def_ 15 (d := dOf "spots_in" sSpotsIn []) rfl
  obtain ⟨fd16, F16⟩ := c.def_ 16 (d := dOf "checked_spots" sSpots []) rfl
  obtain ⟨fd17, F17⟩ := c.def_ 17 (d := dMet "Land" "__init__" "Land.__init__" sInit []) rfl
  obtain ⟨fd18, F18⟩ := c.def_ 18 (d := dMet "Land" "names" "Land.names" sLNames []) rfl
  obtain ⟨fd19, F19⟩ := c.def_ 19 (d := dMet "Land" "__eq__" "Land.__eq__" sEq []) rfl
  obtain ⟨fd20, F20⟩ := c.def_ 20 (d := dMet "Land" "__len__" "Land.__len__" sLen []) rfl
  obtain ⟨fd21, F21⟩ := c.def_ 21 (d := dMet "Land" "__str__" "Land.__str__" sStr []) rfl
  obtain ⟨fd22, F22⟩ := c.def_ 22 (d := dMet "Land" "__repr__" "Land.__repr__" sRepr []) rfl
  obtain ⟨fd23, F23⟩ := c.def_ 23 (d := dOf "check_age" sCheckA []) rfl
  obtain ⟨fd24, F24⟩ := c.def_ 24 (d := dMet "Gathering" "__init__" "Gathering.__init__" sGInit []) rfl
  obtain ⟨fd25, F25⟩ := c.def_ 25 (d := dMet "Gathering" "__eq__" "Gathering.__eq__" sGEq []) rfl
  obtain ⟨fd26, F26⟩ := c.def_ 26 (d := dMet "Gathering" "tellings" "Gathering.tellings" sGTell [.non]) rfl
  obtain ⟨fd27, F27⟩ := c.def_ 27 (d := dOf "check_gathering" sCheckG []) rfl
  obtain ⟨fd28, F28⟩ := c.def_ 28 (d := dOf "summed_up" sSum []) rfl
  obtain ⟨fd29, F29⟩ := c.def_ 29 (d := dOf "by_village" sByV []) rfl
  obtain ⟨fd30, F30⟩ := c.def_ 30 (d := dMet "WordMap" "__init__" "WordMap.__init__" sMInit [.non, .int 0, .int 120]) rfl
  obtain ⟨fd31, F31⟩ := c.def_ 31 (d := dMet "WordMap" "__eq__" "WordMap.__eq__" sMEq []) rfl
  obtain ⟨fd32, F32⟩ := c.def_ 32 (d := dOf "_law_cell" sCell []) rfl
  obtain ⟨fd33, F33⟩ := c.def_ 33 (d := dOf "_law_purse" sPurse []) rfl
  obtain ⟨fd34, F34⟩ := c.def_ 34 (d := dOf "_law_pick" sPick []) rfl
  obtain ⟨fd35, F35⟩ := c.def_ 35 (d := dOf "_law_menu" sMenu []) rfl
  obtain ⟨fd36, F36⟩ := c.def_ 36 (d := dOf "_law_word" sWord []) rfl
  obtain ⟨fd37, F37⟩ := c.def_ 37 (d := dOf "_law_fresh" sFresh []) rfl
  obtain ⟨fd38, F38⟩ := c.def_ 38 (d := dOf "_law_land" sLand []) rfl
  obtain ⟨fd39, F39⟩ := c.def_ 39 (d := dOf "_law_names" sNames []) rfl
  obtain ⟨fd40, F40⟩ := c.def_ 40 (d := dOf "_law_other_rows" sOtherR []) rfl
  obtain ⟨fd41, F41⟩ := c.def_ 41 (d := dOf "_law_text" sText []) rfl
  obtain ⟨fd42, F42⟩ := c.def_ 42 (d := dOf "_law_is" sIs []) rfl
  obtain ⟨fd43, F43⟩ := c.def_ 43 (d := dOf "_law_two_right" sTwoR []) rfl
  obtain ⟨fd44, F44⟩ := c.def_ 44 (d := dOf "_law_shown_right" sShownR []) rfl
  obtain ⟨fd45, F45⟩ := c.def_ 45 (d := dOf "_law_others_right" sOthersR []) rfl
  obtain ⟨fd46, F46⟩ := c.def_ 46 (d := dOf "law" sLaw []) rfl
  have e := hfa.symm.trans (He.glo_ok X G (c.fact 35 (f := .glo "law") rfl))
  cases e
  have f0 : Fun K "is_word" "is_word" wIsWord _ fd0 := He5.fun_of F0
  have f1 : Fun K "is_whole" "is_whole" sIsWhole _ fd1 := He5.fun_of F1
  have f2 : Fun K "is_number_from" "is_number_from" sIsNum _ fd2 := He5.fun_of F2
  have f3 : Fun K "check_word" "check_word" wCheck _ fd3 := He5.fun_of F3
  have f4 : Fun K "is_letter" "is_letter" wIsLetter _ fd4 := He5.fun_of F4
  have f5 : Fun K "is_change" "is_change" wIsChange _ fd5 := He5.fun_of F5
  have f6 : Fun K "is_tuple_up_to" "is_tuple_up_to" wTupTo _ fd6 := He5.fun_of F6
  have f7 : Fun K "checked_changes" "checked_changes" wChecked _ fd7 := He5.fun_of F7
  have f8 : Fun K "reaches" "reaches" wReaches _ fd8 := He5.fun_of F8
  have f9 : Fun K "turned_letters" "turned_letters" wTurned _ fd9 := He5.fun_of F9
  have f10 : Fun K "steps_toward" "steps_toward" wSteps _ fd10 := He5.fun_of F10
  have f11 : Fun K "letters_at" "letters_at" wLetAt _ fd11 := He5.fun_of F11
  have f12 : FunN K "meaning" wMean _ fd12 := F12
  have f13 : Fun K "are_rows" "are_rows" sAreRows _ fd13 := He5.fun_of F13
  have f14 : Fun K "wrong_spot" "wrong_spot" sWrong _ fd14 := He5.fun_of F14
  have f15 : Fun K "spots_in" "spots_in" sSpotsIn _ fd15 := He5.fun_of F15
  have f16 : Fun K "checked_spots" "checked_spots" sSpots _ fd16 := He5.fun_of F16
  have f17 : Fun K "__init__" "Land.__init__" sInit _ fd17 := He5.fun_of F17
  have f18 : Fun K "names" "Land.names" sLNames _ fd18 := He5.fun_of F18
  have f19 : Fun K "__eq__" "Land.__eq__" sEq _ fd19 := He5.fun_of F19
  have f20 : Fun K "__len__" "Land.__len__" sLen _ fd20 := He5.fun_of F20
  have f21 : Fun K "__str__" "Land.__str__" sStr _ fd21 := He5.fun_of F21
  have f22 : Fun K "__repr__" "Land.__repr__" sRepr _ fd22 := He5.fun_of F22
  have f23 : Fun K "check_age" "check_age" sCheckA _ fd23 := He5.fun_of F23
  have f24 : Fun K "__init__" "Gathering.__init__" sGInit _ fd24 := He5.fun_of F24
  have f25 : Fun K "__eq__" "Gathering.__eq__" sGEq _ fd25 := He5.fun_of F25
  have f26 : FunT K _ fd26 := F26
  have f27 : Fun K "check_gathering" "check_gathering" sCheckG _ fd27 := He5.fun_of F27
  have f28 : Fun K "summed_up" "summed_up" sSum _ fd28 := He5.fun_of F28
  have f29 : Fun K "by_village" "by_village" sByV _ fd29 := He5.fun_of F29
  have f30 : FunI K _ fd30 := F30
  have f31 : Fun K "__eq__" "WordMap.__eq__" sMEq _ fd31 := He5.fun_of F31
  have f32 : Fun K "_law_cell" "_law_cell" sCell _ fd32 := He5.fun_of F32
  have f33 : Fun K "_law_purse" "_law_purse" sPurse _ fd33 := He5.fun_of F33
  have f34 : Fun K "_law_pick" "_law_pick" sPick _ fd34 := He5.fun_of F34
  have f35 : Fun K "_law_menu" "_law_menu" sMenu _ fd35 := He5.fun_of F35
  have f36 : Fun K "_law_word" "_law_word" sWord _ fd36 := He5.fun_of F36
  have f37 : Fun K "_law_fresh" "_law_fresh" sFresh _ fd37 := He5.fun_of F37
  have f38 : Fun K "_law_land" "_law_land" sLand _ fd38 := He5.fun_of F38
  have f39 : Fun K "_law_names" "_law_names" sNames _ fd39 := He5.fun_of F39
  have f40 : Fun K "_law_other_rows" "_law_other_rows" sOtherR _ fd40 := He5.fun_of F40
  have f41 : Fun K "_law_text" "_law_text" sText _ fd41 := He5.fun_of F41
  have f42 : Fun K "_law_is" "_law_is" sIs _ fd42 := He5.fun_of F42
  have f43 : Fun K "_law_two_right" "_law_two_right" sTwoR _ fd43 := He5.fun_of F43
  have f44 : Fun K "_law_shown_right" "_law_shown_right" sShownR _ fd44 := He5.fun_of F44
  have f45 : Fun K "_law_others_right" "_law_others_right" sOthersR _ fd45 := He5.fun_of F45
  have f46 : Fun K "law" "law" sLaw _ fd46 := He5.fun_of F46
  refine ⟨fd46, fun s v => ?_, fun base _ _ => ?_⟩
  · obtain ⟨oc, od, kV, doc, pm, an, cdv, ct, osl, e, l, c⟩ := f46.ex
    subst e
    exact .of_eq rfl
  have h_is_word : Has P w K mg base "is_word" 1 ["thing"] (spIsW K) := ⟨_, fd0, ok_isw f0 B Gw', He.glo_ok X G (c.fact 0 (f := .glo "is_word") rfl), f0.kp, f0.binds fun _ _ _ _ _ _ us hl => match us, hl with | [_], _ => rfl⟩
  have h_is_wordL : Has P w K mg base "is_word" 1 ["thing"] spIsWord := ⟨_, fd0, FnOk.imp (ok_isw f0 B Gw') (fun vs H Q E ⟨z, e, hz, q⟩ => ⟨.str z, wdB z, e, .inl ⟨z, rfl, hz, rfl⟩, q⟩), He.glo_ok X G (c.fact 0 (f := .glo "is_word") rfl), f0.kp, f0.binds fun _ _ _ _ _ _ us hl => match us, hl with | [_], _ => rfl⟩
  have h_is_whole : Has P w K mg base "is_whole" 1 ["thing"] spIsWhole := ⟨_, fd1, ok_iswhole f1 B B2, He.glo_ok X G (c.fact 1 (f := .glo "is_whole") rfl), f1.kp, f1.binds fun _ _ _ _ _ _ us hl => match us, hl with | [_], _ => rfl⟩
  have h_is_number_from : Has P w K mg base "is_number_from" 2 ["thing", "least", "most"] spIsNum := ⟨_, fd2, ok_isnum f2 h_is_whole, He.glo_ok X G (c.fact 2 (f := .glo "is_number_from") rfl), f2.kp, f2.binds fun _ _ _ _ _ _ us hl => match us, hl with | [_, _, _], _ => rfl⟩
  have h_check_word : Has P w K mg base "check_word" 2 ["word"] spCheckW := ⟨_, fd3, ok_checkw f3 h_is_word, He.glo_ok X G (c.fact 3 (f := .glo "check_word") rfl), f3.kp, f3.binds fun _ _ _ _ _ _ us hl => match us, hl with | [_], _ => rfl⟩
  have h_is_letter : Has P w K mg base "is_letter" 2 ["thing"] spIsLet := ⟨_, fd4, ok_islet f4 B h_is_word, He.glo_ok X G (c.fact 4 (f := .glo "is_letter") rfl), f4.kp, f4.binds fun _ _ _ _ _ _ us hl => match us, hl with | [_], _ => rfl⟩
  have h_is_change : Has P w K mg base "is_change" 3 ["thing"] spIsCh := ⟨_, fd5, ok_isch f5 B Gw' h_is_letter, He.glo_ok X G (c.fact 5 (f := .glo "is_change") rfl), f5.kp, f5.binds fun _ _ _ _ _ _ us hl => match us, hl with | [_], _ => rfl⟩
  have h_is_tuple_up_to : Has P w K mg base "is_tuple_up_to" 1 ["thing", "most"] spTupTo := ⟨_, fd6, ok_tupto f6 B, He.glo_ok X G (c.fact 6 (f := .glo "is_tuple_up_to") rfl), f6.kp, f6.binds fun _ _ _ _ _ _ us hl => match us, hl with | [_, _], _ => rfl⟩
  have h_checked_changes : Has P w K mg base "checked_changes" 4 ["changes"] spChecked := ⟨_, fd7, ok_checked f7 B Gw' h_is_tuple_up_to h_is_change, He.glo_ok X G (c.fact 7 (f := .glo "checked_changes") rfl), f7.kp, f7.binds fun _ _ _ _ _ _ us hl => match us, hl with | [_], _ => rfl⟩
  have h_reaches : Has P w K mg base "reaches" 1 ["where", "place", "length"] spReaches := ⟨_, fd8, ok_reaches f8, He.glo_ok X G (c.fact 8 (f := .glo "reaches") rfl), f8.kp, f8.binds fun _ _ _ _ _ _ us hl => match us, hl with | [_, _, _], _ => rfl⟩
  have h_turned_letters : Has P w K mg base "turned_letters" 2 ["changes", "place", "length"] spTurned := ⟨_, fd9, ok_turned f9 Gw' h_reaches, He.glo_ok X G (c.fact 9 (f := .glo "turned_letters") rfl), f9.kp, f9.binds fun _ _ _ _ _ _ us hl => match us, hl with | [_, _, _], _ => rfl⟩
  have h_steps_toward : Has P w K mg base "steps_toward" 1 ["goal", "turned"] spSteps := ⟨_, fd10, ok_steps f10 B, He.glo_ok X G (c.fact 10 (f := .glo "steps_toward") rfl), f10.kp, f10.binds fun _ _ _ _ _ _ us hl => match us, hl with | [_, _], _ => rfl⟩
  have h_letters_at : Has P w K mg base "letters_at" 3 ["word", "place", "changes"] spLetAt := ⟨_, fd11, ok_letat f11 B h_steps_toward h_turned_letters, He.glo_ok X G (c.fact 11 (f := .glo "letters_at") rfl), f11.kp, f11.binds fun _ _ _ _ _ _ us hl => match us, hl with | [_, _, _], _ => rfl⟩
  have h_meaning : HasN P w K mg base "meaning" wMean 5 ["word", "changes"] spMean := ⟨_, fd12, ok_mean f12 B h_check_word h_checked_changes h_letters_at, He.glo_ok X G (c.fact 12 (f := .glo "meaning") rfl), f12⟩
  have h_are_rows : Has P w K mg base "are_rows" 1 ["thing"] spAreRows := ⟨_, fd13, ok_arerows f13 B Gk', He.glo_ok X G (c.fact 13 (f := .glo "are_rows") rfl), f13.kp, f13.binds fun _ _ _ _ _ _ us hl => match us, hl with | [_], _ => rfl⟩
  have h_wrong_spot : Has P w K mg base "wrong_spot" 2 ["rows"] spWrong := ⟨_, fd14, ok_wrong f14 B h_is_wordL, He.glo_ok X G (c.fact 14 (f := .glo "wrong_spot") rfl), f14.kp, f14.binds fun _ _ _ _ _ _ us hl => match us, hl with | [_], _ => rfl⟩
  have h_spots_in : Has P w K mg base "spots_in" 1 ["rows"] spSpotsIn := ⟨_, fd15, ok_spotsin f15 B, He.glo_ok X G (c.fact 15 (f := .glo "spots_in") rfl), f15.kp, f15.binds fun _ _ _ _ _ _ us hl => match us, hl with | [_], _ => rfl⟩
  have h_checked_spots : Has P w K mg base "checked_spots" 3 ["rows"] spSpots := ⟨_, fd16, ok_spots f16 h_are_rows h_wrong_spot h_spots_in, He.glo_ok X G (c.fact 16 (f := .glo "checked_spots") rfl), f16.kp, f16.binds fun _ _ _ _ _ _ us hl => match us, hl with | [_], _ => rfl⟩
  have h_Land__init__ : HasI P w K mg base (He.ga K "Land") := ⟨_, fd17, He.mkr_ok (c.fact 38 (f := .mkr "Land") rfl), ok_init f17 T h_checked_spots, f17.binds fun _ _ _ _ _ _ us hl => match us, hl with | [_, _], _ => rfl⟩
  have h_names : HasM P w K mg base (He.ga K "Land") "names" 1 ["self"] (spLNames (He.ga K "Land")) := ⟨_, fd18, ok_lnames f18 B T, He.meth_ok (c.fact 56 (f := .meth "Land" "names") rfl), f18.binds fun _ _ _ _ _ _ us hl => match us, hl with | [_], _ => rfl⟩
  have h_Land__eq__ : HasM P w K mg base (He.ga K "Land") "__eq__" 1 ["self", "other"] (spLE K (He.ga K "Land")) := ⟨_, fd19, FnOk.or2 (ok_leq f19 B T2) (ok_leqx f19 B T2), He.meth_ok (c.fact 57 (f := .meth "Land" "__eq__") rfl), f19.binds fun _ _ _ _ _ _ us hl => match us, hl with | [_, _], _ => rfl⟩
  have h_Land__len__ : HasM P w K mg base (He.ga K "Land") "__len__" 1 ["self"] (spLLen (He.ga K "Land")) := ⟨_, fd20, ok_llen f20 B T, He.meth_ok (c.fact 58 (f := .meth "Land" "__len__") rfl), f20.binds fun _ _ _ _ _ _ us hl => match us, hl with | [_], _ => rfl⟩
  have h_Land__str__ : HasM P w K mg base (He.ga K "Land") "__str__" 1 ["self"] (spLStr (He.ga K "Land")) := ⟨_, fd21, ok_lstr f21 T hlk, He.meth_ok (c.fact 59 (f := .meth "Land" "__str__") rfl), f21.binds fun _ _ _ _ _ _ us hl => match us, hl with | [_], _ => rfl⟩
  have h_Land__repr__ : HasM P w K mg base (He.ga K "Land") "__repr__" 1 ["self"] (spLRepr (He.ga K "Land")) := ⟨_, fd22, ok_lrepr f22 B T, He.meth_ok (c.fact 60 (f := .meth "Land" "__repr__") rfl), f22.binds fun _ _ _ _ _ _ us hl => match us, hl with | [_], _ => rfl⟩
  have h_check_age : Has P w K mg base "check_age" 3 ["age"] spCheckA := ⟨_, fd23, ok_checka f23 B2 h_is_number_from, He.glo_ok X G (c.fact 17 (f := .glo "check_age") rfl), f23.kp, f23.binds fun _ _ _ _ _ _ us hl => match us, hl with | [_], _ => rfl⟩
  have h_Gathering__init__ : HasG P w K mg base (He.ga K "Land") (He.ga K "Gathering") := ⟨_, fd24, He.mkr_ok (c.fact 43 (f := .mkr "Gathering") rfl), ok_ginit f24 B T2 TG, f24.binds fun _ _ _ _ _ _ us hl => match us, hl with | [_, _], _ => rfl⟩
  have h_Gathering__eq__ : HasM P w K mg base (He.ga K "Gathering") "__eq__" 1 ["self", "other"] (spEqX K (He.ga K "Gathering")) := ⟨_, fd25, ok_geqx f25 B TG, He.meth_ok (c.fact 61 (f := .meth "Gathering" "__eq__") rfl), f25.binds fun _ _ _ _ _ _ us hl => match us, hl with | [_, _], _ => rfl⟩
  have h_tellings : HasT P w K mg base (He.ga K "Land") (He.ga K "Gathering") := ⟨_, fd26, ok_tell f26 B TG, He.meth_ok (c.fact 62 (f := .meth "Gathering" "tellings") rfl), f26⟩
  have h_check_gathering : Has P w K mg base "check_gathering" 1 ["thing"] (spCheckG (He.ga K "Land") (He.ga K "Gathering")) := ⟨_, fd27, ok_checkg f27 B TG insD, He.glo_ok X G (c.fact 18 (f := .glo "check_gathering") rfl), f27.kp, f27.binds fun _ _ _ _ _ _ us hl => match us, hl with | [_], _ => rfl⟩
  have h_summed_up : Has P w K mg base "summed_up" 6 ["tellings", "changes"] spSum := ⟨_, fd28, ok_sum f28 B h_meaning, He.glo_ok X G (c.fact 19 (f := .glo "summed_up") rfl), f28.kp, f28.binds fun _ _ _ _ _ _ us hl => match us, hl with | [_, _], _ => rfl⟩
  have h_by_village : Has P w K mg base "by_village" 7 ["names", "tellings", "changes"] spByV := ⟨_, fd29, ok_byv f29 h_summed_up, He.glo_ok X G (c.fact 20 (f := .glo "by_village") rfl), f29.kp, f29.binds fun _ _ _ _ _ _ us hl => match us, hl with | [_, _, _], _ => rfl⟩
  have h_WordMap__init__ : HasW P w K mg base (He.ga K "Land") (He.ga K "Gathering") (He.ga K "WordMap") := ⟨_, fd30, He.mkr_ok (c.fact 49 (f := .mkr "WordMap") rfl), ok_minit f30 B T TG TM h_check_gathering h_check_word h_checked_changes h_check_age h_tellings h_names h_by_village, f30⟩
  have h_WordMap__eq__ : HasM P w K mg base (He.ga K "WordMap") "__eq__" 1 ["self", "other"] (spEqX K (He.ga K "WordMap")) := ⟨_, fd31, ok_meqx f31 B TM, He.meth_ok (c.fact 63 (f := .meth "WordMap" "__eq__") rfl), f31.binds fun _ _ _ _ _ _ us hl => match us, hl with | [_, _], _ => rfl⟩
  have h__law_cell : Has P w K mg base "_law_cell" 1 ["_law_script", "_law_k"] (spCell K) := ⟨_, fd32, ok_cell f32 B, He.glo_ok X G (c.fact 21 (f := .glo "_law_cell") rfl), f32.kp, f32.binds fun _ _ _ _ _ _ us hl => match us, hl with | [_, _], _ => rfl⟩
  have h__law_purse : Has P w K mg base "_law_purse" 1 ["_law_cell_here"] spPurse := ⟨_, fd33, ok_purse f33 B, He.glo_ok X G (c.fact 22 (f := .glo "_law_purse") rfl), f33.kp, f33.binds fun _ _ _ _ _ _ us hl => match us, hl with | [_], _ => rfl⟩
  have h__law_pick : Has P w K mg base "_law_pick" 1 ["_law_purse_here", "_law_many"] spPick := ⟨_, fd34, ok_pick f34, He.glo_ok X G (c.fact 23 (f := .glo "_law_pick") rfl), f34.kp, f34.binds fun _ _ _ _ _ _ us hl => match us, hl with | [_, _], _ => rfl⟩
  have h__law_menu : Has P w K mg base "_law_menu" 1 [] spMenu := ⟨_, fd35, ok_menu f35, He.glo_ok X G (c.fact 24 (f := .glo "_law_menu") rfl), f35.kp, f35.binds fun _ _ _ _ _ _ us hl => match us, hl with | [], _ => rfl⟩
  have h__law_word : Has P w K mg base "_law_word" 2 ["_law_purse_here"] spWord := ⟨_, fd36, ok_word f36 B h__law_pick h__law_menu, He.glo_ok X G (c.fact 25 (f := .glo "_law_word") rfl), f36.kp, f36.binds fun _ _ _ _ _ _ us hl => match us, hl with | [_], _ => rfl⟩
  have h__law_fresh : Has P w K mg base "_law_fresh" 3 ["_law_purse_here", "_law_used"] spFresh := ⟨_, fd37, ok_fresh f37 B h__law_word, He.glo_ok X G (c.fact 26 (f := .glo "_law_fresh") rfl), f37.kp, f37.binds fun _ _ _ _ _ _ us hl => match us, hl with | [_, _], _ => rfl⟩
  have h__law_land : Has P w K mg base "_law_land" 4 ["_law_purse_here", "_law_most"] spLand := ⟨_, fd38, ok_land f38 B h__law_pick h__law_fresh, He.glo_ok X G (c.fact 27 (f := .glo "_law_land") rfl), f38.kp, f38.binds fun _ _ _ _ _ _ us hl => match us, hl with | [_, _], _ => rfl⟩
  have h__law_names : Has P w K mg base "_law_names" 1 ["_law_laid"] spNames := ⟨_, fd39, ok_names f39 B, He.glo_ok X G (c.fact 28 (f := .glo "_law_names") rfl), f39.kp, f39.binds fun _ _ _ _ _ _ us hl => match us, hl with | [_], _ => rfl⟩
  have h__law_other_rows : Has P w K mg base "_law_other_rows" 4 ["_law_purse_here", "_law_laid"] spOtherR := ⟨_, fd40, ok_otherR f40 B h__law_pick h__law_names h__law_fresh, He.glo_ok X G (c.fact 29 (f := .glo "_law_other_rows") rfl), f40.kp, f40.binds fun _ _ _ _ _ _ us hl => match us, hl with | [_, _], _ => rfl⟩
  have h__law_text : Has P w K mg base "_law_text" 1 ["_law_laid"] spText := ⟨_, fd41, ok_text f41, He.glo_ok X G (c.fact 30 (f := .glo "_law_text") rfl), f41.kp, f41.binds fun _ _ _ _ _ _ us hl => match us, hl with | [_], _ => rfl⟩
  have h__law_is : Has P w K mg base "_law_is" 1 ["_law_told", "_law_due"] spIs := ⟨_, fd42, ok_is f42 B B2, He.glo_ok X G (c.fact 31 (f := .glo "_law_is") rfl), f42.kp, f42.binds fun _ _ _ _ _ _ us hl => match us, hl with | [_, _], _ => rfl⟩
  have h__law_two_right : Has P w K mg base "_law_two_right" 4 ["_law_one", "_law_second", "_law_alike"] (spTwo (He.ga K "Land")) := ⟨_, fd43, ok_two f43 B T2 NK KN h__law_is h_Land__eq__, He.glo_ok X G (c.fact 32 (f := .glo "_law_two_right") rfl), f43.kp, f43.binds fun _ _ _ _ _ _ us hl => match us, hl with | [_, _, _], _ => rfl⟩
  have h__law_shown_right : HasQ P w K mg base "_law_shown_right" 6 ["_law_country", "_law_laid"] (spShown (He.ga K "Land")) := ⟨_, fd44, ok_shown f44 B B2 hrepr T2 nb h__law_names h__law_text h_Land__str__ h_Land__repr__ h_Land__len__, He.glo_ok X G (c.fact 33 (f := .glo "_law_shown_right") rfl), f44.kp, f44.binds fun _ _ _ _ _ _ us hl => match us, hl with | [_, _], _ => rfl⟩
  have h__law_others_right : Has P w K mg base "_law_others_right" 10 ["_law_country", "_law_laid"] (spOthers (He.ga K "Land")) := ⟨_, fd45, ok_others f45 B B.list hrepr T2 TG TM insD insW NK KN AD AW h__law_is h_Land__eq__ h_Gathering__eq__ h_WordMap__eq__ h_Land__str__ h_Land__repr__ h_Land__len__ h_Land__init__ h_Gathering__init__ h_WordMap__init__, He.glo_ok X G (c.fact 34 (f := .glo "_law_others_right") rfl), f45.kp, f45.binds fun _ _ _ _ _ _ us hl => match us, hl with | [_, _], _ => rfl⟩
  exact ok_law f46 B T2 h_Land__init__ h__law_cell h__law_purse h__law_land h__law_other_rows h__law_two_right h__law_shown_right h__law_others_right
end Wl

namespace Wl
open PySem PySem.Spec PyProof.Rows L2
noncomputable abbrev atEnd (w : World) (os : OsState) : Option PySem.W.SharedT := HandSHeadRun.endF (HandSHeadRun.stepQ (HandSHeadRun.denQ HandSHeadRun.tabQ) R.prog w) 12000 R.prog w os
theorem runA (w : World) (os : OsState) : (atEnd w os).map (fun s => (HandSHeadRun.looksF R.prog (PySem.W.boot_heap w.params) s.abs, HandSHeadRun.seenQ (PySem.W.view R.prog [74]) others (importedModules R.prog.main.body) (fun s => PySem.W.xlAt (PySem.W.view R.prog [74]) [] s && PySem.W.recOk R.toRowW.records s) s.abs)) = some (true, PySem.W.openGood (PySem.W.view R.prog [74]) others) := by
  kernel_rfl
theorem runB (w : World) (os : OsState) : (atEnd w os).map ob = some (He.valD fn, true) := by
  kernel_rfl
theorem run (w : World) : HandSHeadRun.RunEq R (PySem.W.view R.prog [74]) hk ob 12000 others w := fun os => map3 (runA w os) (runB w os)
end Wl

open PySem PySem.W PySem.Calls PyProof.Rows
theorem PySem.Challenge.cw_wordlines_k06_lands_alike_and_shown_holds : PySem.Challenge.rw_wordlines_k06_lands_alike_and_shown.Holds := by
  w_on; o_law
  refine HandSHeadRun.head_any (r := OpenLaw.row PySem.Challenge.rw_wordlines_k06_lands_alike_and_shown) (q := view (OpenLaw.row PySem.Challenge.rw_wordlines_k06_lands_alike_and_shown).prog [74]) (H := Wl.hk) (ob := Wl.ob) (M := 12000) (loose := Wl.others) (d := HandSHeadRun.topDef (OpenLaw.row PySem.Challenge.rw_wordlines_k06_lands_alike_and_shown).prog 74) (kwd := []) Wl.ob_eq
    (by kernel_rfl) (fun s => by kernel_rfl) Wl.run (by kernel_rfl) (by kernel_rfl) (by kernel_rfl) (by rfl) (by first | assumption | decide +kernel) (by decide +kernel) ⟨rfl, rfl, rfl, rfl, rfl, by decide +kernel⟩ ?hw ?hc
  case hw => w_witness2
  case hc =>
    refine Wl.walk_ofG (l := PySem.Challenge.rw_wordlines_k06_lands_alike_and_shown) (n := 63) (k := 11) (x := "_law_script") rfl (by decide) (by kernel_rfl) ⟨rfl, by decide, by decide⟩ ?F
    intro w mg fa h Y G hmg0
    obtain ⟨K, KX, c, cx⟩ := Y
    have hmg : mg ("law" : PySem.Str) = some (.ref fa) := by
      have e : (HandSHeadRun.topDef (OpenLaw.row PySem.Challenge.rw_wordlines_k06_lands_alike_and_shown).prog 74).name = ("law" : PySem.Str) := by kernel_rfl
      rw [← e]
      exact hmg0
    obtain ⟨fd, hb, hF⟩ := Wl.facts (P := (PySem.Challenge.rw_wordlines_k06_lands_alike_and_shown).prog) (w := w) KX G hmg c cx
    exact ⟨K, fd, Wl.spLaw K, KX, hb, fun H a ns hl _ hS => ⟨a, ns, rfl, hS, hl, fun _ => rfl⟩, hF⟩

