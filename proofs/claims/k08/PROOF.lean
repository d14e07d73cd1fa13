import PyProof.Rows.All
import Wide.All
import OpenK.AllK
import Wide.FinOn
import HandS.ForMost
import HandS.Walk
import KE.GoesMore
import KE.GoesEnum
import HandS.Strs
import PyProof.DictCompW
import HandS.DictComp
import HandS.Evl
import HandS.IsInst
import HandS.Codes
import HandS.Defaults
import HandS.FStr
import HandS.Property
import HandS.HeadHook1
import PyProof.ListMulRoad
import PyProof.FactsAll.tuple_2
import HandS.Base
import HandS.Call
import HandS.List
import HandS.TupMul
import HandS.Dict
import HandS.Iter
import KE.KDictList
import PyProof.ZipIter
import KE.GoesNew
import HandS.Zip0
import HandS.Zip
import KE.KExcPX
import KE.KExcInit
import KE.KExcIs
import HandS.ForExc
import HandS.ExcInit
import PyProof.WalkInts
import PyProof.FString5
import HandS.Keys
import HandS.Conv
import HandS.Sort
import HandS.TupSets
import KE.KSortTupAny
import PyProof.ListStr
import HandS.Ends
import HandS.Words
import HandS.HeadEnd
import HandS.Lambda
import HandS.EndTab
import HandS.HeadWalk
import HandS.HeadHook4
import HandS.NestedK
import KE.DataMinKey
import HandS.SortKw
import HandS.TryOnly
import HandS.TryMany
import HandS.WordsExc
import HandS.ExcIs
import HandS.Head0
import HandS.Head1
import HandS.Head2
import HandS.HeadHook2
import HandS.ExcField
import HandS.MakeKw
import HandS.HotCalls
import HandS.Deep
import HandS.SetFor
import PyProof.AutoSeq1
import HandS.Star
import HandS.TupAny
import HandS.Rev
import HandS.RevTup
import PyProof.ListNew
import PyProof.TupleOfSeq
import PyProof.TupleOfGen
import HandS.Style
import HandS.Text
import HandS.Set
import PyProof.Rows.SortStr
import HandS.DictTup
import KE.SortKeyHeap
import KE.KDictDisplayH
import KE.KDictZip
import PyProof.ReprRoads
import HandS.TupLe
import KE.KEqDeep
import PyProof.ReprLen
import PyProof.StrLawsRepr
import PySem.Challenge.RW_pairsums_k08_cells_and_columns
section
set_option Elab.async false
set_option linter.all false
set_option maxRecDepth 100000
set_option maxHeartbeats 4000000
/-! ET: enumerate over a tuple. -/
namespace ET
open PySem PySem.Spec PyProof.Rows L2
theorem enum1_new {v : Value} {ob : Obj} {G : Heap → Prop} (B : Begins v ob G) :
    Meets (Builtin.«enumerate.__new__» ⟨[.type "enumerate", v], []⟩) (fun _ R s => G s.heap ∧
      R (.ok (.ret (.ref (s.heap.push ob).objs.size))) { s with heap := (s.heap.push ob).push { cls := .type "enumerate", data := .fields #[.none, .bool false, .ref s.heap.objs.size, rawInt 0, .none, .none] } }) :=
  .of_wp fun P w A R s hh => by
    obtain ⟨hp, gs, dr, tk, os⟩ := s
    obtain ⟨g1, hh⟩ := hh
    have isSub := sub_enumerate
    have q1 : ∀ {A2 : Around} {E : Value → Shared → Prop} {Q : Value → Shared → Prop}, Q (.ref hp.objs.size) ⟨hp.push ob, gs, dr, tk, os⟩ → wpAny (model P w) A2 (pyIter v) Q E ⟨hp, gs, dr, tk, os⟩ := fun q => B.iter P w _ _ _ _ g1 q
    wp_walk using q1
    refine wpAny_stack_any fun sk => wpAny_pure ?_
    split
    · rename_i cc _ _ _ _ _
      cases (cc == Value.type "enumerate") <;> (wp_walk using q1; exact ⟨_, rfl, hh⟩)
    · wp_walk using q1
      exact ⟨_, rfl, hh⟩
theorem enum1_call {P : Program} {w : World} {A : Around} {E : Value → Shared → Prop} {s : Shared} {v : Value} {ob : Obj} {G : Heap → Prop} {Q : Value → Shared → Prop} (B : Begins v ob G) (g : G s.heap)
    (k : ∀ h2, IsEnum h2 (s.heap.objs.size + 1) s.heap.objs.size 0 .none → h2.get? s.heap.objs.size = some ob → (∀ b o, s.heap.get? b = some o → h2.get? b = some o) → Q (.ref (s.heap.objs.size + 1)) { s with heap := h2 }) :
    wpAny (model P w) A (call (.type "enumerate") [v]) Q E s := by
  refine callType_new F.called_enumerate (by decide) (F.typeCall_enumerate_1 v) (F.newCall_enumerate_1 v) (fun x => F.args_object_init_2 x v) F.entry_enumerate_new (enum1_new B) ⟨g, ?_⟩
  have size1 : (s.heap.push ob).objs.size = s.heap.objs.size + 1 := Heap.size_push ..
  have made := Heap.get?_push_size (s.heap.push ob) (o := { cls := .type "enumerate", data := .fields #[.none, .bool false, .ref s.heap.objs.size, rawInt 0, .none, .none] }) rfl
  rw [size1] at made
  show _ ∧ _
  rw [size1]
  exact ⟨⟨_, made, rfl⟩, k _ made (Heap.get?_push_of_some _ (Heap.get?_push_size _ B.free)) fun b o x => Heap.get?_push_of_some _ (Heap.get?_push_of_some _ x)⟩
/-- the items of the tuple at a with their numbers, in new pairs -/
def Iet (K : PySem.W.Frag) (a : Addr) : It :=
  ⟨fun i H => ∃ (ys : List V) (y : V), SqT K H a ys ∧ ys[i]? = some y, fun i H v H2 => ∃ T y, v = .ref T ∧ H T = none ∧ H2 = upd H T (.tup [.int (i : Nat), y]) ∧ ∀ ys, SqT K H a ys → ys[i]? = some y, fun i H => ∃ ys : List V, SqT K H a ys ∧ ys.length = i⟩
theorem turn_et {P : Program} {w : World} {K : PySem.W.Frag} {elts : List Expr} {kk : Nat} {tpos : Pos} (a e it : Addr) :
    Turn P w K (.Tuple elts kk tpos) (Iet K a) [e, it] e (fun i h => (∃ old, IsEnum h e it ((i : Nat) : Int) old) ∧ h.IsTupleIter it a i ∧ e ≠ it) where
  mem := List.mem_cons_self ..
  obj := fun i h st b hb => by
    obtain ⟨⟨old, he⟩, ⟨o, ho, _, hd⟩, _⟩ := st
    rcases List.mem_cons.mp hb with z | z
    · subst z; exact ⟨_, he, fun v q => nomatch q⟩
    · have z2 : b = it := by simpa using z
      subst z2; exact ⟨o, ho, fun v q => by rw [hd] at q; cases q⟩
  keep := fun i h h2 st k => let ⟨⟨old, he⟩, hi, hne⟩ := st; ⟨⟨old, k e (List.mem_cons_self ..) _ he⟩, hi.at fun o q => k it (by simp) o q, hne⟩
  item := by
    intro X hP hw hK hc i pins s σ H E I hf st hg
    subst hP hw hK
    obtain ⟨⟨old, he⟩, hit, hne⟩ := st
    obtain ⟨ys, y, hq, hy⟩ := hg
    obtain ⟨its, rv, p, _⟩ := I.tuple hq
    obtain ⟨u, hu, ru⟩ := rv.get hy
    have lte : e < s.heap.objs.size := Heap.lt_size he
    have lti : it < s.heap.objs.size := by obtain ⟨_, q, _⟩ := hit; exact Heap.lt_size q
    have nei : a ≠ it := fun z => by
      obtain ⟨o, q, cq, _⟩ := p
      obtain ⟨o2, q2, cq2, _⟩ := hit
      rw [z, q2] at q
      cases q
      have z2 := cq.symm.trans cq2
      injection z2 with z3
      exact absurd z3 (by decide)
    have nea : e ≠ a := fun z => by
      obtain ⟨o, q, cq, _⟩ := p
      have he2 : s.heap.get? e = some _ := he
      rw [z, q] at he2
      cases he2
      injection cq with z3
      exact absurd z3 (by decide)
    have D := Draws.tuple (prog := X.prog) (w := X.w) (A := X.A.in1) (show X.A.in1.handled = none from I.ok.hd hc) it a nei its.toArray
    have hlt : i < its.toArray.size := by
      have := (List.getElem?_eq_some_iff.mp hu).1
      simpa using this
    refine wpAny_pyNext_enum_itemC D he ⟨hit, p⟩ hlt hne (by simp [hne, nea]) fun x h2 tk hx ho st2 hT hsz hk => ?_
    obtain rfl : x = u := by
      have hx2 : its.toArray[i]? = some x := hx
      have : its[i]? = some x := by simpa using hx2
      exact Option.some.inj (this.symm.trans hu)
    refine ⟨_, rfl, wpAny_letOwnedTupleGo_enum (s := { s with heap := h2, toks := tk + 1 }) ho fun h3 he3 sb => ?_⟩
    have hT3 : h3.get? s.heap.objs.size = some { cls := .type "tuple", data := .seq #[.int i tk, x] } := (sb.2 _ (Nat.ne_of_gt lte)).trans hT
    have new : ObjOk X.prog X.w (upd H s.heap.objs.size (.tup [.int (i : Nat), y])) h3 s.heap.objs.size (.tup [.int (i : Nat), y]) :=
      ⟨by show 2 ≤ sizeLine; decide, [.int i tk, x], .cons ⟨_, rfl⟩ (.cons ru .nil), ⟨_, hT3, rfl, _, rfl⟩⟩
    have J : Inv X pins σ (upd H s.heap.objs.size (.tup [.int (i : Nat), y])) { s with heap := h3, toks := tk + 1 } :=
      I.turnedNew (ch := [e, it]) (fun b ob hb q => (sb.2 b (fun z => hb (by simp [z]))).trans (hk b ob (fun z => hb (by simp [z])) (fun z => hb (by simp [z])) q)) hf (Nat.le_refl _) new
    refine ⟨.ref s.heap.objs.size, _, J, rfl, ⟨_, y, rfl, I.hok.fresh (Nat.le_refl _), rfl, fun zs hz => by rw [I.tuple_inj hz hq]; exact hy⟩, ⟨⟨x, ?_⟩, st2.1.at fun o q => (sb.2 it (Ne.symm hne)).trans q, hne⟩, fun b hb => ?_⟩
    · have e1 : ((i + 1 : Nat) : Int) = (i : Int) + 1 := by omega
      rw [e1]; exact he3
    · have old2 : b < s.heap.objs.size := by
        rcases List.mem_cons.mp hb with z | z
        · rw [z]; exact lte
        · have z2 : b = it := by simpa using z
          rw [z2]; exact lti
      rw [upd_ne (Nat.ne_of_lt old2)]
      exact (hf b hb).1
  done := by
    intro X hP hw hK hc i pins s σ H E I hf st hg
    subst hP hw hK
    obtain ⟨⟨old, he⟩, hit, hne⟩ := st
    obtain ⟨ys, hq, hy⟩ := hg
    obtain ⟨its, rv, p, _⟩ := I.tuple hq
    have nei : a ≠ it := fun z => by
      obtain ⟨o, q, cq, _⟩ := p
      obtain ⟨o2, q2, cq2, _⟩ := hit
      rw [z, q2] at q
      cases q
      have z2 := cq.symm.trans cq2
      injection z2 with z3
      exact absurd z3 (by decide)
    obtain ⟨f0, f1, f2, f3, f4, f5⟩ := hf it (by simp)
    have D := Draws.tuple (prog := X.prog) (w := X.w) (A := X.A.in1) (show X.A.in1.handled = none from I.ok.hd hc) it a nei its.toArray
    have hn : its.toArray.size = i := by rw [List.size_toArray, ← rv.length]; exact hy
    exact wpAny_pyNext_enum_endD D he (hn.symm ▸ ⟨hit, p⟩) fun h2 eb => ⟨rfl, I.turned (t' := s.toks) (fun b o hb q => eb b o hb q) f0 f1 f3 f4 f5⟩
  self := fun A i s Q E st h => let ⟨⟨_, he⟩, _⟩ := st; wpAny_pyIter_enum he h
def iEnumT (K : PySem.W.Frag) (ta : TA) : TI := fun σ H R => ta σ H fun vs H1 => ∃ a xs, vs = [.ref a] ∧ SqT K H1 a xs ∧ R (Iet K a) H1
theorem pi_enumT {X : Cx} {e : Expr} {ta : TA} {p pos tpos : Pos} {elts : List Expr} {kk : Nat} (hg : Gl X "enumerate") (hm : X.mg "enumerate" = none) (ha : PA X [e] ta) (hs : starEach [e] X.env = [(false, eval e X.env)] := by rfl) :
    PI X (.Tuple elts kk tpos) (.Call (.Name "enumerate" p) [e] [] pos) (iEnumT X.K ta) := by
  constructor
  intro pins s σ H R I h
  refine Call_ (ld_blt I hg hm boot_enumerate (PyProof.Rows.callWith_type1 (thn (ha.run pos pins s σ H _ I h) fun us s2 ⟨vs, H2, I2, rr, a, xs, ev, hq, q⟩ => ?_) hs rfl))
  subst ev
  obtain ⟨u, rfl, ru⟩ := vals1 rr
  cases ru
  obtain ⟨its, rv, pt, _⟩ := I2.tuple hq
  refine enum1_call (begins_tuple a its.toArray) pt fun h2 he hit hk => wpAny_pyIter_enum he ?_
  have J : Inv X pins σ H2 { s2 with heap := h2 } := I2.kept (t' := s2.toks) hk
  refine ⟨_, [s2.heap.objs.size + 1, s2.heap.objs.size], _, _, H2, rfl, J, turn_et a (s2.heap.objs.size + 1) s2.heap.objs.size, ⟨⟨.none, he⟩, ⟨_, hit, rfl, rfl⟩, Nat.succ_ne_self _⟩, fun b hb => ?_, q⟩
  have ge : s2.heap.objs.size ≤ b := by
    rcases List.mem_cons.mp hb with z | z
    · rw [z]; exact Nat.le_succ _
    · have z2 : b = s2.heap.objs.size := by simpa using z
      rw [z2]; exact Nat.le_refl _
  exact I2.fpOk ge (I2.hok.fresh ge)
theorem walk_et {K : PySem.W.Frag} {a : Addr} {xs : List V} : Walk (Iet K a) xs.length (fun H => SqT K H a xs) (YPair (fun i => some (.int (i : Nat))) (fun i => xs[i]?)) :=
  ⟨fun i H hi q => ⟨xs, xs[i], q, by simp [hi]⟩, fun H q => ⟨xs, q, rfl⟩, fun i H v H2 _ q ⟨T, y, h1, h2, h3, h4⟩ => ⟨T, _, y, h1, h2, h3, rfl, h4 xs q⟩⟩
end ET
end
section
set_option Elab.async false
set_option linter.all false
set_option maxRecDepth 100000
set_option maxHeartbeats 4000000
/-! ST: len(set(texts)), any number of them. -/
namespace ST
open PySem PySem.Spec PyProof.Rows
/-- how many different ones there are among the first i -/
def cn (xs : List Str) : Nat → Nat
  | 0 => 0
  | i + 1 => if (xs.take i).any (· == xs.getD i Str.empty) then cn xs i else cn xs i + 1
theorem cn_le (xs : List Str) : ∀ i, cn xs i ≤ i
  | 0 => Nat.le_refl 0
  | i + 1 => by
    have h := cn_le xs i
    unfold cn
    split <;> omega
theorem cn_nodup {xs : List Str} (nd : xs.Nodup) : ∀ i, i ≤ xs.length → cn xs i = i
  | 0, _ => rfl
  | i + 1, h => by
    unfold cn
    rw [cn_nodup nd i (by omega), if_neg]
    intro z
    obtain ⟨y, hy, e⟩ := List.any_eq_true.mp z
    have e2 : y = xs[i] := by rw [beq_iff_eq.mp e, List.getD_eq_getElem?_getD, List.getElem?_eq_getElem (by omega)]; rfl
    obtain ⟨j, hj, ej⟩ := List.mem_take_iff_getElem.mp hy
    have hji : j < i := by omega
    have := (List.getElem_inj nd).mp (ej.trans e2)
    omega
theorem take_any (xs : List Str) {i : Nat} (hi : i < xs.length) (q : Str) : ((xs.take i).any (· == q) || decide (q = xs.getD i Str.empty)) = (xs.take (i + 1)).any (· == q) := by
  rw [List.take_succ, List.any_append, List.getD_eq_getElem?_getD, List.getElem?_eq_getElem hi]
  congr 1
  simp only [Option.toList_some, List.any_cons, List.any_nil, Bool.or_false, Option.getD_some]
  by_cases e : q = xs[i]
  · rw [decide_eq_true e, e, beq_self_eq_true]
  · rw [decide_eq_false e]
    exact (beq_eq_false_iff_ne.mpr fun z => e z.symm).symm
section
variable {P : Program} {w : World} {A : Around} {R : Result → Shared → Prop} {it S : Addr} {fp wr : List Addr} {G : Array GenState → Array GenState → Prop} {n : Nat} {Pv : Nat → Value → Prop} {St : Nat → Shared → Prop} {xs : List Str}
theorem fill (W : WalksS P w A.in1 it fp wr G n Pv St) (far : S ∉ fp) (len : xs.length = n) (big : n + 1 < scanBound) (val : ∀ i v, Pv i v → ∃ t, v = .str (xs.getD i Str.empty) t) :
    ∀ (left i : Nat) (s : Shared), i + left = n → St i s → s.heap.SetOf (PySem.strKind P w) S (fun q => (xs.take i).any (· == q)) (cn xs i) →
      (∀ z, Moved (S :: wr) G s z → z.heap.SetOf (PySem.strKind P w) S (fun q => (xs.take n).any (· == q)) (cn xs n) → R (.ok (.ret .none)) z) →
      codeAny (model P w) A (.builtin "set.update.loop" ⟨[.ref S, .ref it], []⟩) R s
  | 0, i, s, e, st, had, k => by
    obtain rfl : i = n := by omega
    refine codeAny_builtin PyProof.Rows.F.entry_set_update_loop ?_
    rw [Around.under_plainId PyProof.Rows.F.plain_set_update_loop _]
    show wpAny _ A.in1 (pyNext (.ref it) >>= _) _ _ s
    refine wpAny_bind (W.done s _ _ st fun z mv => ?_)
    show wpAny _ A.in1 (ret Value.none) _ _ z
    refine wpAny_pure (k z (mv.mono fun b hb => List.mem_cons_of_mem _ hb) ?_)
    obtain ⟨o, es, ep, tb, ho, more⟩ := had
    exact ⟨o, es, ep, tb, mv.heap S _ (fun z => far (W.sub _ z)) ho, more⟩
  | left + 1, i, s, e, st, had, k => by
    have lt : i < n := by omega
    refine codeAny_builtin PyProof.Rows.F.entry_set_update_loop ?_
    rw [Around.under_plainId PyProof.Rows.F.plain_set_update_loop _]
    show wpAny _ A.in1 (pyNext (.ref it) >>= _) _ _ s
    refine wpAny_bind (W.item i s _ _ lt st fun v z hv stz mv => ?_)
    obtain ⟨t, rfl⟩ := val i v hv
    have hadz : z.heap.SetOf (PySem.strKind P w) S (fun q => (xs.take i).any (· == q)) (cn xs i) := by
      obtain ⟨o, es, ep, tb, ho, more⟩ := had
      exact ⟨o, es, ep, tb, mv.heap S _ (fun y => far (W.sub _ y)) ho, more⟩
    show wpAny _ A.in1 (holding [Value.str (xs.getD i Str.empty) t] (setAdd S (.str (xs.getD i Str.empty) t)) >>= _) _ _ z
    refine wpAny_bind (wpAny_holding ?_)
    unfold setAdd
    refine wpAny_holding (wpAny_bind ((PySem.strKind P w).pyHash (k := xs.getD i Str.empty) (strKind_is _ _ _ _) ?_))
    refine wpAny_setAddHashed_of (knd := PySem.strKind P w) (s := { z with toks := z.toks + 1 }) (strKind_is _ _ _ _) rfl hadz (by have := cn_le xs i; omega) fun h2 same new => ?_
    have now : h2.SetOf (PySem.strKind P w) S (fun q => (xs.take (i + 1)).any (· == q)) (cn xs (i + 1)) := SetOf_congr new (fun q => take_any xs (by omega) q) rfl
    have nS : ∀ b, b ∈ fp → b ≠ S := fun b hb y => far (y ▸ hb)
    refine wpAny_pure ⟨plainId_quiet PyProof.Rows.F.plain_set_update_loop _, fill W far len big val left (i + 1) _ (by omega) (W.frame _ z _ _ stz (Nat.le_succ _) fun b hb o ob => (same.2 b (nS b hb)).trans ob) now fun y my hy => k y ?_ hy⟩
    exact Moved.trans W.gtrans ((mv.mono fun b hb => List.mem_cons_of_mem _ hb).then_heap (Nat.le_succ _) fun b o hb ob => (same.2 b fun y => hb (by rw [y]; exact List.mem_cons_self)).trans ob) my
end
section
variable {P : Program} {w : World} {A : Around} {E : Value → Shared → Prop} {s : Shared}
def freshSet (b : Bool) : Obj := { cls := .type "set", dict := none, data := .set #[] 0 (.fresh 0 0 b) }
/-- set(l): what stands there then -/
def Made (P : Program) (w : World) (xs : List Str) (s : Shared) (h2 : Heap) : Prop :=
  h2.SetOf (PySem.strKind P w) s.heap.objs.size (fun q => (xs.take xs.length).any (· == q)) (cn xs xs.length) ∧ ∀ b o, b < s.heap.objs.size → s.heap.get? b = some o → h2.get? b = some o
set_option maxHeartbeats 8000000 in
theorem set_of_list {l : Addr} {items : Array Value} {xs : List Str} {Q : Value → Shared → Prop} (calm : A.handled = none) (hl : s.heap.IsList l items) (ra : StrsAre items.toList xs) (big : xs.length + 1 < scanBound)
    (k : ∀ (h2 : Heap) (tk : Nat), Made P w xs s h2 → Q (.ref s.heap.objs.size) { s with heap := h2, toks := tk }) : wpAny (model P w) A (call (.type "set") [.ref l]) Q E s := by
  obtain ⟨cc, tl, mro⟩ := F.called_set.mro
  have made := F.called_set.made
  have sub := F.called_set.sub
  have len : xs.length = items.size := by rw [← ra.length, Array.length_toList]
  refine wpAny_call (codeAny_of_tree ?_)
  show wpAny _ _ (callAny (.type "set") _) _ _ _
  refine wpAny_pure ⟨Code.quiet_builtin _ (by decide +kernel), codeAny_builtin F.entry_type_call ?_⟩
  rw [Around.under_plain (weight_type_call_type "set" [.ref l] []) rfl]
  have z1 := F.called_set.notType
  have z2 := F.called_set.canCreate
  have z3 := F.typeCall_set_1 (.ref l)
  repeat (any_goals (first | assumption | wp_step))
  refine codeAny_mono (code_set_new_1 (.ref l) (E := E) (Q₁ := fun ob z => ∃ b : Bool, ob = .ref s.heap.objs.size ∧ z = { s with heap := s.heap.push (freshSet b) }) fun b => ⟨b, rfl, rfl⟩) fun r z hz => ?_
  match r, hz with
  | .error er, hz => exact hz
  | .ok .next, hz => exact hz.elim
  | .ok .brk, hz => exact hz.elim
  | .ok .cont, hz => exact hz.elim
  | .ok (.ret ob), ⟨b, e1, e2⟩ =>
  subst e1 e2
  have hS : (s.heap.push (freshSet b)).get? s.heap.objs.size = some (freshSet b) := Heap.get?_push_size _ rfl
  have hT : Shared.TypeIs { s with heap := s.heap.push (freshSet b) } (.ref s.heap.objs.size) "set" := ⟨_, hS, rfl⟩
  have y1 := F.called_set.init.lookup
  have y2 := F.called_set.init.bind (.ref s.heap.objs.size)
  repeat (any_goals (first | assumption | wp_step))
  refine codeAny_mono (codeAny_call_builtin (R := wants (fun r z => r = .none ∧ ∃ h2 tk, z = { s with heap := h2, toks := tk } ∧ Made P w xs s h2) E) F.called_set.init.plain F.entry_set_init (check_set_init_1 hT ?_)) fun r z hz => ?_
  · obtain ⟨⟨c, d, da, sl⟩, hol, hc, nl, hd⟩ := hl
    dsimp only at hc hd
    subst hc hd
    have hol2 : (s.heap.push (freshSet b)).get? l = some { cls := .type "list", dict := d, data := .seq items nl, slots := sl } := Heap.get?_push_of_some _ hol
    have x1 := F.sub_list_set
    have x2 := F.sub_list_frozenset
    have x3 : (Value.type "list" == Value.type "dict") = false := by decide
    have hl2 : (s.heap.push (freshSet b)).IsList l items := ⟨_, hol2, rfl, nl, rfl⟩
    unfold Builtin.«set.__init__» noKeywords Builtin.Frozenset.updateFrom
    generalize hPI : pyIter = PI
    wp_walk
    subst hPI
    refine wpAny_pyIter_list hl2 (wpAny_bind (wpAny_runValue ?_))
    have ltl : l < s.heap.objs.size := Heap.lt_size hol
    have size2 : (s.heap.push (freshSet b)).objs.size = s.heap.objs.size + 1 := Heap.size_push ..
    refine fill ((Walks.list (show A.in1.in1.in1.handled = none by simp [calm]) _ l (by rw [size2]; exact Nat.ne_of_lt (Nat.lt_succ_of_lt ltl)) items).toS) (S := s.heap.objs.size) (by
        rw [size2]
        intro y
        rcases List.mem_cons.mp y with y | y
        · exact Nat.lt_irrefl _ (Nat.lt_of_lt_of_eq (Nat.lt_succ_self _) y.symm)
        · exact Nat.lt_irrefl _ (Nat.lt_of_le_of_lt (Nat.le_of_eq (List.mem_singleton.mp y)) ltl)) len (by omega)
      (fun i v hv => ?_) items.size 0 _ (by omega) ⟨⟨_, Heap.get?_push_size _ rfl, rfl, rfl⟩, hl2.push _⟩ ?_ fun z mv hz => ?_
    · obtain ⟨t, e⟩ := SS.strs_at ra i v (by rw [Array.getElem?_toList]; exact hv)
      exact ⟨t, e⟩
    · exact SetOf_congr ((setObjOf_fresh (knd := PySem.strKind P w) b).setOf (Heap.get?_push_of_some _ hS) (by unfold scanBound; omega)) (fun _ => rfl) rfl
    · obtain ⟨h2, g2, d2, tk2, os2⟩ := z
      obtain rfl : g2 = s.gens := mv.gens
      obtain rfl : d2 = s.drawn := mv.drawn
      obtain rfl : os2 = s.os := mv.os
      show wpAny _ _ _ _ _ _
      refine wpAny_pure ?_
      show wpAny _ _ (ret Value.none) _ _ _
      refine wpAny_pure ⟨rfl, h2, tk2, rfl, len.symm ▸ hz, fun c o hc e => ?_⟩
      refine mv.heap c o (fun y => ?_) (Heap.get?_push_of_some _ (Heap.get?_push_of_some _ e))
      rw [size2] at y
      rcases List.mem_cons.mp y with y | y
      · exact Nat.lt_irrefl _ (Nat.lt_of_le_of_lt (Nat.le_of_eq y.symm) hc)
      · exact Nat.lt_irrefl _ (Nat.lt_trans hc (Nat.lt_of_lt_of_le (Nat.lt_succ_self _) (Nat.le_of_eq (List.mem_singleton.mp y).symm)))
  · match r, hz with
    | .error er, hz => exact hz
    | .ok .next, hz => exact hz.elim
    | .ok .brk, hz => exact hz.elim
    | .ok .cont, hz => exact hz.elim
    | .ok (.ret v), ⟨e1, h2, tk, e2, mk⟩ =>
      subst e1 e2
      repeat (any_goals (first | assumption | wp_step))
      exact k _ _ mk
end
open L2
def tLenSetS (K : PySem.W.Frag) (ta : TE) : TE := fun σ H Q => ta σ H fun x H1 => ∃ (l : Addr) (xs : List Str), x = .ref l ∧ SqL K H1 l (xs.map V.str) ∧ xs.length ≤ 1000 ∧ Q (.int (cn xs xs.length)) H1
theorem pe_lenSetS {X : Cx} {a : Expr} {ta : TE} {p p2 q pos : Pos} (hc : X.calm = true) (hg : Gl X "len") (hm : X.mg "len" = none) (hg2 : Gl X "set") (hm2 : X.mg "set" = none) (ha : PE X a ta)
    (na : starEach [a] X.env = (false, eval a X.env) :: starEach [] X.env := by rfl) : PE X (.Call (.Name "len" p) [.Call (.Name "set" p2) [a] [] q] [] pos) (tLenSetS X.K ta) := by
  constructor
  intro pins s σ H Q I h
  refine Call_ (ld_blt I hg hm boot_len (PyProof.Rows.callWith_builtin1 (PyProof.Rows.args_cons (Call_ (ld_blt I hg2 hm2 boot_set ?_)) rfl) rfl rfl))
  refine PyProof.Rows.callWith_type1 (PyProof.Rows.args_cons (thn (ha.run pins s σ H _ I h) fun v s2 ⟨x, H2, I2, r2, l, xs, ex, hq, hz, qq⟩ => PyProof.Rows.args_nil ?_) na) na rfl
  subst ex
  cases r2
  obtain ⟨its, r, pl, _⟩ := I2.list hq
  refine set_of_list (I2.ok.hd hc) pl.isList (by simpa using strsAre_of r) (by unfold scanBound; omega) fun h2 tk mk => PyProof.Rows.args_nil ?_
  obtain ⟨⟨o, es, ep, t, ho, hex, hd, _, _, _, hf, hn⟩, hk⟩ := mk
  have I3 : Inv X pins σ H2 { s2 with heap := h2, toks := tk } := I2.kept fun b o e => hk b o (Heap.lt_size e) e
  have le := cn_le xs xs.length
  exact call_len_set ho hex hd hf (by rw [hn]; omega) ⟨.int (cn xs xs.length), H2, I3.tok _, ⟨_, by rw [hn]⟩, qq⟩
end ST
end
section
set_option Elab.async false
set_option linter.all false
set_option maxRecDepth 100000
set_option maxHeartbeats 4000000
/-! D2: {k: v for a in xs for b in ys}, the keys tuples of texts and ints. -/
namespace D2
open PySem PySem.Spec PyProof.Rows L2
/-- one clause of a comprehension: draw, store, body -/
def turnOf (e : Expr) (lvl : Nat) (tg : Expr) (ip : Pos) (body : Sem Unit) (it acc : Value) (env : Env) : Sem Fin := do
  standAt ip
  match ← pyNext it with
  | none => pure (.done .next)
  | some v =>
    letOwnedTupleGo tg it v
    assign tg env v
    body
    again (.compLoop e lvl it acc env)
def inner (e : Expr) (i1 : Expr) (acc : Value) (env : Env) : Sem Unit := do
  let x ← eval i1 env
  standAt i1.pos
  let x ← foldedSetIterable i1 env x
  let _ ← runOwn (.compStart e 1 (← holding [x] (pyIter x)) acc env) env
def emit (kx vx : Expr) (D : Addr) (env : Env) : Sem Unit := do
  let kv ← eval kx env
  let vv ← holding [kv] (eval vx env)
  standAt { kx.pos with endLine := vx.pos.endLine, endCol := vx.pos.endCol }
  holding [kv, vv] (dictSet D kv vv)
theorem turn0 (kx vx t0 i0 t1 i1 : Expr) (scope : Scope) (pos : Pos) (it : Value) (D : Addr) (env : Env) : compTurn (.DictComp kx vx [⟨t0, i0, [], 0⟩, ⟨t1, i1, [], 0⟩] scope pos) 0 it (.ref D) env =
    turnOf (.DictComp kx vx [⟨t0, i0, [], 0⟩, ⟨t1, i1, [], 0⟩] scope pos) 0 t0 i0.pos (inner (.DictComp kx vx [⟨t0, i0, [], 0⟩, ⟨t1, i1, [], 0⟩] scope pos) i1 (.ref D) env) it (.ref D) env := by
  unfold turnOf inner
  simp only [bind_assoc]
  rfl
theorem turn1 (kx vx t0 i0 t1 i1 : Expr) (scope : Scope) (pos : Pos) (it : Value) (D : Addr) (env : Env) : compTurn (.DictComp kx vx [⟨t0, i0, [], 0⟩, ⟨t1, i1, [], 0⟩] scope pos) 1 it (.ref D) env =
    turnOf (.DictComp kx vx [⟨t0, i0, [], 0⟩, ⟨t1, i1, [], 0⟩] scope pos) 1 t1 i1.pos (emit kx vx D env) it (.ref D) env := by
  rfl
section
variable {P : Program} {w : World} {A : Around} {R : Result → Shared → Prop} {s : Shared} {kx vx tg : Expr} {gens : List Comprehension} {scope : Scope} {pos : Pos} {lvl : Nat} {ip : Pos} {body : Sem Unit} {it acc : Value} {env : Env}
/-- the clause's loop -/
theorem clause (hE : compTurn (.DictComp kx vx gens scope pos) lvl it acc env = turnOf (.DictComp kx vx gens scope pos) lvl tg ip body it acc env) (I : Nat → Shared → Prop)
    (step : ∀ n z, I n z → wpAny (model P w) A (pyNext it) (fun r z1 => match r with
      | none => R (.ok .next) z1
      | some v => wpAny (model P w) A (letOwnedTupleGo tg it v) (fun _ z2 => wpAny (model P w) A (assign tg env v) (fun _ z3 => wpAny (model P w) A body (fun _ z4 => ∃ m, m < n ∧ I m z4) (fun _ _ => False) z3) (fun _ _ => False) z2) (fun _ _ => False) z1) (fun _ _ => False) z)
    (n : Nat) (h : I n s) : codeAny (model P w) A (.compLoop (.DictComp kx vx gens scope pos) lvl it acc env) R s := by
  have no : ∀ {f : Value → Shared → Prop} (x : Value) (y : Shared), False → f x y := fun _ _ z => z.elim
  refine codeAny_loop rfl I (fun n z hI => ?_) n h
  show wpAny _ A ((compTurn (.DictComp kx vx gens scope pos) lvl it acc env).onRaise (fun x => do noteFrame x env; theTreesLotGoes x)) _ _ z
  refine wpAny_noted ?_
  rw [hE]
  unfold turnOf
  refine wpAny_bind (wpAny_standAt (wpAny_bind (wpAny_mono (step n z hI) (fun r z1 h1 => ?_) no)))
  match r, h1 with
  | none, h1 => exact wpAny_pure h1
  | some v, h1 =>
    refine wpAny_bind (wpAny_mono h1 (fun _ z2 h2 => wpAny_bind (wpAny_mono h2 (fun _ z3 h3 => wpAny_bind (wpAny_mono h3 (fun _ z4 h4 => ?_) no)) no)) no)
    exact wpAny_pure ⟨rfl, h4⟩
theorem start1 {kx vx t0 i0 t1 i1 : Expr} {scope : Scope} {pos : Pos} (h0 : codeAny (model P w) A (.compLoop (.DictComp kx vx [⟨t0, i0, [], 0⟩, ⟨t1, i1, [], 0⟩] scope pos) 1 it acc env) R s)
    (h : ∀ E, wpAny (model P w) A (pyIter it) (fun it2 z => codeAny (model P w) A (.compLoop (.DictComp kx vx [⟨t0, i0, [], 0⟩, ⟨t1, i1, [], 0⟩] scope pos) 1 it2 acc env) R z) E s) :
    codeAny (model P w) A (.compStart (.DictComp kx vx [⟨t0, i0, [], 0⟩, ⟨t1, i1, [], 0⟩] scope pos) 1 it acc env) R s := by
  refine codeAny_of_tree ?_
  show wpAny _ _ ((compStart _ 1 it acc env).onRaise (fun x => do noteFrame x env; standAt theWindowsPlace)) _ _ s
  refine wpAny_notedAt ?_
  unfold compStart
  show wpAny _ _ (ask >>= _) _ _ s
  refine wpAny_bind (wpAny_askSetting (wpAny_ite ?_))
  split
  · first
      | exact wpAny_pure ⟨rfl, h0⟩
      | exact wpAny_bind (wpAny_pure (wpAny_pure ⟨rfl, h0⟩))
  · refine wpAny_bind (wpAny_rule ?_)
    show wpAny _ _ (standAt i1.pos >>= _) _ _ s
    exact wpAny_bind (wpAny_standAt (wpAny_bind (wpAny_mono (h _) (fun it2 z hz => wpAny_pure ⟨rfl, hz⟩) fun _ _ x => x)))
end
/-- a clause over what is walked: F where it ends, bodyR what the body is asked -/
theorem walk_clause {B : Cx} {kx vx tg : Expr} {gens : List Comprehension} {scope : Scope} {pos : Pos} {lvl : Nat} {ip : Pos} {body : Sem Unit} {acc : Value} {J : It} {fp : List Addr} {it : Addr} {tn : Nat → Heap → Prop} {g : TG} {vs : List Nat} {σ0 : L2.St} {pins : List (Addr × Obj)} {H : Hp} {s : Shared} {R : Result → Shared → Prop}
    {bodyR : L2.St → Hp → (Hp → Prop) → Prop} {F : Hp → Prop} {m0 : Nat} (W : Nat → Nat → Hp → Prop) (hc : B.calm = true) (hx : ∀ e z, ¬ B.xe e z) (hE : compTurn (.DictComp kx vx gens scope pos) lvl (.ref it) acc B.env = turnOf (.DictComp kx vx gens scope pos) lvl tg ip body (.ref it) acc B.env)
    (T : Turn B.prog B.w B.K tg J fp it tn) (pg : PG B tg g) (f0 : ∀ b ∈ fp, FpOk B pins H b)
    (hb : ∀ (pl : List (Addr × Obj)) (z : Shared) (σ : L2.St) (H2 : Hp) (N : Hp → Prop), Inv B pl σ H2 z → wipe σ vs = σ0 → bodyR σ H2 N →
      wpAny (model B.prog B.w) B.A body (fun _ y => ∃ σ2 H3, Inv B pl σ2 H3 y ∧ σ2.length = σ.length ∧ (∀ (j : Nat) v, σ0[j]? = some (some v) → σ2[j]? = some (some v)) ∧ N H3) (fun _ _ => False) z)
    (turnW : ∀ i m H2, W i m H2 → (J.stop i H2 ∧ F H2) ∨ (J.go i H2 ∧ ∃ Nx : Hp → Prop, (∀ H3, Nx H3 → ∃ m2, m2 < m ∧ W (i + 1) m2 H3) ∧ ∀ x H3, J.yld i H2 x H3 → g x σ0 H3 fun σ2 H4 => wipe σ2 vs = σ0 ∧ bodyR σ2 H4 Nx))
    (fin : ∀ z H2, Inv B pins σ0 H2 z → F H2 → R (.ok .next) z) (I : Inv B pins σ0 H s) (st : tn 0 s.heap) (w0 : W 0 m0 H) :
    codeAny (model B.prog B.w) B.A (.compLoop (.DictComp kx vx gens scope pos) lvl (.ref it) acc B.env) R s := by
  have fp_at : ∀ {H2 : Hp}, (∀ b ∈ fp, H2 b = none) → ∀ b ∈ fp, FpOk B pins H2 b := fun n b hb => ⟨n b hb, (f0 b hb).2⟩
  refine clause hE (fun n z => ∃ i H2, Inv B pins σ0 H2 z ∧ tn i z.heap ∧ (∀ b ∈ fp, H2 b = none) ∧ W i n H2) ?_ m0 ⟨0, H, I, st, fun b hb => (f0 b hb).1, w0⟩
  rintro n z ⟨i, H2, I2, st2, n2, w2⟩
  rcases turnW i n H2 w2 with ⟨stop, done⟩ | ⟨go, Nx, hNx, step⟩
  · refine thnF (T.done B rfl rfl rfl hc i pins z σ0 H2 (fun _ _ => False) I2 (fp_at n2) st2 stop) fun r z1 ⟨hr, I3⟩ => ?_
    subst hr
    exact fin z1 H2 I3 done
  · refine thnF (T.item B rfl rfl rfl hc i pins z σ0 H2 (fun _ _ => False) I2 (fp_at n2) st2 go) fun r z1 ⟨u, hr, h1⟩ => ?_
    subst hr
    refine thnF h1 fun _ z2 ⟨x, H3, I3, r3, y3, st3, n3⟩ => ?_
    have I4 := I3.pinned (fp_at n3) (T.obj _ _ st3)
    refine wpAny_mono (pg.run _ z2 σ0 H3 x u _ I4 r3 (step x H3 y3)) ?_ fun e y q => (hx e y q).elim
    refine fun _ z3 ⟨σ5, H5, I5, w5, q5⟩ => ?_
    refine thnF (hb _ z3 σ5 H5 Nx I5 w5 q5) fun _ z4 ⟨σ6, H6, I6, l6, k6, q6⟩ => ?_
    obtain ⟨m2, lt2, w6⟩ := hNx H6 q6
    have pinned : ∀ b ∈ fp, ∀ o, z2.heap.get? b = some o → z4.heap.get? b = some o ∧ H6 b = none := fun b hb o e =>
      have z := I6.pin (b, o) (List.mem_append_right _ (List.mem_append_right _ (mem_pinsAt hb e)))
      ⟨z.1, z.2.1⟩
    have l0 : σ0.length = σ6.length := by rw [l6, ← w5, wipe_length]
    refine ⟨m2, lt2, i + 1, H6, I6.unpinned.weak l0 k6, T.keep _ _ _ st3 fun b hb o e => (pinned b hb o e).1, fun b hb => ?_, w6⟩
    obtain ⟨o, e, _⟩ := T.obj _ _ st3 b hb
    exact (pinned b hb o e).2
/-- d[t] = v by a comprehension, t a tuple of texts and ints -/
theorem put_tup {X : Cx} {pins : List (Addr × Obj)} {σ : L2.St} {H : Hp} {s : Shared} {E : Value → Shared → Prop} {D b : Addr} {kvs : List (List Key × V)} {k : List Key} {v : V} {r : Value} {Q : Unit → Shared → Prop} (hu : X.A.units + 1 < cLine) (I : Inv X pins σ H s) (hD : H D = some (.dT kvs)) (hz : kvs.length < sizeLine)
    (eb : H b = some (.tup (k.map kV))) (rv : RelV v r) (h : ∀ z, Inv X pins σ (upd H D (.dT (putK kvs k v))) z → Q () z) : wpAny (model X.prog X.w) X.A (dictSet D (.ref b) r) Q E s := by
  obtain ⟨z, hd, xs, rel, dd⟩ := dt_of I.hok hD
  have hx : xs.length ≤ sizeLine := by rw [← Paired.length rel]; exact z
  have hl : (putK kvs k v).length ≤ sizeLine := by have := length_putK kvs k v; omega
  refine wpAny_dictSet_heap (hsz := hx) (show X.A.units < cLine by omega) (key_of I.hok eb) dd fun h2 dd2 hs => h _ ?_
  obtain ⟨q, es, ep, hq, h2', h3, h4, _, h5⟩ := dd2
  refine d_write I (by rw [hD]; exact True.intro) hs ⟨q, hq⟩ ⟨hl, hd, _, (rel.put k eb rv).keeps fun c ys ec => ?_, q, es, ep, hq, h2', h3, h4, h5⟩
  rw [upd_ne (ne_of ec hD (fun z => nomatch z))]
  exact ec
section
variable {X : Cx}
def tDc2 (wi : TI) (g : TG) (wi1 : TI) (g1 : TG) (tk tv : TE) (vs vs1 : List Nat) : TE := fun σ H Q => wi σ H fun J H1 => ∀ D, H1 D = none → ∃ W : Nat → Nat → Hp → Prop, (∃ m, W 0 m (upd H1 D (.dT []))) ∧ ∀ i m H, W i m H →
  (J.stop i H ∧ Q (.ref D) H) ∨ (J.go i H ∧ ∃ Nx : Hp → Prop, (∀ H2, Nx H2 → ∃ m2, m2 < m ∧ W (i + 1) m2 H2) ∧ ∀ x H2, J.yld i H x H2 → g x (wipe σ vs) H2 fun σ2 H3 => wipe σ2 vs = wipe σ vs ∧
    wi1 σ2 H3 fun J1 H4 => ∃ W1 : Nat → Nat → Hp → Prop, (∃ m, W1 0 m H4) ∧ ∀ j k H, W1 j k H →
      (J1.stop j H ∧ Nx H) ∨ (J1.go j H ∧ ∃ Nx1 : Hp → Prop, (∀ H2, Nx1 H2 → ∃ k2, k2 < k ∧ W1 (j + 1) k2 H2) ∧ ∀ x H2, J1.yld j H x H2 → g1 x (wipe σ2 vs1) H2 fun σ3 H5 => wipe σ3 vs1 = wipe σ2 vs1 ∧
        tk σ3 H5 fun y H6 => tv σ3 H6 fun z H7 => ∃ kvs k b, y = V.ref b ∧ H7 D = some (.dT kvs) ∧ H7 b = some (.tup (k.map kV)) ∧ kvs.length < sizeLine ∧ Nx1 (upd H7 D (.dT (putK kvs k z)))))
theorem pe_dc2 {kx vx tg iter tg1 iter1 : Expr} {scope : Scope} {own : List (Str × Nat)} {vs1 : List Nat} {pos : Pos} {wi wi1 : TI} {g g1 : TG} {tk tv : TE} (hc : X.calm = true) (hu : X.A.units + 1 < cLine) (hN : X.N.Nodup) (hi : PI X tg iter wi) (ok : BlkOk X.N X.env.scope scope own) (hv : ∀ i ∈ vs1, i ∈ own.map (·.2))
    (hg : ∀ (s : Shared) (H : Hp) (C : Addr) (cl : List (Str × Addr)) (fp : List Addr), PG (X.blk s H scope (compEnvC scope cl C X.env) fp) tg g)
    (hi1 : ∀ (s : Shared) (H : Hp) (C : Addr) (cl : List (Str × Addr)) (fp : List Addr), PI (X.blk s H scope (compEnvC scope cl C X.env) fp) tg1 iter1 wi1)
    (hg1 : ∀ (s : Shared) (H : Hp) (C : Addr) (cl : List (Str × Addr)) (fp : List Addr), PG (X.blk s H scope (compEnvC scope cl C X.env) fp) tg1 g1)
    (hk : ∀ (s : Shared) (H : Hp) (C : Addr) (cl : List (Str × Addr)) (fp : List Addr), PE (X.blk s H scope (compEnvC scope cl C X.env) fp) kx tk)
    (he : ∀ (s : Shared) (H : Hp) (C : Addr) (cl : List (Str × Addr)) (fp : List Addr), PE (X.blk s H scope (compEnvC scope cl C X.env) fp) vx tv)
    (hs : ∀ x, foldedSetIterable iter X.env x = pure x := by intro _; rfl) (hs1 : ∀ env x, foldedSetIterable iter1 env x = pure x := by intro _ _; rfl) :
    PE X (.DictComp kx vx [⟨tg, iter, [], 0⟩, ⟨tg1, iter1, [], 0⟩] scope pos) (tDc2 wi g wi1 g1 tk tv (own.map (·.2)) vs1) := by
  constructor
  intro pins s σ H Q I h
  rw [arm_eval_DictComp]
  have clo : ∀ y ∈ scope.names, y.2 = .free → ∃ c, X.env.cells.lookup y.1 = some c := fun y hy e => (ok.free y hy e).elim (fun k => I.ok.has _ (.inl k)) fun k => I.ok.has _ (.inr k)
  refine wpAny_comprehension_free (use := none) rfl hs (closure_ok clo) ok.kind (fun y hy e => by rw [ok.uniq y hy, e]) (thn (hi.run pins s σ H _ I h) fun xv s1 hx => thn hx fun itv s2 h2 => ?_)
  obtain ⟨it, fp, tn, J, H2, e, I2, T, st2, f2, q⟩ := h2
  subst e
  refine wpAny_newObj_type (newEnv_comp ?_)
  generalize hD : s2.heap.objs.size = D
  have hDn : H2 D = none := I2.hok.fresh (Nat.le_of_eq hD)
  obtain ⟨W, ⟨m0, w0⟩, turn⟩ := q D hDn
  generalize hs3 : ({ s2 with heap := s2.heap.push { cls := .type "dict", data := .dict #[] } } : Shared) = s3
  have h3 : s3.heap = s2.heap.push { cls := .type "dict", data := .dict #[] } := by rw [← hs3]
  have I3 : Inv X pins σ (upd H2 D (.dT [])) s3 := by
    subst hs3 hD
    exact I2.laid (t' := s2.toks) (fun b o e => Heap.get?_push_of_some _ e) (Nat.le_refl _) (dt_empty s2.heap I2.big)
  have lt2 : ∀ b ∈ fp, b < s2.heap.objs.size := fun b hb => let ⟨o, e, _⟩ := T.obj _ _ st2 b hb; Heap.lt_size e
  have f3 : ∀ b ∈ fp, FpOk X pins (upd H2 D (.dT [])) b ∧ b < s3.heap.objs.size := fun b hb =>
    ⟨⟨by rw [upd_ne (by rw [← hD]; exact Nat.ne_of_lt (lt2 b hb))]; exact (f2 b hb).1, (f2 b hb).2⟩, by rw [h3, Heap.size_push]; exact Nat.lt_succ_of_lt (lt2 b hb)⟩
  have st3 : tn 0 s3.heap := T.keep _ _ _ st2 fun b _ o e => by rw [h3]; exact Heap.get?_push_of_some _ e
  have I4 := block_start I3 ok hN f3
  generalize hH3 : upd H2 D (.dT []) = H3 at I3 I4 w0 f3
  have pg := hg s3 H3 s3.heap.objs.size (cellsFrom (s3.heap.objs.size + 1) scope.names (cloFrom X.env.cells scope.names [])) fp
  have pi1 := hi1 s3 H3 s3.heap.objs.size (cellsFrom (s3.heap.objs.size + 1) scope.names (cloFrom X.env.cells scope.names [])) fp
  have pg1 := hg1 s3 H3 s3.heap.objs.size (cellsFrom (s3.heap.objs.size + 1) scope.names (cloFrom X.env.cells scope.names [])) fp
  have pk := hk s3 H3 s3.heap.objs.size (cellsFrom (s3.heap.objs.size + 1) scope.names (cloFrom X.env.cells scope.names [])) fp
  have pv := he s3 H3 s3.heap.objs.size (cellsFrom (s3.heap.objs.size + 1) scope.names (cloFrom X.env.cells scope.names [])) fp
  show codeAny _ _ (.compStart (.DictComp kx vx [⟨tg, iter, [], 0⟩, ⟨tg1, iter1, [], 0⟩] scope pos) 0 (.ref it) (.ref D) (compEnvC scope (cellsFrom (s3.heap.objs.size + 1) scope.names (cloFrom X.env.cells scope.names [])) s3.heap.objs.size X.env)) _ { s3 with heap := pushCells (s3.heap.push { cls := .type "dict", data := .dict #[] }) scope.names }
  generalize hce : compEnvC scope (cellsFrom (s3.heap.objs.size + 1) scope.names (cloFrom X.env.cells scope.names [])) s3.heap.objs.size X.env = ce at I4 pg pk pv pi1 pg1 ⊢
  have cL : ce.locals = s3.heap.objs.size := by subst hce; rfl
  generalize hs4 : ({ s3 with heap := pushCells (s3.heap.push { cls := .type "dict", data := .dict #[] }) scope.names } : Shared) = s4 at I4 ⊢
  have st4 : tn 0 s4.heap := T.keep _ _ _ st3 fun b _ o e => by rw [← hs4]; exact pushCells_keeps _ _ _ _ (Heap.get?_push_of_some _ e)
  have no : ∀ {f : Value → Shared → Prop} (x : Value) (y : Shared), False → f x y := fun _ _ z => z.elim
  have f4 : ∀ b ∈ fp, FpOk (X.blk s3 H3 scope ce fp) [] H3 b := fun b hb =>
    ⟨(f3 b hb).1.1, (I4.ok.exf b hb).1, I4.ok.exfs b hb, .inl hb, fun x c e => (I4.ok.exf b hb).2 x c e, fun p hp => absurd (show p ∈ ([] : List (Addr × Obj)) ++ [] from hp) (by simp)⟩
  have main : codeAny (model X.prog X.w) X.A (.compLoop (.DictComp kx vx [⟨tg, iter, [], 0⟩, ⟨tg1, iter1, [], 0⟩] scope pos) 0 (.ref it) (.ref D) ce) (compPost (model X.prog X.w) X.A X.xe none (EP X pins σ Q) (.ref D) s3.heap.objs.size) s4 := by
    refine walk_clause (B := X.blk s3 H3 scope ce fp) (σ0 := wipe σ (own.map (·.2))) (vs := own.map (·.2)) (pins := []) (F := fun H => Q (.ref D) H) W hc (fun _ _ z => z) (turn0 kx vx tg iter tg1 iter1 scope pos (.ref it) D ce) T pg f4 (fun pl z σ2 H5 N I5 w5 q5 => ?_) turn (fun z H5 I6 qq => ?_) I4 st4 w0
    · unfold inner
      refine wpAny_bind (wpAny_mono (pi1.run _ z σ2 H5 _ I5 q5) (fun xv z1 hx => wpAny_bind (wpAny_standAt (wpAny_bind (wpAny_of_eq (hs1 ce xv) (wpAny_bind (wpAny_holding (wpAny_mono hx (fun itv z2 h6 => ?_) no))))))) no)
      obtain ⟨it1, fp1, tn1, J1, H6, e1, I6, T1, st6, f6, W1, ⟨m1, w1⟩, turn1'⟩ := h6
      subst e1
      refine wpAny_bind (wpAny_runOwn ?_)
      rw [Around.mark_none]
      have len2 : (wipe σ2 vs1).length = σ2.length := wipe_length _ _
      have know : ∀ (j : Nat) v, (wipe σ (own.map (·.2)))[j]? = some (some v) → (wipe σ2 vs1)[j]? = some (some v) := fun j v e => by
        rw [← w5] at e
        obtain ⟨e1, e2⟩ := wipe_some e
        rw [wipe_out fun z => e2 (hv j z)]
        exact e1
      have loop1 : codeAny (model X.prog X.w) X.A (.compLoop (.DictComp kx vx [⟨tg, iter, [], 0⟩, ⟨tg1, iter1, [], 0⟩] scope pos) 1 (.ref it1) (.ref D) ce)
          (fun r y => match r with
            | .ok _ => ∃ σ3 H7, Inv (X.blk s3 H3 scope ce fp) pl σ3 H7 y ∧ σ3.length = σ2.length ∧ (∀ (j : Nat) v, (wipe σ (own.map (·.2)))[j]? = some (some v) → σ3[j]? = some (some v)) ∧ N H7
            | .error _ => False) z2 := by
        refine walk_clause (B := X.blk s3 H3 scope ce fp) (σ0 := wipe σ2 vs1) (vs := vs1) (pins := pl) (F := N) W1 hc (fun _ _ z => z) (turn1 kx vx tg iter tg1 iter1 scope pos (.ref it1) D ce) T1 pg1 f6 (bodyR := fun σ3 H7 Nx => tk σ3 H7 fun y H8 => tv σ3 H8 fun z H9 => ∃ kvs k b, y = V.ref b ∧ H9 D = some (.dT kvs) ∧ H9 b = some (.tup (k.map kV)) ∧ kvs.length < sizeLine ∧ Nx (upd H9 D (.dT (putK kvs k z))))
          (fun pl2 y σ3 H7 N1 I7 w7 q7 => ?_) turn1' (fun y H7 I7 q7 => ⟨_, H7, I7, len2, know, q7⟩) (I6.weak len2 fun j v e => (wipe_some e).1) st6 w1
        unfold emit
        refine wpAny_bind (wpAny_mono (pk.run _ y σ3 H7 _ I7 q7) (fun u1 y1 ⟨v1, H8, I8, r8, q8⟩ => wpAny_bind (wpAny_holding (wpAny_mono (pv.run _ y1 σ3 H8 _ I8 q8) (fun u2 y2 ⟨v2, H9, I9, r9, kvs, k, b, ev, hD9, hb9, hz9, nx⟩ => wpAny_bind (wpAny_standAt (wpAny_holding ?_))) no))) no)
        subst ev
        cases r8
        exact put_tup (X := X.blk s3 H3 scope ce fp) hu I9 hD9 hz9 hb9 r9 fun y3 I10 => ⟨σ3, _, I10, rfl, fun j v e => by rw [← w7] at e; exact (wipe_some e).1, nx⟩
      refine codeAny_mono (start1 loop1 fun E => T1.self X.A 0 _ _ E st6 loop1) fun r y hr => ?_
      match r, hr with
      | .ok f, hr => exact wpAny_pure hr
      | .error e, hr => exact hr.elim
    · have I7 : Inv X pins σ H5 z := I3.call' (ch := fp) I6.os I6.base I6.hok I6.bare fun b hb => have w := (f3 b hb).1.2; ⟨w.2.2.1, w.1, w.2.2.2.1, w.2.2.2.2⟩
      obtain ⟨m, hn, _⟩ := I6.loc
      have hn2 : z.heap.Ns ce.locals m := hn
      have nC : H5 ce.locals = none := I6.free
      rw [cL] at hn2 nC
      obtain ⟨p0, p1, p2, p3, p4, p5⟩ := I3.fpOk (H' := H5) (Nat.le_refl _) nC
      exact ⟨m, hn2, fun h5 sb => ⟨.ref D, H5, I7.turned (t' := z.toks) (fun b o hb e => (sb.2 b hb).trans e) p0 p1 p3 p4 p5, rfl, qq⟩⟩
  exact codeAny_compStart_dict main (T.self X.A 0 _ _ _ st4 main)
end
end D2
end
section
set_option Elab.async false
set_option linter.all false
set_option maxRecDepth 100000
set_option maxHeartbeats 4000000
/-! TX: data made of tuples, over HandS.Evl: what stands (Rep), what evaluates to it (EvR), lists of it (EvS). -/
namespace TX
open PySem PySem.Spec PyProof.Rows L2 Evl
/-- all tuples stay -/
def Tx (H H' : Hp) : Prop := ∀ a xs, H a = some (.tup xs) → H' a = some (.tup xs)
theorem Tx.refl (H : Hp) : Tx H H := fun _ _ h => h
theorem Tx.trans {H H1 H2 : Hp} (a : Tx H H1) (b : Tx H1 H2) : Tx H H2 := fun x o h => b x o (a x o h)
theorem Tx.ex {H H' : Hp} (e : Ex H H') : Tx H H' := fun a xs h => e a _ h
theorem Tx.put {H : Hp} {D : Addr} {xs : List V} {o : HO} (h : H D = some (.lst xs)) : Tx H (upd H D o) := fun a ys e => by
  rw [upd_ne (fun z => by rw [z, h] at e; cases e)]
  exact e
mutual
inductive Rep (H : Hp) : V → PyData → Prop
  | non : Rep H .non .none
  | bl (b : Bool) : Rep H (.bl b) (.bool b)
  | int (i : Int) : Rep H (.int i) (.int i)
  | str (z : Str) : Rep H (.str z) (.str z)
  | tup {a : Addr} {xs : List V} {ds : List PyData} : H a = some (.tup xs) → Reps H xs ds → Rep H (.ref a) (.tuple ds)
inductive Reps (H : Hp) : List V → List PyData → Prop
  | nil : Reps H [] []
  | cons {x : V} {d : PyData} {xs : List V} {ds : List PyData} : Rep H x d → Reps H xs ds → Reps H (x :: xs) (d :: ds)
end
mutual
theorem Rep.on {H H' : Hp} (t : Tx H H') : ∀ {v : V} {d : PyData}, Rep H v d → Rep H' v d
  | _, _, .non => .non
  | _, _, .bl b => .bl b
  | _, _, .int i => .int i
  | _, _, .str z => .str z
  | _, _, .tup h r => .tup (t _ _ h) (Reps.on t r)
theorem Reps.on {H H' : Hp} (t : Tx H H') : ∀ {vs : List V} {ds : List PyData}, Reps H vs ds → Reps H' vs ds
  | _, _, .nil => .nil
  | _, _, .cons h r => .cons (Rep.on t h) (Reps.on t r)
end
theorem Rep.ex {H H' : Hp} {v : V} {d : PyData} (r : Rep H v d) (e : Ex H H') : Rep H' v d := r.on (.ex e)
theorem Reps.ex {H H' : Hp} {v : List V} {d : List PyData} (r : Reps H v d) (e : Ex H H') : Reps H' v d := r.on (.ex e)
theorem Reps.len {H : Hp} : ∀ {vs : List V} {ds : List PyData}, Reps H vs ds → vs.length = ds.length
  | _, _, .nil => rfl
  | _, _, .cons _ r => congrArg (· + 1) r.len
theorem Reps.app {H : Hp} : ∀ {vs us : List V} {ds es : List PyData}, Reps H vs ds → Reps H us es → Reps H (vs ++ us) (ds ++ es)
  | _, _, _, _, .nil, h => h
  | _, _, _, _, .cons h r, q => .cons h (r.app q)
theorem Reps.at {H : Hp} : ∀ {vs : List V} {ds : List PyData}, Reps H vs ds → ∀ {i : Nat} {x : V}, vs[i]? = some x → ∃ d, ds[i]? = some d ∧ Rep H x d
  | _, _, .nil, _, _, h => by simp at h
  | _, _, .cons h _, 0, _, e => by cases (Option.some.inj e); exact ⟨_, rfl, h⟩
  | _, _, .cons _ r, i + 1, _, e => r.at (i := i) e
theorem Reps.get {H : Hp} : ∀ {vs : List V} {ds : List PyData}, Reps H vs ds → ∀ {i : Nat} {d : PyData}, ds[i]? = some d → ∃ x, vs[i]? = some x ∧ Rep H x d
  | _, _, .nil, _, _, h => by simp at h
  | _, _, .cons h _, 0, _, e => by cases (Option.some.inj e); exact ⟨_, rfl, h⟩
  | _, _, .cons _ r, i + 1, _, e => r.get (i := i) e
theorem Rep.tup_inv {H : Hp} {v : V} {ds : List PyData} (r : Rep H v (.tuple ds)) : ∃ a xs, v = .ref a ∧ H a = some (.tup xs) ∧ Reps H xs ds := by
  cases r with
  | tup h r => exact ⟨_, _, rfl, h, r⟩
theorem Rep.str_inv {H : Hp} {v : V} {z : Str} (r : Rep H v (.str z)) : v = .str z := by cases r; rfl
theorem Rep.int_inv {H : Hp} {v : V} {z : Int} (r : Rep H v (.int z)) : v = .int z := by cases r; rfl
theorem Reps.nil_inv {H : Hp} {vs : List V} (r : Reps H vs []) : vs = [] := by cases r; rfl
theorem Reps.cons_inv {H : Hp} {vs : List V} {d : PyData} {ds : List PyData} (r : Reps H vs (d :: ds)) : ∃ x xs, vs = x :: xs ∧ Rep H x d ∧ Reps H xs ds := by
  cases r with
  | cons h r => exact ⟨_, _, rfl, h, r⟩
theorem Reps.strs {H : Hp} : ∀ {zs : List Str} {vs : List V}, Reps H vs (zs.map PyData.str) → vs = zs.map V.str
  | [], _, r => r.nil_inv
  | z :: zs, _, r => by
    obtain ⟨x, xs, rfl, h, q⟩ := r.cons_inv
    rw [h.str_inv, Reps.strs q]; rfl
theorem Reps.ofStrs {H : Hp} : ∀ (zs : List Str), Reps H (zs.map V.str) (zs.map PyData.str)
  | [] => .nil
  | z :: zs => .cons (.str z) (Reps.ofStrs zs)
theorem Reps.ints {H : Hp} : ∀ {zs : List Int} {vs : List V}, Reps H vs (zs.map PyData.int) → vs = zs.map V.int
  | [], _, r => r.nil_inv
  | z :: zs, _, r => by
    obtain ⟨x, xs, rfl, h, q⟩ := r.cons_inv
    rw [h.int_inv, Reps.ints q]; rfl
/-- what a value with parts reads as -/
theorem Rep.two {H : Hp} {v : V} {d e : PyData} (r : Rep H v (.tuple [d, e])) : ∃ a x y, v = .ref a ∧ H a = some (.tup [x, y]) ∧ Rep H x d ∧ Rep H y e := by
  obtain ⟨a, xs, rfl, h, r⟩ := r.tup_inv
  obtain ⟨x, xs, rfl, h1, r⟩ := r.cons_inv
  obtain ⟨y, xs, rfl, h2, r⟩ := r.cons_inv
  rw [r.nil_inv] at h
  exact ⟨a, x, y, rfl, h, h1, h2⟩
theorem Rep.three {H : Hp} {v : V} {d e f : PyData} (r : Rep H v (.tuple [d, e, f])) : ∃ a x y z, v = .ref a ∧ H a = some (.tup [x, y, z]) ∧ Rep H x d ∧ Rep H y e ∧ Rep H z f := by
  obtain ⟨a, xs, rfl, h, r⟩ := r.tup_inv
  obtain ⟨x, xs, rfl, h1, r⟩ := r.cons_inv
  obtain ⟨y, xs, rfl, h2, r⟩ := r.cons_inv
  obtain ⟨z, xs, rfl, h3, r⟩ := r.cons_inv
  rw [r.nil_inv] at h
  exact ⟨a, x, y, z, rfl, h, h1, h2, h3⟩
mutual
theorem Rep.dp {K : PySem.W.Frag} {H : Hp} : ∀ {v : V} {d : PyData}, Rep H v d → Dp K H v d
  | _, _, .non => .non
  | _, _, .bl b => .bl b
  | _, _, .int i => .int i
  | _, _, .str z => .str z
  | _, _, .tup h r => .tup (st_of h) (Reps.dp r)
theorem Reps.dp {K : PySem.W.Frag} {H : Hp} : ∀ {vs : List V} {ds : List PyData}, Reps H vs ds → DpAll K H vs ds
  | _, _, .nil => .nil
  | _, _, .cons h r => .cons (Rep.dp h) (Reps.dp r)
end
/-! ### what evaluates to it -/
def EvR (te : TE) (σ : L2.St) (H : Hp) (d : PyData) : Prop := ∀ H1, Ex H H1 → ∀ Q : VK, (∀ v H2, Ex H1 H2 → Rep H2 v d → Q v H2) → te σ H1 Q
def EvRA (ta : TA) (σ : L2.St) (H : Hp) (ds : List PyData) : Prop := ∀ H1, Ex H H1 → ∀ Q : List V → Hp → Prop, (∀ vs H2, Ex H1 H2 → Reps H2 vs ds → Q vs H2) → ta σ H1 Q
/-- a new list of it -/
def EvS (te : TE) (σ : L2.St) (H : Hp) (ds : List PyData) : Prop := ∀ H1, Ex H H1 → ∀ Q : VK, (∀ p xs H2, H1 p = none → Ex H1 H2 → H2 p = some (.lst xs) → Reps H2 xs ds → Q (.ref p) H2) → te σ H1 Q
section
variable {K : PySem.W.Frag} {σ : L2.St} {H H' : Hp} {ta tb te : TE} {t : TT} {x y z v : V} {d e : PyData} {ds es : List PyData} {tr : TA}
theorem EvR.mono (x : Ex H H') (h : EvR te σ H d) : EvR te σ H' d := fun H1 a Q q => h H1 (x.trans a) Q q
theorem EvS.mono (x : Ex H H') (h : EvS te σ H ds) : EvS te σ H' ds := fun H1 a Q q => h H1 (x.trans a) Q q
theorem er_var {i : Nat} (h : σ[i]? = some (some v)) (r : Rep H v d) : EvR (tVar i) σ H d := fun H1 a Q q => ⟨v, h, q v H1 (Ex.refl H1) (r.ex a)⟩
theorem er_ev (h : Ev te σ H v) (r : Rep H v d) : EvR te σ H d := fun H1 a Q q => h H1 a Q fun H2 b => q v H2 b (r.ex (a.trans b))
theorem er_str {w : Str} (h : Ev te σ H (.str w)) : EvR te σ H (.str w) := er_ev h (.str w)
theorem er_int {i : Int} (h : Ev te σ H (.int i)) : EvR te σ H (.int i) := er_ev h (.int i)
theorem EvR.str {w : Str} (h : EvR te σ H (.str w)) : Ev te σ H (.str w) := fun H1 a Q q => h H1 a Q fun v H2 b r => by rw [r.str_inv]; exact q H2 b
theorem EvR.int {i : Int} (h : EvR te σ H (.int i)) : Ev te σ H (.int i) := fun H1 a Q q => h H1 a Q fun v H2 b r => by rw [r.int_inv]; exact q H2 b
theorem era_nil : EvRA tNil σ H [] := fun H1 _ _ q => q [] H1 (Ex.refl H1) .nil
theorem era_cons (h : EvR te σ H d) (hr : EvRA tr σ H ds) : EvRA (tCons te tr) σ H (d :: ds) := fun H1 a _ q =>
  h H1 a _ fun v H2 b r => hr H2 (a.trans b) _ fun vs H3 c rs => q (v :: vs) H3 (b.trans c) (.cons (r.ex c) rs)
theorem er_tup (h : EvRA tr σ H ds) (hl : ds.length ≤ 1000) : EvR (tTup tr) σ H (.tuple ds) := fun H1 a _ q =>
  h H1 a _ fun vs H2 b rs => ⟨by rw [rs.len]; exact sz_of (by omega), fun p hp => q (.ref p) _ (b.trans (Ex.new hp)) (.tup upd_same (rs.ex (Ex.new hp)))⟩
theorem es_lst (h : EvRA tr σ H ds) (hl : ds.length ≤ 1000) : EvS (tLst tr) σ H ds := fun H1 a _ q =>
  h H1 a _ fun vs H2 b rs => ⟨by rw [rs.len]; exact sz_of (by omega), fun p hp => q p vs _ (fresh_back b hp) (b.trans (Ex.new hp)) upd_same (rs.ex (Ex.new hp))⟩
/-- tuple(a new list) -/
def rTupS (K : PySem.W.Frag) : List V → Hp → VK → Prop := fun xs H Q => ∃ p ys, xs = [.ref p] ∧ ((SqL K H p ys ∧ ∀ l, H l = none → Q (.ref l) (upd H l (.tup ys))) ∨ (SqT K H p ys ∧ Q (.ref p) H))
theorem er_tuple (h : EvS te σ H ds) : EvR (tCB (rTupS K) (tCons te tNil)) σ H (.tuple ds) := fun H1 a Q q =>
  h H1 a _ fun p xs H2 _ b hp rs => ⟨p, xs, rfl, .inl ⟨sq_of hp, fun l hl => q (.ref l) _ (b.trans (Ex.new hl)) (.tup upd_same (rs.ex (Ex.new hl)))⟩⟩
/-- t[i] -/
theorem er_ix {i : Nat} (h : EvR ta σ H (.tuple ds)) (hi : Ev tb σ H (.int (i : Int))) (hd : ds[i]? = some d) : EvR (tOp (rIxT K) ta tb) σ H d := fun H1 a Q q =>
  h H1 a _ fun v H2 b r => hi H2 (a.trans b) _ fun H3 c => by
    obtain ⟨p, xs, rfl, hp, rs⟩ := r.tup_inv
    obtain ⟨x, hx, rx⟩ := rs.get hd
    exact ⟨p, xs, (i : Int), x, rfl, rfl, st_of (c _ _ hp), atI_nat hx, q x H3 (b.trans c) (rx.ex c)⟩
/-- len of it -/
theorem ev_lenR (h : EvR te σ H (.tuple ds)) : Ev (tCB (rLenS K) (tCons te tNil)) σ H (.int (ds.length : Int)) := fun H1 a Q q =>
  h H1 a _ fun v H2 b r => by
    obtain ⟨p, xs, rfl, hp, rs⟩ := r.tup_inv
    exact ⟨p, xs, rfl, .inr (st_of hp), by rw [rs.len]; exact q H2 b⟩
/-- a list comprehension over anything walked: st the slots, f which turns give, d what -/
theorem es_lc {J : It} {n : Nat} {G : Hp → Prop} {Y : Nat → Hp → V → Hp → Prop} {wi : TI} {g : TG} {vs : List Nat} (W : Walk J n G Y) (hn : n ≤ 40000) (st : Nat → L2.St) (f : Nat → Bool) (D : Nat → PyData)
    (hwi : ∀ H1, Ex H H1 → ∀ R : It → Hp → Prop, (∀ H2, Ex H1 H2 → G H2 → R J H2) → wi σ H1 R) (hG : ∀ H1 H2, Ex H1 H2 → G H1 → G H2) (hw : ∀ i, i < n → wipe (st i) vs = wipe σ vs)
    (hg : ∀ i x H1 H2 (R : L2.St → Hp → Prop), i < n → Ex H H1 → G H1 → Y i H1 x H2 → (∀ H3, Ex H1 H3 → R (st i) H3) → g x (wipe σ vs) H2 R)
    (ht : ∀ i H1, i < n → Ex H H1 → EvT t (st i) H1 (f i)) (he : ∀ i H1, i < n → Ex H H1 → f i = true → EvR te (st i) H1 (D i)) : EvS (tLc wi g t te vs) σ H (((List.range n).filter f).map D) := fun H0 e Q q =>
  hwi H0 e _ fun H1 e1 g1 Dl hD => lc_it W (fun i H' => Ex H1 H' ∧ ∃ acc, H' Dl = some (.lst acc) ∧ Reps H' acc (((List.range i).filter f).map D)) ⟨Ex.new hD, [], upd_same, .nil⟩ (fun i H' _ p => hG H1 H' p.1 g1)
    (fun i x H' H2 hi ⟨p1, acc, p2, p3⟩ hy => hg i x H' H2 _ hi ((e.trans e1).trans p1) (hG H1 H' p1 g1) hy fun H3 e3 => ⟨hw i hi, ht i H3 hi (((e.trans e1).trans p1).trans e3) H3 (Ex.refl H3) _ fun H4 e4 => by
      have e34 := e3.trans e4
      have ll : ((List.range i).filter f).length ≤ i := by have := List.length_filter_le f (List.range i); rw [List.length_range] at this; exact this
      cases hf : f i with
      | true =>
        show te (st i) H4 fun y H5 => ∃ acc, H5 Dl = some (.lst acc) ∧ acc.length < sizeLine ∧ Ex H1 (upd H5 Dl (.lst (acc ++ [y]))) ∧ ∃ acc2, (upd H5 Dl (.lst (acc ++ [y]))) Dl = some (.lst acc2) ∧ Reps (upd H5 Dl (.lst (acc ++ [y]))) acc2 (((List.range (i + 1)).filter f).map D)
        refine he i H4 hi (((e.trans e1).trans p1).trans e34) hf H4 (Ex.refl H4) _ fun v H5 e5 rv => ?_
        have h5 : H5 Dl = some (.lst acc) := e5 _ _ (e34 _ _ p2)
        refine ⟨acc, h5, sz_lt (by rw [p3.len, List.length_map]; omega), Ex.mut ((p1.trans e34).trans e5) hD, _, upd_same, ?_⟩
        have e6 : ((List.range (i + 1)).filter f).map D = ((List.range i).filter f).map D ++ [D i] := by
          rw [List.range_succ, List.filter_append, List.map_append, List.filter_cons, if_pos hf]; rfl
        rw [e6]
        exact ((p3.ex (e34.trans e5)).on (Tx.put h5)).app (.cons (rv.on (Tx.put h5)) .nil)
      | false =>
        show Ex H1 H4 ∧ ∃ acc2, H4 Dl = some (.lst acc2) ∧ Reps H4 acc2 (((List.range (i + 1)).filter f).map D)
        refine ⟨p1.trans e34, acc, e34 _ _ p2, ?_⟩
        have e6 : ((List.range (i + 1)).filter f).map D = ((List.range i).filter f).map D := by
          rw [List.range_succ, List.filter_append, List.map_append, List.filter_cons, if_neg (by rw [hf]; decide)]; exact List.append_nil _
        rw [e6]
        exact p3.ex e34⟩)
    (fun H' ⟨p1, acc, p2, p3⟩ => q Dl acc H' (match h : H0 Dl with
      | none => rfl
      | some o => absurd (e1 _ _ h) (by rw [hD]; exact fun z => nomatch z)) (e1.trans p1) p2 p3)
theorem filter_all {n : Nat} : (List.range n).filter (fun _ => true) = List.range n := List.filter_eq_self.mpr fun _ _ => rfl
/-- .. over a tuple that stays -/
theorem es_lcT {tl : TE} {g : TG} {vs : List Nat} {a : Addr} {xs : List V} (h : Ev tl σ H (.ref a)) (hx : H a = some (.tup xs)) (hn : xs.length ≤ 40000) (st : Nat → L2.St) (f : Nat → Bool) (D : Nat → PyData) (hw : ∀ i, i < xs.length → wipe (st i) vs = wipe σ vs)
    (hg : ∀ i x H1 (R : L2.St → Hp → Prop), xs[i]? = some x → Ex H H1 → R (st i) H1 → g x (wipe σ vs) H1 R)
    (ht : ∀ i x H1, xs[i]? = some x → Ex H H1 → EvT t (st i) H1 (f i)) (he : ∀ i x H1, xs[i]? = some x → Ex H H1 → f i = true → EvR te (st i) H1 (D i)) : EvS (tLc (iTup K tl) g t te vs) σ H (((List.range xs.length).filter f).map D) :=
  es_lc (walk_tup (K := K) (a := a) (xs := xs)) hn st f D (fun H1 e R k => h H1 e _ fun H2 e2 => have q := st_of (K := K) ((e.trans e2) _ _ hx); ⟨a, rfl, ⟨xs, q⟩, k H2 e2 q⟩) (fun H1 H2 e q => ex_t e q) hw
    (fun i x H1 H2 R hi e _ hy k => by
      obtain ⟨rfl, hy⟩ := hy
      exact hg i x _ R hy e (k _ (Ex.refl _)))
    (fun i H1 hi e => ht i _ H1 (List.getElem?_eq_getElem hi) e) (fun i H1 hi e hf => he i _ H1 (List.getElem?_eq_getElem hi) e hf)
theorem es_lcT1 {tl : TE} {g : TG} {vs : List Nat} {a : Addr} {xs : List V} (h : Ev tl σ H (.ref a)) (hx : H a = some (.tup xs)) (hn : xs.length ≤ 40000) (st : Nat → L2.St) (D : Nat → PyData) (hw : ∀ i, i < xs.length → wipe (st i) vs = wipe σ vs)
    (hg : ∀ i x H1 (R : L2.St → Hp → Prop), xs[i]? = some x → Ex H H1 → R (st i) H1 → g x (wipe σ vs) H1 R)
    (he : ∀ i x H1, xs[i]? = some x → Ex H H1 → EvR te (st i) H1 (D i)) : EvS (tLc (iTup K tl) g tYes te vs) σ H ((List.range xs.length).map D) := by
  have q := es_lcT (K := K) (t := tYes) h hx hn st (fun _ => true) D hw hg (fun _ _ H1 _ _ H2 _ Q k => k H2 (Ex.refl H2)) (fun i x H1 hi e _ => he i x H1 hi e)
  rw [filter_all] at q
  exact q
/-- .. over range(n) -/
theorem es_lcR {ta : TA} {g : TG} {vs : List Nat} {n : Int} (h : EvA ta σ H [.int n]) (hn : 0 ≤ n ∧ n ≤ 40000) (st : Nat → L2.St) (f : Nat → Bool) (D : Nat → PyData) (hw : ∀ i : Nat, (i : Int) < n → wipe (st i) vs = wipe σ vs)
    (hg : ∀ (i : Nat) H1 (R : L2.St → Hp → Prop), (i : Int) < n → Ex H H1 → R (st i) H1 → g (.int (i : Int)) (wipe σ vs) H1 R)
    (ht : ∀ (i : Nat) H1, (i : Int) < n → Ex H H1 → EvT t (st i) H1 (f i)) (he : ∀ (i : Nat) H1, (i : Int) < n → Ex H H1 → f i = true → EvR te (st i) H1 (D i)) : EvS (tLc (iRng1 ta) g t te vs) σ H (((List.range n.toNat).filter f).map D) :=
  es_lc (walk_range (lo := 0) (n := n.toNat)) (by omega) st f D (fun H1 e R k => h H1 e _ fun H2 e2 => ⟨n, rfl, by omega, by omega, k H2 e2 True.intro⟩) (fun _ _ _ q => q) (fun i hi => hw i (by omega))
    (fun i x H1 H2 R hi e _ hy k => by
      obtain ⟨rfl, rfl⟩ := hy
      show g (.int (0 + (i : Int))) _ _ _
      rw [Int.zero_add]
      exact hg i _ R (by omega) e (k _ (Ex.refl _)))
    (fun i H1 hi e => ht i H1 (by omega) e) (fun i H1 hi e hf => he i H1 (by omega) e hf)
/-- targets -/
theorem g_three {i j k : Nat} {a : Addr} {x y z : V} {Q : L2.St → Hp → Prop} (h : H a = some (.tup [x, y, z])) (q : Q (((σ.set i (some x)).set j (some y)).set k (some z)) H) : gTup K 3 (gCons (gName i) (gCons (gName j) (gCons (gName k) gNil))) (.ref a) σ H Q :=
  ⟨a, _, rfl, st_of h, rfl, x, _, rfl, y, _, rfl, z, _, rfl, rfl, q⟩
theorem g_two {i j : Nat} {a : Addr} {x y : V} {Q : L2.St → Hp → Prop} (h : H a = some (.tup [x, y])) (q : Q ((σ.set i (some x)).set j (some y)) H) : gTup K 2 (gCons (gName i) (gCons (gName j) gNil)) (.ref a) σ H Q :=
  ⟨a, _, rfl, st_of h, rfl, x, _, rfl, y, _, rfl, rfl, q⟩
/-- all([bools]), any([bools]) -/
theorem Reps.bools {H : Hp} : ∀ {bs : List Bool} {vs : List V}, Reps H vs (bs.map PyData.bool) → vs = bs.map V.bl
  | [], _, r => r.nil_inv
  | b :: bs, _, r => by
    obtain ⟨x, xs, rfl, h, q⟩ := r.cons_inv
    cases h
    rw [Reps.bools q]; rfl
theorem ev_allR {bs : List Bool} (h : EvS te σ H (bs.map PyData.bool)) : Ev (tCB (rAll K) (tCons te tNil)) σ H (.bl (bs.all id)) := fun H1 a Q q =>
  h H1 a _ fun p xs H2 _ b hp rs => ⟨p, bs, rfl, by rw [← rs.bools]; exact sq_of hp, q H2 b⟩
theorem s_forW {J : It} {n : Nat} {G : Hp → Prop} {Y : Nat → Hp → V → Hp → Prop} {wi : TI} {g : TG} {tu : TS} {E : Ends} (W : Walk J n G Y) (Pv : Nat → L2.St → Hp → Prop)
    (hwi : ∀ R : It → Hp → Prop, (∀ H2, Ex H H2 → G H2 → R J H2) → wi σ H R) (h0 : ∀ H1, Ex H H1 → G H1 → Pv 0 σ H1) (hG : ∀ i σ' H', i ≤ n → Pv i σ' H' → G H')
    (hs : ∀ i x σ' H1 H2, i < n → Pv i σ' H1 → Y i H1 x H2 → g x σ' H2 fun σ2 H3 => tu { E with nx := Pv (i + 1), ct := Pv (i + 1), bk := E.nx } σ2 H3) (hd : ∀ σ' H', Pv n σ' H' → E.nx σ' H') : tFor wi g tu E σ H :=
  hwi _ fun H2 e2 g2 => for_it (D := E) W Pv (h0 H2 e2 g2) hG hs hd
/-- for i, x in enumerate(a tuple) -/
theorem s_forE {ta : TA} {i j : Nat} {tu : TS} {E : Ends} {a : Addr} {xs : List V} (h : EvA ta σ H [.ref a]) (hx : H a = some (.tup xs)) (Pv : Nat → L2.St → Hp → Prop) (h0 : ∀ H1, Ex H H1 → Pv 0 σ H1) (hG : ∀ k σ' H', k ≤ xs.length → Pv k σ' H' → H' a = some (.tup xs))
    (hs : ∀ (k : Nat) x σ' H1 H2, xs[k]? = some x → Pv k σ' H1 → Ex H1 H2 → tu { E with nx := Pv (k + 1), ct := Pv (k + 1), bk := E.nx } ((σ'.set i (some (.int (k : Int)))).set j (some x)) H2) (hd : ∀ σ' H', Pv xs.length σ' H' → E.nx σ' H') :
    tFor (ET.iEnumT K ta) (gTup K 2 (gCons (gName i) (gCons (gName j) gNil))) tu E σ H :=
  s_forW (ET.walk_et (K := K) (a := a) (xs := xs)) Pv (fun R k => h H (Ex.refl H) _ fun H2 e2 => have q := st_of (K := K) (e2 _ _ hx); ⟨a, xs, rfl, q, k H2 e2 q⟩) (fun H1 e _ => h0 H1 e) (fun k σ' H' hk p => st_of (hG k σ' H' hk p))
    (fun k x σ' H1 H2 hk p hy => by
      obtain ⟨T, y, z, rfl, hT, rfl, h1, h2⟩ := hy
      cases (Option.some.inj h1)
      exact g_two (K := K) upd_same (hs k z σ' H1 _ h2 p (Ex.new hT))) hd
end
end TX
end
section
set_option Elab.async false
set_option linter.all false
set_option maxRecDepth 100000
set_option maxHeartbeats 4000000
namespace K08
open PySem PySem.Spec PyProof.Rows L2 Evl TX
open C8 (Cal pe_c pe_gc)
def top (i : Nat) : Stmt := PySem.Challenge.pw_pairsums_k08_cells_and_columns.main.body.getD i (.Pass ⟨0, 0, 0, 0⟩)
abbrev s_is_integer : Stmt := top 3
abbrev s_is_between : Stmt := top 4
abbrev s_is_name : Stmt := top 5
abbrev s_has_repeats : Stmt := top 6
abbrev s_is_kind : Stmt := top 24
abbrev s_check_columns : Stmt := top 26
abbrev s_check_forms : Stmt := top 27
abbrev s_has_form : Stmt := top 28
abbrev s_check_contents : Stmt := top 29
abbrev s_is_pair : Stmt := top 30
abbrev s_cells_by_column : Stmt := top 31
abbrev s_lines_of : Stmt := top 32
abbrev s_is_cell : Stmt := top 38
abbrev s_law_dip : Stmt := top 40
abbrev s_law_one_of : Stmt := top 41
abbrev s_law_labels : Stmt := top 42
abbrev s_law_some_kind : Stmt := top 43
abbrev s_law_chart : Stmt := top 44
abbrev s_law_made : Stmt := top 45
abbrev s_law_tags : Stmt := top 46
abbrev s_law_heard : Stmt := top 47
abbrev s_law_jar : Stmt := top 48
abbrev s_law_right : Stmt := top 49
abbrev s_law : Stmt := top 50
abbrev s_Table_init : Stmt := (C8.clsBody (top 36)).getD 0 (.Pass ⟨0, 0, 0, 0⟩)
abbrev s_Table_sums : Stmt := (C8.clsBody (top 36)).getD 5 (.Pass ⟨0, 0, 0, 0⟩)
abbrev s_Table_data : Stmt := (C8.clsBody (top 36)).getD 6 (.Pass ⟨0, 0, 0, 0⟩)
abbrev s_Table_cells : Stmt := (C8.clsBody (top 36)).getD 7 (.Pass ⟨0, 0, 0, 0⟩)
abbrev s_Table_cells_of : Stmt := (C8.clsBody (top 36)).getD 8 (.Pass ⟨0, 0, 0, 0⟩)
abbrev s_Table_column_of : Stmt := (C8.clsBody (top 36)).getD 9 (.Pass ⟨0, 0, 0, 0⟩)
end K08
end
section
set_option Elab.async false
set_option linter.all false
set_option maxRecDepth 100000
set_option maxHeartbeats 4000000
/-! BA: a tuple of one, times a number from 0 on. -/
namespace BA
open PySem PySem.Spec PyProof.Rows L2
section
variable {X : Cx}
end
end BA
end
section
set_option Elab.async false
set_option linter.all false
set_option maxRecDepth 100000
set_option maxHeartbeats 4000000
/-! MKW: methods of own classes called by keywords alone. -/
namespace TX
open PySem PySem.Spec PyProof.Rows L2 Evl
/-- a method that may be called by the names ks of all its parameters but the first -/
structure MetK (P : Program) (w : World) (K : PySem.W.Frag) (mg : Str → Option Value) (base : Heap) (k : Nat) (C : Addr) (m : Str) (sp : Sp) (ks : List Str) : Prop where
  ex : ∃ (f : Addr) (fd : FuncData) (ps : List Str), Cls K C ∧ Meth K C m f ∧ FnOk P w K mg base C8.CX0 k f fd ps sp ∧ KBn K fd ps 1 ks (fun us ws => us ++ ws) (fun vs zs => vs ++ zs)
def tMethK (C : Addr) (m : Str) (sp : Sp) (n : Nat) (E : XK) (ta : TE) (tk : TA) : TE := fun σ H Q => ta σ H fun x H1 => ∃ a dx fs, x = .ref a ∧ H1 a = some (.ins C dx fs) ∧ fs.lookup m = none ∧ tk σ H1 fun zs H2 => zs.length = n ∧ sp (.ref a :: zs) H2 Q E
section
variable {X : Cx} {k j : Nat} {C : Addr} {m : Str} {sp : Sp} {ks : List Str} {pos apos : Pos} {o : Expr} {kws : List Keyword} {ta : TE} {tk : TA}
end
end TX
end
section
set_option Elab.async false
set_option linter.all false
set_option maxRecDepth 100000
set_option maxHeartbeats 4000000
/-! BD: a def called by two names alone, the other way round; isinstance of an own class, from facts. Own work. -/
namespace TX
open PySem PySem.Spec PyProof.Rows L2
open C8 (Cal)
/-- f(k2 = v, k1 = u) for def f(k1, k2) -/
structure CalK (P : Program) (w : World) (K : PySem.W.Frag) (mg : Str → Option Value) (base : Heap) (k : Nat) (x : Str) (sp : Sp) (ks : List Str) : Prop where
  ex : ∃ (f : Addr) (fd : FuncData) (ps : List Str), FnOk P w K mg base C8.CX0 k f fd ps sp ∧ mg x = some (.ref f) ∧ PySem.W.keepIn K (.ref f) = true ∧ KBn K fd ps 0 ks (fun _ ws => ws.reverse) (fun _ zs => zs.reverse)
/-- the class that isinstance is asked about -/
structure IsT (K : PySem.W.Frag) (mg : Str → Option Value) (x : Str) (C : Addr) : Prop where
  ic : C8.InsC K C
  gl : mg x = some (.ref C)
end TX
end
section
set_option Elab.async false
set_option linter.all false
set_option maxRecDepth 100000
set_option maxHeartbeats 4000000
/-! BAA: a def called by two names alone, in their order. Own work. -/
namespace TX
open PySem PySem.Spec PyProof.Rows L2
open C8 (Cal)
/-- f(k1 = u, k2 = v) for def f(k1, k2) -/
structure CalF (P : Program) (w : World) (K : PySem.W.Frag) (mg : Str → Option Value) (base : Heap) (k : Nat) (x : Str) (sp : Sp) (ks : List Str) : Prop where
  ex : ∃ (f : Addr) (fd : FuncData) (ps : List Str), FnOk P w K mg base C8.CX0 k f fd ps sp ∧ mg x = some (.ref f) ∧ PySem.W.keepIn K (.ref f) = true ∧ KBn K fd ps 0 ks (fun _ ws => ws) (fun _ zs => zs)
end TX
end
section
set_option Elab.async false
set_option linter.all false
set_option maxRecDepth 100000
set_option maxHeartbeats 4000000
/-! BAB: a def called by three names alone, the first one last. Own work. -/
namespace TX
open PySem PySem.Spec PyProof.Rows L2
open C8 (Cal)
def rot3 {α : Type} : List α → List α
  | [b, c, a] => [a, b, c]
  | l => l
/-- f(k2 = v, k3 = w, k1 = u) for def f(k1, k2, k3) -/
structure CalR (P : Program) (w : World) (K : PySem.W.Frag) (mg : Str → Option Value) (base : Heap) (k : Nat) (x : Str) (sp : Sp) (ks : List Str) : Prop where
  ex : ∃ (f : Addr) (fd : FuncData) (ps : List Str), FnOk P w K mg base C8.CX0 k f fd ps sp ∧ mg x = some (.ref f) ∧ PySem.W.keepIn K (.ref f) = true ∧ KBn K fd ps 0 ks (fun _ ws => rot3 ws) (fun _ zs => rot3 zs)
end TX
end
section
set_option Elab.async false
set_option linter.all false
set_option maxRecDepth 100000
set_option maxHeartbeats 4000000
/-! BAC: list(a dict): its keys. Own work. -/
namespace BAC
open PySem PySem.Spec PyProof.Rows L2
theorem vals_at : ∀ {ys : List V} {us : List Value}, ys.length = us.length → (∀ (i : Nat) u, us[i]? = some u → ∃ y, ys[i]? = some y ∧ RelV y u) → Vals ys us
  | [], [], _, _ => .nil
  | y :: ys, u :: us, hl, h => by
    obtain ⟨y', e, r⟩ := h 0 u rfl
    obtain rfl : y = y' := Option.some.inj e
    exact .cons r (vals_at (Nat.succ.inj hl) fun i v hv => h (i + 1) v hv)
  | [], _ :: _, hl, _ => nomatch hl
  | _ :: _, [], hl, _ => nomatch hl
section
variable {X : Cx}
end
end BAC
end
section
set_option Elab.async false
set_option linter.all false
set_option maxRecDepth 100000
set_option maxHeartbeats 4000000
/-! BAD: zip of a tuple and a list of one length. Own work. -/
namespace BAD
open PySem PySem.Spec PyProof.Rows L2
end BAD
end
section
set_option Elab.async false
set_option linter.all false
set_option maxRecDepth 100000
set_option maxHeartbeats 4000000
namespace XV
open PySem
section
variable {M : Model} {prog : Program} {w : World} {A : Around} {E : Value → Shared → Prop} {R : Result → Shared → Prop} {hp : Heap} {gs : Array GenState} {dr : Drawn} {tk : Nat} {os : OsState}
variable {nm qn : Str} {C N : Addr} {bs bm bmB : List Value} {hdct : Bool} {sn : List Str} {sub : List Value} {ab : Bool} {col : Option Bool} {dd : Option Addr} {k0 k1 k2 k3 k5 : Option Value} {B newId initId : String}
end
end XV
end
section
set_option Elab.async false
set_option linter.all false
set_option maxRecDepth 100000
set_option maxHeartbeats 4000000
namespace XV
open PySem PySem.Spec PyProof.Rows L2
/-- the built-in base -/
inductive Bs | ve | le | ae
def Bs.nm : Bs → String
  | .ve => "ValueError" | .le => "LookupError" | .ae => "ArithmeticError"
def Bs.new : Bs → String
  | .ve => "ValueError.__new__" | .le => "LookupError.__new__" | .ae => "ArithmeticError.__new__"
def Bs.ini : Bs → String
  | .ve => "ValueError.__init__" | .le => "LookupError.__init__" | .ae => "ArithmeticError.__init__"
def Bs.tail : Bs → List Value
  | .ve => [.type "ValueError", .type "Exception", .type "BaseException", .type "object"]
  | .le => [.type "LookupError", .type "Exception", .type "BaseException", .type "object"]
  | .ae => [.type "ArithmeticError", .type "Exception", .type "BaseException", .type "object"]
theorem Bs.base : (b : Bs) → ExcBaseFacts b.nm b.new b.ini b.tail
  | .ve => F.excBase_ValueError
  | .le => F.excBase_LookupError
  | .ae => F.excBase_ArithmeticError
theorem Bs.store : (b : Bs) → PySem.StoreFacts b.nm b.tail "object.__setattr__" "object"
  | .ve => PySem.F.store_ValueError
  | .le => PySem.F.store_LookupError
  | .ae => PySem.F.store_ArithmeticError
def gaB : Value := .builtin "BaseException.__getattribute__"
def saB : Value := .builtin "object.__setattr__"
def clB : Value := .builtin "object.__class__"
def gsB : Value := .builtin "getset_descriptor.__get__"
/-- what the written part says of the class at C -/
structure XC (K : PySem.W.Frag) (C : Addr) (b : Bs) : Prop where
  inn : PySem.W.excInitIn K C b.tail b.new = true
  ov : PySem.W.excOver K C b.tail = true
  sa : PySem.W.findIn K (.ref C) "__setattr__" = some (some saB)
  kC : PySem.W.keepIn K (.ref C) = true
  hd : PySem.W.hasDictIn K C = true
  ga : PySem.W.findIn K (.ref C) "__getattribute__" = some (some gaB)
  gt : PySem.W.findIn K (.ref C) "__getattr__" = some none
  ex : PySem.W.subIn K (.ref C) (.type "BaseException") = some true
  cl : PySem.W.findIn K (.ref C) "__class__" = some (some clB)
  sp : PySem.W.specialIn K clB "__get__" = some (some gsB)
  tk : PySem.W.takesIn K clB = some true
  ob : PySem.W.mroIn K C (.type "object") = some true
def eqb (a b : Option (Option Value)) : Bool := decide (a = b)
def eqo (a b : Option Bool) : Bool := decide (a = b)
/-- the same as one look -/
def xcB (K : PySem.W.Frag) (C : Addr) (b : Bs) : Bool :=
  PySem.W.excInitIn K C b.tail b.new && (PySem.W.excOver K C b.tail && (eqb (PySem.W.findIn K (.ref C) "__setattr__") (some (some saB)) && (PySem.W.keepIn K (.ref C) && (PySem.W.hasDictIn K C &&
    (eqb (PySem.W.findIn K (.ref C) "__getattribute__") (some (some gaB)) && (eqb (PySem.W.findIn K (.ref C) "__getattr__") (some none) && (eqo (PySem.W.subIn K (.ref C) (.type "BaseException")) (some true) &&
    (eqb (PySem.W.findIn K (.ref C) "__class__") (some (some clB)) && (eqb (PySem.W.specialIn K clB "__get__") (some (some gsB)) && (eqo (PySem.W.takesIn K clB) (some true) && eqo (PySem.W.mroIn K C (.type "object")) (some true)))))))))))
theorem two {a b : Bool} (h : (a && b) = true) : a = true ∧ b = true := Bool.and_eq_true_iff.mp h
theorem xc_of {K : PySem.W.Frag} {C : Addr} {b : Bs} (h : xcB K C b = true) : XC K C b := by
  obtain ⟨h1, h⟩ := two h
  obtain ⟨h2, h⟩ := two h
  obtain ⟨h3, h⟩ := two h
  obtain ⟨h4, h⟩ := two h
  obtain ⟨h5, h⟩ := two h
  obtain ⟨h6, h⟩ := two h
  obtain ⟨h7, h⟩ := two h
  obtain ⟨h8, h⟩ := two h
  obtain ⟨h9, h⟩ := two h
  obtain ⟨h10, h⟩ := two h
  obtain ⟨h11, h12⟩ := two h
  exact ⟨h1, h2, of_decide_eq_true h3, h4, h5, of_decide_eq_true h6, of_decide_eq_true h7, of_decide_eq_true h8, of_decide_eq_true h9, of_decide_eq_true h10, of_decide_eq_true h11, of_decide_eq_true h12⟩

/-! ### the first field stored -/
section
open Builtin Builtin.ObjectAttr
variable {prog : Program} {w : World} {A : Around} {R : Result → Shared → Prop} {hp : Heap} {gs : Array GenState} {dr : Drawn} {t : Nat} {os : OsState} {K : PySem.W.Frag} {x C : Addr} {fv : Array Value} {b : Bs} {f : Str} {tk : Tok} {u : Value}
theorem xosa (T : XC K C b) (kin : K.In hp) (hx : hp.get? x = some { cls := .ref C, data := .fields fv }) (hno : PySem.W.findIn K (.ref C) f = some none)
    (hq : ∀ h' tk' dx, (∀ c o, c ≠ x → hp.get? c = some o → h'.get? c = some o) → hp.objs.size ≤ dx → dx ≠ x → h'.get? x = some { cls := .ref C, dict := some dx, data := .fields fv } →
      h'.Ns1 dx (fun y => if y = f then some u else none) → R (.ok (.ret .none)) ⟨h', gs, dr, tk', os⟩) :
    codeAny (model prog w) A (.call (.builtin "object.__setattr__") ⟨[.ref x, .str f tk, u], []⟩) R ⟨hp, gs, dr, t, os⟩ := by
  have I : PySem.W.InstAt hp x { cls := .ref C, data := .fields fv } C none := ⟨hx, rfl, rfl, trivial⟩
  have ht : PySem.W.takerIn K C f = some none := by unfold PySem.W.takerIn; rw [hno]; rfl
  have away : x ≠ hp.objs.size := Nat.ne_of_lt (Heap.lt_size hx)
  refine PySem.W.osa_openX b.store kin I T.ov ht fun bb => ?_
  obtain ⟨cd, hc, hdict⟩ := PySem.W.any_some T.hd
  have lc : PySem.W.Looks (model prog w) hp (classData C) cd := PySem.W.looks_clsIn kin hc
  have hdict' : cd.hasDict = true := hdict
  obtain ⟨nm, bs, mro, ns, qn, hd, sn, sb, ab, col, del⟩ := cd
  dsimp only at hdict'
  subst hdict'
  unfold storeInOwnDict ownDictForStores
  repeat (first | with_reducible refine PX.store_in_new ?_ ?_ | with_reducible refine wpAny_loadPart_at hx ?_ | with_reducible refine lc.at ?_ | wp_step)
  · exact ⟨_, #[], _, (Heap.get?_update_ne _ _ _ _ away.symm).trans (Heap.get?_push_at rfl rfl), rfl, fun e he => absurd he (by simp), fun _ => rfl⟩
  · intro h' tk' hn' hs
    have hx1 : (hp.push { cls := .type "dict", data := .dict #[] }).get? x = some { cls := .ref C, data := .fields fv } := Heap.get?_push_of_some _ hx
    refine hq h' tk' hp.objs.size (fun c o hc ho => ?_) (Nat.le_refl _) away.symm ?_ hn'
    · exact (hs.2 c (Nat.ne_of_lt (Heap.lt_size ho))).trans ((Heap.get?_update_ne _ _ _ _ hc).trans (Heap.get?_push_of_some _ ho))
    · exact (hs.2 x away).trans (Heap.get?_update_self _ hx1 rfl)
end

/-! ### over the abstract heap -/
/-- an exception of the class at C stands at a, its one field f holds v -/
def XvAt (H : Hp) (a C : Addr) (f : Str) (v : V) : Prop := ∃ d, H a = some (exo a C (some d)) ∧ H d = some (exd d [(f, v)])
theorem XvAt.on {H H' : Hp} {a C : Addr} {f : Str} {v : V} (x : XvAt H a C f v) (s : Same H H') : XvAt H' a C f v := by
  obtain ⟨d, h1, h2⟩ := x
  exact ⟨d, s _ _ h1, s _ _ h2⟩
/-- .. with or without fields -/
def XnAt (H : Hp) (a C : Addr) : Prop := ∃ d, H a = some (exo a C d) ∧ ∀ dx, d = some dx → ∃ fs, H dx = some (exd dx fs)
theorem XvAt.any {H : Hp} {a C : Addr} {f : Str} {v : V} (x : XvAt H a C f v) : XnAt H a C := by
  obtain ⟨d, h1, h2⟩ := x
  exact ⟨some d, h1, fun dx e => by cases e; exact ⟨_, h2⟩⟩
theorem XnAt.on {H H' : Hp} {a C : Addr} (x : XnAt H a C) (s : Same H H') : XnAt H' a C := by
  obtain ⟨d, h1, h2⟩ := x
  exact ⟨d, s _ _ h1, fun dx e => by obtain ⟨fs, h⟩ := h2 dx e; exact ⟨fs, s _ _ h⟩⟩
section
variable {X : Cx} {pins : List (Addr × Obj)} {σ : L2.St} {H : Hp} {s : Shared} {a C : Addr} {b : Bs} {f : Str} {y : V} {u : Value} {A : Around}
theorem Inv.xset {Q : Unit → Shared → Prop} {E : Value → Shared → Prop} (T : XC X.K C b) (I : Inv X pins σ H s) (e : H a = some (exo a C none)) (hno : PySem.W.findIn X.K (.ref C) f = some none) (ry : RelV y u)
    (h : ∀ dx s', H dx = none → dx ≠ a → Inv X pins σ (upd (upd H dx (exd dx [(f, y)])) a (exo a C (some dx))) s' → Q () s') : wpAny (model X.prog X.w) A (setAttr (.ref a) f u) Q E s := by
  obtain ⟨t1, ho⟩ := exo_at I.hok e
  obtain ⟨hp, g, d, t, os⟩ := s
  refine PySem.W.set_plain I.kIn (ox := { cls := .ref C, dict := none, data := .fields #[.ref t1, .none, .none, .none, .bool false, .none] }) (od := none) ⟨ho, rfl, rfl, trivial⟩ T.sa ?_
  refine xosa T I.kIn ho hno fun h' tk' dx k dn dne hx hn => ?_
  have free : H dx = none := I.hok.fresh dn
  have old : ∀ {c : Addr} {o : Obj}, hp.get? c = some o → c ≠ dx := fun {c o} q => Nat.ne_of_lt (Nat.lt_of_lt_of_le (Heap.lt_size q) dn)
  have away : ∀ {c : Addr}, H c = none → c ≠ a := fun {c} n z => by
    rw [z, e] at n
    cases n
  have U : Un X.fs [] H (upd (upd H dx (exd dx [(f, y)])) a (exo a C (some dx))) hp h' := {
    keep := fun c o q n _ _ => k c o (away n) q
    slot := fun c o q n _ _ => ⟨o.slots, k c o (away n) q⟩
    free := fun c o q n _ => by rw [upd_ne (away n), upd_ne (old q)]; exact n
    there := fun c o q _ => by
      by_cases hc : c = a
      · rw [hc]; exact ⟨_, hx⟩
      · exact ⟨o, k c o hc q⟩
    tups := fun c xs q => by rw [upd_ne (at_ne e q exo_tup), upd_ne (ne_of_none q free)]; exact q
    frzs := fun c o v q => by rw [upd_ne (at_ne e q exo_frz), upd_ne (ne_of_none q free)]; exact q
    tbls := fun c ps q => ⟨#[], by rw [upd_ne (at_ne e q exo_tbl), upd_ne (ne_of_none q free), q]; simp⟩ }
  refine h dx _ free dne (I.un (t' := tk') U fun c o q => ?_)
  by_cases hc : c = a
  · subst hc
    rw [upd_same] at q
    cases q
    exact exo_ok hx
  · rw [upd_ne hc] at q
    by_cases hd : c = dx
    · subst hd
      rw [upd_same] at q
      cases q
      exact exd_ok hn (relO_put (fs := []) ry fun g => True.intro)
    · rw [upd_ne hd] at q
      refine (I.hok c o q).stay (fun c' v hc' z => k c' v ?_ z) (fun c' z => ?_) fun c' xs z => ?_
      · rcases hc' with z' | z'
        · rw [z']; exact hc
        · exact at_ne e z' exo_own
      · rw [upd_ne (at_ne e z exo_own), upd_ne (ne_of_none z free)]; exact z
      · rw [upd_ne (at_ne e z exo_tup), upd_ne (ne_of_none z free)]; exact z
end
/-- self.f = e in an exception's __init__ -/
def tXst (K : PySem.W.Frag) (f : Str) (to te : TE) : TS := fun D σ H => te σ H fun y H1 => to σ H1 fun x H2 => ∃ (a C : Addr) (b : Bs), x = .ref a ∧ XC K C b ∧ PySem.W.findIn K (.ref C) f = some none ∧ H2 a = some (exo a C none) ∧
  ∀ dx, H2 dx = none → dx ≠ a → D.nx σ (upd (upd H2 dx (exd dx [(f, y)])) a (exo a C (some dx)))
theorem ps_xst {X : Cx} {o e : Expr} {to te : TE} {f : Str} {p' pos : Pos} (ho : PE X o to) (he : PE X e te) (hs : swapsWith e (some (.Attribute o f p')) pos.line X.env = pure false := by rfl) : PS X (.Assign [.Attribute o f p'] e pos) (tXst X.K f to te) := by
  refine ⟨fun pins s σ H D I h => ?_⟩
  refine plainObj_wpAny_Assign_Attribute (thn (he.run pins s σ H _ I h) fun v s1 ⟨y, H1, I1, r1, q1⟩ => thn (ho.run pins s1 σ H1 _ I1 q1) fun u s2 ⟨x, H2, I2, r2, a, C, b, ex, T, hno, ea, q⟩ => ?_) hs
  subst ex
  obtain rfl : u = Value.ref a := r2
  exact Inv.xset T I2 ea hno r1 fun dx s' n ne J => ⟨σ, _, J, q dx n ne⟩
end XV
end
section
set_option Elab.async false
set_option linter.all false
set_option maxRecDepth 100000
set_option maxHeartbeats 4000000
namespace XV
open PySem PySem.Spec PyProof.Rows L2
/-! ### what an __init__ that stores its one argument promises -/
def spIni (K : PySem.W.Frag) (f : Str) : Sp := fun vs H Q _ => ∃ (a C : Addr) (b : Bs) (v : V), vs = [.ref a, v] ∧ XC K C b ∧ PySem.W.findIn K (.ref C) f = some none ∧ H a = some (exo a C none) ∧
  ∀ d, H d = none → d ≠ a → Q .non (upd (upd H d (exd d [(f, v)])) a (exo a C (some d)))
/-- of one that stores nothing -/
def spIni0 : Sp := fun vs H Q _ => ∃ a : Addr, vs = [.ref a] ∧ Q .non H
def iArgs (f : Str) (p1 p2 : Pos) : Arguments := { posonlyargs := [], args := [{ arg := "self", annotation := none, pos := p1 }, { arg := f, annotation := none, pos := p2 }], vararg := none, kwonlyargs := [], kw_defaults := [], kwarg := none, defaults := [] }
def iBody (f : Str) (q1 q2 q3 q4 : Pos) : List Stmt := [.Assign [.Attribute (.Name "self" q1) f q2] (.Name f q3) q4]
def iScope (f : Str) : Scope := { kind := .function, names := [("self", .local), (f, .local)], isGenerator := false, isCoroutine := false, more := [] }
theorem scG : FnScope ["self", "given"] ["self", "given"] (iScope "given") := ⟨rfl, rfl, rfl, by decide +kernel, rfl, by decide +kernel, by decide +kernel⟩
theorem scI : FnScope ["self", "index"] ["self", "index"] (iScope "index") := ⟨rfl, rfl, rfl, by decide +kernel, rfl, by decide +kernel, by decide +kernel⟩
section
variable {P : Program} {w : World} {K : PySem.W.Frag} {mg : Str → Option Value} {base : Heap} {qual : Str} {p1 p2 q1 q2 q3 q4 : Pos} {fI : Addr} {fd : FuncData}
theorem ok_given (F : FunD K "__init__" qual (iArgs "given" p1 p2) (iBody "given" q1 q2 q3 q4) (iScope "given") [] [] fI fd) : FnOk P w K mg base CX0 1 fI fd ["self", "given"] (spIni K "given") := by
  refine F.ok scG (fun vs H Q E h => ?_) (fun cdv A outer s H vs Q E hr h => ⟨_, PSs.nox (pss_one (ps_xst (pv 0) (pv 1))), ?_⟩)
  · obtain ⟨a, C, b, v, rfl, _⟩ := h
    rfl
  · obtain ⟨a, C, b, v, rfl, T, hno, ea, k⟩ := h
    exact ⟨_, rfl, _, rfl, a, C, b, rfl, T, hno, ea, fun d hd hne => k d hd hne⟩
theorem ok_index (F : FunD K "__init__" qual (iArgs "index" p1 p2) (iBody "index" q1 q2 q3 q4) (iScope "index") [] [] fI fd) : FnOk P w K mg base CX0 1 fI fd ["self", "index"] (spIni K "index") := by
  refine F.ok scI (fun vs H Q E h => ?_) (fun cdv A outer s H vs Q E hr h => ⟨_, PSs.nox (pss_one (ps_xst (pv 0) (pv 1))), ?_⟩)
  · obtain ⟨a, C, b, v, rfl, _⟩ := h
    rfl
  · obtain ⟨a, C, b, v, rfl, T, hno, ea, k⟩ := h
    exact ⟨_, rfl, _, rfl, a, C, b, rfl, T, hno, ea, fun d hd hne => k d hd hne⟩
end
/-- a class whose __init__ stores its one argument f: all that its calls lean on -/
structure XD (P : Program) (w : World) (K : PySem.W.Frag) (mg : Str → Option Value) (base : Heap) (x : Str) (C : Addr) (b : Bs) (f : Str) : Prop where
  T : XC K C b
  gC : mg x = some (.ref C)
  hno : PySem.W.findIn K (.ref C) f = some none
  ini : ∃ (fI : Addr) (fd : FuncData), PySem.W.findIn K (.ref C) "__init__" = some (some (.ref fI)) ∧ PySem.W.typeIn K (.ref fI) = some (.type "function") ∧ FnOk P w K mg base CX0 1 fI fd ["self", f] (spIni K f) ∧
    (∀ s a u, BindsTo s fd ⟨[a, u], []⟩ ((["self", f] : List Str).zip [a, u])) ∧ (∀ s a u, BindsTo s fd ⟨[a], [(f, u)]⟩ ((["self", f] : List Str).zip [a, u]))
/-- a class whose __init__ stores nothing -/
structure XE0 (P : Program) (w : World) (K : PySem.W.Frag) (mg : Str → Option Value) (base : Heap) (x : Str) (C : Addr) (b : Bs) : Prop where
  T : XC K C b
  gC : mg x = some (.ref C)
  ini : ∃ (fI : Addr) (fd : FuncData), PySem.W.findIn K (.ref C) "__init__" = some (some (.ref fI)) ∧ PySem.W.typeIn K (.ref fI) = some (.type "function") ∧ FnOk P w K mg base CX0 1 fI fd ["self"] spIni0 ∧
    (∀ s a, BindsTo s fd ⟨[a], []⟩ ((["self"] : List Str).zip [a]))
section
variable {X : Cx} {pins : List (Addr × Obj)} {σ : L2.St} {H : Hp} {s : Shared} {C : Addr} {b : Bs} {f x : Str} {v : V} {u : Value} {Q : VK}
/-- the new object, its args' tuple ahead of it -/
theorem Inv.xnew (I : Inv X pins σ H s) (us : List Value) (C : Addr) : Inv X pins σ (upd H (s.heap.objs.size + 1) (exo (s.heap.objs.size + 1) C none)) { s with heap := (s.heap.push (PySem.W.kdv_tup us)).push (PX.excO C s.heap.objs.size) } := by
  obtain ⟨hp, g, dr, tk, os⟩ := s
  have old : ∀ c o, hp.get? c = some o → ((hp.push (PySem.W.kdv_tup us)).push (PX.excO C hp.objs.size)).get? c = some o := fun c o e => Heap.get?_push_of_some _ (Heap.get?_push_of_some _ e)
  have new : ((hp.push (PySem.W.kdv_tup us)).push (PX.excO C hp.objs.size)).get? (hp.objs.size + 1) = some (PX.excO C hp.objs.size) := by heap_get
  exact I.laid (t' := tk) (a := hp.objs.size + 1) (o := exo (hp.objs.size + 1) C none) old (Nat.le_succ _) (exo_ok new)
theorem one_line (us : List Value) (h : us.length ≤ 3) : us.length ≤ sizeLine := by rw [sizeLine_eq]; omega
end
section
variable {X : Cx} {C : Addr} {b : Bs} {f x : Str} {p pos kpos : Pos} {e : Expr} {es : List Expr} {kws : List Keyword} {t : TA}
end
/-! ### e.f -/
def tXf (K : PySem.W.Frag) (f : Str) (te : TE) : TE := fun σ H Q => te σ H fun x H1 => ∃ (a C : Addr) (b : Bs) (v : V), x = .ref a ∧ XC K C b ∧ PySem.W.findIn K (.ref C) f = some none ∧ XvAt H1 a C f v ∧ Q v H1
theorem pe_xf {X : Cx} {K : PySem.W.Frag} {f : Str} {e : Expr} {te : TE} {pos : Pos} (he : PE X e te) (hK : X.K = K := by rfl) (hb : attributeBase e f X.env (eval e X.env) = eval e X.env := by rfl) : PE X (.Attribute e f pos) (tXf K f te) := by
  subst hK
  refine ⟨fun pins s σ H Q I h => ?_⟩
  refine attr_of hb (thn (he.run pins s σ H _ I h) fun u s1 ⟨x, H1, I1, rx, a, C, b, v, ex, T, hno, ⟨d, ea, ed⟩, q⟩ => ?_)
  subst ex
  obtain rfl : u = Value.ref a := rx
  obtain ⟨t1, ho⟩ := exo_at I1.hok ea
  obtain ⟨mA, hns, rel⟩ := exd_at I1.hok ed
  obtain ⟨od, hod, hl⟩ := lookIn_ns hns
  have l : List.lookup f [(f, v)] = some v := by simp [List.lookup]
  obtain ⟨u, hu, ru⟩ := RelO.some_of (v := v) (o := mA f) (by rw [← l]; exact rel f)
  have J : PySem.W.InstAt s1.heap a { cls := .ref C, dict := some d, data := .fields #[.ref t1, .none, .none, .none, .bool false, .none] } C (some od) := ⟨ho, rfl, rfl, hod⟩
  exact HandSPX.exc_get I1.kIn J T.ga T.gt T.ex (PySem.W.findObj_own T.hd hno rfl (by rw [hl, hu])) (handed_of ru) ⟨v, H1, I1.tok _, ru, q⟩
end XV
end
section
set_option Elab.async false
set_option linter.all false
set_option maxRecDepth 100000
set_option maxHeartbeats 4000000
/-! MN: the less and the greater of two texts. -/
namespace MN
open PySem PySem.Spec PyProof.Rows L2
section
variable {prog : Program} {w : World} {A : Around} {E : Value → Shared → Prop} {s : Shared} {x y : Str} {t u : Tok}
/-- what stands at a place of a pair of texts -/
theorem pair_at {i : Nat} {v : Value} (h : (#[Value.str x t, Value.str y u])[i]? = some v) : ∃ k, v = .str (if i = 0 then x else y) k := by
  match i, h with
  | 0, h => exact ⟨t, by simpa using h.symm⟩
  | 1, h => exact ⟨u, by simpa using h.symm⟩
  | n + 2, h => simp at h
def less (x y : Str) : Bool := decide (x.cps.toList < y.cps.toList)
theorem texts_lt : CmpOf prog w A .Lt (fun i v => (#[Value.str x t, Value.str y u])[i]? = some v) (fun i j => less (if i = 0 then x else y) (if j = 0 then x else y)) := by
  intro i j vi vj s Q E hi hj h
  obtain ⟨_, rfl⟩ := pair_at hi
  obtain ⟨_, rfl⟩ := pair_at hj
  exact richCompare_gives (op := .Lt) (typeIs_str ..) (typeIs_str ..) F.slot_str_lt F.entry_str_lt (F.args_str_lt_2 ..) (gives_str_lt _ _ _ _) (fun z => nomatch z) h
theorem texts_gt : CmpOf prog w A .Gt (fun i v => (#[Value.str x t, Value.str y u])[i]? = some v) (fun i j => less (if j = 0 then x else y) (if i = 0 then x else y)) := by
  intro i j vi vj s Q E hi hj h
  obtain ⟨_, rfl⟩ := pair_at hi
  obtain ⟨_, rfl⟩ := pair_at hj
  exact richCompare_gives (op := .Gt) (typeIs_str ..) (typeIs_str ..) F.slot_str_gt F.entry_str_gt (F.args_str_gt_2 ..) (gives_str_gt _ _ _ _) (fun z => nomatch z) h
/-- the heap with the pair and its walker: what the walk touches is new -/
theorem walk_new {h : Heap} {p q : Obj} {I : Addr} (hI : I = (h.push p).objs.size) : ∀ c ∈ [I, h.objs.size], c < ((h.push p).push q).objs.size := by
  intro c hc
  have e1 : (h.push p).objs.size = h.objs.size + 1 := Heap.size_push ..
  have e2 : ((h.push p).push q).objs.size = h.objs.size + 2 := by rw [Heap.size_push, e1]
  simp only [List.mem_cons, List.not_mem_nil, or_false] at hc
  rcases hc with z | z
  · rw [z, hI, e1, e2]; exact Nat.lt_succ_self _
  · rw [z, e2]; exact Nat.lt_succ_of_lt (Nat.lt_succ_self _)
theorem min_texts {Q : Value → Shared → Prop} (hh : A.handled = none) (k : ∀ h2 tk, (∀ c o, s.heap.get? c = some o → h2.get? c = some o) → Q (if less y x then .str y u else .str x t) { s with heap := h2, toks := tk }) :
    wpAny (model prog w) A (call (.builtin "min") [.str x t, .str y u]) Q E s := by
  have tup : (s.heap.push { cls := .type "tuple", data := .seq #[.str x t, .str y u] }).IsTuple s.heap.objs.size #[.str x t, .str y u] := ⟨_, Heap.get?_push_size _ rfl, rfl, 0, rfl⟩
  have size1 : (s.heap.push { cls := .type "tuple", data := .seq #[.str x t, .str y u] }).objs.size = s.heap.objs.size + 1 := Heap.size_push ..
  refine call_min_two (wpAny_pyIter_tuple tup ?_)
  refine ⟨_, [_, s.heap.objs.size], [_], _, _, _, _, rfl, Walks.tuple (A := A.in1) hh _ _ (by rw [size1]; exact Nat.ne_of_lt (Nat.lt_succ_self _)) _, ⟨⟨_, Heap.get?_push_size _ rfl, rfl, rfl⟩, tup.push _⟩, walk_new rfl, by simp, texts_lt, fun v h2 tk hv hk => ?_⟩
  have r := k h2 tk fun c o e => hk c o (fun m => by
    have lt := Heap.lt_size e
    simp only [List.mem_cons, List.not_mem_nil, or_false] at m
    rw [m, size1] at lt
    exact Nat.lt_irrefl _ (Nat.lt_of_succ_lt lt)) (Heap.get?_push_of_some _ (Heap.get?_push_of_some _ e))
  have ev : v = if less y x then .str y u else .str x t := by cases hc : less y x <;> simp [argBest, hc] at hv <;> simp [hv]
  rw [ev]
  exact r
theorem max_texts {Q : Value → Shared → Prop} (hh : A.handled = none) (k : ∀ h2 tk, (∀ c o, s.heap.get? c = some o → h2.get? c = some o) → Q (if less x y then .str y u else .str x t) { s with heap := h2, toks := tk }) :
    wpAny (model prog w) A (call (.builtin "max") [.str x t, .str y u]) Q E s := by
  have tup : (s.heap.push { cls := .type "tuple", data := .seq #[.str x t, .str y u] }).IsTuple s.heap.objs.size #[.str x t, .str y u] := ⟨_, Heap.get?_push_size _ rfl, rfl, 0, rfl⟩
  have size1 : (s.heap.push { cls := .type "tuple", data := .seq #[.str x t, .str y u] }).objs.size = s.heap.objs.size + 1 := Heap.size_push ..
  refine call_max_two (wpAny_pyIter_tuple tup ?_)
  refine ⟨_, [_, s.heap.objs.size], [_], _, _, _, _, rfl, Walks.tuple (A := A.in1) hh _ _ (by rw [size1]; exact Nat.ne_of_lt (Nat.lt_succ_self _)) _, ⟨⟨_, Heap.get?_push_size _ rfl, rfl, rfl⟩, tup.push _⟩, walk_new rfl, by simp, texts_gt, fun v h2 tk hv hk => ?_⟩
  have r := k h2 tk fun c o e => hk c o (fun m => by
    have lt := Heap.lt_size e
    simp only [List.mem_cons, List.not_mem_nil, or_false] at m
    rw [m, size1] at lt
    exact Nat.lt_irrefl _ (Nat.lt_of_succ_lt lt)) (Heap.get?_push_of_some _ (Heap.get?_push_of_some _ e))
  have ev : v = if less x y then .str y u else .str x t := by cases hc : less x y <;> simp [argBest, hc] at hv <;> simp [hv]
  rw [ev]
  exact r
end
section
variable {X : Cx}
theorem call_minS (hc : X.calm = true) : CallR X (.builtin "min") (fun xs H Q => ∃ x y : Str, xs = [.str x, .str y] ∧ Q (.str (if less y x then y else x)) H) := by
  intro pins s σ H xs us Q I r h
  obtain ⟨x, y, rfl, q⟩ := h
  obtain ⟨u, w, rfl, ⟨t, rfl⟩, ⟨t2, rfl⟩⟩ := vals2 r
  refine min_texts (I.ok.hd hc) fun h2 tk k => ⟨_, H, I.kept k, ?_, q⟩
  cases less y x
  · exact ⟨t, rfl⟩
  · exact ⟨t2, rfl⟩
theorem call_maxS (hc : X.calm = true) : CallR X (.builtin "max") (fun xs H Q => ∃ x y : Str, xs = [.str x, .str y] ∧ Q (.str (if less x y then y else x)) H) := by
  intro pins s σ H xs us Q I r h
  obtain ⟨x, y, rfl, q⟩ := h
  obtain ⟨u, w, rfl, ⟨t, rfl⟩, ⟨t2, rfl⟩⟩ := vals2 r
  refine max_texts (I.ok.hd hc) fun h2 tk k => ⟨_, H, I.kept k, ?_, q⟩
  cases less x y
  · exact ⟨t, rfl⟩
  · exact ⟨t2, rfl⟩
end
end MN
end
section
set_option Elab.async false
set_option linter.all false
set_option maxRecDepth 100000
set_option maxHeartbeats 4000000
/-! BR: sorted(list of cells), list(text), the less and the greater of a pair of texts. Own work. -/
namespace BR
open PySem PySem.Spec PyProof.Rows L2
abbrev Ck := Str × (Int ⊕ Str)
def alike (a b : Ck) : Prop := a.1 = b.1 → a.2.isLeft = b.2.isLeft
def secIs : (Int ⊕ Str) → Value → Prop
  | .inl i, u => ∃ t, u = .int i t
  | .inr x, u => ∃ t, u = .str x t
def CellAt (h : Heap) (v : Value) (c : Ck) : Prop := ∃ a o t u n, v = .ref a ∧ h.get? a = some o ∧ o.cls = .type "tuple" ∧ o.data = .seq #[.str c.1 t, u] n ∧ secIs c.2 u
theorem CellAt.keeps {h h' : Heap} {v : Value} {c : Ck} (p : CellAt h v c) (k : ∀ b o, h.get? b = some o → o.cls = .type "tuple" → h'.get? b = some o) : CellAt h' v c := by
  obtain ⟨a, o, t, u, n, e, ho, hc, hd⟩ := p
  exact ⟨a, o, t, u, n, e, k _ _ ho hc, hc, hd⟩
section
variable {prog : Program} {w : World} {A : Around} {E : Value → Shared → Prop} {s : Shared} {b : Bool}
end
section
variable {X : Cx}
end
section
variable {prog : Program} {w : World} {A : Around} {E : Value → Shared → Prop} {s : Shared} {x y : Str} {t u : Tok} {a : Addr}
end
section
variable {X : Cx}
end
end BR
end
section
set_option Elab.async false
set_option linter.all false
set_option maxRecDepth 100000
set_option maxHeartbeats 4000000
/-! BAE: min and max of a tuple of integers. -/
namespace BAE
open PySem PySem.Spec PyProof.Rows L2 Evl
section
variable {prog : Program} {w : World} {A : Around} {E : Value → Shared → Prop} {s : Shared} {xs : Array (Int × Tok)} {l : Addr} {its : List Value} {ns : List Int}
end
section
variable {X : Cx}
end
end BAE
end
section
set_option Elab.async false
set_option linter.all false
set_option maxRecDepth 100000
set_option maxHeartbeats 4000000
/-! GL: promises of defs that are called where no repr is under way (A.guards = some []). -/
namespace GL
open PySem PySem.Spec PyProof.Rows L2
/-- as FnOk, asked only where no repr is under way -/
structure FnG (P : Program) (w : World) (K : PySem.W.Frag) (mg : Str → Option Value) (base : Heap) (CX : CXT) (k : Nat) (f : Addr) (fd : FuncData) (ps : List Str) (sp : Sp) : Prop where
  len : ∀ vs H Q E, sp vs H Q E → vs.length = ps.length
  run : ∀ (A : Around) (outer : List Env) (s : Shared) (H : Hp) (args : Args) (us : List Value) (vs : List V) (Q : VK) (E : XK), A.guards = some [] → Room k A → Env0 P w K mg base A outer s H →
    BindsTo s fd args (ps.zip us) → Vals vs us → sp vs H Q E → codeAny (model P w) A (.call (.ref f) args) (CR CX outer P w H s Q E) s
section
variable {P : Program} {w : World} {K : PySem.W.Frag} {mg : Str → Option Value} {base : Heap} {CX : CXT} {j k : Nat} {f : Addr} {fd : FuncData} {ps : List Str} {sp sp' : Sp}
theorem FnG.of (F : FnOk P w K mg base CX k f fd ps sp) : FnG P w K mg base CX k f fd ps sp := ⟨F.len, fun A o s H args us vs Q E _ => F.run A o s H args us vs Q E⟩
theorem FnG.up (F : FnG P w K mg base CX j f fd ps sp) (h : j ≤ k) : FnG P w K mg base CX k f fd ps sp := ⟨F.len, fun A o s H args us vs Q E g r => F.run A o s H args us vs Q E g (r.mono h)⟩
theorem FnG.less (F : FnG P w K mg base CX k f fd ps sp) (h : ∀ vs H Q E, sp' vs H Q E → sp vs H Q E) : FnG P w K mg base CX k f fd ps sp' :=
  ⟨fun vs H Q E q => F.len vs H Q E (h _ _ _ _ q), fun A o s H args us vs Q E g r e b v q => F.run A o s H args us vs Q E g r e b v (h _ _ _ _ q)⟩
end
/-- a def by its body -/
theorem FnG.body {CX : CXT} {P : Program} {w : World} {K : PySem.W.Frag} {mg : Str → Option Value} {base : Heap} {k : Nat} {f : Addr} {x qual : Str} {params : Arguments} {body : List Stmt} {scope : Scope} {dvs : List V} {kws : List (Str × V)} {fd : FuncData} {N ps : List Str} {sp : Sp}
    (F : FunD K x qual params body scope dvs kws f fd) (S : FnScope N ps scope) (len : ∀ vs H Q E, sp vs H Q E → vs.length = ps.length)
    (hb : ∀ (cdv : Value) (A : Around) (outer : List Env) (s : Shared) (H : Hp) (vs : List V) (Q : VK) (E : XK), A.guards = some [] → Room k (A.deeper (envOfC qual scope s.heap.objs.size f cdv)) → sp vs H Q E →
      ∃ t, PSs (cxOf CX P w K mg base N qual scope f cdv A outer s H E) body t ∧ t { nx := fun _ H' => Q .non H', rt := Q } (start N vs) H) : FnG P w K mg base CX (k + 1) f fd ps sp := by
  obtain ⟨oc, od, dV, kV, doc, pm, an, cdv, ct, osl, rfl, lk, hcd, _, _⟩ := F.ex
  refine ⟨len, fun A outer s H args us vs Q E hgd hr e0 hbd r hsp => ?_⟩
  have hl := len _ _ _ _ hsp
  have kin : K.In s.heap := e0.mod.kin.keeps fun b o e => (e0.bs b o e).1
  have lim : s.heap.NoLimit := e0.mod.nolimit.keeps fun b o e => (e0.bs b o e).1
  refine codeAny_call_function hr.depth (kin _ _ lk) rfl S.co S.gen rfl (PySem.W.codeRec_of kin hcd) (hbd _ _ _ _ ?_)
  refine wpAny_newFunctionEnv_cells S.kind (fun ⟨n, v⟩ hy => ?_) fun env he s1 x => ?_
  · rcases S.par n (List.of_mem_zip hy).1 with q | q
    · exact .inl q
    · exact .inr ⟨q, PySem.W.cellsFrom_some _ _ _ (.inl q)⟩
  subst he
  refine ⟨lim.keeps x.toInCall.keep, codeAny_func ?_⟩
  obtain ⟨t, ht, hq⟩ := hb cdv A outer s H vs Q E hgd (hr.deeper _) hsp
  have I := inv_start (CX := CX) (E := E) (f := f) (cd := cdv) S hr.hd e0 hl r x
  refine wpAny_mono (ht.run [] s1 (start N vs) H _ I hq) (fun fl s' hs => ?_) fun e s' hs => hs
  cases fl with
  | ret u =>
    obtain ⟨v, σ', H', J, rv, q⟩ := hs
    exact ⟨v, H', J.os, J.bare, J.base, J.hok, rv, q⟩
  | next =>
    obtain ⟨σ', H', J, q⟩ := hs
    exact ⟨.non, H', J.os, J.bare, J.base, J.hok, rfl, q⟩
  | brk =>
    obtain ⟨_, _, _, q⟩ := hs
    exact q.elim
  | cont =>
    obtain ⟨_, _, _, q⟩ := hs
    exact q.elim
section
variable {X : Cx} {CX : CXT} {k : Nat} {f C : Addr} {fd : FuncData} {ps : List Str} {sp : Sp} {dvs : List V} {ds : List Value} {E : XK} {x m : Str} {p pos apos : Pos} {e o : Expr} {es : List Expr} {ta : TE} {t : TA}
theorem run_g {pins : List (Addr × Obj)} {σ : L2.St} {H : Hp} {s : Shared} {Q : VK} {us : List Value} {vs : List V} (g : X.A.guards = some []) (F : FnG X.prog X.w X.K X.mg X.base CX k f fd ps sp) (hr : Room k X.A) (hb : Binds X.K fd ps ds) (hd : Vals dvs ds)
    (hx : Passes CX X E) (I : Inv X pins σ H s) (r : Vals vs us) (h : sp (vs ++ dvs) H Q E) : wpAny (model X.prog X.w) X.A (call (.ref f) us) (EP X pins σ Q) X.xe s := by
  have r2 := r.append hd
  have hl : (us ++ ds).length = ps.length := r2.length.symm.trans (F.len _ _ _ _ h)
  refine wpAny_call (codeAny_mono (F.run X.A X.stack s H ⟨us, []⟩ (us ++ ds) (vs ++ dvs) Q E g hr I.env0 (hb s us I.kIn hl) r2 h) fun r s' hq => ?_)
  cases r with
  | error er => exact hx pins σ H s er s' I hq
  | ok fl => cases fl with
    | ret u => exact I.after hq
    | next => exact False.elim hq
    | brk => exact False.elim hq
    | cont => exact False.elim hq
/-- f(e, ..) -/
theorem pe_g (g : X.A.guards = some []) (F : FnG X.prog X.w X.K X.mg X.base CX k f fd ps sp) (hr : Room k X.A) (hg : Gl X x) (hm : X.mg x = some (.ref f)) (hk : PySem.W.keepIn X.K (.ref f) = true) (hb : Binds X.K fd ps ds) (hd : Vals dvs ds) (hx : Passes CX X E)
    (ha : PA X (e :: es) t) (hdb : (x == ("__debug__" : Str)) = false := by decide) (he : starEach (e :: es) X.env = (false, eval e X.env) :: starEach es X.env := by rfl) (hpl : (backTo pos (starEach es X.env)).any (·.1) = false := by rfl) :
    PE X (.Call (.Name x p) (e :: es) [] pos) (tCall sp dvs E t) :=
  ⟨fun pins s σ H Q I h => wpAny_Call_Name_kw (ld_glob I hg hm (PySem.W.callWith_K (h₀ := X.base) I.ok.mod.kin hk (thn (ha.run pos pins s σ H _ I h) fun us s1 ⟨vs, H1, I1, r, q⟩ => ⟨I1.kIn, run_g g F hr hb hd hx I1 r q⟩) he hpl) hdb)⟩
end
/-- the law's call -/
theorem law_call {P : Program} {w : World} {K : PySem.W.Frag} {mg mb : Str → Option Value} {CX : CXT} {k : Nat} {fa a : Addr} {fd : FuncData} {x : Str} {sp : Sp} {s1 : Shared} {vs : List Value} {ns : List Int}
    (kin : K.In s1.heap) (hns : s1.heap.Ns mainGlobals mg) (hb : s1.heap.Ns builtinsNs mb) (hbb : ∀ x : Str, x ≠ "__name__" → mb x = bootBuiltins x) (hlim : s1.heap.NoLimit) (hg : s1.gens = #[])
    (ha : s1.heap.get? a = some { cls := .type "list", data := .seq vs.toArray }) (hi : IntsAre vs ns) (hl : ns.length ≤ sizeLine) (hr : Room k callerA)
    (F : ∀ base : Heap, K.In base → base.Ns mainGlobals mg → FnG P w K mg base CX k fa fd [x] sp) (hbind : ∀ (s : Shared) (u : Value), BindsTo s fd ⟨[u], []⟩ [(x, u)])
    (hsp : ∀ H : Hp, Only H → SqL K H a (ns.map V.int) → sp [.ref a] H (fun v _ => v = .bl true) fun _ _ _ => False)
    (hCX : ∀ H e s', CX [] H s1 (fun _ _ _ => False) e s' → False) :
    codeAny (model P w) callerA (.call (.ref fa) ⟨[.ref a], []⟩) (fun r s' => r = .ok (.ret (.bool true)) ∧ OldK s1.heap s'.heap ∧ s'.os = s1.os ∧ AllBare s'.gens) s1 := by
  have rv := vals_ints hi
  have core : ∀ H : Hp, Only H → SqL K H a (ns.map V.int) → HOk P w H s1.heap → (∀ b, H b ≠ none → b = a) → (H a ≠ none → K.lookup a = none) →
      codeAny (model P w) callerA (.call (.ref fa) ⟨[.ref a], []⟩) (fun r s' => r = .ok (.ret (.bool true)) ∧ OldK s1.heap s'.heap ∧ s'.os = s1.os ∧ AllBare s'.gens) s1 := by
    intro H hO hS hok only fresh
    have isa : ∀ {b : Addr} {u : HO}, H b = some u → b = a := fun {b u} q => only b (by rw [q]; exact fun z => nomatch z)
    have nodict : ∀ {b : Addr} {o : Obj} {es : Array DictEntry} {ep : Nat}, s1.heap.get? b = some o → o.data = .dict es ep → H b = none := fun {b o es ep} e d => by
      cases q : H b with
      | none => rfl
      | some u =>
        rw [isa q, ha] at e
        cases e
        exact absurd (show Data.seq vs.toArray _ = Data.dict es ep from d) (fun z => nomatch z)
    have nsK : ∀ {b : Addr} {m : Str → Option Value}, s1.heap.Ns b m → (hidT s1.heap H).Ns b m := fun {b m} ⟨o, es, ep, e, d, r⟩ => ⟨o, es, ep, hidT_get e (nodict e d), d, r⟩
    have kinB : K.In (hidT s1.heap H) := fun b o e => hidT_get (kin b o e) (by
      cases q : H b with
      | none => rfl
      | some u =>
        have z := isa q
        subst z
        rw [fresh (by rw [q]; exact fun z => nomatch z)] at e
        cases e)
    have md : Mod K mg (hidT s1.heap H) := ⟨kinB, nsK hns, ⟨mb, nsK hb, hbb⟩, let ⟨mc, h1, h2⟩ := hlim; ⟨mc, nsK h1, h2⟩⟩
    have e0 : Env0 P w K mg (hidT s1.heap H) callerA [] s1 H := ⟨rfl, md, fun b o e => of_hidT e, Nat.le_of_eq (hidT_size _ _), trivial, (fun b z => nomatch (show b ∈ ([] : List Addr) from z)), hok, .of_eq hg⟩
    refine codeAny_mono ((F _ kinB (nsK hns)).run callerA [] s1 H ⟨[.ref a], []⟩ [.ref a] [.ref a] _ _ rfl hr e0 (hbind s1 (.ref a)) (.cons rfl .nil) (hsp H hO hS)) fun r s' h => ?_
    cases r with
    | error er => exact (hCX H er s' h).elim
    | ok fl => cases fl with
    | next => exact False.elim h
    | brk => exact False.elim h
    | cont => exact False.elim h
    | ret u =>
      obtain ⟨v, H', os, bare, un, hok', r', q⟩ := h
      obtain rfl : v = .bl true := q
      obtain rfl : u = Value.bool true := r'
      refine ⟨rfl, OldK.of_keep fun b o e => ?_, os, bare⟩
      cases q : H b with
      | none => exact un.keep b o e q (fun z => nomatch (show b ∈ ([] : List Addr) from z)) (fun z => nomatch (show b ∈ ([] : List Addr) from z))
      | some u =>
        rcases hO b with z | ⟨ob, xs, z⟩
        · rw [q] at z
          cases z
        · obtain ⟨e1, _⟩ := hok b _ z
          obtain ⟨e2, _⟩ := hok' b _ (un.frzs b ob _ z)
          exact (e1.symm.trans e).symm ▸ e2
  cases hk : K.lookup a with
  | some o =>
    have e := kin a o hk
    rw [ha] at e
    cases e
    exact core (fun _ => none) (fun _ => .inl rfl) (.inr ⟨_, vs.toArray, _, hk, rfl, rfl, rfl, by rw [List.size_toArray, hi.length]; exact hl, by simpa using rv⟩) (fun b u z => nomatch (show (none : Option HO) = some u from z)) (fun b z => absurd rfl z) fun z => absurd rfl z
  | none =>
    refine core (fun b => if b = a then some (.frz { cls := .type "list", data := .seq vs.toArray } (.lst (ns.map V.int))) else none) (fun b => ?_) (.inl (.inr ⟨{ cls := .type "list", data := .seq vs.toArray }, if_pos rfl⟩)) (fun b u z => ?_) (fun b z => ?_) fun _ => hk
    · by_cases hb : b = a
      · exact .inr ⟨_, _, if_pos hb⟩
      · exact .inl (if_neg hb)
    · by_cases hb : b = a
      · subst hb
        cases (if_pos rfl).symm.trans z
        exact ⟨ha, by rw [List.length_map]; exact hl, vs, _, rv, ha⟩
      · cases (if_neg hb).symm.trans z
    · by_cases hb : b = a
      · exact hb
      · exact absurd (if_neg hb) z
/-- a law's end over a head by facts -/
theorem walk {l : PySem.W.OpenLaw} {n k : Nat} {q : Program} {loose : List Str} {XP : (Str → Option Value) → Heap → Prop} {YP : World → Heap → Prop} {d : DefRec} {CX : CXT} {x : Str}
    (hn : l.most = some n) (hn2 : n ≤ sizeLine) (hdf : d.params.defaults = []) (hr : Room k callerA)
    (F : ∀ (w : World) (mg : Str → Option Value) (fa : Addr) (h : Heap), YP w h → h.Ns mainGlobals mg → mg d.name = some (.ref fa) →
      ∃ (K : PySem.W.Frag) (fd : FuncData) (sp : Sp), K.In h ∧ (∀ (s : Shared) (u : Value), BindsTo s fd ⟨[u], []⟩ [(x, u)]) ∧
        (∀ (H : Hp) (a : Addr) (ns : List Int), ns.length ≤ n → Only H → SqL K H a (ns.map V.int) → sp [.ref a] H (fun v _ => v = .bl true) fun _ _ _ => False) ∧
        ∀ base : Heap, K.In base → base.Ns mainGlobals mg → FnG l.prog w K mg base CX k fa fd [x] sp)
    (hCX : ∀ (H : Hp) (s : Shared) (e : Value) (s' : Shared), CX [] H s (fun _ _ _ => False) e s' → False) :
    PySem.W.WalkO q loose XP YP l.row.toRowW d [] (fun f vs => PySem.call f vs) := by
  refine Att.attach_call hn hdf fun w s₀ s1 mg mb fa o pm cd doc a vs ns G Y ho hd hcd hmg hobj hints hlen hg => ?_
  obtain ⟨K, fd, sp, kin, hb, hsp, hF⟩ := F w mg fa _ Y G.T.g hmg
  exact law_call kin G.T.g G.T.b G.T.builtins G.T.nolimit hg hobj hints (Nat.le_trans hlen hn2) hr hF hb (fun H hO hS => hsp H a ns hlen hO hS) fun H e s' => hCX H s1 e s'
end GL
end
section
set_option Elab.async false
set_option linter.all false
set_option maxRecDepth 100000
set_option maxHeartbeats 4000000
/-! BV: the end of a law in whose defs lambdas are made, no repr under way. Own work. -/
namespace BV
open PySem PySem.Spec PyProof.Rows L2
abbrev Pairs := List (Addr × Addr)
def tabs (cs : Pairs) : List Addr := cs.map Prod.snd
theorem in_tabs {cs : Pairs} {p : Addr × Addr} (h : p ∈ cs) : p.2 ∈ tabs cs := List.mem_map.mpr ⟨p, h, rfl⟩
/-- at the start nothing is tracked but the script, where it is none of the program's own, and the tables -/
noncomputable def start (cs : Pairs) (a : Addr) (own : Bool) (o : Obj) (xs : List V) : Hp := fun b => if b ∈ tabs cs then some (.tbl #[]) else if b = a ∧ own = true then some (.frz o (.lst xs)) else none
theorem start_tab {cs : Pairs} {a : Addr} {own : Bool} {o : Obj} {xs : List V} {p : Addr × Addr} (h : p ∈ cs) : start cs a own o xs p.2 = some (.tbl #[]) := if_pos (in_tabs h)
theorem start_is {cs : Pairs} {a : Addr} {own : Bool} {o : Obj} {xs : List V} (b : Addr) : (b ∈ tabs cs ∧ start cs a own o xs b = some (.tbl #[])) ∨ (b = a ∧ b ∉ tabs cs ∧ own = true ∧ start cs a own o xs b = some (.frz o (.lst xs))) ∨ ((b ≠ a ∨ own = false) ∧ b ∉ tabs cs ∧ start cs a own o xs b = none) := by
  by_cases h1 : b ∈ tabs cs
  · exact .inl ⟨h1, if_pos h1⟩
  · by_cases h2 : b = a ∧ own = true
    · exact .inr (.inl ⟨h2.1, h1, h2.2, (if_neg h1).trans (if_pos h2)⟩)
    · refine .inr (.inr ⟨?_, h1, (if_neg h1).trans (if_neg h2)⟩)
      by_cases h3 : b = a
      · exact .inr (by cases own with | false => rfl | true => exact absurd ⟨h3, rfl⟩ h2)
      · exact .inl h3
theorem law_callT {P : Program} {w : World} {K : PySem.W.Frag} {mg mb : Str → Option Value} {CX : CXT} {k : Nat} {fa a : Addr} {cs : Pairs} {fd : FuncData} {x : Str} {sp : Sp} {s1 : Shared} {vs : List Value} {ns : List Int}
    (kin : K.In s1.heap) (hns : s1.heap.Ns mainGlobals mg) (hb : s1.heap.Ns builtinsNs mb) (hbb : ∀ x : Str, x ≠ "__name__" → mb x = bootBuiltins x) (hlim : s1.heap.NoLimit) (hg : s1.gens = #[])
    (empty : ∀ p ∈ cs, s1.heap.get? p.2 = some { cls := .none, data := .fields #[] }) (out : ∀ p ∈ cs, K.lookup p.2 = none) (hd : ∀ p ∈ cs, PySem.W.codeHdIn K p.1 p.2 = true)
    (hbm : ∃ (bm : Addr) (ob : Obj), mg "__builtins__" = some (.ref bm) ∧ bm ≠ builtinsNs ∧ s1.heap.get? bm = some ob ∧ ob.cls = .type "module" ∧ ob.dict = some builtinsNs ∧ ob.data = .plain)
    (ha : s1.heap.get? a = some { cls := .type "list", data := .seq vs.toArray }) (hi : IntsAre vs ns) (hl : ns.length ≤ sizeLine) (hr : Room k callerA)
    (F : ∀ base : Heap, K.In base → base.Ns mainGlobals mg → (∀ p ∈ cs, LamX.TabB base mg p.1 p.2) → GL.FnG P w K mg base CX k fa fd [x] sp) (hbind : ∀ (s : Shared) (u : Value), BindsTo s fd ⟨[u], []⟩ [(x, u)])
    (hsp : ∀ H : Hp, (∀ p ∈ cs, H p.2 = some (.tbl #[])) → SqL K H a (ns.map V.int) → sp [.ref a] H (fun v _ => v = .bl true) fun _ _ _ => False)
    (hCX : ∀ H e s', CX [] H s1 (fun _ _ _ => False) e s' → False) :
    codeAny (model P w) callerA (.call (.ref fa) ⟨[.ref a], []⟩) (fun r s' => r = .ok (.ret (.bool true)) ∧ OldK s1.heap s'.heap ∧ s'.os = s1.os ∧ AllBare s'.gens) s1 := by
  have rv := vals_ints hi
  have atT : ∀ b, b ∈ tabs cs → s1.heap.get? b = some { cls := .none, data := .fields #[] } := fun b hb => by
    obtain ⟨p, hp, rfl⟩ := List.mem_map.mp hb
    exact empty p hp
  have clash : Data.seq vs.toArray 0 ≠ Data.fields #[] := fun z => nomatch z
  have aT : a ∉ tabs cs := fun z => by
    have q := atT a z
    rw [ha] at q
    exact clash (congrArg Obj.data (Option.some.inj q))
  obtain ⟨own, hown⟩ : ∃ own, own = (K.lookup a).isNone := ⟨_, rfl⟩
  obtain ⟨H, hH⟩ : ∃ H, H = start cs a own { cls := .type "list", data := .seq vs.toArray } (ns.map V.int) := ⟨_, rfl⟩
  have is := fun b => start_is (cs := cs) (a := a) (own := own) (o := { cls := .type "list", data := .seq vs.toArray }) (xs := ns.map V.int) b
  rw [← hH] at is
  have hT : ∀ p ∈ cs, H p.2 = some (.tbl #[]) := fun p hp => by rw [hH]; exact start_tab hp
  have hS : SqL K H a (ns.map V.int) := by
    cases hk : K.lookup a with
    | some o =>
      have e := kin a o hk
      rw [ha] at e
      cases e
      exact .inr ⟨_, vs.toArray, _, hk, rfl, rfl, rfl, by rw [List.size_toArray, hi.length]; exact hl, by simpa using rv⟩
    | none =>
      have ow : own = true := by rw [hown, hk]; rfl
      rcases is a with ⟨z, _⟩ | ⟨_, _, _, z⟩ | ⟨z, _⟩
      · exact absurd z aT
      · exact .inl (.inr ⟨_, z⟩)
      · rcases z with z | z
        · exact absurd rfl z
        · rw [ow] at z; exact nomatch z
  have hok : HOk P w H s1.heap := fun b u z => by
    rcases is b with ⟨h1, h2⟩ | ⟨h1, _, _, h2⟩ | ⟨_, _, h2⟩
    · rw [h2] at z; cases z
      exact atT b h1
    · subst h1
      rw [h2] at z; cases z
      exact ⟨ha, by rw [List.length_map]; exact hl, vs, _, rv, ha⟩
    · rw [h2] at z; cases z
  -- what is neither a list nor an empty table isn't tracked
  have free : ∀ {b : Addr} {o : Obj}, s1.heap.get? b = some o → (∀ ys n, o.data ≠ .seq ys n) → o.data ≠ .fields #[] → H b = none := fun {b o} e n1 n2 => by
    rcases is b with ⟨h1, _⟩ | ⟨h1, _⟩ | ⟨_, _, h2⟩
    · rw [atT b h1] at e; cases e; exact absurd rfl n2
    · subst h1; rw [ha] at e; cases e; exact absurd rfl (n1 _ _)
    · exact h2
  have dct : ∀ {b : Addr} {o : Obj} {es : Array DictEntry} {ep : Nat}, s1.heap.get? b = some o → o.data = .dict es ep → H b = none := fun e d => free e (fun ys n z => by rw [d] at z; exact nomatch z) fun z => by rw [d] at z; exact nomatch z
  have nsK : ∀ {b : Addr} {m : Str → Option Value}, s1.heap.Ns b m → (hidT s1.heap H).Ns b m := fun ⟨o, es, ep, e, d, r⟩ => ⟨o, es, ep, hidT_get e (dct e d), d, r⟩
  have kinB : K.In (hidT s1.heap H) := fun b o e => hidT_get (kin b o e) (by
    rcases is b with ⟨h1, _⟩ | ⟨h1, _, h3, _⟩ | ⟨_, _, h2⟩
    · obtain ⟨p, hp, rfl⟩ := List.mem_map.mp h1
      rw [out p hp] at e; cases e
    · subst h1
      rw [hown, e] at h3; exact nomatch h3
    · exact h2)
  have md : Mod K mg (hidT s1.heap H) := ⟨kinB, nsK hns, ⟨mb, nsK hb, hbb⟩, let ⟨mc, h1, h2⟩ := hlim; ⟨mc, nsK h1, h2⟩⟩
  have TB : ∀ p ∈ cs, LamX.TabB (hidT s1.heap H) mg p.1 p.2 := fun p hp => by
    obtain ⟨bm, ob, b1, b2, b3, b4, b5, b6⟩ := hbm
    have gP : mainGlobals ≠ p.2 := fun z => by
      obtain ⟨o, es, ep, e, d, _⟩ := hns
      rw [z, empty p hp] at e
      cases e
      exact nomatch d
    refine NdefX.tabB_of_K kinB (hd p hp) ⟨bm, ob, b1, b2, fun z => ?_, fun z => ?_, hidT_get b3 (free b3 (fun ys n z => by rw [b6] at z; exact nomatch z) fun z => by rw [b6] at z; exact nomatch z), b4, b5, b6⟩ gP
    · obtain ⟨o, es, ep, e, d, _⟩ := hns
      rw [z, e] at b3
      cases b3
      rw [d] at b6
      exact nomatch b6
    · rw [z, empty p hp] at b3
      cases b3
      exact nomatch b6
  have e0 : Env0 P w K mg (hidT s1.heap H) callerA [] s1 H := ⟨rfl, md, fun b o e => of_hidT e, Nat.le_of_eq (hidT_size _ _), trivial, (fun b z => nomatch (show b ∈ ([] : List Addr) from z)), hok, .of_eq hg⟩
  refine codeAny_mono ((F _ kinB (nsK hns) TB).run callerA [] s1 H ⟨[.ref a], []⟩ [.ref a] [.ref a] _ _ rfl hr e0 (hbind s1 (.ref a)) (.cons rfl .nil) (hsp H hT hS)) fun r s' h => ?_
  cases r with
  | error er => exact (hCX H er s' h).elim
  | ok fl => cases fl with
  | next => exact False.elim h
  | brk => exact False.elim h
  | cont => exact False.elim h
  | ret u =>
    obtain ⟨v, H', os, bare, un, hok', r', q⟩ := h
    obtain rfl : v = .bl true := q
    obtain rfl : u = Value.bool true := r'
    have rest : ∀ b o, b ∉ tabs cs → s1.heap.get? b = some o → s'.heap.get? b = some o := fun b o nb e => by
      rcases is b with ⟨h1, _⟩ | ⟨_, _, _, h2⟩ | ⟨_, _, h2⟩
      · exact absurd h1 nb
      · obtain ⟨e1, _⟩ := hok b _ h2
        obtain ⟨e2, _⟩ := hok' b _ (un.frzs b _ _ h2)
        exact (e1.symm.trans e).symm ▸ e2
      · exact un.keep b o e h2 (fun z => nomatch (show b ∈ ([] : List Addr) from z)) (fun z => nomatch (show b ∈ ([] : List Addr) from z))
    have grown : ∀ p ∈ cs, ∃ more : Array Value, s'.heap.get? p.2 = some { cls := .none, data := .fields more } := fun p hp => by
      obtain ⟨more, z⟩ := un.tbls p.2 #[] (hT p hp)
      exact ⟨_, hok' p.2 _ z⟩
    refine ⟨rfl, ⟨fun b o e => ?_, fun b o e => ?_⟩, os, bare⟩
    · by_cases hb : b ∈ tabs cs
      · obtain ⟨p, hp, rfl⟩ := List.mem_map.mp hb
        obtain ⟨more, hm⟩ := grown p hp
        rw [empty p hp] at e
        cases e
        exact .inr (.inl ⟨((PySem.W.codeHd_of_K kin (hd p hp)).tab (empty p hp)).isCodeTable, rfl, #[], more, rfl, by rw [Array.empty_append]; exact hm⟩)
      · exact .inl (rest b o hb e)
    · by_cases hb : b ∈ tabs cs
      · obtain ⟨p, hp, rfl⟩ := List.mem_map.mp hb
        obtain ⟨more, hm⟩ := grown p hp
        exact ⟨_, hm⟩
      · exact ⟨o, rest b o hb e⟩
/-- a law's end over a head by facts, with tables -/
theorem walkT {l : PySem.W.OpenLaw} {n k : Nat} {q : Program} {loose : List Str} {XP : (Str → Option Value) → Heap → Prop} {YP : World → Heap → Prop} {d : DefRec} {CX : CXT} {x : Str}
    (hn : l.most = some n) (hn2 : n ≤ sizeLine) (hdf : d.params.defaults = []) (hr : Room k callerA)
    (F : ∀ (w : World) (mg : Str → Option Value) (fa : Addr) (h : Heap), YP w h → h.Ns mainGlobals mg → mg d.name = some (.ref fa) →
      ∃ (K : PySem.W.Frag) (fd : FuncData) (sp : Sp) (cs : Pairs), K.In h ∧ (∀ p ∈ cs, h.get? p.2 = some { cls := .none, data := .fields #[] }) ∧ (∀ p ∈ cs, K.lookup p.2 = none) ∧ (∀ p ∈ cs, PySem.W.codeHdIn K p.1 p.2 = true) ∧ (∀ (s : Shared) (u : Value), BindsTo s fd ⟨[u], []⟩ [(x, u)]) ∧
        (∀ (H : Hp) (a : Addr) (ns : List Int), ns.length ≤ n → (∀ p ∈ cs, H p.2 = some (.tbl #[])) → SqL K H a (ns.map V.int) → sp [.ref a] H (fun v _ => v = .bl true) fun _ _ _ => False) ∧
        ∀ base : Heap, K.In base → base.Ns mainGlobals mg → (∀ p ∈ cs, LamX.TabB base mg p.1 p.2) → GL.FnG l.prog w K mg base CX k fa fd [x] sp)
    (hCX : ∀ (H : Hp) (s : Shared) (e : Value) (s' : Shared), CX [] H s (fun _ _ _ => False) e s' → False) :
    PySem.W.WalkO q loose XP YP l.row.toRowW d [] (fun f vs => PySem.call f vs) := by
  refine Att.attach_call hn hdf fun w s₀ s1 mg mb fa o pm cd doc a vs ns G Y ho hd hcd hmg hobj hints hlen hg => ?_
  obtain ⟨K, fd, sp, cs, kin, hE, hO, hC, hb, hsp, hF⟩ := F w mg fa _ Y G.T.g hmg
  exact law_callT kin G.T.g G.T.b G.T.builtins G.T.nolimit hg hE hO hC G.T.bmain hobj hints (Nat.le_trans hlen hn2) hr hF hb (fun H hT hS => hsp H a ns hlen hT hS) fun H e s' => hCX H s1 e s'
end BV
namespace BV
open PySem PySem.Spec PyProof.Rows L2
/-- a def's code object stands where the hook says -/
theorem code_of {K : PySem.W.Frag} {x qual : Str} {params : Arguments} {body : List Stmt} {scope : Scope} {dvs : List V} {kws : List (Str × V)} {fd : FuncData} {p : He.Defn} (F : FunD K x qual params body scope dvs kws (He.fAd K p) fd) : fd.code = .ref (He.codeOf K p) := by
  obtain ⟨oc, od, dV, kV, doc, pm, an, cdv, ct, osl, e, lk, hc, _, _⟩ := F.ex
  obtain ⟨c, rfl⟩ := He.codeIn_ref hc
  subst e
  rw [He.codeOf_eq lk rfl]
/-- the defs' tables: empty, not in K -/
structure TabsIn (tf : List He.Defn) (h : Heap) (K : PySem.W.Frag) : Prop where
  hd : ∀ p ∈ tf, PySem.W.codeHdIn K (He.cT K p).1 (He.cT K p).2 = true
  out : ∀ p ∈ tf, K.lookup (He.cT K p).2 = none
  empty : ∀ p ∈ tf, h.get? (He.cT K p).2 = some { cls := .none, data := .fields #[] }
theorem tabs_in {tf : List He.Defn} {h : Heap} {as : List Addr} (e : He.tabsB h.get? tf (He.frT h.get? as) = true) : TabsIn tf h (He.frT h.get? as) := by
  have key : ∀ p ∈ tf, PySem.W.codeHdIn (He.frT h.get? as) (He.cT (He.frT h.get? as) p).1 (He.cT (He.frT h.get? as) p).2 = true ∧ ∃ o, h.get? (He.cT (He.frT h.get? as) p).2 = some o ∧ He.emptyTab o = true := fun p hp => by
    obtain ⟨h1, h2⟩ := Bool.and_eq_true_iff.mp (List.all_eq_true.mp e p hp)
    refine ⟨h1, ?_⟩
    cases q : h.get? (He.cT (He.frT h.get? as) p).2 with
    | none => rw [q] at h2; exact nomatch h2
    | some o => rw [q] at h2; exact ⟨o, rfl, h2⟩
  refine ⟨fun p hp => (key p hp).1, fun p hp => ?_, fun p hp => ?_⟩
  · obtain ⟨_, o, q, z⟩ := key p hp
    exact He.frT_none q z
  · obtain ⟨_, o, q, z⟩ := key p hp
    rw [q, He.emptyTab_eq z]
theorem TabsIn.keeps {tf : List He.Defn} {h h' : Heap} {K : PySem.W.Frag} (t : TabsIn tf h K) (k : ∀ b o, h.get? b = some o → h'.get? b = some o) : TabsIn tf h' K := ⟨t.hd, t.out, fun p hp => k _ _ (t.empty p hp)⟩
end BV
end
section
set_option Elab.async false
set_option linter.all false
set_option maxRecDepth 100000
set_option maxHeartbeats 4000000
/-! BAF: min(xs, key=lambda z: body) of tuples, the lambda's body any reading. -/
namespace BAF
open PySem PySem.Spec PySem.W PyProof.Rows L2 LamX
/-- one parameter z, otherwise captured names and globals -/
structure LamS1 (sc scope : Scope) (z : Str) : Prop where
  kind : scope.kind = .function
  co : scope.isCoroutine = false
  gen : scope.isGenerator = false
  par : scope.names.lookup z = some .local
  own : ∀ y ∈ scope.names, y.2 ≠ .cell ∧ (y.2 = .local → y.1 = z)
  free : ∀ y ∈ scope.names, y.2 = .free → sc.names.lookup y.1 = some .cell ∨ sc.names.lookup y.1 = some .free
theorem LamS1.has {X : Cx} {scope : Scope} {z : Str} (L : LamS1 X.env.scope scope z) (ok : X.Ok) : ∀ y ∈ scope.names, y.2 = .free → ∃ c, X.env.cells.lookup y.1 = some c := fun y hy e => by
  rcases L.free y hy e with k | k
  · exact ok.has _ (.inl k)
  · exact ok.has _ (.inr k)
section
variable {X : Cx} {pins : List (Addr × Obj)} {σ : L2.St} {H HZ : Hp} {s s1 : Shared}
end
end BAF
end
section
set_option Elab.async false
set_option linter.all false
set_option maxRecDepth 100000
set_option maxHeartbeats 4000000
/-! BQ: raise C(v) and raise C() for own classes whose bases are ValueError, LookupError, ArithmeticError. Own work. -/
namespace XV
open PySem PySem.Spec PyProof.Rows L2
section
variable {X : Cx} {pins : List (Addr × Obj)} {σ : L2.St} {s : Shared} {C : Addr} {b : Bs} {f x : Str} {v : V} {u : Value}
def tMkV (C : Addr) (f : Str) (t : TA) : L2.St → Hp → XK → Prop := fun σ H Q => t σ H fun vs H1 => ∃ v, vs = [v] ∧ ∀ d, H1 d = none → Q (.ref C) (some d) (upd H1 d (.xd [(f, v)]))
/-- C(v) in a raise -/
theorem pmk_xp {e : Expr} {ta : TE} {p2 pos : Pos} (D : XD X.prog X.w X.K X.mg X.base x C b f) (ty : PySem.W.typeIn X.K (.ref C) = some (.type "type")) (hr : Room 2 X.A) (ha : PA X [e] (tCons ta tNil)) (hg : Gl X x) (hdb : (x == ("__debug__" : Str)) = false := by decide)
    (na : starEach [e] X.env = (false, eval e X.env) :: starEach [] X.env := by rfl) (hpl : (backTo pos (starEach [] X.env)).any (·.1) = false := by rfl) : PMk X (.Call (.Name x p2) [e] [] pos) (tMkV C f (tCons ta tNil)) := by
  intro pins s0 σ H0 Q I0 h
  obtain ⟨fI, fd, iC, tI, F, bp, _⟩ := D.ini
  refine wpAny_Call_Name_kw (ld_glob I0 hg D.gC ?_ hdb)
  refine PySem.W.callWith_K (h₀ := X.base) I0.ok.mod.kin D.T.kC (thn (ha.run pos pins s0 σ H0 _ I0 h) fun us s ⟨vs, H, I, r, v, ev, q⟩ => ⟨I.kIn, ?_⟩) na hpl
  subst ev
  obtain ⟨u, rfl, rv⟩ : ∃ y, us = [y] ∧ RelV v y := by
    cases r with
    | cons rv rn =>
      cases rn
      exact ⟨_, rfl, rv⟩
  show wpAny _ _ (call (.ref C) [u]) _ _ _
  obtain ⟨nm, N, qn, bs, bm, hdct, sn, sub, ab, col, dd, k0, k1, k2, k3, k5, hC, hT⟩ := PySem.W.excInit_of I.kIn D.T.inn
  have J := Inv.xnew I [u] C
  have hn : H (s.heap.objs.size + 1) = none := I.hok.fresh (Nat.le_succ _)
  have kin := I.kIn
  obtain ⟨hp, g, dr, tk, os⟩ := s
  have kk : ∀ c o, hp.get? c = some o → ((hp.push (PySem.W.kdv_tup [u])).push (PX.excO C hp.objs.size)).get? c = some o := fun c o e => Heap.get?_push_of_some _ (Heap.get?_push_of_some _ e)
  refine wpAny_call (PX.call_own b.base hT hC (PySem.W.looks_findIn kin iC) (fun self => PySem.W.bind_fn kin self tI) (one_line [u] (by show 1 ≤ 3; decide))
    (codeAny_mono (F.run _ X.stack _ _ ⟨[Value.ref (hp.objs.size + 1), u], []⟩ [Value.ref (hp.objs.size + 1), u] [V.ref (hp.objs.size + 1), v] (fun z H2 => z = .non ∧ ∃ d, H d = none ∧ d ≠ hp.objs.size + 1 ∧ H2 = upd (upd (upd H (hp.objs.size + 1) (exo (hp.objs.size + 1) C none)) d (exd d [(f, v)])) (hp.objs.size + 1) (exo (hp.objs.size + 1) C (some d))) E0 (hr.make C [u] []) (J.env0.make C [u] []) (bp _ _ _) (.cons rfl (.cons rv .nil))
      ⟨_, C, b, v, rfl, D.T, D.hno, upd_same, fun d hd hne => ⟨rfl, d, by rw [← upd_ne (H := H) (o := exo (hp.objs.size + 1) C none) hne]; exact hd, hne, rfl⟩⟩) fun r s' hq => ?_))
  cases r with
  | error er => exact hq.elim
  | ok fl =>
    cases fl with
    | ret z =>
      obtain ⟨v', H', os2, bare2, un2, hok2, rz, ez, d, hd, hne, eH⟩ := hq
      subst ez
      obtain ⟨h2, g2, d2, t2, os'⟩ := s'
      have fin := q d hd
      have same : upd (del H' (hp.objs.size + 1)) d (.xd [(f, v)]) = upd H d (.xd [(f, v)]) := funext fun c => by
        by_cases c1 : c = d
        · rw [c1, upd_same, upd_same]
        · rw [upd_ne c1, upd_ne c1]
          by_cases c2 : c = hp.objs.size + 1
          · rw [c2, del_same, hn]
          · rw [del_ne c2, eH, upd_ne c2, upd_ne c1, upd_ne c2]
      rw [← same] at fin
      exact ⟨rz, mk_end (raises_own D.T.ex ty) I (Nat.le_succ _) kk un2 hok2 os2 bare2 (by rw [eH]; exact upd_same) (by rw [eH, upd_ne hne, upd_same]) hd fin⟩
    | next => exact False.elim hq
    | brk => exact False.elim hq
    | cont => exact False.elim hq
end
end XV
namespace XV
open PySem PySem.Spec PyProof.Rows L2
/-- a class that can be raised without arguments, under its name -/
structure RX0 (P : Program) (w : World) (K : PySem.W.Frag) (mg : Str → Option Value) (base : Heap) (x : Str) (C : Addr) : Prop where
  ex : ∃ b, XE0 P w K mg base x C b ∧ PySem.W.typeIn K (.ref C) = some (.type "type")
/-- .. with one argument, which it keeps in the field f -/
structure RXV (P : Program) (w : World) (K : PySem.W.Frag) (mg : Str → Option Value) (base : Heap) (x : Str) (C : Addr) (f : Str) : Prop where
  ex : ∃ b, XD P w K mg base x C b f ∧ PySem.W.typeIn K (.ref C) = some (.type "type")
/-- a def that may raise, called by its name -/
structure CalX (P : Program) (w : World) (K : PySem.W.Frag) (mg : Str → Option Value) (base : Heap) (k : Nat) (x : Str) (sp : Sp) : Prop where
  ex : ∃ (f : Addr) (fd : FuncData) (ps : List Str), FnOk P w K mg base (L2.CX P w) k f fd ps sp ∧ mg x = some (.ref f) ∧ PySem.W.keepIn K (.ref f) = true ∧ Binds K fd ps []
section
variable {X : Cx} {W : WX} {k j : Nat} {x : Str} {sp : Sp} {p pos : Pos} {e : Expr} {es : List Expr} {t : TA} {σ : L2.St} {H : Hp} {Q : VK} {E : L2.St → XK}
end
end XV
namespace XV
open PySem PySem.Spec PyProof.Rows L2
/-! ### what the head tells of such classes -/
def exC (K : PySem.W.Frag) (t : Str × Bs × Option Str) : Bool := xcB K (He.ga K t.1) t.2.1 && (t.2.2.elim true (fun f => eqb (PySem.W.findIn K (.ref (He.ga K t.1)) f) (some none)) && (eqb (PySem.W.findIn K (.ref (He.ga K t.1)) "__init__") (some (some (.ref (He.ma K (He.ga K t.1) "__init__")))) &&
  (decide (PySem.W.typeIn K (.ref (He.ma K (He.ga K t.1) "__init__")) = some (.type "function")) && decide (PySem.W.typeIn K (.ref (He.ga K t.1)) = some (.type "type")))))
def xmC (K : PySem.W.Frag) (t : Str × Str × Bool) : Bool := decide (PySem.W.exmOne K (.ref (He.ga K t.1)) (.ref (He.ga K t.2.1)) = some t.2.2)
theorem ex_at {K : PySem.W.Frag} {x : Str} {b : Bs} {f : Option Str} (z : exC K (x, b, f) = true) : XC K (He.ga K x) b ∧ (∀ g, f = some g → PySem.W.findIn K (.ref (He.ga K x)) g = some none) ∧
    PySem.W.findIn K (.ref (He.ga K x)) "__init__" = some (some (.ref (He.ma K (He.ga K x) "__init__"))) ∧ PySem.W.typeIn K (.ref (He.ma K (He.ga K x) "__init__")) = some (.type "function") ∧ PySem.W.typeIn K (.ref (He.ga K x)) = some (.type "type") := by
  obtain ⟨z1, z⟩ := two z
  obtain ⟨z2, z⟩ := two z
  obtain ⟨z3, z⟩ := two z
  obtain ⟨z4, z5⟩ := two z
  refine ⟨xc_of z1, fun g e => ?_, of_decide_eq_true z3, of_decide_eq_true z4, of_decide_eq_true z5⟩
  have e2 : f = some g := e
  subst e2
  exact of_decide_eq_true z2
section
variable {P : Program} {w : World} {K : PySem.W.Frag} {mg : Str → Option Value} {base : Heap} {fd : FuncData} {x qual : Str} {b : Bs} {p1 p2 q1 q2 q3 q4 : Pos}
theorem rx_given (F : FunD K "__init__" qual (iArgs "given" p1 p2) (iBody "given" q1 q2 q3 q4) (iScope "given") [] [] (He.ma K (He.ga K x) "__init__") fd) (hg : mg x = some (.ref (He.ga K x))) (z : exC K (x, b, some "given") = true) : RXV P w K mg base x (He.ga K x) "given" := by
  obtain ⟨h1, h2, h3, h4, h5⟩ := ex_at z
  refine ⟨b, ⟨h1, hg, h2 _ rfl, _, fd, h3, h4, ok_given F, ?_, ?_⟩, h5⟩
  · intro s a u
    exact FunD.bindsA (ps := ["self", "given"]) F (fun _ _ _ _ _ _ us hl => match us, hl with | [_, _], _ => rfl) s [a, u] rfl
  · intro s a u
    obtain ⟨oc, od, dV, kV, doc, pm, an, cdv, ct, osl, rfl, lk, hcd, hD, hK⟩ := F.ex
    rcases hD with ⟨_, rfl⟩ | ⟨e, _⟩
    · exact .of_eq rfl
    · exact absurd rfl e
theorem rx_index (F : FunD K "__init__" qual (iArgs "index" p1 p2) (iBody "index" q1 q2 q3 q4) (iScope "index") [] [] (He.ma K (He.ga K x) "__init__") fd) (hg : mg x = some (.ref (He.ga K x))) (z : exC K (x, b, some "index") = true) : RXV P w K mg base x (He.ga K x) "index" := by
  obtain ⟨h1, h2, h3, h4, h5⟩ := ex_at z
  refine ⟨b, ⟨h1, hg, h2 _ rfl, _, fd, h3, h4, ok_index F, ?_, ?_⟩, h5⟩
  · intro s a u
    exact FunD.bindsA (ps := ["self", "index"]) F (fun _ _ _ _ _ _ us hl => match us, hl with | [_, _], _ => rfl) s [a, u] rfl
  · intro s a u
    obtain ⟨oc, od, dV, kV, doc, pm, an, cdv, ct, osl, rfl, lk, hcd, hD, hK⟩ := F.ex
    rcases hD with ⟨_, rfl⟩ | ⟨e, _⟩
    · exact .of_eq rfl
    · exact absurd rfl e
end
end XV
namespace XV
open PySem PySem.Spec PyProof.Rows L2
end XV
end
section
set_option Elab.async false
set_option linter.all false
set_option maxRecDepth 100000
set_option maxHeartbeats 4000000
/-! BAG: several except clauses, each with a name; methods that may raise. -/
namespace BAG
open PySem PySem.Spec PyProof.Rows L2
/-- what is left of the ends where the name of a clause goes away -/
def endsOff (i : Nat) (D : Ends) : Ends := { nx := fun σ' H' => D.nx (σ'.set i none) H', rt := D.rt, bk := fun σ' H' => D.bk (σ'.set i none) H', ct := fun σ' H' => D.ct (σ'.set i none) H' }
def wMA (K : PySem.W.Frag) (i : Nat) (Wout : WX) (D : Ends) : List (Value × (Addr → Value → Option Addr → TS)) → WX
  | [] => Wout
  | (c, ts) :: r => fun cls d σ H => ∃ b, PySem.W.exmOne K cls c = some b ∧ (b = true → ∀ a, H a = none → ts a cls d (endsOff i D) (σ.set i (some (.ref a))) H) ∧ (b = false → wMA K i Wout D r cls d σ H)
inductive HdsA (X : Cx) (n : Str) : List ExceptHandler → List (Value × (Addr → Value → Option Addr → TS)) → Prop
  | nil : HdsA X n [] []
  | cons {x : Str} {c : Value} {ts : Addr → Value → Option Addr → TS} {b₀ : Stmt} {suite : List Stmt} {np pos' : Pos} {hds : List ExceptHandler} {l : List (Value × (Addr → Value → Option Addr → TS))} (hc : Names X x c)
      (hsu : ∀ (a : Addr) (oe : Obj) (cls : Value) (d : Option Addr) (pn : List (Addr × Obj)), Zc cls d oe → (∃ vs, oe.data = .fields vs) → PSs (X.suite a ((a, oe) :: pn)) (b₀ :: suite) (ts a cls d)) (r : HdsA X n hds l) :
      HdsA X n (.ExceptHandler (some (.Name x np)) (some n) (b₀ :: suite) pos' :: hds) ((c, ts) :: l)
section
variable {X : Cx} {body : List Stmt} {h₀ : ExceptHandler} {hds : List ExceptHandler} {l : List (Value × (Addr → Value → Option Addr → TS))} {pos : Pos} {tb : WX → TS} {Wout : WX} {n : Str} {i : Nat}
theorem ps_try_ma (hs : X.stack = X.env :: X.outer) (hf : X.env.frame = some X.env.locals) (hN : X.N.Nodup) (hi : X.N[i]? = some n) (hln : X.env.kindOf n = some .local) (tk : Takes X Wout)
    (hb : ∀ (W : WX) (pn : List (Addr × Obj)) (xe : Value → Shared → Prop), Takes (X.tr pn xe) W → PassesOwn (model X.prog X.w) X.A X.env xe → PSs (X.tr pn xe) body (tb W))
    (hh : HdsA X n (h₀ :: hds) l) : PS X (.Try body (h₀ :: hds) [] [] pos) (fun D σ H => tb (wMA X.K i Wout D l) D σ H) := by
  refine ⟨fun pins s σ H D I h => ?_⟩
  have ok := I.ok
  have hfr : X.A.frames = some (X.env :: X.outer) := by rw [ok.frames, hs]
  have hloc : Loc X.env.scope n := .inl hln
  refine wpAny_Try_except ?_
  refine wpAny_mono ((hb (wMA X.K i Wout D l) (X.pn ++ pins) (fun e s₁ => wpAny (model X.prog X.w) X.A (noteFrame e X.env) (fun _ s₂ => wpAny (model X.prog X.w) X.A (setFlight e none) (fun _ s₃ =>
    wpAny (model X.prog X.w) X.A (handleBy e X.env (h₀ :: hds)) (SP X pins D) X.xe s₃) X.xe s₂) X.xe s₁) (fun u s' xx => ?_) PassesOwn.looking).run [] s σ H D (I.toTry _) h) (fun f s1 hsp => ?_) (fun e s1 he => he)
  · obtain ⟨a, B, sI, pins', σ', H', cls, d, rfl, J', nb, up, sky, na, os, ag, w⟩ := xx
    have J : Inv X pins σ' H' sI := J'.ofTry ok
    have sky' : Sky B (X.env :: X.outer) a (Zc cls d) X.env.locals s'.heap := by rw [← hs]; exact sky
    show wpAny (model X.prog X.w) X.A (noteFrame (.ref a) X.env) _ _ _
    refine Sky.land Zc.steady hfr hf sky' fun h3 fl3 up3 => ?_
    have J3 : Inv X pins σ' H' { s' with heap := h3 } := J.landed nb fl3.1 (up.trans up3) os ag
    obtain ⟨oe3, vs3, he3, hz3, hd3⟩ := fl3.there
    have notFr : ∀ {h : Heap} {o : Obj} {vs : Array Value}, h.FunFrames B (X.env :: X.outer) → h.get? a = some o → o.data = .fields vs → a ∉ frs (X.env :: X.outer) := fun {h o vs} ff e dd hm => by
      obtain ⟨_, o', e', hnf⟩ := ff.mem hm
      rw [e] at e'; cases e'
      exact hnf _ dd
    have nfr := notFr fl3.2.2.1 he3 hd3
    have nL : a ≠ X.env.locals := fun z => nfr (List.mem_filterMap.mpr ⟨X.env, List.mem_cons_self, by rw [hf, z]⟩)
    have nF : a ∉ X.fs := fun hm => by
      obtain ⟨e, he, q⟩ := List.mem_filterMap.mp hm
      exact nfr (List.mem_filterMap.mpr ⟨e, List.mem_cons_of_mem _ he, q⟩)
    have S3 := J3.suite he3 hd3 na nL nF
    have go : ∀ {hds' : List ExceptHandler} {l' : List (Value × (Addr → Value → Option Addr → TS))}, HdsA X n hds' l' → wMA X.K i Wout D l' cls d σ' H' →
        wpAny (model X.prog X.w) X.A (handleBy (.ref a) X.env hds') (SP X pins D) X.xe { s' with heap := h3 } := by
      intro hds' l' hk
      induction hk with
      | nil =>
        intro w
        refine wpAny_handleBy_nil ?_
        obtain ⟨k1, k2, k3, oe, vs, T, oT, ts', he, hz, hd, h1, hr⟩ := id fl3
        unfold PySem.passOn
        refine wpAny_bind (wpAny_field he hd h1 ?_)
        rw [if_neg (show ¬ ((Value.ref T == Value.none) = true) from by simp)]
        have fin : wpAny (model X.prog X.w) X.A (setFlight (.ref a) X.env.frame) (fun _ s4 => wpAny (model X.prog X.w) X.A (throw (.ref a) : Sem Flow) (SP X pins D) X.xe s4) X.xe { s' with heap := h3 } := by
          rw [hf]
          refine HandSPX.setFlight_upZ fl3 fun h4 hh4 up4 => wpAny_throw (tk _ _ ?_)
          exact ⟨a, B, sI, pins, σ', H', cls, d, rfl, J, nb, (up.trans up3).trans up4, .inr (.inr (by rw [hs]; exact hh4)), na, os, ag, w⟩
        first
          | exact wpAny_bind (wpAny_pure (wpAny_bind fin))
          | exact wpAny_bind fin
      | @cons x c ts b₀ suite np pos' hds2 l2 hc hsu r ih =>
        intro w
        obtain ⟨b, hb1, hyes, hno⟩ := w
        refine wpAny_handleBy_cons (codeAny_handlers_test ?_) (by intro q; cases q)
        have LT : PySem.W.Looks (model X.prog X.w) h3 (typeOf (.ref a)) cls := fun A Q E s k q => wpAny_typeOf_ref (k _ _ he3) (by rw [hz3.1]; exact q)
        have LM := PySem.W.exm_one (M := model X.prog X.w) (J3.kIn) LT hb1
        have test : ∀ {Q : Value → Shared → Prop} {E : Value → Shared → Prop}, Q c { s' with heap := h3 } → wpAny (model X.prog X.w) (X.A.mark (some (.ref a))) (eval (.Name x np) X.env) Q E { s' with heap := h3 } := fun {Q E} q => by
          obtain ⟨hg, hdbg, hm | ⟨hm, hv, hnn⟩⟩ := hc
          · exact ld_glob (X := X.suite a ((a, oe3) :: (X.pn ++ pins))) S3 hg hm q hdbg
          · exact ld_blt (X := X.suite a ((a, oe3) :: (X.pn ++ pins))) S3 hg hm hv q hnn hdbg
        refine test (LM.here ?_)
        cases b with
        | true =>
          refine codeAny_handlers_suite_as ?_
          refine HandSPX.lands_againZ fl3 fun h4 fl4 up4 => ?_
          have J4 : Inv X pins σ' H' { s' with heap := h4 } := J.landed nb fl4.1 ((up.trans up3).trans up4) os ag
          obtain ⟨oe4, vs4, he4, hz4, hd4⟩ := fl4.there
          have S4 := J4.suite he4 hd4 na nL nF
          refine store_ok (X := X.suite a ((a, oe4) :: (X.pn ++ pins))) (v := .ref a) S4 hN hi hloc rfl (fun s5 S5 => ?_) (.inr hln)
          refine wpAny_mono ((hsu a oe4 cls d (X.pn ++ pins) hz4 ⟨_, hd4⟩).run [] s5 _ H' _ S5 (hyes rfl a na)) (fun f s6 hsp => ?_) (fun _ _ z => False.elim z)
          have end_ : ∀ {σ6 : L2.St} {H6 : Hp} {Q : Shared → Prop}, Inv (X.suite a ((a, oe4) :: (X.pn ++ pins))) [] σ6 H6 s6 → (∀ s7, Inv X pins (σ6.set i none) H6 s7 → Q s7) →
              wpAny (model X.prog X.w) X.A (do bindName X.env n .none; unbindBehindTheSuite X.env n pos') (fun _ s7 => Q s7) X.xe s6 := fun {σ6 H6 Q} S6 hq => gone_ok (S6.unsuite ok) hN hi hln hq
          cases f with
          | next =>
            obtain ⟨σ6, H6, S6, q6⟩ := hsp
            exact end_ S6 fun s7 J7 => ⟨_, _, J7, q6⟩
          | brk =>
            obtain ⟨σ6, H6, S6, q6⟩ := hsp
            exact end_ S6 fun s7 J7 => ⟨_, _, J7, q6⟩
          | cont =>
            obtain ⟨σ6, H6, S6, q6⟩ := hsp
            exact end_ S6 fun s7 J7 => ⟨_, _, J7, q6⟩
          | ret u =>
            obtain ⟨v6, σ6, H6, S6, r6, q6⟩ := hsp
            exact end_ S6 fun s7 J7 => ⟨_, _, _, J7, r6, q6⟩
        | false =>
          show wpAny _ X.A (handleBy (.ref a) X.env hds2) _ _ _
          exact ih (hno rfl)
    exact go hh w
  · cases f with
    | next =>
      obtain ⟨σ', H', J', q⟩ := hsp
      exact wpAny_execs_nil ⟨σ', H', J'.ofTry ok, q⟩
    | brk =>
      obtain ⟨σ', H', J', q⟩ := hsp
      exact ⟨σ', H', J'.ofTry ok, q⟩
    | cont =>
      obtain ⟨σ', H', J', q⟩ := hsp
      exact ⟨σ', H', J'.ofTry ok, q⟩
    | ret u =>
      obtain ⟨v, σ', H', J', r, q⟩ := hsp
      exact ⟨v, σ', H', J'.ofTry ok, r, q⟩
end
/-- a method that may raise -/
structure MetX (P : Program) (w : World) (K : PySem.W.Frag) (mg : Str → Option Value) (base : Heap) (k : Nat) (C : Addr) (m : Str) (sp : Sp) : Prop where
  ex : ∃ (f : Addr) (fd : FuncData) (ps : List Str), Cls K C ∧ Meth K C m f ∧ FnOk P w K mg base (L2.CX P w) k f fd ps sp ∧ Binds K fd ps []
section
variable {X : Cx} {W : WX} {k j : Nat} {C : Addr} {m : Str} {sp : Sp} {o e : Expr} {es : List Expr} {ta : TE} {t : TA} {apos pos : Pos} {E : XK}
theorem pe_mtX {pl : Sem Bool} (c : MetX X.prog X.w X.K X.mg X.base k C m sp) (tk : Takes X W) (hW : ∀ cls d σ H, E cls d H → W cls d σ H) (hr : Room j X.A) (hk : k ≤ j) (he : PE X o ta) (ha : PA X (e :: es) t)
    (hst : starEach (e :: es) X.env = (false, eval e X.env) :: starEach es X.env := by rfl) (hpl : (backTo pos (starEach es X.env)).any (·.1) = false := by rfl)
    (ht : eval (.Call (.Attribute o m apos) (e :: es) [] pos) X.env = (do
      let ov ← eval o X.env
      standAt apos.atName
      let (f, first) ← holding [ov] (getMethod ov m pl)
      callWith pos f first (backTo pos (starEach (e :: es) X.env)) (backToKw pos (keywordEach [] X.env))) := by rfl) :
    PE X (.Call (.Attribute o m apos) (e :: es) [] pos) (tMeth C m sp [] E ta t) := by
  obtain ⟨f, fd, ps, hc, hm, F, b⟩ := c.ex
  exact pe_meth (pl := pl) he hc hm F (hr.mono hk) b .nil (passes_call tk hW) ha hst hpl ht
end
/-- a method that may raise, called by names alone -/
structure MetKX (P : Program) (w : World) (K : PySem.W.Frag) (mg : Str → Option Value) (base : Heap) (k : Nat) (C : Addr) (m : Str) (sp : Sp) (ks : List Str) : Prop where
  ex : ∃ (f : Addr) (fd : FuncData) (ps : List Str), Cls K C ∧ Meth K C m f ∧ FnOk P w K mg base (L2.CX P w) k f fd ps sp ∧ KBn K fd ps 1 ks (fun us ws => us ++ ws) (fun vs zs => vs ++ zs)
section
variable {X : Cx} {W : WX} {k j : Nat} {C : Addr} {m : Str} {sp : Sp} {ks : List Str} {pos apos : Pos} {o : Expr} {kws : List Keyword} {ta : TE} {tk : TA} {E : XK}
theorem pe_mtKX {pl : Sem Bool} (c : MetKX X.prog X.w X.K X.mg X.base k C m sp ks) (tk0 : Takes X W) (hW : ∀ cls d σ H, E cls d H → W cls d σ H) (hr : Room j X.A) (hk : k ≤ j) (he : PE X o ta) (hkw : PK X kws tk)
    (hall : (backToKw pos (keywordEach kws X.env)).all (·.1.isSome) = true := by rfl) (hks : (backToKw pos (keywordEach kws X.env)).filterMap (·.1) = ks := by rfl)
    (hpl : ((backTo pos (starEach [] X.env)).any (·.1) || (backToKw pos (keywordEach kws X.env)).any (·.1.isNone)) = false := by rfl)
    (ht : eval (.Call (.Attribute o m apos) [] kws pos) X.env = (do
      let ov ← eval o X.env
      standAt apos.atName
      let (f, first) ← holding [ov] (getMethod ov m pl)
      callWith pos f first (backTo pos (starEach [] X.env)) (backToKw pos (keywordEach kws X.env))) := by rfl) :
    PE X (.Call (.Attribute o m apos) [] kws pos) (TX.tMethK C m sp ks.length E ta tk) := by
  obtain ⟨f, fd, ps, hc, hm, F, hb⟩ := c.ex
  refine ⟨fun pins s σ H Q I h => ?_⟩
  refine PySem.W.methodCall_KW (pl := pl) (thn (he.run pins s σ H _ I h) fun u s1 ⟨x, H1, I1, rx, a, dx, fs, ex, ea, l, q⟩ => ?_) ht
  subst ex
  obtain rfl : u = Value.ref a := rx
  refine getmeth_ok I1 ea hc hm l ?_
  refine PySem.W.callWith_KW0 (first := [.ref a]) (h₀ := X.base) I.ok.mod.kin hm.kp hall (thn (hkw.run pos pins s1 σ H1 _ I1 q) fun ws s2 ⟨zs, H2, I2, rz, l2, q2⟩ => ⟨I2.kIn, ?_⟩) hpl
  rw [hks]
  exact run_fnN (us := [.ref a]) (vs := [.ref a]) F (hr.mono hk) hb (passes_call tk0 hW) I2 (.cons rfl .nil) rz rfl l2 q2
end
end BAG
end
section
set_option Elab.async false
set_option linter.all false
set_option maxRecDepth 100000
set_option maxHeartbeats 4000000
/-! BAH: an exception in hand, in any context that holds it: isinstance, its fields; defs called with it. -/
namespace BAH
open PySem PySem.Spec PyProof.Rows L2
section
variable {X : Cx} {a : Addr} {oe : Obj} {cls : Value} {d : Option Addr}
end
/-! ### defs called with the exception that a suite holds -/
structure FnE (P : Program) (w : World) (K : PySem.W.Frag) (mg : Str → Option Value) (base : Heap) (k : Nat) (f : Addr) (fd : FuncData) (ps : List Str) (sp : Addr → Value → Option Addr → Sp) : Prop where
  len : ∀ a cls d vs H Q E, sp a cls d vs H Q E → vs.length = ps.length
  run : ∀ (A : Around) (outer : List Env) (s : Shared) (H : Hp) (args : Args) (us : List Value) (vs : List V) (Q : VK) (E : XK) (a : Addr) (oe : Obj) (cls : Value) (d : Option Addr), A.guards = some [] → L2H.RoomH k A → L2H.PinOk outer H s (a, oe) → Zc cls d oe → (∃ vs, oe.data = .fields vs) →
    Env0 P w K mg base A outer s H → BindsTo s fd args (ps.zip us) → Vals vs us → sp a cls d vs H Q E → codeAny (model P w) A (.call (.ref f) args) (CR C8.CX0 outer P w H s Q E) s
theorem FnE.body {P : Program} {w : World} {K : PySem.W.Frag} {mg : Str → Option Value} {base : Heap} {k : Nat} {f : Addr} {x qual : Str} {params : Arguments} {body : List Stmt} {scope : Scope} {dvs : List V} {kws : List (Str × V)} {fd : FuncData} {N ps : List Str} {sp : Addr → Value → Option Addr → Sp}
    (F : FunD K x qual params body scope dvs kws f fd) (S : FnScope N ps scope) (len : ∀ a cls d vs H Q E, sp a cls d vs H Q E → vs.length = ps.length)
    (hb : ∀ (cdv : Value) (A : Around) (outer : List Env) (s : Shared) (H : Hp) (vs : List V) (Q : VK) (E : XK) (a : Addr) (oe : Obj) (cls : Value) (d : Option Addr), A.guards = some [] → L2H.RoomH k (A.deeper (envOfC qual scope s.heap.objs.size f cdv)) → Zc cls d oe → (∃ vs, oe.data = .fields vs) → sp a cls d vs H Q E →
      ∃ t, PSs (L2H.cxH C8.CX0 P w K mg base N qual scope f cdv A outer s H E (a, oe)) body t ∧ t { nx := fun _ H' => Q .non H', rt := Q } (L2.start N vs) H) : FnE P w K mg base (k + 1) f fd ps sp := by
  obtain ⟨oc, od, dV, kV, doc, pm, an, cdv, ct, osl, rfl, lk, hcd, _, _⟩ := F.ex
  refine ⟨len, fun A outer s H args us vs Q E a oe cls d hgd hr hpin hz hf e0 hbd r hsp => ?_⟩
  have hl := len _ _ _ _ _ _ _ hsp
  have kin : K.In s.heap := e0.mod.kin.keeps fun b o e => (e0.bs b o e).1
  have lim : s.heap.NoLimit := e0.mod.nolimit.keeps fun b o e => (e0.bs b o e).1
  refine codeAny_call_function hr.depth (kin _ _ lk) rfl S.co S.gen rfl (PySem.W.codeRec_of kin hcd) (hbd _ _ _ _ ?_)
  refine wpAny_newFunctionEnv_cells S.kind (fun ⟨n, v⟩ hy => ?_) fun env he s1 x => ?_
  · rcases S.par n (List.of_mem_zip hy).1 with q | q
    · exact .inl q
    · exact .inr ⟨q, PySem.W.cellsFrom_some _ _ _ (.inl q)⟩
  subst he
  refine ⟨lim.keeps x.toInCall.keep, codeAny_func ?_⟩
  obtain ⟨t, ht, hq⟩ := hb cdv A outer s H vs Q E a oe cls d hgd (hr.deeper _) hz hf hsp
  have I := L2H.inv_startH (CX := C8.CX0) (E := E) (f := f) (cd := cdv) S hpin e0 hl r x
  refine wpAny_mono (ht.run [] s1 (L2.start N vs) H _ I hq) (fun fl s' hs => ?_) fun e s' hs => hs
  cases fl with
  | ret u =>
    obtain ⟨v, σ', H', J, rv, q⟩ := hs
    exact ⟨v, H', J.os, J.bare, J.base, J.hok, rv, q⟩
  | next =>
    obtain ⟨σ', H', J, q⟩ := hs
    exact ⟨.non, H', J.os, J.bare, J.base, J.hok, rfl, q⟩
  | brk =>
    obtain ⟨_, _, _, q⟩ := hs
    exact q.elim
  | cont =>
    obtain ⟨_, _, _, q⟩ := hs
    exact q.elim
/-- such a def, under its name -/
structure CalE (P : Program) (w : World) (K : PySem.W.Frag) (mg : Str → Option Value) (base : Heap) (k : Nat) (x : Str) (sp : Addr → Value → Option Addr → Sp) : Prop where
  ex : ∃ (f : Addr) (fd : FuncData) (ps : List Str), FnE P w K mg base k f fd ps sp ∧ mg x = some (.ref f) ∧ PySem.W.keepIn K (.ref f) = true ∧ Binds K fd ps []
section
variable {X : Cx} {a : Addr} {oe : Obj} {cls : Value} {d : Option Addr} {k j : Nat} {x : Str} {sp : Addr → Value → Option Addr → Sp} {p pos : Pos} {e : Expr} {es : List Expr} {t : TA}
end
section
variable {X : Cx} {body suite : List Stmt} {b₀ : Stmt} {pos pos' p1 p2 p3 tpos : Pos} {tb : WX → TS} {n x1 x2 x3 : Str} {i : Nat} {C1 C2 C3 : Addr} {ctx : Nat} {ts : Addr → Value → Option Addr → TS}
end
end BAH
end
section
set_option Elab.async false
set_option linter.all false
set_option maxRecDepth 100000
set_option maxHeartbeats 4000000
/-! BAI: l.count(x) for a list of data. -/
namespace BAI
open PySem PySem.Spec PyProof.Rows L2
section
variable {X : Cx}
end
end BAI
end
section
set_option Elab.async false
set_option linter.all false
set_option maxRecDepth 100000
set_option maxHeartbeats 4000000
/-! TZ: comprehensions of two clauses, dicts by comprehensions, told. -/
namespace TX
open PySem PySem.Spec PyProof.Rows L2 Evl
section
variable {K : PySem.W.Frag} {σ : L2.St} {H H' : Hp} {te tk tv : TE} {ds es : List PyData}
variable {J : It} {n : Nat} {G : Hp → Prop} {Y : Nat → Hp → V → Hp → Prop} {wi wi1 : TI} {g g1 : TG} {vs vs1 : List Nat} {J1 : Nat → It} {n1 : Nat → Nat} {G1 : Nat → Hp → Prop} {Y1 : Nat → Nat → Hp → V → Hp → Prop}
/-- how the two sources are walked: st, st1 the slots -/
structure Two (σ : L2.St) (H : Hp) (J : It) (n : Nat) (G : Hp → Prop) (Y : Nat → Hp → V → Hp → Prop) (wi wi1 : TI) (g g1 : TG) (vs vs1 : List Nat) (J1 : Nat → It) (n1 : Nat → Nat) (G1 : Nat → Hp → Prop) (Y1 : Nat → Nat → Hp → V → Hp → Prop) (st : Nat → L2.St) (st1 : Nat → Nat → L2.St) : Prop where
  W : Walk J n G Y
  W1 : ∀ i, i < n → Walk (J1 i) (n1 i) (G1 i) (Y1 i)
  lim : n ≤ 300 ∧ ∀ i, i < n → n1 i ≤ 300
  go : ∀ H1, Ex H H1 → ∀ R : It → Hp → Prop, (∀ H2, Ex H1 H2 → G H2 → R J H2) → wi σ H1 R
  keep : ∀ H1 H2, Ex H1 H2 → G H1 → G H2
  wp : ∀ i, i < n → wipe (st i) vs = wipe σ vs
  tg : ∀ i x H1 H2 (R : L2.St → Hp → Prop), i < n → Ex H H1 → G H1 → Y i H1 x H2 → (∀ H3, Ex H1 H3 → R (st i) H3) → g x (wipe σ vs) H2 R
  go1 : ∀ i H1, i < n → Ex H H1 → ∀ R : It → Hp → Prop, (∀ H2, Ex H1 H2 → R (J1 i) H2) → wi1 (st i) H1 R
  keep1 : ∀ i H1, i < n → Ex H H1 → G1 i H1
  wp1 : ∀ i j, i < n → j < n1 i → wipe (st1 i j) vs1 = wipe (st i) vs1
  tg1 : ∀ i j x H1 H2 (R : L2.St → Hp → Prop), i < n → j < n1 i → Ex H H1 → G1 i H1 → Y1 i j H1 x H2 → (∀ H3, Ex H1 H3 → R (st1 i j) H3) → g1 x (wipe (st i) vs1) H2 R
theorem es_lc2 {st : Nat → L2.St} {st1 : Nat → Nat → L2.St} (T : Two σ H J n G Y wi wi1 g g1 vs vs1 J1 n1 G1 Y1 st st1) (D : Nat → Nat → PyData) (he : ∀ i j H1, i < n → j < n1 i → Ex H H1 → EvR te (st1 i j) H1 (D i j)) :
    EvS (tLc2 wi g tYes wi1 g1 tYes te vs vs1) σ H ((List.range n).flatMap fun i => (List.range (n1 i)).map (D i)) := fun H0 e Q q => T.go H0 e _ fun H1 e1 gg Dl hD => by
  have all1 : ∀ i, ((List.range (i + 1)).flatMap fun k => (List.range (n1 k)).map (D k)) = ((List.range i).flatMap fun k => (List.range (n1 k)).map (D k)) ++ (List.range (n1 i)).map (D i) := fun i => by rw [List.range_succ, List.flatMap_append]; simp
  let Pv : Nat → Hp → Prop := fun i H' => Ex H1 H' ∧ ∃ acc, H' Dl = some (.lst acc) ∧ acc.length ≤ 300 * i ∧ Reps H' acc ((List.range i).flatMap fun k => (List.range (n1 k)).map (D k))
  refine ⟨fun i m H' => m = n - i ∧ i ≤ n ∧ Pv i H', ⟨n, by simp, Nat.zero_le _, Ex.new hD, [], upd_same, Nat.zero_le _, .nil⟩, ?_⟩
  rintro i m H2 ⟨rfl, hi, e2, acc, ha, hl, ra⟩
  have g2 := T.keep H1 H2 e2 gg
  by_cases lt : i < n
  · refine .inr ⟨T.W.goes i H2 lt g2, Pv (i + 1), fun H3 p => ⟨n - (i + 1), by omega, rfl, lt, p⟩, fun x H3 hy => T.tg i x H2 H3 _ lt ((e.trans e1).trans e2) g2 (T.W.yields i H2 x H3 lt g2 hy) fun H4 e4 => ⟨T.wp i lt, ?_⟩⟩
    refine T.go1 i H4 lt (((e.trans e1).trans e2).trans e4) _ fun H5 e5 => ?_
    have e15 := (e2.trans e4).trans e5
    have l300 := T.lim.2 i lt
    let P1 : Nat → Hp → Prop := fun j H' => Ex H1 H' ∧ ∃ acc, H' Dl = some (.lst acc) ∧ acc.length ≤ 300 * i + j ∧ Reps H' acc (((List.range i).flatMap fun k => (List.range (n1 k)).map (D k)) ++ (List.range j).map (D i))
    refine ⟨fun j k H' => k = n1 i - j ∧ j ≤ n1 i ∧ P1 j H', ⟨n1 i, by simp, Nat.zero_le _, e15, acc, (e4.trans e5) _ _ ha, hl, by rw [List.range_zero, List.map_nil, List.append_nil]; exact ra.ex (e4.trans e5)⟩, ?_⟩
    rintro j k H6 ⟨rfl, hj, e6, acc6, ha6, hl6, ra6⟩
    have g6 := T.keep1 i H6 lt ((e.trans e1).trans e6)
    by_cases lt1 : j < n1 i
    · refine .inr ⟨(T.W1 i lt).goes j H6 lt1 g6, P1 (j + 1), fun H7 p => ⟨n1 i - (j + 1), by omega, rfl, lt1, p⟩, fun x H7 hy => T.tg1 i j x H6 H7 _ lt lt1 ((e.trans e1).trans e6) g6 ((T.W1 i lt).yields j H6 x H7 lt1 g6 hy) fun H8 e8 => ⟨T.wp1 i j lt lt1, ?_⟩⟩
      show te (st1 i j) H8 fun y H9 => ∃ acc, H9 Dl = some (.lst acc) ∧ acc.length < sizeLine ∧ P1 (j + 1) (upd H9 Dl (.lst (acc ++ [y])))
      refine he i j H8 lt lt1 (((e.trans e1).trans e6).trans e8) H8 (Ex.refl H8) _ fun v H9 e9 rv => ?_
      have h9 := e9 _ _ (e8 _ _ ha6)
      have l1 := T.lim.1
      refine ⟨acc6, h9, sz_lt (by omega), Ex.mut ((e6.trans e8).trans e9) hD, _, upd_same, by rw [List.length_append, List.length_singleton]; omega, ?_⟩
      rw [List.range_succ, List.map_append, ← List.append_assoc]
      exact ((ra6.ex (e8.trans e9)).on (Tx.put h9)).app (.cons (rv.on (Tx.put h9)) .nil)
    · obtain rfl : j = n1 i := by omega
      refine .inl ⟨(T.W1 i lt).stops H6 g6, e6, acc6, ha6, by omega, ?_⟩
      rw [all1]
      exact ra6
  · obtain rfl : i = n := by omega
    refine .inl ⟨T.W.stops H2 g2, q Dl acc H2 ?_ (e1.trans e2) ha ra⟩
    cases h : H0 Dl with
    | none => rfl
    | some o => exact absurd (e1 _ _ h) (by rw [hD]; exact fun z => nomatch z)
end
end TX
end
section
set_option Elab.async false
set_option linter.all false
set_option maxRecDepth 100000
set_option maxHeartbeats 4000000
/-! TY: list.extend of a tuple; stores, unpackings, dicts told. -/
namespace TX
open PySem PySem.Spec PyProof.Rows L2 Evl
theorem extend_tup (l : Addr) (items : Array Value) (n : Nat) (b : Addr) (d : Option Addr) (sl : Array (Option Value)) (more : Array Value) (n2 : Nat) (h0 : ¬(!items.isEmpty && Builtin.List.listTooLong (items.size + more.size)) = true) (h1 : items.size ≤ sizeLine) (h2 : items.size + more.size ≤ sizeLine + 1) :
    Meets (Builtin.«list.extend» ⟨[.ref l, .ref b], []⟩) (fun _ R s => s.heap.get? l = some { cls := .type "list", dict := none, data := .seq items n, slots := #[] } ∧ s.heap.get? b = some { cls := .type "tuple", dict := d, data := .seq more n2, slots := sl } ∧
      R (.ok (.ret Value.none)) { s with heap := s.heap.update l (Obj.mapSeq fun x => x ++ more), toks := s.toks }) :=
  .of_wp fun P w A R s h => by
    obtain ⟨hp, g, dr, tk, os⟩ := s
    obtain ⟨hl, hb, k⟩ := h
    have f1 := AutoSeq1.idx_int
    have f2 := AutoSeq1.sub_tuple_tuple
    have f3 := AutoSeq1.sub_list_list
    have f4 := AutoSeq1.sub_tuple_list
    have f5 := AutoSeq1.sub_list_tuple
    have hz : (items ++ more).size ≤ sizeLine + 1 := by rw [Array.size_append]; exact h2
    wp_walk using (wpAny_updateSeq hl rfl (hz := h1) (_hz' := hz)), AutoSeq1.wpAny_loadPart' hl, AutoSeq1.wpAny_loadPart' hb
    exact ⟨_, rfl, k⟩
def rExtT (K : PySem.W.Frag) : V → List V → Hp → VK → Prop := fun x vs H Q => ∃ l b xs zs, x = .ref l ∧ vs = [.ref b] ∧ H l = some (.lst xs) ∧ SqT K H b zs ∧ xs.length + zs.length ≤ 100000 ∧ Q .non (upd H l (.lst (xs ++ zs)))
theorem mt_extendT {X : Cx} : MtR X "list.extend" (rExtT X.K) := by
  intro pins s σ H x vs v us Q I rx rv h
  obtain ⟨l, b, xs, zs, rfl, rfl, hH, hB, hz, q⟩ := h
  cases rx
  obtain ⟨u, rfl, ru⟩ := vals1 rv
  cases ru
  obtain ⟨_, its, n, r, hl, e⟩ := I.lstM hH
  obtain ⟨more, r2, ⟨⟨c2, d2, dt2, sl2⟩, e2, hc, n2, hd⟩, _⟩ := I.tuple hB
  dsimp only at hc hd
  subst hc hd
  have len2 := r2.length
  have z0 : its.toArray.size + more.toArray.size ≤ 100000 := by rw [List.size_toArray, List.size_toArray]; omega
  have z1 := sz_of z0
  refine call_meets PySem.F.slot_list_extend ⟨_, e, rfl⟩ PySem.F.entry_list_extend (PySem.F.args_list_extend_2 _ _)
    (extend_tup l its.toArray n b d2 sl2 more.toArray n2 (by rw [notLongL z1, Bool.and_false]; exact Bool.false_ne_true) (by omega) (by omega)) ⟨e, e2, ?_⟩
  exact ⟨.non, _, I.lset (its' := its ++ more) hH e (by simp) (r.append r2) (by rw [List.length_append]; exact sz_of hz), rfl, q⟩
section
variable {K : PySem.W.Frag} {σ : L2.St} {H H' : Hp} {ta tb te : TE} {t : TT} {x y z v : V} {d e : PyData} {ds es : List PyData} {D : Ends} {tu tz : TS}
/-- l.extend(a tuple) */ -/
theorem q_extT {l a : Addr} {xs ys : List V} (hl : H l = some (.lst xs)) (ha : Ev ta σ H (.ref l)) (h : Ev te σ H (.ref a)) (hy : SqT K H a ys) (hz : xs.length + ys.length ≤ 100000) (k : ∀ H1, Ex H H1 → tz D σ (upd H1 l (.lst (xs ++ ys)))) :
    tSeq (tDrop (tBM K "list" (rExtT K) ta (tCons te tNil))) tz D σ H := ha H (Ex.refl H) _ fun H1 e1 => ⟨Or.inl ⟨rfl, _, sq_of (e1 l _ hl)⟩, h H1 e1 _ fun H2 e2 => ⟨l, a, xs, ys, rfl, rfl, e2 _ _ (e1 _ _ hl), ex_t (e1.trans e2) hy, hz, k H2 (e1.trans e2)⟩⟩
/-- l.extend(a new list) -/
theorem q_extL {l : Addr} {xs ys : List V} (hl : H l = some (.lst xs)) (ha : Ev ta σ H (.ref l)) (h : EvL te σ H ys) (hz : xs.length + ys.length ≤ 100000) (k : ∀ H1, Ex H H1 → tz D σ (upd H1 l (.lst (xs ++ ys)))) :
    tSeq (tDrop (tBM K "list" rExtend ta (tCons te tNil))) tz D σ H := ha H (Ex.refl H) _ fun H1 e1 => ⟨Or.inl ⟨rfl, _, sq_of (e1 l _ hl)⟩, h H1 e1 _ fun p H2 _ e2 hp => ⟨l, p, xs, ys, rfl, rfl, e2 _ _ (e1 _ _ hl), hp, sz_of hz, k H2 (e1.trans e2)⟩⟩
theorem s_extL {l : Addr} {xs ys : List V} (hl : H l = some (.lst xs)) (ha : Ev ta σ H (.ref l)) (h : EvL te σ H ys) (hz : xs.length + ys.length ≤ 100000) (k : ∀ H1, Ex H H1 → D.nx σ (upd H1 l (.lst (xs ++ ys)))) :
    tDrop (tBM K "list" rExtend ta (tCons te tNil)) D σ H := ha H (Ex.refl H) _ fun H1 e1 => ⟨Or.inl ⟨rfl, _, sq_of (e1 l _ hl)⟩, h H1 e1 _ fun p H2 _ e2 hp => ⟨l, p, xs, ys, rfl, rfl, e2 _ _ (e1 _ _ hl), hp, sz_of hz, k H2 (e1.trans e2)⟩⟩
theorem el_es {zs : List Str} (h : EvS te σ H (zs.map PyData.str)) : EvL te σ H (zs.map V.str) := fun H1 a Q q => h H1 a Q fun p xs H2 hp b hx rs => q p H2 hp b (by rw [hx, rs.strs])
/-- x, y, z = e -/
theorem q_unp3 {i j k : Nat} {a : Addr} {x y z : V} (h : Ev te σ H (.ref a)) (ha : H a = some (.tup [x, y, z])) (q : ∀ H1, Ex H H1 → tz D (((σ.set i (some x)).set j (some y)).set k (some z)) H1) : tSeq (tAsg te (gTup K 3 (gCons (gName i) (gCons (gName j) (gCons (gName k) gNil))))) tz D σ H :=
  h H (Ex.refl H) _ fun H1 e => g_three (K := K) (e _ _ ha) (q H1 e)
theorem q_unp2 {i j : Nat} {a : Addr} {x y : V} (h : Ev te σ H (.ref a)) (ha : H a = some (.tup [x, y])) (q : ∀ H1, Ex H H1 → tz D ((σ.set i (some x)).set j (some y)) H1) : tSeq (tAsg te (gTup K 2 (gCons (gName i) (gCons (gName j) gNil)))) tz D σ H :=
  h H (Ex.refl H) _ fun H1 e => g_two (K := K) (e _ _ ha) (q H1 e)
/-- the truth of a tuple, a list -/
theorem et_tupT {xs : List V} {a : Addr} (h : Ev te σ H (.ref a)) (ha : H a = some (.tup xs)) : EvT (fun σ H Q => te σ H fun x H' => ∃ k, TruV K x H' k ∧ Q k H') σ H (!xs.isEmpty) := fun H1 e Q q => h H1 e _ fun H2 e2 => ⟨_, .inr (.inl ⟨xs, st_of (e2 _ _ (e _ _ ha)), rfl⟩), q H2 e2⟩
theorem et_lstT {xs : List V} {a : Addr} (h : Ev te σ H (.ref a)) (ha : H a = some (.lst xs)) : EvT (fun σ H Q => te σ H fun x H' => ∃ k, TruV K x H' k ∧ Q k H') σ H (!xs.isEmpty) := fun H1 e Q q => h H1 e _ fun H2 e2 => ⟨_, .inl ⟨xs, sq_of (e2 _ _ (e _ _ ha)), rfl⟩, q H2 e2⟩
theorem inV_str {w : Str} : ∀ {zs : List Str}, w ∈ zs → inV (.str w) (zs.map V.str) = true := fun {zs} h => by
  unfold inV
  rw [List.any_map]
  exact List.any_eq_true.mpr ⟨w, h, by simp [eqV]⟩
end
end TX
end
section
set_option Elab.async false
set_option linter.all false
set_option maxRecDepth 100000
set_option maxHeartbeats 4000000
/-! TW: lists joined, dicts stored and read, fields, f-strings, told. -/
namespace TX
open PySem PySem.Spec PyProof.Rows L2 Evl
section
variable {K : PySem.W.Frag} {σ : L2.St} {H H' : Hp} {ta tb te tk tv : TE} {ds es : List PyData} {d : PyData} {v : V} {D : Ends} {tu tz : TS} {x y : Str}
theorem es_cat (ha : EvS ta σ H ds) (hb : EvS tb σ H es) (hz : ds.length + es.length ≤ 10000) : EvS (tOp rCat ta tb) σ H (ds ++ es) := fun H1 a Q q =>
  ha H1 a _ fun p xs H2 _ b hp rs => hb H2 (a.trans b) _ fun r ys H3 _ c hr qs => ⟨p, r, xs, ys, rfl, rfl, c _ _ hp, hr, sz_of (by rw [rs.len, qs.len]; omega), fun l hl => q l _ _ (fresh_back (b.trans c) hl) ((b.trans c).trans (Ex.new hl)) upd_same (((rs.ex c).app qs).ex (Ex.new hl))⟩
theorem q_asgS {i : Nat} (h : EvS te σ H ds) (k : ∀ p xs H1, H p = none → Ex H H1 → H1 p = some (.lst xs) → Reps H1 xs ds → tz D (σ.set i (some (.ref p))) H1) : tSeq (tAsg te (gName i)) tz D σ H := h H (Ex.refl H) _ fun p xs H1 hp e hx r => k p xs H1 hp e hx r
theorem s_retR (h : EvR te σ H d) (k : ∀ v H1, Ex H H1 → Rep H1 v d → D.rt v H1) : tRet te D σ H := h H (Ex.refl H) _ fun v H1 e r => k v H1 e r
/-- d[a text] = data -/
theorem q_dputR {p : Addr} {kvs : List (Key × V)} {td ty : TE} {z : Str} (hv : EvR tv σ H d) (hd : Ev td σ H (.ref p)) (hy : Ev ty σ H (.str z)) (hp : H p = some (.dK kvs)) (hz : kvs.length < 1000) (k : ∀ v H1, Ex H H1 → Rep H1 v d → H1 p = some (.dK kvs) → tz D σ (upd H1 p (.dK (putK kvs (.inr z) v)))) :
    tSeq (sDPut td ty tv) tz D σ H := hv H (Ex.refl H) _ fun v H1 e r => hd H1 e _ fun H2 e2 => hy H2 (e.trans e2) _ fun H3 e3 => ⟨p, _, rfl, DPut.k (k := .inr z) (((e.trans e2).trans e3) _ _ hp) (sz_lt (by omega)), k v H3 ((e.trans e2).trans e3) (r.ex (e2.trans e3)) (((e.trans e2).trans e3) _ _ hp)⟩
theorem put_new {κ : Type} [DecidableEq κ] {kvs : List (κ × V)} {k : κ} {v : V} (h : ∀ p ∈ kvs, p.1 ≠ k) : putK kvs k v = kvs ++ [(k, v)] := by
  unfold putK
  rw [if_neg]
  intro z
  obtain ⟨p, hp, e⟩ := List.any_eq_true.mp z
  exact h p hp (of_decide_eq_true e)
theorem val_at {κ : Type} [DecidableEq κ] : ∀ {kvs : List (κ × V)} {i : Nat} {k : κ} {v : V}, (kvs.map (·.1)).Nodup → kvs[i]? = some (k, v) → valV kvs k = some v
  | [], _, _, _, _, h => by simp at h
  | (k', v') :: r, 0, k, v, _, h => by
    cases (Option.some.inj h)
    unfold valV
    simp
  | (k', v') :: r, i + 1, k, v, nd, h => by
    rw [List.map_cons, List.nodup_cons] at nd
    have hm : (k, v) ∈ r := List.mem_of_getElem? (i := i) h
    have ne : k' ≠ k := fun z => nd.1 (by rw [z]; exact List.mem_map.mpr ⟨_, hm, rfl⟩)
    have q := val_at nd.2 (i := i) h
    unfold valV at q ⊢
    rw [List.find?_cons, decide_eq_false ne]
    exact q
/-- d[a text] -/
theorem ev_dget {p : Addr} {kvs : List (Key × V)} {td ty : TE} {z : Str} (hd : Ev td σ H (.ref p)) (hy : Ev ty σ H (.str z)) (hp : H p = some (.dK kvs)) (hv : valV kvs (.inr z) = some v) : Ev (tDGet td ty) σ H v := fun H1 e Q q =>
  hd H1 e _ fun H2 e2 => hy H2 (e.trans e2) _ fun H3 e3 => ⟨p, v, rfl, by
    have g := DGet.k (k := .inr z) (((e.trans e2).trans e3) _ _ hp)
    rw [hv] at g
    exact g, q H3 (e2.trans e3)⟩
/-- e.f -/
theorem ev_fld {a C dx : Addr} {fs : List (Str × V)} {f : Str} (h : Ev te σ H (.ref a)) (ha : H a = some (.ins C dx fs)) (c : Cls K C) (n : NoAttr K C f) (l : fs.lookup f = some v) : Ev (tFld K te f) σ H v := fun H1 e Q q =>
  h H1 e _ fun H2 e2 => ⟨a, C, dx, fs, v, rfl, (e.trans e2) _ _ ha, c, n, l, q H2 e2⟩
/-- o.f = data: o was made here -/
theorem q_fldR {a C dx : Addr} {fs : List (Str × V)} {f : Str} {to : TE} (hv : EvR tv σ H d) (ho : Ev to σ H (.ref a)) (ha : H a = some (.ins C dx fs)) (c : Cls K C) (n : NoAttr K C f) (hz : fs.length < 1000) (k : ∀ v H1, Ex H H1 → Rep H1 v d → H1 a = some (.ins C dx fs) → tz D σ (upd H1 a (.ins C dx (putF f v fs)))) :
    tSeq (sFld K to tv f) tz D σ H := hv H (Ex.refl H) _ fun v H1 e r => ho H1 e _ fun H2 e2 => ⟨a, C, dx, fs, rfl, (e.trans e2) _ _ ha, c, n, hz, k v H2 (e.trans e2) (r.ex e2) ((e.trans e2) _ _ ha)⟩
theorem q_fld {a C dx : Addr} {fs : List (Str × V)} {f : Str} {to : TE} (hv : Ev tv σ H v) (ho : Ev to σ H (.ref a)) (ha : H a = some (.ins C dx fs)) (c : Cls K C) (n : NoAttr K C f) (hz : fs.length < 1000) (k : ∀ H1, Ex H H1 → tz D σ (upd H1 a (.ins C dx (putF f v fs)))) :
    tSeq (sFld K to tv f) tz D σ H := hv H (Ex.refl H) _ fun H1 e => ho H1 e _ fun H2 e2 => ⟨a, C, dx, fs, rfl, (e.trans e2) _ _ ha, c, n, hz, k H2 (e.trans e2)⟩
theorem fld_open {f : Str} {to : TE} (h : tv σ H fun y H1 => to σ H1 fun x H2 => ∃ a C dx fs, x = .ref a ∧ H2 a = some (.ins C dx fs) ∧ Cls K C ∧ NoAttr K C f ∧ fs.length < 1000 ∧ tz D σ (upd H2 a (.ins C dx (putF f y fs)))) : tSeq (sFld K to tv f) tz D σ H := h
theorem fld_open1 {f : Str} {to : TE} (h : tv σ H fun y H1 => to σ H1 fun x H2 => ∃ a C dx fs, x = .ref a ∧ H2 a = some (.ins C dx fs) ∧ Cls K C ∧ NoAttr K C f ∧ fs.length < 1000 ∧ D.nx σ (upd H2 a (.ins C dx (putF f y fs)))) : sFld K to tv f D σ H := h
theorem Tx.ins {H : Hp} {a C dx : Addr} {fs : List (Str × V)} {o : HO} (h : H a = some (.ins C dx fs)) : Tx H (upd H a o) := fun b ys e => by
  rw [upd_ne (fun z => by rw [z, h] at e; cases e)]
  exact e
theorem Tx.dK {H : Hp} {a : Addr} {kvs : List (Key × V)} {o : HO} (h : H a = some (.dK kvs)) : Tx H (upd H a o) := fun b ys e => by
  rw [upd_ne (fun z => by rw [z, h] at e; cases e)]
  exact e
/-! f-strings -/
theorem ev_fmtS (h : Ev te σ H (.str x)) (hz : x.length ≤ 1000) : Ev (tFmt te) σ H (.str x) := fun H1 e Q q => h H1 e _ fun H2 e2 => .inl ⟨x, rfl, sz_of (by omega), q H2 e2⟩
theorem ev_fmtI {i : Int} (h : Ev te σ H (.int i)) (hz : i.natAbs.log2 < 1920) : Ev (tFmt te) σ H (.str (toString i)) := fun H1 e Q q => h H1 e _ fun H2 e2 => .inr ⟨i, rfl, hz, q H2 e2⟩
theorem empty_app (x : Str) : Str.empty ++ x = x := by
  cases x with
  | mk c =>
    show Str.mk (#[] ++ c) = Str.mk c
    rw [Array.empty_append]
theorem app_len (x y : Str) : (x ++ y).length = x.length + y.length := by
  show (x.cps ++ y.cps).size = x.cps.size + y.cps.size
  rw [Array.size_append]
theorem ev_js2 (h1 : Ev ta σ H (.str x)) (h2 : Ev tb σ H (.str y)) (hz : x.length + y.length ≤ 10000) : Ev (fun σ H Q => tJs [ta, tb] Str.empty σ H fun out H1 => Q (.str out) H1) σ H (.str (x ++ y)) := fun H1 e Q q =>
  h1 H1 e _ fun H2 e2 => ⟨x, rfl, by rw [empty_app]; exact sz_of (by omega), h2 H2 (e.trans e2) _ fun H3 e3 => ⟨y, rfl, by rw [empty_app, app_len]; exact sz_of (by omega), by
    show Q (.str (Str.empty ++ x ++ y)) H3
    rw [empty_app]
    exact q H3 (e2.trans e3)⟩⟩
theorem ev_js4 {tc td : TE} {z w : Str} (h1 : Ev ta σ H (.str x)) (h2 : Ev tb σ H (.str y)) (h3 : Ev tc σ H (.str z)) (h4 : Ev td σ H (.str w)) (hz : x.length + y.length + z.length + w.length ≤ 10000) : Ev (fun σ H Q => tJs [ta, tb, tc, td] Str.empty σ H fun out H1 => Q (.str out) H1) σ H (.str (x ++ y ++ z ++ w)) := fun H1 e Q q =>
  h1 H1 e _ fun H2 e2 => ⟨x, rfl, by rw [empty_app]; exact sz_of (by omega), h2 H2 (e.trans e2) _ fun H3 e3 => ⟨y, rfl, by rw [empty_app, app_len]; exact sz_of (by omega), h3 H3 ((e.trans e2).trans e3) _ fun H4 e4 => ⟨z, rfl, by rw [empty_app, app_len, app_len]; exact sz_of (by omega),
    h4 H4 (((e.trans e2).trans e3).trans e4) _ fun H5 e5 => ⟨w, rfl, by rw [empty_app, app_len, app_len, app_len]; exact sz_of (by omega), by
      show Q (.str (Str.empty ++ x ++ y ++ z ++ w)) H5
      rw [empty_app]
      exact q H5 (((e2.trans e3).trans e4).trans e5)⟩⟩⟩⟩
end
end TX
end
section
set_option Elab.async false
set_option linter.all false
set_option maxRecDepth 100000
set_option maxHeartbeats 4000000
/-! TV: properties and methods of own classes, read; lists or tuples alike. -/
namespace TX
open PySem PySem.Spec PyProof.Rows L2 Evl
/-- a property of the class at C, read by this promise -/
structure Prp (P : Program) (w : World) (K : PySem.W.Frag) (mg : Str → Option Value) (base : Heap) (k : Nat) (C : Addr) (m : Str) (sp : Sp) : Prop where
  ex : ∃ (p g : Addr) (fd : FuncData) (ps : List Str), Cls K C ∧ PropOf K C m p g ∧ FnOk P w K mg base C8.CX0 k g fd ps sp ∧ Binds K fd ps []
theorem pe_prp {X : Cx} {k j : Nat} {C : Addr} {f : Str} {sp : Sp} {e : Expr} {pos : Pos} {ta : TE} (c : Prp X.prog X.w X.K X.mg X.base k C f sp) (hr : Room j X.A) (he : PE X e ta) (hk : k + 1 ≤ j := by decide)
    (hab : attributeBase e f X.env (eval e X.env) = eval e X.env := by rfl) : PE X (.Attribute e f pos) (tProp C sp [] C8.E0 ta) := by
  obtain ⟨p, g, fd, ps, hc, hp, F, b⟩ := c.ex
  exact pe_prop he hc hp F (hr.mono hk) b .nil C8.pass0 hab
/-- a list or a tuple -/
def SqA (K : PySem.W.Frag) (H : Hp) (p : Addr) (xs : List V) : Prop := H p = some (.lst xs) ∨ H p = some (.tup xs)
section
variable {K : PySem.W.Frag} {σ : L2.St} {H H' : Hp} {ta tb te tk tv : TE} {ds es : List PyData} {d : PyData} {v x y z : V} {D : Ends} {tu tz : TS}
theorem ev_prop {a C dx : Addr} {fs : List (Str × V)} {f : Str} {E : XK} (h : Ev te σ H (.ref a)) (ha : H a = some (.ins C dx fs)) (l : fs.lookup f = some v) : Ev (tProp C (getSp C f) [] E te) σ H v := fun H1 e Q q =>
  h H1 e _ fun H2 e2 => ⟨a, dx, fs, rfl, (e.trans e2) _ _ ha, a, dx, fs, v, rfl, (e.trans e2) _ _ ha, l, q H2 e2⟩
theorem SqA.ex {p : Addr} {xs : List V} (h : SqA K H p xs) (e : Ex H H') : SqA K H' p xs := h.elim (fun h => .inl (e _ _ h)) fun h => .inr (e _ _ h)
theorem rv_ixA {p : Addr} {xs : List V} {i : Int} (h : SqA K H p xs) (ha : atI xs i = some v) : RV (rIx K) (.ref p) (.int i) H v := fun H1 e _ q =>
  h.elim (fun h => .inl ⟨p, xs, i, v, rfl, rfl, ex_l e (sq_of h), ha, q H1 (Ex.refl H1)⟩) fun h => .inr (.inl ⟨p, xs, i, v, rfl, rfl, ex_t e (st_of h), ha, q H1 (Ex.refl H1)⟩)
end
end TX
end
section
set_option Elab.async false
set_option linter.all false
set_option maxRecDepth 100000
set_option maxHeartbeats 4000000
/-! TU: lists of data, old or new; pairs of stores; loops over new lists of data. -/
namespace TX
open PySem PySem.Spec PyProof.Rows L2 Evl
/-- a list of data, old or new -/
def EvQ (te : TE) (σ : L2.St) (H : Hp) (ds : List PyData) : Prop := ∀ H1, Ex H H1 → ∀ Q : VK, (∀ p xs H2, Ex H1 H2 → H2 p = some (.lst xs) → Reps H2 xs ds → Q (.ref p) H2) → te σ H1 Q
/-- a def that gives a new list of data, all that stood stays -/
def lSp (R : List V → Hp → List PyData → Prop) : Sp := fun vs H Q _ => ∃ ds, R vs H ds ∧ ∀ p xs H', H p = none → Ex H H' → H' p = some (.lst xs) → Reps H' xs ds → Q (.ref p) H'
section
variable {K : PySem.W.Frag} {σ : L2.St} {H H' : Hp} {ta tb te tk tv tl : TE} {ds es : List PyData} {d : PyData} {v x y z : V} {D : Ends} {tu tz : TS} {g : TG}
theorem EvS.q (h : EvS te σ H ds) : EvQ te σ H ds := fun H1 a Q q => h H1 a Q fun p xs H2 _ => q p xs H2
theorem eq_var {i : Nat} {p : Addr} {xs : List V} (h : σ[i]? = some (some (.ref p))) (hp : H p = some (.lst xs)) (rs : Reps H xs ds) : EvQ (tVar i) σ H ds := fun H1 a Q q => ⟨_, h, q p xs H1 (Ex.refl H1) (a _ _ hp) (rs.ex a)⟩
theorem es_catQ (ha : EvQ ta σ H ds) (hb : EvQ tb σ H es) (hz : ds.length + es.length ≤ 10000) : EvS (tOp rCat ta tb) σ H (ds ++ es) := fun H1 a Q q =>
  ha H1 a _ fun p xs H2 b hp rs => hb H2 (a.trans b) _ fun r ys H3 c hr qs => ⟨p, r, xs, ys, rfl, rfl, c _ _ hp, hr, sz_of (by rw [rs.len, qs.len]; omega), fun l hl => q l _ _ (fresh_back (b.trans c) hl) ((b.trans c).trans (Ex.new hl)) upd_same (((rs.ex c).app qs).ex (Ex.new hl))⟩
theorem es_pc {R : List V → Hp → List PyData → Prop} {E : XK} {ta : TA} {vs : List V} (h : EvA ta σ H vs) (hr : ∀ H1, Ex H H1 → R vs H1 ds) : EvS (tCall (lSp R) [] E ta) σ H ds := fun H1 e Q q =>
  h H1 e _ fun H2 e2 => ⟨ds, by rw [List.append_nil]; exact hr H2 (e.trans e2), fun p xs H3 hp e3 hx rs => q p xs H3 (fresh_back e2 hp) (e2.trans e3) hx rs⟩
theorem s_asgS {i : Nat} (h : EvS te σ H ds) (k : ∀ p xs H1, H p = none → Ex H H1 → H1 p = some (.lst xs) → Reps H1 xs ds → D.nx (σ.set i (some (.ref p))) H1) : tAsg te (gName i) D σ H := h H (Ex.refl H) _ fun p xs H1 hp e hx r => k p xs H1 hp e hx r
/-- .. over a list that stays -/
theorem es_lcL {g : TG} {t : TT} {vs : List Nat} {a : Addr} {xs : List V} (h : Ev tl σ H (.ref a)) (hx : H a = some (.lst xs)) (hn : xs.length ≤ 40000) (st : Nat → L2.St) (f : Nat → Bool) (D : Nat → PyData) (hw : ∀ i, i < xs.length → wipe (st i) vs = wipe σ vs)
    (hg : ∀ i x H1 (R : L2.St → Hp → Prop), xs[i]? = some x → Ex H H1 → R (st i) H1 → g x (wipe σ vs) H1 R)
    (ht : ∀ i x H1, xs[i]? = some x → Ex H H1 → EvT t (st i) H1 (f i)) (he : ∀ i x H1, xs[i]? = some x → Ex H H1 → f i = true → EvR te (st i) H1 (D i)) : EvS (tLc (iList K tl) g t te vs) σ H (((List.range xs.length).filter f).map D) :=
  es_lc (walk_list (K := K) (a := a) (xs := xs)) hn st f D (fun H1 e R k => h H1 e _ fun H2 e2 => have q := sq_of (K := K) ((e.trans e2) _ _ hx); ⟨a, rfl, ⟨xs, q⟩, k H2 e2 q⟩) (fun H1 H2 e q => ex_l e q) hw
    (fun i x H1 H2 R hi e _ hy k => by
      obtain ⟨rfl, hy⟩ := hy
      exact hg i x _ R hy e (k _ (Ex.refl _)))
    (fun i H1 hi e => ht i _ H1 (List.getElem?_eq_getElem hi) e) (fun i H1 hi e hf => he i _ H1 (List.getElem?_eq_getElem hi) e hf)
theorem es_lcL1 {g : TG} {vs : List Nat} {a : Addr} {xs : List V} (h : Ev tl σ H (.ref a)) (hx : H a = some (.lst xs)) (hn : xs.length ≤ 40000) (st : Nat → L2.St) (D : Nat → PyData) (hw : ∀ i, i < xs.length → wipe (st i) vs = wipe σ vs)
    (hg : ∀ i x H1 (R : L2.St → Hp → Prop), xs[i]? = some x → Ex H H1 → R (st i) H1 → g x (wipe σ vs) H1 R)
    (he : ∀ i x H1, xs[i]? = some x → Ex H H1 → EvR te (st i) H1 (D i)) : EvS (tLc (iList K tl) g tYes te vs) σ H ((List.range xs.length).map D) := by
  have q := es_lcL (K := K) (t := tYes) h hx hn st (fun _ => true) D hw hg (fun _ _ H1 _ _ H2 _ Q k => k H2 (Ex.refl H2)) (fun i x H1 hi e _ => he i x H1 hi e)
  rw [filter_all] at q
  exact q
theorem es_lcR1 {ta : TA} {g : TG} {vs : List Nat} {n : Int} (h : EvA ta σ H [.int n]) (hn : 0 ≤ n ∧ n ≤ 40000) (st : Nat → L2.St) (D : Nat → PyData) (hw : ∀ i : Nat, (i : Int) < n → wipe (st i) vs = wipe σ vs)
    (hg : ∀ (i : Nat) H1 (R : L2.St → Hp → Prop), (i : Int) < n → Ex H H1 → R (st i) H1 → g (.int (i : Int)) (wipe σ vs) H1 R)
    (he : ∀ (i : Nat) H1, (i : Int) < n → Ex H H1 → EvR te (st i) H1 (D i)) : EvS (tLc (iRng1 ta) g tYes te vs) σ H ((List.range n.toNat).map D) := by
  have q := es_lcR (t := tYes) h hn st (fun _ => true) D hw hg (fun _ H1 _ _ H2 _ Q k => k H2 (Ex.refl H2)) (fun i H1 hi e _ => he i H1 hi e)
  rw [filter_all] at q
  exact q
/-- terms opened, one step each -/
theorem ret_ (h : te σ H fun v H1 => D.rt v H1) : tRet te D σ H := h
theorem op_ {r : R2} {Q : VK} (h : ta σ H fun x H1 => tb σ H1 fun y H2 => r x y H2 Q) : tOp r ta tb σ H Q := h
theorem lst_ {t : TA} {Q : VK} (h : t σ H fun xs H1 => xs.length ≤ sizeLine ∧ ∀ p, H1 p = none → Q (.ref p) (upd H1 p (.lst xs))) : tLst t σ H Q := h
theorem cons_ {ts : TA} {Q : List V → Hp → Prop} (h : te σ H fun v H1 => ts σ H1 fun vs H2 => Q (v :: vs) H2) : tCons te ts σ H Q := h
theorem consC_ {ts : TA} {Q : List V → Hp → Prop} (h : ts σ H fun vs H2 => Q (v :: vs) H2) : tCons (tC v) ts σ H Q := h
theorem nil_ {Q : List V → Hp → Prop} (h : Q [] H) : tNil σ H Q := h
theorem var_ {i : Nat} {Q : VK} (hv : σ[i]? = some (some v)) (h : Q v H) : tVar i σ H Q := ⟨v, hv, h⟩
theorem ev_ {Q : VK} (h : Ev te σ H v) (k : ∀ H1, Ex H H1 → Q v H1) : te σ H Q := h H (Ex.refl H) Q k
/-- tuple(a list of data) -/
theorem er_tupleQ (h : EvQ te σ H ds) : EvR (tCB (rTupS K) (tCons te tNil)) σ H (.tuple ds) := fun H1 a Q q =>
  h H1 a _ fun p xs H2 b hp rs => ⟨p, xs, rfl, .inl ⟨sq_of hp, fun l hl => q _ _ (b.trans (Ex.new hl)) (.tup upd_same (rs.ex (Ex.new hl)))⟩⟩
/-- a, b, c = a list of three -/
theorem gl_three {i j k : Nat} {a : Addr} {x y z : V} {Q : L2.St → Hp → Prop} (h : H a = some (.lst [x, y, z])) (q : Q (((σ.set i (some x)).set j (some y)).set k (some z)) H) : gLst K 3 (gCons (gName i) (gCons (gName j) (gCons (gName k) gNil))) (.ref a) σ H Q :=
  ⟨a, _, rfl, sq_of h, rfl, x, _, rfl, y, _, rfl, z, _, rfl, rfl, q⟩
end
end TX
end
section
set_option Elab.async false
set_option linter.all false
set_option maxRecDepth 100000
set_option maxHeartbeats 4000000
/-! BI: comprehensions over lists and tuples of data, told element by element; terms opened; a def called by three names. Own work. -/
namespace TX
open PySem PySem.Spec PyProof.Rows L2 Evl
section
variable {K : PySem.W.Frag} {σ : L2.St} {H H' : Hp} {ta tb te tl : TE} {t : TT} {ds : List PyData} {d : PyData} {v x y z : V} {D : Ends} {tu tw tz : TS} {Q : VK}
end
end TX
end
section
set_option Elab.async false
set_option linter.all false
set_option maxRecDepth 100000
set_option maxHeartbeats 4000000
/-! BJ: lists made longer by lists of data, lists of a range, a list by a condition, lists compared; [x] * k. Own work. -/
namespace TX
open PySem PySem.Spec PyProof.Rows L2 Evl
section
variable {K : PySem.W.Frag} {σ : L2.St} {H H' : Hp} {ta tb te tl : TE} {t : TT} {ds es : List PyData} {d : PyData} {v x y z : V} {D : Ends} {tu tw tz : TS} {Q : VK}
end
end TX
end
section
set_option Elab.async false
set_option linter.all false
set_option maxRecDepth 100000
set_option maxHeartbeats 4000000
/-! BL: all tuples of so many of some things, by a def that calls itself; tuples with a star; slices from a place on. Own work. -/
namespace TX
open PySem PySem.Spec PyProof.Rows L2 Evl StX
theorem inV_noStr {w : Str} : ∀ {zs : List Str}, w ∉ zs → inV (.str w) (zs.map V.str) = false := fun {zs} h => by
  cases e : inV (.str w) (zs.map V.str) with
  | false => rfl
  | true =>
    refine absurd ?_ h
    unfold inV at e
    obtain ⟨x, hx, q⟩ := List.any_eq_true.mp e
    obtain ⟨z, hz, rfl⟩ := List.mem_map.mp hx
    simp [eqV] at q
    subst q
    exact hz
section
variable {σ : L2.St} {H : Hp} {D : Ends} {tz : TS}
end
def strOf : PyData → Str
  | .str s => s
  | _ => Str.empty
section
variable {K : PySem.W.Frag} {σ : L2.St} {H H' : Hp} {ta tb te tl tr tn : TE} {t : TT} {ds es : List PyData} {d : PyData} {v x y z : V} {D : Ends} {tu tw tz : TS} {Q : VK} {E : XK}
end
section
variable {K : PySem.W.Frag} {σ : L2.St} {H : Hp} {tl : TE} {g : TG} {tu : TS} {D : Ends} {ds : List PyData}
end
end TX
end
section
set_option Elab.async false
set_option linter.all false
set_option maxRecDepth 100000
set_option maxHeartbeats 4000000
/-! BM: list(reversed(a list)). Own work. -/
namespace BM
open PySem PySem.Spec PyProof.Rows L2 RT
section
variable {prog : Program} {w : World} {A : Around} {E : Value → Shared → Prop} {s : Shared}
end
section
variable {X : Cx}
end
end BM
end
section
set_option Elab.async false
set_option linter.all false
set_option maxRecDepth 100000
set_option maxHeartbeats 4000000
/-! BN: data the other way round; a def called by one name alone. Own work. -/
namespace TX
open PySem PySem.Spec PyProof.Rows L2 Evl
section
variable {K : PySem.W.Frag} {σ : L2.St} {H : Hp} {te : TE} {ds : List PyData}
end
section
variable {K : PySem.W.Frag} {σ : L2.St} {H : Hp} {te td ty tv tn : TE} {ds : List PyData} {d : PyData} {v : V} {D : Ends} {tz : TS}
theorem Tx.dT {H : Hp} {D : Addr} {kvs : List (List Key × V)} {o : HO} (h : H D = some (.dT kvs)) : Tx H (upd H D o) := fun a ys e => by
  rw [upd_ne (fun z => by rw [z, h] at e; exact nomatch e)]
  exact e
end
end TX
namespace TX
open PySem PySem.Spec PyProof.Rows L2 Evl
section
variable {K : PySem.W.Frag} {σ : L2.St} {H : Hp} {t : TT} {te td ty : TE}
end
end TX
end
section
set_option Elab.async false
set_option linter.all false
set_option maxRecDepth 100000
set_option maxHeartbeats 4000000
/-! BAJ: a dict by a comprehension of two clauses, told. -/
namespace TX
open PySem PySem.Spec PyProof.Rows L2 Evl
def pairs2 (n : Nat) (n1 : Nat → Nat) : List (Nat × Nat) := (List.range n).flatMap fun i => (List.range (n1 i)).map fun j => (i, j)
def fill2 (n : Nat) (n1 : Nat → Nat) (Ks : Nat → Nat → List Key) (Z : Nat → Nat → V) : List (List Key × V) := (pairs2 n n1).foldl (fun a z => putK a (Ks z.1 z.2) (Z z.1 z.2)) []
def fillR (j : Nat) (ks : Nat → List Key) (zs : Nat → V) (acc : List (List Key × V)) : List (List Key × V) := (List.range j).foldl (fun a m => putK a (ks m) (zs m)) acc
theorem fillR_succ {j : Nat} {ks : Nat → List Key} {zs : Nat → V} {acc : List (List Key × V)} : fillR (j + 1) ks zs acc = putK (fillR j ks zs acc) (ks j) (zs j) := by
  unfold fillR
  rw [List.range_succ, List.foldl_append]
  rfl
theorem fill2_succ {i : Nat} {n1 : Nat → Nat} {Ks : Nat → Nat → List Key} {Z : Nat → Nat → V} : fill2 (i + 1) n1 Ks Z = fillR (n1 i) (Ks i) (Z i) (fill2 i n1 Ks Z) := by
  unfold fill2 fillR pairs2
  rw [List.range_succ, List.flatMap_append, List.foldl_append, List.flatMap_cons, List.flatMap_nil, List.append_nil, List.foldl_map]
theorem fill2_congr {n : Nat} {n1 n1' : Nat → Nat} {Ks : Nat → Nat → List Key} {Z : Nat → Nat → V} (h : ∀ i, i < n → n1 i = n1' i) : fill2 n n1 Ks Z = fill2 n n1' Ks Z := by
  have e : pairs2 n n1 = pairs2 n n1' := by
    unfold pairs2
    rw [List.flatMap_def, List.flatMap_def, List.map_congr_left fun i hi => by rw [h i (List.mem_range.mp hi)]]
  unfold fill2
  rw [e]
section
variable {K : PySem.W.Frag} {σ : L2.St} {H H' : Hp} {te tk tv : TE} {ds es : List PyData}
variable {J : It} {n : Nat} {G : Hp → Prop} {Y : Nat → Hp → V → Hp → Prop} {wi wi1 : TI} {g g1 : TG} {vs vs1 : List Nat} {J1 : Nat → It} {n1 : Nat → Nat} {G1 : Nat → Hp → Prop} {Y1 : Nat → Nat → Hp → V → Hp → Prop}
theorem ed_dc2F {st : Nat → L2.St} {st1 : Nat → Nat → L2.St} (T : Two σ H J n G Y wi wi1 g g1 vs vs1 J1 n1 G1 Y1 st st1) {Ks : Nat → Nat → List Key} {Z : Nat → Nat → V}
    (hk : ∀ i j H1, i < n → j < n1 i → Ex H H1 → ∀ Q : VK, (∀ b H2, Ex H1 H2 → H2 b = some (.tup ((Ks i j).map kV)) → Q (.ref b) H2) → tk (st1 i j) H1 Q) (he : ∀ i j H1, i < n → j < n1 i → Ex H H1 → Ev tv (st1 i j) H1 (Z i j)) :
    ∀ H0, Ex H H0 → ∀ Q : VK, (∀ p H2, H0 p = none → Ex H0 H2 → H2 p = some (.dT (fill2 n n1 Ks Z)) → Q (.ref p) H2) → D2.tDc2 wi g wi1 g1 tk tv vs vs1 σ H0 Q := fun H0 e Q q => T.go H0 e _ fun H1 e1 gg Dl hD => by
  let Pv : Nat → Hp → Prop := fun i H' => Ex H1 H' ∧ H' Dl = some (.dT (fill2 i n1 Ks Z)) ∧ (fill2 i n1 Ks Z).length ≤ 300 * i
  refine ⟨fun i m H' => m = n - i ∧ i ≤ n ∧ Pv i H', ⟨n, by simp, Nat.zero_le _, Ex.new hD, upd_same, Nat.zero_le _⟩, ?_⟩
  rintro i m H2 ⟨rfl, hi, e2, ha, hl⟩
  have g2 := T.keep H1 H2 e2 gg
  by_cases lt : i < n
  · refine .inr ⟨T.W.goes i H2 lt g2, Pv (i + 1), fun H3 p => ⟨n - (i + 1), by omega, rfl, lt, p⟩, fun x H3 hy => T.tg i x H2 H3 _ lt ((e.trans e1).trans e2) g2 (T.W.yields i H2 x H3 lt g2 hy) fun H4 e4 => ⟨T.wp i lt, ?_⟩⟩
    refine T.go1 i H4 lt (((e.trans e1).trans e2).trans e4) _ fun H5 e5 => ?_
    have l300 := T.lim.2 i lt
    let P1 : Nat → Hp → Prop := fun j H' => Ex H1 H' ∧ H' Dl = some (.dT (fillR j (Ks i) (Z i) (fill2 i n1 Ks Z))) ∧ (fillR j (Ks i) (Z i) (fill2 i n1 Ks Z)).length ≤ 300 * i + j
    refine ⟨fun j k H' => k = n1 i - j ∧ j ≤ n1 i ∧ P1 j H', ⟨n1 i, by simp, Nat.zero_le _, (e2.trans e4).trans e5, (e4.trans e5) _ _ ha, hl⟩, ?_⟩
    rintro j k H6 ⟨rfl, hj, e6, ha6, hl6⟩
    have g6 := T.keep1 i H6 lt ((e.trans e1).trans e6)
    by_cases lt1 : j < n1 i
    · refine .inr ⟨(T.W1 i lt).goes j H6 lt1 g6, P1 (j + 1), fun H7 p => ⟨n1 i - (j + 1), by omega, rfl, lt1, p⟩, fun x H7 hy => T.tg1 i j x H6 H7 _ lt lt1 ((e.trans e1).trans e6) g6 ((T.W1 i lt).yields j H6 x H7 lt1 g6 hy) fun H8 e8 => ⟨T.wp1 i j lt lt1, ?_⟩⟩
      have x8 := ((e.trans e1).trans e6).trans e8
      refine hk i j H8 lt lt1 x8 _ fun b H9 e9 hb => he i j H9 lt lt1 (x8.trans e9) H9 (Ex.refl H9) _ fun H10 e10 => ?_
      have l1 := T.lim.1
      have ha10 := e10 _ _ (e9 _ _ (e8 _ _ ha6))
      have lp := length_putK (fillR j (Ks i) (Z i) (fill2 i n1 Ks Z)) (Ks i j) (Z i j)
      exact ⟨_, Ks i j, b, rfl, ha10, e10 _ _ hb, sz_lt (by omega), Ex.mut (((e6.trans e8).trans e9).trans e10) hD, by rw [fillR_succ]; exact upd_same, by rw [fillR_succ]; omega⟩
    · obtain rfl : j = n1 i := by omega
      exact .inl ⟨(T.W1 i lt).stops H6 g6, e6, by rw [fill2_succ]; exact ha6, by rw [fill2_succ]; omega⟩
  · obtain rfl : i = n := by omega
    refine .inl ⟨T.W.stops H2 g2, q Dl H2 ?_ (e1.trans e2) ha⟩
    cases h : H0 Dl with
    | none => rfl
    | some o => exact absurd (e1 _ _ h) (by rw [hD]; exact fun z => nomatch z)
end
end TX
end
section
set_option Elab.async false
set_option linter.all false
set_option maxRecDepth 100000
set_option maxHeartbeats 4000000
/-! BAK: tuple(d), d a dict whose keys are tuples: its keys. -/
namespace BAK
open PySem PySem.Spec PyProof.Rows L2 PySem.W
section
variable {prog : Program} {w : World} {A : Around} {E : Value → Shared → Prop} {s : Shared} {T : String} {r d : Addr} {n : Nat} {P : Nat → Value → Prop} {OK : Heap → Prop}
/-- what such a source is collected to -/
theorem collect_src {Q : List Value → Shared → Prop} (K : KdlSrc prog w T r d n P OK) (hh : A.handled = none) (hok : OK s.heap) (hn : n ≤ sizeLine)
    (hQ : ∀ h' tk acc, (∀ b o, s.heap.get? b = some o → h'.get? b = some o) → ItemsOf P acc n → Q acc.toList { s with heap := h', toks := tk }) : wpAny (model prog w) A (collect (.ref r)) Q E s := by
  unfold collect
  refine wpAny_bind (wpAny_runValue (codeAny_builtin F.entry_proto_collect ?_))
  rw [Around.under_plainId F.plain_proto_collect _]
  show wpAny _ A.in1 (newList [] >>= fun l => again (.builtin "list.__iadd__" ⟨[l, .ref r], []⟩)) _ _ s
  refine wpAny_bind (wpAny_newObj_type ?_)
  refine wpAny_pure ⟨plainId_quiet F.plain_list_iadd _, codeAny_builtin F.entry_list_iadd ?_⟩
  rw [Around.under_plainId F.plain_list_iadd _]
  show wpAny _ A.in1 (Builtin.List.listExtendWith (.ref s.heap.objs.size) (.ref r) (.ref s.heap.objs.size)) _ _ _
  have hlt := K.there _ hok
  have hS : (s.heap.push { cls := .type "list", data := .seq ([] : List Value).toArray }).get? s.heap.objs.size = some { cls := .type "list", data := .seq #[] 0 } := Heap.get?_push_size _ rfl
  have hok1 : OK (s.heap.push { cls := .type "list", data := .seq ([] : List Value).toArray }) := K.keep _ _ hok fun b _ o e => Heap.get?_push_of_some _ e
  refine wpAny_mono (kdl_extend (A := A) (s := { s with heap := s.heap.push { cls := .type "list", data := .seq ([] : List Value).toArray } }) (R := fun x s' => x = .ok (.ret (.ref s.heap.objs.size)) ∧ ∃ h' tk acc c, s' = { s with heap := h', toks := tk } ∧ (∀ b o, s.heap.get? b = some o → h'.get? b = some o) ∧
      h'.get? s.heap.objs.size = some { cls := .type "list", dict := none, data := .seq acc c, slots := #[] } ∧ ItemsOf P acc n) K hh hok1 s.heap.objs.size (Nat.ne_of_gt hlt.1) (Nat.ne_of_gt hlt.2) (.ref s.heap.objs.size) 0 hS (fun h' tk acc c hk hS' hacc => ⟨rfl, h', tk, acc, c, rfl, fun b o e => hk b o (Nat.ne_of_lt (Heap.lt_size e)) (Heap.get?_push_of_some _ e), hS', hacc⟩) hn) (fun fin s' h => ?_) (fun e s' h => ?_)
  · have go : ∀ {s' : Shared}, (∃ h' tk acc c, s' = { s with heap := h', toks := tk } ∧ (∀ b o, s.heap.get? b = some o → h'.get? b = some o) ∧ h'.get? s.heap.objs.size = some { cls := .type "list", dict := none, data := .seq acc c, slots := #[] } ∧ ItemsOf P acc n) →
        wpAny (model prog w) A (match Value.ref s.heap.objs.size with
        | Value.ref a => do
          match (← load a).data with
            | Data.seq xs _ => pure xs.toList
            | _ => unsupported "internal:collect"
        | _ => unsupported "internal:collect") Q E s' := fun {s'} ⟨h', tk, acc, c, es, hk, hS', hacc⟩ => by
      subst es
      show wpAny _ A (load s.heap.objs.size >>= _) _ _ _
      exact wpAny_bind (wpAny_load hS' (wpAny_pure (hQ h' tk acc hk hacc)))
    cases fin with
    | done f =>
      obtain ⟨e, h⟩ := h
      cases e
      exact go h
    | again c' => exact ⟨h.1, codeAny_mono h.2 fun x s'' hr => by obtain ⟨rfl, hr⟩ := hr; exact go hr⟩
  · exact absurd h.1 (by simp)
theorem tuple_src {Q : Value → Shared → Prop} (K : KdlSrc prog w "dict" r d n P OK) (hh : A.handled = none) (hok : OK s.heap) (hn : n ≤ sizeLine)
    (hQ : ∀ (h' : Heap) tk acc, (∀ b o, s.heap.get? b = some o → h'.get? b = some o) → ItemsOf P acc n → Q (.ref h'.objs.size) { s with heap := h'.push { cls := .type "tuple", data := .seq acc }, toks := tk }) :
    wpAny (model prog w) A (call (.type "tuple") [.ref r]) Q E s := by
  refine callType_codes (Q₁ := fun obj s₁ => s₁.TypeIs obj "tuple" ∧ Q obj s₁) F.called_tuple (F.typeCall_tuple_1 _) F.entry_object_init ?_ fun obj s₁ h₁ => ?_
  · refine codeAny_of_tree ?_
    show wpAny _ A.in1.in1 (do checkBuiltinCall "tuple.__new__" ⟨[.type "tuple", .ref r], []⟩; again (.builtin "tuple.__new__" ⟨[.type "tuple", .ref r], []⟩)) _ _ s
    refine wpAny_bind (wpAny_of_eq (F.newCall_tuple_1 _) (wpAny_pure ⟨plainId_quiet F.plain_tuple_new _, codeAny_builtin F.entry_tuple_new ?_⟩))
    rw [Around.under_plainId F.plain_tuple_new _]
    have hsub := sub_tuple_self
    have hinit := init_tuple_lookup
    have hmh := madeHere_tuple
    have hTI := K.type s hok
    wp_walk using wpAny_typeOf hTI, collect_src (A := A.in1.in1) K hh hok hn
    intro h' tk acc hk hacc
    show wpAny _ _ (Builtin.Tuple.tupleExact acc.toList.toArray >>= fun v => ret v) _ _ _
    unfold Builtin.Tuple.tupleExact
    refine wpAny_bind (wpAny_newObj_type ?_ (by show acc.toList.toArray.size ≤ sizeLine; simp only [Array.toArray_toList]; rw [hacc.1]; exact hn))
    refine wpAny_pure ?_
    have e : acc.toList.toArray = acc := by simp
    rw [e]
    exact ⟨⟨_, Heap.get?_push_size _ rfl, rfl⟩, hQ h' tk acc hk hacc⟩
  · exact ⟨h₁.1, F.args_object_init_2 obj _, object_init_meets F.called_tuple.init.lookup F.called_tuple.made (by decide) prog w A.in1 _ s₁ ⟨h₁.1, rfl, h₁.2⟩⟩
end
def rTupD (xs : List V) (H : Hp) (Q : VK) : Prop := ∃ (d : Addr) (kvs : List (List Key × V)), xs = [.ref d] ∧ Rd H d (.dT kvs) ∧ ∀ l ys, H l = none → ys.length = kvs.length → (∀ (i : Nat) k v, kvs[i]? = some (k, v) → ∃ q, ys[i]? = some (.ref q) ∧ H q = some (.tup (k.map kV))) → Q (.ref l) (upd H l (.tup ys))
theorem KT.at {H : Hp} {kvs : List (List Key × V)} {xs : List (List Key × Addr × Value)} (r : KT H kvs xs) : kvs.length = xs.length ∧ ∀ (i : Nat) k v, kvs[i]? = some (k, v) → ∃ b u, xs[i]? = some (k, b, u) ∧ H b = some (.tup (k.map kV)) := by
  induction r with
  | nil => exact ⟨rfl, fun i k v h => by simp at h⟩
  | @cons p q ps qs hq t ih =>
    refine ⟨by rw [List.length_cons, List.length_cons, ih.1], fun i k v h => ?_⟩
    cases i with
    | zero =>
      obtain ⟨qk, qb, qu⟩ := q
      have e : p = (k, v) := Option.some.inj h
      subst e
      obtain ⟨h1, h2, _⟩ := hq
      have h1 : k = qk := h1
      subst h1
      exact ⟨qb, qu, rfl, h2⟩
    | succ i => exact ih.2 i k v h
section
variable {X : Cx}
theorem call_tupleD (hc : X.calm = true) : CallR X (.type "tuple") rTupD := by
  intro pins s σ H xs us Q I r h
  obtain ⟨d, kvs, rfl, hd, q⟩ := h
  obtain ⟨u, rfl, rx⟩ := vals1 r
  cases rx
  obtain ⟨hz, hs, ws, kt, o, es, ep, hgd, hx, hdt, hes, _, _⟩ := dt_rd I.hok hd
  obtain ⟨hl, at_⟩ := KT.at kt
  have hsz : es.size = kvs.length := by rw [← Array.length_toList, hes, List.length_map, hl]
  refine tuple_src (kdl_raw hs hx hdt) (I.ok.hd hc) hgd (by omega) fun h' tk acc kp it => ?_
  have I1 : Inv X pins σ H { s with heap := h', toks := tk } := I.kept (t' := tk) kp
  have hit : ∀ (i : Nat) k v, kvs[i]? = some (k, v) → ∃ b, acc[i]? = some (.ref b) ∧ H b = some (.tup (k.map kV)) := fun i k v hk => by
    obtain ⟨b, u, hb, hH⟩ := at_ i k v hk
    have hi : i < acc.size := by
      have := (List.getElem?_eq_some_iff.mp hk).1
      rw [it.1]
      omega
    obtain ⟨en, hen, ev⟩ := it.2 i acc[i] (Array.getElem?_eq_getElem hi)
    have e2 : es[i]? = some (entryOfKey (tupleKind (mixKind X.prog X.w)) (k, b, u)) := by rw [← Array.getElem?_toList, hes, List.getElem?_map, hb]; rfl
    rw [e2] at hen
    have hen := Option.some.inj hen
    refine ⟨b, ?_, hH⟩
    rw [Array.getElem?_eq_getElem hi, ev, ← hen]
    rfl
  obtain ⟨ys, hys⟩ : ∃ ys : List V, ys = acc.toList.map fun u => match u with | .ref b => V.ref b | _ => V.non := ⟨_, rfl⟩
  have lys : ys.length = kvs.length := by rw [hys, List.length_map, Array.length_toList, it.1, hsz]
  have yat : ∀ (i : Nat) k v, kvs[i]? = some (k, v) → ∃ q, ys[i]? = some (.ref q) ∧ H q = some (.tup (k.map kV)) := fun i k v hk => by
    obtain ⟨b, h1, h2⟩ := hit i k v hk
    refine ⟨b, ?_, h2⟩
    rw [hys, List.getElem?_map, Array.getElem?_toList, h1]
    rfl
  have lac : acc.toList.length = kvs.length := by rw [Array.length_toList]; exact it.1.trans hsz
  have rv : Vals ys acc.toList := BAC.vals_at (lys.trans lac.symm) fun i u hu => by
    have hi : i < kvs.length := by
      have := (List.getElem?_eq_some_iff.mp hu).1
      rw [Array.length_toList, it.1] at this
      omega
    obtain ⟨b, h1, h2⟩ := hit i kvs[i].1 kvs[i].2 (List.getElem?_eq_getElem hi)
    obtain ⟨b', h3, _⟩ := yat i kvs[i].1 kvs[i].2 (List.getElem?_eq_getElem hi)
    rw [Array.getElem?_toList, h1] at hu
    obtain rfl := Option.some.inj hu
    refine ⟨.ref b, ?_, rfl⟩
    rw [hys, List.getElem?_map, Array.getElem?_toList, h1]
    rfl
  refine ⟨.ref h'.objs.size, _, I1.laid (t' := tk) (fun b o e => Heap.get?_push_of_some _ e) (Nat.le_refl _) (o := .tup ys) (show ObjOk X.prog X.w _ _ _ (.tup ys) from ⟨by rw [lys]; exact hz, acc.toList, rv, by rw [Array.toArray_toList]; exact IsTup.new _ _⟩), rfl, q _ ys (I1.hok.fresh (Nat.le_refl _)) lys yat⟩
end
end BAK
end
section
set_option Elab.async false
set_option linter.all false
set_option maxRecDepth 100000
set_option maxHeartbeats 4000000
/-! BB: a text turned round, the first place of data in a tuple, sorted of a tuple of ints. -/
namespace BB
open PySem PySem.Spec PyProof.Rows L2
/-! ### sorted(a tuple of ints) -/
section
variable {prog : Program} {w : World} {A : Around} {E : Value → Shared → Prop} {s : Shared}
end
/-! ### tuples whose object is known: they have no dict, so their methods can be called -/
def rTupF (K : PySem.W.Frag) : List V → Hp → VK → Prop := fun xs H Q => ∃ p ys, xs = [.ref p] ∧ SqL K H p ys ∧ ∀ l ob, H l = none → ob.cls = .type "tuple" → ob.dict = none → Q (.ref l) (upd H l (.frz ob (.tup ys)))
theorem call_tupleF {X : Cx} : CallR X (.type "tuple") (rTupF X.K) := by
  intro pins s σ H xs us Q I r h
  obtain ⟨p, ys, rfl, hq, q⟩ := h
  obtain ⟨u, rfl, rx⟩ := vals1 r
  cases rx
  obtain ⟨its, r', pl, hz⟩ := I.list hq
  have hlen := r'.length
  refine call_tuple_list pl.isList (fun h' kp => ?_) (by simp only [List.size_toArray] <;> omega)
  have I1 : Inv X pins σ H { s with heap := h' } := I.kept (t' := s.toks) kp
  have I2 : Inv X pins σ (upd H h'.objs.size (.frz { cls := .type "tuple", data := .seq its.toArray } (.tup ys))) { s with heap := h'.push { cls := .type "tuple", data := .seq its.toArray } } :=
    I1.laid (t' := s.toks) (fun b o e => Heap.get?_push_of_some _ e) (Nat.le_refl _) (show ObjOk X.prog X.w _ _ _ (.frz _ (.tup ys)) from ⟨Heap.get?_push_size _ rfl, hz, its, r', IsTup.new _ _⟩)
  exact ⟨.ref h'.objs.size, _, I2, rfl, q _ _ (I1.hok.fresh (Nat.le_refl _)) rfl rfl⟩
end BB
end
section
set_option Elab.async false
set_option linter.all false
set_option maxRecDepth 100000
set_option maxHeartbeats 4000000
/-! BC: zip of three tuples of one length; the items of a new dict. Own work. -/
namespace BC
open PySem PySem.Spec PyProof.Rows L2
end BC
end
section
set_option Elab.async false
set_option linter.all false
set_option maxRecDepth 100000
set_option maxHeartbeats 4000000
/-! BE: {t: v for a in xs}, the keys tuples of texts and ints. Own work. -/
namespace BE
open PySem PySem.Spec PyProof.Rows L2
section
variable {X : Cx}
end
end BE
end
section
set_option Elab.async false
set_option linter.all false
set_option maxRecDepth 100000
set_option maxHeartbeats 4000000
/-! BF: name = {..} on one line. Was BE: {t: v for a in xs}, the keys tuples of texts and ints. Own work. -/
namespace BF
open PySem PySem.Spec PyProof.Rows L2
open BE
section
variable {X : Cx}
end
end BF
end
section
set_option Elab.async false
set_option linter.all false
set_option maxRecDepth 100000
set_option maxHeartbeats 4000000
/-! BG: x in a tuple of data of any depth. Own work. -/
namespace BG
open PySem PySem.Spec PyProof.Rows L2 Evl TX
section
variable {X : Cx}
end
section
variable {K : PySem.W.Frag} {σ : L2.St} {H : Hp} {ta tb : TE} {d : PyData} {ds : List PyData}
end
end BG
end
section
set_option Elab.async false
set_option linter.all false
set_option maxRecDepth 100000
set_option maxHeartbeats 4000000
/-! BK: a tuple, the other way round. Own work. -/
namespace HT
open PySem PySem.Spec PyProof.Rows L2
section
variable {prog : Program} {w : World} {A : Around} {s : Shared} {E : Value → Shared → Prop}
end
end HT
namespace TX
open PySem PySem.Spec PyProof.Rows L2 Evl
end TX
end
section
set_option Elab.async false
set_option linter.all false
set_option maxRecDepth 100000
set_option maxHeartbeats 4000000
/-! BO: sorted(set(texts)): a set of texts whose table rises. Own work. -/
namespace BO
open PySem PySem.Spec PyProof.Rows L2
def kyS (e : Int × Value) : Str := PyProof.Rows.strOf e.2
/-- a member as the table keeps it -/
def TxtE (w : World) (e : Int × Value) : Prop := ∃ k tk, e.2 = Value.str k tk ∧ e.1 = hashStr w k
/-- the set of texts at a: its members in some order, each once; its table rises and can be walked -/
def SetTx (w : World) (h : Heap) (a : Addr) (ks : List Str) : Prop :=
  ∃ o es ep t, h.get? a = some o ∧ o.ExactSet ∧ o.data = .set es ep t ∧ (∀ e ∈ es.toList, TxtE w e) ∧ (es.toList.map kyS).Perm ks ∧ ks.Nodup ∧
    es.size < scanBound ∧ t.fits es.size = true ∧ Ris t.place.toList ∧ (w.params.followText "set-order" = true ∨ t.led = true)
section
variable {P : Program} {w : World}
end
section
variable {P : Program} {w : World} {A : Around} {E : Value → Shared → Prop} {s : Shared} {a : Addr} {ks : List Str}
theorem SetTx.at {h h' : Heap} (R : SetTx w h a ks) (k : ∀ o, h.get? a = some o → h'.get? a = some o) : SetTx w h' a ks := by
  obtain ⟨o, es, ep, t, ho, r⟩ := R
  exact ⟨o, es, ep, t, k o ho, r⟩
/-- what is put into a set -/
def ins (ks : List Str) (k : Str) : List Str := if k ∈ ks then ks else k :: ks
end
section
variable {P : Program} {w : World} {A : Around} {R : Result → Shared → Prop} {it S : Addr} {fp wr : List Addr} {G : Array GenState → Array GenState → Prop} {n : Nat} {Pv : Nat → Value → Prop} {St : Nat → Shared → Prop} {xs : List Str}
end
section
variable {P : Program} {w : World} {A : Around} {E : Value → Shared → Prop} {s : Shared}
end
end BO
end
section
set_option Elab.async false
set_option linter.all false
set_option maxRecDepth 100000
set_option maxHeartbeats 4000000
/-! BP: xs[::s] of a list, s = 1 or -1 worked out. Own work. -/
namespace BP
open PySem PySem.Spec PyProof.Rows L2
end BP
end
section
set_option Elab.async false
set_option linter.all false
set_option maxRecDepth 100000
set_option maxHeartbeats 4000000
/-! BS: dict(xs), xs a list of pairs whose first thing is a tuple of texts and ints. Own work. -/
namespace BS
open PySem PySem.Spec PyProof.Rows L2
section
variable {prog : Program} {w : World} {A : Around} {E : Value → Shared → Prop}
abbrev TK := List Key × Addr × Value
theorem is_keep {h h' : Heap} {ks : List Key} {a : Addr} (x : (tupleKind (mixKind prog w)).is h ks a) (k : ∀ o, h.get? a = some o → h'.get? a = some o) : (tupleKind (mixKind prog w)).is h' ks a := by
  obtain ⟨o, its, n, ho, r⟩ := x
  exact ⟨o, its, n, k _ ho, r⟩
theorem dict_keep {h h' : Heap} {d : Addr} {xs : List TK} (x : h.DictOfH (tupleKind (mixKind prog w)) d xs) (kd : ∀ o, h.get? d = some o → h'.get? d = some o) (k : ∀ y ∈ xs, ∀ o, h.get? y.2.1 = some o → h'.get? y.2.1 = some o) : h'.DictOfH (tupleKind (mixKind prog w)) d xs := by
  obtain ⟨o, es, ep, ho, h1, h2, h3, h4, h5⟩ := x
  exact ⟨o, es, ep, kd _ ho, h1, h2, h3, fun y hy => is_keep (h4 y hy) (k y hy), h5⟩
/-- the pair at b -/
def PairAt (prog : Program) (w : World) (h : Heap) (S I b : Addr) (q : TK) : Prop := b ≠ S ∧ b ≠ I ∧ IsTup h b #[.ref q.2.1, q.2.2] ∧ q.2.1 ≠ S ∧ q.2.1 ≠ I ∧ (tupleKind (mixKind prog w)).is h q.1 q.2.1
theorem PairAt.keep {h h' : Heap} {S I b : Addr} {q : TK} (x : PairAt prog w h S I b q) (k : ∀ c o, (c = b ∨ c = q.2.1) → h.get? c = some o → h'.get? c = some o) : PairAt prog w h' S I b q := by
  obtain ⟨h1, h2, ⟨o, ho, hr⟩, h4, h5, h6⟩ := x
  exact ⟨h1, h2, ⟨o, k _ _ (.inl rfl) ho, hr⟩, h4, h5, is_keep h6 fun o ho => k _ _ (.inr rfl) ho⟩
theorem walk {R : Result → Shared → Prop} {S I l : Addr} {items : Array Value} {res : Value} (hh : A.handled = none) (hu : A.units + 1 < cLine) (hlI : l ≠ I) (hSI : S ≠ I) (hSl : S ≠ l) :
    ∀ (rest : List TK) (i : Nat) (acc : List TK) (ix : Int) (t : Tok) (s : Shared), items.size = i + rest.length → acc.length + rest.length ≤ sizeLine → ((acc ++ rest).map (·.1)).Nodup → (∀ q ∈ acc, q.2.1 ≠ S ∧ q.2.1 ≠ I) →
      (∀ (j : Nat) (q : TK), rest[j]? = some q → ∃ b, items[i + j]? = some (.ref b) ∧ PairAt prog w s.heap S I b q) →
      s.heap.IsListIter I l i → s.heap.IsList l items → s.heap.DictOfH (tupleKind (mixKind prog w)) S acc →
      (∀ h' tk, h'.DictOfH (tupleKind (mixKind prog w)) S (acc ++ rest) → (∀ b o, b ≠ S → b ≠ I → s.heap.get? b = some o → h'.get? b = some o) → R (.ok (.ret res)) { s with heap := h', toks := tk }) →
      codeAny (model prog w) A (.builtin "dict.update.loop" ⟨[.ref S, .ref I, .int ix t, res], []⟩) R s
  | [], i, acc, ix, t, s, hsz, hln, nd, hacc, ht, hit, hl, hm, hR => by
    refine codeAny_builtin ud_entry ?_
    rw [Around.under_plainId ud_plain _]
    show wpAny _ A.in1 (pyNext (.ref I) >>= _) _ _ s
    refine wpAny_bind (wpAny_pyNext_list_end (A := A.in1) hh hit hl (Array.getElem?_eq_none (Nat.le_of_eq hsz)) fun h' he => ?_)
    show wpAny _ A.in1 (Builtin.Dict.addKeywords S [] >>= _) _ _ _
    refine wpAny_bind (wpAny_pure (wpAny_pure ?_))
    refine hR h' s.toks ?_ fun b o _ hb e => he b o hb e
    rw [List.append_nil]
    exact dict_keep hm (fun o e => he S o hSI e) fun y hy o e => he _ o (hacc y hy).2 e
  | q :: rest, i, acc, ix, t, s, hsz, hln, nd, hacc, ht, hit, hl, hm, hR => by
    obtain ⟨b, hb, pa⟩ := ht 0 q rfl
    rw [List.length_cons] at hsz hln
    refine codeAny_builtin ud_entry ?_
    rw [Around.under_plainId ud_plain _]
    show wpAny _ A.in1 (pyNext (.ref I) >>= _) _ _ s
    refine wpAny_bind (wpAny_pyNext_list_item (x := .ref b) hit hl (by simpa using hb) fun h1 hit1 hs1 => ?_)
    have k1 : ∀ c o, c ≠ I → s.heap.get? c = some o → h1.get? c = some o := fun c o hc e => hs1.extBut c o hc e
    have pa1 : PairAt prog w h1 S I b q := pa.keep fun c o hc e => k1 c o (by rcases hc with rfl | rfl; exact pa.2.1; exact pa.2.2.2.2.1) e
    have hl1 : h1.IsList l items := hl.extBut hs1.extBut hlI
    have hm1 : h1.DictOfH (tupleKind (mixKind prog w)) S acc := dict_keep hm (fun o e => k1 S o hSI e) fun y hy o e => k1 _ o (hacc y hy).2 e
    obtain ⟨bS, bI, htup, qS, qI, hk⟩ := pa1
    obtain ⟨o, ho, hc, n, hd⟩ := id htup
    show wpAny _ A.in1 (holding [Value.ref b] _ >>= _) _ _ _
    refine wpAny_bind (wpAny_holding ?_)
    refine wpAny_bind (wpAny_tryCatch ?_)
    unfold Builtin.Dict.pairItems
    refine wpAny_bind (wpAny_typeOf (T := "tuple") ⟨o, ho, hc⟩ ?_)
    rw [if_pos (by first | decide | rfl | simp)]
    refine wpAny_bind (wpAny_seqItems ho hd (wpAny_pure ?_))
    show wpAny _ A.in1 (holding [.ref q.2.1, q.2.2] (dictSet S (.ref q.2.1) q.2.2)) _ _ _
    have nq : atKey acc q.1 = none := by
      unfold atKey
      rw [Option.map_eq_none_iff, List.find?_eq_none]
      intro x hx e
      have e2 : x.1 = q.1 := of_decide_eq_true e
      rw [List.map_append, List.nodup_append] at nd
      exact nd.2.2 x.1 (List.mem_map.mpr ⟨x, hx, rfl⟩) q.1 (List.mem_map.mpr ⟨q, List.mem_cons_self, rfl⟩) e2
    have ld : acc.length ≤ sizeLine := by omega
    refine wpAny_holding (wpAny_dictSet_heap (hsz := ld) (knd := tupleKind (mixKind prog w)) (k := q.1) (tupleKind_room_in1 hu) hk hm1 (fun h2 hm2 hs2 => ?_))
    rw [storedH_new nq] at hm2
    have k2 : ∀ c o, c ≠ S → h1.get? c = some o → h2.get? c = some o := fun c o hc e => hs2.extBut c o hc e
    refine wpAny_pure ⟨plainId_quiet ud_plain _, walk (items := items) hh hu hlI hSI hSl rest (i + 1) (acc ++ [(q.1, q.2.1, q.2.2)]) (ix + 1) 0 _ (show items.size = i + 1 + rest.length by omega) ?_ ?_ (fun y hy => ?_) (fun j q' e => ?_) ?_ ?_ hm2 fun h' tk hd' k => ?_⟩
    · rw [List.length_append, List.length_singleton]
      omega
    · rw [List.append_assoc]
      exact nd
    · rcases List.mem_append.mp hy with h | h
      · exact hacc y h
      · rw [List.mem_singleton.mp h]
        exact ⟨qS, qI⟩
    · obtain ⟨b', hb', pa'⟩ := ht (j + 1) q' (by simpa using e)
      refine ⟨b', ?_, pa'.keep fun c o hc e => ?_⟩
      · rw [show i + 1 + j = i + (j + 1) by omega]
        exact hb'
      · have n1 : c ≠ S ∧ c ≠ I := by
          rcases hc with rfl | rfl
          · exact ⟨pa'.1, pa'.2.1⟩
          · exact ⟨pa'.2.2.2.1, pa'.2.2.2.2.1⟩
        exact k2 c o n1.1 (k1 c o n1.2 e)
    · exact hit1.at fun o' e => k2 I o' (Ne.symm hSI) e
    · exact hl1.extBut hs2.extBut (Ne.symm hSl)
    · refine hR h' tk ?_ fun c oc h3 h4 e => k c oc h3 h4 (k2 c oc h3 (k1 c oc h4 e))
      rw [List.append_assoc] at hd'
      exact hd'
end
section
variable {X : Cx}
end
end BS
end
section
set_option Elab.async false
set_option linter.all false
set_option maxRecDepth 100000
set_option maxHeartbeats 4000000
/-! BT: sets of tuples of texts and ints, fewer than 64 of them: the search in the table, len(set(xs)). Own work. -/
namespace BT
open PySem PySem.Spec PyProof.Rows L2
abbrev hK (P : Program) (w : World) (k : List Key) : Int := tupleKeyHash (mixKind P w) k
abbrev Tp (P : Program) (w : World) (h : Heap) (b : Addr) (k : List Key) : Prop := IsTupleKey (mixKind P w) h k b
/-- an int or a text -/
def Flat1 (v : Value) : Prop := (∃ i t, v = Value.int i t) ∨ ∃ z t, v = Value.str z t
theorem items_flat {P : Program} {w : World} {k : List Key} {vs : List Value} (h : ItemsAre (mixKind P w) k vs) : ∀ v ∈ vs, Flat1 v := by
  induction h with
  | nil => exact fun _ z => nomatch z
  | cons h1 _ ih =>
    intro v hv
    rcases List.mem_cons.mp hv with rfl | hv
    · rcases keyIs_shape h1 with ⟨i, t, _, e⟩ | ⟨z, t, _, e⟩
      · exact .inl ⟨i, t, e⟩
      · exact .inr ⟨z, t, e⟩
    · exact ih v hv
theorem flat_cls {n : Nat} {v : Value} (h : Flat1 v) : ofAClassStatement n v = pure false := by
  rcases h with ⟨i, t, rfl⟩ | ⟨z, t, rfl⟩ <;> cases n <;> rfl
theorem flat_by {n : Nat} {v : Value} (h : Flat1 v) : ∃ c : Bool, hashByValue n v = pure c := by
  rcases h with ⟨i, t, rfl⟩ | ⟨z, t, rfl⟩
  · exact ⟨true, by cases n <;> rfl⟩
  · exact ⟨false, by cases n <;> rfl⟩
section
variable {P : Program} {w : World} {A : Around} {E : Value → Shared → Prop} {s : Shared}
theorem Tp.cls {k : List Key} {b : Addr} {Q : Bool → Shared → Prop} (x : Tp P w s.heap b k) (q : Q false s) : wpAny (model P w) A (ofAClassStatement 8 (.ref b)) Q E s := by
  have ty := x.typeIs
  obtain ⟨ob, its, n, e1, _, e2, e3⟩ := x
  have fl := items_flat e3
  have yes : (("tuple" : String) == "tuple") = true := by decide
  unfold ofAClassStatement
  refine wpAny_bind (wpAny_typeOf ty ?_)
  dsimp only
  simp only [yes, if_true, Bool.not_true, Bool.false_eq_true, if_false]
  try refine wpAny_bind (wpAny_pure ?_)
  try simp only [Bool.not_true, Bool.false_eq_true, if_false]
  show wpAny _ _ (seqItems? (Value.ref b) >>= _) _ _ _
  refine wpAny_bind (wpAny_seqItems e1 e2 ?_)
  dsimp only
  refine wpAny_bind ?_
  rw [← Array.forIn_toList]
  refine wpAny_forIn_list _ (fun more r z => r.1 = none ∧ z = s ∧ ∀ v ∈ more, Flat1 v) _ ?_ ?_ _ _ ⟨rfl, rfl, fl⟩
  · rintro v more r z ⟨_, rfl, hm⟩
    rw [flat_cls (hm v List.mem_cons_self)]
    refine wpAny_bind (wpAny_pure ?_)
    simp only [Bool.false_eq_true, if_false]
    exact wpAny_pure ⟨rfl, rfl, fun u hu => hm u (List.mem_cons_of_mem _ hu)⟩
  · rintro ⟨r1, r2⟩ z ⟨e, rfl, _⟩
    simp only at e
    subst e
    exact wpAny_pure q
theorem Tp.by_ {k : List Key} {b : Addr} {Q : Bool → Shared → Prop} (x : Tp P w s.heap b k) (q : ∀ c, Q c s) : wpAny (model P w) A (hashByValue 8 (.ref b)) Q E s := by
  have ty := x.typeIs
  obtain ⟨ob, its, n, e1, _, e2, e3⟩ := x
  have fl := items_flat e3
  unfold hashByValue
  refine wpAny_bind (wpAny_specialOf ty F.slot_tuple_hash.lookup ?_)
  show wpAny _ _ (seqItems? (Value.ref b) >>= _) _ _ _
  refine wpAny_bind (wpAny_seqItems e1 e2 ?_)
  refine wpAny_bind ?_
  show wpAny _ _ (forIn its _ _) _ _ _
  rw [← Array.forIn_toList]
  refine wpAny_forIn_list _ (fun more r z => r.1 = none ∧ z = s ∧ ∀ v ∈ more, Flat1 v) _ ?_ ?_ _ _ ⟨rfl, rfl, fl⟩
  · rintro v more r z ⟨_, rfl, hm⟩
    obtain ⟨c, hc⟩ := flat_by (n := 7) (hm v List.mem_cons_self)
    rw [hc]
    refine wpAny_bind (wpAny_pure ?_)
    cases c
    · simp only [Bool.not_false, if_true]
      exact wpAny_pure (wpAny_pure (q false))
    · simp only [Bool.not_true, Bool.false_eq_true, if_false]
      exact wpAny_pure ⟨rfl, rfl, fun u hu => hm u (List.mem_cons_of_mem _ hu)⟩
  · rintro ⟨r1, r2⟩ z ⟨e, rfl, _⟩
    simp only at e
    subst e
    exact wpAny_pure (q true)
/-- nobody can see a search among such tuples -/
theorem unseen {k : List Key} {b : Addr} {Q : Bool → Shared → Prop} (x : Tp P w s.heap b k) {ys : List Value} (hy : ∀ y ∈ ys, ∃ c m, y = Value.ref c ∧ Tp P w s.heap c m) (q : Q false s) : wpAny (model P w) A (searchCouldBeSeen (.ref b) ys) Q E s := by
  unfold searchCouldBeSeen
  refine wpAny_bind ?_
  refine wpAny_forIn_list _ (fun more r z => r.1 = none ∧ z = s ∧ ∀ y ∈ more, ∃ c m, y = Value.ref c ∧ Tp P w s.heap c m) _ ?_ ?_ _ _ ⟨rfl, rfl, hy⟩
  · rintro v more r z ⟨_, rfl, hm⟩
    obtain ⟨c, m, rfl, y⟩ := hm v List.mem_cons_self
    have hm2 : ∀ y ∈ more, ∃ c m, y = Value.ref c ∧ Tp P w z.heap c m := fun u hu => hm u (List.mem_cons_of_mem _ hu)
    dsimp only
    by_cases hv : (b == c || (carriedByValue (.ref b) && carriedByValue (.ref c))) = true
    · exact wp_if_pos hv (wpAny_pure ⟨rfl, rfl, hm2⟩)
    · refine wp_if_neg hv (wpAny_bind (wpAny_eqIsQuiet_tuple x ?_))
      simp only [Bool.not_true, Bool.false_eq_true, if_false]
      refine wpAny_bind (wpAny_eqIsQuiet_tuple y ?_)
      simp only [Bool.not_true, Bool.false_eq_true, if_false]
      refine wpAny_bind (x.cls ?_)
      simp only [Bool.false_eq_true, if_false]
      refine wpAny_bind (y.cls ?_)
      simp only [Bool.false_eq_true, if_false]
      exact wpAny_pure ⟨rfl, rfl, hm2⟩
  · rintro ⟨r1, r2⟩ z ⟨e, rfl, _⟩
    simp only at e
    subst e
    exact wpAny_pure q
theorem Tp.up {h h' : Heap} {b : Addr} {k : List Key} (x : Tp P w h b k) (e : ∀ o, h.get? b = some o → h'.get? b = some o) : Tp P w h' b k := by
  obtain ⟨o, its, n, e1, e2⟩ := x
  exact ⟨o, its, n, e o e1, e2⟩
/-- the set at a: its members L, each where it stands and what it is -/
structure Stn (P : Program) (w : World) (h : Heap) (a : Addr) (L : List (Addr × List Key)) (es : Array (Int × Value)) (ep : Nat) (t : SetTable) : Prop where
  at_ : ∃ o, h.get? a = some o ∧ o.ExactSet ∧ o.data = .set es ep t
  en : es.toList = L.map fun z => (hK P w z.2, Value.ref z.1)
  tb : TabOk t (L.map fun z => hK P w z.2)
  one : (L.map Prod.snd).Nodup
  ks : ∀ z ∈ L, Tp P w h z.1 z.2
  ld : w.params.followText "set-order" = true ∨ t.led = true
  rm : 5 * L.length < 3 * t.mask
  sm : L.length ≤ 63
variable {a : Addr} {L : List (Addr × List Key)} {es : Array (Int × Value)} {ep : Nat} {t : SetTable}
theorem en_len (en : es.toList = L.map fun z => (hK P w z.2, Value.ref z.1)) : es.size = L.length := by
  have := congrArg List.length en
  rwa [Array.length_toList, List.length_map] at this
theorem en_at (en : es.toList = L.map fun z => (hK P w z.2, Value.ref z.1)) {i : Nat} {z : Addr × List Key} (h : L[i]? = some z) : es[i]? = some (hK P w z.2, Value.ref z.1) := by
  rw [← Array.getElem?_toList, en, List.getElem?_map, h]
  rfl
theorem fits_of (sz : t.place.size = es.size) (dm : t.dummies = #[]) (le : es.size ≤ t.mask) : t.fits es.size = true := by
  unfold SetTable.fits SetTable.fill
  rw [dm, sz]
  show (es.size == es.size && decide (es.size + 0 ≤ t.mask)) = true
  rw [beq_self_eq_true, Bool.true_and, decide_eq_true_eq]
  exact le
theorem Stn.len (R : Stn P w s.heap a L es ep t) : t.place.toList.length = L.length := by
  have := R.tb.sz
  rwa [List.length_map, ← Array.length_toList] at this
theorem Stn.fit (R : Stn P w s.heap a L es ep t) : t.fits es.size = true := by
  have h1 := en_len R.en
  have h2 := R.len
  have h3 := R.rm
  rw [Array.length_toList] at h2
  exact fits_of (by omega) R.tb.dm (by omega)
theorem Stn.odd (R : Stn P w s.heap a L es ep t) : ¬ t.gaveWay = true := by
  unfold SetTable.gaveWay
  rw [mask_odd R.tb.mok]
  decide
/-- where the search for a hash stands behind so many steps -/
abbrev stp (m : Nat) (h : Int) (c : Nat) : SetTable.Probe := nth m (runAt m (SetTable.bits h % (m + 1)) (SetTable.bits h)) c
theorem stp_more (m : Nat) (h : Int) (c q : Nat) : nth m (stp m h c) q = stp m h (c + q) := (nth_add m c _ q).symm
theorem stp_clean (m : Nat) (h : Int) (c : Nat) : (stp m h c).dummy = none := by
  have : ∀ (n : Nat) (p : SetTable.Probe), p.dummy = none → (nth m p n).dummy = none := fun n => by
    induction n with
    | zero => exact fun _ e => e
    | succ n ih =>
      refine fun p e => ih _ ?_
      unfold adv
      split
      · exact e
      · exact e
  exact this c _ rfl
theorem same_mem (t : SetTable) : t.sameMemory t.moves t.mask = some true := by
  unfold SetTable.sameMemory
  rw [beq_self_eq_true, if_pos rfl]
/-- the search, going on behind c steps; none of these met the key -/
theorem find_from (R : Stn P w s.heap a L es ep t) {x : Addr} {k : List Key} (hx : Tp P w s.heap x k) (hu : A.units < cLine) {N : Nat} (hN : N < 10 * SetTable.turns t.mask) (free : way t.mask (hK P w k) N ∉ t.place.toList)
    (full : ∀ c, c < N → way t.mask (hK P w k) c ∈ t.place.toList) {Q : SetFound → Shared → Prop} (yes : k ∈ L.map Prod.snd → Q (.there none) s) (no : k ∉ L.map Prod.snd → Q (.free (way t.mask (hK P w k) N) false) s) :
    ∀ (fu c : Nat) (st : Option SetTable.Probe), c ≤ N → N < c + fu → st.getD (t.probeStart (hK P w k)) = stp t.mask (hK P w k) c →
      (∀ (i c' : Nat) (z : Addr × List Key), c' < c → L[i]? = some z → t.place.toList[i]? = some (way t.mask (hK P w k) c') → z.2 ≠ k) →
      wpAny (model P w) A (setSearchFrom a (.ref x) (hK P w k) true fu st) Q E s
  | 0, c, st, h1, h2, _, _ => absurd h2 (by omega)
  | fu + 1, c, st, h1, h2, h3, h4 => by
    obtain ⟨o, e1, _, e3⟩ := R.at_
    rw [setSearchFrom_succ]
    refine wpAny_bind (wpAny_setState_of e1 e3 R.fit ?_)
    dsimp only
    refine wp_if_neg R.odd ?_
    try refine wpAny_bind (wpAny_pure ?_)
    have jw : ∀ q, (nth t.mask (stp t.mask (hK P w k) c) q).j = way t.mask (hK P w k) (c + q) := fun q => congrArg SetTable.Probe.j (stp_more ..)
    have hash : ∀ (i : Nat) (z : Addr × List Key), L[i]? = some z → (fun i => (es[i]?.map (·.1)).getD 0) i = hK P w z.2 := fun i z hz => by
      show (es[i]?.map (·.1)).getD 0 = _
      rw [en_at R.en hz]
      rfl
    have eN : c + (N - c) = N := by omega
    rcases go_spec t R.tb.ris R.tb.dm (fun i => (es[i]?.map (·.1)).getD 0) (hK P w k) (10 * SetTable.turns t.mask) (N - c) (stp t.mask (hK P w k) c) (stp_clean ..) (by omega) (fun q hq => by rw [jw]; exact full _ (by omega)) (by rw [jw, eN]; exact free) with
      ⟨q, i, hq, hi, heq, hno, hpr⟩ | ⟨hno, hpr⟩
    · rw [jw, stp_more] at hpr
      rw [jw] at hi
      have hpr2 : t.probe (fun i => (es[i]?.map (·.1)).getD 0) (hK P w k) (st.getD (t.probeStart (hK P w k))) = some (.candidate (way t.mask (hK P w k) (c + q)) i (stp t.mask (hK P w k) (c + (q + 1)))) := by
        rw [h3]
        exact hpr
      rw [hpr2]
      dsimp only
      have il : i < L.length := by
        have := (List.getElem?_eq_some_iff.mp hi).1
        rwa [R.len] at this
      obtain ⟨z, hz⟩ : ∃ z, L[i]? = some z := ⟨_, List.getElem?_eq_getElem il⟩
      have mz := List.mem_of_getElem? hz
      have tz := R.ks z mz
      have live := slot_live R.tb.ris hi
      have rest : wpAny (model P w) A (searchRest a (.ref x) (hK P w k) true fu es t (way t.mask (hK P w k) (c + q)) i (stp t.mask (hK P w k) (c + (q + 1)))) Q E s := by
        unfold searchRest
        rw [en_at R.en hz]
        dsimp only
        refine wpAny_bind (wpAny_holding (wpAny_eqBool_tuple hu tz hx (wpAny_bind (wpAny_setState_of e1 e3 R.fit ?_))))
        dsimp only
        by_cases same : z.2 = k
        · exact wp_if_pos (by rw [decide_eq_true same]; rfl) (wpAny_pure (yes (List.mem_map.mpr ⟨z, mz, same⟩)))
        · refine wp_if_neg (by rw [decide_eq_false same]; decide) ?_
          try refine wpAny_bind (wpAny_pure ?_)
          rw [same_mem]
          dsimp only
          simp only [if_true, live, en_at R.en hz]
          refine wpAny_bind (wpAny_isSame_ref_self (wpAny_bind (wpAny_pure ?_)))
          simp only [if_true]
          refine wp_if_neg (by rw [decide_eq_false same]; decide) (find_from R hx hu hN free full yes no fu (c + (q + 1)) _ (by omega) (by omega) rfl fun i' c' y hc hy hp => ?_)
          rcases Nat.lt_or_ge c' c with l1 | l1
          · exact h4 i' c' y l1 hy hp
          · obtain ⟨d, rfl⟩ : ∃ d, c' = c + d := ⟨c' - c, by omega⟩
            rcases Nat.lt_or_ge d q with l2 | l2
            · intro e
              exact hno d i' l2 (by rw [jw]; exact hp) ((hash i' y hy).trans (by rw [e]))
            · obtain rfl : d = q := by omega
              have := slot_live R.tb.ris hp
              rw [live] at this
              injection this with this
              rw [← this, hz] at hy
              rw [← Option.some.inj hy]
              exact same
      by_cases led : t.led = true
      · refine wp_if_neg (by rw [led]; decide) ?_
        try refine wpAny_bind (wpAny_pure ?_)
        exact rest
      · refine wp_if_pos (by rw [Bool.not_eq_true] at led; rw [led]; rfl) (wpAny_bind (unseen hx (fun y hy => ?_) ?_))
        · obtain ⟨u, hu1, hu2⟩ := List.mem_map.mp hy
          have hu3 : u ∈ es ∧ u.1 = hK P w k := by simpa using hu1
          have hu4 : u ∈ es.toList := by simpa using hu3.1
          rw [R.en] at hu4
          obtain ⟨v, hv, rfl⟩ := List.mem_map.mp hu4
          exact ⟨v.1, v.2, hu2.symm, R.ks v hv⟩
        · refine wp_if_neg (by decide) ?_
          try refine wpAny_bind (wpAny_pure ?_)
          exact rest
    · rw [jw, eN] at hpr
      have hpr2 : t.probe (fun i => (es[i]?.map (·.1)).getD 0) (hK P w k) (st.getD (t.probeStart (hK P w k))) = some (.empty (way t.mask (hK P w k) N) none) := by
        rw [h3]
        exact hpr
      rw [hpr2]
      dsimp only
      refine wpAny_pure (no fun hm => ?_)
      obtain ⟨z, hz, ez⟩ := List.mem_map.mp hm
      obtain ⟨i, hi⟩ := List.mem_iff_getElem?.mp hz
      have il : i < t.place.toList.length := by rw [R.len]; exact (List.getElem?_eq_some_iff.mp hi).1
      have hp := List.getElem?_eq_getElem il
      obtain ⟨c', l1, ew⟩ := R.tb.before (h := hK P w k) free (by rw [List.getElem?_map, hi, ← ez]; rfl) hp
      rw [← ew] at hp
      rcases Nat.lt_or_ge c' c with l2 | l2
      · exact h4 i c' z l2 hi hp ez
      · obtain ⟨d, rfl⟩ : ∃ d, c' = c + d := ⟨c' - c, by omega⟩
        exact hno d i (by omega) (by rw [jw]; exact hp) ((hash i z hi).trans (by rw [ez]))
/-- what adding asks first -/
theorem find_in (R : Stn P w s.heap a L es ep t) {x : Addr} {k : List Key} (hx : Tp P w s.heap x k) (hu : A.units < cLine) {Q : SetFound → Shared → Prop} (yes : k ∈ L.map Prod.snd → Q (.there none) s)
    (no : ∀ N, k ∉ L.map Prod.snd → way t.mask (hK P w k) N ∉ t.place.toList → (∀ c, c < N → way t.mask (hK P w k) c ∈ t.place.toList) → Q (.free (way t.mask (hK P w k) N) false) s) :
    wpAny (model P w) A (setSearch a (.ref x) (hK P w k) true) Q E s := by
  have rm := R.rm
  obtain ⟨N, l1, free, full⟩ := R.tb.first (by rw [List.length_map]; omega) (hK P w k)
  have l2 : N < 100000 := by
    have : SetTable.turns t.mask ≤ 1000 := by
      unfold SetTable.turns
      rcases R.tb.mok with e | e | e <;> omega
    omega
  unfold setSearch
  exact find_from R hx hu l1 free full yes (fun n => no N n free full) 100000 0 none (Nat.zero_le _) (by omega) rfl fun _ _ _ l => absurd l (Nat.not_lt_zero _)
theorem by_any {β : Type} {b : Bool} {x : Addr} {k : List Key} {f : Bool → Sem β} {Q : β → Shared → Prop} (hx : Tp P w s.heap x k) (q : ∀ c, wpAny (model P w) A (f c) Q E s) : wpAny (model P w) A (if b = true then hashByValue 8 (.ref x) >>= f else pure true >>= f) Q E s := by
  cases b
  · exact wp_if_neg (by decide) (wpAny_bind (wpAny_pure (q true)))
  · exact wp_if_pos rfl (wpAny_bind (hx.by_ q))
theorem back_all {α : Type} : ∀ l : List α, (List.range l.length).filterMap (fun i => l[i]?) = l
  | [] => rfl
  | x :: l => by
    rw [List.length_cons, List.range_succ_eq_map, List.filterMap_cons]
    show x :: (List.map Nat.succ (List.range l.length)).filterMap (fun i => (x :: l)[i]?) = _
    rw [List.filterMap_map]
    exact congrArg (x :: ·) (back_all l)
theorem en_anew (en : es.toList = L.map fun z => (hK P w z.2, Value.ref z.1)) {order : Array Nat} (pm : order.toList.Perm (List.range L.length)) :
    ∃ L2 : List (Addr × List Key), (order.filterMap (es[·]?)).toList = L2.map (fun z => (hK P w z.2, Value.ref z.1)) ∧ L2.Perm L ∧ (L2.map fun z => hK P w z.2) = order.toList.map fun i => (es.map (·.1)).getD i 0 := by
  have at_ : ∀ i : Nat, es[i]? = (L[i]?).map fun z => (hK P w z.2, Value.ref z.1) := fun i => by rw [← Array.getElem?_toList, en, List.getElem?_map]
  refine ⟨order.toList.filterMap fun i => L[i]?, ?_, ?_, ?_⟩
  · rw [Array.toList_filterMap, List.map_filterMap]
    exact congrArg (fun f => order.toList.filterMap f) (funext at_)
  · have q := pm.filterMap fun i => L[i]?
    rwa [back_all] at q
  · have : ∀ l : List Nat, (∀ i ∈ l, i < L.length) → ((l.filterMap fun i => L[i]?).map fun z => hK P w z.2) = l.map fun i => (es.map (·.1)).getD i 0 := fun l => by
      induction l with
      | nil => exact fun _ => rfl
      | cons i l ih =>
        intro h
        have hi := List.getElem?_eq_getElem (h i List.mem_cons_self)
        rw [List.filterMap_cons_some hi, List.map_cons, List.map_cons, ih fun j hj => h j (List.mem_cons_of_mem _ hj), Array.getD_eq_getD_getElem?, Array.getElem?_map, en_at en hi]
        rfl
    exact this _ fun i hi => List.mem_range.mp (pm.mem_iff.mp hi)
theorem tp_other {h h' : Heap} {k : List Key} {b : Addr} {o : Obj} (x : Tp P w h b k) (ho : h.get? a = some o) (hd : o.data = .set es ep t) (hs : Heap.SameBut a h h') : Tp P w h' b k := by
  refine x.up fun o2 e => ?_
  by_cases hb : b = a
  · exfalso
    subst hb
    obtain ⟨o3, its, n, e1, _, e2, _⟩ := x
    cases e1.symm.trans ho
    rw [hd] at e2
    exact nomatch e2
  · exact (hs.2 b hb).trans e
/-- a table that got too full is laid anew -/
theorem lay_new {o : Obj} (ho : s.heap.get? a = some o) (hex : o.ExactSet) (hd : o.data = .set es ep t) (en : es.toList = L.map fun z => (hK P w z.2, Value.ref z.1)) (sz : t.place.size = es.size) (dm : t.dummies = #[]) (le : es.size ≤ t.mask)
    (one : (L.map Prod.snd).Nodup) (ks : ∀ z ∈ L, Tp P w s.heap z.1 z.2) (ld : w.params.followText "set-order" = true ∨ t.led = true) (sm : L.length ≤ 63) {wanted M : Nat} (hw : SetTable.sizeAbove wanted - 1 = M) (hM : MaskOk M)
    (small : SetTable.sizeAbove wanted ≤ 128) (rm : 5 * L.length < 3 * M) {Q : Unit → Shared → Prop} (q : ∀ h2 L2 es2 ep2 t2, Heap.SameBut a s.heap h2 → Stn P w h2 a L2 es2 ep2 t2 → L2.Perm L → Q () { s with heap := h2 }) :
    wpAny (model P w) A (setRelay a wanted) Q E s := by
  have el := en_len en
  obtain ⟨t2, order, er, pm, tb2, m2, l2, _, d2⟩ := relaid_ok t (hs := es.map (·.1)) (wanted := wanted) hw hM (by rw [Array.size_map, el]; omega)
  rw [Array.size_map, el] at pm
  obtain ⟨L2, en2, pm2, eh⟩ := en_anew en pm
  rw [← eh] at tb2
  have es2 : (order.filterMap (es[·]?)).size = es.size := by rw [en_len en2, pm2.length_eq, el]
  rw [setRelay_eq]
  refine wpAny_bind (wpAny_setState_of ho hd (fits_of sz dm le) ?_)
  dsimp only
  refine wp_if_neg (by rw [sizeLine_eq]; omega) ?_
  try refine wpAny_bind (wpAny_pure ?_)
  rw [er]
  dsimp only
  refine wpAny_bind (wp_if_neg (by rw [es2]; simp) ?_)
  try refine wpAny_bind (wpAny_pure ?_)
  refine wpAny_pure ?_
  dsimp only
  refine wpAny_storeSet_of ho hd ?_ (by rw [es2, el, sizeLine_eq]; omega)
  have sb : Heap.SameBut a s.heap (s.heap.update a (Obj.putSet (order.filterMap (es[·]?)) t2)) := Heap.SameBut.update ..
  exact q _ L2 _ (ep + 1) t2 sb ⟨⟨_, store_at ho hd, ⟨hex.1, hex.2.1, hex.2.2⟩, rfl⟩, en2, tb2, (pm2.map Prod.snd).nodup_iff.mpr one, fun z hz => tp_other (ks z (pm2.mem_iff.mp hz)) ho hd sb, by rw [l2]; exact ld, by rw [m2, pm2.length_eq]; exact rm, by rw [pm2.length_eq]; exact sm⟩ pm2
open Classical in
/-- what is put into a set -/
noncomputable def ins (L : List (Addr × List Key)) (z : Addr × List Key) : List (Addr × List Key) := if z.2 ∈ L.map Prod.snd then L else z :: L
theorem ins_perm {L M : List (Addr × List Key)} (h : L.Perm M) (z : Addr × List Key) : (ins L z).Perm (ins M z) := by
  unfold ins
  by_cases c : z.2 ∈ L.map Prod.snd
  · rw [if_pos c, if_pos ((h.map Prod.snd).mem_iff.mp c)]
    exact h
  · rw [if_neg c, if_neg fun d => c ((h.map Prod.snd).mem_iff.mpr d)]
    exact h.cons z
theorem put_in (R : Stn P w s.heap a L es ep t) {x : Addr} {k : List Key} (hx : Tp P w s.heap x k) (hu : A.units < cLine) (few : L.length < 63) {Q : Bool → Shared → Prop}
    (q : ∀ b h2 L2 es2 ep2 t2, Heap.SameBut a s.heap h2 → Stn P w h2 a L2 es2 ep2 t2 → L2.Perm (ins L (x, k)) → Q b { s with heap := h2 }) : wpAny (model P w) A (setAddHashed a (.ref x) (hK P w k)) Q E s := by
  obtain ⟨o, e1, e2, e3⟩ := R.at_
  have el := en_len R.en
  have rm := R.rm
  unfold setAddHashed
  refine wpAny_holding ?_
  rw [show (100000 : Nat) = 99999 + 1 from rfl, setAddHashedIn_succ]
  refine wpAny_bind (wpAny_setState_of e1 e3 R.fit ?_)
  dsimp only
  refine wp_if_neg (by simp [byScan, Value.scannable]) ?_
  try refine wpAny_bind (wpAny_pure ?_)
  refine wpAny_bind (find_in R hx hu (fun hm => ?_) fun N hm free full => ?_)
  · dsimp only
    exact wpAny_pure (q false s.heap L es ep t (Heap.SameBut.refl a s.heap) R (by unfold ins; rw [if_pos hm]))
  · dsimp only
    refine wpAny_bind (wpAny_setState_of e1 e3 R.fit ?_)
    dsimp only
    obtain ⟨p1, p2, p3, p4, p5, _, _, _, p9⟩ := R.tb.put free full
    generalize t.put (way t.mask (hK P w k) N) = pt at p1 p3 p4 p5 p9 ⊢
    obtain ⟨t1, p⟩ := pt
    dsimp only at p1 p3 p4 p5 p9 ⊢
    rw [← p1] at p2 p3
    rw [List.length_map] at p2 p9
    refine by_any hx fun c => ?_
    have t2 : ∀ u, (if c = true then t1 else { t1 with plain := false }) = u → TabOk u ((L.map fun z => hK P w z.2).take p ++ hK P w k :: (L.map fun z => hK P w z.2).drop p) ∧ u.mask = t.mask ∧ u.led = t.led ∧ u.fill = L.length + 1 := by
      rintro u rfl
      cases c
      · exact ⟨⟨p3.ris, p3.dm, p3.sz, p3.mok, p3.bd, p3.reach⟩, p4, p5, p9⟩
      · exact ⟨p3, p4, p5, p9⟩
    generalize hu2 : (if c = true then t1 else { t1 with plain := false }) = u
    obtain ⟨tb2, m2, l2, f2⟩ := t2 u hu2
    have en2 : (SetTable.insertAt es p (hK P w k, Value.ref x)).toList = (L.take p ++ (x, k) :: L.drop p).map fun z => (hK P w z.2, Value.ref z.1) := by
      rw [SetTable.toList_insertAt, R.en, List.map_append, List.map_cons, List.map_take, List.map_drop]
    have tb3 : TabOk u ((L.take p ++ (x, k) :: L.drop p).map fun z => hK P w z.2) := by
      rw [List.map_append, List.map_cons, List.map_take, List.map_drop]
      exact tb2
    have pm : (L.take p ++ (x, k) :: L.drop p).Perm ((x, k) :: L) := by
      have z : (L.take p ++ (x, k) :: L.drop p).Perm ((x, k) :: (L.take p ++ L.drop p)) := List.perm_middle
      rwa [List.take_append_drop] at z
    have ei : ins L (x, k) = (x, k) :: L := by unfold ins; rw [if_neg hm]
    generalize L.take p ++ (x, k) :: L.drop p = L1 at en2 tb3 pm
    have ll : L1.length = L.length + 1 := pm.length_eq
    have el2 := en_len en2
    generalize SetTable.insertAt es p (hK P w k, Value.ref x) = es1 at en2 el2 ⊢
    refine wpAny_bind (wpAny_storeSet_of e1 e3 ?_ (by rw [el2, ll, sizeLine_eq]; omega))
    have sb : Heap.SameBut a s.heap (s.heap.update a (Obj.putSet es1 u)) := Heap.SameBut.update ..
    have ho1 := store_at (es' := es1) (t' := u) e1 e3
    generalize s.heap.update a (Obj.putSet es1 u) = h1 at sb ho1 ⊢
    have ks1 : ∀ z ∈ L1, Tp P w h1 z.1 z.2 := fun z hz => by
      rcases List.mem_cons.mp (pm.mem_iff.mp hz) with rfl | hz
      · exact tp_other hx e1 e3 sb
      · exact tp_other (R.ks z hz) e1 e3 sb
    have one1 : (L1.map Prod.snd).Nodup := (pm.map Prod.snd).nodup_iff.mpr (List.nodup_cons.mpr ⟨hm, R.one⟩)
    have ld1 : w.params.followText "set-order" = true ∨ u.led = true := by rw [l2]; exact R.ld
    have ex1 : Obj.ExactSet { o with data := .set es1 (ep + 1) u } := ⟨e2.1, e2.2.1, e2.2.2⟩
    have sz1 : u.place.size = es1.size := by
      have := tb3.sz
      rw [List.length_map] at this
      rw [this, el2]
    have tf : u.tooFull = decide (5 * (L.length + 1) ≥ 3 * u.mask) := by
      unfold SetTable.tooFull
      rw [f2]
      exact decide_eq_decide.mpr (by omega)
    by_cases hf : 5 * (L.length + 1) ≥ 3 * u.mask
    · rw [decide_eq_true hf] at tf
      have two : (t.mask = 7 ∧ L.length = 4) ∨ (t.mask = 31 ∧ L.length = 18) := by
        rw [m2] at hf
        rcases R.tb.mok with e | e | e <;> omega
      have go : ∀ M, SetTable.sizeAbove (SetTable.grown (es.size + 1)) - 1 = M → MaskOk M → SetTable.sizeAbove (SetTable.grown (es.size + 1)) ≤ 128 → 5 * L1.length < 3 * M →
          wpAny (model P w) A (setRelay a (SetTable.grown (es.size + 1))) (fun _ s2 => wpAny (model P w) A (pure true) Q E s2) E { s with heap := h1 } := fun M g1 g2 g3 g4 =>
        lay_new (s := { s with heap := h1 }) ho1 ex1 rfl en2 sz1 tb3.dm (by rw [el2, ll, m2]; omega) one1 ks1 ld1 (by omega) g1 g2 g3 g4 fun h2 L2 es2 ep2 t2 sb2 R2 pm2 => wpAny_pure (q true h2 L2 es2 ep2 t2 (sb.trans sb2) R2 (by rw [ei]; exact pm2.trans pm))
      first
        | (refine wpAny_bind ?_; refine wp_if_pos (by rw [tf]; rfl) ?_)
        | (refine wp_if_pos (by rw [tf]; rfl) ?_; refine wpAny_bind ?_)
      rcases two with ⟨_, z⟩ | ⟨_, z⟩
      · exact go 31 (by rw [el, z, size_20]) (.inr (.inl rfl)) (by rw [el, z, size_20]; decide) (by omega)
      · exact go 127 (by rw [el, z, size_76]) (.inr (.inr rfl)) (by rw [el, z, size_76]; decide) (by omega)
    · rw [decide_eq_false hf] at tf
      first
        | refine wp_if_neg (by rw [tf]; decide) ?_
        | (refine wpAny_bind ?_; refine wp_if_neg (by rw [tf]; decide) ?_; refine wpAny_pure ?_)
      exact wpAny_pure (q true h1 L1 es1 (ep + 1) u sb ⟨⟨_, ho1, ex1, rfl⟩, en2, tb3, one1, ks1, ld1, by omega, by omega⟩ (by rw [ei]; exact pm))
theorem Stn.up {h h' : Heap} (R : Stn P w h a L es ep t) (ha : ∀ o, h.get? a = some o → h'.get? a = some o) (hk : ∀ z ∈ L, Tp P w h' z.1 z.2) : Stn P w h' a L es ep t := by
  obtain ⟨⟨o, e1, e2⟩, en, tb, one, _, ld, rm, sm⟩ := R
  exact ⟨⟨o, ha o e1, e2⟩, en, tb, one, hk, ld, rm, sm⟩
/-- the set at a holds M, in some order -/
def Sat (P : Program) (w : World) (h : Heap) (a : Addr) (M : List (Addr × List Key)) : Prop := ∃ L es ep t, Stn P w h a L es ep t ∧ L.Perm M
noncomputable def dis (zs : List (Addr × List Key)) : List (Addr × List Key) := zs.foldl ins []
theorem ins_in {L : List (Addr × List Key)} {z y : Addr × List Key} (h : y ∈ ins L z) : y ∈ L ∨ y = z := by
  unfold ins at h
  split at h
  · exact .inl h
  · exact (List.mem_cons.mp h).elim .inr .inl
theorem ins_snd {L : List (Addr × List Key)} {z : Addr × List Key} {k : List Key} : k ∈ (ins L z).map Prod.snd ↔ k ∈ L.map Prod.snd ∨ k = z.2 := by
  unfold ins
  split
  · rename_i c
    exact ⟨.inl, fun h => h.elim id fun e => by rw [e]; exact c⟩
  · rw [List.map_cons, List.mem_cons]
    exact Or.comm
theorem ins_le (L : List (Addr × List Key)) (z : Addr × List Key) : (ins L z).length ≤ L.length + 1 := by
  unfold ins
  split
  · exact Nat.le_succ _
  · exact Nat.le_refl _
theorem dis_all : ∀ (zs L : List (Addr × List Key)), (∀ y ∈ zs.foldl ins L, y ∈ L ∨ y ∈ zs) ∧ (∀ k, k ∈ (zs.foldl ins L).map Prod.snd ↔ k ∈ L.map Prod.snd ∨ k ∈ zs.map Prod.snd) ∧ (zs.foldl ins L).length ≤ L.length + zs.length
  | [], L => ⟨fun y h => .inl h, fun k => ⟨.inl, fun h => h.elim id fun z => nomatch z⟩, Nat.le_refl _⟩
  | z :: zs, L => by
    obtain ⟨h1, h2, h3⟩ := dis_all zs (ins L z)
    have := ins_le L z
    refine ⟨fun y h => ?_, fun k => ?_, by rw [List.foldl_cons, List.length_cons]; omega⟩
    · rcases h1 y h with q | q
      · exact (ins_in q).elim .inl fun e => .inr (by rw [e]; exact List.mem_cons_self)
      · exact .inr (List.mem_cons_of_mem _ q)
    · rw [List.foldl_cons, h2, ins_snd, List.map_cons, List.mem_cons, or_assoc]
theorem dis_in {zs : List (Addr × List Key)} {y : Addr × List Key} (h : y ∈ dis zs) : y ∈ zs := ((dis_all zs []).1 y h).elim (fun z => nomatch z) id
end
section
variable {P : Program} {w : World} {A : Around} {R : Result → Shared → Prop} {it S : Addr} {fp wr : List Addr} {G : Array GenState → Array GenState → Prop} {n : Nat} {Pv : Nat → Value → Prop} {St : Nat → Shared → Prop} {zs : List (Addr × List Key)} {h0 : Heap}
theorem fillK (W : WalksS P w A.in1 it fp wr G n Pv St) (far : S ∉ fp) (len : zs.length = n) (few : n < 63) (val : ∀ i v, Pv i v → ∃ z, zs[i]? = some z ∧ v = .ref z.1) (hz : ∀ z ∈ zs, Tp P w h0 z.1 z.2) (hS : h0.get? S = none) (hw : ∀ b ∈ wr, h0.get? b = none) (hu : A.in1.units < cLine) :
    ∀ (left i : Nat) (s : Shared), i + left = n → St i s → (∀ b o, h0.get? b = some o → s.heap.get? b = some o) → Sat P w s.heap S ((zs.take i).foldl ins []) →
      (∀ z, Moved (S :: wr) G s z → (∀ b o, h0.get? b = some o → z.heap.get? b = some o) → Sat P w z.heap S (dis zs) → R (.ok (.ret .none)) z) →
      codeAny (model P w) A (.builtin "set.update.loop" ⟨[.ref S, .ref it], []⟩) R s := by
  have kp : ∀ {s z : Shared}, Moved wr G s z → (∀ b o, h0.get? b = some o → s.heap.get? b = some o) → ∀ b o, h0.get? b = some o → z.heap.get? b = some o := fun mv h b o e => mv.heap b o (fun hb => by rw [hw b hb] at e; exact nomatch e) (h b o e)
  have up : ∀ {i : Nat} {s z : Shared}, Moved wr G s z → (∀ b o, h0.get? b = some o → s.heap.get? b = some o) → Sat P w s.heap S ((zs.take i).foldl ins []) → Sat P w z.heap S ((zs.take i).foldl ins []) := fun {i s z} mv h ⟨L, es, ep, t, R, pm⟩ =>
    ⟨L, es, ep, t, R.up (fun o e => mv.heap S o (fun q => far (W.sub _ q)) e) fun y hy => (hz y (List.mem_of_mem_take (dis_in (pm.mem_iff.mp hy)))).up fun o e => kp mv h _ o e, pm⟩
  intro left
  induction left with
  | zero =>
    intro i s e st h had k
    obtain rfl : i = n := by omega
    refine codeAny_builtin F.entry_set_update_loop ?_
    rw [Around.under_plainId F.plain_set_update_loop _]
    show wpAny _ A.in1 (pyNext (Value.ref it) >>= _) _ _ _
    refine wpAny_bind (W.done s _ _ st fun z mv => ?_)
    show wpAny _ A.in1 (ret Value.none) _ _ _
    have q := up mv h had
    rw [← len, List.take_length] at q
    exact wpAny_pure (k z (mv.mono fun b hb => List.mem_cons_of_mem _ hb) (kp mv h) q)
  | succ left ih =>
    intro i s e st h had k
    have lt : i < n := by omega
    refine codeAny_builtin F.entry_set_update_loop ?_
    rw [Around.under_plainId F.plain_set_update_loop _]
    show wpAny _ A.in1 (pyNext (Value.ref it) >>= _) _ _ _
    refine wpAny_bind (W.item i s _ _ lt st fun v z hv stz mv => ?_)
    obtain ⟨p, hp, rfl⟩ := val i v hv
    have kz := kp mv h
    obtain ⟨L, es, ep, t, R2, pm⟩ := up mv h had
    have tp : Tp P w z.heap p.1 p.2 := (hz p (List.mem_of_getElem? hp)).up fun o e => kz _ o e
    have ll := (dis_all (zs.take i) []).2.2
    rw [List.length_take, List.length_nil, ← pm.length_eq] at ll
    show wpAny _ A.in1 (holding [Value.ref p.1] (setAdd S (.ref p.1)) >>= _) _ _ z
    refine wpAny_bind (wpAny_holding ?_)
    unfold setAdd
    refine wpAny_holding (wpAny_bind (wpAny_pyHash_tuple hu tp ?_))
    refine put_in (s := { z with toks := z.toks + (p.2.length + 1) }) R2 tp hu (by omega) fun b h2 L2 es2 ep2 t2 sb R3 pm2 => ?_
    have k2 : ∀ b o, h0.get? b = some o → h2.get? b = some o := fun b o e => (sb.2 b fun q => by rw [q, hS] at e; exact nomatch e).trans (kz b o e)
    have now : Sat P w h2 S ((zs.take (i + 1)).foldl ins []) := by
      refine ⟨L2, es2, ep2, t2, R3, pm2.trans ?_⟩
      rw [List.take_succ, hp, List.foldl_append]
      exact ins_perm pm p
    have nS : ∀ b, b ∈ fp → b ≠ S := fun b hb y => far (y ▸ hb)
    refine wpAny_pure ⟨plainId_quiet F.plain_set_update_loop _, ih (i + 1) _ (by omega) (W.frame _ z _ _ stz (Nat.le_add_right _ _) fun b hb o ob => (sb.2 b (nS b hb)).trans ob) k2 now fun y my hy hy2 => k y ?_ hy hy2⟩
    exact Moved.trans W.gtrans ((mv.mono fun b hb => List.mem_cons_of_mem _ hb).then_heap (Nat.le_add_right _ _) fun b o hb ob => (sb.2 b fun y => hb (by rw [y]; exact List.mem_cons_self)).trans ob) my
end
section
variable {P : Program} {w : World} {A : Around} {E : Value → Shared → Prop} {s : Shared}
abbrev newSet (w : World) : Obj := ST.freshSet (!w.params.followText "set-order")
theorem new_sat {h : Heap} {a : Addr} (ho : h.get? a = some (newSet w)) : Sat P w h a [] := by
  refine ⟨[], #[], 0, _, ⟨⟨_, ho, ⟨rfl, rfl, rfl⟩, rfl⟩, rfl, ⟨List.Pairwise.nil, rfl, rfl, .inl rfl, fun x hx => (nomatch hx), fun i h j hi => (by simp at hi)⟩, .nil, (fun z hz => nomatch hz), ?_, (by show 5 * 0 < 3 * 7; decide), Nat.zero_le _⟩, .refl _⟩
  show _ ∨ (!w.params.followText "set-order") = true
  cases w.params.followText "set-order"
  · exact .inr rfl
  · exact .inl rfl
set_option maxHeartbeats 8000000 in
/-- set(a list of such tuples) -/
theorem set_list {l : Addr} {items : Array Value} {zs : List (Addr × List Key)} {Q : Value → Shared → Prop} (calm : A.handled = none) (hl : s.heap.IsList l items) (hit : items.toList = zs.map fun z => Value.ref z.1) (tps : ∀ z ∈ zs, Tp P w s.heap z.1 z.2) (few : zs.length < 63) (hu : A.units + 3 < cLine)
    (k : ∀ (h2 : Heap) (tk : Nat), Sat P w h2 s.heap.objs.size (dis zs) → (∀ b o, s.heap.get? b = some o → h2.get? b = some o) → Q (.ref s.heap.objs.size) { s with heap := h2, toks := tk }) : wpAny (model P w) A (call (.type "set") [.ref l]) Q E s := by
  obtain ⟨cc, tl, mro⟩ := F.called_set.mro
  have made := F.called_set.made
  have sub := F.called_set.sub
  have len : zs.length = items.size := by
    have := congrArg List.length hit
    rw [Array.length_toList, List.length_map] at this
    exact this.symm
  refine wpAny_call (codeAny_of_tree ?_)
  show wpAny _ _ (callAny (.type "set") _) _ _ _
  refine wpAny_pure ⟨Code.quiet_builtin _ (by decide +kernel), codeAny_builtin F.entry_type_call ?_⟩
  rw [Around.under_plain (weight_type_call_type "set" [.ref l] []) rfl]
  have z1 := F.called_set.notType
  have z2 := F.called_set.canCreate
  have z3 := F.typeCall_set_1 (.ref l)
  repeat (any_goals (first | assumption | wp_step))
  refine codeAny_mono (code_set_led1 (.ref l) (E := E) (Q₁ := fun ob z => ob = .ref s.heap.objs.size ∧ z = { s with heap := s.heap.push (ST.freshSet (!w.params.followText "set-order")) }) ⟨rfl, rfl⟩) fun r z hz => ?_
  match r, hz with
  | .error er, hz => exact hz
  | .ok .next, hz => exact hz.elim
  | .ok .brk, hz => exact hz.elim
  | .ok .cont, hz => exact hz.elim
  | .ok (.ret ob), ⟨e1, e2⟩ =>
  subst e1 e2
  obtain ⟨b, hns⟩ : ∃ b, b = !w.params.followText "set-order" := ⟨_, rfl⟩
  rw [← hns]
  have hS : (s.heap.push (ST.freshSet b)).get? s.heap.objs.size = some (ST.freshSet b) := Heap.get?_push_size _ rfl
  have hT : Shared.TypeIs { s with heap := s.heap.push (ST.freshSet b) } (.ref s.heap.objs.size) "set" := ⟨_, hS, rfl⟩
  have y1 := F.called_set.init.lookup
  have y2 := F.called_set.init.bind (.ref s.heap.objs.size)
  repeat (any_goals (first | assumption | wp_step))
  refine codeAny_mono (codeAny_call_builtin (R := wants (fun r z => r = .none ∧ ∃ h2 tk, z = { s with heap := h2, toks := tk } ∧ Sat P w h2 s.heap.objs.size (dis zs) ∧ ∀ b o, s.heap.get? b = some o → h2.get? b = some o) E) F.called_set.init.plain F.entry_set_init (check_set_init_1 hT ?_)) fun r z hz => ?_
  · obtain ⟨⟨c, d, da, sl⟩, hol, hc, nl, hd⟩ := hl
    dsimp only at hc hd
    subst hc hd
    have hol2 : (s.heap.push (ST.freshSet b)).get? l = some { cls := .type "list", dict := d, data := .seq items nl, slots := sl } := Heap.get?_push_of_some _ hol
    have x1 := F.sub_list_set
    have x2 := F.sub_list_frozenset
    have x3 : (Value.type "list" == Value.type "dict") = false := by decide
    have hl2 : (s.heap.push (ST.freshSet b)).IsList l items := ⟨_, hol2, rfl, nl, rfl⟩
    unfold Builtin.«set.__init__» noKeywords Builtin.Frozenset.updateFrom
    generalize hPI : pyIter = PI
    wp_walk
    subst hPI
    refine wpAny_pyIter_list hl2 (wpAny_bind (wpAny_runValue ?_))
    have ltl : l < s.heap.objs.size := Heap.lt_size hol
    have size2 : (s.heap.push (ST.freshSet b)).objs.size = s.heap.objs.size + 1 := Heap.size_push ..
    have out : ∀ b, s.heap.objs.size ≤ b → s.heap.get? b = none := fun b hb => by
      cases q : s.heap.get? b with
      | none => rfl
      | some o => exact absurd (Heap.lt_size q) (Nat.not_lt.mpr hb)
    refine fillK ((Walks.list (show A.in1.in1.in1.handled = none by simp [calm]) _ l (by rw [size2]; exact Nat.ne_of_lt (Nat.lt_succ_of_lt ltl)) items).toS) (S := s.heap.objs.size) (h0 := s.heap) (by
        rw [size2]
        intro y
        rcases List.mem_cons.mp y with y | y
        · exact Nat.lt_irrefl _ (Nat.lt_of_lt_of_eq (Nat.lt_succ_self _) y.symm)
        · exact Nat.lt_irrefl _ (Nat.lt_of_le_of_lt (Nat.le_of_eq (List.mem_singleton.mp y)) ltl)) len (by omega)
      (fun i v hv => ?_) tps (out _ (Nat.le_refl _)) (fun b hb => out b (by rw [List.mem_singleton.mp hb, size2]; exact Nat.le_succ _)) hu items.size 0 _ (by omega) ⟨⟨_, Heap.get?_push_size _ rfl, rfl, rfl⟩, hl2.push _⟩ (fun b o e => Heap.get?_push_of_some _ (Heap.get?_push_of_some _ e)) (new_sat (Heap.get?_push_of_some _ (by rw [hS, hns]))) fun z mv hk hs => ?_
    · have q : items.toList[i]? = some v := by rw [Array.getElem?_toList]; exact hv
      rw [hit, List.getElem?_map] at q
      obtain ⟨p, h1, h2⟩ := Option.map_eq_some_iff.mp q
      exact ⟨p, h1, h2.symm⟩
    · obtain ⟨h2, g2, d2, tk2, os2⟩ := z
      obtain rfl : g2 = s.gens := mv.gens
      obtain rfl : d2 = s.drawn := mv.drawn
      obtain rfl : os2 = s.os := mv.os
      show wpAny _ _ _ _ _ _
      refine wpAny_pure ?_
      show wpAny _ _ (ret Value.none) _ _ _
      exact wpAny_pure ⟨rfl, h2, tk2, rfl, hs, hk⟩
  · match r, hz with
    | .error er, hz => exact hz
    | .ok .next, hz => exact hz.elim
    | .ok .brk, hz => exact hz.elim
    | .ok .cont, hz => exact hz.elim
    | .ok (.ret v), ⟨e1, h2, tk, e2, mk, mk2⟩ =>
      subst e1 e2
      repeat (any_goals (first | assumption | wp_step))
      exact k _ _ mk mk2
end
end BT
end
section
set_option Elab.async false
set_option linter.all false
set_option maxRecDepth 100000
set_option maxHeartbeats 4000000
/-! BU: sets of such tuples, kept and compared. Own work. -/
namespace BU
open PySem PySem.Spec PyProof.Rows L2 BT
section
variable {P : Program} {w : World} {A : Around} {E : Value → Shared → Prop} {s : Shared} {a : Addr} {L : List (Addr × List Key)} {es : Array (Int × Value)} {ep : Nat} {t : SetTable}
variable {b : Addr} {M : List (Addr × List Key)} {fs : Array (Int × Value)} {eq : Nat} {u : SetTable}
theorem Stn.ty {a : Addr} {L : List (Addr × List Key)} {es : Array (Int × Value)} {ep : Nat} {t : SetTable} (R : Stn P w s.heap a L es ep t) : s.TypeIs (.ref a) "set" := by
  obtain ⟨o, ho, hex, _⟩ := R.at_
  exact ⟨o, ho, hex.1⟩
end
/-- the set at a, without the tuples themselves -/
structure Set0 (P : Program) (w : World) (h : Heap) (a : Addr) (L : List (Addr × List Key)) : Prop where
  ex : ∃ (es : Array (Int × Value)) (ep : Nat) (t : SetTable), (∃ o, h.get? a = some o ∧ o.ExactSet ∧ o.data = .set es ep t) ∧ es.toList = L.map (fun z => (hK P w z.2, Value.ref z.1)) ∧ TabOk t (L.map fun z => hK P w z.2) ∧ (L.map Prod.snd).Nodup ∧
    (w.params.followText "set-order" = true ∨ t.led = true) ∧ 5 * L.length < 3 * t.mask ∧ L.length ≤ 63
theorem Set0.full {P : Program} {w : World} {h : Heap} {a : Addr} {L : List (Addr × List Key)} (R : Set0 P w h a L) (ht : ∀ z ∈ L, Tp P w h z.1 z.2) : ∃ es ep t, Stn P w h a L es ep t := by
  obtain ⟨es, ep, t, h1, h2, h3, h4, h5, h6, h7⟩ := R.ex
  exact ⟨es, ep, t, h1, h2, h3, h4, ht, h5, h6, h7⟩
section
variable {X : Cx}
end
end BU
end
section
set_option Elab.async false
set_option linter.all false
set_option maxRecDepth 100000
set_option maxHeartbeats 4000000
/-! BW: sorted(xs, key=lambda z: (len(z), z)) of tuples of ints. Own work. -/
namespace BW
open PySem PySem.Spec PySem.W PyProof.Rows L2 LamX
section
variable {P : Program} {w : World} {A : Around} {s : Shared} {f b c' : Addr} {q z : Str} {params : Arguments} {scope : Scope} {pm ctv : Value} {p1 p2 p3 p4 p5 : Pos} {k : Nat} {mg mb : Str → Option Value} {its : Array Value} {ns : List Int}
end
section
variable {X : Cx} {T : List (Addr × Str)} {c P : Addr} {params : Arguments} {scope : Scope} {z : Str} {p p1 p2 p3 p4 p5 lpos kpos pos : Pos} {k : Nat} {a : Expr} {ta : TE}
end
end BW
end
section
set_option Elab.async false
set_option linter.all false
set_option maxRecDepth 100000
set_option maxHeartbeats 4000000
/-! BX: the least bad tuples of some places, by their lengths and then by the places. Own work. -/
namespace BX
open PySem PySem.Spec PySem.W PyProof.Rows L2 TX BW
/-! ### the least bad ones -/
section
variable {α : Type} [DecidableEq α]
theorem sub_filter : ∀ {y l : List α}, y.Sublist l → l.Nodup → l.filter (fun n => decide (n ∈ y)) = y
  | _, _, .slnil, _ => rfl
  | y, _, .cons a s, nd => by
    obtain ⟨n1, n2⟩ := List.nodup_cons.mp nd
    rw [List.filter_cons, if_neg (by rw [decide_eq_true_eq]; exact fun q => n1 (s.subset q))]
    exact sub_filter s n2
  | _, _, .cons_cons (l₁ := c) (l₂ := d) a s, nd => by
    obtain ⟨n1, n2⟩ := List.nodup_cons.mp nd
    rw [List.filter_cons, if_pos (by rw [decide_eq_true_eq]; exact List.mem_cons_self)]
    have : d.filter (fun n => decide (n ∈ a :: c)) = d.filter fun n => decide (n ∈ c) := List.filter_congr fun y hy => decide_eq_decide.mpr ⟨fun q => (List.mem_cons.mp q).elim (fun e => absurd (by rw [← e]; exact hy) n1) (fun z => z), List.mem_cons_of_mem _⟩
    rw [this]
    exact congrArg (a :: ·) (sub_filter s n2)
variable {b : List α → Bool} {l : List α}
theorem sub_of {x z : List α} (nd : l.Nodup) (hx : x.Sublist l) (hz : z.Sublist l) (h : ∀ n ∈ x, n ∈ z) : x.Sublist z := by
  have e : z.filter (fun n => decide (n ∈ x)) = x := by
    have e1 := sub_filter hz nd
    have e2 := sub_filter hx nd
    rw [← e1, List.filter_filter]
    refine Eq.trans (List.filter_congr fun n hn => ?_) e2
    by_cases c : n ∈ x
    · rw [decide_eq_true c]
      simp [h n c]
    · rw [decide_eq_false c]
      simp [c]
  rw [← e]
  exact List.filter_sublist
theorem without {x z : List α} (nd : l.Nodup) (hx : x.Sublist z) (hz : z.Sublist l) (ne : x ≠ z) : ∃ k ∈ z, x.Sublist (z.filter fun j => decide (j ≠ k)) := by
  have zn := hz.nodup nd
  obtain ⟨k, hk, hn⟩ : ∃ k ∈ z, k ∉ x := Classical.byContradiction fun no => ne (hx.eq_of_length_le (Nat.le_of_eq (by
    have s := sub_of zn (List.Sublist.refl z) hx fun n hn => Classical.byContradiction fun q => no ⟨n, hn, q⟩
    exact Nat.le_antisymm s.length_le hx.length_le)))
  refine ⟨k, hk, sub_of zn hx List.filter_sublist fun n hn2 => List.mem_filter.mpr ⟨hx.subset hn2, decide_eq_true fun e => hn (e ▸ hn2)⟩⟩
end
end BX
end
section
set_option Elab.async false
set_option linter.all false
set_option maxRecDepth 100000
set_option maxHeartbeats 4000000
/-! BY: {k: v}, k a tuple of texts and ints. Own work. -/
namespace BY
open PySem PySem.Spec PySem.W PyProof.Rows L2
section
variable {X : Cx} {ek ev : Expr} {tk tv : TE} {pos : Pos}
end
end BY
end
section
set_option Elab.async false
set_option linter.all false
set_option maxRecDepth 100000
set_option maxHeartbeats 4000000
/-! BZ: l[i] += x, l a list, i not negative. Own work. -/
namespace BZ
open PySem PySem.Spec PySem.W PyProof.Rows L2
end BZ
end
section
set_option Elab.async false
set_option linter.all false
set_option maxRecDepth 100000
set_option maxHeartbeats 4000000
/-! EX: more of what evaluates to what (over HandS.Evl). -/
namespace EX
open PySem L2 Evl
section
variable {K : PySem.W.Frag} {σ : L2.St} {H H' : Hp} {ta tb te tx : TE} {t u : TT} {x y z v : V} {D : Ends} {tu tw tz : TS} {g : TG}
theorem el_catLL {xs ys : List V} (ha : EvL ta σ H xs) (hb : EvL tb σ H ys) (hz : xs.length + ys.length ≤ 100000) : EvL (tOp rCat ta tb) σ H (xs ++ ys) := fun H1 e Q q =>
  ha H1 e _ fun p H2 _ e2 h2 => hb H2 (e.trans e2) _ fun r H3 hr e3 h3 => ⟨p, r, xs, ys, rfl, rfl, e3 _ _ h2, h3, sz_of hz, fun m hm => q m _ (fresh_back (e2.trans e3) hm) ((e2.trans e3).trans (Ex.new hm)) upd_same⟩
/-- lists at addresses -/
def AllL (H : Hp) (f : Nat → List V) (ps : List Addr) : Prop := ∀ i p, ps[i]? = some p → H p = some (.lst (f i))
theorem AllL.ex {f : Nat → List V} {ps : List Addr} (e : Ex H H') (h : AllL H f ps) : AllL H' f ps := fun i p hi => e _ _ (h i p hi)
end
end EX
end
section
set_option Elab.async false
set_option linter.all false
set_option maxRecDepth 100000
set_option maxHeartbeats 4000000
/-! EZ: enumerate over zip of two tuples. The pair that zip hands out is held by the pair of enumerate, so zip makes a new one each time, or not, if the first is gone: both ways are told here. -/
namespace EZ
open PySem PySem.Spec PyProof.Rows L2
open RZ (nextOf_tuple_item nextOf_tuple_end)
/-- a zip of two, whoever has its pair -/
abbrev zObj (own : Value) (f : Bool) (TI TO : Addr) : Obj := { cls := .type "zip", dict := none, data := .fields #[own, .bool f, .bool false, .ref TI, .ref TO], slots := #[] }
def OwnOk (v : Value) : Prop := v = .none ∨ ∃ T : Nat, v = rawInt (T : Int)
section
variable {prog : Program} {w : World} {A : Around} {E : Value → Shared → Prop} {s : Shared}
end
/-- zip of the tuples l1, l2 before its turn k -/
structure ZSt (h : Heap) (z TI TO i1 i2 l1 l2 : Addr) (k : Nat) : Prop where
  own : ∃ v f, h.get? z = some (zObj v f TI TO) ∧ OwnOk v
  ti : IsPair h TI (.ref i1) (.ref i2)
  to : ∃ p q, IsPair h TO p q
  a : h.IsTupleIter i1 l1 k
  b : h.IsTupleIter i2 l2 k
theorem ZSt.keep {h h2 : Heap} {z TI TO i1 i2 l1 l2 : Addr} {k : Nat} (Z : ZSt h z TI TO i1 i2 l1 l2 k) (hk : ∀ c o, (c = z ∨ c = TI ∨ c = TO ∨ c = i1 ∨ c = i2) → h.get? c = some o → h2.get? c = some o) : ZSt h2 z TI TO i1 i2 l1 l2 k := by
  obtain ⟨⟨v, f, hz, ok⟩, ti, ⟨p, q, to⟩, a, b⟩ := Z
  exact ⟨⟨v, f, hk _ _ (.inl rfl) hz, ok⟩, hk _ _ (.inr (.inl rfl)) ti, ⟨p, q, hk _ _ (.inr (.inr (.inl rfl))) to⟩, a.at fun o => hk _ o (.inr (.inr (.inr (.inl rfl)))), b.at fun o => hk _ o (.inr (.inr (.inr (.inr rfl))))⟩
section
variable {prog : Program} {w : World} {A : Around} {E : Value → Shared → Prop} {s : Shared} {z TI TO i1 i2 l1 l2 : Addr} {k : Nat} {xs ys : Array Value}
end
section
variable {X : Cx} {pins : List (Addr × Obj)} {σ : L2.St} {H : Hp} {s : Shared} {h2 : Heap}
end
structure Off5 (e z TI TO i1 i2 : Addr) : Prop where
  n1 : e ≠ z
  n2 : e ≠ TI
  n3 : e ≠ TO
  n4 : e ≠ i1
  n5 : e ≠ i2
end EZ
end
section
set_option Elab.async false
set_option linter.all false
set_option maxRecDepth 100000
set_option maxHeartbeats 4000000
/-! RP: repr of data -/
namespace RP
open PySem PySem.Spec PyProof.Rows L2
def keyD : Key → PyData
  | .inl i => .int i
  | .inr x => .str x
/-- a value without parts -/
inductive Flat : V → PyData → Prop
  | non : Flat .non .none
  | bl (b : Bool) : Flat (.bl b) (.bool b)
  | int (i : Int) : Flat (.int i) (.int i)
  | str (x : Str) : Flat (.str x) (.str x)
inductive KvD : List (Key × V) → List (PyData × PyData) → Prop
  | nil : KvD [] []
  | cons {k : Key} {v : V} {d : PyData} {l : List (Key × V)} {m : List (PyData × PyData)} : Flat v d → KvD l m → KvD ((k, v) :: l) ((keyD k, d) :: m)
/-- what is shown: data without dicts, or a dict of flat values -/
inductive Sh (K : PySem.W.Frag) (H : Hp) : V → PyData → Prop
  | dp {v : V} {d : PyData} : Dp K H v d → d.hasDict = false → Sh K H v d
  | dic {a : Addr} {kvs : List (Key × V)} {ds : List (PyData × PyData)} : H a = some (.dK kvs) → KvD kvs ds → Sh K H (.ref a) (.dict ds)
theorem flat_reads {h : Heap} {v : V} {d : PyData} {u : Value} (f : Flat v d) (r : RelV v u) : Reads h u d [] := by
  cases f with
  | non => cases r; exact .none
  | bl b => cases r; exact .bool b
  | int i => obtain ⟨t, rfl⟩ := r; exact .int i t
  | str x => obtain ⟨t, rfl⟩ := r; exact .str x t
theorem key_reads {h : Heap} {k : Key} {u : Value} (r : keyIs k u = true) : Reads h u (keyD k) [] := by
  rcases keyIs_shape r with ⟨i, t, rfl, rfl⟩ | ⟨x, t, rfl, rfl⟩
  · exact .int i t
  · exact .str x t
theorem kv_reads {P : Program} {w : World} {h : Heap} : ∀ {kvs : List (Key × V)} {ds : List (PyData × PyData)} {vs : List (Key × Value)} {es : List DictEntry}, KvD kvs ds → KV kvs vs → Pairs (mixKind P w) es vs →
    ReadsAll h (es.map (·.key)) (ds.map (·.1)) [] ∧ ReadsAll h (es.map (·.val)) (ds.map (·.2)) []
  | _, _, _, _, .nil, .nil, .nil => ⟨.nil, .nil⟩
  | _, _, _, _, .cons f t, .cons ⟨e1, rv⟩ kv, .cons k1 k2 pr => by
    obtain ⟨h1, h2⟩ := kv_reads (h := h) t kv pr
    refine ⟨?_, ?_⟩
    · refine ReadsAll.cons (as := []) (bs := []) (key_reads ?_) h1
      have k1' := k1
      rw [← e1] at k1'
      exact k1'
    · refine ReadsAll.cons (as := []) (bs := []) ?_ h2
      have q := flat_reads (h := h) f rv
      rw [← k2] at q
      exact q
theorem Sh.reads {X : Cx} {pins : List (Addr × Obj)} {σ : L2.St} {H : Hp} {s : Shared} (I : Inv X pins σ H s) {v : V} {d : PyData} {u : Value} (x : Sh X.K H v d) (r : RelV v u) : ∃ as, Reads s.heap u d as ∧ (d.hasDict = true → sysModules ∉ as) := by
  cases x with
  | dp h hn =>
    obtain ⟨as, q⟩ := Dp.reads I d v u h r
    exact ⟨as, q, fun z => by rw [hn] at z; cases z⟩
  | @dic a kvs ds h k =>
    obtain ⟨_, hs, vs, kv, o, es, ep, h1, h2, h3, _, h5, _⟩ := (show ObjOk X.prog X.w H s.heap a (.dK kvs) from I.hok a _ h)
    cases r
    obtain ⟨r1, r2⟩ := kv_reads (h := s.heap) k kv h5
    refine ⟨_, .dict h1 h2.1 h3 r1 r2, fun _ z => ?_⟩
    rcases List.mem_append.mp z with z | z
    · rcases List.mem_cons.mp z with z | z
      · rw [z] at hs; simp at hs
      · cases z
    · cases z
def rRepr (K : PySem.W.Frag) : List V → Hp → VK → Prop := fun xs H Q => ∃ (v : V) (d : PyData), xs = [v] ∧ Sh K H v d ∧ d.showable = true ∧ d.depth ≤ 60 ∧ d.shown.length ≤ sizeLine ∧ Q (.str d.shown) H
theorem call_repr {X : Cx} (g : X.A.guards = some []) (hu : X.A.units + 64 < cLine) : CallR X (.builtin "repr") (rRepr X.K) := by
  intro pins s σ H xs us Q I r h
  obtain ⟨v, d, rfl, x, hs, hd, hz, q⟩ := h
  obtain ⟨u, rfl, ru⟩ := vals1 r
  obtain ⟨as, rd, hm⟩ := x.reads I ru
  cases rd with
  | none => exact PySem.P.repr_of_none ⟨.str _, H, I.tok _, ⟨_, rfl⟩, q⟩
  | bool b => exact PySem.P.repr_of_bool ⟨.str _, H, I.tok _, ⟨_, rfl⟩, q⟩
  | int i t => exact PySem.P.repr_of_int (of_decide_eq_true (by simpa only [PyData.showable] using hs)) ⟨.str _, H, I.tok _, ⟨_, rfl⟩, q⟩
  | str y t => exact PySem.P.repr_of_str ⟨.str _, H, I.tok _, ⟨_, rfl⟩, q⟩ (by simpa only [PyData.shown] using hz)
  | list h1 h2 h3 h4 => exact repr_of_reads' (.list h1 h2 h3 h4) hs hm g (by omega) (fun _ _ e => e) (fun h' u tk k => ⟨.str _, H, I.kept k, ⟨_, rfl⟩, q⟩) hz
  | tuple h1 h2 h3 h4 => exact repr_of_reads' (.tuple h1 h2 h3 h4) hs hm g (by omega) (fun _ _ e => e) (fun h' u tk k => ⟨.str _, H, I.kept k, ⟨_, rfl⟩, q⟩) hz
  | dict h1 h2 h3 h4 h5 => exact repr_of_reads' (.dict h1 h2 h3 h4 h5) hs hm g (by omega) (fun _ _ e => e) (fun h' u tk k => ⟨.str _, H, I.kept k, ⟨_, rfl⟩, q⟩) hz
end RP
end
section
set_option Elab.async false
set_option linter.all false
set_option maxRecDepth 100000
set_option maxHeartbeats 0
namespace K08
open PySem PySem.Spec PyProof.Rows L2 Evl TX
open C8 (Cal pe_c pe_gc)
open GL
/-! ### the head -/
def dG (x : Str) (st : Stmt) : He.DefD := ⟨(x, none), x, x, defArgs st, defBody st, defScope st, [], []⟩
def dM (m q : Str) (st : Stmt) : He.DefD := ⟨("Table", some m), m, q, defArgs st, defBody st, defScope st, [], []⟩
def dX (c m q : Str) (st : Stmt) : He.DefD := ⟨(c, some m), m, q, defArgs st, defBody st, defScope st, [], []⟩
abbrev s_E_InvalidCells : Stmt := (C8.clsBody (top 13)).getD 0 (.Pass ⟨0, 0, 0, 0⟩)
abbrev s_E_InvalidValues : Stmt := (C8.clsBody (top 12)).getD 0 (.Pass ⟨0, 0, 0, 0⟩)
abbrev s_E_UnknownName : Stmt := (C8.clsBody (top 15)).getD 0 (.Pass ⟨0, 0, 0, 0⟩)
def fn0 : List He.DefD := [dG "is_integer" s_is_integer, dG "is_between" s_is_between, dG "is_kind" s_is_kind, dG "is_name" s_is_name, dG "has_repeats" s_has_repeats, dG "has_form" s_has_form, dG "is_pair" s_is_pair, dG "check_forms" s_check_forms]
def fn1 : List He.DefD := [dG "check_contents" s_check_contents, dG "check_columns" s_check_columns, dG "cells_by_column" s_cells_by_column, dG "lines_of" s_lines_of, dG "_law_dip" s_law_dip, dG "_law_one_of" s_law_one_of, dG "_law_jar" s_law_jar, dG "_law_labels" s_law_labels]
def fn2 : List He.DefD := [dG "_law_some_kind" s_law_some_kind, dG "_law_chart" s_law_chart, dG "_law_made" s_law_made, dG "_law_tags" s_law_tags, dG "_law_right" s_law_right, dG "law" s_law, dG "is_cell" s_is_cell, dM "__init__" "Table.__init__" s_Table_init]
def fn3 : List He.DefD := [dM "column_of" "Table.column_of" s_Table_column_of, dM "cells_of" "Table.cells_of" s_Table_cells_of, dX "InvalidValues" "__init__" "InvalidValues.__init__" s_E_InvalidValues, dX "InvalidCells" "__init__" "InvalidCells.__init__" s_E_InvalidCells, dX "UnknownName" "__init__" "UnknownName.__init__" s_E_UnknownName, dG "_law_heard" s_law_heard]
def fn : List He.DefD := fn0 ++ fn1 ++ fn2 ++ fn3
def fa0 : List He.Fa := [.glo "is_integer", .glo "is_between", .glo "is_kind", .glo "is_name", .glo "has_repeats", .glo "has_form", .glo "is_pair", .glo "check_forms", .glo "check_contents", .glo "check_columns", .glo "cells_by_column", .glo "lines_of", .glo "_law_dip", .glo "_law_one_of", .glo "_law_jar", .glo "_law_labels"]
def fa1 : List He.Fa := [.glo "_law_some_kind", .glo "_law_chart", .glo "_law_made", .glo "_law_tags", .glo "_law_right", .glo "law", .glo "is_cell", .glo "Table", .free "len", .free "int", .free "bool", .free "str", .free "tuple", .free "list", .free "dict", .free "set"]
def fa2 : List He.Fa := [.free "abs", .free "divmod", .free "isinstance", .free "repr", .free "range", .free "enumerate", .free "zip", .free "all", .free "any", .free "min", .free "max", .free "sum", .int "MOST_LETTERS" 8, .int "MOST_COLUMNS" 8, .int "MOST_SUMS" 10, .int "MOST_DATA" 24]
def fa3 : List He.Fa := [.int "MOST_DIAL" 1000000000, .int "LEAST_DIAL" 3, .str "BITS" "bits", .str "PLAIN" "plain", .cls "Table", .noat "Table" "_kind", .noat "Table" "_columns", .noat "Table" "_names", .noat "Table" "_sums", .noat "Table" "_data", .noat "Table" "_cells_of", .noat "Table" "_cells", .noat "Table" "_column_of", .noat "Table" "_lines", .meth "Table" "column_of", .meth "Table" "cells_of"]
def fa4 : List He.Fa := [.mkr "Table", .glo "InvalidValues", .glo "InvalidCells", .glo "UnknownName", .glo "_law_heard"]
def fa : List He.Fa := fa0 ++ fa1 ++ fa2 ++ fa3 ++ fa4
/-- a property's getter -/
def gAd (K : PySem.W.Frag) (m : Str) : Addr := match PySem.W.recIn K (He.ma K (He.ga K "Table") m) "property" with
  | some (.ref g :: _) => g
  | _ => 0
def prV (K : PySem.W.Frag) (m : Str) : He.FnV := match K.lookup (gAd K m) with
  | some ⟨_, _, .func fd, _⟩ => some (fd.name, fd.qualname, fd.params, fd.body, fd.scope, fd.globals, fd.closure, fd.defaults, fd.builtins)
  | _ => none
def prB (K : PySem.W.Frag) (m q : Str) : Bool := decide (PySem.W.findIn K (.ref (He.ga K "Table")) m = some (some (.ref (He.ma K (He.ga K "Table") m)))) && (decide (PySem.W.specialIn K (.ref (He.ma K (He.ga K "Table") m)) "__get__" = some (some (.builtin "property.__get__"))) &&
  (decide (PySem.W.takesIn K (.ref (He.ma K (He.ga K "Table") m)) = some true) && ((match PySem.W.recIn K (He.ma K (He.ga K "Table") m) "property" with
    | some (.ref _ :: _) => true
    | _ => false) && (match K.lookup (gAd K m) with
    | some ⟨_, _, .func fd, _⟩ => PySem.W.codeIn K fd.code q
    | _ => false))))
def prs : List (Str × Str × Stmt) := [("cells", "Table.cells", s_Table_cells), ("data", "Table.data", s_Table_data), ("sums", "Table.sums", s_Table_sums)]
def prVal (t : Str × Str × Stmt) : He.FnV := some (t.1, t.2.1, defArgs t.2.2, .stmts (defBody t.2.2), defScope t.2.2, mainGlobals, [], .none, builtinsNs)
def exB (K : PySem.W.Frag) : Bool := XV.exC K ("InvalidValues", .ve, some "index") && XV.exC K ("InvalidCells", .ve, some "index") && XV.exC K ("UnknownName", .le, some "given") && XV.xmC K ("InvalidValues", "InvalidValues", true) && XV.xmC K ("InvalidCells", "InvalidValues", false) && XV.xmC K ("InvalidCells", "InvalidCells", true) && XV.xmC K ("UnknownName", "InvalidValues", false) && XV.xmC K ("UnknownName", "InvalidCells", false) && XV.xmC K ("UnknownName", "UnknownName", true)
def prAll (K : PySem.W.Frag) : Bool := (prs.all fun t => prB K t.1 t.2.1) && exB K
def tf : List He.Defn := [("_law_right", none)]
def ads : List Addr := [3, 6, 4, 21, 28, 35, 40, 47, 64, 84, 103, 122, 141, 160, 179, 199, 208, 213, 220, 225, 230, 237, 242, 247, 254, 259, 381, 392, 399, 406, 413, 420, 427, 434, 439, 446, 453, 460, 465, 470, 0, 20, 27, 34, 39, 46, 63, 83, 102, 121, 140, 159, 178, 198, 207, 212, 219, 224, 229, 236, 241, 246, 253, 258, 380, 391, 398, 405, 412, 419, 426, 433, 438, 445, 452, 459, 464, 469, 15, 17, 18, 22, 24, 25, 29, 31, 32, 36, 41, 43, 44, 61, 62, 81, 82, 100, 101, 119, 120, 138, 139, 157, 158, 176, 177, 196, 197, 202, 204, 205, 209, 214, 216, 217, 221, 226, 231, 233, 234, 238, 243, 248, 250, 251, 255, 271, 280, 289, 297, 305, 313, 321, 329, 336, 343, 350, 357, 364, 371, 378, 379, 386, 388, 389, 393, 395, 396, 400, 402, 403, 407, 409, 410, 414, 416, 417, 421, 423, 424, 428, 430, 431, 435, 440, 442, 443, 447, 449, 450, 454, 456, 457, 461, 466, 60, 80, 99, 118, 137, 156, 175, 195, 270, 278, 279, 288, 296, 304, 312, 320, 328, 335, 342, 349, 356, 363, 370, 377, 55, 57, 58, 75, 77, 78, 94, 96, 97, 113, 115, 116, 132, 134, 135, 151, 153, 154, 170, 172, 173, 190, 192, 193, 267, 277, 281, 287, 295, 303, 311, 319, 327, 330, 332, 333, 337, 339, 340, 344, 346, 347, 351, 353, 354, 358, 360, 361, 365, 367, 368, 372, 374, 375]
def hk : PySem.W.Hook where
  α := He.AlD × Bool × List He.FnV
  obs := fun s => (He.obsD fa fn (He.frT s.heap.get? ads), prAll (He.frT s.heap.get? ads) && He.tabsB s.heap.get? tf (He.frT s.heap.get? ads), prs.map fun t => prV (He.frT s.heap.get? ads) t.1)
  val := fun _ => (He.valD fn, true, prs.map prVal)
  says := fun _ h => ∃ K : PySem.W.Frag, K.In h ∧ He.SaysD fa fn K ∧ prAll K = true ∧ (prs.map fun t => prV K t.1) = prs.map prVal ∧ BV.TabsIn tf h K
  of := fun _ s e => ⟨He.frT s.heap.get? ads, He.frT_in, congrArg Prod.fst e, (Bool.and_eq_true_iff.mp (congrArg (fun x => x.2.1) e)).1, congrArg (fun x => x.2.2) e, BV.tabs_in (Bool.and_eq_true_iff.mp (congrArg (fun x => x.2.1) e)).2⟩
  keeps := fun _ _ _ ⟨K, hK, c1, c2, c3, c4⟩ k => ⟨K, PySem.W.Frag.In.keeps hK k, c1, c2, c3, c4.keeps k⟩
def ob (s : PySem.W.SharedT) : He.AlD × Bool × List He.FnV := (He.obsD fa fn (He.frT (HandSHeadRun.getT s) ads), prAll (He.frT (HandSHeadRun.getT s) ads) && He.tabsB (HandSHeadRun.getT s) tf (He.frT (HandSHeadRun.getT s) ads), prs.map fun t => prV (He.frT (HandSHeadRun.getT s) ads) t.1)
theorem ob_eq (s : PySem.W.SharedT) : ob s = hk.obs s.abs := by
  have e : HandSHeadRun.getT s = s.abs.heap.get? := funext (HandSHeadRun.getT_eq s)
  unfold ob
  rw [e]
  rfl
end K08
end
section
set_option Elab.async false
set_option linter.all false
set_option maxRecDepth 100000
set_option maxHeartbeats 0
namespace K08
open PySem PySem.Spec PyProof.Rows L2 Evl TX
open C8 (Cal pe_c pe_gc)
abbrev R : PySem.W.OpenRow := PySem.W.OpenLaw.row PySem.Challenge.rw_pairsums_k08_cells_and_columns
def nm0 : List Str := ["_wall", "is_integer", "is_between", "is_name", "has_repeats", "WrongValue", "InvalidText", "InvalidKind", "InvalidColumns", "InvalidValues", "InvalidCells", "WrongName", "UnknownName", "is_kind", "check_columns"]
def nm1 : List Str := ["check_forms", "has_form", "check_contents", "is_pair", "cells_by_column", "lines_of", "kind_of_line", "columns_of_lines", "Table", "table_with", "is_cell", "_law_dip", "_law_one_of", "_law_labels", "_law_some_kind"]
def nm2 : List Str := ["_law_chart", "_law_made", "_law_tags", "_law_heard", "_law_jar", "_law_right", "MOST_LETTERS", "MOST_COLUMNS", "MOST_SUMS", "MOST_DATA", "MOST_DIAL", "BITS", "PLAIN", "LEAST_DIAL"]
def names : List Str := nm0 ++ nm1 ++ nm2
theorem run (w : World) : HandSHeadRun.RunEq R (PySem.W.view R.prog [50]) hk ob 60000 names w := by
  intro os
  kernel_rfl
end K08
end
section
set_option Elab.async false
set_option linter.all false
set_option maxRecDepth 100000
set_option maxHeartbeats 4000000
namespace K08
open PySem PySem.Spec PyProof.Rows L2 Evl TX
open C8 (Cal pe_c pe_gc)
abbrev FnP (K : PySem.W.Frag) (x : Str) (st : Stmt) (f : Addr) (fd : FuncData) : Prop := FunD K x x (defArgs st) (defBody st) (defScope st) [] [] f fd
structure Tops (mg : Str → Option Value) : Prop where
  n_len : mg "len" = none
  n_int : mg "int" = none
  n_bool : mg "bool" = none
  n_str : mg "str" = none
  n_tuple : mg "tuple" = none
  n_list : mg "list" = none
  n_dict : mg "dict" = none
  n_set : mg "set" = none
  n_abs : mg "abs" = none
  n_divmod : mg "divmod" = none
  n_isinstance : mg "isinstance" = none
  n_repr : mg "repr" = none
  n_range : mg "range" = none
  n_enumerate : mg "enumerate" = none
  n_zip : mg "zip" = none
  n_all : mg "all" = none
  n_any : mg "any" = none
  n_min : mg "min" = none
  n_max : mg "max" = none
  n_sum : mg "sum" = none
  c_MOST_LETTERS : ∃ u, mg "MOST_LETTERS" = some u ∧ RelV (.int 8) u
  c_MOST_COLUMNS : ∃ u, mg "MOST_COLUMNS" = some u ∧ RelV (.int 8) u
  c_MOST_SUMS : ∃ u, mg "MOST_SUMS" = some u ∧ RelV (.int 10) u
  c_MOST_DATA : ∃ u, mg "MOST_DATA" = some u ∧ RelV (.int 24) u
  c_MOST_DIAL : ∃ u, mg "MOST_DIAL" = some u ∧ RelV (.int 1000000000) u
  c_BITS : ∃ u, mg "BITS" = some u ∧ RelV (.str "bits") u
  c_PLAIN : ∃ u, mg "PLAIN" = some u ∧ RelV (.str "plain") u
  c_LEAST_DIAL : ∃ u, mg "LEAST_DIAL" = some u ∧ RelV (.int 3) u
/-- what never runs -/
theorem ps_dead {X : Cx} {st : Stmt} : PS X st (fun _ _ _ => False) := ⟨fun _ _ _ _ _ _ h => h.elim⟩
/-- a def that gives z, all that stood stays -/
def pSp (R : List V → Hp → V → Prop) : Sp := fun vs H Q _ => ∃ z, R vs H z ∧ ∀ H', Ex H H' → Q z H'
/-- .. that gives data -/
def dSp (R : List V → Hp → PyData → Prop) : Sp := fun vs H Q _ => ∃ d, R vs H d ∧ ∀ v H', Ex H H' → Rep H' v d → Q v H'
theorem ev_pc {R : List V → Hp → V → Prop} {σ : L2.St} {H : Hp} {E : XK} {ta : TA} {vs : List V} {z : V} (h : EvA ta σ H vs) (hr : ∀ H1, Ex H H1 → R vs H1 z) : Ev (tCall (pSp R) [] E ta) σ H z := fun H1 e Q q =>
  h H1 e _ fun H2 e2 => ⟨z, by rw [List.append_nil]; exact hr H2 (e.trans e2), fun H3 e3 => q H3 (e2.trans e3)⟩
theorem er_dc {R : List V → Hp → PyData → Prop} {σ : L2.St} {H : Hp} {E : XK} {ta : TA} {vs : List V} {d : PyData} (h : EvA ta σ H vs) (hr : ∀ H1, Ex H H1 → R vs H1 d) : EvR (tCall (dSp R) [] E ta) σ H d := fun H1 e Q q =>
  h H1 e _ fun H2 e2 => ⟨d, by rw [List.append_nil]; exact hr H2 (e.trans e2), fun v H3 e3 r => q v H3 (e2.trans e3) r⟩
/-- isinstance of a value whose type is known -/
theorem ev_isi {K : PySem.W.Frag} {σ : L2.St} {H : Hp} {ta tb : TE} {x : V} {t u : String} {b : Bool} (ha : Ev ta σ H x) (hb : Ev tb σ H (.ty u)) (ht : ∀ H1, Ex H H1 → TyOf K H1 x (.type t)) (hk : kitB t u = some b) : Ev (tCB (rIsi K) (tCons ta (tCons tb tNil))) σ H (.bl b) :=
  ev_cb (ea_cons ha (ea_cons hb ea_nil)) fun H1 e Q q => ⟨x, .ty u, .type t, .type u, b, rfl, .ty u, .base (ht H1 e), kit_ty hk, q H1 (Ex.refl H1)⟩
theorem ty_tup {K : PySem.W.Frag} {H : Hp} {a : Addr} {xs : List V} (h : H a = some (.tup xs)) : ∀ H1, Ex H H1 → TyOf K H1 (.ref a) (.type "tuple") := fun H1 e => .tup (e _ _ h)
theorem ev_chain {σ : L2.St} {H : Hp} {ta tb tc : TE} {r r' : R2} {x y z : V} {a b : Bool} (ha : Ev ta σ H x) (hb : Ev tb σ H y) (hc : Ev tc σ H z) (h1 : RV r x y H (.bl a)) (h2 : a = true → RV r' y z H (.bl b)) : Ev (tChain r r' ta tb tc) σ H (.bl (a && b)) := fun H1 e Q q =>
  ha H1 e _ fun H2 e2 => hb H2 (e.trans e2) _ fun H3 e3 => h1 H3 ((e.trans e2).trans e3) _ fun H4 e4 => ⟨a, rfl, by
    cases a with
    | true =>
      show tc σ H4 _
      exact hc H4 (((e.trans e2).trans e3).trans e4) _ fun H5 e5 => h2 rfl H5 ((((e.trans e2).trans e3).trans e4).trans e5) Q fun H6 e6 => q H6 ((((e2.trans e3).trans e4).trans e5).trans e6)
    | false => exact q H4 ((e2.trans e3).trans e4)⟩
/-! ### kinds -/
inductive Kd
  | bits | plain | dial (m : Int)
def Kd.v : Kd → V
  | .bits => .str "bits" | .plain => .str "plain" | .dial m => .int m
def Kd.ok : Kd → Prop
  | .bits => True | .plain => True | .dial m => 3 ≤ m ∧ m ≤ 1000000000
/-- whether a name -/
def isName (z : Str) : Bool := decide (1 ≤ z.length ∧ z.length ≤ 8) && z.cps.toList.all fun c => decide (97 ≤ c ∧ c ≤ 122)
section
variable {P : Program} {w : World} {K : PySem.W.Frag} {mg : Str → Option Value} {base : Heap} {f : Addr} {fd : FuncData}
def rInt : List V → Hp → V → Prop := fun vs _ z => ∃ i : Int, vs = [.int i] ∧ z = .bl true
abbrev sc_is_integer_N : List Str := ["value"]
theorem sc_is_integer : FnScope sc_is_integer_N ["value"] (defScope s_is_integer) := ⟨rfl, rfl, rfl, by decide +kernel, rfl, by decide +kernel, by decide +kernel⟩
theorem ok_int (F : FnP K "is_integer" s_is_integer f fd) (T : Tops mg)  : FnOk P w K mg base CX0 1 f fd ["value"] (pSp rInt) := by
  refine F.ok sc_is_integer (fun vs H Q E h => ?_) (fun cdv A outer s H vs Q E hr h => ?_)
  · obtain ⟨z, ⟨i, rfl, _⟩, _⟩ := h; rfl
  · obtain ⟨z, ⟨i, rfl, rfl⟩, k⟩ := h
    refine ⟨_, PSs.nox (pss_one (ps_ret (pe_and (pe_callB call_isi (by rfl) T.n_isinstance (by decide +kernel) (pa_cons (pv 0) (pa_cons (pe_bltn (v := .ty "int") (by rfl) T.n_int (by decide +kernel) rfl) pa_nil))) (pe_one (pe_not (pe_callB call_isi (by rfl) T.n_isinstance (by decide +kernel) (pa_cons (pv 0) (pa_cons (pe_bltn (v := .ty "bool") (by rfl) T.n_bool (by decide +kernel) rfl) pa_nil)))))))), ?_⟩
    refine s_ret (v := .bl true) (ev_is (ev_andV (ev_isi (K := K) (t := "int") (u := "int") (b := true) (ev_var rfl) ev_c (fun _ _ => .int i) (by decide +kernel)) fun _ => ev_notV (ev_isi (K := K) (t := "int") (u := "bool") (b := false) (ev_var rfl) ev_c (fun _ _ => .int i) (by decide +kernel))) rfl) fun H1 e => k H1 e
def rBetw : List V → Hp → V → Prop := fun vs _ z => ∃ i l h : Int, vs = [.int i, .int l, .int h] ∧ z = .bl (decide (l ≤ i) && decide (i ≤ h))
abbrev sc_is_between_N : List Str := ["value", "low", "high"]
theorem sc_is_between : FnScope sc_is_between_N ["value", "low", "high"] (defScope s_is_between) := ⟨rfl, rfl, rfl, by decide +kernel, rfl, by decide +kernel, by decide +kernel⟩
theorem ok_betw (F : FnP K "is_between" s_is_between f fd) (T : Tops mg) (C_is_integer : Cal P w K mg base 1 "is_integer" (pSp rInt) []) : FnOk P w K mg base CX0 2 f fd ["value", "low", "high"] (pSp rBetw) := by
  refine F.ok sc_is_between (fun vs H Q E h => ?_) (fun cdv A outer s H vs Q E hr h => ?_)
  · obtain ⟨z, ⟨i, l, m, rfl, _⟩, _⟩ := h; rfl
  · obtain ⟨z, ⟨i, l, m, rfl, rfl⟩, k⟩ := h
    refine ⟨_, PSs.nox (pss_one (ps_ret (pe_and (pe_c C_is_integer hr (by decide) rfl (pa_cons (pv 0) pa_nil)) (pe_one (pe_chain op_le op_le (pv 1) (pv 0) (pv 2)))))), ?_⟩
    refine s_ret (ev_is (ev_andV (ev_pc (ea_cons (ev_var rfl) ea_nil) fun _ _ => ⟨i, rfl, rfl⟩) fun _ => ev_chain (ev_var rfl) (ev_var rfl) (ev_var rfl) rv_I0 fun _ => rv_I0) rfl) fun H1 e => k H1 e
def rKind : List V → Hp → V → Prop := fun vs _ z => ∃ k : Kd, vs = [k.v] ∧ k.ok ∧ z = .bl true
abbrev sc_is_kind_N : List Str := ["value"]
theorem sc_is_kind : FnScope sc_is_kind_N ["value"] (defScope s_is_kind) := ⟨rfl, rfl, rfl, by decide +kernel, rfl, by decide +kernel, by decide +kernel⟩
theorem ok_kind (F : FnP K "is_kind" s_is_kind f fd) (T : Tops mg) (C_is_between : Cal P w K mg base 2 "is_between" (pSp rBetw) []) : FnOk P w K mg base CX0 3 f fd ["value"] (pSp rKind) := by
  refine F.ok sc_is_kind (fun vs H Q E h => ?_) (fun cdv A outer s H vs Q E hr h => ?_)
  · obtain ⟨z, ⟨i, rfl, _⟩, _⟩ := h; rfl
  · obtain ⟨z, ⟨i, rfl, hk, rfl⟩, k⟩ := h
    refine ⟨_, PSs.nox (pss_cons (ps_if (pt_val (pe_callB call_isi (by rfl) T.n_isinstance (by decide +kernel) (pa_cons (pv 0) (pa_cons (pe_bltn (v := .ty "str") (by rfl) T.n_str (by decide +kernel) rfl) pa_nil))))
  (pss_one (ps_ret (pe_or (pe_cmpR op_eq (pv 0) (pe_gc (by rfl) T.c_BITS) (nomark _)) (pe_one (pe_cmpR op_eq (pv 0) (pe_gc (by rfl) T.c_PLAIN) (nomark _))))))
  pss_nil)
  (pss_one (ps_ret (pe_c C_is_between hr (by decide) rfl (pa_cons (pv 0) (pa_cons (pe_gc (by rfl) T.c_LEAST_DIAL) (pa_cons (pe_gc (by rfl) T.c_MOST_DIAL) pa_nil))))))), ?_⟩
    cases i with
    | bits =>
      refine q_if (b := true) (et_B (ev_isi (K := K) (t := "str") (u := "str") (ev_var rfl) ev_c (fun _ _ => .str _) (by decide +kernel))) (fun _ H1 e1 => ?_) (fun z => (nomatch z))
      exact s_ret (v := .bl true) (ev_is (ev_orV (b := true) (ev_op (ev_var rfl) ev_c (rv_eq rfl)) fun z => absurd z (by decide)) rfl) fun H2 e2 => k H2 (e1.trans e2)
    | plain =>
      refine q_if (b := true) (et_B (ev_isi (K := K) (t := "str") (u := "str") (ev_var rfl) ev_c (fun _ _ => .str _) (by decide +kernel))) (fun _ H1 e1 => ?_) (fun z => (nomatch z))
      exact s_ret (v := .bl true) (ev_is (ev_orV (ev_op (ev_var rfl) ev_c (rv_eq rfl)) fun _ => ev_op (ev_var rfl) ev_c (rv_eq rfl)) (by decide +kernel)) fun H2 e2 => k H2 (e1.trans e2)
    | dial m =>
      refine q_when (b := false) (et_B (ev_isi (K := K) (t := "int") (u := "str") (ev_var rfl) ev_c (fun _ _ => .int _) (by decide +kernel))) (fun z => (nomatch z)) (fun _ H1 e1 => ?_)
      obtain ⟨h1, h2⟩ := hk
      exact s_ret (v := .bl true) (ev_is (ev_pc (ea_cons (ev_var rfl) (ea_cons ev_c (ea_cons ev_c ea_nil))) fun _ _ => ⟨m, 3, 1000000000, rfl, rfl⟩) (by rw [decide_eq_true h1, decide_eq_true h2]; rfl)) fun H2 e2 => k H2 (e1.trans e2)
theorem lt1 {a b : Nat} : (([a] : List Nat) < [b]) ↔ a < b := by simp [List.cons_lt_cons_iff]
def rLeS : R2 := fun x y H Q => ∃ i j, x = .str i ∧ y = .str j ∧ Q (.bl (!decide (j.cps.toList < i.cps.toList))) H
def rName : List V → Hp → V → Prop := fun vs _ z => ∃ x : Str, vs = [.str x] ∧ isName x = true ∧ z = .bl true
abbrev sc_is_name_N : List Str := ["value", "letter"]
theorem sc_is_name : FnScope sc_is_name_N ["value"] (defScope s_is_name) := ⟨rfl, rfl, rfl, by decide +kernel, rfl, by decide +kernel, by decide +kernel⟩
theorem ok_name (F : FnP K "is_name" s_is_name f fd) (T : Tops mg)  : FnOk P w K mg base CX0 1 f fd ["value"] (pSp rName) := by
  refine F.ok sc_is_name (fun vs H Q E h => ?_) (fun cdv A outer s H vs Q E hr h => ?_)
  · obtain ⟨z, ⟨i, rfl, _⟩, _⟩ := h; rfl
  · obtain ⟨z, ⟨x, rfl, hx, rfl⟩, k⟩ := h
    refine ⟨_, PSs.nox (pss_cons (ps_if (PW.pt (pw_or (pt_not (pt_val (pe_callB call_isi (by rfl) T.n_isinstance (by decide +kernel) (pa_cons (pv 0) (pa_cons (pe_bltn (v := .ty "str") (by rfl) T.n_str (by decide +kernel) rfl) pa_nil))))) (pw_or1 (pt_not (pt_chain op_le op_le pe_int (pe_callB call_len_str (by rfl) T.n_len PySem.boot_len (pa_cons (pv 0) pa_nil)) (pe_gc (by rfl) T.c_MOST_LETTERS))))))
  (pss_one (ps_ret pe_bl))
  pss_nil)
  (pss_one (ps_ret (pe_callB (cr_all rfl) (by rfl) T.n_all (by decide +kernel) (pa_cons (pe_lc (own := [("letter", 1)]) (g := gName 1) (tt := tYes) rfl sc_is_name.nd (pi_str (pv 0)) (blkOk_by (own := [("letter", 1)]) (N := sc_is_name_N) (sc := defScope s_is_name) (by decide +kernel)) (fun _ _ _ _ _ => (pg_name (i := 1) sc_is_name.nd rfl (.inl rfl))) (fun _ _ _ _ _ => pts_nil) (fun _ _ _ _ _ => (pe_chain op_le_str op_le_str pe_str (pv 1) pe_str))) pa_nil))))), ?_⟩
    obtain ⟨h1, h2⟩ := Bool.and_eq_true_iff.mp hx
    have h1 := of_decide_eq_true h1
    refine q_when (b := false) (et_is (et_or (et_not (et_B (ev_isi (K := K) (t := "str") (u := "str") (b := true) (ev_var rfl) ev_c (fun _ _ => .str _) (by decide +kernel)))) fun _ => et_not (et_test (ev_chain (y := .int x.length) ev_c (ev_cb (ea_cons (ev_var rfl) ea_nil) fun H1 e Q q => ⟨x, rfl, sz_of (by omega), q H1 (Ex.refl H1)⟩) ev_c rv_I0 fun _ => rv_I0))) (by
      rw [decide_eq_true (show (1 : Int) ≤ x.length by omega), decide_eq_true (show (x.length : Int) ≤ 8 by omega)]; rfl)) (fun z => (nomatch z)) fun _ H1 e1 => ?_
    have hl := es_lc (te := tChain rLeS rLeS (tC (.str "a")) (tVar 1) (tC (.str "z"))) (t := tYes) (g := gName 1) (vs := [1]) (wi := iStr (tVar 0)) (σ := start sc_is_name_N [.str x]) (H := H1) (walk_str (z := x)) (by have := h1.2; show x.cps.size ≤ 40000; have e : x.length = x.cps.size := rfl; omega)
      (fun i => (start sc_is_name_N [.str x]).set 1 (some (.str ⟨#[x.cps.getD i 0]⟩))) (fun _ => true) (fun _ => .bool true) (fun H2 e2 R r => ⟨.str x, rfl, x, rfl, r H2 (Ex.refl H2) True.intro⟩) (fun _ _ _ q => q) (fun _ _ => rfl)
      (fun i y H2 H3 R hi e2 _ ⟨e3, c, hc, ey⟩ r => by
        subst e3 ey
        have : x.cps.getD i 0 = c := by rw [Array.getD_eq_getD_getElem?, hc]; rfl
        have q := r _ (Ex.refl _)
        rw [this] at q
        exact q)
      (fun _ H2 _ _ H3 _ Q q => q H3 (Ex.refl H3))
      (fun i H2 hi e2 _ => er_ev (v := .bl true) (ev_is (ev_chain (a := true) (b := true) ev_c (ev_var rfl) ev_c (fun H3 e3 Q q => ⟨_, _, rfl, rfl, ?_⟩) fun _ H3 e3 Q q => ⟨_, _, rfl, rfl, ?_⟩) rfl) (.bl true))
    · refine s_ret (ev_is (ev_allR (bs := (List.range x.cps.size).map fun _ => true) (by rw [TX.filter_all] at hl; rw [List.map_map]; exact hl)) (v := .bl (((List.range x.cps.size).map fun _ => true).all id)) (w := .bl true) (congrArg V.bl (by rw [List.all_eq_true]; intro y hy; obtain ⟨_, _, rfl⟩ := List.mem_map.mp hy; rfl))) fun H2 e2 => k H2 (e1.trans e2)
    all_goals
      have hm : x.cps.getD i 0 ∈ x.cps.toList := by
        rw [Array.getD_eq_getD_getElem?, Array.getElem?_eq_getElem hi]
        exact Array.mem_toList_iff.mpr (Array.getElem_mem hi)
      have hb := of_decide_eq_true (List.all_eq_true.mp h2 _ hm)
    · have e : (!decide ((#[x.cps.getD i 0] : Array Nat).toList < (Str.ofString "a").cps.toList)) = true := by
        have e2 : (Str.ofString "a").cps.toList = [97] := by decide +kernel
        rw [e2, decide_eq_false (fun z => by have := lt1.mp z; omega)]; rfl
      rw [e]
      exact q H3 (Ex.refl H3)
    · have e : (!decide ((Str.ofString "z").cps.toList < (#[x.cps.getD i 0] : Array Nat).toList)) = true := by
        have e2 : (Str.ofString "z").cps.toList = [122] := by decide +kernel
        rw [e2, decide_eq_false (fun z => by have := lt1.mp z; omega)]; rfl
      rw [e]
      exact q H3 (Ex.refl H3)
def rRep (K : PySem.W.Frag) : List V → Hp → V → Prop := fun vs H z => ∃ (l : Addr) (xs : List Str), vs = [.ref l] ∧ SqL K H l (xs.map V.str) ∧ xs.length ≤ 1000 ∧ z = .bl (decide ((ST.cn xs xs.length : Int) < (xs.length : Int)))
abbrev sc_has_repeats_N : List Str := ["words"]
theorem sc_has_repeats : FnScope sc_has_repeats_N ["words"] (defScope s_has_repeats) := ⟨rfl, rfl, rfl, by decide +kernel, rfl, by decide +kernel, by decide +kernel⟩
theorem ok_reps (F : FnP K "has_repeats" s_has_repeats f fd) (T : Tops mg)  : FnOk P w K mg base CX0 1 f fd ["words"] (pSp (rRep K)) := by
  refine F.ok sc_has_repeats (fun vs H Q E h => ?_) (fun cdv A outer s H vs Q E hr h => ?_)
  · obtain ⟨z, ⟨i, xs, rfl, _⟩, _⟩ := h; rfl
  · obtain ⟨z, ⟨l, xs, rfl, hl, hz, rfl⟩, k⟩ := h
    refine ⟨_, PSs.nox (pss_one (ps_ret (pe_cmpR op_lt (ST.pe_lenSetS rfl (by rfl) T.n_len (by rfl) T.n_set (pv 0)) (pe_callB call_len_seq (by rfl) T.n_len PySem.boot_len (pa_cons (pv 0) pa_nil)) (nomark _)))), ?_⟩
    refine s_ret (ev_is (ev_op (x := .int (ST.cn xs xs.length)) (fun H1 e Q q => ⟨.ref l, rfl, l, xs, rfl, ex_l e hl, hz, q H1 (Ex.refl H1)⟩) (ev_len (ev_var rfl) hl) rv_I0) (by rw [List.length_map])) fun H1 e => k H1 e
def okV : Kd → Int → Int → Bool
  | .bits, i, _ => decide (0 ≤ i) && decide (i ≤ 1152921504606846975)
  | .plain, i, b => decide (-b ≤ i) && decide (i ≤ b)
  | .dial m, i, _ => decide (0 ≤ i) && decide (i ≤ m - 1)
def tog : Kd → List Int → Int
  | .bits, ns => ns.foldl (fun a b => Builtin.bitXor a b) 0
  | .plain, ns => ns.sum
  | .dial m, ns => ns.sum % m
end
end K08
end
section
set_option Elab.async false
set_option linter.all false
set_option maxRecDepth 100000
set_option maxHeartbeats 4000000
namespace K08
open PySem PySem.Spec PyProof.Rows L2 Evl TX
open C8 (Cal pe_c pe_gc)
/-! ### columns -/
structure Col where
  nm : Str
  sums : List Str
  data : List (Str × Str)
def pairD (p : Str × Str) : PyData := .tuple [.str p.1, .str p.2]
def colD (c : Col) : PyData := .tuple [.str c.nm, .tuple (c.sums.map PyData.str), .tuple (c.data.map pairD)]
def colsD (cs : List Col) : PyData := .tuple (cs.map colD)
def sumsOf (cs : List Col) : List Str := cs.flatMap (·.sums)
def dataOf (cs : List Col) : List (Str × Str) := cs.flatMap (·.data)
def pairOk (S : List Str) (p : Str × Str) : Prop := p.1 ∈ S ∧ p.2 ∈ S ∧ p.1.cps.toList < p.2.cps.toList
structure Good (cs : List Col) : Prop where
  ne : cs ≠ []
  len : cs.length ≤ 8
  nms : ∀ c ∈ cs, isName c.nm = true
  sms : ∀ c ∈ cs, ∀ w ∈ c.sums, isName w = true
  nd : (cs.map (·.nm)).Nodup
  snd : (sumsOf cs).Nodup
  sne : sumsOf cs ≠ []
  slen : (sumsOf cs).length ≤ 10
  dlen : (dataOf cs).length ≤ 24
  prs : ∀ c ∈ cs, ∀ p ∈ c.data, pairOk (sumsOf cs) p
theorem sums_take (cs : List Col) (i : Nat) (c : Col) (h : cs[i]? = some c) : sumsOf (cs.take (i + 1)) = sumsOf (cs.take i) ++ c.sums := by
  unfold sumsOf
  rw [List.take_succ, h, List.flatMap_append]
  simp
theorem data_take (cs : List Col) (i : Nat) (c : Col) (h : cs[i]? = some c) : dataOf (cs.take (i + 1)) = dataOf (cs.take i) ++ c.data := by
  unfold dataOf
  rw [List.take_succ, h, List.flatMap_append]
  simp
theorem flat_sub {α : Type} {f : Col → List α} (cs : List Col) (i : Nat) : ((cs.take i).flatMap f).Sublist (cs.flatMap f) := by
  have e : cs.flatMap f = (cs.take i).flatMap f ++ (cs.drop i).flatMap f := by rw [← List.flatMap_append, List.take_append_drop]
  rw [e]
  exact List.sublist_append_left _ _
theorem Reps.cols {H : Hp} {cs : List Col} {xs : List V} (r : Reps H xs (cs.map colD)) {i : Nat} {x : V} (h : xs[i]? = some x) : ∃ c, cs[i]? = some c ∧ Rep H x (colD c) := by
  obtain ⟨d, hd, rd⟩ := r.at h
  rw [List.getElem?_map] at hd
  obtain ⟨c, h1, h2⟩ := Option.map_eq_some_iff.mp hd
  exact ⟨c, h1, by rw [h2]; exact rd⟩
theorem Rep.col {H : Hp} {v : V} {c : Col} (r : Rep H v (colD c)) : ∃ a s d ds, v = .ref a ∧ H a = some (.tup [.str c.nm, .ref s, .ref d]) ∧ H s = some (.tup (c.sums.map V.str)) ∧ H d = some (.tup ds) ∧ Reps H ds (c.data.map pairD) := by
  obtain ⟨a, x, y, z, rfl, h, h1, h2, h3⟩ := Rep.three r
  obtain ⟨s, ss, rfl, hs, rs⟩ := h2.tup_inv
  obtain ⟨d, ds, rfl, hd, rd⟩ := h3.tup_inv
  rw [h1.str_inv] at h
  rw [rs.strs] at hs
  exact ⟨a, s, d, ds, rfl, h, hs, hd, rd⟩
theorem Rep.prt {H : Hp} {v : V} {p : Str × Str} (r : Rep H v (pairD p)) : ∃ a, v = .ref a ∧ H a = some (.tup [.str p.1, .str p.2]) := by
  obtain ⟨a, x, y, rfl, h, h1, h2⟩ := Rep.two r
  rw [h1.str_inv, h2.str_inv] at h
  exact ⟨a, rfl, h⟩
theorem all_true {α : Type} (xs : List α) : ((xs.map fun _ => true).all id) = true := by
  rw [List.all_eq_true]
  intro y hy
  obtain ⟨_, _, rfl⟩ := List.mem_map.mp hy
  rfl
theorem map_bool (n : Nat) : (List.range n).map (fun _ => PyData.bool true) = ((List.range n).map fun _ => true).map PyData.bool := by rw [List.map_map]; rfl
section
variable {P : Program} {w : World} {K : PySem.W.Frag} {mg : Str → Option Value} {base : Heap} {f : Addr} {fd : FuncData}
def rForm : List V → Hp → V → Prop := fun vs H z => ∃ (v : V) (c : Col), vs = [v] ∧ Rep H v (colD c) ∧ isName c.nm = true ∧ (∀ w ∈ c.sums, isName w = true) ∧ c.sums.length ≤ 1000 ∧ z = .bl true
abbrev sc_has_form_N : List Str := ["column", "name", "sums", "data", "word"]
theorem sc_has_form : FnScope sc_has_form_N ["column"] (defScope s_has_form) := ⟨rfl, rfl, rfl, by decide +kernel, rfl, by decide +kernel, by decide +kernel⟩
theorem ok_form (F : FnP K "has_form" s_has_form f fd) (T : Tops mg) (C_is_name : Cal P w K mg base 1 "is_name" (pSp rName) []) : FnOk P w K mg base CX0 2 f fd ["column"] (pSp rForm) := by
  refine F.ok sc_has_form (fun vs H Q E h => ?_) (fun cdv A outer s H vs Q E hr h => ?_)
  · obtain ⟨z, ⟨v, c, rfl, _⟩, _⟩ := h; rfl
  · obtain ⟨z, ⟨v, c, rfl, r, hn, hs, hz, rfl⟩, k⟩ := h
    refine ⟨_, PSs.nox (pss_cons (ps_if (PW.pt (pw_or (pt_not (pt_val (pe_callB call_isi (by rfl) T.n_isinstance (by decide +kernel) (pa_cons (pv 0) (pa_cons (pe_bltn (v := .ty "tuple") (by rfl) T.n_tuple (by decide +kernel) rfl) pa_nil))))) (pw_or1 (pt_cmpR op_ne (pe_callB call_len_seq (by rfl) T.n_len PySem.boot_len (pa_cons (pv 0) pa_nil)) pe_int (nomark _)))))
  (pss_one (ps_ret pe_bl))
  pss_nil)
  (pss_cons (ps_asg (pv 0) (pg_tup rfl (pgs_cons (pg_name (i := 1) sc_has_form.nd rfl (.inl rfl)) (pgs_cons (pg_name (i := 2) sc_has_form.nd rfl (.inl rfl)) (pgs_cons (pg_name (i := 3) sc_has_form.nd rfl (.inl rfl)) pgs_nil)))))
  (pss_cons (ps_if (PW.pt (pw_or (pt_not (pt_val (pe_c C_is_name hr (by decide) rfl (pa_cons (pv 1) pa_nil)))) (pw_or (pt_not (pt_val (pe_callB call_isi (by rfl) T.n_isinstance (by decide +kernel) (pa_cons (pv 2) (pa_cons (pe_bltn (v := .ty "tuple") (by rfl) T.n_tuple (by decide +kernel) rfl) pa_nil))))) (pw_or1 (pt_not (pt_val (pe_callB call_isi (by rfl) T.n_isinstance (by decide +kernel) (pa_cons (pv 3) (pa_cons (pe_bltn (v := .ty "tuple") (by rfl) T.n_tuple (by decide +kernel) rfl) pa_nil)))))))))
  (pss_one (ps_ret pe_bl))
  pss_nil)
  (pss_one (ps_ret (pe_callB (cr_all rfl) (by rfl) T.n_all (by decide +kernel) (pa_cons (pe_lc (own := [("word", 4)]) (g := gName 4) (tt := tYes) rfl sc_has_form.nd (pi_tup (pv 2)) (blkOk_by (own := [("word", 4)]) (N := sc_has_form_N) (sc := defScope s_has_form) (by decide +kernel)) (fun _ _ _ _ _ => (pg_name (i := 4) sc_has_form.nd rfl (.inl rfl))) (fun _ _ _ _ _ => pts_nil) (fun _ _ _ _ _ => (pe_c C_is_name hr (by decide) rfl (pa_cons (pv 4) pa_nil)))) pa_nil))))))), ?_⟩
    obtain ⟨a, s, d, ds, rfl, ha, hs1, hd, rd⟩ := Rep.col r
    refine q_when (b := false) (et_is (et_or (et_not (et_B (ev_isi (K := K) (t := "tuple") (u := "tuple") (b := true) (ev_var rfl) ev_c (ty_tup ha) (by decide +kernel)))) fun _ => et_test (ev_op (ev_lenR (K := K) (er_var rfl r)) ev_c (rv_ne rfl))) (by simp)) (fun z => (nomatch z)) fun _ H1 e1 => ?_
    refine q_unp3 (K := K) (ev_var rfl) (e1 _ _ ha) fun H2 e2 => ?_
    have e12 := e1.trans e2
    refine q_when (b := false) (et_is (et_or (et_not (et_B (ev_pc (ea_cons (ev_var rfl) ea_nil) fun _ _ => ⟨_, rfl, hn, rfl⟩))) fun _ => et_or (et_not (et_B (ev_isi (K := K) (t := "tuple") (u := "tuple") (b := true) (ev_var rfl) ev_c (ty_tup (e12 _ _ hs1)) (by decide +kernel)))) fun _ => et_not (et_B (ev_isi (K := K) (t := "tuple") (u := "tuple") (b := true) (ev_var rfl) ev_c (ty_tup (e12 _ _ hd)) (by decide +kernel)))) rfl) (fun z => (nomatch z)) fun _ H3 e3 => ?_
    have e13 := e12.trans e3
    have hl := es_lcT1 (K := K) (te := tCall (pSp rName) [] C8.E0 (tCons (tVar 4) tNil)) (g := gName 4) (vs := [4]) (tl := tVar 2) (σ := [some (.ref a), some (.str c.nm), some (.ref s), some (.ref d), none]) (H := H3) (ev_var rfl) (e13 _ _ hs1) (by rw [List.length_map]; omega)
      (fun i => [some (.ref a), some (.str c.nm), some (.ref s), some (.ref d), (c.sums.map V.str)[i]?]) (fun _ => .bool true) (fun _ _ => rfl) (fun i x H4 R hi e4 r => by rw [hi] at r; exact r)
      (fun i x H4 hi e4 => by
        rw [List.getElem?_map] at hi
        obtain ⟨w, h1, h2⟩ := Option.map_eq_some_iff.mp hi
        exact er_ev (ev_pc (vs := [.str w]) (z := .bl true) (ea_cons (ev_var (by rw [List.getElem?_map, h1]; rfl)) ea_nil) fun _ _ => ⟨w, rfl, hs w (List.mem_of_getElem? h1), rfl⟩) (.bl true))
    rw [map_bool] at hl
    exact s_ret (v := .bl true) (ev_is (ev_allR (K := K) hl) (congrArg V.bl (all_true _))) fun H4 e4 => k H4 (e13.trans e4)
def rPair (K : PySem.W.Frag) : List V → Hp → V → Prop := fun vs H z => ∃ (v : V) (l : Addr) (p : Str × Str) (S : List Str), vs = [v, .ref l] ∧ Rep H v (pairD p) ∧ SqL K H l (S.map V.str) ∧ pairOk S p ∧ z = .bl true
abbrev sc_is_pair_N : List Str := ["datum", "sums", "one", "other"]
theorem sc_is_pair : FnScope sc_is_pair_N ["datum", "sums"] (defScope s_is_pair) := ⟨rfl, rfl, rfl, by decide +kernel, rfl, by decide +kernel, by decide +kernel⟩
theorem ok_pair (F : FnP K "is_pair" s_is_pair f fd) (T : Tops mg)  : FnOk P w K mg base CX0 1 f fd ["datum", "sums"] (pSp (rPair K)) := by
  refine F.ok sc_is_pair (fun vs H Q E h => ?_) (fun cdv A outer s H vs Q E hr h => ?_)
  · obtain ⟨z, ⟨v, l, _, _, rfl, _⟩, _⟩ := h; rfl
  · obtain ⟨z, ⟨v, l, p, S, rfl, r, hl, ⟨h1, h2, h3⟩, rfl⟩, k⟩ := h
    refine ⟨_, PSs.nox (pss_cons (ps_if (PW.pt (pw_or (pt_not (pt_val (pe_callB call_isi (by rfl) T.n_isinstance (by decide +kernel) (pa_cons (pv 0) (pa_cons (pe_bltn (v := .ty "tuple") (by rfl) T.n_tuple (by decide +kernel) rfl) pa_nil))))) (pw_or1 (pt_cmpR op_ne (pe_callB call_len_seq (by rfl) T.n_len PySem.boot_len (pa_cons (pv 0) pa_nil)) pe_int (nomark _)))))
  (pss_one (ps_ret pe_bl))
  pss_nil)
  (pss_cons (ps_asg (pv 0) (pg_tup rfl (pgs_cons (pg_name (i := 2) sc_is_pair.nd rfl (.inl rfl)) (pgs_cons (pg_name (i := 3) sc_is_pair.nd rfl (.inl rfl)) pgs_nil))))
  (pss_cons (ps_if (PW.pt (pw_or (pt_not (pt_val (pe_callB call_isi (by rfl) T.n_isinstance (by decide +kernel) (pa_cons (pv 2) (pa_cons (pe_bltn (v := .ty "str") (by rfl) T.n_str (by decide +kernel) rfl) pa_nil))))) (pw_or1 (pt_not (pt_val (pe_callB call_isi (by rfl) T.n_isinstance (by decide +kernel) (pa_cons (pv 3) (pa_cons (pe_bltn (v := .ty "str") (by rfl) T.n_str (by decide +kernel) rfl) pa_nil))))))))
  (pss_one (ps_ret pe_bl))
  pss_nil)
  (pss_one (ps_ret (pe_and (pe_cmpR op_in_seq (pv 2) (pv 1) rfl) (pe_and (pe_cmpR op_in_seq (pv 3) (pv 1) rfl) (pe_one (pe_cmpR op_lt_str (pv 2) (pv 3) (nomark _)))))))))), ?_⟩
    obtain ⟨a, rfl, ha⟩ := Rep.prt r
    refine q_when (b := false) (et_is (et_or (et_not (et_B (ev_isi (K := K) (t := "tuple") (u := "tuple") (b := true) (ev_var rfl) ev_c (ty_tup ha) (by decide +kernel)))) fun _ => et_test (ev_op (ev_lenR (K := K) (er_var rfl r)) ev_c (rv_ne rfl))) (by simp)) (fun z => (nomatch z)) fun _ H1 e1 => ?_
    refine q_unp2 (K := K) (ev_var rfl) (e1 _ _ ha) fun H2 e2 => ?_
    refine q_when (b := false) (et_is (et_or (et_not (et_B (ev_isi (K := K) (t := "str") (u := "str") (b := true) (ev_var rfl) ev_c (fun _ _ => .str _) (by decide +kernel)))) fun _ => et_not (et_B (ev_isi (K := K) (t := "str") (u := "str") (b := true) (ev_var rfl) ev_c (fun _ _ => .str _) (by decide +kernel)))) rfl) (fun z => (nomatch z)) fun _ H3 e3 => ?_
    have hl3 := ex_l ((e1.trans e2).trans e3) hl
    exact s_ret (v := .bl true) (ev_is (ev_andV (b := true) (ev_op (ev_var rfl) (ev_var rfl) (rv_isL hl3 rfl (flat_strs S))) fun _ => ev_is (ev_andV (b := true) (ev_op (ev_var rfl) (ev_var rfl) (rv_isL hl3 rfl (flat_strs S))) fun _ => ev_is (ev_op (ev_var rfl) (ev_var rfl) (fun H4 e4 Q q => ⟨p.1, p.2, rfl, rfl, q H4 (Ex.refl H4)⟩)) (congrArg V.bl (decide_eq_true h3))) (congrArg V.bl (by rw [inV_str h2]; rfl))) (congrArg V.bl (by rw [inV_str h1]; rfl))) fun H4 e4 => k H4 (((e1.trans e2).trans e3).trans e4)
end
end K08
end
section
set_option Elab.async false
set_option linter.all false
set_option maxRecDepth 100000
set_option maxHeartbeats 4000000
namespace K08
open PySem PySem.Spec PyProof.Rows L2 Evl TX
open C8 (Cal pe_c pe_gc)
theorem no_reps {xs : List Str} (nd : xs.Nodup) : decide ((ST.cn xs xs.length : Int) < (xs.length : Int)) = false := decide_eq_false (by rw [ST.cn_nodup nd _ (Nat.le_refl _)]; omega)
theorem ne_two {H : Hp} {n s : Addr} {o : HO} (h1 : H n = some o) (h2 : H s = none) : s ≠ n := fun z => by rw [z, h1] at h2; cases h2
def rCols : List V → Hp → V → Prop := fun vs H z => ∃ (v : V) (cs : List Col), vs = [v] ∧ Rep H v (colsD cs) ∧ Good cs ∧ z = .non
def rCols2 (K : PySem.W.Frag) : List V → Hp → V → Prop := fun vs H z => ∃ (v : V) (l : Addr) (cs : List Col), vs = [v, .ref l] ∧ Rep H v (colsD cs) ∧ SqL K H l ((sumsOf cs).map V.str) ∧ Good cs ∧ z = .non
section
variable {P : Program} {w : World} {K : PySem.W.Frag} {mg : Str → Option Value} {base : Heap} {f : Addr} {fd : FuncData}
abbrev sc_check_forms_N : List Str := ["columns", "names", "sums", "index", "column"]
theorem sc_check_forms : FnScope sc_check_forms_N ["columns"] (defScope s_check_forms) := ⟨rfl, rfl, rfl, by decide +kernel, rfl, by decide +kernel, by decide +kernel⟩
theorem ok_forms (F : FnP K "check_forms" s_check_forms f fd) (T : Tops mg) (C_has_form : Cal P w K mg base 2 "has_form" (pSp rForm) []) (C_has_repeats : Cal P w K mg base 1 "has_repeats" (pSp (rRep K)) []) : FnOk P w K mg base CX0 3 f fd ["columns"] (pSp rCols) := by
  refine F.ok sc_check_forms (fun vs H Q E h => ?_) (fun cdv A outer s H vs Q E hr h => ?_)
  · obtain ⟨z, ⟨v, cs, rfl, _⟩, _⟩ := h; rfl
  · obtain ⟨z, ⟨v, cs, rfl, r, G, rfl⟩, k⟩ := h
    refine ⟨_, PSs.nox (pss_cons (ps_set (i := 1) sc_check_forms.nd rfl (.inl rfl) (pe_lst pa_nil))
  (pss_cons (ps_set (i := 2) sc_check_forms.nd rfl (.inl rfl) (pe_lst pa_nil))
  (pss_one (ps_for PassesOwn.never rfl (ET.pi_enumT (by rfl) T.n_enumerate (pa_cons (pv 0) pa_nil)) (pg_tup rfl (pgs_cons (pg_name (i := 3) sc_check_forms.nd rfl (.inl rfl)) (pgs_cons (pg_name (i := 4) sc_check_forms.nd rfl (.inl rfl)) pgs_nil)))
  (pss_cons (ps_if (PW.pt (pw_or (pt_cmpR op_eq (pv 3) (pe_gc (by rfl) T.c_MOST_COLUMNS) (nomark _)) (pw_or1 (pt_not (pt_val (pe_c C_has_form hr (by decide) rfl (pa_cons (pv 4) pa_nil)))))))
  (pss_one ps_dead)
  pss_nil)
  (pss_cons (ps_expr (pe_bm PySem.F.plainAttrs_list PySem.F.slot_list_append PySem.F.type_list_append mt_append (pv 1) (pa_cons (pe_ix ix_tup (pv 4) pe_int (fun _ _ => rfl)) pa_nil)))
  (pss_cons (ps_expr (pe_bm PySem.F.plainAttrs_list PySem.F.slot_list_extend PySem.F.type_list_extend TX.mt_extendT (pv 2) (pa_cons (pe_ix ix_tup (pv 4) pe_int (fun _ _ => rfl)) pa_nil)))
  (pss_one (ps_if (PW.pt (pw_or (pt_val (pe_c C_has_repeats hr (by decide) rfl (pa_cons (pv 1) pa_nil))) (pw_or1 (pt_val (pe_c C_has_repeats hr (by decide) rfl (pa_cons (pv 2) pa_nil))))))
  (pss_one ps_dead)
  pss_nil))))))))), ?_⟩
    obtain ⟨a, xs, rfl, ha, rs⟩ := Rep.tup_inv r
    refine q_asgL (el_lst ea_nil (Nat.le_of_ble_eq_true rfl)) fun n H1 n1 e1 h1 => ?_
    refine q_asgL (el_lst ea_nil (Nat.le_of_ble_eq_true rfl)) fun s H2 n2 e2 h2 => ?_
    have hsn := ne_two h1 n2
    have e12 := e1.trans e2
    have fs : H s = none := fresh_back e1 n2
    have lx : xs.length = cs.length := by rw [rs.len, List.length_map]
    refine s_forE (K := K) (a := a) (xs := xs) (ea_cons (ev_var rfl) ea_nil) (e12 _ _ ha) (fun i σ' H' => (∃ y z, σ' = [some (.ref a), some (.ref n), some (.ref s), y, z]) ∧ Ex H H' ∧ H' n = some (.lst ((cs.take i).map fun c => V.str c.nm)) ∧ H' s = some (.lst ((sumsOf (cs.take i)).map V.str)))
      (fun H3 e3 => ⟨⟨none, none, rfl⟩, e12.trans e3, e3 _ _ (e2 _ _ h1), e3 _ _ h2⟩) (fun i σ' H' _ p => p.2.1 _ _ ha) ?_ fun σ' H' p => k H' p.2.1
    rintro i x σ' H3 H4 hx ⟨⟨y, z, rfl⟩, e3, hn, hs⟩ e34
    obtain ⟨c, hc, rc⟩ := Reps.cols rs hx
    have e4 := e3.trans e34
    have lt : i < cs.length := (List.getElem?_eq_some_iff.mp hc).1
    have cm := List.mem_of_getElem? hc
    have hn4 := e34 _ _ hn
    have hs4 := e34 _ _ hs
    have rc4 := rc.ex e4
    obtain ⟨b, sa, da, ds, rfl, hb, hsa, hda, rds⟩ := Rep.col rc4
    have lsum : (sumsOf (cs.take (i + 1))).length ≤ 10 := Nat.le_trans (flat_sub cs (i + 1)).length_le G.slen
    have esum := sums_take cs i c hc
    have lsum2 : (sumsOf (cs.take i)).length + c.sums.length ≤ 10 := by rw [esum, List.length_append] at lsum; exact lsum
    refine q_when (b := false) (et_is (et_or (et_test (ev_op (ev_var rfl) ev_c (rv_eq rfl))) fun _ => et_not (et_B (ev_pc (ea_cons (ev_var rfl) ea_nil) fun H5 e5 => ⟨_, c, rfl, rc4.ex e5, G.nms c cm, G.sms c cm, by omega, rfl⟩))) (by
      rw [decide_eq_false (fun z => by injection z with z; have := G.len; omega)]; rfl)) (fun z => (nomatch z)) fun _ H5 e5 => ?_
    refine q_app (v := .str c.nm) (e5 _ _ hn4) (ev_var rfl) (er_ix (K := K) (i := 0) (er_var rfl (rc4.ex e5)) ev_c rfl).str (by rw [List.length_map, List.length_take]; have := G.len; omega) fun H6 e6 => ?_
    have e56 := e5.trans e6
    have h7n : (upd H6 n (.lst ((cs.take i).map (fun c => V.str c.nm) ++ [.str c.nm]))) n = some (.lst ((cs.take (i + 1)).map fun c => V.str c.nm)) := by rw [upd_same, List.take_succ, hc, List.map_append]; rfl
    have h7s : (upd H6 n (.lst ((cs.take i).map (fun c => V.str c.nm) ++ [.str c.nm]))) s = some (.lst ((sumsOf (cs.take i)).map V.str)) := by rw [upd_ne hsn]; exact e56 _ _ hs4
    have x7 : Ex H (upd H6 n (.lst ((cs.take i).map (fun c => V.str c.nm) ++ [.str c.nm]))) := Ex.mut (e4.trans e56) n1
    have t7 : Tx H4 (upd H6 n (.lst ((cs.take i).map (fun c => V.str c.nm) ++ [.str c.nm]))) := (Tx.ex e56).trans (Tx.put (e56 _ _ hn4))
    generalize upd H6 n (.lst ((cs.take i).map (fun c => V.str c.nm) ++ [.str c.nm])) = H7 at h7n h7s x7 t7 ⊢
    refine q_extT (K := K) (a := sa) (ys := c.sums.map V.str) h7s (ev_var rfl) (ev_op (ev_var rfl) ev_c (rv_ixT (K := K) (i := 1) (st_of (t7 _ _ hb)) rfl)) (st_of (t7 _ _ hsa)) (by rw [List.length_map, List.length_map]; omega) fun H8 e8 => ?_
    have h9s : (upd H8 s (.lst ((sumsOf (cs.take i)).map V.str ++ c.sums.map V.str))) s = some (.lst ((sumsOf (cs.take (i + 1))).map V.str)) := by rw [upd_same, esum, List.map_append]
    have h9n : (upd H8 s (.lst ((sumsOf (cs.take i)).map V.str ++ c.sums.map V.str))) n = some (.lst ((cs.take (i + 1)).map fun c => V.str c.nm)) := by rw [upd_ne hsn.symm]; exact e8 _ _ h7n
    have x9 : Ex H (upd H8 s (.lst ((sumsOf (cs.take i)).map V.str ++ c.sums.map V.str))) := Ex.mut (x7.trans e8) fs
    generalize upd H8 s (.lst ((sumsOf (cs.take i)).map V.str ++ c.sums.map V.str)) = H9 at h9s h9n x9 ⊢
    have nd1 : ((cs.take (i + 1)).map (·.nm)).Nodup := (G.nd.sublist ((List.take_sublist _ _).map _))
    have nd2 : (sumsOf (cs.take (i + 1))).Nodup := G.snd.sublist (flat_sub cs (i + 1))
    have e10 : (cs.take (i + 1)).map (fun c => V.str c.nm) = ((cs.take (i + 1)).map (·.nm)).map V.str := by rw [List.map_map]; rfl
    refine s_when (b := false) (et_is (et_or (et_B (ev_pc (ea_cons (ev_var rfl) ea_nil) fun H10 e11 => ⟨n, (cs.take (i + 1)).map (·.nm), rfl, sq_of (by rw [← e10]; exact e11 _ _ h9n), by rw [List.length_map, List.length_take]; have := G.len; omega, rfl⟩)) fun _ => et_B (ev_pc (ea_cons (ev_var rfl) ea_nil) fun H10 e11 => ⟨s, sumsOf (cs.take (i + 1)), rfl, sq_of (e11 _ _ h9s), by omega, rfl⟩)) (by rw [no_reps nd1, no_reps nd2]; rfl)) (fun z => (nomatch z)) fun _ H10 e11 => ?_
    exact ⟨⟨_, _, rfl⟩, x9.trans e11, e11 _ _ h9n, e11 _ _ h9s⟩
abbrev sc_check_contents_N : List Str := ["columns", "sums", "many_sums", "many_data", "index", "column", "datum"]
theorem sc_check_contents : FnScope sc_check_contents_N ["columns", "sums"] (defScope s_check_contents) := ⟨rfl, rfl, rfl, by decide +kernel, rfl, by decide +kernel, by decide +kernel⟩
theorem ok_contents (F : FnP K "check_contents" s_check_contents f fd) (T : Tops mg) (C_is_pair : Cal P w K mg base 1 "is_pair" (pSp (rPair K)) []) : FnOk P w K mg base CX0 3 f fd ["columns", "sums"] (pSp (rCols2 K)) := by
  refine F.ok sc_check_contents (fun vs H Q E h => ?_) (fun cdv A outer s H vs Q E hr h => ?_)
  · obtain ⟨z, ⟨v, l, cs, rfl, _⟩, _⟩ := h; rfl
  · obtain ⟨z, ⟨v, l, cs, rfl, r, hl, G, rfl⟩, k⟩ := h
    refine ⟨_, PSs.nox (pss_cons (ps_set (i := 2) sc_check_contents.nd rfl (.inl rfl) pe_int)
  (pss_cons (ps_set (i := 3) sc_check_contents.nd rfl (.inl rfl) pe_int)
  (pss_one (ps_for PassesOwn.never rfl (ET.pi_enumT (by rfl) T.n_enumerate (pa_cons (pv 0) pa_nil)) (pg_tup rfl (pgs_cons (pg_name (i := 4) sc_check_contents.nd rfl (.inl rfl)) (pgs_cons (pg_name (i := 5) sc_check_contents.nd rfl (.inl rfl)) pgs_nil)))
  (pss_cons (ps_aug (i := 2) sc_check_contents.nd rfl (.inl rfl) (pe_callB call_len_seq (by rfl) T.n_len PySem.boot_len (pa_cons (pe_ix ix_tup (pv 5) pe_int (fun _ _ => rfl)) pa_nil)) ip_add)
  (pss_cons (ps_aug (i := 3) sc_check_contents.nd rfl (.inl rfl) (pe_callB call_len_seq (by rfl) T.n_len PySem.boot_len (pa_cons (pe_ix ix_tup (pv 5) pe_int (fun _ _ => rfl)) pa_nil)) ip_add)
  (pss_cons (ps_if (PW.pt (pw_or (pt_cmpR op_gt (pv 2) (pe_gc (by rfl) T.c_MOST_SUMS) (nomark _)) (pw_or1 (pt_cmpR op_gt (pv 3) (pe_gc (by rfl) T.c_MOST_DATA) (nomark _)))))
  (pss_one ps_dead)
  pss_nil)
  (pss_one (ps_if (pt_not (pt_val (pe_callB (cr_all rfl) (by rfl) T.n_all (by decide +kernel) (pa_cons (pe_lc (own := [("datum", 6)]) (g := gName 6) (tt := tYes) rfl sc_check_contents.nd (pi_tup (pe_ix ix_tup (pv 5) pe_int (fun _ _ => rfl))) (blkOk_by (own := [("datum", 6)]) (N := sc_check_contents_N) (sc := defScope s_check_contents) (by decide +kernel)) (fun _ _ _ _ _ => (pg_name (i := 6) sc_check_contents.nd rfl (.inl rfl))) (fun _ _ _ _ _ => pts_nil) (fun _ _ _ _ _ => (pe_c C_is_pair hr (by decide) rfl (pa_cons (pv 6) (pa_cons (pv 1) pa_nil))))) pa_nil))))
  (pss_one ps_dead)
  pss_nil))))))))), ?_⟩
    obtain ⟨a, xs, rfl, ha, rs⟩ := Rep.tup_inv r
    refine q_asg ev_c fun H1 e1 => ?_
    refine q_asg ev_c fun H2 e2 => ?_
    have e12 := e1.trans e2
    have lx : xs.length = cs.length := by rw [rs.len, List.length_map]
    refine s_forE (K := K) (a := a) (xs := xs) (ea_cons (ev_var rfl) ea_nil) (e12 _ _ ha) (fun i σ' H' => (∃ y z u, σ' = [some (.ref a), some (.ref l), some (.int ((sumsOf (cs.take i)).length : Int)), some (.int ((dataOf (cs.take i)).length : Int)), y, z, u]) ∧ Ex H H')
      (fun H3 e3 => ⟨⟨none, none, none, rfl⟩, e12.trans e3⟩) (fun i σ' H' _ p => p.2 _ _ ha) ?_ fun σ' H' p => k H' p.2
    rintro i x σ' H3 H4 hx ⟨⟨y, z, u, rfl⟩, e3⟩ e34
    obtain ⟨c, hc, rc⟩ := Reps.cols rs hx
    have e4 := e3.trans e34
    have lt : i < cs.length := (List.getElem?_eq_some_iff.mp hc).1
    have cm := List.mem_of_getElem? hc
    have rc4 := rc.ex e4
    obtain ⟨b, sa, da, ds, rfl, hb, hsa, hda, rds⟩ := Rep.col rc4
    have lsum : (sumsOf (cs.take (i + 1))).length ≤ 10 := Nat.le_trans (flat_sub cs (i + 1)).length_le G.slen
    have ldat : (dataOf (cs.take (i + 1))).length ≤ 24 := Nat.le_trans (flat_sub cs (i + 1)).length_le G.dlen
    have esum : (sumsOf (cs.take (i + 1))).length = (sumsOf (cs.take i)).length + c.sums.length := by rw [sums_take cs i c hc, List.length_append]
    have edat : (dataOf (cs.take (i + 1))).length = (dataOf (cs.take i)).length + c.data.length := by rw [data_take cs i c hc, List.length_append]
    have l1 : ∀ {σ : L2.St} {H5 : Hp}, Ex H4 H5 → σ[5]? = some (some (.ref b)) → Ev (tCB (rLenS K) (tCons (tOp (rIxT K) (tVar 5) (tC (.int 1))) tNil)) σ H5 (.int (c.sums.length : Int)) := fun e5 hσ => by
      have q := ev_lenR (K := K) (er_ix (K := K) (i := 1) (er_var hσ (rc4.ex e5)) ev_c rfl)
      rw [List.length_map] at q
      exact q
    have l2 : ∀ {σ : L2.St} {H5 : Hp}, Ex H4 H5 → σ[5]? = some (some (.ref b)) → Ev (tCB (rLenS K) (tCons (tOp (rIxT K) (tVar 5) (tC (.int 2))) tNil)) σ H5 (.int (c.data.length : Int)) := fun e5 hσ => by
      have q := ev_lenR (K := K) (er_ix (K := K) (i := 2) (er_var hσ (rc4.ex e5)) ev_c rfl)
      rw [List.length_map] at q
      exact q
    refine q_aug rfl (l1 (Ex.refl H4) rfl) fun H5 e5 => ?_
    refine q_aug rfl (l2 e5 rfl) fun H6 e6 => ?_
    have e46 := e5.trans e6
    refine q_when (b := false) (et_is (et_or (et_test (ev_op (ev_var rfl) ev_c rv_I0)) fun _ => et_test (ev_op (ev_var rfl) ev_c rv_I0)) (by
      have z1 : ¬ ((10 : Int) < ((sumsOf (cs.take i)).length : Int) + (c.sums.length : Int)) := by omega
      have z2 : ¬ ((24 : Int) < ((dataOf (cs.take i)).length : Int) + (c.data.length : Int)) := by omega
      rw [decide_eq_false z1, decide_eq_false z2]; rfl)) (fun z => (nomatch z)) fun _ H7 e7 => ?_
    have e47 := e46.trans e7
    have hlst := es_lcT1 (K := K) (te := tCall (pSp (rPair K)) [] C8.E0 (tCons (tVar 6) (tCons (tVar 1) tNil))) (g := gName 6) (vs := [6]) (tl := tOp (rIxT K) (tVar 5) (tC (.int 2)))
      (σ := [some (.ref a), some (.ref l), some (.int (((sumsOf (cs.take i)).length : Int) + (c.sums.length : Int))), some (.int (((dataOf (cs.take i)).length : Int) + (c.data.length : Int))), some (.int (i : Int)), some (.ref b), u]) (H := H7)
      (ev_op (ev_var rfl) ev_c (rv_ixT (K := K) (i := 2) (st_of (e47 _ _ hb)) rfl)) (e47 _ _ hda) (by rw [rds.len, List.length_map]; omega)
      (fun j => [some (.ref a), some (.ref l), some (.int (((sumsOf (cs.take i)).length : Int) + (c.sums.length : Int))), some (.int (((dataOf (cs.take i)).length : Int) + (c.data.length : Int))), some (.int (i : Int)), some (.ref b), ds[j]?]) (fun _ => .bool true) (fun _ _ => rfl) (fun j x H8 R hj e8 r => by rw [hj] at r; exact r)
      (fun j x H8 hj e8 => by
        obtain ⟨d, hd, rd⟩ := rds.at hj
        rw [List.getElem?_map] at hd
        obtain ⟨p, hp, rfl⟩ := Option.map_eq_some_iff.mp hd
        exact er_ev (ev_pc (vs := [x, .ref l]) (z := .bl true) (ea_cons (ev_var (by rw [hj]; rfl)) (ea_cons (ev_var rfl) ea_nil)) fun H9 e9 => ⟨x, l, p, sumsOf cs, rfl, rd.ex ((e47.trans e8).trans e9), ex_l (((e4.trans e47).trans e8).trans e9) hl, G.prs c cm p (List.mem_of_getElem? hp), rfl⟩) (.bl true))
    rw [map_bool] at hlst
    refine s_when (b := false) (et_is (et_not (et_B (ev_allR (K := K) hlst))) (by rw [all_true]; rfl)) (fun z => (nomatch z)) fun _ H8 e8 => ?_
    refine ⟨⟨some (.int (i : Int)), some (.ref b), u, ?_⟩, (e4.trans e47).trans e8⟩
    rw [esum, edat]
    rfl
end
end K08
end
section
set_option Elab.async false
set_option linter.all false
set_option maxRecDepth 100000
set_option maxHeartbeats 4000000
namespace K08
open PySem PySem.Spec PyProof.Rows L2 Evl TX
open C8 (Cal pe_c pe_gc)
theorem rg {α β : Type} (F : α → β) (d : α) : ∀ xs : List α, (List.range xs.length).map (fun i => F (xs.getD i d)) = xs.map F
  | [] => rfl
  | x :: xs => by
    rw [List.length_cons, List.range_succ_eq_map, List.map_cons, List.map_map]
    exact congrArg (F x :: ·) (rg F d xs)
theorem rgf {α β : Type} (F : α → List β) (d : α) (xs : List α) : (List.range xs.length).flatMap (fun i => F (xs.getD i d)) = xs.flatMap F := by
  have e := rg F d xs
  rw [List.flatMap_def, e, ← List.flatMap_def]
def c0 : Col := ⟨Str.empty, [], []⟩
theorem getc {cs : List Col} {i : Nat} (h : i < cs.length) : cs[i]? = some (cs.getD i c0) := by rw [List.getD_eq_getElem?_getD, List.getElem?_eq_getElem h]; rfl
/-- where the columns' parts stand -/
structure Fc (H : Hp) (xs : List V) (cs : List Col) (F : Nat → Addr × Addr × Addr × List V) : Prop where
  at_ : ∀ i, i < cs.length → xs[i]? = some (.ref (F i).1)
  col : ∀ i, i < cs.length → H (F i).1 = some (.tup [.str (cs.getD i c0).nm, .ref (F i).2.1, .ref (F i).2.2.1])
  sm : ∀ i, i < cs.length → H (F i).2.1 = some (.tup ((cs.getD i c0).sums.map V.str))
  dt : ∀ i, i < cs.length → H (F i).2.2.1 = some (.tup (F i).2.2.2)
  rp : ∀ i, i < cs.length → Reps H (F i).2.2.2 ((cs.getD i c0).data.map pairD)
theorem Fc.ex {H H' : Hp} {xs : List V} {cs : List Col} {F : Nat → Addr × Addr × Addr × List V} (f : Fc H xs cs F) (e : Ex H H') : Fc H' xs cs F :=
  ⟨f.at_, fun i hi => e _ _ (f.col i hi), fun i hi => e _ _ (f.sm i hi), fun i hi => e _ _ (f.dt i hi), fun i hi => (f.rp i hi).ex e⟩
theorem Reps.fc {H : Hp} {xs : List V} {cs : List Col} (r : Reps H xs (cs.map colD)) : ∃ F, Fc H xs cs F := by
  have q : ∀ i, ∃ y : Addr × Addr × Addr × List V, i < cs.length → xs[i]? = some (.ref y.1) ∧ H y.1 = some (.tup [.str (cs.getD i c0).nm, .ref y.2.1, .ref y.2.2.1]) ∧ H y.2.1 = some (.tup ((cs.getD i c0).sums.map V.str)) ∧ H y.2.2.1 = some (.tup y.2.2.2) ∧ Reps H y.2.2.2 ((cs.getD i c0).data.map pairD) := fun i => by
    by_cases hi : i < cs.length
    · obtain ⟨x, hx, rx⟩ := r.get (i := i) (d := colD (cs.getD i c0)) (by rw [List.getElem?_map, getc hi]; rfl)
      obtain ⟨a, s, d, ds, rfl, h1, h2, h3, h4⟩ := Rep.col rx
      exact ⟨(a, s, d, ds), fun _ => ⟨hx, h1, h2, h3, h4⟩⟩
    · exact ⟨(0, 0, 0, []), fun z => absurd z hi⟩
  obtain ⟨F, hF⟩ := Classical.skolem.mp q
  exact ⟨F, fun i hi => (hF i hi).1, fun i hi => (hF i hi).2.1, fun i hi => (hF i hi).2.2.1, fun i hi => (hF i hi).2.2.2.1, fun i hi => (hF i hi).2.2.2.2⟩
theorem Good.c_sums {cs : List Col} (G : Good cs) {i : Nat} (h : i < cs.length) : (cs.getD i c0).sums.length ≤ 10 := by
  have q := sums_take cs i _ (getc h)
  have l := Nat.le_trans (flat_sub (f := (·.sums)) cs (i + 1)).length_le G.slen
  have l2 : (sumsOf (cs.take (i + 1))).length ≤ 10 := l
  rw [q, List.length_append] at l2
  omega
theorem Good.c_data {cs : List Col} (G : Good cs) {i : Nat} (h : i < cs.length) : (cs.getD i c0).data.length ≤ 24 := by
  have q := data_take cs i _ (getc h)
  have l := Nat.le_trans (flat_sub (f := (·.data)) cs (i + 1)).length_le G.dlen
  have l2 : (dataOf (cs.take (i + 1))).length ≤ 24 := l
  rw [q, List.length_append] at l2
  omega
section
variable {P : Program} {w : World} {K : PySem.W.Frag} {mg : Str → Option Value} {base : Heap} {f : Addr} {fd : FuncData}
abbrev sc_check_columns_N : List Str := ["columns", "column", "word", "sums"]
theorem sc_check_columns : FnScope sc_check_columns_N ["columns"] (defScope s_check_columns) := ⟨rfl, rfl, rfl, by decide +kernel, rfl, by decide +kernel, by decide +kernel⟩
theorem ok_cols (F : FnP K "check_columns" s_check_columns f fd) (T : Tops mg) (C_check_forms : Cal P w K mg base 3 "check_forms" (pSp rCols) []) (C_check_contents : Cal P w K mg base 3 "check_contents" (pSp (rCols2 K)) []) : FnOk P w K mg base CX0 4 f fd ["columns"] (pSp rCols) := by
  refine F.ok sc_check_columns (fun vs H Q E h => ?_) (fun cdv A outer s H vs Q E hr h => ?_)
  · obtain ⟨z, ⟨v, cs, rfl, _⟩, _⟩ := h; rfl
  · obtain ⟨z, ⟨v, cs, rfl, r, G, rfl⟩, k⟩ := h
    refine ⟨_, PSs.nox (pss_cons (ps_if (PW.pt (pw_or (pt_not (pt_val (pe_callB call_isi (by rfl) T.n_isinstance (by decide +kernel) (pa_cons (pv 0) (pa_cons (pe_bltn (v := .ty "tuple") (by rfl) T.n_tuple (by decide +kernel) rfl) pa_nil))))) (pw_or1 (pt_not (pt_truth (pv 0) (by intro _; rfl))))))
  (pss_one ps_dead)
  pss_nil)
  (pss_cons (ps_expr (pe_c C_check_forms hr (by decide) rfl (pa_cons (pv 0) pa_nil)))
  (pss_cons (ps_setLc2 (i := 3) (own := [("column", 1), ("word", 2)]) (vs1 := [2]) (wi1 := (iTup K (tOp (rIxT K) (tVar 1) (tC (.int 1))))) (tt := tYes) (tt1 := tYes) (g := gName 1) (g1 := gName 2) rfl sc_check_columns.nd rfl rfl (sw_true rfl rfl rfl (by decide +kernel)) (pi_tup (pv 0)) (blkOk_by (own := [("column", 1), ("word", 2)]) (N := sc_check_columns_N) (sc := defScope s_check_columns) (by decide +kernel)) (by decide) (fun _ _ _ _ _ => (pg_name (i := 1) sc_check_columns.nd rfl (.inl rfl))) (fun _ _ _ _ _ => pts_nil) (fun _ _ _ _ _ => (pi_tup (pe_ix (r := rIxT K) ix_tup (pv 1) pe_int (fun _ _ => rfl)))) (fun _ _ _ _ _ => (pg_name (i := 2) sc_check_columns.nd rfl (.inl rfl))) (fun _ _ _ _ _ => pts_nil) (fun _ _ _ _ _ => (pv 2)))
  (pss_cons (ps_if (pt_not (pt_truth (pv 3) (by intro _; rfl)))
  (pss_one ps_dead)
  pss_nil)
  (pss_one (ps_expr (pe_c C_check_contents hr (by decide) rfl (pa_cons (pv 0) (pa_cons (pv 3) pa_nil))))))))), ?_⟩
    obtain ⟨a, xs, rfl, ha, rs⟩ := Rep.tup_inv r
    obtain ⟨F, hF⟩ := Reps.fc rs
    have lx : xs.length = cs.length := by rw [rs.len, List.length_map]
    have l8 := G.len
    have nx : xs.isEmpty = false := by
      cases xs with
      | nil => exact absurd (List.eq_nil_of_length_eq_zero lx.symm) G.ne
      | cons _ _ => rfl
    refine q_when (b := false) (et_is (et_or (et_not (et_B (ev_isi (K := K) (t := "tuple") (u := "tuple") (b := true) (ev_var rfl) ev_c (ty_tup ha) (by decide +kernel)))) fun _ => et_not (et_tupT (K := K) (ev_var rfl) ha)) (by rw [nx]; rfl)) (fun z => (nomatch z)) fun _ H1 e1 => ?_
    refine q_drop (ev_pc (z := .non) (ea_cons (ev_var rfl) ea_nil) fun H2 e2 => ⟨_, cs, rfl, r.ex (e1.trans e2), G, rfl⟩) fun H2 e2 => ?_
    have e12 := e1.trans e2
    have F2 := hF.ex e12
    have two : Two [some (.ref a), none, none, none] H2 (Itt K a) cs.length (fun H => SqT K H a xs) (YAt xs) (iTup K (tVar 0)) (iTup K (tOp (rIxT K) (tVar 1) (tC (.int 1)))) (gName 1) (gName 2) [1, 2] [2] (fun i => Itt K (F i).2.1) (fun i => (cs.getD i c0).sums.length) (fun i H => SqT K H (F i).2.1 ((cs.getD i c0).sums.map V.str)) (fun i => YAt ((cs.getD i c0).sums.map V.str))
        (fun i => [some (.ref a), some (.ref (F i).1), none, none]) (fun i j => [some (.ref a), some (.ref (F i).1), some (.str ((cs.getD i c0).sums.getD j Str.empty)), none]) := {
      W := by rw [← lx]; exact walk_tup
      W1 := fun i hi => by
        have q := walk_tup (K := K) (a := (F i).2.1) (xs := (cs.getD i c0).sums.map V.str)
        rw [List.length_map] at q
        exact q
      lim := ⟨by omega, fun i hi => by have := G.c_sums hi; omega⟩
      go := fun H3 e3 R q => ⟨.ref a, rfl, a, rfl, ⟨xs, st_of ((e12.trans e3) _ _ ha)⟩, q H3 (Ex.refl H3) (st_of ((e12.trans e3) _ _ ha))⟩
      keep := fun H3 H4 e q => ex_t e q
      wp := fun _ _ => rfl
      tg := fun i x H3 H4 R hi e3 _ ⟨e4, hx⟩ q => by
        subst e4
        rw [hF.at_ i hi] at hx
        cases hx
        exact q _ (Ex.refl _)
      go1 := fun i H3 hi e3 R q => ⟨.ref (F i).1, rfl, (F i).1, _, 1, .ref (F i).2.1, rfl, rfl, st_of (e3 _ _ (F2.col i hi)), rfl, _, rfl, ⟨_, st_of (e3 _ _ (F2.sm i hi))⟩, q H3 (Ex.refl H3)⟩
      keep1 := fun i H3 hi e3 => st_of (e3 _ _ (F2.sm i hi))
      wp1 := fun _ _ _ _ => rfl
      tg1 := fun i j x H3 H4 R hi hj e3 _ ⟨e4, hx⟩ q => by
        subst e4
        rw [List.getElem?_map, List.getElem?_eq_getElem hj] at hx
        cases hx
        have q2 := q _ (Ex.refl _)
        rw [List.getD_eq_getElem?_getD, List.getElem?_eq_getElem hj] at q2
        exact q2 }
    have hl := es_lc2 (te := tVar 2) two (fun i j => .str ((cs.getD i c0).sums.getD j Str.empty)) fun i j H3 hi hj e3 => er_str (ev_var rfl)
    have el : ((List.range cs.length).flatMap fun i => (List.range (cs.getD i c0).sums.length).map fun j => PyData.str ((cs.getD i c0).sums.getD j Str.empty)) = (sumsOf cs).map PyData.str := by
      have q : ∀ c : Col, (List.range c.sums.length).map (fun j => PyData.str (c.sums.getD j Str.empty)) = c.sums.map PyData.str := fun c => rg PyData.str Str.empty c.sums
      simp only [q]
      rw [rgf (fun c : Col => c.sums.map PyData.str) c0 cs]
      unfold sumsOf
      rw [List.map_flatMap]
    rw [el] at hl
    refine q_asgL (el_es hl) fun l H3 _ e3 h3 => ?_
    have ns : ((sumsOf cs).map V.str).isEmpty = false := by
      cases h : sumsOf cs with
      | nil => exact absurd h G.sne
      | cons _ _ => rfl
    refine q_when (b := false) (et_is (et_not (et_lstT (K := K) (ev_var rfl) h3)) (by rw [ns]; rfl)) (fun z => (nomatch z)) fun _ H4 e4 => ?_
    exact s_drop (ev_pc (z := .non) (ea_cons (ev_var rfl) (ea_cons (ev_var rfl) ea_nil)) fun H5 e5 => ⟨_, l, cs, rfl, r.ex (((e12.trans e3).trans e4).trans e5), sq_of ((e4.trans e5) _ _ h3), G, rfl⟩) fun H5 e5 => k H5 (((e12.trans e3).trans e4).trans e5)
end
end K08
end
section
set_option Elab.async false
set_option linter.all false
set_option maxRecDepth 100000
set_option maxHeartbeats 4000000
namespace K08
open PySem PySem.Spec PyProof.Rows L2 Evl TX
open C8 (Cal pe_c pe_gc)
def firstOf (cs : List Col) (i : Nat) : Int := ((dataOf (cs.take i)).length : Int)
def sumC (w : Str) : PyData := .tuple [.str "sum", .str w]
def datC (n : Int) : PyData := .tuple [.str "datum", .int n]
def cellsC (first : Int) (c : Col) : List PyData := c.sums.map sumC ++ (List.range c.data.length).map fun j : Nat => datC (first + (j : Int))
def cellsAt (cs : List Col) (i : Nat) : List PyData := cellsC (firstOf cs i) (cs.getD i c0)
/-- the cells by their columns, a dict -/
def CellsD (H : Hp) (p : Addr) (cs : List Col) : Prop := ∃ zs : List V, H p = some (.dK (zs.zipIdx.map fun z => (.inr (cs.getD z.2 c0).nm, z.1))) ∧ Reps H zs ((List.range cs.length).map fun i => .tuple (cellsAt cs i))
def cSp : Sp := fun vs H Q _ => ∃ (v : V) (cs : List Col), vs = [v] ∧ Rep H v (colsD cs) ∧ Good cs ∧ ∀ p H', H p = none → Ex H H' → CellsD H' p cs → Q (.ref p) H'
theorem first_succ (cs : List Col) {i : Nat} (h : i < cs.length) : firstOf cs (i + 1) = firstOf cs i + ((cs.getD i c0).data.length : Int) := by
  unfold firstOf
  rw [data_take cs i _ (getc h), List.length_append]
  omega
theorem nms_ne {cs : List Col} (G : Good cs) {i j : Nat} (hi : i < cs.length) (hj : j < cs.length) (h : (cs.getD i c0).nm = (cs.getD j c0).nm) : i = j := by
  have q1 : (cs.map (·.nm))[i]? = some (cs.getD i c0).nm := by rw [List.getElem?_map, getc hi]; rfl
  have q2 : (cs.map (·.nm))[j]? = some (cs.getD j c0).nm := by rw [List.getElem?_map, getc hj]; rfl
  obtain ⟨b1, c1⟩ := List.getElem?_eq_some_iff.mp q1
  obtain ⟨b2, c2⟩ := List.getElem?_eq_some_iff.mp q2
  exact (List.getElem_inj G.nd).mp (c1.trans (h.trans c2.symm))
section
variable {P : Program} {w : World} {K : PySem.W.Frag} {mg : Str → Option Value} {base : Heap} {f : Addr} {fd : FuncData}
abbrev sc_cells_by_column_N : List Str := ["columns", "found", "first", "name", "sums", "data", "word", "at"]
theorem sc_cells_by_column : FnScope sc_cells_by_column_N ["columns"] (defScope s_cells_by_column) := ⟨rfl, rfl, rfl, by decide +kernel, rfl, by decide +kernel, by decide +kernel⟩
theorem ok_cbc (F : FnP K "cells_by_column" s_cells_by_column f fd) (T : Tops mg)  : FnOk P w K mg base CX0 1 f fd ["columns"] cSp := by
  refine F.ok sc_cells_by_column (fun vs H Q E h => ?_) (fun cdv A outer s H vs Q E hr h => ?_)
  · obtain ⟨v, cs, rfl, _⟩ := h; rfl
  · obtain ⟨v, cs, rfl, r, G, k⟩ := h
    have hu1 := Nat.lt_of_le_of_lt (Nat.add_le_add_left (by decide : 1 ≤ 64) _) hr.units
    refine ⟨_, PSs.nox (pss_cons (ps_set (i := 1) sc_cells_by_column.nd rfl (.inl rfl) pe_dnewK)
  (pss_cons (ps_set (i := 2) sc_cells_by_column.nd rfl (.inr rfl) pe_int)
  (pss_cons (ps_for PassesOwn.never rfl (pi_tup (pv 0)) (pg_tup rfl (pgs_cons (pg_name (i := 3) sc_cells_by_column.nd rfl (.inl rfl)) (pgs_cons (pg_name (i := 4) sc_cells_by_column.nd rfl (.inl rfl)) (pgs_cons (pg_name (i := 5) sc_cells_by_column.nd rfl (.inl rfl)) pgs_nil))))
  (pss_cons (ps_dput hu1 (pv 1) (pv 3) (pe_callTy call_tuple_of (by rfl) T.n_tuple (by decide +kernel) (pa_cons (pe_op op_cat (pe_lc (own := [("word", 6)]) (g := gName 6) (tt := tYes) rfl sc_cells_by_column.nd (pi_tup (pv 4)) (blkOk_by (own := [("word", 6)]) (N := sc_cells_by_column_N) (sc := defScope s_cells_by_column) (by decide +kernel)) (fun _ _ _ _ _ => (pg_name (i := 6) sc_cells_by_column.nd rfl (.inl rfl))) (fun _ _ _ _ _ => pts_nil) (fun _ _ _ _ _ => (pe_tup (pa_cons pe_str (pa_cons (pv 6) pa_nil))))) (pe_lc (own := [("at", 7)]) (g := gName 7) (tt := tYes) rfl sc_cells_by_column.nd (pi_range1 rfl T.n_range (pa_cons (pe_callB call_len_seq (by rfl) T.n_len PySem.boot_len (pa_cons (pv 5) pa_nil)) pa_nil)) (blkOk_by (own := [("at", 7)]) (N := sc_cells_by_column_N) (sc := defScope s_cells_by_column) (by decide +kernel)) (fun _ _ _ _ _ => (pg_name (i := 7) sc_cells_by_column.nd rfl (.inl rfl))) (fun _ _ _ _ _ => pts_nil) (fun _ _ _ _ _ => (pe_tup (pa_cons pe_str (pa_cons (pe_op op_add (pv 2) (pv 7)) pa_nil)))))) pa_nil)) rfl)
  (pss_one (ps_aug (i := 2) sc_cells_by_column.nd rfl (.inr rfl) (pe_callB call_len_seq (by rfl) T.n_len PySem.boot_len (pa_cons (pv 5) pa_nil)) ip_add))))
  (pss_one (ps_ret (pv 1)))))), ?_⟩
    obtain ⟨a, xs, rfl, ha, rs⟩ := Rep.tup_inv r
    obtain ⟨F, hF⟩ := Reps.fc rs
    have lx : xs.length = cs.length := by rw [rs.len, List.length_map]
    have l8 := G.len
    refine fun p hp => ?_
    have x1 := Ex.new (o := .dK []) hp
    refine q_asg ev_c fun H2 e2 => ?_
    have e02 := x1.trans e2
    have h2p : H2 p = some (.dK []) := e2 _ _ upd_same
    refine q_forT (K := K) (a := a) (xs := xs) (ev_var rfl) (st_of (e02 _ _ ha)) (fun i σ' H' => (∃ n s d w t, σ' = [some (.ref a), some (.ref p), some (.int (firstOf cs i)), n, s, d, w, t]) ∧ Ex H H' ∧ ∃ zs : List V, H' p = some (.dK (zs.zipIdx.map fun z => (.inr (cs.getD z.2 c0).nm, z.1))) ∧ Reps H' zs ((List.range i).map fun i => .tuple (cellsAt cs i)))
      (fun H3 e3 => ⟨⟨none, none, none, none, none, rfl⟩, e02.trans e3, [], e3 _ _ h2p, .nil⟩) (fun i σ' H' _ q => st_of (q.2.1 _ _ ha)) ?_ ?_
    · rintro i x σ' H3 hx ⟨⟨n, s, d, w, t, rfl⟩, e3, zs, hz, rz⟩
      have lt : i < cs.length := by have := (List.getElem?_eq_some_iff.mp hx).1; omega
      rw [hF.at_ i lt] at hx
      cases hx
      have F3 := hF.ex e3
      refine g_three (K := K) (F3.col i lt) ?_
      have lz : zs.length = i := by rw [rz.len, List.length_map, List.length_range]
      have ls := G.c_sums lt
      have ld := G.c_data lt
      have s1 := es_lcT1 (K := K) (te := tTup (tCons (tC (.str "sum")) (tCons (tVar 6) tNil))) (g := gName 6) (vs := [6]) (tl := tVar 4)
        (σ := [some (.ref a), some (.ref p), some (.int (firstOf cs i)), some (.str (cs.getD i c0).nm), some (.ref (F i).2.1), some (.ref (F i).2.2.1), w, t]) (H := H3) (ev_var rfl) (F3.sm i lt) (by rw [List.length_map]; omega)
        (fun j => [some (.ref a), some (.ref p), some (.int (firstOf cs i)), some (.str (cs.getD i c0).nm), some (.ref (F i).2.1), some (.ref (F i).2.2.1), some (.str ((cs.getD i c0).sums.getD j Str.empty)), t]) (fun j => sumC ((cs.getD i c0).sums.getD j Str.empty)) (fun _ _ => rfl)
        (fun j y H4 R hj e4 q => by
          rw [List.getElem?_map] at hj
          obtain ⟨z, h1, h2⟩ := Option.map_eq_some_iff.mp hj
          have e : (cs.getD i c0).sums.getD j Str.empty = z := List.getD_eq_getElem?_getD.trans (by rw [h1]; rfl)
          rw [e] at q
          subst h2
          exact q)
        (fun j y H4 hj e4 => er_tup (era_cons (er_str ev_c) (era_cons (er_str (ev_var rfl)) era_nil)) (Nat.le_of_ble_eq_true rfl))
      have s2 := es_lcR (te := tTup (tCons (tC (.str "datum")) (tCons (tOp (rI0 fun i j => .int (i + j)) (tVar 2) (tVar 7)) tNil))) (t := tYes) (g := gName 7) (vs := [7]) (ta := tCons (tCB (rLenS K) (tCons (tVar 5) tNil)) tNil) (n := ((cs.getD i c0).data.length : Int))
        (σ := [some (.ref a), some (.ref p), some (.int (firstOf cs i)), some (.str (cs.getD i c0).nm), some (.ref (F i).2.1), some (.ref (F i).2.2.1), w, t]) (H := H3)
        (by
          have q := ev_lenR (K := K) (er_var (σ := [some (.ref a), some (.ref p), some (.int (firstOf cs i)), some (.str (cs.getD i c0).nm), some (.ref (F i).2.1), some (.ref (F i).2.2.1), w, t]) (i := 5) rfl (Rep.tup (F3.dt i lt) (F3.rp i lt)))
          rw [List.length_map] at q
          exact ea_cons q ea_nil) ⟨by omega, by omega⟩
        (fun j => [some (.ref a), some (.ref p), some (.int (firstOf cs i)), some (.str (cs.getD i c0).nm), some (.ref (F i).2.1), some (.ref (F i).2.2.1), w, some (.int (j : Int))]) (fun _ => true) (fun j => datC (firstOf cs i + (j : Int))) (fun _ _ => rfl)
        (fun j H4 R hj e4 q => q) (fun _ H4 _ _ H5 _ Q q => q H5 (Ex.refl H5)) (fun j H4 hj e4 _ => er_tup (era_cons (er_str ev_c) (era_cons (er_int (ev_op (ev_var rfl) (ev_var rfl) rv_I0)) era_nil)) (Nat.le_of_ble_eq_true rfl))
      rw [TX.filter_all, Int.toNat_natCast] at s2
      rw [List.length_map] at s1
      have e1 : ((List.range (cs.getD i c0).sums.length).map fun j => sumC ((cs.getD i c0).sums.getD j Str.empty)) = (cs.getD i c0).sums.map sumC := rg sumC Str.empty _
      rw [e1] at s1
      refine q_dputR (d := .tuple (cellsAt cs i)) (er_tuple (K := K) (es_cat s1 s2 (by rw [List.length_map, List.length_map, List.length_range]; omega))) (ev_var rfl) (ev_var rfl) hz (by rw [List.length_map, List.length_zipIdx]; omega) fun v H4 e4 rv h4 => ?_
      have eput : putK (zs.zipIdx.map fun z => ((.inr (cs.getD z.2 c0).nm : Key), z.1)) (.inr (cs.getD i c0).nm) v = (zs ++ [v]).zipIdx.map fun z => ((.inr (cs.getD z.2 c0).nm : Key), z.1) := by
        rw [put_new, List.zipIdx_append, List.map_append, lz]
        · simp
        · intro q hq z
          obtain ⟨u, hu, rfl⟩ := List.mem_map.mp hq
          have u2 := List.mem_zipIdx hu
          have := nms_ne G (i := u.2) (j := i) (by omega) lt (Sum.inr.inj z)
          omega
      have h5 : (upd H4 p (.dK (putK (zs.zipIdx.map fun z => ((.inr (cs.getD z.2 c0).nm : Key), z.1)) (.inr (cs.getD i c0).nm) v))) p = some (.dK ((zs ++ [v]).zipIdx.map fun z => ((.inr (cs.getD z.2 c0).nm : Key), z.1))) := by rw [upd_same, eput]
      have x5 : Ex H (upd H4 p (.dK (putK (zs.zipIdx.map fun z => ((.inr (cs.getD z.2 c0).nm : Key), z.1)) (.inr (cs.getD i c0).nm) v))) := Ex.mut (e3.trans e4) hp
      have t5 : Tx H4 (upd H4 p (.dK (putK (zs.zipIdx.map fun z => ((.inr (cs.getD z.2 c0).nm : Key), z.1)) (.inr (cs.getD i c0).nm) v))) := Tx.dK h4
      have r5 := ((rz.ex e4).on t5).app (.cons (rv.on t5) .nil)
      have F5 := F3.ex e4
      generalize upd H4 p (.dK (putK (zs.zipIdx.map fun z => ((.inr (cs.getD z.2 c0).nm : Key), z.1)) (.inr (cs.getD i c0).nm) v)) = H5 at h5 x5 t5 r5 ⊢
      have q := ev_lenR (K := K) (er_var (H := H5) (σ := [some (.ref a), some (.ref p), some (.int (firstOf cs i)), some (.str (cs.getD i c0).nm), some (.ref (F i).2.1), some (.ref (F i).2.2.1), w, t]) (i := 5) rfl (Rep.tup (t5 _ _ (F5.dt i lt)) ((F5.rp i lt).on t5)))
      rw [List.length_map] at q
      refine s_aug rfl q fun H6 e6 => ⟨⟨some (.str (cs.getD i c0).nm), some (.ref (F i).2.1), some (.ref (F i).2.2.1), w, t, ?_⟩, x5.trans e6, zs ++ [v], e6 _ _ h5, ?_⟩
      · rw [first_succ cs lt]
        rfl
      · rw [List.range_succ, List.map_append]
        exact r5.ex e6
    · rintro σ' H3 ⟨⟨n, s, d, w, t, rfl⟩, e3, zs, hz, rz⟩
      rw [lx] at rz
      exact s_ret (ev_var rfl) fun H4 e4 => k p H4 hp (e3.trans e4) ⟨zs, e4 _ _ hz, rz.ex e4⟩
end
def p0 : Str × Str := (Str.empty, Str.empty)
def inPair (w : Str) (p : Str × Str) : Bool := inV (.str w) [.str p.1, .str p.2]
def numsOf (w : Str) (ps : List (Str × Str)) : List Int := ((List.range ps.length).filter fun j => inPair w (ps.getD j p0)).map fun j : Nat => (j : Int)
/-- numbers by names, a dict -/
def IntsD (H : Hp) (p : Addr) (S : List Str) (f : Str → Int) : Prop := ∃ zs : List V, H p = some (.dK (zs.zipIdx.map fun z => (.inr (S.getD z.2 Str.empty), z.1))) ∧ Reps H zs ((List.range S.length).map fun i => .int (f (S.getD i Str.empty)))
theorem range_getD {α : Type} (xs : List α) (d : α) : (List.range xs.length).map (fun i => xs.getD i d) = xs := by
  have q := rg (fun x : α => x) d xs
  rw [List.map_id'] at q
  exact q
section
variable {P : Program} {w : World} {K : PySem.W.Frag} {mg : Str → Option Value} {base : Heap} {f : Addr} {fd : FuncData}
end
end K08
end
section
set_option Elab.async false
set_option linter.all false
set_option maxRecDepth 100000
set_option maxHeartbeats 4000000
namespace K08
open PySem PySem.Spec PyProof.Rows L2 Evl TX
open C8 (Cal pe_c pe_gc)
def Kd.sh : Kd → Str
  | .bits => "bits" | .plain => "plain" | .dial m => Str.ofString (toString m)
def colLines (c : Col) : List Str := (("column " : Str) ++ c.nm) :: (c.sums.map (fun w => ("sum " : Str) ++ w) ++ c.data.map fun p => ("datum " : Str) ++ p.1 ++ (" " : Str) ++ p.2)
def linesOf (k : Kd) (cs : List Col) : List Str := (("kind " : Str) ++ k.sh) :: cs.flatMap colLines
def rLines : List V → Hp → PyData → Prop := fun vs H d => ∃ (k : Kd) (v : V) (cs : List Col), vs = [k.v, v] ∧ k.ok ∧ Rep H v (colsD cs) ∧ Good cs ∧ d = .tuple ((linesOf k cs).map PyData.str)
theorem name_len {z : Str} (h : isName z = true) : z.length ≤ 8 := (of_decide_eq_true (Bool.and_eq_true_iff.mp h).1).2
theorem lines_succ (k : Kd) (cs : List Col) {i : Nat} (h : i < cs.length) : linesOf k (cs.take (i + 1)) = linesOf k (cs.take i) ++ colLines (cs.getD i c0) := by
  unfold linesOf
  rw [List.take_succ, getc h, List.flatMap_append]
  simp
theorem Good.mem {cs : List Col} {i : Nat} (h : i < cs.length) : cs.getD i c0 ∈ cs := List.mem_of_getElem? (getc h)
theorem sum_name {cs : List Col} (G : Good cs) {w : Str} (h : w ∈ sumsOf cs) : isName w = true := by
  obtain ⟨c, hc, hw⟩ := List.mem_flatMap.mp h
  exact G.sms c hc w hw
section
variable {P : Program} {w : World} {K : PySem.W.Frag} {mg : Str → Option Value} {base : Heap} {f : Addr} {fd : FuncData}
abbrev sc_lines_of_N : List Str := ["kind", "columns", "lines", "name", "sums", "data", "word", "one", "other"]
theorem sc_lines_of : FnScope sc_lines_of_N ["kind", "columns"] (defScope s_lines_of) := ⟨rfl, rfl, rfl, by decide +kernel, rfl, by decide +kernel, by decide +kernel⟩
theorem ok_lines (F : FnP K "lines_of" s_lines_of f fd) (T : Tops mg)  : FnOk P w K mg base CX0 1 f fd ["kind", "columns"] (dSp rLines) := by
  refine F.ok sc_lines_of (fun vs H Q E h => ?_) (fun cdv A outer s H vs Q E hr h => ?_)
  · obtain ⟨d, ⟨kd, v, cs, rfl, _⟩, _⟩ := h; rfl
  · obtain ⟨d, ⟨kd, v, cs, rfl, hk, r, G, rfl⟩, k⟩ := h
    refine ⟨_, PSs.nox (pss_cons (ps_set (i := 2) sc_lines_of.nd rfl (.inl rfl) (pe_lst (pa_cons (pe_joined (.cons pe_str (.cons (pe_fmt (pv 0)) .nil))) pa_nil)))
  (pss_cons (ps_for PassesOwn.never rfl (pi_tup (pv 1)) (pg_tup rfl (pgs_cons (pg_name (i := 3) sc_lines_of.nd rfl (.inl rfl)) (pgs_cons (pg_name (i := 4) sc_lines_of.nd rfl (.inl rfl)) (pgs_cons (pg_name (i := 5) sc_lines_of.nd rfl (.inl rfl)) pgs_nil))))
  (pss_cons (ps_expr (pe_bm PySem.F.plainAttrs_list PySem.F.slot_list_append PySem.F.type_list_append mt_append (pv 2) (pa_cons (pe_joined (.cons pe_str (.cons (pe_fmt (pv 3)) .nil))) pa_nil)))
  (pss_cons (ps_expr (pe_bm PySem.F.plainAttrs_list PySem.F.slot_list_extend PySem.F.type_list_extend mt_extend (pv 2) (pa_cons (pe_lc (own := [("word", 6)]) (g := gName 6) (tt := tYes) rfl sc_lines_of.nd (pi_tup (pv 4)) (blkOk_by (own := [("word", 6)]) (N := sc_lines_of_N) (sc := defScope s_lines_of) (by decide +kernel)) (fun _ _ _ _ _ => (pg_name (i := 6) sc_lines_of.nd rfl (.inl rfl))) (fun _ _ _ _ _ => pts_nil) (fun _ _ _ _ _ => (pe_joined (.cons pe_str (.cons (pe_fmt (pv 6)) .nil))))) pa_nil)))
  (pss_one (ps_expr (pe_bm PySem.F.plainAttrs_list PySem.F.slot_list_extend PySem.F.type_list_extend mt_extend (pv 2) (pa_cons (pe_lc (own := [("one", 7), ("other", 8)]) (g := gTup K 2 (gCons (gName 7) (gCons (gName 8) gNil))) (tt := tYes) rfl sc_lines_of.nd (pi_tup (pv 5)) (blkOk_by (own := [("one", 7), ("other", 8)]) (N := sc_lines_of_N) (sc := defScope s_lines_of) (by decide +kernel)) (fun _ _ _ _ _ => (pg_tup rfl (pgs_cons (pg_name (i := 7) sc_lines_of.nd rfl (.inl rfl)) (pgs_cons (pg_name (i := 8) sc_lines_of.nd rfl (.inl rfl)) pgs_nil)))) (fun _ _ _ _ _ => pts_nil) (fun _ _ _ _ _ => (pe_joined (.cons pe_str (.cons (pe_fmt (pv 7)) (.cons pe_str (.cons (pe_fmt (pv 8)) .nil))))))) pa_nil)))))))
  (pss_one (ps_ret (pe_callTy call_tuple_of (by rfl) T.n_tuple (by decide +kernel) (pa_cons (pv 2) pa_nil)))))), ?_⟩
    obtain ⟨a, xs, rfl, ha, rs⟩ := Rep.tup_inv r
    obtain ⟨F, hF⟩ := Reps.fc rs
    have lx : xs.length = cs.length := by rw [rs.len, List.length_map]
    have l8 := G.len
    have hkind : Ev (fun σ H Q => tJs [tC (.str "kind "), tFmt (tVar 0)] Str.empty σ H fun out H1 => Q (.str out) H1) [some kd.v, some (.ref a), none, none, none, none, none, none, none] H (.str (("kind " : Str) ++ kd.sh)) := by
      cases kd with
      | bits => exact ev_js2 ev_c (ev_fmtS (ev_var rfl) (by decide +kernel)) (by decide +kernel)
      | plain => exact ev_js2 ev_c (ev_fmtS (ev_var rfl) (by decide +kernel)) (by decide +kernel)
      | dial m =>
        obtain ⟨m1, m2⟩ := hk
        have lm : (Str.ofString (toString m)).length ≤ 10 := toString_length_le (k := 10) (by omega) (by decide) (by omega)
        refine ev_js2 ev_c (ev_fmtI (ev_var rfl) ?_) (by have e : (Str.ofString "kind ").length = 5 := by decide +kernel
                                                         show (Str.ofString "kind ").length + (Str.ofString (toString m)).length ≤ 10000
                                                         omega)
        have : m.natAbs ≤ 1000000000 := by omega
        exact Nat.lt_trans ((Nat.log2_lt (by omega)).mpr (Nat.lt_of_le_of_lt this (by decide : 1000000000 < 2 ^ 31))) (by decide : 31 < 1920)
    refine q_asgL (el_lst (ea_cons hkind ea_nil) (Nat.le_of_ble_eq_true rfl)) fun l H1 hl e1 h1 => ?_
    refine q_forT (K := K) (a := a) (xs := xs) (ev_var rfl) (st_of (e1 _ _ ha)) (fun i σ' H' => (∃ n s d w o t, σ' = [some kd.v, some (.ref a), some (.ref l), n, s, d, w, o, t]) ∧ Ex H H' ∧ H' l = some (.lst ((linesOf kd (cs.take i)).map V.str)) ∧ (linesOf kd (cs.take i)).length ≤ 1 + 35 * i)
      (fun H2 e2 => ⟨⟨none, none, none, none, none, none, rfl⟩, e1.trans e2, e2 _ _ h1, Nat.le_refl _⟩) (fun i σ' H' _ q => st_of (q.2.1 _ _ ha)) ?_ ?_
    · rintro i x σ' H3 hx ⟨⟨n, s, d, w, o, t, rfl⟩, e3, h3, z3⟩
      have lt : i < cs.length := by have := (List.getElem?_eq_some_iff.mp hx).1; omega
      rw [hF.at_ i lt] at hx
      cases hx
      have F3 := hF.ex e3
      have cm : cs.getD i c0 ∈ cs := Good.mem lt
      have ls := G.c_sums lt
      have ld := G.c_data lt
      refine g_three (K := K) (F3.col i lt) ?_
      have ln := name_len (G.nms _ cm)
      refine q_app (v := .str (("column " : Str) ++ (cs.getD i c0).nm)) h3 (ev_var rfl) (ev_js2 ev_c (ev_fmtS (ev_var rfl) (by omega)) (by
        have e : (Str.ofString "column ").length = 7 := by decide +kernel
        show (Str.ofString "column ").length + _ ≤ 10000
        omega)) (by rw [List.length_map]; omega) fun H4 e4 => ?_
      have h5 : (upd H4 l (.lst ((linesOf kd (cs.take i)).map V.str ++ [.str (("column " : Str) ++ (cs.getD i c0).nm)]))) l = some (.lst ((linesOf kd (cs.take i)).map V.str ++ [.str (("column " : Str) ++ (cs.getD i c0).nm)])) := upd_same
      have x5 : Ex H (upd H4 l (.lst ((linesOf kd (cs.take i)).map V.str ++ [.str (("column " : Str) ++ (cs.getD i c0).nm)]))) := Ex.mut (e3.trans e4) hl
      generalize upd H4 l (.lst ((linesOf kd (cs.take i)).map V.str ++ [.str (("column " : Str) ++ (cs.getD i c0).nm)])) = H5 at h5 x5 ⊢
      have F5 := hF.ex x5
      have s1 := es_lcT1 (K := K) (te := fun σ H Q => tJs [tC (.str "sum "), tFmt (tVar 6)] Str.empty σ H fun out H1 => Q (.str out) H1) (g := gName 6) (vs := [6]) (tl := tVar 4)
        (σ := [some kd.v, some (.ref a), some (.ref l), some (.str (cs.getD i c0).nm), some (.ref (F i).2.1), some (.ref (F i).2.2.1), w, o, t]) (H := H5) (ev_var rfl) (F5.sm i lt) (by rw [List.length_map]; omega)
        (fun j => [some kd.v, some (.ref a), some (.ref l), some (.str (cs.getD i c0).nm), some (.ref (F i).2.1), some (.ref (F i).2.2.1), some (.str ((cs.getD i c0).sums.getD j Str.empty)), o, t]) (fun j => .str (("sum " : Str) ++ (cs.getD i c0).sums.getD j Str.empty)) (fun _ _ => rfl)
        (fun j y H6 R hj e6 q => by
          rw [List.getElem?_map] at hj
          obtain ⟨z, h1, h2⟩ := Option.map_eq_some_iff.mp hj
          have e : (cs.getD i c0).sums.getD j Str.empty = z := List.getD_eq_getElem?_getD.trans (by rw [h1]; rfl)
          rw [e] at q
          subst h2
          exact q)
        (fun j y H6 hj e6 => by
          rw [List.getElem?_map] at hj
          obtain ⟨z, h1, h2⟩ := Option.map_eq_some_iff.mp hj
          have e : (cs.getD i c0).sums.getD j Str.empty = z := List.getD_eq_getElem?_getD.trans (by rw [h1]; rfl)
          have lz := name_len (G.sms _ cm z (List.mem_of_getElem? h1))
          rw [e]
          exact er_str (ev_js2 ev_c (ev_fmtS (ev_var rfl) (by omega)) (by
            have e : (Str.ofString "sum ").length = 4 := by decide +kernel
            show (Str.ofString "sum ").length + _ ≤ 10000
            omega)))
      rw [List.length_map] at s1
      have e1 : ((List.range (cs.getD i c0).sums.length).map fun j => PyData.str (("sum " : Str) ++ (cs.getD i c0).sums.getD j Str.empty)) = ((cs.getD i c0).sums.map fun w => ("sum " : Str) ++ w).map PyData.str := by
        rw [List.map_map]
        exact rg (fun w => PyData.str (("sum " : Str) ++ w)) Str.empty _
      rw [e1] at s1
      refine q_extL h5 (ev_var rfl) (el_es s1) (by rw [List.length_append, List.length_map, List.length_map, List.length_map, List.length_singleton]; omega) fun H6 e6 => ?_
      have h7 := @upd_same H6 l (.lst ((linesOf kd (cs.take i)).map V.str ++ [V.str (("column " : Str) ++ (cs.getD i c0).nm)] ++ ((cs.getD i c0).sums.map fun w => ("sum " : Str) ++ w).map V.str))
      have x7 : Ex H (upd H6 l (.lst ((linesOf kd (cs.take i)).map V.str ++ [V.str (("column " : Str) ++ (cs.getD i c0).nm)] ++ ((cs.getD i c0).sums.map fun w => ("sum " : Str) ++ w).map V.str))) := Ex.mut (x5.trans e6) hl
      generalize upd H6 l (.lst ((linesOf kd (cs.take i)).map V.str ++ [V.str (("column " : Str) ++ (cs.getD i c0).nm)] ++ ((cs.getD i c0).sums.map fun w => ("sum " : Str) ++ w).map V.str)) = H7 at h7 x7 ⊢
      have F7 := hF.ex x7
      have lds : (F i).2.2.2.length = (cs.getD i c0).data.length := by rw [(F7.rp i lt).len, List.length_map]
      have s2 := es_lcT1 (K := K) (te := fun σ H Q => tJs [tC (.str "datum "), tFmt (tVar 7), tC (.str " "), tFmt (tVar 8)] Str.empty σ H fun out H1 => Q (.str out) H1) (g := gTup K 2 (gCons (gName 7) (gCons (gName 8) gNil))) (vs := [7, 8]) (tl := tVar 5)
        (σ := [some kd.v, some (.ref a), some (.ref l), some (.str (cs.getD i c0).nm), some (.ref (F i).2.1), some (.ref (F i).2.2.1), w, o, t]) (H := H7) (ev_var rfl) (F7.dt i lt) (by omega)
        (fun j => [some kd.v, some (.ref a), some (.ref l), some (.str (cs.getD i c0).nm), some (.ref (F i).2.1), some (.ref (F i).2.2.1), w, some (.str ((cs.getD i c0).data.getD j p0).1), some (.str ((cs.getD i c0).data.getD j p0).2)])
        (fun j => .str (("datum " : Str) ++ ((cs.getD i c0).data.getD j p0).1 ++ (" " : Str) ++ ((cs.getD i c0).data.getD j p0).2)) (fun _ _ => rfl)
        (fun j y H8 R hj e8 q => by
          obtain ⟨dd, hd, rd⟩ := (F7.rp i lt).at hj
          rw [List.getElem?_map] at hd
          obtain ⟨pr, h1, rfl⟩ := Option.map_eq_some_iff.mp hd
          obtain ⟨c, rfl, hc⟩ := Rep.prt (rd.ex e8)
          have ep : (cs.getD i c0).data.getD j p0 = pr := List.getD_eq_getElem?_getD.trans (by rw [h1]; rfl)
          rw [ep] at q
          exact g_two (K := K) hc q)
        (fun j y H8 hj e8 => by
          obtain ⟨dd, hd, rd⟩ := (F7.rp i lt).at hj
          rw [List.getElem?_map] at hd
          obtain ⟨pr, h1, rfl⟩ := Option.map_eq_some_iff.mp hd
          have ep : (cs.getD i c0).data.getD j p0 = pr := List.getD_eq_getElem?_getD.trans (by rw [h1]; rfl)
          obtain ⟨m1, m2, _⟩ := G.prs _ cm pr (List.mem_of_getElem? h1)
          have z1 := name_len (sum_name G m1)
          have z2 := name_len (sum_name G m2)
          rw [ep]
          exact er_str (ev_js4 ev_c (ev_fmtS (ev_var rfl) (by omega)) ev_c (ev_fmtS (ev_var rfl) (by omega)) (by
            have e : (Str.ofString "datum ").length = 6 := by decide +kernel
            have e2 : (Str.ofString " ").length = 1 := by decide +kernel
            show (Str.ofString "datum ").length + pr.1.length + (Str.ofString " ").length + pr.2.length ≤ 10000
            omega)))
      rw [lds] at s2
      have e2 : ((List.range (cs.getD i c0).data.length).map fun j => PyData.str (("datum " : Str) ++ ((cs.getD i c0).data.getD j p0).1 ++ (" " : Str) ++ ((cs.getD i c0).data.getD j p0).2)) = ((cs.getD i c0).data.map fun p => ("datum " : Str) ++ p.1 ++ (" " : Str) ++ p.2).map PyData.str := by
        rw [List.map_map]
        exact rg (fun p : Str × Str => PyData.str (("datum " : Str) ++ p.1 ++ (" " : Str) ++ p.2)) p0 _
      rw [e2] at s2
      have eall : (linesOf kd (cs.take i)).map V.str ++ [V.str (("column " : Str) ++ (cs.getD i c0).nm)] ++ ((cs.getD i c0).sums.map fun w => ("sum " : Str) ++ w).map V.str ++ ((cs.getD i c0).data.map fun p => ("datum " : Str) ++ p.1 ++ (" " : Str) ++ p.2).map V.str = (linesOf kd (cs.take (i + 1))).map V.str := by
        rw [lines_succ kd cs lt, List.map_append]
        unfold colLines
        simp
      refine TX.s_extL h7 (ev_var rfl) (el_es s2) (by simp only [List.length_append, List.length_map, List.length_singleton]; omega) fun H8 e8 => ⟨⟨some (.str (cs.getD i c0).nm), some (.ref (F i).2.1), some (.ref (F i).2.2.1), w, o, t, rfl⟩, Ex.mut (x7.trans e8) hl, ?_, ?_⟩
      · rw [upd_same, eall]
      · rw [lines_succ kd cs lt, List.length_append]
        unfold colLines
        simp only [List.length_append, List.length_map, List.length_cons]
        omega
    · rintro σ' H3 ⟨⟨n, s, d, w, o, t, rfl⟩, e3, h3, _⟩
      rw [lx, List.take_length] at h3
      refine s_retR (d := .tuple ((linesOf kd cs).map PyData.str)) (fun H4 e4 Q q => ⟨.ref l, rfl, l, _, rfl, .inl ⟨sq_of (e4 _ _ h3), fun p hp => q (.ref p) _ (Ex.new hp) (.tup upd_same (Reps.ofStrs _))⟩⟩) fun v H4 e4 rv => k v H4 (e3.trans e4) rv
end
end K08
end
section
set_option Elab.async false
set_option linter.all false
set_option maxRecDepth 100000
set_option maxHeartbeats 4000000
namespace K08
open PySem PySem.Spec PyProof.Rows L2 Evl TX
open C8 (Cal pe_c pe_gc)
def fNames : List Str := ["_kind", "_columns", "_names", "_sums", "_data", "_cells_of", "_cells", "_column_of", "_lines"]
def fz (vs : List V) : List (Str × V) := fNames.zip vs
/-- what the class of tables is asked -/
structure ClT (K : PySem.W.Frag) (C : Addr) : Prop where
  cl : Cls K C
  no : ∀ f ∈ fNames, NoAttr K C f
def cellsL (cs : List Col) : List PyData := (List.range cs.length).flatMap (cellsAt cs)
def nmsD (cs : List Col) : PyData := .tuple (cs.map fun c => PyData.str c.nm)
/-- a tuple whose object is known -/
def TupF (H : Hp) (v : V) (ds : List PyData) : Prop := ∃ (a : Addr) (ob : Obj) (xs : List V), v = .ref a ∧ H a = some (.frz ob (.tup xs)) ∧ ob.cls = .type "tuple" ∧ ob.dict = none ∧ Reps H xs ds
theorem TupF.ex {H H' : Hp} {v : V} {ds : List PyData} (h : TupF H v ds) (e : Ex H H') : TupF H' v ds := let ⟨a, ob, xs, h1, h2, h3, h4, h5⟩ := h; ⟨a, ob, xs, h1, e _ _ h2, h3, h4, h5.ex e⟩
theorem stF {K : PySem.W.Frag} {H : Hp} {a : Addr} {ob : Obj} {xs : List V} (h : H a = some (.frz ob (.tup xs))) : SqT K H a xs := .inl (.inr ⟨ob, h⟩)
theorem opCB0_ {r : List V → Hp → VK → Prop} {t : TA} {σ : L2.St} {H : Hp} {Q : VK} (h : t σ H fun vs H1 => r vs H1 Q) : tCB r t σ H Q := h
theorem ev_lenF {K : PySem.W.Frag} {te : TE} {σ : L2.St} {H : Hp} {a : Addr} {xs : List V} (h : Ev te σ H (.ref a)) (hx : SqT K H a xs) : Ev (tCB (rLenS K) (tCons te tNil)) σ H (.int (xs.length : Int)) := fun H1 e Q q => h H1 e _ fun H2 e2 => ⟨a, xs, rfl, .inr (ex_t (e.trans e2) hx), q H2 e2⟩
def keyOf : PyData → List Key
  | .tuple [.str a, .str b] => [.inr a, .inr b]
  | .tuple [.str a, .int n] => [.inr a, .inl n]
  | _ => []
/-- which column holds a cell, as the dict that __init__ makes -/
def columnD (cs : List Col) : List (List Key × V) := TX.fill2 cs.length (fun i => (cellsAt cs i).length) (fun i j => keyOf ((cellsAt cs i).getD j .none)) (fun i _ => .str (cs.getD i c0).nm)
/-- a table -/
structure TabAt (H : Hp) (C a : Addr) (k : Kd) (cs : List Col) : Prop where
  ex : ∃ (dx : Addr) (v1 v2 v3 v4 v6 v9 : V) (p q : Addr) (kvs : List (List Key × V)), H a = some (.ins C dx (fz [k.v, v1, v2, v3, v4, .ref p, v6, .ref q, v9])) ∧ Rep H v1 (colsD cs) ∧ Rep H v2 (nmsD cs) ∧ Rep H v3 (.tuple ((sumsOf cs).map PyData.str)) ∧ Rep H v4 (.tuple ((dataOf cs).map pairD)) ∧
    CellsD H p cs ∧ TupF H v6 (cellsL cs) ∧ H q = some (.dT (columnD cs)) ∧ Rep H v9 (.tuple ((linesOf k cs).map PyData.str))
structure Mid (H0 H : Hp) (a C dx : Addr) (fs : List (Str × V)) : Prop where
  at_ : H a = some (.ins C dx fs)
  but : ∀ b o, b ≠ a → H0 b = some o → H b = some o
theorem Mid.put {H0 H H1 : Hp} {a C dx : Addr} {fs fs' : List (Str × V)} {f : Str} {v : V} (m : Mid H0 H a C dx fs) (e : Ex H H1) (h : putF f v fs = fs') : Mid H0 (upd H1 a (.ins C dx (putF f v fs))) a C dx fs' :=
  ⟨by rw [upd_same, h], fun b o hb h0 => by rw [upd_ne hb]; exact e _ _ (m.but b o hb h0)⟩
theorem Mid.tx {H0 H H1 : Hp} {a C dx : Addr} {fs : List (Str × V)} {o : HO} (m : Mid H0 H a C dx fs) (e : Ex H H1) : TX.Tx H (upd H1 a o) := (Tx.ex e).trans (Tx.ins (e _ _ m.at_))
theorem Mid.ex {H0 H H1 : Hp} {a C dx : Addr} {fs : List (Str × V)} (m : Mid H0 H a C dx fs) (e : Ex H H1) : Mid H0 H1 a C dx fs := ⟨e _ _ m.at_, fun b o hb h0 => e _ _ (m.but b o hb h0)⟩
theorem keep_dK {H0 H H1 : Hp} {a C dx p : Addr} {fs : List (Str × V)} {o : HO} {kvs : List (Key × V)} (m : Mid H0 H a C dx fs) (e : Ex H H1) (h : H p = some (.dK kvs)) : (upd H1 a o) p = some (.dK kvs) := by
  rw [upd_ne (fun z => by have q := m.at_; rw [← z, h] at q; cases q)]
  exact e _ _ h
theorem keep_dT {H0 H H1 : Hp} {a C dx p : Addr} {fs : List (Str × V)} {o : HO} {kvs : List (List Key × V)} (m : Mid H0 H a C dx fs) (e : Ex H H1) (h : H p = some (.dT kvs)) : (upd H1 a o) p = some (.dT kvs) := by
  rw [upd_ne (fun z => by have q := m.at_; rw [← z, h] at q; cases q)]
  exact e _ _ h
theorem TupF.put {H0 H H1 : Hp} {a C dx : Addr} {fs : List (Str × V)} {o : HO} {v : V} {ds : List PyData} (m : Mid H0 H a C dx fs) (e : Ex H H1) (h : TupF H v ds) : TupF (upd H1 a o) v ds := by
  obtain ⟨p, ob, xs, h1, h2, h3, h4, h5⟩ := h
  refine ⟨p, ob, xs, h1, ?_, h3, h4, h5.on (m.tx e)⟩
  rw [upd_ne (fun z => by have q := m.at_; rw [← z, h2] at q; cases q)]
  exact e _ _ h2
theorem CellsD.put {H0 H H1 : Hp} {a C dx p : Addr} {fs : List (Str × V)} {o : HO} {cs : List Col} (m : Mid H0 H a C dx fs) (e : Ex H H1) (h : CellsD H p cs) : CellsD (upd H1 a o) p cs := by
  obtain ⟨zs, h1, h2⟩ := h
  exact ⟨zs, keep_dK m e h1, h2.on (m.tx e)⟩
theorem CellsD.ex {H H1 : Hp} {p : Addr} {cs : List Col} (e : Ex H H1) (h : CellsD H p cs) : CellsD H1 p cs := by
  obtain ⟨zs, h1, h2⟩ := h
  exact ⟨zs, e _ _ h1, h2.ex e⟩
theorem Fc.on {H H' : Hp} {xs : List V} {cs : List Col} {F : Nat → Addr × Addr × Addr × List V} (f : Fc H xs cs F) (t : TX.Tx H H') : Fc H' xs cs F :=
  ⟨f.at_, fun i hi => t _ _ (f.col i hi), fun i hi => t _ _ (f.sm i hi), fun i hi => t _ _ (f.dt i hi), fun i hi => (f.rp i hi).on t⟩
/-- where the columns' cells stand -/
theorem CellsD.fc {H : Hp} {p : Addr} {cs : List Col} (h : CellsD H p cs) : ∃ (T : Nat → Addr × List V) (zs : List V), H p = some (.dK (zs.zipIdx.map fun z => (.inr (cs.getD z.2 c0).nm, z.1))) ∧ zs.length = cs.length ∧ ∀ i, i < cs.length → zs[i]? = some (.ref (T i).1) ∧ H (T i).1 = some (.tup (T i).2) ∧ Reps H (T i).2 (cellsAt cs i) := by
  obtain ⟨zs, h1, h2⟩ := h
  have lz : zs.length = cs.length := by rw [h2.len, List.length_map, List.length_range]
  have q : ∀ i, ∃ y : Addr × List V, i < cs.length → zs[i]? = some (.ref y.1) ∧ H y.1 = some (.tup y.2) ∧ Reps H y.2 (cellsAt cs i) := fun i => by
    by_cases hi : i < cs.length
    · obtain ⟨x, hx, rx⟩ := h2.get (i := i) (d := .tuple (cellsAt cs i)) (by rw [List.getElem?_map, List.getElem?_range hi]; rfl)
      obtain ⟨t, ys, rfl, ht, rt⟩ := rx.tup_inv
      exact ⟨(t, ys), fun _ => ⟨hx, ht, rt⟩⟩
    · exact ⟨(0, []), fun z => absurd z hi⟩
  obtain ⟨T, hT⟩ := Classical.skolem.mp q
  exact ⟨T, zs, h1, lz, hT⟩
theorem cells_val {cs : List Col} (G : Good cs) {zs : List V} (lz : zs.length = cs.length) {i : Nat} (hi : i < cs.length) {v : V} (h : zs[i]? = some v) : valV (zs.zipIdx.map fun z => ((.inr (cs.getD z.2 c0).nm : Key), z.1)) (.inr (cs.getD i c0).nm) = some v := by
  refine val_at (i := i) ?_ ?_
  · rw [List.nodup_iff_pairwise_ne, List.pairwise_iff_getElem]
    intro j k hj hk hjk e
    simp only [List.length_map, List.length_zipIdx] at hj hk
    simp only [List.getElem_map, List.getElem_zipIdx, Nat.zero_add] at e
    have := nms_ne G (i := j) (j := k) (by omega) (by omega) (Sum.inr.inj e)
    omega
  · rw [List.getElem?_map, List.getElem?_zipIdx, h]
    simp
theorem cellsAt_len {cs : List Col} (G : Good cs) {i : Nat} (hi : i < cs.length) : (cellsAt cs i).length ≤ 34 := by
  unfold cellsAt cellsC
  rw [List.length_append, List.length_map, List.length_map, List.length_range]
  have := G.c_sums hi
  have := G.c_data hi
  omega
def tSp (C : Addr) : Sp := fun vs H Q _ => ∃ (a dx : Addr) (k : Kd) (v : V) (cs : List Col), vs = [.ref a, k.v, v] ∧ k.ok ∧ Rep H v (colsD cs) ∧ Good cs ∧ H a = some (.ins C dx []) ∧ ∀ H', (∀ b o, b ≠ a → H b = some o → H' b = some o) → TabAt H' C a k cs → Q .non H'
/-- [word for name, sums, data in columns for word in sums], [.. for pair in data] -/
theorem two_sums {K : PySem.W.Frag} {a : Addr} {xs : List V} {cs : List Col} {F : Nat → Addr × Addr × Addr × List V} {H : Hp} {s k x8 : Option V} (G : Good cs) (lx : xs.length = cs.length) (ha : H a = some (.tup xs)) (hF : Fc H xs cs F) :
    Two [s, k, some (.ref a), none, none, none, none, none, x8] H (Itt K a) cs.length (fun H => SqT K H a xs) (YAt xs) (iTup K (tVar 2)) (iTup K (tVar 4)) (gTup K 3 (gCons (gName 3) (gCons (gName 4) (gCons (gName 5) gNil)))) (gName 6) [3, 4, 5, 6] [6] (fun i => Itt K (F i).2.1) (fun i => (cs.getD i c0).sums.length)
      (fun i H => SqT K H (F i).2.1 ((cs.getD i c0).sums.map V.str)) (fun i => YAt ((cs.getD i c0).sums.map V.str))
    (fun i => [s, k, some (.ref a), some (.str (cs.getD i c0).nm), some (.ref (F i).2.1), some (.ref (F i).2.2.1), none, none, x8]) (fun i j => [s, k, some (.ref a), some (.str (cs.getD i c0).nm), some (.ref (F i).2.1), some (.ref (F i).2.2.1), some (.str ((cs.getD i c0).sums.getD j Str.empty)), none, x8]) := {
  W := by rw [← lx]; exact walk_tup
  W1 := fun i hi => by
    have q := walk_tup (K := K) (a := (F i).2.1) (xs := (cs.getD i c0).sums.map V.str)
    rw [List.length_map] at q
    exact q
  lim := ⟨by have := G.len; omega, fun i hi => by have := G.c_sums hi; omega⟩
  go := fun H3 e3 R q => ⟨.ref a, rfl, a, rfl, ⟨xs, st_of (e3 _ _ ha)⟩, q H3 (Ex.refl H3) (st_of (e3 _ _ ha))⟩
  keep := fun H3 H4 e q => ex_t e q
  wp := fun _ _ => rfl
  tg := fun i x H3 H4 R hi e3 _ ⟨e4, hx⟩ q => by
    subst e4
    rw [hF.at_ i hi] at hx
    cases hx
    exact g_three (K := K) (e3 _ _ (hF.col i hi)) (q _ (Ex.refl _))
  go1 := fun i H3 hi e3 R q => ⟨.ref (F i).2.1, rfl, _, rfl, ⟨_, st_of (e3 _ _ (hF.sm i hi))⟩, q H3 (Ex.refl H3)⟩
  keep1 := fun i H3 hi e3 => st_of (e3 _ _ (hF.sm i hi))
  wp1 := fun _ _ _ _ => rfl
  tg1 := fun i j x H3 H4 R hi hj e3 _ ⟨e4, hx⟩ q => by
    subst e4
    rw [List.getElem?_map, List.getElem?_eq_getElem hj] at hx
    cases hx
    have q2 := q _ (Ex.refl _)
    have e : (cs.getD i c0).sums.getD j Str.empty = (cs.getD i c0).sums[j] := List.getD_eq_getElem?_getD.trans (by rw [List.getElem?_eq_getElem hj]; rfl)
    rw [e] at q2
    exact q2 }
theorem two_data {K : PySem.W.Frag} {a : Addr} {xs : List V} {cs : List Col} {F : Nat → Addr × Addr × Addr × List V} {H : Hp} {s k x8 : Option V} (G : Good cs) (lx : xs.length = cs.length) (ha : H a = some (.tup xs)) (hF : Fc H xs cs F) :
    Two [s, k, some (.ref a), none, none, none, none, none, x8] H (Itt K a) cs.length (fun H => SqT K H a xs) (YAt xs) (iTup K (tVar 2)) (iTup K (tVar 5)) (gTup K 3 (gCons (gName 3) (gCons (gName 4) (gCons (gName 5) gNil)))) (gName 7) [3, 4, 5, 7] [7] (fun i => Itt K (F i).2.2.1) (fun i => (F i).2.2.2.length)
      (fun i H => SqT K H (F i).2.2.1 (F i).2.2.2) (fun i => YAt (F i).2.2.2)
    (fun i => [s, k, some (.ref a), some (.str (cs.getD i c0).nm), some (.ref (F i).2.1), some (.ref (F i).2.2.1), none, none, x8]) (fun i j => [s, k, some (.ref a), some (.str (cs.getD i c0).nm), some (.ref (F i).2.1), some (.ref (F i).2.2.1), none, (F i).2.2.2[j]?, x8]) := {
  W := by rw [← lx]; exact walk_tup
  W1 := fun i hi => walk_tup
  lim := ⟨by have := G.len; omega, fun i hi => by have := G.c_data hi; rw [(hF.rp i hi).len, List.length_map]; omega⟩
  go := fun H3 e3 R q => ⟨.ref a, rfl, a, rfl, ⟨xs, st_of (e3 _ _ ha)⟩, q H3 (Ex.refl H3) (st_of (e3 _ _ ha))⟩
  keep := fun H3 H4 e q => ex_t e q
  wp := fun _ _ => rfl
  tg := fun i x H3 H4 R hi e3 _ ⟨e4, hx⟩ q => by
    subst e4
    rw [hF.at_ i hi] at hx
    cases hx
    exact g_three (K := K) (e3 _ _ (hF.col i hi)) (q _ (Ex.refl _))
  go1 := fun i H3 hi e3 R q => ⟨.ref (F i).2.2.1, rfl, _, rfl, ⟨_, st_of (e3 _ _ (hF.dt i hi))⟩, q H3 (Ex.refl H3)⟩
  keep1 := fun i H3 hi e3 => st_of (e3 _ _ (hF.dt i hi))
  wp1 := fun _ _ _ _ => rfl
  tg1 := fun i j x H3 H4 R hi hj e3 _ ⟨e4, hx⟩ q => by
    subst e4
    have q2 := q _ (Ex.refl _)
    rw [hx] at q2
    exact q2 }
end K08
end
section
set_option Elab.async false
set_option linter.all false
set_option maxRecDepth 100000
set_option maxHeartbeats 4000000
namespace K08
open PySem PySem.Spec PyProof.Rows L2 Evl TX
open C8 (Cal pe_c pe_gc)
abbrev FnM (K : PySem.W.Frag) (x q : Str) (st : Stmt) (f : Addr) (fd : FuncData) : Prop := FunD K x q (defArgs st) (defBody st) (defScope st) [] [] f fd
/-- [cell for name in self._names for cell in self._cells_of[name]] -/
theorem two_cells {K : PySem.W.Frag} {C a b dx n p : Addr} {k : V} {v1 v3 v4 : V} {fs : List (Str × V)} {cs : List Col} {H : Hp} {Tf : Nat → Addr × List V} {zs : List V} {s8 : V} (G : Good cs) (cl : ClT K C) (ha : H a = some (.ins C dx fs)) (l2 : fs.lookup ("_names" : Str) = some (V.ref n)) (l5 : fs.lookup ("_cells_of" : Str) = some (V.ref p))
    (hn : H n = some (.tup (cs.map fun c => V.str c.nm))) (hp : H p = some (.dK (zs.zipIdx.map fun z => (.inr (cs.getD z.2 c0).nm, z.1)))) (lz : zs.length = cs.length) (hT : ∀ i, i < cs.length → zs[i]? = some (.ref (Tf i).1) ∧ H (Tf i).1 = some (.tup (Tf i).2) ∧ Reps H (Tf i).2 (cellsAt cs i)) :
    Two [some (.ref a), some k, some s8, none, none, none, none, none, none] H (Itt K n) cs.length (fun H => SqT K H n (cs.map fun c => V.str c.nm)) (YAt (cs.map fun c => V.str c.nm)) (iTup K (tFld K (tVar 0) "_names")) (iTup K (tDGet (tFld K (tVar 0) "_cells_of") (tVar 3))) (gName 3) (gName 8) [3, 8] [8] (fun i => Itt K (Tf i).1) (fun i => (Tf i).2.length)
      (fun i H => SqT K H (Tf i).1 (Tf i).2) (fun i => YAt (Tf i).2)
    (fun i => [some (.ref a), some k, some s8, some (.str (cs.getD i c0).nm), none, none, none, none, none]) (fun i j => [some (.ref a), some k, some s8, some (.str (cs.getD i c0).nm), none, none, none, none, (Tf i).2[j]?]) := {
  W := by
    have q := walk_tup (K := K) (a := n) (xs := cs.map fun c => V.str c.nm)
    rw [List.length_map] at q
    exact q
  W1 := fun i hi => walk_tup
  lim := ⟨by have := G.len; omega, fun i hi => by have := cellsAt_len G hi; rw [(hT i hi).2.2.len]; omega⟩
  go := fun H3 e3 R q => ev_fld (K := K) (ev_var (i := 0) rfl) (e3 _ _ ha) cl.cl (cl.no _ (by decide +kernel)) l2 H3 (Ex.refl H3) _ fun H4 e4 => ⟨n, rfl, ⟨_, st_of ((e3.trans e4) _ _ hn)⟩, q H4 e4 (st_of ((e3.trans e4) _ _ hn))⟩
  keep := fun H3 H4 e q => ex_t e q
  wp := fun _ _ => rfl
  tg := fun i x H3 H4 R hi e3 _ ⟨e4, hx⟩ q => by
    subst e4
    rw [List.getElem?_map, getc hi] at hx
    cases hx
    exact q _ (Ex.refl _)
  go1 := fun i H3 hi e3 R q => ev_dget (ev_fld (K := K) (ev_var (i := 0) rfl) (e3 _ _ ha) cl.cl (cl.no _ (by decide +kernel)) l5) (ev_var (i := 3) rfl) (e3 _ _ hp) (cells_val G lz hi (hT i hi).1) H3 (Ex.refl H3) _ fun H4 e4 => ⟨_, rfl, ⟨_, st_of ((e3.trans e4) _ _ (hT i hi).2.1)⟩, q H4 e4⟩
  keep1 := fun i H3 hi e3 => st_of (e3 _ _ (hT i hi).2.1)
  wp1 := fun _ _ _ _ => rfl
  tg1 := fun i j x H3 H4 R hi hj e3 _ ⟨e4, hx⟩ q => by
    subst e4
    have q2 := q _ (Ex.refl _)
    rw [hx] at q2
    exact q2 }
theorem cell_form {cs : List Col} {i : Nat} {d : PyData} (h : d ∈ cellsAt cs i) : (∃ w, d = sumC w) ∨ ∃ n, d = datC n := by
  unfold cellsAt cellsC at h
  rcases List.mem_append.mp h with h | h
  · obtain ⟨w, _, rfl⟩ := List.mem_map.mp h
    exact .inl ⟨w, rfl⟩
  · obtain ⟨j, _, rfl⟩ := List.mem_map.mp h
    exact .inr ⟨_, rfl⟩
theorem cell_key {H : Hp} {x : V} {d : PyData} (r : Rep H x d) (h : (∃ w, d = sumC w) ∨ ∃ n, d = datC n) : ∃ b, x = .ref b ∧ H b = some (.tup ((keyOf d).map kV)) := by
  rcases h with ⟨w, rfl⟩ | ⟨n, rfl⟩
  · obtain ⟨a, y, z, rfl, h, h1, h2⟩ := Rep.two r
    rw [h1.str_inv, h2.str_inv] at h
    exact ⟨a, rfl, h⟩
  · obtain ⟨a, y, z, rfl, h, h1, h2⟩ := Rep.two r
    rw [h1.str_inv, h2.int_inv] at h
    exact ⟨a, rfl, h⟩
theorem names_rep {H : Hp} {cs : List Col} {v : V} (r : Rep H v (nmsD cs)) : ∃ n, v = .ref n ∧ H n = some (.tup (cs.map fun c => V.str c.nm)) := by
  obtain ⟨n, xs, rfl, h, rs⟩ := Rep.tup_inv r
  have q : Reps H xs ((cs.map (·.nm)).map PyData.str) := by rw [List.map_map]; exact rs
  rw [q.strs, List.map_map] at h
  exact ⟨n, rfl, h⟩
section
variable {P : Program} {w : World} {K : PySem.W.Frag} {mg : Str → Option Value} {base : Heap} {f : Addr} {fd : FuncData}
abbrev sc_Table_init_N : List Str := ["self", "kind", "columns", "name", "sums", "data", "word", "pair", "cell"]
theorem sc_Table_init : FnScope sc_Table_init_N ["self", "kind", "columns"] (defScope s_Table_init) := ⟨rfl, rfl, rfl, by decide +kernel, rfl, by decide +kernel, by decide +kernel⟩
theorem ok_tinit (F : FnM K "__init__" "Table.__init__" s_Table_init f fd) (T : Tops mg) (C_is_kind : Cal P w K mg base 3 "is_kind" (pSp rKind) []) (C_check_columns : Cal P w K mg base 4 "check_columns" (pSp rCols) []) (C_cells_by_column : Cal P w K mg base 1 "cells_by_column" cSp []) (C_lines_of : Cal P w K mg base 1 "lines_of" (dSp rLines) []) {C : Addr} (cl : ClT K C) : FnOk P w K mg base CX0 5 f fd ["self", "kind", "columns"] (tSp C) := by
  refine F.ok sc_Table_init (fun vs H Q E h => ?_) (fun cdv A outer s H vs Q E hr h => ?_)
  · obtain ⟨a, dx, kd, v, cs, rfl, _⟩ := h; rfl
  · obtain ⟨a, dx, kd, v, cs, rfl, hk, r, G, ha, k⟩ := h
    have hu1 := Nat.lt_of_le_of_lt (Nat.add_le_add_left (by decide : 1 ≤ 64) _) hr.units
    refine ⟨_, PSs.nox (pss_cons (ps_if (pt_not (pt_val (pe_c C_is_kind hr (by decide) rfl (pa_cons (pv 1) pa_nil))))
  (pss_one ps_dead)
  pss_nil)
  (pss_cons (ps_expr (pe_c C_check_columns hr (by decide) rfl (pa_cons (pv 2) pa_nil)))
  (pss_cons (ps_fld (pv 0) (pv 1) rfl)
  (pss_cons (ps_fld (pv 0) (pv 2) rfl)
  (pss_cons (ps_fld (pv 0) (pe_callTy call_tuple_of (by rfl) T.n_tuple (by decide +kernel) (pa_cons (pe_lc (own := [("name", 3), ("sums", 4), ("data", 5)]) (g := gTup K 3 (gCons (gName 3) (gCons (gName 4) (gCons (gName 5) gNil)))) (tt := tYes) rfl sc_Table_init.nd (pi_tup (pv 2)) (blkOk_by (own := [("name", 3), ("sums", 4), ("data", 5)]) (N := sc_Table_init_N) (sc := defScope s_Table_init) (by decide +kernel)) (fun _ _ _ _ _ => (pg_tup rfl (pgs_cons (pg_name (i := 3) sc_Table_init.nd rfl (.inl rfl)) (pgs_cons (pg_name (i := 4) sc_Table_init.nd rfl (.inl rfl)) (pgs_cons (pg_name (i := 5) sc_Table_init.nd rfl (.inl rfl)) pgs_nil))))) (fun _ _ _ _ _ => pts_nil) (fun _ _ _ _ _ => (pv 3))) pa_nil)) rfl)
  (pss_cons (ps_fld (pv 0) (pe_callTy call_tuple_of (by rfl) T.n_tuple (by decide +kernel) (pa_cons (pe_lc2 (own := [("name", 3), ("sums", 4), ("data", 5), ("word", 6)]) (vs1 := [6]) (wi1 := (iTup K (tVar 4))) (tt := tYes) (tt1 := tYes) (g := gTup K 3 (gCons (gName 3) (gCons (gName 4) (gCons (gName 5) gNil)))) (g1 := gName 6) rfl sc_Table_init.nd (pi_tup (pv 2)) (blkOk_by (own := [("name", 3), ("sums", 4), ("data", 5), ("word", 6)]) (N := sc_Table_init_N) (sc := defScope s_Table_init) (by decide +kernel)) (by decide) (fun _ _ _ _ _ => (pg_tup rfl (pgs_cons (pg_name (i := 3) sc_Table_init.nd rfl (.inl rfl)) (pgs_cons (pg_name (i := 4) sc_Table_init.nd rfl (.inl rfl)) (pgs_cons (pg_name (i := 5) sc_Table_init.nd rfl (.inl rfl)) pgs_nil))))) (fun _ _ _ _ _ => pts_nil) (fun _ _ _ _ _ => (pi_tup (pv 4))) (fun _ _ _ _ _ => (pg_name (i := 6) sc_Table_init.nd rfl (.inl rfl))) (fun _ _ _ _ _ => pts_nil) (fun _ _ _ _ _ => (pv 6))) pa_nil)) rfl)
  (pss_cons (ps_fld (pv 0) (pe_callTy call_tuple_of (by rfl) T.n_tuple (by decide +kernel) (pa_cons (pe_lc2 (own := [("name", 3), ("sums", 4), ("data", 5), ("pair", 7)]) (vs1 := [7]) (wi1 := (iTup K (tVar 5))) (tt := tYes) (tt1 := tYes) (g := gTup K 3 (gCons (gName 3) (gCons (gName 4) (gCons (gName 5) gNil)))) (g1 := gName 7) rfl sc_Table_init.nd (pi_tup (pv 2)) (blkOk_by (own := [("name", 3), ("sums", 4), ("data", 5), ("pair", 7)]) (N := sc_Table_init_N) (sc := defScope s_Table_init) (by decide +kernel)) (by decide) (fun _ _ _ _ _ => (pg_tup rfl (pgs_cons (pg_name (i := 3) sc_Table_init.nd rfl (.inl rfl)) (pgs_cons (pg_name (i := 4) sc_Table_init.nd rfl (.inl rfl)) (pgs_cons (pg_name (i := 5) sc_Table_init.nd rfl (.inl rfl)) pgs_nil))))) (fun _ _ _ _ _ => pts_nil) (fun _ _ _ _ _ => (pi_tup (pv 5))) (fun _ _ _ _ _ => (pg_name (i := 7) sc_Table_init.nd rfl (.inl rfl))) (fun _ _ _ _ _ => pts_nil) (fun _ _ _ _ _ => (pv 7))) pa_nil)) rfl)
  (pss_cons (ps_fld (pv 0) (pe_c C_cells_by_column hr (by decide) rfl (pa_cons (pv 2) pa_nil)) rfl)
  (pss_cons (ps_fld (pv 0) (pe_callTy BB.call_tupleF (by rfl) T.n_tuple (by decide +kernel) (pa_cons (pe_lc2 (own := [("name", 3), ("cell", 8)]) (vs1 := [8]) (wi1 := (iTup K (tDGet (tFld K (tVar 0) "_cells_of") (tVar 3)))) (tt := tYes) (tt1 := tYes) (g := gName 3) (g1 := gName 8) rfl sc_Table_init.nd (pi_tup (pe_fld (pv 0) rfl)) (blkOk_by (own := [("name", 3), ("cell", 8)]) (N := sc_Table_init_N) (sc := defScope s_Table_init) (by decide +kernel)) (by decide) (fun _ _ _ _ _ => (pg_name (i := 3) sc_Table_init.nd rfl (.inl rfl))) (fun _ _ _ _ _ => pts_nil) (fun _ _ _ _ _ => (pi_tup (pe_dget hu1 (pe_fld (pv 0) rfl) (pv 3) (fun _ _ => rfl)))) (fun _ _ _ _ _ => (pg_name (i := 8) sc_Table_init.nd rfl (.inl rfl))) (fun _ _ _ _ _ => pts_nil) (fun _ _ _ _ _ => (pv 8))) pa_nil)) rfl)
  (pss_cons (ps_fld (pv 0) (D2.pe_dc2 (own := [("name", 3), ("cell", 8)]) (vs1 := [8]) (wi1 := (iTup K (tDGet (tFld K (tVar 0) "_cells_of") (tVar 3)))) (g := gName 3) (g1 := gName 8) rfl hu1 sc_Table_init.nd (pi_tup (pe_fld (pv 0) rfl)) (blkOk_by (own := [("name", 3), ("cell", 8)]) (N := sc_Table_init_N) (sc := defScope s_Table_init) (by decide +kernel)) (by decide) (fun _ _ _ _ _ => (pg_name (i := 3) sc_Table_init.nd rfl (.inl rfl))) (fun _ _ _ _ _ => (pi_tup (pe_dget hu1 (pe_fld (pv 0) rfl) (pv 3) (fun _ _ => rfl)))) (fun _ _ _ _ _ => (pg_name (i := 8) sc_Table_init.nd rfl (.inl rfl))) (fun _ _ _ _ _ => (pv 8)) (fun _ _ _ _ _ => (pv 3))) rfl)
  (pss_one (ps_fld (pv 0) (pe_c C_lines_of hr (by decide) rfl (pa_cons (pv 1) (pa_cons (pv 2) pa_nil))) rfl)))))))))))), ?_⟩
    obtain ⟨b, xs, rfl, hb, rs⟩ := Rep.tup_inv r
    obtain ⟨F, hF⟩ := Reps.fc rs
    have lx : xs.length = cs.length := by rw [rs.len, List.length_map]
    have l8 := G.len
    refine q_when (b := false) (et_is (et_not (et_B (ev_pc (z := .bl true) (ea_cons (ev_var rfl) ea_nil) fun _ _ => ⟨kd, rfl, hk, rfl⟩))) rfl) (fun z => (nomatch z)) fun _ H1 e1 => ?_
    refine q_drop (ev_pc (z := .non) (ea_cons (ev_var rfl) ea_nil) fun H2 e2 => ⟨_, cs, rfl, r.ex (e1.trans e2), G, rfl⟩) fun H2 e2 => ?_
    have m2 : Mid H H2 a C dx (fz []) := ⟨(e1.trans e2) _ _ ha, fun b o _ h => (e1.trans e2) _ _ h⟩
    have r2 := r.ex (e1.trans e2)
    have b2 := (e1.trans e2) _ _ hb
    have F2 := hF.ex (e1.trans e2)
    -- the kind, the columns
    refine q_fld (K := K) (ev_var rfl) (ev_var rfl) m2.at_ cl.cl (cl.no _ (by decide +kernel)) (by decide) fun H3 e3 => ?_
    have t := m2.tx (o := .ins C dx (putF "_kind" kd.v (fz []))) e3
    have m3 := m2.put (f := "_kind") (v := kd.v) (fs' := fz [kd.v]) e3 rfl
    have r3 := r2.on t
    have b3 := t _ _ b2
    have F3 := F2.on t
    clear t
    generalize upd H3 a (.ins C dx (putF "_kind" kd.v (fz []))) = H3 at m3 r3 b3 F3 ⊢
    refine q_fld (K := K) (ev_var rfl) (ev_var rfl) m3.at_ cl.cl (cl.no _ (by decide +kernel)) (by show 1 < 1000; decide) fun H4 e4 => ?_
    have t := m3.tx (o := .ins C dx (putF "_columns" (.ref b) (fz [kd.v]))) e4
    have m4 := m3.put (f := "_columns") (v := .ref b) (fs' := fz [kd.v, .ref b]) e4 rfl
    have r4 := r3.on t
    have b4 := t _ _ b3
    have F4 := F3.on t
    clear t
    generalize upd H4 a (.ins C dx (putF "_columns" (.ref b) (fz [kd.v]))) = H4 at m4 r4 b4 F4 ⊢
    -- the names
    have s5 := es_lcT1 (K := K) (te := tVar 3) (g := gTup K 3 (gCons (gName 3) (gCons (gName 4) (gCons (gName 5) gNil)))) (vs := [3, 4, 5]) (tl := tVar 2) (σ := [some (.ref a), some kd.v, some (.ref b), none, none, none, none, none, none]) (H := H4) (ev_var rfl) b4 (by omega)
      (fun i => [some (.ref a), some kd.v, some (.ref b), some (.str (cs.getD i c0).nm), some (.ref (F i).2.1), some (.ref (F i).2.2.1), none, none, none]) (fun i => .str (cs.getD i c0).nm) (fun _ _ => rfl)
      (fun i x H5 R hx e5 q => by
        have lt : i < cs.length := by have := (List.getElem?_eq_some_iff.mp hx).1; omega
        rw [F4.at_ i lt] at hx
        cases hx
        exact g_three (K := K) (e5 _ _ (F4.col i lt)) q) (fun i x H5 hx e5 => er_str (ev_var rfl))
    rw [lx] at s5
    have e5 : ((List.range cs.length).map fun i => PyData.str (cs.getD i c0).nm) = cs.map fun c => PyData.str c.nm := rg (fun c : Col => PyData.str c.nm) c0 cs
    rw [e5] at s5
    clear e5
    refine q_fldR (K := K) (d := nmsD cs) (er_tuple (K := K) s5) (ev_var rfl) m4.at_ cl.cl (cl.no _ (by decide +kernel)) (by show 2 < 1000; decide) fun v2 H5 e5 rv h5 => ?_
    obtain ⟨nn, rfl, hn⟩ := names_rep rv
    have t := m4.tx (o := .ins C dx (putF "_names" (.ref nn) (fz [kd.v, .ref b]))) e5
    have t' : TX.Tx H5 (upd H5 a (.ins C dx (putF "_names" (.ref nn) (fz [kd.v, .ref b])))) := Tx.ins h5
    have m5 := m4.put (f := "_names") (v := .ref nn) (fs' := fz [kd.v, .ref b, .ref nn]) e5 rfl
    have r5 := r4.on t
    have b5 := t _ _ b4
    have F5 := F4.on t
    have rn := rv.on t'
    clear t t' rv hn h5 s5
    generalize upd H5 a (.ins C dx (putF "_names" (.ref nn) (fz [kd.v, .ref b]))) = H5 at m5 r5 b5 F5 rn ⊢
    -- the sums
    have s6 := es_lc2 (te := tVar 6) (two_sums (K := K) (s := some (.ref a)) (k := some kd.v) (x8 := none) G lx b5 F5) (fun i j => .str ((cs.getD i c0).sums.getD j Str.empty)) fun i j H6 hi hj e6 => er_str (ev_var rfl)
    have e6 : ((List.range cs.length).flatMap fun i => (List.range (cs.getD i c0).sums.length).map fun j => PyData.str ((cs.getD i c0).sums.getD j Str.empty)) = (sumsOf cs).map PyData.str := by
      have q : ∀ c : Col, (List.range c.sums.length).map (fun j => PyData.str (c.sums.getD j Str.empty)) = c.sums.map PyData.str := fun c => rg PyData.str Str.empty c.sums
      simp only [q]
      rw [rgf (fun c : Col => c.sums.map PyData.str) c0 cs]
      unfold sumsOf
      rw [List.map_flatMap]
    rw [e6] at s6
    clear e6
    refine q_fldR (K := K) (d := .tuple ((sumsOf cs).map PyData.str)) (er_tuple (K := K) s6) (ev_var rfl) m5.at_ cl.cl (cl.no _ (by decide +kernel)) (by show 3 < 1000; decide) fun v3 H6 e6 rv h6 => ?_
    have t := m5.tx (o := .ins C dx (putF "_sums" v3 (fz [kd.v, .ref b, .ref nn]))) e6
    have t' : TX.Tx H6 (upd H6 a (.ins C dx (putF "_sums" v3 (fz [kd.v, .ref b, .ref nn])))) := Tx.ins h6
    have m6 := m5.put (f := "_sums") (v := v3) (fs' := fz [kd.v, .ref b, .ref nn, v3]) e6 rfl
    have r6 := r5.on t
    have b6 := t _ _ b5
    have F6 := F5.on t
    have rn6 := rn.on t
    have rs6 := rv.on t'
    clear t t' rv h6 s6
    generalize upd H6 a (.ins C dx (putF "_sums" v3 (fz [kd.v, .ref b, .ref nn]))) = H6 at m6 r6 b6 F6 rn6 rs6 ⊢
    -- the data
    have s7 := es_lc2 (te := tVar 7) (two_data (K := K) (s := some (.ref a)) (k := some kd.v) (x8 := none) G lx b6 F6) (fun i j => pairD ((cs.getD i c0).data.getD j p0)) fun i j H7 hi hj e7 => by
      obtain ⟨x, hx⟩ : ∃ x, (F i).2.2.2[j]? = some x := ⟨_, List.getElem?_eq_getElem hj⟩
      obtain ⟨d, hd, rd⟩ := (F6.rp i hi).at hx
      rw [List.getElem?_map] at hd
      obtain ⟨pr, h1, rfl⟩ := Option.map_eq_some_iff.mp hd
      have ep : (cs.getD i c0).data.getD j p0 = pr := List.getD_eq_getElem?_getD.trans (by rw [h1]; rfl)
      rw [ep]
      exact er_var (v := x) (by rw [hx]; rfl) (rd.ex e7)
    have e7 : ((List.range cs.length).flatMap fun i => (List.range (F i).2.2.2.length).map fun j => pairD ((cs.getD i c0).data.getD j p0)) = (dataOf cs).map pairD := by
      have q : ∀ i ∈ List.range cs.length, ((List.range (F i).2.2.2.length).map fun j => pairD ((cs.getD i c0).data.getD j p0)) = (cs.getD i c0).data.map pairD := fun i hi => by
        have l : (F i).2.2.2.length = (cs.getD i c0).data.length := by rw [(F6.rp i (List.mem_range.mp hi)).len, List.length_map]
        rw [l]
        exact rg pairD p0 _
      rw [List.flatMap_def, List.map_congr_left q, ← List.flatMap_def, rgf (fun c : Col => c.data.map pairD) c0 cs]
      unfold dataOf
      rw [List.map_flatMap]
    rw [e7] at s7
    clear e7
    refine q_fldR (K := K) (d := .tuple ((dataOf cs).map pairD)) (er_tuple (K := K) s7) (ev_var rfl) m6.at_ cl.cl (cl.no _ (by decide +kernel)) (by show 4 < 1000; decide) fun v4 H7 e7 rv h7 => ?_
    have t := m6.tx (o := .ins C dx (putF "_data" v4 (fz [kd.v, .ref b, .ref nn, v3]))) e7
    have t' : TX.Tx H7 (upd H7 a (.ins C dx (putF "_data" v4 (fz [kd.v, .ref b, .ref nn, v3])))) := Tx.ins h7
    have m7 := m6.put (f := "_data") (v := v4) (fs' := fz [kd.v, .ref b, .ref nn, v3, v4]) e7 rfl
    have r7 := r6.on t
    have rn7 := rn6.on t
    have rs7 := rs6.on t
    have rd7 := rv.on t'
    clear t t' rv h7 s7 F6 F5 F4 F3 F2 b6 b5 b4 b3 b2
    generalize upd H7 a (.ins C dx (putF "_data" v4 (fz [kd.v, .ref b, .ref nn, v3]))) = H7 at m7 r7 rn7 rs7 rd7 ⊢
    -- the cells by column
    refine ⟨.ref b, rfl, .ref b, cs, rfl, r7, G, fun p H8 hp8 e8 cd => ?_⟩
    refine ⟨.ref a, rfl, a, C, dx, _, rfl, e8 _ _ m7.at_, cl.cl, cl.no _ (by decide +kernel), by show 5 < 1000; decide, ?_⟩
    have t := m7.tx (o := .ins C dx (putF "_cells_of" (.ref p) (fz [kd.v, .ref b, .ref nn, v3, v4]))) e8
    have m8 := m7.put (f := "_cells_of") (v := .ref p) (fs' := fz [kd.v, .ref b, .ref nn, v3, v4, .ref p]) e8 rfl
    have r8 := r7.on t
    have rn8 := rn7.on t
    have rs8 := rs7.on t
    have rd8 := rd7.on t
    have cd8 := CellsD.put (o := .ins C dx (putF "_cells_of" (.ref p) (fz [kd.v, .ref b, .ref nn, v3, v4]))) (m7.ex e8) (Ex.refl H8) cd
    clear t cd
    generalize upd H8 a (.ins C dx (putF "_cells_of" (.ref p) (fz [kd.v, .ref b, .ref nn, v3, v4]))) = H8 at m8 r8 rn8 rs8 rd8 cd8 ⊢
    -- the cells
    obtain ⟨n2, en, hn8⟩ := names_rep rn8
    obtain rfl : nn = n2 := V.ref.inj en
    obtain ⟨Tf, zs, hz, lz, hT⟩ := cd8.fc
    have two8 := two_cells (K := K) (k := kd.v) (b := b) (s8 := .ref b) (v1 := .non) (v3 := .non) (v4 := .non) G cl m8.at_ rfl rfl hn8 hz lz hT
    have s9 := es_lc2 (te := tVar 8) two8 (fun i j => (cellsAt cs i).getD j .none) fun i j H9 hi hj e9 => by
      obtain ⟨x, hx⟩ : ∃ x, (Tf i).2[j]? = some x := ⟨_, List.getElem?_eq_getElem hj⟩
      obtain ⟨d, hd, rd⟩ := (hT i hi).2.2.at hx
      have ep : (cellsAt cs i).getD j .none = d := List.getD_eq_getElem?_getD.trans (by rw [hd]; rfl)
      rw [ep]
      exact er_var (v := x) (by rw [hx]; rfl) (rd.ex e9)
    have e9 : ((List.range cs.length).flatMap fun i => (List.range (Tf i).2.length).map fun j => (cellsAt cs i).getD j .none) = cellsL cs := by
      have q : ∀ i ∈ List.range cs.length, ((List.range (Tf i).2.length).map fun j => (cellsAt cs i).getD j .none) = cellsAt cs i := fun i hi => by
        rw [(hT i (List.mem_range.mp hi)).2.2.len]
        exact range_getD _ _
      unfold cellsL
      rw [List.flatMap_def, List.map_congr_left q, ← List.flatMap_def]
    rw [e9] at s9
    clear e9
    refine fld_open (K := K) (opCB0_ (cons_ (s9 H8 (Ex.refl H8) _ fun pt xt H81 hpt e81 hx8 rx8 => nil_ ⟨pt, xt, rfl, sq_of hx8, fun l ob hl oc od => ?_⟩)))
    have e9 : Ex H8 (upd H81 l (.frz ob (.tup xt))) := e81.trans (Ex.new hl)
    have rv : TupF (upd H81 l (.frz ob (.tup xt))) (.ref l) (cellsL cs) := ⟨l, ob, xt, rfl, upd_same, oc, od, rx8.ex (Ex.new hl)⟩
    obtain ⟨v6, hv6⟩ : ∃ v6 : V, v6 = .ref l := ⟨_, rfl⟩
    rw [← hv6] at rv ⊢
    generalize upd H81 l (.frz ob (.tup xt)) = H9 at e9 rv ⊢
    have h9 := e9 _ _ m8.at_
    refine ⟨.ref a, rfl, a, C, dx, _, rfl, h9, cl.cl, cl.no _ (by decide +kernel), by show 6 < 1000; decide, ?_⟩
    clear hv6 e81 hx8 rx8 hl oc od hpt
    have t := m8.tx (o := .ins C dx (putF "_cells" v6 (fz [kd.v, .ref b, .ref nn, v3, v4, .ref p]))) e9
    have cd9 := CellsD.put (o := .ins C dx (putF "_cells" v6 (fz [kd.v, .ref b, .ref nn, v3, v4, .ref p]))) m8 e9 cd8
    have m9 := m8.put (f := "_cells") (v := v6) (fs' := fz [kd.v, .ref b, .ref nn, v3, v4, .ref p, v6]) e9 rfl
    have r9 := r8.on t
    have rn9 := rn8.on t
    have rs9 := rs8.on t
    have rd9 := rd8.on t
    have rc9 := TupF.put (o := .ins C dx (putF "_cells" v6 (fz [kd.v, .ref b, .ref nn, v3, v4, .ref p]))) (m8.ex e9) (Ex.refl H9) rv
    clear t rv h9 s9 two8 hz hT lz zs Tf hn8
    generalize upd H9 a (.ins C dx (putF "_cells" v6 (fz [kd.v, .ref b, .ref nn, v3, v4, .ref p]))) = H9 at m9 r9 rn9 rs9 rd9 cd9 rc9 ⊢
    -- the columns of the cells
    obtain ⟨n2, en, hn9⟩ := names_rep rn9
    obtain rfl : nn = n2 := V.ref.inj en
    obtain ⟨Tf, zs, hz, lz, hT⟩ := cd9.fc
    have two9 := two_cells (K := K) (k := kd.v) (b := b) (s8 := .ref b) (v1 := .non) (v3 := .non) (v4 := .non) G cl m9.at_ rfl rfl hn9 hz lz hT
    refine fld_open (K := K) (ed_dc2F (tk := tVar 8) (tv := tVar 3) two9 (Ks := fun i j => keyOf ((cellsAt cs i).getD j .none)) (Z := fun i _ => .str (cs.getD i c0).nm) (fun i j H10 hi hj e10 Q0 q => ?_) (fun i j H10 hi hj e10 => ev_var rfl) H9 (Ex.refl H9) _ fun q H10 hq10 e10 hq => ?_)
    · obtain ⟨x, hx⟩ : ∃ x, (Tf i).2[j]? = some x := ⟨_, List.getElem?_eq_getElem hj⟩
      obtain ⟨d, hd, rd⟩ := (hT i hi).2.2.at hx
      have ep : (cellsAt cs i).getD j .none = d := List.getD_eq_getElem?_getD.trans (by rw [hd]; rfl)
      obtain ⟨y, rfl, hy⟩ := cell_key (rd.ex e10) (cell_form (List.mem_of_getElem? hd))
      exact ⟨.ref y, by rw [hx]; rfl, q y H10 (Ex.refl H10) (by rw [ep]; exact hy)⟩
    rw [TX.fill2_congr (n1' := fun i => (cellsAt cs i).length) fun i hi => (hT i hi).2.2.len] at hq
    change _ = some (HO.dT (columnD cs)) at hq
    clear two9 hz hT lz zs Tf hn9
    refine ⟨.ref a, rfl, a, C, dx, _, rfl, e10 _ _ m9.at_, cl.cl, cl.no _ (by decide +kernel), by show 7 < 1000; decide, ?_⟩
    have t := m9.tx (o := .ins C dx (putF "_column_of" (.ref q) (fz [kd.v, .ref b, .ref nn, v3, v4, .ref p, v6]))) e10
    have cd10 := CellsD.put (o := .ins C dx (putF "_column_of" (.ref q) (fz [kd.v, .ref b, .ref nn, v3, v4, .ref p, v6]))) m9 e10 cd9
    have hq11 := keep_dT (o := .ins C dx (putF "_column_of" (.ref q) (fz [kd.v, .ref b, .ref nn, v3, v4, .ref p, v6]))) (m9.ex e10) (Ex.refl H10) hq
    have m10 := m9.put (f := "_column_of") (v := .ref q) (fs' := fz [kd.v, .ref b, .ref nn, v3, v4, .ref p, v6, .ref q]) e10 rfl
    have r10 := r9.on t
    have rn10 := rn9.on t
    have rs10 := rs9.on t
    have rd10 := rd9.on t
    have rc10 := TupF.put (o := .ins C dx (putF "_column_of" (.ref q) (fz [kd.v, .ref b, .ref nn, v3, v4, .ref p, v6]))) m9 e10 rc9
    clear t hq
    generalize upd H10 a (.ins C dx (putF "_column_of" (.ref q) (fz [kd.v, .ref b, .ref nn, v3, v4, .ref p, v6]))) = H10 at m10 r10 rn10 rs10 rd10 cd10 rc10 hq11 ⊢
    -- the lines
    refine fld_open1 (K := K) ?_
    refine er_dc (R := rLines) (E := C8.E0) (d := .tuple ((linesOf kd cs).map PyData.str)) (ea_cons (ev_var rfl) (ea_cons (ev_var rfl) ea_nil)) (fun H14 e14 => ⟨kd, .ref b, cs, rfl, hk, r10.ex e14, G, rfl⟩) H10 (Ex.refl H10) _ fun v9 H14 e14 rl => ?_
    refine ⟨.ref a, rfl, a, C, dx, _, rfl, e14 _ _ m10.at_, cl.cl, cl.no _ (by decide +kernel), by show 8 < 1000; decide, ?_⟩
    have t := m10.tx (o := .ins C dx (putF "_lines" v9 (fz [kd.v, .ref b, .ref nn, v3, v4, .ref p, v6, .ref q]))) e14
    have t' : TX.Tx H14 (upd H14 a (.ins C dx (putF "_lines" v9 (fz [kd.v, .ref b, .ref nn, v3, v4, .ref p, v6, .ref q])))) := Tx.ins (e14 _ _ m10.at_)
    have m14 := m10.put (f := "_lines") (v := v9) (fs' := fz [kd.v, .ref b, .ref nn, v3, v4, .ref p, v6, .ref q, v9]) e14 rfl
    exact k _ m14.but ⟨dx, .ref b, .ref nn, v3, v4, v6, v9, p, q, [], m14.at_, r10.on t, rn10.on t, rs10.on t, rd10.on t, CellsD.put m10 e14 cd10, TupF.put m10 e14 rc10, keep_dT m10 e14 hq11, rl.on t'⟩
end
end K08
end
section
set_option Elab.async false
set_option linter.all false
set_option maxRecDepth 100000
set_option maxHeartbeats 4000000
namespace K08
open PySem PySem.Spec PyProof.Rows L2 Evl TX
open C8 (Cal pe_c pe_gc)
theorem q_asgO {σ : L2.St} {H : Hp} {te : TE} {D : Ends} {tz : TS} {i : Nat} (h : te σ H fun v H1 => tz D (σ.set i (some v)) H1) : tSeq (tAsg te (gName i)) tz D σ H := h
theorem callO_ {sp : Sp} {dvs : List V} {E : XK} {t : TA} {σ : L2.St} {H : Hp} {Q : VK} (h : t σ H fun vs H1 => sp (vs ++ dvs) H1 Q E) : tCall sp dvs E t σ H Q := h
theorem TabAt.keep {H H' : Hp} {C a : Addr} {k : Kd} {cs : List Col} (t : TabAt H C a k cs) (e : Ex H H') : TabAt H' C a k cs := by
  obtain ⟨dx, v1, v2, v3, v4, v6, v9, p, q, kvs, h0, h1, h2, h3, h4, h5, h6, h7, h9⟩ := t.ex
  exact ⟨dx, v1, v2, v3, v4, v6, v9, p, q, kvs, e _ _ h0, h1.ex e, h2.ex e, h3.ex e, h4.ex e, h5.ex e, h6.ex e, e _ _ h7, h9.ex e⟩
/-- the value that data values give a cell -/
def told (k : Kd) (cs : List Col) (ns : List Int) : PyData → Int
  | .tuple [.str _, .str s] => tog k ((numsOf s (dataOf cs)).map fun j => ns.getD j.toNat 0)
  | .tuple [.str _, .int n] => ns.getD n.toNat 0
  | _ => 0
/-- what is a cell -/
def isCell (cs : List Col) (d : PyData) : Prop := (∃ s, d = sumC s ∧ s ∈ sumsOf cs) ∨ ∃ n : Int, d = datC n ∧ 0 ≤ n ∧ n.toNat < (dataOf cs).length
theorem IntsD.at {H : Hp} {p : Addr} {S : List Str} {g : Str → Int} (h : IntsD H p S g) (nd : S.Nodup) {s : Str} (hs : s ∈ S) : ∃ (kvs : List (Key × V)), H p = some (.dK kvs) ∧ valV kvs (.inr s) = some (.int (g s)) := by
  obtain ⟨zs, h1, h2⟩ := h
  obtain ⟨i, hi, e⟩ := List.mem_iff_getElem.mp hs
  have key : S.getD i Str.empty = s := by rw [List.getD_eq_getElem?_getD, List.getElem?_eq_getElem hi]; exact e
  have lz : zs.length = S.length := by rw [h2.len, List.length_map, List.length_range]
  obtain ⟨x, hx, rx⟩ := h2.get (i := i) (d := .int (g s)) (by
    rw [List.getElem?_map, List.getElem?_range hi]
    show some (PyData.int (g (S.getD i Str.empty))) = _
    rw [key])
  obtain rfl := rx.int_inv
  refine ⟨_, h1, val_at (i := i) ?_ ?_⟩
  · rw [List.nodup_iff_pairwise_ne, List.pairwise_iff_getElem]
    intro j k hj hk hjk e
    simp only [List.length_map, List.length_zipIdx] at hj hk
    simp only [List.getElem_map, List.getElem_zipIdx, Nat.zero_add] at e
    have e1 := Sum.inr.inj e
    rw [List.getD_eq_getElem?_getD, List.getD_eq_getElem?_getD, List.getElem?_eq_getElem (by omega : j < S.length), List.getElem?_eq_getElem (by omega : k < S.length)] at e1
    have := (List.getElem_inj nd).mp e1
    omega
  · rw [List.getElem?_map, List.getElem?_zipIdx, hx]
    show some ((.inr (S.getD (0 + i) Str.empty) : Key), V.int (g s)) = _
    rw [Nat.zero_add, key]
theorem IntsD.ex {H H' : Hp} {p : Addr} {S : List Str} {g : Str → Int} (h : IntsD H p S g) (e : Ex H H') : IntsD H' p S g := by
  obtain ⟨zs, h1, h2⟩ := h
  exact ⟨zs, e _ _ h1, h2.ex e⟩
theorem data_cut {cs : List Col} {i : Nat} (h : i < cs.length) : dataOf cs = dataOf (cs.take i) ++ ((cs.getD i c0).data ++ dataOf (cs.drop (i + 1))) := by
  have e : cs = cs.take i ++ (cs.getD i c0 :: cs.drop (i + 1)) := by
    have g : cs.getD i c0 = cs[i] := by rw [List.getD_eq_getElem?_getD, List.getElem?_eq_getElem h]; rfl
    rw [g, ← List.drop_eq_getElem_cons h, List.take_append_drop]
  have q : dataOf (cs.take i ++ (cs.getD i c0 :: cs.drop (i + 1))) = dataOf (cs.take i) ++ ((cs.getD i c0).data ++ dataOf (cs.drop (i + 1))) := by
    unfold dataOf
    rw [List.flatMap_append, List.flatMap_cons]
  rw [← e] at q
  exact q
theorem cell_is {cs : List Col} {d : PyData} (h : d ∈ cellsL cs) : isCell cs d := by
  obtain ⟨i, hi, h⟩ := List.mem_flatMap.mp h
  have lt := List.mem_range.mp hi
  unfold cellsAt cellsC at h
  rcases List.mem_append.mp h with h | h
  · obtain ⟨w, hw, rfl⟩ := List.mem_map.mp h
    exact .inl ⟨w, rfl, List.mem_flatMap.mpr ⟨_, Good.mem lt, hw⟩⟩
  · obtain ⟨j, hj, rfl⟩ := List.mem_map.mp h
    have hj := List.mem_range.mp hj
    have q := congrArg List.length (data_cut lt)
    rw [List.length_append, List.length_append] at q
    refine .inr ⟨_, rfl, ?_, ?_⟩
    · unfold firstOf
      omega
    · unfold firstOf
      omega
theorem at_one {x y : V} : atI [x, y] 1 = some y := rfl
theorem at_zero {x y : V} : atI [x, y] 0 = some x := rfl
section
variable {P : Program} {w : World} {K : PySem.W.Frag} {mg : Str → Option Value} {base : Heap} {f : Addr} {fd : FuncData}
end
end K08
end
section
set_option Elab.async false
set_option linter.all false
set_option maxRecDepth 100000
set_option maxHeartbeats 4000000
namespace K08
open PySem PySem.Spec PyProof.Rows L2 Evl TX
open C8 (Cal pe_c pe_gc)
def b30 : Int := 1000000000000000000000000000000
def b32 : Int := 100000000000000000000000000000000
section
variable {P : Program} {w : World} {K : PySem.W.Frag} {mg : Str → Option Value} {base : Heap} {f : Addr} {fd : FuncData}
end
end K08
end
section
set_option Elab.async false
set_option linter.all false
set_option maxRecDepth 100000
set_option maxHeartbeats 4000000
namespace K08
open PySem PySem.Spec PyProof.Rows L2 Evl TX
open C8 (Cal pe_c pe_gc)
/-- a chart: lists of a kind and of columns; j: the jar -/
structure ChartAt (H : Hp) (j l : Addr) (k : Kd) (cs : List Col) (f : Addr) (F : Nat → Addr × Addr × Addr × List V) : Prop where
  hl : H l = some (.lst [k.v, .ref f])
  hf : H f = some (.lst ((List.range cs.length).map fun i => V.ref (F i).1))
  col : ∀ i, i < cs.length → H (F i).1 = some (.lst [.str (cs.getD i c0).nm, .ref (F i).2.1, .ref (F i).2.2.1])
  sm : ∀ i, i < cs.length → H (F i).2.1 = some (.lst ((cs.getD i c0).sums.map V.str))
  dt : ∀ i, i < cs.length → H (F i).2.2.1 = some (.lst (F i).2.2.2)
  rp : ∀ i, i < cs.length → Reps H (F i).2.2.2 ((cs.getD i c0).data.map pairD)
  off : l ≠ j ∧ f ≠ j ∧ ∀ i, i < cs.length → (F i).1 ≠ j ∧ (F i).2.1 ≠ j ∧ (F i).2.2.1 ≠ j
theorem ChartAt.ex {H H' : Hp} {j l f : Addr} {k : Kd} {cs : List Col} {F : Nat → Addr × Addr × Addr × List V} (c : ChartAt H j l k cs f F) (e : Ex H H') : ChartAt H' j l k cs f F :=
  ⟨e _ _ c.hl, e _ _ c.hf, fun i h => e _ _ (c.col i h), fun i h => e _ _ (c.sm i h), fun i h => e _ _ (c.dt i h), fun i h => (c.rp i h).ex e, c.off⟩
def Chart (H : Hp) (l : Addr) (k : Kd) (cs : List Col) : Prop := ∃ (j f : Addr) (F : Nat → Addr × Addr × Addr × List V), ChartAt H j l k cs f F
theorem rng_at {n i : Nat} {F : Nat → Addr × Addr × Addr × List V} {x : V} (h : ((List.range n).map fun i => V.ref (F i).1)[i]? = some x) : i < n ∧ x = .ref (F i).1 := by
  rw [List.getElem?_map] at h
  obtain ⟨m, h1, h2⟩ := Option.map_eq_some_iff.mp h
  obtain ⟨lt, e⟩ := List.getElem?_eq_some_iff.mp h1
  rw [List.length_range] at lt
  rw [List.getElem_range] at e
  exact ⟨lt, by rw [← h2, e]⟩
section
variable {P : Program} {w : World} {K : PySem.W.Frag} {mg : Str → Option Value} {base : Heap} {f : Addr} {fd : FuncData}
end
end K08
end
section
set_option Elab.async false
set_option linter.all false
set_option maxRecDepth 100000
set_option maxHeartbeats 4000000
namespace K08
open PySem PySem.Spec PyProof.Rows L2 Evl TX
open C8 (Cal pe_c pe_gc)
/-- what the law puts together, number by number -/
def acc (k : Kd) (ns : List Int) : Int := match k with
  | .bits => ns.foldl (fun a b => Builtin.bitXor a b) 0
  | _ => ns.sum
theorem Chart.ex {H H1 : Hp} {l : Addr} {k : Kd} {cs : List Col} (c : Chart H l k cs) (e : Ex H H1) : Chart H1 l k cs := let ⟨j, f, F, h⟩ := c; ⟨j, f, F, h.ex e⟩
section
variable {P : Program} {w : World} {K : PySem.W.Frag} {mg : Str → Option Value} {base : Heap} {f : Addr} {fd : FuncData}
end
end K08
end
section
set_option Elab.async false
set_option linter.all false
set_option maxRecDepth 100000
set_option maxHeartbeats 4000000
namespace K08
open PySem PySem.Spec PyProof.Rows L2 Evl TX
open C8 (Cal pe_c pe_gc)
theorem same_new {H : Hp} {a : Addr} {o : HO} (h : H a = none) : Same H (upd H a o) := fun b u e => by rw [upd_ne (ne_of_none e h)]; exact e
/-- all that was tracked but what stands at j is as it was -/
def But (j : Addr) (H H' : Hp) : Prop := ∀ b o, b ≠ j → H b = some o → H' b = some o
theorem But.refl (j : Addr) (H : Hp) : But j H H := fun _ _ _ e => e
theorem But.trans {j : Addr} {H H1 H2 : Hp} (a : But j H H1) (b : But j H1 H2) : But j H H2 := fun c o h e => b c o h (a c o h e)
theorem But.of {j : Addr} {H H' : Hp} (s : Same H H') : But j H H' := fun b o _ e => s b o e
theorem But.at_j (j : Addr) (H : Hp) (o : HO) : But j H (upd H j o) := fun b u h e => by rw [upd_ne h]; exact e
/-- a draw's jar: three whole numbers -/
def jar (a b c : Int) : HO := .lst [.int a, .int b, .int c]
def JarAt (H : Hp) (j : Addr) : Prop := ∃ a b c, H j = some (jar a b c)
theorem JarAt.on {H H' : Hp} {j : Addr} (x : JarAt H j) (s : Same H H') : JarAt H' j := let ⟨a, b, c, e⟩ := x; ⟨a, b, c, s _ _ e⟩
/-- a draw below t -/
def spDip : Sp := fun vs H Q _ => ∃ (j : Addr) (t : Int), vs = [.ref j, .int t] ∧ JarAt H j ∧ 0 < t ∧ t < 1000000 ∧ ∀ (d : Int) (H' : Hp), JarAt H' j → But j H H' → 0 ≤ d → d < t → Q (.int d) H'
section
variable {P : Program} {w : World} {K : PySem.W.Frag} {mg : Str → Option Value} {base : Heap} {f : Addr} {fd : FuncData}
abbrev sc_law_dip_N : List Str := ["_law_jar_here", "_law_top", "_law_digit"]
theorem sc_law_dip : FnScope sc_law_dip_N ["_law_jar_here", "_law_top"] (defScope s_law_dip) := ⟨rfl, rfl, rfl, by decide +kernel, rfl, by decide +kernel, by decide +kernel⟩
theorem ok_dip (F : FnP K "_law_dip" s_law_dip f fd) (T : Tops mg) : FnOk P w K mg base CX0 1 f fd ["_law_jar_here", "_law_top"] spDip := by
  refine F.ok sc_law_dip (fun vs H Q E h => ?_) (fun cdv A outer s H vs Q E hr h => ?_)
  · obtain ⟨j, t, rfl, _⟩ := h
    rfl
  · obtain ⟨j, t, rfl, ⟨a, b, c, hj⟩, ht, ht2, k⟩ := h
    refine ⟨_, PSs.nox (pss_cons (ps_asg (pe_op op_add (pe_ix ix_list (pv 0) pe_int (fun _ _ => rfl)) pe_int) (pg_sub (pv 0) pe_int set_list))
  (pss_cons (ps_if (pt_cmpR op_gt (pe_ix ix_list (pv 0) pe_int (fun _ _ => rfl)) pe_int (nomark _))
  (pss_cons (ps_asg (pe_callB call_divmod (by rfl) T.n_divmod (by decide +kernel) (pa_cons (pe_ix ix_list (pv 0) pe_int (fun _ _ => rfl)) (pa_cons (pv 1) pa_nil))) (pg_tup (by rfl) (pgs_cons (pg_sub (pv 0) pe_int set_list) (pgs_cons (pg_name (i := 2) sc_law_dip.nd rfl (.inl rfl)) pgs_nil))))
  (pss_one (ps_ret (pv 2))))
  pss_nil)
  (pss_cons (ps_asg (pe_op op_mod (pe_callTy call_int1 (by rfl) T.n_int (by decide +kernel) (pa_cons (pe_op op_add (pe_op op_mul (pe_ix ix_list (pv 0) pe_int (fun _ _ => rfl)) pe_int) (pe_op op_mul pe_int (pe_ix ix_list (pv 0) pe_int (fun _ _ => rfl)))) pa_nil)) pe_int) (pg_sub (pv 0) pe_int set_list))
  (pss_one (ps_ret (pe_op op_mod (pe_callTy call_int1 (by rfl) T.n_int (by decide +kernel) (pa_cons (pe_op op_fdiv (pe_ix ix_list (pv 0) pe_int (fun _ _ => rfl)) pe_int) pa_nil)) (pv 1))))))), ?_⟩
    have s0 : SqL K H j [.int a, .int b, .int c] := SqL.of hj
    refine ⟨_, rfl, j, _, 2, _, rfl, rfl, s0, rfl, _, _, rfl, rfl, _, rfl, j, _, 2, 2, rfl, rfl, hj, rfl, ?_⟩
    have e1 : upd H j (.lst (([.int a, .int b, .int c] : List V).set 2 (.int (c + 1)))) = upd H j (jar a b (c + 1)) := rfl
    rw [e1]
    have h1 : (upd H j (jar a b (c + 1))) j = some (jar a b (c + 1)) := upd_same
    have s1 : SqL K (upd H j (jar a b (c + 1))) j [.int a, .int b, .int (c + 1)] := SqL.of h1
    refine ⟨_, rfl, j, _, 0, _, rfl, rfl, s1, rfl, _, _, rfl, rfl, _, rfl, ?_⟩
    refine ite2 (fun _ => ?_) (fun _ => ?_)
    · refine ⟨_, rfl, j, _, 0, _, rfl, rfl, s1, rfl, _, rfl, a, t, rfl, ⟨ht, by omega⟩, fun p hp => ?_⟩
      have hjp : j ≠ p := ne_of_none h1 hp
      have h2 : (upd (upd H j (jar a b (c + 1))) p (.tup [.int (a / t), .int (a % t)])) j = some (jar a b (c + 1)) := by rw [upd_ne hjp]; exact h1
      refine ⟨p, _, rfl, SqT.of upd_same, rfl, _, _, rfl, _, rfl, j, _, 0, 0, rfl, rfl, h2, rfl, _, _, rfl, rfl, _, rfl, ?_⟩
      have e3 : upd (upd (upd H j (jar a b (c + 1))) p (.tup [.int (a / t), .int (a % t)])) j (.lst (([.int a, .int b, .int (c + 1)] : List V).set 0 (.int (a / t)))) = upd (upd (upd H j (jar a b (c + 1))) p (.tup [.int (a / t), .int (a % t)])) j (jar (a / t) b (c + 1)) := rfl
      rw [e3]
      refine k _ _ ⟨_, _, _, upd_same⟩ ?_ (Int.emod_nonneg _ (by omega)) (Int.emod_lt_of_pos _ ht)
      exact ((But.at_j j H _).trans (.of (same_new hp))).trans (But.at_j j _ _)
    · refine ⟨_, rfl, j, _, 1, _, rfl, rfl, s1, rfl, _, _, rfl, rfl, .inr ⟨by decide, by decide⟩, _, rfl, j, _, 2, _, rfl, rfl, s1, rfl, _, _, rfl, rfl, .inl ⟨by decide, by decide⟩, _, _, rfl, rfl, .inl ⟨_, rfl, _, _, rfl, rfl, (by show (0 : Int) < 2147483399; decide), _, rfl, j, _, 1, 1, rfl, rfl, h1, rfl, ?_⟩⟩
      have e2 : upd (upd H j (jar a b (c + 1))) j (.lst (([.int a, .int b, .int (c + 1)] : List V).set 1 (.int ((b * 48271 + 30011 * (c + 1)) % 2147483399)))) = upd H j (jar a ((b * 48271 + 30011 * (c + 1)) % 2147483399) (c + 1)) := upd_upd
      rw [e2]
      refine ⟨_, rfl, j, _, 1, _, rfl, rfl, SqL.of upd_same, rfl, _, _, rfl, rfl, ⟨by decide, by decide⟩, .inl ⟨_, rfl, _, rfl, _, _, rfl, rfl, ht, ?_⟩⟩
      exact k _ _ ⟨_, _, _, upd_same⟩ (But.at_j j H _) (Int.emod_nonneg _ (by omega)) (Int.emod_lt_of_pos _ ht)
/-! ### one of some things -/
def spOne : Sp := fun vs H Q _ => ∃ (j l : Addr) (xs : List V), vs = [.ref j, .ref l] ∧ JarAt H j ∧ H l = some (.lst xs) ∧ l ≠ j ∧ 0 < xs.length ∧ xs.length < 1000 ∧
  ∀ (v : V) (H' : Hp), v ∈ xs → JarAt H' j → But j H H' → Q v H'
abbrev sc_law_one_of_N : List Str := ["_law_jar_here", "_law_some"]
theorem sc_law_one_of : FnScope sc_law_one_of_N ["_law_jar_here", "_law_some"] (defScope s_law_one_of) := ⟨rfl, rfl, rfl, by decide +kernel, rfl, by decide +kernel, by decide +kernel⟩
theorem ok_one (F : FnP K "_law_one_of" s_law_one_of f fd) (T : Tops mg) (C_law_dip : Cal P w K mg base 1 "_law_dip" spDip []) : FnOk P w K mg base CX0 2 f fd ["_law_jar_here", "_law_some"] spOne := by
  refine F.ok sc_law_one_of (fun vs H Q E h => ?_) (fun cdv A outer s H vs Q E hr h => ?_)
  · obtain ⟨j, l, xs, rfl, _⟩ := h
    rfl
  · obtain ⟨j, l, xs, rfl, hj, hl, hne, h0, h1, k⟩ := h
    refine ⟨_, PSs.nox (pss_one (ps_ret (pe_ix ix_list (pv 1) (pe_c C_law_dip hr (by decide) rfl (pa_cons (pv 0) (pa_cons (pe_callB call_len_seq (by rfl) T.n_len PySem.boot_len (pa_cons (pv 1) pa_nil)) pa_nil))) (fun _ _ => rfl)))), ?_⟩
    refine ⟨_, rfl, _, rfl, _, rfl, l, _, rfl, .inl (SqL.of hl), j, _, rfl, hj, by omega, by omega, fun d H' hj' hb hd0 hd1 => ?_⟩
    have hl' : H' l = some (.lst xs) := hb l _ hne hl
    have lt : d.toNat < xs.length := by omega
    refine ⟨l, xs, d, xs[d.toNat], rfl, rfl, SqL.of hl', ?_, k _ H' (List.getElem_mem lt) hj' hb⟩
    have e := atI_nat (xs := xs) (j := d.toNat) (List.getElem?_eq_getElem lt)
    rw [Int.toNat_of_nonneg hd0] at e
    exact e
/-! ### a turn's jar -/
def spJar (K : PySem.W.Frag) : Sp := fun vs H Q _ => ∃ (a : Addr) (ns : List Int) (t : Int), vs = [.ref a, .int t] ∧ SqL K H a (ns.map V.int) ∧ ns.length ≤ 63 ∧ 0 ≤ t ∧ t < 1000 ∧
  ∀ (p : Addr) (H' : Hp), H p = none → Same H H' → JarAt H' p → Q (.ref p) H'
theorem cut_ints (ns : List Int) (m : Int) : ∀ (i : Nat) (x : V), (cutV (ns.map V.int) none (some 5) ++ [V.int m])[i]? = some x → ∃ z, x = .int z := fun i x h => by
  have hm := List.mem_of_getElem? h
  rcases List.mem_append.mp hm with h1 | h1
  · have h2 : x ∈ ns.map V.int := List.mem_of_mem_drop (List.mem_of_mem_take h1)
    obtain ⟨z, _, e⟩ := List.mem_map.mp h2
    exact ⟨z, e.symm⟩
  · exact ⟨m, by simpa using h1⟩
abbrev sc_law_jar_N : List Str := ["_law_cells", "_law_turn", "_law_cell", "_law_mixed", "_law_each"]
theorem sc_law_jar : FnScope sc_law_jar_N ["_law_cells", "_law_turn"] (defScope s_law_jar) := ⟨rfl, rfl, rfl, by decide +kernel, rfl, by decide +kernel, by decide +kernel⟩
theorem ok_jar (F : FnP K "_law_jar" s_law_jar f fd) (T : Tops mg) : FnOk P w K mg base CX0 1 f fd ["_law_cells", "_law_turn"] (spJar K) := by
  refine F.ok sc_law_jar (fun vs H Q E h => ?_) (fun cdv A outer s H vs Q E hr h => ?_)
  · obtain ⟨a, ns, t, rfl, _⟩ := h
    rfl
  · obtain ⟨a, ns, t, rfl, ha, hl, h0, h1, k⟩ := h
    refine ⟨_, PSs.nox (pss_cons (ps_set (i := 2) sc_law_jar.nd rfl (.inl rfl) (pe_ifExp (pt_cmpR op_lt (pv 1) (pe_callB call_len_seq (by rfl) T.n_len PySem.boot_len (pa_cons (pv 0) pa_nil)) (nomark _)) (pe_ix ix_list (pv 0) (pv 1) (fun _ _ => rfl)) (pe_op op_add (pe_op op_mul pe_int (pv 1)) pe_int)))
  (pss_cons (ps_set (i := 3) sc_law_jar.nd rfl (.inl rfl) (pe_op op_add pe_int (pe_op op_mul pe_int (pv 1))))
  (pss_cons (ps_for PassesOwn.never rfl (pi_list (pe_op op_cat (pe_slice sl_list (pv 0) po_none (po_some pe_int)) (pe_lst (pa_cons (pv 2) pa_nil)))) (pg_name (i := 4) sc_law_jar.nd rfl (.inl rfl))
  (pss_one (ps_set (i := 3) sc_law_jar.nd rfl (.inl rfl) (pe_op op_mod (pe_callTy call_int1 (by rfl) T.n_int (by decide +kernel) (pa_cons (pe_op op_add (pe_op op_mul (pv 3) pe_int) (pv 4)) pa_nil)) pe_int))))
  (pss_one (ps_ret (pe_lst (pa_cons (pe_ifExp (PW.pt (pw_or (pt_cmpR op_lt (pv 2) pe_int (nomark _)) (pw_or1 (pt_cmpR op_ge (pv 2) (pe_op op_pow pe_int pe_int) (nomark _))))) (pe_callB call_abs (by rfl) T.n_abs (by decide +kernel) (pa_cons (pv 2) pa_nil)) pe_int) (pa_cons (pv 3) (pa_cons pe_int pa_nil))))))))), ?_⟩
    have lenm : (ns.map V.int).length = ns.length := List.length_map _
    -- the cell of the turn
    obtain ⟨m, hm⟩ : ∃ m : Int, m = if t < (ns.length : Int) then ns.getD t.toNat 0 else 11 * t + 4 := ⟨_, rfl⟩
    refine q_asg (v := .int m) (ev_if (b := decide (t < ((ns.map V.int).length : Int))) (et_test (ev_op (ev_var rfl) (ev_len (ev_var rfl) ha) rv_I0)) (fun hb => ?_) (fun hb => ?_)) fun H1 e1 => ?_
    · have lt : t < (ns.length : Int) := by rw [lenm] at hb; exact of_decide_eq_true hb
      rw [if_pos lt] at hm
      refine ev_op (ev_var rfl) (ev_var rfl) (rv_ixL ha ?_)
      have lt2 : t.toNat < ns.length := by omega
      have e := atI_nat (xs := ns.map V.int) (j := t.toNat) (v := .int m) (by rw [List.getElem?_map, List.getElem?_eq_getElem lt2, hm, List.getD_eq_getElem?_getD, List.getElem?_eq_getElem lt2]; rfl)
      rw [Int.toNat_of_nonneg h0] at e
      exact e
    · have ge : ¬ t < (ns.length : Int) := by rw [lenm] at hb; exact of_decide_eq_false hb
      rw [if_neg ge] at hm
      rw [hm]
      exact ev_op (ev_op ev_c (ev_var rfl) (rv_I (.inl ⟨by decide, by decide⟩))) ev_c rv_I0
    refine q_asg (ev_op ev_c (ev_op ev_c (ev_var rfl) (rv_I (.inl ⟨by decide, by decide⟩))) rv_I0) fun H2 e2 => ?_
    have ha2 : SqL K H2 a (ns.map V.int) := ex_l (e1.trans e2) ha
    have lcut : (cutV (ns.map V.int) none (some 5)).length ≤ 63 := by
      unfold cutV
      rw [List.length_take, List.length_drop, lenm]
      omega
    refine q_forNLn (xs := cutV (ns.map V.int) none (some 5) ++ [V.int m]) (EX.el_catLL (el_sl (ev_var rfl) eo_none (eo_some ev_c) ha2) (el_lst (ea_cons (ev_var rfl) ea_nil) (Nat.le_of_ble_eq_true rfl)) (by show _ + 1 ≤ 100000; omega))
      (fun p i σ' H' => ∃ (z : Int) (v : Option V), σ' = [some (.ref a), some (.int t), some (.int m), some (.int z), v] ∧ Ex H2 H' ∧ H' p = some (.lst (cutV (ns.map V.int) none (some 5) ++ [V.int m])))
      (fun p H3 _ e3 h3 => ⟨_, none, rfl, e3, h3⟩) (fun p i σ' H' _ ⟨_, _, _, _, h3⟩ => sq_of h3) ?_ ?_
    · rintro p i x σ' H' hi ⟨z, v, rfl, e3, h3⟩
      obtain ⟨y, rfl⟩ := cut_ints ns m i x hi
      refine s_asg (ev_op (ev_cb (z := .int (z * 28411 + y)) (ea_cons (ev_op (ev_op (ev_var rfl) ev_c (rv_I (.inr ⟨by decide, by decide⟩))) (ev_var rfl) rv_I0) ea_nil) fun H1 _ Q q => .inl ⟨_, rfl, q H1 (Ex.refl H1)⟩) ev_c (rv_I (by show (0 : Int) < 2147483087; decide))) fun H4 e4 => ?_
      exact ⟨_, _, rfl, e3.trans e4, e4 _ _ h3⟩
    · rintro p σ' H' ⟨z, v, rfl, e3, h3⟩
      refine s_retL (el_lst (ea_cons (ev_if (b := decide (m < 0) || decide ((10 : Int) ^ (18 : Int).toNat ≤ m)) (v := .int (if (decide (m < 0) || decide ((10 : Int) ^ (18 : Int).toNat ≤ m)) = true then (if m < 0 then -m else m) else 0))
        (et_or (et_test (ev_op (ev_var rfl) ev_c rv_I0)) (fun _ => et_test (ev_op (ev_var rfl) (ev_op ev_c ev_c (rv_I ⟨by decide, by decide, by decide⟩)) rv_I0)))
        (fun hb => ev_is (ev_cb (z := .int (if m < 0 then -m else m)) (ea_cons (ev_var rfl) ea_nil) fun H1 _ Q q => ⟨_, rfl, q H1 (Ex.refl H1)⟩) (by rw [if_pos hb])) (fun hb => ev_is ev_c (by rw [hb]; rfl)))
        (ea_cons (ev_var rfl) (ea_cons ev_c ea_nil))) (Nat.le_of_ble_eq_true rfl)) fun q H4 hq e4 h4 => ?_
      exact k q H4 (fresh_back ((e1.trans e2).trans e3) hq) (((e1.trans e2).trans e3).trans e4) ⟨_, _, _, h4⟩
end
theorem But.ex {j : Addr} {H H' : Hp} (e : Ex H H') : But j H H' := fun b o _ h => e _ _ h
theorem But.mut {j : Addr} {H H' : Hp} {D : Addr} {o : HO} (b : But j H H') (hD : H D = none) : But j H (upd H' D o) := fun a u n h => by
  rw [upd_ne (fun z => by rw [z, hD] at h; cases h)]
  exact b a u n h
theorem JarAt.ex {H H' : Hp} {j : Addr} (x : JarAt H j) (e : Ex H H') : JarAt H' j := let ⟨a, b, c, h⟩ := x; ⟨a, b, c, e _ _ h⟩
theorem JarAt.ne {H : Hp} {j p : Addr} (x : JarAt H j) (h : H p = none) : p ≠ j := fun z => by
  obtain ⟨a, b, c, e⟩ := x
  rw [z, e] at h
  cases h
theorem JarAt.put {H : Hp} {j p : Addr} {o : HO} (x : JarAt H j) (h : p ≠ j) : JarAt (upd H p o) j := let ⟨a, b, c, e⟩ := x; ⟨a, b, c, by rw [upd_ne h.symm]; exact e⟩
theorem But.tx {j : Addr} {H H' : Hp} (b : But j H H') (x : JarAt H j) : TX.Tx H H' := fun a xs h => b a _ (fun z => by
  obtain ⟨p, q, r, e⟩ := x
  rw [z, e] at h
  cases h) h
theorem fresh_but {j p : Addr} {H H' : Hp} (b : But j H H') (x : JarAt H' j) (h : H' p = none) : H p = none := by
  have n := x.ne h
  cases e : H p with
  | none => rfl
  | some o => rw [b _ _ n e] at h; cases h
section
variable {K : PySem.W.Frag} {σ : L2.St} {H : Hp} {ta tb tx : TE} {j : Addr} {i : Nat} {Q : VK} {E : XK} {D : Ends} {tz : TS} {a b : Nat} {xs ys : List V}
/-- a draw from the jar -/
theorem dip_ {t : Int} (hv : σ[i]? = some (some (.ref j))) (hj : JarAt H j) (h : Ev tx σ H (.int t)) (h0 : 0 < t) (h1 : t < 1000000) (k : ∀ (d : Int) H', JarAt H' j → But j H H' → 0 ≤ d → d < t → Q (.int d) H') : tCall spDip [] E (tCons (tVar i) (tCons tx tNil)) σ H Q :=
  ⟨.ref j, hv, h H (Ex.refl H) _ fun H1 e1 => ⟨j, t, rfl, hj.ex e1, h0, h1, fun d H' x y => k d H' x ((But.ex e1).trans y)⟩⟩
/-- one of a new list -/
theorem one_ (hv : σ[i]? = some (some (.ref j))) (hj : JarAt H j) (h : EvL tx σ H xs) (h0 : 0 < xs.length) (h1 : xs.length < 1000) (k : ∀ v H', v ∈ xs → JarAt H' j → But j H H' → Q v H') : tCall spOne [] E (tCons (tVar i) (tCons tx tNil)) σ H Q :=
  ⟨.ref j, hv, h H (Ex.refl H) _ fun p H1 hp e1 hx => ⟨j, p, xs, rfl, hj.ex e1, hx, hj.ne hp, h0, h1, fun v H' m x y => k v H' m x ((But.ex e1).trans y)⟩⟩
/-- one of a list that stands -/
theorem oneV_ {l : Addr} (hv : σ[i]? = some (some (.ref j))) (hj : JarAt H j) (h : Ev tx σ H (.ref l)) (hl : H l = some (.lst xs)) (hn : l ≠ j) (h0 : 0 < xs.length) (h1 : xs.length < 1000) (k : ∀ v H', v ∈ xs → JarAt H' j → But j H H' → Q v H') : tCall spOne [] E (tCons (tVar i) (tCons tx tNil)) σ H Q :=
  ⟨.ref j, hv, h H (Ex.refl H) _ fun H1 e1 => ⟨j, l, xs, rfl, hj.ex e1, e1 _ _ hl, hn, h0, h1, fun v H' m x y => k v H' m x ((But.ex e1).trans y)⟩⟩
theorem q_par {ta : TA} (h : ta σ H fun vs H1 => ∃ v w, vs = [v, w] ∧ tz D ((σ.set a (some v)).set b (some w)) H1) : tSeq (tPar a b ta) tz D σ H := h
theorem q_parLL (h1 : EvL ta σ H xs) (h2 : EvL tb σ H ys) (k : ∀ p q H1, H p = none → H q = none → p ≠ q → Ex H H1 → H1 p = some (.lst xs) → H1 q = some (.lst ys) → tz D ((σ.set a (some (.ref p))).set b (some (.ref q))) H1) : tSeq (tPar a b (tCons ta (tCons tb tNil))) tz D σ H :=
  h1 H (Ex.refl H) _ fun p H1 hp e1 hx => h2 H1 e1 _ fun q H2 hq e2 hy => ⟨_, _, rfl, k p q H2 hp (fresh_back e1 hq) (fun z => by rw [← z, hx] at hq; cases hq) (e1.trans e2) (e2 _ _ hx) hy⟩
end
def menu : List Str := ["p", "q", "r", "s", "t", "u", "kind", "column", "sum", "datum", "bits", "plain", "a", "b", "ab", "zzzzzzzz", "rr", "none"]
def labs (s g : Nat) : List Str := (List.range 18).map fun k => menu.getD ((s + g * k) % 18) Str.empty
structure LabsOk (zs : List Str) : Prop where
  len : zs.length = 18
  nd : zs.Nodup
  nm : ∀ z ∈ zs, isName z = true
  no : ("nobody" : Str) ∉ zs
def labsB (zs : List Str) : Bool := decide (zs.length = 18) && decide zs.Nodup && zs.all isName && decide (("nobody" : Str) ∉ zs)
theorem labs_all : ((List.range 18).all fun s => [1, 5, 7, 11].all fun g => labsB (labs s g)) = true := by decide +kernel
theorem labs_ok {s g : Nat} (hs : s < 18) (hg : g ∈ [1, 5, 7, 11]) : LabsOk (labs s g) := by
  have h := List.all_eq_true.mp (List.all_eq_true.mp labs_all s (List.mem_range.mpr hs)) g hg
  have h0 := Bool.and_eq_true_iff.mp h
  have h1 := Bool.and_eq_true_iff.mp h0.1
  have h2 := Bool.and_eq_true_iff.mp h1.1
  exact ⟨of_decide_eq_true h2.1, of_decide_eq_true h2.2, fun z hz => List.all_eq_true.mp h1.2 z hz, of_decide_eq_true h0.2⟩
def spLabels : Sp := fun vs H Q _ => ∃ j : Addr, vs = [.ref j] ∧ JarAt H j ∧ ∀ p zs H', H p = none → p ≠ j → But j H H' → JarAt H' j → H' p = some (.lst (zs.map V.str)) → LabsOk zs → Q (.ref p) H'
def spKind : Sp := fun vs H Q _ => ∃ j : Addr, vs = [.ref j] ∧ JarAt H j ∧ ∀ (k : Kd) H', k.ok → But j H H' → JarAt H' j → Q k.v H'
section
variable {P : Program} {w : World} {K : PySem.W.Frag} {mg : Str → Option Value} {base : Heap} {f : Addr} {fd : FuncData}
abbrev sc_law_labels_N : List Str := ["_law_jar_here", "_law_menu", "_law_found", "_law_start", "_law_gap", "_law_k"]
theorem sc_law_labels : FnScope sc_law_labels_N ["_law_jar_here"] (defScope s_law_labels) := ⟨rfl, rfl, rfl, by decide +kernel, rfl, by decide +kernel, by decide +kernel⟩
theorem ok_labels (F : FnP K "_law_labels" s_law_labels f fd) (T : Tops mg) (C_law_dip : Cal P w K mg base 1 "_law_dip" spDip []) (C_law_one_of : Cal P w K mg base 2 "_law_one_of" spOne []) : FnOk P w K mg base CX0 3 f fd ["_law_jar_here"] spLabels := by
  refine F.ok sc_law_labels (fun vs H Q E h => ?_) (fun cdv A outer s H vs Q E hr h => ?_)
  · obtain ⟨j, rfl, _⟩ := h; rfl
  · obtain ⟨j, rfl, hj, k⟩ := h
    refine ⟨_, PSs.nox (pss_cons (ps_par (i := 1) (j := 2) (by rfl) sc_law_labels.nd rfl rfl (by decide) rfl rfl (pa_cons (pe_lst (pa_cons pe_str (pa_cons pe_str (pa_cons pe_str (pa_cons pe_str (pa_cons pe_str (pa_cons pe_str (pa_cons pe_str (pa_cons pe_str (pa_cons pe_str (pa_cons pe_str (pa_cons pe_str (pa_cons pe_str (pa_cons pe_str (pa_cons pe_str pa_nil))))))))))))))) (pa_cons (pe_lst pa_nil) pa_nil)) (by rfl))
  (pss_cons (ps_set (i := 1) sc_law_labels.nd rfl (.inl rfl) (pe_op op_cat (pv 1) (pe_lst (pa_cons pe_str (pa_cons pe_str (pa_cons pe_str (pa_cons pe_str pa_nil)))))))
  (pss_cons (ps_par (i := 3) (j := 4) (by rfl) sc_law_labels.nd rfl rfl (by decide) rfl rfl (pa_cons (pe_c C_law_dip hr (by decide) rfl (pa_cons (pv 0) (pa_cons pe_int pa_nil))) (pa_cons (pe_c C_law_one_of hr (by decide) rfl (pa_cons (pv 0) (pa_cons (pe_lst (pa_cons pe_int (pa_cons pe_int (pa_cons pe_int (pa_cons pe_int pa_nil))))) pa_nil))) pa_nil)) (by rfl))
  (pss_cons (ps_for PassesOwn.never rfl (pi_range1 rfl T.n_range (pa_cons pe_int pa_nil)) (pg_name (i := 5) sc_law_labels.nd rfl (.inl rfl))
  (pss_one (ps_expr (pe_bm PySem.F.plainAttrs_list PySem.F.slot_list_append PySem.F.type_list_append mt_append (pv 2) (pa_cons (pe_ix (ix_seq : IxR _ (rIx K)) (pv 1) (pe_op op_mod (pe_callTy call_int1 (by rfl) T.n_int (by decide +kernel) (pa_cons (pe_op op_add (pv 3) (pe_op op_mul (pv 4) (pv 5))) pa_nil)) pe_int) (fun _ _ => rfl)) pa_nil)))))
  (pss_one (ps_ret (pv 2))))))), ?_⟩
    refine q_parLL (el_lst (ea_cons ev_c (ea_cons ev_c (ea_cons ev_c (ea_cons ev_c (ea_cons ev_c (ea_cons ev_c (ea_cons ev_c (ea_cons ev_c (ea_cons ev_c (ea_cons ev_c (ea_cons ev_c (ea_cons ev_c (ea_cons ev_c (ea_cons ev_c ea_nil)))))))))))))) (Nat.le_of_ble_eq_true rfl)) (el_lst ea_nil (Nat.le_of_ble_eq_true rfl)) fun m0 fo H1 hm0 hfo hne e1 h1 hf1 => ?_
    refine q_asgS (ds := menu.map PyData.str) (es_catQ (ds := (menu.take 14).map PyData.str) (es := (menu.drop 14).map PyData.str) (eq_var rfl h1 (show Reps H1 ((menu.take 14).map V.str) _ from Reps.ofStrs _)) (es_lst (era_cons (er_str ev_c) (era_cons (er_str ev_c) (era_cons (er_str ev_c) (era_cons (er_str ev_c) era_nil)))) (Nat.le_of_ble_eq_true rfl)).q (by decide)) fun me xs H2 hme e2 h2 r2 => ?_
    obtain rfl := r2.strs
    have nf : me ≠ fo := fun z => by rw [z, hf1] at hme; cases hme
    have e12 := e1.trans e2
    have hmj := hj.ne (fresh_back e1 hme)
    have hfj := hj.ne hfo
    refine q_par ?_
    refine dip_ rfl (hj.ex e12) ev_c (by decide) (by decide) fun s H3 j3 b3 s0 s1 => ?_
    refine one_ (xs := [.int 1, .int 5, .int 7, .int 11]) rfl j3 (el_lst (ea_cons ev_c (ea_cons ev_c (ea_cons ev_c (ea_cons ev_c ea_nil)))) (Nat.le_of_ble_eq_true rfl)) (by decide) (by decide) fun g H4 hg j4 b4 => ?_
    obtain ⟨gn, rfl, hgn⟩ : ∃ gn : Nat, g = .int (gn : Int) ∧ gn ∈ [1, 5, 7, 11] := by
      simp only [List.mem_cons, List.not_mem_nil, or_false] at hg
      rcases hg with rfl | rfl | rfl | rfl
      · exact ⟨1, rfl, by decide⟩
      · exact ⟨5, rfl, by decide⟩
      · exact ⟨7, rfl, by decide⟩
      · exact ⟨11, rfl, by decide⟩
    obtain ⟨sn, rfl⟩ := Int.eq_ofNat_of_zero_le s0
    have b34 := b3.trans b4
    have bH4 : But j H H4 := (But.ex e12).trans b34
    refine ⟨_, _, rfl, ?_⟩
    refine q_forR1 (n := 18) (ea_cons ev_c ea_nil) (by decide) (fun i σ' H' => ∃ y, σ' = [some (.ref j), some (.ref me), some (.ref fo), some (.int (sn : Int)), some (.int (gn : Int)), y] ∧ But j H H' ∧ JarAt H' j ∧ H' me = some (.lst (menu.map V.str)) ∧ H' fo = some (.lst (((List.range i).map fun k => menu.getD ((sn + gn * k) % 18) Str.empty).map V.str)))
      (fun H5 e5 => ⟨none, rfl, bH4.trans (But.ex e5), j4.ex e5, e5 _ _ (b34 _ _ hmj h2), e5 _ _ (b34 _ _ hfj (e2 _ _ hf1))⟩) ?_ ?_
    · rintro i σ' H5 hi ⟨y, rfl, b5, j5, hm5, hf5⟩
      have ei : ((sn : Int) + (gn : Int) * (i : Int)) % 18 = (((sn + gn * i) % 18 : Nat) : Int) := by
        rw [← Int.natCast_mul, ← Int.natCast_add]
        rfl
      have lt : (sn + gn * i) % 18 < menu.length := Nat.mod_lt _ (by decide)
      refine s_app (K := K) (v := .str (menu.getD ((sn + gn * i) % 18) Str.empty)) hf5 (ev_var rfl) (ev_op (ev_var rfl) (ev_op (ev_cb (z := .int ((sn : Int) + (gn : Int) * (i : Int))) (ea_cons (ev_op (ev_var rfl) (ev_op (ev_var rfl) (ev_var rfl) (rv_I (.inl ⟨?_, ?_⟩))) rv_I0) ea_nil) fun H6 e6 Q q => .inl ⟨_, rfl, q H6 (Ex.refl H6)⟩) ev_c (rv_I (by show (0 : Int) < 18; decide))) (rv_ixA (.inl hm5) ?_)) (by rw [List.length_map, List.length_map, List.length_range]; omega) fun H6 e6 => ?_
      · omega
      · have gl : gn ≤ 11 := by
          simp only [List.mem_cons, List.not_mem_nil, or_false] at hgn
          omega
        exact Int.lt_of_le_of_lt (show (gn : Int) ≤ 11 by omega) (by decide)
      · rw [ei]
        exact atI_nat (by rw [List.getElem?_map, List.getD_eq_getElem?_getD, List.getElem?_eq_getElem lt]; rfl)
      · refine ⟨_, rfl, (b5.trans (But.ex e6)).mut hfo, (j5.ex e6).put hfj, by rw [upd_ne nf]; exact e6 _ _ hm5, ?_⟩
        rw [upd_same, List.range_succ, List.map_append, List.map_append]
        rfl
    · rintro σ' H5 ⟨y, rfl, b5, j5, hm5, hf5⟩
      exact s_ret (ev_var rfl) fun H6 e6 => k fo (labs sn gn) H6 hfo hfj (b5.trans (But.ex e6)) (j5.ex e6) (e6 _ _ hf5) (labs_ok (by omega) hgn)
abbrev sc_law_some_kind_N : List Str := ["_law_jar_here"]
theorem sc_law_some_kind : FnScope sc_law_some_kind_N ["_law_jar_here"] (defScope s_law_some_kind) := ⟨rfl, rfl, rfl, by decide +kernel, rfl, by decide +kernel, by decide +kernel⟩
theorem ok_kind0 (F : FnP K "_law_some_kind" s_law_some_kind f fd) (T : Tops mg) (C_law_one_of : Cal P w K mg base 2 "_law_one_of" spOne []) : FnOk P w K mg base CX0 3 f fd ["_law_jar_here"] spKind := by
  refine F.ok sc_law_some_kind (fun vs H Q E h => ?_) (fun cdv A outer s H vs Q E hr h => ?_)
  · obtain ⟨j, rfl, _⟩ := h; rfl
  · obtain ⟨j, rfl, hj, k⟩ := h
    refine ⟨_, PSs.nox (pss_one (ps_ret (pe_c C_law_one_of hr (by decide) rfl (pa_cons (pv 0) (pa_cons (pe_lst (pa_cons pe_str (pa_cons pe_str (pa_cons pe_str (pa_cons pe_str (pa_cons pe_int (pa_cons pe_int (pa_cons pe_int (pa_cons pe_int (pa_cons (pe_op op_pow pe_int pe_int) (pa_cons pe_int pa_nil))))))))))) pa_nil))))), ?_⟩
    refine one_ (xs := [.str "bits", .str "plain", .str "bits", .str "plain", .int 3, .int 4, .int 12, .int 9, .int (10 ^ 9), .int 7]) rfl hj (el_lst (ea_cons ev_c (ea_cons ev_c (ea_cons ev_c (ea_cons ev_c (ea_cons ev_c (ea_cons ev_c (ea_cons ev_c (ea_cons ev_c (ea_cons (ev_op ev_c ev_c (rv_I ⟨by decide, by decide, by decide⟩)) (ea_cons ev_c ea_nil)))))))))) (Nat.le_of_ble_eq_true rfl)) (by decide) (by decide) fun v H1 hv j1 b1 => ?_
    simp only [List.mem_cons, List.not_mem_nil, or_false] at hv
    have dial : ∀ m : Int, 3 ≤ m → m ≤ 1000000000 → C8.E0 = C8.E0 → True := fun _ _ _ _ => trivial
    rcases hv with rfl | rfl | rfl | rfl | rfl | rfl | rfl | rfl | rfl | rfl
    · exact k .bits H1 trivial b1 j1
    · exact k .plain H1 trivial b1 j1
    · exact k .bits H1 trivial b1 j1
    · exact k .plain H1 trivial b1 j1
    · exact k (.dial 3) H1 ⟨by decide, by decide⟩ b1 j1
    · exact k (.dial 4) H1 ⟨by decide, by decide⟩ b1 j1
    · exact k (.dial 12) H1 ⟨by decide, by decide⟩ b1 j1
    · exact k (.dial 9) H1 ⟨by decide, by decide⟩ b1 j1
    · exact k (.dial (10 ^ 9)) H1 ⟨by decide, by decide⟩ b1 j1
    · exact k (.dial 7) H1 ⟨by decide, by decide⟩ b1 j1
end
end K08
end
section
set_option Elab.async false
set_option linter.all false
set_option maxRecDepth 100000
set_option maxHeartbeats 4000000
namespace K08
open PySem PySem.Spec PyProof.Rows L2 Evl TX
open C8 (Cal pe_c pe_gc)
open MN
abbrev FF : Type := Nat → Addr × Addr × Addr × List V
/-- columns being built, all new behind H0 -/
structure Build (H0 H : Hp) (j fo : Addr) (cs : List Col) (F : FF) : Prop where
  jar : JarAt H0 j
  fo0 : H0 fo = none
  hf : H fo = some (.lst ((List.range cs.length).map fun i => V.ref (F i).1))
  col : ∀ i, i < cs.length → H (F i).1 = some (.lst [.str (cs.getD i c0).nm, .ref (F i).2.1, .ref (F i).2.2.1])
  sm : ∀ i, i < cs.length → H (F i).2.1 = some (.lst ((cs.getD i c0).sums.map V.str))
  dt : ∀ i, i < cs.length → H (F i).2.2.1 = some (.lst (F i).2.2.2)
  rp : ∀ i, i < cs.length → Reps H (F i).2.2.2 ((cs.getD i c0).data.map pairD)
  new : ∀ i, i < cs.length → H0 (F i).1 = none ∧ H0 (F i).2.1 = none ∧ H0 (F i).2.2.1 = none
  n1 : ∀ i, i < cs.length → (F i).1 ≠ fo ∧ (F i).2.1 ≠ fo ∧ (F i).2.2.1 ≠ fo
  n2 : ∀ i m, i < cs.length → m < cs.length → (F i).2.1 ≠ (F m).1 ∧ (F i).2.2.1 ≠ (F m).1 ∧ (F i).2.1 ≠ (F m).2.2.1
  n3 : ∀ i m, i < cs.length → m < cs.length → i ≠ m → (F i).2.1 ≠ (F m).2.1 ∧ (F i).2.2.1 ≠ (F m).2.2.1
section
variable {H0 H H' : Hp} {j fo : Addr} {cs : List Col} {F : FF}
theorem Build.but (B : Build H0 H j fo cs F) (b : But j H H') (x : JarAt H j) : Build H0 H' j fo cs F where
  jar := B.jar
  fo0 := B.fo0
  hf := b _ _ (B.jar.ne B.fo0) B.hf
  col := fun i h => b _ _ (B.jar.ne (B.new i h).1) (B.col i h)
  sm := fun i h => b _ _ (B.jar.ne (B.new i h).2.1) (B.sm i h)
  dt := fun i h => b _ _ (B.jar.ne (B.new i h).2.2) (B.dt i h)
  rp := fun i h => (B.rp i h).on (b.tx x)
  new := B.new
  n1 := B.n1
  n2 := B.n2
  n3 := B.n3
theorem setc {i m : Nat} {c : Col} (h : i < cs.length) : (cs.set i c).getD m c0 = if m = i then c else cs.getD m c0 := by
  by_cases e : m = i
  · rw [if_pos e, e, List.getD_eq_getElem?_getD, List.getElem?_set_self h]
    rfl
  · rw [if_neg e, List.getD_eq_getElem?_getD, List.getElem?_set_ne (Ne.symm e), ← List.getD_eq_getElem?_getD]
def addS (c : Col) (w : Str) : Col := ⟨c.nm, c.sums ++ [w], c.data⟩
def addD (c : Col) (p : Str × Str) : Col := ⟨c.nm, c.sums, c.data ++ [p]⟩
theorem Build.sum (B : Build H0 H j fo cs F) {i : Nat} (h : i < cs.length) (w : Str) :
    Build H0 (upd H (F i).2.1 (.lst ((cs.getD i c0).sums.map V.str ++ [.str w]))) j fo (cs.set i (addS (cs.getD i c0) w)) F where
  jar := B.jar
  fo0 := B.fo0
  hf := by rw [upd_ne (B.n1 i h).2.1.symm, List.length_set]; exact B.hf
  col := fun m hm => by
    rw [List.length_set] at hm
    rw [upd_ne (B.n2 i m h hm).1.symm, setc h]
    by_cases e : m = i
    · rw [if_pos e, e]; exact B.col i h
    · rw [if_neg e]; exact B.col m hm
  sm := fun m hm => by
    rw [List.length_set] at hm
    rw [setc h]
    by_cases e : m = i
    · rw [if_pos e, e, upd_same]
      show _ = some (HO.lst (((cs.getD i c0).sums ++ [w]).map V.str))
      rw [List.map_append]
      rfl
    · rw [if_neg e, upd_ne (B.n3 m i hm h e).1]; exact B.sm m hm
  dt := fun m hm => by
    rw [List.length_set] at hm
    rw [upd_ne (B.n2 i m h hm).2.2.symm]
    exact B.dt m hm
  rp := fun m hm => by
    rw [List.length_set] at hm
    rw [setc h]
    have q := (B.rp m hm).on (Tx.put (o := HO.lst ((cs.getD i c0).sums.map V.str ++ [.str w])) (B.sm i h))
    by_cases e : m = i
    · rw [if_pos e, e]
      rw [e] at q
      exact q
    · rw [if_neg e]; exact q
  new := fun m hm => B.new m (by rw [List.length_set] at hm; exact hm)
  n1 := fun m hm => B.n1 m (by rw [List.length_set] at hm; exact hm)
  n2 := fun m k hm hk => by rw [List.length_set] at hm hk; exact B.n2 m k hm hk
  n3 := fun m k hm hk => by rw [List.length_set] at hm hk; exact B.n3 m k hm hk
def putFF (F : FF) (i : Nat) (v : V) : FF := fun m => if m = i then ((F i).1, (F i).2.1, (F i).2.2.1, (F i).2.2.2 ++ [v]) else F m
theorem put1 (F : FF) (i : Nat) (v : V) (m : Nat) : (putFF F i v m).1 = (F m).1 ∧ (putFF F i v m).2.1 = (F m).2.1 ∧ (putFF F i v m).2.2.1 = (F m).2.2.1 := by
  unfold putFF
  by_cases e : m = i
  · rw [if_pos e, e]; exact ⟨rfl, rfl, rfl⟩
  · rw [if_neg e]; exact ⟨rfl, rfl, rfl⟩
theorem Build.pair (B : Build H0 H j fo cs F) {i : Nat} (h : i < cs.length) {v : V} {p : Str × Str} (r : Rep H v (pairD p)) :
    Build H0 (upd H (F i).2.2.1 (HO.lst ((F i).2.2.2 ++ [v]))) j fo (cs.set i (addD (cs.getD i c0) p)) (putFF F i v) where
  jar := B.jar
  fo0 := B.fo0
  hf := by
    rw [upd_ne (B.n1 i h).2.2.symm, List.length_set, B.hf]
    simp only [(put1 F i v _).1]
  col := fun m hm => by
    rw [List.length_set] at hm
    rw [(put1 F i v m).1, (put1 F i v m).2.1, (put1 F i v m).2.2, upd_ne (B.n2 i m h hm).2.1.symm, setc h]
    by_cases e : m = i
    · rw [if_pos e, e]; exact B.col i h
    · rw [if_neg e]; exact B.col m hm
  sm := fun m hm => by
    rw [List.length_set] at hm
    rw [(put1 F i v m).2.1, upd_ne (B.n2 m i hm h).2.2, setc h]
    by_cases e : m = i
    · rw [if_pos e, e]; exact B.sm i h
    · rw [if_neg e]; exact B.sm m hm
  dt := fun m hm => by
    rw [List.length_set] at hm
    rw [(put1 F i v m).2.2]
    by_cases e : m = i
    · rw [e, upd_same]
      unfold putFF
      rw [if_pos rfl]
    · rw [upd_ne (B.n3 m i hm h e).2, B.dt m hm]
      unfold putFF
      rw [if_neg e]
  rp := fun m hm => by
    rw [List.length_set] at hm
    rw [setc h]
    have t : TX.Tx H (upd H (F i).2.2.1 (HO.lst ((F i).2.2.2 ++ [v]))) := Tx.put (B.dt i h)
    by_cases e : m = i
    · rw [if_pos e, e]
      unfold putFF
      rw [if_pos rfl]
      show Reps _ ((F i).2.2.2 ++ [v]) (((cs.getD i c0).data ++ [p]).map pairD)
      rw [List.map_append]
      exact ((B.rp i h).app (.cons r .nil)).on t
    · rw [if_neg e]
      unfold putFF
      rw [if_neg e]
      exact (B.rp m hm).on t
  new := fun m hm => by rw [List.length_set] at hm; rw [(put1 F i v m).1, (put1 F i v m).2.1, (put1 F i v m).2.2]; exact B.new m hm
  n1 := fun m hm => by rw [List.length_set] at hm; rw [(put1 F i v m).1, (put1 F i v m).2.1, (put1 F i v m).2.2]; exact B.n1 m hm
  n2 := fun m k hm hk => by rw [List.length_set] at hm hk; rw [(put1 F i v m).2.1, (put1 F i v m).2.2, (put1 F i v k).1, (put1 F i v k).2.2]; exact B.n2 m k hm hk
  n3 := fun m k hm hk => by rw [List.length_set] at hm hk; rw [(put1 F i v m).2.1, (put1 F i v m).2.2, (put1 F i v k).2.1, (put1 F i v k).2.2]; exact B.n3 m k hm hk
/-- a new column -/
structure ColNew (H0 H : Hp) (fo c s d : Addr) (nm : Str) : Prop where
  hc : H c = some (.lst [.str nm, .ref s, .ref d])
  hs : H s = some (.lst [])
  hd : H d = some (.lst [])
  ne : c ≠ s ∧ c ≠ d ∧ s ≠ d
  no : H0 c = none ∧ H0 s = none ∧ H0 d = none
theorem Build.add (B : Build H0 H j fo cs F) {H1 H2 : Hp} (e : Ex H H1) (eh : ∀ a, H a = none → H0 a = none) {c s d : Addr} {nm : Str} (N : ColNew H H1 fo c s d nm) (h2 : H2 = upd H1 fo (.lst ((List.range cs.length).map (fun i => V.ref (F i).1) ++ [.ref c]))) :
    Build H0 H2 j fo (cs ++ [Col.mk nm [] []]) (fun i => if i < cs.length then F i else (c, s, d, [])) := by
  have off : ∀ {a b : Addr} {o : HO}, H a = some o → H b = none → b ≠ a := fun h1 h3 z => by rw [z, h1] at h3; cases h3
  have nf : c ≠ fo ∧ s ≠ fo ∧ d ≠ fo := ⟨off B.hf N.no.1, off B.hf N.no.2.1, off B.hf N.no.2.2⟩
  have gd : ∀ i, i < cs.length → (cs ++ [Col.mk nm [] []]).getD i c0 = cs.getD i c0 := fun i h => by rw [List.getD_eq_getElem?_getD, List.getElem?_append_left h, ← List.getD_eq_getElem?_getD]
  have gn : (cs ++ [Col.mk nm [] []]).getD cs.length c0 = Col.mk nm [] [] := by rw [List.getD_eq_getElem?_getD, List.getElem?_append_right (Nat.le_refl _)]; simp
  have ln : ∀ i, i < (cs ++ [Col.mk nm [] []]).length → i < cs.length ∨ i = cs.length := fun i h => by rw [List.length_append] at h; have : ([Col.mk nm [] []]).length = 1 := rfl; omega
  have fl : ∀ i, i < cs.length → (if i < cs.length then F i else (c, s, d, [])) = F i := fun i h => if_pos h
  have fn : (if cs.length < cs.length then F cs.length else (c, s, d, [])) = (c, s, d, []) := if_neg (Nat.lt_irrefl _)
  have t : TX.Tx H H2 := by rw [h2]; exact (Tx.ex e).trans (Tx.put (e _ _ B.hf))
  refine ⟨B.jar, B.fo0, ?_, ?_, ?_, ?_, ?_, ?_, ?_, ?_, ?_⟩
  · rw [h2, upd_same, List.length_append]
    show _ = some (HO.lst ((List.range (cs.length + 1)).map _))
    rw [List.range_succ, List.map_append]
    congr 3
    · refine List.map_congr_left fun i hi => ?_
      rw [fl i (List.mem_range.mp hi)]
    · show [V.ref c] = [V.ref (if cs.length < cs.length then F cs.length else (c, s, d, [])).1]
      rw [fn]
  · intro i h
    rcases ln i h with h | rfl
    · simp only [fl i h, gd i h]
      rw [h2, upd_ne (B.n1 i h).1]
      exact e _ _ (B.col i h)
    · simp only [fn, gn]
      rw [h2, upd_ne nf.1]
      exact N.hc
  · intro i h
    rcases ln i h with h | rfl
    · simp only [fl i h, gd i h]
      rw [h2, upd_ne (B.n1 i h).2.1]
      exact e _ _ (B.sm i h)
    · simp only [fn, gn]
      rw [h2, upd_ne nf.2.1]
      exact N.hs
  · intro i h
    rcases ln i h with h | rfl
    · simp only [fl i h, gd i h]
      rw [h2, upd_ne (B.n1 i h).2.2]
      exact e _ _ (B.dt i h)
    · simp only [fn]
      rw [h2, upd_ne nf.2.2]
      exact N.hd
  · intro i h
    rcases ln i h with h | rfl
    · simp only [fl i h, gd i h]
      exact (B.rp i h).on t
    · simp only [fn, gn]
      exact .nil
  · intro i h
    rcases ln i h with h | rfl
    · simp only [fl i h]
      exact B.new i h
    · simp only [fn]
      exact ⟨eh _ N.no.1, eh _ N.no.2.1, eh _ N.no.2.2⟩
  · intro i h
    rcases ln i h with h | rfl
    · simp only [fl i h]
      exact B.n1 i h
    · simp only [fn]
      exact nf
  · intro i m h hm
    rcases ln i h with h | rfl <;> rcases ln m hm with hm | rfl
    · simp only [fl i h, fl m hm]
      exact B.n2 i m h hm
    · simp only [fl i h, fn]
      exact ⟨(off (B.sm i h) N.no.1).symm, (off (B.dt i h) N.no.1).symm, (off (B.sm i h) N.no.2.2).symm⟩
    · simp only [fl m hm, fn]
      exact ⟨off (B.col m hm) N.no.2.1, off (B.col m hm) N.no.2.2, off (B.dt m hm) N.no.2.1⟩
    · simp only [fn]
      exact ⟨N.ne.1.symm, N.ne.2.1.symm, N.ne.2.2⟩
  · intro i m h hm ne
    rcases ln i h with h | rfl <;> rcases ln m hm with hm | rfl
    · simp only [fl i h, fl m hm]
      exact B.n3 i m h hm ne
    · simp only [fl i h, fn]
      exact ⟨(off (B.sm i h) N.no.2.1).symm, (off (B.dt i h) N.no.2.2).symm⟩
    · simp only [fl m hm, fn]
      exact ⟨off (B.sm m hm) N.no.2.1, off (B.dt m hm) N.no.2.2⟩
    · exact absurd rfl ne
end
/-! what the columns hold together -/
theorem set_cut {cs : List Col} {i : Nat} (h : i < cs.length) (c : Col) : cs.set i c = cs.take i ++ c :: cs.drop (i + 1) := List.set_eq_take_append_cons_drop.trans (if_pos h)
theorem cs_cut {cs : List Col} {i : Nat} (h : i < cs.length) : cs = cs.take i ++ cs.getD i c0 :: cs.drop (i + 1) := by
  have g : cs.getD i c0 = cs[i] := by rw [List.getD_eq_getElem?_getD, List.getElem?_eq_getElem h]; rfl
  rw [g, ← List.drop_eq_getElem_cons h, List.take_append_drop]
theorem sums_set {cs : List Col} {i : Nat} (h : i < cs.length) (w : Str) : (sumsOf (cs.set i (addS (cs.getD i c0) w))).Perm (sumsOf cs ++ [w]) := by
  have e1 : sumsOf (cs.set i (addS (cs.getD i c0) w)) = sumsOf (cs.take i) ++ ((cs.getD i c0).sums ++ [w] ++ sumsOf (cs.drop (i + 1))) := by
    rw [set_cut h]; unfold sumsOf; rw [List.flatMap_append, List.flatMap_cons]; rfl
  have e2 : sumsOf cs = sumsOf (cs.take i) ++ ((cs.getD i c0).sums ++ sumsOf (cs.drop (i + 1))) := by
    have q : sumsOf (cs.take i ++ cs.getD i c0 :: cs.drop (i + 1)) = sumsOf (cs.take i) ++ ((cs.getD i c0).sums ++ sumsOf (cs.drop (i + 1))) := by unfold sumsOf; rw [List.flatMap_append, List.flatMap_cons]
    rw [← cs_cut h] at q
    exact q
  rw [e1, e2]
  simp only [List.append_assoc]
  exact (List.perm_append_comm.append_left _).append_left _
theorem data_setS {cs : List Col} {i : Nat} (h : i < cs.length) (w : Str) : dataOf (cs.set i (addS (cs.getD i c0) w)) = dataOf cs := by
  have q : dataOf (cs.take i ++ cs.getD i c0 :: cs.drop (i + 1)) = dataOf (cs.set i (addS (cs.getD i c0) w)) := by
    rw [set_cut h]; unfold dataOf; rw [List.flatMap_append, List.flatMap_append, List.flatMap_cons, List.flatMap_cons]; rfl
  rw [← cs_cut h] at q
  exact q.symm
theorem sums_setD {cs : List Col} {i : Nat} (h : i < cs.length) (p : Str × Str) : sumsOf (cs.set i (addD (cs.getD i c0) p)) = sumsOf cs := by
  have q : sumsOf (cs.take i ++ cs.getD i c0 :: cs.drop (i + 1)) = sumsOf (cs.set i (addD (cs.getD i c0) p)) := by
    rw [set_cut h]; unfold sumsOf; rw [List.flatMap_append, List.flatMap_append, List.flatMap_cons, List.flatMap_cons]; rfl
  rw [← cs_cut h] at q
  exact q.symm
theorem data_set {cs : List Col} {i : Nat} (h : i < cs.length) (p : Str × Str) : (dataOf (cs.set i (addD (cs.getD i c0) p))).Perm (dataOf cs ++ [p]) := by
  have e1 : dataOf (cs.set i (addD (cs.getD i c0) p)) = dataOf (cs.take i) ++ ((cs.getD i c0).data ++ [p] ++ dataOf (cs.drop (i + 1))) := by
    rw [set_cut h]; unfold dataOf; rw [List.flatMap_append, List.flatMap_cons]; rfl
  have e2 : dataOf cs = dataOf (cs.take i) ++ ((cs.getD i c0).data ++ dataOf (cs.drop (i + 1))) := data_cut h
  rw [e1, e2]
  simp only [List.append_assoc]
  exact (List.perm_append_comm.append_left _).append_left _
theorem nms_set {cs : List Col} {i : Nat} (h : i < cs.length) {c : Col} (e : c.nm = (cs.getD i c0).nm) : (cs.set i c).map (·.nm) = cs.map (·.nm) := by
  have q : (cs.take i ++ cs.getD i c0 :: cs.drop (i + 1)).map (·.nm) = (cs.set i c).map (·.nm) := by
    rw [set_cut h, List.map_append, List.map_append, List.map_cons, List.map_cons, e]
  rw [← cs_cut h] at q
  exact q.symm
end K08
end
section
set_option Elab.async false
set_option linter.all false
set_option maxRecDepth 100000
set_option maxHeartbeats 4000000
namespace K08
open PySem PySem.Spec PyProof.Rows L2 Evl TX
open C8 (Cal pe_c pe_gc)
open MN
section
variable {K : PySem.W.Frag} {σ : L2.St} {H : Hp} {ta tb te tu' : TE} {tu tz : TS} {D : Ends} {j : Nat}
theorem q_forP {ta : TA} {P : Int → Hp → Prop} (h : ∀ Q : List V → Hp → Prop, (∀ n H1, P n H1 → Q [.int n] H1) → ta σ H Q) (hn : ∀ n H1, P n H1 → 0 ≤ n ∧ n ≤ 100000) (Pv : Int → Nat → L2.St → Hp → Prop) (h0 : ∀ n H1, P n H1 → Pv n 0 σ H1)
    (hs : ∀ n (i : Nat) σ' H', (i : Int) < n → Pv n i σ' H' → tu { D with nx := Pv n (i + 1), ct := Pv n (i + 1), bk := tz D } (σ'.set j (some (.int (i : Int)))) H') (hd : ∀ (n : Nat) σ' H', Pv (n : Int) n σ' H' → tz D σ' H') : tSeq (tFor (iRng1 ta) (gName j) tu) tz D σ H :=
  h _ fun n H1 p => by
    have b := hn n H1 p
    refine ⟨n, rfl, by omega, by omega, for_range (D := { D with nx := tz D }) (lo := 0) (n := n.toNat) (Pv n) (h0 n H1 p) (fun i σ' H' hi q => ?_) (fun σ' H' q => ?_)⟩
    · have e0 : (0 : Int) + (i : Int) = (i : Int) := Int.zero_add _
      show tu { D with nx := Pv n (i + 1), ct := Pv n (i + 1), bk := tz D } (σ'.set j (some (.int ((0 : Int) + (i : Int))))) H'
      rw [e0]
      exact hs n i σ' H' (by omega) q
    · have e1 : ((n.toNat : Nat) : Int) = n := Int.toNat_of_nonneg b.1
      exact hd n.toNat σ' H' (by rw [e1]; exact q)
end
section
variable {K : PySem.W.Frag} {σ : L2.St} {H0 H : Hp} {j fo : Addr} {cs : List Col} {F : FF} {Q : VK} {E : XK}
/-- found[dip(jar, many)][1], [2] -/
theorem recvS (B : Build H0 H j fo cs F) (hj : JarAt H j) (s0 : σ[0]? = some (some (.ref j))) (s5 : σ[5]? = some (some (.int (cs.length : Int)))) (s7 : σ[7]? = some (some (.ref fo))) (h0 : 0 < cs.length) (h8 : cs.length ≤ 8)
    (k : ∀ i H', i < cs.length → JarAt H' j → But j H H' → Q (.ref (F i).2.1) H') : tOp (rIx K) (tOp (rIx K) (tVar 7) (tCall spDip [] E (tCons (tVar 0) (tCons (tVar 5) tNil)))) (tC (.int 1)) σ H Q :=
  ⟨_, s7, dip_ s0 hj (ev_var s5) (by omega) (by omega) fun d H' j2 b2 d0 d1 => by
    have B2 := B.but b2 hj
    have lt : d.toNat < cs.length := by omega
    have e : atI ((List.range cs.length).map fun i => V.ref (F i).1) d = some (.ref (F d.toNat).1) := by
      have q := atI_nat (xs := (List.range cs.length).map fun i => V.ref (F i).1) (j := d.toNat) (v := .ref (F d.toNat).1) (by rw [List.getElem?_map, List.getElem?_range lt]; rfl)
      rw [Int.toNat_of_nonneg d0] at q
      exact q
    exact .inl ⟨fo, _, d, _, rfl, rfl, sq_of B2.hf, e, .inl ⟨_, _, 1, .ref (F d.toNat).2.1, rfl, rfl, sq_of (B2.col _ lt), rfl, k _ H' lt j2 b2⟩⟩⟩
theorem recvD (B : Build H0 H j fo cs F) (hj : JarAt H j) (s0 : σ[0]? = some (some (.ref j))) (s5 : σ[5]? = some (some (.int (cs.length : Int)))) (s7 : σ[7]? = some (some (.ref fo))) (h0 : 0 < cs.length) (h8 : cs.length ≤ 8)
    (k : ∀ i H', i < cs.length → JarAt H' j → But j H H' → Q (.ref (F i).2.2.1) H') : tOp (rIx K) (tOp (rIx K) (tVar 7) (tCall spDip [] E (tCons (tVar 0) (tCons (tVar 5) tNil)))) (tC (.int 2)) σ H Q :=
  ⟨_, s7, dip_ s0 hj (ev_var s5) (by omega) (by omega) fun d H' j2 b2 d0 d1 => by
    have B2 := B.but b2 hj
    have lt : d.toNat < cs.length := by omega
    have e : atI ((List.range cs.length).map fun i => V.ref (F i).1) d = some (.ref (F d.toNat).1) := by
      have q := atI_nat (xs := (List.range cs.length).map fun i => V.ref (F i).1) (j := d.toNat) (v := .ref (F d.toNat).1) (by rw [List.getElem?_map, List.getElem?_range lt]; rfl)
      rw [Int.toNat_of_nonneg d0] at q
      exact q
    exact .inl ⟨fo, _, d, _, rfl, rfl, sq_of B2.hf, e, .inl ⟨_, _, 2, .ref (F d.toNat).2.2.1, rfl, rfl, sq_of (B2.col _ lt), rfl, k _ H' lt j2 b2⟩⟩⟩
end
def bare (zs : List Str) (n : Nat) : List Col := (zs.take n).map fun z => Col.mk z [] []
theorem bare_sums (zs : List Str) (n : Nat) : sumsOf (bare zs n) = [] := by
  unfold sumsOf bare
  rw [List.flatMap_map]
  exact List.flatMap_eq_nil_iff.mpr fun _ _ => rfl
theorem bare_data (zs : List Str) (n : Nat) : dataOf (bare zs n) = [] := by
  unfold dataOf bare
  rw [List.flatMap_map]
  exact List.flatMap_eq_nil_iff.mpr fun _ _ => rfl
theorem bare_nms (zs : List Str) (n : Nat) : (bare zs n).map (·.nm) = zs.take n := by
  unfold bare
  rw [List.map_map]
  exact List.map_id' _
theorem bare_len {zs : List Str} {n : Nat} (h : n ≤ zs.length) : (bare zs n).length = n := by
  unfold bare
  rw [List.length_map, List.length_take]
  omega
theorem bare_succ {zs : List Str} {n : Nat} (h : n < zs.length) : bare zs (n + 1) = bare zs n ++ [Col.mk (zs.getD n Str.empty) [] []] := by
  unfold bare
  rw [List.take_succ, List.map_append, List.getD_eq_getElem?_getD, List.getElem?_eq_getElem h]
  rfl
theorem pair_ok {T : List Str} {x y : Str} (hx : x ∈ T) (hy : y ∈ T) (ne : x ≠ y) : pairOk T (if less y x then y else x, if less x y then y else x) := by
  have tri : ∀ a b : List Nat, a < b ∨ a = b ∨ b < a := fun a b => by
    by_cases h : a < b
    · exact .inl h
    · by_cases h2 : b < a
      · exact .inr (.inr h2)
      · exact .inr (.inl (List.le_antisymm h2 h))
  unfold less pairOk
  rcases tri x.cps.toList y.cps.toList with h | h | h
  · have h2 : ¬ y.cps.toList < x.cps.toList := fun z => absurd h (List.lt_asymm z)
    rw [decide_eq_false h2, decide_eq_true h]
    exact ⟨hx, hy, h⟩
  · exact absurd (by cases x; cases y; exact congrArg Str.mk (Array.toList_inj.mp h)) ne
  · have h2 : ¬ x.cps.toList < y.cps.toList := fun z => absurd h (List.lt_asymm z)
    rw [decide_eq_true h, decide_eq_false h2]
    exact ⟨hy, hx, h⟩
/-- what the building keeps -/
structure Kept (zs T : List Str) (mn : Nat) (n : Nat) (cs : List Col) : Prop where
  nms : cs.map (·.nm) = zs.take mn
  sms : (sumsOf cs).Perm T
  prs : ∀ p ∈ dataOf cs, pairOk T p
  len : (dataOf cs).length ≤ n
theorem Kept.good {zs T : List Str} {mn n : Nat} {cs : List Col} (Kp : Kept zs T mn n cs) (ok : LabsOk zs) (h1 : 1 ≤ mn) (h8 : mn ≤ 8) (hT : T.Sublist zs) (t1 : 1 ≤ T.length) (t10 : T.length ≤ 10) (n24 : n ≤ 24) : Good cs := by
  have lc : cs.length = mn := by
    have q := congrArg List.length Kp.nms
    rw [List.length_map, List.length_take, ok.len] at q
    omega
  refine ⟨fun z => ?_, by omega, fun c hc => ?_, fun c hc w hw => ?_, ?_, Kp.sms.nodup_iff.mpr (ok.nd.sublist hT), fun z => ?_, by rw [Kp.sms.length_eq]; exact t10, Nat.le_trans Kp.len n24, fun c hc p hp => ?_⟩
  · rw [z] at lc
    simp at lc
    omega
  · exact ok.nm _ (List.mem_of_mem_take (by rw [← Kp.nms]; exact List.mem_map.mpr ⟨c, hc, rfl⟩))
  · exact ok.nm _ (hT.subset (Kp.sms.mem_iff.mp (List.mem_flatMap.mpr ⟨c, hc, hw⟩)))
  · rw [Kp.nms]
    exact ok.nd.sublist (List.take_sublist _ _)
  · have q := Kp.sms.length_eq
    rw [z] at q
    simp at q
    omega
  · have q := Kp.prs p (List.mem_flatMap.mpr ⟨c, hc, hp⟩)
    exact ⟨Kp.sms.mem_iff.mpr q.1, Kp.sms.mem_iff.mpr q.2.1, q.2.2⟩
end K08
end
section
set_option Elab.async false
set_option linter.all false
set_option maxRecDepth 100000
set_option maxHeartbeats 4000000
namespace K08
open PySem PySem.Spec PyProof.Rows L2 Evl TX
open C8 (Cal pe_c pe_gc)
open MN
def spChart : Sp := fun vs H Q _ => ∃ (j : Addr) (m s d : Int), vs = [.ref j, .int m, .int s, .int d] ∧ JarAt H j ∧ (1 ≤ m ∧ m ≤ 8) ∧ (1 ≤ s ∧ s ≤ 10) ∧ (0 ≤ d ∧ d ≤ 24) ∧ ∀ l k cs f F H', H l = none → But j H H' → JarAt H' j → ChartAt H' j l k cs f F → k.ok → Good cs → (("nobody" : Str) ∉ sumsOf cs ∧ ∀ c ∈ cs, c.nm ≠ "nobody") → Q (.ref l) H'
theorem sums_le {cs : List Col} {i : Nat} (h : i < cs.length) : (cs.getD i c0).sums.length ≤ (sumsOf cs).length := by
  have q : (sumsOf (cs.take i ++ cs.getD i c0 :: cs.drop (i + 1))).length = (sumsOf (cs.take i)).length + ((cs.getD i c0).sums.length + (sumsOf (cs.drop (i + 1))).length) := by unfold sumsOf; rw [List.flatMap_append, List.flatMap_cons, List.length_append, List.length_append]
  rw [← cs_cut h] at q
  omega
theorem datas_le {cs : List Col} {i : Nat} (h : i < cs.length) : (cs.getD i c0).data.length ≤ (dataOf cs).length := by
  have q := congrArg List.length (data_cut h)
  rw [List.length_append, List.length_append] at q
  omega
theorem Build.chart {H0 H : Hp} {j fo : Addr} {cs : List Col} {F : FF} (B : Build H0 H j fo cs F) {l : Addr} {k : Kd} (hl : H l = some (.lst [k.v, .ref fo])) (n : l ≠ j) : ChartAt H j l k cs fo F :=
  ⟨hl, B.hf, B.col, B.sm, B.dt, B.rp, n, B.jar.ne B.fo0, fun i h => ⟨B.jar.ne (B.new i h).1, B.jar.ne (B.new i h).2.1, B.jar.ne (B.new i h).2.2⟩⟩
theorem Build.ex {H0 H H' : Hp} {j fo : Addr} {cs : List Col} {F : FF} (B : Build H0 H j fo cs F) (e : Ex H H') : Build H0 H' j fo cs F :=
  ⟨B.jar, B.fo0, e _ _ B.hf, fun i h => e _ _ (B.col i h), fun i h => e _ _ (B.sm i h), fun i h => e _ _ (B.dt i h), fun i h => (B.rp i h).ex e, B.new, B.n1, B.n2, B.n3⟩
theorem strs_at {zs : List Str} {i : Nat} (h : i < zs.length) : atI (zs.map V.str) (i : Int) = some (.str (zs.getD i Str.empty)) :=
  atI_nat (by rw [List.getElem?_map, List.getD_eq_getElem?_getD, List.getElem?_eq_getElem h]; rfl)
section
variable {K : PySem.W.Frag} {σ : L2.St} {H : Hp} {tb te : TE} {Q : VK} {QO : Option Int → Hp → Prop} {r : R2} {x : V}
theorem part_ (h : te σ H fun x H1 => ∃ i, x = .int i ∧ QO (some i) H1) : tPart te σ H QO := h
theorem opC_ (h : tb σ H fun y H2 => r x y H2 Q) : tOp r (tC x) tb σ H Q := h
end
section
variable {P : Program} {w : World} {K : PySem.W.Frag} {mg : Str → Option Value} {base : Heap} {f : Addr} {fd : FuncData}
abbrev sc_law_chart_N : List Str := ["_law_jar_here", "_law_most", "_law_sums_most", "_law_data_most", "_law_labels_here", "_law_many", "_law_tags_here", "_law_found", "_law_k", "_law_tag", "_law_turn", "_law_one", "_law_two"]
theorem sc_law_chart : FnScope sc_law_chart_N ["_law_jar_here", "_law_most", "_law_sums_most", "_law_data_most"] (defScope s_law_chart) := ⟨rfl, rfl, rfl, by decide +kernel, rfl, by decide +kernel, by decide +kernel⟩
theorem ok_chart (F : FnP K "_law_chart" s_law_chart f fd) (T : Tops mg) (C_law_dip : Cal P w K mg base 1 "_law_dip" spDip []) (C_law_one_of : Cal P w K mg base 2 "_law_one_of" spOne []) (C_law_labels : Cal P w K mg base 3 "_law_labels" spLabels []) (C_law_some_kind : Cal P w K mg base 3 "_law_some_kind" spKind []) : FnOk P w K mg base CX0 4 f fd ["_law_jar_here", "_law_most", "_law_sums_most", "_law_data_most"] spChart := by
  refine F.ok sc_law_chart (fun vs H Q E h => ?_) (fun cdv A outer s H vs Q E hr h => ?_)
  · obtain ⟨j, m, s, d, rfl, _⟩ := h; rfl
  · obtain ⟨j, m, s, d, rfl, hj, ⟨m1, m8⟩, ⟨s1, s10⟩, ⟨d0, d24⟩, k⟩ := h
    refine ⟨_, PSs.nox (pss_cons (ps_par (i := 4) (j := 5) (by rfl) sc_law_chart.nd rfl rfl (by decide) rfl rfl (pa_cons (pe_c C_law_labels hr (by decide) rfl (pa_cons (pv 0) pa_nil)) (pa_cons (pe_op op_add pe_int (pe_c C_law_dip hr (by decide) rfl (pa_cons (pv 0) (pa_cons (pv 1) pa_nil)))) pa_nil)) (by rfl))
  (pss_cons (ps_par (i := 6) (j := 7) (by rfl) sc_law_chart.nd rfl rfl (by decide) rfl rfl (pa_cons (pe_slice sl_list (pv 4) (po_some pe_int) (po_some (pe_op op_add pe_int (pe_c C_law_dip hr (by decide) rfl (pa_cons (pv 0) (pa_cons (pv 2) pa_nil)))))) (pa_cons (pe_lst pa_nil) pa_nil)) (by rfl))
  (pss_cons (ps_for PassesOwn.never rfl (pi_range1 rfl T.n_range (pa_cons (pv 5) pa_nil)) (pg_name (i := 8) sc_law_chart.nd rfl (.inl rfl))
  (pss_one (ps_expr (pe_bm PySem.F.plainAttrs_list PySem.F.slot_list_append PySem.F.type_list_append mt_append (pv 7) (pa_cons (pe_lst (pa_cons (pe_ix (ix_seq : IxR _ (rIx K)) (pv 4) (pv 8) (fun _ _ => rfl)) (pa_cons (pe_lst pa_nil) (pa_cons (pe_lst pa_nil) pa_nil)))) pa_nil)))))
  (pss_cons (ps_for PassesOwn.never rfl (pi_list (pv 6)) (pg_name (i := 9) sc_law_chart.nd rfl (.inl rfl))
  (pss_one (ps_expr (pe_bm PySem.F.plainAttrs_list PySem.F.slot_list_append PySem.F.type_list_append mt_append (pe_ix (ix_seq : IxR _ (rIx K)) (pe_ix (ix_seq : IxR _ (rIx K)) (pv 7) (pe_c C_law_dip hr (by decide) rfl (pa_cons (pv 0) (pa_cons (pv 5) pa_nil))) (fun _ _ => rfl)) pe_int (fun _ _ => rfl)) (pa_cons (pv 9) pa_nil)))))
  (pss_cons (ps_for PassesOwn.never rfl (pi_range1 rfl T.n_range (pa_cons (pe_ifExp (pt_cmpR op_gt (pe_callB call_len_seq (by rfl) T.n_len PySem.boot_len (pa_cons (pv 6) pa_nil)) pe_int (nomark _)) (pe_c C_law_dip hr (by decide) rfl (pa_cons (pv 0) (pa_cons (pe_op op_add (pv 3) pe_int) pa_nil))) pe_int) pa_nil)) (pg_name (i := 10) sc_law_chart.nd rfl (.inl rfl))
  (pss_cons (ps_par (i := 11) (j := 12) (by rfl) sc_law_chart.nd rfl rfl (by decide) rfl rfl (pa_cons (pe_c C_law_one_of hr (by decide) rfl (pa_cons (pv 0) (pa_cons (pv 6) pa_nil))) (pa_cons (pe_c C_law_one_of hr (by decide) rfl (pa_cons (pv 0) (pa_cons (pv 6) pa_nil))) pa_nil)) (by rfl))
  (pss_one (ps_if (pt_cmpR op_ne (pv 11) (pv 12) (nomark _))
  (pss_one (ps_expr (pe_bm PySem.F.plainAttrs_list PySem.F.slot_list_append PySem.F.type_list_append mt_append (pe_ix (ix_seq : IxR _ (rIx K)) (pe_ix (ix_seq : IxR _ (rIx K)) (pv 7) (pe_c C_law_dip hr (by decide) rfl (pa_cons (pv 0) (pa_cons (pv 5) pa_nil))) (fun _ _ => rfl)) pe_int (fun _ _ => rfl)) (pa_cons (pe_tup (pa_cons (pe_callB (MN.call_minS rfl) (by rfl) T.n_min (by decide +kernel) (pa_cons (pv 11) (pa_cons (pv 12) pa_nil))) (pa_cons (pe_callB (MN.call_maxS rfl) (by rfl) T.n_max (by decide +kernel) (pa_cons (pv 11) (pa_cons (pv 12) pa_nil))) pa_nil))) pa_nil))))
  pss_nil))))
  (pss_one (ps_ret (pe_lst (pa_cons (pe_c C_law_some_kind hr (by decide) rfl (pa_cons (pv 0) pa_nil)) (pa_cons (pv 7) pa_nil)))))))))), ?_⟩
    -- the labels, how many columns
    refine q_par ?_
    refine ⟨.ref j, rfl, j, rfl, hj, fun lb zs H1 hlb hlj b1 j1 hz1 ok => ?_⟩
    refine opC_ (dip_ rfl j1 (ev_var rfl) (by omega) (by omega) fun dm H2 j2 b2 dm0 dm1 => ?_)
    obtain ⟨mn, hmn⟩ : ∃ mn : Nat, 1 + dm = (mn : Int) := ⟨(1 + dm).toNat, by omega⟩
    refine ⟨1, dm, rfl, rfl, .ref lb, .int (mn : Int), by rw [← hmn], ?_⟩
    have mn1 : 1 ≤ mn := by omega
    have mn8 : mn ≤ 8 := by omega
    have hz2 := b2 _ _ hlj hz1
    have b02 := b1.trans b2
    clear b1 j1 hz1 hlb
    -- the tags
    refine q_par ?_
    refine ⟨.ref lb, rfl, part_ ⟨8, rfl, part_ (opC_ (dip_ rfl j2 (ev_var rfl) (by omega) (by omega) fun ds H3 j3 b3 ds0 ds1 => ⟨9, ds, rfl, rfl, 9 + ds, rfl, ?_⟩))⟩⟩
    have hz3 := b3 _ _ hlj hz2
    refine ⟨lb, _, rfl, sq_of hz3, fun tg htg => ⟨by show 0 ≤ sizeLine; decide, fun fo hfo => ⟨_, _, rfl, ?_⟩⟩⟩
    obtain ⟨T, hT, t1, t10, sub⟩ : ∃ T : List Str, cutV (zs.map V.str) (some 8) (some (9 + ds)) = T.map V.str ∧ 1 ≤ T.length ∧ T.length ≤ 10 ∧ T.Sublist zs := by
      have lz : (zs.map V.str).length = 18 := by rw [List.length_map]; exact ok.len
      refine ⟨(zs.drop 8).take (1 + ds.toNat), ?_, ?_, ?_, (List.take_sublist _ _).trans (List.drop_sublist _ _)⟩
      · have e9 : (9 + ds : Int) = ((9 + ds.toNat : Nat) : Int) := by omega
        have q1 : HT.sIx 18 0 (some (8 : Int)) = 8 := rfl
        have q2 : HT.sIx 18 18 (some (9 + ds)) = 9 + ds.toNat := by rw [e9, HT.sIx_nat]; omega
        unfold cutV
        rw [lz, q1, q2, List.map_take, List.map_drop]
        congr 1
        omega
      · rw [List.length_take, List.length_drop, ok.len]
        omega
      · rw [List.length_take]
        omega
    rw [hT] at hfo ⊢
    have b03 := b02.trans b3
    have e3 : Ex H3 (upd H3 tg (HO.lst (T.map V.str))) := Ex.new htg
    have gt : (upd H3 tg (HO.lst (T.map V.str))) tg = some (HO.lst (T.map V.str)) := upd_same
    have htj : tg ≠ j := j3.ne htg
    have hfo' : (upd H3 tg (HO.lst (T.map V.str))) fo = none := hfo
    show tSeq _ _ _ _ (upd (upd H3 tg (HO.lst (T.map V.str))) fo (HO.lst []))
    clear hfo
    generalize upd H3 tg (HO.lst (T.map V.str)) = G at e3 gt hfo' ⊢
    have bG : But j H G := b03.trans (But.ex e3)
    have jG : JarAt G j := j3.ex e3
    have hzG := e3 _ _ hz3
    clear e3 b03 hz3 j3 b3 b02 hz2 j2 b2 htg
    have f0 : G fo = none := hfo'
    have nft : fo ≠ tg := fun z => by rw [z, gt] at f0; cases f0
    have nfl : lb ≠ fo := fun z => by rw [z, f0] at hzG; cases hzG
    have hfj : fo ≠ j := jG.ne f0
    have e4 : Ex G (upd G fo (HO.lst [])) := Ex.new f0
    have h4f : (upd G fo (HO.lst [])) fo = some (HO.lst []) := upd_same
    generalize upd G fo (HO.lst []) = H4 at e4 h4f ⊢
    have j4 := jG.ex e4
    have b04 : But j G H4 := But.ex e4
    have hz4 := e4 _ _ hzG
    have h4t := e4 _ _ gt
    have lz : zs.length = 18 := ok.len
    -- bare columns
    refine q_forR1 (n := (mn : Int)) (ea_cons (ev_var rfl) ea_nil) (by omega) (fun i σ' H' => ∃ y F, σ' = [some (.ref j), some (.int m), some (.int s), some (.int d), some (.ref lb), some (.int (mn : Int)), some (.ref tg), some (.ref fo), y, none, none, none, none] ∧ JarAt H' j ∧ H' lb = some (.lst (zs.map V.str)) ∧ H' tg = some (.lst (T.map V.str)) ∧ Build G H' j fo (bare zs i) F ∧ But j G H')
      (fun H5 e5 => ⟨none, fun _ => (0, 0, 0, []), rfl, j4.ex e5, e5 _ _ hz4, e5 _ _ h4t, ⟨jG, f0, e5 _ _ h4f, fun i h => absurd h (Nat.not_lt_zero i), fun i h => absurd h (Nat.not_lt_zero i), fun i h => absurd h (Nat.not_lt_zero i), fun i h => absurd h (Nat.not_lt_zero i), fun i h => absurd h (Nat.not_lt_zero i), fun i h => absurd h (Nat.not_lt_zero i), fun i m h => absurd h (Nat.not_lt_zero i), fun i m h => absurd h (Nat.not_lt_zero i)⟩, b04.trans (But.ex e5)⟩) ?_ ?_
    · rintro i σ' H5 hi ⟨y, F, rfl, j5, hz5, ht5, B, b5⟩
      have li : i < zs.length := by omega
      refine ⟨.ref fo, rfl, Or.inl ⟨rfl, _, sq_of B.hf⟩, .ref lb, rfl, .int (i : Int), rfl, .inl ⟨lb, _, (i : Int), .str (zs.getD i Str.empty), rfl, rfl, sq_of hz5, strs_at li, by show 0 ≤ sizeLine; decide, fun ss hs => ⟨by show 0 ≤ sizeLine; decide, fun dd hd => ⟨by show 3 ≤ sizeLine; decide, fun cc hc => ?_⟩⟩⟩⟩
      have nds : dd ≠ ss := fun z => by rw [z, upd_same] at hd; cases hd
      have hd5 : H5 dd = none := by rw [upd_ne nds] at hd; exact hd
      have ncd : cc ≠ dd := fun z => by rw [z, upd_same] at hc; cases hc
      have ncs : cc ≠ ss := fun z => by rw [z, upd_ne nds.symm, upd_same] at hc; cases hc
      have hc5 : H5 cc = none := by rw [upd_ne ncd, upd_ne ncs] at hc; exact hc
      have e6 : Ex H5 (upd (upd (upd H5 ss (HO.lst [])) dd (HO.lst [])) cc (HO.lst [.str (zs.getD i Str.empty), .ref ss, .ref dd])) := ((Ex.new hs).trans (Ex.new hd)).trans (Ex.new hc)
      have N : ColNew H5 (upd (upd (upd H5 ss (HO.lst [])) dd (HO.lst [])) cc (HO.lst [.str (zs.getD i Str.empty), .ref ss, .ref dd])) fo cc ss dd (zs.getD i Str.empty) :=
        ⟨upd_same, by rw [upd_ne ncs.symm, upd_ne nds.symm, upd_same], by rw [upd_ne ncd.symm, upd_same], ⟨ncs, ncd, nds.symm⟩, hc5, hs, hd5⟩
      have lb5 := bare_len (zs := zs) (n := i) (by omega)
      refine ⟨fo, _, .ref cc, rfl, rfl, e6 _ _ B.hf, sz_lt (by rw [List.length_map, List.length_range]; omega), ?_⟩
      have B7 := B.add e6 (fun a ha => fresh_but b5 j5 ha) N rfl
      rw [← bare_succ li] at B7
      exact ⟨_, _, rfl, (j5.ex e6).put hfj, (upd_ne nfl).trans (e6 _ _ hz5), (upd_ne nft.symm).trans (e6 _ _ ht5), B7, (b5.trans (But.ex e6)).mut f0⟩
    rintro σ' H5 ⟨y, F, rfl, j5, hz5, ht5, B, b5⟩
    rw [Int.toNat_natCast] at B
    -- the sums
    refine q_forLn (K := K) (a := tg) (xs := T.map V.str) (ev_var rfl) (sq_of ht5) (fun i σ' H' => ∃ y y9 F cs, σ' = [some (.ref j), some (.int m), some (.int s), some (.int d), some (.ref lb), some (.int (mn : Int)), some (.ref tg), some (.ref fo), y, y9, none, none, none] ∧ JarAt H' j ∧ H' tg = some (.lst (T.map V.str)) ∧ Build G H' j fo cs F ∧ But j G H' ∧ cs.map (·.nm) = zs.take mn ∧ (sumsOf cs).Perm (T.take i) ∧ dataOf cs = [])
      (fun H6 e6 => ⟨y, none, F, _, rfl, j5.ex e6, e6 _ _ ht5, B.ex e6, b5.trans (But.ex e6), bare_nms _ _, by rw [bare_sums]; exact .refl _, bare_data _ _⟩) (fun i σ' H' _ ⟨_, _, _, _, _, _, h, _⟩ => sq_of h) ?_ ?_
    · rintro i x σ' H6 hx ⟨y, y9, F, cs, rfl, j6, ht6, B, b6, hn, hp, hd⟩
      rw [List.getElem?_map] at hx
      obtain ⟨w, hw, rfl⟩ := Option.map_eq_some_iff.mp hx
      have lc : cs.length = mn := by
        have q := congrArg List.length hn
        rw [List.length_map, List.length_take, ok.len] at q
        omega
      refine recvS B j6 rfl (by rw [lc]; rfl) rfl (by omega) (by omega) fun a H7 lt j7 b7 => ?_
      have B7 := B.but b7 j6
      have ls := sums_le lt
      have lp := hp.length_eq
      rw [List.length_take] at lp
      refine ⟨Or.inl ⟨rfl, _, sq_of (B7.sm a lt)⟩, .str w, rfl, (F a).2.1, _, .str w, rfl, rfl, B7.sm a lt, sz_lt (by rw [List.length_map]; omega), ?_⟩
      refine ⟨y, some (.str w), F, _, rfl, j7.put (jG.ne (B.new a lt).2.1), by
        rw [upd_ne (fun z => by have q := (B.new a lt).2.1; rw [← z, gt] at q; cases q)]
        exact b7 _ _ htj ht6, B7.sum lt w, (b6.trans b7).mut (B.new a lt).2.1, (nms_set lt (c := addS (cs.getD a c0) w) rfl).trans hn, ?_, by rw [data_setS lt]; exact hd⟩
      refine (sums_set lt w).trans ?_
      rw [List.take_succ, hw]
      exact hp.append_right _
    rintro σ' H6 ⟨y, y9, F, cs, rfl, j6, ht6, B, b6, hn, hp, hd⟩
    rw [List.length_map, List.take_length] at hp
    have K6 : Kept zs T mn 0 cs := ⟨hn, hp, (fun p hp => by rw [hd] at hp; exact absurd hp (List.not_mem_nil)), (by rw [hd]; exact Nat.le_refl 0)⟩
    have lT : 0 < (T.map V.str).length ∧ (T.map V.str).length < 1000 := by rw [List.length_map]; omega
    -- the data
    refine q_forP (P := fun n H' => (0 ≤ n ∧ n ≤ d) ∧ JarAt H' j ∧ But j H6 H') (fun QL hQ => ?_) (fun n H' p => by have := p.1; omega) (fun n i σ' H' => ∃ y10 y11 y12 F cs, σ' = [some (.ref j), some (.int m), some (.int s), some (.int d), some (.ref lb), some (.int (mn : Int)), some (.ref tg), some (.ref fo), y, y9, y10, y11, y12] ∧ n ≤ d ∧ JarAt H' j ∧ H' tg = some (.lst (T.map V.str)) ∧ Build G H' j fo cs F ∧ But j G H' ∧ Kept zs T mn i cs)
      (fun n H' p => ⟨none, none, none, F, cs, rfl, p.1.2, p.2.1, p.2.2 _ _ htj ht6, B.but p.2.2 j6, b6.trans p.2.2, K6⟩) ?_ ?_
    · refine (et_test (ev_op (ev_len (ev_var rfl) (sq_of ht6)) ev_c rv_I0)) H6 (Ex.refl H6) _ fun H7 e7 => ?_
      split
      · exact dip_ rfl (j6.ex e7) (ev_op (ev_var rfl) ev_c rv_I0) (by omega) (by omega) fun n H8 j8 b8 n0 n1 => hQ n H8 ⟨⟨n0, by omega⟩, j8, (But.ex e7).trans b8⟩
      · exact hQ 0 H7 ⟨⟨Int.le_refl 0, d0⟩, j6.ex e7, But.ex e7⟩
    · rintro n i σ' H7 hi ⟨y10, y11, y12, F, cs, rfl, hnd, j7, ht7, B, b7, Kp⟩
      refine q_par ?_
      refine oneV_ rfl j7 (ev_var rfl) ht7 htj lT.1 lT.2 fun v1 H8 hv1 j8 b8 => ?_
      refine oneV_ rfl j8 (ev_var rfl) (b8 _ _ htj ht7) htj lT.1 lT.2 fun v2 H9 hv2 j9 b9 => ?_
      obtain ⟨x1, hx1, rfl⟩ := List.mem_map.mp hv1
      obtain ⟨x2, hx2, rfl⟩ := List.mem_map.mp hv2
      refine ⟨_, _, rfl, ?_⟩
      have b89 := b8.trans b9
      have B9 := B.but b89 j7
      have ht9 := b89 _ _ htj ht7
      have lc : cs.length = mn := by
        have q := congrArg List.length Kp.nms
        rw [List.length_map, List.length_take, ok.len] at q
        omega
      refine s_when (b := !decide (V.str x1 = V.str x2)) (et_test (ev_op (ev_var rfl) (ev_var rfl) (rv_ne rfl))) (fun hb H10 e10 => ?_) (fun hb H10 e10 => ⟨_, _, _, F, cs, rfl, hnd, j9.ex e10, e10 _ _ ht9, B9.ex e10, (b7.trans b89).trans (But.ex e10), ⟨Kp.nms, Kp.sms, Kp.prs, Nat.le_succ_of_le Kp.len⟩⟩)
      have ne : x1 ≠ x2 := fun z => by rw [z] at hb; simp at hb
      have B10 := B9.ex e10
      refine recvD B10 (j9.ex e10) rfl (by rw [lc]; rfl) rfl (by omega) (by omega) fun a H11 lt j11 b11 => ?_
      have B11 := B10.but b11 (j9.ex e10)
      refine ⟨Or.inl ⟨rfl, _, sq_of (B11.dt a lt)⟩, ?_⟩
      have er : EvR (tTup (tCons (tCB (fun xs H Q => ∃ x y, xs = [V.str x, V.str y] ∧ Q (V.str (if less y x = true then y else x)) H) (tCons (tVar 11) (tCons (tVar 12) tNil))) (tCons (tCB (fun xs H Q => ∃ x y, xs = [V.str x, V.str y] ∧ Q (V.str (if less x y = true then y else x)) H) (tCons (tVar 11) (tCons (tVar 12) tNil))) tNil)))
          [some (.ref j), some (.int m), some (.int s), some (.int d), some (.ref lb), some (.int (mn : Int)), some (.ref tg), some (.ref fo), y, y9, some (.int (i : Int)), some (.str x1), some (.str x2)] H11 (pairD (if less x2 x1 then x2 else x1, if less x1 x2 then x2 else x1)) :=
        er_tup (era_cons (er_str (ev_cb (ea_cons (ev_var rfl) (ea_cons (ev_var rfl) ea_nil)) fun H12 e12 Q q => ⟨x1, x2, rfl, q H12 (Ex.refl _)⟩)) (era_cons (er_str (ev_cb (ea_cons (ev_var rfl) (ea_cons (ev_var rfl) ea_nil)) fun H12 e12 Q q => ⟨x1, x2, rfl, q H12 (Ex.refl _)⟩)) era_nil)) (Nat.le_of_ble_eq_true rfl)
      have ll := datas_le lt
      have kl := Kp.len
      have hl11 := (B11.rp a lt).len
      rw [List.length_map] at hl11
      refine er H11 (Ex.refl H11) _ fun v H12 e12 rv => ⟨(F a).2.2.1, _, v, rfl, rfl, e12 _ _ (B11.dt a lt), sz_lt (by omega), ?_⟩
      have B13 := (B11.ex e12).pair lt rv
      have nt : tg ≠ (F a).2.2.1 := fun z => by have q := (B.new a lt).2.2; rw [← z, gt] at q; cases q
      refine ⟨_, _, _, putFF F a v, _, rfl, hnd, (j11.ex e12).put (jG.ne (B.new a lt).2.2), (upd_ne nt).trans (e12 _ _ (b11 _ _ htj (e10 _ _ ht9))), B13, ((((b7.trans b89).trans (But.ex e10)).trans b11).trans (But.ex e12)).mut (B.new a lt).2.2, ?_⟩
      refine ⟨(nms_set lt (c := addD (cs.getD a c0) _) rfl).trans Kp.nms, by rw [sums_setD lt]; exact Kp.sms, fun p hp => ?_, ?_⟩
      · rcases List.mem_append.mp ((data_set lt _).mem_iff.mp hp) with h | h
        · exact Kp.prs p h
        · rw [List.mem_singleton.mp h]
          exact pair_ok hx1 hx2 ne
      · rw [(data_set lt _).length_eq, List.length_append]
        exact Nat.succ_le_succ kl
    · rintro n σ' H7 ⟨y10, y11, y12, F, cs, rfl, hnd, j7, ht7, B, b7, Kp⟩
      refine ⟨.ref j, rfl, j, rfl, j7, fun kd H8 hk b8 j8 => ⟨.ref fo, rfl, by show 2 ≤ sizeLine; decide, fun l hl => ?_⟩⟩
      exact k l kd cs fo F _ (fresh_but ((bG.trans b7).trans b8) j8 hl) (((bG.trans b7).trans b8).trans (But.ex (Ex.new hl))) (j8.ex (Ex.new hl)) (((B.but b8 j7).ex (Ex.new hl)).chart upd_same (j8.ne hl)) hk (Kp.good ok mn1 mn8 sub t1 t10 (by omega)) ⟨fun hm => ok.no (sub.subset (Kp.sms.mem_iff.mp hm)), fun c hc e => ok.no (List.mem_of_mem_take (Kp.nms ▸ List.mem_map.mpr ⟨c, hc, e⟩))⟩
end
end K08
end
section
set_option Elab.async false
set_option linter.all false
set_option maxRecDepth 100000
set_option maxHeartbeats 4000000
namespace K08
open PySem PySem.Spec PyProof.Rows L2 Evl TX
open C8 (Cal pe_c pe_gc)
def spMade (C : Addr) : Sp := fun vs H Q _ => ∃ (l : Addr) (k : Kd) (cs : List Col), vs = [.ref l] ∧ Chart H l k cs ∧ k.ok ∧ Good cs ∧ ∀ a H', H a = none → Ex H H' → TabAt H' C a k cs → Q (.ref a) H'
theorem make_ {C : Addr} {sp : Sp} {dvs : List V} {E : XK} {t : TA} {σ : L2.St} {H : Hp} {Q : VK} (h : t σ H fun vs H1 => ∀ x dx, H1 x = none → H1 dx = none → dx ≠ x → sp (.ref x :: (vs ++ dvs)) (upd (upd H1 dx (.own x)) x (.ins C dx [])) (fun v H2 => v = .non ∧ Q (.ref x) H2) E) : tMake C sp dvs E t σ H Q := h
section
variable {P : Program} {w : World} {K : PySem.W.Frag} {mg : Str → Option Value} {base : Heap} {f : Addr} {fd : FuncData}
abbrev sc_law_made_N : List Str := ["_law_chart_here", "_law_label", "_law_tags_here", "_law_pairs", "_law_columns_here"]
theorem sc_law_made : FnScope sc_law_made_N ["_law_chart_here"] (defScope s_law_made) := ⟨rfl, rfl, rfl, by decide +kernel, rfl, by decide +kernel, by decide +kernel⟩
theorem ok_made (F : FnP K "_law_made" s_law_made f fd) (T : Tops mg) {C : Addr} (M_Table : C8.Mak P w K mg base 5 "Table" C (tSp C) [])  : FnOk P w K mg base CX0 7 f fd ["_law_chart_here"] (spMade C) := by
  refine F.ok sc_law_made (fun vs H Q E h => ?_) (fun cdv A outer s H vs Q E hr h => ?_)
  · obtain ⟨l, kd, cs, rfl, _⟩ := h; rfl
  · obtain ⟨l, kd, cs, rfl, ⟨j, fa, F, ch⟩, hk, G, k⟩ := h
    refine ⟨_, PSs.nox (pss_cons (ps_setLc (i := 4) (own := [("_law_label", 1), ("_law_tags_here", 2), ("_law_pairs", 3)]) (g := gLst K 3 (gCons (gName 1) (gCons (gName 2) (gCons (gName 3) gNil)))) (tt := tYes) rfl sc_law_made.nd rfl rfl (sw_true rfl rfl rfl (by decide +kernel)) (pi_list (pe_ix (ix_seq : IxR _ (rIx K)) (pv 0) pe_int (fun _ _ => rfl))) (blkOk_by (own := [("_law_label", 1), ("_law_tags_here", 2), ("_law_pairs", 3)]) (N := sc_law_made_N) (sc := defScope s_law_made) (by decide +kernel)) (fun _ _ _ _ _ => (pg_lst rfl (pgs_cons (pg_name (i := 1) sc_law_made.nd rfl (.inl rfl)) (pgs_cons (pg_name (i := 2) sc_law_made.nd rfl (.inl rfl)) (pgs_cons (pg_name (i := 3) sc_law_made.nd rfl (.inl rfl)) pgs_nil))))) (fun _ _ _ _ _ => pts_nil) (fun _ _ _ _ _ => (pe_tup (pa_cons (pv 1) (pa_cons (pe_callTy (call_tuple_of : CallR _ (.type "tuple") (rTupS K)) (by rfl) T.n_tuple (by decide +kernel) (pa_cons (pv 2) pa_nil)) (pa_cons (pe_callTy (call_tuple_of : CallR _ (.type "tuple") (rTupS K)) (by rfl) T.n_tuple (by decide +kernel) (pa_cons (pv 3) pa_nil)) pa_nil))))))
  (pss_one (ps_ret (C8.pe_mk M_Table hr (by decide) rfl (pa_cons (pe_ix (ix_seq : IxR _ (rIx K)) (pv 0) pe_int (fun _ _ => rfl)) (pa_cons (pe_callTy (call_tuple_of : CallR _ (.type "tuple") (rTupS K)) (by rfl) T.n_tuple (by decide +kernel) (pa_cons (pv 4) pa_nil)) pa_nil)))))), ?_⟩
    have l8 := G.len
    have s1 := es_lcL1 (K := K) (te := tTup (tCons (tVar 1) (tCons (tCB (rTupS K) (tCons (tVar 2) tNil)) (tCons (tCB (rTupS K) (tCons (tVar 3) tNil)) tNil)))) (g := gLst K 3 (gCons (gName 1) (gCons (gName 2) (gCons (gName 3) gNil)))) (vs := [1, 2, 3]) (tl := tOp (rIx K) (tVar 0) (tC (.int 1))) (σ := [some (.ref l), none, none, none, none]) (H := H) (a := fa) (xs := (List.range cs.length).map fun i => V.ref (F i).1)
      (ev_op (ev_var rfl) ev_c (rv_ixA (.inl ch.hl) at_one)) ch.hf (by rw [List.length_map, List.length_range]; omega) (fun i => [some (.ref l), some (.str (cs.getD i c0).nm), some (.ref (F i).2.1), some (.ref (F i).2.2.1), none]) (fun i => colD (cs.getD i c0)) (fun _ _ => rfl)
      (fun i x H5 R hx e5 q => by
        obtain ⟨lt, rfl⟩ := rng_at hx
        exact gl_three (K := K) (e5 _ _ (ch.col i lt)) q) (fun i x H5 hx e5 => by
        obtain ⟨lt, rfl⟩ := rng_at hx
        have c5 := ch.ex e5
        exact er_tup (era_cons (er_str (ev_var rfl)) (era_cons (er_tupleQ (eq_var rfl (c5.sm i lt) (Reps.ofStrs _))) (era_cons (er_tupleQ (eq_var rfl (c5.dt i lt) (c5.rp i lt))) era_nil))) (Nat.le_of_ble_eq_true rfl))
    rw [List.length_map, List.length_range, rg colD c0 cs] at s1
    refine q_asgS s1 fun p xs H1 hp e1 h1 r1 => ?_
    have c1 := ch.ex e1
    have et : EvR (tCB (rTupS K) (tCons (tVar 4) tNil)) [some (.ref l), none, none, none, some (.ref p)] H1 (colsD cs) := er_tupleQ (eq_var rfl h1 r1)
    refine ret_ ?_
    refine make_ (cons_ (ev_ (ev_op (ev_var rfl) ev_c (rv_ixA (.inl c1.hl) at_zero)) fun H2 e2 => cons_ (et H2 e2 _ fun v H3 e3 rv => nil_ (fun x dx hx hdx ne => ?_))))
    have e4 : Ex H3 (upd (upd H3 dx (.own x)) x (.ins C dx [])) := (Ex.new hdx).trans (Ex.new (by rw [upd_ne ne.symm]; exact hx))
    refine ⟨x, dx, kd, v, cs, rfl, hk, rv.ex e4, G, upd_same, fun H5 b5 tab => ⟨rfl, k x H5 (fresh_back ((e1.trans e2).trans e3) hx) (fun b o hb => ?_) tab⟩⟩
    have hb3 := ((e1.trans e2).trans e3) _ _ hb
    exact b5 b o (fun z => by rw [z, hx] at hb3; cases hb3) (e4 _ _ hb3)
end
end K08
end
section
set_option Elab.async false
set_option linter.all false
set_option maxRecDepth 100000
set_option maxHeartbeats 4000000
namespace K08
open PySem PySem.Spec PyProof.Rows L2 Evl TX
open C8 (Cal pe_c pe_gc)
/-- whether a cell is a datum -/
def isDat : PyData → Bool
  | .tuple [.str a, .int _] => decide (V.str a = .str "datum")
  | .tuple [.str a, .str _] => decide (V.str a = .str "datum")
  | _ => false
theorem dat_sum (s : Str) : isDat (sumC s) = false := by show decide (V.str "sum" = V.str "datum") = false; decide +kernel
theorem dat_dat (n : Int) : isDat (datC n) = true := by show decide (V.str "datum" = V.str "datum") = true; decide +kernel
theorem range_split (a b : Nat) : List.range (a + b) = List.range a ++ (List.range b).map fun j => a + j := by
  rw [List.range_eq_range', List.range_eq_range', List.range_eq_range', ← List.range'_append_1]
  congr 1
  rw [List.map_add_range']
  simp
theorem dat_cells (cs : List Col) : ∀ i, i ≤ cs.length → ((List.range i).flatMap (cellsAt cs)).filter isDat = (List.range (dataOf (cs.take i)).length).map fun n : Nat => datC (n : Int)
  | 0, _ => rfl
  | i + 1, h => by
    have lt : i < cs.length := h
    rw [List.range_succ, List.flatMap_append, List.filter_append, dat_cells cs i (Nat.le_of_succ_le h), data_take cs i _ (getc lt), List.length_append, range_split, List.map_append]
    congr 1
    have e : [i].flatMap (cellsAt cs) = cellsAt cs i := by simp
    rw [e]
    unfold cellsAt cellsC
    rw [List.filter_append]
    have e1 : ((cs.getD i c0).sums.map sumC).filter isDat = [] := List.filter_eq_nil_iff.mpr fun d hd => by
      obtain ⟨s, _, rfl⟩ := List.mem_map.mp hd
      rw [dat_sum]
      decide
    have e2 : ((List.range (cs.getD i c0).data.length).map fun j : Nat => datC (firstOf cs i + (j : Int))).filter isDat = (List.range (cs.getD i c0).data.length).map fun j : Nat => datC (firstOf cs i + (j : Int)) := List.filter_eq_self.mpr fun d hd => by
      obtain ⟨j, _, rfl⟩ := List.mem_map.mp hd
      exact dat_dat _
    rw [e1, e2, List.nil_append, List.map_map]
    refine List.map_congr_left fun j _ => ?_
    show datC (firstOf cs i + (j : Int)) = datC (((dataOf (cs.take i)).length + j : Nat) : Int)
    unfold firstOf
    rw [Int.natCast_add]
end K08
end
section
set_option Elab.async false
set_option linter.all false
set_option maxRecDepth 100000
set_option maxHeartbeats 4000000
namespace K08
open PySem PySem.Spec PyProof.Rows L2 Evl TX
open C8 (Cal pe_c pe_gc)
section
variable {P : Program} {w : World} {K : PySem.W.Frag} {mg : Str → Option Value} {base : Heap} {f : Addr} {fd : FuncData}
end
end K08
end
section
set_option Elab.async false
set_option linter.all false
set_option maxRecDepth 100000
set_option maxHeartbeats 4000000
namespace K08
open PySem PySem.Spec PyProof.Rows L2 Evl TX
open C8 (Cal pe_c pe_gc)
def bd (d : PyData) : Int := if isDat d = true then b30 else b32
section
variable {P : Program} {w : World} {K : PySem.W.Frag} {mg : Str → Option Value} {base : Heap} {f : Addr} {fd : FuncData}
variable {C : Addr}
end
end K08
end
section
set_option Elab.async false
set_option linter.all false
set_option maxRecDepth 100000
set_option maxHeartbeats 4000000
namespace K08
open PySem PySem.Spec PyProof.Rows L2 Evl TX
open C8 (Cal pe_c pe_gc)
end K08
end
section
set_option Elab.async false
set_option linter.all false
set_option maxRecDepth 100000
set_option maxHeartbeats 4000000
namespace K08
open PySem PySem.Spec PyProof.Rows L2 Evl TX
open C8 (Cal pe_c pe_gc)
end K08
end
section
set_option Elab.async false
set_option linter.all false
set_option maxRecDepth 100000
set_option maxHeartbeats 4000000
namespace K08
open PySem PySem.Spec PyProof.Rows L2 Evl TX
open C8 (Cal pe_c pe_gc)
open RP GL
theorem TabAt.but {H H' : Hp} {C a j : Addr} {k : Kd} {cs : List Col} (t : TabAt H C a k cs) (b : But j H H') (x : JarAt H j) : TabAt H' C a k cs := by
  have tx := b.tx x
  obtain ⟨p, q, r, hj⟩ := x
  have off : ∀ {c : Addr} {o : HO}, H c = some o → (∀ xs, o ≠ .lst xs) → H' c = some o := fun e n => b _ _ (fun z => by rw [z, hj] at e; cases e; exact n _ rfl) e
  obtain ⟨dx, v1, v2, v3, v4, v6, v9, p5, q7, kvs, h0, h1, h2, h3, h4, ⟨zs, c1, c2⟩, ⟨a6, o6, x6, g1, g2, g3, g4, g5⟩, h7, h9⟩ := t.ex
  exact ⟨dx, v1, v2, v3, v4, v6, v9, p5, q7, kvs, off h0 (fun _ z => nomatch z), h1.on tx, h2.on tx, h3.on tx, h4.on tx, ⟨zs, off c1 (fun _ z => nomatch z), c2.on tx⟩, ⟨a6, o6, x6, g1, off g2 (fun _ z => nomatch z), g3, g4, g5.on tx⟩, off h7 (fun _ z => nomatch z), h9.on tx⟩
theorem ChartAt.but {H H' : Hp} {j l f : Addr} {k : Kd} {cs : List Col} {F : Nat → Addr × Addr × Addr × List V} (c : ChartAt H j l k cs f F) (b : But j H H') (x : JarAt H j) : ChartAt H' j l k cs f F :=
  ⟨b _ _ c.off.1 c.hl, b _ _ c.off.2.1 c.hf, fun i h => b _ _ (c.off.2.2 i h).1 (c.col i h), fun i h => b _ _ (c.off.2.2 i h).2.1 (c.sm i h), fun i h => b _ _ (c.off.2.2 i h).2.2 (c.dt i h), fun i h => (c.rp i h).on (b.tx x), c.off⟩
section
variable {K : PySem.W.Frag} {σ : L2.St} {H H' : Hp} {te tb : TE} {ds : List PyData} {d : PyData} {v z : V} {D : Ends} {tu tz : TS}
/-- repr of a new list of data -/
theorem ev_reprS (h : EvS te σ H ds) (s : (PyData.list ds).showable = true ∧ (PyData.list ds).depth ≤ 60 ∧ (PyData.list ds).hasDict = false ∧ (PyData.list ds).shown.length ≤ sizeLine) : Ev (tCB (rRepr K) (tCons te tNil)) σ H (.str (PyData.list ds).shown) := fun H1 a Q q =>
  h H1 a _ fun p xs H2 _ b hp rs => ⟨.ref p, .list ds, rfl, .dp (.lst (sq_of hp) rs.dp) s.2.2.1, s.1, s.2.1, s.2.2.2, q H2 b⟩
end
end K08
end
section
set_option Elab.async false
set_option linter.all false
set_option maxRecDepth 100000
set_option maxHeartbeats 4000000
namespace K08
open PySem PySem.Spec PyProof.Rows L2 Evl TX
open C8 (Cal pe_c pe_gc)
/-! ### what is put together: sums of rows -/
def tog2 (k : Kd) (x y : Int) : Int := tog k [x, y]
/-- two rows put together -/
def both (k : Kd) (n : Nat) (a b : Nat → Int) : List Int := (List.range n).map fun i => tog2 k (a i) (b i)
/-! ### one datum changed -/
def one1 (n a : Nat) : List Int := (List.range n).map fun j => if j = a then 1 else 0
end K08
end
section
set_option Elab.async false
set_option linter.all false
set_option maxRecDepth 100000
set_option maxHeartbeats 4000000
namespace K08
open PySem PySem.Spec PyProof.Rows L2 Evl TX
open C8 (Cal pe_c pe_gc)
open PyData
open PySem.Builtin.Str (reprChar)
theorem sum_cells (cs : List Col) : ∀ i, i ≤ cs.length → ((List.range i).flatMap (cellsAt cs)).filter (fun d => !isDat d) = (sumsOf (cs.take i)).map sumC
  | 0, _ => rfl
  | i + 1, h => by
    have lt : i < cs.length := h
    rw [List.range_succ, List.flatMap_append, List.filter_append, sum_cells cs i (Nat.le_of_succ_le h), sums_take cs i _ (getc lt), List.map_append]
    congr 1
    have e : [i].flatMap (cellsAt cs) = cellsAt cs i := by simp
    rw [e]
    unfold cellsAt cellsC
    rw [List.filter_append]
    have e1 : ((cs.getD i c0).sums.map sumC).filter (fun d => !isDat d) = (cs.getD i c0).sums.map sumC := List.filter_eq_self.mpr fun d hd => by
      obtain ⟨s, _, rfl⟩ := List.mem_map.mp hd
      rw [dat_sum]
      rfl
    have e2 : ((List.range (cs.getD i c0).data.length).map fun j : Nat => datC (firstOf cs i + (j : Int))).filter (fun d => !isDat d) = [] := List.filter_eq_nil_iff.mpr fun d hd => by
      obtain ⟨j, _, rfl⟩ := List.mem_map.mp hd
      rw [dat_dat]
      decide
    rw [e1, e2, List.append_nil]
/-! ### cells, shown and compared -/
def SgOk (x : Str) : Prop := ∀ c ∈ x.cps.toList, c < 0x110000
theorem SgOk.app {x y : Str} (h : SgOk x) (g : SgOk y) : SgOk (x ++ y) := fun c hc => by
  have e : (x ++ y).cps = x.cps ++ y.cps := rfl
  rw [e, Array.toList_append] at hc
  rcases List.mem_append.mp hc with z | z
  · exact h c z
  · exact g c z
theorem SgOk.strOk {x : Str} (h : SgOk x) : PyData.strOk x = true := by
  unfold PyData.strOk
  rw [Array.all_eq_true']
  intro c hc
  exact decide_eq_true (h c (Array.mem_toList_iff.mpr hc))
theorem name_sg {z : Str} (h : isName z = true) : ∀ c ∈ z.cps.toList, 97 ≤ c ∧ c ≤ 122 := fun c hc => of_decide_eq_true (List.all_eq_true.mp (Bool.and_eq_true_iff.mp h).2 c hc)
theorem chars_ok : ∀ q ∈ [34, 39], ∀ c, c < 123 → 97 ≤ c → ∀ d ∈ reprChar q c, d < 0x110000 := by decide +kernel
theorem repr_sg {z : Str} (h : isName z = true) : SgOk (reprText z) := by
  have hq : reprQuote z ∈ [34, 39] := by unfold reprQuote; split <;> decide
  have q39 : reprQuote z < 0x110000 := by unfold reprQuote; split <;> decide
  have hn := name_sg h
  have go : ∀ (l : List Nat) (acc : Array Nat), (∀ c ∈ l, 97 ≤ c ∧ c ≤ 122) → (∀ d ∈ acc.toList, d < 0x110000) → ∀ d ∈ (l.foldl (fun out c => out ++ (reprChar (reprQuote z) c).toArray) acc).toList, d < 0x110000 := by
    intro l
    induction l with
    | nil => intro acc _ ha; exact ha
    | cons c r ih =>
      intro acc hc ha
      rw [List.foldl_cons]
      refine ih _ (fun x hx => hc x (List.mem_cons_of_mem _ hx)) fun d hd => ?_
      rw [Array.toList_append] at hd
      rcases List.mem_append.mp hd with z1 | z1
      · exact ha d z1
      · have := hc c (List.mem_cons_self ..)
        exact chars_ok _ hq c (by omega) this.1 d (by simpa using z1)
  intro c hc
  unfold reprText at hc
  have ef := Array.foldl_toList (fun (out : Array Nat) c => out ++ (reprChar (reprQuote z) c).toArray) (init := #[reprQuote z]) (xs := z.cps)
  rw [Array.toList_push, ← ef] at hc
  rcases List.mem_append.mp hc with z1 | z1
  · exact go _ _ hn (fun d hd => by
      have e : d = reprQuote z := by simpa using hd
      rw [e]
      exact q39) c z1
  · rw [List.mem_singleton.mp z1]; exact q39
theorem repr_len {z : Str} (h : isName z = true) : (reprText z).length ≤ 82 := by
  have q := StrLaws.reprText_len z fun c hc => Nat.lt_of_le_of_lt (name_sg h c hc).2 (by decide)
  have := name_len h
  omega
theorem num_sg : ∀ n : Nat, n < 24 → (Str.ofString (toString (n : Int))).cps.toList.all (fun c => decide (c < 0x110000)) = true ∧ (Str.ofString (toString (n : Int))).length ≤ 2 := by decide +kernel
theorem word_sg : SgOk (reprText "sum") ∧ SgOk (reprText "datum") ∧ (reprText "sum").length ≤ 82 ∧ (reprText "datum").length ≤ 82 := ⟨repr_sg (by decide +kernel), repr_sg (by decide +kernel), repr_len (by decide +kernel), repr_len (by decide +kernel)⟩
theorem pair_text (a b : Str) : tupleText [a, b] = ((("(" : Str) ++ Str.join ", " [a, b]) ++ (")" : Str)) := rfl
theorem two_text {a b : Str} (ha : SgOk a) (hb : SgOk b) (la : a.length ≤ 82) (lb : b.length ≤ 82) : SgOk (tupleText [a, b]) ∧ (tupleText [a, b]).length ≤ 200 := by
  refine ⟨?_, ?_⟩
  · rw [pair_text]
    have e : Str.join ", " [a, b] = (a ++ (", " : Str)) ++ b := rfl
    rw [e]
    exact ((SgOk.app (fun c hc => by revert c; decide +kernel) ((ha.app (fun c hc => by revert c; decide +kernel)).app hb)).app (fun c hc => by revert c; decide +kernel))
  · have q := tupleText_len_le [a, b]
    simp only [List.map_cons, List.map_nil, List.sum_cons, List.sum_nil, List.length_cons, List.length_nil] at q
    omega
structure CellOk (d : PyData) : Prop where
  sh : d.showable = true ∧ d.depth ≤ 60 ∧ d.hasDict = false ∧ d.shown.length ≤ 200
  sg : SgOk d.shown
  lay : d.canLay0 = true ∧ d.depth ≤ 1
theorem cell_ok {cs : List Col} (G : Good cs) {d : PyData} (h : isCell cs d) : CellOk d := by
  rcases h with ⟨s, rfl, hs⟩ | ⟨n, rfl, n0, n1⟩
  · have hn := sum_name G hs
    have e : (sumC s).shown = tupleText [reprText "sum", reprText s] := by
      unfold sumC
      rw [PyData.shown, PyData.shownAll, PyData.shownAll, PyData.shownAll, PyData.shown, PyData.shown]
    have q := two_text word_sg.1 (repr_sg hn) word_sg.2.2.1 (repr_len hn)
    have st : PyData.strOk s = true := SgOk.strOk fun c hc => by have := name_sg hn c hc; omega
    refine ⟨⟨?_, ?_, ?_, by rw [e]; exact q.2⟩, by rw [e]; exact q.1, ?_, ?_⟩
    · unfold sumC; rw [PyData.showable, PyData.showableAll, PyData.showableAll, PyData.showableAll, PyData.showable, PyData.showable]; rfl
    · unfold sumC; rw [PyData.depth, PyData.depthAll, PyData.depthAll, PyData.depthAll, PyData.depth, PyData.depth]; decide
    · unfold sumC; rw [PyData.hasDict, PyData.hasDictAll, PyData.hasDictAll, PyData.hasDictAll, PyData.hasDict, PyData.hasDict]; rfl
    · unfold sumC; rw [PyData.canLay0, PyData.canLayAll0, PyData.canLayAll0, PyData.canLayAll0, PyData.canLay0, PyData.canLay0, st]; decide +kernel
    · unfold sumC; rw [PyData.depth, PyData.depthAll, PyData.depthAll, PyData.depthAll, PyData.depth, PyData.depth]; decide
  · obtain ⟨m, rfl⟩ := Int.eq_ofNat_of_zero_le n0
    have m24 : m < 24 := by have := G.dlen; rw [Int.toNat_natCast] at n1; omega
    have e : (datC (m : Int)).shown = tupleText [reprText "datum", Str.ofString (toString (m : Int))] := by
      unfold datC
      rw [PyData.shown, PyData.shownAll, PyData.shownAll, PyData.shownAll, PyData.shown, PyData.shown]
    have nn := num_sg m m24
    have q := two_text word_sg.2.1 (fun c hc => of_decide_eq_true (List.all_eq_true.mp nn.1 c hc)) word_sg.2.2.2 (Nat.le_trans nn.2 (by decide))
    have lg : decide ((m : Int).natAbs.log2 < 1920) = true := by
      refine decide_eq_true ?_
      rw [Int.natAbs_natCast]
      by_cases z : m = 0
      · rw [z]; decide
      · exact Nat.lt_trans ((Nat.log2_lt z).mpr (Nat.lt_trans m24 (by decide : 24 < 2 ^ 5))) (by decide)
    refine ⟨⟨?_, ?_, ?_, by rw [e]; exact q.2⟩, by rw [e]; exact q.1, ?_, ?_⟩
    · unfold datC; rw [PyData.showable, PyData.showableAll, PyData.showableAll, PyData.showableAll, PyData.showable, PyData.showable, lg]; rfl
    · unfold datC; rw [PyData.depth, PyData.depthAll, PyData.depthAll, PyData.depthAll, PyData.depth, PyData.depth]; decide
    · unfold datC; rw [PyData.hasDict, PyData.hasDictAll, PyData.hasDictAll, PyData.hasDictAll, PyData.hasDict, PyData.hasDict]; rfl
    · unfold datC; rw [PyData.canLay0, PyData.canLayAll0, PyData.canLayAll0, PyData.canLayAll0, PyData.canLay0, PyData.canLay0]; decide +kernel
    · unfold datC; rw [PyData.depth, PyData.depthAll, PyData.depthAll, PyData.depthAll, PyData.depth, PyData.depth]; decide
theorem eqv_self_cell {cs : List Col} {d : PyData} (h : isCell cs d) : PyData.eqv d d = true := by
  rcases h with ⟨s, rfl, _⟩ | ⟨n, rfl, _, _⟩
  · unfold sumC; simp [PyData.eqv, PyData.eqvAll]
  · unfold datC; simp [PyData.eqv, PyData.eqvAll]
/-- lists of texts compared -/
theorem lay_strs : ∀ {ss : List Str}, (∀ s ∈ ss, SgOk s) → PyData.canLayAll0 (ss.map PyData.str) = true ∧ PyData.depthAll (ss.map PyData.str) = 0
  | [], _ => ⟨by rw [List.map_nil, PyData.canLayAll0], by rw [List.map_nil, PyData.depthAll]⟩
  | s :: r, h => by
    have q := lay_strs (ss := r) fun x hx => h x (List.mem_cons_of_mem _ hx)
    have st := (h s (List.mem_cons_self ..)).strOk
    refine ⟨?_, ?_⟩
    · rw [List.map_cons, PyData.canLayAll0, PyData.canLay0, q.1, st]; rfl
    · rw [List.map_cons, PyData.depthAll, PyData.depth, q.2]; rfl
theorem shaped_strs {ss : List Str} (h : ∀ s ∈ ss, SgOk s) : SeqAt.shaped (.list (ss.map PyData.str)) = true := by
  unfold SeqAt.shaped
  rw [PyData.canLay0, (lay_strs h).1, PyData.depth, (lay_strs h).2]
  decide
theorem eqvAll_strs : ∀ ss : List Str, PyData.eqvAll (ss.map PyData.str) (ss.map PyData.str) = true
  | [] => by rw [List.map_nil, PyData.eqvAll]
  | s :: r => by rw [List.map_cons, PyData.eqvAll, eqvAll_strs r, PyData.eqv]; simp
theorem eqv_strs (ss : List Str) : PyData.eqv (.list (ss.map PyData.str)) (.list (ss.map PyData.str)) = true := by rw [PyData.eqv]; exact eqvAll_strs ss
theorem lay_cells : ∀ {ds : List PyData}, (∀ d ∈ ds, CellOk d) → PyData.canLayAll0 ds = true ∧ PyData.depthAll ds ≤ 1
  | [], _ => ⟨by rw [PyData.canLayAll0], by rw [PyData.depthAll]; decide⟩
  | d :: r, h => by
    have q := lay_cells (ds := r) fun x hx => h x (List.mem_cons_of_mem _ hx)
    have l := (h d (List.mem_cons_self ..)).lay
    refine ⟨?_, ?_⟩
    · rw [PyData.canLayAll0, q.1, l.1]; rfl
    · rw [PyData.depthAll]; exact Nat.max_le.mpr ⟨l.2, q.2⟩
end K08
end
section
set_option Elab.async false
set_option linter.all false
set_option maxRecDepth 100000
set_option maxHeartbeats 4000000
namespace K08
open PySem PySem.Spec PyProof.Rows L2 Evl TX
open C8 (Cal pe_c pe_gc)
open RP
section
variable {K : PySem.W.Frag} {H : Hp} {a b : Addr} {xs ys : List V} {lo hi : Option Int} {Q : VK}
end
end K08
end
section
set_option Elab.async false
set_option linter.all false
set_option maxRecDepth 100000
set_option maxHeartbeats 4000000
namespace K08
open PySem PySem.Spec PyProof.Rows L2 Evl TX
open C8 (Cal pe_c pe_gc)
open RP GL
section
variable {K : PySem.W.Frag} {σ : L2.St} {H H' : Hp} {ta tb te tu : TE} {ds es : List PyData} {d e : PyData} {v z : V} {D : Ends} {tz : TS} {g : TG} {t : TA}
theorem q_tupO (h : t σ H fun xs H1 => xs.length ≤ sizeLine ∧ ∀ p, H1 p = none → g (.ref p) σ (upd H1 p (.tup xs)) fun σ2 H2 => tz D σ2 H2) : tSeq (tAsg (tTup t) g) tz D σ H := h
theorem ev_neS (ha : EvS ta σ H ds) (hb : EvS tb σ H es) (sd : SeqAt.shaped (.list ds) = true) (se : SeqAt.shaped (.list es) = true) : Ev (tOp (rNeD K) ta tb) σ H (.bl (!PyData.eqv (.list ds) (.list es))) := fun H1 e Q q =>
  ha H1 e _ fun p xs H2 hp e2 hx rx => hb H2 (e.trans e2) _ fun r ys H3 hr e3 hy ry => ⟨.list ds, .list es, .lst (sq_of (e3 _ _ hx)) (rx.ex e3).dp, .lst (sq_of hy) ry.dp, sd, se, q H3 (e2.trans e3)⟩
end
end K08
end
section
set_option Elab.async false
set_option linter.all false
set_option maxRecDepth 100000
set_option maxHeartbeats 4000000
namespace K08
open PySem PySem.Spec PyProof.Rows L2 Evl TX
open C8 (Cal pe_c pe_gc)
open RP GL
def types7 : List String := ["NoneType", "bool", "int", "str", "list", "tuple", "dict"]
/-- a value whose type is known from here on -/
def TyA (K : PySem.W.Frag) (H : Hp) (v : V) (t : String) : Prop := t ∈ types7 ∧ ∀ H1, Ex H H1 → TyOf K H1 v (.type t)
theorem TyA.ex {K : PySem.W.Frag} {H H' : Hp} {v : V} {t : String} (h : TyA K H v t) (e : Ex H H') : TyA K H' v t := ⟨h.1, fun H1 e1 => h.2 H1 (e.trans e1)⟩
theorem TyA.int {K : PySem.W.Frag} {H : Hp} {v : V} (h : TyA K H v "int") : ∃ i, v = .int i := by
  have q := h.2 H (Ex.refl H)
  generalize hu : Value.type "int" = u at q
  cases q with
  | int i => exact ⟨i, rfl⟩
  | non => exact absurd hu (by decide)
  | bl b => exact absurd hu (by decide)
  | str x => exact absurd hu (by decide)
  | flt x => exact absurd hu (by decide)
  | lst e => exact absurd hu (by decide)
  | frz e => exact absurd hu (by decide)
  | tup e => exact absurd hu (by decide)
  | dK e => exact absurd hu (by decide)
  | dT e => exact absurd hu (by decide)
  | ins e => exact nomatch hu
theorem TyA.noInt {K : PySem.W.Frag} {H : Hp} {i : Int} {t : String} (h : TyA K H (.int i) t) : t = "int" := by
  have q := h.2 H (Ex.refl H)
  generalize hu : Value.type t = u at q
  cases q
  injection hu
theorem kit7 : ∀ t ∈ types7, kitB t "int" = some (t == "int" || t == "bool") ∧ kitB t "bool" = some (t == "bool") ∧ kitB t "str" = some (t == "str") ∧ kitB t "tuple" = some (t == "tuple") := by decide +kernel
def rIntA (K : PySem.W.Frag) : List V → Hp → V → Prop := fun vs H z => ∃ (v : V) (t : String), vs = [v] ∧ TyA K H v t ∧ z = .bl (decide (t = "int"))
def inB (v : V) (l h : Int) : Bool := match v with
  | .int i => decide (l ≤ i) && decide (i ≤ h)
  | _ => false
def rBetwA (K : PySem.W.Frag) : List V → Hp → V → Prop := fun vs H z => ∃ (v : V) (l h : Int) (t : String), vs = [v, .int l, .int h] ∧ TyA K H v t ∧ z = .bl (inB v l h)
section
variable {P : Program} {w : World} {K : PySem.W.Frag} {mg : Str → Option Value} {base : Heap} {f : Addr} {fd : FuncData}
theorem oka_int (F : FnP K "is_integer" s_is_integer f fd) (T : Tops mg)  : FnOk P w K mg base CX0 1 f fd ["value"] (pSp (rIntA K)) := by
  refine F.ok sc_is_integer (fun vs H Q E h => ?_) (fun cdv A outer s H vs Q E hr h => ?_)
  · obtain ⟨z, ⟨v, t, rfl, _⟩, _⟩ := h; rfl
  · obtain ⟨z, ⟨v, t, rfl, ty, rfl⟩, k⟩ := h
    refine ⟨_, PSs.nox (pss_one (ps_ret (pe_and (pe_callB call_isi (by rfl) T.n_isinstance (by decide +kernel) (pa_cons (pv 0) (pa_cons (pe_bltn (v := .ty "int") (by rfl) T.n_int (by decide +kernel) rfl) pa_nil))) (pe_one (pe_not (pe_callB call_isi (by rfl) T.n_isinstance (by decide +kernel) (pa_cons (pv 0) (pa_cons (pe_bltn (v := .ty "bool") (by rfl) T.n_bool (by decide +kernel) rfl) pa_nil)))))))), ?_⟩
    obtain ⟨k1, k2, _⟩ := kit7 t ty.1
    refine s_ret (v := .bl (decide (t = "int"))) (ev_is (ev_andV (ev_isi (K := K) (t := t) (u := "int") (b := (t == "int" || t == "bool")) (ev_var rfl) ev_c ty.2 k1) fun _ => ev_notV (ev_isi (K := K) (t := t) (u := "bool") (b := (t == "bool")) (ev_var rfl) ev_c ty.2 k2)) ?_) fun H1 e1 => k H1 e1
    have : ∀ t ∈ types7, ((t == "int" || t == "bool") && !(t == "bool")) = decide (t = "int") := by decide +kernel
    rw [this t ty.1]
theorem oka_betw (F : FnP K "is_between" s_is_between f fd) (T : Tops mg) (CA_is_integer : Cal P w K mg base 1 "is_integer" (pSp (rIntA K)) []) : FnOk P w K mg base CX0 2 f fd ["value", "low", "high"] (pSp (rBetwA K)) := by
  refine F.ok sc_is_between (fun vs H Q E h => ?_) (fun cdv A outer s H vs Q E hr h => ?_)
  · obtain ⟨z, ⟨v, l, m, t, rfl, _⟩, _⟩ := h; rfl
  · obtain ⟨z, ⟨v, l, m, t, rfl, ty, rfl⟩, k⟩ := h
    refine ⟨_, PSs.nox (pss_one (ps_ret (pe_and (pe_c CA_is_integer hr (by decide) rfl (pa_cons (pv 0) pa_nil)) (pe_one (pe_chain op_le op_le (pv 1) (pv 0) (pv 2)))))), ?_⟩
    by_cases c : t = "int"
    · subst c
      obtain ⟨i, rfl⟩ := ty.int
      exact s_ret (ev_is (ev_andV (a := true) (b := decide (l ≤ i) && decide (i ≤ m)) (ev_pc (R := rIntA K) (z := .bl true) (ea_cons (ev_var rfl) ea_nil) fun H1 e1 => ⟨.int i, "int", rfl, ty.ex e1, by rw [decide_eq_true rfl]⟩) fun _ => ev_chain (ev_var rfl) (ev_var rfl) (ev_var rfl) rv_I0 fun _ => rv_I0) rfl) fun H1 e => k H1 e
    · have e : inB v l m = false := by
        cases v with
        | int i => exact absurd ty.noInt c
        | _ => rfl
      exact s_ret (ev_is (ev_andV (a := false) (b := false) (ev_pc (R := rIntA K) (z := .bl false) (ea_cons (ev_var rfl) ea_nil) fun H1 e1 => ⟨v, t, rfl, ty.ex e1, by rw [decide_eq_false c]⟩) fun z => nomatch z) (by rw [e]; rfl)) fun H1 e => k H1 e
end
end K08
end
section
set_option Elab.async false
set_option linter.all false
set_option maxRecDepth 100000
set_option maxHeartbeats 4000000
namespace K08
open PySem PySem.Spec PyProof.Rows L2 Evl TX
open C8 (Cal pe_c pe_gc)
open RP GL XV
def okA (k : Kd) (v : V) (b : Int) : Bool := match v with
  | .int i => okV k i b
  | _ => false
/-- a value, nothing of it the list j -/
inductive AnyJ (j : Addr) (H : Hp) : V → String → Prop
  | non : AnyJ j H .non "NoneType"
  | bl (b : Bool) : AnyJ j H (.bl b) "bool"
  | int (i : Int) : AnyJ j H (.int i) "int"
  | str (x : Str) : AnyJ j H (.str x) "str"
  | tup {a : Addr} {xs : List V} : H a = some (.tup xs) → AnyJ j H (.ref a) "tuple"
  | lst {a : Addr} {xs : List V} : a ≠ j → H a = some (.lst xs) → AnyJ j H (.ref a) "list"
  | dK {a : Addr} {kvs : List (Key × V)} : H a = some (.dK kvs) → AnyJ j H (.ref a) "dict"
theorem AnyJ.ty {K : PySem.W.Frag} {j : Addr} {H : Hp} {v : V} {t : String} (h : AnyJ j H v t) : TyA K H v t := by
  cases h with
  | non => exact ⟨by decide, fun _ _ => .non⟩
  | bl b => exact ⟨by decide, fun _ _ => .bl b⟩
  | int i => exact ⟨by decide, fun _ _ => .int i⟩
  | str x => exact ⟨by decide, fun _ _ => .str x⟩
  | tup h => exact ⟨by decide, fun _ e => .tup (e _ _ h)⟩
  | lst _ h => exact ⟨by decide, fun _ e => .lst (e _ _ h)⟩
  | dK h => exact ⟨by decide, fun _ e => .dK (e _ _ h)⟩
theorem AnyJ.ex {j : Addr} {H H' : Hp} {v : V} {t : String} (h : AnyJ j H v t) (e : Ex H H') : AnyJ j H' v t := by
  cases h with
  | non => exact .non
  | bl b => exact .bl b
  | int i => exact .int i
  | str x => exact .str x
  | tup h => exact .tup (e _ _ h)
  | lst n h => exact .lst n (e _ _ h)
  | dK h => exact .dK (e _ _ h)
theorem AnyJ.but {j : Addr} {H H' : Hp} {v : V} {t : String} (h : AnyJ j H v t) (b : But j H H') (hj : JarAt H j) : AnyJ j H' v t := by
  obtain ⟨x, y, z, hj⟩ := hj
  cases h with
  | non => exact .non
  | bl b => exact .bl b
  | int i => exact .int i
  | str x => exact .str x
  | tup h => exact .tup (b _ _ (fun q => by rw [q, hj] at h; exact nomatch h) h)
  | lst n h => exact .lst n (b _ _ n h)
  | dK h => exact .dK (b _ _ (fun q => by rw [q, hj] at h; exact nomatch h) h)
/-- the first place with a value that is none -/
def badI (k : Kd) (bs : Nat → Int) (xs : List V) : Option Nat := (List.range xs.length).find? fun i => !okA k (xs.getD i .non) (bs i)
def raiseV (E : XK) (CI : Addr) (v : V) (H : Hp) : Prop := ∀ H' d, Ex H H' → H' d = some (.xd [("index", v)]) → E (.ref CI) (some d) H'
theorem raiseV.ex {E : XK} {CI : Addr} {v : V} {H H1 : Hp} (h : raiseV E CI v H) (e : Ex H H1) : raiseV E CI v H1 := fun H' d e1 hd => h H' d (e.trans e1) hd
/-- values that are checked one by one: what is let, what is refused and with what -/
def Chk (K : PySem.W.Frag) (E : XK) (CI : Addr) (k : Kd) (n : Nat) (bs : Nat → Int) (x : V) (H : Hp) (yes : List V → Prop) : Prop :=
  (∃ p xs, x = .ref p ∧ H p = some (.tup xs) ∧ xs.length = n ∧ (∀ y ∈ xs, ∃ t, TyA K H y t) ∧ ((badI k bs xs = none ∧ yes xs) ∨ ∃ i : Nat, badI k bs xs = some i ∧ raiseV E CI (.int (i : Int)) H)) ∨
  (∃ p xs, x = .ref p ∧ H p = some (.tup xs) ∧ xs.length ≠ n ∧ raiseV E CI .non H) ∨ (∃ t, TyA K H x t ∧ t ≠ "tuple" ∧ raiseV E CI .non H)
theorem Chk.ex {K : PySem.W.Frag} {E : XK} {CI : Addr} {k : Kd} {n : Nat} {bs : Nat → Int} {x : V} {H H' : Hp} {yes yes' : List V → Prop} (h : Chk K E CI k n bs x H yes) (e : Ex H H') (hy : ∀ xs, yes xs → yes' xs) : Chk K E CI k n bs x H' yes' := by
  rcases h with ⟨p, xs, h1, h2, h3, h4, h5⟩ | ⟨p, xs, h1, h2, h3, h4⟩ | ⟨t, h1, h2, h3⟩
  · refine .inl ⟨p, xs, h1, e _ _ h2, h3, fun y hy' => ?_, ?_⟩
    · obtain ⟨t, q⟩ := h4 y hy'
      exact ⟨t, q.ex e⟩
    · rcases h5 with ⟨a, b⟩ | ⟨i, a, b⟩
      · exact .inl ⟨a, hy _ b⟩
      · exact .inr ⟨i, a, b.ex e⟩
  · exact .inr (.inl ⟨p, xs, h1, e _ _ h2, h3, h4.ex e⟩)
  · exact .inr (.inr ⟨t, h1.ex e, h2, h3.ex e⟩)
section
variable {P : Program} {w : World} {K : PySem.W.Frag} {mg : Str → Option Value} {base : Heap} {f : Addr} {fd : FuncData}
variable {C CIV CIC : Addr}

/-! the cells -/
end
end K08
end
section
set_option Elab.async false
set_option linter.all false
set_option maxRecDepth 100000
set_option maxHeartbeats 4000000
namespace K08
open PySem PySem.Spec PyProof.Rows L2 Evl TX
open C8 (Cal pe_c pe_gc)
open RP GL
structure CalG (P : Program) (w : World) (K : PySem.W.Frag) (mg : Str → Option Value) (base : Heap) (k : Nat) (x : Str) (sp : Sp) : Prop where
  ok : ∃ (f : Addr) (fd : FuncData) (ps : List Str), FnG P w K mg base CX0 k f fd ps sp ∧ mg x = some (.ref f) ∧ PySem.W.keepIn K (.ref f) = true ∧ Binds K fd ps []
theorem pe_cg {X : Cx} {k j : Nat} {x : Str} {sp : Sp} {p pos : Pos} {e : Expr} {es : List Expr} {t : TA} (c : CalG X.prog X.w X.K X.mg X.base k x sp) (g : X.A.guards = some []) (hr : Room j X.A) (hk : k ≤ j) (hg : Gl X x) (hx : Passes CX0 X C8.E0) (ha : PA X (e :: es) t)
    (hdb : (x == ("__debug__" : Str)) = false := by decide) (he : starEach (e :: es) X.env = (false, eval e X.env) :: starEach es X.env := by rfl) (hpl : (backTo pos (starEach es X.env)).any (·.1) = false := by rfl) :
    PE X (.Call (.Name x p) (e :: es) [] pos) (tCall sp [] C8.E0 t) := by
  obtain ⟨f, fd, ps, F, h1, h2, h3⟩ := c.ok
  exact pe_g g F (hr.mono hk) hg h1 h2 h3 .nil hx ha hdb he hpl
end K08
end
section
set_option Elab.async false
set_option linter.all false
set_option maxRecDepth 100000
set_option maxHeartbeats 4000000
namespace K08
open PySem PySem.Spec PyProof.Rows L2 Evl TX
open C8 (Cal pe_c pe_gc)
open RP GL BW LamX
/-- a def by its body, its code object known -/
theorem body_code {CX : CXT} {P : Program} {w : World} {K : PySem.W.Frag} {mg : Str → Option Value} {base : Heap} {k : Nat} {f : Addr} {x qual : Str} {params : Arguments} {body : List Stmt} {scope : Scope} {dvs : List V} {kws : List (Str × V)} {fd : FuncData} {N ps : List Str} {sp : Sp} {cd : Addr}
    (F : FunD K x qual params body scope dvs kws f fd) (hcd : fd.code = .ref cd) (S : FnScope N ps scope) (len : ∀ vs H Q E, sp vs H Q E → vs.length = ps.length)
    (hb : ∀ (A : Around) (outer : List Env) (s : Shared) (H : Hp) (vs : List V) (Q : VK) (E : XK), A.guards = some [] → Room k (A.deeper (envOfC qual scope s.heap.objs.size f (.ref cd))) → sp vs H Q E →
      ∃ t, PSs (cxOf CX P w K mg base N qual scope f (.ref cd) A outer s H E) body t ∧ t { nx := fun _ H' => Q .non H', rt := Q } (L2.start N vs) H) : FnG P w K mg base CX (k + 1) f fd ps sp := by
  obtain ⟨oc, od, dV, kV, doc, pm, an, cdv, ct, osl, e, lk, hc, h4, h5⟩ := F.ex
  obtain rfl : cdv = .ref cd := by rw [e] at hcd; exact hcd
  refine ⟨len, fun A outer s H args us vs Q E hgd hr e0 hbd r hsp => ?_⟩
  have hl := len _ _ _ _ hsp
  have kin : K.In s.heap := e0.mod.kin.keeps fun b o e => (e0.bs b o e).1
  have lim : s.heap.NoLimit := e0.mod.nolimit.keeps fun b o e => (e0.bs b o e).1
  subst e
  refine codeAny_call_function hr.depth (kin _ _ lk) rfl S.co S.gen rfl (PySem.W.codeRec_of kin hc) (hbd _ _ _ _ ?_)
  refine wpAny_newFunctionEnv_cells S.kind (fun ⟨n, v⟩ hy => ?_) fun env he s1 x => ?_
  · rcases S.par n (List.of_mem_zip hy).1 with q | q
    · exact .inl q
    · exact .inr ⟨q, PySem.W.cellsFrom_some _ _ _ (.inl q)⟩
  subst he
  refine ⟨lim.keeps x.toInCall.keep, codeAny_func ?_⟩
  obtain ⟨t, ht, hq⟩ := hb A outer s H vs Q E hgd (hr.deeper _) hsp
  have I := inv_start (CX := CX) (E := E) (f := f) (cd := .ref cd) S hr.hd e0 hl r x
  refine wpAny_mono (ht.run [] s1 (L2.start N vs) H _ I hq) (fun fl s' hs => ?_) fun e s' hs => hs
  cases fl with
  | ret u =>
    obtain ⟨v, σ', H', J, rv, q⟩ := hs
    exact ⟨v, H', J.os, J.bare, J.base, J.hok, rv, q⟩
  | next =>
    obtain ⟨σ', H', J, q⟩ := hs
    exact ⟨.non, H', J.os, J.bare, J.base, J.hok, rfl, q⟩
  | brk =>
    obtain ⟨_, _, _, q⟩ := hs
    exact q.elim
  | cont =>
    obtain ⟨_, _, _, q⟩ := hs
    exact q.elim
theorem TabS.but {H H' : Hp} {j tb : Addr} {q : Str} (t : TabS H tb q) (b : But j H H') (hj : JarAt H j) : TabS H' tb q := by
  obtain ⟨x, y, z, hj⟩ := hj
  obtain ⟨ps, h1, h2, h3⟩ := t
  refine ⟨ps, b _ _ (fun e => by rw [e, hj] at h1; exact nomatch h1) h1, h2, fun pos cv hc => ?_⟩
  obtain ⟨c, e1, e2⟩ := h3 pos cv hc
  exact ⟨c, e1, b _ _ (fun e => by rw [e, hj] at e2; unfold CodeO at e2; exact nomatch e2) e2⟩
theorem extN_tx {H H' : Hp} (e : ExtN H H') : Tx H H' := fun _ _ h => e _ _ h fun _ z => nomatch z
theorem extN_lst {H H' : Hp} (e : ExtN H H') {a : Addr} {xs : List V} (h : H a = some (.lst xs)) : H' a = some (.lst xs) := e _ _ h fun _ z => nomatch z
theorem TabAt.keepN {H H' : Hp} {C a : Addr} {k : Kd} {cs : List Col} (t : TabAt H C a k cs) (e : ExtN H H') : TabAt H' C a k cs := by
  have tx := extN_tx e
  obtain ⟨dx, v1, v2, v3, v4, v6, v9, p, q, kvs, h0, h1, h2, h3, h4, ⟨zs, c1, c2⟩, ⟨t0, ob, xs, t1, t2, t3, t4, t5⟩, h7, h9⟩ := t.ex
  exact ⟨dx, v1, v2, v3, v4, v6, v9, p, q, kvs, e _ _ h0 (fun _ z => nomatch z), h1.on tx, h2.on tx, h3.on tx, h4.on tx, ⟨zs, e _ _ c1 (fun _ z => nomatch z), c2.on tx⟩, ⟨t0, ob, xs, t1, e _ _ t2 (fun _ z => nomatch z), t3, t4, t5.on tx⟩, e _ _ h7 (fun _ z => nomatch z), h9.on tx⟩
end K08
end
section
set_option Elab.async false
set_option linter.all false
set_option maxRecDepth 100000
set_option maxHeartbeats 4000000
namespace K08
open PySem PySem.Spec PyProof.Rows L2 Evl TX
open C8 (Cal pe_c pe_gc)
open RP GL XV LamX
abbrev sc_law_heard_N : List Str := ["_law_act", "_law_found", "e"]
theorem sc_law_heard : FnScope sc_law_heard_N ["_law_act"] (defScope s_law_heard) := ⟨rfl, rfl, rfl, by decide +kernel, rfl, by decide +kernel, by decide +kernel⟩
theorem call_reprK {X : Cx} {K : PySem.W.Frag} (hK : X.K = K) (g : X.A.guards = some []) (hu : X.A.units + 64 < cLine) : CallR X (.builtin "repr") (rRepr K) := by subst hK; exact call_repr g hu
/-- what can be shown, from here on -/
def ShR (K : PySem.W.Frag) (H : Hp) (v : V) (d : PyData) : Prop := (∀ H1, Ex H H1 → Sh K H1 v d) ∧ d.showable = true ∧ d.depth ≤ 60 ∧ d.shown.length ≤ sizeLine
theorem ShR.ex {K : PySem.W.Frag} {H H' : Hp} {v : V} {d : PyData} (h : ShR K H v d) (e : Ex H H') : ShR K H' v d := ⟨fun H1 e1 => h.1 H1 (e.trans e1), h.2⟩
/-- a new list of two texts is what is wished -/
def HeardQ (Q : VK) (H : Hp) (w s : Str) : Prop := ∀ p H2, H p = none → Ex H H2 → H2 p = some (.lst [.str w, .str s]) → Q (.ref p) H2
def ETh (K : PySem.W.Frag) (CIV CIC CUN : Addr) (Q : VK) : XK := fun cls d H' => ∃ (dd : Addr) (v : V) (dv : PyData), d = some dd ∧ ShR K H' v dv ∧ ((H' dd = some (.xd [("index", v)]) ∧ ((cls = .ref CIV ∧ HeardQ Q H' "values" dv.shown) ∨ (cls = .ref CIC ∧ HeardQ Q H' "cells" dv.shown))) ∨ (H' dd = some (.xd [("given", v)]) ∧ cls = .ref CUN ∧ HeardQ Q H' "name" dv.shown))
/-- heard: what a call gives, or the word and the place of its error -/
def TTh (K : PySem.W.Frag) (CIV CIC CUN : Addr) : (XK → Hp → VK → Prop) → Hp → VK → Prop := fun tl H Q => ∀ Q' : VK, (∀ v H', (∃ dv, ShR K H' v dv ∧ HeardQ Q H' "told" dv.shown) → Q' v H') →
  tl (ETh K CIV CIC CUN Q) H Q'
theorem takes_len {X : Cx} {W : WX} (tk : Takes X W) : Takes X (fun c d σ H => σ.length = X.N.length → W c d σ H) := fun u s' ⟨a, B, sI, pins, σ, H, cls, d, e, I, nb, up, sky, na, os, ag, w⟩ =>
  tk u s' ⟨a, B, sI, pins, σ, H, cls, d, e, I, nb, up, sky, na, os, ag, w I.len⟩
theorem set_two {σ : L2.St} {x : Option V} (h : σ.length = 3) : (σ.set 2 x)[2]? = some x := by rw [List.getElem?_set]; simp [h]
theorem heard_two {K : PySem.W.Frag} {σ : L2.St} {H : Hp} {Q : VK} {w : Str} {te : TE} {v : V} {d : PyData} (h : ∀ R : VK, (∀ H1, Ex H H1 → R v H1) → te σ H R) (sh : ShR K H v d) (k : HeardQ Q H w d.shown) : tLst (tCons (tC (.str w)) (tCons (tCB (rRepr K) (tCons te tNil)) tNil)) σ H Q := by
  refine consC_ ?_
  show tCB (rRepr K) (tCons te tNil) σ H _
  refine h _ fun H1 e1 => ⟨v, d, rfl, sh.1 H1 e1, sh.2.1, sh.2.2.1, sh.2.2.2, ?_⟩
  exact nil_ ⟨Nat.le_of_ble_eq_true rfl, fun p hp => k p _ (fresh_back e1 hp) (e1.trans (Ex.new hp)) upd_same⟩
section
theorem heard_gives {X : Cx} {q : Str} {g CIV CIC CUN : Addr} {cdg : Value} (gd : X.A.guards = some []) (hu : X.A.units + 3 + 64 < cLine) (T : Tops X.mg) (RX_InvalidValues : XV.RXV X.prog X.w X.K X.mg X.base "InvalidValues" CIV "index") (RX_InvalidCells : XV.RXV X.prog X.w X.K X.mg X.base "InvalidCells" CIC "index") (RX_UnknownName : XV.RXV X.prog X.w X.K X.mg X.base "UnknownName" CUN "given")
    (xm_InvalidValues_InvalidValues : PySem.W.exmOne X.K (.ref CIV) (.ref CIV) = some true) (xm_InvalidCells_InvalidValues : PySem.W.exmOne X.K (.ref CIC) (.ref CIV) = some false) (xm_InvalidCells_InvalidCells : PySem.W.exmOne X.K (.ref CIC) (.ref CIC) = some true) (xm_UnknownName_InvalidValues : PySem.W.exmOne X.K (.ref CUN) (.ref CIV) = some false) (xm_UnknownName_InvalidCells : PySem.W.exmOne X.K (.ref CUN) (.ref CIC) = some false) (xm_UnknownName_UnknownName : PySem.W.exmOne X.K (.ref CUN) (.ref CUN) = some true) :
    GivesTo X sc_law_heard_N "_law_heard" (defScope s_law_heard) g cdg (defBody s_law_heard) "_law_act" q (TTh X.K CIV CIC CUN) := by
  intro f c' s H Q tl act hc h
  obtain ⟨bs0, D_InvalidValues, ty0⟩ := RX_InvalidValues.ex
  obtain ⟨bs1, D_InvalidCells, ty1⟩ := RX_InvalidCells.ex
  obtain ⟨bs2, D_UnknownName, ty2⟩ := RX_UnknownName.ex
  refine ⟨_, pss_cons (BAG.ps_try_ma (X := (cxOf C8.CX0 X.prog X.w X.K X.mg X.base sc_law_heard_N "_law_heard" (defScope s_law_heard) g cdg X.A X.stack s H C8.E0).nox)
      (tb := fun W D σ H => ∃ Ech : XK, (∀ cls d σ' H', Ech cls d H' → σ'.length = 3 → W cls d σ' H') ∧ σ[0]? = some (some (.ref f)) ∧ H c' = some (CodeO c' q) ∧ tl Ech H fun v H1 => D.nx (σ.set 1 (some v)) H1)
      rfl rfl sc_law_heard.nd (i := 2) rfl rfl LamX.takes0 (fun W pn xe tk po => ?_) (.cons ⟨rfl, by decide, .inl D_InvalidValues.gC⟩ (fun ea oe cls d pn hz hv => (pss_one (ps_ret (pe_lst (pa_cons pe_str (pa_cons (pe_callB (call_reprK (K := X.K) rfl gd hu) (by rfl) T.n_repr (by decide +kernel) (pa_cons (L2.pe_xf ⟨D_InvalidValues.T.ga, D_InvalidValues.T.gt, D_InvalidValues.T.ex, D_InvalidValues.T.hd⟩ D_InvalidValues.hno hz hv (pv 2)) pa_nil)) pa_nil))))))
  (.cons ⟨rfl, by decide, .inl D_InvalidCells.gC⟩ (fun ea oe cls d pn hz hv => (pss_one (ps_ret (pe_lst (pa_cons pe_str (pa_cons (pe_callB (call_reprK (K := X.K) rfl gd hu) (by rfl) T.n_repr (by decide +kernel) (pa_cons (L2.pe_xf ⟨D_InvalidCells.T.ga, D_InvalidCells.T.gt, D_InvalidCells.T.ex, D_InvalidCells.T.hd⟩ D_InvalidCells.hno hz hv (pv 2)) pa_nil)) pa_nil))))))
  (.cons ⟨rfl, by decide, .inl D_UnknownName.gC⟩ (fun ea oe cls d pn hz hv => (pss_one (ps_ret (pe_lst (pa_cons pe_str (pa_cons (pe_callB (call_reprK (K := X.K) rfl gd hu) (by rfl) T.n_repr (by decide +kernel) (pa_cons (L2.pe_xf ⟨D_UnknownName.T.ga, D_UnknownName.T.gt, D_UnknownName.T.ex, D_UnknownName.T.hd⟩ D_UnknownName.hno hz hv (pv 2)) pa_nil)) pa_nil))))))
  .nil)))) (pss_one (ps_ret (pe_lst (pa_cons pe_str (pa_cons (pe_callB (call_reprK (K := X.K) rfl gd hu) (by rfl) T.n_repr (by decide +kernel) (pa_cons (pv 1) pa_nil)) pa_nil))))), ?_⟩
  · refine ⟨fun pins s' σ H' D I h' => ?_⟩
    obtain ⟨Ech, hW, h1, h2, h3⟩ := h'
    exact (pss_one (ps_set (i := 1) sc_law_heard.nd rfl (.inl rfl) (act _ pn xe Ech _ _ (takes_len tk) (fun cls d σ' H' e l => hW cls d σ' H' e l)))).run pins s' σ H' D I ⟨h1, h2, h3⟩
  · refine ⟨_, fun cls d σ' H' hE l => ?_, rfl, hc, h _ fun v H' ⟨dv, sh, hq⟩ => ?_⟩
    · obtain ⟨dd, v, dv, rfl, sh, ⟨hd, ⟨rfl, hq⟩ | ⟨rfl, hq⟩⟩ | ⟨hd, rfl, hq⟩⟩ := hE
      · refine ⟨true, xm_InvalidValues_InvalidValues, fun _ ea na => ?_, fun z => nomatch z⟩
        exact heard_two (K := X.K) (fun R hR => ⟨.ref ea, set_two l, rfl, rfl, dd, _, v, rfl, hd, rfl, hR _ (Ex.refl _)⟩) sh hq
      · refine ⟨false, xm_InvalidCells_InvalidValues, (fun z => nomatch z), fun _ => ⟨true, xm_InvalidCells_InvalidCells, fun _ ea na => ?_, fun z => nomatch z⟩⟩
        exact heard_two (K := X.K) (fun R hR => ⟨.ref ea, set_two l, rfl, rfl, dd, _, v, rfl, hd, rfl, hR _ (Ex.refl _)⟩) sh hq
      · refine ⟨false, xm_UnknownName_InvalidValues, (fun z => nomatch z), fun _ => ⟨false, xm_UnknownName_InvalidCells, (fun z => nomatch z), fun _ => ⟨true, xm_UnknownName_UnknownName, fun _ ea na => ?_, fun z => nomatch z⟩⟩⟩
        exact heard_two (K := X.K) (fun R hR => ⟨.ref ea, set_two l, rfl, rfl, dd, _, v, rfl, hd, rfl, hR _ (Ex.refl _)⟩) sh hq
    · show tLst (tCons (tC (.str "told")) (tCons (tCB (rRepr X.K) (tCons (tVar 1) tNil)) tNil)) _ H' Q
      exact heard_two (K := X.K) (fun R hR => var_ rfl (hR _ (Ex.refl _))) sh hq
/-- `_law_heard` is there, to be called with a lambda -/
structure Thk (K : PySem.W.Frag) (mg : Str → Option Value) : Prop where
  ex : ∃ g fd, FnP K "_law_heard" s_law_heard g fd ∧ mg "_law_heard" = some (.ref g)
theorem pe_heard {X : Cx} {T : List (Addr × Str)} {CIV CIC CUN c P : Addr} {k : Nat} {params : Arguments} {body : Expr} {scope : Scope} {t : XK → TE} {p lpos pos : Pos} (TK : Thk X.K X.mg) (gd : X.A.guards = some []) (Tp : Tops X.mg) (RX_InvalidValues : XV.RXV X.prog X.w X.K X.mg X.base "InvalidValues" CIV "index") (RX_InvalidCells : XV.RXV X.prog X.w X.K X.mg X.base "InvalidCells" CIC "index") (RX_UnknownName : XV.RXV X.prog X.w X.K X.mg X.base "UnknownName" CUN "given")
    (xm_InvalidValues_InvalidValues : PySem.W.exmOne X.K (.ref CIV) (.ref CIV) = some true) (xm_InvalidCells_InvalidValues : PySem.W.exmOne X.K (.ref CIC) (.ref CIV) = some false) (xm_InvalidCells_InvalidCells : PySem.W.exmOne X.K (.ref CIC) (.ref CIC) = some true) (xm_UnknownName_InvalidValues : PySem.W.exmOne X.K (.ref CUN) (.ref CIV) = some false) (xm_UnknownName_InvalidCells : PySem.W.exmOne X.K (.ref CUN) (.ref CIC) = some false) (xm_UnknownName_UnknownName : PySem.W.exmOne X.K (.ref CUN) (.ref CUN) = some true)
    (hg : Gl X "_law_heard") (TB : TabB X.base X.mg c P) (hcode : X.env.code = .ref c) (hmT : (P, X.env.qual ++ "<lambda>") ∈ T) (hu : ∀ p ∈ T, p.1 = P → p.2 = X.env.qual ++ "<lambda>") (hr : Room (k + 2) X.A) (L : LamS X.env.scope scope) (hdef : defaultsOf params X.env = ([], []))
    (hbind : ∀ (q : Str) (cl : List (Str × Addr)) (pm cv ctv : Value), bindArgs (PySem.W.kla_fn "<lambda>" q params body scope cl pm cv ctv) ⟨[], []⟩ = pure [])
    (hbody : ∀ (A : Around) (outer : List Env) (s : Shared) (H : Hp) (E : XK) (f c' : Addr), Room k (A.deeper (lamEnv X scope s.heap.objs.size f c')) → PE (lamCx X A outer s H E scope f c') body (t E)) :
    PE X (.Call (.Name "_law_heard" p) [.Lambda params body scope lpos] [] pos) (tLam T (TTh X.K CIV CIC CUN) t) := by
  obtain ⟨g, fd, F, hm⟩ := TK.ex
  obtain ⟨oc, od, dV, kV, doc, pm, an, cdv, ct, osl, e, lk, hc, h4, h5⟩ := id F.ex
  subst e
  have hb := F.bindsN (ps := ["_law_act"]) (fun _ _ _ _ _ _ us hl => match us, hl with | [_], _ => rfl)
  exact pe_lamcall (Ng := sc_law_heard_N) (a := "_law_act") hg hm F.kp lk hc hb sc_law_heard rfl (.inl rfl) (heard_gives gd (by have := hr.un; omega) Tp RX_InvalidValues RX_InvalidCells RX_UnknownName xm_InvalidValues_InvalidValues xm_InvalidCells_InvalidValues xm_InvalidCells_InvalidCells xm_UnknownName_InvalidValues xm_UnknownName_InvalidCells xm_UnknownName_UnknownName) TB hcode hmT hu hr L hdef hbind hbody
end
end K08
end
section
set_option Elab.async false
set_option linter.all false
set_option maxRecDepth 100000
set_option maxHeartbeats 4000000
namespace K08
open PySem PySem.Spec PyProof.Rows L2 Evl TX
open C8 (Cal pe_c pe_gc)
open RP GL XV LamX
theorem AnyJ.exN {j : Addr} {H H' : Hp} {v : V} {t : String} (h : AnyJ j H v t) (e : ExtN H H') : AnyJ j H' v t := by
  cases h with
  | non => exact .non
  | bl b => exact .bl b
  | int i => exact .int i
  | str x => exact .str x
  | tup h => exact .tup (e _ _ h fun _ z => nomatch z)
  | lst n h => exact .lst n (e _ _ h fun _ z => nomatch z)
  | dK h => exact .dK (e _ _ h fun _ z => nomatch z)
/-- what is due: none: let; d: refused, with d for the place -/
def Case7 (j : Addr) (k : Kd) (n : Nat) (bs : Nat → Int) (v : V) (H : Hp) (o : Option PyData) : Prop :=
  (∃ p xs, v = .ref p ∧ H p = some (.tup xs) ∧ xs.length = n ∧ n ≤ 41 ∧ (∀ y ∈ xs, ∃ t, AnyJ j H y t) ∧ ((badI k bs xs = none ∧ o = none) ∨ ∃ i : Nat, badI k bs xs = some i ∧ i < n ∧ o = some (.int (i : Int)))) ∨
  (∃ p xs, v = .ref p ∧ H p = some (.tup xs) ∧ xs.length ≠ n ∧ o = some .none) ∨ (∃ t, AnyJ j H v t ∧ t ≠ "tuple" ∧ o = some .none)
theorem Case7.exN {j : Addr} {k : Kd} {n : Nat} {bs : Nat → Int} {v : V} {H H' : Hp} {o : Option PyData} (h : Case7 j k n bs v H o) (e : ExtN H H') : Case7 j k n bs v H' o := by
  rcases h with ⟨p, xs, h1, h2, h3, h6, h4, h5⟩ | ⟨p, xs, h1, h2, h3⟩ | ⟨t, h1, h2⟩
  · refine .inl ⟨p, xs, h1, e _ _ h2 (fun _ z => nomatch z), h3, h6, fun y hy => ?_, h5⟩
    obtain ⟨t, q⟩ := h4 y hy
    exact ⟨t, q.exN e⟩
  · exact .inr (.inl ⟨p, xs, h1, e _ _ h2 (fun _ z => nomatch z), h3⟩)
  · exact .inr (.inr ⟨t, h1.exN e, h2⟩)
section
variable {P : Program} {w : World} {K : PySem.W.Frag} {mg : Str → Option Value} {base : Heap} {f : Addr} {fd : FuncData}
end
end K08
end
section
set_option Elab.async false
set_option linter.all false
set_option maxRecDepth 100000
set_option maxHeartbeats 4000000
namespace K08
open PySem PySem.Spec PyProof.Rows L2 Evl TX
open C8 (Cal pe_c pe_gc)
open RP GL XV LamX
/-- values, nothing of them the list j -/
def AllJ (j : Addr) (H : Hp) (xs : List V) : Prop := ∀ x ∈ xs, ∃ t, AnyJ j H x t
theorem AllJ.ex {j : Addr} {H H' : Hp} {xs : List V} (h : AllJ j H xs) (e : Ex H H') : AllJ j H' xs := fun x hx => by
  obtain ⟨t, q⟩ := h x hx
  exact ⟨t, q.ex e⟩
theorem AllJ.but {j : Addr} {H H' : Hp} {xs : List V} (h : AllJ j H xs) (b : But j H H') (hj : JarAt H j) : AllJ j H' xs := fun x hx => by
  obtain ⟨t, q⟩ := h x hx
  exact ⟨t, q.but b hj⟩
theorem AllJ.app {j : Addr} {H : Hp} {xs ys : List V} (h : AllJ j H xs) (g : AllJ j H ys) : AllJ j H (xs ++ ys) := fun x hx => by
  rcases List.mem_append.mp hx with q | q
  · exact h x q
  · exact g x q
theorem AllJ.ints (j : Addr) (H : Hp) (ns : List Int) : AllJ j H (ns.map V.int) := fun x hx => by
  obtain ⟨i, _, rfl⟩ := List.mem_map.mp hx
  exact ⟨_, .int i⟩
def AJ (j : Addr) (H : Hp) (v : V) : Prop := ∃ t, AnyJ j H v t
theorem AJ.ex {j : Addr} {H H' : Hp} {v : V} (h : AJ j H v) (e : Ex H H') : AJ j H' v := by
  obtain ⟨t, q⟩ := h
  exact ⟨t, q.ex e⟩
def AnyE (P : Hp → V → Prop) (te : TE) (σ : L2.St) (H : Hp) : Prop := ∀ H1, Ex H H1 → ∀ Q : VK, (∀ v H2, Ex H1 H2 → P H2 v → Q v H2) → te σ H1 Q
def AnyA (P : Hp → V → Prop) (ta : TA) (σ : L2.St) (H : Hp) (n : Nat) : Prop := ∀ H1, Ex H H1 → ∀ Q : List V → Hp → Prop, (∀ xs H2, Ex H1 H2 → xs.length = n → (∀ x ∈ xs, P H2 x) → Q xs H2) → ta σ H1 Q
section
variable {K : PySem.W.Frag} {j : Addr} {te : TE} {ta : TA} {σ : L2.St} {H : Hp} {n : Nat} {v : V} {P : Hp → V → Prop}
theorem anya_nil : AnyA P tNil σ H 0 := fun H1 _ Q q => nil_ (q [] H1 (Ex.refl H1) rfl fun x hx => absurd hx List.not_mem_nil)
theorem anya_cons (sx : ∀ H H' v, P H v → Ex H H' → P H' v) (h : AnyE P te σ H) (g : AnyA P ta σ H n) : AnyA P (tCons te ta) σ H (n + 1) := fun H1 e Q q =>
  cons_ (h H1 e _ fun v H2 e2 hv => g H2 (e.trans e2) _ fun xs H3 e3 hl hx => q (v :: xs) H3 (e2.trans e3) (by rw [List.length_cons, hl]) fun x hm => by
    rcases List.mem_cons.mp hm with rfl | hm
    · exact sx _ _ _ hv e3
    · exact hx x hm)
theorem anye_ev (h : Ev te σ H v) (hv : ∀ H, P H v) : AnyE P te σ H := fun H1 e Q q => h H1 e _ fun H2 e2 => q v H2 e2 (hv H2)
/-- a new list of such values -/
theorem anyl_ {Q : VK} (sx : ∀ H H' v, P H v → Ex H H' → P H' v) (h : AnyA P ta σ H n) (hn : n ≤ 1000) (k : ∀ q xs H', H q = none → Ex H H' → H' q = some (.lst xs) → xs.length = n → (∀ x ∈ xs, P H' x) → Q (.ref q) H') : tLst ta σ H Q := by
  show ta σ H _
  exact h H (Ex.refl H) _ fun xs H2 e2 hl hx => ⟨sz_of (by omega), fun p hp => k p xs _ (fresh_back e2 hp) (e2.trans (Ex.new hp)) upd_same hl fun x hm => sx _ _ _ (hx x hm) (Ex.new hp)⟩
end
/-- a tuple of some values, or a value of another kind -/
def Any07 (j : Addr) (H : Hp) (v : V) : Prop := (∃ p xs, v = .ref p ∧ H p = some (.tup xs) ∧ AllJ j H xs) ∨ ∃ t, AnyJ j H v t ∧ t ≠ "tuple"
theorem Any07.ex {j : Addr} {H H' : Hp} {v : V} (h : Any07 j H v) (e : Ex H H') : Any07 j H' v := by
  rcases h with ⟨p, xs, rfl, hp, hx⟩ | ⟨t, h, nt⟩
  · exact .inl ⟨p, xs, rfl, e _ _ hp, hx.ex e⟩
  · exact .inr ⟨t, h.ex e, nt⟩
theorem Any07.but {j : Addr} {H H' : Hp} {v : V} (h : Any07 j H v) (b : But j H H') (hj : JarAt H j) : Any07 j H' v := by
  rcases h with ⟨p, xs, rfl, hp, hx⟩ | ⟨t, h, nt⟩
  · obtain ⟨x, y, z, e⟩ := id hj
    exact .inl ⟨p, xs, rfl, b _ _ (fun q => by rw [q, e] at hp; exact nomatch hp) hp, hx.but b hj⟩
  · exact .inr ⟨t, h.but b hj, nt⟩
section
variable {K : PySem.W.Frag} {j p : Addr} {te : TE} {ta : TA} {σ : L2.St} {H : Hp} {xs : List V} {i : Nat} {y y2 y3 y4 : Option V}
end
section
variable {P : Program} {w : World} {K : PySem.W.Frag} {mg : Str → Option Value} {base : Heap} {f : Addr} {fd : FuncData}
end
end K08
end
section
set_option Elab.async false
set_option linter.all false
set_option maxRecDepth 100000
set_option maxHeartbeats 4000000
namespace K08
open PySem PySem.Spec PyProof.Rows L2 Evl TX
open C8 (Cal pe_c pe_gc)
open RP GL XV LamX
/-- whether a value is a cell: what is known of it -/
inductive CellJ (j : Addr) (H : Hp) (cs : List Col) : V → Bool → Prop
  | cell {v : V} {d : PyData} : d ∈ cellsL cs → Rep H v d → CellJ j H cs v true
  | ty {v : V} {t : String} : AnyJ j H v t → t ≠ "tuple" → CellJ j H cs v false
  | len {p : Addr} {xs : List V} : H p = some (.tup xs) → xs.length ≠ 2 → CellJ j H cs (.ref p) false
  | word {p : Addr} {w : Str} {y : V} : H p = some (.tup [.str w, y]) → w ≠ "sum" → w ≠ "datum" → CellJ j H cs (.ref p) false
  | sum {p : Addr} {y : V} {t : String} : H p = some (.tup [.str "sum", y]) → AnyJ j H y t → (t = "str" → ∃ s, y = .str s ∧ s ∉ sumsOf cs) → CellJ j H cs (.ref p) false
  | datum {p : Addr} {y : V} {t : String} : H p = some (.tup [.str "datum", y]) → AnyJ j H y t → (t = "int" → ∃ i : Int, y = .int i ∧ ¬ (0 ≤ i ∧ i < ((dataOf cs).length : Int))) → CellJ j H cs (.ref p) false
theorem CellJ.ex {j : Addr} {H H' : Hp} {cs : List Col} {v : V} {b : Bool} (h : CellJ j H cs v b) (e : Ex H H') : CellJ j H' cs v b := by
  cases h with
  | cell hd r => exact .cell hd (r.ex e)
  | ty t n => exact .ty (t.ex e) n
  | len h n => exact .len (e _ _ h) n
  | word h a b => exact .word (e _ _ h) a b
  | sum h t n => exact .sum (e _ _ h) (t.ex e) n
  | datum h t n => exact .datum (e _ _ h) (t.ex e) n
theorem CellJ.exN {j : Addr} {H H' : Hp} {cs : List Col} {v : V} {b : Bool} (h : CellJ j H cs v b) (e : ExtN H H') : CellJ j H' cs v b := by
  cases h with
  | cell hd r => exact .cell hd (r.on (extN_tx e))
  | ty t n => exact .ty (t.exN e) n
  | len h n => exact .len (extN_tx e _ _ h) n
  | word h a b => exact .word (extN_tx e _ _ h) a b
  | sum h t n => exact .sum (extN_tx e _ _ h) (t.exN e) n
  | datum h t n => exact .datum (extN_tx e _ _ h) (t.exN e) n
def rCellA (C : Addr) : List V → Hp → V → Prop := fun us H z => ∃ (j a : Addr) (k : Kd) (cs : List Col) (v : V) (b : Bool), us = [.ref a, v] ∧ TabAt H C a k cs ∧ CellJ j H cs v b ∧ z = .bl b
abbrev sc_is_cell_N : List Str := ["table", "cell", "what", "which"]
theorem sc_is_cell : FnScope sc_is_cell_N ["table", "cell"] (defScope s_is_cell) := ⟨rfl, rfl, rfl, by decide +kernel, rfl, by decide +kernel, by decide +kernel⟩
section
variable {P : Program} {w : World} {K : PySem.W.Frag} {mg : Str → Option Value} {base : Heap} {f : Addr} {fd : FuncData}
variable {C CUN : Addr}
theorem oka_iscell (F : FnP K "is_cell" s_is_cell f fd) (T : Tops mg) (CA_is_integer : Cal P w K mg base 1 "is_integer" (pSp (rIntA K)) [])(P_sums : Prp P w K mg base 1 C "sums" (getSp C "_sums")) (P_data : Prp P w K mg base 1 C "data" (getSp C "_data"))  : FnOk P w K mg base CX0 3 f fd ["table", "cell"] (pSp (rCellA C)) := by
  refine F.ok sc_is_cell (fun vs H Q E h => ?_) (fun cdv A outer s H vs Q E hr h => ?_)
  · obtain ⟨z, ⟨j, a, kd, cs, v, b, rfl, _⟩, _⟩ := h; rfl
  · obtain ⟨z, ⟨j, a, kd, cs, v, b, rfl, tab, ic, rfl⟩, k⟩ := h
    refine ⟨_, PSs.nox (pss_cons (ps_if (PW.pt (pw_or (pt_not (pt_val (pe_callB call_isi (by rfl) T.n_isinstance (by decide +kernel) (pa_cons (pv 1) (pa_cons (pe_bltn (v := .ty "tuple") (by rfl) T.n_tuple (by decide +kernel) rfl) pa_nil))))) (pw_or1 (pt_cmpR op_ne (pe_callB (call_len_seq : CallR _ (.builtin "len") (rLenS K)) (by rfl) T.n_len PySem.boot_len (pa_cons (pv 1) pa_nil)) pe_int (nomark _)))))
  (pss_one (ps_ret pe_bl))
  pss_nil)
  (pss_cons (ps_asg (pv 1) (pg_tup rfl (pgs_cons (pg_name (i := 2) sc_is_cell.nd rfl (.inl rfl)) (pgs_cons (pg_name (i := 3) sc_is_cell.nd rfl (.inl rfl)) pgs_nil))))
  (pss_cons (ps_if (pt_not (pt_val (pe_callB call_isi (by rfl) T.n_isinstance (by decide +kernel) (pa_cons (pv 2) (pa_cons (pe_bltn (v := .ty "str") (by rfl) T.n_str (by decide +kernel) rfl) pa_nil)))))
  (pss_one (ps_ret pe_bl))
  pss_nil)
  (pss_cons (ps_if (pt_cmpR op_eq (pv 2) pe_str (nomark _))
  (pss_one (ps_ret (pe_and (pe_callB call_isi (by rfl) T.n_isinstance (by decide +kernel) (pa_cons (pv 3) (pa_cons (pe_bltn (v := .ty "str") (by rfl) T.n_str (by decide +kernel) rfl) pa_nil))) (pe_one (pe_cmpR (op_in_seq : OpR _ _ (rIn K false)) (pv 3) (pe_prp P_sums hr (pv 0)) rfl)))))
  pss_nil)
  (pss_one (ps_ret (pe_and (pe_cmpR op_eq (pv 2) pe_str (nomark _)) (pe_and (pe_c CA_is_integer hr (by decide) rfl (pa_cons (pv 3) pa_nil)) (pe_one (pe_chain op_le op_lt pe_int (pv 3) (pe_callB (call_len_seq : CallR _ (.builtin "len") (rLenS K)) (by rfl) T.n_len PySem.boot_len (pa_cons (pe_prp P_data hr (pv 0)) pa_nil)))))))))))), ?_⟩
    obtain ⟨tx, v1, v2, v3, v4, v6, v9, p5, q7, kv0, h0, h1, h2, h3, h4, h5, h6, h7, h9⟩ := tab.ex
    obtain ⟨su, sv, rfl, hsu, rsu⟩ := Rep.tup_inv h3
    obtain rfl := rsu.strs
    obtain ⟨da, dd, rfl, hda, rda⟩ := Rep.tup_inv h4
    cases ic with
    | ty ty nt =>
      obtain ⟨_, _, _, k4⟩ := kit7 _ (AnyJ.ty (K := K) ty).1
      refine q_when (b := true) (et_is (et_or (a := true) (b := true) (et_is (et_not (et_B (ev_isi (K := K) (u := "tuple") (ev_var rfl) ev_c (AnyJ.ty (K := K) ty).2 k4))) (by rw [beq_eq_false_iff_ne.mpr nt]; rfl)) fun z => nomatch z) rfl) (fun _ H1 e1 => ?_) (fun z => (nomatch z))
      exact s_ret ev_c fun H2 e2 => k H2 (e1.trans e2)
    | len hb nl =>
      refine q_when (b := true) (et_is (et_or (a := false) (b := true) (et_is (et_not (et_B (ev_isi (K := K) (t := "tuple") (u := "tuple") (b := true) (ev_var rfl) ev_c (ty_tup hb) (by decide +kernel)))) rfl) fun _ => et_is (et_test (ev_op (ev_lenF (K := K) (ev_var rfl) (st_of hb)) ev_c (rv_ne rfl))) (by rw [decide_eq_false (fun z => nl (by have := V.int.inj z; omega))]; rfl)) rfl) (fun _ H1 e1 => ?_) (fun z => (nomatch z))
      exact s_ret ev_c fun H2 e2 => k H2 (e1.trans e2)
    | @cell _ d hd rd =>
      rcases cell_is hd with ⟨s, rfl, hs⟩ | ⟨m, rfl, m0, m1⟩
      · obtain ⟨b, x, y, rfl, hb, rx, ry⟩ := rd.two
        obtain rfl := rx.str_inv
        obtain rfl := ry.str_inv
        refine q_when (b := false) (et_is (et_or (et_not (et_B (ev_isi (K := K) (t := "tuple") (u := "tuple") (b := true) (ev_var rfl) ev_c (ty_tup hb) (by decide +kernel)))) fun _ => et_test (ev_op (ev_lenF (K := K) (ev_var rfl) (st_of hb)) ev_c (rv_ne rfl))) rfl) (fun z => nomatch z) fun _ H1 e1 => ?_
        refine q_unp2 (K := K) (ev_var rfl) (e1 _ _ hb) fun H2 e2 => ?_
        refine q_when (b := false) (et_is (et_not (et_B (ev_isi (K := K) (t := "str") (u := "str") (b := true) (ev_var rfl) ev_c (fun _ _ => .str _) (by decide +kernel)))) rfl) (fun z => nomatch z) fun _ H3 e3 => ?_
        have e13 := (e1.trans e2).trans e3
        refine q_if (b := true) (et_is (et_test (ev_op (ev_var rfl) ev_c (rv_eq rfl))) rfl) (fun _ H4 e4 => ?_) (fun z => nomatch z)
        have e14 := e13.trans e4
        refine s_ret (ev_is (ev_andV (a := true) (b := true) (ev_isi (K := K) (t := "str") (u := "str") (b := true) (ev_var rfl) ev_c (fun _ _ => .str _) (by decide +kernel)) fun _ => ev_is (ev_op (ev_var rfl) (ev_prop (ev_var rfl) (e14 _ _ h0) rfl) (rv_isT (K := K) (st_of (e14 _ _ hsu)) rfl (by rw [List.all_map]; exact List.all_eq_true.mpr fun _ _ => rfl))) (by rw [inV_str hs])) rfl) fun H5 e5 => k H5 (e14.trans e5)
      · obtain ⟨b, x, y, rfl, hb, rx, ry⟩ := rd.two
        obtain rfl := rx.str_inv
        obtain rfl := ry.int_inv
        refine q_when (b := false) (et_is (et_or (et_not (et_B (ev_isi (K := K) (t := "tuple") (u := "tuple") (b := true) (ev_var rfl) ev_c (ty_tup hb) (by decide +kernel)))) fun _ => et_test (ev_op (ev_lenF (K := K) (ev_var rfl) (st_of hb)) ev_c (rv_ne rfl))) rfl) (fun z => nomatch z) fun _ H1 e1 => ?_
        refine q_unp2 (K := K) (ev_var rfl) (e1 _ _ hb) fun H2 e2 => ?_
        refine q_when (b := false) (et_is (et_not (et_B (ev_isi (K := K) (t := "str") (u := "str") (b := true) (ev_var rfl) ev_c (fun _ _ => .str _) (by decide +kernel)))) rfl) (fun z => nomatch z) fun _ H3 e3 => ?_
        have e13 := (e1.trans e2).trans e3
        refine q_when (b := false) (et_is (et_test (ev_op (ev_var rfl) ev_c (rv_eq rfl))) (by decide +kernel)) (fun z => nomatch z) fun _ H4 e4 => ?_
        have e14 := e13.trans e4
        refine s_ret (ev_is (ev_andV (a := true) (b := true) (ev_is (ev_op (ev_var rfl) ev_c (rv_eq rfl)) (by rw [decide_eq_true rfl])) fun _ => ev_andV (a := true) (b := true) (ev_pc (R := rIntA K) (z := .bl true) (ea_cons (ev_var rfl) ea_nil) fun H5 e5 => ⟨.int _, "int", rfl, ⟨by decide, fun _ _ => .int _⟩, by rw [decide_eq_true rfl]⟩) fun _ => ev_is (ev_chain ev_c (ev_var rfl) (ev_is (ev_lenF (K := K) (ev_prop (ev_var rfl) (e14 _ _ h0) rfl) (st_of (e14 _ _ hda))) (by rw [rda.len, List.length_map])) rv_I0 fun _ => rv_I0) (congrArg V.bl (by rw [decide_eq_true m0, decide_eq_true (show m < ((dataOf cs).length : Int) by omega)]; rfl))) rfl) fun H5 e5 => k H5 (e14.trans e5)
    | word hb w1 w2 =>
      refine q_when (b := false) (et_is (et_or (et_not (et_B (ev_isi (K := K) (t := "tuple") (u := "tuple") (b := true) (ev_var rfl) ev_c (ty_tup hb) (by decide +kernel)))) fun _ => et_test (ev_op (ev_lenF (K := K) (ev_var rfl) (st_of hb)) ev_c (rv_ne rfl))) rfl) (fun z => nomatch z) fun _ H1 e1 => ?_
      refine q_unp2 (K := K) (ev_var rfl) (e1 _ _ hb) fun H2 e2 => ?_
      refine q_when (b := false) (et_is (et_not (et_B (ev_isi (K := K) (t := "str") (u := "str") (b := true) (ev_var rfl) ev_c (fun _ _ => .str _) (by decide +kernel)))) rfl) (fun z => nomatch z) fun _ H3 e3 => ?_
      have e13 := (e1.trans e2).trans e3
      refine q_when (b := false) (et_is (et_test (ev_op (ev_var rfl) ev_c (rv_eq rfl))) (decide_eq_false fun z => w1 (V.str.inj z))) (fun z => nomatch z) fun _ H4 e4 => ?_
      have e14 := e13.trans e4
      refine s_ret (v := .bl false) (ev_is (ev_andV (a := false) (b := false) (ev_is (ev_op (ev_var rfl) ev_c (rv_eq rfl)) (congrArg V.bl (decide_eq_false fun z => w2 (V.str.inj z)))) fun z => nomatch z) rfl) fun H5 e5 => k H5 (e14.trans e5)
    | @sum _ y t hb ty no =>
      refine q_when (b := false) (et_is (et_or (et_not (et_B (ev_isi (K := K) (t := "tuple") (u := "tuple") (b := true) (ev_var rfl) ev_c (ty_tup hb) (by decide +kernel)))) fun _ => et_test (ev_op (ev_lenF (K := K) (ev_var rfl) (st_of hb)) ev_c (rv_ne rfl))) rfl) (fun z => nomatch z) fun _ H1 e1 => ?_
      refine q_unp2 (K := K) (ev_var rfl) (e1 _ _ hb) fun H2 e2 => ?_
      refine q_when (b := false) (et_is (et_not (et_B (ev_isi (K := K) (t := "str") (u := "str") (b := true) (ev_var rfl) ev_c (fun _ _ => .str _) (by decide +kernel)))) rfl) (fun z => nomatch z) fun _ H3 e3 => ?_
      have e13 := (e1.trans e2).trans e3
      refine q_if (b := true) (et_is (et_test (ev_op (ev_var rfl) ev_c (rv_eq rfl))) (by decide +kernel)) (fun _ H4 e4 => ?_) (fun z => nomatch z)
      have e14 := e13.trans e4
      obtain ⟨_, _, k3, _⟩ := kit7 _ (AnyJ.ty (K := K) ty).1
      by_cases c : t = "str"
      · subst c
        obtain ⟨s, rfl, hs⟩ := no rfl
        exact s_ret (ev_is (ev_andV (a := true) (b := false) (ev_isi (K := K) (t := "str") (u := "str") (b := true) (ev_var rfl) ev_c (fun _ _ => .str _) (by decide +kernel)) fun _ => ev_is (ev_op (ev_var rfl) (ev_prop (ev_var rfl) (e14 _ _ h0) rfl) (rv_isT (K := K) (st_of (e14 _ _ hsu)) rfl (by rw [List.all_map]; exact List.all_eq_true.mpr fun _ _ => rfl))) (by rw [inV_noStr hs])) rfl) fun H5 e5 => k H5 (e14.trans e5)
      · exact s_ret (ev_is (ev_andV (a := false) (b := false) (ev_is (ev_isi (K := K) (t := t) (u := "str") (b := (t == "str")) (ev_var rfl) ev_c ((AnyJ.ty (K := K) ty).ex e14).2 k3) (by rw [beq_eq_false_iff_ne.mpr c])) fun z => nomatch z) rfl) fun H5 e5 => k H5 (e14.trans e5)
    | @datum _ y t hb ty no =>
      refine q_when (b := false) (et_is (et_or (et_not (et_B (ev_isi (K := K) (t := "tuple") (u := "tuple") (b := true) (ev_var rfl) ev_c (ty_tup hb) (by decide +kernel)))) fun _ => et_test (ev_op (ev_lenF (K := K) (ev_var rfl) (st_of hb)) ev_c (rv_ne rfl))) rfl) (fun z => nomatch z) fun _ H1 e1 => ?_
      refine q_unp2 (K := K) (ev_var rfl) (e1 _ _ hb) fun H2 e2 => ?_
      refine q_when (b := false) (et_is (et_not (et_B (ev_isi (K := K) (t := "str") (u := "str") (b := true) (ev_var rfl) ev_c (fun _ _ => .str _) (by decide +kernel)))) rfl) (fun z => nomatch z) fun _ H3 e3 => ?_
      have e13 := (e1.trans e2).trans e3
      refine q_when (b := false) (et_is (et_test (ev_op (ev_var rfl) ev_c (rv_eq rfl))) (by decide +kernel)) (fun z => nomatch z) fun _ H4 e4 => ?_
      have e14 := e13.trans e4
      by_cases c : t = "int"
      · subst c
        obtain ⟨i, rfl, hi⟩ := no rfl
        refine s_ret (v := .bl false) (ev_is (ev_andV (a := true) (b := false) (ev_is (ev_op (ev_var rfl) ev_c (rv_eq rfl)) (by rw [decide_eq_true rfl])) fun _ => ev_andV (a := true) (b := false) (ev_pc (R := rIntA K) (z := .bl true) (ea_cons (ev_var rfl) ea_nil) fun H5 e5 => ⟨.int _, "int", rfl, ⟨by decide, fun _ _ => .int _⟩, by rw [decide_eq_true rfl]⟩) fun _ => ev_is (ev_chain ev_c (ev_var rfl) (ev_is (ev_lenF (K := K) (ev_prop (ev_var rfl) (e14 _ _ h0) rfl) (st_of (e14 _ _ hda))) (by rw [rda.len, List.length_map])) rv_I0 fun _ => rv_I0) (congrArg V.bl ?_)) rfl) fun H5 e5 => k H5 (e14.trans e5)
        show (decide ((0 : Int) ≤ i) && decide (i < ((dataOf cs).length : Int))) = false
        cases c1 : decide ((0 : Int) ≤ i) with
        | false => rfl
        | true =>
          have q := of_decide_eq_true c1
          show decide _ = false
          exact decide_eq_false fun z => hi ⟨q, z⟩
      · exact s_ret (v := .bl false) (ev_is (ev_andV (a := true) (b := false) (ev_is (ev_op (ev_var rfl) ev_c (rv_eq rfl)) (by rw [decide_eq_true rfl])) fun _ => ev_andV (a := false) (b := false) (ev_pc (R := rIntA K) (z := .bl false) (ea_cons (ev_var rfl) ea_nil) fun H5 e5 => ⟨_, t, rfl, (AnyJ.ty (K := K) ty).ex (e14.trans e5), by rw [decide_eq_false c]⟩) fun z => nomatch z) rfl) fun H5 e5 => k H5 (e14.trans e5)
end
end K08
end
section
set_option Elab.async false
set_option linter.all false
set_option maxRecDepth 100000
set_option maxHeartbeats 4000000
namespace K08
open PySem PySem.Spec PyProof.Rows L2 Evl TX
open C8 (Cal pe_c pe_gc)
open RP GL XV LamX
theorem foldl_at8 {α : Type} {key : α → List Key} {f : α → V} {z : α} : ∀ (zs : List α) (acc : List (List Key × V)), (∀ x ∈ zs, key x = key z → f x = f z) → (z ∈ zs ∨ valV acc (key z) = some (f z)) → valV (zs.foldl (fun a z => putK a (key z) (f z)) acc) (key z) = some (f z)
  | [], acc, _, h => by
    rcases h with h | h
    · exact nomatch h
    · exact h
  | y :: r, acc, inj, h => by
    rw [List.foldl_cons]
    refine foldl_at8 r _ (fun x hx => inj x (List.mem_cons_of_mem _ hx)) ?_
    by_cases c : z ∈ r
    · exact .inl c
    · refine .inr ?_
      rw [valV_put]
      by_cases e : key z = key y
      · rw [if_pos e, inj y List.mem_cons_self e.symm]
      · rw [if_neg e]
        rcases h with h | h
        · rcases List.mem_cons.mp h with rfl | h
          · exact absurd rfl e
          · exact absurd h c
        · exact h
theorem key_inj8 {d d' : PyData} (h : (∃ w, d = sumC w) ∨ ∃ n, d = datC n) (h' : (∃ w, d' = sumC w) ∨ ∃ n, d' = datC n) (e : keyOf d = keyOf d') : d = d' := by
  rcases h with ⟨w, rfl⟩ | ⟨n, rfl⟩ <;> rcases h' with ⟨w', rfl⟩ | ⟨n', rfl⟩
  · have e : ([.inr "sum", .inr w] : List Key) = [.inr "sum", .inr w'] := e
    injection e with _ e; injection e with e _
    rw [Sum.inr.inj e]
  · have e : ([.inr "sum", .inr w] : List Key) = [.inr "datum", .inl n'] := e
    injection e with _ e; injection e with e _
    exact nomatch e
  · have e : ([.inr "datum", .inl n] : List Key) = [.inr "sum", .inr w'] := e
    injection e with _ e; injection e with e _
    exact nomatch e
  · have e : ([.inr "datum", .inl n] : List Key) = [.inr "datum", .inl n'] := e
    injection e with _ e; injection e with e _
    rw [Sum.inl.inj e]
theorem key_dat {a b : Int} (h : keyOf (datC a) = keyOf (datC b)) : a = b := by simpa [keyOf, datC] using h
theorem key_sum {a b : Str} (h : keyOf (sumC a) = keyOf (sumC b)) : a = b := by simpa [keyOf, sumC] using h
theorem key_ds {a : Int} {b : Str} : keyOf (datC a) ≠ keyOf (sumC b) := by simp [keyOf, datC, sumC]
theorem cells_nd {cs : List Col} (G : Good cs) : ((cellsL cs).map keyOf).Nodup := by
  have pm := (List.filter_append_perm isDat (cellsL cs)).map keyOf
  refine pm.nodup_iff.mp ?_
  have h1 : (cellsL cs).filter isDat = (List.range (dataOf cs).length).map fun n : Nat => datC (n : Int) := by
    have q := dat_cells cs cs.length (Nat.le_refl _)
    rw [List.take_length] at q
    exact q
  have h2 : (cellsL cs).filter (fun d => !isDat d) = (sumsOf cs).map sumC := by
    have q := sum_cells cs cs.length (Nat.le_refl _)
    rw [List.take_length] at q
    exact q
  rw [h1, h2, List.map_append, List.map_map, List.map_map, List.nodup_append]
  refine ⟨?_, ?_, ?_⟩
  · rw [List.nodup_iff_pairwise_ne, List.pairwise_map]
    exact (List.nodup_iff_pairwise_ne.mp List.nodup_range).imp fun h z => h (by have := key_dat z; omega)
  · rw [List.nodup_iff_pairwise_ne, List.pairwise_map]
    exact (List.nodup_iff_pairwise_ne.mp G.snd).imp fun h z => h (key_sum z)
  · intro x hx y hy e
    obtain ⟨n, _, rfl⟩ := List.mem_map.mp hx
    obtain ⟨s, _, rfl⟩ := List.mem_map.mp hy
    exact key_ds e
theorem at_one8 {cs : List Col} (G : Good cs) {i i' : Nat} {d : PyData} (hi : i < cs.length) (hi' : i' < cs.length) (h : d ∈ cellsAt cs i) (h' : d ∈ cellsAt cs i') : i = i' := by
  have nd : (cellsL cs).Nodup := by
    have q := cells_nd G
    rw [List.nodup_iff_pairwise_ne, List.pairwise_map] at q
    rw [List.nodup_iff_pairwise_ne]
    exact q.imp fun h e => h (by rw [e])
  unfold cellsL at nd
  have q := (List.pairwise_flatMap.mp (List.nodup_iff_pairwise_ne.mp nd)).2
  rw [List.pairwise_iff_getElem] at q
  rcases Nat.lt_trichotomy i i' with c | c | c
  · exact absurd rfl (q i i' (by rw [List.length_range]; exact hi) (by rw [List.length_range]; exact hi') c d (by rw [List.getElem_range]; exact h) d (by rw [List.getElem_range]; exact h'))
  · exact c
  · exact absurd rfl (q i' i (by rw [List.length_range]; exact hi') (by rw [List.length_range]; exact hi) c d (by rw [List.getElem_range]; exact h') d (by rw [List.getElem_range]; exact h))
theorem column_at8 {cs : List Col} (G : Good cs) {i : Nat} {d : PyData} (hi : i < cs.length) (h : d ∈ cellsAt cs i) : valV (columnD cs) (keyOf d) = some (.str (cs.getD i c0).nm) := by
  obtain ⟨j, hj, rfl⟩ := List.mem_iff_getElem.mp h
  have ej : (cellsAt cs i).getD j .none = (cellsAt cs i)[j] := by rw [List.getD_eq_getElem?_getD, List.getElem?_eq_getElem hj]; rfl
  have q := foldl_at8 (key := fun z : Nat × Nat => keyOf ((cellsAt cs z.1).getD z.2 .none)) (f := fun z => V.str (cs.getD z.1 c0).nm) (z := (i, j)) (TX.pairs2 cs.length fun i => (cellsAt cs i).length) [] (fun x hx e => ?_) (.inl (List.mem_flatMap.mpr ⟨i, List.mem_range.mpr hi, List.mem_map.mpr ⟨j, List.mem_range.mpr hj, rfl⟩⟩))
  · rw [← ej]
    exact q
  · obtain ⟨i', hi', hx⟩ := List.mem_flatMap.mp hx
    obtain ⟨j', hj', rfl⟩ := List.mem_map.mp hx
    have hi' := List.mem_range.mp hi'
    have hj' : j' < (cellsAt cs i').length := List.mem_range.mp hj'
    have e : keyOf ((cellsAt cs i').getD j' .none) = keyOf ((cellsAt cs i).getD j .none) := e
    have m : (cellsAt cs i').getD j' .none ∈ cellsAt cs i' := by rw [List.getD_eq_getElem?_getD, List.getElem?_eq_getElem hj']; exact List.getElem_mem hj'
    have m2 : (cellsAt cs i).getD j .none ∈ cellsAt cs i := by rw [ej]; exact h
    have ed := key_inj8 (cell_form m) (cell_form m2) e
    rw [ed] at m
    have := at_one8 G hi' hi m m2
    subst this
    rfl
/-- the value of a name that is raised -/
def raiseG (E : XK) (CI : Addr) (v : V) (H : Hp) : Prop := ∀ H' d, Ex H H' → H' d = some (.xd [("given", v)]) → E (.ref CI) (some d) H'
def spColX (C CUN : Addr) : Sp := fun us H Q E => ∃ (j a : Addr) (k : Kd) (cs : List Col) (v : V), us = [.ref a, v] ∧ TabAt H C a k cs ∧ Good cs ∧
  ((∃ (i : Nat) (d : PyData), i < cs.length ∧ d ∈ cellsAt cs i ∧ Rep H v d ∧ ∀ H', Ex H H' → Q (.str (cs.getD i c0).nm) H') ∨ (CellJ j H cs v false ∧ raiseG E CUN v H))
def spCellsX (C CUN : Addr) : Sp := fun us H Q E => ∃ (j a : Addr) (k : Kd) (cs : List Col) (v : V), us = [.ref a, v] ∧ TabAt H C a k cs ∧ Good cs ∧
  ((∃ i : Nat, i < cs.length ∧ v = .str (cs.getD i c0).nm ∧ ∀ z H', Ex H H' → Rep H' z (.tuple (cellsAt cs i)) → Q z H') ∨ ((∃ t, AnyJ j H v t ∧ (t = "str" → ∃ s, v = .str s ∧ ∀ c ∈ cs, c.nm ≠ s)) ∧ raiseG E CUN v H))
section
variable {K : PySem.W.Frag} {σ : L2.St} {H : Hp} {td ty : TE} {v : V}
theorem ev_dgetK8 {p : Addr} {kvs : List (Key × V)} {k : Key} (hd : Ev td σ H (.ref p)) (hy : Ev ty σ H (kV k)) (hp : H p = some (.dK kvs)) (hv : valV kvs k = some v) : Ev (tDGet td ty) σ H v := fun H1 e Q q =>
  hd H1 e _ fun H2 e2 => hy H2 (e.trans e2) _ fun H3 e3 => ⟨p, v, rfl, by rw [← hv]; exact DGet.k (((e.trans e2).trans e3) _ _ hp), q H3 (e2.trans e3)⟩
theorem ev_dnotinK8 {g : Addr} {kvs : List (Key × V)} {k : Key} (hy : Ev ty σ H (kV k)) (hd : Ev td σ H (.ref g)) (hg : H g = some (.dK kvs)) : Ev (tDNotIn ty td) σ H (.bl (!(valV kvs k).isSome)) := fun H1 e Q q =>
  hy H1 e _ fun H2 e2 => hd H2 (e.trans e2) _ fun H3 e3 => ⟨g, _, rfl, DGet.k (((e.trans e2).trans e3) _ _ hg), q H3 (e2.trans e3)⟩
theorem ev_dgetT8 {p b : Addr} {kvs : List (List Key × V)} {k : List Key} (hd : Ev td σ H (.ref p)) (hy : Ev ty σ H (.ref b)) (hb : H b = some (.tup (k.map kV))) (hp : H p = some (.dT kvs)) (hv : valV kvs k = some v) : Ev (tDGet td ty) σ H v := fun H1 e Q q =>
  hd H1 e _ fun H2 e2 => hy H2 (e.trans e2) _ fun H3 e3 => ⟨p, v, rfl, by rw [← hv]; exact DGet.t (((e.trans e2).trans e3) _ _ hp) (((e.trans e2).trans e3) _ _ hb), q H3 (e2.trans e3)⟩
end
theorem val_no8 {cs : List Col} {zs : List V} {s : Str} (lz : zs.length = cs.length) (h : ∀ c ∈ cs, c.nm ≠ s) : valV (zs.zipIdx.map fun z => ((.inr (cs.getD z.2 c0).nm : Key), z.1)) (.inr s) = none := by
  unfold valV
  rw [Option.map_eq_none_iff, List.find?_eq_none]
  intro x hx
  obtain ⟨z, hz, rfl⟩ := List.mem_map.mp hx
  obtain ⟨_, h2, _⟩ := List.mem_zipIdx hz
  have hi : z.2 < cs.length := by omega
  have m : cs.getD z.2 c0 ∈ cs := by rw [List.getD_eq_getElem?_getD, List.getElem?_eq_getElem hi]; exact List.getElem_mem hi
  intro e
  have e := of_decide_eq_true e
  exact h _ m (Sum.inr.inj e)
section
variable {P : Program} {w : World} {K : PySem.W.Frag} {mg : Str → Option Value} {base : Heap} {f : Addr} {fd : FuncData}
variable {C CUN : Addr}
abbrev sc_Table_cells_of_N : List Str := ["self", "name"]
theorem sc_Table_cells_of : FnScope sc_Table_cells_of_N ["self", "name"] (defScope s_Table_cells_of) := ⟨rfl, rfl, rfl, by decide +kernel, rfl, by decide +kernel, by decide +kernel⟩
abbrev sc_Table_column_of_N : List Str := ["self", "cell"]
theorem sc_Table_column_of : FnScope sc_Table_column_of_N ["self", "cell"] (defScope s_Table_column_of) := ⟨rfl, rfl, rfl, by decide +kernel, rfl, by decide +kernel, by decide +kernel⟩
theorem okx_column (F : FnM K "column_of" "Table.column_of" s_Table_column_of f fd) (T : Tops mg) (cl : ClT K C) (CA_is_cell : Cal P w K mg base 3 "is_cell" (pSp (rCellA C)) []) (RX_UnknownName : XV.RXV P w K mg base "UnknownName" CUN "given")  : FnOk P w K mg base (L2.CX P w) 4 f fd ["self", "cell"] (spColX C CUN) := by
  refine F.ok sc_Table_column_of (fun vs H Q E h => ?_) (fun cdv A outer s H vs Q E hr h => ?_)
  · obtain ⟨j, a, kd, cs, v, rfl, _⟩ := h; rfl
  · obtain ⟨j, a, kd, cs, v, rfl, tab, G, h⟩ := h
    obtain ⟨bs0, D0, ty0⟩ := RX_UnknownName.ex
    have hu1 := Nat.lt_of_le_of_lt (Nat.add_le_add_left (by decide : 1 ≤ 64) _) hr.units
    refine ⟨_, (pss_cons (ps_if (pt_not (pt_val (pe_c CA_is_cell hr (by decide) rfl (pa_cons (pv 0) (pa_cons (pv 1) pa_nil)))))
  (pss_one (ps_raise rfl (takes_of rfl rfl rfl rfl) (XV.pmk_xp D0 ty0 (hr.mono (by decide)) (pa_cons (pv 1) pa_nil) rfl)))
  pss_nil)
  (pss_one (ps_ret (pe_dget hu1 (pe_fld (pv 0) rfl) (pv 1) (fun _ _ => rfl))))), ?_⟩
    obtain ⟨tx, v1, v2, v3, v4, v6, v9, p5, q7, kv0, h0, h1, h2, h3, h4, h5, h6, h7, h9⟩ := tab.ex
    rcases h with ⟨i, d, hi, hd, rd, k⟩ | ⟨ic, r⟩
    · have dl : d ∈ cellsL cs := List.mem_flatMap.mpr ⟨i, List.mem_range.mpr hi, hd⟩
      refine q_when (b := false) (et_is (et_not (et_B (ev_pc (R := rCellA C) (z := .bl true) (ea_cons (ev_var rfl) (ea_cons (ev_var rfl) ea_nil)) fun H1 e1 => ⟨j, a, kd, cs, v, true, rfl, tab.keep e1, .cell dl (rd.ex e1), rfl⟩))) rfl) (fun z => nomatch z) fun _ H1 e1 => ?_
      obtain ⟨y, rfl, hy⟩ := cell_key (rd.ex e1) (cell_form hd)
      exact s_ret (ev_dgetT8 (ev_fld (ev_var (i := 0) rfl) (e1 _ _ h0) cl.cl (cl.no _ (by decide +kernel)) rfl) (ev_var (i := 1) rfl) hy (e1 _ _ h7) (column_at8 G hi hd)) fun H2 e2 => k H2 (e1.trans e2)
    · refine q_when (b := true) (et_is (et_not (et_B (ev_pc (R := rCellA C) (z := .bl false) (ea_cons (ev_var rfl) (ea_cons (ev_var rfl) ea_nil)) fun H1 e1 => ⟨j, a, kd, cs, v, false, rfl, tab.keep e1, ic.ex e1, rfl⟩))) rfl) (fun _ H1 e1 => ?_) fun z => nomatch z
      exact cons_ (var_ rfl (nil_ ⟨v, rfl, fun d hd => r _ d (e1.trans (Ex.new hd)) upd_same⟩))
theorem okx_cellsof (F : FnM K "cells_of" "Table.cells_of" s_Table_cells_of f fd) (T : Tops mg) (cl : ClT K C) (RX_UnknownName : XV.RXV P w K mg base "UnknownName" CUN "given")  : FnOk P w K mg base (L2.CX P w) 3 f fd ["self", "name"] (spCellsX C CUN) := by
  refine F.ok sc_Table_cells_of (fun vs H Q E h => ?_) (fun cdv A outer s H vs Q E hr h => ?_)
  · obtain ⟨j, a, kd, cs, v, rfl, _⟩ := h; rfl
  · obtain ⟨j, a, kd, cs, v, rfl, tab, G, h⟩ := h
    obtain ⟨bs0, D0, ty0⟩ := RX_UnknownName.ex
    have hu1 := Nat.lt_of_le_of_lt (Nat.add_le_add_left (by decide : 1 ≤ 64) _) hr.units
    refine ⟨_, (pss_cons (ps_if (PW.pt (pw_or (pt_not (pt_val (pe_callB call_isi (by rfl) T.n_isinstance (by decide +kernel) (pa_cons (pv 1) (pa_cons (pe_bltn (v := .ty "str") (by rfl) T.n_str (by decide +kernel) rfl) pa_nil))))) (pw_or1 (pt_cmp (pc_dnotin hu1 (pv 1) (pe_fld (pv 0) rfl))))))
  (pss_one (ps_raise rfl (takes_of rfl rfl rfl rfl) (XV.pmk_xp D0 ty0 (hr.mono (by decide)) (pa_cons (pv 1) pa_nil) rfl)))
  pss_nil)
  (pss_one (ps_ret (pe_dget hu1 (pe_fld (pv 0) rfl) (pv 1) (fun _ _ => rfl))))), ?_⟩
    obtain ⟨tx, v1, v2, v3, v4, v6, v9, p5, q7, kv0, h0, h1, h2, h3, h4, h5, h6, h7, h9⟩ := tab.ex
    obtain ⟨Tf, zs, hp, lz, hT⟩ := h5.fc
    rcases h with ⟨i, hi, rfl, k⟩ | ⟨⟨t, ty, no⟩, r⟩
    · have hv := cells_val G lz hi (hT i hi).1
      refine q_when (b := false) (et_is (et_or (et_not (et_B (ev_isi (K := K) (t := "str") (u := "str") (b := true) (ev_var rfl) ev_c (fun _ _ => .str _) (by decide +kernel)))) fun _ => et_B (ev_dnotinK8 (k := .inr (cs.getD i c0).nm) (ev_var (i := 1) rfl) (ev_fld (ev_var (i := 0) rfl) h0 cl.cl (cl.no _ (by decide +kernel)) rfl) hp)) (by rw [hv]; rfl)) (fun z => nomatch z) fun _ H1 e1 => ?_
      exact s_ret (ev_dgetK8 (k := .inr (cs.getD i c0).nm) (ev_fld (ev_var (i := 0) rfl) (e1 _ _ h0) cl.cl (cl.no _ (by decide +kernel)) rfl) (ev_var (i := 1) rfl) (e1 _ _ hp) hv) fun H2 e2 => k _ H2 (e1.trans e2) (.tup ((e1.trans e2) _ _ (hT i hi).2.1) ((hT i hi).2.2.ex (e1.trans e2)))
    · obtain ⟨_, _, k3, _⟩ := kit7 _ (AnyJ.ty (K := K) ty).1
      by_cases c : t = "str"
      · subst c
        obtain ⟨s, rfl, hs⟩ := no rfl
        refine q_when (b := true) (et_is (et_or (et_not (et_B (ev_isi (K := K) (t := "str") (u := "str") (b := true) (ev_var rfl) ev_c (fun _ _ => .str _) (by decide +kernel)))) fun _ => et_B (ev_dnotinK8 (k := .inr s) (ev_var (i := 1) rfl) (ev_fld (ev_var (i := 0) rfl) h0 cl.cl (cl.no _ (by decide +kernel)) rfl) hp)) (by rw [val_no8 lz hs]; rfl)) (fun _ H1 e1 => ?_) fun z => nomatch z
        exact cons_ (var_ rfl (nil_ ⟨_, rfl, fun d hd => r _ d (e1.trans (Ex.new hd)) upd_same⟩))
      · refine q_when (b := true) (et_is (et_or (a := true) (b := true) (et_is (et_not (et_B (ev_isi (K := K) (t := t) (u := "str") (b := (t == "str")) (ev_var rfl) ev_c (AnyJ.ty (K := K) ty).2 k3))) (by rw [beq_eq_false_iff_ne.mpr c]; rfl)) fun z => nomatch z) rfl) (fun _ H1 e1 => ?_) fun z => nomatch z
        exact cons_ (var_ rfl (nil_ ⟨v, rfl, fun d hd => r _ d (e1.trans (Ex.new hd)) upd_same⟩))
end
end K08
end
section
set_option Elab.async false
set_option linter.all false
set_option maxRecDepth 100000
set_option maxHeartbeats 4000000
namespace K08
open PySem PySem.Spec PyProof.Rows L2 Evl TX
open C8 (Cal pe_c pe_gc)
open RP GL XV LamX
def qLam : Str := ((("_law_right" : Str) ++ ".<locals>.") ++ "<lambda>")
/-- all but the jar and the tables stay -/
def ButN (j : Addr) (H H' : Hp) : Prop := ∀ b o, b ≠ j → H b = some o → (∀ ps, o ≠ .tbl ps) → H' b = some o
def spRightT (tb : Addr) : Sp := fun vs H Q _ => ∃ j, vs = [.ref j] ∧ JarAt H j ∧ TabS H tb qLam ∧ ∀ H', ButN j H H' → TabS H' tb qLam → Q (.bl true) H'
theorem ButN.of {j : Addr} {H H' : Hp} (b : But j H H') : ButN j H H' := fun c o h1 h2 _ => b c o h1 h2
theorem ButN.trans {j : Addr} {H H1 H2 : Hp} (a : ButN j H H1) (b : ButN j H1 H2) : ButN j H H2 := fun c o h1 h2 n => b c o h1 (a c o h1 h2 n) n
theorem ButN.exN {j : Addr} {H H' : Hp} (e : ExtN H H') : ButN j H H' := fun c o _ h n => e c o h n
theorem JarAt.exN {j : Addr} {H H' : Hp} (h : JarAt H j) (e : ExtN H H') : JarAt H' j := by
  obtain ⟨x, y, z, h⟩ := h
  exact ⟨x, y, z, e _ _ h fun ps z => by unfold jar at z; exact nomatch z⟩
theorem ChartAt.exN {H H' : Hp} {j l f : Addr} {k : Kd} {cs : List Col} {F : Nat → Addr × Addr × Addr × List V} (c : ChartAt H j l k cs f F) (e : ExtN H H') : ChartAt H' j l k cs f F :=
  ⟨extN_lst e c.hl, extN_lst e c.hf, fun i hi => extN_lst e (c.col i hi), fun i hi => extN_lst e (c.sm i hi), fun i hi => extN_lst e (c.dt i hi), fun i hi => (c.rp i hi).on (extN_tx e), c.off⟩
/-- data that can be shown, with a short text of plain characters -/
structure Small8 (d : PyData) : Prop where
  s : d.showable = true
  dp : d.depth ≤ 60
  l : d.shown.length ≤ 1000
  g : SgOk d.shown
theorem Small8.sh {K : PySem.W.Frag} {H : Hp} {v : V} {d : PyData} (m : Small8 d) (h : ∀ H1, Ex H H1 → Sh K H1 v d) : ShR K H v d := ⟨h, m.s, m.dp, Nat.le_trans m.l (by decide)⟩
def sm8 (d : PyData) : Bool := d.showable && (decide (d.depth ≤ 60) && (decide (d.shown.length ≤ 1000) && d.shown.cps.toList.all fun c => decide (c < 0x110000)))
theorem sm8_ok {d : PyData} (h : sm8 d = true) : Small8 d := by
  obtain ⟨h1, h⟩ := Bool.and_eq_true_iff.mp h
  obtain ⟨h2, h⟩ := Bool.and_eq_true_iff.mp h
  obtain ⟨h3, h4⟩ := Bool.and_eq_true_iff.mp h
  exact ⟨h1, of_decide_eq_true h2, of_decide_eq_true h3, fun c hc => of_decide_eq_true (List.all_eq_true.mp h4 c hc)⟩
theorem sm_consts : sm8 .none = true ∧ sm8 (.str "") = true ∧ sm8 (.str "nobody") = true ∧ sm8 (.int 3) = true ∧ sm8 (.tuple [.str "sum"]) = true ∧ sm8 (.tuple [.str "sum", .str "nobody"]) = true ∧ sm8 (.dict []) = true ∧
    sm8 (.tuple [.str "datum", .bool true]) = true ∧ sm8 (.tuple [.str "datum", .str "0"]) = true ∧ sm8 (.tuple [.str "sum", .list []]) = true ∧ sm8 (.tuple [.str "datum", .int (-1)]) = true ∧ sm8 (.tuple [.str "datum", .none]) = true := by decide +kernel
theorem sm_num : ∀ n : Nat, n < 25 → sm8 (.tuple [.str "datum", .int (n : Int)]) = true := by decide +kernel
theorem sg_of8 {x : Str} (h : (x.cps.toList.all fun c => decide (c < 0x110000)) = true) : SgOk x := fun c hc => of_decide_eq_true (List.all_eq_true.mp h c hc)
/-- plain, so long at most -/
def Tx8 (x : Str) (n : Nat) : Prop := SgOk x ∧ x.length ≤ n
theorem Tx8.app {x y : Str} {n m : Nat} (h : Tx8 x n) (g : Tx8 y m) : Tx8 (x ++ y) (n + m) := ⟨h.1.app g.1, by rw [strLen_append]; exact Nat.add_le_add h.2 g.2⟩
theorem tx_c {x : Str} {n : Nat} (h : ((x.cps.toList.all fun c => decide (c < 0x110000)) && decide (x.length ≤ n)) = true) : Tx8 x n := ⟨sg_of8 (Bool.and_eq_true_iff.mp h).1, of_decide_eq_true (Bool.and_eq_true_iff.mp h).2⟩
theorem tx_t1 {a : Str} {n : Nat} (h : Tx8 a n) : Tx8 (tupleText [a]) (1 + n + 2) := ((tx_c (x := "(") (n := 1) (by decide +kernel)).app h).app (tx_c (x := ",)") (n := 2) (by decide +kernel))
theorem tx_t2 {a b : Str} {n m : Nat} (h : Tx8 a n) (g : Tx8 b m) : Tx8 (tupleText [a, b]) (1 + ((n + 2) + m) + 1) := ((tx_c (x := "(") (n := 1) (by decide +kernel)).app ((h.app (tx_c (x := ", ") (n := 2) (by decide +kernel))).app g)).app (tx_c (x := ")") (n := 1) (by decide +kernel))
theorem tx_t3 {a b c : Str} {n m o : Nat} (h : Tx8 a n) (g : Tx8 b m) (k : Tx8 c o) : Tx8 (tupleText [a, b, c]) (1 + ((n + 2) + ((m + 2) + o)) + 1) := ((tx_c (x := "(") (n := 1) (by decide +kernel)).app ((h.app (tx_c (x := ", ") (n := 2) (by decide +kernel))).app ((g.app (tx_c (x := ", ") (n := 2) (by decide +kernel))).app k))).app (tx_c (x := ")") (n := 1) (by decide +kernel))
theorem tx_l1 {a : Str} {n : Nat} (h : Tx8 a n) : Tx8 (listText [a]) (((1 + 0) + n) + 1) := (((tx_c (x := "[") (n := 1) (by decide +kernel)).app (tx_c (x := "") (n := 0) (by decide +kernel))).app h).app (tx_c (x := "]") (n := 1) (by decide +kernel))
theorem tx_l2 {a b : Str} {n m : Nat} (h : Tx8 a n) (g : Tx8 b m) : Tx8 (listText [a, b]) (((((1 + 0) + n) + 2) + m) + 1) := (((((tx_c (x := "[") (n := 1) (by decide +kernel)).app (tx_c (x := "") (n := 0) (by decide +kernel))).app h).app (tx_c (x := ", ") (n := 2) (by decide +kernel))).app g).app (tx_c (x := "]") (n := 1) (by decide +kernel))
theorem sm_tx {d : PyData} {n : Nat} (s : d.showable = true) (dp : d.depth ≤ 60) (t : Tx8 d.shown n) (hn : n ≤ 1000) : Small8 d := ⟨s, dp, Nat.le_trans t.2 hn, t.1⟩
/-- texts of one, two, three names -/
theorem sm_names {w : Str} (hw : isName w = true) : Small8 (.tuple [.str w]) ∧ Small8 (.list [.str w]) ∧ Small8 (.list [.str "sum", .str w]) ∧ Small8 (.tuple [.str "Sum", .str w]) ∧ Small8 (.tuple [.str "nobody", .str w]) ∧ Small8 (.tuple [.str "sum", .str w, .int 0]) := by
  have g : Tx8 (reprText w) 82 := ⟨repr_sg hw, repr_len hw⟩
  have c1 : Tx8 (reprText "sum") 82 := ⟨word_sg.1, word_sg.2.2.1⟩
  have c2 : Tx8 (reprText "Sum") 82 := tx_c (by decide +kernel)
  have c3 : Tx8 (reprText "nobody") 82 := tx_c (by decide +kernel)
  have c4 : Tx8 (Str.ofString (toString (0 : Int))) 82 := tx_c (by decide +kernel)
  refine ⟨?_, ?_, ?_, ?_, ?_, ?_⟩
  · exact sm_tx (by rw [PyData.showable, PyData.showableAll, PyData.showableAll, PyData.showable]; rfl) (by rw [PyData.depth, PyData.depthAll, PyData.depthAll, PyData.depth]; decide) (by rw [PyData.shown, PyData.shownAll, PyData.shownAll, PyData.shown]; exact tx_t1 g) (by decide)
  · exact sm_tx (by rw [PyData.showable, PyData.showableAll, PyData.showableAll, PyData.showable]; rfl) (by rw [PyData.depth, PyData.depthAll, PyData.depthAll, PyData.depth]; decide) (by rw [PyData.shown, PyData.shownAll, PyData.shownAll, PyData.shown]; exact tx_l1 g) (by decide)
  · exact sm_tx (by rw [PyData.showable, PyData.showableAll, PyData.showableAll, PyData.showableAll, PyData.showable, PyData.showable]; rfl) (by rw [PyData.depth, PyData.depthAll, PyData.depthAll, PyData.depthAll, PyData.depth, PyData.depth]; decide) (by rw [PyData.shown, PyData.shownAll, PyData.shownAll, PyData.shownAll, PyData.shown, PyData.shown]; exact tx_l2 c1 g) (by decide)
  · exact sm_tx (by rw [PyData.showable, PyData.showableAll, PyData.showableAll, PyData.showableAll, PyData.showable, PyData.showable]; rfl) (by rw [PyData.depth, PyData.depthAll, PyData.depthAll, PyData.depthAll, PyData.depth, PyData.depth]; decide) (by rw [PyData.shown, PyData.shownAll, PyData.shownAll, PyData.shownAll, PyData.shown, PyData.shown]; exact tx_t2 c2 g) (by decide)
  · exact sm_tx (by rw [PyData.showable, PyData.showableAll, PyData.showableAll, PyData.showableAll, PyData.showable, PyData.showable]; rfl) (by rw [PyData.depth, PyData.depthAll, PyData.depthAll, PyData.depthAll, PyData.depth, PyData.depth]; decide) (by rw [PyData.shown, PyData.shownAll, PyData.shownAll, PyData.shownAll, PyData.shown, PyData.shown]; exact tx_t2 c3 g) (by decide)
  · exact sm_tx (by rw [PyData.showable, PyData.showableAll, PyData.showableAll, PyData.showableAll, PyData.showableAll, PyData.showable, PyData.showable, PyData.showable]; decide +kernel) (by rw [PyData.depth, PyData.depthAll, PyData.depthAll, PyData.depthAll, PyData.depthAll, PyData.depth, PyData.depth, PyData.depth]; decide) (by rw [PyData.shown, PyData.shownAll, PyData.shownAll, PyData.shownAll, PyData.shownAll, PyData.shown, PyData.shown, PyData.shown]; exact tx_t3 c1 g c4) (by decide)
/-- a value that is no cell and no name, from here on -/
structure Odd8 (K : PySem.W.Frag) (j : Addr) (cs : List Col) (v : V) (d : PyData) (H : Hp) : Prop where
  sh : ∀ H1, ExtN H H1 → ShR K H1 v d
  cell : ∀ H1, ExtN H H1 → CellJ j H1 cs v false
  name : ∀ H1, ExtN H H1 → ∃ t, AnyJ j H1 v t ∧ (t = "str" → ∃ s, v = .str s ∧ ∀ c ∈ cs, c.nm ≠ s)
  sg : SgOk d.shown
theorem Odd8.exN {K : PySem.W.Frag} {j : Addr} {cs : List Col} {v : V} {d : PyData} {H H' : Hp} (h : Odd8 K j cs v d H) (e : ExtN H H') : Odd8 K j cs v d H' := ⟨fun H1 e1 => h.sh H1 (e.trans e1), fun H1 e1 => h.cell H1 (e.trans e1), fun H1 e1 => h.name H1 (e.trans e1), h.sg⟩
section
variable {K : PySem.W.Frag} {j : Addr} {cs : List Col} {v : V} {d : PyData} {H : Hp}
theorem odd_rep {t : String} (r : Rep H v d) (hd : d.hasDict = false) (m : Small8 d) (c : CellJ j H cs v false) (n : AnyJ j H v t) (no : t = "str" → ∃ s, v = .str s ∧ ∀ c ∈ cs, c.nm ≠ s) : Odd8 K j cs v d H :=
  ⟨fun H1 e => m.sh fun H2 e2 => .dp ((r.on (extN_tx e)).ex e2).dp hd, fun H1 e => c.exN e, fun H1 e => ⟨t, n.exN e, no⟩, m.g⟩
theorem odd_lst {p : Addr} {ss : List Str} (hp : H p = some (.lst (ss.map V.str))) (np : p ≠ j) (m : Small8 (.list (ss.map PyData.str))) (hd : (PyData.list (ss.map PyData.str)).hasDict = false) : Odd8 K j cs (.ref p) (.list (ss.map PyData.str)) H :=
  ⟨fun H1 e => m.sh fun H2 e2 => .dp (.lst (sq_of (e2 _ _ (extN_lst e hp))) (Reps.ofStrs ss).dp) hd, fun H1 e => .ty (.lst np (extN_lst e hp)) (by decide), fun H1 e => ⟨_, .lst np (extN_lst e hp), fun z => absurd z (by decide)⟩, m.g⟩
theorem odd_dic {p : Addr} (hp : H p = some (.dK [])) : Odd8 K j cs (.ref p) (.dict []) H :=
  ⟨fun H1 e => (sm8_ok sm_consts.2.2.2.2.2.2.1).sh fun H2 e2 => .dic (e2 _ _ (e _ _ hp fun _ z => nomatch z)) .nil, fun H1 e => .ty (.dK (e _ _ hp fun _ z => nomatch z)) (by decide), fun H1 e => ⟨_, .dK (e _ _ hp fun _ z => nomatch z), fun z => absurd z (by decide)⟩, (sm8_ok sm_consts.2.2.2.2.2.2.1).g⟩
theorem odd_tupL {p l : Addr} (hp : H p = some (.tup [.str "sum", .ref l])) (hl : H l = some (.lst [])) (nl : l ≠ j) : Odd8 K j cs (.ref p) (.tuple [.str "sum", .list []]) H :=
  ⟨fun H1 e => (sm8_ok sm_consts.2.2.2.2.2.2.2.2.2.1).sh fun H2 e2 => .dp (.tup (st_of (e2 _ _ (extN_tx e _ _ hp))) (.cons (Rep.str _).dp (.cons (.lst (sq_of (e2 _ _ (extN_lst e hl))) .nil) .nil))) (by decide +kernel), fun H1 e => .sum (extN_tx e _ _ hp) (.lst nl (extN_lst e hl)) (fun z => absurd z (by decide)), fun H1 e => ⟨_, .tup (extN_tx e _ _ hp), fun z => absurd z (by decide)⟩, (sm8_ok sm_consts.2.2.2.2.2.2.2.2.2.1).g⟩
/-- a call that refuses a name is heard so -/
theorem heard8_ {CIV CIC CUN tab : Addr} {σ : L2.St} {t : XK → TE} {Q : VK} (sh : ∀ H1, ExtN H H1 → ShR K H1 v d) (tb0 : TabS H tab qLam) (h : ∀ HA, ExtN H HA → ∀ (E : XK) (Q' : VK), raiseG E CUN v HA → t E σ HA Q')
    (k : ∀ p H2, ExtN H H2 → TabS H2 tab qLam → H2 p = some (.lst [.str "name", .str d.shown]) → Q (.ref p) H2) : tLam [(tab, qLam)] (TTh K CIV CIC CUN) t σ H Q := by
  refine ⟨fun p hp => by rw [List.mem_singleton.mp hp]; exact tb0, fun HA eN TA => ?_⟩
  have tA : TabS HA tab qLam := TA _ (List.mem_singleton.mpr rfl)
  intro Q' hq
  exact h HA eN _ Q' fun H' dd e hd => ⟨dd, v, d, rfl, sh H' (eN.trans (ExtN.of e)), .inr ⟨hd, rfl, fun p H2 hp e2 h2 => k p H2 (eN.trans (ExtN.of (e.trans e2))) (tA.ext (e.trans e2)) h2⟩⟩
end
end K08
end
section
set_option Elab.async false
set_option linter.all false
set_option maxRecDepth 100000
set_option maxHeartbeats 4000000
namespace K08
open PySem PySem.Spec PyProof.Rows L2 Evl TX
open C8 (Cal pe_c pe_gc)
open RP GL XV LamX
def rTagsL : List V → Hp → List PyData → Prop := fun vs H ds => ∃ (l : Addr) (k : Kd) (cs : List Col), vs = [.ref l] ∧ Chart H l k cs ∧ Good cs ∧ ds = (sumsOf cs).map PyData.str
theorem sums_le2 {cs : List Col} (G : Good cs) (i : Nat) : (sumsOf (cs.take i)).length ≤ 10 := Nat.le_trans (flat_sub cs i).length_le G.slen
section
variable {P : Program} {w : World} {K : PySem.W.Frag} {mg : Str → Option Value} {base : Heap} {f : Addr} {fd : FuncData}
abbrev sc_law_tags_N : List Str := ["_law_chart_here", "_law_found", "_law_label", "_law_tags_here", "_law_pairs"]
theorem sc_law_tags : FnScope sc_law_tags_N ["_law_chart_here"] (defScope s_law_tags) := ⟨rfl, rfl, rfl, by decide +kernel, rfl, by decide +kernel, by decide +kernel⟩
theorem ok_tags (F : FnP K "_law_tags" s_law_tags f fd) (T : Tops mg)  : FnOk P w K mg base CX0 1 f fd ["_law_chart_here"] (lSp rTagsL) := by
  refine F.ok sc_law_tags (fun vs H Q E h => ?_) (fun cdv A outer s H vs Q E hr h => ?_)
  · obtain ⟨d, ⟨l, kd, cs, rfl, _⟩, _⟩ := h; rfl
  · obtain ⟨d, ⟨l, kd, cs, rfl, ⟨j, fa, F, ch⟩, G, rfl⟩, k⟩ := h
    refine ⟨_, PSs.nox (pss_cons (ps_set (i := 1) sc_law_tags.nd rfl (.inl rfl) (pe_lst pa_nil))
  (pss_cons (ps_for PassesOwn.never rfl (pi_list (pe_ix (ix_seq : IxR _ (rIx K)) (pv 0) pe_int (fun _ _ => rfl))) (pg_lst rfl (pgs_cons (pg_name (i := 2) sc_law_tags.nd rfl (.inl rfl)) (pgs_cons (pg_name (i := 3) sc_law_tags.nd rfl (.inl rfl)) (pgs_cons (pg_name (i := 4) sc_law_tags.nd rfl (.inl rfl)) pgs_nil))))
  (pss_one (ps_set (i := 1) sc_law_tags.nd rfl (.inl rfl) (pe_op op_cat (pv 1) (pv 3)))))
  (pss_one (ps_ret (pv 1))))), ?_⟩
    refine q_asgL (el_lst ea_nil (Nat.le_of_ble_eq_true rfl)) fun p1 H1 hp1 e1 h1 => ?_
    have ch1 := ch.ex e1
    refine q_forL (K := K) (a := fa) (ev_op (ev_var rfl) ev_c (rv_ixA (.inl ch1.hl) at_one)) (sq_of ch1.hf) (fun i σ' H' => ∃ p xs y z u, σ' = [some (.ref l), some (.ref p), y, z, u] ∧ Ex H1 H' ∧ H p = none ∧ H' p = some (.lst xs) ∧ Reps H' xs ((sumsOf (cs.take i)).map PyData.str))
      (fun H2 e2 => ⟨p1, [], none, none, none, rfl, e2, hp1, e2 _ _ h1, .nil⟩) (fun i σ' H' _ ⟨_, _, _, _, _, _, q, _⟩ => sq_of (q _ _ ch1.hf)) ?_ ?_
    · rintro i x σ' H3 hx ⟨p, xs, y, z, u, rfl, e3, hp, h3, rs⟩
      obtain ⟨lt, rfl⟩ := rng_at hx
      have ch3 := ch1.ex e3
      refine gl_three (K := K) (ch3.col i lt) ?_
      have ed := sums_take cs i _ (getc lt)
      have ld := sums_le2 G (i + 1)
      rw [ed, List.length_append] at ld
      refine s_asgS (es_catQ (eq_var rfl h3 rs) (eq_var rfl (ch3.sm i lt) (Reps.ofStrs _)) (by rw [List.length_map, List.length_map]; omega)) fun q zs H4 hq e4 h4 r4 => ?_
      refine ⟨q, zs, _, _, _, rfl, e3.trans e4, fresh_back (e1.trans e3) hq, h4, ?_⟩
      rw [ed, List.map_append]
      exact r4
    · rintro σ' H3 ⟨p, xs, y, z, u, rfl, e3, hp, h3, rs⟩
      rw [List.length_map, List.length_range, List.take_length] at rs
      exact s_ret (ev_var rfl) fun H4 e4 => k p xs H4 hp ((e1.trans e3).trans e4) (e4 _ _ h3) (rs.ex e4)
end
section
variable {K : PySem.W.Frag} {σ : L2.St} {H : Hp} {ta tb te : TE} {ds es fs : List PyData} {d : PyData}
theorem es_cat8 (h : EvS ta σ H ds) (g : ∀ H1, Ex H H1 → EvS tb σ H1 es) (hz : ds.length + es.length ≤ 10000) (e : ds ++ es = fs) : EvS (tOp rCat ta tb) σ H fs := fun H1 e1 Q q =>
  h H1 e1 _ fun p xs H2 hp e2 hx rx => g H2 (e1.trans e2) H2 (Ex.refl H2) _ fun r ys H3 hr e3 hy ry => ⟨p, r, xs, ys, rfl, rfl, e3 _ _ hx, hy, sz_of (by rw [rx.len, ry.len]; omega), fun m hm => q m _ _ (fresh_back (e2.trans e3) hm) ((e2.trans e3).trans (Ex.new hm)) upd_same (by rw [← e]; exact ((rx.ex e3).app ry).ex (Ex.new hm))⟩
theorem q_dput08 {D : Ends} {tz : TS} {td ty tv : TE} {p : Addr} {v w : V} {kvs : List (List Key × V)} (hv : Ev tv σ H v) (hd : Ev td σ H (.ref p)) (hy : Ev ty σ H w) (hr : ∀ H1, Ex H H1 → Rep H1 w d) (ic : (∃ w, d = sumC w) ∨ ∃ n, d = datC n) (hp : H p = some (.dT kvs)) (hz : kvs.length < 100000) (k : ∀ H1, Ex H H1 → tz D σ (upd H1 p (.dT (putK kvs (keyOf d) v)))) : tSeq (sDPut td ty tv) tz D σ H :=
  hv H (Ex.refl H) _ fun H1 e => hd H1 e _ fun H2 e2 => hy H2 (e.trans e2) _ fun H3 e3 => by
    obtain ⟨b, rfl, hb⟩ := cell_key (hr H3 ((e.trans e2).trans e3)) ic
    exact ⟨p, _, rfl, DPut.t (k := keyOf d) (((e.trans e2).trans e3) _ _ hp) hb (sz_lt hz), k H3 ((e.trans e2).trans e3)⟩
theorem fillR_len8 (m : Nat) (ks : Nat → List Key) (zs : Nat → V) (acc : List (List Key × V)) : (TX.fillR m ks zs acc).length ≤ acc.length + m := by
  induction m with
  | zero => exact Nat.le_refl _
  | succ m ih =>
    rw [TX.fillR_succ]
    have := length_putK (TX.fillR m ks zs acc) (ks m) (zs m)
    omega
theorem fill2_len8 (n : Nat) {i : Nat} (hi : i ≤ n) {n1 : Nat → Nat} (h1 : ∀ i, i < n → n1 i ≤ 34) (Ks : Nat → Nat → List Key) (Z : Nat → Nat → V) : (TX.fill2 i n1 Ks Z).length ≤ 34 * i := by
  induction i with
  | zero => exact Nat.le_refl _
  | succ i ih =>
    rw [TX.fill2_succ]
    have := fillR_len8 (n1 i) (Ks i) (Z i) (TX.fill2 i n1 Ks Z)
    have := ih (by omega)
    have := h1 i (by omega)
    omega
theorem es_rep8 (h : EvR te σ H d) : EvS (tOp L2.rRep (tLst (tCons te tNil)) (tC (.int 2))) σ H [d, d] := fun H1 e Q q =>
  op_ (cons_ (h H1 e _ fun v H2 e2 rv => nil_ ⟨Nat.le_of_ble_eq_true rfl, fun p hp => ⟨p, 2, [v], rfl, rfl, upd_same, by decide, by decide, sz_of (by show 1 * 2 ≤ 100000; decide), fun r hr => q r [v, v] _ (fresh_back (e2.trans (Ex.new hp)) hr) ((e2.trans (Ex.new hp)).trans (Ex.new hr)) upd_same (.cons (rv.ex ((Ex.new hp).trans (Ex.new hr))) (.cons (rv.ex ((Ex.new hp).trans (Ex.new hr))) .nil))⟩⟩))
end
def P8 (K : PySem.W.Frag) (j : Addr) (cs : List Col) (H : Hp) (v : V) : Prop := ∃ d, Odd8 K j cs v d H
section
variable {K : PySem.W.Frag} {σ : L2.St} {H : Hp} {ta tb te : TE} {t : TA} {vs : List V} {j : Addr} {cs : List Col} {P : Hp → V → Prop}
theorem p8_ex : ∀ (H H' : Hp) (v : V), P8 K j cs H v → Ex H H' → P8 K j cs H' v := fun _ _ _ ⟨d, h⟩ e => ⟨d, h.exN (ExtN.of e)⟩
theorem p8_exN {H H' : Hp} {v : V} (h : P8 K j cs H v) (e : ExtN H H') : P8 K j cs H' v := by
  obtain ⟨d, h⟩ := h
  exact ⟨d, h.exN e⟩
theorem anye_tup8 (h : EvA t σ H vs) (hn : vs.length ≤ 1000) (k : ∀ p H2, Ex H H2 → H2 p = some (.tup vs) → P H2 (.ref p)) : AnyE P (tTup t) σ H := fun H1 e Q q => by
  show t σ H1 _
  exact h H1 e _ fun H2 e2 => ⟨sz_of (by omega), fun p hp => q (.ref p) _ (e2.trans (Ex.new hp)) (k p _ ((e.trans e2).trans (Ex.new hp)) upd_same)⟩
theorem anye_lst8 (hj : JarAt H j) (h : EvA t σ H vs) (hn : vs.length ≤ 1000) (k : ∀ p H2, Ex H H2 → H2 p = some (.lst vs) → p ≠ j → P H2 (.ref p)) : AnyE P (tLst t) σ H := fun H1 e Q q => by
  show t σ H1 _
  exact h H1 e _ fun H2 e2 => ⟨sz_of (by omega), fun p hp => q (.ref p) _ (e2.trans (Ex.new hp)) (k p _ ((e.trans e2).trans (Ex.new hp)) upd_same ((hj.ex (e.trans e2)).ne hp))⟩
theorem tup8 {p : Addr} {xs : List V} {ds : List PyData} (hp : H p = some (.tup xs)) (r : Reps H xs ds) (hd : (PyData.tuple ds).hasDict = false) (m : Small8 (.tuple ds)) (c : CellJ j H cs (.ref p) false) : P8 K j cs H (.ref p) :=
  ⟨_, odd_rep (.tup hp r) hd m c (.tup hp) fun z => absurd z (by decide)⟩
theorem q_app7 {D : Ends} {tz : TS} {i : Nat} {q : Addr} {xs : List V} (h : σ[i]? = some (some (.ref q))) (hq : H q = some (.lst xs)) (k : te σ H fun y H2 => ∃ xs2 : List V, H2 q = some (.lst xs2) ∧ xs2.length < sizeLine ∧ tz D σ (upd H2 q (.lst (xs2 ++ [y])))) : tSeq (tDrop (tBM K "list" rAppend (tVar i) (tCons te tNil))) tz D σ H := by
  show tBM K "list" rAppend (tVar i) (tCons te tNil) σ H _
  refine var_ h ⟨.inl ⟨rfl, _, sq_of hq⟩, ?_⟩
  refine cons_ ?_
  have e : (fun (y : V) (H2 : Hp) => ∃ xs2 : List V, H2 q = some (.lst xs2) ∧ xs2.length < sizeLine ∧ tz D σ (upd H2 q (.lst (xs2 ++ [y])))) = fun y H2 => ∃ (l : Addr) (xs2 : List V) (w : V), V.ref q = .ref l ∧ [y] = [w] ∧ H2 l = some (.lst xs2) ∧ xs2.length < sizeLine ∧ tz D σ (upd H2 l (.lst (xs2 ++ [w]))) := by
    funext y H2
    refine propext ⟨fun ⟨xs2, a, b, c⟩ => ⟨q, xs2, y, rfl, rfl, a, b, c⟩, fun ⟨l, xs2, w, h1, h2, a, b, c⟩ => ?_⟩
    cases h1
    cases h2
    exact ⟨xs2, a, b, c⟩
  rw [e] at k
  exact k
end
theorem codeO_lst7 {c : Addr} {q : Str} {xs : List V} (h : some (HO.lst xs) = some (CodeO c q)) : False := by
  have h := Option.some.inj h
  unfold CodeO at h
  exact nomatch h
theorem tabs_put {H : Hp} {tb q : Addr} {xs : List V} {o : HO} (t : TabS H tb qLam) (hq : H q = some (.lst xs)) : TabS (upd H q o) tb qLam := by
  obtain ⟨ps, h1, h2, h3⟩ := t
  refine ⟨ps, ?_, h2, fun pos cv hc => ?_⟩
  rotate_left
  · obtain ⟨c, e, hc2⟩ := h3 pos cv hc
    refine ⟨c, e, (upd_ne fun z => ?_).trans hc2⟩
    rw [z, hq] at hc2
    exact codeO_lst7 hc2
  rw [upd_ne (fun z => by rw [z, hq] at h1; exact nomatch h1)]
  exact h1
/-- what is new is changed -/
theorem ButN.put {j q : Addr} {HZ Hc H' : Hp} {o : HO} (b : ButN j HZ Hc) (hq : Hc q = none) (b' : ButN j HZ H') : ButN j HZ (upd H' q o) := fun c x h1 h2 n => by
  have : c ≠ q := fun z => by
    have := b c x h1 h2 n
    rw [z, hq] at this
    exact nomatch this
  rw [upd_ne this]
  exact b' c x h1 h2 n
theorem ev_neN8 {K : PySem.W.Frag} {σ : L2.St} {H : Hp} {i k : Nat} {q p1 p2 : Addr} {x : V} {d : PyData} (hi : σ[i]? = some (some (.ref q))) (hk : σ[k]? = some (some x)) (hq : H q = some (.lst [.ref p1, .ref p2])) (h1 : H p1 = some (.lst [.str "name", .str d.shown])) (h2 : H p2 = some (.lst [.str "name", .str d.shown])) (sh : ∀ H1, Ex H H1 → ShR K H1 x d) (sg : SgOk d.shown) :
    Ev (tOp (rNeD K) (tVar i) (tOp L2.rRep (tLst (tCons (tLst (tCons (tC (.str "name")) (tCons (tCB (rRepr K) (tCons (tVar k) tNil)) tNil))) tNil)) (tC (.int 2)))) σ H (.bl false) := fun H1 e Q q' => by
  have sN : SgOk ("name" : Str) := fun c hc => by revert c; decide +kernel
  have s2 : ∀ s ∈ ([("name" : Str), d.shown] : List Str), SgOk s := fun s hs => by
    rcases List.mem_cons.mp hs with rfl | hs
    · exact sN
    · rw [List.mem_singleton.mp hs]; exact sg
  have ly := lay_strs (ss := [("name" : Str), d.shown]) s2
  have sD : SeqAt.shaped (.list [.list [.str "name", .str d.shown], .list [.str "name", .str d.shown]]) = true := by
    have l1 : PyData.canLayAll0 [PyData.str "name", PyData.str d.shown] = true := ly.1
    have l2 : PyData.depthAll [PyData.str "name", PyData.str d.shown] = 0 := ly.2
    unfold SeqAt.shaped
    rw [PyData.canLay0, PyData.canLayAll0, PyData.canLayAll0, PyData.canLayAll0, PyData.canLay0, l1, PyData.depth, PyData.depthAll, PyData.depthAll, PyData.depthAll, PyData.depth, l2]
    decide
  have eD : PyData.eqv (.list [.list [.str "name", .str d.shown], .list [.str "name", .str d.shown]]) (.list [.list [.str "name", .str d.shown], .list [.str "name", .str d.shown]]) = true := by
    have e1 : PyData.eqv (.list [.str "name", .str d.shown]) (.list [.str "name", .str d.shown]) = true := eqv_strs [("name" : Str), d.shown]
    rw [PyData.eqv, PyData.eqvAll, PyData.eqvAll, PyData.eqvAll, e1]
    rfl
  have dps : ∀ {H2 : Hp} {p : Addr}, H2 p = some (.lst [.str "name", .str d.shown]) → Dp K H2 (.ref p) (.list [.str "name", .str d.shown]) := fun h => .lst (sq_of h) (.cons (.str _) (.cons (.str _) .nil))
  refine op_ (var_ hi (op_ ?_))
  refine cons_ ?_
  refine consC_ (cons_ ?_)
  refine cons_ (var_ hk (nil_ ⟨x, d, rfl, (sh H1 e).1 H1 (Ex.refl H1), (sh H1 e).2.1, (sh H1 e).2.2.1, (sh H1 e).2.2.2, ?_⟩))
  refine nil_ ⟨Nat.le_of_ble_eq_true rfl, fun p3 hp3 => ?_⟩
  refine nil_ ⟨Nat.le_of_ble_eq_true rfl, fun p4 hp4 => ?_⟩
  have n34 : p3 ≠ p4 := fun z => by rw [← z, upd_same] at hp4; exact nomatch hp4
  refine ⟨p4, 2, [.ref p3], rfl, rfl, upd_same, by decide, by decide, sz_of (by show 1 * 2 ≤ 100000; decide), fun p5 hp5 => ?_⟩
  have n35 : p3 ≠ p5 := fun z => by rw [← z, upd_ne n34, upd_same] at hp5; exact nomatch hp5
  have e5 : Ex H1 (upd (upd (upd H1 p3 (.lst [.str "name", .str d.shown])) p4 (.lst [.ref p3])) p5 (.lst [.ref p3, .ref p3])) := ((Ex.new hp3).trans (Ex.new hp4)).trans (Ex.new hp5)
  have h3 : (upd (upd (upd H1 p3 (.lst [.str "name", .str d.shown])) p4 (.lst [.ref p3])) p5 (.lst [.ref p3, .ref p3])) p3 = some (.lst [.str "name", .str d.shown]) := (upd_ne n35).trans ((upd_ne n34).trans upd_same)
  have h5 : (upd (upd (upd H1 p3 (.lst [.str "name", .str d.shown])) p4 (.lst [.ref p3])) p5 (.lst [.ref p3, .ref p3])) p5 = some (.lst [.ref p3, .ref p3]) := upd_same
  refine ⟨_, _, .lst (sq_of (e5 _ _ (e _ _ hq))) (.cons (dps (e5 _ _ (e _ _ h1))) (.cons (dps (e5 _ _ (e _ _ h2))) .nil)), .lst (sq_of h5) (.cons (dps h3) (.cons (dps h3) .nil)), sD, sD, ?_⟩
  rw [eD]
  exact q' _ e5
theorem keys_fold8 {α : Type} {key : α → List Key} {f : α → V} : ∀ (zs : List α) (acc : List (List Key × V)), (zs.map key).Nodup → (∀ z ∈ zs, key z ∉ acc.map (·.1)) → (zs.foldl (fun a z => putK a (key z) (f z)) acc).map (·.1) = acc.map (·.1) ++ zs.map key
  | [], acc, _, _ => by rw [List.foldl_nil, List.map_nil, List.append_nil]
  | z :: r, acc, nd, no => by
    rw [List.map_cons, List.nodup_cons] at nd
    have e : putK acc (key z) (f z) = acc ++ [(key z, f z)] := by
      unfold putK
      rw [if_neg]
      intro h
      obtain ⟨x, hx, e⟩ := List.any_eq_true.mp h
      exact no z List.mem_cons_self (List.mem_map.mpr ⟨x, hx, of_decide_eq_true e⟩)
    rw [List.foldl_cons, e, keys_fold8 r _ nd.2 fun x hx hm => ?_, List.map_append, List.map_cons, List.map_nil, List.append_assoc, List.map_cons]
    · rfl
    · rw [List.map_append, List.map_cons, List.map_nil] at hm
      rcases List.mem_append.mp hm with h | h
      · exact no x (List.mem_cons_of_mem _ hx) h
      · have h : key x = key z := List.mem_singleton.mp h
        exact nd.1 (h ▸ List.mem_map.mpr ⟨x, hx, rfl⟩)
theorem column_keys8 {cs : List Col} (G : Good cs) : (columnD cs).map (·.1) = (cellsL cs).map keyOf := by
  have e : (TX.pairs2 cs.length fun i => (cellsAt cs i).length).map (fun z => keyOf ((cellsAt cs z.1).getD z.2 .none)) = (cellsL cs).map keyOf := by
    unfold TX.pairs2 cellsL
    rw [List.map_flatMap, List.map_flatMap]
    congr 1
    funext i
    rw [List.map_map]
    have q : (List.range (cellsAt cs i).length).map (fun j => (cellsAt cs i).getD j .none) = cellsAt cs i := by
      have := rg (fun d : PyData => d) .none (cellsAt cs i)
      rw [List.map_id'] at this
      exact this
    have q2 := congrArg (List.map keyOf) q
    rw [List.map_map] at q2
    exact q2
  have nd : ((TX.pairs2 cs.length fun i => (cellsAt cs i).length).map fun z => keyOf ((cellsAt cs z.1).getD z.2 .none)).Nodup := by
    rw [e]
    exact cells_nd G
  have q := keys_fold8 (key := fun z : Nat × Nat => keyOf ((cellsAt cs z.1).getD z.2 .none)) (f := fun z => V.str (cs.getD z.1 c0).nm) (TX.pairs2 cs.length fun i => (cellsAt cs i).length) [] nd (fun z _ h => absurd h List.not_mem_nil)
  rw [List.map_nil, List.nil_append, e] at q
  exact q
theorem rep_key8 {H : Hp} {q : Addr} {d : PyData} (ic : (∃ w, d = sumC w) ∨ ∃ n, d = datC n) (h : H q = some (.tup ((keyOf d).map kV))) : Rep H (.ref q) d := by
  rcases ic with ⟨w, rfl⟩ | ⟨n, rfl⟩
  · exact .tup (show H q = some (.tup [.str "sum", .str w]) from h) (.cons (.str _) (.cons (.str _) .nil))
  · exact .tup (show H q = some (.tup [.str "datum", .int n]) from h) (.cons (.str _) (.cons (.int _) .nil))
theorem reps_keys8 {H : Hp} : ∀ {ds : List PyData} {ys : List V}, (∀ d ∈ ds, (∃ w, d = sumC w) ∨ ∃ n, d = datC n) → ys.length = ds.length → (∀ (i : Nat) d, ds[i]? = some d → ∃ q, ys[i]? = some (.ref q) ∧ H q = some (.tup ((keyOf d).map kV))) → Reps H ys ds
  | [], [], _, _, _ => .nil
  | d :: r, y :: ys, ic, hl, h => by
    obtain ⟨q, h1, h2⟩ := h 0 d rfl
    obtain rfl : y = .ref q := Option.some.inj h1
    exact .cons (rep_key8 (ic d List.mem_cons_self) h2) (reps_keys8 (fun x hx => ic x (List.mem_cons_of_mem _ hx)) (Nat.succ.inj hl) fun i e he => h (i + 1) e he)
  | [], _ :: _, _, hl, _ => nomatch hl
  | _ :: _, [], _, hl, _ => nomatch hl
theorem eqv_cells8 {cs : List Col} : ∀ {ds : List PyData}, (∀ d ∈ ds, isCell cs d) → PyData.eqvAll ds ds = true
  | [], _ => by rw [PyData.eqvAll]
  | d :: r, h => by rw [PyData.eqvAll, eqv_self_cell (h d List.mem_cons_self), eqv_cells8 fun x hx => h x (List.mem_cons_of_mem _ hx)]; rfl
theorem ev_tupD8 {K : PySem.W.Frag} {σ : L2.St} {H : Hp} {te : TE} {i : Nat} {fo b : Addr} {ob : Obj} {xs : List V} {cs : List Col} (G : Good cs) (h5 : σ[i]? = some (some (.ref fo))) (hf : H fo = some (.dT (columnD cs))) (he : Ev te σ H (.ref b)) (hb : H b = some (.frz ob (.tup xs))) (rx : Reps H xs (cellsL cs)) :
    Ev (tOp (rNeD K) (tCB BAK.rTupD (tCons (tVar i) tNil)) te) σ H (.bl false) := fun H1 e Q q => by
  have ic : ∀ d ∈ cellsL cs, isCell cs d := fun d hd => cell_is hd
  have icf : ∀ d ∈ cellsL cs, (∃ w, d = sumC w) ∨ ∃ n, d = datC n := fun d hd => by
    rcases cell_is hd with ⟨s, rfl, _⟩ | ⟨n, rfl, _, _⟩
    · exact .inl ⟨s, rfl⟩
    · exact .inr ⟨n, rfl⟩
  have ck := column_keys8 G
  have lk : (columnD cs).length = (cellsL cs).length := by have := congrArg List.length ck; rwa [List.length_map, List.length_map] at this
  have sh : SeqAt.shaped (.tuple (cellsL cs)) = true := by
    have l := lay_cells (ds := cellsL cs) fun d hd => cell_ok G (ic d hd)
    unfold SeqAt.shaped
    rw [PyData.canLay0, l.1, PyData.depth]
    have := l.2
    show decide _ = true
    exact decide_eq_true (by omega)
  refine op_ (cons_ (var_ h5 (nil_ ⟨fo, columnD cs, rfl, .inl (e _ _ hf), fun l ys hl ly at_ => ?_⟩)))
  refine he _ (e.trans (Ex.new hl)) _ fun H3 e3 => ⟨.tuple (cellsL cs), .tuple (cellsL cs), ?_, .tup (stF (((e.trans (Ex.new hl)).trans e3) _ _ hb)) (rx.ex ((e.trans (Ex.new hl)).trans e3)).dp, sh, sh, ?_⟩
  · refine (Rep.tup (e3 _ _ upd_same) (reps_keys8 icf (ly.trans lk) fun i d hd => ?_)).dp
    have : ((columnD cs).map (·.1))[i]? = some (keyOf d) := by rw [ck, List.getElem?_map, hd]; rfl
    rw [List.getElem?_map] at this
    obtain ⟨kv, hkv, ek⟩ := Option.map_eq_some_iff.mp this
    obtain ⟨q, h1, h2⟩ := at_ i kv.1 kv.2 hkv
    exact ⟨q, h1, by rw [← ek]; exact ((Ex.new hl).trans e3) _ _ h2⟩
  · have ee : PyData.eqv (.tuple (cellsL cs)) (.tuple (cellsL cs)) = true := by rw [PyData.eqv]; exact eqv_cells8 ic
    rw [ee]
    exact q H3 ((Ex.new hl).trans e3)
theorem ev_ixS8 {K : PySem.W.Frag} {σ : L2.St} {H : Hp} {ta : TE} {ss : List Str} (h : EvS ta σ H (ss.map PyData.str)) (hl : 0 < ss.length) : Ev (tOp (rIx K) ta (tC (.int 0))) σ H (.str (ss.getD 0 Str.empty)) := fun H1 e Q q =>
  op_ (h H1 e _ fun p xs H2 hp e2 hx rx => (ev_op (x := .ref p) (y := .int 0) (ta := tC (.ref p)) (tb := tC (.int 0)) (σ := σ) (H := H2) ev_c ev_c (rv_ixA (K := K) (.inl hx) (atI_nat (j := 0) (by rw [rx.strs, List.getElem?_map, List.getElem?_eq_getElem hl, List.getD_eq_getElem?_getD, List.getElem?_eq_getElem hl]; rfl)))) H2 (Ex.refl H2) Q fun H3 e3 => q H3 (e2.trans e3))
theorem cells_two8 {ds : List PyData} (h : ∀ d ∈ ds, CellOk d) (hl : ds.length ≤ 34) : (PyData.list [.tuple ds, .tuple ds]).showable = true ∧ (PyData.list [.tuple ds, .tuple ds]).depth ≤ 60 ∧ (PyData.list [.tuple ds, .tuple ds]).hasDict = false ∧ (PyData.list [.tuple ds, .tuple ds]).shown.length ≤ sizeLine := by
  have a : ∀ ds : List PyData, (∀ d ∈ ds, CellOk d) → PyData.showableAll ds = true ∧ PyData.depthAll ds ≤ 1 ∧ PyData.hasDictAll ds = false ∧ ((PyData.shownAll ds).map (·.length)).sum ≤ 200 * ds.length ∧ (PyData.shownAll ds).length = ds.length := fun ds => by
    induction ds with
    | nil => intro _; exact ⟨by rw [PyData.showableAll], by rw [PyData.depthAll]; decide, by rw [PyData.hasDictAll], by rw [PyData.shownAll]; decide, by rw [PyData.shownAll]; rfl⟩
    | cons d r ih =>
      intro h
      have q := ih fun x hx => h x (List.mem_cons_of_mem _ hx)
      have c := h d List.mem_cons_self
      refine ⟨by rw [PyData.showableAll, c.sh.1, q.1]; rfl, ?_, by rw [PyData.hasDictAll, c.sh.2.2.1, q.2.2.1]; rfl, ?_, ?_⟩
      · rw [PyData.depthAll]
        exact Nat.max_le.mpr ⟨c.lay.2, q.2.1⟩
      · rw [PyData.shownAll, List.map_cons, List.sum_cons, List.length_cons]
        have := c.sh.2.2.2
        have := q.2.2.2.1
        omega
      · rw [PyData.shownAll, List.length_cons, List.length_cons, q.2.2.2.2]
  obtain ⟨a1, a2, a3, a4, a5⟩ := a ds h
  have t := tupleText_len_le (PyData.shownAll ds)
  refine ⟨?_, ?_, ?_, ?_⟩
  · rw [PyData.showable, PyData.showableAll, PyData.showableAll, PyData.showableAll, PyData.showable, a1]; rfl
  · rw [PyData.depth, PyData.depthAll, PyData.depthAll, PyData.depthAll, PyData.depth]
    omega
  · rw [PyData.hasDict, PyData.hasDictAll, PyData.hasDictAll, PyData.hasDictAll, PyData.hasDict, a3]; rfl
  · rw [PyData.shown, PyData.shownAll, PyData.shownAll, PyData.shownAll, PyData.shown]
    have q := listText_len_le [tupleText (PyData.shownAll ds), tupleText (PyData.shownAll ds)]
    simp only [List.map_cons, List.map_nil, List.sum_cons, List.sum_nil, List.length_cons, List.length_nil] at q
    have s : 100000 ≤ sizeLine := by decide
    omega
section
variable {P : Program} {w : World} {K : PySem.W.Frag} {mg : Str → Option Value} {base : Heap} {f : Addr} {fd : FuncData}
variable {C CIV CIC CUN cd tb : Addr}
abbrev sc_law_right_N : List Str := ["_law_jar_here", "_law_turn", "_law_chart_here", "_law_mine", "_law_number", "_law_found", "_law_label", "_law_tags_here", "_law_pairs", "_law_tag", "_law_k", "_law_part", "_law_place", "_law_odd", "_law_thing", "_law_told"]
theorem sc_law_right : FnScope sc_law_right_N ["_law_jar_here"] (defScope s_law_right) := ⟨rfl, rfl, rfl, by decide +kernel, rfl, by decide +kernel, by decide +kernel⟩
theorem ok_right (F : FnP K "_law_right" s_law_right f fd) (T : Tops mg) (C_law_chart : Cal P w K mg base 4 "_law_chart" spChart []) (C_law_made : Cal P w K mg base 7 "_law_made" (spMade C) []) (C_law_tags : Cal P w K mg base 1 "_law_tags" (lSp rTagsL) []) (P_cells : Prp P w K mg base 1 C "cells" (getSp C "_cells")) (MX_cells_of : BAG.MetX P w K mg base 3 C "cells_of" (spCellsX C CUN)) (MKX_cells_of : BAG.MetKX P w K mg base 3 C "cells_of" (spCellsX C CUN) ["name"]) (MX_column_of : BAG.MetX P w K mg base 4 C "column_of" (spColX C CUN)) (MKX_column_of : BAG.MetKX P w K mg base 4 C "column_of" (spColX C CUN) ["cell"]) (TK_law_heard : Thk K mg) (RX_InvalidValues : XV.RXV P w K mg base "InvalidValues" CIV "index") (RX_InvalidCells : XV.RXV P w K mg base "InvalidCells" CIC "index") (RX_UnknownName : XV.RXV P w K mg base "UnknownName" CUN "given") (xm_InvalidValues_InvalidValues : PySem.W.exmOne K (.ref CIV) (.ref CIV) = some true) (xm_InvalidCells_InvalidValues : PySem.W.exmOne K (.ref CIC) (.ref CIV) = some false) (xm_InvalidCells_InvalidCells : PySem.W.exmOne K (.ref CIC) (.ref CIC) = some true) (xm_UnknownName_InvalidValues : PySem.W.exmOne K (.ref CUN) (.ref CIV) = some false) (xm_UnknownName_InvalidCells : PySem.W.exmOne K (.ref CUN) (.ref CIC) = some false) (xm_UnknownName_UnknownName : PySem.W.exmOne K (.ref CUN) (.ref CUN) = some true)  (hcd_law_right : fd.code = .ref cd) (TB_law_right : LamX.TabB base mg cd tb) : GL.FnG P w K mg base CX0 14 f fd ["_law_jar_here"] (spRightT tb) := by
  refine body_code F hcd_law_right sc_law_right (fun vs H Q E h => ?_) (fun A outer s H vs Q E g hr h => ?_)
  · obtain ⟨j, rfl, _⟩ := h; rfl
  · obtain ⟨j, rfl, hj, hTb, k⟩ := h
    have hu := hr.units
    have hu1 := Nat.lt_of_le_of_lt (Nat.add_le_add_left (by decide : 1 ≤ 64) _) hr.units
    have hu65 := Nat.lt_of_le_of_lt (Nat.add_le_add (Nat.le_add_right _ (16 * 13)) (by decide : 65 ≤ 200)) hr.un
    refine ⟨_, PSs.nox (pss_cons (ps_for PassesOwn.never rfl (pi_range1 rfl T.n_range (pa_cons pe_int pa_nil)) (pg_name (i := 1) sc_law_right.nd rfl (.inl rfl))
  (pss_cons (ps_set (i := 2) sc_law_right.nd rfl (.inl rfl) (pe_c C_law_chart hr (by decide) rfl (pa_cons (pv 0) (pa_cons pe_int (pa_cons pe_int (pa_cons pe_int pa_nil))))))
  (pss_cons (ps_asg (pe_tup (pa_cons (pe_c C_law_made hr (by decide) rfl (pa_cons (pv 2) pa_nil)) (pa_cons pe_int (pa_cons pe_dnewT pa_nil)))) (pg_tup rfl (pgs_cons (pg_name (i := 3) sc_law_right.nd rfl (.inr rfl)) (pgs_cons (pg_name (i := 4) sc_law_right.nd rfl (.inr rfl)) (pgs_cons (pg_name (i := 5) sc_law_right.nd rfl (.inl rfl)) pgs_nil)))))
  (pss_cons (ps_for PassesOwn.never rfl (pi_list (pe_ix (ix_list : IxR _ (rIxL K)) (pv 2) pe_int (fun _ _ => rfl))) (pg_lst rfl (pgs_cons (pg_name (i := 6) sc_law_right.nd rfl (.inl rfl)) (pgs_cons (pg_name (i := 7) sc_law_right.nd rfl (.inl rfl)) (pgs_cons (pg_name (i := 8) sc_law_right.nd rfl (.inl rfl)) pgs_nil))))
  (pss_cons (ps_set (i := 11) sc_law_right.nd rfl (.inl rfl) (pe_op op_cat (pe_lc (own := [("_law_tag", 9)]) (g := gName 9) (tt := tYes) rfl sc_law_right.nd (pi_list (pv 7)) (blkOk_by (own := [("_law_tag", 9)]) (N := sc_law_right_N) (sc := defScope s_law_right) (by decide +kernel)) (fun _ _ _ _ _ => (pg_name (i := 9) sc_law_right.nd rfl (.inl rfl))) (fun _ _ _ _ _ => pts_nil) (fun _ _ _ _ _ => (pe_tup (pa_cons pe_str (pa_cons (pv 9) pa_nil))))) (pe_lc (own := [("_law_k", 10)]) (g := gName 10) (tt := tYes) rfl sc_law_right.nd (pi_range1 rfl T.n_range (pa_cons (pe_callB (call_len_seq : CallR _ (.builtin "len") (rLenS K)) (by rfl) T.n_len PySem.boot_len (pa_cons (pv 8) pa_nil)) pa_nil)) (blkOk_by (own := [("_law_k", 10)]) (N := sc_law_right_N) (sc := defScope s_law_right) (by decide +kernel)) (fun _ _ _ _ _ => (pg_name (i := 10) sc_law_right.nd rfl (.inl rfl))) (fun _ _ _ _ _ => pts_nil) (fun _ _ _ _ _ => (pe_tup (pa_cons pe_str (pa_cons (pe_op op_add (pv 4) (pv 10)) pa_nil)))))))
  (pss_cons (ps_set (i := 4) sc_law_right.nd rfl (.inr rfl) (pe_op op_add (pv 4) (pe_callB (call_len_seq : CallR _ (.builtin "len") (rLenS K)) (by rfl) T.n_len PySem.boot_len (pa_cons (pv 8) pa_nil))))
  (pss_cons (ps_if (pt_cmpR op_ne (pe_callB (call_repr g hu : CallR _ (.builtin "repr") (rRepr K)) (by rfl) T.n_repr (by decide +kernel) (pa_cons (pe_lst (pa_cons (BAG.pe_mtX MX_cells_of LamX.takes0 (fun _ _ _ _ h => h) hr (by decide) (pv 3) (pa_cons (pv 6) pa_nil)) (pa_cons (BAG.pe_mtKX MKX_cells_of LamX.takes0 (fun _ _ _ _ h => h) hr (by decide) (pv 3) (pk_cons (pv 6) pk_nil)) pa_nil))) pa_nil)) (pe_callB (call_repr g hu : CallR _ (.builtin "repr") (rRepr K)) (by rfl) T.n_repr (by decide +kernel) (pa_cons (pe_op op_rep (pe_lst (pa_cons (pe_callTy (call_tuple_of : CallR _ (.type "tuple") (rTupS K)) (by rfl) T.n_tuple (by decide +kernel) (pa_cons (pv 11) pa_nil)) pa_nil)) pe_int) pa_nil)) (nomark _))
  (pss_one (ps_ret pe_bl))
  pss_nil)
  (pss_one (ps_for PassesOwn.never rfl (pi_list (pv 11)) (pg_name (i := 12) sc_law_right.nd rfl (.inl rfl))
  (pss_cons (ps_dput hu1 (pv 5) (pv 12) (pv 6) rfl)
  (pss_one (ps_if (pt_cmpR (op_neD hr.units : OpR _ _ (rNeD K)) (pe_lst (pa_cons (BAG.pe_mtX MX_column_of LamX.takes0 (fun _ _ _ _ h => h) hr (by decide) (pv 3) (pa_cons (pv 12) pa_nil)) (pa_cons (BAG.pe_mtKX MKX_column_of LamX.takes0 (fun _ _ _ _ h => h) hr (by decide) (pv 3) (pk_cons (pv 12) pk_nil)) pa_nil))) (pe_lst (pa_cons (pv 6) (pa_cons (pv 6) pa_nil))) (nomark _))
  (pss_one (ps_ret pe_bl))
  pss_nil)))))))))
  (pss_cons (ps_if (pt_cmpR (op_neD hr.units : OpR _ _ (rNeD K)) (pe_callTy (BAK.call_tupleD rfl : CallR _ (.type "tuple") BAK.rTupD) (by rfl) T.n_tuple (by decide +kernel) (pa_cons (pv 5) pa_nil)) (pe_prp P_cells hr (pv 3)) (nomark _))
  (pss_one (ps_ret pe_bl))
  pss_nil)
  (pss_cons (ps_par (i := 9) (j := 6) (by rfl) sc_law_right.nd rfl rfl (by decide) rfl rfl (pa_cons (pe_ix (ix_seq : IxR _ (rIx K)) (pe_c C_law_tags hr (by decide) rfl (pa_cons (pv 2) pa_nil)) pe_int (fun _ _ => rfl)) (pa_cons (pe_ix (ix_list : IxR _ (rIxL K)) (pe_ix (ix_list : IxR _ (rIxL K)) (pe_ix (ix_list : IxR _ (rIxL K)) (pv 2) pe_int (fun _ _ => rfl)) pe_int (fun _ _ => rfl)) pe_int (fun _ _ => rfl)) pa_nil)) (by rfl))
  (pss_cons (ps_set (i := 13) sc_law_right.nd rfl (.inl rfl) (pe_lst (pa_cons pe_non (pa_cons pe_str (pa_cons pe_str (pa_cons pe_int (pa_cons (pe_tup (pa_cons pe_str pa_nil)) (pa_cons (pe_tup (pa_cons pe_str (pa_cons pe_str pa_nil))) (pa_cons (pe_lst (pa_cons pe_str (pa_cons (pv 9) pa_nil))) (pa_cons (pe_tup (pa_cons pe_str (pa_cons (pv 4) pa_nil))) (pa_cons pe_dnewK (pa_cons (pe_lst (pa_cons (pv 6) pa_nil)) pa_nil))))))))))))
  (pss_cons (ps_set (i := 13) sc_law_right.nd rfl (.inl rfl) (pe_op op_cat (pv 13) (pe_lst (pa_cons (pe_tup (pa_cons pe_str (pa_cons pe_bl pa_nil))) (pa_cons (pe_tup (pa_cons pe_str (pa_cons pe_str pa_nil))) (pa_cons (pe_tup (pa_cons pe_str (pa_cons (pv 9) pa_nil))) (pa_cons (pe_tup (pa_cons pe_str (pa_cons (pv 9) pa_nil))) (pa_cons (pe_tup (pa_cons pe_str (pa_cons (pv 9) (pa_cons pe_int pa_nil)))) (pa_cons (pe_tup (pa_cons pe_str (pa_cons (pe_lst pa_nil) pa_nil))) pa_nil)))))))))
  (pss_cons (ps_expr (pe_bm PySem.F.plainAttrs_list PySem.F.slot_list_append PySem.F.type_list_append mt_append (pv 13) (pa_cons (pe_tup (pa_cons pe_str (pa_cons (pe_un un_neg pe_int) pa_nil))) pa_nil)))
  (pss_one (ps_for PassesOwn.never rfl (pi_list (pe_op op_cat (pv 13) (pe_lst (pa_cons (pe_tup (pa_cons (pv 6) pa_nil)) (pa_cons (pe_tup (pa_cons pe_str (pa_cons pe_non pa_nil))) pa_nil))))) (pg_name (i := 14) sc_law_right.nd rfl (.inr rfl))
  (pss_cons (ps_set (i := 15) sc_law_right.nd rfl (.inl rfl) (pe_lst (pa_cons (pe_heard (k := 5) (T := [(tb, qLam)]) TK_law_heard g T RX_InvalidValues RX_InvalidCells RX_UnknownName xm_InvalidValues_InvalidValues xm_InvalidCells_InvalidValues xm_InvalidCells_InvalidCells xm_UnknownName_InvalidValues xm_UnknownName_InvalidCells xm_UnknownName_UnknownName rfl TB_law_right rfl (List.mem_singleton.mpr rfl) (fun p hp _ => by rw [List.mem_singleton.mp hp]; rfl) (hr.mono (by decide)) (show LamS (defScope s_law_right) _ from lamS_by (by decide +kernel)) rfl (fun _ _ _ _ _ => rfl) (fun A outer s H E f c' hr2 => BAG.pe_mtX (X := lamCx _ A outer s H E _ f c') MX_column_of (takes_of rfl rfl rfl rfl) (fun _ _ _ _ h => h) hr2 (by decide) (pe_var (i := 3) rfl (.inr (.inr rfl))) (pa_cons (pe_var (i := 14) rfl (.inr (.inr rfl))) pa_nil))) pa_nil)))
  (pss_cons (ps_expr (pe_bm PySem.F.plainAttrs_list PySem.F.slot_list_append PySem.F.type_list_append mt_append (pv 15) (pa_cons (pe_heard (k := 5) (T := [(tb, qLam)]) TK_law_heard g T RX_InvalidValues RX_InvalidCells RX_UnknownName xm_InvalidValues_InvalidValues xm_InvalidCells_InvalidValues xm_InvalidCells_InvalidCells xm_UnknownName_InvalidValues xm_UnknownName_InvalidCells xm_UnknownName_UnknownName rfl TB_law_right rfl (List.mem_singleton.mpr rfl) (fun p hp _ => by rw [List.mem_singleton.mp hp]; rfl) (hr.mono (by decide)) (show LamS (defScope s_law_right) _ from lamS_by (by decide +kernel)) rfl (fun _ _ _ _ _ => rfl) (fun A outer s H E f c' hr2 => BAG.pe_mtX (X := lamCx _ A outer s H E _ f c') MX_cells_of (takes_of rfl rfl rfl rfl) (fun _ _ _ _ h => h) hr2 (by decide) (pe_var (i := 3) rfl (.inr (.inr rfl))) (pa_cons (pe_var (i := 14) rfl (.inr (.inr rfl))) pa_nil))) pa_nil)))
  (pss_one (ps_if (pt_cmpR (op_neD hr.units : OpR _ _ (rNeD K)) (pv 15) (pe_op op_rep (pe_lst (pa_cons (pe_lst (pa_cons pe_str (pa_cons (pe_callB (call_repr g hu : CallR _ (.builtin "repr") (rRepr K)) (by rfl) T.n_repr (by decide +kernel) (pa_cons (pv 14) pa_nil)) pa_nil))) pa_nil)) pe_int) (nomark _))
  (pss_one (ps_ret pe_bl))
  pss_nil)))))))))))))))
  (pss_one (ps_ret pe_bl))), ?_⟩
    generalize hHZ : H = HZ at hj k hTb ⊢
    
    refine q_forR1 (n := 3) (ea_cons ev_c ea_nil) (by decide) (fun i σ' H' => ∃ y1 y2 y3 y4 y5 y6 y7 y8 y9 y10 y11 y12 y13 y14 y15 : Option V, σ' = [some (.ref j), y1, y2, y3, y4, y5, y6, y7, y8, y9, y10, y11, y12, y13, y14, y15] ∧ JarAt H' j ∧ ButN j HZ H' ∧ TabS H' tb qLam) (fun H1 e1 => ⟨_, _, _, _, _, _, _, _, _, _, _, _, _, _, _, rfl, hj.ex e1, ButN.of (But.ex e1), hTb.ext e1⟩) ?_ ?_
    · rintro i0 σ' H1 hi ⟨y1, y2, y3, y4, y5, y6, y7, y8, y9, y10, y11, y12, y13, y14, y15, rfl, j1, bZ, tb1⟩
      refine q_asgO (callO_ (cons_ (var_ rfl (consC_ (consC_ (consC_ (nil_ ?_)))))))
      refine ⟨j, 6, 6, 10, rfl, j1, by decide, by decide, by decide, fun l kd cs fa FF H2 hl2 b2 j2 ch hk G nb => ?_⟩
      refine q_tupO (cons_ (callO_ (cons_ (var_ rfl (nil_ ⟨l, kd, cs, rfl, ⟨j, fa, FF, ch⟩, hk, G, fun a H3 ha e3 tab => consC_ (cons_ (fun fo hfo => nil_ ⟨Nat.le_of_ble_eq_true rfl, fun pt hpt => g_three (K := K) upd_same ?_⟩))⟩)))))
      have ch3 := ch.ex e3
      have j3 := j2.ex e3
      have b13 : But j H1 H3 := b2.trans (But.ex e3)
      have tb3 := (TabS.but tb1 b2 j1).ext e3
      have nfo := j3.ne hfo
      have e5 : Ex H3 (upd (upd H3 fo (.dT [])) pt (.tup [.ref a, .int 0, .ref fo])) := (Ex.new hfo).trans (Ex.new hpt)
      have npf : fo ≠ pt := fun z => by rw [← z, upd_same] at hpt; exact nomatch hpt
      have hfo5 : (upd (upd H3 fo (.dT [])) pt (.tup [.ref a, .int 0, .ref fo])) fo = some (.dT []) := (upd_ne npf).trans upd_same
      show tSeq _ _ _ [some (.ref j), some (.int (i0 : Int)), some (.ref l), some (.ref a), some (.int 0), some (.ref fo), y6, y7, y8, y9, y10, y11, y12, y13, y14, y15] (upd (upd H3 fo (.dT [])) pt (.tup [.ref a, .int 0, .ref fo]))
      generalize upd (upd H3 fo (.dT [])) pt (.tup [.ref a, .int 0, .ref fo]) = H5 at e5 hfo5 ⊢
      clear hpt npf e3 ch j2 b2 ha
      have ch5 := ch3.ex e5
      have lcs : cs.length ≤ 8 := G.len
      obtain ⟨dx, v1, v2, v3, v4, v6, v9, p5, q7, kvs, hins, _⟩ := tab.ex
      -- the columns
      refine q_forL (K := K) (a := fa) (ev_op (ev_var rfl) ev_c (rv_ixL (K := K) (sq_of ch5.hl) at_one)) (sq_of ch5.hf) (fun i σ' H' => ∃ y6 y7 y8 y9 y10 y11 y12 y13 y14 y15 : Option V, σ' = [some (.ref j), some (.int (i0 : Int)), some (.ref l), some (.ref a), some (.int (firstOf cs i)), some (.ref fo), y6, y7, y8, y9, y10, y11, y12, y13, y14, y15] ∧ Ex H3 H' ∧ H' fo = some (.dT (TX.fill2 i (fun i => (cellsAt cs i).length) (fun i j => keyOf ((cellsAt cs i).getD j .none)) (fun i _ => .str (cs.getD i c0).nm))))
        (fun H6 e6 => ⟨y6, y7, y8, y9, y10, y11, y12, y13, y14, y15, rfl, e5.trans e6, e6 _ _ hfo5⟩) (fun i σ' H' _ ⟨y6, y7, y8, y9, y10, y11, y12, y13, y14, y15, _, q, _⟩ => sq_of (q _ _ ch3.hf)) ?_ ?_
      · rintro i x σ' H6 hx ⟨y6, y7, y8, y9, y10, y11, y12, y13, y14, y15, rfl, e6, hfi⟩
        obtain ⟨lt, rfl⟩ := rng_at hx
        have ch6 := ch3.ex e6
        refine gl_three (K := K) (ch6.col i lt) ?_
        show tSeq _ _ _ [some (.ref j), some (.int (i0 : Int)), some (.ref l), some (.ref a), some (.int (firstOf cs i)), some (.ref fo), some (.str (cs.getD i c0).nm), some (.ref (FF i).2.1), some (.ref (FF i).2.2.1), y9, y10, y11, y12, y13, y14, y15] H6
        have lc2 : (cellsAt cs i).length ≤ 34 := cellsAt_len G lt
        have lc3 := lc2
        unfold cellsAt cellsC at lc3
        rw [List.length_append, List.length_map, List.length_map, List.length_range] at lc3
        have s1 := es_lcL1 (K := K) (te := tTup (tCons (tC (.str "sum")) (tCons (tVar 9) tNil))) (g := gName 9) (vs := [9]) (tl := tVar 7) (σ := [some (.ref j), some (.int (i0 : Int)), some (.ref l), some (.ref a), some (.int (firstOf cs i)), some (.ref fo), some (.str (cs.getD i c0).nm), some (.ref (FF i).2.1), some (.ref (FF i).2.2.1), y9, y10, y11, y12, y13, y14, y15]) (H := H6) (a := (FF i).2.1) (xs := (cs.getD i c0).sums.map V.str)
          (ev_var rfl) (ch6.sm i lt) (by rw [List.length_map]; omega) (fun m => [some (.ref j), some (.int (i0 : Int)), some (.ref l), some (.ref a), some (.int (firstOf cs i)), some (.ref fo), some (.str (cs.getD i c0).nm), some (.ref (FF i).2.1), some (.ref (FF i).2.2.1), ((cs.getD i c0).sums.map V.str)[m]?, y10, y11, y12, y13, y14, y15]) (fun m => sumC ((cs.getD i c0).sums.getD m Str.empty)) (fun _ _ => rfl)
          (fun m x H5 R hx e5 q => by rw [hx] at q; exact q) (fun m x H5 hx e5 => by
            have hx' := hx
            rw [List.getElem?_map] at hx
            obtain ⟨w, hw, rfl⟩ := Option.map_eq_some_iff.mp hx
            have ew : (cs.getD i c0).sums.getD m Str.empty = w := by rw [List.getD_eq_getElem?_getD, hw]; rfl
            rw [ew]
            exact er_tup (era_cons (er_str ev_c) (era_cons (er_str (ev_var (by rw [hx']; rfl))) era_nil)) (Nat.le_of_ble_eq_true rfl))
        have q1 : ((List.range ((cs.getD i c0).sums.map V.str).length).map fun m => sumC ((cs.getD i c0).sums.getD m Str.empty)) = (cs.getD i c0).sums.map sumC := by rw [List.length_map]; exact rg sumC Str.empty _
        rw [q1] at s1
        have s2 := fun (H7 : Hp) (e7 : Ex H6 H7) => es_lcR1 (te := tTup (tCons (tC (.str "datum")) (tCons (tOp rAdd (tVar 4) (tVar 10)) tNil))) (g := gName 10) (vs := [10]) (ta := tCons (tCB (rLenS K) (tCons (tVar 8) tNil)) tNil) (σ := [some (.ref j), some (.int (i0 : Int)), some (.ref l), some (.ref a), some (.int (firstOf cs i)), some (.ref fo), some (.str (cs.getD i c0).nm), some (.ref (FF i).2.1), some (.ref (FF i).2.2.1), y9, y10, y11, y12, y13, y14, y15]) (H := H7) (n := ((FF i).2.2.2.length : Int))
          (ea_cons (ev_len (ev_var rfl) (sq_of ((ch6.ex e7).dt i lt))) ea_nil) (by rw [(ch6.rp i lt).len, List.length_map]; omega) (fun m => [some (.ref j), some (.int (i0 : Int)), some (.ref l), some (.ref a), some (.int (firstOf cs i)), some (.ref fo), some (.str (cs.getD i c0).nm), some (.ref (FF i).2.1), some (.ref (FF i).2.2.1), y9, some (.int (m : Int)), y11, y12, y13, y14, y15]) (fun m => datC (firstOf cs i + (m : Int))) (fun _ _ => rfl)
          (fun m H5 R hx e5 q => q) (fun m H5 hx e5 => er_tup (era_cons (er_str ev_c) (era_cons (er_int (ev_op (ev_var rfl) (ev_var rfl) rv_I0)) era_nil)) (Nat.le_of_ble_eq_true rfl))
        refine q_asgS (ds := cellsAt cs i) (es_cat8 s1 s2 (by rw [List.length_map, Int.toNat_natCast, (ch6.rp i lt).len, List.length_map, List.length_map, List.length_range]; omega) (by
          unfold cellsAt cellsC
          rw [Int.toNat_natCast, (ch6.rp i lt).len, List.length_map])) fun pp px H7 hpp e7 h7 r7 => ?_
        have ch7 := ch6.ex e7
        refine q_asg (v := .int (firstOf cs (i + 1))) (ev_is (ev_op (ev_var rfl) (ev_len (ev_var rfl) (sq_of (ch7.dt i lt))) rv_I0) (by
          have ef : firstOf cs (i + 1) = firstOf cs i + ((FF i).2.2.2.length : Int) := by
            unfold firstOf
            rw [data_take cs i _ (getc lt), List.length_append, (ch7.rp i lt).len, List.length_map]
            omega
          rw [ef])) fun H8 e8 => ?_
        show tSeq _ _ _ [some (.ref j), some (.int (i0 : Int)), some (.ref l), some (.ref a), some (.int (firstOf cs (i + 1))), some (.ref fo), some (.str (cs.getD i c0).nm), some (.ref (FF i).2.1), some (.ref (FF i).2.2.1), y9, y10, some (.ref pp), y12, y13, y14, y15] H8
        have e38 := (e6.trans e7).trans e8
        have h8 := e8 _ _ h7
        have r8 := r7.ex e8
        have hf8 := (e7.trans e8) _ _ hfi
        have tab8 := tab.keep e38
        have ev1 : ∀ H9, Ex H8 H9 → EvR (tMeth C "cells_of" (spCellsX C CUN) [] (fun _ _ _ => False) (tVar 3) (tCons (tVar 6) tNil)) [some (.ref j), some (.int (i0 : Int)), some (.ref l), some (.ref a), some (.int (firstOf cs (i + 1))), some (.ref fo), some (.str (cs.getD i c0).nm), some (.ref (FF i).2.1), some (.ref (FF i).2.2.1), y9, y10, some (.ref pp), y12, y13, y14, y15] H9 (.tuple (cellsAt cs i)) := fun H9 e9 H1 e Q q => var_ rfl ⟨a, dx, _, rfl, ((e38.trans e9).trans e) _ _ hins, rfl, cons_ (var_ rfl (nil_ ⟨j, a, kd, cs, _, rfl, tab8.keep (e9.trans e), G, .inl ⟨i, lt, rfl, fun z H' e' rz => q z H' e' rz⟩⟩))⟩
        have ev2 : ∀ H9, Ex H8 H9 → EvR (TX.tMethK C "cells_of" (spCellsX C CUN) 1 (fun _ _ _ => False) (tVar 3) (tCons (tVar 6) tNil)) [some (.ref j), some (.int (i0 : Int)), some (.ref l), some (.ref a), some (.int (firstOf cs (i + 1))), some (.ref fo), some (.str (cs.getD i c0).nm), some (.ref (FF i).2.1), some (.ref (FF i).2.2.1), y9, y10, some (.ref pp), y12, y13, y14, y15] H9 (.tuple (cellsAt cs i)) := fun H9 e9 H1 e Q q => var_ rfl ⟨a, dx, _, rfl, ((e38.trans e9).trans e) _ _ hins, rfl, cons_ (var_ rfl (nil_ ⟨rfl, j, a, kd, cs, _, rfl, tab8.keep (e9.trans e), G, .inl ⟨i, lt, rfl, fun z H' e' rz => q z H' e' rz⟩⟩))⟩
        have shw := cells_two8 (fun d hd => cell_ok G (cell_is (List.mem_flatMap.mpr ⟨i, List.mem_range.mpr lt, hd⟩))) lc2
        refine q_when (b := false) (et_is (et_test (ev_op (ev_reprS (K := K) (es_lst (era_cons (ev1 H8 (Ex.refl H8)) (era_cons (ev2 H8 (Ex.refl H8)) era_nil)) (Nat.le_of_ble_eq_true rfl)) shw) (ev_reprS (K := K) (es_rep8 (er_tupleQ (K := K) (eq_var rfl h8 r8))) shw) (rv_ne rfl))) (by rw [decide_eq_true rfl]; rfl)) (fun z => nomatch z) fun _ H9 e9 => ?_
        have npf : pp ≠ fo := fun z => by rw [z, hfi] at hpp; exact nomatch hpp
        have e39 := e38.trans e9
        refine s_forL (K := K) (a := pp) (xs := px) (ev_var rfl) (sq_of (e9 _ _ h8)) (fun m σ' H' => ∃ y12 : Option V, σ' = [some (.ref j), some (.int (i0 : Int)), some (.ref l), some (.ref a), some (.int (firstOf cs (i + 1))), some (.ref fo), some (.str (cs.getD i c0).nm), some (.ref (FF i).2.1), some (.ref (FF i).2.2.1), y9, y10, some (.ref pp), y12, y13, y14, y15] ∧ Ex H3 H' ∧ H' pp = some (.lst px) ∧ Reps H' px (cellsAt cs i) ∧ H' fo = some (.dT (TX.fillR m (fun j => keyOf ((cellsAt cs i).getD j .none)) (fun _ => .str (cs.getD i c0).nm) (TX.fill2 i (fun i => (cellsAt cs i).length) (fun i j => keyOf ((cellsAt cs i).getD j .none)) (fun i _ => .str (cs.getD i c0).nm)))))
          (fun H10 e10 => ⟨_, rfl, e39.trans e10, (e9.trans e10) _ _ h8, r8.ex (e9.trans e10), (e9.trans e10) _ _ hf8⟩) (fun m σ' H' _ ⟨_, _, _, q, _⟩ => sq_of q) ?_ ?_
        · rintro m x σ' H10 hx ⟨y12, rfl, e10, hp10, r10, hf10⟩
          obtain ⟨d, hd, rd⟩ := r10.at hx
          have hm := (List.getElem?_eq_some_iff.mp hd).1
          have ek : (cellsAt cs i).getD m .none = d := by rw [List.getD_eq_getElem?_getD, hd]; rfl
          have dm := List.mem_of_getElem? hd
          have lk : (TX.fillR m (fun j => keyOf ((cellsAt cs i).getD j .none)) (fun _ => V.str (cs.getD i c0).nm) (TX.fill2 i (fun i => (cellsAt cs i).length) (fun i j => keyOf ((cellsAt cs i).getD j .none)) (fun i _ => .str (cs.getD i c0).nm))).length < 100000 := Nat.lt_of_le_of_lt (fillR_len8 _ _ _ _) (by
            have := fill2_len8 cs.length (i := i) (by omega) (n1 := fun i => (cellsAt cs i).length) (fun i hi => cellsAt_len G hi) (fun i j => keyOf ((cellsAt cs i).getD j .none)) (fun i _ => V.str (cs.getD i c0).nm)
            omega)
          refine q_dput08 (p := fo) (d := d) (v := .str (cs.getD i c0).nm) (w := x) (ev_var rfl) (ev_var rfl) (ev_var rfl) (fun H1 e => rd.ex e) (cell_form dm) hf10 lk fun H11 e11 => ?_
          have e12 : Ex H3 (upd H11 fo (.dT (putK (TX.fillR m (fun j => keyOf ((cellsAt cs i).getD j .none)) (fun _ => V.str (cs.getD i c0).nm) (TX.fill2 i (fun i => (cellsAt cs i).length) (fun i j => keyOf ((cellsAt cs i).getD j .none)) (fun i _ => .str (cs.getD i c0).nm))) (keyOf d) (.str (cs.getD i c0).nm)))) := Ex.mut (e10.trans e11) hfo
          have hf12 : (upd H11 fo (.dT (putK (TX.fillR m (fun j => keyOf ((cellsAt cs i).getD j .none)) (fun _ => V.str (cs.getD i c0).nm) (TX.fill2 i (fun i => (cellsAt cs i).length) (fun i j => keyOf ((cellsAt cs i).getD j .none)) (fun i _ => .str (cs.getD i c0).nm))) (keyOf d) (.str (cs.getD i c0).nm)))) fo = some (.dT (TX.fillR (m + 1) (fun j => keyOf ((cellsAt cs i).getD j .none)) (fun _ => V.str (cs.getD i c0).nm) (TX.fill2 i (fun i => (cellsAt cs i).length) (fun i j => keyOf ((cellsAt cs i).getD j .none)) (fun i _ => .str (cs.getD i c0).nm)))) := by
            rw [upd_same, TX.fillR_succ, ek]
          have hp12 := (upd_ne (o := HO.dT (putK (TX.fillR m (fun j => keyOf ((cellsAt cs i).getD j .none)) (fun _ => V.str (cs.getD i c0).nm) (TX.fill2 i (fun i => (cellsAt cs i).length) (fun i j => keyOf ((cellsAt cs i).getD j .none)) (fun i _ => .str (cs.getD i c0).nm))) (keyOf d) (.str (cs.getD i c0).nm))) npf).trans (e11 _ _ hp10)
          have t12 : Tx H10 (upd H11 fo (.dT (putK (TX.fillR m (fun j => keyOf ((cellsAt cs i).getD j .none)) (fun _ => V.str (cs.getD i c0).nm) (TX.fill2 i (fun i => (cellsAt cs i).length) (fun i j => keyOf ((cellsAt cs i).getD j .none)) (fun i _ => .str (cs.getD i c0).nm))) (keyOf d) (.str (cs.getD i c0).nm)))) := fun b ys hb => by
            rw [upd_ne (fun z => by rw [z, hf10] at hb; exact nomatch hb)]
            exact e11 _ _ hb
          generalize upd H11 fo (.dT (putK (TX.fillR m (fun j => keyOf ((cellsAt cs i).getD j .none)) (fun _ => V.str (cs.getD i c0).nm) (TX.fill2 i (fun i => (cellsAt cs i).length) (fun i j => keyOf ((cellsAt cs i).getD j .none)) (fun i _ => .str (cs.getD i c0).nm))) (keyOf d) (.str (cs.getD i c0).nm))) = H12 at e12 hf12 hp12 t12 ⊢
          have r12 := r10.on t12
          have rd12 := rd.on t12
          have tab12 := tab.keep e12
          have c1 : Ev (tMeth C "column_of" (spColX C CUN) [] (fun _ _ _ => False) (tVar 3) (tCons (tVar 12) tNil)) [some (.ref j), some (.int (i0 : Int)), some (.ref l), some (.ref a), some (.int (firstOf cs (i + 1))), some (.ref fo), some (.str (cs.getD i c0).nm), some (.ref (FF i).2.1), some (.ref (FF i).2.2.1), y9, y10, some (.ref pp), some x, y13, y14, y15] H12 (.str (cs.getD i c0).nm) := fun H1 e Q q => var_ rfl ⟨a, dx, _, rfl, (e12.trans e) _ _ hins, rfl, cons_ (var_ rfl (nil_ ⟨j, a, kd, cs, _, rfl, tab12.keep e, G, .inl ⟨i, d, lt, dm, rd12.ex e, fun H' e' => q H' e'⟩⟩))⟩
          have c2 : Ev (TX.tMethK C "column_of" (spColX C CUN) 1 (fun _ _ _ => False) (tVar 3) (tCons (tVar 12) tNil)) [some (.ref j), some (.int (i0 : Int)), some (.ref l), some (.ref a), some (.int (firstOf cs (i + 1))), some (.ref fo), some (.str (cs.getD i c0).nm), some (.ref (FF i).2.1), some (.ref (FF i).2.2.1), y9, y10, some (.ref pp), some x, y13, y14, y15] H12 (.str (cs.getD i c0).nm) := fun H1 e Q q => var_ rfl ⟨a, dx, _, rfl, (e12.trans e) _ _ hins, rfl, cons_ (var_ rfl (nil_ ⟨rfl, j, a, kd, cs, _, rfl, tab12.keep e, G, .inl ⟨i, d, lt, dm, rd12.ex e, fun H' e' => q H' e'⟩⟩))⟩
          have sh : SeqAt.shaped (.list [.str (cs.getD i c0).nm, .str (cs.getD i c0).nm]) = true := shaped_strs (ss := [(cs.getD i c0).nm, (cs.getD i c0).nm]) fun s hs => by
            have e : s = (cs.getD i c0).nm := by simpa using hs
            rw [e]
            exact fun c hc => by have := (name_sg (G.nms _ (List.mem_of_getElem? (getc lt))) c hc).2; omega
          refine s_when (b := false) (et_is (et_test (ev_neS (K := K) (es_lst (era_cons (er_str c1) (era_cons (er_str c2) era_nil)) (Nat.le_of_ble_eq_true rfl)) (es_lst (era_cons (er_str (ev_var rfl)) (era_cons (er_str (ev_var rfl)) era_nil)) (Nat.le_of_ble_eq_true rfl)) sh sh)) (by rw [show PyData.eqv (.list [.str (cs.getD i c0).nm, .str (cs.getD i c0).nm]) (.list [.str (cs.getD i c0).nm, .str (cs.getD i c0).nm]) = true from eqv_strs [(cs.getD i c0).nm, (cs.getD i c0).nm]]; rfl)) (fun z => nomatch z) fun _ H13 e13 => ⟨_, rfl, e12.trans e13, e13 _ _ hp12, r12.ex e13, e13 _ _ hf12⟩
        · rintro σ' H10 ⟨y12, rfl, e10, hp10, r10, hf10⟩
          rw [r8.len] at hf10
          exact ⟨_, _, _, _, _, _, _, _, _, _, rfl, e10, by rw [TX.fill2_succ]; exact hf10⟩
      · rintro σ' H6 ⟨y6, y7, y8, y9, y10, y11, y12, y13, y14, y15, rfl, e6, hf6⟩
        rw [List.length_map, List.length_range] at hf6
        change H6 fo = some (HO.dT (columnD cs)) at hf6
        show tSeq _ _ _ [some (.ref j), some (.int (i0 : Int)), some (.ref l), some (.ref a), some (.int (firstOf cs _)), some (.ref fo), y6, y7, y8, y9, y10, y11, y12, y13, y14, y15] H6
        have ch6 := ch3.ex e6
        obtain ⟨dx2, u1, u2, u3, u4, u6, u9, p2, q2, kv2, g0, g1, g2, g3, g4, g5, ⟨b6, ob6, xs6, hb6a, hb6, _, _, rb6⟩, g7, g9⟩ := (tab.keep e6).ex
        subst hb6a
        refine q_when (b := false) (et_is (et_test (ev_tupD8 (K := K) G rfl hf6 (ev_prop (ev_var rfl) g0 rfl) hb6 rb6)) rfl) (fun z => nomatch z) fun _ H7 e7 => ?_
        have ch7 := ch6.ex e7
        have lcp : 0 < cs.length := List.length_pos_iff.mpr G.ne
        have lsp : 0 < (sumsOf cs).length := List.length_pos_iff.mpr G.sne
        refine q_par (cons_ (ev_ (ev_ixS8 (K := K) (es_pc (R := rTagsL) (ea_cons (ev_var rfl) ea_nil) fun H8 e8 => ⟨l, kd, cs, rfl, ⟨j, fa, FF, ch7.ex e8⟩, G, rfl⟩) lsp) fun H8 e8 => cons_ (ev_ (ev_op (ev_op (ev_op (ev_var rfl) ev_c (rv_ixL (K := K) (sq_of (ch7.ex e8).hl) at_one)) ev_c (rv_ixL (K := K) (sq_of (ch7.ex e8).hf) (atI_nat (j := 0) (by rw [List.getElem?_map, List.getElem?_range lcp]; rfl)))) ev_c (rv_ixL (K := K) (sq_of ((ch7.ex e8).col 0 lcp)) rfl)) fun H9 e9 => nil_ ⟨_, _, rfl, ?_⟩)))
        have ez := ((e6.trans e7).trans e8).trans e9
        have jz := j3.ex ez
        have tabz := tab.keep ez
        have tbz := tb3.ext ez
        have bz : But j H1 H9 := b13.trans (But.ex ez)
        obtain ⟨w0, hw0⟩ : ∃ w, w = (sumsOf cs).getD 0 Str.empty := ⟨_, rfl⟩
        obtain ⟨l0, hl0⟩ : ∃ w, w = (cs.getD 0 c0).nm := ⟨_, rfl⟩
        have nN : firstOf cs cs.length = ((dataOf cs).length : Int) := by unfold firstOf; rw [List.take_length]
        rw [List.length_map, List.length_range, nN, ← hw0, ← hl0]
        have nw : isName w0 = true := by
          have m : w0 ∈ sumsOf cs := by rw [hw0, List.getD_eq_getElem?_getD, List.getElem?_eq_getElem lsp]; exact List.getElem_mem lsp
          obtain ⟨c, hc, hm⟩ := List.mem_flatMap.mp m
          exact G.sms c hc _ hm
        have nl0 : isName l0 = true := by
          rw [hl0]
          exact G.nms _ (List.mem_of_getElem? (getc lcp))
        have noE : ∀ c ∈ cs, c.nm ≠ ("" : Str) := fun c hc e => by
          have q := G.nms c hc
          rw [e] at q
          exact absurd q (by decide +kernel)
        have dl := G.dlen
        have smN : Small8 (.tuple [.str "datum", .int ((dataOf cs).length : Int)]) := sm8_ok (sm_num _ (by omega))
        clear tab ch6 ch7 ch3 ch5 g0 g1 g2 g3 g4 g5 g7 g9 hf6 rb6 hb6
        show tSeq _ _ _ [some (.ref j), some (.int (i0 : Int)), some (.ref l), some (.ref a), some (.int ((dataOf cs).length : Int)), some (.ref fo), some (.str l0), y7, y8, some (.str w0), y10, y11, y12, y13, y14, y15] H9
        refine q_asgO (anyl_ (P := P8 K j cs) p8_ex (n := 10) (anya_cons p8_ex (anye_ev ev_c fun H => ⟨_, odd_rep .non (by decide +kernel) (sm8_ok sm_consts.1) (.ty .non (by decide)) .non (fun z => absurd z (by decide))⟩) (anya_cons p8_ex (anye_ev ev_c fun H => ⟨_, odd_rep (.str _) (by decide +kernel) (sm8_ok sm_consts.2.1) (.ty (.str _) (by decide)) (.str _) fun _ => ⟨_, rfl, noE⟩⟩) (anya_cons p8_ex (anye_ev ev_c fun H => ⟨_, odd_rep (.str _) (by decide +kernel) (sm8_ok sm_consts.2.2.1) (.ty (.str _) (by decide)) (.str _) fun _ => ⟨_, rfl, nb.2⟩⟩) (anya_cons p8_ex (anye_ev ev_c fun H => ⟨_, odd_rep (.int _) (by decide +kernel) (sm8_ok sm_consts.2.2.2.1) (.ty (.int _) (by decide)) (.int _) (fun z => absurd z (by decide))⟩) (anya_cons p8_ex (anye_tup8 (ea_cons ev_c ea_nil) (Nat.le_of_ble_eq_true rfl) fun p H2 e h => tup8 h (.cons (.str _) .nil) (by decide +kernel) (sm8_ok sm_consts.2.2.2.2.1) (.len h (by simp))) (anya_cons p8_ex (anye_tup8 (ea_cons ev_c (ea_cons ev_c ea_nil)) (Nat.le_of_ble_eq_true rfl) fun p H2 e h => tup8 h (.cons (.str _) (.cons (.str _) .nil)) (by decide +kernel) (sm8_ok sm_consts.2.2.2.2.2.1) (.sum h (.str _) fun _ => ⟨_, rfl, nb.1⟩)) (anya_cons p8_ex (anye_lst8 jz (ea_cons ev_c (ea_cons (ev_var rfl) ea_nil)) (Nat.le_of_ble_eq_true rfl) fun p H2 e h n => ⟨_, odd_lst (ss := ["sum", w0]) h n (sm_names nw).2.2.1 (by simp [PyData.hasDict, PyData.hasDictAll])⟩) (anya_cons p8_ex (anye_tup8 (ea_cons ev_c (ea_cons (ev_var rfl) ea_nil)) (Nat.le_of_ble_eq_true rfl) fun p H2 e h => tup8 h (.cons (.str _) (.cons (.int _) .nil)) (by simp [PyData.hasDict, PyData.hasDictAll]) smN (.datum h (.int _) fun _ => ⟨_, rfl, by omega⟩)) (anya_cons p8_ex (fun H1 e Q q p hp => q (.ref p) _ (Ex.new hp) ⟨_, odd_dic upd_same⟩) (anya_cons p8_ex (anye_lst8 jz (ea_cons (ev_var rfl) ea_nil) (Nat.le_of_ble_eq_true rfl) fun p H2 e h n => ⟨_, odd_lst (ss := [l0]) h n (sm_names nl0).2.1 (by simp [PyData.hasDict, PyData.hasDictAll])⟩) anya_nil)))))))))) (by decide) fun q1 x1 HA hq1 eA hA lA aA => ?_)
        have jA := jz.ex eA
        refine q_asgO (show tOp rCat (tVar 13) (tLst _) _ HA _ from op_ (var_ rfl (anyl_ (P := P8 K j cs) p8_ex (n := 6) (anya_cons p8_ex (anye_tup8 (ea_cons ev_c (ea_cons ev_c ea_nil)) (Nat.le_of_ble_eq_true rfl) fun p H2 e h => tup8 h (.cons (.str _) (.cons (.bl _) .nil)) (by decide +kernel) (sm8_ok sm_consts.2.2.2.2.2.2.2.1) (.datum h (.bl _) (fun z => absurd z (by decide)))) (anya_cons p8_ex (anye_tup8 (ea_cons ev_c (ea_cons ev_c ea_nil)) (Nat.le_of_ble_eq_true rfl) fun p H2 e h => tup8 h (.cons (.str _) (.cons (.str _) .nil)) (by decide +kernel) (sm8_ok sm_consts.2.2.2.2.2.2.2.2.1) (.datum h (.str _) (fun z => absurd z (by decide)))) (anya_cons p8_ex (anye_tup8 (ea_cons ev_c (ea_cons (ev_var rfl) ea_nil)) (Nat.le_of_ble_eq_true rfl) fun p H2 e h => tup8 h (.cons (.str _) (.cons (.str _) .nil)) (by simp [PyData.hasDict, PyData.hasDictAll]) (sm_names nw).2.2.2.1 (.word h (by decide) (by decide))) (anya_cons p8_ex (anye_tup8 (ea_cons ev_c (ea_cons (ev_var rfl) ea_nil)) (Nat.le_of_ble_eq_true rfl) fun p H2 e h => tup8 h (.cons (.str _) (.cons (.str _) .nil)) (by simp [PyData.hasDict, PyData.hasDictAll]) (sm_names nw).2.2.2.2.1 (.word h (by decide) (by decide))) (anya_cons p8_ex (anye_tup8 (ea_cons ev_c (ea_cons (ev_var rfl) (ea_cons ev_c ea_nil))) (Nat.le_of_ble_eq_true rfl) fun p H2 e h => tup8 h (.cons (.str _) (.cons (.str _) (.cons (.int _) .nil))) (by simp [PyData.hasDict, PyData.hasDictAll]) (sm_names nw).2.2.2.2.2 (.len h (by simp))) (anya_cons p8_ex (fun H1 e Q q => consC_ (cons_ (lst_ (nil_ ⟨Nat.zero_le _, fun l hl => nil_ ⟨Nat.le_of_ble_eq_true rfl, fun p hp => q (.ref p) _ ((Ex.new hl).trans (Ex.new hp)) ⟨_, odd_tupL upd_same ((Ex.new hp : Ex _ (upd (upd H1 l (.lst [])) p (.tup [.str "sum", .ref l]))) _ _ upd_same) ((jA.ex e).ne hl)⟩⟩⟩)))) anya_nil)))))) (by decide) fun q2 x2 HB hq2 eB hB lB aB => ⟨q1, q2, _, _, rfl, rfl, eB _ _ hA, hB, sz_of (by omega), fun q3 hq3 => ?_⟩)))
        have aAB : ∀ x ∈ x1 ++ x2, P8 K j cs HB x := fun x hx => by
          rcases List.mem_append.mp hx with h | h
          · exact p8_ex _ _ _ (aA x h) eB
          · exact aB x h
        have lAB : (x1 ++ x2).length = 16 := by rw [List.length_append, lA, lB]
        have hC : (upd HB q3 (.lst (x1 ++ x2))) q3 = some (.lst (x1 ++ x2)) := upd_same
        have eBC : Ex HB (upd HB q3 (.lst (x1 ++ x2))) := Ex.new hq3
        generalize upd HB q3 (.lst (x1 ++ x2)) = HC at hC eBC ⊢
        refine q_app7 (K := K) (i := 13) (q := q3) rfl hC (consC_ (cons_ (ev_ (ev_un ev_c ru_neg) fun HC1 eC1 => nil_ ⟨Nat.le_of_ble_eq_true rfl, fun p0 hp0 => ⟨x1 ++ x2, (Ex.new hp0 : Ex HC1 (upd HC1 p0 (.tup [.str "datum", .int (-1)]))) _ _ (eC1 _ _ hC), sz_lt (by omega), ?_⟩⟩)))
        have n03 : p0 ≠ q3 := fun z => by
          rw [z, eC1 _ _ hC] at hp0
          exact nomatch hp0
        have eBE : Ex HB (upd (upd HC1 p0 (.tup [.str "datum", .int (-1)])) q3 (.lst ((x1 ++ x2) ++ [.ref p0]))) := Ex.mut ((eBC.trans eC1).trans (Ex.new hp0)) hq3
        have h0E : (upd (upd HC1 p0 (.tup [.str "datum", .int (-1)])) q3 (.lst ((x1 ++ x2) ++ [.ref p0]))) p0 = some (.tup [.str "datum", .int (-1)]) := (upd_ne n03).trans upd_same
        have hE : (upd (upd HC1 p0 (.tup [.str "datum", .int (-1)])) q3 (.lst ((x1 ++ x2) ++ [.ref p0]))) q3 = some (.lst ((x1 ++ x2) ++ [.ref p0])) := upd_same
        generalize upd (upd HC1 p0 (.tup [.str "datum", .int (-1)])) q3 (.lst ((x1 ++ x2) ++ [.ref p0])) = HE at eBE h0E hE ⊢
        have aE : ∀ x ∈ (x1 ++ x2) ++ [.ref p0], P8 K j cs HE x := fun x hx => by
          rcases List.mem_append.mp hx with h | h
          · exact p8_ex _ _ _ (aAB x h) eBE
          · rw [List.mem_singleton.mp h]
            exact tup8 h0E (.cons (.str _) (.cons (.int _) .nil)) (by decide +kernel) (sm8_ok sm_consts.2.2.2.2.2.2.2.2.2.2.1) (.datum h0E (.int _) fun _ => ⟨_, rfl, by omega⟩)
        have eZE := (eA.trans eB).trans eBE
        refine (show tOp rCat (tVar 13) (tLst _) _ HE _ from op_ (var_ rfl (anyl_ (P := P8 K j cs) p8_ex (n := 2) (anya_cons p8_ex (anye_tup8 (ea_cons (ev_var rfl) ea_nil) (Nat.le_of_ble_eq_true rfl) fun p H2 e h => tup8 h (.cons (.str _) .nil) (by simp [PyData.hasDict, PyData.hasDictAll]) (sm_names nl0).1 (.len h (by simp))) (anya_cons p8_ex (anye_tup8 (ea_cons ev_c (ea_cons ev_c ea_nil)) (Nat.le_of_ble_eq_true rfl) fun p H2 e h => tup8 h (.cons (.str _) (.cons (.non) .nil)) (by decide +kernel) (sm8_ok sm_consts.2.2.2.2.2.2.2.2.2.2.2) (.datum h .non (fun z => absurd z (by decide)))) anya_nil)) (by decide) fun q4 x4 HF hq4 eF hF lF aF => ⟨q3, q4, _, _, rfl, rfl, eF _ _ hE, hF, sz_of (by rw [List.length_append, List.length_singleton]; omega), fun q5 hq5 => ?_⟩)))
        have e5 : Ex HF (upd HF q5 (.lst (((x1 ++ x2) ++ [.ref p0]) ++ x4))) := Ex.new hq5
        have h5 : (upd HF q5 (.lst (((x1 ++ x2) ++ [.ref p0]) ++ x4))) q5 = some (.lst (((x1 ++ x2) ++ [.ref p0]) ++ x4)) := upd_same
        have a5 : ∀ x ∈ ((x1 ++ x2) ++ [.ref p0]) ++ x4, P8 K j cs (upd HF q5 (.lst (((x1 ++ x2) ++ [.ref p0]) ++ x4))) x := fun x hx => by
          rcases List.mem_append.mp hx with h | h
          · exact p8_ex _ _ _ (aE x h) (eF.trans e5)
          · exact p8_ex _ _ _ (aF x h) e5
        obtain ⟨XS, hXS⟩ : ∃ XS, XS = ((x1 ++ x2) ++ [.ref p0]) ++ x4 := ⟨_, rfl⟩
        rw [← hXS] at e5 h5 a5 ⊢
        have eZ5 := (eZE.trans eF).trans e5
        generalize upd HF q5 (.lst XS) = HG at e5 h5 a5 eZ5 ⊢
        refine ⟨q5, rfl, ⟨_, sq_of h5⟩, for_list (K := K) (a := q5) (xs := XS) (fun m σ' H' => ∃ y14 y15 : Option V, σ' = [some (.ref j), some (.int (i0 : Int)), some (.ref l), some (.ref a), some (.int ((dataOf cs).length : Int)), some (.ref fo), some (.str l0), y7, y8, some (.str w0), y10, y11, y12, some (.ref q3), y14, y15] ∧ ExtN HG H' ∧ TabS H' tb qLam) ⟨_, _, rfl, ExtN.refl HG, tbz.ext eZ5⟩ (fun m σ' H' _ ⟨_, _, _, q, _⟩ => sq_of (extN_lst q h5)) ?_ ?_⟩
        · rintro m x σ' HI hx ⟨y14, y15, rfl, eI, tI⟩
          show tSeq _ _ _ [some (.ref j), some (.int (i0 : Int)), some (.ref l), some (.ref a), some (.int ((dataOf cs).length : Int)), some (.ref fo), some (.str l0), y7, y8, some (.str w0), y10, y11, y12, some (.ref q3), some x, y15] HI
          obtain ⟨d, od⟩ := p8_exN (a5 x (List.mem_of_getElem? hx)) eI
          have tabI := (tabz.keep eZ5).keepN eI
          refine q_asgO (show tLst _ _ HI _ from cons_ (heard8_ (K := K) (v := x) (d := d) od.sh tI (fun HA eA E Q' r => ?lamc) fun p1 HJ eJ tJ h1 => nil_ ⟨Nat.le_of_ble_eq_true rfl, fun q6 hq6 => ?_⟩))
          case lamc =>
            have tabA := tabI.keepN eA
            obtain ⟨dxA, u1, u2, u3, u4, u6, u9, p2, q2, kv2, g0, _⟩ := tabA.ex
            exact var_ rfl ⟨a, dxA, _, rfl, g0, rfl, cons_ (var_ rfl (nil_ ⟨j, a, kd, cs, x, rfl, tabA, G, .inr ⟨od.cell HA eA, r⟩⟩))⟩
          have e6' : Ex HJ (upd HJ q6 (.lst [.ref p1])) := Ex.new hq6
          have h6 : (upd HJ q6 (.lst [.ref p1])) q6 = some (.lst [.ref p1]) := upd_same
          have n16 : p1 ≠ q6 := fun z => by rw [z, hq6] at h1; exact nomatch h1
          have h1' := e6' _ _ h1
          have tJ' := tJ.ext e6'
          obtain ⟨HK, hHK⟩ : ∃ HK, HK = upd HJ q6 (.lst [.ref p1]) := ⟨_, rfl⟩
          rw [← hHK] at e6' h6 h1' tJ' ⊢
          have eJK : ExtN HI HK := eJ.trans (ExtN.of e6')
          refine q_app7 (K := K) (i := 15) (q := q6) rfl h6 (heard8_ (K := K) (v := x) (d := d) (od.exN eJK).sh tJ' (fun HA eA E Q' r => ?lamd) fun p7 HL eL tL h7 => ⟨[.ref p1], extN_lst eL h6, sz_lt (by show 1 < 100000; decide), ?_⟩)
          case lamd =>
            have tabA := (tabI.keepN eJK).keepN eA
            obtain ⟨dxA, u1, u2, u3, u4, u6, u9, p2, q2, kv2, g0, _⟩ := tabA.ex
            exact var_ rfl ⟨a, dxA, _, rfl, g0, rfl, cons_ (var_ rfl (nil_ ⟨j, a, kd, cs, x, rfl, tabA, G, .inr ⟨od.name HA (eJK.trans eA), r⟩⟩))⟩
          have h6L : HL q6 = some (.lst [.ref p1]) := extN_lst eL h6
          have n76 : p7 ≠ q6 := fun z => by
            rw [z, h6L] at h7
            injection h7 with h; injection h with h; injection h with h
            exact nomatch h
          have eM : ExtN HI (upd HL q6 (.lst ([.ref p1] ++ [.ref p7]))) := fun c o h n => by
            have hc := eJ c o h n
            have : c ≠ q6 := fun z => by rw [z, hq6] at hc; exact nomatch hc
            rw [upd_ne this]
            exact eL c o (e6' c o hc) n
          have tM : TabS (upd HL q6 (.lst ([.ref p1] ++ [.ref p7]))) tb qLam := tabs_put tL h6L
          have hq : (upd HL q6 (.lst ([.ref p1] ++ [.ref p7]))) q6 = some (.lst [.ref p1, .ref p7]) := upd_same
          have hp1 : (upd HL q6 (.lst ([.ref p1] ++ [.ref p7]))) p1 = some (.lst [.str "name", .str d.shown]) := (upd_ne n16).trans (extN_lst eL h1')
          have hp7 : (upd HL q6 (.lst ([.ref p1] ++ [.ref p7]))) p7 = some (.lst [.str "name", .str d.shown]) := (upd_ne n76).trans h7
          generalize upd HL q6 (.lst ([.ref p1] ++ [.ref p7])) = HM at eM tM hq hp1 hp7 ⊢
          have odM := od.exN eM
          exact s_when (b := false) (et_is (et_test (ev_neN8 (K := K) (x := x) (d := d) rfl rfl hq hp1 hp7 (fun H1 e1 => odM.sh H1 (ExtN.of e1)) odM.sg)) rfl) (fun z => nomatch z) fun _ HN eN => ⟨_, _, rfl, (eI.trans eM).trans (ExtN.of eN), tM.ext eN⟩
        · rintro σ' HI ⟨y14, y15, rfl, eI, tI⟩
          exact ⟨_, _, _, _, _, _, _, _, _, _, _, _, _, _, _, rfl, (jz.ex eZ5).exN eI, bZ.trans ((ButN.of (bz.trans (But.ex eZ5))).trans (ButN.exN eI)), tI⟩
    · rintro σ' H14 ⟨y1, y2, y3, y4, y5, y6, y7, y8, y9, y10, y11, y12, y13, y14, y15, rfl, j14, b14, tb14⟩
      exact s_ret ev_c fun H15 e15 => k H15 (b14.trans (ButN.of (But.ex e15))) (tb14.ext e15)
end
end K08
end
section
set_option Elab.async false
set_option linter.all false
set_option maxRecDepth 100000
set_option maxHeartbeats 4000000
namespace K08
open PySem PySem.Spec PyProof.Rows L2 Evl TX
open C8 (Cal pe_c pe_gc)
open RP GL
def spLawT (K : PySem.W.Frag) (tb : Addr) : Sp := fun vs H Q _ => ∃ (a : Addr) (ns : List Int), vs = [.ref a] ∧ SqL K H a (ns.map V.int) ∧ ns.length ≤ 63 ∧ H tb = some (.tbl #[]) ∧ ∀ H', Q (.bl true) H'
theorem sqN {K : PySem.W.Frag} {H H' : Hp} {a : Addr} {xs : List V} (e : LamX.ExtN H H') (h : SqL K H a xs) : SqL K H' a xs := by
  rcases h with (h | ⟨o, h⟩) | h
  · exact .inl (.inl (e _ _ h fun _ z => nomatch z))
  · exact .inl (.inr ⟨o, e _ _ h fun _ z => nomatch z⟩)
  · exact .inr h
section
variable {K : PySem.W.Frag} {σ : L2.St} {H : Hp}
theorem turnT {a tb : Addr} {ns : List Int} {t : Int} {i j : Nat} {E1 E2 : XK} {Q : VK} (h0 : σ[i]? = some (some (.ref a))) (h1 : σ[j]? = some (some (.int t))) (ha : SqL K H a (ns.map V.int)) (hn : ns.length ≤ 63) (ht : 0 ≤ t ∧ t < 1000) (tt : LamX.TabS H tb qLam)
    (q : ∀ H3, LamX.ExtN H H3 → LamX.TabS H3 tb qLam → Q (.bl true) H3) : tCall (spRightT tb) [] E1 (tCons (tCall (spJar K) [] E2 (tCons (tVar i) (tCons (tVar j) tNil))) tNil) σ H Q :=
  ⟨.ref a, h0, .int t, h1, a, ns, t, rfl, ha, hn, ht.1, ht.2, fun p H2 n2 s2 hj => ⟨p, rfl, hj, tt.ext s2, fun H3 b3 t3 => q H3 (fun b o hb n => b3 b o (fun z => by
    rw [z, n2] at hb
    cases hb) (s2 b o hb) n) t3⟩⟩
end
section
variable {P : Program} {w : World} {K : PySem.W.Frag} {mg : Str → Option Value} {base : Heap} {f : Addr} {fd : FuncData}
variable {tb : Addr}
abbrev sc_law_N : List Str := ["_law_cells", "_law_turn"]
theorem sc_law : FnScope sc_law_N ["_law_cells"] (defScope s_law) := ⟨rfl, rfl, rfl, by decide +kernel, rfl, by decide +kernel, by decide +kernel⟩
theorem ok_law (F : FnP K "law" s_law f fd) (T : Tops mg) (C_law_jar : Cal P w K mg base 1 "_law_jar" (spJar K) []) (C_law_right : CalG P w K mg base 14 "_law_right" (spRightT tb)) : GL.FnG P w K mg base CX0 15 f fd ["_law_cells"] (spLawT K tb) := by
  refine GL.FnG.body F sc_law (fun vs H Q E h => ?_) (fun cdv A outer s H vs Q E g hr h => ?_)
  · obtain ⟨a, ns, rfl, _⟩ := h
    rfl
  · obtain ⟨a, ns, rfl, ha, hn, ht, k⟩ := h
    refine ⟨_, PSs.nox (pss_one (ps_ret (pe_callB (cr_all rfl) (by rfl) T.n_all (by decide +kernel) (pa_cons (pe_lc (own := [("_law_turn", 1)]) (g := gName 1) (tt := tYes) rfl sc_law.nd (pi_range1 rfl T.n_range (pa_cons (pe_callB (call_max2 rfl) (by rfl) T.n_max (by decide +kernel) (pa_cons pe_int (pa_cons (pe_callB (call_min2 rfl) (by rfl) T.n_min (by decide +kernel) (pa_cons (pe_callB call_len_seq (by rfl) T.n_len PySem.boot_len (pa_cons (pv 0) pa_nil)) (pa_cons pe_int pa_nil))) pa_nil))) pa_nil)) (blkOk_by (own := [("_law_turn", 1)]) (N := sc_law_N) (sc := defScope s_law) (by decide +kernel)) (fun _ _ _ _ _ => (pg_name (i := 1) sc_law.nd rfl (.inl rfl))) (fun _ _ _ _ _ => pts_nil) (fun _ _ _ _ _ => (pe_cg C_law_right g hr (by decide) rfl pass0 (pa_cons (pe_c C_law_jar hr (by decide) rfl (pa_cons (pv 0) (pa_cons (pv 1) pa_nil))) pa_nil)))) pa_nil)))), ?_⟩
    have hN : ∃ n : Int, n = (if (if (6 : Int) < (ns.length : Int) then 6 else (ns.length : Int)) > 2 then (if (6 : Int) < (ns.length : Int) then 6 else (ns.length : Int)) else 2) ∧ 0 ≤ n ∧ n ≤ 6 := ⟨_, rfl, by split <;> split <;> omega, by split <;> split <;> omega⟩
    obtain ⟨n, en, hn0, hn6⟩ := hN
    have hEn : EvA (tCons (tCB (fun xs H Q => ∃ i j, xs = [V.int i, V.int j] ∧ Q (.int (if j > i then j else i)) H) (tCons (tC (.int 2)) (tCons (tCB (fun xs H Q => ∃ i j, xs = [V.int i, V.int j] ∧ Q (.int (if j < i then j else i)) H) (tCons (tCB (rLenS K) (tCons (tVar 0) tNil)) (tCons (tC (.int 6)) tNil))) tNil))) tNil) [some (V.ref a), none] H [.int n] := by
      rw [en]
      exact ea_cons (ev_cb (ea_cons ev_c (ea_cons (ev_cb (ea_cons (ev_len (ev_var rfl) ha) (ea_cons ev_c ea_nil)) fun H1 e Q q => ⟨_, _, rfl, by rw [List.length_map]; exact q H1 (Ex.refl H1)⟩) ea_nil)) fun H1 e Q q => ⟨_, _, rfl, q H1 (Ex.refl H1)⟩) ea_nil
    have tb0 : LamX.TabS H tb qLam := LamX.TabS.nil ht
    show tCB (rAll K) (tCons (tLc (iRng1 _) (gName 1) tYes (tCall (spRightT tb) [] _ (tCons (tCall (spJar K) [] _ (tCons (tVar 0) (tCons (tVar 1) tNil))) tNil)) [1]) tNil) [some (V.ref a), none] H Q
    refine cons_ ?_
    unfold tLc iRng1
    refine hEn H (Ex.refl H) _ fun H1 e1 => ⟨n, rfl, by omega, by omega, fun Dl hD => ?_⟩
    refine lc_it (walk_range (lo := 0) (n := n.toNat)) (fun i H' => LamX.ExtN H H' ∧ LamX.TabS H' tb qLam ∧ H' Dl = some (.lst ((List.replicate i true).map V.bl))) ⟨LamX.ExtN.of (e1.trans (Ex.new hD)), tb0.ext (e1.trans (Ex.new hD)), upd_same⟩ (fun i H' _ _ => True.intro) (fun q x H' H2 hq ⟨eN, tN, hd⟩ hy => ?_) (fun H' ⟨eN, tN, hd⟩ => nil_ ⟨Dl, _, rfl, .inl (.inl hd), ?_⟩)
    · obtain ⟨rfl, rfl⟩ := hy
      refine ⟨rfl, ?_⟩
      show tCall (spRightT tb) [] _ (tCons (tCall (spJar K) [] _ (tCons (tVar 0) (tCons (tVar 1) tNil))) tNil) [some (.ref a), some (.int (0 + (q : Int)))] _ _
      refine turnT (i := 0) (j := 1) rfl rfl (sqN eN ha) hn ⟨by omega, by omega⟩ tN fun H3 e3 t3 => ?_
      have hd3 := extN_lst e3 hd
      have nD := fresh_back e1 hD
      refine ⟨_, hd3, sz_lt (by rw [List.length_map, List.length_replicate]; omega), fun b o hb nb => ?_, tabs_put t3 hd3, by rw [upd_same, List.replicate_succ', List.map_append]; rfl⟩
      rw [upd_ne (fun z => by rw [z, nD] at hb; exact nomatch hb)]
      exact (eN.trans e3) b o hb nb
    · have e : (List.replicate n.toNat true).all id = true := by rw [List.all_eq_true]; intro x hx; rw [(List.mem_replicate.mp hx).2]; rfl
      rw [e]
      exact k H'
end
end K08
end
section
set_option Elab.async false
set_option linter.all false
set_option maxRecDepth 100000
set_option maxHeartbeats 0
namespace K08
open PySem PySem.Spec PyProof.Rows L2 Evl TX
open C8 (Cal pe_c pe_gc)
open GL
section
variable {P : Program} {w : World} {K : PySem.W.Frag} {mg : Str → Option Value} {base h : Heap}
theorem tops_of (X : K.In h) (G : h.Ns mainGlobals mg) (c : He.SaysD fa fn K) : Tops mg where
  n_len := He.free_ok X G (c.fact 24 (f := .free "len") rfl)
  n_int := He.free_ok X G (c.fact 25 (f := .free "int") rfl)
  n_bool := He.free_ok X G (c.fact 26 (f := .free "bool") rfl)
  n_str := He.free_ok X G (c.fact 27 (f := .free "str") rfl)
  n_tuple := He.free_ok X G (c.fact 28 (f := .free "tuple") rfl)
  n_list := He.free_ok X G (c.fact 29 (f := .free "list") rfl)
  n_dict := He.free_ok X G (c.fact 30 (f := .free "dict") rfl)
  n_set := He.free_ok X G (c.fact 31 (f := .free "set") rfl)
  n_abs := He.free_ok X G (c.fact 32 (f := .free "abs") rfl)
  n_divmod := He.free_ok X G (c.fact 33 (f := .free "divmod") rfl)
  n_isinstance := He.free_ok X G (c.fact 34 (f := .free "isinstance") rfl)
  n_repr := He.free_ok X G (c.fact 35 (f := .free "repr") rfl)
  n_range := He.free_ok X G (c.fact 36 (f := .free "range") rfl)
  n_enumerate := He.free_ok X G (c.fact 37 (f := .free "enumerate") rfl)
  n_zip := He.free_ok X G (c.fact 38 (f := .free "zip") rfl)
  n_all := He.free_ok X G (c.fact 39 (f := .free "all") rfl)
  n_any := He.free_ok X G (c.fact 40 (f := .free "any") rfl)
  n_min := He.free_ok X G (c.fact 41 (f := .free "min") rfl)
  n_max := He.free_ok X G (c.fact 42 (f := .free "max") rfl)
  n_sum := He.free_ok X G (c.fact 43 (f := .free "sum") rfl)
  c_MOST_LETTERS := let ⟨t, e⟩ := He.int_ok X G (c.fact 44 (f := .int "MOST_LETTERS" 8) rfl); ⟨_, e, ⟨t, rfl⟩⟩
  c_MOST_COLUMNS := let ⟨t, e⟩ := He.int_ok X G (c.fact 45 (f := .int "MOST_COLUMNS" 8) rfl); ⟨_, e, ⟨t, rfl⟩⟩
  c_MOST_SUMS := let ⟨t, e⟩ := He.int_ok X G (c.fact 46 (f := .int "MOST_SUMS" 10) rfl); ⟨_, e, ⟨t, rfl⟩⟩
  c_MOST_DATA := let ⟨t, e⟩ := He.int_ok X G (c.fact 47 (f := .int "MOST_DATA" 24) rfl); ⟨_, e, ⟨t, rfl⟩⟩
  c_MOST_DIAL := let ⟨t, e⟩ := He.int_ok X G (c.fact 48 (f := .int "MOST_DIAL" 1000000000) rfl); ⟨_, e, ⟨t, rfl⟩⟩
  c_LEAST_DIAL := let ⟨t, e⟩ := He.int_ok X G (c.fact 49 (f := .int "LEAST_DIAL" 3) rfl); ⟨_, e, ⟨t, rfl⟩⟩
  c_BITS := let ⟨t, e⟩ := He.str_ok X G (c.fact 50 (f := .str "BITS" "bits") rfl); ⟨_, e, ⟨t, rfl⟩⟩
  c_PLAIN := let ⟨t, e⟩ := He.str_ok X G (c.fact 51 (f := .str "PLAIN" "plain") rfl); ⟨_, e, ⟨t, rfl⟩⟩
theorem clt_of (c : He.SaysD fa fn K) : ClT K (He.ga K "Table") := by
  refine ⟨He.cls_ok (c.fact 52 (f := .cls "Table") rfl), fun f hf => ?_⟩
  have hf2 : f ∈ (["_kind", "_columns", "_names", "_sums", "_data", "_cells_of", "_cells", "_column_of", "_lines"] : List Str) := hf
  simp only [List.mem_cons, List.not_mem_nil, or_false] at hf2
  rcases hf2 with rfl | rfl | rfl | rfl | rfl | rfl | rfl | rfl | rfl
  · exact He.noat_ok (c.fact 53 (f := .noat "Table" "_kind") rfl)
  · exact He.noat_ok (c.fact 54 (f := .noat "Table" "_columns") rfl)
  · exact He.noat_ok (c.fact 55 (f := .noat "Table" "_names") rfl)
  · exact He.noat_ok (c.fact 56 (f := .noat "Table" "_sums") rfl)
  · exact He.noat_ok (c.fact 57 (f := .noat "Table" "_data") rfl)
  · exact He.noat_ok (c.fact 58 (f := .noat "Table" "_cells_of") rfl)
  · exact He.noat_ok (c.fact 59 (f := .noat "Table" "_cells") rfl)
  · exact He.noat_ok (c.fact 60 (f := .noat "Table" "_column_of") rfl)
  · exact He.noat_ok (c.fact 61 (f := .noat "Table" "_lines") rfl)
theorem cal_of {x : Str} {params : Arguments} {body : List Stmt} {scope : Scope} {k : Nat} {ps : List Str} {sp : Sp} {f : Addr} {fd : FuncData} (j : Nat) (F : FunD K x x params body scope [] [] f fd) (O : FnOk P w K mg base CX0 k f fd ps sp) (hg : mg x = some (.ref f)) (hk : k ≤ j)
    (hb : ∀ (kV doc pm : Value) (an : Option Addr) (cdv ct : Value) (us : List Value), us.length = ps.length → bindArgs (PySem.W.fnOf x x params body scope .none kV doc pm an cdv ct) ⟨us, []⟩ = pure (ps.zip us)) : Cal P w K mg base j x sp [] :=
  ⟨f, fd, ps, [], O.mono hk, hg, F.kp, F.bindsN hb, .nil⟩
theorem pr_of {m q f : Str} {st : Stmt} {p1 p2 p3 : Pos} {k : Nat} (b : prB K m q = true) (e : prV K m = prVal (m, q, st)) (S : FnScope ["self"] ["self"] (defScope st)) (hb : defBody st = [.Return (some (.Attribute (.Name "self" p1) f p2)) p3]) (c : Cls K (He.ga K "Table")) (n : NoAttr K (He.ga K "Table") f)
    (hbi : ∀ (kV doc pm : Value) (an : Option Addr) (cdv ct : Value) (us : List Value), us.length = 1 → bindArgs (PySem.W.fnOf m q (defArgs st) (defBody st) (defScope st) .none kV doc pm an cdv ct) ⟨us, []⟩ = pure ((["self"] : List Str).zip us)) : Prp P w K mg base 1 (He.ga K "Table") m (getSp (He.ga K "Table") f) := by
  obtain ⟨b1, b⟩ := Bool.and_eq_true_iff.mp b
  obtain ⟨b2, b⟩ := Bool.and_eq_true_iff.mp b
  obtain ⟨b3, b⟩ := Bool.and_eq_true_iff.mp b
  obtain ⟨b4, b5⟩ := Bool.and_eq_true_iff.mp b
  have hrec : ∃ rest, PySem.W.recIn K (He.ma K (He.ga K "Table") m) "property" = some (.ref (gAd K m) :: rest) := by
    unfold gAd
    cases r : PySem.W.recIn K (He.ma K (He.ga K "Table") m) "property" with
    | none => rw [r] at b4; cases b4
    | some l =>
      rw [r] at b4
      cases l with
      | nil => cases b4
      | cons v l => cases v with
        | ref g => exact ⟨l, rfl⟩
        | _ => cases b4
  unfold prV at e
  cases q2 : K.lookup (gAd K m) with
  | none => rw [q2] at b5; cases b5
  | some o =>
    obtain ⟨oc, od, dt, osl⟩ := o
    rw [q2] at b5 e
    cases dt with
    | func fd =>
      obtain ⟨n1, n2, n3, n4, n5, n6, n7, n8, n9, n10, n11, n12, n13, n14, n15⟩ := fd
      have e2 : (some (n1, n2, n3, n4, n5, n6, n7, n8, n15) : He.FnV) = some (m, q, defArgs st, .stmts (defBody st), defScope st, mainGlobals, [], .none, builtinsNs) := e
      simp only [Option.some.injEq, Prod.mk.injEq] at e2
      obtain ⟨h1, h2, h3, h4, h5, h6, h7, h8, h9⟩ := e2
      subst h1 h2 h3 h4 h5 h6 h7 h8 h9
      exact ⟨_, gAd K n1, _, ["self"], c, ⟨of_decide_eq_true b1, of_decide_eq_true b2, of_decide_eq_true b3, hrec⟩, fn_getter (k := 0) q2 b5 S rfl hb c n, fun s us _ hl => .of_eq (by rw [List.append_nil]; exact hbi _ _ _ _ _ _ us (by rw [List.append_nil] at hl; exact hl))⟩
    | _ => cases b5
theorem kbn_of {m q x k1 : Str} {params : Arguments} {body : List Stmt} {scope : Scope} {f : Addr} {fd : FuncData} (F : FunD K m q params body scope [] [] f fd)
    (hb : ∀ (kV doc pm : Value) (an : Option Addr) (cdv ct u v : Value), bindArgs (PySem.W.fnOf m q params body scope .none kV doc pm an cdv ct) ⟨[u], [(k1, v)]⟩ = pure [(x, u), (k1, v)]) : KBn K fd [x, k1] 1 [k1] (fun us ws => us ++ ws) (fun vs zs => vs ++ zs) := by
  refine ⟨fun s us ws _ l1 l2 => ?_, fun r1 r2 => r1.append r2⟩
  match us, ws, l1, l2 with
  | [u], [v], _, _ =>
    obtain ⟨oc, od, dV, kV, doc, pm, an, cdv, ct, osl, rfl, lk, hcd, hD, hK⟩ := F.ex
    rcases hD with ⟨_, rfl⟩ | ⟨e, _⟩
    · exact .of_eq (hb _ _ _ _ _ _ u v)
    · exact absurd rfl e
theorem facts (X : K.In h) (G : h.Ns mainGlobals mg) {f : Addr} (hfa : mg ("law" : Str) = some (.ref f)) (c : He.SaysD fa fn K) (o : prAll K = true) (ov : (prs.map fun t => prV K t.1) = prs.map prVal) :
    ∃ fd : FuncData, (∀ (s : Shared) (v : Value), BindsTo s fd ⟨[v], []⟩ [("_law_cells", v)]) ∧ ∀ base : Heap, K.In base → base.Ns mainGlobals mg → (∀ p ∈ tf.map (He.cT K), LamX.TabB base mg p.1 p.2) → FnG P w K mg base CX0 15 f fd ["_law_cells"] (spLawT K (He.cT K ("_law_right", none)).2) := by
  obtain ⟨fd0, F0⟩ := c.def_ 0 (d := dG "is_integer" s_is_integer) rfl
  have g0 := He.glo_ok X G (c.fact 0 (f := .glo "is_integer") rfl)
  obtain ⟨fd1, F1⟩ := c.def_ 1 (d := dG "is_between" s_is_between) rfl
  have g1 := He.glo_ok X G (c.fact 1 (f := .glo "is_between") rfl)
  obtain ⟨fd2, F2⟩ := c.def_ 2 (d := dG "is_kind" s_is_kind) rfl
  have g2 := He.glo_ok X G (c.fact 2 (f := .glo "is_kind") rfl)
  obtain ⟨fd3, F3⟩ := c.def_ 3 (d := dG "is_name" s_is_name) rfl
  have g3 := He.glo_ok X G (c.fact 3 (f := .glo "is_name") rfl)
  obtain ⟨fd4, F4⟩ := c.def_ 4 (d := dG "has_repeats" s_has_repeats) rfl
  have g4 := He.glo_ok X G (c.fact 4 (f := .glo "has_repeats") rfl)
  obtain ⟨fd5, F5⟩ := c.def_ 5 (d := dG "has_form" s_has_form) rfl
  have g5 := He.glo_ok X G (c.fact 5 (f := .glo "has_form") rfl)
  obtain ⟨fd6, F6⟩ := c.def_ 6 (d := dG "is_pair" s_is_pair) rfl
  have g6 := He.glo_ok X G (c.fact 6 (f := .glo "is_pair") rfl)
  obtain ⟨fd7, F7⟩ := c.def_ 7 (d := dG "check_forms" s_check_forms) rfl
  have g7 := He.glo_ok X G (c.fact 7 (f := .glo "check_forms") rfl)
  obtain ⟨fd8, F8⟩ := c.def_ 8 (d := dG "check_contents" s_check_contents) rfl
  have g8 := He.glo_ok X G (c.fact 8 (f := .glo "check_contents") rfl)
  obtain ⟨fd9, F9⟩ := c.def_ 9 (d := dG "check_columns" s_check_columns) rfl
  have g9 := He.glo_ok X G (c.fact 9 (f := .glo "check_columns") rfl)
  obtain ⟨fd10, F10⟩ := c.def_ 10 (d := dG "cells_by_column" s_cells_by_column) rfl
  have g10 := He.glo_ok X G (c.fact 10 (f := .glo "cells_by_column") rfl)
  obtain ⟨fd11, F11⟩ := c.def_ 11 (d := dG "lines_of" s_lines_of) rfl
  have g11 := He.glo_ok X G (c.fact 11 (f := .glo "lines_of") rfl)
  obtain ⟨fd12, F12⟩ := c.def_ 12 (d := dG "_law_dip" s_law_dip) rfl
  have g12 := He.glo_ok X G (c.fact 12 (f := .glo "_law_dip") rfl)
  obtain ⟨fd13, F13⟩ := c.def_ 13 (d := dG "_law_one_of" s_law_one_of) rfl
  have g13 := He.glo_ok X G (c.fact 13 (f := .glo "_law_one_of") rfl)
  obtain ⟨fd14, F14⟩ := c.def_ 14 (d := dG "_law_jar" s_law_jar) rfl
  have g14 := He.glo_ok X G (c.fact 14 (f := .glo "_law_jar") rfl)
  obtain ⟨fd15, F15⟩ := c.def_ 15 (d := dG "_law_labels" s_law_labels) rfl
  have g15 := He.glo_ok X G (c.fact 15 (f := .glo "_law_labels") rfl)
  obtain ⟨fd16, F16⟩ := c.def_ 16 (d := dG "_law_some_kind" s_law_some_kind) rfl
  have g16 := He.glo_ok X G (c.fact 16 (f := .glo "_law_some_kind") rfl)
  obtain ⟨fd17, F17⟩ := c.def_ 17 (d := dG "_law_chart" s_law_chart) rfl
  have g17 := He.glo_ok X G (c.fact 17 (f := .glo "_law_chart") rfl)
  obtain ⟨fd18, F18⟩ := c.def_ 18 (d := dG "_law_made" s_law_made) rfl
  have g18 := He.glo_ok X G (c.fact 18 (f := .glo "_law_made") rfl)
  obtain ⟨fd19, F19⟩ := c.def_ 19 (d := dG "_law_tags" s_law_tags) rfl
  have g19 := He.glo_ok X G (c.fact 19 (f := .glo "_law_tags") rfl)
  obtain ⟨fd20, F20⟩ := c.def_ 20 (d := dG "_law_right" s_law_right) rfl
  have g20 := He.glo_ok X G (c.fact 20 (f := .glo "_law_right") rfl)
  obtain ⟨fd21, F21⟩ := c.def_ 21 (d := dG "law" s_law) rfl
  have g21 := He.glo_ok X G (c.fact 21 (f := .glo "law") rfl)
  obtain ⟨fd22, F22⟩ := c.def_ 22 (d := dG "is_cell" s_is_cell) rfl
  have g22 := He.glo_ok X G (c.fact 22 (f := .glo "is_cell") rfl)
  obtain ⟨fd23, F23⟩ := c.def_ 23 (d := dM "__init__" "Table.__init__" s_Table_init) rfl
  obtain ⟨fd24, F24⟩ := c.def_ 24 (d := dM "column_of" "Table.column_of" s_Table_column_of) rfl
  obtain ⟨fd25, F25⟩ := c.def_ 25 (d := dM "cells_of" "Table.cells_of" s_Table_cells_of) rfl
  obtain ⟨o, oX⟩ := Bool.and_eq_true_iff.mp o
  obtain ⟨oX, oX8⟩ := Bool.and_eq_true_iff.mp oX
  obtain ⟨oX, oX7⟩ := Bool.and_eq_true_iff.mp oX
  obtain ⟨oX, oX6⟩ := Bool.and_eq_true_iff.mp oX
  obtain ⟨oX, oX5⟩ := Bool.and_eq_true_iff.mp oX
  obtain ⟨oX, oX4⟩ := Bool.and_eq_true_iff.mp oX
  obtain ⟨oX, oX3⟩ := Bool.and_eq_true_iff.mp oX
  obtain ⟨oX, oX2⟩ := Bool.and_eq_true_iff.mp oX
  obtain ⟨oX0, oX1⟩ := Bool.and_eq_true_iff.mp oX
  obtain ⟨fdE0, FE0⟩ := c.def_ 26 (d := dX "InvalidValues" "__init__" "InvalidValues.__init__" s_E_InvalidValues) rfl
  have gE0 := He.glo_ok X G (c.fact 65 (f := .glo "InvalidValues") rfl)
  obtain ⟨fdE1, FE1⟩ := c.def_ 27 (d := dX "InvalidCells" "__init__" "InvalidCells.__init__" s_E_InvalidCells) rfl
  have gE1 := He.glo_ok X G (c.fact 66 (f := .glo "InvalidCells") rfl)
  obtain ⟨fdE2, FE2⟩ := c.def_ 28 (d := dX "UnknownName" "__init__" "UnknownName.__init__" s_E_UnknownName) rfl
  have gE2 := He.glo_ok X G (c.fact 67 (f := .glo "UnknownName") rfl)
  have xm_InvalidValues_InvalidValues : PySem.W.exmOne K (.ref (He.ga K "InvalidValues")) (.ref (He.ga K "InvalidValues")) = some true := of_decide_eq_true oX3
  have xm_InvalidCells_InvalidValues : PySem.W.exmOne K (.ref (He.ga K "InvalidCells")) (.ref (He.ga K "InvalidValues")) = some false := of_decide_eq_true oX4
  have xm_InvalidCells_InvalidCells : PySem.W.exmOne K (.ref (He.ga K "InvalidCells")) (.ref (He.ga K "InvalidCells")) = some true := of_decide_eq_true oX5
  have xm_UnknownName_InvalidValues : PySem.W.exmOne K (.ref (He.ga K "UnknownName")) (.ref (He.ga K "InvalidValues")) = some false := of_decide_eq_true oX6
  have xm_UnknownName_InvalidCells : PySem.W.exmOne K (.ref (He.ga K "UnknownName")) (.ref (He.ga K "InvalidCells")) = some false := of_decide_eq_true oX7
  have xm_UnknownName_UnknownName : PySem.W.exmOne K (.ref (He.ga K "UnknownName")) (.ref (He.ga K "UnknownName")) = some true := of_decide_eq_true oX8
  obtain ⟨fdT0, FT0⟩ := c.def_ 29 (d := dG "_law_heard" s_law_heard) rfl
  have TK_law_heard : Thk K mg := ⟨_, fdT0, FT0, He.glo_ok X G (c.fact 68 (f := .glo "_law_heard") rfl)⟩
  have gT := He.glo_ok X G (c.fact 23 (f := .glo "Table") rfl)
  have e := hfa.symm.trans g21
  cases e
  have bL := FunD.bindsA (ps := ["_law_cells"]) F21 fun _ _ _ _ _ _ us hl => match us, hl with | [_], _ => rfl
  refine ⟨fd21, fun s v => bL s [v] rfl, fun base _  _ TBs => ?_⟩
  have TB_law_right : LamX.TabB base mg (He.codeOf K ("_law_right", none)) (He.cT K ("_law_right", none)).2 := TBs _ (List.mem_map.mpr ⟨("_law_right", none), by unfold tf; simp, rfl⟩)
  have hcd_law_right : fd20.code = .ref (He.codeOf K ("_law_right", none)) := BV.code_of (p := ("_law_right", none)) F20
  have T := tops_of X G c
  have cl := clt_of c
  have RX_InvalidValues : XV.RXV P w K mg base "InvalidValues" (He.ga K "InvalidValues") "index" := XV.rx_index (b := .ve) FE0 gE0 oX0
  have RX_InvalidCells : XV.RXV P w K mg base "InvalidCells" (He.ga K "InvalidCells") "index" := XV.rx_index (b := .ve) FE1 gE1 oX1
  have RX_UnknownName : XV.RXV P w K mg base "UnknownName" (He.ga K "UnknownName") "given" := XV.rx_given (b := .le) FE2 gE2 oX2
  have ovL : [prV K "cells", prV K "data", prV K "sums"] = [prVal ("cells", "Table.cells", s_Table_cells), prVal ("data", "Table.data", s_Table_data), prVal ("sums", "Table.sums", s_Table_sums)] := ov
  simp only [List.cons.injEq, and_true] at ovL
  obtain ⟨v_cells, v_data, v_sums⟩ := ovL
  have oo : ∀ t ∈ prs, prB K t.1 t.2.1 = true := List.all_eq_true.mp o
  have P_cells : Prp P w K mg base 1 (He.ga K "Table") "cells" (getSp (He.ga K "Table") "_cells") := pr_of (q := "Table.cells") (st := s_Table_cells) (k := 0) (oo ("cells", "Table.cells", s_Table_cells) (by unfold prs; simp)) v_cells ⟨rfl, rfl, rfl, by decide +kernel, rfl, by decide +kernel, by decide +kernel⟩ rfl cl.cl (cl.no _ (by decide +kernel)) fun _ _ _ _ _ _ us hl => match us, hl with | [_], _ => rfl
  have P_data : Prp P w K mg base 1 (He.ga K "Table") "data" (getSp (He.ga K "Table") "_data") := pr_of (q := "Table.data") (st := s_Table_data) (k := 0) (oo ("data", "Table.data", s_Table_data) (by unfold prs; simp)) v_data ⟨rfl, rfl, rfl, by decide +kernel, rfl, by decide +kernel, by decide +kernel⟩ rfl cl.cl (cl.no _ (by decide +kernel)) fun _ _ _ _ _ _ us hl => match us, hl with | [_], _ => rfl
  have P_sums : Prp P w K mg base 1 (He.ga K "Table") "sums" (getSp (He.ga K "Table") "_sums") := pr_of (q := "Table.sums") (st := s_Table_sums) (k := 0) (oo ("sums", "Table.sums", s_Table_sums) (by unfold prs; simp)) v_sums ⟨rfl, rfl, rfl, by decide +kernel, rfl, by decide +kernel, by decide +kernel⟩ rfl cl.cl (cl.no _ (by decide +kernel)) fun _ _ _ _ _ _ us hl => match us, hl with | [_], _ => rfl
  have C_is_integer : Cal P w K mg base 1 "is_integer" (pSp rInt) [] := cal_of 1 F0 (ok_int F0 T) g0 (by decide) fun _ _ _ _ _ _ us hl => match us, hl with | [_], _ => rfl
  have C_is_name : Cal P w K mg base 1 "is_name" (pSp rName) [] := cal_of 1 F3 (ok_name F3 T) g3 (by decide) fun _ _ _ _ _ _ us hl => match us, hl with | [_], _ => rfl
  have C_has_repeats : Cal P w K mg base 1 "has_repeats" (pSp (rRep K)) [] := cal_of 1 F4 (ok_reps F4 T) g4 (by decide) fun _ _ _ _ _ _ us hl => match us, hl with | [_], _ => rfl
  have C_is_pair : Cal P w K mg base 1 "is_pair" (pSp (rPair K)) [] := cal_of 1 F6 (ok_pair F6 T) g6 (by decide) fun _ _ _ _ _ _ us hl => match us, hl with | [_, _], _ => rfl
  have C_cells_by_column : Cal P w K mg base 1 "cells_by_column" cSp [] := cal_of 1 F10 (ok_cbc F10 T) g10 (by decide) fun _ _ _ _ _ _ us hl => match us, hl with | [_], _ => rfl
  have C_lines_of : Cal P w K mg base 1 "lines_of" (dSp rLines) [] := cal_of 1 F11 (ok_lines F11 T) g11 (by decide) fun _ _ _ _ _ _ us hl => match us, hl with | [_, _], _ => rfl
  have C_law_dip : Cal P w K mg base 1 "_law_dip" spDip [] := cal_of 1 F12 (ok_dip F12 T) g12 (by decide) fun _ _ _ _ _ _ us hl => match us, hl with | [_, _], _ => rfl
  have C_law_jar : Cal P w K mg base 1 "_law_jar" (spJar K) [] := cal_of 1 F14 (ok_jar F14 T) g14 (by decide) fun _ _ _ _ _ _ us hl => match us, hl with | [_, _], _ => rfl
  have C_law_tags : Cal P w K mg base 1 "_law_tags" (lSp rTagsL) [] := cal_of 1 F19 (ok_tags F19 T) g19 (by decide) fun _ _ _ _ _ _ us hl => match us, hl with | [_], _ => rfl
  have CA_is_integer : Cal P w K mg base 1 "is_integer" (pSp (rIntA K)) [] := cal_of 1 F0 (oka_int F0 T) g0 (by decide) fun _ _ _ _ _ _ us hl => match us, hl with | [_], _ => rfl
  have MX_cells_of : BAG.MetX P w K mg base 3 (He.ga K "Table") "cells_of" (spCellsX (He.ga K "Table") (He.ga K "UnknownName")) := ⟨_, fd25, ["self", "name"], cl.cl, (He.meth_ok (c.fact 63 (f := .meth "Table" "cells_of") rfl)), okx_cellsof (mg := mg) (w := w) (P := P) (base := base) F25 T cl RX_UnknownName, F25.bindsN (fun _ _ _ _ _ _ us hl => match us, hl with | [_, _], _ => rfl)⟩
  have MKX_cells_of : BAG.MetKX P w K mg base 3 (He.ga K "Table") "cells_of" (spCellsX (He.ga K "Table") (He.ga K "UnknownName")) ["name"] := ⟨_, fd25, ["self", "name"], cl.cl, (He.meth_ok (c.fact 63 (f := .meth "Table" "cells_of") rfl)), okx_cellsof (mg := mg) (w := w) (P := P) (base := base) F25 T cl RX_UnknownName, kbn_of F25 fun _ _ _ _ _ _ _ _ => rfl⟩
  have C_is_between : Cal P w K mg base 2 "is_between" (pSp rBetw) [] := cal_of 2 F1 (ok_betw F1 T C_is_integer) g1 (by decide) fun _ _ _ _ _ _ us hl => match us, hl with | [_, _, _], _ => rfl
  have C_has_form : Cal P w K mg base 2 "has_form" (pSp rForm) [] := cal_of 2 F5 (ok_form F5 T C_is_name) g5 (by decide) fun _ _ _ _ _ _ us hl => match us, hl with | [_], _ => rfl
  have C_check_contents : Cal P w K mg base 3 "check_contents" (pSp (rCols2 K)) [] := cal_of 3 F8 (ok_contents F8 T C_is_pair) g8 (by decide) fun _ _ _ _ _ _ us hl => match us, hl with | [_, _], _ => rfl
  have C_law_one_of : Cal P w K mg base 2 "_law_one_of" spOne [] := cal_of 2 F13 (ok_one F13 T C_law_dip) g13 (by decide) fun _ _ _ _ _ _ us hl => match us, hl with | [_, _], _ => rfl
  have CA_is_between : Cal P w K mg base 2 "is_between" (pSp (rBetwA K)) [] := cal_of 2 F1 (oka_betw F1 T CA_is_integer) g1 (by decide) fun _ _ _ _ _ _ us hl => match us, hl with | [_, _, _], _ => rfl
  have CA_is_cell : Cal P w K mg base 3 "is_cell" (pSp (rCellA (He.ga K "Table"))) [] := cal_of 3 F22 (oka_iscell F22 T CA_is_integer P_sums P_data) g22 (by decide) fun _ _ _ _ _ _ us hl => match us, hl with | [_, _], _ => rfl
  have C_is_kind : Cal P w K mg base 3 "is_kind" (pSp rKind) [] := cal_of 3 F2 (ok_kind F2 T C_is_between) g2 (by decide) fun _ _ _ _ _ _ us hl => match us, hl with | [_], _ => rfl
  have C_check_forms : Cal P w K mg base 3 "check_forms" (pSp rCols) [] := cal_of 3 F7 (ok_forms F7 T C_has_form C_has_repeats) g7 (by decide) fun _ _ _ _ _ _ us hl => match us, hl with | [_], _ => rfl
  have C_law_labels : Cal P w K mg base 3 "_law_labels" spLabels [] := cal_of 3 F15 (ok_labels F15 T C_law_dip C_law_one_of) g15 (by decide) fun _ _ _ _ _ _ us hl => match us, hl with | [_], _ => rfl
  have C_law_some_kind : Cal P w K mg base 3 "_law_some_kind" spKind [] := cal_of 3 F16 (ok_kind0 F16 T C_law_one_of) g16 (by decide) fun _ _ _ _ _ _ us hl => match us, hl with | [_], _ => rfl
  have MX_column_of : BAG.MetX P w K mg base 4 (He.ga K "Table") "column_of" (spColX (He.ga K "Table") (He.ga K "UnknownName")) := ⟨_, fd24, ["self", "cell"], cl.cl, (He.meth_ok (c.fact 62 (f := .meth "Table" "column_of") rfl)), okx_column (mg := mg) (w := w) (P := P) (base := base) F24 T cl CA_is_cell RX_UnknownName, F24.bindsN (fun _ _ _ _ _ _ us hl => match us, hl with | [_, _], _ => rfl)⟩
  have MKX_column_of : BAG.MetKX P w K mg base 4 (He.ga K "Table") "column_of" (spColX (He.ga K "Table") (He.ga K "UnknownName")) ["cell"] := ⟨_, fd24, ["self", "cell"], cl.cl, (He.meth_ok (c.fact 62 (f := .meth "Table" "column_of") rfl)), okx_column (mg := mg) (w := w) (P := P) (base := base) F24 T cl CA_is_cell RX_UnknownName, kbn_of F24 fun _ _ _ _ _ _ _ _ => rfl⟩
  have C_check_columns : Cal P w K mg base 4 "check_columns" (pSp rCols) [] := cal_of 4 F9 (ok_cols F9 T C_check_forms C_check_contents) g9 (by decide) fun _ _ _ _ _ _ us hl => match us, hl with | [_], _ => rfl
  have C_law_chart : Cal P w K mg base 4 "_law_chart" spChart [] := cal_of 4 F17 (ok_chart F17 T C_law_dip C_law_one_of C_law_labels C_law_some_kind) g17 (by decide) fun _ _ _ _ _ _ us hl => match us, hl with | [_, _, _, _], _ => rfl
  have M_Table : C8.Mak P w K mg base 5 "Table" (He.ga K "Table") (tSp (He.ga K "Table")) [] := ⟨_, fd23, ["self", "kind", "columns"], [], He.mkr_ok (c.fact 64 (f := .mkr "Table") rfl), ok_tinit F23 T C_is_kind C_check_columns C_cells_by_column C_lines_of cl, gT, F23.bindsN (fun _ _ _ _ _ _ us hl => match us, hl with | [_, _, _], _ => rfl), .nil⟩
  have C_law_made : Cal P w K mg base 7 "_law_made" (spMade (He.ga K "Table")) [] := cal_of 7 F18 (ok_made F18 T M_Table) g18 (by decide) fun _ _ _ _ _ _ us hl => match us, hl with | [_], _ => rfl
  have C_law_right : CalG P w K mg base 14 "_law_right" (spRightT (He.cT K ("_law_right", none)).2) := ⟨_, _, ["_law_jar_here"], ok_right F20 T C_law_chart C_law_made C_law_tags P_cells MX_cells_of MKX_cells_of MX_column_of MKX_column_of TK_law_heard RX_InvalidValues RX_InvalidCells RX_UnknownName xm_InvalidValues_InvalidValues xm_InvalidCells_InvalidValues xm_InvalidCells_InvalidCells xm_UnknownName_InvalidValues xm_UnknownName_InvalidCells xm_UnknownName_UnknownName hcd_law_right TB_law_right, g20, F20.kp, F20.bindsN fun _ _ _ _ _ _ us hl => match us, hl with | [_], _ => rfl⟩
  exact ok_law F21 T C_law_jar C_law_right
end
end K08
end
set_option Elab.async false
set_option linter.all false
set_option maxRecDepth 100000
set_option maxHeartbeats 0
namespace K08
open PySem PySem.Spec PyProof.Rows L2 Evl TX
open C8 (Cal pe_c pe_gc)
end K08
open PySem PySem.W PySem.Calls PyProof.Rows
theorem PySem.Challenge.cw_pairsums_k08_cells_and_columns_holds : PySem.Challenge.rw_pairsums_k08_cells_and_columns.Holds := by
  w_on; o_law
  refine HandSHeadRun.head_any (r := OpenLaw.row PySem.Challenge.rw_pairsums_k08_cells_and_columns) (q := view (OpenLaw.row PySem.Challenge.rw_pairsums_k08_cells_and_columns).prog [50]) (H := K08.hk) (ob := K08.ob) (M := 60000) (loose := K08.names) (d := HandSHeadRun.topDef (OpenLaw.row PySem.Challenge.rw_pairsums_k08_cells_and_columns).prog 50) (kwd := []) K08.ob_eq
    (by kernel_rfl) (fun s => by kernel_rfl) K08.run (by kernel_rfl) (by kernel_rfl) (by kernel_rfl) (by rfl) (by first | assumption | decide +kernel) (by decide +kernel) ⟨rfl, rfl, rfl, rfl, rfl, by decide +kernel⟩ ?hw ?hc
  case hw => w_witness2
  case hc =>
    refine BV.walkT (l := PySem.Challenge.rw_pairsums_k08_cells_and_columns) (n := 63) (k := 15) (x := "_law_cells") (CX := L2.CX0) rfl (by decide) (by kernel_rfl) ⟨rfl, by decide, by decide⟩ ?F (fun _ _ _ _ z => z)
    intro w mg fa h Y G hmg0
    obtain ⟨K, KX, c, o, ov, tin⟩ := Y
    have hmg : mg ("law" : PySem.Str) = some (.ref fa) := by
      have e : (HandSHeadRun.topDef (OpenLaw.row PySem.Challenge.rw_pairsums_k08_cells_and_columns).prog 50).name = ("law" : PySem.Str) := by kernel_rfl
      rw [← e]
      exact hmg0
    obtain ⟨fd, hb, hF⟩ := K08.facts (P := (PySem.Challenge.rw_pairsums_k08_cells_and_columns).prog) (w := w) KX G hmg c o ov
    have mem : ∀ p ∈ K08.tf.map (He.cT K), ∃ q ∈ K08.tf, He.cT K q = p := fun p hp => List.mem_map.mp hp
    exact ⟨K, fd, K08.spLawT K (He.cT K ("_law_right", none)).2, K08.tf.map (He.cT K), KX, fun p hp => by obtain ⟨q, h1, rfl⟩ := mem p hp; exact tin.empty q h1, fun p hp => by obtain ⟨q, h1, rfl⟩ := mem p hp; exact tin.out q h1, fun p hp => by obtain ⟨q, h1, rfl⟩ := mem p hp; exact tin.hd q h1, hb, fun H a ns hl hT hS => ⟨a, ns, rfl, hS, hl, hT _ (List.mem_map.mpr ⟨("_law_right", none), by unfold K08.tf; simp, rfl⟩), fun _ => rfl⟩, hF⟩
namespace K08
end K08
