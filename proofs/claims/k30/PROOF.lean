import PyProof.Rows.All
import Wide.All
import OpenK.AllK
import Wide.FinOn
import HandS.ForMost
import HandS.Walk
import KE.GoesMore
import KE.GoesEnum
import HandS.Strs
import PyProof.DictCompW
import HandS.DictComp
import HandS.Evl
import HandS.IsInst
import HandS.Codes
import HandS.Defaults
import HandS.FStr
import HandS.Property
import HandS.HeadHook1
import PyProof.ListMulRoad
import PyProof.FactsAll.tuple_2
import HandS.Base
import HandS.Call
import HandS.List
import HandS.TupMul
import HandS.Deep
import HandS.Style
import HandS.Text
import PyProof.ZipIter
import KE.GoesNew
import HandS.Zip0
import HandS.Zip
import HandS.Iter
import PyProof.AutoSeq1
import HandS.TryOnly
import HandS.Conv
import HandS.Dict
import KE.KDictZip
import HandS.Ends
import HandS.Words
import HandS.HeadEnd
import PyProof.WalkInts
import PyProof.FString5
import PyProof.ReprRoads
import KE.KExcPX
import KE.KExcInit
import KE.KExcIs
import HandS.ForExc
import HandS.ExcInit
import HandS.WordsExc
import HandS.Head0
import HandS.Head1
import HandS.Head2
import HandS.HeadHook2
import HandS.TupLe
import HandS.TupAny
import KE.KEqDeep
import PyProof.ReprLen
import PyProof.StrLawsRepr
import PySem.Challenge.RW_pairsums_k30_whole_kinds_that_bring_back
section
set_option Elab.async false
set_option linter.all false
set_option maxRecDepth 100000
set_option maxHeartbeats 4000000
/-! ET: enumerate over a tuple. -/
namespace ET
open PySem PySem.Spec PyProof.Rows L2
theorem enum1_new {v : Value} {ob : Obj} {G : Heap → Prop} (B : Begins v ob G) :
    Meets (Builtin.«enumerate.__new__» ⟨[.type "enumerate", v], []⟩) (fun _ R s => G s.heap ∧
      R (.ok (.ret (.ref (s.heap.push ob).objs.size))) { s with heap := (s.heap.push ob).push { cls := .type "enumerate", data := .fields #[.none, .bool false, .ref s.heap.objs.size, rawInt 0, .none, .none] } }) :=
  .of_wp fun P w A R s hh => by
    obtain ⟨hp, gs, dr, tk, os⟩ := s
    obtain ⟨g1, hh⟩ := hh
    have isSub := sub_enumerate
    have q1 : ∀ {A2 : Around} {E : Value → Shared → Prop} {Q : Value → Shared → Prop}, Q (.ref hp.objs.size) ⟨hp.push ob, gs, dr, tk, os⟩ → wpAny (model P w) A2 (pyIter v) Q E ⟨hp, gs, dr, tk, os⟩ := fun q => B.iter P w _ _ _ _ g1 q
    wp_walk using q1
    refine wpAny_stack_any fun sk => wpAny_pure ?_
    split
    · rename_i cc _ _ _ _ _
      cases (cc == Value.type "enumerate") <;> (wp_walk using q1; exact ⟨_, rfl, hh⟩)
    · wp_walk using q1
      exact ⟨_, rfl, hh⟩
theorem enum1_call {P : Program} {w : World} {A : Around} {E : Value → Shared → Prop} {s : Shared} {v : Value} {ob : Obj} {G : Heap → Prop} {Q : Value → Shared → Prop} (B : Begins v ob G) (g : G s.heap)
    (k : ∀ h2, IsEnum h2 (s.heap.objs.size + 1) s.heap.objs.size 0 .none → h2.get? s.heap.objs.size = some ob → (∀ b o, s.heap.get? b = some o → h2.get? b = some o) → Q (.ref (s.heap.objs.size + 1)) { s with heap := h2 }) :
    wpAny (model P w) A (call (.type "enumerate") [v]) Q E s := by
  refine callType_new F.called_enumerate (by decide) (F.typeCall_enumerate_1 v) (F.newCall_enumerate_1 v) (fun x => F.args_object_init_2 x v) F.entry_enumerate_new (enum1_new B) ⟨g, ?_⟩
  have size1 : (s.heap.push ob).objs.size = s.heap.objs.size + 1 := Heap.size_push ..
  have made := Heap.get?_push_size (s.heap.push ob) (o := { cls := .type "enumerate", data := .fields #[.none, .bool false, .ref s.heap.objs.size, rawInt 0, .none, .none] }) rfl
  rw [size1] at made
  show _ ∧ _
  rw [size1]
  exact ⟨⟨_, made, rfl⟩, k _ made (Heap.get?_push_of_some _ (Heap.get?_push_size _ B.free)) fun b o x => Heap.get?_push_of_some _ (Heap.get?_push_of_some _ x)⟩
/-- the items of the tuple at a with their numbers, in new pairs -/
def Iet (K : PySem.W.Frag) (a : Addr) : It :=
  ⟨fun i H => ∃ (ys : List V) (y : V), SqT K H a ys ∧ ys[i]? = some y, fun i H v H2 => ∃ T y, v = .ref T ∧ H T = none ∧ H2 = upd H T (.tup [.int (i : Nat), y]) ∧ ∀ ys, SqT K H a ys → ys[i]? = some y, fun i H => ∃ ys : List V, SqT K H a ys ∧ ys.length = i⟩
theorem turn_et {P : Program} {w : World} {K : PySem.W.Frag} {elts : List Expr} {kk : Nat} {tpos : Pos} (a e it : Addr) :
    Turn P w K (.Tuple elts kk tpos) (Iet K a) [e, it] e (fun i h => (∃ old, IsEnum h e it ((i : Nat) : Int) old) ∧ h.IsTupleIter it a i ∧ e ≠ it) where
  mem := List.mem_cons_self ..
  obj := fun i h st b hb => by
    obtain ⟨⟨old, he⟩, ⟨o, ho, _, hd⟩, _⟩ := st
    rcases List.mem_cons.mp hb with z | z
    · subst z; exact ⟨_, he, fun v q => nomatch q⟩
    · have z2 : b = it := by simpa using z
      subst z2; exact ⟨o, ho, fun v q => by rw [hd] at q; cases q⟩
  keep := fun i h h2 st k => let ⟨⟨old, he⟩, hi, hne⟩ := st; ⟨⟨old, k e (List.mem_cons_self ..) _ he⟩, hi.at fun o q => k it (by simp) o q, hne⟩
  item := by
    intro X hP hw hK hc i pins s σ H E I hf st hg
    subst hP hw hK
    obtain ⟨⟨old, he⟩, hit, hne⟩ := st
    obtain ⟨ys, y, hq, hy⟩ := hg
    obtain ⟨its, rv, p, _⟩ := I.tuple hq
    obtain ⟨u, hu, ru⟩ := rv.get hy
    have lte : e < s.heap.objs.size := Heap.lt_size he
    have lti : it < s.heap.objs.size := by obtain ⟨_, q, _⟩ := hit; exact Heap.lt_size q
    have nei : a ≠ it := fun z => by
      obtain ⟨o, q, cq, _⟩ := p
      obtain ⟨o2, q2, cq2, _⟩ := hit
      rw [z, q2] at q
      cases q
      have z2 := cq.symm.trans cq2
      injection z2 with z3
      exact absurd z3 (by decide)
    have nea : e ≠ a := fun z => by
      obtain ⟨o, q, cq, _⟩ := p
      have he2 : s.heap.get? e = some _ := he
      rw [z, q] at he2
      cases he2
      injection cq with z3
      exact absurd z3 (by decide)
    have D := Draws.tuple (prog := X.prog) (w := X.w) (A := X.A.in1) (show X.A.in1.handled = none from I.ok.hd hc) it a nei its.toArray
    have hlt : i < its.toArray.size := by
      have := (List.getElem?_eq_some_iff.mp hu).1
      simpa using this
    refine wpAny_pyNext_enum_itemC D he ⟨hit, p⟩ hlt hne (by simp [hne, nea]) fun x h2 tk hx ho st2 hT hsz hk => ?_
    obtain rfl : x = u := by
      have hx2 : its.toArray[i]? = some x := hx
      have : its[i]? = some x := by simpa using hx2
      exact Option.some.inj (this.symm.trans hu)
    refine ⟨_, rfl, wpAny_letOwnedTupleGo_enum (s := { s with heap := h2, toks := tk + 1 }) ho fun h3 he3 sb => ?_⟩
    have hT3 : h3.get? s.heap.objs.size = some { cls := .type "tuple", data := .seq #[.int i tk, x] } := (sb.2 _ (Nat.ne_of_gt lte)).trans hT
    have new : ObjOk X.prog X.w (upd H s.heap.objs.size (.tup [.int (i : Nat), y])) h3 s.heap.objs.size (.tup [.int (i : Nat), y]) :=
      ⟨by show 2 ≤ sizeLine; decide, [.int i tk, x], .cons ⟨_, rfl⟩ (.cons ru .nil), ⟨_, hT3, rfl, _, rfl⟩⟩
    have J : Inv X pins σ (upd H s.heap.objs.size (.tup [.int (i : Nat), y])) { s with heap := h3, toks := tk + 1 } :=
      I.turnedNew (ch := [e, it]) (fun b ob hb q => (sb.2 b (fun z => hb (by simp [z]))).trans (hk b ob (fun z => hb (by simp [z])) (fun z => hb (by simp [z])) q)) hf (Nat.le_refl _) new
    refine ⟨.ref s.heap.objs.size, _, J, rfl, ⟨_, y, rfl, I.hok.fresh (Nat.le_refl _), rfl, fun zs hz => by rw [I.tuple_inj hz hq]; exact hy⟩, ⟨⟨x, ?_⟩, st2.1.at fun o q => (sb.2 it (Ne.symm hne)).trans q, hne⟩, fun b hb => ?_⟩
    · have e1 : ((i + 1 : Nat) : Int) = (i : Int) + 1 := by omega
      rw [e1]; exact he3
    · have old2 : b < s.heap.objs.size := by
        rcases List.mem_cons.mp hb with z | z
        · rw [z]; exact lte
        · have z2 : b = it := by simpa using z
          rw [z2]; exact lti
      rw [upd_ne (Nat.ne_of_lt old2)]
      exact (hf b hb).1
  done := by
    intro X hP hw hK hc i pins s σ H E I hf st hg
    subst hP hw hK
    obtain ⟨⟨old, he⟩, hit, hne⟩ := st
    obtain ⟨ys, hq, hy⟩ := hg
    obtain ⟨its, rv, p, _⟩ := I.tuple hq
    have nei : a ≠ it := fun z => by
      obtain ⟨o, q, cq, _⟩ := p
      obtain ⟨o2, q2, cq2, _⟩ := hit
      rw [z, q2] at q
      cases q
      have z2 := cq.symm.trans cq2
      injection z2 with z3
      exact absurd z3 (by decide)
    obtain ⟨f0, f1, f2, f3, f4, f5⟩ := hf it (by simp)
    have D := Draws.tuple (prog := X.prog) (w := X.w) (A := X.A.in1) (show X.A.in1.handled = none from I.ok.hd hc) it a nei its.toArray
    have hn : its.toArray.size = i := by rw [List.size_toArray, ← rv.length]; exact hy
    exact wpAny_pyNext_enum_endD D he (hn.symm ▸ ⟨hit, p⟩) fun h2 eb => ⟨rfl, I.turned (t' := s.toks) (fun b o hb q => eb b o hb q) f0 f1 f3 f4 f5⟩
  self := fun A i s Q E st h => let ⟨⟨_, he⟩, _⟩ := st; wpAny_pyIter_enum he h
def iEnumT (K : PySem.W.Frag) (ta : TA) : TI := fun σ H R => ta σ H fun vs H1 => ∃ a xs, vs = [.ref a] ∧ SqT K H1 a xs ∧ R (Iet K a) H1
theorem pi_enumT {X : Cx} {e : Expr} {ta : TA} {p pos tpos : Pos} {elts : List Expr} {kk : Nat} (hg : Gl X "enumerate") (hm : X.mg "enumerate" = none) (ha : PA X [e] ta) (hs : starEach [e] X.env = [(false, eval e X.env)] := by rfl) :
    PI X (.Tuple elts kk tpos) (.Call (.Name "enumerate" p) [e] [] pos) (iEnumT X.K ta) := by
  constructor
  intro pins s σ H R I h
  refine Call_ (ld_blt I hg hm boot_enumerate (PyProof.Rows.callWith_type1 (thn (ha.run pos pins s σ H _ I h) fun us s2 ⟨vs, H2, I2, rr, a, xs, ev, hq, q⟩ => ?_) hs rfl))
  subst ev
  obtain ⟨u, rfl, ru⟩ := vals1 rr
  cases ru
  obtain ⟨its, rv, pt, _⟩ := I2.tuple hq
  refine enum1_call (begins_tuple a its.toArray) pt fun h2 he hit hk => wpAny_pyIter_enum he ?_
  have J : Inv X pins σ H2 { s2 with heap := h2 } := I2.kept (t' := s2.toks) hk
  refine ⟨_, [s2.heap.objs.size + 1, s2.heap.objs.size], _, _, H2, rfl, J, turn_et a (s2.heap.objs.size + 1) s2.heap.objs.size, ⟨⟨.none, he⟩, ⟨_, hit, rfl, rfl⟩, Nat.succ_ne_self _⟩, fun b hb => ?_, q⟩
  have ge : s2.heap.objs.size ≤ b := by
    rcases List.mem_cons.mp hb with z | z
    · rw [z]; exact Nat.le_succ _
    · have z2 : b = s2.heap.objs.size := by simpa using z
      rw [z2]; exact Nat.le_refl _
  exact I2.fpOk ge (I2.hok.fresh ge)
theorem walk_et {K : PySem.W.Frag} {a : Addr} {xs : List V} : Walk (Iet K a) xs.length (fun H => SqT K H a xs) (YPair (fun i => some (.int (i : Nat))) (fun i => xs[i]?)) :=
  ⟨fun i H hi q => ⟨xs, xs[i], q, by simp [hi]⟩, fun H q => ⟨xs, q, rfl⟩, fun i H v H2 _ q ⟨T, y, h1, h2, h3, h4⟩ => ⟨T, _, y, h1, h2, h3, rfl, h4 xs q⟩⟩
end ET
end
section
set_option Elab.async false
set_option linter.all false
set_option maxRecDepth 100000
set_option maxHeartbeats 4000000
/-! ST: len(set(texts)), any number of them. -/
namespace ST
open PySem PySem.Spec PyProof.Rows
/-- how many different ones there are among the first i -/
def cn (xs : List Str) : Nat → Nat
  | 0 => 0
  | i + 1 => if (xs.take i).any (· == xs.getD i Str.empty) then cn xs i else cn xs i + 1
theorem cn_le (xs : List Str) : ∀ i, cn xs i ≤ i
  | 0 => Nat.le_refl 0
  | i + 1 => by
    have h := cn_le xs i
    unfold cn
    split <;> omega
theorem cn_nodup {xs : List Str} (nd : xs.Nodup) : ∀ i, i ≤ xs.length → cn xs i = i
  | 0, _ => rfl
  | i + 1, h => by
    unfold cn
    rw [cn_nodup nd i (by omega), if_neg]
    intro z
    obtain ⟨y, hy, e⟩ := List.any_eq_true.mp z
    have e2 : y = xs[i] := by rw [beq_iff_eq.mp e, List.getD_eq_getElem?_getD, List.getElem?_eq_getElem (by omega)]; rfl
    obtain ⟨j, hj, ej⟩ := List.mem_take_iff_getElem.mp hy
    have hji : j < i := by omega
    have := (List.getElem_inj nd).mp (ej.trans e2)
    omega
theorem cn_dup {xs : List Str} (nd : ¬ xs.Nodup) : cn xs xs.length < xs.length := by
  have step : ∀ i j, i ≤ j → cn xs i < i → cn xs j < j := by
    intro i j h q
    induction h with
    | refl => exact q
    | @step m _ ih =>
      show cn xs (m + 1) < m + 1
      unfold cn
      split <;> omega
  have : ∃ i, i < xs.length ∧ (xs.take i).any (· == xs.getD i Str.empty) = true := by
    refine Classical.byContradiction fun hn => nd ?_
    rw [List.nodup_iff_pairwise_ne, List.pairwise_iff_getElem]
    intro i j hi hj hij e
    refine hn ⟨j, hj, List.any_eq_true.mpr ⟨xs[i], List.mem_take_iff_getElem.mpr ⟨i, by omega, rfl⟩, ?_⟩⟩
    rw [List.getD_eq_getElem?_getD, List.getElem?_eq_getElem hj]
    exact beq_iff_eq.mpr e
  obtain ⟨i, hi, h⟩ := this
  refine step (i + 1) _ hi ?_
  unfold cn
  rw [if_pos h]
  have := cn_le xs i
  omega
theorem take_any (xs : List Str) {i : Nat} (hi : i < xs.length) (q : Str) : ((xs.take i).any (· == q) || decide (q = xs.getD i Str.empty)) = (xs.take (i + 1)).any (· == q) := by
  rw [List.take_succ, List.any_append, List.getD_eq_getElem?_getD, List.getElem?_eq_getElem hi]
  congr 1
  simp only [Option.toList_some, List.any_cons, List.any_nil, Bool.or_false, Option.getD_some]
  by_cases e : q = xs[i]
  · rw [decide_eq_true e, e, beq_self_eq_true]
  · rw [decide_eq_false e]
    exact (beq_eq_false_iff_ne.mpr fun z => e z.symm).symm
section
variable {P : Program} {w : World} {A : Around} {R : Result → Shared → Prop} {it S : Addr} {fp wr : List Addr} {G : Array GenState → Array GenState → Prop} {n : Nat} {Pv : Nat → Value → Prop} {St : Nat → Shared → Prop} {xs : List Str}
theorem fill (W : WalksS P w A.in1 it fp wr G n Pv St) (far : S ∉ fp) (len : xs.length = n) (big : n + 1 < scanBound) (val : ∀ i v, Pv i v → ∃ t, v = .str (xs.getD i Str.empty) t) :
    ∀ (left i : Nat) (s : Shared), i + left = n → St i s → s.heap.SetOf (PySem.strKind P w) S (fun q => (xs.take i).any (· == q)) (cn xs i) →
      (∀ z, Moved (S :: wr) G s z → z.heap.SetOf (PySem.strKind P w) S (fun q => (xs.take n).any (· == q)) (cn xs n) → R (.ok (.ret .none)) z) →
      codeAny (model P w) A (.builtin "set.update.loop" ⟨[.ref S, .ref it], []⟩) R s
  | 0, i, s, e, st, had, k => by
    obtain rfl : i = n := by omega
    refine codeAny_builtin PyProof.Rows.F.entry_set_update_loop ?_
    rw [Around.under_plainId PyProof.Rows.F.plain_set_update_loop _]
    show wpAny _ A.in1 (pyNext (.ref it) >>= _) _ _ s
    refine wpAny_bind (W.done s _ _ st fun z mv => ?_)
    show wpAny _ A.in1 (ret Value.none) _ _ z
    refine wpAny_pure (k z (mv.mono fun b hb => List.mem_cons_of_mem _ hb) ?_)
    obtain ⟨o, es, ep, tb, ho, more⟩ := had
    exact ⟨o, es, ep, tb, mv.heap S _ (fun z => far (W.sub _ z)) ho, more⟩
  | left + 1, i, s, e, st, had, k => by
    have lt : i < n := by omega
    refine codeAny_builtin PyProof.Rows.F.entry_set_update_loop ?_
    rw [Around.under_plainId PyProof.Rows.F.plain_set_update_loop _]
    show wpAny _ A.in1 (pyNext (.ref it) >>= _) _ _ s
    refine wpAny_bind (W.item i s _ _ lt st fun v z hv stz mv => ?_)
    obtain ⟨t, rfl⟩ := val i v hv
    have hadz : z.heap.SetOf (PySem.strKind P w) S (fun q => (xs.take i).any (· == q)) (cn xs i) := by
      obtain ⟨o, es, ep, tb, ho, more⟩ := had
      exact ⟨o, es, ep, tb, mv.heap S _ (fun y => far (W.sub _ y)) ho, more⟩
    show wpAny _ A.in1 (holding [Value.str (xs.getD i Str.empty) t] (setAdd S (.str (xs.getD i Str.empty) t)) >>= _) _ _ z
    refine wpAny_bind (wpAny_holding ?_)
    unfold setAdd
    refine wpAny_holding (wpAny_bind ((PySem.strKind P w).pyHash (k := xs.getD i Str.empty) (strKind_is _ _ _ _) ?_))
    refine wpAny_setAddHashed_of (knd := PySem.strKind P w) (s := { z with toks := z.toks + 1 }) (strKind_is _ _ _ _) rfl hadz (by have := cn_le xs i; omega) fun h2 same new => ?_
    have now : h2.SetOf (PySem.strKind P w) S (fun q => (xs.take (i + 1)).any (· == q)) (cn xs (i + 1)) := SetOf_congr new (fun q => take_any xs (by omega) q) rfl
    have nS : ∀ b, b ∈ fp → b ≠ S := fun b hb y => far (y ▸ hb)
    refine wpAny_pure ⟨plainId_quiet PyProof.Rows.F.plain_set_update_loop _, fill W far len big val left (i + 1) _ (by omega) (W.frame _ z _ _ stz (Nat.le_succ _) fun b hb o ob => (same.2 b (nS b hb)).trans ob) now fun y my hy => k y ?_ hy⟩
    exact Moved.trans W.gtrans ((mv.mono fun b hb => List.mem_cons_of_mem _ hb).then_heap (Nat.le_succ _) fun b o hb ob => (same.2 b fun y => hb (by rw [y]; exact List.mem_cons_self)).trans ob) my
end
section
variable {P : Program} {w : World} {A : Around} {E : Value → Shared → Prop} {s : Shared}
def freshSet (b : Bool) : Obj := { cls := .type "set", dict := none, data := .set #[] 0 (.fresh 0 0 b) }
/-- set(l): what stands there then -/
def Made (P : Program) (w : World) (xs : List Str) (s : Shared) (h2 : Heap) : Prop :=
  h2.SetOf (PySem.strKind P w) s.heap.objs.size (fun q => (xs.take xs.length).any (· == q)) (cn xs xs.length) ∧ ∀ b o, b < s.heap.objs.size → s.heap.get? b = some o → h2.get? b = some o
set_option maxHeartbeats 8000000 in
theorem set_of_list {l : Addr} {items : Array Value} {xs : List Str} {Q : Value → Shared → Prop} (calm : A.handled = none) (hl : s.heap.IsList l items) (ra : StrsAre items.toList xs) (big : xs.length + 1 < scanBound)
    (k : ∀ (h2 : Heap) (tk : Nat), Made P w xs s h2 → Q (.ref s.heap.objs.size) { s with heap := h2, toks := tk }) : wpAny (model P w) A (call (.type "set") [.ref l]) Q E s := by
  obtain ⟨cc, tl, mro⟩ := F.called_set.mro
  have made := F.called_set.made
  have sub := F.called_set.sub
  have len : xs.length = items.size := by rw [← ra.length, Array.length_toList]
  refine wpAny_call (codeAny_of_tree ?_)
  show wpAny _ _ (callAny (.type "set") _) _ _ _
  refine wpAny_pure ⟨Code.quiet_builtin _ (by decide +kernel), codeAny_builtin F.entry_type_call ?_⟩
  rw [Around.under_plain (weight_type_call_type "set" [.ref l] []) rfl]
  have z1 := F.called_set.notType
  have z2 := F.called_set.canCreate
  have z3 := F.typeCall_set_1 (.ref l)
  repeat (any_goals (first | assumption | wp_step))
  refine codeAny_mono (code_set_new_1 (.ref l) (E := E) (Q₁ := fun ob z => ∃ b : Bool, ob = .ref s.heap.objs.size ∧ z = { s with heap := s.heap.push (freshSet b) }) fun b => ⟨b, rfl, rfl⟩) fun r z hz => ?_
  match r, hz with
  | .error er, hz => exact hz
  | .ok .next, hz => exact hz.elim
  | .ok .brk, hz => exact hz.elim
  | .ok .cont, hz => exact hz.elim
  | .ok (.ret ob), ⟨b, e1, e2⟩ =>
  subst e1 e2
  have hS : (s.heap.push (freshSet b)).get? s.heap.objs.size = some (freshSet b) := Heap.get?_push_size _ rfl
  have hT : Shared.TypeIs { s with heap := s.heap.push (freshSet b) } (.ref s.heap.objs.size) "set" := ⟨_, hS, rfl⟩
  have y1 := F.called_set.init.lookup
  have y2 := F.called_set.init.bind (.ref s.heap.objs.size)
  repeat (any_goals (first | assumption | wp_step))
  refine codeAny_mono (codeAny_call_builtin (R := wants (fun r z => r = .none ∧ ∃ h2 tk, z = { s with heap := h2, toks := tk } ∧ Made P w xs s h2) E) F.called_set.init.plain F.entry_set_init (check_set_init_1 hT ?_)) fun r z hz => ?_
  · obtain ⟨⟨c, d, da, sl⟩, hol, hc, nl, hd⟩ := hl
    dsimp only at hc hd
    subst hc hd
    have hol2 : (s.heap.push (freshSet b)).get? l = some { cls := .type "list", dict := d, data := .seq items nl, slots := sl } := Heap.get?_push_of_some _ hol
    have x1 := F.sub_list_set
    have x2 := F.sub_list_frozenset
    have x3 : (Value.type "list" == Value.type "dict") = false := by decide
    have hl2 : (s.heap.push (freshSet b)).IsList l items := ⟨_, hol2, rfl, nl, rfl⟩
    unfold Builtin.«set.__init__» noKeywords Builtin.Frozenset.updateFrom
    generalize hPI : pyIter = PI
    wp_walk
    subst hPI
    refine wpAny_pyIter_list hl2 (wpAny_bind (wpAny_runValue ?_))
    have ltl : l < s.heap.objs.size := Heap.lt_size hol
    have size2 : (s.heap.push (freshSet b)).objs.size = s.heap.objs.size + 1 := Heap.size_push ..
    refine fill ((Walks.list (show A.in1.in1.in1.handled = none by simp [calm]) _ l (by rw [size2]; exact Nat.ne_of_lt (Nat.lt_succ_of_lt ltl)) items).toS) (S := s.heap.objs.size) (by
        rw [size2]
        intro y
        rcases List.mem_cons.mp y with y | y
        · exact Nat.lt_irrefl _ (Nat.lt_of_lt_of_eq (Nat.lt_succ_self _) y.symm)
        · exact Nat.lt_irrefl _ (Nat.lt_of_le_of_lt (Nat.le_of_eq (List.mem_singleton.mp y)) ltl)) len (by omega)
      (fun i v hv => ?_) items.size 0 _ (by omega) ⟨⟨_, Heap.get?_push_size _ rfl, rfl, rfl⟩, hl2.push _⟩ ?_ fun z mv hz => ?_
    · obtain ⟨t, e⟩ := SS.strs_at ra i v (by rw [Array.getElem?_toList]; exact hv)
      exact ⟨t, e⟩
    · exact SetOf_congr ((setObjOf_fresh (knd := PySem.strKind P w) b).setOf (Heap.get?_push_of_some _ hS) (by unfold scanBound; omega)) (fun _ => rfl) rfl
    · obtain ⟨h2, g2, d2, tk2, os2⟩ := z
      obtain rfl : g2 = s.gens := mv.gens
      obtain rfl : d2 = s.drawn := mv.drawn
      obtain rfl : os2 = s.os := mv.os
      show wpAny _ _ _ _ _ _
      refine wpAny_pure ?_
      show wpAny _ _ (ret Value.none) _ _ _
      refine wpAny_pure ⟨rfl, h2, tk2, rfl, len.symm ▸ hz, fun c o hc e => ?_⟩
      refine mv.heap c o (fun y => ?_) (Heap.get?_push_of_some _ (Heap.get?_push_of_some _ e))
      rw [size2] at y
      rcases List.mem_cons.mp y with y | y
      · exact Nat.lt_irrefl _ (Nat.lt_of_le_of_lt (Nat.le_of_eq y.symm) hc)
      · exact Nat.lt_irrefl _ (Nat.lt_trans hc (Nat.lt_of_lt_of_le (Nat.lt_succ_self _) (Nat.le_of_eq (List.mem_singleton.mp y).symm)))
  · match r, hz with
    | .error er, hz => exact hz
    | .ok .next, hz => exact hz.elim
    | .ok .brk, hz => exact hz.elim
    | .ok .cont, hz => exact hz.elim
    | .ok (.ret v), ⟨e1, h2, tk, e2, mk⟩ =>
      subst e1 e2
      repeat (any_goals (first | assumption | wp_step))
      exact k _ _ mk
end
open L2
def tLenSetS (K : PySem.W.Frag) (ta : TE) : TE := fun σ H Q => ta σ H fun x H1 => ∃ (l : Addr) (xs : List Str), x = .ref l ∧ SqL K H1 l (xs.map V.str) ∧ xs.length ≤ 1000 ∧ Q (.int (cn xs xs.length)) H1
theorem pe_lenSetS {X : Cx} {a : Expr} {ta : TE} {p p2 q pos : Pos} (hc : X.calm = true) (hg : Gl X "len") (hm : X.mg "len" = none) (hg2 : Gl X "set") (hm2 : X.mg "set" = none) (ha : PE X a ta)
    (na : starEach [a] X.env = (false, eval a X.env) :: starEach [] X.env := by rfl) : PE X (.Call (.Name "len" p) [.Call (.Name "set" p2) [a] [] q] [] pos) (tLenSetS X.K ta) := by
  constructor
  intro pins s σ H Q I h
  refine Call_ (ld_blt I hg hm boot_len (PyProof.Rows.callWith_builtin1 (PyProof.Rows.args_cons (Call_ (ld_blt I hg2 hm2 boot_set ?_)) rfl) rfl rfl))
  refine PyProof.Rows.callWith_type1 (PyProof.Rows.args_cons (thn (ha.run pins s σ H _ I h) fun v s2 ⟨x, H2, I2, r2, l, xs, ex, hq, hz, qq⟩ => PyProof.Rows.args_nil ?_) na) na rfl
  subst ex
  cases r2
  obtain ⟨its, r, pl, _⟩ := I2.list hq
  refine set_of_list (I2.ok.hd hc) pl.isList (by simpa using strsAre_of r) (by unfold scanBound; omega) fun h2 tk mk => PyProof.Rows.args_nil ?_
  obtain ⟨⟨o, es, ep, t, ho, hex, hd, _, _, _, hf, hn⟩, hk⟩ := mk
  have I3 : Inv X pins σ H2 { s2 with heap := h2, toks := tk } := I2.kept fun b o e => hk b o (Heap.lt_size e) e
  have le := cn_le xs xs.length
  exact call_len_set ho hex hd hf (by rw [hn]; omega) ⟨.int (cn xs xs.length), H2, I3.tok _, ⟨_, by rw [hn]⟩, qq⟩
end ST
end
section
set_option Elab.async false
set_option linter.all false
set_option maxRecDepth 100000
set_option maxHeartbeats 4000000
/-! D2: {k: v for a in xs for b in ys}, the keys tuples of texts and ints. -/
namespace D2
open PySem PySem.Spec PyProof.Rows L2
/-- one clause of a comprehension: draw, store, body -/
def turnOf (e : Expr) (lvl : Nat) (tg : Expr) (ip : Pos) (body : Sem Unit) (it acc : Value) (env : Env) : Sem Fin := do
  standAt ip
  match ← pyNext it with
  | none => pure (.done .next)
  | some v =>
    letOwnedTupleGo tg it v
    assign tg env v
    body
    again (.compLoop e lvl it acc env)
def inner (e : Expr) (i1 : Expr) (acc : Value) (env : Env) : Sem Unit := do
  let x ← eval i1 env
  standAt i1.pos
  let x ← foldedSetIterable i1 env x
  let _ ← runOwn (.compStart e 1 (← holding [x] (pyIter x)) acc env) env
def emit (kx vx : Expr) (D : Addr) (env : Env) : Sem Unit := do
  let kv ← eval kx env
  let vv ← holding [kv] (eval vx env)
  standAt { kx.pos with endLine := vx.pos.endLine, endCol := vx.pos.endCol }
  holding [kv, vv] (dictSet D kv vv)
theorem turn0 (kx vx t0 i0 t1 i1 : Expr) (scope : Scope) (pos : Pos) (it : Value) (D : Addr) (env : Env) : compTurn (.DictComp kx vx [⟨t0, i0, [], 0⟩, ⟨t1, i1, [], 0⟩] scope pos) 0 it (.ref D) env =
    turnOf (.DictComp kx vx [⟨t0, i0, [], 0⟩, ⟨t1, i1, [], 0⟩] scope pos) 0 t0 i0.pos (inner (.DictComp kx vx [⟨t0, i0, [], 0⟩, ⟨t1, i1, [], 0⟩] scope pos) i1 (.ref D) env) it (.ref D) env := by
  unfold turnOf inner
  simp only [bind_assoc]
  rfl
theorem turn1 (kx vx t0 i0 t1 i1 : Expr) (scope : Scope) (pos : Pos) (it : Value) (D : Addr) (env : Env) : compTurn (.DictComp kx vx [⟨t0, i0, [], 0⟩, ⟨t1, i1, [], 0⟩] scope pos) 1 it (.ref D) env =
    turnOf (.DictComp kx vx [⟨t0, i0, [], 0⟩, ⟨t1, i1, [], 0⟩] scope pos) 1 t1 i1.pos (emit kx vx D env) it (.ref D) env := by
  rfl
section
variable {P : Program} {w : World} {A : Around} {R : Result → Shared → Prop} {s : Shared} {kx vx tg : Expr} {gens : List Comprehension} {scope : Scope} {pos : Pos} {lvl : Nat} {ip : Pos} {body : Sem Unit} {it acc : Value} {env : Env}
/-- the clause's loop -/
theorem clause (hE : compTurn (.DictComp kx vx gens scope pos) lvl it acc env = turnOf (.DictComp kx vx gens scope pos) lvl tg ip body it acc env) (I : Nat → Shared → Prop)
    (step : ∀ n z, I n z → wpAny (model P w) A (pyNext it) (fun r z1 => match r with
      | none => R (.ok .next) z1
      | some v => wpAny (model P w) A (letOwnedTupleGo tg it v) (fun _ z2 => wpAny (model P w) A (assign tg env v) (fun _ z3 => wpAny (model P w) A body (fun _ z4 => ∃ m, m < n ∧ I m z4) (fun _ _ => False) z3) (fun _ _ => False) z2) (fun _ _ => False) z1) (fun _ _ => False) z)
    (n : Nat) (h : I n s) : codeAny (model P w) A (.compLoop (.DictComp kx vx gens scope pos) lvl it acc env) R s := by
  have no : ∀ {f : Value → Shared → Prop} (x : Value) (y : Shared), False → f x y := fun _ _ z => z.elim
  refine codeAny_loop rfl I (fun n z hI => ?_) n h
  show wpAny _ A ((compTurn (.DictComp kx vx gens scope pos) lvl it acc env).onRaise (fun x => do noteFrame x env; theTreesLotGoes x)) _ _ z
  refine wpAny_noted ?_
  rw [hE]
  unfold turnOf
  refine wpAny_bind (wpAny_standAt (wpAny_bind (wpAny_mono (step n z hI) (fun r z1 h1 => ?_) no)))
  match r, h1 with
  | none, h1 => exact wpAny_pure h1
  | some v, h1 =>
    refine wpAny_bind (wpAny_mono h1 (fun _ z2 h2 => wpAny_bind (wpAny_mono h2 (fun _ z3 h3 => wpAny_bind (wpAny_mono h3 (fun _ z4 h4 => ?_) no)) no)) no)
    exact wpAny_pure ⟨rfl, h4⟩
theorem start1 {kx vx t0 i0 t1 i1 : Expr} {scope : Scope} {pos : Pos} (h0 : codeAny (model P w) A (.compLoop (.DictComp kx vx [⟨t0, i0, [], 0⟩, ⟨t1, i1, [], 0⟩] scope pos) 1 it acc env) R s)
    (h : ∀ E, wpAny (model P w) A (pyIter it) (fun it2 z => codeAny (model P w) A (.compLoop (.DictComp kx vx [⟨t0, i0, [], 0⟩, ⟨t1, i1, [], 0⟩] scope pos) 1 it2 acc env) R z) E s) :
    codeAny (model P w) A (.compStart (.DictComp kx vx [⟨t0, i0, [], 0⟩, ⟨t1, i1, [], 0⟩] scope pos) 1 it acc env) R s := by
  refine codeAny_of_tree ?_
  show wpAny _ _ ((compStart _ 1 it acc env).onRaise (fun x => do noteFrame x env; standAt theWindowsPlace)) _ _ s
  refine wpAny_notedAt ?_
  unfold compStart
  show wpAny _ _ (ask >>= _) _ _ s
  refine wpAny_bind (wpAny_askSetting (wpAny_ite ?_))
  split
  · first
      | exact wpAny_pure ⟨rfl, h0⟩
      | exact wpAny_bind (wpAny_pure (wpAny_pure ⟨rfl, h0⟩))
  · refine wpAny_bind (wpAny_rule ?_)
    show wpAny _ _ (standAt i1.pos >>= _) _ _ s
    exact wpAny_bind (wpAny_standAt (wpAny_bind (wpAny_mono (h _) (fun it2 z hz => wpAny_pure ⟨rfl, hz⟩) fun _ _ x => x)))
end
/-- a clause over what is walked: F where it ends, bodyR what the body is asked -/
theorem walk_clause {B : Cx} {kx vx tg : Expr} {gens : List Comprehension} {scope : Scope} {pos : Pos} {lvl : Nat} {ip : Pos} {body : Sem Unit} {acc : Value} {J : It} {fp : List Addr} {it : Addr} {tn : Nat → Heap → Prop} {g : TG} {vs : List Nat} {σ0 : L2.St} {pins : List (Addr × Obj)} {H : Hp} {s : Shared} {R : Result → Shared → Prop}
    {bodyR : L2.St → Hp → (Hp → Prop) → Prop} {F : Hp → Prop} {m0 : Nat} (W : Nat → Nat → Hp → Prop) (hc : B.calm = true) (hx : ∀ e z, ¬ B.xe e z) (hE : compTurn (.DictComp kx vx gens scope pos) lvl (.ref it) acc B.env = turnOf (.DictComp kx vx gens scope pos) lvl tg ip body (.ref it) acc B.env)
    (T : Turn B.prog B.w B.K tg J fp it tn) (pg : PG B tg g) (f0 : ∀ b ∈ fp, FpOk B pins H b)
    (hb : ∀ (pl : List (Addr × Obj)) (z : Shared) (σ : L2.St) (H2 : Hp) (N : Hp → Prop), Inv B pl σ H2 z → wipe σ vs = σ0 → bodyR σ H2 N →
      wpAny (model B.prog B.w) B.A body (fun _ y => ∃ σ2 H3, Inv B pl σ2 H3 y ∧ σ2.length = σ.length ∧ (∀ (j : Nat) v, σ0[j]? = some (some v) → σ2[j]? = some (some v)) ∧ N H3) (fun _ _ => False) z)
    (turnW : ∀ i m H2, W i m H2 → (J.stop i H2 ∧ F H2) ∨ (J.go i H2 ∧ ∃ Nx : Hp → Prop, (∀ H3, Nx H3 → ∃ m2, m2 < m ∧ W (i + 1) m2 H3) ∧ ∀ x H3, J.yld i H2 x H3 → g x σ0 H3 fun σ2 H4 => wipe σ2 vs = σ0 ∧ bodyR σ2 H4 Nx))
    (fin : ∀ z H2, Inv B pins σ0 H2 z → F H2 → R (.ok .next) z) (I : Inv B pins σ0 H s) (st : tn 0 s.heap) (w0 : W 0 m0 H) :
    codeAny (model B.prog B.w) B.A (.compLoop (.DictComp kx vx gens scope pos) lvl (.ref it) acc B.env) R s := by
  have fp_at : ∀ {H2 : Hp}, (∀ b ∈ fp, H2 b = none) → ∀ b ∈ fp, FpOk B pins H2 b := fun n b hb => ⟨n b hb, (f0 b hb).2⟩
  refine clause hE (fun n z => ∃ i H2, Inv B pins σ0 H2 z ∧ tn i z.heap ∧ (∀ b ∈ fp, H2 b = none) ∧ W i n H2) ?_ m0 ⟨0, H, I, st, fun b hb => (f0 b hb).1, w0⟩
  rintro n z ⟨i, H2, I2, st2, n2, w2⟩
  rcases turnW i n H2 w2 with ⟨stop, done⟩ | ⟨go, Nx, hNx, step⟩
  · refine thnF (T.done B rfl rfl rfl hc i pins z σ0 H2 (fun _ _ => False) I2 (fp_at n2) st2 stop) fun r z1 ⟨hr, I3⟩ => ?_
    subst hr
    exact fin z1 H2 I3 done
  · refine thnF (T.item B rfl rfl rfl hc i pins z σ0 H2 (fun _ _ => False) I2 (fp_at n2) st2 go) fun r z1 ⟨u, hr, h1⟩ => ?_
    subst hr
    refine thnF h1 fun _ z2 ⟨x, H3, I3, r3, y3, st3, n3⟩ => ?_
    have I4 := I3.pinned (fp_at n3) (T.obj _ _ st3)
    refine wpAny_mono (pg.run _ z2 σ0 H3 x u _ I4 r3 (step x H3 y3)) ?_ fun e y q => (hx e y q).elim
    refine fun _ z3 ⟨σ5, H5, I5, w5, q5⟩ => ?_
    refine thnF (hb _ z3 σ5 H5 Nx I5 w5 q5) fun _ z4 ⟨σ6, H6, I6, l6, k6, q6⟩ => ?_
    obtain ⟨m2, lt2, w6⟩ := hNx H6 q6
    have pinned : ∀ b ∈ fp, ∀ o, z2.heap.get? b = some o → z4.heap.get? b = some o ∧ H6 b = none := fun b hb o e =>
      have z := I6.pin (b, o) (List.mem_append_right _ (List.mem_append_right _ (mem_pinsAt hb e)))
      ⟨z.1, z.2.1⟩
    have l0 : σ0.length = σ6.length := by rw [l6, ← w5, wipe_length]
    refine ⟨m2, lt2, i + 1, H6, I6.unpinned.weak l0 k6, T.keep _ _ _ st3 fun b hb o e => (pinned b hb o e).1, fun b hb => ?_, w6⟩
    obtain ⟨o, e, _⟩ := T.obj _ _ st3 b hb
    exact (pinned b hb o e).2
/-- d[t] = v by a comprehension, t a tuple of texts and ints -/
theorem put_tup {X : Cx} {pins : List (Addr × Obj)} {σ : L2.St} {H : Hp} {s : Shared} {E : Value → Shared → Prop} {D b : Addr} {kvs : List (List Key × V)} {k : List Key} {v : V} {r : Value} {Q : Unit → Shared → Prop} (hu : X.A.units + 1 < cLine) (I : Inv X pins σ H s) (hD : H D = some (.dT kvs)) (hz : kvs.length < sizeLine)
    (eb : H b = some (.tup (k.map kV))) (rv : RelV v r) (h : ∀ z, Inv X pins σ (upd H D (.dT (putK kvs k v))) z → Q () z) : wpAny (model X.prog X.w) X.A (dictSet D (.ref b) r) Q E s := by
  obtain ⟨z, hd, xs, rel, dd⟩ := dt_of I.hok hD
  have hx : xs.length ≤ sizeLine := by rw [← Paired.length rel]; exact z
  have hl : (putK kvs k v).length ≤ sizeLine := by have := length_putK kvs k v; omega
  refine wpAny_dictSet_heap (hsz := hx) (show X.A.units < cLine by omega) (key_of I.hok eb) dd fun h2 dd2 hs => h _ ?_
  obtain ⟨q, es, ep, hq, h2', h3, h4, _, h5⟩ := dd2
  refine d_write I (by rw [hD]; exact True.intro) hs ⟨q, hq⟩ ⟨hl, hd, _, (rel.put k eb rv).keeps fun c ys ec => ?_, q, es, ep, hq, h2', h3, h4, h5⟩
  rw [upd_ne (ne_of ec hD (fun z => nomatch z))]
  exact ec
section
variable {X : Cx}
def tDc2 (wi : TI) (g : TG) (wi1 : TI) (g1 : TG) (tk tv : TE) (vs vs1 : List Nat) : TE := fun σ H Q => wi σ H fun J H1 => ∀ D, H1 D = none → ∃ W : Nat → Nat → Hp → Prop, (∃ m, W 0 m (upd H1 D (.dT []))) ∧ ∀ i m H, W i m H →
  (J.stop i H ∧ Q (.ref D) H) ∨ (J.go i H ∧ ∃ Nx : Hp → Prop, (∀ H2, Nx H2 → ∃ m2, m2 < m ∧ W (i + 1) m2 H2) ∧ ∀ x H2, J.yld i H x H2 → g x (wipe σ vs) H2 fun σ2 H3 => wipe σ2 vs = wipe σ vs ∧
    wi1 σ2 H3 fun J1 H4 => ∃ W1 : Nat → Nat → Hp → Prop, (∃ m, W1 0 m H4) ∧ ∀ j k H, W1 j k H →
      (J1.stop j H ∧ Nx H) ∨ (J1.go j H ∧ ∃ Nx1 : Hp → Prop, (∀ H2, Nx1 H2 → ∃ k2, k2 < k ∧ W1 (j + 1) k2 H2) ∧ ∀ x H2, J1.yld j H x H2 → g1 x (wipe σ2 vs1) H2 fun σ3 H5 => wipe σ3 vs1 = wipe σ2 vs1 ∧
        tk σ3 H5 fun y H6 => tv σ3 H6 fun z H7 => ∃ kvs k b, y = V.ref b ∧ H7 D = some (.dT kvs) ∧ H7 b = some (.tup (k.map kV)) ∧ kvs.length < sizeLine ∧ Nx1 (upd H7 D (.dT (putK kvs k z)))))
theorem pe_dc2 {kx vx tg iter tg1 iter1 : Expr} {scope : Scope} {own : List (Str × Nat)} {vs1 : List Nat} {pos : Pos} {wi wi1 : TI} {g g1 : TG} {tk tv : TE} (hc : X.calm = true) (hu : X.A.units + 1 < cLine) (hN : X.N.Nodup) (hi : PI X tg iter wi) (ok : BlkOk X.N X.env.scope scope own) (hv : ∀ i ∈ vs1, i ∈ own.map (·.2))
    (hg : ∀ (s : Shared) (H : Hp) (C : Addr) (cl : List (Str × Addr)) (fp : List Addr), PG (X.blk s H scope (compEnvC scope cl C X.env) fp) tg g)
    (hi1 : ∀ (s : Shared) (H : Hp) (C : Addr) (cl : List (Str × Addr)) (fp : List Addr), PI (X.blk s H scope (compEnvC scope cl C X.env) fp) tg1 iter1 wi1)
    (hg1 : ∀ (s : Shared) (H : Hp) (C : Addr) (cl : List (Str × Addr)) (fp : List Addr), PG (X.blk s H scope (compEnvC scope cl C X.env) fp) tg1 g1)
    (hk : ∀ (s : Shared) (H : Hp) (C : Addr) (cl : List (Str × Addr)) (fp : List Addr), PE (X.blk s H scope (compEnvC scope cl C X.env) fp) kx tk)
    (he : ∀ (s : Shared) (H : Hp) (C : Addr) (cl : List (Str × Addr)) (fp : List Addr), PE (X.blk s H scope (compEnvC scope cl C X.env) fp) vx tv)
    (hs : ∀ x, foldedSetIterable iter X.env x = pure x := by intro _; rfl) (hs1 : ∀ env x, foldedSetIterable iter1 env x = pure x := by intro _ _; rfl) :
    PE X (.DictComp kx vx [⟨tg, iter, [], 0⟩, ⟨tg1, iter1, [], 0⟩] scope pos) (tDc2 wi g wi1 g1 tk tv (own.map (·.2)) vs1) := by
  constructor
  intro pins s σ H Q I h
  rw [arm_eval_DictComp]
  have clo : ∀ y ∈ scope.names, y.2 = .free → ∃ c, X.env.cells.lookup y.1 = some c := fun y hy e => (ok.free y hy e).elim (fun k => I.ok.has _ (.inl k)) fun k => I.ok.has _ (.inr k)
  refine wpAny_comprehension_free (use := none) rfl hs (closure_ok clo) ok.kind (fun y hy e => by rw [ok.uniq y hy, e]) (thn (hi.run pins s σ H _ I h) fun xv s1 hx => thn hx fun itv s2 h2 => ?_)
  obtain ⟨it, fp, tn, J, H2, e, I2, T, st2, f2, q⟩ := h2
  subst e
  refine wpAny_newObj_type (newEnv_comp ?_)
  generalize hD : s2.heap.objs.size = D
  have hDn : H2 D = none := I2.hok.fresh (Nat.le_of_eq hD)
  obtain ⟨W, ⟨m0, w0⟩, turn⟩ := q D hDn
  generalize hs3 : ({ s2 with heap := s2.heap.push { cls := .type "dict", data := .dict #[] } } : Shared) = s3
  have h3 : s3.heap = s2.heap.push { cls := .type "dict", data := .dict #[] } := by rw [← hs3]
  have I3 : Inv X pins σ (upd H2 D (.dT [])) s3 := by
    subst hs3 hD
    exact I2.laid (t' := s2.toks) (fun b o e => Heap.get?_push_of_some _ e) (Nat.le_refl _) (dt_empty s2.heap I2.big)
  have lt2 : ∀ b ∈ fp, b < s2.heap.objs.size := fun b hb => let ⟨o, e, _⟩ := T.obj _ _ st2 b hb; Heap.lt_size e
  have f3 : ∀ b ∈ fp, FpOk X pins (upd H2 D (.dT [])) b ∧ b < s3.heap.objs.size := fun b hb =>
    ⟨⟨by rw [upd_ne (by rw [← hD]; exact Nat.ne_of_lt (lt2 b hb))]; exact (f2 b hb).1, (f2 b hb).2⟩, by rw [h3, Heap.size_push]; exact Nat.lt_succ_of_lt (lt2 b hb)⟩
  have st3 : tn 0 s3.heap := T.keep _ _ _ st2 fun b _ o e => by rw [h3]; exact Heap.get?_push_of_some _ e
  have I4 := block_start I3 ok hN f3
  generalize hH3 : upd H2 D (.dT []) = H3 at I3 I4 w0 f3
  have pg := hg s3 H3 s3.heap.objs.size (cellsFrom (s3.heap.objs.size + 1) scope.names (cloFrom X.env.cells scope.names [])) fp
  have pi1 := hi1 s3 H3 s3.heap.objs.size (cellsFrom (s3.heap.objs.size + 1) scope.names (cloFrom X.env.cells scope.names [])) fp
  have pg1 := hg1 s3 H3 s3.heap.objs.size (cellsFrom (s3.heap.objs.size + 1) scope.names (cloFrom X.env.cells scope.names [])) fp
  have pk := hk s3 H3 s3.heap.objs.size (cellsFrom (s3.heap.objs.size + 1) scope.names (cloFrom X.env.cells scope.names [])) fp
  have pv := he s3 H3 s3.heap.objs.size (cellsFrom (s3.heap.objs.size + 1) scope.names (cloFrom X.env.cells scope.names [])) fp
  show codeAny _ _ (.compStart (.DictComp kx vx [⟨tg, iter, [], 0⟩, ⟨tg1, iter1, [], 0⟩] scope pos) 0 (.ref it) (.ref D) (compEnvC scope (cellsFrom (s3.heap.objs.size + 1) scope.names (cloFrom X.env.cells scope.names [])) s3.heap.objs.size X.env)) _ { s3 with heap := pushCells (s3.heap.push { cls := .type "dict", data := .dict #[] }) scope.names }
  generalize hce : compEnvC scope (cellsFrom (s3.heap.objs.size + 1) scope.names (cloFrom X.env.cells scope.names [])) s3.heap.objs.size X.env = ce at I4 pg pk pv pi1 pg1 ⊢
  have cL : ce.locals = s3.heap.objs.size := by subst hce; rfl
  generalize hs4 : ({ s3 with heap := pushCells (s3.heap.push { cls := .type "dict", data := .dict #[] }) scope.names } : Shared) = s4 at I4 ⊢
  have st4 : tn 0 s4.heap := T.keep _ _ _ st3 fun b _ o e => by rw [← hs4]; exact pushCells_keeps _ _ _ _ (Heap.get?_push_of_some _ e)
  have no : ∀ {f : Value → Shared → Prop} (x : Value) (y : Shared), False → f x y := fun _ _ z => z.elim
  have f4 : ∀ b ∈ fp, FpOk (X.blk s3 H3 scope ce fp) [] H3 b := fun b hb =>
    ⟨(f3 b hb).1.1, (I4.ok.exf b hb).1, I4.ok.exfs b hb, .inl hb, fun x c e => (I4.ok.exf b hb).2 x c e, fun p hp => absurd (show p ∈ ([] : List (Addr × Obj)) ++ [] from hp) (by simp)⟩
  have main : codeAny (model X.prog X.w) X.A (.compLoop (.DictComp kx vx [⟨tg, iter, [], 0⟩, ⟨tg1, iter1, [], 0⟩] scope pos) 0 (.ref it) (.ref D) ce) (compPost (model X.prog X.w) X.A X.xe none (EP X pins σ Q) (.ref D) s3.heap.objs.size) s4 := by
    refine walk_clause (B := X.blk s3 H3 scope ce fp) (σ0 := wipe σ (own.map (·.2))) (vs := own.map (·.2)) (pins := []) (F := fun H => Q (.ref D) H) W hc (fun _ _ z => z) (turn0 kx vx tg iter tg1 iter1 scope pos (.ref it) D ce) T pg f4 (fun pl z σ2 H5 N I5 w5 q5 => ?_) turn (fun z H5 I6 qq => ?_) I4 st4 w0
    · unfold inner
      refine wpAny_bind (wpAny_mono (pi1.run _ z σ2 H5 _ I5 q5) (fun xv z1 hx => wpAny_bind (wpAny_standAt (wpAny_bind (wpAny_of_eq (hs1 ce xv) (wpAny_bind (wpAny_holding (wpAny_mono hx (fun itv z2 h6 => ?_) no))))))) no)
      obtain ⟨it1, fp1, tn1, J1, H6, e1, I6, T1, st6, f6, W1, ⟨m1, w1⟩, turn1'⟩ := h6
      subst e1
      refine wpAny_bind (wpAny_runOwn ?_)
      rw [Around.mark_none]
      have len2 : (wipe σ2 vs1).length = σ2.length := wipe_length _ _
      have know : ∀ (j : Nat) v, (wipe σ (own.map (·.2)))[j]? = some (some v) → (wipe σ2 vs1)[j]? = some (some v) := fun j v e => by
        rw [← w5] at e
        obtain ⟨e1, e2⟩ := wipe_some e
        rw [wipe_out fun z => e2 (hv j z)]
        exact e1
      have loop1 : codeAny (model X.prog X.w) X.A (.compLoop (.DictComp kx vx [⟨tg, iter, [], 0⟩, ⟨tg1, iter1, [], 0⟩] scope pos) 1 (.ref it1) (.ref D) ce)
          (fun r y => match r with
            | .ok _ => ∃ σ3 H7, Inv (X.blk s3 H3 scope ce fp) pl σ3 H7 y ∧ σ3.length = σ2.length ∧ (∀ (j : Nat) v, (wipe σ (own.map (·.2)))[j]? = some (some v) → σ3[j]? = some (some v)) ∧ N H7
            | .error _ => False) z2 := by
        refine walk_clause (B := X.blk s3 H3 scope ce fp) (σ0 := wipe σ2 vs1) (vs := vs1) (pins := pl) (F := N) W1 hc (fun _ _ z => z) (turn1 kx vx tg iter tg1 iter1 scope pos (.ref it1) D ce) T1 pg1 f6 (bodyR := fun σ3 H7 Nx => tk σ3 H7 fun y H8 => tv σ3 H8 fun z H9 => ∃ kvs k b, y = V.ref b ∧ H9 D = some (.dT kvs) ∧ H9 b = some (.tup (k.map kV)) ∧ kvs.length < sizeLine ∧ Nx (upd H9 D (.dT (putK kvs k z))))
          (fun pl2 y σ3 H7 N1 I7 w7 q7 => ?_) turn1' (fun y H7 I7 q7 => ⟨_, H7, I7, len2, know, q7⟩) (I6.weak len2 fun j v e => (wipe_some e).1) st6 w1
        unfold emit
        refine wpAny_bind (wpAny_mono (pk.run _ y σ3 H7 _ I7 q7) (fun u1 y1 ⟨v1, H8, I8, r8, q8⟩ => wpAny_bind (wpAny_holding (wpAny_mono (pv.run _ y1 σ3 H8 _ I8 q8) (fun u2 y2 ⟨v2, H9, I9, r9, kvs, k, b, ev, hD9, hb9, hz9, nx⟩ => wpAny_bind (wpAny_standAt (wpAny_holding ?_))) no))) no)
        subst ev
        cases r8
        exact put_tup (X := X.blk s3 H3 scope ce fp) hu I9 hD9 hz9 hb9 r9 fun y3 I10 => ⟨σ3, _, I10, rfl, fun j v e => by rw [← w7] at e; exact (wipe_some e).1, nx⟩
      refine codeAny_mono (start1 loop1 fun E => T1.self X.A 0 _ _ E st6 loop1) fun r y hr => ?_
      match r, hr with
      | .ok f, hr => exact wpAny_pure hr
      | .error e, hr => exact hr.elim
    · have I7 : Inv X pins σ H5 z := I3.call' (ch := fp) I6.os I6.base I6.hok I6.bare fun b hb => have w := (f3 b hb).1.2; ⟨w.2.2.1, w.1, w.2.2.2.1, w.2.2.2.2⟩
      obtain ⟨m, hn, _⟩ := I6.loc
      have hn2 : z.heap.Ns ce.locals m := hn
      have nC : H5 ce.locals = none := I6.free
      rw [cL] at hn2 nC
      obtain ⟨p0, p1, p2, p3, p4, p5⟩ := I3.fpOk (H' := H5) (Nat.le_refl _) nC
      exact ⟨m, hn2, fun h5 sb => ⟨.ref D, H5, I7.turned (t' := z.toks) (fun b o hb e => (sb.2 b hb).trans e) p0 p1 p3 p4 p5, rfl, qq⟩⟩
  exact codeAny_compStart_dict main (T.self X.A 0 _ _ _ st4 main)
end
end D2
end
section
set_option Elab.async false
set_option linter.all false
set_option maxRecDepth 100000
set_option maxHeartbeats 4000000
/-! TX: data made of tuples, over HandS.Evl: what stands (Rep), what evaluates to it (EvR), lists of it (EvS). -/
namespace TX
open PySem PySem.Spec PyProof.Rows L2 Evl
/-- all tuples stay -/
def Tx (H H' : Hp) : Prop := ∀ a xs, H a = some (.tup xs) → H' a = some (.tup xs)
theorem Tx.refl (H : Hp) : Tx H H := fun _ _ h => h
theorem Tx.trans {H H1 H2 : Hp} (a : Tx H H1) (b : Tx H1 H2) : Tx H H2 := fun x o h => b x o (a x o h)
theorem Tx.ex {H H' : Hp} (e : Ex H H') : Tx H H' := fun a xs h => e a _ h
theorem Tx.put {H : Hp} {D : Addr} {xs : List V} {o : HO} (h : H D = some (.lst xs)) : Tx H (upd H D o) := fun a ys e => by
  rw [upd_ne (fun z => by rw [z, h] at e; cases e)]
  exact e
mutual
inductive Rep (H : Hp) : V → PyData → Prop
  | non : Rep H .non .none
  | bl (b : Bool) : Rep H (.bl b) (.bool b)
  | int (i : Int) : Rep H (.int i) (.int i)
  | str (z : Str) : Rep H (.str z) (.str z)
  | tup {a : Addr} {xs : List V} {ds : List PyData} : H a = some (.tup xs) → Reps H xs ds → Rep H (.ref a) (.tuple ds)
inductive Reps (H : Hp) : List V → List PyData → Prop
  | nil : Reps H [] []
  | cons {x : V} {d : PyData} {xs : List V} {ds : List PyData} : Rep H x d → Reps H xs ds → Reps H (x :: xs) (d :: ds)
end
mutual
theorem Rep.on {H H' : Hp} (t : Tx H H') : ∀ {v : V} {d : PyData}, Rep H v d → Rep H' v d
  | _, _, .non => .non
  | _, _, .bl b => .bl b
  | _, _, .int i => .int i
  | _, _, .str z => .str z
  | _, _, .tup h r => .tup (t _ _ h) (Reps.on t r)
theorem Reps.on {H H' : Hp} (t : Tx H H') : ∀ {vs : List V} {ds : List PyData}, Reps H vs ds → Reps H' vs ds
  | _, _, .nil => .nil
  | _, _, .cons h r => .cons (Rep.on t h) (Reps.on t r)
end
theorem Rep.ex {H H' : Hp} {v : V} {d : PyData} (r : Rep H v d) (e : Ex H H') : Rep H' v d := r.on (.ex e)
theorem Reps.ex {H H' : Hp} {v : List V} {d : List PyData} (r : Reps H v d) (e : Ex H H') : Reps H' v d := r.on (.ex e)
theorem Reps.len {H : Hp} : ∀ {vs : List V} {ds : List PyData}, Reps H vs ds → vs.length = ds.length
  | _, _, .nil => rfl
  | _, _, .cons _ r => congrArg (· + 1) r.len
theorem Reps.app {H : Hp} : ∀ {vs us : List V} {ds es : List PyData}, Reps H vs ds → Reps H us es → Reps H (vs ++ us) (ds ++ es)
  | _, _, _, _, .nil, h => h
  | _, _, _, _, .cons h r, q => .cons h (r.app q)
theorem Reps.at {H : Hp} : ∀ {vs : List V} {ds : List PyData}, Reps H vs ds → ∀ {i : Nat} {x : V}, vs[i]? = some x → ∃ d, ds[i]? = some d ∧ Rep H x d
  | _, _, .nil, _, _, h => by simp at h
  | _, _, .cons h _, 0, _, e => by cases (Option.some.inj e); exact ⟨_, rfl, h⟩
  | _, _, .cons _ r, i + 1, _, e => r.at (i := i) e
theorem Reps.get {H : Hp} : ∀ {vs : List V} {ds : List PyData}, Reps H vs ds → ∀ {i : Nat} {d : PyData}, ds[i]? = some d → ∃ x, vs[i]? = some x ∧ Rep H x d
  | _, _, .nil, _, _, h => by simp at h
  | _, _, .cons h _, 0, _, e => by cases (Option.some.inj e); exact ⟨_, rfl, h⟩
  | _, _, .cons _ r, i + 1, _, e => r.get (i := i) e
theorem Rep.tup_inv {H : Hp} {v : V} {ds : List PyData} (r : Rep H v (.tuple ds)) : ∃ a xs, v = .ref a ∧ H a = some (.tup xs) ∧ Reps H xs ds := by
  cases r with
  | tup h r => exact ⟨_, _, rfl, h, r⟩
theorem Rep.str_inv {H : Hp} {v : V} {z : Str} (r : Rep H v (.str z)) : v = .str z := by cases r; rfl
theorem Rep.int_inv {H : Hp} {v : V} {z : Int} (r : Rep H v (.int z)) : v = .int z := by cases r; rfl
theorem Reps.nil_inv {H : Hp} {vs : List V} (r : Reps H vs []) : vs = [] := by cases r; rfl
theorem Reps.cons_inv {H : Hp} {vs : List V} {d : PyData} {ds : List PyData} (r : Reps H vs (d :: ds)) : ∃ x xs, vs = x :: xs ∧ Rep H x d ∧ Reps H xs ds := by
  cases r with
  | cons h r => exact ⟨_, _, rfl, h, r⟩
theorem Reps.strs {H : Hp} : ∀ {zs : List Str} {vs : List V}, Reps H vs (zs.map PyData.str) → vs = zs.map V.str
  | [], _, r => r.nil_inv
  | z :: zs, _, r => by
    obtain ⟨x, xs, rfl, h, q⟩ := r.cons_inv
    rw [h.str_inv, Reps.strs q]; rfl
theorem Reps.ofStrs {H : Hp} : ∀ (zs : List Str), Reps H (zs.map V.str) (zs.map PyData.str)
  | [] => .nil
  | z :: zs => .cons (.str z) (Reps.ofStrs zs)
theorem Reps.ints {H : Hp} : ∀ {zs : List Int} {vs : List V}, Reps H vs (zs.map PyData.int) → vs = zs.map V.int
  | [], _, r => r.nil_inv
  | z :: zs, _, r => by
    obtain ⟨x, xs, rfl, h, q⟩ := r.cons_inv
    rw [h.int_inv, Reps.ints q]; rfl
theorem Reps.ofInts {H : Hp} : ∀ (zs : List Int), Reps H (zs.map V.int) (zs.map PyData.int)
  | [] => .nil
  | z :: zs => .cons (.int z) (Reps.ofInts zs)
/-- what a value with parts reads as -/
theorem Rep.two {H : Hp} {v : V} {d e : PyData} (r : Rep H v (.tuple [d, e])) : ∃ a x y, v = .ref a ∧ H a = some (.tup [x, y]) ∧ Rep H x d ∧ Rep H y e := by
  obtain ⟨a, xs, rfl, h, r⟩ := r.tup_inv
  obtain ⟨x, xs, rfl, h1, r⟩ := r.cons_inv
  obtain ⟨y, xs, rfl, h2, r⟩ := r.cons_inv
  rw [r.nil_inv] at h
  exact ⟨a, x, y, rfl, h, h1, h2⟩
theorem Rep.three {H : Hp} {v : V} {d e f : PyData} (r : Rep H v (.tuple [d, e, f])) : ∃ a x y z, v = .ref a ∧ H a = some (.tup [x, y, z]) ∧ Rep H x d ∧ Rep H y e ∧ Rep H z f := by
  obtain ⟨a, xs, rfl, h, r⟩ := r.tup_inv
  obtain ⟨x, xs, rfl, h1, r⟩ := r.cons_inv
  obtain ⟨y, xs, rfl, h2, r⟩ := r.cons_inv
  obtain ⟨z, xs, rfl, h3, r⟩ := r.cons_inv
  rw [r.nil_inv] at h
  exact ⟨a, x, y, z, rfl, h, h1, h2, h3⟩
mutual
theorem Rep.dp {K : PySem.W.Frag} {H : Hp} : ∀ {v : V} {d : PyData}, Rep H v d → Dp K H v d
  | _, _, .non => .non
  | _, _, .bl b => .bl b
  | _, _, .int i => .int i
  | _, _, .str z => .str z
  | _, _, .tup h r => .tup (st_of h) (Reps.dp r)
theorem Reps.dp {K : PySem.W.Frag} {H : Hp} : ∀ {vs : List V} {ds : List PyData}, Reps H vs ds → DpAll K H vs ds
  | _, _, .nil => .nil
  | _, _, .cons h r => .cons (Rep.dp h) (Reps.dp r)
end
/-! ### what evaluates to it -/
def EvR (te : TE) (σ : L2.St) (H : Hp) (d : PyData) : Prop := ∀ H1, Ex H H1 → ∀ Q : VK, (∀ v H2, Ex H1 H2 → Rep H2 v d → Q v H2) → te σ H1 Q
def EvRA (ta : TA) (σ : L2.St) (H : Hp) (ds : List PyData) : Prop := ∀ H1, Ex H H1 → ∀ Q : List V → Hp → Prop, (∀ vs H2, Ex H1 H2 → Reps H2 vs ds → Q vs H2) → ta σ H1 Q
/-- a new list of it -/
def EvS (te : TE) (σ : L2.St) (H : Hp) (ds : List PyData) : Prop := ∀ H1, Ex H H1 → ∀ Q : VK, (∀ p xs H2, H1 p = none → Ex H1 H2 → H2 p = some (.lst xs) → Reps H2 xs ds → Q (.ref p) H2) → te σ H1 Q
section
variable {K : PySem.W.Frag} {σ : L2.St} {H H' : Hp} {ta tb te : TE} {t : TT} {x y z v : V} {d e : PyData} {ds es : List PyData} {tr : TA}
theorem EvR.mono (x : Ex H H') (h : EvR te σ H d) : EvR te σ H' d := fun H1 a Q q => h H1 (x.trans a) Q q
theorem EvS.mono (x : Ex H H') (h : EvS te σ H ds) : EvS te σ H' ds := fun H1 a Q q => h H1 (x.trans a) Q q
theorem er_var {i : Nat} (h : σ[i]? = some (some v)) (r : Rep H v d) : EvR (tVar i) σ H d := fun H1 a Q q => ⟨v, h, q v H1 (Ex.refl H1) (r.ex a)⟩
theorem er_ev (h : Ev te σ H v) (r : Rep H v d) : EvR te σ H d := fun H1 a Q q => h H1 a Q fun H2 b => q v H2 b (r.ex (a.trans b))
theorem er_str {w : Str} (h : Ev te σ H (.str w)) : EvR te σ H (.str w) := er_ev h (.str w)
theorem er_int {i : Int} (h : Ev te σ H (.int i)) : EvR te σ H (.int i) := er_ev h (.int i)
theorem EvR.str {w : Str} (h : EvR te σ H (.str w)) : Ev te σ H (.str w) := fun H1 a Q q => h H1 a Q fun v H2 b r => by rw [r.str_inv]; exact q H2 b
theorem EvR.int {i : Int} (h : EvR te σ H (.int i)) : Ev te σ H (.int i) := fun H1 a Q q => h H1 a Q fun v H2 b r => by rw [r.int_inv]; exact q H2 b
theorem era_nil : EvRA tNil σ H [] := fun H1 _ _ q => q [] H1 (Ex.refl H1) .nil
theorem era_cons (h : EvR te σ H d) (hr : EvRA tr σ H ds) : EvRA (tCons te tr) σ H (d :: ds) := fun H1 a _ q =>
  h H1 a _ fun v H2 b r => hr H2 (a.trans b) _ fun vs H3 c rs => q (v :: vs) H3 (b.trans c) (.cons (r.ex c) rs)
theorem er_tup (h : EvRA tr σ H ds) (hl : ds.length ≤ 1000) : EvR (tTup tr) σ H (.tuple ds) := fun H1 a _ q =>
  h H1 a _ fun vs H2 b rs => ⟨by rw [rs.len]; exact sz_of (by omega), fun p hp => q (.ref p) _ (b.trans (Ex.new hp)) (.tup upd_same (rs.ex (Ex.new hp)))⟩
theorem es_lst (h : EvRA tr σ H ds) (hl : ds.length ≤ 1000) : EvS (tLst tr) σ H ds := fun H1 a _ q =>
  h H1 a _ fun vs H2 b rs => ⟨by rw [rs.len]; exact sz_of (by omega), fun p hp => q p vs _ (fresh_back b hp) (b.trans (Ex.new hp)) upd_same (rs.ex (Ex.new hp))⟩
/-- tuple(a new list) -/
def rTupS (K : PySem.W.Frag) : List V → Hp → VK → Prop := fun xs H Q => ∃ p ys, xs = [.ref p] ∧ ((SqL K H p ys ∧ ∀ l, H l = none → Q (.ref l) (upd H l (.tup ys))) ∨ (SqT K H p ys ∧ Q (.ref p) H))
theorem er_tuple (h : EvS te σ H ds) : EvR (tCB (rTupS K) (tCons te tNil)) σ H (.tuple ds) := fun H1 a Q q =>
  h H1 a _ fun p xs H2 _ b hp rs => ⟨p, xs, rfl, .inl ⟨sq_of hp, fun l hl => q (.ref l) _ (b.trans (Ex.new hl)) (.tup upd_same (rs.ex (Ex.new hl)))⟩⟩
/-- t[i] -/
theorem er_ix {i : Nat} (h : EvR ta σ H (.tuple ds)) (hi : Ev tb σ H (.int (i : Int))) (hd : ds[i]? = some d) : EvR (tOp (rIxT K) ta tb) σ H d := fun H1 a Q q =>
  h H1 a _ fun v H2 b r => hi H2 (a.trans b) _ fun H3 c => by
    obtain ⟨p, xs, rfl, hp, rs⟩ := r.tup_inv
    obtain ⟨x, hx, rx⟩ := rs.get hd
    exact ⟨p, xs, (i : Int), x, rfl, rfl, st_of (c _ _ hp), atI_nat hx, q x H3 (b.trans c) (rx.ex c)⟩
/-- len of it -/
theorem ev_lenR (h : EvR te σ H (.tuple ds)) : Ev (tCB (rLenS K) (tCons te tNil)) σ H (.int (ds.length : Int)) := fun H1 a Q q =>
  h H1 a _ fun v H2 b r => by
    obtain ⟨p, xs, rfl, hp, rs⟩ := r.tup_inv
    exact ⟨p, xs, rfl, .inr (st_of hp), by rw [rs.len]; exact q H2 b⟩
/-- a list comprehension over anything walked: st the slots, f which turns give, d what -/
theorem es_lc {J : It} {n : Nat} {G : Hp → Prop} {Y : Nat → Hp → V → Hp → Prop} {wi : TI} {g : TG} {vs : List Nat} (W : Walk J n G Y) (hn : n ≤ 40000) (st : Nat → L2.St) (f : Nat → Bool) (D : Nat → PyData)
    (hwi : ∀ H1, Ex H H1 → ∀ R : It → Hp → Prop, (∀ H2, Ex H1 H2 → G H2 → R J H2) → wi σ H1 R) (hG : ∀ H1 H2, Ex H1 H2 → G H1 → G H2) (hw : ∀ i, i < n → wipe (st i) vs = wipe σ vs)
    (hg : ∀ i x H1 H2 (R : L2.St → Hp → Prop), i < n → Ex H H1 → G H1 → Y i H1 x H2 → (∀ H3, Ex H1 H3 → R (st i) H3) → g x (wipe σ vs) H2 R)
    (ht : ∀ i H1, i < n → Ex H H1 → EvT t (st i) H1 (f i)) (he : ∀ i H1, i < n → Ex H H1 → f i = true → EvR te (st i) H1 (D i)) : EvS (tLc wi g t te vs) σ H (((List.range n).filter f).map D) := fun H0 e Q q =>
  hwi H0 e _ fun H1 e1 g1 Dl hD => lc_it W (fun i H' => Ex H1 H' ∧ ∃ acc, H' Dl = some (.lst acc) ∧ Reps H' acc (((List.range i).filter f).map D)) ⟨Ex.new hD, [], upd_same, .nil⟩ (fun i H' _ p => hG H1 H' p.1 g1)
    (fun i x H' H2 hi ⟨p1, acc, p2, p3⟩ hy => hg i x H' H2 _ hi ((e.trans e1).trans p1) (hG H1 H' p1 g1) hy fun H3 e3 => ⟨hw i hi, ht i H3 hi (((e.trans e1).trans p1).trans e3) H3 (Ex.refl H3) _ fun H4 e4 => by
      have e34 := e3.trans e4
      have ll : ((List.range i).filter f).length ≤ i := by have := List.length_filter_le f (List.range i); rw [List.length_range] at this; exact this
      cases hf : f i with
      | true =>
        show te (st i) H4 fun y H5 => ∃ acc, H5 Dl = some (.lst acc) ∧ acc.length < sizeLine ∧ Ex H1 (upd H5 Dl (.lst (acc ++ [y]))) ∧ ∃ acc2, (upd H5 Dl (.lst (acc ++ [y]))) Dl = some (.lst acc2) ∧ Reps (upd H5 Dl (.lst (acc ++ [y]))) acc2 (((List.range (i + 1)).filter f).map D)
        refine he i H4 hi (((e.trans e1).trans p1).trans e34) hf H4 (Ex.refl H4) _ fun v H5 e5 rv => ?_
        have h5 : H5 Dl = some (.lst acc) := e5 _ _ (e34 _ _ p2)
        refine ⟨acc, h5, sz_lt (by rw [p3.len, List.length_map]; omega), Ex.mut ((p1.trans e34).trans e5) hD, _, upd_same, ?_⟩
        have e6 : ((List.range (i + 1)).filter f).map D = ((List.range i).filter f).map D ++ [D i] := by
          rw [List.range_succ, List.filter_append, List.map_append, List.filter_cons, if_pos hf]; rfl
        rw [e6]
        exact ((p3.ex (e34.trans e5)).on (Tx.put h5)).app (.cons (rv.on (Tx.put h5)) .nil)
      | false =>
        show Ex H1 H4 ∧ ∃ acc2, H4 Dl = some (.lst acc2) ∧ Reps H4 acc2 (((List.range (i + 1)).filter f).map D)
        refine ⟨p1.trans e34, acc, e34 _ _ p2, ?_⟩
        have e6 : ((List.range (i + 1)).filter f).map D = ((List.range i).filter f).map D := by
          rw [List.range_succ, List.filter_append, List.map_append, List.filter_cons, if_neg (by rw [hf]; decide)]; exact List.append_nil _
        rw [e6]
        exact p3.ex e34⟩)
    (fun H' ⟨p1, acc, p2, p3⟩ => q Dl acc H' (match h : H0 Dl with
      | none => rfl
      | some o => absurd (e1 _ _ h) (by rw [hD]; exact fun z => nomatch z)) (e1.trans p1) p2 p3)
theorem filter_all {n : Nat} : (List.range n).filter (fun _ => true) = List.range n := List.filter_eq_self.mpr fun _ _ => rfl
/-- .. over a tuple that stays -/
theorem es_lcT {tl : TE} {g : TG} {vs : List Nat} {a : Addr} {xs : List V} (h : Ev tl σ H (.ref a)) (hx : H a = some (.tup xs)) (hn : xs.length ≤ 40000) (st : Nat → L2.St) (f : Nat → Bool) (D : Nat → PyData) (hw : ∀ i, i < xs.length → wipe (st i) vs = wipe σ vs)
    (hg : ∀ i x H1 (R : L2.St → Hp → Prop), xs[i]? = some x → Ex H H1 → R (st i) H1 → g x (wipe σ vs) H1 R)
    (ht : ∀ i x H1, xs[i]? = some x → Ex H H1 → EvT t (st i) H1 (f i)) (he : ∀ i x H1, xs[i]? = some x → Ex H H1 → f i = true → EvR te (st i) H1 (D i)) : EvS (tLc (iTup K tl) g t te vs) σ H (((List.range xs.length).filter f).map D) :=
  es_lc (walk_tup (K := K) (a := a) (xs := xs)) hn st f D (fun H1 e R k => h H1 e _ fun H2 e2 => have q := st_of (K := K) ((e.trans e2) _ _ hx); ⟨a, rfl, ⟨xs, q⟩, k H2 e2 q⟩) (fun H1 H2 e q => ex_t e q) hw
    (fun i x H1 H2 R hi e _ hy k => by
      obtain ⟨rfl, hy⟩ := hy
      exact hg i x _ R hy e (k _ (Ex.refl _)))
    (fun i H1 hi e => ht i _ H1 (List.getElem?_eq_getElem hi) e) (fun i H1 hi e hf => he i _ H1 (List.getElem?_eq_getElem hi) e hf)
theorem es_lcT1 {tl : TE} {g : TG} {vs : List Nat} {a : Addr} {xs : List V} (h : Ev tl σ H (.ref a)) (hx : H a = some (.tup xs)) (hn : xs.length ≤ 40000) (st : Nat → L2.St) (D : Nat → PyData) (hw : ∀ i, i < xs.length → wipe (st i) vs = wipe σ vs)
    (hg : ∀ i x H1 (R : L2.St → Hp → Prop), xs[i]? = some x → Ex H H1 → R (st i) H1 → g x (wipe σ vs) H1 R)
    (he : ∀ i x H1, xs[i]? = some x → Ex H H1 → EvR te (st i) H1 (D i)) : EvS (tLc (iTup K tl) g tYes te vs) σ H ((List.range xs.length).map D) := by
  have q := es_lcT (K := K) (t := tYes) h hx hn st (fun _ => true) D hw hg (fun _ _ H1 _ _ H2 _ Q k => k H2 (Ex.refl H2)) (fun i x H1 hi e _ => he i x H1 hi e)
  rw [filter_all] at q
  exact q
/-- .. over range(n) -/
theorem es_lcR {ta : TA} {g : TG} {vs : List Nat} {n : Int} (h : EvA ta σ H [.int n]) (hn : 0 ≤ n ∧ n ≤ 40000) (st : Nat → L2.St) (f : Nat → Bool) (D : Nat → PyData) (hw : ∀ i : Nat, (i : Int) < n → wipe (st i) vs = wipe σ vs)
    (hg : ∀ (i : Nat) H1 (R : L2.St → Hp → Prop), (i : Int) < n → Ex H H1 → R (st i) H1 → g (.int (i : Int)) (wipe σ vs) H1 R)
    (ht : ∀ (i : Nat) H1, (i : Int) < n → Ex H H1 → EvT t (st i) H1 (f i)) (he : ∀ (i : Nat) H1, (i : Int) < n → Ex H H1 → f i = true → EvR te (st i) H1 (D i)) : EvS (tLc (iRng1 ta) g t te vs) σ H (((List.range n.toNat).filter f).map D) :=
  es_lc (walk_range (lo := 0) (n := n.toNat)) (by omega) st f D (fun H1 e R k => h H1 e _ fun H2 e2 => ⟨n, rfl, by omega, by omega, k H2 e2 True.intro⟩) (fun _ _ _ q => q) (fun i hi => hw i (by omega))
    (fun i x H1 H2 R hi e _ hy k => by
      obtain ⟨rfl, rfl⟩ := hy
      show g (.int (0 + (i : Int))) _ _ _
      rw [Int.zero_add]
      exact hg i _ R (by omega) e (k _ (Ex.refl _)))
    (fun i H1 hi e => ht i H1 (by omega) e) (fun i H1 hi e hf => he i H1 (by omega) e hf)
/-- .. over enumerate(a tuple) -/
theorem es_lcE {ta : TA} {g : TG} {vs : List Nat} {a : Addr} {xs : List V} (h : EvA ta σ H [.ref a]) (hx : H a = some (.tup xs)) (hn : xs.length ≤ 40000) (st : Nat → L2.St) (f : Nat → Bool) (D : Nat → PyData) (hw : ∀ i, i < xs.length → wipe (st i) vs = wipe σ vs)
    (hg : ∀ (i : Nat) x T H1 (R : L2.St → Hp → Prop), xs[i]? = some x → Ex H H1 → H1 T = some (.tup [.int (i : Int), x]) → R (st i) H1 → g (.ref T) (wipe σ vs) H1 R)
    (ht : ∀ i x H1, xs[i]? = some x → Ex H H1 → EvT t (st i) H1 (f i)) (he : ∀ i x H1, xs[i]? = some x → Ex H H1 → f i = true → EvR te (st i) H1 (D i)) : EvS (tLc (ET.iEnumT K ta) g t te vs) σ H (((List.range xs.length).filter f).map D) :=
  es_lc (ET.walk_et (K := K) (a := a) (xs := xs)) hn st f D (fun H1 e R k => h H1 e _ fun H2 e2 => have q := st_of (K := K) ((e.trans e2) _ _ hx); ⟨a, xs, rfl, q, k H2 e2 q⟩) (fun H1 H2 e q => ex_t e q) hw
    (fun i x H1 H2 R hi e _ hy k => by
      obtain ⟨T, y, z, rfl, hT, rfl, h1, h2⟩ := hy
      cases (Option.some.inj h1)
      exact hg i z T _ R h2 (e.trans (Ex.new hT)) upd_same (k _ (Ex.new hT)))
    (fun i H1 hi e => ht i _ H1 (List.getElem?_eq_getElem hi) e) (fun i H1 hi e hf => he i _ H1 (List.getElem?_eq_getElem hi) e hf)
/-- targets -/
theorem g_three {i j k : Nat} {a : Addr} {x y z : V} {Q : L2.St → Hp → Prop} (h : H a = some (.tup [x, y, z])) (q : Q (((σ.set i (some x)).set j (some y)).set k (some z)) H) : gTup K 3 (gCons (gName i) (gCons (gName j) (gCons (gName k) gNil))) (.ref a) σ H Q :=
  ⟨a, _, rfl, st_of h, rfl, x, _, rfl, y, _, rfl, z, _, rfl, rfl, q⟩
theorem g_two {i j : Nat} {a : Addr} {x y : V} {Q : L2.St → Hp → Prop} (h : H a = some (.tup [x, y])) (q : Q ((σ.set i (some x)).set j (some y)) H) : gTup K 2 (gCons (gName i) (gCons (gName j) gNil)) (.ref a) σ H Q :=
  ⟨a, _, rfl, st_of h, rfl, x, _, rfl, y, _, rfl, rfl, q⟩
/-- all([bools]), any([bools]) -/
theorem Reps.bools {H : Hp} : ∀ {bs : List Bool} {vs : List V}, Reps H vs (bs.map PyData.bool) → vs = bs.map V.bl
  | [], _, r => r.nil_inv
  | b :: bs, _, r => by
    obtain ⟨x, xs, rfl, h, q⟩ := r.cons_inv
    cases h
    rw [Reps.bools q]; rfl
theorem ev_allR {bs : List Bool} (h : EvS te σ H (bs.map PyData.bool)) : Ev (tCB (rAll K) (tCons te tNil)) σ H (.bl (bs.all id)) := fun H1 a Q q =>
  h H1 a _ fun p xs H2 _ b hp rs => ⟨p, bs, rfl, by rw [← rs.bools]; exact sq_of hp, q H2 b⟩
theorem s_forW {J : It} {n : Nat} {G : Hp → Prop} {Y : Nat → Hp → V → Hp → Prop} {wi : TI} {g : TG} {tu : TS} {E : Ends} (W : Walk J n G Y) (Pv : Nat → L2.St → Hp → Prop)
    (hwi : ∀ R : It → Hp → Prop, (∀ H2, Ex H H2 → G H2 → R J H2) → wi σ H R) (h0 : ∀ H1, Ex H H1 → G H1 → Pv 0 σ H1) (hG : ∀ i σ' H', i ≤ n → Pv i σ' H' → G H')
    (hs : ∀ i x σ' H1 H2, i < n → Pv i σ' H1 → Y i H1 x H2 → g x σ' H2 fun σ2 H3 => tu { E with nx := Pv (i + 1), ct := Pv (i + 1), bk := E.nx } σ2 H3) (hd : ∀ σ' H', Pv n σ' H' → E.nx σ' H') : tFor wi g tu E σ H :=
  hwi _ fun H2 e2 g2 => for_it (D := E) W Pv (h0 H2 e2 g2) hG hs hd
/-- for i, x in enumerate(a tuple) -/
theorem s_forE {ta : TA} {i j : Nat} {tu : TS} {E : Ends} {a : Addr} {xs : List V} (h : EvA ta σ H [.ref a]) (hx : H a = some (.tup xs)) (Pv : Nat → L2.St → Hp → Prop) (h0 : ∀ H1, Ex H H1 → Pv 0 σ H1) (hG : ∀ k σ' H', k ≤ xs.length → Pv k σ' H' → H' a = some (.tup xs))
    (hs : ∀ (k : Nat) x σ' H1 H2, xs[k]? = some x → Pv k σ' H1 → Ex H1 H2 → tu { E with nx := Pv (k + 1), ct := Pv (k + 1), bk := E.nx } ((σ'.set i (some (.int (k : Int)))).set j (some x)) H2) (hd : ∀ σ' H', Pv xs.length σ' H' → E.nx σ' H') :
    tFor (ET.iEnumT K ta) (gTup K 2 (gCons (gName i) (gCons (gName j) gNil))) tu E σ H :=
  s_forW (ET.walk_et (K := K) (a := a) (xs := xs)) Pv (fun R k => h H (Ex.refl H) _ fun H2 e2 => have q := st_of (K := K) (e2 _ _ hx); ⟨a, xs, rfl, q, k H2 e2 q⟩) (fun H1 e _ => h0 H1 e) (fun k σ' H' hk p => st_of (hG k σ' H' hk p))
    (fun k x σ' H1 H2 hk p hy => by
      obtain ⟨T, y, z, rfl, hT, rfl, h1, h2⟩ := hy
      cases (Option.some.inj h1)
      exact g_two (K := K) upd_same (hs k z σ' H1 _ h2 p (Ex.new hT))) hd
/-- a for over anything walked -/
theorem q_forW {J : It} {n : Nat} {G : Hp → Prop} {Y : Nat → Hp → V → Hp → Prop} {wi : TI} {g : TG} {tu tz : TS} {E : Ends} (W : Walk J n G Y) (Pv : Nat → L2.St → Hp → Prop)
    (hwi : ∀ R : It → Hp → Prop, (∀ H2, Ex H H2 → G H2 → R J H2) → wi σ H R) (h0 : ∀ H1, Ex H H1 → G H1 → Pv 0 σ H1) (hG : ∀ i σ' H', i ≤ n → Pv i σ' H' → G H')
    (hs : ∀ i x σ' H1 H2, i < n → Pv i σ' H1 → Y i H1 x H2 → g x σ' H2 fun σ2 H3 => tu { E with nx := Pv (i + 1), ct := Pv (i + 1), bk := tz E } σ2 H3) (hd : ∀ σ' H', Pv n σ' H' → tz E σ' H') : tSeq (tFor wi g tu) tz E σ H :=
  hwi _ fun H2 e2 g2 => for_it (D := { E with nx := tz E }) W Pv (h0 H2 e2 g2) hG hs hd
end
end TX
end
section
set_option Elab.async false
set_option linter.all false
set_option maxRecDepth 100000
set_option maxHeartbeats 4000000
namespace K30
open PySem PySem.Spec PyProof.Rows L2 Evl TX
open C8 (Cal pe_c pe_gc)
def top (i : Nat) : Stmt := PySem.Challenge.pw_pairsums_k30_whole_kinds_that_bring_back.main.body.getD i (.Pass ⟨0, 0, 0, 0⟩)
abbrev s_wall : Stmt := top 0
abbrev s_is_integer : Stmt := top 3
abbrev s_is_between : Stmt := top 4
abbrev s_is_name : Stmt := top 5
abbrev s_has_repeats : Stmt := top 6
abbrev s_is_kind : Stmt := top 18
abbrev s_word_of : Stmt := top 19
abbrev s_part_at : Stmt := top 23
abbrev s_told_by : Stmt := top 26
abbrev s_does_come_back : Stmt := top 27
abbrev s_check_columns : Stmt := top 38
abbrev s_check_forms : Stmt := top 39
abbrev s_has_form : Stmt := top 40
abbrev s_check_contents : Stmt := top 41
abbrev s_is_pair : Stmt := top 42
abbrev s_cells_by_column : Stmt := top 43
abbrev s_lines_of : Stmt := top 44
abbrev s_kind_of_line : Stmt := top 45
abbrev s_columns_of_lines : Stmt := top 46
abbrev s_table_with : Stmt := top 49
abbrev s_is_cell : Stmt := top 50
abbrev s_check_table : Stmt := top 52
abbrev s_check_lost : Stmt := top 53
abbrev s_check_one_lost : Stmt := top 54
abbrev s_back : Stmt := top 56
abbrev s_kinds_back : Stmt := top 57
abbrev s_law_spring : Stmt := top 59
abbrev s_law_num : Stmt := top 60
abbrev s_law_any_of : Stmt := top 61
abbrev s_law_draw_store : Stmt := top 62
abbrev s_law_span : Stmt := top 63
abbrev s_law_ties : Stmt := top 64
abbrev s_law_built : Stmt := top 65
abbrev s_law_lose : Stmt := top 66
abbrev s_law_right : Stmt := top 67
abbrev s_law : Stmt := top 68
abbrev s_Table_init : Stmt := (C8.clsBody (top 48)).getD 0 (.Pass ⟨0, 0, 0, 0⟩)
abbrev s_Table_read : Stmt := (C8.clsBody (top 48)).getD 1 (.Pass ⟨0, 0, 0, 0⟩)
abbrev s_Table_kind : Stmt := (C8.clsBody (top 48)).getD 2 (.Pass ⟨0, 0, 0, 0⟩)
abbrev s_Table_columns : Stmt := (C8.clsBody (top 48)).getD 3 (.Pass ⟨0, 0, 0, 0⟩)
abbrev s_Table_names : Stmt := (C8.clsBody (top 48)).getD 4 (.Pass ⟨0, 0, 0, 0⟩)
abbrev s_Table_sums : Stmt := (C8.clsBody (top 48)).getD 5 (.Pass ⟨0, 0, 0, 0⟩)
abbrev s_Table_data : Stmt := (C8.clsBody (top 48)).getD 6 (.Pass ⟨0, 0, 0, 0⟩)
abbrev s_Table_cells : Stmt := (C8.clsBody (top 48)).getD 7 (.Pass ⟨0, 0, 0, 0⟩)
abbrev s_Table_cells_of : Stmt := (C8.clsBody (top 48)).getD 8 (.Pass ⟨0, 0, 0, 0⟩)
abbrev s_Table_column_of : Stmt := (C8.clsBody (top 48)).getD 9 (.Pass ⟨0, 0, 0, 0⟩)
abbrev s_Table_full : Stmt := (C8.clsBody (top 48)).getD 10 (.Pass ⟨0, 0, 0, 0⟩)
abbrev s_Table_is_right : Stmt := (C8.clsBody (top 48)).getD 11 (.Pass ⟨0, 0, 0, 0⟩)
abbrev s_Table_eq : Stmt := (C8.clsBody (top 48)).getD 12 (.Pass ⟨0, 0, 0, 0⟩)
abbrev s_Table_str : Stmt := (C8.clsBody (top 48)).getD 13 (.Pass ⟨0, 0, 0, 0⟩)
abbrev s_Table_repr : Stmt := (C8.clsBody (top 48)).getD 14 (.Pass ⟨0, 0, 0, 0⟩)
abbrev s_Net_init : Stmt := (C8.clsBody (top 21)).getD 0 (.Pass ⟨0, 0, 0, 0⟩)
abbrev s_Net_across : Stmt := (C8.clsBody (top 21)).getD 1 (.Pass ⟨0, 0, 0, 0⟩)
abbrev s_Part_init : Stmt := (C8.clsBody (top 22)).getD 0 (.Pass ⟨0, 0, 0, 0⟩)
abbrev s_Gap_init : Stmt := (C8.clsBody (top 24)).getD 0 (.Pass ⟨0, 0, 0, 0⟩)
def words4 : List Str := ["bits", "even", "odd", "plain"]
end K30
end
section
set_option Elab.async false
set_option linter.all false
set_option maxRecDepth 100000
set_option maxHeartbeats 4000000
/-! BA: a tuple of one, times a number from 0 on. -/
namespace BA
open PySem PySem.Spec PyProof.Rows L2
theorem mul1 (l : Addr) (items : Array Value) (n : Nat) (dd : Option Addr) (sl : Array (Option Value)) (u : Tok) :
    Meets (Builtin.«tuple.__mul__» ⟨[.ref l, .int 1 u], []⟩) (fun _ R s => s.heap.get? l = some { cls := .type "tuple", dict := dd, data := .seq items n, slots := sl } ∧ R (.ok (.ret (Value.ref l))) s) :=
  .of_wp fun prog w A R s h => by
    obtain ⟨hp, g, d, tk, os⟩ := s
    obtain ⟨hl, h⟩ := h
    have f1 := AutoSeq1.idx_int
    wp_walk using wpAny_loadPart' hl
    exact ⟨_, rfl, h⟩
theorem mul0 (l : Addr) (items : Array Value) (n : Nat) (dd : Option Addr) (sl : Array (Option Value)) (u : Tok) (hi : items.isEmpty = false) :
    Meets (Builtin.«tuple.__mul__» ⟨[.ref l, .int 0 u], []⟩) (fun _ R s => s.heap.get? l = some { cls := .type "tuple", dict := dd, data := .seq items n, slots := sl } ∧
      R (.ok (.ret (Value.ref s.heap.objs.size))) { s with heap := s.heap.push { cls := Value.type "tuple", data := Data.seq #[] }, toks := s.toks }) :=
  .of_wp fun prog w A R s h => by
    obtain ⟨hp, g, d, tk, os⟩ := s
    obtain ⟨hl, h⟩ := h
    have f1 := AutoSeq1.idx_int
    wp_walk using wpAny_loadPart' hl
    exact ⟨_, rfl, h⟩
def rRepA (K : PySem.W.Frag) : R2 := fun x y H Q => ∃ l k v, x = .ref l ∧ y = .int k ∧ SqT K H l [v] ∧ 0 ≤ k ∧ k ≤ 1000 ∧ (k = 1 → Q (.ref l) H) ∧ (k ≠ 1 → ∀ p, H p = none → Q (.ref p) (upd H p (.tup (List.replicate k.toNat v))))
section
variable {X : Cx}
theorem op_repTA : OpR X (binaryOp .Mult) (rRepA X.K) := by
  intro pins s σ H x y v u Q I rx ry h
  obtain ⟨l, k, w, rfl, rfl, hT, h0, hz, q1, q2⟩ := h
  by_cases k2 : 2 ≤ k
  · refine op_repT pins s σ H _ _ v u Q I rx ry ⟨l, k, [w], rfl, rfl, hT, by simp, k2, hz, by simp, fun p hp => ?_⟩
    have e : (List.replicate k.toNat [w]).flatten = List.replicate k.toNat w := by simp
    rw [e]
    exact q2 (by omega) p hp
  cases rx
  obtain ⟨t, rfl⟩ := ry
  obtain ⟨its, r, ⟨⟨cls, dd, data, sl⟩, ho, hc, n, hd⟩, hs⟩ := I.tuple hT
  simp only at hc hd
  subst hc hd
  have hle : its.length = 1 := r.length.symm
  have hi : its.toArray.isEmpty = false := by
    cases its with
    | nil => cases hle
    | cons a b => rfl
  obtain rfl | rfl : k = 0 ∨ k = 1 := by omega
  · refine wpAny_binaryOp_repeat_ref (T := "tuple") (U := "int") (by decide) ⟨_, ho, rfl⟩ (fun s' => typeIs_int s' 0 t) noFill_tuple_mul F.fills_int_mul F.slot_int_rmul repeat_tuple F.slot_int_index.lookup
      (call_meets F.slot_int_rmul (typeIs_int s 0 t) F.entry_int_rmul (F.args_int_rmul_2 _ _) (int_rmul_tuple 0 t l its.toArray n dd sl)
        ⟨ho, rfl, ⟨_, ho, rfl⟩, call_meets F.slot_tuple_mul ⟨_, ho, rfl⟩ F.entry_tuple_mul (F.args_tuple_mul_2 _ _) (mul0 l its.toArray n dd sl t hi) ⟨ho, ?_⟩⟩)
    refine ⟨.ref s.heap.objs.size, _, I.laid (t' := s.toks) (o := .tup []) (fun b ob q => Heap.get?_push_of_some _ q) (Nat.le_refl _) ?_, rfl, q2 (by decide) _ (I.hok.fresh (Nat.le_refl _))⟩
    exact ⟨by rw [sizeLine_eq]; decide, _, .nil, IsTup.new _ _⟩
  · refine wpAny_binaryOp_repeat_ref (T := "tuple") (U := "int") (by decide) ⟨_, ho, rfl⟩ (fun s' => typeIs_int s' 1 t) noFill_tuple_mul F.fills_int_mul F.slot_int_rmul repeat_tuple F.slot_int_index.lookup
      (call_meets F.slot_int_rmul (typeIs_int s 1 t) F.entry_int_rmul (F.args_int_rmul_2 _ _) (int_rmul_tuple 1 t l its.toArray n dd sl)
        ⟨ho, rfl, ⟨_, ho, rfl⟩, call_meets F.slot_tuple_mul ⟨_, ho, rfl⟩ F.entry_tuple_mul (F.args_tuple_mul_2 _ _) (mul1 l its.toArray n dd sl t) ⟨ho, ?_⟩⟩)
    exact ⟨.ref l, H, I, rfl, q1 rfl⟩
end
end BA
end
section
set_option Elab.async false
set_option linter.all false
set_option maxRecDepth 100000
set_option maxHeartbeats 4000000
/-! BB: a text turned round, the first place of data in a tuple, sorted of a tuple of ints. -/
namespace BB
open PySem PySem.Spec PyProof.Rows L2
def revS (z : Str) : Str := ⟨z.cps.toList.reverse.toArray⟩
def tRevS (te : TE) : TE := fun σ H Q => te σ H fun x H1 => ∃ z, x = .str z ∧ z.length ≤ sizeLine ∧ Q (.str (revS z)) H1
theorem idx_rev (n : Nat) : Builtin.Str.strSliceIndices none none (-1) n = (List.range n).reverse := by
  unfold Builtin.Str.strSliceIndices
  show sliceRange ((n : Int) - 1) (-1) (-1) = _
  rw [PySem.W.krv_sliceRange, PySem.W.krv_range]
theorem pick_all (xs : Array Nat) : (List.range xs.size).filterMap (xs[·]?) = xs.toList := by
  have q : ∀ n, n ≤ xs.size → (List.range n).filterMap (xs[·]?) = xs.toList.take n := fun n => by
    induction n with
    | zero => intro _; rfl
    | succ k ih =>
      intro h
      rw [List.range_succ, List.filterMap_append, ih (by omega), List.take_succ]
      congr 1
      rw [List.filterMap_cons, Array.getElem?_toList]
      cases e : xs[k]? with
      | none => rfl
      | some v => rfl
  have h := q xs.size (Nat.le_refl _)
  rw [h, ← Array.length_toList, List.take_length]
theorem pe_revS {X : Cx} {e : Expr} {te : TE} {k : Nat} {p1 p2 p3 pos : Pos} (he : PE X e te) : PE X (.Subscript e (.Slice none none (some (.UnaryOp .USub (.Constant (.int 1) k p1) p2)) p3) pos) (tRevS te) := by
  refine ⟨fun pins s σ H Q I h => ?_⟩
  refine Subscript_ (thn (he.run pins s σ H _ I h) fun v s1 ⟨x, H1, I1, r1, q1⟩ => ?_)
  obtain ⟨z, ex, hz, q⟩ := q1
  subst ex
  obtain ⟨t, rfl⟩ := r1
  have hst : PO X (some (.UnaryOp .USub (.Constant (.int 1) k p1) p2)) (tPart (tUn (rU fun i => .int (-i)) (tC (.int 1)))) := po_some (pe_un un_neg pe_int)
  refine wpAny_Slice (thn (po_none.run pins s1 σ H1 (fun o H2 => o = none ∧ H2 = H1) I1 ⟨rfl, rfl⟩) fun vl s2 ⟨l, H2, I2, pl, el, e2⟩ => ?_)
  subst el e2
  refine thn (po_none.run pins s2 σ H2 (fun o H3 => o = none ∧ H3 = H2) I2 ⟨rfl, rfl⟩) fun vu s3 ⟨u, H3, I3, pu, eu, e3⟩ => ?_
  subst eu e3
  refine thn (hst.run pins s3 σ H3 (fun o H4 => o = some (-1) ∧ H4 = H3) I3 ⟨1, rfl, -1, rfl, rfl, rfl⟩) fun vs s4 ⟨o, H4, I4, ps, eo, e4⟩ => ?_
  subst eo e4
  have I5 : Inv X pins σ H4 { s4 with heap := s4.heap.push { cls := .type "slice", data := .fields #[vl, vu, vs] } } := I4.kept (t' := s4.toks) fun b ob q => Heap.get?_push_of_some _ q
  obtain ⟨l', rfl, hl'⟩ := IsPart.raw pl
  obtain ⟨u', rfl, hu'⟩ := IsPart.raw pu
  obtain ⟨st, rfl, hst'⟩ := IsPart.raw ps
  obtain rfl : l' = none := by cases l' with
    | none => rfl
    | some a => cases hl'
  obtain rfl : u' = none := by cases u' with
    | none => rfl
    | some a => cases hu'
  have e1 : (st.map (·.1)).getD 1 = -1 := by rw [hst']; rfl
  show wpAny (model X.prog X.w) X.A (subscriptTail e (.Slice none none (some (.UnaryOp .USub (.Constant (.int 1) k p1) p2)) p3) (.str z t) (.ref s4.heap.objs.size)) (EP X pins σ Q) X.xe { s4 with heap := s4.heap.push { cls := .type "slice", data := .fields #[partValue none, partValue none, partValue st] } }
  refine tail_any (ops := [.str z t, .ref s4.heap.objs.size]) (typeIs_str _ _ _) (F.slot_str_getitem.lookup) ?_ (by with_unfolding_all rfl)
  refine wpAny_getItem_str_slice (l := none) (u := none) (st := st) ⟨_, Heap.get?_push_size _ rfl, rfl, rfl⟩ (by rw [e1]; rfl) ?_
  unfold sliceMade slicePicked
  rw [e1]
  have c : ((-1 : Int) == 1 && (Builtin.Str.strSliceIndices ((none : Option (Int × Tok)).map (·.1)) ((none : Option (Int × Tok)).map (·.1)) (-1) z.length).length == z.length) = false := rfl
  rw [c]
  have er : ((Builtin.Str.strSliceIndices ((none : Option (Int × Tok)).map (·.1)) ((none : Option (Int × Tok)).map (·.1)) (-1) z.length).filterMap (z.cps[·]?)).toArray = z.cps.toList.reverse.toArray := by
    show ((Builtin.Str.strSliceIndices none none (-1) z.length).filterMap (z.cps[·]?)).toArray = _
    rw [idx_rev, List.filterMap_reverse]
    have q := pick_all z.cps
    have zl : z.length = z.cps.size := rfl
    rw [zl, q]
  rw [er]
  refine ⟨?_, .str (revS z), H4, I5.tok _, ⟨_, rfl⟩, q⟩
  show (z.cps.toList.reverse.toArray).size ≤ sizeLine
  rw [List.size_toArray, List.length_reverse, Array.length_toList]
  exact hz
/-- t.index(x), the first place of an equal one -/
def rIndexT (K : PySem.W.Frag) : V → List V → Hp → VK → Prop := fun x xs H Q => ∃ (a : Addr) (y : V) (d : PyData) (ds : List PyData) (j : Nat) (z : PyData), x = V.ref a ∧ xs = [y] ∧ Dp K H (V.ref a) (.tuple ds) ∧ Dp K H y d ∧
  SeqAt.shaped (.tuple ds) = true ∧ SeqAt.shaped d = true ∧ ds[j]? = some z ∧ PyData.eqv z d = true ∧ (∀ (m : Nat) (z' : PyData), m < j → ds[m]? = some z' → PyData.eqv z' d = false) ∧ Q (.int (j : Nat)) H
theorem room_inT {A : Around} {ds : List PyData} {d : PyData} (sd : SeqAt.shaped d = true) (hu : A.units + 65 < cLine) : A.units + 1 + min (PyData.depthAll ds) d.depth < cLine := by
  have := SeqAt.depth_of_shaped sd
  have := Nat.min_le_right (PyData.depthAll ds) d.depth
  omega
theorem mt_indexT {X : Cx} (hu : X.A.units + 65 < cLine) : MtR X "tuple.index" (rIndexT X.K) := by
  intro pins s σ H x xs v us Q I rx rxs h
  obtain ⟨a, y, d, ds, j, z, rfl, rfl, hl, hy, sl, sd, hz, hzj, hno, q⟩ := h
  cases rx
  cases rxs with
  | cons ry rt =>
    rename_i uy ut
    cases rt
    obtain ⟨bs, r1⟩ := Dp.reads I d y uy hy ry
    have hxs : PyData.canLayAll0 ds = true := SeqAt.canLay_of_shaped sl
    have hroom : X.A.units + 1 + min (PyData.depthAll ds) d.depth < cLine := room_inT sd hu
    cases hl with
    | tup hs ha =>
      obtain ⟨its, rv, ⟨⟨cls, dd, data, sls⟩, ho, hc, n, hdt⟩, hlen⟩ := I.tuple hs
      simp only at hc hdt
      subst hc hdt
      obtain ⟨as, h4⟩ := Dp.readsAll I ds _ its ha rv
      have hn : its.length = ds.length := SeqAt.ReadsAll.length ds its as h4
      have hmap : its.map (SeqAt.readOf s.heap) = ds := SeqAt.readsAll_map ds its as hxs h4
      have hvl := rv.length
      have hsl := sizeLine_eq
      obtain ⟨hjd, _⟩ := List.getElem?_eq_some_iff.mp hz
      have hjl : j < its.length := by omega
      have hj : j < its.toArray.size := by simpa using hjl
      have at_ : ∀ (m : Nat) (hm : m < its.toArray.size) (z' : PyData), ds[m]? = some z' → SeqAt.readOf s.heap its.toArray[m] = z' := by
        intro m hm z' hz'
        have hml : m < its.length := by simpa using hm
        rw [← hmap, List.getElem?_map, List.getElem?_eq_getElem hml] at hz'
        have e1 : SeqAt.readOf s.heap its[m] = z' := Option.some.inj (show some (SeqAt.readOf s.heap its[m]) = some z' from hz')
        simpa using e1
      refine call_meets PySem.F.slot_tuple_index ⟨_, ho, rfl⟩ PySem.F.entry_tuple_index (PySem.F.args_tuple_index_2 _ _)
        (TI.tuple_indexAt a its.toArray n dd sls uy (fun u => PyData.eqv (SeqAt.readOf s.heap u) d) j hj ?_ ?_) ⟨ho, SeqAt.items_eqAt (vs := its.toArray) (show ReadsAll s.heap its.toArray.toList ds as from h4) r1 hxs (SeqAt.canLay_of_shaped sd) hroom, ?_⟩
      · show PyData.eqv (SeqAt.readOf s.heap its.toArray[j]) d = true
        rw [at_ j hj z hz]
        exact hzj
      · intro m hm hmj
        have hmd : m < ds.length := by omega
        have hz' : ds[m]? = some ds[m] := List.getElem?_eq_getElem hmd
        show PyData.eqv (SeqAt.readOf s.heap its.toArray[m]) d = false
        rw [at_ m hm _ hz']
        exact hno m _ hmj hz'
      · exact ⟨.int (j : Nat), H, I.tok _, ⟨_, rfl⟩, q⟩
/-! ### sorted(a tuple of ints) -/
section
variable {prog : Program} {w : World} {A : Around} {E : Value → Shared → Prop} {s : Shared}
theorem collect_tuple {l : Addr} {vs : List Value} {o : Obj} {n : Nat} {Q : List Value → Shared → Prop} (ho : s.heap.get? l = some o) (hc : o.cls = .type "tuple") (hd : o.data = .seq vs.toArray n)
    (h : Q vs { s with heap := (s.heap.push (seqObj "list" #[] 0)).update s.heap.objs.size (Obj.mapSeq (· ++ vs.toArray)) }) (hsz : vs.length ≤ sizeLine) :
    wpAny (model prog w) A (collect (.ref l)) Q E s := by
  unfold collect
  refine wpAny_bind (wpAny_runValue (codeAny_builtin entry_proto_collect' ?_))
  show wpAny _ _ (do again (.builtin "list.__iadd__" ⟨[← newList [], .ref l], []⟩)) _ _ s
  refine wpAny_bind (wpAny_newList (wpAny_pure ⟨Code.quiet_builtin _ (by decide +kernel), codeAny_builtin entry_list_iadd' ?_⟩))
  show wpAny _ _ (Builtin.List.listExtendWith (.ref s.heap.objs.size) (.ref l) (.ref s.heap.objs.size)) _ _ { s with heap := s.heap.push (seqObj "list" #[] 0) }
  unfold Builtin.List.listExtendWith
  have ho' : (s.heap.push (seqObj "list" #[] 0)).get? l = some o := Heap.get?_push_of_some _ ho
  refine wpAny_bind (wpAny_typeOf (T := "tuple") ⟨o, ho', hc⟩ ?_)
  have ht : (Value.type "tuple" == Value.type "tuple") = true := by rfl
  rw [if_pos (by rw [ht]; simp)]
  refine wpAny_bind (listItems_at ho' hd ?_)
  refine wpAny_bind (listItems_at (xs := #[]) (n := 0) (Heap.get?_push_size _ rfl) rfl ?_)
  rw [if_neg (by simp)]
  refine wpAny_bind (listUpdate_at (xs := #[]) (n := 0) (Heap.get?_push_size _ rfl) rfl ?_ (Nat.zero_le _) (by show (#[] ++ vs.toArray).size ≤ sizeLine + 1; simp only [Array.size_append, List.size_toArray, List.length_nil]; omega))
  refine wpAny_pure ?_
  show wpAny (model prog w) A (do
      let o ← load s.heap.objs.size
      match o.data with
      | .seq xs _ => pure xs.toList
      | _ => unsupported "internal:collect") Q E { s with heap := (s.heap.push (seqObj "list" #[] 0)).update s.heap.objs.size (Obj.mapSeq (· ++ vs.toArray)) }
  refine wpAny_bind (wpAny_load (get?_update_seq (Heap.get?_push_size _ rfl) _) ?_)
  show wpAny _ _ (pure ((#[] : Array Value) ++ vs.toArray).toList) Q E _
  rw [show ((#[] : Array Value) ++ vs.toArray).toList = vs by simp]
  exact wpAny_pure h
theorem sorted_intsT {l : Addr} {vs : List Value} {ns : List Int} {o : Obj} {n : Nat} {Q : Value → Shared → Prop} (ho : s.heap.get? l = some o) (hc : o.cls = .type "tuple") (hd : o.data = .seq vs.toArray n) (hI : IntsAre vs ns) (h64 : vs.length < 64)
    (h : ∀ (out : Array Value) (ns' : List Int), IntsAre out.toList ns' → ns'.Perm ns → ns'.Pairwise (· ≤ ·) → Q (.ref (s.heap.objs.size + 1)) { s with heap := sortedAll s.heap vs out }) :
    wpAny (model prog w) A (call (.builtin "sorted") [.ref l]) Q E s := by
  refine Calls.call_function_entry kind_sorted plain_sorted entry_sorted (args_sorted1 _) ?_
  unfold Builtin.«sorted»
  refine wpAny_bind (m := checkCount "sorted" 1 1 _) (wpAny_pure ?_)
  refine wpAny_bind (collect_tuple ho hc hd ?_ (small64 h64))
  refine wpAny_bind (wpAny_newList ?_)
  have hsz : ((s.heap.push (seqObj "list" #[] 0)).update s.heap.objs.size (Obj.mapSeq (· ++ vs.toArray))).objs.size = s.heap.objs.size + 1 := by
    rw [Heap.size_update, size_push']
  have hoL : (((s.heap.push (seqObj "list" #[] 0)).update s.heap.objs.size (Obj.mapSeq (· ++ vs.toArray))).push (seqObj "list" vs.toArray 0)).get? (s.heap.objs.size + 1) = some (seqObj "list" vs.toArray 0) := by
    rw [← hsz]; exact Heap.get?_push_size _ rfl
  show wpAny _ _ _ _ _ { s with heap := ((s.heap.push (seqObj "list" #[] 0)).update s.heap.objs.size (Obj.mapSeq (· ++ vs.toArray))).push (seqObj "list" vs.toArray 0) }
  rw [hsz]
  refine wpAny_bind (wpAny_holding (wpAny_call_entry slot_list_sort ⟨_, hoL, rfl⟩ entry_list_sort (list_sort_tree hoL hI h64 fun out ns' a1 a2 a3 => ⟨_, rfl, ?_⟩) (args_list_sort _)))
  exact wpAny_pure ⟨_, rfl, h out ns' a1 a2 a3⟩
end
def rSortedT (K : PySem.W.Frag) : List V → Hp → VK → Prop := fun vs H Q => ∃ (a : Addr) (ns : List Int), vs = [V.ref a] ∧ SqT K H a (ns.map V.int) ∧ ns.length < 64 ∧
  ∀ (ns' : List Int) (p : Addr), ns'.Perm ns → ns'.Pairwise (· ≤ ·) → H p = none → Q (.ref p) (upd H p (.lst (ns'.map V.int)))
theorem cr_sortedT {X : Cx} : CallR X (.builtin "sorted") (rSortedT X.K) := by
  intro pins s σ H vs us Q I r h
  obtain ⟨a, ns, rfl, hs, h64, q⟩ := h
  obtain ⟨its, rv, ⟨o, ho, hc, n, hd⟩, _⟩ := I.tuple hs
  rw [Vals.ref1 r]
  have hi := rv.ints
  refine sorted_intsT ho hc hd hi (by rw [hi.length]; exact h64) fun out ns' h1 h2 h3 => ?_
  obtain ⟨ep, he'⟩ := PyProof.Rows.sortedAll_at s.heap its out
  have hlen : (ns'.map V.int).length ≤ sizeLine := by rw [List.length_map, h2.length_eq]; exact small64 h64
  exact ⟨.ref _, upd H (s.heap.objs.size + 1) (.lst (ns'.map V.int)), I.laid (t' := s.toks) (fun _ _ => PyProof.Rows.sortedAll_old) (Nat.le_succ _) ⟨hlen, out.toList, ep, vals_of_ints h1, he'⟩, rfl, q ns' _ h2 h3 (I.hok.fresh (Nat.le_succ _))⟩
/-! ### tuples whose object is known: they have no dict, so their methods can be called -/
def rTupF (K : PySem.W.Frag) : List V → Hp → VK → Prop := fun xs H Q => ∃ p ys, xs = [.ref p] ∧ SqL K H p ys ∧ ∀ l ob, H l = none → ob.cls = .type "tuple" → ob.dict = none → Q (.ref l) (upd H l (.frz ob (.tup ys)))
theorem call_tupleF {X : Cx} : CallR X (.type "tuple") (rTupF X.K) := by
  intro pins s σ H xs us Q I r h
  obtain ⟨p, ys, rfl, hq, q⟩ := h
  obtain ⟨u, rfl, rx⟩ := vals1 r
  cases rx
  obtain ⟨its, r', pl, hz⟩ := I.list hq
  have hlen := r'.length
  refine call_tuple_list pl.isList (fun h' kp => ?_) (by simp only [List.size_toArray] <;> omega)
  have I1 : Inv X pins σ H { s with heap := h' } := I.kept (t' := s.toks) kp
  have I2 : Inv X pins σ (upd H h'.objs.size (.frz { cls := .type "tuple", data := .seq its.toArray } (.tup ys))) { s with heap := h'.push { cls := .type "tuple", data := .seq its.toArray } } :=
    I1.laid (t' := s.toks) (fun b o e => Heap.get?_push_of_some _ e) (Nat.le_refl _) (show ObjOk X.prog X.w _ _ _ (.frz _ (.tup ys)) from ⟨Heap.get?_push_size _ rfl, hz, its, r', IsTup.new _ _⟩)
  exact ⟨.ref h'.objs.size, _, I2, rfl, q _ _ (I1.hok.fresh (Nat.le_refl _)) rfl rfl⟩
def tBMT (r : V → List V → Hp → VK → Prop) (to : TE) (t : TA) : TE := fun σ H Q => to σ H fun x H1 => (∃ p ob xs, x = .ref p ∧ H1 p = some (.frz ob (.tup xs)) ∧ ob.cls = .type "tuple" ∧ ob.dict = none) ∧ t σ H1 fun xs H2 => r x xs H2 Q
theorem pe_bmT {X : Cx} {o e : Expr} {es : List Expr} {to : TE} {t : TA} {name : Str} {apos cpos : Pos} {id : String} {r : V → List V → Hp → VK → Prop} (slot : Slot "tuple" name id) (hty : typeOf (.builtin id) = pure (.type "method_descriptor")) (hm : MtR X id r) (ho : PE X o to) (ha : PA X (e :: es) t)
    (hbase : attributeBase o name X.env (eval o X.env) = eval o X.env := by rfl)
    (hfew : ((backTo cpos (starEach (e :: es) X.env)).all (fun x => !x.1) && (backToKw cpos (keywordEach [] X.env)).all (fun x => x.1.isSome)
      && decide ((e :: es).length + ([] : List Keyword).length + (if ([] : List Keyword).isEmpty then 0 else 1) < 30)) = true := by rfl)
    (hline : (apos.endLine == cpos.line) = true := by rfl) (hs : starEach (e :: es) X.env = (false, eval e X.env) :: starEach es X.env := by rfl) (hplain : (backTo cpos (starEach es X.env)).any (·.1) = false := by rfl) :
    PE X (.Call (.Attribute o name apos) (e :: es) [] cpos) (tBMT r to t) := by
  refine ⟨fun pins s σ H Q I h => ?_⟩
  refine wpAny_Call_method_late hbase hfew hline rfl (thn (ho.run pins s σ H _ I h) fun v s1 ⟨x, H1, I1, r1, ty, q1⟩ => ?_)
  obtain ⟨p, ob, xs, rfl, hp, hc, hd⟩ := ty
  cases r1
  have hob := (I1.hok p _ hp).1
  refine ⟨"tuple", id, PySem.F.plainAttrs_tuple, slot, hty, ⟨ob, hob, hc⟩, fun a ea => ⟨ob, by cases ea; exact hob, hd⟩, ?_⟩
  have hA := ha.run cpos pins s1 σ H1 _ I1 q1
  rw [hs] at hA ⊢
  refine Calls.callWith_builtin (by show (false || (backTo cpos (starEach es X.env)).any (·.1)) = false; rw [hplain] <;> rfl) (Calls.evalArgs_plain ?_)
  exact thn hA fun us s2 ⟨vs, H2, I2, r2, q2⟩ => hm pins s2 σ H2 (.ref p) vs (.ref p) us Q I2 rfl r2 q2
end BB
end
section
set_option Elab.async false
set_option linter.all false
set_option maxRecDepth 100000
set_option maxHeartbeats 4000000
/-! BC: zip of three tuples of one length; the items of a new dict. Own work. -/
namespace BC
open PySem PySem.Spec PyProof.Rows L2
/-- three tuples side by side, the items in new triples -/
def It3 (K : PySem.W.Frag) (a b c : Addr) (xs ys us : List V) : It :=
  ⟨fun i H => SqT K H a xs ∧ SqT K H b ys ∧ SqT K H c us ∧ i < xs.length,
    fun i H v H' => ∃ T x y u, v = .ref T ∧ H T = none ∧ H' = upd H T (.tup [x, y, u]) ∧ xs[i]? = some x ∧ ys[i]? = some y ∧ us[i]? = some u,
    fun i H => SqT K H a xs ∧ SqT K H b ys ∧ SqT K H c us ∧ xs.length ≤ i⟩
abbrev St3 (a b c N n : Nat) (i : Nat) (h : Heap) : Prop :=
  IsZip h (N + 5) (N + 3) (N + 4) .none ∧ IsTupOf3 h (N + 3) (.ref N) (.ref (N + 1)) (.ref (N + 2)) ∧ (∃ p q r, IsTupOf3 h (N + 4) p q r) ∧ h.IsTupleIter N a i ∧ h.IsTupleIter (N + 1) b i ∧ h.IsTupleIter (N + 2) c i ∧ i ≤ n
theorem six {N c : Nat} (h : c ∈ [N + 5, N + 3, N + 4, N, N + 1, N + 2]) : c = N + 5 ∨ c = N + 3 ∨ c = N + 4 ∨ c = N ∨ c = N + 1 ∨ c = N + 2 := by simpa using h
theorem turn3 {P : Program} {w : World} {K : PySem.W.Frag} {elts : List Expr} {kk : Nat} {tpos : Pos} {N a b c : Nat} {xs ys us : List V} (la : a < N) (lb : b < N) (lc : c < N) (l1 : ys.length = xs.length) (l2 : us.length = xs.length) :
    Turn P w K (.Tuple elts kk tpos) (It3 K a b c xs ys us) [N + 5, N + 3, N + 4, N, N + 1, N + 2] (N + 5) (St3 a b c N xs.length) where
  mem := by simp
  obj := fun i h st d hd => by
    obtain ⟨hz, hTI, ⟨p, q, r, hTO⟩, ⟨o1, e1, _, d1⟩, ⟨o2, e2, _, d2⟩, ⟨o3, e3, _, d3⟩, _⟩ := st
    rcases six hd with q | q | q | q | q | q
    · rw [q]; exact ⟨_, hz, fun v q => nomatch q⟩
    · rw [q]; exact ⟨_, hTI, fun v q => nomatch q⟩
    · rw [q]; exact ⟨_, hTO, fun v q => nomatch q⟩
    · rw [q]; exact ⟨o1, e1, fun v q => by rw [d1] at q; cases q⟩
    · rw [q]; exact ⟨o2, e2, fun v q => by rw [d2] at q; cases q⟩
    · rw [q]; exact ⟨o3, e3, fun v q => by rw [d3] at q; cases q⟩
  keep := fun i h h' st k => by
    obtain ⟨hz, hTI, ⟨p, q, r, hTO⟩, h1, h2, h3, hi⟩ := st
    exact ⟨k (N + 5) (by simp) _ hz, k (N + 3) (by simp) _ hTI, ⟨p, q, r, k (N + 4) (by simp) _ hTO⟩, h1.at fun o e => k N (by simp) o e, h2.at fun o e => k (N + 1) (by simp) o e, h3.at fun o e => k (N + 2) (by simp) o e, hi⟩
  item := by
    intro X hP hw hK hc i pins s σ H E I hf st hg
    subst hP hw hK
    obtain ⟨hz, hTI, hTO, h1, h2, h3, hi⟩ := st
    obtain ⟨qa, qb, qc, lt⟩ := hg
    obtain ⟨its1, rv1, p1, _⟩ := I.tuple qa
    obtain ⟨its2, rv2, p2, _⟩ := I.tuple qb
    obtain ⟨its3, rv3, p3, _⟩ := I.tuple qc
    have m1 := rv1.length
    have m2 := rv2.length
    have m3 := rv3.length
    have hh : X.A.in1.handled = none := I.ok.hd hc
    have S := zip_sep3 (N := N) (fp1 := [a]) (fp2 := [b]) (fp3 := [c]) (fun d hd => by rw [List.mem_singleton.mp hd]; exact la) (fun d hd => by rw [List.mem_singleton.mp hd]; exact lb) (fun d hd => by rw [List.mem_singleton.mp hd]; exact lc)
    have W := GoesN.zip3 (prog := X.prog) (w := X.w) (A := X.A) (elts := elts) (x1 := kk) (pos := tpos) S (Draws.tuple hh N a (Nat.ne_of_lt la) its1.toArray) (Draws.tuple hh (N + 1) b (Nat.ne_of_lt (Nat.lt_succ_of_lt lb)) its2.toArray) (Draws.tuple hh (N + 2) c (Nat.ne_of_lt (by show c < N + 2; omega)) its3.toArray)
    refine W.goes i s (fun u s2 => ∃ x H', Inv X pins σ H' s2 ∧ RelV x u ∧ (It3 X.K a b c xs ys us).yld i H x H' ∧ St3 a b c N xs.length (i + 1) s2.heap ∧ ∀ d ∈ [N + 5, N + 3, N + 4, N, N + 1, N + 2], H' d = none) E (by simp only [List.size_toArray]; omega) ⟨hz, hTI, hTO, ⟨h1, p1⟩, ⟨h2, p2⟩, ⟨h3, p3⟩⟩ fun v h' tk hY st' hk htk => ?_
    obtain ⟨T, x, y, u, rfl, hn, hx, hy, hu, hT⟩ := hY
    obtain ⟨k1, k2, k3, ⟨k4, _⟩, ⟨k5, _⟩, ⟨k6, _⟩⟩ := st'
    obtain ⟨x', ex, rx⟩ := rv1.get (List.getElem?_eq_getElem lt)
    obtain ⟨y', ey, ry⟩ := rv2.get (List.getElem?_eq_getElem (by omega : i < ys.length))
    obtain ⟨u', eu, ru⟩ := rv3.get (List.getElem?_eq_getElem (by omega : i < us.length))
    obtain rfl : x' = x := by
      have q : its1.toArray[i]? = its1[i]? := by simp
      rw [q, ex] at hx
      exact Option.some.inj hx
    obtain rfl : y' = y := by
      have q : its2.toArray[i]? = its2[i]? := by simp
      rw [q, ey] at hy
      exact Option.some.inj hy
    obtain rfl : u' = u := by
      have q : its3.toArray[i]? = its3[i]? := by simp
      rw [q, eu] at hu
      exact Option.some.inj hu
    have new : ObjOk X.prog X.w (upd H T (.tup [xs[i], ys[i], us[i]])) h' T (.tup [xs[i], ys[i], us[i]]) :=
      ⟨by show 3 ≤ sizeLine; decide, [x', y', u'], .cons rx (.cons ry (.cons ru .nil)), hT⟩
    have I1 : Inv X pins σ (upd H T (.tup [xs[i], ys[i], us[i]])) { s with heap := h', toks := tk } :=
      I.turnedNew (t' := tk) (ch := [N + 5, N + 3, N + 4, N, N + 1, N + 2]) (fun d o hb q => hk d o (fun z => hb (by
        have z2 : d = N + 5 ∨ d = N + 4 ∨ d = N ∨ d = N + 1 ∨ d = N + 2 := by simpa using z
        rcases z2 with z | z | z | z | z <;> simp [z])) q) hf hn new
    refine ⟨.ref T, _, I1, rfl, ⟨T, _, _, _, rfl, I.hok.fresh hn, rfl, List.getElem?_eq_getElem lt, List.getElem?_eq_getElem _, List.getElem?_eq_getElem _⟩, ⟨k1, k2, k3, k4, k5, k6, lt⟩, fun d hd => ?_⟩
    have hlt : d < s.heap.objs.size := by
      obtain ⟨_, _, _, hTO⟩ := hTO
      rcases six hd with q | q | q | q | q | q
      · rw [q]; exact Heap.lt_size hz
      · rw [q]; exact Heap.lt_size hTI
      · rw [q]; exact Heap.lt_size hTO
      · rw [q]; obtain ⟨_, e1, _⟩ := h1; exact Heap.lt_size e1
      · rw [q]; obtain ⟨_, e2, _⟩ := h2; exact Heap.lt_size e2
      · rw [q]; obtain ⟨_, e3, _⟩ := h3; exact Heap.lt_size e3
    rw [upd_ne (Nat.ne_of_lt (Nat.lt_of_lt_of_le hlt hn))]
    exact (hf d hd).1
  done := by
    intro X hP hw hK hc i pins s σ H E I hf st hg
    subst hP hw hK
    obtain ⟨hz, hTI, hTO, h1, h2, h3, hi⟩ := st
    obtain ⟨qa, qb, qc, ge⟩ := hg
    obtain ⟨its1, rv1, p1, _⟩ := I.tuple qa
    obtain ⟨its2, rv2, p2, _⟩ := I.tuple qb
    obtain ⟨its3, rv3, p3, _⟩ := I.tuple qc
    have m1 := rv1.length
    have m2 := rv2.length
    have m3 := rv3.length
    have hh : X.A.in1.handled = none := I.ok.hd hc
    have S := zip_sep3 (N := N) (fp1 := [a]) (fp2 := [b]) (fp3 := [c]) (fun d hd => by rw [List.mem_singleton.mp hd]; exact la) (fun d hd => by rw [List.mem_singleton.mp hd]; exact lb) (fun d hd => by rw [List.mem_singleton.mp hd]; exact lc)
    have W := GoesN.zip3 (prog := X.prog) (w := X.w) (A := X.A) (elts := elts) (x1 := kk) (pos := tpos) S (Draws.tuple hh N a (Nat.ne_of_lt la) its1.toArray) (Draws.tuple hh (N + 1) b (Nat.ne_of_lt (Nat.lt_succ_of_lt lb)) its2.toArray) (Draws.tuple hh (N + 2) c (Nat.ne_of_lt (by show c < N + 2; omega)) its3.toArray)
    have e : i = min (min its1.toArray.size its2.toArray.size) its3.toArray.size := by simp only [List.size_toArray]; omega
    refine W.stops s (fun s1 => Inv X pins σ H s1) E (by rw [← e]; exact ⟨hz, hTI, hTO, ⟨h1, p1⟩, ⟨h2, p2⟩, ⟨h3, p3⟩⟩) fun h' tk hk htk => ?_
    exact I.turnedL (t' := tk) (ch := [N + 5, N + 3, N + 4, N, N + 1, N + 2]) (fun d o hb q => hk d o (fun z => hb (by
      have z2 : d = N + 5 ∨ d = N + 4 ∨ d = N ∨ d = N + 1 ∨ d = N + 2 := by simpa using z
      rcases z2 with z | z | z | z | z <;> simp [z])) q) hf
  self := fun A i s Q E st h => wpAny_pyIter_zip st.1 h
def iZip3 (K : PySem.W.Frag) (ta : TA) : TI := fun σ H R => ta σ H fun vs H1 => ∃ a b c xs ys us, vs = [.ref a, .ref b, .ref c] ∧ SqT K H1 a xs ∧ SqT K H1 b ys ∧ SqT K H1 c us ∧ ys.length = xs.length ∧ us.length = xs.length ∧ R (It3 K a b c xs ys us) H1
theorem pi_zip3 {X : Cx} {e e2 e3 : Expr} {ta : TA} {p pos tpos : Pos} {elts : List Expr} {kk : Nat} (hg : Gl X "zip") (hm : X.mg "zip" = none) (ha : PA X [e, e2, e3] ta)
    (hs : starEach [e, e2, e3] X.env = (false, eval e X.env) :: starEach [e2, e3] X.env := by rfl) (hpl : (backTo pos (starEach [e2, e3] X.env)).any (·.1) = false := by rfl) :
    PI X (.Tuple elts kk tpos) (.Call (.Name "zip" p) [e, e2, e3] [] pos) (iZip3 X.K ta) := by
  refine ⟨fun pins s σ H R I h => ?_⟩
  refine Call_ (ld_blt I hg hm PyProof.Rows.boot_zip (PyProof.Rows.callWith_type1 (thn (ha.run pos pins s σ H _ I h) fun us s1 ⟨vs, H1, I1, r1, q1⟩ => ?_) hs hpl))
  obtain ⟨a, b, c, xs, ys, zs, ex, qa, qb, qc, l1, l2, q⟩ := q1
  subst ex
  cases r1 with
  | cons r rr =>
    cases rr with
    | cons r' rr =>
      cases rr with
      | cons r'' rr =>
        cases rr
        cases r
        cases r'
        cases r''
        obtain ⟨its1, rv1, p1, _⟩ := I1.tuple qa
        obtain ⟨its2, rv2, p2, _⟩ := I1.tuple qb
        obtain ⟨its3, rv3, p3, _⟩ := I1.tuple qc
        obtain ⟨o1, ho1, _⟩ := id p1
        obtain ⟨o2, ho2, _⟩ := id p2
        obtain ⟨o3, ho3, _⟩ := id p3
        refine zip_begins3 (begins_tuple a its1.toArray) (begins_tuple b its2.toArray) (begins_tuple c its3.toArray) p1 p2 p3 fun h' hz hTI hTO g1 g2 g3 hsz hk => wpAny_pyIter_zip hz ?_
        have I2 : Inv X pins σ H1 { s1 with heap := h' } := I1.kept (t' := s1.toks) hk
        refine ⟨s1.heap.objs.size + 5, [s1.heap.objs.size + 5, s1.heap.objs.size + 3, s1.heap.objs.size + 4, s1.heap.objs.size, s1.heap.objs.size + 1, s1.heap.objs.size + 2], _, _, H1, rfl, I2, turn3 (Heap.lt_size ho1) (Heap.lt_size ho2) (Heap.lt_size ho3) l1 l2, ⟨hz, hTI, ⟨_, _, _, hTO⟩, ⟨_, g1, rfl, rfl⟩, ⟨_, g2, rfl, rfl⟩, ⟨_, g3, rfl, rfl⟩, Nat.zero_le _⟩, fun d hd => ?_, q⟩
        have hle : s1.heap.objs.size ≤ d := by
          rcases six hd with z | z | z | z | z | z
          · rw [z]; exact Nat.le_add_right _ _
          · rw [z]; exact Nat.le_add_right _ _
          · rw [z]; exact Nat.le_add_right _ _
          · rw [z]; exact Nat.le_refl _
          · rw [z]; exact Nat.le_add_right _ _
          · rw [z]; exact Nat.le_add_right _ _
        exact I1.fpOk hle (I1.hok.fresh hle)
/-- the items of a dict that is new: from here on it stays as it is -/
def tFix (t : TE) : TE := fun σ H Q => t σ H fun v H1 => ∃ d kvs, v = .ref d ∧ H1 d = some (.dK kvs) ∧ ∀ od, Q (.ref d) (upd H1 d (.frz od (.dK kvs)))
theorem pe_fix {X : Cx} {e : Expr} {t : TE} (h : PE X e t) : PE X e (tFix t) := by
  refine ⟨fun pins s σ H Q I hw => ?_⟩
  refine thn (h.run pins s σ H _ I hw) fun v s1 ⟨x, H1, I1, r, q⟩ => ?_
  obtain ⟨d, kvs, rfl, hd, q⟩ := q
  obtain ⟨od, I2⟩ := I1.lock hd trivial
  exact ⟨.ref d, _, I2, r, q od⟩
def Y3 (f g k : Nat → Option V) (i : Nat) (H : Hp) (v : V) (H' : Hp) : Prop := ∃ T x y u, v = .ref T ∧ H T = none ∧ H' = upd H T (.tup [x, y, u]) ∧ f i = some x ∧ g i = some y ∧ k i = some u
theorem walk_zip3 {K : PySem.W.Frag} {a b c : Addr} {xs ys us : List V} : Walk (It3 K a b c xs ys us) xs.length (fun H => SqT K H a xs ∧ SqT K H b ys ∧ SqT K H c us) (Y3 (fun i => xs[i]?) (fun i => ys[i]?) (fun i => us[i]?)) :=
  ⟨fun i H hi q => ⟨q.1, q.2.1, q.2.2, hi⟩, fun H q => ⟨q.1, q.2.1, q.2.2, Nat.le_refl _⟩, fun i H x H' hi q y => y⟩
end BC
end
section
set_option Elab.async false
set_option linter.all false
set_option maxRecDepth 100000
set_option maxHeartbeats 4000000
/-! MKW: methods of own classes called by keywords alone. -/
namespace TX
open PySem PySem.Spec PyProof.Rows L2 Evl
/-- a method that may be called by the names ks of all its parameters but the first -/
structure MetK (P : Program) (w : World) (K : PySem.W.Frag) (mg : Str → Option Value) (base : Heap) (k : Nat) (C : Addr) (m : Str) (sp : Sp) (ks : List Str) : Prop where
  ex : ∃ (f : Addr) (fd : FuncData) (ps : List Str), Cls K C ∧ Meth K C m f ∧ FnOk P w K mg base C8.CX0 k f fd ps sp ∧ KBn K fd ps 1 ks (fun us ws => us ++ ws) (fun vs zs => vs ++ zs)
def tMethK (C : Addr) (m : Str) (sp : Sp) (n : Nat) (E : XK) (ta : TE) (tk : TA) : TE := fun σ H Q => ta σ H fun x H1 => ∃ a dx fs, x = .ref a ∧ H1 a = some (.ins C dx fs) ∧ fs.lookup m = none ∧ tk σ H1 fun zs H2 => zs.length = n ∧ sp (.ref a :: zs) H2 Q E
section
variable {X : Cx} {k j : Nat} {C : Addr} {m : Str} {sp : Sp} {ks : List Str} {pos apos : Pos} {o : Expr} {kws : List Keyword} {ta : TE} {tk : TA}
theorem pe_mtK {pl : Sem Bool} (c : MetK X.prog X.w X.K X.mg X.base k C m sp ks) (hr : Room j X.A) (hk : k ≤ j) (he : PE X o ta) (hkw : PK X kws tk)
    (hall : (backToKw pos (keywordEach kws X.env)).all (·.1.isSome) = true := by rfl) (hks : (backToKw pos (keywordEach kws X.env)).filterMap (·.1) = ks := by rfl)
    (hpl : ((backTo pos (starEach [] X.env)).any (·.1) || (backToKw pos (keywordEach kws X.env)).any (·.1.isNone)) = false := by rfl)
    (ht : eval (.Call (.Attribute o m apos) [] kws pos) X.env = (do
      let ov ← eval o X.env
      standAt apos.atName
      let (f, first) ← holding [ov] (getMethod ov m pl)
      callWith pos f first (backTo pos (starEach [] X.env)) (backToKw pos (keywordEach kws X.env))) := by rfl) :
    PE X (.Call (.Attribute o m apos) [] kws pos) (tMethK C m sp ks.length C8.E0 ta tk) := by
  obtain ⟨f, fd, ps, hc, hm, F, hb⟩ := c.ex
  refine ⟨fun pins s σ H Q I h => ?_⟩
  refine PySem.W.methodCall_KW (pl := pl) (thn (he.run pins s σ H _ I h) fun u s1 ⟨x, H1, I1, rx, a, dx, fs, ex, ea, l, q⟩ => ?_) ht
  subst ex
  obtain rfl : u = Value.ref a := rx
  refine getmeth_ok I1 ea hc hm l ?_
  refine PySem.W.callWith_KW0 (first := [.ref a]) (h₀ := X.base) I.ok.mod.kin hm.kp hall (thn (hkw.run pos pins s1 σ H1 _ I1 q) fun ws s2 ⟨zs, H2, I2, rz, l2, q2⟩ => ⟨I2.kIn, ?_⟩) hpl
  rw [hks]
  exact run_fnN (us := [.ref a]) (vs := [.ref a]) F (hr.mono hk) hb C8.pass0 I2 (.cons rfl .nil) rz rfl l2 q2
end
end TX
end
section
set_option Elab.async false
set_option linter.all false
set_option maxRecDepth 100000
set_option maxHeartbeats 4000000
/-! BD: a def called by two names alone, the other way round; isinstance of an own class, from facts. Own work. -/
namespace TX
open PySem PySem.Spec PyProof.Rows L2
open C8 (Cal)
/-- f(k2 = v, k1 = u) for def f(k1, k2) -/
structure CalK (P : Program) (w : World) (K : PySem.W.Frag) (mg : Str → Option Value) (base : Heap) (k : Nat) (x : Str) (sp : Sp) (ks : List Str) : Prop where
  ex : ∃ (f : Addr) (fd : FuncData) (ps : List Str), FnOk P w K mg base C8.CX0 k f fd ps sp ∧ mg x = some (.ref f) ∧ PySem.W.keepIn K (.ref f) = true ∧ KBn K fd ps 0 ks (fun _ ws => ws.reverse) (fun _ zs => zs.reverse)
theorem vals_rev : ∀ {vs : List V} {us : List Value}, Vals vs us → Vals vs.reverse us.reverse
  | [], _, r => by cases r; exact .nil
  | v :: vs, _, r => by
    cases r with
    | cons h t =>
      rw [List.reverse_cons, List.reverse_cons]
      exact (vals_rev t).append (.cons h .nil)
theorem kbn_two {K : PySem.W.Frag} {x k1 k2 : Str} {params : Arguments} {body : List Stmt} {scope : Scope} {f : Addr} {fd : FuncData} (F : FunD K x x params body scope [] [] f fd)
    (hb : ∀ (kV doc pm : Value) (an : Option Addr) (cdv ct u v : Value), bindArgs (PySem.W.fnOf x x params body scope .none kV doc pm an cdv ct) ⟨[], [(k2, v), (k1, u)]⟩ = pure [(k1, u), (k2, v)]) : KBn K fd [k1, k2] 0 [k2, k1] (fun _ ws => ws.reverse) (fun _ zs => zs.reverse) := by
  refine ⟨fun s us ws _ l1 l2 => ?_, fun r1 r2 => vals_rev r2⟩
  match us, ws, l1, l2 with
  | [], [v, u], _, _ =>
    obtain ⟨oc, od, dV, kV, doc, pm, an, cdv, ct, osl, rfl, lk, hcd, hD, hK⟩ := F.ex
    rcases hD with ⟨_, rfl⟩ | ⟨e, _⟩
    · exact .of_eq (hb kV doc pm an cdv ct u v)
    · exact absurd rfl e
def tCallK (sp : Sp) (n : Nat) (E : XK) (tk : TA) : TE := fun σ H Q => tk σ H fun zs H1 => zs.length = n ∧ sp zs.reverse H1 Q E
theorem pe_cK {X : Cx} {k j : Nat} {x : Str} {sp : Sp} {ks : List Str} {pos p : Pos} {kws : List Keyword} {tk : TA} (c : CalK X.prog X.w X.K X.mg X.base k x sp ks) (hr : Room j X.A) (hk : k ≤ j) (hg : Gl X x) (hkw : PK X kws tk)
    (hall : (backToKw pos (keywordEach kws X.env)).all (·.1.isSome) = true := by rfl) (hks : (backToKw pos (keywordEach kws X.env)).filterMap (·.1) = ks := by rfl) (hdb : (x == ("__debug__" : Str)) = false := by decide)
    (hpl : ((backTo pos (starEach [] X.env)).any (·.1) || (backToKw pos (keywordEach kws X.env)).any (·.1.isNone)) = false := by rfl) :
    PE X (.Call (.Name x p) [] kws pos) (tCallK sp ks.length C8.E0 tk) := by
  obtain ⟨f, fd, ps, F, hm, hkp, hb⟩ := c.ex
  refine ⟨fun pins s σ H Q I h => ?_⟩
  refine wpAny_Call_Name_kw (ld_glob I hg hm ?_ hdb)
  refine PySem.W.callWith_KW0 (first := []) (h₀ := X.base) I.ok.mod.kin hkp hall (thn (hkw.run pos pins s σ H _ I h) fun ws s2 ⟨zs, H2, I2, rz, l2, q2⟩ => ⟨I2.kIn, ?_⟩) hpl
  rw [hks]
  exact run_fnN (us := []) (vs := []) F (hr.mono hk) hb C8.pass0 I2 .nil rz rfl l2 q2
/-- the class that isinstance is asked about -/
structure IsT (K : PySem.W.Frag) (mg : Str → Option Value) (x : Str) (C : Addr) : Prop where
  ic : C8.InsC K C
  gl : mg x = some (.ref C)
end TX
end
section
set_option Elab.async false
set_option linter.all false
set_option maxRecDepth 100000
set_option maxHeartbeats 4000000
/-! BE: {t: v for a in xs}, the keys tuples of texts and ints. Own work. -/
namespace BE
open PySem PySem.Spec PyProof.Rows L2
theorem turnE (kx vx t0 i0 : Expr) (scope : Scope) (pos : Pos) (it : Value) (D : Addr) (env : Env) : compTurn (.DictComp kx vx [⟨t0, i0, [], 0⟩] scope pos) 0 it (.ref D) env =
    D2.turnOf (.DictComp kx vx [⟨t0, i0, [], 0⟩] scope pos) 0 t0 i0.pos (D2.emit kx vx D env) it (.ref D) env := by
  rfl
section
variable {X : Cx}
def tDcT (wi : TI) (g : TG) (tk tv : TE) (vs : List Nat) : TE := fun σ H Q => wi σ H fun J H1 => ∀ D, H1 D = none → ∃ W : Nat → Nat → Hp → Prop, (∃ m, W 0 m (upd H1 D (.dT []))) ∧ ∀ i m H, W i m H →
  (J.stop i H ∧ Q (.ref D) H) ∨ (J.go i H ∧ ∃ Nx : Hp → Prop, (∀ H2, Nx H2 → ∃ m2, m2 < m ∧ W (i + 1) m2 H2) ∧ ∀ x H2, J.yld i H x H2 → g x (wipe σ vs) H2 fun σ2 H3 => wipe σ2 vs = wipe σ vs ∧
    tk σ2 H3 fun y H6 => tv σ2 H6 fun z H7 => ∃ kvs k b, y = V.ref b ∧ H7 D = some (.dT kvs) ∧ H7 b = some (.tup (k.map kV)) ∧ kvs.length < sizeLine ∧ Nx (upd H7 D (.dT (putK kvs k z))))
theorem pe_dcT {kx vx tg iter : Expr} {scope : Scope} {own : List (Str × Nat)} {pos : Pos} {wi : TI} {g : TG} {tk tv : TE} (hc : X.calm = true) (hu : X.A.units + 1 < cLine) (hN : X.N.Nodup) (hi : PI X tg iter wi) (ok : BlkOk X.N X.env.scope scope own)
    (hg : ∀ (s : Shared) (H : Hp) (C : Addr) (cl : List (Str × Addr)) (fp : List Addr), PG (X.blk s H scope (compEnvC scope cl C X.env) fp) tg g)
    (hk : ∀ (s : Shared) (H : Hp) (C : Addr) (cl : List (Str × Addr)) (fp : List Addr), PE (X.blk s H scope (compEnvC scope cl C X.env) fp) kx tk)
    (he : ∀ (s : Shared) (H : Hp) (C : Addr) (cl : List (Str × Addr)) (fp : List Addr), PE (X.blk s H scope (compEnvC scope cl C X.env) fp) vx tv)
    (hs : ∀ x, foldedSetIterable iter X.env x = pure x := by intro _; rfl) :
    PE X (.DictComp kx vx [⟨tg, iter, [], 0⟩] scope pos) (tDcT wi g tk tv (own.map (·.2))) := by
  constructor
  intro pins s σ H Q I h
  rw [arm_eval_DictComp]
  have clo : ∀ y ∈ scope.names, y.2 = .free → ∃ c, X.env.cells.lookup y.1 = some c := fun y hy e => (ok.free y hy e).elim (fun k => I.ok.has _ (.inl k)) fun k => I.ok.has _ (.inr k)
  refine wpAny_comprehension_free (use := none) rfl hs (closure_ok clo) ok.kind (fun y hy e => by rw [ok.uniq y hy, e]) (thn (hi.run pins s σ H _ I h) fun xv s1 hx => thn hx fun itv s2 h2 => ?_)
  obtain ⟨it, fp, tn, J, H2, e, I2, T, st2, f2, q⟩ := h2
  subst e
  refine wpAny_newObj_type (newEnv_comp ?_)
  generalize hD : s2.heap.objs.size = D
  have hDn : H2 D = none := I2.hok.fresh (Nat.le_of_eq hD)
  obtain ⟨W, ⟨m0, w0⟩, turn⟩ := q D hDn
  generalize hs3 : ({ s2 with heap := s2.heap.push { cls := .type "dict", data := .dict #[] } } : Shared) = s3
  have h3 : s3.heap = s2.heap.push { cls := .type "dict", data := .dict #[] } := by rw [← hs3]
  have I3 : Inv X pins σ (upd H2 D (.dT [])) s3 := by
    subst hs3 hD
    exact I2.laid (t' := s2.toks) (fun b o e => Heap.get?_push_of_some _ e) (Nat.le_refl _) (dt_empty s2.heap I2.big)
  have lt2 : ∀ b ∈ fp, b < s2.heap.objs.size := fun b hb => let ⟨o, e, _⟩ := T.obj _ _ st2 b hb; Heap.lt_size e
  have f3 : ∀ b ∈ fp, FpOk X pins (upd H2 D (.dT [])) b ∧ b < s3.heap.objs.size := fun b hb =>
    ⟨⟨by rw [upd_ne (by rw [← hD]; exact Nat.ne_of_lt (lt2 b hb))]; exact (f2 b hb).1, (f2 b hb).2⟩, by rw [h3, Heap.size_push]; exact Nat.lt_succ_of_lt (lt2 b hb)⟩
  have st3 : tn 0 s3.heap := T.keep _ _ _ st2 fun b _ o e => by rw [h3]; exact Heap.get?_push_of_some _ e
  have I4 := block_start I3 ok hN f3
  generalize hH3 : upd H2 D (.dT []) = H3 at I3 I4 w0 f3
  have pg := hg s3 H3 s3.heap.objs.size (cellsFrom (s3.heap.objs.size + 1) scope.names (cloFrom X.env.cells scope.names [])) fp
  have pk := hk s3 H3 s3.heap.objs.size (cellsFrom (s3.heap.objs.size + 1) scope.names (cloFrom X.env.cells scope.names [])) fp
  have pv := he s3 H3 s3.heap.objs.size (cellsFrom (s3.heap.objs.size + 1) scope.names (cloFrom X.env.cells scope.names [])) fp
  show codeAny _ _ (.compStart (.DictComp kx vx [⟨tg, iter, [], 0⟩] scope pos) 0 (.ref it) (.ref D) (compEnvC scope (cellsFrom (s3.heap.objs.size + 1) scope.names (cloFrom X.env.cells scope.names [])) s3.heap.objs.size X.env)) _ { s3 with heap := pushCells (s3.heap.push { cls := .type "dict", data := .dict #[] }) scope.names }
  generalize hce : compEnvC scope (cellsFrom (s3.heap.objs.size + 1) scope.names (cloFrom X.env.cells scope.names [])) s3.heap.objs.size X.env = ce at I4 pg pk pv ⊢
  have cL : ce.locals = s3.heap.objs.size := by subst hce; rfl
  generalize hs4 : ({ s3 with heap := pushCells (s3.heap.push { cls := .type "dict", data := .dict #[] }) scope.names } : Shared) = s4 at I4 ⊢
  have st4 : tn 0 s4.heap := T.keep _ _ _ st3 fun b _ o e => by rw [← hs4]; exact pushCells_keeps _ _ _ _ (Heap.get?_push_of_some _ e)
  have no : ∀ {f : Value → Shared → Prop} (x : Value) (y : Shared), False → f x y := fun _ _ z => z.elim
  have f4 : ∀ b ∈ fp, FpOk (X.blk s3 H3 scope ce fp) [] H3 b := fun b hb =>
    ⟨(f3 b hb).1.1, (I4.ok.exf b hb).1, I4.ok.exfs b hb, .inl hb, fun x c e => (I4.ok.exf b hb).2 x c e, fun p hp => absurd (show p ∈ ([] : List (Addr × Obj)) ++ [] from hp) (by simp)⟩
  have main : codeAny (model X.prog X.w) X.A (.compLoop (.DictComp kx vx [⟨tg, iter, [], 0⟩] scope pos) 0 (.ref it) (.ref D) ce) (compPost (model X.prog X.w) X.A X.xe none (EP X pins σ Q) (.ref D) s3.heap.objs.size) s4 := by
    refine D2.walk_clause (B := X.blk s3 H3 scope ce fp) (σ0 := wipe σ (own.map (·.2))) (vs := own.map (·.2)) (pins := []) (F := fun H => Q (.ref D) H) W hc (fun _ _ z => z) (turnE kx vx tg iter scope pos (.ref it) D ce) T pg f4 (bodyR := fun σ3 H7 Nx => tk σ3 H7 fun y H8 => tv σ3 H8 fun z H9 => ∃ kvs k b, y = V.ref b ∧ H9 D = some (.dT kvs) ∧ H9 b = some (.tup (k.map kV)) ∧ kvs.length < sizeLine ∧ Nx (upd H9 D (.dT (putK kvs k z)))) (fun pl z σ2 H5 N I5 w5 q5 => ?_) turn (fun z H5 I6 qq => ?_) I4 st4 w0
    · unfold D2.emit
      refine wpAny_bind (wpAny_mono (pk.run _ z σ2 H5 _ I5 q5) (fun u1 y1 ⟨v1, H8, I8, r8, q8⟩ => wpAny_bind (wpAny_holding (wpAny_mono (pv.run _ y1 σ2 H8 _ I8 q8) (fun u2 y2 ⟨v2, H9, I9, r9, kvs, k, b, ev, hD9, hb9, hz9, nx⟩ => wpAny_bind (wpAny_standAt (wpAny_holding ?_))) no))) no)
      subst ev
      cases r8
      exact D2.put_tup (X := X.blk s3 H3 scope ce fp) hu I9 hD9 hz9 hb9 r9 fun y3 I10 => ⟨σ2, _, I10, rfl, fun j v e => by rw [← w5] at e; exact (wipe_some e).1, nx⟩
    · have I7 : Inv X pins σ H5 z := I3.call' (ch := fp) I6.os I6.base I6.hok I6.bare fun b hb => have w := (f3 b hb).1.2; ⟨w.2.2.1, w.1, w.2.2.2.1, w.2.2.2.2⟩
      obtain ⟨m, hn, _⟩ := I6.loc
      have hn2 : z.heap.Ns ce.locals m := hn
      have nC : H5 ce.locals = none := I6.free
      rw [cL] at hn2 nC
      obtain ⟨p0, p1, p2, p3, p4, p5⟩ := I3.fpOk (H' := H5) (Nat.le_refl _) nC
      exact ⟨m, hn2, fun h5 sb => ⟨.ref D, H5, I7.turned (t' := z.toks) (fun b o hb e => (sb.2 b hb).trans e) p0 p1 p3 p4 p5, rfl, qq⟩⟩
  exact codeAny_compStart_dict main (T.self X.A 0 _ _ _ st4 main)
end
end BE
end
section
set_option Elab.async false
set_option linter.all false
set_option maxRecDepth 100000
set_option maxHeartbeats 4000000
/-! BF: name = {..} on one line. Was BE: {t: v for a in xs}, the keys tuples of texts and ints. Own work. -/
namespace BF
open PySem PySem.Spec PyProof.Rows L2
open BE
section
variable {X : Cx}
theorem dcT_core {pins : List (Addr × Obj)} {s : Shared} {σ : L2.St} {H : Hp} {Q : VK} {kx vx tg iter : Expr} {scope : Scope} {own : List (Str × Nat)} {pos pos' : Pos} {wi : TI} {g : TG} {tk tv : TE} {use : Option (Value → Sem Unit)} {Qf : Value → Shared → Prop} (hc : X.calm = true) (hu : X.A.units + 1 < cLine) (hN : X.N.Nodup) (I : Inv X pins σ H s) (hi : PI X tg iter wi) (ok : BlkOk X.N X.env.scope scope own)
    (hg : ∀ (s : Shared) (H : Hp) (C : Addr) (cl : List (Str × Addr)) (fp : List Addr), PG (X.blk s H scope (compEnvC scope cl C X.env) fp) tg g)
    (hk : ∀ (s : Shared) (H : Hp) (C : Addr) (cl : List (Str × Addr)) (fp : List Addr), PE (X.blk s H scope (compEnvC scope cl C X.env) fp) kx tk)
    (he : ∀ (s : Shared) (H : Hp) (C : Addr) (cl : List (Str × Addr)) (fp : List Addr), PE (X.blk s H scope (compEnvC scope cl C X.env) fp) vx tv)
    (hs : ∀ x, foldedSetIterable iter X.env x = pure x)
    (h : tDcT wi g tk tv (own.map (·.2)) σ H Q)
    (hRR : ∀ D C s' m H', Inv X pins σ H' s' → Q (.ref D) H' → s'.heap.Ns C m → FpOk X pins H' C → compPost (model X.prog X.w) X.A X.xe use Qf (.ref D) C (.ok .next) s') :
    wpAny (model X.prog X.w) X.A (comprehension (.DictComp kx vx [⟨tg, iter, [], 0⟩] scope pos) scope X.env pos' newDict false (eval iter X.env) use) Qf X.xe s := by
  have clo : ∀ y ∈ scope.names, y.2 = .free → ∃ c, X.env.cells.lookup y.1 = some c := fun y hy e => (ok.free y hy e).elim (fun k => I.ok.has _ (.inl k)) fun k => I.ok.has _ (.inr k)
  refine wpAny_comprehension_free (use := use) rfl hs (closure_ok clo) ok.kind (fun y hy e => by rw [ok.uniq y hy, e]) (thn (hi.run pins s σ H _ I h) fun xv s1 hx => thn hx fun itv s2 h2 => ?_)
  obtain ⟨it, fp, tn, J, H2, e, I2, T, st2, f2, q⟩ := h2
  subst e
  refine wpAny_newObj_type (newEnv_comp ?_)
  generalize hD : s2.heap.objs.size = D
  have hDn : H2 D = none := I2.hok.fresh (Nat.le_of_eq hD)
  obtain ⟨W, ⟨m0, w0⟩, turn⟩ := q D hDn
  generalize hs3 : ({ s2 with heap := s2.heap.push { cls := .type "dict", data := .dict #[] } } : Shared) = s3
  have h3 : s3.heap = s2.heap.push { cls := .type "dict", data := .dict #[] } := by rw [← hs3]
  have I3 : Inv X pins σ (upd H2 D (.dT [])) s3 := by
    subst hs3 hD
    exact I2.laid (t' := s2.toks) (fun b o e => Heap.get?_push_of_some _ e) (Nat.le_refl _) (dt_empty s2.heap I2.big)
  have lt2 : ∀ b ∈ fp, b < s2.heap.objs.size := fun b hb => let ⟨o, e, _⟩ := T.obj _ _ st2 b hb; Heap.lt_size e
  have f3 : ∀ b ∈ fp, FpOk X pins (upd H2 D (.dT [])) b ∧ b < s3.heap.objs.size := fun b hb =>
    ⟨⟨by rw [upd_ne (by rw [← hD]; exact Nat.ne_of_lt (lt2 b hb))]; exact (f2 b hb).1, (f2 b hb).2⟩, by rw [h3, Heap.size_push]; exact Nat.lt_succ_of_lt (lt2 b hb)⟩
  have st3 : tn 0 s3.heap := T.keep _ _ _ st2 fun b _ o e => by rw [h3]; exact Heap.get?_push_of_some _ e
  have I4 := block_start I3 ok hN f3
  generalize hH3 : upd H2 D (.dT []) = H3 at I3 I4 w0 f3
  have pg := hg s3 H3 s3.heap.objs.size (cellsFrom (s3.heap.objs.size + 1) scope.names (cloFrom X.env.cells scope.names [])) fp
  have pk := hk s3 H3 s3.heap.objs.size (cellsFrom (s3.heap.objs.size + 1) scope.names (cloFrom X.env.cells scope.names [])) fp
  have pv := he s3 H3 s3.heap.objs.size (cellsFrom (s3.heap.objs.size + 1) scope.names (cloFrom X.env.cells scope.names [])) fp
  show codeAny _ _ (.compStart (.DictComp kx vx [⟨tg, iter, [], 0⟩] scope pos) 0 (.ref it) (.ref D) (compEnvC scope (cellsFrom (s3.heap.objs.size + 1) scope.names (cloFrom X.env.cells scope.names [])) s3.heap.objs.size X.env)) _ { s3 with heap := pushCells (s3.heap.push { cls := .type "dict", data := .dict #[] }) scope.names }
  generalize hce : compEnvC scope (cellsFrom (s3.heap.objs.size + 1) scope.names (cloFrom X.env.cells scope.names [])) s3.heap.objs.size X.env = ce at I4 pg pk pv ⊢
  have cL : ce.locals = s3.heap.objs.size := by subst hce; rfl
  generalize hs4 : ({ s3 with heap := pushCells (s3.heap.push { cls := .type "dict", data := .dict #[] }) scope.names } : Shared) = s4 at I4 ⊢
  have st4 : tn 0 s4.heap := T.keep _ _ _ st3 fun b _ o e => by rw [← hs4]; exact pushCells_keeps _ _ _ _ (Heap.get?_push_of_some _ e)
  have no : ∀ {f : Value → Shared → Prop} (x : Value) (y : Shared), False → f x y := fun _ _ z => z.elim
  have f4 : ∀ b ∈ fp, FpOk (X.blk s3 H3 scope ce fp) [] H3 b := fun b hb =>
    ⟨(f3 b hb).1.1, (I4.ok.exf b hb).1, I4.ok.exfs b hb, .inl hb, fun x c e => (I4.ok.exf b hb).2 x c e, fun p hp => absurd (show p ∈ ([] : List (Addr × Obj)) ++ [] from hp) (by simp)⟩
  have main : codeAny (model X.prog X.w) X.A (.compLoop (.DictComp kx vx [⟨tg, iter, [], 0⟩] scope pos) 0 (.ref it) (.ref D) ce) (compPost (model X.prog X.w) X.A X.xe use Qf (.ref D) s3.heap.objs.size) s4 := by
    refine D2.walk_clause (B := X.blk s3 H3 scope ce fp) (σ0 := wipe σ (own.map (·.2))) (vs := own.map (·.2)) (pins := []) (F := fun H => Q (.ref D) H) W hc (fun _ _ z => z) (turnE kx vx tg iter scope pos (.ref it) D ce) T pg f4 (bodyR := fun σ3 H7 Nx => tk σ3 H7 fun y H8 => tv σ3 H8 fun z H9 => ∃ kvs k b, y = V.ref b ∧ H9 D = some (.dT kvs) ∧ H9 b = some (.tup (k.map kV)) ∧ kvs.length < sizeLine ∧ Nx (upd H9 D (.dT (putK kvs k z)))) (fun pl z σ2 H5 N I5 w5 q5 => ?_) turn (fun z H5 I6 qq => ?_) I4 st4 w0
    · unfold D2.emit
      refine wpAny_bind (wpAny_mono (pk.run _ z σ2 H5 _ I5 q5) (fun u1 y1 ⟨v1, H8, I8, r8, q8⟩ => wpAny_bind (wpAny_holding (wpAny_mono (pv.run _ y1 σ2 H8 _ I8 q8) (fun u2 y2 ⟨v2, H9, I9, r9, kvs, k, b, ev, hD9, hb9, hz9, nx⟩ => wpAny_bind (wpAny_standAt (wpAny_holding ?_))) no))) no)
      subst ev
      cases r8
      exact D2.put_tup (X := X.blk s3 H3 scope ce fp) hu I9 hD9 hz9 hb9 r9 fun y3 I10 => ⟨σ2, _, I10, rfl, fun j v e => by rw [← w5] at e; exact (wipe_some e).1, nx⟩
    · have I7 : Inv X pins σ H5 z := I3.call' (ch := fp) I6.os I6.base I6.hok I6.bare fun b hb => have w := (f3 b hb).1.2; ⟨w.2.2.1, w.1, w.2.2.2.1, w.2.2.2.2⟩
      obtain ⟨m, hn, _⟩ := I6.loc
      have hn2 : z.heap.Ns ce.locals m := hn
      have nC : H5 ce.locals = none := I6.free
      rw [cL] at hn2 nC
      exact hRR D _ z m H5 I7 qq hn2 (I3.fpOk (H' := H5) (Nat.le_refl _) nC)
  exact codeAny_compStart_dict main (T.self X.A 0 _ _ _ st4 main)
theorem sw_trueD {kx vx : Expr} {gs : List Comprehension} {scope : Scope} {pos py : Pos} {y : Str} {l : Nat} {env : Env} (hk : env.scope.kind = .function) (hy : env.scope.names.lookup y = some .local) (hl : (py.line == pos.line) = true)
    (ha : (scope.names.any fun (n, k) => n == y && (k == .local || k == .cell)) = false) : swapsWith (.DictComp kx vx gs scope pos) (some (.Name y py)) l env = pure true := by
  have ky : env.kindOf y = some .local := hy
  have hb : env.blockKind = .function := by unfold Env.blockKind; rw [hk]; rfl
  unfold swapsWith
  simp only [hb, ky, ha, Expr.pos, hl]
  rfl
theorem ps_setDcT {i : Nat} {y : Str} {py spos : Pos} {kx vx tg iter : Expr} {scope : Scope} {own : List (Str × Nat)} {pos : Pos} {wi : TI} {g : TG} {tk tv : TE} (hc : X.calm = true) (hu : X.A.units + 1 < cLine) (hN : X.N.Nodup) (hy : X.N[i]? = some y) (hyl : X.env.scope.names.lookup y = some .local)
    (hsw : swapsWith (.DictComp kx vx [⟨tg, iter, [], 0⟩] scope pos) (some (.Name y py)) spos.line X.env = pure true) (hi : PI X tg iter wi) (ok : BlkOk X.N X.env.scope scope own)
    (hg : ∀ (s : Shared) (H : Hp) (C : Addr) (cl : List (Str × Addr)) (fp : List Addr), PG (X.blk s H scope (compEnvC scope cl C X.env) fp) tg g)
    (hk : ∀ (s : Shared) (H : Hp) (C : Addr) (cl : List (Str × Addr)) (fp : List Addr), PE (X.blk s H scope (compEnvC scope cl C X.env) fp) kx tk)
    (he : ∀ (s : Shared) (H : Hp) (C : Addr) (cl : List (Str × Addr)) (fp : List Addr), PE (X.blk s H scope (compEnvC scope cl C X.env) fp) vx tv)
    (hs : ∀ x, foldedSetIterable iter X.env x = pure x := by intro _; rfl) :
    PS X (.Assign [.Name y py] (.DictComp kx vx [⟨tg, iter, [], 0⟩] scope pos) spos) (tAsg (tDcT wi g tk tv (own.map (·.2))) (gName i)) := by
  refine ⟨fun pins s σ H D I h => ?_⟩
  rw [exec_Assign_Name_used _ _ _ _ hsw]
  refine wpAny_bind (wpAny_standAt (wpAny_bind ?_))
  show wpAny _ X.A (do let _ ← comprehension (.DictComp kx vx [⟨tg, iter, [], 0⟩] scope pos) scope X.env (firstIterPos [⟨tg, iter, [], 0⟩] pos) newDict false (eval iter X.env) (some (assign (.Name y py) X.env))) _ _ s
  have h : tDcT wi g tk tv (own.map (·.2)) σ H (fun x H1 => gName i x σ H1 D.nx) := h
  refine wpAny_bind (thn (dcT_core (Qf := fun _ s' => SP X pins D .next s') hc hu hN I hi ok hg hk he hs h fun L C s' m H' I' q hn f => ?_) fun _ s' hq => wpAny_pure (wpAny_pure hq))
  show wpAny _ _ (assign (.Name y py) X.env (.ref L)) _ _ _
  refine wpAny_assign_Name (store_ok2 (v := V.ref L) I' hN hy (.inl hyl) rfl (fun s2 I2 ⟨a, sb, ha⟩ => ?_) (.inr hyl))
  obtain ⟨f0, f1, f2, f3, f4, f5⟩ := f
  have haC : C ≠ a := by
    rcases ha with z | z
    · rw [z]; exact f1
    · exact fun e => f4 y a z e.symm
  refine ⟨m, hn.sameBut sb haC, fun h3 sb3 => ?_⟩
  exact ⟨_, H', I2.turned (t' := s2.toks) (fun b o hb e => (sb3.2 b hb).trans e) f0 f1 f3 f4 f5, q⟩
theorem ps_setDc {i : Nat} {y : Str} {py spos : Pos} {kx vx tg iter : Expr} {scope : Scope} {own : List (Str × Nat)} {pos : Pos} {wi : TI} {g : TG} {tk tv : TE} {ifs : List Expr} {tt : TT} (hc : X.calm = true) (hN : X.N.Nodup) (hy : X.N[i]? = some y) (hyl : X.env.scope.names.lookup y = some .local)
    (hsw : swapsWith (.DictComp kx vx [⟨tg, iter, ifs, 0⟩] scope pos) (some (.Name y py)) spos.line X.env = pure true) (hi : PI X tg iter wi) (ok : BlkOk X.N X.env.scope scope own)
    (hg : ∀ (s : Shared) (H : Hp) (C : Addr) (cl : List (Str × Addr)) (fp : List Addr), PG (X.blk s H scope (compEnvC scope cl C X.env) fp) tg g)
    (ht : ∀ (s : Shared) (H : Hp) (C : Addr) (cl : List (Str × Addr)) (fp : List Addr), PTs (X.blk s H scope (compEnvC scope cl C X.env) fp) ifs tt)
    (hk : ∀ (s : Shared) (H : Hp) (C : Addr) (cl : List (Str × Addr)) (fp : List Addr), PE (X.blk s H scope (compEnvC scope cl C X.env) fp) kx tk)
    (he : ∀ (s : Shared) (H : Hp) (C : Addr) (cl : List (Str × Addr)) (fp : List Addr), PE (X.blk s H scope (compEnvC scope cl C X.env) fp) vx tv)
    (hs : ∀ x, foldedSetIterable iter X.env x = pure x := by intro _; rfl) :
    PS X (.Assign [.Name y py] (.DictComp kx vx [⟨tg, iter, ifs, 0⟩] scope pos) spos) (tAsg (tDc wi g tt tk tv (own.map (·.2))) (gName i)) := by
  refine ⟨fun pins s σ H D I h => ?_⟩
  rw [exec_Assign_Name_used _ _ _ _ hsw]
  refine wpAny_bind (wpAny_standAt (wpAny_bind ?_))
  show wpAny _ X.A (do let _ ← comprehension (.DictComp kx vx [⟨tg, iter, ifs, 0⟩] scope pos) scope X.env (firstIterPos [⟨tg, iter, ifs, 0⟩] pos) newDict false (eval iter X.env) (some (assign (.Name y py) X.env))) _ _ s
  have h : tDc wi g tt tk tv (own.map (·.2)) σ H (fun x H1 => gName i x σ H1 D.nx) := h
  refine wpAny_bind (thn (dc_core (Qf := fun _ s' => SP X pins D .next s') hc hN I hi ok hg ht hk he hs h fun L C s' m H' I' q hn f => ?_) fun _ s' hq => wpAny_pure (wpAny_pure hq))
  show wpAny _ _ (assign (.Name y py) X.env (.ref L)) _ _ _
  refine wpAny_assign_Name (store_ok2 (v := V.ref L) I' hN hy (.inl hyl) rfl (fun s2 I2 ⟨a, sb, ha⟩ => ?_) (.inr hyl))
  obtain ⟨f0, f1, f2, f3, f4, f5⟩ := f
  have haC : C ≠ a := by
    rcases ha with z | z
    · rw [z]; exact f1
    · exact fun e => f4 y a z e.symm
  refine ⟨m, hn.sameBut sb haC, fun h3 sb3 => ?_⟩
  exact ⟨_, H', I2.turned (t' := s2.toks) (fun b o hb e => (sb3.2 b hb).trans e) f0 f1 f3 f4 f5, q⟩
end
end BF
end
section
set_option Elab.async false
set_option linter.all false
set_option maxRecDepth 100000
set_option maxHeartbeats 4000000
/-! BG: x in a tuple of data of any depth. Own work. -/
namespace BG
open PySem PySem.Spec PyProof.Rows L2 Evl TX
def rInU (K : PySem.W.Frag) : R2 := fun x y H Q => ∃ d ds, Dp K H x d ∧ Dp K H y (.tuple ds) ∧ SeqAt.shaped d = true ∧ SeqAt.shaped (.tuple ds) = true ∧ Q (.bl (ds.any fun z => PyData.eqv z d)) H
def rNotInU (K : PySem.W.Frag) : R2 := fun x y H Q => ∃ d ds, Dp K H x d ∧ Dp K H y (.tuple ds) ∧ SeqAt.shaped d = true ∧ SeqAt.shaped (.tuple ds) = true ∧ Q (.bl (!ds.any fun z => PyData.eqv z d)) H
section
variable {X : Cx}
theorem op_inU (hu : X.A.units + 65 < cLine) : OpR X (compareOp .In) (rInU X.K) := by
  intro pins s σ H x y v u Q I rx ry h
  obtain ⟨d, ds, hd, he, sd, se, q⟩ := h
  obtain ⟨as, r1⟩ := Dp.reads I d x v hd rx
  obtain ⟨bs, r2⟩ := Dp.reads I (.tuple ds) y u he ry
  exact SeqAt.in_tuple_reads r2 r1 (SeqAt.canLay_of_shaped se) (SeqAt.canLay_of_shaped sd) (room_in_shaped sd hu) ⟨.bl _, H, I, rfl, q⟩
theorem op_notInU (hu : X.A.units + 65 < cLine) : OpR X (compareOp .NotIn) (rNotInU X.K) := by
  intro pins s σ H x y v u Q I rx ry h
  obtain ⟨d, ds, hd, he, sd, se, q⟩ := h
  obtain ⟨as, r1⟩ := Dp.reads I d x v hd rx
  obtain ⟨bs, r2⟩ := Dp.reads I (.tuple ds) y u he ry
  exact SeqAt.notIn_tuple_reads r2 r1 (SeqAt.canLay_of_shaped se) (SeqAt.canLay_of_shaped sd) (room_in_shaped sd hu) ⟨.bl _, H, I, rfl, q⟩
end
section
variable {K : PySem.W.Frag} {σ : L2.St} {H : Hp} {ta tb : TE} {d : PyData} {ds : List PyData}
theorem ev_inU (h : EvR ta σ H d) (hl : EvR tb σ H (.tuple ds)) (sd : SeqAt.shaped d = true) (se : SeqAt.shaped (.tuple ds) = true) : Ev (tOp (rInU K) ta tb) σ H (.bl (ds.any fun z => PyData.eqv z d)) := fun H1 e Q q =>
  h H1 e _ fun v H2 e2 rv => hl H2 (e.trans e2) _ fun w H3 e3 rw_ => ⟨d, ds, (rv.ex e3).dp, rw_.dp, sd, se, q H3 (e2.trans e3)⟩
theorem ev_notInU (h : EvR ta σ H d) (hl : EvR tb σ H (.tuple ds)) (sd : SeqAt.shaped d = true) (se : SeqAt.shaped (.tuple ds) = true) : Ev (tOp (rNotInU K) ta tb) σ H (.bl (!ds.any fun z => PyData.eqv z d)) := fun H1 e Q q =>
  h H1 e _ fun v H2 e2 rv => hl H2 (e.trans e2) _ fun w H3 e3 rw_ => ⟨d, ds, (rv.ex e3).dp, rw_.dp, sd, se, q H3 (e2.trans e3)⟩
end
end BG
end
section
set_option Elab.async false
set_option linter.all false
set_option maxRecDepth 100000
set_option maxHeartbeats 4000000
/-! TY: list.extend of a tuple; stores, unpackings, dicts told. -/
namespace TX
open PySem PySem.Spec PyProof.Rows L2 Evl
theorem extend_tup (l : Addr) (items : Array Value) (n : Nat) (b : Addr) (d : Option Addr) (sl : Array (Option Value)) (more : Array Value) (n2 : Nat) (h0 : ¬(!items.isEmpty && Builtin.List.listTooLong (items.size + more.size)) = true) (h1 : items.size ≤ sizeLine) (h2 : items.size + more.size ≤ sizeLine + 1) :
    Meets (Builtin.«list.extend» ⟨[.ref l, .ref b], []⟩) (fun _ R s => s.heap.get? l = some { cls := .type "list", dict := none, data := .seq items n, slots := #[] } ∧ s.heap.get? b = some { cls := .type "tuple", dict := d, data := .seq more n2, slots := sl } ∧
      R (.ok (.ret Value.none)) { s with heap := s.heap.update l (Obj.mapSeq fun x => x ++ more), toks := s.toks }) :=
  .of_wp fun P w A R s h => by
    obtain ⟨hp, g, dr, tk, os⟩ := s
    obtain ⟨hl, hb, k⟩ := h
    have f1 := AutoSeq1.idx_int
    have f2 := AutoSeq1.sub_tuple_tuple
    have f3 := AutoSeq1.sub_list_list
    have f4 := AutoSeq1.sub_tuple_list
    have f5 := AutoSeq1.sub_list_tuple
    have hz : (items ++ more).size ≤ sizeLine + 1 := by rw [Array.size_append]; exact h2
    wp_walk using (wpAny_updateSeq hl rfl (hz := h1) (_hz' := hz)), AutoSeq1.wpAny_loadPart' hl, AutoSeq1.wpAny_loadPart' hb
    exact ⟨_, rfl, k⟩
def rExtT (K : PySem.W.Frag) : V → List V → Hp → VK → Prop := fun x vs H Q => ∃ l b xs zs, x = .ref l ∧ vs = [.ref b] ∧ H l = some (.lst xs) ∧ SqT K H b zs ∧ xs.length + zs.length ≤ 100000 ∧ Q .non (upd H l (.lst (xs ++ zs)))
theorem mt_extendT {X : Cx} : MtR X "list.extend" (rExtT X.K) := by
  intro pins s σ H x vs v us Q I rx rv h
  obtain ⟨l, b, xs, zs, rfl, rfl, hH, hB, hz, q⟩ := h
  cases rx
  obtain ⟨u, rfl, ru⟩ := vals1 rv
  cases ru
  obtain ⟨_, its, n, r, hl, e⟩ := I.lstM hH
  obtain ⟨more, r2, ⟨⟨c2, d2, dt2, sl2⟩, e2, hc, n2, hd⟩, _⟩ := I.tuple hB
  dsimp only at hc hd
  subst hc hd
  have len2 := r2.length
  have z0 : its.toArray.size + more.toArray.size ≤ 100000 := by rw [List.size_toArray, List.size_toArray]; omega
  have z1 := sz_of z0
  refine call_meets PySem.F.slot_list_extend ⟨_, e, rfl⟩ PySem.F.entry_list_extend (PySem.F.args_list_extend_2 _ _)
    (extend_tup l its.toArray n b d2 sl2 more.toArray n2 (by rw [notLongL z1, Bool.and_false]; exact Bool.false_ne_true) (by omega) (by omega)) ⟨e, e2, ?_⟩
  exact ⟨.non, _, I.lset (its' := its ++ more) hH e (by simp) (r.append r2) (by rw [List.length_append]; exact sz_of hz), rfl, q⟩
section
variable {K : PySem.W.Frag} {σ : L2.St} {H H' : Hp} {ta tb te : TE} {t : TT} {x y z v : V} {d e : PyData} {ds es : List PyData} {D : Ends} {tu tz : TS}
/-- l.extend(a tuple) */ -/
theorem q_extT {l a : Addr} {xs ys : List V} (hl : H l = some (.lst xs)) (ha : Ev ta σ H (.ref l)) (h : Ev te σ H (.ref a)) (hy : SqT K H a ys) (hz : xs.length + ys.length ≤ 100000) (k : ∀ H1, Ex H H1 → tz D σ (upd H1 l (.lst (xs ++ ys)))) :
    tSeq (tDrop (tBM K "list" (rExtT K) ta (tCons te tNil))) tz D σ H := ha H (Ex.refl H) _ fun H1 e1 => ⟨Or.inl ⟨rfl, _, sq_of (e1 l _ hl)⟩, h H1 e1 _ fun H2 e2 => ⟨l, a, xs, ys, rfl, rfl, e2 _ _ (e1 _ _ hl), ex_t (e1.trans e2) hy, hz, k H2 (e1.trans e2)⟩⟩
/-- l.extend(a new list) -/
theorem q_extL {l : Addr} {xs ys : List V} (hl : H l = some (.lst xs)) (ha : Ev ta σ H (.ref l)) (h : EvL te σ H ys) (hz : xs.length + ys.length ≤ 100000) (k : ∀ H1, Ex H H1 → tz D σ (upd H1 l (.lst (xs ++ ys)))) :
    tSeq (tDrop (tBM K "list" rExtend ta (tCons te tNil))) tz D σ H := ha H (Ex.refl H) _ fun H1 e1 => ⟨Or.inl ⟨rfl, _, sq_of (e1 l _ hl)⟩, h H1 e1 _ fun p H2 _ e2 hp => ⟨l, p, xs, ys, rfl, rfl, e2 _ _ (e1 _ _ hl), hp, sz_of hz, k H2 (e1.trans e2)⟩⟩
theorem s_extL {l : Addr} {xs ys : List V} (hl : H l = some (.lst xs)) (ha : Ev ta σ H (.ref l)) (h : EvL te σ H ys) (hz : xs.length + ys.length ≤ 100000) (k : ∀ H1, Ex H H1 → D.nx σ (upd H1 l (.lst (xs ++ ys)))) :
    tDrop (tBM K "list" rExtend ta (tCons te tNil)) D σ H := ha H (Ex.refl H) _ fun H1 e1 => ⟨Or.inl ⟨rfl, _, sq_of (e1 l _ hl)⟩, h H1 e1 _ fun p H2 _ e2 hp => ⟨l, p, xs, ys, rfl, rfl, e2 _ _ (e1 _ _ hl), hp, sz_of hz, k H2 (e1.trans e2)⟩⟩
theorem el_es {zs : List Str} (h : EvS te σ H (zs.map PyData.str)) : EvL te σ H (zs.map V.str) := fun H1 a Q q => h H1 a Q fun p xs H2 hp b hx rs => q p H2 hp b (by rw [hx, rs.strs])
theorem el_is {zs : List Int} (h : EvS te σ H (zs.map PyData.int)) : EvL te σ H (zs.map V.int) := fun H1 a Q q => h H1 a Q fun p xs H2 hp b hx rs => q p H2 hp b (by rw [hx, rs.ints])
/-- x, y, z = e -/
theorem q_unp3 {i j k : Nat} {a : Addr} {x y z : V} (h : Ev te σ H (.ref a)) (ha : H a = some (.tup [x, y, z])) (q : ∀ H1, Ex H H1 → tz D (((σ.set i (some x)).set j (some y)).set k (some z)) H1) : tSeq (tAsg te (gTup K 3 (gCons (gName i) (gCons (gName j) (gCons (gName k) gNil))))) tz D σ H :=
  h H (Ex.refl H) _ fun H1 e => g_three (K := K) (e _ _ ha) (q H1 e)
theorem q_unp2 {i j : Nat} {a : Addr} {x y : V} (h : Ev te σ H (.ref a)) (ha : H a = some (.tup [x, y])) (q : ∀ H1, Ex H H1 → tz D ((σ.set i (some x)).set j (some y)) H1) : tSeq (tAsg te (gTup K 2 (gCons (gName i) (gCons (gName j) gNil)))) tz D σ H :=
  h H (Ex.refl H) _ fun H1 e => g_two (K := K) (e _ _ ha) (q H1 e)
/-- the truth of a tuple, a list -/
theorem et_tupT {xs : List V} {a : Addr} (h : Ev te σ H (.ref a)) (ha : H a = some (.tup xs)) : EvT (fun σ H Q => te σ H fun x H' => ∃ k, TruV K x H' k ∧ Q k H') σ H (!xs.isEmpty) := fun H1 e Q q => h H1 e _ fun H2 e2 => ⟨_, .inr (.inl ⟨xs, st_of (e2 _ _ (e _ _ ha)), rfl⟩), q H2 e2⟩
theorem et_lstT {xs : List V} {a : Addr} (h : Ev te σ H (.ref a)) (ha : H a = some (.lst xs)) : EvT (fun σ H Q => te σ H fun x H' => ∃ k, TruV K x H' k ∧ Q k H') σ H (!xs.isEmpty) := fun H1 e Q q => h H1 e _ fun H2 e2 => ⟨_, .inl ⟨xs, sq_of (e2 _ _ (e _ _ ha)), rfl⟩, q H2 e2⟩
theorem inV_str {w : Str} : ∀ {zs : List Str}, w ∈ zs → inV (.str w) (zs.map V.str) = true := fun {zs} h => by
  unfold inV
  rw [List.any_map]
  exact List.any_eq_true.mpr ⟨w, h, by simp [eqV]⟩
end
end TX
end
section
set_option Elab.async false
set_option linter.all false
set_option maxRecDepth 100000
set_option maxHeartbeats 4000000
/-! TW: lists joined, dicts stored and read, fields, f-strings, told. -/
namespace TX
open PySem PySem.Spec PyProof.Rows L2 Evl
section
variable {K : PySem.W.Frag} {σ : L2.St} {H H' : Hp} {ta tb te tk tv : TE} {ds es : List PyData} {d : PyData} {v : V} {D : Ends} {tu tz : TS} {x y : Str}
theorem es_cat (ha : EvS ta σ H ds) (hb : EvS tb σ H es) (hz : ds.length + es.length ≤ 10000) : EvS (tOp rCat ta tb) σ H (ds ++ es) := fun H1 a Q q =>
  ha H1 a _ fun p xs H2 _ b hp rs => hb H2 (a.trans b) _ fun r ys H3 _ c hr qs => ⟨p, r, xs, ys, rfl, rfl, c _ _ hp, hr, sz_of (by rw [rs.len, qs.len]; omega), fun l hl => q l _ _ (fresh_back (b.trans c) hl) ((b.trans c).trans (Ex.new hl)) upd_same (((rs.ex c).app qs).ex (Ex.new hl))⟩
theorem q_asgR {i : Nat} (h : EvR te σ H d) (k : ∀ v H1, Ex H H1 → Rep H1 v d → tz D (σ.set i (some v)) H1) : tSeq (tAsg te (gName i)) tz D σ H := h H (Ex.refl H) _ fun v H1 e r => k v H1 e r
theorem q_asgS {i : Nat} (h : EvS te σ H ds) (k : ∀ p xs H1, H p = none → Ex H H1 → H1 p = some (.lst xs) → Reps H1 xs ds → tz D (σ.set i (some (.ref p))) H1) : tSeq (tAsg te (gName i)) tz D σ H := h H (Ex.refl H) _ fun p xs H1 hp e hx r => k p xs H1 hp e hx r
theorem s_retR (h : EvR te σ H d) (k : ∀ v H1, Ex H H1 → Rep H1 v d → D.rt v H1) : tRet te D σ H := h H (Ex.refl H) _ fun v H1 e r => k v H1 e r
/-- d[a text] = data -/
theorem q_dputR {p : Addr} {kvs : List (Key × V)} {td ty : TE} {z : Str} (hv : EvR tv σ H d) (hd : Ev td σ H (.ref p)) (hy : Ev ty σ H (.str z)) (hp : H p = some (.dK kvs)) (hz : kvs.length < 1000) (k : ∀ v H1, Ex H H1 → Rep H1 v d → H1 p = some (.dK kvs) → tz D σ (upd H1 p (.dK (putK kvs (.inr z) v)))) :
    tSeq (sDPut td ty tv) tz D σ H := hv H (Ex.refl H) _ fun v H1 e r => hd H1 e _ fun H2 e2 => hy H2 (e.trans e2) _ fun H3 e3 => ⟨p, _, rfl, DPut.k (k := .inr z) (((e.trans e2).trans e3) _ _ hp) (sz_lt (by omega)), k v H3 ((e.trans e2).trans e3) (r.ex (e2.trans e3)) (((e.trans e2).trans e3) _ _ hp)⟩
theorem put_new {κ : Type} [DecidableEq κ] {kvs : List (κ × V)} {k : κ} {v : V} (h : ∀ p ∈ kvs, p.1 ≠ k) : putK kvs k v = kvs ++ [(k, v)] := by
  unfold putK
  rw [if_neg]
  intro z
  obtain ⟨p, hp, e⟩ := List.any_eq_true.mp z
  exact h p hp (of_decide_eq_true e)
theorem val_at {κ : Type} [DecidableEq κ] : ∀ {kvs : List (κ × V)} {i : Nat} {k : κ} {v : V}, (kvs.map (·.1)).Nodup → kvs[i]? = some (k, v) → valV kvs k = some v
  | [], _, _, _, _, h => by simp at h
  | (k', v') :: r, 0, k, v, _, h => by
    cases (Option.some.inj h)
    unfold valV
    simp
  | (k', v') :: r, i + 1, k, v, nd, h => by
    rw [List.map_cons, List.nodup_cons] at nd
    have hm : (k, v) ∈ r := List.mem_of_getElem? (i := i) h
    have ne : k' ≠ k := fun z => nd.1 (by rw [z]; exact List.mem_map.mpr ⟨_, hm, rfl⟩)
    have q := val_at nd.2 (i := i) h
    unfold valV at q ⊢
    rw [List.find?_cons, decide_eq_false ne]
    exact q
/-- d[a text] -/
theorem ev_dget {p : Addr} {kvs : List (Key × V)} {td ty : TE} {z : Str} (hd : Ev td σ H (.ref p)) (hy : Ev ty σ H (.str z)) (hp : H p = some (.dK kvs)) (hv : valV kvs (.inr z) = some v) : Ev (tDGet td ty) σ H v := fun H1 e Q q =>
  hd H1 e _ fun H2 e2 => hy H2 (e.trans e2) _ fun H3 e3 => ⟨p, v, rfl, by
    have g := DGet.k (k := .inr z) (((e.trans e2).trans e3) _ _ hp)
    rw [hv] at g
    exact g, q H3 (e2.trans e3)⟩
/-- e.f -/
theorem ev_fld {a C dx : Addr} {fs : List (Str × V)} {f : Str} (h : Ev te σ H (.ref a)) (ha : H a = some (.ins C dx fs)) (c : Cls K C) (n : NoAttr K C f) (l : fs.lookup f = some v) : Ev (tFld K te f) σ H v := fun H1 e Q q =>
  h H1 e _ fun H2 e2 => ⟨a, C, dx, fs, v, rfl, (e.trans e2) _ _ ha, c, n, l, q H2 e2⟩
/-- o.f = data: o was made here -/
theorem q_fldR {a C dx : Addr} {fs : List (Str × V)} {f : Str} {to : TE} (hv : EvR tv σ H d) (ho : Ev to σ H (.ref a)) (ha : H a = some (.ins C dx fs)) (c : Cls K C) (n : NoAttr K C f) (hz : fs.length < 1000) (k : ∀ v H1, Ex H H1 → Rep H1 v d → H1 a = some (.ins C dx fs) → tz D σ (upd H1 a (.ins C dx (putF f v fs)))) :
    tSeq (sFld K to tv f) tz D σ H := hv H (Ex.refl H) _ fun v H1 e r => ho H1 e _ fun H2 e2 => ⟨a, C, dx, fs, rfl, (e.trans e2) _ _ ha, c, n, hz, k v H2 (e.trans e2) (r.ex e2) ((e.trans e2) _ _ ha)⟩
theorem q_fld {a C dx : Addr} {fs : List (Str × V)} {f : Str} {to : TE} (hv : Ev tv σ H v) (ho : Ev to σ H (.ref a)) (ha : H a = some (.ins C dx fs)) (c : Cls K C) (n : NoAttr K C f) (hz : fs.length < 1000) (k : ∀ H1, Ex H H1 → tz D σ (upd H1 a (.ins C dx (putF f v fs)))) :
    tSeq (sFld K to tv f) tz D σ H := hv H (Ex.refl H) _ fun H1 e => ho H1 e _ fun H2 e2 => ⟨a, C, dx, fs, rfl, (e.trans e2) _ _ ha, c, n, hz, k H2 (e.trans e2)⟩
theorem fld_open {f : Str} {to : TE} (h : tv σ H fun y H1 => to σ H1 fun x H2 => ∃ a C dx fs, x = .ref a ∧ H2 a = some (.ins C dx fs) ∧ Cls K C ∧ NoAttr K C f ∧ fs.length < 1000 ∧ tz D σ (upd H2 a (.ins C dx (putF f y fs)))) : tSeq (sFld K to tv f) tz D σ H := h
theorem fld_open1 {f : Str} {to : TE} (h : tv σ H fun y H1 => to σ H1 fun x H2 => ∃ a C dx fs, x = .ref a ∧ H2 a = some (.ins C dx fs) ∧ Cls K C ∧ NoAttr K C f ∧ fs.length < 1000 ∧ D.nx σ (upd H2 a (.ins C dx (putF f y fs)))) : sFld K to tv f D σ H := h
theorem call_open {sp : Sp} {vs dvs : List V} {E : XK} {ta : TA} {Q : VK} (h : EvA ta σ H vs) (k : ∀ H1, Ex H H1 → sp (vs ++ dvs) H1 Q E) : tCall sp dvs E ta σ H Q := h H (Ex.refl H) _ k
theorem Tx.ins {H : Hp} {a C dx : Addr} {fs : List (Str × V)} {o : HO} (h : H a = some (.ins C dx fs)) : Tx H (upd H a o) := fun b ys e => by
  rw [upd_ne (fun z => by rw [z, h] at e; cases e)]
  exact e
theorem Tx.dK {H : Hp} {a : Addr} {kvs : List (Key × V)} {o : HO} (h : H a = some (.dK kvs)) : Tx H (upd H a o) := fun b ys e => by
  rw [upd_ne (fun z => by rw [z, h] at e; cases e)]
  exact e
/-! f-strings -/
theorem ev_fmtS (h : Ev te σ H (.str x)) (hz : x.length ≤ 1000) : Ev (tFmt te) σ H (.str x) := fun H1 e Q q => h H1 e _ fun H2 e2 => .inl ⟨x, rfl, sz_of (by omega), q H2 e2⟩
theorem ev_fmtI {i : Int} (h : Ev te σ H (.int i)) (hz : i.natAbs.log2 < 1920) : Ev (tFmt te) σ H (.str (toString i)) := fun H1 e Q q => h H1 e _ fun H2 e2 => .inr ⟨i, rfl, hz, q H2 e2⟩
theorem empty_app (x : Str) : Str.empty ++ x = x := by
  cases x with
  | mk c =>
    show Str.mk (#[] ++ c) = Str.mk c
    rw [Array.empty_append]
theorem app_len (x y : Str) : (x ++ y).length = x.length + y.length := by
  show (x.cps ++ y.cps).size = x.cps.size + y.cps.size
  rw [Array.size_append]
theorem ev_js2 (h1 : Ev ta σ H (.str x)) (h2 : Ev tb σ H (.str y)) (hz : x.length + y.length ≤ 10000) : Ev (fun σ H Q => tJs [ta, tb] Str.empty σ H fun out H1 => Q (.str out) H1) σ H (.str (x ++ y)) := fun H1 e Q q =>
  h1 H1 e _ fun H2 e2 => ⟨x, rfl, by rw [empty_app]; exact sz_of (by omega), h2 H2 (e.trans e2) _ fun H3 e3 => ⟨y, rfl, by rw [empty_app, app_len]; exact sz_of (by omega), by
    show Q (.str (Str.empty ++ x ++ y)) H3
    rw [empty_app]
    exact q H3 (e2.trans e3)⟩⟩
theorem ev_js4 {tc td : TE} {z w : Str} (h1 : Ev ta σ H (.str x)) (h2 : Ev tb σ H (.str y)) (h3 : Ev tc σ H (.str z)) (h4 : Ev td σ H (.str w)) (hz : x.length + y.length + z.length + w.length ≤ 10000) : Ev (fun σ H Q => tJs [ta, tb, tc, td] Str.empty σ H fun out H1 => Q (.str out) H1) σ H (.str (x ++ y ++ z ++ w)) := fun H1 e Q q =>
  h1 H1 e _ fun H2 e2 => ⟨x, rfl, by rw [empty_app]; exact sz_of (by omega), h2 H2 (e.trans e2) _ fun H3 e3 => ⟨y, rfl, by rw [empty_app, app_len]; exact sz_of (by omega), h3 H3 ((e.trans e2).trans e3) _ fun H4 e4 => ⟨z, rfl, by rw [empty_app, app_len, app_len]; exact sz_of (by omega),
    h4 H4 (((e.trans e2).trans e3).trans e4) _ fun H5 e5 => ⟨w, rfl, by rw [empty_app, app_len, app_len, app_len]; exact sz_of (by omega), by
      show Q (.str (Str.empty ++ x ++ y ++ z ++ w)) H5
      rw [empty_app]
      exact q H5 (((e2.trans e3).trans e4).trans e5)⟩⟩⟩⟩
/-- {a text: data for ..}, the texts apart -/
theorem ed_dc {J : It} {n : Nat} {G : Hp → Prop} {Y : Nat → Hp → V → Hp → Prop} {wi : TI} {g : TG} {vs : List Nat} (W : Walk J n G Y) (hn : n ≤ 900) (st : Nat → L2.St) (ky : Nat → Str) (D : Nat → PyData) (nd : ((List.range n).map ky).Nodup)
    (hwi : ∀ H1, Ex H H1 → ∀ R : It → Hp → Prop, (∀ H2, Ex H1 H2 → G H2 → R J H2) → wi σ H1 R) (hG : ∀ H1 H2, Ex H1 H2 → G H1 → G H2) (hw : ∀ i, i < n → wipe (st i) vs = wipe σ vs)
    (hg : ∀ i x H1 H2 (R : L2.St → Hp → Prop), i < n → Ex H H1 → G H1 → Y i H1 x H2 → (∀ H3, Ex H1 H3 → R (st i) H3) → g x (wipe σ vs) H2 R)
    (hk : ∀ i H1, i < n → Ex H H1 → Ev tk (st i) H1 (.str (ky i))) (he : ∀ i H1, i < n → Ex H H1 → EvR tv (st i) H1 (D i)) :
    ∀ H0, Ex H H0 → ∀ Q : VK, (∀ p zs H2, H0 p = none → Ex H0 H2 → H2 p = some (.dK (zs.zipIdx.map fun z => (.inr (ky z.2), z.1))) → Reps H2 zs ((List.range n).map D) → Q (.ref p) H2) → tDc wi g tYes tk tv vs σ H0 Q := fun H0 e Q q => hwi H0 e _ fun H1 e1 gg Dl hD => by
  let Pv : Nat → Hp → Prop := fun i H' => Ex H1 H' ∧ ∃ zs : List V, H' Dl = some (.dK (zs.zipIdx.map fun z => (.inr (ky z.2), z.1))) ∧ Reps H' zs ((List.range i).map D)
  refine ⟨fun i m H' => m = n - i ∧ i ≤ n ∧ Pv i H', ⟨n, by simp, Nat.zero_le _, Ex.new hD, [], upd_same, .nil⟩, ?_⟩
  rintro i m H2 ⟨rfl, hi, e2, zs, ha, ra⟩
  have g2 := hG H1 H2 e2 gg
  have lz : zs.length = i := by rw [ra.len, List.length_map, List.length_range]
  by_cases lt : i < n
  · refine .inr ⟨W.goes i H2 lt g2, Pv (i + 1), fun H3 p => ⟨n - (i + 1), by omega, rfl, lt, p⟩, fun x H3 hy => hg i x H2 H3 _ lt ((e.trans e1).trans e2) g2 (W.yields i H2 x H3 lt g2 hy) fun H4 e4 => ⟨hw i lt, ?_⟩⟩
    have x4 := ((e.trans e1).trans e2).trans e4
    show tk (st i) H4 _
    refine hk i H4 lt x4 H4 (Ex.refl H4) _ fun H5 e5 => he i H5 lt (x4.trans e5) H5 (Ex.refl H5) _ fun v H6 e6 rv => ?_
    have h6 := e6 _ _ (e5 _ _ (e4 _ _ ha))
    refine ⟨_, .inr (ky i), rfl, h6, sz_lt (by rw [List.length_map, List.length_zipIdx]; omega), Ex.mut (((e2.trans e4).trans e5).trans e6) hD, zs ++ [v], ?_, ?_⟩
    · rw [upd_same, put_new, List.zipIdx_append, List.map_append, lz]
      · simp
      · intro p hp z
        obtain ⟨w, hw, rfl⟩ := List.mem_map.mp hp
        have w2 := List.mem_zipIdx hw
        have lt2 : w.2 < i := by omega
        have z2 : ky w.2 = ky i := Sum.inr.inj z
        have q1 : ((List.range n).map ky)[w.2]? = some (ky w.2) := by rw [List.getElem?_map, List.getElem?_range (by omega)]; rfl
        have q2 : ((List.range n).map ky)[i]? = some (ky i) := by rw [List.getElem?_map, List.getElem?_range lt]; rfl
        obtain ⟨b1, c1⟩ := List.getElem?_eq_some_iff.mp q1
        obtain ⟨b2, c2⟩ := List.getElem?_eq_some_iff.mp q2
        have := (List.getElem_inj nd).mp (c1.trans (z2.trans c2.symm))
        omega
    · rw [List.range_succ, List.map_append]
      exact ((ra.ex ((e4.trans e5).trans e6)).on (Tx.dK h6)).app (.cons (rv.on (Tx.dK h6)) .nil)
  · obtain rfl : i = n := by omega
    refine .inl ⟨W.stops H2 g2, q Dl zs H2 ?_ (e1.trans e2) ha ra⟩
    cases h : H0 Dl with
    | none => rfl
    | some o => exact absurd (e1 _ _ h) (by rw [hD]; exact fun z => nomatch z)
end
end TX
end
section
set_option Elab.async false
set_option linter.all false
set_option maxRecDepth 100000
set_option maxHeartbeats 4000000
/-! TV: properties and methods of own classes, read; lists or tuples alike. -/
namespace TX
open PySem PySem.Spec PyProof.Rows L2 Evl
/-- a property of the class at C, read by this promise -/
structure Prp (P : Program) (w : World) (K : PySem.W.Frag) (mg : Str → Option Value) (base : Heap) (k : Nat) (C : Addr) (m : Str) (sp : Sp) : Prop where
  ex : ∃ (p g : Addr) (fd : FuncData) (ps : List Str), Cls K C ∧ PropOf K C m p g ∧ FnOk P w K mg base C8.CX0 k g fd ps sp ∧ Binds K fd ps []
theorem pe_prp {X : Cx} {k j : Nat} {C : Addr} {f : Str} {sp : Sp} {e : Expr} {pos : Pos} {ta : TE} (c : Prp X.prog X.w X.K X.mg X.base k C f sp) (hr : Room j X.A) (he : PE X e ta) (hk : k + 1 ≤ j := by decide)
    (hab : attributeBase e f X.env (eval e X.env) = eval e X.env := by rfl) : PE X (.Attribute e f pos) (tProp C sp [] C8.E0 ta) := by
  obtain ⟨p, g, fd, ps, hc, hp, F, b⟩ := c.ex
  exact pe_prop he hc hp F (hr.mono hk) b .nil C8.pass0 hab
/-- a list or a tuple -/
def SqA (K : PySem.W.Frag) (H : Hp) (p : Addr) (xs : List V) : Prop := H p = some (.lst xs) ∨ H p = some (.tup xs)
section
variable {K : PySem.W.Frag} {σ : L2.St} {H H' : Hp} {ta tb te tk tv : TE} {ds es : List PyData} {d : PyData} {v x y z : V} {D : Ends} {tu tz : TS}
theorem ev_prop {a C dx : Addr} {fs : List (Str × V)} {f : Str} {E : XK} (h : Ev te σ H (.ref a)) (ha : H a = some (.ins C dx fs)) (l : fs.lookup f = some v) : Ev (tProp C (getSp C f) [] E te) σ H v := fun H1 e Q q =>
  h H1 e _ fun H2 e2 => ⟨a, dx, fs, rfl, (e.trans e2) _ _ ha, a, dx, fs, v, rfl, (e.trans e2) _ _ ha, l, q H2 e2⟩
theorem SqA.ex {p : Addr} {xs : List V} (h : SqA K H p xs) (e : Ex H H') : SqA K H' p xs := h.elim (fun h => .inl (e _ _ h)) fun h => .inr (e _ _ h)
theorem rv_ixA {p : Addr} {xs : List V} {i : Int} (h : SqA K H p xs) (ha : atI xs i = some v) : RV (rIx K) (.ref p) (.int i) H v := fun H1 e _ q =>
  h.elim (fun h => .inl ⟨p, xs, i, v, rfl, rfl, ex_l e (sq_of h), ha, q H1 (Ex.refl H1)⟩) fun h => .inr (.inl ⟨p, xs, i, v, rfl, rfl, ex_t e (st_of h), ha, q H1 (Ex.refl H1)⟩)
/-- a call that gives z, its second argument a new list -/
theorem ev_pcL {R : List V → Hp → V → Prop} {E : XK} {xs : List V} (h1 : Ev ta σ H x) (h2 : EvL tb σ H xs) (hr : ∀ p H1, Ex H H1 → H1 p = some (.lst xs) → R [x, .ref p] H1 z) (sp : Sp) (hsp : sp = fun vs H Q _ => ∃ z, R vs H z ∧ ∀ H', Ex H H' → Q z H') : Ev (tCall sp [] E (tCons ta (tCons tb tNil))) σ H z := fun H1 e Q q =>
  h1 H1 e _ fun H2 e2 => h2 H2 (e.trans e2) _ fun p H3 hp e3 hx => by
    rw [hsp]
    exact ⟨z, hr p H3 ((e.trans e2).trans e3) hx, fun H4 e4 => q H4 ((e2.trans e3).trans e4)⟩
/-- o.m(..) that gives z -/
theorem ev_mt {a C dx : Addr} {fs : List (Str × V)} {m : Str} {E : XK} {R : List V → Hp → V → Prop} {t : TA} {vs : List V} (h : Ev te σ H (.ref a)) (ha : H a = some (.ins C dx fs)) (l : fs.lookup m = none) (hv : EvA t σ H vs) (hr : ∀ H1, Ex H H1 → R (.ref a :: vs) H1 z) (sp : Sp) (hsp : sp = fun vs H Q _ => ∃ z, R vs H z ∧ ∀ H', Ex H H' → Q z H') :
    Ev (tMeth C m sp [] E te t) σ H z := fun H1 e Q q => h H1 e _ fun H2 e2 => ⟨a, dx, fs, rfl, (e.trans e2) _ _ ha, l, hv H2 (e.trans e2) _ fun H3 e3 => by
    rw [hsp]
    exact ⟨z, by rw [List.append_nil]; exact hr H3 ((e.trans e2).trans e3), fun H4 e4 => q H4 ((e2.trans e3).trans e4)⟩⟩
end
end TX
end
section
set_option Elab.async false
set_option linter.all false
set_option maxRecDepth 100000
set_option maxHeartbeats 4000000
/-! TU: lists of data, old or new; pairs of stores; loops over new lists of data. -/
namespace TX
open PySem PySem.Spec PyProof.Rows L2 Evl
/-- a list of data, old or new -/
def EvQ (te : TE) (σ : L2.St) (H : Hp) (ds : List PyData) : Prop := ∀ H1, Ex H H1 → ∀ Q : VK, (∀ p xs H2, Ex H1 H2 → H2 p = some (.lst xs) → Reps H2 xs ds → Q (.ref p) H2) → te σ H1 Q
/-- a def that gives a new list of data, all that stood stays -/
def lSp (R : List V → Hp → List PyData → Prop) : Sp := fun vs H Q _ => ∃ ds, R vs H ds ∧ ∀ p xs H', H p = none → Ex H H' → H' p = some (.lst xs) → Reps H' xs ds → Q (.ref p) H'
section
variable {K : PySem.W.Frag} {σ : L2.St} {H H' : Hp} {ta tb te tk tv tl : TE} {ds es : List PyData} {d : PyData} {v x y z : V} {D : Ends} {tu tz : TS} {g : TG}
theorem EvS.q (h : EvS te σ H ds) : EvQ te σ H ds := fun H1 a Q q => h H1 a Q fun p xs H2 _ => q p xs H2
theorem eq_var {i : Nat} {p : Addr} {xs : List V} (h : σ[i]? = some (some (.ref p))) (hp : H p = some (.lst xs)) (rs : Reps H xs ds) : EvQ (tVar i) σ H ds := fun H1 a Q q => ⟨_, h, q p xs H1 (Ex.refl H1) (a _ _ hp) (rs.ex a)⟩
theorem es_catQ (ha : EvQ ta σ H ds) (hb : EvQ tb σ H es) (hz : ds.length + es.length ≤ 10000) : EvS (tOp rCat ta tb) σ H (ds ++ es) := fun H1 a Q q =>
  ha H1 a _ fun p xs H2 b hp rs => hb H2 (a.trans b) _ fun r ys H3 c hr qs => ⟨p, r, xs, ys, rfl, rfl, c _ _ hp, hr, sz_of (by rw [rs.len, qs.len]; omega), fun l hl => q l _ _ (fresh_back (b.trans c) hl) ((b.trans c).trans (Ex.new hl)) upd_same (((rs.ex c).app qs).ex (Ex.new hl))⟩
theorem es_pc {R : List V → Hp → List PyData → Prop} {E : XK} {ta : TA} {vs : List V} (h : EvA ta σ H vs) (hr : ∀ H1, Ex H H1 → R vs H1 ds) : EvS (tCall (lSp R) [] E ta) σ H ds := fun H1 e Q q =>
  h H1 e _ fun H2 e2 => ⟨ds, by rw [List.append_nil]; exact hr H2 (e.trans e2), fun p xs H3 hp e3 hx rs => q p xs H3 (fresh_back e2 hp) (e2.trans e3) hx rs⟩
theorem s_asgS {i : Nat} (h : EvS te σ H ds) (k : ∀ p xs H1, H p = none → Ex H H1 → H1 p = some (.lst xs) → Reps H1 xs ds → D.nx (σ.set i (some (.ref p))) H1) : tAsg te (gName i) D σ H := h H (Ex.refl H) _ fun p xs H1 hp e hx r => k p xs H1 hp e hx r
theorem s_retS (h : EvS te σ H ds) (k : ∀ p xs H1, H p = none → Ex H H1 → H1 p = some (.lst xs) → Reps H1 xs ds → D.rt (.ref p) H1) : tRet te D σ H := h H (Ex.refl H) _ k
/-- .. over a list that stays -/
theorem es_lcL {g : TG} {t : TT} {vs : List Nat} {a : Addr} {xs : List V} (h : Ev tl σ H (.ref a)) (hx : H a = some (.lst xs)) (hn : xs.length ≤ 40000) (st : Nat → L2.St) (f : Nat → Bool) (D : Nat → PyData) (hw : ∀ i, i < xs.length → wipe (st i) vs = wipe σ vs)
    (hg : ∀ i x H1 (R : L2.St → Hp → Prop), xs[i]? = some x → Ex H H1 → R (st i) H1 → g x (wipe σ vs) H1 R)
    (ht : ∀ i x H1, xs[i]? = some x → Ex H H1 → EvT t (st i) H1 (f i)) (he : ∀ i x H1, xs[i]? = some x → Ex H H1 → f i = true → EvR te (st i) H1 (D i)) : EvS (tLc (iList K tl) g t te vs) σ H (((List.range xs.length).filter f).map D) :=
  es_lc (walk_list (K := K) (a := a) (xs := xs)) hn st f D (fun H1 e R k => h H1 e _ fun H2 e2 => have q := sq_of (K := K) ((e.trans e2) _ _ hx); ⟨a, rfl, ⟨xs, q⟩, k H2 e2 q⟩) (fun H1 H2 e q => ex_l e q) hw
    (fun i x H1 H2 R hi e _ hy k => by
      obtain ⟨rfl, hy⟩ := hy
      exact hg i x _ R hy e (k _ (Ex.refl _)))
    (fun i H1 hi e => ht i _ H1 (List.getElem?_eq_getElem hi) e) (fun i H1 hi e hf => he i _ H1 (List.getElem?_eq_getElem hi) e hf)
theorem es_lcL1 {g : TG} {vs : List Nat} {a : Addr} {xs : List V} (h : Ev tl σ H (.ref a)) (hx : H a = some (.lst xs)) (hn : xs.length ≤ 40000) (st : Nat → L2.St) (D : Nat → PyData) (hw : ∀ i, i < xs.length → wipe (st i) vs = wipe σ vs)
    (hg : ∀ i x H1 (R : L2.St → Hp → Prop), xs[i]? = some x → Ex H H1 → R (st i) H1 → g x (wipe σ vs) H1 R)
    (he : ∀ i x H1, xs[i]? = some x → Ex H H1 → EvR te (st i) H1 (D i)) : EvS (tLc (iList K tl) g tYes te vs) σ H ((List.range xs.length).map D) := by
  have q := es_lcL (K := K) (t := tYes) h hx hn st (fun _ => true) D hw hg (fun _ _ H1 _ _ H2 _ Q k => k H2 (Ex.refl H2)) (fun i x H1 hi e _ => he i x H1 hi e)
  rw [filter_all] at q
  exact q
theorem es_lcR1 {ta : TA} {g : TG} {vs : List Nat} {n : Int} (h : EvA ta σ H [.int n]) (hn : 0 ≤ n ∧ n ≤ 40000) (st : Nat → L2.St) (D : Nat → PyData) (hw : ∀ i : Nat, (i : Int) < n → wipe (st i) vs = wipe σ vs)
    (hg : ∀ (i : Nat) H1 (R : L2.St → Hp → Prop), (i : Int) < n → Ex H H1 → R (st i) H1 → g (.int (i : Int)) (wipe σ vs) H1 R)
    (he : ∀ (i : Nat) H1, (i : Int) < n → Ex H H1 → EvR te (st i) H1 (D i)) : EvS (tLc (iRng1 ta) g tYes te vs) σ H ((List.range n.toNat).map D) := by
  have q := es_lcR (t := tYes) h hn st (fun _ => true) D hw hg (fun _ H1 _ _ H2 _ Q k => k H2 (Ex.refl H2)) (fun i H1 hi e _ => he i H1 hi e)
  rw [filter_all] at q
  exact q
/-- terms opened, one step each -/
theorem ret_ (h : te σ H fun v H1 => D.rt v H1) : tRet te D σ H := h
theorem op_ {r : R2} {Q : VK} (h : ta σ H fun x H1 => tb σ H1 fun y H2 => r x y H2 Q) : tOp r ta tb σ H Q := h
theorem lst_ {t : TA} {Q : VK} (h : t σ H fun xs H1 => xs.length ≤ sizeLine ∧ ∀ p, H1 p = none → Q (.ref p) (upd H1 p (.lst xs))) : tLst t σ H Q := h
theorem cons_ {ts : TA} {Q : List V → Hp → Prop} (h : te σ H fun v H1 => ts σ H1 fun vs H2 => Q (v :: vs) H2) : tCons te ts σ H Q := h
theorem consC_ {ts : TA} {Q : List V → Hp → Prop} (h : ts σ H fun vs H2 => Q (v :: vs) H2) : tCons (tC v) ts σ H Q := h
theorem nil_ {Q : List V → Hp → Prop} (h : Q [] H) : tNil σ H Q := h
theorem var_ {i : Nat} {Q : VK} (hv : σ[i]? = some (some v)) (h : Q v H) : tVar i σ H Q := ⟨v, hv, h⟩
theorem ev_ {Q : VK} (h : Ev te σ H v) (k : ∀ H1, Ex H H1 → Q v H1) : te σ H Q := h H (Ex.refl H) Q k
/-- tuple(a list of data) -/
theorem er_tupleQ (h : EvQ te σ H ds) : EvR (tCB (rTupS K) (tCons te tNil)) σ H (.tuple ds) := fun H1 a Q q =>
  h H1 a _ fun p xs H2 b hp rs => ⟨p, xs, rfl, .inl ⟨sq_of hp, fun l hl => q _ _ (b.trans (Ex.new hl)) (.tup upd_same (rs.ex (Ex.new hl)))⟩⟩
/-- a, b, c = a list of three -/
theorem gl_three {i j k : Nat} {a : Addr} {x y z : V} {Q : L2.St → Hp → Prop} (h : H a = some (.lst [x, y, z])) (q : Q (((σ.set i (some x)).set j (some y)).set k (some z)) H) : gLst K 3 (gCons (gName i) (gCons (gName j) (gCons (gName k) gNil))) (.ref a) σ H Q :=
  ⟨a, _, rfl, sq_of h, rfl, x, _, rfl, y, _, rfl, z, _, rfl, rfl, q⟩
/-- a, b = a new list, a value -/
theorem q_parLV {i j : Nat} {xs : List V} (h1 : EvL ta σ H xs) (h2 : Ev tb σ H v) (k : ∀ p H1, H p = none → Ex H H1 → H1 p = some (.lst xs) → tz D ((σ.set i (some (.ref p))).set j (some v)) H1) : tSeq (tPar i j (tCons ta (tCons tb tNil))) tz D σ H :=
  h1 H (Ex.refl H) _ fun p H1 hp e1 hx => h2 H1 e1 _ fun H2 e2 => ⟨_, _, rfl, k p H2 hp (e1.trans e2) (e2 _ _ hx)⟩
/-- a, b = a new list of data, a new list -/
theorem q_parSL {i j : Nat} {xs : List V} (h1 : EvS ta σ H ds) (h2 : EvL tb σ H xs) (k : ∀ p ys q H1, H p = none → H q = none → p ≠ q → Ex H H1 → H1 p = some (.lst ys) → Reps H1 ys ds → H1 q = some (.lst xs) → tz D ((σ.set i (some (.ref p))).set j (some (.ref q))) H1) : tSeq (tPar i j (tCons ta (tCons tb tNil))) tz D σ H :=
  h1 H (Ex.refl H) _ fun p ys H1 hp e1 hx rs => h2 H1 e1 _ fun q H2 hq e2 hy => ⟨_, _, rfl, k p ys q H2 hp (fresh_back e1 hq) (fun z => by rw [← z, hx] at hq; cases hq) (e1.trans e2) (e2 _ _ hx) (rs.ex e2) hy⟩
/-- the same by a pair that is made -/
theorem q_tupLV {i j : Nat} {xs : List V} (h1 : EvL ta σ H xs) (h2 : Ev tb σ H v) (k : ∀ p H1, H p = none → Ex H H1 → H1 p = some (.lst xs) → tz D ((σ.set i (some (.ref p))).set j (some v)) H1) : tSeq (tAsg (tTup (tCons ta (tCons tb tNil))) (gTup K 2 (gCons (gName i) (gCons (gName j) gNil)))) tz D σ H :=
  h1 H (Ex.refl H) _ fun p H1 hp e1 hx => h2 H1 e1 _ fun H2 e2 => ⟨by show 2 ≤ sizeLine; decide, fun t ht => g_two (K := K) upd_same (k p _ hp ((e1.trans e2).trans (Ex.new ht)) (Ex.new ht _ _ (e2 _ _ hx)))⟩
theorem q_tupSL {i j : Nat} {xs : List V} (h1 : EvS ta σ H ds) (h2 : EvL tb σ H xs) (k : ∀ p ys q H1, H p = none → H q = none → p ≠ q → Ex H H1 → H1 p = some (.lst ys) → Reps H1 ys ds → H1 q = some (.lst xs) → tz D ((σ.set i (some (.ref p))).set j (some (.ref q))) H1) : tSeq (tAsg (tTup (tCons ta (tCons tb tNil))) (gTup K 2 (gCons (gName i) (gCons (gName j) gNil)))) tz D σ H :=
  h1 H (Ex.refl H) _ fun p ys H1 hp e1 hx rs => h2 H1 e1 _ fun q H2 hq e2 hy => ⟨by show 2 ≤ sizeLine; decide, fun t ht => g_two (K := K) upd_same (k p ys q _ hp (fresh_back e1 hq) (fun z => by rw [← z, hx] at hq; cases hq) ((e1.trans e2).trans (Ex.new ht)) (Ex.new ht _ _ (e2 _ _ hx)) (rs.ex (e2.trans (Ex.new ht))) (Ex.new ht _ _ hy))⟩
/-- a for over a new list of data -/
theorem q_forS (h : EvS tl σ H ds) (Pv : Addr → List V → Nat → L2.St → Hp → Prop) (h0 : ∀ p xs H1, H p = none → Ex H H1 → H1 p = some (.lst xs) → Reps H1 xs ds → Pv p xs 0 σ H1) (hl : ∀ p xs i σ' H', i ≤ xs.length → Pv p xs i σ' H' → H' p = some (.lst xs))
    (hs : ∀ p xs i x σ' H', xs[i]? = some x → Pv p xs i σ' H' → g x σ' H' fun σ2 H2 => tu { D with nx := Pv p xs (i + 1), ct := Pv p xs (i + 1), bk := tz D } σ2 H2) (hd : ∀ p xs σ' H', Pv p xs xs.length σ' H' → tz D σ' H') : tSeq (tFor (iList K tl) g tu) tz D σ H :=
  h H (Ex.refl H) _ fun p xs H1 hp e h1 rs => ⟨p, rfl, ⟨xs, sq_of h1⟩, for_list (K := K) (D := { D with nx := tz D }) (Pv p xs) (h0 p xs H1 hp e h1 rs) (fun i σ' H' hi q => sq_of (hl p xs i σ' H' hi q)) (hs p xs) (hd p xs)⟩
end
end TX
end
section
set_option Elab.async false
set_option linter.all false
set_option maxRecDepth 100000
set_option maxHeartbeats 4000000
/-! BI: comprehensions over lists and tuples of data, told element by element; terms opened; a def called by three names. Own work. -/
namespace TX
open PySem PySem.Spec PyProof.Rows L2 Evl
theorem range_fm {α β : Type} (f : α → Bool) (D : α → β) (d0 : α) : ∀ l : List α, ((List.range l.length).filter fun i => f (l.getD i d0)).map (fun i => D (l.getD i d0)) = (l.filter f).map D
  | [] => rfl
  | x :: l => by
    rw [List.length_cons, List.range_succ_eq_map, List.filter_cons]
    have e : ((List.range l.length).map Nat.succ).filter (fun i => f ((x :: l).getD i d0)) = ((List.range l.length).filter fun i => f (l.getD i d0)).map Nat.succ := by
      rw [List.filter_map]
      rfl
    rw [e]
    have ih := range_fm f D d0 l
    have z : (((List.range l.length).filter fun i => f (l.getD i d0)).map Nat.succ).map (fun i => D ((x :: l).getD i d0)) = (l.filter f).map D := by
      rw [List.map_map, ← ih]
      rfl
    show List.map _ (if f x = true then _ else _) = _
    rw [List.filter_cons]
    split
    · rw [List.map_cons, List.map_cons, z]
      rfl
    · exact z
section
variable {K : PySem.W.Frag} {σ : L2.St} {H H' : Hp} {ta tb te tl : TE} {t : TT} {ds : List PyData} {d : PyData} {v x y z : V} {D : Ends} {tu tw tz : TS} {Q : VK}
theorem s_ifD (h : te σ H fun v H1 => ∃ b, v = .bl b ∧ (if b = true then tu D σ H1 else tw D σ H1)) : tIfS (tTest te) tu tw D σ H := h
theorem es_ (h : EvS te σ H ds) (k : ∀ p xs H1, H p = none → Ex H H1 → H1 p = some (.lst xs) → Reps H1 xs ds → Q (.ref p) H1) : te σ H Q := h H (Ex.refl H) Q k
theorem er_ (h : EvR te σ H d) (k : ∀ v H1, Ex H H1 → Rep H1 v d → Q v H1) : te σ H Q := h H (Ex.refl H) Q k
theorem et_yes : EvT tYes σ H true := fun H2 _ _ k => k H2 (Ex.refl H2)
theorem ev_intB {b : Bool} (h : Ev te σ H (.bl b)) : Ev (tCB (fun xs H Q => (∃ i, xs = [.int i] ∧ Q (.int i) H) ∨ ∃ k, xs = [.bl k] ∧ Q (.int (if k then 1 else 0)) H) (tCons te tNil)) σ H (.int (if b then 1 else 0)) := ev_cb (ea_cons h ea_nil) fun H1 _ _ q => .inr ⟨b, rfl, q H1 (Ex.refl H1)⟩
theorem ev_intI {i : Int} (h : Ev te σ H (.int i)) : Ev (tCB (fun xs H Q => (∃ i, xs = [.int i] ∧ Q (.int i) H) ∨ ∃ k, xs = [.bl k] ∧ Q (.int (if k then 1 else 0)) H) (tCons te tNil)) σ H (.int i) := ev_cb (ea_cons h ea_nil) fun H1 _ _ q => .inl ⟨i, rfl, q H1 (Ex.refl H1)⟩
/-- [e for x in l if t] over data: l a list -/
theorem es_lcDL {j : Nat} {vs : List Nat} (h : EvQ tl σ H ds) (hl : ds.length ≤ 40000) (f : PyData → Bool) (E : PyData → PyData) (hw : ∀ x, wipe ((wipe σ vs).set j (some x)) vs = wipe σ vs)
    (ht : ∀ d ∈ ds, ∀ x H1, Ex H H1 → Rep H1 x d → EvT t ((wipe σ vs).set j (some x)) H1 (f d)) (he : ∀ d ∈ ds, f d = true → ∀ x H1, Ex H H1 → Rep H1 x d → EvR te ((wipe σ vs).set j (some x)) H1 (E d)) :
    EvS (tLc (iList K tl) (gName j) t te vs) σ H ((ds.filter f).map E) := fun H0 e Q q => h H0 e _ fun p xs H1 e1 hp rs => by
  have z := es_lcL (K := K) (tl := tC (.ref p)) (g := gName j) (t := t) (te := te) (vs := vs) (σ := σ) (H := H1) (a := p) (xs := xs) ev_c hp (by rw [rs.len]; exact hl) (fun i => (wipe σ vs).set j xs[i]?) (fun i => f (ds.getD i .none)) (fun i => E (ds.getD i .none)) (fun i hi => by rw [List.getElem?_eq_getElem hi]; exact hw _)
    (fun i x H2 R hx _ r => by rw [hx] at r; exact r)
    (fun i x H2 hx e2 => by
      obtain ⟨d, hd, rd⟩ := (rs.ex e2).at hx
      have ed : ds.getD i .none = d := by rw [List.getD_eq_getElem?_getD, hd]; rfl
      rw [ed, hx]
      exact ht d (List.mem_of_getElem? hd) x H2 ((e.trans e1).trans e2) rd)
    (fun i x H2 hx e2 hf => by
      obtain ⟨d, hd, rd⟩ := (rs.ex e2).at hx
      have ed : ds.getD i .none = d := by rw [List.getD_eq_getElem?_getD, hd]; rfl
      rw [ed] at hf ⊢
      rw [hx]
      exact he d (List.mem_of_getElem? hd) hf x H2 ((e.trans e1).trans e2) rd)
  rw [rs.len, range_fm f E .none ds] at z
  exact z H1 (Ex.refl H1) Q fun p xs H2 hp e2 => q p xs H2 (fresh_back e1 hp) (e1.trans e2)
theorem es_lcDL1 {j : Nat} {vs : List Nat} (h : EvQ tl σ H ds) (hl : ds.length ≤ 40000) (E : PyData → PyData) (hw : ∀ x, wipe ((wipe σ vs).set j (some x)) vs = wipe σ vs)
    (he : ∀ d ∈ ds, ∀ x H1, Ex H H1 → Rep H1 x d → EvR te ((wipe σ vs).set j (some x)) H1 (E d)) :
    EvS (tLc (iList K tl) (gName j) tYes te vs) σ H (ds.map E) := by
  have q := es_lcDL (K := K) (t := tYes) h hl (fun _ => true) E hw (fun _ _ _ _ _ _ => et_yes) fun d hd _ x H1 e r => he d hd x H1 e r
  rw [List.filter_eq_self.mpr fun _ _ => rfl] at q
  exact q
/-- .. l a tuple -/
theorem es_lcDT {j : Nat} {vs : List Nat} (h : EvR tl σ H (.tuple ds)) (hl : ds.length ≤ 40000) (f : PyData → Bool) (E : PyData → PyData) (hw : ∀ x, wipe ((wipe σ vs).set j (some x)) vs = wipe σ vs)
    (ht : ∀ d ∈ ds, ∀ x H1, Ex H H1 → Rep H1 x d → EvT t ((wipe σ vs).set j (some x)) H1 (f d)) (he : ∀ d ∈ ds, f d = true → ∀ x H1, Ex H H1 → Rep H1 x d → EvR te ((wipe σ vs).set j (some x)) H1 (E d)) :
    EvS (tLc (iTup K tl) (gName j) t te vs) σ H ((ds.filter f).map E) := fun H0 e Q q => h H0 e _ fun v H1 e1 rv => by
  obtain ⟨p, xs, rfl, hp, rs⟩ := rv.tup_inv
  have z := es_lcT (K := K) (tl := tC (.ref p)) (g := gName j) (t := t) (te := te) (vs := vs) (σ := σ) (H := H1) (a := p) (xs := xs) ev_c hp (by rw [rs.len]; exact hl) (fun i => (wipe σ vs).set j xs[i]?) (fun i => f (ds.getD i .none)) (fun i => E (ds.getD i .none)) (fun i hi => by rw [List.getElem?_eq_getElem hi]; exact hw _)
    (fun i x H2 R hx _ r => by rw [hx] at r; exact r)
    (fun i x H2 hx e2 => by
      obtain ⟨d, hd, rd⟩ := (rs.ex e2).at hx
      have ed : ds.getD i .none = d := by rw [List.getD_eq_getElem?_getD, hd]; rfl
      rw [ed, hx]
      exact ht d (List.mem_of_getElem? hd) x H2 ((e.trans e1).trans e2) rd)
    (fun i x H2 hx e2 hf => by
      obtain ⟨d, hd, rd⟩ := (rs.ex e2).at hx
      have ed : ds.getD i .none = d := by rw [List.getD_eq_getElem?_getD, hd]; rfl
      rw [ed] at hf ⊢
      rw [hx]
      exact he d (List.mem_of_getElem? hd) hf x H2 ((e.trans e1).trans e2) rd)
  rw [rs.len, range_fm f E .none ds] at z
  exact z H1 (Ex.refl H1) Q fun p xs H2 hp e2 => q p xs H2 (fresh_back e1 hp) (e1.trans e2)
theorem es_lcDT1 {j : Nat} {vs : List Nat} (h : EvR tl σ H (.tuple ds)) (hl : ds.length ≤ 40000) (E : PyData → PyData) (hw : ∀ x, wipe ((wipe σ vs).set j (some x)) vs = wipe σ vs)
    (he : ∀ d ∈ ds, ∀ x H1, Ex H H1 → Rep H1 x d → EvR te ((wipe σ vs).set j (some x)) H1 (E d)) :
    EvS (tLc (iTup K tl) (gName j) tYes te vs) σ H (ds.map E) := by
  have q := es_lcDT (K := K) (t := tYes) h hl (fun _ => true) E hw (fun _ _ _ _ _ _ => et_yes) fun d hd _ x H1 e r => he d hd x H1 e r
  rw [List.filter_eq_self.mpr fun _ _ => rfl] at q
  exact q
/-- a, b in a line of pairs -/
theorem es_lcPL {i j : Nat} {vs : List Nat} (h : EvQ tl σ H ds) (hl : ds.length ≤ 40000) (f : PyData → Bool) (E : PyData → PyData) (hp2 : ∀ d ∈ ds, ∃ u w, d = .tuple [u, w]) (hw : ∀ x y, wipe (((wipe σ vs).set i (some x)).set j (some y)) vs = wipe σ vs)
    (ht : ∀ u w, PyData.tuple [u, w] ∈ ds → ∀ x y H1, Ex H H1 → Rep H1 x u → Rep H1 y w → EvT t (((wipe σ vs).set i (some x)).set j (some y)) H1 (f (.tuple [u, w]))) (he : ∀ u w, PyData.tuple [u, w] ∈ ds → f (.tuple [u, w]) = true → ∀ x y H1, Ex H H1 → Rep H1 x u → Rep H1 y w → EvR te (((wipe σ vs).set i (some x)).set j (some y)) H1 (E (.tuple [u, w]))) :
    EvS (tLc (iList K tl) (gTup K 2 (gCons (gName i) (gCons (gName j) gNil))) t te vs) σ H ((ds.filter f).map E) := fun H0 e Q q => h H0 e _ fun p xs H1 e1 hp rs => by
  let fst : Nat → Option V := fun n => match xs[n]? with
    | some (.ref a) => (match H1 a with
      | some (.tup (u :: _)) => some u
      | _ => none)
    | _ => none
  let snd : Nat → Option V := fun n => match xs[n]? with
    | some (.ref a) => (match H1 a with
      | some (.tup [_, w]) => some w
      | _ => none)
    | _ => none
  have key : ∀ n x, xs[n]? = some x → ∃ u w a x1 x2, ds.getD n .none = .tuple [u, w] ∧ PyData.tuple [u, w] ∈ ds ∧ x = .ref a ∧ H1 a = some (.tup [x1, x2]) ∧ Rep H1 x1 u ∧ Rep H1 x2 w ∧ fst n = some x1 ∧ snd n = some x2 := fun n x hx => by
    obtain ⟨d, hd, rd⟩ := rs.at hx
    have hm := List.mem_of_getElem? hd
    obtain ⟨u, w, rfl⟩ := hp2 d hm
    obtain ⟨a, x1, x2, rfl, ha, r1, r2⟩ := rd.two
    refine ⟨u, w, a, x1, x2, by rw [List.getD_eq_getElem?_getD, hd]; rfl, hm, rfl, ha, r1, r2, ?_, ?_⟩
    · show (match xs[n]? with | some (.ref a) => (match H1 a with | some (.tup (u :: _)) => some u | _ => none) | _ => none) = some x1
      rw [hx]
      dsimp only
      rw [ha]
    · show (match xs[n]? with | some (.ref a) => (match H1 a with | some (.tup [_, w]) => some w | _ => none) | _ => none) = some x2
      rw [hx]
      dsimp only
      rw [ha]
  have z := es_lcL (K := K) (tl := tC (.ref p)) (g := gTup K 2 (gCons (gName i) (gCons (gName j) gNil))) (t := t) (te := te) (vs := vs) (σ := σ) (H := H1) (a := p) (xs := xs) ev_c hp (by rw [rs.len]; exact hl) (fun n => ((wipe σ vs).set i (fst n)).set j (snd n)) (fun i => f (ds.getD i .none)) (fun i => E (ds.getD i .none))
    (fun n hn => by
      obtain ⟨u, w, a, x1, x2, _, _, _, _, _, _, e5, e6⟩ := key n _ (List.getElem?_eq_getElem hn)
      rw [e5, e6]
      exact hw _ _)
    (fun n x H2 R hx e2 r => by
      obtain ⟨u, w, a, x1, x2, _, _, rfl, ha, _, _, e5, e6⟩ := key n _ hx
      rw [e5, e6] at r
      exact g_two (K := K) (e2 _ _ ha) r)
    (fun n x H2 hx e2 => by
      obtain ⟨u, w, a, x1, x2, ed, hm, rfl, ha, r1, r2, e5, e6⟩ := key n _ hx
      rw [ed, e5, e6]
      exact ht u w hm x1 x2 H2 ((e.trans e1).trans e2) (r1.ex e2) (r2.ex e2))
    (fun n x H2 hx e2 hf => by
      obtain ⟨u, w, a, x1, x2, ed, hm, rfl, ha, r1, r2, e5, e6⟩ := key n _ hx
      rw [ed] at hf ⊢
      rw [e5, e6]
      exact he u w hm hf x1 x2 H2 ((e.trans e1).trans e2) (r1.ex e2) (r2.ex e2))
  rw [rs.len, range_fm f E .none ds] at z
  exact z H1 (Ex.refl H1) Q fun p xs H2 hp e2 => q p xs H2 (fresh_back e1 hp) (e1.trans e2)
/-- an index of a list of data -/
theorem er_ixQ {i : Nat} (h : EvQ ta σ H ds) (hi : Ev tb σ H (.int (i : Int))) (hd : ds[i]? = some d) : EvR (tOp (rIxL K) ta tb) σ H d := fun H1 a Q q =>
  h H1 a _ fun p xs H2 b hp rs => hi H2 (a.trans b) _ fun H3 c => by
    obtain ⟨x, hx, rx⟩ := rs.get hd
    exact ⟨p, xs, (i : Int), x, rfl, rfl, sq_of (c _ _ hp), atI_nat hx, q x H3 (b.trans c) (rx.ex c)⟩
/-- len of a list of data -/
theorem ev_lenQ (h : EvQ te σ H ds) : Ev (tCB (rLenS K) (tCons te tNil)) σ H (.int (ds.length : Int)) := fun H1 a Q q =>
  h H1 a _ fun p xs H2 b hp rs => ⟨p, xs, rfl, .inl (sq_of hp), by rw [rs.len]; exact q H2 b⟩
theorem EvQ_fix {p : Addr} {xs : List V} (h : Ev te σ H (.ref p)) (hp : H p = some (.lst xs)) (rs : Reps H xs ds) : EvQ te σ H ds := fun H1 a Q q => h H1 a _ fun H2 a2 => q p xs H2 a2 ((a.trans a2) _ _ hp) (rs.ex (a.trans a2))
theorem eq_ixA {i : Int} {l p : Addr} {ys xs : List V} (h : Ev ta σ H (.ref l)) (hi : Ev tb σ H (.int i)) (hl : H l = some (.lst ys)) (ha : atI ys i = some (.ref p)) (hp : H p = some (.lst xs)) (rs : Reps H xs ds) : EvQ (tOp (rIxL K) ta tb) σ H ds := EvQ_fix (ev_op h hi (rv_ixL (sq_of hl) ha)) hp rs
end
theorem kbn_three {K : PySem.W.Frag} {x k1 k2 k3 : Str} {params : Arguments} {body : List Stmt} {scope : Scope} {f : Addr} {fd : FuncData} (F : FunD K x x params body scope [] [] f fd)
    (hb : ∀ (kV doc pm : Value) (an : Option Addr) (cdv ct u v t : Value), bindArgs (PySem.W.fnOf x x params body scope .none kV doc pm an cdv ct) ⟨[], [(k3, t), (k2, v), (k1, u)]⟩ = pure [(k1, u), (k2, v), (k3, t)]) : KBn K fd [k1, k2, k3] 0 [k3, k2, k1] (fun _ ws => ws.reverse) (fun _ zs => zs.reverse) := by
  refine ⟨fun s us ws _ l1 l2 => ?_, fun r1 r2 => vals_rev r2⟩
  match us, ws, l1, l2 with
  | [], [t, v, u], _, _ =>
    obtain ⟨oc, od, dV, kV, doc, pm, an, cdv, ct, osl, rfl, lk, hcd, hD, hK⟩ := F.ex
    rcases hD with ⟨_, rfl⟩ | ⟨e, _⟩
    · exact .of_eq (hb kV doc pm an cdv ct u v t)
    · exact absurd rfl e
end TX
end
section
set_option Elab.async false
set_option linter.all false
set_option maxRecDepth 100000
set_option maxHeartbeats 4000000
/-! BJ: lists made longer by lists of data, lists of a range, a list by a condition, lists compared; [x] * k. Own work. -/
namespace TX
open PySem PySem.Spec PyProof.Rows L2 Evl
section
variable {K : PySem.W.Frag} {σ : L2.St} {H H' : Hp} {ta tb te tl : TE} {t : TT} {ds es : List PyData} {d : PyData} {v x y z : V} {D : Ends} {tu tw tz : TS} {Q : VK}
theorem s_extS {l : Addr} {xs : List V} (hl : H l = some (.lst xs)) (ha : Ev ta σ H (.ref l)) (h : EvS te σ H ds) (hz : xs.length + ds.length ≤ 100000) (k : ∀ ys H1, Ex H H1 → Reps H1 ys ds → H1 l = some (.lst xs) → D.nx σ (upd H1 l (.lst (xs ++ ys)))) :
    tDrop (tBM K "list" rExtend ta (tCons te tNil)) D σ H := ha H (Ex.refl H) _ fun H1 e1 => ⟨Or.inl ⟨rfl, _, sq_of (e1 l _ hl)⟩, h H1 e1 _ fun p ys H2 _ e2 hp rs => ⟨l, p, xs, ys, rfl, rfl, e2 _ _ (e1 _ _ hl), hp, sz_of (by rw [rs.len]; exact hz), k ys H2 (e1.trans e2) rs (e2 _ _ (e1 _ _ hl))⟩⟩
theorem eq_if {b : Bool} (h : EvT t σ H b) (h1 : b = true → EvQ ta σ H ds) (h2 : b = false → EvQ tb σ H ds) : EvQ (tIf t ta tb) σ H ds := fun H1 e Q q => h H1 e _ fun H2 e2 => by
  cases b with
  | true =>
    show ta σ H2 Q
    exact h1 rfl H2 (e.trans e2) Q fun p xs H3 e3 => q p xs H3 (e2.trans e3)
  | false =>
    show tb σ H2 Q
    exact h2 rfl H2 (e.trans e2) Q fun p xs H3 e3 => q p xs H3 (e2.trans e3)
theorem ev_eqQS (ha : EvQ ta σ H ds) (hb : EvS tb σ H es) (sd : SeqAt.shaped (.list ds) = true) (se : SeqAt.shaped (.list es) = true) : Ev (tOp (rEqD K) ta tb) σ H (.bl (PyData.eqv (.list ds) (.list es))) := fun H1 e Q q =>
  ha H1 e _ fun p xs H2 e2 hx rx => hb H2 (e.trans e2) _ fun r ys H3 hr e3 hy ry => ⟨.list ds, .list es, .lst (sq_of (e3 _ _ hx)) (rx.ex e3).dp, .lst (sq_of hy) ry.dp, sd, se, q H3 (e2.trans e3)⟩
theorem es_nil0 : EvS (tLst tNil) σ H [] := fun H1 e Q q => lst_ (nil_ ⟨by show 0 ≤ sizeLine; decide, fun p hp => q p [] _ hp (Ex.new hp) upd_same .nil⟩)
theorem el_rg {n : Nat} (h : Ev te σ H (.int (n : Int))) (hn : n ≤ 10000) : EvL (tLstRg (tRg1 te)) σ H ((List.range n).map fun i : Nat => V.int (i : Int)) := fun H1 e Q q =>
  h H1 e _ fun H2 e2 => ⟨(n : Int), rfl, RgOk.of_le (Int.le_refl 0) (by omega) (by omega) (by omega), fun p hp => by
    have er : rgV 0 (n : Int) = (List.range n).map fun i : Nat => V.int (i : Int) := by
      unfold rgV
      rw [Int.sub_zero, Int.toNat_natCast]
      exact List.map_congr_left fun i _ => by rw [Int.zero_add]
    rw [er]
    exact q p _ (fresh_back e2 hp) (e2.trans (Ex.new hp)) upd_same⟩
theorem ev_inQ (h : EvR ta σ H d) (hl : EvQ tb σ H ds) (sd : SeqAt.shaped d = true) (se : SeqAt.shaped (.list ds) = true) : Ev (tOp (rInD K) ta tb) σ H (.bl (ds.any fun z => PyData.eqv z d)) := fun H1 e Q q =>
  h H1 e _ fun v H2 e2 rv => hl H2 (e.trans e2) _ fun p xs H3 e3 hp rp => ⟨d, ds, (rv.ex e3).dp, .lst (sq_of hp) rp.dp, sd, se, q H3 (e2.trans e3)⟩
theorem ev_notInQ (h : EvR ta σ H d) (hl : EvQ tb σ H ds) (sd : SeqAt.shaped d = true) (se : SeqAt.shaped (.list ds) = true) : Ev (tOp (rNotInD K) ta tb) σ H (.bl (!ds.any fun z => PyData.eqv z d)) := fun H1 e Q q =>
  h H1 e _ fun v H2 e2 rv => hl H2 (e.trans e2) _ fun p xs H3 e3 hp rp => ⟨d, ds, (rv.ex e3).dp, .lst (sq_of hp) rp.dp, sd, se, q H3 (e2.trans e3)⟩
theorem g_four {i j k l : Nat} {a : Addr} {x y z u : V} {Q : L2.St → Hp → Prop} (h : H a = some (.tup [x, y, z, u])) (q : Q ((((σ.set i (some x)).set j (some y)).set k (some z)).set l (some u)) H) : gTup K 4 (gCons (gName i) (gCons (gName j) (gCons (gName k) (gCons (gName l) gNil)))) (.ref a) σ H Q :=
  ⟨a, _, rfl, st_of h, rfl, x, _, rfl, y, _, rfl, z, _, rfl, u, _, rfl, rfl, q⟩
theorem q_asgQ {i : Nat} (h : EvQ te σ H ds) (k : ∀ p xs H1, Ex H H1 → H1 p = some (.lst xs) → Reps H1 xs ds → tz D (σ.set i (some (.ref p))) H1) : tSeq (tAsg te (gName i)) tz D σ H := h H (Ex.refl H) _ fun p xs H1 e hx r => k p xs H1 e hx r
/-- [x] * k for a truth k -/
theorem es_rep {b : Bool} (h : EvR te σ H d) (hk : ∀ H1, Ex H H1 → Ev tb σ H1 (.int (if b then 1 else 0))) : EvS (tOp rRep (tLst (tCons te tNil)) tb) σ H (if b then [d] else []) := fun H1 e Q q =>
  lst_ (cons_ (h H1 e _ fun v H2 e2 rv => nil_ ⟨by show 1 ≤ sizeLine; decide, fun p hp => by
    have e3 : Ex H2 (upd H2 p (.lst [v])) := Ex.new hp
    refine hk _ ((e.trans e2).trans e3) _ (Ex.refl _) _ fun H4 e4 => ⟨p, _, [v], rfl, rfl, e4 _ _ upd_same, ?_, ?_, ?_, fun r hr => ?_⟩
    · split <;> decide
    · split <;> decide
    · cases b
      · show 1 * 0 ≤ sizeLine; decide
      · show 1 * 1 ≤ sizeLine; decide
    · refine q r _ _ (fresh_back ((e2.trans e3).trans e4) hr) (((e2.trans e3).trans e4).trans (Ex.new hr)) upd_same ?_
      cases b with
      | true => exact .cons (((rv.ex e3).ex e4).ex (Ex.new hr)) .nil
      | false => exact .nil⟩))
end
end TX
end
section
set_option Elab.async false
set_option linter.all false
set_option maxRecDepth 100000
set_option maxHeartbeats 4000000
/-! BK: a tuple, the other way round. Own work. -/
namespace HT
open PySem PySem.Spec PyProof.Rows L2
section
variable {prog : Program} {w : World} {A : Around} {s : Shared} {E : Value → Shared → Prop}
theorem places_rev (n : Nat) : Builtin.Slice.slicePlaces ((n : Int) - 1) (-1) (-1) = n := by
  unfold Builtin.Slice.slicePlaces
  have h1 : ¬ ((-1 : Int) > 0) := by omega
  have e : -(-1 : Int) = 1 := rfl
  simp only [h1, if_false, e, Int.ediv_one]
  split <;> omega
theorem sliceApplied_rev {sl : Addr} {vl vu vs : Value} {n : Nat} {Q : Int × Int × Nat → Shared → Prop} (hs : s.heap.IsSliceOf sl vl vu vs) (pl : IsPart vl none) (pu : IsPart vu none) (ps : IsPart vs (some (-1)))
    (h : Q ((n : Int) - 1, -1, n) s) : wpAny (model prog w) A (Builtin.Slice.sliceApplied (.ref sl) (pure (n : Int))) Q E s := by
  obtain ⟨os, hos, hcs, hds⟩ := id hs
  unfold Builtin.Slice.sliceApplied Builtin.Slice.sliceFields
  refine wpAny_bind (wpAny_bind (wpAny_field hos hds (x := vl) rfl (wpAny_bind (wpAny_field hos hds (x := vu) rfl (wpAny_bind (wpAny_field hos hds (x := vs) rfl (wpAny_pure ?_)))))))
  refine wpAny_bind (slicePart_ ps ?_)
  show wpAny _ _ (if ((-1 : Int) == 0) = true then _ else _) _ _ s
  rw [if_neg (by decide)]
  refine wpAny_bind (slicePart_ pl (wpAny_bind (slicePart_ pu (wpAny_bind (wpAny_pure ?_)))))
  show wpAny _ _ (pure ((n : Int) - 1, (-1 : Int), Builtin.Slice.slicePlaces ((n : Int) - 1) (-1) (-1))) _ _ s
  rw [places_rev]
  exact wpAny_pure h
theorem pick_allV {α : Type} (xs : Array α) : (List.range xs.size).filterMap (xs[·]?) = xs.toList := by
  have q : ∀ n, n ≤ xs.size → (List.range n).filterMap (xs[·]?) = xs.toList.take n := fun n => by
    induction n with
    | zero => intro _; rfl
    | succ k ih =>
      intro h
      rw [List.range_succ, List.filterMap_append, ih (by omega), List.take_succ]
      congr 1
      rw [List.filterMap_cons, Array.getElem?_toList]
      cases e : xs[k]? with
      | none => rfl
      | some v => rfl
  have h := q xs.size (Nat.le_refl _)
  rw [h, ← Array.length_toList, List.take_length]
theorem fm_congr {α β : Type} {f g : α → Option β} : ∀ {l : List α}, (∀ x ∈ l, f x = g x) → l.filterMap f = l.filterMap g
  | [], _ => rfl
  | x :: l, h => by rw [List.filterMap_cons, List.filterMap_cons, h x List.mem_cons_self, fm_congr fun y hy => h y (List.mem_cons_of_mem _ hy)]
theorem range_back (n : Nat) : (List.range n).reverse = (List.range n).map fun m => n - 1 - m := by
  refine List.ext_getElem (by rw [List.length_reverse, List.length_map]) fun i h1 h2 => ?_
  rw [List.getElem_reverse, List.getElem_range, List.getElem_map, List.getElem_range, List.length_range]
theorem pick_rev (xs : Array Value) : ((List.range xs.size).filterMap fun (m : Nat) => xs[(((xs.size : Nat) : Int) - 1 + (m : Int) * -1).toNat]?).toArray = xs.toList.reverse.toArray := by
  have e : (List.range xs.size).filterMap (fun (m : Nat) => xs[(((xs.size : Nat) : Int) - 1 + (m : Int) * -1).toNat]?) = (List.range xs.size).reverse.filterMap (xs[·]?) := by
    rw [range_back, List.filterMap_map]
    refine fm_congr fun m hm => ?_
    have := List.mem_range.mp hm
    show _ = xs[xs.size - 1 - m]?
    congr 1
    omega
  rw [e, List.filterMap_reverse, pick_allV]
theorem getItem_tuple_rev {t sl : Addr} {items : Array Value} {vl vu vs : Value} {Q : Value → Shared → Prop} (ht : IsTup s.heap t items) (hs : s.heap.IsSliceOf sl vl vu vs) (pl : IsPart vl none) (pu : IsPart vu none) (ps : IsPart vs (some (-1)))
    (h : Q (.ref s.heap.objs.size) { s with heap := s.heap.push { cls := .type "tuple", data := .seq items.toList.reverse.toArray } })
    (hsz : items.size ≤ sizeLine) : wpAny (model prog w) A (getItem (.ref t) (.ref sl)) Q E s := by
  have htake : sizeOk (.seq items.toList.reverse.toArray) := by
    show items.toList.reverse.toArray.size ≤ sizeLine
    rw [List.size_toArray, List.length_reverse, Array.length_toList]
    exact hsz
  obtain ⟨os, hos, hcs, hds⟩ := id hs
  have hTs : s.TypeIs (.ref sl) "slice" := ⟨os, hos, hcs⟩
  unfold getItem
  try with_reducible refine wpAny_holding ?_
  first | refine wpAny_bind (wpAny_pure ?_) | skip
  refine wpAny_bind (wpAny_sequenceKey ht.typeIs (by decide) ?_)
  refine wpAny_bind (wpAny_callSpecial?_slot (name := Str.ofString "__getitem__") ht.typeIs PyProof.Rows.slot_tuple_getitem
    (wpAny_call_entry PyProof.Rows.slot_tuple_getitem ht.typeIs entry_tuple_getitem ?_ (args_tuple_getitem _ _)))
  show wpAny _ _ (Builtin.Tuple.tupleItemsOf (.ref t) >>= _) _ _ s
  refine wpAny_bind (tupleItemsOf_ ht ?_)
  refine wpAny_bind (wpAny_typeOf hTs ?_)
  rw [if_pos (by decide)]
  refine wpAny_bind (sliceApplied_rev hs pl pu ps ?_)
  have hno : ¬ ((((items.size : Nat) : Int) - 1 == 0 && (-1 : Int) == 1 && items.size == items.size) = true) := by
    intro q
    rw [Bool.and_eq_true, Bool.and_eq_true] at q
    exact absurd q.1.2 (by decide)
  show wpAny _ _ (if (((items.size : Nat) : Int) - 1 == 0 && (-1 : Int) == 1 && items.size == items.size) = true then _ else _) _ _ s
  rw [if_neg hno, pick_rev]
  first
    | exact wpAny_bind (m := Builtin.Tuple.tupleExact _) (wpAny_newObj_type (wpAny_pure ⟨_, rfl, wpAny_pure h⟩) htake)
    | exact wpAny_bind (m := Builtin.Tuple.tupleExact _) (wpAny_newObj_type (wpAny_bind (wpAny_pure (wpAny_pure ⟨_, rfl, wpAny_pure h⟩))) htake)
    | exact wpAny_bind (wpAny_bind (m := Builtin.Tuple.tupleExact _) (wpAny_newObj_type (wpAny_pure (wpAny_pure ⟨_, rfl, wpAny_pure h⟩)) htake))
    | exact wpAny_bind (wpAny_bind (m := Builtin.Tuple.tupleExact _) (wpAny_newObj_type (wpAny_pure ⟨_, rfl, wpAny_pure h⟩) htake))
end
end HT
namespace TX
open PySem PySem.Spec PyProof.Rows L2 Evl
def tRevT (K : PySem.W.Frag) (te : TE) : TE := fun σ H Q => te σ H fun x H1 => ∃ a xs, x = .ref a ∧ SqT K H1 a xs ∧ ∀ p, H1 p = none → Q (.ref p) (upd H1 p (.tup xs.reverse))
theorem pe_revT {X : Cx} {e : Expr} {te : TE} {k : Nat} {p1 p2 p3 pos : Pos} (he : PE X e te) : PE X (.Subscript e (.Slice none none (some (.UnaryOp .USub (.Constant (.int 1) k p1) p2)) p3) pos) (tRevT X.K te) := by
  refine ⟨fun pins s σ H Q I h => ?_⟩
  refine Subscript_ (thn (he.run pins s σ H _ I h) fun v s1 ⟨x, H1, I1, r1, q1⟩ => ?_)
  obtain ⟨a, xs, ex, hx, q⟩ := q1
  subst ex
  cases r1
  have hst : PO X (some (.UnaryOp .USub (.Constant (.int 1) k p1) p2)) (tPart (tUn (rU fun i => .int (-i)) (tC (.int 1)))) := po_some (pe_un un_neg pe_int)
  refine wpAny_Slice (thn (po_none.run pins s1 σ H1 (fun o H2 => o = none ∧ H2 = H1) I1 ⟨rfl, rfl⟩) fun vl s2 ⟨l, H2, I2, pl, el, e2⟩ => ?_)
  subst el e2
  refine thn (po_none.run pins s2 σ H2 (fun o H3 => o = none ∧ H3 = H2) I2 ⟨rfl, rfl⟩) fun vu s3 ⟨u, H3, I3, pu, eu, e3⟩ => ?_
  subst eu e3
  refine thn (hst.run pins s3 σ H3 (fun o H4 => o = some (-1) ∧ H4 = H3) I3 ⟨1, rfl, -1, rfl, rfl, rfl⟩) fun vs s4 ⟨o, H4, I4, ps, eo, e4⟩ => ?_
  subst eo e4
  have I5 : Inv X pins σ H4 { s4 with heap := s4.heap.push { cls := .type "slice", data := .fields #[vl, vu, vs] } } := I4.kept (t' := s4.toks) fun b ob q => Heap.get?_push_of_some _ q
  obtain ⟨its, r, ht, hz⟩ := I5.tuple hx
  have hlen := r.length
  show wpAny (model X.prog X.w) X.A (subscriptTail e (.Slice none none (some (.UnaryOp .USub (.Constant (.int 1) k p1) p2)) p3) (.ref a) (.ref s4.heap.objs.size)) (EP X pins σ Q) X.xe { s4 with heap := s4.heap.push { cls := .type "slice", data := .fields #[vl, vu, vs] } }
  refine tail_any (ops := [.ref a, .ref s4.heap.objs.size]) ht.typeIs (PyProof.Rows.slot_tuple_getitem.lookup) ?_ (by with_unfolding_all rfl)
  refine HT.getItem_tuple_rev ht (Heap.IsSliceOf.new _ vl vu vs) pl pu ps ?_ (by rw [List.size_toArray]; omega)
  refine ⟨.ref _, _, I5.laid (t' := s4.toks) (o := .tup xs.reverse) (fun b ob q => Heap.get?_push_of_some _ q) (Nat.le_refl _) ?_, rfl, q _ (I5.hok.fresh (Nat.le_refl _))⟩
  exact ⟨by rw [List.length_reverse]; exact hz, _, r.reverse, IsTup.new _ _⟩
theorem reps_rev {H : Hp} : ∀ {vs : List V} {ds : List PyData}, Reps H vs ds → Reps H vs.reverse ds.reverse
  | _, _, .nil => .nil
  | _, _, .cons h r => by
    rw [List.reverse_cons, List.reverse_cons]
    exact (reps_rev r).app (.cons h .nil)
theorem er_revT {K : PySem.W.Frag} {te : TE} {σ : L2.St} {H : Hp} {ds : List PyData} (h : EvR te σ H (.tuple ds)) : EvR (tRevT K te) σ H (.tuple ds.reverse) := fun H1 e Q q =>
  h H1 e _ fun v H2 e2 rv => by
    obtain ⟨a, xs, rfl, ha, rx⟩ := rv.tup_inv
    exact ⟨a, xs, rfl, st_of ha, fun p hp => q _ _ (e2.trans (Ex.new hp)) (.tup upd_same (reps_rev (rx.ex (Ex.new hp))))⟩
end TX
end
section
set_option Elab.async false
set_option linter.all false
set_option maxRecDepth 100000
set_option maxHeartbeats 4000000
/-! EX: more of what evaluates to what (over HandS.Evl). -/
namespace EX
open PySem L2 Evl
section
variable {K : PySem.W.Frag} {σ : L2.St} {H H' : Hp} {ta tb te tx : TE} {t u : TT} {x y z v : V} {D : Ends} {tu tw tz : TS} {g : TG}
/-- x + e, x a list, e a new one -/
theorem el_catV {l : Addr} {xs ys : List V} (ha : Ev ta σ H (.ref l)) (hl : H l = some (.lst xs)) (hb : EvL tb σ H ys) (hz : xs.length + ys.length ≤ 100000) : EvL (tOp rCat ta tb) σ H (xs ++ ys) := fun H1 e Q q =>
  ha H1 e _ fun H2 e2 => hb H2 (e.trans e2) _ fun p H3 hp e3 h3 => ⟨l, p, xs, ys, rfl, rfl, e3 _ _ (e2 _ _ (e _ _ hl)), h3, sz_of hz, fun r hr => q r _ (fresh_back (e2.trans e3) hr) ((e2.trans e3).trans (Ex.new hr)) upd_same⟩
theorem el_catLL {xs ys : List V} (ha : EvL ta σ H xs) (hb : EvL tb σ H ys) (hz : xs.length + ys.length ≤ 100000) : EvL (tOp rCat ta tb) σ H (xs ++ ys) := fun H1 e Q q =>
  ha H1 e _ fun p H2 _ e2 h2 => hb H2 (e.trans e2) _ fun r H3 hr e3 h3 => ⟨p, r, xs, ys, rfl, rfl, e3 _ _ h2, h3, sz_of hz, fun m hm => q m _ (fresh_back (e2.trans e3) hm) ((e2.trans e3).trans (Ex.new hm)) upd_same⟩
/-- lists at addresses -/
def AllL (H : Hp) (f : Nat → List V) (ps : List Addr) : Prop := ∀ i p, ps[i]? = some p → H p = some (.lst (f i))
theorem AllL.ex {f : Nat → List V} {ps : List Addr} (e : Ex H H') (h : AllL H f ps) : AllL H' f ps := fun i p hi => e _ _ (h i p hi)
/-- a new list of so many new lists, told by their contents -/
def EvLL (te : TE) (σ : L2.St) (H : Hp) (n : Nat) (f : Nat → List V) : Prop := ∀ H1, Ex H H1 → ∀ Q : VK, (∀ (p : Addr) (ps : List Addr) H2, H1 p = none → Ex H1 H2 → H2 p = some (.lst (ps.map V.ref)) → ps.length = n → AllL H2 f ps → Q (.ref p) H2) → te σ H1 Q
def Cw2 (H : Hp) (f : Nat → List V) (Dl : Addr) (i : Nat) (H' : Hp) : Prop := H Dl = none ∧ Ex H H' ∧ ∃ ps : List Addr, H' Dl = some (.lst (ps.map V.ref)) ∧ ps.length = i ∧ AllL H' f ps ∧ Dl ∉ ps
/-- [e for x in l], e a new list each -/
theorem el_lc2 {a : Addr} {xs : List V} {tl : TE} {j : Nat} {vs : List Nat} (f : Nat → List V) (h : Ev tl σ H (.ref a)) (hx : SqL K H a xs) (hz : xs.length ≤ 40000) (hw : ∀ x, wipe ((wipe σ vs).set j (some x)) vs = wipe σ vs)
    (he : ∀ (i : Nat) (x : V) H1, Ex H H1 → xs[i]? = some x → EvL te ((wipe σ vs).set j (some x)) H1 (f i)) : EvLL (tLc (iList K tl) (gName j) tYes te vs) σ H xs.length f := fun H0 e Q q =>
  h H0 e _ fun H1 e1 => ⟨a, rfl, ⟨xs, ex_l (e.trans e1) hx⟩, fun Dl hD => lc_list (xs := xs) (Cw2 H1 f Dl) ⟨hD, Ex.new hD, [], upd_same, rfl, fun i p hi => by simp at hi, by simp⟩ (fun i H' _ p => ex_l ((e.trans e1).trans p.2.1) hx)
    (fun i x H' hi ⟨p1, p2, ps, p3, p4, p5, p6⟩ => ⟨hw x, by
      show te ((wipe σ vs).set j (some x)) H' fun y H4 => ∃ acc, H4 Dl = some (.lst acc) ∧ acc.length < sizeLine ∧ Cw2 H1 f Dl (i + 1) (upd H4 Dl (.lst (acc ++ [y])))
      refine he i x H1 (e.trans e1) hi H' p2 _ fun p H4 hp e4 h4 => ⟨ps.map V.ref, e4 _ _ p3, sz_lt (by rw [List.length_map]; have := (List.getElem?_eq_some_iff.mp hi).1; omega), p1, Ex.mut (p2.trans e4) p1, ps ++ [p], ?_, by rw [List.length_append, p4]; rfl, ?_, ?_⟩
      · rw [upd_same, List.map_append]; rfl
      · intro k r hk
        have hne : r ≠ Dl := by
          intro z
          rw [List.getElem?_append] at hk
          split at hk
          · exact p6 (z ▸ List.mem_of_getElem? hk)
          · have hm := List.mem_of_getElem? hk
            have hr : r = p := by simpa using hm
            rw [← hr, z, p3] at hp
            cases hp
        rw [upd_ne hne]
        rw [List.getElem?_append] at hk
        split at hk
        · exact e4 _ _ (p5 k r hk)
        · rename_i hlt
          have hkl : k - ps.length = 0 := by
            have := (List.getElem?_eq_some_iff.mp hk).1
            simp at this
            exact this
          rw [hkl] at hk
          have hr : r = p := by simpa using hk.symm
          have hki : k = i := by omega
          rw [hr, hki]
          exact h4
      · intro hm
        rcases List.mem_append.mp hm with hm | hm
        · exact p6 hm
        · have hr : Dl = p := by simpa using hm
          rw [← hr, p3] at hp
          cases hp⟩)
    (fun H' ⟨p1, p2, ps, p3, p4, p5, p6⟩ => q Dl ps H' (fresh_back e1 p1) (e1.trans p2) p3 p4 p5)⟩
end
end EX
end
section
set_option Elab.async false
set_option linter.all false
set_option maxRecDepth 100000
set_option maxHeartbeats 4000000
/-! EZ: enumerate over zip of two tuples. The pair that zip hands out is held by the pair of enumerate, so zip makes a new one each time, or not, if the first is gone: both ways are told here. -/
namespace EZ
open PySem PySem.Spec PyProof.Rows L2
open RZ (nextOf_tuple_item nextOf_tuple_end)
/-- a zip of two, whoever has its pair -/
abbrev zObj (own : Value) (f : Bool) (TI TO : Addr) : Obj := { cls := .type "zip", dict := none, data := .fields #[own, .bool f, .bool false, .ref TI, .ref TO], slots := #[] }
def OwnOk (v : Value) : Prop := v = .none ∨ ∃ T : Nat, v = rawInt (T : Int)
section
variable {prog : Program} {w : World} {A : Around} {E : Value → Shared → Prop} {s : Shared}
theorem alive_is {a : Addr} {Q : Option Obj → Shared → Prop} (h : Q (s.heap.get? a) s) : wpAny (model prog w) A (loadIfAlive a) Q E s := fun _ _ _ => h
/-- whether zip's own pair may be used again: either way -/
theorem own_asked {z TI TO : Addr} {own : Value} {f : Bool} {Q : Bool → Shared → Prop} (hz : s.heap.get? z = some (zObj own f TI TO)) (ok : OwnOk own)
    (k : ∀ c g h2, h2.get? z = some (zObj own g TI TO) → Heap.SameBut z s.heap h2 → Q c { s with heap := h2 }) : wpAny (model prog w) A (Builtin.SmallTypes.ownedTupleIsFree (.ref z)) Q E s := by
  unfold Builtin.SmallTypes.ownedTupleIsFree
  refine wpAny_bind (wpAny_field hz rfl (x := own) rfl ?_)
  rcases ok with rfl | ⟨T, rfl⟩
  · exact wpAny_pure (k true f _ hz (Heap.SameBut.refl _ _))
  · show wpAny _ _ (loadIfAlive ((T : Int).toNat) >>= _) _ _ _
    refine wpAny_bind (alive_is ?_)
    generalize s.heap.get? ((T : Int).toNat) = o
    cases o with
    | none => exact wpAny_pure (k true f _ hz (Heap.SameBut.refl _ _))
    | some o =>
      simp only [Option.isNone_some, Bool.false_eq_true, if_false]
      refine wpAny_bind (wpAny_field hz rfl (x := .bool f) rfl ?_)
      cases f with
      | true =>
        rw [if_neg (show ¬ ((Value.bool true != Value.bool true) = true) from Bool.false_ne_true)]
        exact wpAny_pure (k false true _ hz (Heap.SameBut.refl _ _))
      | false =>
        rw [if_pos (show (Value.bool false != Value.bool true) = true from rfl)]
        exact wpAny_bind (wpAny_setField_rec hz (by simp) fun h2 hz2 sb => wpAny_pure (k false true h2 hz2 sb))
end
/-- zip of the tuples l1, l2 before its turn k -/
structure ZSt (h : Heap) (z TI TO i1 i2 l1 l2 : Addr) (k : Nat) : Prop where
  own : ∃ v f, h.get? z = some (zObj v f TI TO) ∧ OwnOk v
  ti : IsPair h TI (.ref i1) (.ref i2)
  to : ∃ p q, IsPair h TO p q
  a : h.IsTupleIter i1 l1 k
  b : h.IsTupleIter i2 l2 k
theorem ZSt.keep {h h2 : Heap} {z TI TO i1 i2 l1 l2 : Addr} {k : Nat} (Z : ZSt h z TI TO i1 i2 l1 l2 k) (hk : ∀ c o, (c = z ∨ c = TI ∨ c = TO ∨ c = i1 ∨ c = i2) → h.get? c = some o → h2.get? c = some o) : ZSt h2 z TI TO i1 i2 l1 l2 k := by
  obtain ⟨⟨v, f, hz, ok⟩, ti, ⟨p, q, to⟩, a, b⟩ := Z
  exact ⟨⟨v, f, hk _ _ (.inl rfl) hz, ok⟩, hk _ _ (.inr (.inl rfl)) ti, ⟨p, q, hk _ _ (.inr (.inr (.inl rfl))) to⟩, a.at fun o => hk _ o (.inr (.inr (.inr (.inl rfl)))), b.at fun o => hk _ o (.inr (.inr (.inr (.inr rfl))))⟩
section
variable {prog : Program} {w : World} {A : Around} {E : Value → Shared → Prop} {s : Shared} {z TI TO i1 i2 l1 l2 : Addr} {k : Nat} {xs ys : Array Value}
theorem zip_item {x y : Value} {Q : Value → Shared → Prop} (D : ZipApart z TI TO i1 i2 l1 l2) (Z : ZSt s.heap z TI TO i1 i2 l1 l2 k) (hl1 : s.heap.IsTuple l1 xs) (hl2 : s.heap.IsTuple l2 ys) (hx : xs[k]? = some x) (hy : ys[k]? = some y)
    (hQ : ∀ h2, ZSt h2 z TI TO i1 i2 l1 l2 (k + 1) → IsPair h2 s.heap.objs.size x y → h2.objs.size = s.heap.objs.size + 1 → (∀ c o, c ≠ z → c ≠ TO → c ≠ i1 → c ≠ i2 → s.heap.get? c = some o → h2.get? c = some o) → Q (.ref s.heap.objs.size) { s with heap := h2 }) :
    wpAny (model prog w) A (Builtin.SmallTypes.nextOf (.ref z)) Q E s := by
  obtain ⟨⟨own, f, hz, ok⟩, hTI, ⟨p, q, hTO⟩, h1, h2⟩ := Z
  have ty : s.TypeIs (.ref z) "zip" := ⟨_, hz, rfl⟩
  unfold Builtin.SmallTypes.nextOf
  refine wpAny_bind (wpAny_callSpecial?_slot (name := Str.ofString "__next__") ty F.slot_zip_next (wpAny_call_entry F.slot_zip_next ty F.entry_zip_next ?_ (F.args_zip_next_1 _)))
  show wpAny _ _ (field (.ref z) 2 >>= _) _ _ _
  refine wpAny_bind (wpAny_field hz rfl (x := .bool false) rfl ?_)
  show wpAny _ _ (field (.ref z) 3 >>= _) _ _ _
  refine wpAny_bind (wpAny_field hz rfl (x := .ref TI) rfl ?_)
  refine wpAny_bind (wpAny_seqItems hTI rfl ?_)
  show wpAny _ _ (Builtin.SmallTypes.ownedTupleIsFree (.ref z) >>= _) _ _ _
  refine wpAny_bind (own_asked hz ok fun c g ha hza sa => ?_)
  have x1 := h1.extBut sa.extBut D.i1z
  have x2 := h2.extBut sa.extBut D.i2z
  have y1 := hl1.extBut sa.extBut D.l1z
  have y2 := hl2.extBut sa.extBut D.l2z
  have tiA := sa.extBut _ _ D.TIz hTI
  have toA := sa.extBut _ _ D.TOz hTO
  cases c with
  | false =>
    simp only [Bool.false_eq_true, if_false]
    refine wpAny_bind ?_
    rw [← Array.forIn_toList]
    simp only [List.forIn_cons, List.forIn_nil]
    refine wpAny_bind (wpAny_bind (wpAny_holding ?_))
    show wpAny _ _ (Builtin.SmallTypes.nextOf (.ref i1) >>= _) _ _ _
    refine wpAny_bind (nextOf_tuple_item (s := { s with heap := ha }) x1 y1 hx fun hb z1 sb => wpAny_pure ?_)
    refine wpAny_pure ?_
    refine wpAny_bind (wpAny_bind (wpAny_holding ?_))
    show wpAny _ _ (Builtin.SmallTypes.nextOf (.ref i2) >>= _) _ _ _
    refine wpAny_bind (nextOf_tuple_item (s := { s with heap := hb }) (x2.extBut sb.extBut D.i12.symm) (y2.extBut sb.extBut D.l2i1) hy fun hc z2 sc => wpAny_pure ?_)
    refine wpAny_pure (wpAny_pure ?_)
    show wpAny _ _ (newTuple [x, y] >>= _) _ _ _
    refine wpAny_bind (wpAny_newTuple ?_)
    have size : hc.objs.size = s.heap.objs.size := by rw [sc.1, sb.1, sa.1]
    have up : ∀ {c o}, c ≠ i1 → c ≠ i2 → ha.get? c = some o → (hc.push { cls := .type "tuple", data := .seq #[x, y] }).get? c = some o := fun n1 n2 e => Heap.get?_push_of_some _ (sc.extBut _ _ n2 (sb.extBut _ _ n1 e))
    have new : IsPair (hc.push { cls := .type "tuple", data := .seq #[x, y] }) hc.objs.size x y := Heap.get?_push_size _ rfl
    have size2 : (hc.push { cls := .type "tuple", data := .seq #[x, y] }).objs.size = hc.objs.size + 1 := Heap.size_push ..
    rw [size] at new size2
    refine wpAny_pure ⟨_, rfl, wpAny_pure ?_⟩
    show Q (.ref hc.objs.size) _
    rw [size]
    exact hQ _ ⟨⟨own, g, up D.i1z.symm D.i2z.symm hza, ok⟩, up D.TIi1 D.TIi2 tiA, ⟨p, q, up D.TOi1 D.TOi2 toA⟩, (z1.extBut sc.extBut D.i12).at fun o e => Heap.get?_push_of_some _ e, z2.at fun o e => Heap.get?_push_of_some _ e⟩ new size2 fun c o n1 n2 n3 n4 e => up n3 n4 (sa.extBut _ _ n1 e)
  | true =>
    simp only [if_true]
    refine wpAny_bind (wpAny_rule ?_)
    refine wpAny_bind (wpAny_field hza rfl (x := .ref TO) rfl ?_)
    refine wpAny_bind (wpAny_setField_rec hza (by simp) fun hb hzb sb => ?_)
    replace hzb : hb.get? z = some (zObj .ellipsis g TI TO) := hzb
    refine wpAny_bind ?_
    simp only [List.zipIdx_cons, List.zipIdx_nil, List.forIn_cons, List.forIn_nil]
    refine wpAny_bind (wpAny_bind (wpAny_onRaise ?_))
    show wpAny _ _ (Builtin.SmallTypes.nextOf (.ref i1) >>= _) _ _ _
    refine wpAny_bind (nextOf_tuple_item (s := { s with heap := hb }) (x1.extBut sb.extBut D.i1z) (y1.extBut sb.extBut D.l1z) hx fun hc z1 sc => wpAny_pure ?_)
    have toC : IsPair hc TO p q := sc.extBut _ _ D.TOi1 (sb.extBut _ _ D.TOz toA)
    refine wpAny_bind (wpAny_seqItems toC rfl ?_)
    refine wpAny_bind (wpAny_updateSeq_pair toC fun hd toD sd => ?_)
    replace toD : IsPair hd TO x q := toD
    refine wpAny_bind (wpAny_letGo (wpAny_pure ?_))
    refine wpAny_bind (wpAny_bind (wpAny_onRaise ?_))
    show wpAny _ _ (Builtin.SmallTypes.nextOf (.ref i2) >>= _) _ _ _
    refine wpAny_bind (nextOf_tuple_item (s := { s with heap := hd }) (((x2.extBut sb.extBut D.i2z).extBut sc.extBut D.i12.symm).extBut sd.extBut D.TOi2.symm) (((y2.extBut sb.extBut D.l2z).extBut sc.extBut D.l2i1).extBut sd.extBut D.l2TO) hy fun he z2 se => wpAny_pure ?_)
    have toE : IsPair he TO x q := se.extBut _ _ D.TOi2 toD
    refine wpAny_bind (wpAny_seqItems toE rfl ?_)
    refine wpAny_bind (wpAny_updateSeq_pair toE fun hf toF sf => ?_)
    replace toF : IsPair hf TO x y := toF
    refine wpAny_bind (wpAny_letGo (wpAny_pure (wpAny_pure ?_)))
    refine wpAny_bind (wpAny_seqItems toF rfl ?_)
    refine wpAny_bind (wpAny_newTuple ?_)
    have size : hf.objs.size = s.heap.objs.size := by rw [sf.1, se.1, sd.1, sc.1, sb.1, sa.1]
    have upF : ∀ {c o}, c ≠ TO → c ≠ i1 → c ≠ i2 → hb.get? c = some o → hf.get? c = some o := fun n1 n2 n3 e => sf.extBut _ _ n1 (se.extBut _ _ n3 (sd.extBut _ _ n1 (sc.extBut _ _ n2 e)))
    have hzF : hf.get? z = some (zObj .ellipsis g TI TO) := upF D.TOz.symm D.i1z.symm D.i2z.symm hzb
    have z1F : hf.IsTupleIter i1 l1 (k + 1) := ((z1.extBut sd.extBut D.TOi1.symm).extBut se.extBut D.i12).extBut sf.extBut D.TOi1.symm
    have z2F : hf.IsTupleIter i2 l2 (k + 1) := z2.extBut sf.extBut D.TOi2.symm
    have ltz : z < hf.objs.size := Heap.lt_size hzF
    show wpAny _ _ (Builtin.SmallTypes.ownedTupleHandOut (.ref z) (.ref hf.objs.size) >>= _) _ _ _
    refine wpAny_bind ?_
    unfold Builtin.SmallTypes.ownedTupleHandOut
    have hzG : (hf.push { cls := .type "tuple", data := .seq #[x, y] }).get? z = some (zObj .ellipsis g TI TO) := Heap.get?_push_of_some _ hzF
    refine wpAny_bind (wpAny_setField_rec hzG (by simp) fun hh hzH sh => ?_)
    replace hzH : hh.get? z = some (zObj (rawInt hf.objs.size) g TI TO) := hzH
    refine wpAny_setField_rec hzH (by simp) fun hi hzI si => ?_
    replace hzI : hi.get? z = some (zObj (rawInt hf.objs.size) false TI TO) := hzI
    have up : ∀ {c o}, c ≠ z → (hf.push { cls := .type "tuple", data := .seq #[x, y] }).get? c = some o → hi.get? c = some o := fun n e => si.extBut _ _ n (sh.extBut _ _ n e)
    have new : IsPair hi hf.objs.size x y := up (Nat.ne_of_gt ltz) (Heap.get?_push_size _ rfl)
    have size2 : hi.objs.size = hf.objs.size + 1 := by rw [si.1, sh.1, Heap.size_push]
    rw [size] at new size2
    refine wpAny_pure ⟨_, rfl, wpAny_pure ?_⟩
    show Q (.ref hf.objs.size) _
    rw [size]
    refine hQ _ ⟨⟨_, false, hzI, .inr ⟨_, rfl⟩⟩, up D.TIz (Heap.get?_push_of_some _ (upF D.TITO D.TIi1 D.TIi2 (sb.extBut _ _ D.TIz tiA))), ⟨x, y, up D.TOz (Heap.get?_push_of_some _ toF)⟩, z1F.at fun o e => up D.i1z (Heap.get?_push_of_some _ e), z2F.at fun o e => up D.i2z (Heap.get?_push_of_some _ e)⟩ new size2 fun c o n1 n2 n3 n4 e => up n1 (Heap.get?_push_of_some _ (upF n2 n3 n4 (sb.extBut _ _ n1 (sa.extBut _ _ n1 e))))
theorem zip_end {Q : Value → Shared → Prop} (hh : A.handled = none) (D : ZipApart z TI TO i1 i2 l1 l2) (Z : ZSt s.heap z TI TO i1 i2 l1 l2 k) (hl1 : s.heap.IsTuple l1 xs) (hx : xs[k]? = none)
    (hE : ∀ h2 e, (∀ c o, c ≠ z → c ≠ TO → c ≠ i1 → c ≠ i2 → s.heap.get? c = some o → h2.get? c = some o) → (∃ o, h2.get? e = some o ∧ o.cls = .type "StopIteration") → E (.ref e) { s with heap := h2 }) :
    wpAny (model prog w) A (Builtin.SmallTypes.nextOf (.ref z)) Q E s := by
  obtain ⟨⟨own, f, hz, ok⟩, hTI, ⟨p, q, hTO⟩, h1, h2⟩ := Z
  have ty : s.TypeIs (.ref z) "zip" := ⟨_, hz, rfl⟩
  unfold Builtin.SmallTypes.nextOf
  refine wpAny_bind (wpAny_callSpecial?_slot (name := Str.ofString "__next__") ty F.slot_zip_next (wpAny_call_entry F.slot_zip_next ty F.entry_zip_next ?_ (F.args_zip_next_1 _)))
  show wpAny _ _ (field (.ref z) 2 >>= _) _ _ _
  refine wpAny_bind (wpAny_field hz rfl (x := .bool false) rfl ?_)
  show wpAny _ _ (field (.ref z) 3 >>= _) _ _ _
  refine wpAny_bind (wpAny_field hz rfl (x := .ref TI) rfl ?_)
  refine wpAny_bind (wpAny_seqItems hTI rfl ?_)
  show wpAny _ _ (Builtin.SmallTypes.ownedTupleIsFree (.ref z) >>= _) _ _ _
  refine wpAny_bind (own_asked hz ok fun c g ha hza sa => ?_)
  have x1 := h1.extBut sa.extBut D.i1z
  have y1 := hl1.extBut sa.extBut D.l1z
  cases c with
  | false =>
    simp only [Bool.false_eq_true, if_false]
    refine wpAny_bind ?_
    rw [← Array.forIn_toList]
    simp only [List.forIn_cons, List.forIn_nil]
    refine wpAny_bind (wpAny_bind (wpAny_holding ?_))
    show wpAny _ _ (Builtin.SmallTypes.nextOf (.ref i1) >>= _) _ _ _
    refine wpAny_bind (nextOf_tuple_end (s := { s with heap := ha }) hh x1 y1 hx fun hb e sb he => ?_)
    exact hE hb e (fun c o n1 _ n3 _ x => sb _ _ n3 (sa.extBut _ _ n1 x)) he
  | true =>
    simp only [if_true]
    refine wpAny_bind (wpAny_rule ?_)
    refine wpAny_bind (wpAny_field hza rfl (x := .ref TO) rfl ?_)
    refine wpAny_bind (wpAny_setField_rec hza (by simp) fun hb hzb sb => ?_)
    replace hzb : hb.get? z = some (zObj .ellipsis g TI TO) := hzb
    refine wpAny_bind ?_
    simp only [List.zipIdx_cons, List.zipIdx_nil, List.forIn_cons, List.forIn_nil]
    refine wpAny_bind (wpAny_bind (wpAny_onRaise ?_))
    show wpAny _ _ (Builtin.SmallTypes.nextOf (.ref i1) >>= _) _ _ _
    refine wpAny_bind (nextOf_tuple_end (s := { s with heap := hb }) hh (x1.extBut sb.extBut D.i1z) (y1.extBut sb.extBut D.l1z) hx fun hc e sc he => ?_)
    obtain ⟨oe, hoe, hce⟩ := he
    have hzc : hc.get? z = some (zObj .ellipsis g TI TO) := sc _ _ D.i1z.symm hzb
    have nez : e ≠ z := fun m => by rw [m, hzc] at hoe; cases hoe; simp at hce
    exact wpAny_setField_rec hzc (by simp) fun hd _ sd => hE hd e (fun c o n1 _ n3 _ x => sd.extBut _ _ n1 (sc _ _ n3 (sb.extBut _ _ n1 (sa.extBut _ _ n1 x)))) ⟨oe, sd.extBut _ _ nez hoe, hce⟩
theorem enum_item {e : Addr} {c : Int} {x y old : Value} {Q : Option Value → Shared → Prop} (D : ZipApart z TI TO i1 i2 l1 l2) (ne : e ≠ z ∧ e ≠ TI ∧ e ≠ TO ∧ e ≠ i1 ∧ e ≠ i2) (he : IsEnum s.heap e z c old) (Z : ZSt s.heap z TI TO i1 i2 l1 l2 k) (hl1 : s.heap.IsTuple l1 xs) (hl2 : s.heap.IsTuple l2 ys) (hx : xs[k]? = some x) (hy : ys[k]? = some y)
    (hQ : ∀ h2, IsEnumOut h2 e z (c + 1) (.ref s.heap.objs.size) (s.heap.objs.size + 1) → ZSt h2 z TI TO i1 i2 l1 l2 (k + 1) → IsPair h2 s.heap.objs.size x y → IsPair h2 (s.heap.objs.size + 1) (.int c s.toks) (.ref s.heap.objs.size) →
      (∀ b o, b ≠ e → b ≠ z → b ≠ TO → b ≠ i1 → b ≠ i2 → s.heap.get? b = some o → h2.get? b = some o) → Q (some (.ref (s.heap.objs.size + 1))) { s with heap := h2, toks := s.toks + 1 }) :
    wpAny (model prog w) A (pyNext (.ref e)) Q E s := by
  have ty : s.TypeIs (.ref e) "enumerate" := ⟨_, he, rfl⟩
  unfold pyNext
  refine wpAny_bind (wpAny_attempt (wpAny_callSpecial?_slot (name := Str.ofString "__next__") ty F.slot_enumerate_next (wpAny_call_entry F.slot_enumerate_next ty F.entry_enumerate_next ?_ (F.args_enumerate_next_1 _))))
  obtain ⟨hp, gs, dr, tk, os⟩ := s
  show wpAny _ _ (field (.ref e) 2 >>= _) _ _ _
  refine wpAny_bind (wpAny_field he rfl (x := .ref z) rfl ?_)
  refine wpAny_bind (zip_item D Z hl1 hl2 hx hy fun ha Za pa sza ka => ?_)
  replace pa : IsPair ha hp.objs.size x y := pa
  replace sza : ha.objs.size = hp.objs.size + 1 := sza
  have hea : IsEnum ha e z c old := ka _ _ ne.1 ne.2.2.1 ne.2.2.2.1 ne.2.2.2.2 he
  show wpAny _ _ (field (.ref e) 3 >>= _) _ _ ⟨ha, gs, dr, tk, os⟩
  refine wpAny_bind (wpAny_field hea rfl (x := rawInt c) rfl ?_)
  show wpAny _ _ (field (.ref e) 4 >>= _) _ _ ⟨ha, gs, dr, tk, os⟩
  refine wpAny_bind (wpAny_field hea rfl (x := .none) rfl ?_)
  show wpAny _ _ (mkInt c >>= _) _ _ ⟨ha, gs, dr, tk, os⟩
  refine wpAny_bind (wpAny_mkInt ?_)
  show wpAny _ _ (setField (.ref e) 3 (rawInt (c + 1)) >>= _) _ _ ⟨ha, gs, dr, tk + 1, os⟩
  refine wpAny_bind (wpAny_setField_rec hea (by simp) fun hb heb sb => ?_)
  replace sb : Heap.SameBut e ha hb := sb
  replace heb : IsEnum hb e z (c + 1) old := heb
  show wpAny _ _ (setField (.ref e) 4 .none >>= _) _ _ ⟨hb, gs, dr, tk + 1, os⟩
  refine wpAny_bind (wpAny_setField_rec heb (by simp) fun hc hec sc => ?_)
  replace sc : Heap.SameBut e hb hc := sc
  replace hec : IsEnum hc e z (c + 1) old := hec
  show wpAny _ _ (newTuple [.int c tk, .ref hp.objs.size] >>= _) _ _ ⟨hc, gs, dr, tk + 1, os⟩
  refine wpAny_bind (wpAny_newTuple ?_)
  have hed : IsEnum (hc.push { cls := .type "tuple", data := .seq #[.int c tk, .ref hp.objs.size] }) e z (c + 1) old := Heap.get?_push_of_some _ hec
  have size : hc.objs.size = hp.objs.size + 1 := by rw [sc.1, sb.1, sza]
  have pd : IsPair (hc.push { cls := .type "tuple", data := .seq #[.int c tk, .ref hp.objs.size] }) (hp.objs.size + 1) (.int c tk) (.ref hp.objs.size) := by rw [← size]; exact Heap.get?_push_size _ rfl
  have kd : ∀ b o, b ≠ e → ha.get? b = some o → (hc.push { cls := .type "tuple", data := .seq #[.int c tk, .ref hp.objs.size] }).get? b = some o := fun b o n q => Heap.get?_push_of_some _ (sc.extBut b o n (sb.extBut b o n q))
  show wpAny _ _ (Builtin.SmallTypes.ownedTupleIsFree (.ref e) >>= _) _ _ ⟨hc.push { cls := .type "tuple", data := .seq #[.int c tk, .ref hp.objs.size] }, gs, dr, tk + 1, os⟩
  rw [size]
  generalize hc.push { cls := .type "tuple", data := .seq #[.int c tk, .ref hp.objs.size] } = hd at hed pd kd ⊢
  clear hec sc heb sb hea size
  refine wpAny_bind ?_
  unfold Builtin.SmallTypes.ownedTupleIsFree
  refine wpAny_bind (wpAny_field hed rfl (x := .none) rfl (wpAny_pure ?_))
  simp only [if_true]
  refine wpAny_bind (wpAny_rule ?_)
  refine wpAny_bind (wpAny_field hed rfl (x := old) rfl ?_)
  refine wpAny_bind (wpAny_setField_rec hed (by simp) fun hf hef sf => ?_)
  replace sf : Heap.SameBut e hd hf := sf
  replace hef : IsEnum hf e z (c + 1) (.ref hp.objs.size) := hef
  show wpAny _ _ (Builtin.SmallTypes.ownedTupleHandOut (.ref e) (.ref (hp.objs.size + 1)) >>= _) _ _ ⟨hf, gs, dr, tk + 1, os⟩
  refine wpAny_bind ?_
  unfold Builtin.SmallTypes.ownedTupleHandOut
  refine wpAny_bind (wpAny_setField_rec hef (by simp) fun hg heg sg => ?_)
  replace sg : Heap.SameBut e hf hg := sg
  replace heg : IsEnumOut hg e z (c + 1) (.ref hp.objs.size) (hp.objs.size + 1) := heg
  refine wpAny_setField_rec heg (by simp) fun hh heh sh => ?_
  replace sh : Heap.SameBut e hg hh := sh
  replace heh : IsEnumOut hh e z (c + 1) (.ref hp.objs.size) (hp.objs.size + 1) := heh
  have up : ∀ b o, b ≠ e → hd.get? b = some o → hh.get? b = some o := fun b o n q => sh.extBut b o n (sg.extBut b o n (sf.extBut b o n q))
  have lte : e < hp.objs.size := Heap.lt_size he
  refine wpAny_bind (wpAny_letGo (wpAny_pure ⟨_, rfl, wpAny_pure (hQ hh heh ?_ ?_ ?_ ?_)⟩))
  · refine Za.keep fun b o m q => up b o ?_ (kd b o ?_ q) <;> rcases m with rfl | rfl | rfl | rfl | rfl
    · exact ne.1.symm
    · exact ne.2.1.symm
    · exact ne.2.2.1.symm
    · exact ne.2.2.2.1.symm
    · exact ne.2.2.2.2.symm
    · exact ne.1.symm
    · exact ne.2.1.symm
    · exact ne.2.2.1.symm
    · exact ne.2.2.2.1.symm
    · exact ne.2.2.2.2.symm
  · exact up _ _ (Nat.ne_of_gt lte) (kd _ _ (Nat.ne_of_gt lte) pa)
  · exact up _ _ (Nat.ne_of_gt (Nat.lt_succ_of_lt lte)) pd
  · exact fun b o n1 n2 n3 n4 n5 q => up b o n1 (kd b o n1 (ka b o n2 n3 n4 n5 q))
theorem enum_end {e : Addr} {c : Int} {old : Value} {Q : Option Value → Shared → Prop} (hh : A.handled = none) (D : ZipApart z TI TO i1 i2 l1 l2) (he : IsEnum s.heap e z c old) (Z : ZSt s.heap z TI TO i1 i2 l1 l2 k) (hl1 : s.heap.IsTuple l1 xs) (hx : xs[k]? = none)
    (hQ : ∀ h2, (∀ c o, c ≠ z → c ≠ TO → c ≠ i1 → c ≠ i2 → s.heap.get? c = some o → h2.get? c = some o) → Q none { s with heap := h2 }) : wpAny (model prog w) A (pyNext (.ref e)) Q E s := by
  have ty : s.TypeIs (.ref e) "enumerate" := ⟨_, he, rfl⟩
  unfold pyNext
  refine wpAny_bind (wpAny_attempt (wpAny_callSpecial?_slot (name := Str.ofString "__next__") ty F.slot_enumerate_next (wpAny_call_entry F.slot_enumerate_next ty F.entry_enumerate_next ?_ (F.args_enumerate_next_1 _))))
  show wpAny _ _ (field (.ref e) 2 >>= _) _ _ _
  refine wpAny_bind (wpAny_field he rfl (x := .ref z) rfl ?_)
  refine wpAny_bind (zip_end hh D Z hl1 hx fun h2 r hk hr => ?_)
  obtain ⟨o, ho, hc⟩ := hr
  exact wpAny_bind (wpAny_isInstance (T := "StopIteration") (b := true) ⟨o, ho, hc⟩ isSubtype_stop (wpAny_pure (hQ _ hk)))
end
theorem enumZ_new {z TI TO : Addr} : Meets (Builtin.«enumerate.__new__» ⟨[.type "enumerate", .ref z], []⟩) (fun _ R s => IsZip s.heap z TI TO .none ∧
    R (.ok (.ret (.ref s.heap.objs.size))) { s with heap := s.heap.push { cls := .type "enumerate", data := .fields #[.none, .bool false, .ref z, rawInt 0, .none, .none] } }) :=
  .of_wp fun P w A R s hh => by
    obtain ⟨hp, gs, dr, tk, os⟩ := s
    obtain ⟨g1, hh⟩ := hh
    have isSub := sub_enumerate
    have q1 : ∀ {A2 : Around} {E : Value → Shared → Prop} {Q : Value → Shared → Prop}, Q (.ref z) ⟨hp, gs, dr, tk, os⟩ → wpAny (model P w) A2 (pyIter (.ref z)) Q E ⟨hp, gs, dr, tk, os⟩ := fun q => wpAny_pyIter_zip g1 q
    wp_walk using q1
    refine wpAny_stack_any fun sk => wpAny_pure ?_
    split
    · rename_i cc _ _ _ _ _
      cases (cc == Value.type "enumerate") <;> (wp_walk using q1; exact ⟨_, rfl, hh⟩)
    · wp_walk using q1
      exact ⟨_, rfl, hh⟩
theorem enumZ_call {P : Program} {w : World} {A : Around} {E : Value → Shared → Prop} {s : Shared} {z TI TO : Addr} {Q : Value → Shared → Prop} (hz : IsZip s.heap z TI TO .none)
    (k : ∀ h2, IsEnum h2 s.heap.objs.size z 0 .none → (∀ b o, s.heap.get? b = some o → h2.get? b = some o) → Q (.ref s.heap.objs.size) { s with heap := h2 }) : wpAny (model P w) A (call (.type "enumerate") [.ref z]) Q E s := by
  refine callType_new F.called_enumerate (by decide) (F.typeCall_enumerate_1 (.ref z)) (F.newCall_enumerate_1 (.ref z)) (fun x => F.args_object_init_2 x (.ref z)) F.entry_enumerate_new (enumZ_new (TI := TI) (TO := TO)) ⟨hz, ?_⟩
  have made := Heap.get?_push_size s.heap (o := { cls := .type "enumerate", data := .fields #[.none, .bool false, .ref z, rawInt 0, .none, .none] }) rfl
  exact ⟨⟨_, made, rfl⟩, k _ made fun b o x => Heap.get?_push_of_some _ x⟩
section
variable {X : Cx} {pins : List (Addr × Obj)} {σ : L2.St} {H : Hp} {s : Shared} {h2 : Heap}
/-- a turn that made two things -/
theorem two_made {t2 : Nat} {ch : List Addr} {T U : Addr} {o1 o2 : HO} (I : Inv X pins σ H s) (k : ∀ b o, b ∉ ch → s.heap.get? b = some o → h2.get? b = some o) (hf : ∀ b ∈ ch, FpOk X pins H b) (hT : s.heap.objs.size ≤ T) (hU : s.heap.objs.size ≤ U)
    (n1 : ObjOk X.prog X.w (upd (upd H T o1) U o2) h2 T o1) (n2 : ObjOk X.prog X.w (upd (upd H T o1) U o2) h2 U o2) : Inv X pins σ (upd (upd H T o1) U o2) { s with heap := h2, toks := t2 } := by
  have fT : H T = none := I.hok.fresh hT
  have fU : H U = none := I.hok.fresh hU
  have off : ∀ {b u}, H b = some u → (upd (upd H T o1) U o2) b = H b := fun e => by rw [upd_ne (ne_of_none e fU), upd_ne (ne_of_none e fT)]
  have nch : ∀ b u, H b = some u → b ∉ ch := fun b u e m => by
    have q := (hf b m).1
    rw [q] at e
    cases e
  refine I.step (g' := s.gens) (d' := s.drawn) (ch := ch) (fun b m => ⟨(hf b m).2.2.2.1, (hf b m).2.1, (hf b m).2.2.2.2.1, (hf b m).2.2.2.2.2⟩) (fun b o _ _ m e _ => k b o m e) (fun b o _ _ m e _ => ⟨o.slots, k b o m e⟩)
    (fun b o _ e n => ?_) (fun b o m e => ⟨o, k b o m e⟩) (fun b xs e => (off e).trans e) (fun b o u e => (off e).trans e) (fun b ps e => ⟨#[], ?_⟩) (fun m hm => ?_) (fun b u e => ?_) I.bare
  · have lt := Heap.lt_size e
    rw [upd_ne (Nat.ne_of_lt (Nat.lt_of_lt_of_le lt hU)), upd_ne (Nat.ne_of_lt (Nat.lt_of_lt_of_le lt hT))]
    exact n
  · rw [off e, e]; simp
  · obtain ⟨o, es, ep, ho, r⟩ := hm
    exact ⟨o, es, ep, k _ o (fun m => (hf _ m).2.1 rfl) ho, r⟩
  · by_cases bU : b = U
    · subst bU
      rw [upd_same] at e
      cases e
      exact n2
    · by_cases bT : b = T
      · subst bT
        rw [upd_ne bU, upd_same] at e
        cases e
        exact n1
      · rw [upd_ne bU, upd_ne bT] at e
        refine (I.hok b u e).stay (fun c v hc q => k c v ?_ q) (fun c q => (off q).trans q) fun c xs q => (off q).trans q
        rcases hc with m | m
        · rw [m]; exact nch b u e
        · exact nch c _ m
end
/-- the numbers, and the items of the tuples at a and b in pairs, all in new pairs -/
def Iez (K : PySem.W.Frag) (a b : Addr) : It :=
  ⟨fun i H => ∃ (xs ys : List V) (x y : V), SqT K H a xs ∧ SqT K H b ys ∧ xs[i]? = some x ∧ ys[i]? = some y,
    fun i H v H2 => ∃ (T U : Addr) (x y : V), v = .ref U ∧ H T = none ∧ H U = none ∧ T ≠ U ∧ H2 = upd (upd H T (.tup [x, y])) U (.tup [.int (i : Nat), .ref T]) ∧ (∀ xs, SqT K H a xs → xs[i]? = some x) ∧ ∀ ys, SqT K H b ys → ys[i]? = some y,
    fun i H => ∃ xs : List V, SqT K H a xs ∧ xs.length ≤ i⟩
structure Off5 (e z TI TO i1 i2 : Addr) : Prop where
  n1 : e ≠ z
  n2 : e ≠ TI
  n3 : e ≠ TO
  n4 : e ≠ i1
  n5 : e ≠ i2
theorem turn_ez {P : Program} {w : World} {K : PySem.W.Frag} {elts : List Expr} {kk : Nat} {tpos : Pos} {a b e z TI TO i1 i2 : Addr} (D : ZipApart z TI TO i1 i2 a b) (ne : Off5 e z TI TO i1 i2) :
    Turn P w K (.Tuple elts kk tpos) (Iez K a b) [e, z, TI, TO, i1, i2] e (fun i h => (∃ old, IsEnum h e z ((i : Nat) : Int) old) ∧ ZSt h z TI TO i1 i2 a b i) where
  mem := List.mem_cons_self ..
  obj := fun i h st c hc => by
    obtain ⟨⟨old, he⟩, ⟨⟨v, f, hz, _⟩, ti, ⟨p, q, to⟩, ⟨o1, e1, _, d1⟩, ⟨o2, e2, _, d2⟩⟩⟩ := st
    simp only [List.mem_cons, List.not_mem_nil, or_false] at hc
    rcases hc with m | m | m | m | m | m
    · rw [m]; exact ⟨_, he, fun v q => nomatch q⟩
    · rw [m]; exact ⟨_, hz, fun v q => nomatch q⟩
    · rw [m]; exact ⟨_, ti, fun v q => nomatch q⟩
    · rw [m]; exact ⟨_, to, fun v q => nomatch q⟩
    · rw [m]; exact ⟨o1, e1, fun v q => by rw [d1] at q; cases q⟩
    · rw [m]; exact ⟨o2, e2, fun v q => by rw [d2] at q; cases q⟩
  keep := fun i h h2 st k => by
    obtain ⟨⟨old, he⟩, Z⟩ := st
    exact ⟨⟨old, k e (by simp) _ he⟩, Z.keep fun c o m q => k c (by rcases m with m | m | m | m | m <;> simp [m]) o q⟩
  item := by
    intro X hP hw hK hc i pins s σ H E I hf st hg
    subst hP hw hK
    obtain ⟨⟨old, he⟩, Z⟩ := st
    obtain ⟨xs, ys, x, y, hqx, hqy, hx, hy⟩ := hg
    obtain ⟨its, rv, p, _⟩ := I.tuple hqx
    obtain ⟨its2, rv2, p2, _⟩ := I.tuple hqy
    obtain ⟨u, hu, ru⟩ := rv.get hx
    obtain ⟨u2, hu2, ru2⟩ := rv2.get hy
    have lte : e < s.heap.objs.size := Heap.lt_size he
    refine enum_item D ⟨ne.n1, ne.n2, ne.n3, ne.n4, ne.n5⟩ he Z p p2 (x := u) (y := u2) (by simpa using hu) (by simpa using hu2) fun ha ho Z2 pa pb hk => ?_
    refine ⟨_, rfl, wpAny_letOwnedTupleGo_enum (s := { s with heap := ha, toks := s.toks + 1 }) ho fun hb heb sb => ?_⟩
    have pa2 : IsPair hb s.heap.objs.size u u2 := (sb.2 _ (Nat.ne_of_gt lte)).trans pa
    have pb2 : IsPair hb (s.heap.objs.size + 1) (.int i s.toks) (.ref s.heap.objs.size) := (sb.2 _ (Nat.ne_of_gt (Nat.lt_succ_of_lt lte))).trans pb
    have J : Inv X pins σ (upd (upd H s.heap.objs.size (.tup [x, y])) (s.heap.objs.size + 1) (.tup [.int (i : Nat), .ref s.heap.objs.size])) { s with heap := hb, toks := s.toks + 1 } :=
      two_made I (ch := [e, z, TI, TO, i1, i2]) (fun b ob hb q => (sb.2 b (fun m => hb (by simp [m]))).trans (hk b ob (fun m => hb (by simp [m])) (fun m => hb (by simp [m])) (fun m => hb (by simp [m])) (fun m => hb (by simp [m])) (fun m => hb (by simp [m])) q)) hf (Nat.le_refl _) (Nat.le_succ _)
        ⟨by show 2 ≤ sizeLine; decide, [u, u2], .cons ru (.cons ru2 .nil), ⟨_, pa2, rfl, _, rfl⟩⟩ ⟨by show 2 ≤ sizeLine; decide, [.int i s.toks, .ref s.heap.objs.size], .cons ⟨_, rfl⟩ (.cons rfl .nil), ⟨_, pb2, rfl, _, rfl⟩⟩
    refine ⟨.ref (s.heap.objs.size + 1), _, J, rfl, ⟨s.heap.objs.size, _, x, y, rfl, I.hok.fresh (Nat.le_refl _), I.hok.fresh (Nat.le_succ _), Nat.ne_of_lt (Nat.lt_succ_self _), rfl, fun l hl => by rw [I.tuple_inj hl hqx]; exact hx, fun l hl => by rw [I.tuple_inj hl hqy]; exact hy⟩, ⟨⟨.ref s.heap.objs.size, ?_⟩, ?_⟩, fun c hcm => ?_⟩
    · have e1 : ((i + 1 : Nat) : Int) = (i : Int) + 1 := by omega
      rw [e1]
      exact heb
    · refine Z2.keep fun c o m q => (sb.2 c ?_).trans q
      rcases m with m | m | m | m | m
      · rw [m]; exact ne.n1.symm
      · rw [m]; exact ne.n2.symm
      · rw [m]; exact ne.n3.symm
      · rw [m]; exact ne.n4.symm
      · rw [m]; exact ne.n5.symm
    · have lt : c < s.heap.objs.size := by
        obtain ⟨⟨v, f, hz, _⟩, ti, ⟨_, _, to⟩, ⟨o1, e1, _, _⟩, ⟨o2, e2, _, _⟩⟩ := Z
        simp only [List.mem_cons, List.not_mem_nil, or_false] at hcm
        rcases hcm with m | m | m | m | m | m
        · rw [m]; exact lte
        · rw [m]; exact Heap.lt_size hz
        · rw [m]; exact Heap.lt_size ti
        · rw [m]; exact Heap.lt_size to
        · rw [m]; exact Heap.lt_size e1
        · rw [m]; exact Heap.lt_size e2
      rw [upd_ne (Nat.ne_of_lt (Nat.lt_succ_of_lt lt)), upd_ne (Nat.ne_of_lt lt)]
      exact (hf c hcm).1
  done := by
    intro X hP hw hK hc i pins s σ H E I hf st hg
    subst hP hw hK
    obtain ⟨⟨old, he⟩, Z⟩ := st
    obtain ⟨xs, hqx, hend⟩ := hg
    obtain ⟨its, rv, p, _⟩ := I.tuple hqx
    have l1 := rv.length
    refine enum_end (show X.A.handled = none from I.ok.hd hc) D he Z p (by simp; omega) fun h2 hk => ⟨rfl, I.turnedL (t' := s.toks) (ch := [e, z, TI, TO, i1, i2]) (fun c o hb q => hk c o (fun m => hb (by simp [m])) (fun m => hb (by simp [m])) (fun m => hb (by simp [m])) (fun m => hb (by simp [m])) q) hf⟩
  self := fun A i s Q E st h => let ⟨⟨_, he⟩, _⟩ := st; wpAny_pyIter_enum he h
def iEz (K : PySem.W.Frag) (ta : TA) : TI := fun σ H R => ta σ H fun vs H1 => ∃ a b xs ys, vs = [.ref a, .ref b] ∧ SqT K H1 a xs ∧ SqT K H1 b ys ∧ R (Iez K a b) H1
theorem pi_ez {X : Cx} {e1 e2 : Expr} {ta : TA} {p p2 pos q tpos : Pos} {elts : List Expr} {kk : Nat} (hg : Gl X "enumerate") (hm : X.mg "enumerate" = none) (hg2 : Gl X "zip") (hm2 : X.mg "zip" = none) (ha : PA X [e1, e2] ta)
    (hs : starEach [e1, e2] X.env = (false, eval e1 X.env) :: starEach [e2] X.env := by rfl) (hpl : (backTo q (starEach [e2] X.env)).any (·.1) = false := by rfl)
    (hz : starEach [.Call (.Name "zip" p2) [e1, e2] [] q] X.env = [(false, eval (.Call (.Name "zip" p2) [e1, e2] [] q) X.env)] := by rfl) :
    PI X (.Tuple elts kk tpos) (.Call (.Name "enumerate" p) [.Call (.Name "zip" p2) [e1, e2] [] q] [] pos) (iEz X.K ta) := by
  constructor
  intro pins s σ H R I h
  refine Call_ (ld_blt I hg hm boot_enumerate ?_)
  refine PyProof.Rows.callWith_type1 (PyProof.Rows.args_cons ?_ hz) hz rfl
  refine Call_ (ld_blt I hg2 hm2 PyProof.Rows.boot_zip (PyProof.Rows.callWith_type1 (thn (ha.run q pins s σ H _ I h) fun us s1 ⟨vs, H1, I1, r1, q1⟩ => ?_) hs hpl))
  obtain ⟨a, b, xs, ys, ex, hqx, hqy, q⟩ := q1
  subst ex
  obtain ⟨u1, u2, rfl, c1, c2⟩ := vals2 r1
  cases c1
  cases c2
  obtain ⟨its, rv, t1, _⟩ := I1.tuple hqx
  obtain ⟨its2, rv2, t2, _⟩ := I1.tuple hqy
  obtain ⟨o1, ho1, _⟩ := id t1
  obtain ⟨o2, ho2, _⟩ := id t2
  refine RZ.call_zipT (show s1.heap.IsTuple a its.toArray from t1) (show s1.heap.IsTuple b its2.toArray from t2) fun h2 hz2 hTI hTO k1 k2 hsz hk => ?_
  refine PyProof.Rows.args_nil ?_
  refine enumZ_call hz2 fun h3 he hk3 => wpAny_pyIter_enum he ?_
  have J : Inv X pins σ H1 { s1 with heap := h3 } := I1.kept (t' := s1.toks) fun b o e => hk3 b o (hk b o e)
  have D := PySem.W.ktu_apart s1.heap.objs.size a b (Heap.lt_size ho1) (Heap.lt_size ho2)
  have sz : h2.objs.size = s1.heap.objs.size + 5 := hsz
  rw [show (Shared.heap { s1 with heap := h2 }).objs.size = s1.heap.objs.size + 5 from sz] at he ⊢
  have lt : ∀ {m n : Nat}, m < n → s1.heap.objs.size + n ≠ s1.heap.objs.size + m := fun l z => by have := Nat.add_left_cancel z; omega
  have ne : Off5 (s1.heap.objs.size + 5) (s1.heap.objs.size + 4) (s1.heap.objs.size + 2) (s1.heap.objs.size + 3) s1.heap.objs.size (s1.heap.objs.size + 1) := ⟨lt (by decide), lt (by decide), lt (by decide), lt (m := 0) (by decide), lt (by decide)⟩
  refine ⟨_, _, _, _, H1, rfl, J, turn_ez D ne, ⟨⟨.none, he⟩, ?_⟩, fun c hcm => ?_, q⟩
  · exact ZSt.keep ⟨⟨.none, false, hz2, .inl rfl⟩, hTI, ⟨_, _, hTO⟩, k1, k2⟩ fun c o _ e => hk3 c o e
  · have ge : s1.heap.objs.size ≤ c := by
      simp only [List.mem_cons, List.not_mem_nil, or_false] at hcm
      rcases hcm with m | m | m | m | m | m
      · rw [m]; exact Nat.le_add_right _ _
      · rw [m]; exact Nat.le_add_right _ _
      · rw [m]; exact Nat.le_add_right _ _
      · rw [m]; exact Nat.le_add_right _ _
      · rw [m]; exact Nat.le_refl _
      · rw [m]; exact Nat.le_add_right _ _
    exact I1.fpOk ge (I1.hok.fresh ge)
/-- what a turn over enumerate(zip(..)) gives -/
def YEz (xs ys : List V) : Nat → Hp → V → Hp → Prop := fun i H v H2 => ∃ (T U : Addr) (x y : V), v = .ref U ∧ H T = none ∧ H U = none ∧ T ≠ U ∧ H2 = upd (upd H T (.tup [x, y])) U (.tup [.int (i : Nat), .ref T]) ∧ xs[i]? = some x ∧ ys[i]? = some y
theorem walk_ez {K : PySem.W.Frag} {a b : Addr} {xs ys : List V} (hl : xs.length = ys.length) : Walk (Iez K a b) xs.length (fun H => SqT K H a xs ∧ SqT K H b ys) (YEz xs ys) :=
  ⟨fun i H hi q => ⟨xs, ys, xs[i], ys[i], q.1, q.2, by simp [hi], by simp [hl ▸ hi]⟩, fun H q => ⟨xs, q.1, Nat.le_refl _⟩, fun i H v H2 _ q ⟨T, U, x, y, h1, h2, h3, h4, h5, h6, h7⟩ => ⟨T, U, x, y, h1, h2, h3, h4, h5, h6 xs q.1, h7 ys q.2⟩⟩
end EZ
end
section
set_option Elab.async false
set_option linter.all false
set_option maxRecDepth 100000
set_option maxHeartbeats 4000000
/-! GL: promises of defs that are called where no repr is under way (A.guards = some []). -/
namespace GL
open PySem PySem.Spec PyProof.Rows L2
/-- as FnOk, asked only where no repr is under way -/
structure FnG (P : Program) (w : World) (K : PySem.W.Frag) (mg : Str → Option Value) (base : Heap) (CX : CXT) (k : Nat) (f : Addr) (fd : FuncData) (ps : List Str) (sp : Sp) : Prop where
  len : ∀ vs H Q E, sp vs H Q E → vs.length = ps.length
  run : ∀ (A : Around) (outer : List Env) (s : Shared) (H : Hp) (args : Args) (us : List Value) (vs : List V) (Q : VK) (E : XK), A.guards = some [] → Room k A → Env0 P w K mg base A outer s H →
    BindsTo s fd args (ps.zip us) → Vals vs us → sp vs H Q E → codeAny (model P w) A (.call (.ref f) args) (CR CX outer P w H s Q E) s
section
variable {P : Program} {w : World} {K : PySem.W.Frag} {mg : Str → Option Value} {base : Heap} {CX : CXT} {j k : Nat} {f : Addr} {fd : FuncData} {ps : List Str} {sp sp' : Sp}
theorem FnG.of (F : FnOk P w K mg base CX k f fd ps sp) : FnG P w K mg base CX k f fd ps sp := ⟨F.len, fun A o s H args us vs Q E _ => F.run A o s H args us vs Q E⟩
theorem FnG.up (F : FnG P w K mg base CX j f fd ps sp) (h : j ≤ k) : FnG P w K mg base CX k f fd ps sp := ⟨F.len, fun A o s H args us vs Q E g r => F.run A o s H args us vs Q E g (r.mono h)⟩
theorem FnG.less (F : FnG P w K mg base CX k f fd ps sp) (h : ∀ vs H Q E, sp' vs H Q E → sp vs H Q E) : FnG P w K mg base CX k f fd ps sp' :=
  ⟨fun vs H Q E q => F.len vs H Q E (h _ _ _ _ q), fun A o s H args us vs Q E g r e b v q => F.run A o s H args us vs Q E g r e b v (h _ _ _ _ q)⟩
end
/-- a def by its body -/
theorem FnG.body {CX : CXT} {P : Program} {w : World} {K : PySem.W.Frag} {mg : Str → Option Value} {base : Heap} {k : Nat} {f : Addr} {x qual : Str} {params : Arguments} {body : List Stmt} {scope : Scope} {dvs : List V} {kws : List (Str × V)} {fd : FuncData} {N ps : List Str} {sp : Sp}
    (F : FunD K x qual params body scope dvs kws f fd) (S : FnScope N ps scope) (len : ∀ vs H Q E, sp vs H Q E → vs.length = ps.length)
    (hb : ∀ (cdv : Value) (A : Around) (outer : List Env) (s : Shared) (H : Hp) (vs : List V) (Q : VK) (E : XK), A.guards = some [] → Room k (A.deeper (envOfC qual scope s.heap.objs.size f cdv)) → sp vs H Q E →
      ∃ t, PSs (cxOf CX P w K mg base N qual scope f cdv A outer s H E) body t ∧ t { nx := fun _ H' => Q .non H', rt := Q } (start N vs) H) : FnG P w K mg base CX (k + 1) f fd ps sp := by
  obtain ⟨oc, od, dV, kV, doc, pm, an, cdv, ct, osl, rfl, lk, hcd, _, _⟩ := F.ex
  refine ⟨len, fun A outer s H args us vs Q E hgd hr e0 hbd r hsp => ?_⟩
  have hl := len _ _ _ _ hsp
  have kin : K.In s.heap := e0.mod.kin.keeps fun b o e => (e0.bs b o e).1
  have lim : s.heap.NoLimit := e0.mod.nolimit.keeps fun b o e => (e0.bs b o e).1
  refine codeAny_call_function hr.depth (kin _ _ lk) rfl S.co S.gen rfl (PySem.W.codeRec_of kin hcd) (hbd _ _ _ _ ?_)
  refine wpAny_newFunctionEnv_cells S.kind (fun ⟨n, v⟩ hy => ?_) fun env he s1 x => ?_
  · rcases S.par n (List.of_mem_zip hy).1 with q | q
    · exact .inl q
    · exact .inr ⟨q, PySem.W.cellsFrom_some _ _ _ (.inl q)⟩
  subst he
  refine ⟨lim.keeps x.toInCall.keep, codeAny_func ?_⟩
  obtain ⟨t, ht, hq⟩ := hb cdv A outer s H vs Q E hgd (hr.deeper _) hsp
  have I := inv_start (CX := CX) (E := E) (f := f) (cd := cdv) S hr.hd e0 hl r x
  refine wpAny_mono (ht.run [] s1 (start N vs) H _ I hq) (fun fl s' hs => ?_) fun e s' hs => hs
  cases fl with
  | ret u =>
    obtain ⟨v, σ', H', J, rv, q⟩ := hs
    exact ⟨v, H', J.os, J.bare, J.base, J.hok, rv, q⟩
  | next =>
    obtain ⟨σ', H', J, q⟩ := hs
    exact ⟨.non, H', J.os, J.bare, J.base, J.hok, rfl, q⟩
  | brk =>
    obtain ⟨_, _, _, q⟩ := hs
    exact q.elim
  | cont =>
    obtain ⟨_, _, _, q⟩ := hs
    exact q.elim
section
variable {X : Cx} {CX : CXT} {k : Nat} {f C : Addr} {fd : FuncData} {ps : List Str} {sp : Sp} {dvs : List V} {ds : List Value} {E : XK} {x m : Str} {p pos apos : Pos} {e o : Expr} {es : List Expr} {ta : TE} {t : TA}
theorem run_g {pins : List (Addr × Obj)} {σ : L2.St} {H : Hp} {s : Shared} {Q : VK} {us : List Value} {vs : List V} (g : X.A.guards = some []) (F : FnG X.prog X.w X.K X.mg X.base CX k f fd ps sp) (hr : Room k X.A) (hb : Binds X.K fd ps ds) (hd : Vals dvs ds)
    (hx : Passes CX X E) (I : Inv X pins σ H s) (r : Vals vs us) (h : sp (vs ++ dvs) H Q E) : wpAny (model X.prog X.w) X.A (call (.ref f) us) (EP X pins σ Q) X.xe s := by
  have r2 := r.append hd
  have hl : (us ++ ds).length = ps.length := r2.length.symm.trans (F.len _ _ _ _ h)
  refine wpAny_call (codeAny_mono (F.run X.A X.stack s H ⟨us, []⟩ (us ++ ds) (vs ++ dvs) Q E g hr I.env0 (hb s us I.kIn hl) r2 h) fun r s' hq => ?_)
  cases r with
  | error er => exact hx pins σ H s er s' I hq
  | ok fl => cases fl with
    | ret u => exact I.after hq
    | next => exact False.elim hq
    | brk => exact False.elim hq
    | cont => exact False.elim hq
/-- f(e, ..) -/
theorem pe_g (g : X.A.guards = some []) (F : FnG X.prog X.w X.K X.mg X.base CX k f fd ps sp) (hr : Room k X.A) (hg : Gl X x) (hm : X.mg x = some (.ref f)) (hk : PySem.W.keepIn X.K (.ref f) = true) (hb : Binds X.K fd ps ds) (hd : Vals dvs ds) (hx : Passes CX X E)
    (ha : PA X (e :: es) t) (hdb : (x == ("__debug__" : Str)) = false := by decide) (he : starEach (e :: es) X.env = (false, eval e X.env) :: starEach es X.env := by rfl) (hpl : (backTo pos (starEach es X.env)).any (·.1) = false := by rfl) :
    PE X (.Call (.Name x p) (e :: es) [] pos) (tCall sp dvs E t) :=
  ⟨fun pins s σ H Q I h => wpAny_Call_Name_kw (ld_glob I hg hm (PySem.W.callWith_K (h₀ := X.base) I.ok.mod.kin hk (thn (ha.run pos pins s σ H _ I h) fun us s1 ⟨vs, H1, I1, r, q⟩ => ⟨I1.kIn, run_g g F hr hb hd hx I1 r q⟩) he hpl) hdb)⟩
end
/-- the law's call -/
theorem law_call {P : Program} {w : World} {K : PySem.W.Frag} {mg mb : Str → Option Value} {CX : CXT} {k : Nat} {fa a : Addr} {fd : FuncData} {x : Str} {sp : Sp} {s1 : Shared} {vs : List Value} {ns : List Int}
    (kin : K.In s1.heap) (hns : s1.heap.Ns mainGlobals mg) (hb : s1.heap.Ns builtinsNs mb) (hbb : ∀ x : Str, x ≠ "__name__" → mb x = bootBuiltins x) (hlim : s1.heap.NoLimit) (hg : s1.gens = #[])
    (ha : s1.heap.get? a = some { cls := .type "list", data := .seq vs.toArray }) (hi : IntsAre vs ns) (hl : ns.length ≤ sizeLine) (hr : Room k callerA)
    (F : ∀ base : Heap, K.In base → base.Ns mainGlobals mg → FnG P w K mg base CX k fa fd [x] sp) (hbind : ∀ (s : Shared) (u : Value), BindsTo s fd ⟨[u], []⟩ [(x, u)])
    (hsp : ∀ H : Hp, Only H → SqL K H a (ns.map V.int) → sp [.ref a] H (fun v _ => v = .bl true) fun _ _ _ => False)
    (hCX : ∀ H e s', CX [] H s1 (fun _ _ _ => False) e s' → False) :
    codeAny (model P w) callerA (.call (.ref fa) ⟨[.ref a], []⟩) (fun r s' => r = .ok (.ret (.bool true)) ∧ OldK s1.heap s'.heap ∧ s'.os = s1.os ∧ AllBare s'.gens) s1 := by
  have rv := vals_ints hi
  have core : ∀ H : Hp, Only H → SqL K H a (ns.map V.int) → HOk P w H s1.heap → (∀ b, H b ≠ none → b = a) → (H a ≠ none → K.lookup a = none) →
      codeAny (model P w) callerA (.call (.ref fa) ⟨[.ref a], []⟩) (fun r s' => r = .ok (.ret (.bool true)) ∧ OldK s1.heap s'.heap ∧ s'.os = s1.os ∧ AllBare s'.gens) s1 := by
    intro H hO hS hok only fresh
    have isa : ∀ {b : Addr} {u : HO}, H b = some u → b = a := fun {b u} q => only b (by rw [q]; exact fun z => nomatch z)
    have nodict : ∀ {b : Addr} {o : Obj} {es : Array DictEntry} {ep : Nat}, s1.heap.get? b = some o → o.data = .dict es ep → H b = none := fun {b o es ep} e d => by
      cases q : H b with
      | none => rfl
      | some u =>
        rw [isa q, ha] at e
        cases e
        exact absurd (show Data.seq vs.toArray _ = Data.dict es ep from d) (fun z => nomatch z)
    have nsK : ∀ {b : Addr} {m : Str → Option Value}, s1.heap.Ns b m → (hidT s1.heap H).Ns b m := fun {b m} ⟨o, es, ep, e, d, r⟩ => ⟨o, es, ep, hidT_get e (nodict e d), d, r⟩
    have kinB : K.In (hidT s1.heap H) := fun b o e => hidT_get (kin b o e) (by
      cases q : H b with
      | none => rfl
      | some u =>
        have z := isa q
        subst z
        rw [fresh (by rw [q]; exact fun z => nomatch z)] at e
        cases e)
    have md : Mod K mg (hidT s1.heap H) := ⟨kinB, nsK hns, ⟨mb, nsK hb, hbb⟩, let ⟨mc, h1, h2⟩ := hlim; ⟨mc, nsK h1, h2⟩⟩
    have e0 : Env0 P w K mg (hidT s1.heap H) callerA [] s1 H := ⟨rfl, md, fun b o e => of_hidT e, Nat.le_of_eq (hidT_size _ _), trivial, (fun b z => nomatch (show b ∈ ([] : List Addr) from z)), hok, .of_eq hg⟩
    refine codeAny_mono ((F _ kinB (nsK hns)).run callerA [] s1 H ⟨[.ref a], []⟩ [.ref a] [.ref a] _ _ rfl hr e0 (hbind s1 (.ref a)) (.cons rfl .nil) (hsp H hO hS)) fun r s' h => ?_
    cases r with
    | error er => exact (hCX H er s' h).elim
    | ok fl => cases fl with
    | next => exact False.elim h
    | brk => exact False.elim h
    | cont => exact False.elim h
    | ret u =>
      obtain ⟨v, H', os, bare, un, hok', r', q⟩ := h
      obtain rfl : v = .bl true := q
      obtain rfl : u = Value.bool true := r'
      refine ⟨rfl, OldK.of_keep fun b o e => ?_, os, bare⟩
      cases q : H b with
      | none => exact un.keep b o e q (fun z => nomatch (show b ∈ ([] : List Addr) from z)) (fun z => nomatch (show b ∈ ([] : List Addr) from z))
      | some u =>
        rcases hO b with z | ⟨ob, xs, z⟩
        · rw [q] at z
          cases z
        · obtain ⟨e1, _⟩ := hok b _ z
          obtain ⟨e2, _⟩ := hok' b _ (un.frzs b ob _ z)
          exact (e1.symm.trans e).symm ▸ e2
  cases hk : K.lookup a with
  | some o =>
    have e := kin a o hk
    rw [ha] at e
    cases e
    exact core (fun _ => none) (fun _ => .inl rfl) (.inr ⟨_, vs.toArray, _, hk, rfl, rfl, rfl, by rw [List.size_toArray, hi.length]; exact hl, by simpa using rv⟩) (fun b u z => nomatch (show (none : Option HO) = some u from z)) (fun b z => absurd rfl z) fun z => absurd rfl z
  | none =>
    refine core (fun b => if b = a then some (.frz { cls := .type "list", data := .seq vs.toArray } (.lst (ns.map V.int))) else none) (fun b => ?_) (.inl (.inr ⟨{ cls := .type "list", data := .seq vs.toArray }, if_pos rfl⟩)) (fun b u z => ?_) (fun b z => ?_) fun _ => hk
    · by_cases hb : b = a
      · exact .inr ⟨_, _, if_pos hb⟩
      · exact .inl (if_neg hb)
    · by_cases hb : b = a
      · subst hb
        cases (if_pos rfl).symm.trans z
        exact ⟨ha, by rw [List.length_map]; exact hl, vs, _, rv, ha⟩
      · cases (if_neg hb).symm.trans z
    · by_cases hb : b = a
      · exact hb
      · exact absurd (if_neg hb) z
/-- a law's end over a head by facts -/
theorem walk {l : PySem.W.OpenLaw} {n k : Nat} {q : Program} {loose : List Str} {XP : (Str → Option Value) → Heap → Prop} {YP : World → Heap → Prop} {d : DefRec} {CX : CXT} {x : Str}
    (hn : l.most = some n) (hn2 : n ≤ sizeLine) (hdf : d.params.defaults = []) (hr : Room k callerA)
    (F : ∀ (w : World) (mg : Str → Option Value) (fa : Addr) (h : Heap), YP w h → h.Ns mainGlobals mg → mg d.name = some (.ref fa) →
      ∃ (K : PySem.W.Frag) (fd : FuncData) (sp : Sp), K.In h ∧ (∀ (s : Shared) (u : Value), BindsTo s fd ⟨[u], []⟩ [(x, u)]) ∧
        (∀ (H : Hp) (a : Addr) (ns : List Int), ns.length ≤ n → Only H → SqL K H a (ns.map V.int) → sp [.ref a] H (fun v _ => v = .bl true) fun _ _ _ => False) ∧
        ∀ base : Heap, K.In base → base.Ns mainGlobals mg → FnG l.prog w K mg base CX k fa fd [x] sp)
    (hCX : ∀ (H : Hp) (s : Shared) (e : Value) (s' : Shared), CX [] H s (fun _ _ _ => False) e s' → False) :
    PySem.W.WalkO q loose XP YP l.row.toRowW d [] (fun f vs => PySem.call f vs) := by
  refine Att.attach_call hn hdf fun w s₀ s1 mg mb fa o pm cd doc a vs ns G Y ho hd hcd hmg hobj hints hlen hg => ?_
  obtain ⟨K, fd, sp, kin, hb, hsp, hF⟩ := F w mg fa _ Y G.T.g hmg
  exact law_call kin G.T.g G.T.b G.T.builtins G.T.nolimit hg hobj hints (Nat.le_trans hlen hn2) hr hF hb (fun H hO hS => hsp H a ns hlen hO hS) fun H e s' => hCX H s1 e s'
end GL
end
section
set_option Elab.async false
set_option linter.all false
set_option maxRecDepth 100000
set_option maxHeartbeats 4000000
/-! MN: the less and the greater of two texts. -/
namespace MN
open PySem PySem.Spec PyProof.Rows L2
section
variable {prog : Program} {w : World} {A : Around} {E : Value → Shared → Prop} {s : Shared} {x y : Str} {t u : Tok}
/-- what stands at a place of a pair of texts -/
theorem pair_at {i : Nat} {v : Value} (h : (#[Value.str x t, Value.str y u])[i]? = some v) : ∃ k, v = .str (if i = 0 then x else y) k := by
  match i, h with
  | 0, h => exact ⟨t, by simpa using h.symm⟩
  | 1, h => exact ⟨u, by simpa using h.symm⟩
  | n + 2, h => simp at h
def less (x y : Str) : Bool := decide (x.cps.toList < y.cps.toList)
theorem texts_lt : CmpOf prog w A .Lt (fun i v => (#[Value.str x t, Value.str y u])[i]? = some v) (fun i j => less (if i = 0 then x else y) (if j = 0 then x else y)) := by
  intro i j vi vj s Q E hi hj h
  obtain ⟨_, rfl⟩ := pair_at hi
  obtain ⟨_, rfl⟩ := pair_at hj
  exact richCompare_gives (op := .Lt) (typeIs_str ..) (typeIs_str ..) F.slot_str_lt F.entry_str_lt (F.args_str_lt_2 ..) (gives_str_lt _ _ _ _) (fun z => nomatch z) h
theorem texts_gt : CmpOf prog w A .Gt (fun i v => (#[Value.str x t, Value.str y u])[i]? = some v) (fun i j => less (if j = 0 then x else y) (if i = 0 then x else y)) := by
  intro i j vi vj s Q E hi hj h
  obtain ⟨_, rfl⟩ := pair_at hi
  obtain ⟨_, rfl⟩ := pair_at hj
  exact richCompare_gives (op := .Gt) (typeIs_str ..) (typeIs_str ..) F.slot_str_gt F.entry_str_gt (F.args_str_gt_2 ..) (gives_str_gt _ _ _ _) (fun z => nomatch z) h
/-- the heap with the pair and its walker: what the walk touches is new -/
theorem walk_new {h : Heap} {p q : Obj} {I : Addr} (hI : I = (h.push p).objs.size) : ∀ c ∈ [I, h.objs.size], c < ((h.push p).push q).objs.size := by
  intro c hc
  have e1 : (h.push p).objs.size = h.objs.size + 1 := Heap.size_push ..
  have e2 : ((h.push p).push q).objs.size = h.objs.size + 2 := by rw [Heap.size_push, e1]
  simp only [List.mem_cons, List.not_mem_nil, or_false] at hc
  rcases hc with z | z
  · rw [z, hI, e1, e2]; exact Nat.lt_succ_self _
  · rw [z, e2]; exact Nat.lt_succ_of_lt (Nat.lt_succ_self _)
theorem min_texts {Q : Value → Shared → Prop} (hh : A.handled = none) (k : ∀ h2 tk, (∀ c o, s.heap.get? c = some o → h2.get? c = some o) → Q (if less y x then .str y u else .str x t) { s with heap := h2, toks := tk }) :
    wpAny (model prog w) A (call (.builtin "min") [.str x t, .str y u]) Q E s := by
  have tup : (s.heap.push { cls := .type "tuple", data := .seq #[.str x t, .str y u] }).IsTuple s.heap.objs.size #[.str x t, .str y u] := ⟨_, Heap.get?_push_size _ rfl, rfl, 0, rfl⟩
  have size1 : (s.heap.push { cls := .type "tuple", data := .seq #[.str x t, .str y u] }).objs.size = s.heap.objs.size + 1 := Heap.size_push ..
  refine call_min_two (wpAny_pyIter_tuple tup ?_)
  refine ⟨_, [_, s.heap.objs.size], [_], _, _, _, _, rfl, Walks.tuple (A := A.in1) hh _ _ (by rw [size1]; exact Nat.ne_of_lt (Nat.lt_succ_self _)) _, ⟨⟨_, Heap.get?_push_size _ rfl, rfl, rfl⟩, tup.push _⟩, walk_new rfl, by simp, texts_lt, fun v h2 tk hv hk => ?_⟩
  have r := k h2 tk fun c o e => hk c o (fun m => by
    have lt := Heap.lt_size e
    simp only [List.mem_cons, List.not_mem_nil, or_false] at m
    rw [m, size1] at lt
    exact Nat.lt_irrefl _ (Nat.lt_of_succ_lt lt)) (Heap.get?_push_of_some _ (Heap.get?_push_of_some _ e))
  have ev : v = if less y x then .str y u else .str x t := by cases hc : less y x <;> simp [argBest, hc] at hv <;> simp [hv]
  rw [ev]
  exact r
theorem max_texts {Q : Value → Shared → Prop} (hh : A.handled = none) (k : ∀ h2 tk, (∀ c o, s.heap.get? c = some o → h2.get? c = some o) → Q (if less x y then .str y u else .str x t) { s with heap := h2, toks := tk }) :
    wpAny (model prog w) A (call (.builtin "max") [.str x t, .str y u]) Q E s := by
  have tup : (s.heap.push { cls := .type "tuple", data := .seq #[.str x t, .str y u] }).IsTuple s.heap.objs.size #[.str x t, .str y u] := ⟨_, Heap.get?_push_size _ rfl, rfl, 0, rfl⟩
  have size1 : (s.heap.push { cls := .type "tuple", data := .seq #[.str x t, .str y u] }).objs.size = s.heap.objs.size + 1 := Heap.size_push ..
  refine call_max_two (wpAny_pyIter_tuple tup ?_)
  refine ⟨_, [_, s.heap.objs.size], [_], _, _, _, _, rfl, Walks.tuple (A := A.in1) hh _ _ (by rw [size1]; exact Nat.ne_of_lt (Nat.lt_succ_self _)) _, ⟨⟨_, Heap.get?_push_size _ rfl, rfl, rfl⟩, tup.push _⟩, walk_new rfl, by simp, texts_gt, fun v h2 tk hv hk => ?_⟩
  have r := k h2 tk fun c o e => hk c o (fun m => by
    have lt := Heap.lt_size e
    simp only [List.mem_cons, List.not_mem_nil, or_false] at m
    rw [m, size1] at lt
    exact Nat.lt_irrefl _ (Nat.lt_of_succ_lt lt)) (Heap.get?_push_of_some _ (Heap.get?_push_of_some _ e))
  have ev : v = if less x y then .str y u else .str x t := by cases hc : less x y <;> simp [argBest, hc] at hv <;> simp [hv]
  rw [ev]
  exact r
end
section
variable {X : Cx}
theorem call_minS (hc : X.calm = true) : CallR X (.builtin "min") (fun xs H Q => ∃ x y : Str, xs = [.str x, .str y] ∧ Q (.str (if less y x then y else x)) H) := by
  intro pins s σ H xs us Q I r h
  obtain ⟨x, y, rfl, q⟩ := h
  obtain ⟨u, w, rfl, ⟨t, rfl⟩, ⟨t2, rfl⟩⟩ := vals2 r
  refine min_texts (I.ok.hd hc) fun h2 tk k => ⟨_, H, I.kept k, ?_, q⟩
  cases less y x
  · exact ⟨t, rfl⟩
  · exact ⟨t2, rfl⟩
theorem call_maxS (hc : X.calm = true) : CallR X (.builtin "max") (fun xs H Q => ∃ x y : Str, xs = [.str x, .str y] ∧ Q (.str (if less x y then y else x)) H) := by
  intro pins s σ H xs us Q I r h
  obtain ⟨x, y, rfl, q⟩ := h
  obtain ⟨u, w, rfl, ⟨t, rfl⟩, ⟨t2, rfl⟩⟩ := vals2 r
  refine max_texts (I.ok.hd hc) fun h2 tk k => ⟨_, H, I.kept k, ?_, q⟩
  cases less x y
  · exact ⟨t, rfl⟩
  · exact ⟨t2, rfl⟩
end
end MN
end
section
set_option Elab.async false
set_option linter.all false
set_option maxRecDepth 100000
set_option maxHeartbeats 4000000
/-! RP: repr of data -/
namespace RP
open PySem PySem.Spec PyProof.Rows L2
def keyD : Key → PyData
  | .inl i => .int i
  | .inr x => .str x
/-- a value without parts -/
inductive Flat : V → PyData → Prop
  | non : Flat .non .none
  | bl (b : Bool) : Flat (.bl b) (.bool b)
  | int (i : Int) : Flat (.int i) (.int i)
  | str (x : Str) : Flat (.str x) (.str x)
inductive KvD : List (Key × V) → List (PyData × PyData) → Prop
  | nil : KvD [] []
  | cons {k : Key} {v : V} {d : PyData} {l : List (Key × V)} {m : List (PyData × PyData)} : Flat v d → KvD l m → KvD ((k, v) :: l) ((keyD k, d) :: m)
/-- what is shown: data without dicts, or a dict of flat values -/
inductive Sh (K : PySem.W.Frag) (H : Hp) : V → PyData → Prop
  | dp {v : V} {d : PyData} : Dp K H v d → d.hasDict = false → Sh K H v d
  | dic {a : Addr} {kvs : List (Key × V)} {ds : List (PyData × PyData)} : H a = some (.dK kvs) → KvD kvs ds → Sh K H (.ref a) (.dict ds)
theorem flat_reads {h : Heap} {v : V} {d : PyData} {u : Value} (f : Flat v d) (r : RelV v u) : Reads h u d [] := by
  cases f with
  | non => cases r; exact .none
  | bl b => cases r; exact .bool b
  | int i => obtain ⟨t, rfl⟩ := r; exact .int i t
  | str x => obtain ⟨t, rfl⟩ := r; exact .str x t
theorem key_reads {h : Heap} {k : Key} {u : Value} (r : keyIs k u = true) : Reads h u (keyD k) [] := by
  rcases keyIs_shape r with ⟨i, t, rfl, rfl⟩ | ⟨x, t, rfl, rfl⟩
  · exact .int i t
  · exact .str x t
theorem kv_reads {P : Program} {w : World} {h : Heap} : ∀ {kvs : List (Key × V)} {ds : List (PyData × PyData)} {vs : List (Key × Value)} {es : List DictEntry}, KvD kvs ds → KV kvs vs → Pairs (mixKind P w) es vs →
    ReadsAll h (es.map (·.key)) (ds.map (·.1)) [] ∧ ReadsAll h (es.map (·.val)) (ds.map (·.2)) []
  | _, _, _, _, .nil, .nil, .nil => ⟨.nil, .nil⟩
  | _, _, _, _, .cons f t, .cons ⟨e1, rv⟩ kv, .cons k1 k2 pr => by
    obtain ⟨h1, h2⟩ := kv_reads (h := h) t kv pr
    refine ⟨?_, ?_⟩
    · refine ReadsAll.cons (as := []) (bs := []) (key_reads ?_) h1
      have k1' := k1
      rw [← e1] at k1'
      exact k1'
    · refine ReadsAll.cons (as := []) (bs := []) ?_ h2
      have q := flat_reads (h := h) f rv
      rw [← k2] at q
      exact q
theorem Sh.reads {X : Cx} {pins : List (Addr × Obj)} {σ : L2.St} {H : Hp} {s : Shared} (I : Inv X pins σ H s) {v : V} {d : PyData} {u : Value} (x : Sh X.K H v d) (r : RelV v u) : ∃ as, Reads s.heap u d as ∧ (d.hasDict = true → sysModules ∉ as) := by
  cases x with
  | dp h hn =>
    obtain ⟨as, q⟩ := Dp.reads I d v u h r
    exact ⟨as, q, fun z => by rw [hn] at z; cases z⟩
  | @dic a kvs ds h k =>
    obtain ⟨_, hs, vs, kv, o, es, ep, h1, h2, h3, _, h5, _⟩ := (show ObjOk X.prog X.w H s.heap a (.dK kvs) from I.hok a _ h)
    cases r
    obtain ⟨r1, r2⟩ := kv_reads (h := s.heap) k kv h5
    refine ⟨_, .dict h1 h2.1 h3 r1 r2, fun _ z => ?_⟩
    rcases List.mem_append.mp z with z | z
    · rcases List.mem_cons.mp z with z | z
      · rw [z] at hs; simp at hs
      · cases z
    · cases z
def rRepr (K : PySem.W.Frag) : List V → Hp → VK → Prop := fun xs H Q => ∃ (v : V) (d : PyData), xs = [v] ∧ Sh K H v d ∧ d.showable = true ∧ d.depth ≤ 60 ∧ d.shown.length ≤ sizeLine ∧ Q (.str d.shown) H
theorem call_repr {X : Cx} (g : X.A.guards = some []) (hu : X.A.units + 64 < cLine) : CallR X (.builtin "repr") (rRepr X.K) := by
  intro pins s σ H xs us Q I r h
  obtain ⟨v, d, rfl, x, hs, hd, hz, q⟩ := h
  obtain ⟨u, rfl, ru⟩ := vals1 r
  obtain ⟨as, rd, hm⟩ := x.reads I ru
  cases rd with
  | none => exact PySem.P.repr_of_none ⟨.str _, H, I.tok _, ⟨_, rfl⟩, q⟩
  | bool b => exact PySem.P.repr_of_bool ⟨.str _, H, I.tok _, ⟨_, rfl⟩, q⟩
  | int i t => exact PySem.P.repr_of_int (of_decide_eq_true (by simpa only [PyData.showable] using hs)) ⟨.str _, H, I.tok _, ⟨_, rfl⟩, q⟩
  | str y t => exact PySem.P.repr_of_str ⟨.str _, H, I.tok _, ⟨_, rfl⟩, q⟩ (by simpa only [PyData.shown] using hz)
  | list h1 h2 h3 h4 => exact repr_of_reads' (.list h1 h2 h3 h4) hs hm g (by omega) (fun _ _ e => e) (fun h' u tk k => ⟨.str _, H, I.kept k, ⟨_, rfl⟩, q⟩) hz
  | tuple h1 h2 h3 h4 => exact repr_of_reads' (.tuple h1 h2 h3 h4) hs hm g (by omega) (fun _ _ e => e) (fun h' u tk k => ⟨.str _, H, I.kept k, ⟨_, rfl⟩, q⟩) hz
  | dict h1 h2 h3 h4 h5 => exact repr_of_reads' (.dict h1 h2 h3 h4 h5) hs hm g (by omega) (fun _ _ e => e) (fun h' u tk k => ⟨.str _, H, I.kept k, ⟨_, rfl⟩, q⟩) hz
end RP
end
section
set_option Elab.async false
set_option linter.all false
set_option maxRecDepth 100000
set_option maxHeartbeats 4000000
/-! TZ: comprehensions of two clauses, dicts by comprehensions, told. -/
namespace TX
open PySem PySem.Spec PyProof.Rows L2 Evl
section
variable {K : PySem.W.Frag} {σ : L2.St} {H H' : Hp} {te tk tv : TE} {ds es : List PyData}
variable {J : It} {n : Nat} {G : Hp → Prop} {Y : Nat → Hp → V → Hp → Prop} {wi wi1 : TI} {g g1 : TG} {vs vs1 : List Nat} {J1 : Nat → It} {n1 : Nat → Nat} {G1 : Nat → Hp → Prop} {Y1 : Nat → Nat → Hp → V → Hp → Prop}
/-- how the two sources are walked: st, st1 the slots -/
structure Two (σ : L2.St) (H : Hp) (J : It) (n : Nat) (G : Hp → Prop) (Y : Nat → Hp → V → Hp → Prop) (wi wi1 : TI) (g g1 : TG) (vs vs1 : List Nat) (J1 : Nat → It) (n1 : Nat → Nat) (G1 : Nat → Hp → Prop) (Y1 : Nat → Nat → Hp → V → Hp → Prop) (st : Nat → L2.St) (st1 : Nat → Nat → L2.St) : Prop where
  W : Walk J n G Y
  W1 : ∀ i, i < n → Walk (J1 i) (n1 i) (G1 i) (Y1 i)
  lim : n ≤ 300 ∧ ∀ i, i < n → n1 i ≤ 300
  go : ∀ H1, Ex H H1 → ∀ R : It → Hp → Prop, (∀ H2, Ex H1 H2 → G H2 → R J H2) → wi σ H1 R
  keep : ∀ H1 H2, Ex H1 H2 → G H1 → G H2
  wp : ∀ i, i < n → wipe (st i) vs = wipe σ vs
  tg : ∀ i x H1 H2 (R : L2.St → Hp → Prop), i < n → Ex H H1 → G H1 → Y i H1 x H2 → (∀ H3, Ex H1 H3 → R (st i) H3) → g x (wipe σ vs) H2 R
  go1 : ∀ i H1, i < n → Ex H H1 → ∀ R : It → Hp → Prop, (∀ H2, Ex H1 H2 → R (J1 i) H2) → wi1 (st i) H1 R
  keep1 : ∀ i H1, i < n → Ex H H1 → G1 i H1
  wp1 : ∀ i j, i < n → j < n1 i → wipe (st1 i j) vs1 = wipe (st i) vs1
  tg1 : ∀ i j x H1 H2 (R : L2.St → Hp → Prop), i < n → j < n1 i → Ex H H1 → G1 i H1 → Y1 i j H1 x H2 → (∀ H3, Ex H1 H3 → R (st1 i j) H3) → g1 x (wipe (st i) vs1) H2 R
theorem es_lc2 {st : Nat → L2.St} {st1 : Nat → Nat → L2.St} (T : Two σ H J n G Y wi wi1 g g1 vs vs1 J1 n1 G1 Y1 st st1) (D : Nat → Nat → PyData) (he : ∀ i j H1, i < n → j < n1 i → Ex H H1 → EvR te (st1 i j) H1 (D i j)) :
    EvS (tLc2 wi g tYes wi1 g1 tYes te vs vs1) σ H ((List.range n).flatMap fun i => (List.range (n1 i)).map (D i)) := fun H0 e Q q => T.go H0 e _ fun H1 e1 gg Dl hD => by
  have all1 : ∀ i, ((List.range (i + 1)).flatMap fun k => (List.range (n1 k)).map (D k)) = ((List.range i).flatMap fun k => (List.range (n1 k)).map (D k)) ++ (List.range (n1 i)).map (D i) := fun i => by rw [List.range_succ, List.flatMap_append]; simp
  let Pv : Nat → Hp → Prop := fun i H' => Ex H1 H' ∧ ∃ acc, H' Dl = some (.lst acc) ∧ acc.length ≤ 300 * i ∧ Reps H' acc ((List.range i).flatMap fun k => (List.range (n1 k)).map (D k))
  refine ⟨fun i m H' => m = n - i ∧ i ≤ n ∧ Pv i H', ⟨n, by simp, Nat.zero_le _, Ex.new hD, [], upd_same, Nat.zero_le _, .nil⟩, ?_⟩
  rintro i m H2 ⟨rfl, hi, e2, acc, ha, hl, ra⟩
  have g2 := T.keep H1 H2 e2 gg
  by_cases lt : i < n
  · refine .inr ⟨T.W.goes i H2 lt g2, Pv (i + 1), fun H3 p => ⟨n - (i + 1), by omega, rfl, lt, p⟩, fun x H3 hy => T.tg i x H2 H3 _ lt ((e.trans e1).trans e2) g2 (T.W.yields i H2 x H3 lt g2 hy) fun H4 e4 => ⟨T.wp i lt, ?_⟩⟩
    refine T.go1 i H4 lt (((e.trans e1).trans e2).trans e4) _ fun H5 e5 => ?_
    have e15 := (e2.trans e4).trans e5
    have l300 := T.lim.2 i lt
    let P1 : Nat → Hp → Prop := fun j H' => Ex H1 H' ∧ ∃ acc, H' Dl = some (.lst acc) ∧ acc.length ≤ 300 * i + j ∧ Reps H' acc (((List.range i).flatMap fun k => (List.range (n1 k)).map (D k)) ++ (List.range j).map (D i))
    refine ⟨fun j k H' => k = n1 i - j ∧ j ≤ n1 i ∧ P1 j H', ⟨n1 i, by simp, Nat.zero_le _, e15, acc, (e4.trans e5) _ _ ha, hl, by rw [List.range_zero, List.map_nil, List.append_nil]; exact ra.ex (e4.trans e5)⟩, ?_⟩
    rintro j k H6 ⟨rfl, hj, e6, acc6, ha6, hl6, ra6⟩
    have g6 := T.keep1 i H6 lt ((e.trans e1).trans e6)
    by_cases lt1 : j < n1 i
    · refine .inr ⟨(T.W1 i lt).goes j H6 lt1 g6, P1 (j + 1), fun H7 p => ⟨n1 i - (j + 1), by omega, rfl, lt1, p⟩, fun x H7 hy => T.tg1 i j x H6 H7 _ lt lt1 ((e.trans e1).trans e6) g6 ((T.W1 i lt).yields j H6 x H7 lt1 g6 hy) fun H8 e8 => ⟨T.wp1 i j lt lt1, ?_⟩⟩
      show te (st1 i j) H8 fun y H9 => ∃ acc, H9 Dl = some (.lst acc) ∧ acc.length < sizeLine ∧ P1 (j + 1) (upd H9 Dl (.lst (acc ++ [y])))
      refine he i j H8 lt lt1 (((e.trans e1).trans e6).trans e8) H8 (Ex.refl H8) _ fun v H9 e9 rv => ?_
      have h9 := e9 _ _ (e8 _ _ ha6)
      have l1 := T.lim.1
      refine ⟨acc6, h9, sz_lt (by omega), Ex.mut ((e6.trans e8).trans e9) hD, _, upd_same, by rw [List.length_append, List.length_singleton]; omega, ?_⟩
      rw [List.range_succ, List.map_append, ← List.append_assoc]
      exact ((ra6.ex (e8.trans e9)).on (Tx.put h9)).app (.cons (rv.on (Tx.put h9)) .nil)
    · obtain rfl : j = n1 i := by omega
      refine .inl ⟨(T.W1 i lt).stops H6 g6, e6, acc6, ha6, by omega, ?_⟩
      rw [all1]
      exact ra6
  · obtain rfl : i = n := by omega
    refine .inl ⟨T.W.stops H2 g2, q Dl acc H2 ?_ (e1.trans e2) ha ra⟩
    cases h : H0 Dl with
    | none => rfl
    | some o => exact absurd (e1 _ _ h) (by rw [hD]; exact fun z => nomatch z)
/-- a dict whose keys are tuples -/
theorem ed_dc2 {st : Nat → L2.St} {st1 : Nat → Nat → L2.St} (T : Two σ H J n G Y wi wi1 g g1 vs vs1 J1 n1 G1 Y1 st st1) {Ks : Nat → Nat → List Key} {Z : Nat → Nat → V}
    (hk : ∀ i j H1, i < n → j < n1 i → Ex H H1 → ∀ Q : VK, (∀ b H2, Ex H1 H2 → H2 b = some (.tup ((Ks i j).map kV)) → Q (.ref b) H2) → tk (st1 i j) H1 Q) (he : ∀ i j H1, i < n → j < n1 i → Ex H H1 → Ev tv (st1 i j) H1 (Z i j)) :
    ∀ H0, Ex H H0 → ∀ Q : VK, (∀ p kvs H2, H0 p = none → Ex H0 H2 → H2 p = some (.dT kvs) → Q (.ref p) H2) → D2.tDc2 wi g wi1 g1 tk tv vs vs1 σ H0 Q := fun H0 e Q q => T.go H0 e _ fun H1 e1 gg Dl hD => by
  let Pv : Nat → Hp → Prop := fun i H' => Ex H1 H' ∧ ∃ kvs, H' Dl = some (.dT kvs) ∧ kvs.length ≤ 300 * i
  refine ⟨fun i m H' => m = n - i ∧ i ≤ n ∧ Pv i H', ⟨n, by simp, Nat.zero_le _, Ex.new hD, [], upd_same, Nat.zero_le _⟩, ?_⟩
  rintro i m H2 ⟨rfl, hi, e2, kvs, ha, hl⟩
  have g2 := T.keep H1 H2 e2 gg
  by_cases lt : i < n
  · refine .inr ⟨T.W.goes i H2 lt g2, Pv (i + 1), fun H3 p => ⟨n - (i + 1), by omega, rfl, lt, p⟩, fun x H3 hy => T.tg i x H2 H3 _ lt ((e.trans e1).trans e2) g2 (T.W.yields i H2 x H3 lt g2 hy) fun H4 e4 => ⟨T.wp i lt, ?_⟩⟩
    refine T.go1 i H4 lt (((e.trans e1).trans e2).trans e4) _ fun H5 e5 => ?_
    have l300 := T.lim.2 i lt
    let P1 : Nat → Hp → Prop := fun j H' => Ex H1 H' ∧ ∃ kvs, H' Dl = some (.dT kvs) ∧ kvs.length ≤ 300 * i + j
    refine ⟨fun j k H' => k = n1 i - j ∧ j ≤ n1 i ∧ P1 j H', ⟨n1 i, by simp, Nat.zero_le _, (e2.trans e4).trans e5, kvs, (e4.trans e5) _ _ ha, hl⟩, ?_⟩
    rintro j k H6 ⟨rfl, hj, e6, kv6, ha6, hl6⟩
    have g6 := T.keep1 i H6 lt ((e.trans e1).trans e6)
    by_cases lt1 : j < n1 i
    · refine .inr ⟨(T.W1 i lt).goes j H6 lt1 g6, P1 (j + 1), fun H7 p => ⟨n1 i - (j + 1), by omega, rfl, lt1, p⟩, fun x H7 hy => T.tg1 i j x H6 H7 _ lt lt1 ((e.trans e1).trans e6) g6 ((T.W1 i lt).yields j H6 x H7 lt1 g6 hy) fun H8 e8 => ⟨T.wp1 i j lt lt1, ?_⟩⟩
      have x8 := ((e.trans e1).trans e6).trans e8
      refine hk i j H8 lt lt1 x8 _ fun b H9 e9 hb => he i j H9 lt lt1 (x8.trans e9) H9 (Ex.refl H9) _ fun H10 e10 => ?_
      have l1 := T.lim.1
      have ha10 := e10 _ _ (e9 _ _ (e8 _ _ ha6))
      have lp := length_putK kv6 (Ks i j) (Z i j)
      exact ⟨kv6, Ks i j, b, rfl, ha10, e10 _ _ hb, sz_lt (by omega), Ex.mut (((e6.trans e8).trans e9).trans e10) hD, _, upd_same, by omega⟩
    · obtain rfl : j = n1 i := by omega
      exact .inl ⟨(T.W1 i lt).stops H6 g6, e6, kv6, ha6, by omega⟩
  · obtain rfl : i = n := by omega
    refine .inl ⟨T.W.stops H2 g2, q Dl kvs H2 ?_ (e1.trans e2) ha⟩
    cases h : H0 Dl with
    | none => rfl
    | some o => exact absurd (e1 _ _ h) (by rw [hD]; exact fun z => nomatch z)
end
end TX
end
section
set_option Elab.async false
set_option linter.all false
set_option maxRecDepth 100000
set_option maxHeartbeats 4000000
namespace XV
open PySem
section
variable {M : Model} {prog : Program} {w : World} {A : Around} {E : Value → Shared → Prop} {R : Result → Shared → Prop} {hp : Heap} {gs : Array GenState} {dr : Drawn} {tk : Nat} {os : OsState}
variable {nm qn : Str} {C N : Addr} {bs bm bmB : List Value} {hdct : Bool} {sn : List Str} {sub : List Value} {ab : Bool} {col : Option Bool} {dd : Option Addr} {k0 k1 k2 k3 k5 : Option Value} {B newId initId : String}
theorem check_new_kw (F : ExcBaseFacts B newId initId bmB) (hT : ∀ T : String, bm.contains (.type T) = bmB.contains (.type T)) {us : List Value} {kw : Str} {u : Value} {Q : Unit → Shared → Prop}
    (hC : hp.get? C = some (excClassObj nm qn C N bs bm hdct sn sub ab col dd k0 k1 k2 k3 k5 newId)) (hq : Q () ⟨hp, gs, dr, tk, os⟩) : wpAny M A (checkBuiltinCall newId ⟨.ref C :: us, [(kw, u)]⟩) Q E ⟨hp, gs, dr, tk, os⟩ := by
  have cB : (Value.ref C :: bm).contains (.type B) = true := by rw [List.contains_cons, hT, F.hasB, Bool.or_true]
  have ns := F.noStar
  simp only [checkBuiltinCall, F.newKind, F.newSplit, F.newRow]
  repeat (first | refine wpAny_loadPart_at hC ?_ | (refine wpAny_isSubtype_exc hC ?_; rw [cB]) | refine wpAny_staticBase_exc hC ?_ | refine wpAny_madeBy_exc hC ?_ | simp only [bne_self_eq_false, Bool.false_eq_true, if_false] | wp_step)
  exact hq
theorem new_kw (F : ExcBaseFacts B newId initId bmB) (hT : ∀ T : String, bm.contains (.type T) = bmB.contains (.type T)) {us : List Value} {kw : Str} {u : Value}
    (hC : hp.get? C = some (excClassObj nm qn C N bs bm hdct sn sub ab col dd k0 k1 k2 k3 k5 newId)) (hz : us.length ≤ sizeLine)
    (hq : R (.ok (.ret (.ref (hp.objs.size + 1)))) ⟨(hp.push (W.kdv_tup us)).push (PX.excO C hp.objs.size), gs, dr, tk, os⟩) :
    codeAny (model prog w) A (.builtin newId ⟨.ref C :: us, [(kw, u)]⟩) R ⟨hp, gs, dr, tk, os⟩ := by
  have ends := F.ends
  have cB : (Value.ref C :: bm).contains (.type B) = true := by rw [List.contains_cons, hT, F.hasB, Bool.or_true]
  have cA : (Value.ref C :: bm).contains (.type "AttributeError") = false := by rw [List.contains_cons, hT, F.noAttr]; rfl
  have cN : (Value.ref C :: bm).contains (.type "NameError") = false := by rw [List.contains_cons, hT, F.noName]; rfl
  refine codeAny_builtinAt F.entry ?_
  unfold Builtin.«BaseException.__new__»
  refine wpAt_bind ?_
  show wpAt _ _ _ (stack >>= _) _ _ _
  refine wpAt_bind (wpAt_stack fun p below => wpAt_of_wpAny ?_)
  wp_walk
  refine wpAt_of_wpAny ?_
  rw [F.owner]
  repeat (first | with_reducible refine wpAny_madeHere_exc F.canon hC ?_ | with_reducible refine wpAny_loadPart_at hC ?_ | (with_reducible refine wpAny_isSubtype_exc hC ?_; first | rw [cB] | rw [cA] | rw [cN]) | wp_step)
  show R _ _
  rw [Heap.size_push]
  exact hq
theorem tcall_kw (F : ExcBaseFacts B newId initId bmB) (hT : ∀ T : String, bm.contains (.type T) = bmB.contains (.type T)) {us : List Value} {kw : Str} {u : Value} {fI : Addr} {Q : Fin → Shared → Prop}
    (hC : hp.get? C = some (excClassObj nm qn C N bs bm hdct sn sub ab col dd k0 k1 k2 k3 k5 newId))
    (hi : W.Looks (model prog w) hp (typeLookup (.ref C) "__init__") (some (.ref fI))) (hb : ∀ self, W.Looks (model prog w) hp (bindSpecial (.ref fI) self) (.ref fI, [self])) (hz : us.length ≤ sizeLine)
    (hq : codeAny (model prog w) A (.call (.ref fI) ⟨.ref (hp.objs.size + 1) :: us, [(kw, u)]⟩)
      (fun r s' => match r with | .ok (.ret v) => v = .none ∧ Q (.done (.ret (.ref (hp.objs.size + 1)))) s' | .ok _ => False | .error x => E x s')
      ⟨(hp.push (W.kdv_tup us)).push (PX.excO C hp.objs.size), gs, dr, tk, os⟩) :
    wpAny (model prog w) A (Builtin.«type.__call__» ⟨.ref C :: us, [(kw, u)]⟩) Q E ⟨hp, gs, dr, tk, os⟩ := by
  repeat (first | with_reducible refine wpAny_loadPart_at hC ?_ | with_reducible refine wpAny_madeBy_exc hC ?_ | wp_step)
  refine codeAny_call_builtin_code (Code.quiet_builtin _ F.quiet) (check_new_kw F hT hC ?_)
  refine new_kw F hT hC hz ?_
  show wpAny _ _ _ _ _ _
  have old : ∀ b o, hp.get? b = some o → ((hp.push (W.kdv_tup us)).push (PX.excO C hp.objs.size)).get? b = some o := fun b o e => Heap.get?_push_of_some _ (Heap.get?_push_of_some _ e)
  have hC2 := old _ _ hC
  have new : ((hp.push (W.kdv_tup us)).push (PX.excO C hp.objs.size)).get? (hp.objs.size + 1) = some (PX.excO C hp.objs.size) := by heap_get
  have cC : (Value.ref C :: bm).contains (.ref C) = true := by simp
  have i1 := hi.keeps old
  have b1 := (hb (.ref (hp.objs.size + 1))).keeps old
  unfold isInstance
  repeat (first | with_reducible refine wpAny_loadPart_at new ?_ | (with_reducible refine wpAny_isSubtype_exc hC2 ?_; rw [cC]) | wp_step)
  show wpAny _ _ (typeLookup (.ref C) _) _ _ _
  refine i1.at ?_
  refine wpAny_holding (wpAny_bind (b1.at ?_))
  refine wpAny_bind (wpAny_call (codeAny_mono hq fun r s' z => ?_))
  rcases r with e | (v | _ | _ | _) <;> first | exact z | exact z.elim | skip
  obtain ⟨rfl, z⟩ := z
  first
    | exact wpAny_pure (wpAny_pure z)
    | (wp_walk; exact z)
theorem check_call_kw {us : List Value} {kw : Str} {u : Value} {Q : Unit → Shared → Prop} (hC : hp.get? C = some (excClassObj nm qn C N bs bm hdct sn sub ab col dd k0 k1 k2 k3 k5 newId))
    (hq : Q () ⟨hp, gs, dr, tk, os⟩) : wpAny M A (checkBuiltinCall "type.__call__" ⟨.ref C :: us, [(kw, u)]⟩) Q E ⟨hp, gs, dr, tk, os⟩ := by
  have f3 := tc_sub
  have ty : (⟨hp, gs, dr, tk, os⟩ : Shared).TypeIs (.ref C) "type" := ⟨_, hC, rfl⟩
  simp only [checkBuiltinCall, tc_kind, tc_split]
  repeat (any_goals (first | assumption | with_reducible refine wpAny_loadPart_at hC ?_ | with_reducible refine wpAny_onRaise ?_ | with_reducible refine wpAny_map ?_ | wp_step))
theorem call_kw (F : ExcBaseFacts B newId initId bmB) (hT : ∀ T : String, bm.contains (.type T) = bmB.contains (.type T)) {us : List Value} {kw : Str} {u : Value} {fI : Addr}
    (hC : hp.get? C = some (excClassObj nm qn C N bs bm hdct sn sub ab col dd k0 k1 k2 k3 k5 newId))
    (hi : W.Looks (model prog w) hp (typeLookup (.ref C) "__init__") (some (.ref fI))) (hb : ∀ self, W.Looks (model prog w) hp (bindSpecial (.ref fI) self) (.ref fI, [self])) (hz : us.length ≤ sizeLine)
    (hq : codeAny (model prog w) (A.under (.builtin "type.__call__" ⟨.ref C :: us, [(kw, u)]⟩)) (.call (.ref fI) ⟨.ref (hp.objs.size + 1) :: us, [(kw, u)]⟩) (W.InitBack (hp.objs.size + 1) R)
      ⟨(hp.push (W.kdv_tup us)).push (PX.excO C hp.objs.size), gs, dr, tk, os⟩) :
    codeAny (model prog w) A (.call (.ref C) ⟨us, [(kw, u)]⟩) R ⟨hp, gs, dr, tk, os⟩ := by
  have f1 := tc_lookup
  have f2 := tc_bind (.ref C)
  have ty : (⟨hp, gs, dr, tk, os⟩ : Shared).TypeIs (.ref C) "type" := ⟨_, hC, rfl⟩
  refine codeAny_of_tree ?_
  show wpAny _ _ (callAny (.ref C) _) _ _ _
  repeat (any_goals (first | assumption | with_reducible refine wpAny_loadPart_at hC ?_ | wp_step))
  refine ⟨rfl, ?_⟩
  refine codeAny_call_builtin_at (Code.quiet_builtin _ (by decide +kernel)) entry_typeCall (check_call_kw hC (tcall_kw F hT hC hi hb hz ?_))
  refine codeAny_mono hq fun r s' z => ?_
  rcases r with e | (v | _ | _ | _) <;> exact z
end
end XV
end
section
set_option Elab.async false
set_option linter.all false
set_option maxRecDepth 100000
set_option maxHeartbeats 4000000
namespace XV
open PySem PySem.Spec PyProof.Rows L2
/-- the built-in base -/
inductive Bs | ve | le | ae
def Bs.nm : Bs → String
  | .ve => "ValueError" | .le => "LookupError" | .ae => "ArithmeticError"
def Bs.new : Bs → String
  | .ve => "ValueError.__new__" | .le => "LookupError.__new__" | .ae => "ArithmeticError.__new__"
def Bs.ini : Bs → String
  | .ve => "ValueError.__init__" | .le => "LookupError.__init__" | .ae => "ArithmeticError.__init__"
def Bs.tail : Bs → List Value
  | .ve => [.type "ValueError", .type "Exception", .type "BaseException", .type "object"]
  | .le => [.type "LookupError", .type "Exception", .type "BaseException", .type "object"]
  | .ae => [.type "ArithmeticError", .type "Exception", .type "BaseException", .type "object"]
theorem Bs.base : (b : Bs) → ExcBaseFacts b.nm b.new b.ini b.tail
  | .ve => F.excBase_ValueError
  | .le => F.excBase_LookupError
  | .ae => F.excBase_ArithmeticError
theorem Bs.store : (b : Bs) → PySem.StoreFacts b.nm b.tail "object.__setattr__" "object"
  | .ve => PySem.F.store_ValueError
  | .le => PySem.F.store_LookupError
  | .ae => PySem.F.store_ArithmeticError
def gaB : Value := .builtin "BaseException.__getattribute__"
def saB : Value := .builtin "object.__setattr__"
def clB : Value := .builtin "object.__class__"
def gsB : Value := .builtin "getset_descriptor.__get__"
/-- what the written part says of the class at C -/
structure XC (K : PySem.W.Frag) (C : Addr) (b : Bs) : Prop where
  inn : PySem.W.excInitIn K C b.tail b.new = true
  ov : PySem.W.excOver K C b.tail = true
  sa : PySem.W.findIn K (.ref C) "__setattr__" = some (some saB)
  kC : PySem.W.keepIn K (.ref C) = true
  hd : PySem.W.hasDictIn K C = true
  ga : PySem.W.findIn K (.ref C) "__getattribute__" = some (some gaB)
  gt : PySem.W.findIn K (.ref C) "__getattr__" = some none
  ex : PySem.W.subIn K (.ref C) (.type "BaseException") = some true
  cl : PySem.W.findIn K (.ref C) "__class__" = some (some clB)
  sp : PySem.W.specialIn K clB "__get__" = some (some gsB)
  tk : PySem.W.takesIn K clB = some true
  ob : PySem.W.mroIn K C (.type "object") = some true
def eqb (a b : Option (Option Value)) : Bool := decide (a = b)
def eqo (a b : Option Bool) : Bool := decide (a = b)
/-- the same as one look -/
def xcB (K : PySem.W.Frag) (C : Addr) (b : Bs) : Bool :=
  PySem.W.excInitIn K C b.tail b.new && (PySem.W.excOver K C b.tail && (eqb (PySem.W.findIn K (.ref C) "__setattr__") (some (some saB)) && (PySem.W.keepIn K (.ref C) && (PySem.W.hasDictIn K C &&
    (eqb (PySem.W.findIn K (.ref C) "__getattribute__") (some (some gaB)) && (eqb (PySem.W.findIn K (.ref C) "__getattr__") (some none) && (eqo (PySem.W.subIn K (.ref C) (.type "BaseException")) (some true) &&
    (eqb (PySem.W.findIn K (.ref C) "__class__") (some (some clB)) && (eqb (PySem.W.specialIn K clB "__get__") (some (some gsB)) && (eqo (PySem.W.takesIn K clB) (some true) && eqo (PySem.W.mroIn K C (.type "object")) (some true)))))))))))
theorem two {a b : Bool} (h : (a && b) = true) : a = true ∧ b = true := Bool.and_eq_true_iff.mp h
theorem xc_of {K : PySem.W.Frag} {C : Addr} {b : Bs} (h : xcB K C b = true) : XC K C b := by
  obtain ⟨h1, h⟩ := two h
  obtain ⟨h2, h⟩ := two h
  obtain ⟨h3, h⟩ := two h
  obtain ⟨h4, h⟩ := two h
  obtain ⟨h5, h⟩ := two h
  obtain ⟨h6, h⟩ := two h
  obtain ⟨h7, h⟩ := two h
  obtain ⟨h8, h⟩ := two h
  obtain ⟨h9, h⟩ := two h
  obtain ⟨h10, h⟩ := two h
  obtain ⟨h11, h12⟩ := two h
  exact ⟨h1, h2, of_decide_eq_true h3, h4, h5, of_decide_eq_true h6, of_decide_eq_true h7, of_decide_eq_true h8, of_decide_eq_true h9, of_decide_eq_true h10, of_decide_eq_true h11, of_decide_eq_true h12⟩

/-! ### the first field stored -/
section
open Builtin Builtin.ObjectAttr
variable {prog : Program} {w : World} {A : Around} {R : Result → Shared → Prop} {hp : Heap} {gs : Array GenState} {dr : Drawn} {t : Nat} {os : OsState} {K : PySem.W.Frag} {x C : Addr} {fv : Array Value} {b : Bs} {f : Str} {tk : Tok} {u : Value}
theorem xosa (T : XC K C b) (kin : K.In hp) (hx : hp.get? x = some { cls := .ref C, data := .fields fv }) (hno : PySem.W.findIn K (.ref C) f = some none)
    (hq : ∀ h' tk' dx, (∀ c o, c ≠ x → hp.get? c = some o → h'.get? c = some o) → hp.objs.size ≤ dx → dx ≠ x → h'.get? x = some { cls := .ref C, dict := some dx, data := .fields fv } →
      h'.Ns1 dx (fun y => if y = f then some u else none) → R (.ok (.ret .none)) ⟨h', gs, dr, tk', os⟩) :
    codeAny (model prog w) A (.call (.builtin "object.__setattr__") ⟨[.ref x, .str f tk, u], []⟩) R ⟨hp, gs, dr, t, os⟩ := by
  have I : PySem.W.InstAt hp x { cls := .ref C, data := .fields fv } C none := ⟨hx, rfl, rfl, trivial⟩
  have ht : PySem.W.takerIn K C f = some none := by unfold PySem.W.takerIn; rw [hno]; rfl
  have away : x ≠ hp.objs.size := Nat.ne_of_lt (Heap.lt_size hx)
  refine PySem.W.osa_openX b.store kin I T.ov ht fun bb => ?_
  obtain ⟨cd, hc, hdict⟩ := PySem.W.any_some T.hd
  have lc : PySem.W.Looks (model prog w) hp (classData C) cd := PySem.W.looks_clsIn kin hc
  have hdict' : cd.hasDict = true := hdict
  obtain ⟨nm, bs, mro, ns, qn, hd, sn, sb, ab, col, del⟩ := cd
  dsimp only at hdict'
  subst hdict'
  unfold storeInOwnDict ownDictForStores
  repeat (first | with_reducible refine PX.store_in_new ?_ ?_ | with_reducible refine wpAny_loadPart_at hx ?_ | with_reducible refine lc.at ?_ | wp_step)
  · exact ⟨_, #[], _, (Heap.get?_update_ne _ _ _ _ away.symm).trans (Heap.get?_push_at rfl rfl), rfl, fun e he => absurd he (by simp), fun _ => rfl⟩
  · intro h' tk' hn' hs
    have hx1 : (hp.push { cls := .type "dict", data := .dict #[] }).get? x = some { cls := .ref C, data := .fields fv } := Heap.get?_push_of_some _ hx
    refine hq h' tk' hp.objs.size (fun c o hc ho => ?_) (Nat.le_refl _) away.symm ?_ hn'
    · exact (hs.2 c (Nat.ne_of_lt (Heap.lt_size ho))).trans ((Heap.get?_update_ne _ _ _ _ hc).trans (Heap.get?_push_of_some _ ho))
    · exact (hs.2 x away).trans (Heap.get?_update_self _ hx1 rfl)
end

/-! ### over the abstract heap -/
/-- an exception of the class at C stands at a, its one field f holds v -/
def XvAt (H : Hp) (a C : Addr) (f : Str) (v : V) : Prop := ∃ d, H a = some (exo a C (some d)) ∧ H d = some (exd d [(f, v)])
theorem XvAt.on {H H' : Hp} {a C : Addr} {f : Str} {v : V} (x : XvAt H a C f v) (s : Same H H') : XvAt H' a C f v := by
  obtain ⟨d, h1, h2⟩ := x
  exact ⟨d, s _ _ h1, s _ _ h2⟩
/-- .. with or without fields -/
def XnAt (H : Hp) (a C : Addr) : Prop := ∃ d, H a = some (exo a C d) ∧ ∀ dx, d = some dx → ∃ fs, H dx = some (exd dx fs)
theorem XvAt.any {H : Hp} {a C : Addr} {f : Str} {v : V} (x : XvAt H a C f v) : XnAt H a C := by
  obtain ⟨d, h1, h2⟩ := x
  exact ⟨some d, h1, fun dx e => by cases e; exact ⟨_, h2⟩⟩
theorem XnAt.on {H H' : Hp} {a C : Addr} (x : XnAt H a C) (s : Same H H') : XnAt H' a C := by
  obtain ⟨d, h1, h2⟩ := x
  exact ⟨d, s _ _ h1, fun dx e => by obtain ⟨fs, h⟩ := h2 dx e; exact ⟨fs, s _ _ h⟩⟩
section
variable {X : Cx} {pins : List (Addr × Obj)} {σ : L2.St} {H : Hp} {s : Shared} {a C : Addr} {b : Bs} {f : Str} {y : V} {u : Value} {A : Around}
theorem Inv.xset {Q : Unit → Shared → Prop} {E : Value → Shared → Prop} (T : XC X.K C b) (I : Inv X pins σ H s) (e : H a = some (exo a C none)) (hno : PySem.W.findIn X.K (.ref C) f = some none) (ry : RelV y u)
    (h : ∀ dx s', H dx = none → dx ≠ a → Inv X pins σ (upd (upd H dx (exd dx [(f, y)])) a (exo a C (some dx))) s' → Q () s') : wpAny (model X.prog X.w) A (setAttr (.ref a) f u) Q E s := by
  obtain ⟨t1, ho⟩ := exo_at I.hok e
  obtain ⟨hp, g, d, t, os⟩ := s
  refine PySem.W.set_plain I.kIn (ox := { cls := .ref C, dict := none, data := .fields #[.ref t1, .none, .none, .none, .bool false, .none] }) (od := none) ⟨ho, rfl, rfl, trivial⟩ T.sa ?_
  refine xosa T I.kIn ho hno fun h' tk' dx k dn dne hx hn => ?_
  have free : H dx = none := I.hok.fresh dn
  have old : ∀ {c : Addr} {o : Obj}, hp.get? c = some o → c ≠ dx := fun {c o} q => Nat.ne_of_lt (Nat.lt_of_lt_of_le (Heap.lt_size q) dn)
  have away : ∀ {c : Addr}, H c = none → c ≠ a := fun {c} n z => by
    rw [z, e] at n
    cases n
  have U : Un X.fs [] H (upd (upd H dx (exd dx [(f, y)])) a (exo a C (some dx))) hp h' := {
    keep := fun c o q n _ _ => k c o (away n) q
    slot := fun c o q n _ _ => ⟨o.slots, k c o (away n) q⟩
    free := fun c o q n _ => by rw [upd_ne (away n), upd_ne (old q)]; exact n
    there := fun c o q _ => by
      by_cases hc : c = a
      · rw [hc]; exact ⟨_, hx⟩
      · exact ⟨o, k c o hc q⟩
    tups := fun c xs q => by rw [upd_ne (at_ne e q exo_tup), upd_ne (ne_of_none q free)]; exact q
    frzs := fun c o v q => by rw [upd_ne (at_ne e q exo_frz), upd_ne (ne_of_none q free)]; exact q
    tbls := fun c ps q => ⟨#[], by rw [upd_ne (at_ne e q exo_tbl), upd_ne (ne_of_none q free), q]; simp⟩ }
  refine h dx _ free dne (I.un (t' := tk') U fun c o q => ?_)
  by_cases hc : c = a
  · subst hc
    rw [upd_same] at q
    cases q
    exact exo_ok hx
  · rw [upd_ne hc] at q
    by_cases hd : c = dx
    · subst hd
      rw [upd_same] at q
      cases q
      exact exd_ok hn (relO_put (fs := []) ry fun g => True.intro)
    · rw [upd_ne hd] at q
      refine (I.hok c o q).stay (fun c' v hc' z => k c' v ?_ z) (fun c' z => ?_) fun c' xs z => ?_
      · rcases hc' with z' | z'
        · rw [z']; exact hc
        · exact at_ne e z' exo_own
      · rw [upd_ne (at_ne e z exo_own), upd_ne (ne_of_none z free)]; exact z
      · rw [upd_ne (at_ne e z exo_tup), upd_ne (ne_of_none z free)]; exact z
end
/-- self.f = e in an exception's __init__ -/
def tXst (K : PySem.W.Frag) (f : Str) (to te : TE) : TS := fun D σ H => te σ H fun y H1 => to σ H1 fun x H2 => ∃ (a C : Addr) (b : Bs), x = .ref a ∧ XC K C b ∧ PySem.W.findIn K (.ref C) f = some none ∧ H2 a = some (exo a C none) ∧
  ∀ dx, H2 dx = none → dx ≠ a → D.nx σ (upd (upd H2 dx (exd dx [(f, y)])) a (exo a C (some dx)))
theorem ps_xst {X : Cx} {o e : Expr} {to te : TE} {f : Str} {p' pos : Pos} (ho : PE X o to) (he : PE X e te) (hs : swapsWith e (some (.Attribute o f p')) pos.line X.env = pure false := by rfl) : PS X (.Assign [.Attribute o f p'] e pos) (tXst X.K f to te) := by
  refine ⟨fun pins s σ H D I h => ?_⟩
  refine plainObj_wpAny_Assign_Attribute (thn (he.run pins s σ H _ I h) fun v s1 ⟨y, H1, I1, r1, q1⟩ => thn (ho.run pins s1 σ H1 _ I1 q1) fun u s2 ⟨x, H2, I2, r2, a, C, b, ex, T, hno, ea, q⟩ => ?_) hs
  subst ex
  obtain rfl : u = Value.ref a := r2
  exact Inv.xset T I2 ea hno r1 fun dx s' n ne J => ⟨σ, _, J, q dx n ne⟩
end XV
end
section
set_option Elab.async false
set_option linter.all false
set_option maxRecDepth 100000
set_option maxHeartbeats 4000000
namespace XV
open PySem PySem.Spec PyProof.Rows L2
/-! ### what an __init__ that stores its one argument promises -/
def spIni (K : PySem.W.Frag) (f : Str) : Sp := fun vs H Q _ => ∃ (a C : Addr) (b : Bs) (v : V), vs = [.ref a, v] ∧ XC K C b ∧ PySem.W.findIn K (.ref C) f = some none ∧ H a = some (exo a C none) ∧
  ∀ d, H d = none → d ≠ a → Q .non (upd (upd H d (exd d [(f, v)])) a (exo a C (some d)))
/-- of one that stores nothing -/
def spIni0 : Sp := fun vs H Q _ => ∃ a : Addr, vs = [.ref a] ∧ Q .non H
def iArgs (f : Str) (p1 p2 : Pos) : Arguments := { posonlyargs := [], args := [{ arg := "self", annotation := none, pos := p1 }, { arg := f, annotation := none, pos := p2 }], vararg := none, kwonlyargs := [], kw_defaults := [], kwarg := none, defaults := [] }
def iBody (f : Str) (q1 q2 q3 q4 : Pos) : List Stmt := [.Assign [.Attribute (.Name "self" q1) f q2] (.Name f q3) q4]
def iScope (f : Str) : Scope := { kind := .function, names := [("self", .local), (f, .local)], isGenerator := false, isCoroutine := false, more := [] }
theorem scG : FnScope ["self", "given"] ["self", "given"] (iScope "given") := ⟨rfl, rfl, rfl, by decide +kernel, rfl, by decide +kernel, by decide +kernel⟩
theorem scI : FnScope ["self", "index"] ["self", "index"] (iScope "index") := ⟨rfl, rfl, rfl, by decide +kernel, rfl, by decide +kernel, by decide +kernel⟩
section
variable {P : Program} {w : World} {K : PySem.W.Frag} {mg : Str → Option Value} {base : Heap} {qual : Str} {p1 p2 q1 q2 q3 q4 : Pos} {fI : Addr} {fd : FuncData}
theorem ok_given (F : FunD K "__init__" qual (iArgs "given" p1 p2) (iBody "given" q1 q2 q3 q4) (iScope "given") [] [] fI fd) : FnOk P w K mg base CX0 1 fI fd ["self", "given"] (spIni K "given") := by
  refine F.ok scG (fun vs H Q E h => ?_) (fun cdv A outer s H vs Q E hr h => ⟨_, PSs.nox (pss_one (ps_xst (pv 0) (pv 1))), ?_⟩)
  · obtain ⟨a, C, b, v, rfl, _⟩ := h
    rfl
  · obtain ⟨a, C, b, v, rfl, T, hno, ea, k⟩ := h
    exact ⟨_, rfl, _, rfl, a, C, b, rfl, T, hno, ea, fun d hd hne => k d hd hne⟩
theorem ok_index (F : FunD K "__init__" qual (iArgs "index" p1 p2) (iBody "index" q1 q2 q3 q4) (iScope "index") [] [] fI fd) : FnOk P w K mg base CX0 1 fI fd ["self", "index"] (spIni K "index") := by
  refine F.ok scI (fun vs H Q E h => ?_) (fun cdv A outer s H vs Q E hr h => ⟨_, PSs.nox (pss_one (ps_xst (pv 0) (pv 1))), ?_⟩)
  · obtain ⟨a, C, b, v, rfl, _⟩ := h
    rfl
  · obtain ⟨a, C, b, v, rfl, T, hno, ea, k⟩ := h
    exact ⟨_, rfl, _, rfl, a, C, b, rfl, T, hno, ea, fun d hd hne => k d hd hne⟩
def jArgs (p1 : Pos) : Arguments := { posonlyargs := [], args := [{ arg := "self", annotation := none, pos := p1 }], vararg := none, kwonlyargs := [], kw_defaults := [], kwarg := none, defaults := [] }
def jScope : Scope := { kind := .function, names := [("self", .local)], isGenerator := false, isCoroutine := false, more := [] }
theorem scJ : FnScope ["self"] ["self"] jScope := ⟨rfl, rfl, rfl, by decide +kernel, rfl, by decide +kernel, by decide +kernel⟩
theorem ok_pass (F : FunD K "__init__" qual (jArgs p1) [.Pass q1] jScope [] [] fI fd) : FnOk P w K mg base CX0 1 fI fd ["self"] spIni0 := by
  refine F.ok scJ (fun vs H Q E h => ?_) (fun cdv A outer s H vs Q E hr h => ⟨_, PSs.nox (pss_one ps_pass), ?_⟩)
  · obtain ⟨a, rfl, _⟩ := h
    rfl
  · obtain ⟨a, rfl, k⟩ := h
    exact k
end
/-- a class whose __init__ stores its one argument f: all that its calls lean on -/
structure XD (P : Program) (w : World) (K : PySem.W.Frag) (mg : Str → Option Value) (base : Heap) (x : Str) (C : Addr) (b : Bs) (f : Str) : Prop where
  T : XC K C b
  gC : mg x = some (.ref C)
  hno : PySem.W.findIn K (.ref C) f = some none
  ini : ∃ (fI : Addr) (fd : FuncData), PySem.W.findIn K (.ref C) "__init__" = some (some (.ref fI)) ∧ PySem.W.typeIn K (.ref fI) = some (.type "function") ∧ FnOk P w K mg base CX0 1 fI fd ["self", f] (spIni K f) ∧
    (∀ s a u, BindsTo s fd ⟨[a, u], []⟩ ((["self", f] : List Str).zip [a, u])) ∧ (∀ s a u, BindsTo s fd ⟨[a], [(f, u)]⟩ ((["self", f] : List Str).zip [a, u]))
/-- a class whose __init__ stores nothing -/
structure XE0 (P : Program) (w : World) (K : PySem.W.Frag) (mg : Str → Option Value) (base : Heap) (x : Str) (C : Addr) (b : Bs) : Prop where
  T : XC K C b
  gC : mg x = some (.ref C)
  ini : ∃ (fI : Addr) (fd : FuncData), PySem.W.findIn K (.ref C) "__init__" = some (some (.ref fI)) ∧ PySem.W.typeIn K (.ref fI) = some (.type "function") ∧ FnOk P w K mg base CX0 1 fI fd ["self"] spIni0 ∧
    (∀ s a, BindsTo s fd ⟨[a], []⟩ ((["self"] : List Str).zip [a]))
theorem same_upd {H : Hp} {a : Addr} {o : HO} (h : H a = none) : Same H (upd H a o) := fun b u e => by rw [upd_ne (ne_of_none e h)]; exact e
section
variable {X : Cx} {pins : List (Addr × Obj)} {σ : L2.St} {H : Hp} {s : Shared} {C : Addr} {b : Bs} {f x : Str} {v : V} {u : Value} {Q : VK}
/-- the new object, its args' tuple ahead of it -/
theorem Inv.xnew (I : Inv X pins σ H s) (us : List Value) (C : Addr) : Inv X pins σ (upd H (s.heap.objs.size + 1) (exo (s.heap.objs.size + 1) C none)) { s with heap := (s.heap.push (PySem.W.kdv_tup us)).push (PX.excO C s.heap.objs.size) } := by
  obtain ⟨hp, g, dr, tk, os⟩ := s
  have old : ∀ c o, hp.get? c = some o → ((hp.push (PySem.W.kdv_tup us)).push (PX.excO C hp.objs.size)).get? c = some o := fun c o e => Heap.get?_push_of_some _ (Heap.get?_push_of_some _ e)
  have new : ((hp.push (PySem.W.kdv_tup us)).push (PX.excO C hp.objs.size)).get? (hp.objs.size + 1) = some (PX.excO C hp.objs.size) := by heap_get
  exact I.laid (t' := tk) (a := hp.objs.size + 1) (o := exo (hp.objs.size + 1) C none) old (Nat.le_succ _) (exo_ok new)
theorem one_line (us : List Value) (h : us.length ≤ 3) : us.length ≤ sizeLine := by rw [sizeLine_eq]; omega
theorem xdone {a : Addr} (hn : H a = none) (q : ∀ c H2, Same H H2 → XvAt H2 c C f v → Q (.ref c) H2) : ∀ d, upd H a (exo a C none) d = none → d ≠ a → Q (.ref a) (upd (upd (upd H a (exo a C none)) d (exd d [(f, v)])) a (exo a C (some d))) := fun d hd hne => by
  have hd0 : H d = none := by rw [← upd_ne (H := H) (o := exo a C none) hne]; exact hd
  refine q a _ (fun c o e => ?_) ⟨d, upd_same, ?_⟩
  · rw [upd_ne (ne_of_none e hn), upd_ne (ne_of_none e hd0), upd_ne (ne_of_none e hn)]
    exact e
  · rw [upd_ne hne, upd_same]
theorem run_xp (D : XD X.prog X.w X.K X.mg X.base x C b f) (hr : Room 2 X.A) (I : Inv X pins σ H s) (rv : RelV v u) (q : ∀ a H2, Same H H2 → XvAt H2 a C f v → Q (.ref a) H2) :
    wpAny (model X.prog X.w) X.A (call (.ref C) [u]) (EP X pins σ Q) X.xe s := by
  obtain ⟨fI, fd, iC, tI, F, bp, _⟩ := D.ini
  obtain ⟨nm, N, qn, bs, bm, hdct, sn, sub, ab, col, dd, k0, k1, k2, k3, k5, hC, hT⟩ := PySem.W.excInit_of I.kIn D.T.inn
  have J := Inv.xnew I [u] C
  have hn : H (s.heap.objs.size + 1) = none := I.hok.fresh (Nat.le_succ _)
  have kin := I.kIn
  obtain ⟨hp, g, dr, tk, os⟩ := s
  refine wpAny_call (PX.call_own b.base hT hC (PySem.W.looks_findIn kin iC) (fun self => PySem.W.bind_fn kin self tI) (one_line [u] (by show 1 ≤ 3; decide))
    (codeAny_mono (F.run _ X.stack _ _ ⟨[Value.ref (hp.objs.size + 1), u], []⟩ [Value.ref (hp.objs.size + 1), u] [V.ref (hp.objs.size + 1), v] (fun z H2 => z = .non ∧ Q (.ref (hp.objs.size + 1)) H2) E0 (hr.make C [u] []) (J.env0.make C [u] []) (bp _ _ _) (.cons rfl (.cons rv .nil))
      ⟨_, C, b, v, rfl, D.T, D.hno, upd_same, fun d hd hne => ⟨rfl, xdone hn q d hd hne⟩⟩) fun r s' hq => ?_))
  cases r with
  | error er => exact hq.elim
  | ok fl =>
    cases fl with
    | ret z =>
      obtain ⟨v', H', J2, rz, ez, q2⟩ := J.after hq
      subst ez
      exact ⟨rz, .ref _, H', J2, rfl, q2⟩
    | next => exact False.elim hq
    | brk => exact False.elim hq
    | cont => exact False.elim hq
theorem run_xk (D : XD X.prog X.w X.K X.mg X.base x C b f) (hr : Room 2 X.A) (I : Inv X pins σ H s) (rv : RelV v u) (q : ∀ a H2, Same H H2 → XvAt H2 a C f v → Q (.ref a) H2) :
    wpAny (model X.prog X.w) X.A (call (.ref C) [] [(f, u)]) (EP X pins σ Q) X.xe s := by
  obtain ⟨fI, fd, iC, tI, F, _, bk⟩ := D.ini
  obtain ⟨nm, N, qn, bs, bm, hdct, sn, sub, ab, col, dd, k0, k1, k2, k3, k5, hC, hT⟩ := PySem.W.excInit_of I.kIn D.T.inn
  have J := Inv.xnew I [] C
  have hn : H (s.heap.objs.size + 1) = none := I.hok.fresh (Nat.le_succ _)
  have kin := I.kIn
  obtain ⟨hp, g, dr, tk, os⟩ := s
  refine wpAny_call (call_kw b.base hT hC (PySem.W.looks_findIn kin iC) (fun self => PySem.W.bind_fn kin self tI) (one_line [] (by decide))
    (codeAny_mono (F.run _ X.stack _ _ ⟨[Value.ref (hp.objs.size + 1)], [(f, u)]⟩ [Value.ref (hp.objs.size + 1), u] [V.ref (hp.objs.size + 1), v] (fun z H2 => z = .non ∧ Q (.ref (hp.objs.size + 1)) H2) E0 (hr.make C [] [(f, u)]) (J.env0.make C [] [(f, u)]) (bk _ _ _) (.cons rfl (.cons rv .nil))
      ⟨_, C, b, v, rfl, D.T, D.hno, upd_same, fun d hd hne => ⟨rfl, xdone hn q d hd hne⟩⟩) fun r s' hq => ?_))
  cases r with
  | error er => exact hq.elim
  | ok fl =>
    cases fl with
    | ret z =>
      obtain ⟨v', H', J2, rz, ez, q2⟩ := J.after hq
      subst ez
      exact ⟨rz, .ref _, H', J2, rfl, q2⟩
    | next => exact False.elim hq
    | brk => exact False.elim hq
    | cont => exact False.elim hq
theorem run_x0 (D : XE0 X.prog X.w X.K X.mg X.base x C b) (hr : Room 2 X.A) (I : Inv X pins σ H s) (q : ∀ a H2, Same H H2 → H2 a = some (exo a C none) → Q (.ref a) H2) :
    wpAny (model X.prog X.w) X.A (call (.ref C) []) (EP X pins σ Q) X.xe s := by
  obtain ⟨fI, fd, iC, tI, F, bp⟩ := D.ini
  obtain ⟨nm, N, qn, bs, bm, hdct, sn, sub, ab, col, dd, k0, k1, k2, k3, k5, hC, hT⟩ := PySem.W.excInit_of I.kIn D.T.inn
  have J := Inv.xnew I [] C
  have hn : H (s.heap.objs.size + 1) = none := I.hok.fresh (Nat.le_succ _)
  have kin := I.kIn
  obtain ⟨hp, g, dr, tk, os⟩ := s
  refine wpAny_call (PX.call_own b.base hT hC (PySem.W.looks_findIn kin iC) (fun self => PySem.W.bind_fn kin self tI) (one_line [] (by decide))
    (codeAny_mono (F.run _ X.stack _ _ ⟨[Value.ref (hp.objs.size + 1)], []⟩ [Value.ref (hp.objs.size + 1)] [V.ref (hp.objs.size + 1)] (fun z H2 => z = .non ∧ Q (.ref (hp.objs.size + 1)) H2) E0 (hr.make C [] []) (J.env0.make C [] []) (bp _ _) (.cons rfl .nil)
      ⟨_, rfl, rfl, q _ _ (same_upd hn) upd_same⟩) fun r s' hq => ?_))
  cases r with
  | error er => exact hq.elim
  | ok fl =>
    cases fl with
    | ret z =>
      obtain ⟨v', H', J2, rz, ez, q2⟩ := J.after hq
      subst ez
      exact ⟨rz, .ref _, H', J2, rfl, q2⟩
    | next => exact False.elim hq
    | brk => exact False.elim hq
    | cont => exact False.elim hq
end
/-! ### C(e), C(f = e), C() -/
def tXv (C : Addr) (f : Str) (t : TA) : TE := fun σ H Q => t σ H fun vs H1 => ∃ v, vs = [v] ∧ ∀ a H2, Same H1 H2 → XvAt H2 a C f v → Q (.ref a) H2
def tX0 (C : Addr) : TE := fun _ H Q => ∀ a H2, Same H H2 → H2 a = some (exo a C none) → Q (.ref a) H2
section
variable {X : Cx} {C : Addr} {b : Bs} {f x : Str} {p pos kpos : Pos} {e : Expr} {es : List Expr} {kws : List Keyword} {t : TA}
theorem pe_xp (D : XD X.prog X.w X.K X.mg X.base x C b f) (hr : Room 2 X.A) (ha : PA X (e :: es) t) (hg : Gl X x := by rfl) (hdb : (x == ("__debug__" : Str)) = false := by decide)
    (hs : starEach (e :: es) X.env = (false, eval e X.env) :: starEach es X.env := by rfl) (hpl : (backTo pos (starEach es X.env)).any (·.1) = false := by rfl) : PE X (.Call (.Name x p) (e :: es) [] pos) (tXv C f t) := by
  refine ⟨fun pins s σ H Q I h => ?_⟩
  refine wpAny_Call_Name_kw (ld_glob I hg D.gC ?_ hdb)
  refine PySem.W.callWith_K (h₀ := X.base) I.ok.mod.kin D.T.kC (thn (ha.run pos pins s σ H _ I h) fun us s1 ⟨vs, H1, I1, r, v, ev, q⟩ => ⟨I1.kIn, ?_⟩) hs hpl
  subst ev
  cases r with
  | cons rv rn =>
    cases rn
    exact run_xp D hr I1 rv q
theorem pe_xk (D : XD X.prog X.w X.K X.mg X.base x C b f) (hr : Room 2 X.A) (hkw : PK X kws t) (hg : Gl X x := by rfl) (hdb : (x == ("__debug__" : Str)) = false := by decide)
    (hall : (backToKw pos (keywordEach kws X.env)).all (·.1.isSome) = true := by rfl) (hks : (backToKw pos (keywordEach kws X.env)).filterMap (·.1) = [f] := by rfl)
    (hpl : ((backTo pos (starEach [] X.env)).any (·.1) || (backToKw pos (keywordEach kws X.env)).any (·.1.isNone)) = false := by rfl) : PE X (.Call (.Name x p) [] kws pos) (tXv C f t) := by
  refine ⟨fun pins s σ H Q I h => ?_⟩
  refine wpAny_Call_Name_kw (ld_glob I hg D.gC ?_ hdb)
  refine PySem.W.callWith_KW0 (h₀ := X.base) I.ok.mod.kin D.T.kC hall (thn (hkw.run pos pins s σ H _ I h) fun us s1 ⟨vs, H1, I1, r, v, ev, q⟩ => ⟨I1.kIn, ?_⟩) hpl
  subst ev
  rw [hks]
  cases r with
  | cons rv rn =>
    cases rn
    exact run_xk D hr I1 rv q
theorem pe_x0 (D : XE0 X.prog X.w X.K X.mg X.base x C b) (hr : Room 2 X.A) (hg : Gl X x := by rfl) (hdb : (x == ("__debug__" : Str)) = false := by decide) : PE X (.Call (.Name x p) [] [] pos) (tX0 C) := by
  refine ⟨fun pins s σ H Q I h => ?_⟩
  refine wpAny_Call_Name_kw (ld_glob I hg D.gC ?_ hdb)
  exact PySem.W.callWith_K0 I.kIn D.T.kC (run_x0 D hr I h)
end
/-! ### e.f -/
def tXf (K : PySem.W.Frag) (f : Str) (te : TE) : TE := fun σ H Q => te σ H fun x H1 => ∃ (a C : Addr) (b : Bs) (v : V), x = .ref a ∧ XC K C b ∧ PySem.W.findIn K (.ref C) f = some none ∧ XvAt H1 a C f v ∧ Q v H1
theorem inst_of {X : Cx} {pins : List (Addr × Obj)} {σ : L2.St} {H : Hp} {s : Shared} {a C : Addr} (I : Inv X pins σ H s) (x : XnAt H a C) : ∃ oe od, PySem.W.InstAt s.heap a oe C od := by
  obtain ⟨d, h1, h2⟩ := x
  obtain ⟨t1, ho⟩ := exo_at I.hok h1
  cases d with
  | none => exact ⟨_, none, ho, rfl, rfl, trivial⟩
  | some dx =>
    obtain ⟨fs, h3⟩ := h2 dx rfl
    obtain ⟨mA, ⟨od, es, ep, hd, _⟩, _⟩ := exd_at I.hok h3
    exact ⟨_, some od, ho, rfl, rfl, hd⟩
theorem pe_xf {X : Cx} {K : PySem.W.Frag} {f : Str} {e : Expr} {te : TE} {pos : Pos} (he : PE X e te) (hK : X.K = K := by rfl) (hb : attributeBase e f X.env (eval e X.env) = eval e X.env := by rfl) : PE X (.Attribute e f pos) (tXf K f te) := by
  subst hK
  refine ⟨fun pins s σ H Q I h => ?_⟩
  refine attr_of hb (thn (he.run pins s σ H _ I h) fun u s1 ⟨x, H1, I1, rx, a, C, b, v, ex, T, hno, ⟨d, ea, ed⟩, q⟩ => ?_)
  subst ex
  obtain rfl : u = Value.ref a := rx
  obtain ⟨t1, ho⟩ := exo_at I1.hok ea
  obtain ⟨mA, hns, rel⟩ := exd_at I1.hok ed
  obtain ⟨od, hod, hl⟩ := lookIn_ns hns
  have l : List.lookup f [(f, v)] = some v := by simp [List.lookup]
  obtain ⟨u, hu, ru⟩ := RelO.some_of (v := v) (o := mA f) (by rw [← l]; exact rel f)
  have J : PySem.W.InstAt s1.heap a { cls := .ref C, dict := some d, data := .fields #[.ref t1, .none, .none, .none, .bool false, .none] } C (some od) := ⟨ho, rfl, rfl, hod⟩
  exact HandSPX.exc_get I1.kIn J T.ga T.gt T.ex (PySem.W.findObj_own T.hd hno rfl (by rw [hl, hu])) (handed_of ru) ⟨v, H1, I1.tok _, ru, q⟩
/-! ### isinstance(e, C) -/
def rIsx (K : PySem.W.Frag) : List V → Hp → VK → Prop := fun xs H Q => ∃ (a C : Addr) (b : Bs) (c : V) (u : Value) (r : Bool), xs = [.ref a, c] ∧ XC K C b ∧ XnAt H a C ∧ ClsV c u ∧ PySem.W.kitOne K (.ref C) u = some r ∧ Q (.bl r) H
theorem call_isx {X : Cx} : CallR X (.builtin "isinstance") (rIsx X.K) := by
  intro pins s σ H xs us Q I r h
  obtain ⟨a, C, b, c, u, k, rfl, T, x, cv, e, q⟩ := h
  obtain ⟨u1, u2, rfl, r1, r2⟩ := vals2 r
  have e2 := cv.eq r2
  subst e2
  cases (show u1 = Value.ref a from r1)
  obtain ⟨oe, od, J⟩ := inst_of I x
  have cl : (PySem.W.clsIn X.K C).isSome = true := by
    obtain ⟨cd, hc, _⟩ := PySem.W.any_some T.hd
    rw [hc]; rfl
  exact PySem.W.kia_one (PySem.W.kitx_exc cl T.ga T.gt T.ex T.cl T.sp T.tk T.ob) I.kIn J e (fun z => nomatch z) fun tk => ⟨.bl k, H, I.tok tk, rfl, q⟩
end XV
end
section
set_option Elab.async false
set_option linter.all false
set_option maxRecDepth 100000
set_option maxHeartbeats 0
namespace K30
open PySem PySem.Spec PyProof.Rows L2 Evl TX
open C8 (Cal pe_c pe_gc)
open GL
/-! ### the head -/
def dG (x : Str) (st : Stmt) : He.DefD := ⟨(x, none), x, x, defArgs st, defBody st, defScope st, [], []⟩
def dM (m q : Str) (st : Stmt) : He.DefD := ⟨("Table", some m), m, q, defArgs st, defBody st, defScope st, [], []⟩
def dX (c m q : Str) (st : Stmt) : He.DefD := ⟨(c, some m), m, q, defArgs st, defBody st, defScope st, [], []⟩
def dD (x : Str) (st : Stmt) : He.DefD := ⟨(x, none), x, x, defArgs st, defBody st, defScope st, [.adr (He.dflAt (x, none) 0)], []⟩
def fn0 : List He.DefD := [dG "is_integer" s_is_integer, dG "is_between" s_is_between, dG "is_kind" s_is_kind, dG "is_name" s_is_name, dG "has_repeats" s_has_repeats, dG "has_form" s_has_form, dG "is_pair" s_is_pair, dG "check_forms" s_check_forms]
def fn1 : List He.DefD := [dG "check_contents" s_check_contents, dG "check_columns" s_check_columns, dG "cells_by_column" s_cells_by_column, dG "lines_of" s_lines_of, dG "_law_spring" s_law_spring, dG "_law_num" s_law_num, dG "_law_any_of" s_law_any_of, dG "_law_draw_store" s_law_draw_store]
def fn2 : List He.DefD := [dG "_law_ties" s_law_ties, dG "_law_span" s_law_span, dG "_law_built" s_law_built, dG "part_at" s_part_at, dG "word_of" s_word_of, dG "told_by" s_told_by, dG "is_cell" s_is_cell, dG "check_table" s_check_table]
def fn3 : List He.DefD := [dD "check_lost" s_check_lost, dG "does_come_back" s_does_come_back, dG "back" s_back, dG "check_one_lost" s_check_one_lost, dG "kinds_back" s_kinds_back, dG "_law_lose" s_law_lose, dG "_law_right" s_law_right, dG "law" s_law]
def fn4 : List He.DefD := [dM "__init__" "Table.__init__" s_Table_init, dX "Net" "__init__" "Net.__init__" s_Net_init, dX "Net" "across" "Net.across" s_Net_across, dX "Part" "__init__" "Part.__init__" s_Part_init, dX "Gap" "__init__" "Gap.__init__" s_Gap_init]
def fn : List He.DefD := fn0 ++ fn1 ++ fn2 ++ fn3 ++ fn4
def fa0 : List He.Fa := [.glo "is_integer", .glo "is_between", .glo "is_kind", .glo "is_name", .glo "has_repeats", .glo "has_form", .glo "is_pair", .glo "check_forms", .glo "check_contents", .glo "check_columns", .glo "cells_by_column", .glo "lines_of", .glo "_law_spring", .glo "_law_num", .glo "_law_any_of", .glo "_law_draw_store"]
def fa1 : List He.Fa := [.glo "_law_ties", .glo "_law_span", .glo "_law_built", .glo "part_at", .glo "word_of", .glo "told_by", .glo "is_cell", .glo "check_table", .glo "check_lost", .glo "does_come_back", .glo "back", .glo "check_one_lost", .glo "kinds_back", .glo "_law_lose", .glo "_law_right", .glo "law"]
def fa2 : List He.Fa := [.glo "Table", .free "len", .free "int", .free "bool", .free "str", .free "tuple", .free "list", .free "dict", .free "set", .free "abs", .free "divmod", .free "isinstance", .free "repr", .free "range", .free "enumerate", .free "zip"]
def fa3 : List He.Fa := [.free "all", .free "any", .free "min", .free "max", .free "sum", .int "MOST_LETTERS" 8, .int "MOST_COLUMNS" 8, .int "MOST_SUMS" 10, .int "MOST_DATA" 24, .int "MOST_DIAL" 1000000000, .int "LEAST_DIAL" 3, .str "BITS" "bits", .str "PLAIN" "plain", .str "EVEN" "even", .str "ODD" "odd", .cls "Table"]
def fa4 : List He.Fa := [.noat "Table" "_kind", .noat "Table" "_columns", .noat "Table" "_names", .noat "Table" "_sums", .noat "Table" "_data", .noat "Table" "_cells_of", .noat "Table" "_cells", .noat "Table" "_column_of", .noat "Table" "_lines", .mkr "Table", .glo "WORDS", .glo "Net", .cls "Net", .noat "Net" "pairs", .noat "Net" "lines_at", .mkr "Net"]
def fa5 : List He.Fa := [.meth "Net" "across", .glo "Part", .cls "Part", .noat "Part" "colours", .noat "Part" "lines", .noat "Part" "stubs", .noat "Part" "is_two_sided", .mkr "Part", .glo "Gap", .cls "Gap", .noat "Gap" "net", .noat "Gap" "ends", .mkr "Gap"]
def fa : List He.Fa := fa0 ++ fa1 ++ fa2 ++ fa3 ++ fa4 ++ fa5
/-- a property's getter -/
def gAd (K : PySem.W.Frag) (m : Str) : Addr := match PySem.W.recIn K (He.ma K (He.ga K "Table") m) "property" with
  | some (.ref g :: _) => g
  | _ => 0
def prV (K : PySem.W.Frag) (m : Str) : He.FnV := match K.lookup (gAd K m) with
  | some ⟨_, _, .func fd, _⟩ => some (fd.name, fd.qualname, fd.params, fd.body, fd.scope, fd.globals, fd.closure, fd.defaults, fd.builtins)
  | _ => none
def prB (K : PySem.W.Frag) (m q : Str) : Bool := decide (PySem.W.findIn K (.ref (He.ga K "Table")) m = some (some (.ref (He.ma K (He.ga K "Table") m)))) && (decide (PySem.W.specialIn K (.ref (He.ma K (He.ga K "Table") m)) "__get__" = some (some (.builtin "property.__get__"))) &&
  (decide (PySem.W.takesIn K (.ref (He.ma K (He.ga K "Table") m)) = some true) && ((match PySem.W.recIn K (He.ma K (He.ga K "Table") m) "property" with
    | some (.ref _ :: _) => true
    | _ => false) && (match K.lookup (gAd K m) with
    | some ⟨_, _, .func fd, _⟩ => PySem.W.codeIn K fd.code q
    | _ => false))))
def prs : List (Str × Str × Stmt) := [("cells", "Table.cells", s_Table_cells), ("data", "Table.data", s_Table_data), ("kind", "Table.kind", s_Table_kind), ("sums", "Table.sums", s_Table_sums)]
def prVal (t : Str × Str × Stmt) : He.FnV := some (t.1, t.2.1, defArgs t.2.2, .stmts (defBody t.2.2), defScope t.2.2, mainGlobals, [], .none, builtinsNs)
def icB (K : PySem.W.Frag) : Bool := decide (PySem.W.findIn K (.ref (He.ga K "Table")) "__class__" = some (some (.builtin "object.__class__"))) && (decide (PySem.W.specialIn K (.builtin "object.__class__") "__get__" = some (some (.builtin "getset_descriptor.__get__"))) &&
  (decide (PySem.W.takesIn K (.builtin "object.__class__") = some true) && (decide (PySem.W.mroIn K (He.ga K "Table") (.type "object") = some true) && decide (PySem.W.kitOne K (.ref (He.ga K "Table")) (.ref (He.ga K "Table")) = some true))))
abbrev edA (K : PySem.W.Frag) : Addr := He.dflAt ("check_lost", none) 0 K
def edB (K : PySem.W.Frag) : Bool := match K.lookup (edA K) with
  | some ⟨.type t, _, .seq its _, _⟩ => decide (t = "tuple") && decide (its.size = 0)
  | _ => false
theorem ed_sq {K : PySem.W.Frag} (h : edB K = true) (H : Hp) : SqT K H (edA K) [] := by
  unfold edB at h
  split at h
  · rename_i t od its n osl lk
    obtain ⟨h1, h2⟩ := Bool.and_eq_true_iff.mp h
    have e1 : t = "tuple" := of_decide_eq_true h1
    have e2 : its.size = 0 := of_decide_eq_true h2
    refine .inr ⟨_, its, n, lk, by rw [e1], rfl, by rw [e2]; exact Nat.zero_le _, ?_⟩
    have e3 : its = #[] := Array.eq_empty_of_size_eq_zero e2
    rw [e3]
    exact .nil
  · exact nomatch h
def wdB (K : PySem.W.Frag) : Bool := match K.lookup (He.ga K "WORDS") with
  | some ⟨.type t, _, .seq its _, _⟩ => decide (t = "tuple") && (decide (its.size ≤ 100) && He.relAll (words4.map L2.V.str) its.toList)
  | _ => false
theorem wd_sq {K : PySem.W.Frag} (h : wdB K = true) (H : Hp) : SqT K H (He.ga K "WORDS") (words4.map L2.V.str) := by
  unfold wdB at h
  split at h
  · rename_i t od its n osl lk
    obtain ⟨h1, h2⟩ := Bool.and_eq_true_iff.mp h
    obtain ⟨h2, h3⟩ := Bool.and_eq_true_iff.mp h2
    have e1 : t = "tuple" := of_decide_eq_true h1
    exact .inr ⟨_, its, n, lk, by rw [e1], rfl, Nat.le_trans (of_decide_eq_true h2) (by decide), He.relAll_ok h3⟩
  · exact nomatch h
def prAll (K : PySem.W.Frag) : Bool := ((prs.all fun t => prB K t.1 t.2.1) && icB K) && (edB K && wdB K)
def ads : List Addr := [3, 6, 4, 21, 28, 35, 40, 47, 48, 55, 62, 84, 103, 114, 129, 138, 145, 162, 182, 201, 220, 239, 258, 277, 297, 304, 311, 316, 321, 328, 333, 338, 345, 350, 472, 483, 490, 497, 504, 511, 516, 521, 528, 535, 542, 547, 552, 559, 566, 573, 578, 585, 0, 20, 27, 34, 39, 46, 54, 61, 83, 102, 113, 128, 137, 144, 161, 181, 200, 219, 238, 257, 276, 296, 303, 310, 315, 320, 327, 332, 337, 344, 349, 471, 482, 489, 496, 503, 499, 510, 515, 520, 527, 534, 541, 546, 551, 558, 565, 572, 577, 584, 15, 17, 18, 22, 24, 25, 29, 31, 32, 36, 41, 43, 44, 49, 51, 52, 56, 58, 59, 74, 81, 82, 100, 101, 108, 110, 111, 126, 127, 134, 139, 141, 142, 159, 160, 179, 180, 198, 199, 217, 218, 236, 237, 255, 256, 274, 275, 294, 295, 300, 305, 307, 308, 312, 317, 322, 324, 325, 329, 334, 339, 341, 342, 346, 362, 371, 380, 388, 396, 404, 412, 420, 427, 434, 441, 448, 455, 462, 469, 470, 477, 479, 480, 484, 486, 487, 491, 493, 494, 500, 498, 505, 507, 508, 512, 517, 522, 524, 525, 529, 531, 532, 536, 538, 539, 543, 548, 553, 555, 556, 560, 562, 563, 567, 569, 570, 574, 579, 581, 582, 73, 80, 99, 125, 158, 178, 197, 216, 235, 254, 273, 293, 361, 369, 370, 379, 387, 395, 403, 411, 419, 426, 433, 440, 447, 454, 461, 468, 70, 75, 77, 78, 96, 122, 153, 155, 156, 173, 175, 176, 192, 194, 195, 211, 213, 214, 230, 232, 233, 249, 251, 252, 268, 270, 271, 288, 290, 291, 358, 368, 372, 378, 386, 394, 402, 410, 418, 421, 423, 424, 428, 430, 431, 435, 437, 438, 442, 444, 445, 449, 451, 452, 456, 458, 459, 463, 465, 466]
def hk : PySem.W.Hook where
  α := He.AlD × Bool × List He.FnV
  obs := fun s => (He.obsD fa fn (He.frG s.heap.get? ads), prAll (He.frG s.heap.get? ads), prs.map fun t => prV (He.frG s.heap.get? ads) t.1)
  val := fun _ => (He.valD fn, true, prs.map prVal)
  says := fun _ h => ∃ K : PySem.W.Frag, K.In h ∧ He.SaysD fa fn K ∧ prAll K = true ∧ (prs.map fun t => prV K t.1) = prs.map prVal
  of := fun _ s e => ⟨He.frG s.heap.get? ads, He.frG_in, congrArg Prod.fst e, congrArg (fun x => x.2.1) e, congrArg (fun x => x.2.2) e⟩
  keeps := fun _ _ _ ⟨K, hK, c⟩ k => ⟨K, PySem.W.Frag.In.keeps hK k, c⟩
def ob (s : PySem.W.SharedT) : He.AlD × Bool × List He.FnV := (He.obsD fa fn (He.frG (HandSHeadRun.getT s) ads), prAll (He.frG (HandSHeadRun.getT s) ads), prs.map fun t => prV (He.frG (HandSHeadRun.getT s) ads) t.1)
theorem ob_eq (s : PySem.W.SharedT) : ob s = hk.obs s.abs := by
  have e : HandSHeadRun.getT s = s.abs.heap.get? := funext (HandSHeadRun.getT_eq s)
  unfold ob
  rw [e]
  rfl
end K30
end
section
set_option Elab.async false
set_option linter.all false
set_option maxRecDepth 100000
set_option maxHeartbeats 0
namespace K30
open PySem PySem.Spec PyProof.Rows L2 Evl TX
open C8 (Cal pe_c pe_gc)
abbrev R : PySem.W.OpenRow := PySem.W.OpenLaw.row PySem.Challenge.rw_pairsums_k30_whole_kinds_that_bring_back
def nm0 : List Str := ["_wall", "is_integer", "is_between", "is_name", "has_repeats", "is_kind", "word_of", "Net", "Part", "part_at", "Gap", "told_by", "does_come_back", "WrongValue", "InvalidText"]
def nm1 : List Str := ["InvalidKind", "NotATable", "InvalidColumns", "InvalidLost", "WrongName", "NotLost", "check_columns", "check_forms", "has_form", "check_contents", "is_pair", "cells_by_column", "lines_of", "kind_of_line", "columns_of_lines"]
def nm2 : List Str := ["Table", "table_with", "is_cell", "check_table", "check_lost", "check_one_lost", "back", "kinds_back", "_law_spring", "_law_num", "_law_any_of", "_law_draw_store", "_law_span", "_law_ties", "_law_built"]
def nm3 : List Str := ["_law_lose", "_law_right", "MOST_LETTERS", "MOST_COLUMNS", "MOST_SUMS", "MOST_DATA", "MOST_DIAL", "BITS", "PLAIN", "EVEN", "ODD", "WORDS", "LEAST_DIAL"]
def names : List Str := nm0 ++ nm1 ++ nm2 ++ nm3
theorem run (w : World) : HandSHeadRun.RunEq R (PySem.W.view R.prog [68]) hk ob 60000 names w := by
  intro os
  kernel_rfl
end K30
end
section
set_option Elab.async false
set_option linter.all false
set_option maxRecDepth 100000
set_option maxHeartbeats 4000000
namespace K30
open PySem PySem.Spec PyProof.Rows L2 Evl TX
open C8 (Cal pe_c pe_gc)
abbrev FnP (K : PySem.W.Frag) (x : Str) (st : Stmt) (f : Addr) (fd : FuncData) : Prop := FunD K x x (defArgs st) (defBody st) (defScope st) [] [] f fd
structure Tops (mg : Str → Option Value) : Prop where
  n_len : mg "len" = none
  n_int : mg "int" = none
  n_bool : mg "bool" = none
  n_str : mg "str" = none
  n_tuple : mg "tuple" = none
  n_list : mg "list" = none
  n_dict : mg "dict" = none
  n_set : mg "set" = none
  n_abs : mg "abs" = none
  n_divmod : mg "divmod" = none
  n_isinstance : mg "isinstance" = none
  n_repr : mg "repr" = none
  n_range : mg "range" = none
  n_enumerate : mg "enumerate" = none
  n_zip : mg "zip" = none
  n_all : mg "all" = none
  n_any : mg "any" = none
  n_min : mg "min" = none
  n_max : mg "max" = none
  n_sum : mg "sum" = none
  c_MOST_LETTERS : ∃ u, mg "MOST_LETTERS" = some u ∧ RelV (.int 8) u
  c_MOST_COLUMNS : ∃ u, mg "MOST_COLUMNS" = some u ∧ RelV (.int 8) u
  c_MOST_SUMS : ∃ u, mg "MOST_SUMS" = some u ∧ RelV (.int 10) u
  c_MOST_DATA : ∃ u, mg "MOST_DATA" = some u ∧ RelV (.int 24) u
  c_MOST_DIAL : ∃ u, mg "MOST_DIAL" = some u ∧ RelV (.int 1000000000) u
  c_BITS : ∃ u, mg "BITS" = some u ∧ RelV (.str "bits") u
  c_PLAIN : ∃ u, mg "PLAIN" = some u ∧ RelV (.str "plain") u
  c_LEAST_DIAL : ∃ u, mg "LEAST_DIAL" = some u ∧ RelV (.int 3) u
  c_EVEN : ∃ u, mg "EVEN" = some u ∧ RelV (.str "even") u
  c_ODD : ∃ u, mg "ODD" = some u ∧ RelV (.str "odd") u
/-- what never runs -/
theorem ps_dead {X : Cx} {st : Stmt} : PS X st (fun _ _ _ => False) := ⟨fun _ _ _ _ _ _ h => h.elim⟩
/-- a def that gives z, all that stood stays -/
def pSp (R : List V → Hp → V → Prop) : Sp := fun vs H Q _ => ∃ z, R vs H z ∧ ∀ H', Ex H H' → Q z H'
/-- .. that gives data -/
def dSp (R : List V → Hp → PyData → Prop) : Sp := fun vs H Q _ => ∃ d, R vs H d ∧ ∀ v H', Ex H H' → Rep H' v d → Q v H'
theorem ev_pc {R : List V → Hp → V → Prop} {σ : L2.St} {H : Hp} {E : XK} {ta : TA} {vs : List V} {z : V} (h : EvA ta σ H vs) (hr : ∀ H1, Ex H H1 → R vs H1 z) : Ev (tCall (pSp R) [] E ta) σ H z := fun H1 e Q q =>
  h H1 e _ fun H2 e2 => ⟨z, by rw [List.append_nil]; exact hr H2 (e.trans e2), fun H3 e3 => q H3 (e2.trans e3)⟩
theorem er_dc {R : List V → Hp → PyData → Prop} {σ : L2.St} {H : Hp} {E : XK} {ta : TA} {vs : List V} {d : PyData} (h : EvA ta σ H vs) (hr : ∀ H1, Ex H H1 → R vs H1 d) : EvR (tCall (dSp R) [] E ta) σ H d := fun H1 e Q q =>
  h H1 e _ fun H2 e2 => ⟨d, by rw [List.append_nil]; exact hr H2 (e.trans e2), fun v H3 e3 r => q v H3 (e2.trans e3) r⟩
/-- isinstance of a value whose type is known -/
theorem ev_isi {K : PySem.W.Frag} {σ : L2.St} {H : Hp} {ta tb : TE} {x : V} {t u : String} {b : Bool} (ha : Ev ta σ H x) (hb : Ev tb σ H (.ty u)) (ht : ∀ H1, Ex H H1 → TyOf K H1 x (.type t)) (hk : kitB t u = some b) : Ev (tCB (rIsi K) (tCons ta (tCons tb tNil))) σ H (.bl b) :=
  ev_cb (ea_cons ha (ea_cons hb ea_nil)) fun H1 e Q q => ⟨x, .ty u, .type t, .type u, b, rfl, .ty u, .base (ht H1 e), kit_ty hk, q H1 (Ex.refl H1)⟩
theorem ty_tup {K : PySem.W.Frag} {H : Hp} {a : Addr} {xs : List V} (h : H a = some (.tup xs)) : ∀ H1, Ex H H1 → TyOf K H1 (.ref a) (.type "tuple") := fun H1 e => .tup (e _ _ h)
theorem ev_chain {σ : L2.St} {H : Hp} {ta tb tc : TE} {r r' : R2} {x y z : V} {a b : Bool} (ha : Ev ta σ H x) (hb : Ev tb σ H y) (hc : Ev tc σ H z) (h1 : RV r x y H (.bl a)) (h2 : a = true → RV r' y z H (.bl b)) : Ev (tChain r r' ta tb tc) σ H (.bl (a && b)) := fun H1 e Q q =>
  ha H1 e _ fun H2 e2 => hb H2 (e.trans e2) _ fun H3 e3 => h1 H3 ((e.trans e2).trans e3) _ fun H4 e4 => ⟨a, rfl, by
    cases a with
    | true =>
      show tc σ H4 _
      exact hc H4 (((e.trans e2).trans e3).trans e4) _ fun H5 e5 => h2 rfl H5 ((((e.trans e2).trans e3).trans e4).trans e5) Q fun H6 e6 => q H6 ((((e2.trans e3).trans e4).trans e5).trans e6)
    | false => exact q H4 ((e2.trans e3).trans e4)⟩
/-! ### kinds -/
inductive Kd
  | bits | plain | dial (m : Int)
def Kd.v : Kd → V
  | .bits => .str "bits" | .plain => .str "plain" | .dial m => .int m
def Kd.ok : Kd → Prop
  | .bits => True | .plain => True | .dial m => 3 ≤ m ∧ m ≤ 1000000000
/-- whether a name -/
def isName (z : Str) : Bool := decide (1 ≤ z.length ∧ z.length ≤ 8) && z.cps.toList.all fun c => decide (97 ≤ c ∧ c ≤ 122)
section
variable {P : Program} {w : World} {K : PySem.W.Frag} {mg : Str → Option Value} {base : Heap} {f : Addr} {fd : FuncData}
def rInt : List V → Hp → V → Prop := fun vs _ z => ∃ i : Int, vs = [.int i] ∧ z = .bl true
abbrev sc_is_integer_N : List Str := ["value"]
theorem sc_is_integer : FnScope sc_is_integer_N ["value"] (defScope s_is_integer) := ⟨rfl, rfl, rfl, by decide +kernel, rfl, by decide +kernel, by decide +kernel⟩
theorem ok_int (F : FnP K "is_integer" s_is_integer f fd) (T : Tops mg)  : FnOk P w K mg base CX0 1 f fd ["value"] (pSp rInt) := by
  refine F.ok sc_is_integer (fun vs H Q E h => ?_) (fun cdv A outer s H vs Q E hr h => ?_)
  · obtain ⟨z, ⟨i, rfl, _⟩, _⟩ := h; rfl
  · obtain ⟨z, ⟨i, rfl, rfl⟩, k⟩ := h
    refine ⟨_, PSs.nox (pss_one (ps_ret (pe_and (pe_callB call_isi (by rfl) T.n_isinstance (by decide +kernel) (pa_cons (pv 0) (pa_cons (pe_bltn (v := .ty "int") (by rfl) T.n_int (by decide +kernel) rfl) pa_nil))) (pe_one (pe_not (pe_callB call_isi (by rfl) T.n_isinstance (by decide +kernel) (pa_cons (pv 0) (pa_cons (pe_bltn (v := .ty "bool") (by rfl) T.n_bool (by decide +kernel) rfl) pa_nil)))))))), ?_⟩
    refine s_ret (v := .bl true) (ev_is (ev_andV (ev_isi (K := K) (t := "int") (u := "int") (b := true) (ev_var rfl) ev_c (fun _ _ => .int i) (by decide +kernel)) fun _ => ev_notV (ev_isi (K := K) (t := "int") (u := "bool") (b := false) (ev_var rfl) ev_c (fun _ _ => .int i) (by decide +kernel))) rfl) fun H1 e => k H1 e
def rBetw : List V → Hp → V → Prop := fun vs _ z => ∃ i l h : Int, vs = [.int i, .int l, .int h] ∧ z = .bl (decide (l ≤ i) && decide (i ≤ h))
abbrev sc_is_between_N : List Str := ["value", "low", "high"]
theorem sc_is_between : FnScope sc_is_between_N ["value", "low", "high"] (defScope s_is_between) := ⟨rfl, rfl, rfl, by decide +kernel, rfl, by decide +kernel, by decide +kernel⟩
theorem ok_betw (F : FnP K "is_between" s_is_between f fd) (T : Tops mg) (C_is_integer : Cal P w K mg base 1 "is_integer" (pSp rInt) []) : FnOk P w K mg base CX0 2 f fd ["value", "low", "high"] (pSp rBetw) := by
  refine F.ok sc_is_between (fun vs H Q E h => ?_) (fun cdv A outer s H vs Q E hr h => ?_)
  · obtain ⟨z, ⟨i, l, m, rfl, _⟩, _⟩ := h; rfl
  · obtain ⟨z, ⟨i, l, m, rfl, rfl⟩, k⟩ := h
    refine ⟨_, PSs.nox (pss_one (ps_ret (pe_and (pe_c C_is_integer hr (by decide) rfl (pa_cons (pv 0) pa_nil)) (pe_one (pe_chain op_le op_le (pv 1) (pv 0) (pv 2)))))), ?_⟩
    refine s_ret (ev_is (ev_andV (ev_pc (ea_cons (ev_var rfl) ea_nil) fun _ _ => ⟨i, rfl, rfl⟩) fun _ => ev_chain (ev_var rfl) (ev_var rfl) (ev_var rfl) rv_I0 fun _ => rv_I0) rfl) fun H1 e => k H1 e
def rKind : List V → Hp → V → Prop := fun vs _ z => ∃ k : Kd, vs = [k.v] ∧ k.ok ∧ z = .bl true
abbrev sc_is_kind_N : List Str := ["value"]
theorem sc_is_kind : FnScope sc_is_kind_N ["value"] (defScope s_is_kind) := ⟨rfl, rfl, rfl, by decide +kernel, rfl, by decide +kernel, by decide +kernel⟩
theorem ok_kind (F : FnP K "is_kind" s_is_kind f fd) (T : Tops mg) (C_is_between : Cal P w K mg base 2 "is_between" (pSp rBetw) []) : FnOk P w K mg base CX0 3 f fd ["value"] (pSp rKind) := by
  refine F.ok sc_is_kind (fun vs H Q E h => ?_) (fun cdv A outer s H vs Q E hr h => ?_)
  · obtain ⟨z, ⟨i, rfl, _⟩, _⟩ := h; rfl
  · obtain ⟨z, ⟨i, rfl, hk, rfl⟩, k⟩ := h
    refine ⟨_, PSs.nox (pss_cons (ps_if (pt_val (pe_callB call_isi (by rfl) T.n_isinstance (by decide +kernel) (pa_cons (pv 0) (pa_cons (pe_bltn (v := .ty "str") (by rfl) T.n_str (by decide +kernel) rfl) pa_nil))))
  (pss_one (ps_ret (pe_or (pe_cmpR op_eq (pv 0) (pe_gc (by rfl) T.c_BITS) (nomark _)) (pe_one (pe_cmpR op_eq (pv 0) (pe_gc (by rfl) T.c_PLAIN) (nomark _))))))
  pss_nil)
  (pss_one (ps_ret (pe_c C_is_between hr (by decide) rfl (pa_cons (pv 0) (pa_cons (pe_gc (by rfl) T.c_LEAST_DIAL) (pa_cons (pe_gc (by rfl) T.c_MOST_DIAL) pa_nil))))))), ?_⟩
    cases i with
    | bits =>
      refine q_if (b := true) (et_B (ev_isi (K := K) (t := "str") (u := "str") (ev_var rfl) ev_c (fun _ _ => .str _) (by decide +kernel))) (fun _ H1 e1 => ?_) (fun z => (nomatch z))
      exact s_ret (v := .bl true) (ev_is (ev_orV (b := true) (ev_op (ev_var rfl) ev_c (rv_eq rfl)) fun z => absurd z (by decide)) rfl) fun H2 e2 => k H2 (e1.trans e2)
    | plain =>
      refine q_if (b := true) (et_B (ev_isi (K := K) (t := "str") (u := "str") (ev_var rfl) ev_c (fun _ _ => .str _) (by decide +kernel))) (fun _ H1 e1 => ?_) (fun z => (nomatch z))
      exact s_ret (v := .bl true) (ev_is (ev_orV (ev_op (ev_var rfl) ev_c (rv_eq rfl)) fun _ => ev_op (ev_var rfl) ev_c (rv_eq rfl)) (by decide +kernel)) fun H2 e2 => k H2 (e1.trans e2)
    | dial m =>
      refine q_when (b := false) (et_B (ev_isi (K := K) (t := "int") (u := "str") (ev_var rfl) ev_c (fun _ _ => .int _) (by decide +kernel))) (fun z => (nomatch z)) (fun _ H1 e1 => ?_)
      obtain ⟨h1, h2⟩ := hk
      exact s_ret (v := .bl true) (ev_is (ev_pc (ea_cons (ev_var rfl) (ea_cons ev_c (ea_cons ev_c ea_nil))) fun _ _ => ⟨m, 3, 1000000000, rfl, rfl⟩) (by rw [decide_eq_true h1, decide_eq_true h2]; rfl)) fun H2 e2 => k H2 (e1.trans e2)
theorem lt1 {a b : Nat} : (([a] : List Nat) < [b]) ↔ a < b := by simp [List.cons_lt_cons_iff]
def rLeS : R2 := fun x y H Q => ∃ i j, x = .str i ∧ y = .str j ∧ Q (.bl (!decide (j.cps.toList < i.cps.toList))) H
def rName : List V → Hp → V → Prop := fun vs _ z => ∃ x : Str, vs = [.str x] ∧ isName x = true ∧ z = .bl true
abbrev sc_is_name_N : List Str := ["value", "letter"]
theorem sc_is_name : FnScope sc_is_name_N ["value"] (defScope s_is_name) := ⟨rfl, rfl, rfl, by decide +kernel, rfl, by decide +kernel, by decide +kernel⟩
theorem ok_name (F : FnP K "is_name" s_is_name f fd) (T : Tops mg)  : FnOk P w K mg base CX0 1 f fd ["value"] (pSp rName) := by
  refine F.ok sc_is_name (fun vs H Q E h => ?_) (fun cdv A outer s H vs Q E hr h => ?_)
  · obtain ⟨z, ⟨i, rfl, _⟩, _⟩ := h; rfl
  · obtain ⟨z, ⟨x, rfl, hx, rfl⟩, k⟩ := h
    refine ⟨_, PSs.nox (pss_cons (ps_if (PW.pt (pw_or (pt_not (pt_val (pe_callB call_isi (by rfl) T.n_isinstance (by decide +kernel) (pa_cons (pv 0) (pa_cons (pe_bltn (v := .ty "str") (by rfl) T.n_str (by decide +kernel) rfl) pa_nil))))) (pw_or1 (pt_not (pt_chain op_le op_le pe_int (pe_callB call_len_str (by rfl) T.n_len PySem.boot_len (pa_cons (pv 0) pa_nil)) (pe_gc (by rfl) T.c_MOST_LETTERS))))))
  (pss_one (ps_ret pe_bl))
  pss_nil)
  (pss_one (ps_ret (pe_callB (cr_all rfl) (by rfl) T.n_all (by decide +kernel) (pa_cons (pe_lc (own := [("letter", 1)]) (g := gName 1) (tt := tYes) rfl sc_is_name.nd (pi_str (pv 0)) (blkOk_by (own := [("letter", 1)]) (N := sc_is_name_N) (sc := defScope s_is_name) (by decide +kernel)) (fun _ _ _ _ _ => (pg_name (i := 1) sc_is_name.nd rfl (.inl rfl))) (fun _ _ _ _ _ => pts_nil) (fun _ _ _ _ _ => (pe_chain op_le_str op_le_str pe_str (pv 1) pe_str))) pa_nil))))), ?_⟩
    obtain ⟨h1, h2⟩ := Bool.and_eq_true_iff.mp hx
    have h1 := of_decide_eq_true h1
    refine q_when (b := false) (et_is (et_or (et_not (et_B (ev_isi (K := K) (t := "str") (u := "str") (b := true) (ev_var rfl) ev_c (fun _ _ => .str _) (by decide +kernel)))) fun _ => et_not (et_test (ev_chain (y := .int x.length) ev_c (ev_cb (ea_cons (ev_var rfl) ea_nil) fun H1 e Q q => ⟨x, rfl, sz_of (by omega), q H1 (Ex.refl H1)⟩) ev_c rv_I0 fun _ => rv_I0))) (by
      rw [decide_eq_true (show (1 : Int) ≤ x.length by omega), decide_eq_true (show (x.length : Int) ≤ 8 by omega)]; rfl)) (fun z => (nomatch z)) fun _ H1 e1 => ?_
    have hl := es_lc (te := tChain rLeS rLeS (tC (.str "a")) (tVar 1) (tC (.str "z"))) (t := tYes) (g := gName 1) (vs := [1]) (wi := iStr (tVar 0)) (σ := start sc_is_name_N [.str x]) (H := H1) (walk_str (z := x)) (by have := h1.2; show x.cps.size ≤ 40000; have e : x.length = x.cps.size := rfl; omega)
      (fun i => (start sc_is_name_N [.str x]).set 1 (some (.str ⟨#[x.cps.getD i 0]⟩))) (fun _ => true) (fun _ => .bool true) (fun H2 e2 R r => ⟨.str x, rfl, x, rfl, r H2 (Ex.refl H2) True.intro⟩) (fun _ _ _ q => q) (fun _ _ => rfl)
      (fun i y H2 H3 R hi e2 _ ⟨e3, c, hc, ey⟩ r => by
        subst e3 ey
        have : x.cps.getD i 0 = c := by rw [Array.getD_eq_getD_getElem?, hc]; rfl
        have q := r _ (Ex.refl _)
        rw [this] at q
        exact q)
      (fun _ H2 _ _ H3 _ Q q => q H3 (Ex.refl H3))
      (fun i H2 hi e2 _ => er_ev (v := .bl true) (ev_is (ev_chain (a := true) (b := true) ev_c (ev_var rfl) ev_c (fun H3 e3 Q q => ⟨_, _, rfl, rfl, ?_⟩) fun _ H3 e3 Q q => ⟨_, _, rfl, rfl, ?_⟩) rfl) (.bl true))
    · refine s_ret (ev_is (ev_allR (bs := (List.range x.cps.size).map fun _ => true) (by rw [TX.filter_all] at hl; rw [List.map_map]; exact hl)) (v := .bl (((List.range x.cps.size).map fun _ => true).all id)) (w := .bl true) (congrArg V.bl (by rw [List.all_eq_true]; intro y hy; obtain ⟨_, _, rfl⟩ := List.mem_map.mp hy; rfl))) fun H2 e2 => k H2 (e1.trans e2)
    all_goals
      have hm : x.cps.getD i 0 ∈ x.cps.toList := by
        rw [Array.getD_eq_getD_getElem?, Array.getElem?_eq_getElem hi]
        exact Array.mem_toList_iff.mpr (Array.getElem_mem hi)
      have hb := of_decide_eq_true (List.all_eq_true.mp h2 _ hm)
    · have e : (!decide ((#[x.cps.getD i 0] : Array Nat).toList < (Str.ofString "a").cps.toList)) = true := by
        have e2 : (Str.ofString "a").cps.toList = [97] := by decide +kernel
        rw [e2, decide_eq_false (fun z => by have := lt1.mp z; omega)]; rfl
      rw [e]
      exact q H3 (Ex.refl H3)
    · have e : (!decide ((Str.ofString "z").cps.toList < (#[x.cps.getD i 0] : Array Nat).toList)) = true := by
        have e2 : (Str.ofString "z").cps.toList = [122] := by decide +kernel
        rw [e2, decide_eq_false (fun z => by have := lt1.mp z; omega)]; rfl
      rw [e]
      exact q H3 (Ex.refl H3)
def rRep (K : PySem.W.Frag) : List V → Hp → V → Prop := fun vs H z => ∃ (l : Addr) (xs : List Str), vs = [.ref l] ∧ SqL K H l (xs.map V.str) ∧ xs.length ≤ 1000 ∧ z = .bl (decide ((ST.cn xs xs.length : Int) < (xs.length : Int)))
abbrev sc_has_repeats_N : List Str := ["words"]
theorem sc_has_repeats : FnScope sc_has_repeats_N ["words"] (defScope s_has_repeats) := ⟨rfl, rfl, rfl, by decide +kernel, rfl, by decide +kernel, by decide +kernel⟩
theorem ok_reps (F : FnP K "has_repeats" s_has_repeats f fd) (T : Tops mg)  : FnOk P w K mg base CX0 1 f fd ["words"] (pSp (rRep K)) := by
  refine F.ok sc_has_repeats (fun vs H Q E h => ?_) (fun cdv A outer s H vs Q E hr h => ?_)
  · obtain ⟨z, ⟨i, xs, rfl, _⟩, _⟩ := h; rfl
  · obtain ⟨z, ⟨l, xs, rfl, hl, hz, rfl⟩, k⟩ := h
    refine ⟨_, PSs.nox (pss_one (ps_ret (pe_cmpR op_lt (ST.pe_lenSetS rfl (by rfl) T.n_len (by rfl) T.n_set (pv 0)) (pe_callB call_len_seq (by rfl) T.n_len PySem.boot_len (pa_cons (pv 0) pa_nil)) (nomark _)))), ?_⟩
    refine s_ret (ev_is (ev_op (x := .int (ST.cn xs xs.length)) (fun H1 e Q q => ⟨.ref l, rfl, l, xs, rfl, ex_l e hl, hz, q H1 (Ex.refl H1)⟩) (ev_len (ev_var rfl) hl) rv_I0) (by rw [List.length_map])) fun H1 e => k H1 e
def okV : Kd → Int → Int → Bool
  | .bits, i, _ => decide (0 ≤ i) && decide (i ≤ 1152921504606846975)
  | .plain, i, b => decide (-b ≤ i) && decide (i ≤ b)
  | .dial m, i, _ => decide (0 ≤ i) && decide (i ≤ m - 1)
def rVal : List V → Hp → V → Prop := fun vs _ z => ∃ (k : Kd) (i b : Int), vs = [k.v, .int i, .int b] ∧ z = .bl (okV k i b)
def tog : Kd → List Int → Int
  | .bits, ns => ns.foldl (fun a b => Builtin.bitXor a b) 0
  | .plain, ns => ns.sum
  | .dial m, ns => ns.sum % m
def rTog (K : PySem.W.Frag) : List V → Hp → V → Prop := fun vs H z => ∃ (k : Kd) (l : Addr) (ns : List Int), vs = [k.v, .ref l] ∧ k.ok ∧ SqL K H l (ns.map V.int) ∧ ns.length ≤ 1000 ∧ z = .int (tog k ns)
end
end K30
end
section
set_option Elab.async false
set_option linter.all false
set_option maxRecDepth 100000
set_option maxHeartbeats 4000000
namespace K30
open PySem PySem.Spec PyProof.Rows L2 Evl TX
open C8 (Cal pe_c pe_gc)
/-! ### columns -/
structure Col where
  nm : Str
  sums : List Str
  data : List (Str × Str)
def pairD (p : Str × Str) : PyData := .tuple [.str p.1, .str p.2]
def colD (c : Col) : PyData := .tuple [.str c.nm, .tuple (c.sums.map PyData.str), .tuple (c.data.map pairD)]
def colsD (cs : List Col) : PyData := .tuple (cs.map colD)
def sumsOf (cs : List Col) : List Str := cs.flatMap (·.sums)
def dataOf (cs : List Col) : List (Str × Str) := cs.flatMap (·.data)
def pairOk (S : List Str) (p : Str × Str) : Prop := p.1 ∈ S ∧ p.2 ∈ S ∧ p.1.cps.toList < p.2.cps.toList
structure Good (cs : List Col) : Prop where
  ne : cs ≠ []
  len : cs.length ≤ 8
  nms : ∀ c ∈ cs, isName c.nm = true
  sms : ∀ c ∈ cs, ∀ w ∈ c.sums, isName w = true
  nd : (cs.map (·.nm)).Nodup
  snd : (sumsOf cs).Nodup
  sne : sumsOf cs ≠ []
  slen : (sumsOf cs).length ≤ 10
  dlen : (dataOf cs).length ≤ 24
  prs : ∀ c ∈ cs, ∀ p ∈ c.data, pairOk (sumsOf cs) p
theorem sums_take (cs : List Col) (i : Nat) (c : Col) (h : cs[i]? = some c) : sumsOf (cs.take (i + 1)) = sumsOf (cs.take i) ++ c.sums := by
  unfold sumsOf
  rw [List.take_succ, h, List.flatMap_append]
  simp
theorem data_take (cs : List Col) (i : Nat) (c : Col) (h : cs[i]? = some c) : dataOf (cs.take (i + 1)) = dataOf (cs.take i) ++ c.data := by
  unfold dataOf
  rw [List.take_succ, h, List.flatMap_append]
  simp
theorem flat_sub {α : Type} {f : Col → List α} (cs : List Col) (i : Nat) : ((cs.take i).flatMap f).Sublist (cs.flatMap f) := by
  have e : cs.flatMap f = (cs.take i).flatMap f ++ (cs.drop i).flatMap f := by rw [← List.flatMap_append, List.take_append_drop]
  rw [e]
  exact List.sublist_append_left _ _
theorem Reps.cols {H : Hp} {cs : List Col} {xs : List V} (r : Reps H xs (cs.map colD)) {i : Nat} {x : V} (h : xs[i]? = some x) : ∃ c, cs[i]? = some c ∧ Rep H x (colD c) := by
  obtain ⟨d, hd, rd⟩ := r.at h
  rw [List.getElem?_map] at hd
  obtain ⟨c, h1, h2⟩ := Option.map_eq_some_iff.mp hd
  exact ⟨c, h1, by rw [h2]; exact rd⟩
theorem Rep.col {H : Hp} {v : V} {c : Col} (r : Rep H v (colD c)) : ∃ a s d ds, v = .ref a ∧ H a = some (.tup [.str c.nm, .ref s, .ref d]) ∧ H s = some (.tup (c.sums.map V.str)) ∧ H d = some (.tup ds) ∧ Reps H ds (c.data.map pairD) := by
  obtain ⟨a, x, y, z, rfl, h, h1, h2, h3⟩ := Rep.three r
  obtain ⟨s, ss, rfl, hs, rs⟩ := h2.tup_inv
  obtain ⟨d, ds, rfl, hd, rd⟩ := h3.tup_inv
  rw [h1.str_inv] at h
  rw [rs.strs] at hs
  exact ⟨a, s, d, ds, rfl, h, hs, hd, rd⟩
theorem Rep.prt {H : Hp} {v : V} {p : Str × Str} (r : Rep H v (pairD p)) : ∃ a, v = .ref a ∧ H a = some (.tup [.str p.1, .str p.2]) := by
  obtain ⟨a, x, y, rfl, h, h1, h2⟩ := Rep.two r
  rw [h1.str_inv, h2.str_inv] at h
  exact ⟨a, rfl, h⟩
theorem all_true {α : Type} (xs : List α) : ((xs.map fun _ => true).all id) = true := by
  rw [List.all_eq_true]
  intro y hy
  obtain ⟨_, _, rfl⟩ := List.mem_map.mp hy
  rfl
theorem map_bool (n : Nat) : (List.range n).map (fun _ => PyData.bool true) = ((List.range n).map fun _ => true).map PyData.bool := by rw [List.map_map]; rfl
section
variable {P : Program} {w : World} {K : PySem.W.Frag} {mg : Str → Option Value} {base : Heap} {f : Addr} {fd : FuncData}
def rForm : List V → Hp → V → Prop := fun vs H z => ∃ (v : V) (c : Col), vs = [v] ∧ Rep H v (colD c) ∧ isName c.nm = true ∧ (∀ w ∈ c.sums, isName w = true) ∧ c.sums.length ≤ 1000 ∧ z = .bl true
abbrev sc_has_form_N : List Str := ["column", "name", "sums", "data", "word"]
theorem sc_has_form : FnScope sc_has_form_N ["column"] (defScope s_has_form) := ⟨rfl, rfl, rfl, by decide +kernel, rfl, by decide +kernel, by decide +kernel⟩
theorem ok_form (F : FnP K "has_form" s_has_form f fd) (T : Tops mg) (C_is_name : Cal P w K mg base 1 "is_name" (pSp rName) []) : FnOk P w K mg base CX0 2 f fd ["column"] (pSp rForm) := by
  refine F.ok sc_has_form (fun vs H Q E h => ?_) (fun cdv A outer s H vs Q E hr h => ?_)
  · obtain ⟨z, ⟨v, c, rfl, _⟩, _⟩ := h; rfl
  · obtain ⟨z, ⟨v, c, rfl, r, hn, hs, hz, rfl⟩, k⟩ := h
    refine ⟨_, PSs.nox (pss_cons (ps_if (PW.pt (pw_or (pt_not (pt_val (pe_callB call_isi (by rfl) T.n_isinstance (by decide +kernel) (pa_cons (pv 0) (pa_cons (pe_bltn (v := .ty "tuple") (by rfl) T.n_tuple (by decide +kernel) rfl) pa_nil))))) (pw_or1 (pt_cmpR op_ne (pe_callB call_len_seq (by rfl) T.n_len PySem.boot_len (pa_cons (pv 0) pa_nil)) pe_int (nomark _)))))
  (pss_one (ps_ret pe_bl))
  pss_nil)
  (pss_cons (ps_asg (pv 0) (pg_tup rfl (pgs_cons (pg_name (i := 1) sc_has_form.nd rfl (.inl rfl)) (pgs_cons (pg_name (i := 2) sc_has_form.nd rfl (.inl rfl)) (pgs_cons (pg_name (i := 3) sc_has_form.nd rfl (.inl rfl)) pgs_nil)))))
  (pss_cons (ps_if (PW.pt (pw_or (pt_not (pt_val (pe_c C_is_name hr (by decide) rfl (pa_cons (pv 1) pa_nil)))) (pw_or (pt_not (pt_val (pe_callB call_isi (by rfl) T.n_isinstance (by decide +kernel) (pa_cons (pv 2) (pa_cons (pe_bltn (v := .ty "tuple") (by rfl) T.n_tuple (by decide +kernel) rfl) pa_nil))))) (pw_or1 (pt_not (pt_val (pe_callB call_isi (by rfl) T.n_isinstance (by decide +kernel) (pa_cons (pv 3) (pa_cons (pe_bltn (v := .ty "tuple") (by rfl) T.n_tuple (by decide +kernel) rfl) pa_nil)))))))))
  (pss_one (ps_ret pe_bl))
  pss_nil)
  (pss_one (ps_ret (pe_callB (cr_all rfl) (by rfl) T.n_all (by decide +kernel) (pa_cons (pe_lc (own := [("word", 4)]) (g := gName 4) (tt := tYes) rfl sc_has_form.nd (pi_tup (pv 2)) (blkOk_by (own := [("word", 4)]) (N := sc_has_form_N) (sc := defScope s_has_form) (by decide +kernel)) (fun _ _ _ _ _ => (pg_name (i := 4) sc_has_form.nd rfl (.inl rfl))) (fun _ _ _ _ _ => pts_nil) (fun _ _ _ _ _ => (pe_c C_is_name hr (by decide) rfl (pa_cons (pv 4) pa_nil)))) pa_nil))))))), ?_⟩
    obtain ⟨a, s, d, ds, rfl, ha, hs1, hd, rd⟩ := Rep.col r
    refine q_when (b := false) (et_is (et_or (et_not (et_B (ev_isi (K := K) (t := "tuple") (u := "tuple") (b := true) (ev_var rfl) ev_c (ty_tup ha) (by decide +kernel)))) fun _ => et_test (ev_op (ev_lenR (K := K) (er_var rfl r)) ev_c (rv_ne rfl))) (by simp)) (fun z => (nomatch z)) fun _ H1 e1 => ?_
    refine q_unp3 (K := K) (ev_var rfl) (e1 _ _ ha) fun H2 e2 => ?_
    have e12 := e1.trans e2
    refine q_when (b := false) (et_is (et_or (et_not (et_B (ev_pc (ea_cons (ev_var rfl) ea_nil) fun _ _ => ⟨_, rfl, hn, rfl⟩))) fun _ => et_or (et_not (et_B (ev_isi (K := K) (t := "tuple") (u := "tuple") (b := true) (ev_var rfl) ev_c (ty_tup (e12 _ _ hs1)) (by decide +kernel)))) fun _ => et_not (et_B (ev_isi (K := K) (t := "tuple") (u := "tuple") (b := true) (ev_var rfl) ev_c (ty_tup (e12 _ _ hd)) (by decide +kernel)))) rfl) (fun z => (nomatch z)) fun _ H3 e3 => ?_
    have e13 := e12.trans e3
    have hl := es_lcT1 (K := K) (te := tCall (pSp rName) [] C8.E0 (tCons (tVar 4) tNil)) (g := gName 4) (vs := [4]) (tl := tVar 2) (σ := [some (.ref a), some (.str c.nm), some (.ref s), some (.ref d), none]) (H := H3) (ev_var rfl) (e13 _ _ hs1) (by rw [List.length_map]; omega)
      (fun i => [some (.ref a), some (.str c.nm), some (.ref s), some (.ref d), (c.sums.map V.str)[i]?]) (fun _ => .bool true) (fun _ _ => rfl) (fun i x H4 R hi e4 r => by rw [hi] at r; exact r)
      (fun i x H4 hi e4 => by
        rw [List.getElem?_map] at hi
        obtain ⟨w, h1, h2⟩ := Option.map_eq_some_iff.mp hi
        exact er_ev (ev_pc (vs := [.str w]) (z := .bl true) (ea_cons (ev_var (by rw [List.getElem?_map, h1]; rfl)) ea_nil) fun _ _ => ⟨w, rfl, hs w (List.mem_of_getElem? h1), rfl⟩) (.bl true))
    rw [map_bool] at hl
    exact s_ret (v := .bl true) (ev_is (ev_allR (K := K) hl) (congrArg V.bl (all_true _))) fun H4 e4 => k H4 (e13.trans e4)
def rPair (K : PySem.W.Frag) : List V → Hp → V → Prop := fun vs H z => ∃ (v : V) (l : Addr) (p : Str × Str) (S : List Str), vs = [v, .ref l] ∧ Rep H v (pairD p) ∧ SqL K H l (S.map V.str) ∧ pairOk S p ∧ z = .bl true
abbrev sc_is_pair_N : List Str := ["datum", "sums", "one", "other"]
theorem sc_is_pair : FnScope sc_is_pair_N ["datum", "sums"] (defScope s_is_pair) := ⟨rfl, rfl, rfl, by decide +kernel, rfl, by decide +kernel, by decide +kernel⟩
theorem ok_pair (F : FnP K "is_pair" s_is_pair f fd) (T : Tops mg)  : FnOk P w K mg base CX0 1 f fd ["datum", "sums"] (pSp (rPair K)) := by
  refine F.ok sc_is_pair (fun vs H Q E h => ?_) (fun cdv A outer s H vs Q E hr h => ?_)
  · obtain ⟨z, ⟨v, l, _, _, rfl, _⟩, _⟩ := h; rfl
  · obtain ⟨z, ⟨v, l, p, S, rfl, r, hl, ⟨h1, h2, h3⟩, rfl⟩, k⟩ := h
    refine ⟨_, PSs.nox (pss_cons (ps_if (PW.pt (pw_or (pt_not (pt_val (pe_callB call_isi (by rfl) T.n_isinstance (by decide +kernel) (pa_cons (pv 0) (pa_cons (pe_bltn (v := .ty "tuple") (by rfl) T.n_tuple (by decide +kernel) rfl) pa_nil))))) (pw_or1 (pt_cmpR op_ne (pe_callB call_len_seq (by rfl) T.n_len PySem.boot_len (pa_cons (pv 0) pa_nil)) pe_int (nomark _)))))
  (pss_one (ps_ret pe_bl))
  pss_nil)
  (pss_cons (ps_asg (pv 0) (pg_tup rfl (pgs_cons (pg_name (i := 2) sc_is_pair.nd rfl (.inl rfl)) (pgs_cons (pg_name (i := 3) sc_is_pair.nd rfl (.inl rfl)) pgs_nil))))
  (pss_cons (ps_if (PW.pt (pw_or (pt_not (pt_val (pe_callB call_isi (by rfl) T.n_isinstance (by decide +kernel) (pa_cons (pv 2) (pa_cons (pe_bltn (v := .ty "str") (by rfl) T.n_str (by decide +kernel) rfl) pa_nil))))) (pw_or1 (pt_not (pt_val (pe_callB call_isi (by rfl) T.n_isinstance (by decide +kernel) (pa_cons (pv 3) (pa_cons (pe_bltn (v := .ty "str") (by rfl) T.n_str (by decide +kernel) rfl) pa_nil))))))))
  (pss_one (ps_ret pe_bl))
  pss_nil)
  (pss_one (ps_ret (pe_and (pe_cmpR op_in_seq (pv 2) (pv 1) rfl) (pe_and (pe_cmpR op_in_seq (pv 3) (pv 1) rfl) (pe_one (pe_cmpR op_lt_str (pv 2) (pv 3) (nomark _)))))))))), ?_⟩
    obtain ⟨a, rfl, ha⟩ := Rep.prt r
    refine q_when (b := false) (et_is (et_or (et_not (et_B (ev_isi (K := K) (t := "tuple") (u := "tuple") (b := true) (ev_var rfl) ev_c (ty_tup ha) (by decide +kernel)))) fun _ => et_test (ev_op (ev_lenR (K := K) (er_var rfl r)) ev_c (rv_ne rfl))) (by simp)) (fun z => (nomatch z)) fun _ H1 e1 => ?_
    refine q_unp2 (K := K) (ev_var rfl) (e1 _ _ ha) fun H2 e2 => ?_
    refine q_when (b := false) (et_is (et_or (et_not (et_B (ev_isi (K := K) (t := "str") (u := "str") (b := true) (ev_var rfl) ev_c (fun _ _ => .str _) (by decide +kernel)))) fun _ => et_not (et_B (ev_isi (K := K) (t := "str") (u := "str") (b := true) (ev_var rfl) ev_c (fun _ _ => .str _) (by decide +kernel)))) rfl) (fun z => (nomatch z)) fun _ H3 e3 => ?_
    have hl3 := ex_l ((e1.trans e2).trans e3) hl
    exact s_ret (v := .bl true) (ev_is (ev_andV (b := true) (ev_op (ev_var rfl) (ev_var rfl) (rv_isL hl3 rfl (flat_strs S))) fun _ => ev_is (ev_andV (b := true) (ev_op (ev_var rfl) (ev_var rfl) (rv_isL hl3 rfl (flat_strs S))) fun _ => ev_is (ev_op (ev_var rfl) (ev_var rfl) (fun H4 e4 Q q => ⟨p.1, p.2, rfl, rfl, q H4 (Ex.refl H4)⟩)) (congrArg V.bl (decide_eq_true h3))) (congrArg V.bl (by rw [inV_str h2]; rfl))) (congrArg V.bl (by rw [inV_str h1]; rfl))) fun H4 e4 => k H4 (((e1.trans e2).trans e3).trans e4)
end
end K30
end
section
set_option Elab.async false
set_option linter.all false
set_option maxRecDepth 100000
set_option maxHeartbeats 4000000
namespace K30
open PySem PySem.Spec PyProof.Rows L2 Evl TX
open C8 (Cal pe_c pe_gc)
theorem no_reps {xs : List Str} (nd : xs.Nodup) : decide ((ST.cn xs xs.length : Int) < (xs.length : Int)) = false := decide_eq_false (by rw [ST.cn_nodup nd _ (Nat.le_refl _)]; omega)
theorem ne_two {H : Hp} {n s : Addr} {o : HO} (h1 : H n = some o) (h2 : H s = none) : s ≠ n := fun z => by rw [z, h1] at h2; cases h2
def rCols : List V → Hp → V → Prop := fun vs H z => ∃ (v : V) (cs : List Col), vs = [v] ∧ Rep H v (colsD cs) ∧ Good cs ∧ z = .non
def rCols2 (K : PySem.W.Frag) : List V → Hp → V → Prop := fun vs H z => ∃ (v : V) (l : Addr) (cs : List Col), vs = [v, .ref l] ∧ Rep H v (colsD cs) ∧ SqL K H l ((sumsOf cs).map V.str) ∧ Good cs ∧ z = .non
section
variable {P : Program} {w : World} {K : PySem.W.Frag} {mg : Str → Option Value} {base : Heap} {f : Addr} {fd : FuncData}
abbrev sc_check_forms_N : List Str := ["columns", "names", "sums", "index", "column"]
theorem sc_check_forms : FnScope sc_check_forms_N ["columns"] (defScope s_check_forms) := ⟨rfl, rfl, rfl, by decide +kernel, rfl, by decide +kernel, by decide +kernel⟩
theorem ok_forms (F : FnP K "check_forms" s_check_forms f fd) (T : Tops mg) (C_has_form : Cal P w K mg base 2 "has_form" (pSp rForm) []) (C_has_repeats : Cal P w K mg base 1 "has_repeats" (pSp (rRep K)) []) : FnOk P w K mg base CX0 3 f fd ["columns"] (pSp rCols) := by
  refine F.ok sc_check_forms (fun vs H Q E h => ?_) (fun cdv A outer s H vs Q E hr h => ?_)
  · obtain ⟨z, ⟨v, cs, rfl, _⟩, _⟩ := h; rfl
  · obtain ⟨z, ⟨v, cs, rfl, r, G, rfl⟩, k⟩ := h
    refine ⟨_, PSs.nox (pss_cons (ps_set (i := 1) sc_check_forms.nd rfl (.inl rfl) (pe_lst pa_nil))
  (pss_cons (ps_set (i := 2) sc_check_forms.nd rfl (.inl rfl) (pe_lst pa_nil))
  (pss_one (ps_for PassesOwn.never rfl (ET.pi_enumT (by rfl) T.n_enumerate (pa_cons (pv 0) pa_nil)) (pg_tup rfl (pgs_cons (pg_name (i := 3) sc_check_forms.nd rfl (.inl rfl)) (pgs_cons (pg_name (i := 4) sc_check_forms.nd rfl (.inl rfl)) pgs_nil)))
  (pss_cons (ps_if (PW.pt (pw_or (pt_cmpR op_eq (pv 3) (pe_gc (by rfl) T.c_MOST_COLUMNS) (nomark _)) (pw_or1 (pt_not (pt_val (pe_c C_has_form hr (by decide) rfl (pa_cons (pv 4) pa_nil)))))))
  (pss_one ps_dead)
  pss_nil)
  (pss_cons (ps_expr (pe_bm PySem.F.plainAttrs_list PySem.F.slot_list_append PySem.F.type_list_append mt_append (pv 1) (pa_cons (pe_ix ix_tup (pv 4) pe_int (fun _ _ => rfl)) pa_nil)))
  (pss_cons (ps_expr (pe_bm PySem.F.plainAttrs_list PySem.F.slot_list_extend PySem.F.type_list_extend TX.mt_extendT (pv 2) (pa_cons (pe_ix ix_tup (pv 4) pe_int (fun _ _ => rfl)) pa_nil)))
  (pss_one (ps_if (PW.pt (pw_or (pt_val (pe_c C_has_repeats hr (by decide) rfl (pa_cons (pv 1) pa_nil))) (pw_or1 (pt_val (pe_c C_has_repeats hr (by decide) rfl (pa_cons (pv 2) pa_nil))))))
  (pss_one ps_dead)
  pss_nil))))))))), ?_⟩
    obtain ⟨a, xs, rfl, ha, rs⟩ := Rep.tup_inv r
    refine q_asgL (el_lst ea_nil (Nat.le_of_ble_eq_true rfl)) fun n H1 n1 e1 h1 => ?_
    refine q_asgL (el_lst ea_nil (Nat.le_of_ble_eq_true rfl)) fun s H2 n2 e2 h2 => ?_
    have hsn := ne_two h1 n2
    have e12 := e1.trans e2
    have fs : H s = none := fresh_back e1 n2
    have lx : xs.length = cs.length := by rw [rs.len, List.length_map]
    refine s_forE (K := K) (a := a) (xs := xs) (ea_cons (ev_var rfl) ea_nil) (e12 _ _ ha) (fun i σ' H' => (∃ y z, σ' = [some (.ref a), some (.ref n), some (.ref s), y, z]) ∧ Ex H H' ∧ H' n = some (.lst ((cs.take i).map fun c => V.str c.nm)) ∧ H' s = some (.lst ((sumsOf (cs.take i)).map V.str)))
      (fun H3 e3 => ⟨⟨none, none, rfl⟩, e12.trans e3, e3 _ _ (e2 _ _ h1), e3 _ _ h2⟩) (fun i σ' H' _ p => p.2.1 _ _ ha) ?_ fun σ' H' p => k H' p.2.1
    rintro i x σ' H3 H4 hx ⟨⟨y, z, rfl⟩, e3, hn, hs⟩ e34
    obtain ⟨c, hc, rc⟩ := Reps.cols rs hx
    have e4 := e3.trans e34
    have lt : i < cs.length := (List.getElem?_eq_some_iff.mp hc).1
    have cm := List.mem_of_getElem? hc
    have hn4 := e34 _ _ hn
    have hs4 := e34 _ _ hs
    have rc4 := rc.ex e4
    obtain ⟨b, sa, da, ds, rfl, hb, hsa, hda, rds⟩ := Rep.col rc4
    have lsum : (sumsOf (cs.take (i + 1))).length ≤ 10 := Nat.le_trans (flat_sub cs (i + 1)).length_le G.slen
    have esum := sums_take cs i c hc
    have lsum2 : (sumsOf (cs.take i)).length + c.sums.length ≤ 10 := by rw [esum, List.length_append] at lsum; exact lsum
    refine q_when (b := false) (et_is (et_or (et_test (ev_op (ev_var rfl) ev_c (rv_eq rfl))) fun _ => et_not (et_B (ev_pc (ea_cons (ev_var rfl) ea_nil) fun H5 e5 => ⟨_, c, rfl, rc4.ex e5, G.nms c cm, G.sms c cm, by omega, rfl⟩))) (by
      rw [decide_eq_false (fun z => by injection z with z; have := G.len; omega)]; rfl)) (fun z => (nomatch z)) fun _ H5 e5 => ?_
    refine q_app (v := .str c.nm) (e5 _ _ hn4) (ev_var rfl) (er_ix (K := K) (i := 0) (er_var rfl (rc4.ex e5)) ev_c rfl).str (by rw [List.length_map, List.length_take]; have := G.len; omega) fun H6 e6 => ?_
    have e56 := e5.trans e6
    have h7n : (upd H6 n (.lst ((cs.take i).map (fun c => V.str c.nm) ++ [.str c.nm]))) n = some (.lst ((cs.take (i + 1)).map fun c => V.str c.nm)) := by rw [upd_same, List.take_succ, hc, List.map_append]; rfl
    have h7s : (upd H6 n (.lst ((cs.take i).map (fun c => V.str c.nm) ++ [.str c.nm]))) s = some (.lst ((sumsOf (cs.take i)).map V.str)) := by rw [upd_ne hsn]; exact e56 _ _ hs4
    have x7 : Ex H (upd H6 n (.lst ((cs.take i).map (fun c => V.str c.nm) ++ [.str c.nm]))) := Ex.mut (e4.trans e56) n1
    have t7 : Tx H4 (upd H6 n (.lst ((cs.take i).map (fun c => V.str c.nm) ++ [.str c.nm]))) := (Tx.ex e56).trans (Tx.put (e56 _ _ hn4))
    generalize upd H6 n (.lst ((cs.take i).map (fun c => V.str c.nm) ++ [.str c.nm])) = H7 at h7n h7s x7 t7 ⊢
    refine q_extT (K := K) (a := sa) (ys := c.sums.map V.str) h7s (ev_var rfl) (ev_op (ev_var rfl) ev_c (rv_ixT (K := K) (i := 1) (st_of (t7 _ _ hb)) rfl)) (st_of (t7 _ _ hsa)) (by rw [List.length_map, List.length_map]; omega) fun H8 e8 => ?_
    have h9s : (upd H8 s (.lst ((sumsOf (cs.take i)).map V.str ++ c.sums.map V.str))) s = some (.lst ((sumsOf (cs.take (i + 1))).map V.str)) := by rw [upd_same, esum, List.map_append]
    have h9n : (upd H8 s (.lst ((sumsOf (cs.take i)).map V.str ++ c.sums.map V.str))) n = some (.lst ((cs.take (i + 1)).map fun c => V.str c.nm)) := by rw [upd_ne hsn.symm]; exact e8 _ _ h7n
    have x9 : Ex H (upd H8 s (.lst ((sumsOf (cs.take i)).map V.str ++ c.sums.map V.str))) := Ex.mut (x7.trans e8) fs
    generalize upd H8 s (.lst ((sumsOf (cs.take i)).map V.str ++ c.sums.map V.str)) = H9 at h9s h9n x9 ⊢
    have nd1 : ((cs.take (i + 1)).map (·.nm)).Nodup := (G.nd.sublist ((List.take_sublist _ _).map _))
    have nd2 : (sumsOf (cs.take (i + 1))).Nodup := G.snd.sublist (flat_sub cs (i + 1))
    have e10 : (cs.take (i + 1)).map (fun c => V.str c.nm) = ((cs.take (i + 1)).map (·.nm)).map V.str := by rw [List.map_map]; rfl
    refine s_when (b := false) (et_is (et_or (et_B (ev_pc (ea_cons (ev_var rfl) ea_nil) fun H10 e11 => ⟨n, (cs.take (i + 1)).map (·.nm), rfl, sq_of (by rw [← e10]; exact e11 _ _ h9n), by rw [List.length_map, List.length_take]; have := G.len; omega, rfl⟩)) fun _ => et_B (ev_pc (ea_cons (ev_var rfl) ea_nil) fun H10 e11 => ⟨s, sumsOf (cs.take (i + 1)), rfl, sq_of (e11 _ _ h9s), by omega, rfl⟩)) (by rw [no_reps nd1, no_reps nd2]; rfl)) (fun z => (nomatch z)) fun _ H10 e11 => ?_
    exact ⟨⟨_, _, rfl⟩, x9.trans e11, e11 _ _ h9n, e11 _ _ h9s⟩
abbrev sc_check_contents_N : List Str := ["columns", "sums", "many_sums", "many_data", "index", "column", "datum"]
theorem sc_check_contents : FnScope sc_check_contents_N ["columns", "sums"] (defScope s_check_contents) := ⟨rfl, rfl, rfl, by decide +kernel, rfl, by decide +kernel, by decide +kernel⟩
theorem ok_contents (F : FnP K "check_contents" s_check_contents f fd) (T : Tops mg) (C_is_pair : Cal P w K mg base 1 "is_pair" (pSp (rPair K)) []) : FnOk P w K mg base CX0 3 f fd ["columns", "sums"] (pSp (rCols2 K)) := by
  refine F.ok sc_check_contents (fun vs H Q E h => ?_) (fun cdv A outer s H vs Q E hr h => ?_)
  · obtain ⟨z, ⟨v, l, cs, rfl, _⟩, _⟩ := h; rfl
  · obtain ⟨z, ⟨v, l, cs, rfl, r, hl, G, rfl⟩, k⟩ := h
    refine ⟨_, PSs.nox (pss_cons (ps_set (i := 2) sc_check_contents.nd rfl (.inl rfl) pe_int)
  (pss_cons (ps_set (i := 3) sc_check_contents.nd rfl (.inl rfl) pe_int)
  (pss_one (ps_for PassesOwn.never rfl (ET.pi_enumT (by rfl) T.n_enumerate (pa_cons (pv 0) pa_nil)) (pg_tup rfl (pgs_cons (pg_name (i := 4) sc_check_contents.nd rfl (.inl rfl)) (pgs_cons (pg_name (i := 5) sc_check_contents.nd rfl (.inl rfl)) pgs_nil)))
  (pss_cons (ps_aug (i := 2) sc_check_contents.nd rfl (.inl rfl) (pe_callB call_len_seq (by rfl) T.n_len PySem.boot_len (pa_cons (pe_ix ix_tup (pv 5) pe_int (fun _ _ => rfl)) pa_nil)) ip_add)
  (pss_cons (ps_aug (i := 3) sc_check_contents.nd rfl (.inl rfl) (pe_callB call_len_seq (by rfl) T.n_len PySem.boot_len (pa_cons (pe_ix ix_tup (pv 5) pe_int (fun _ _ => rfl)) pa_nil)) ip_add)
  (pss_cons (ps_if (PW.pt (pw_or (pt_cmpR op_gt (pv 2) (pe_gc (by rfl) T.c_MOST_SUMS) (nomark _)) (pw_or1 (pt_cmpR op_gt (pv 3) (pe_gc (by rfl) T.c_MOST_DATA) (nomark _)))))
  (pss_one ps_dead)
  pss_nil)
  (pss_one (ps_if (pt_not (pt_val (pe_callB (cr_all rfl) (by rfl) T.n_all (by decide +kernel) (pa_cons (pe_lc (own := [("datum", 6)]) (g := gName 6) (tt := tYes) rfl sc_check_contents.nd (pi_tup (pe_ix ix_tup (pv 5) pe_int (fun _ _ => rfl))) (blkOk_by (own := [("datum", 6)]) (N := sc_check_contents_N) (sc := defScope s_check_contents) (by decide +kernel)) (fun _ _ _ _ _ => (pg_name (i := 6) sc_check_contents.nd rfl (.inl rfl))) (fun _ _ _ _ _ => pts_nil) (fun _ _ _ _ _ => (pe_c C_is_pair hr (by decide) rfl (pa_cons (pv 6) (pa_cons (pv 1) pa_nil))))) pa_nil))))
  (pss_one ps_dead)
  pss_nil))))))))), ?_⟩
    obtain ⟨a, xs, rfl, ha, rs⟩ := Rep.tup_inv r
    refine q_asg ev_c fun H1 e1 => ?_
    refine q_asg ev_c fun H2 e2 => ?_
    have e12 := e1.trans e2
    have lx : xs.length = cs.length := by rw [rs.len, List.length_map]
    refine s_forE (K := K) (a := a) (xs := xs) (ea_cons (ev_var rfl) ea_nil) (e12 _ _ ha) (fun i σ' H' => (∃ y z u, σ' = [some (.ref a), some (.ref l), some (.int ((sumsOf (cs.take i)).length : Int)), some (.int ((dataOf (cs.take i)).length : Int)), y, z, u]) ∧ Ex H H')
      (fun H3 e3 => ⟨⟨none, none, none, rfl⟩, e12.trans e3⟩) (fun i σ' H' _ p => p.2 _ _ ha) ?_ fun σ' H' p => k H' p.2
    rintro i x σ' H3 H4 hx ⟨⟨y, z, u, rfl⟩, e3⟩ e34
    obtain ⟨c, hc, rc⟩ := Reps.cols rs hx
    have e4 := e3.trans e34
    have lt : i < cs.length := (List.getElem?_eq_some_iff.mp hc).1
    have cm := List.mem_of_getElem? hc
    have rc4 := rc.ex e4
    obtain ⟨b, sa, da, ds, rfl, hb, hsa, hda, rds⟩ := Rep.col rc4
    have lsum : (sumsOf (cs.take (i + 1))).length ≤ 10 := Nat.le_trans (flat_sub cs (i + 1)).length_le G.slen
    have ldat : (dataOf (cs.take (i + 1))).length ≤ 24 := Nat.le_trans (flat_sub cs (i + 1)).length_le G.dlen
    have esum : (sumsOf (cs.take (i + 1))).length = (sumsOf (cs.take i)).length + c.sums.length := by rw [sums_take cs i c hc, List.length_append]
    have edat : (dataOf (cs.take (i + 1))).length = (dataOf (cs.take i)).length + c.data.length := by rw [data_take cs i c hc, List.length_append]
    have l1 : ∀ {σ : L2.St} {H5 : Hp}, Ex H4 H5 → σ[5]? = some (some (.ref b)) → Ev (tCB (rLenS K) (tCons (tOp (rIxT K) (tVar 5) (tC (.int 1))) tNil)) σ H5 (.int (c.sums.length : Int)) := fun e5 hσ => by
      have q := ev_lenR (K := K) (er_ix (K := K) (i := 1) (er_var hσ (rc4.ex e5)) ev_c rfl)
      rw [List.length_map] at q
      exact q
    have l2 : ∀ {σ : L2.St} {H5 : Hp}, Ex H4 H5 → σ[5]? = some (some (.ref b)) → Ev (tCB (rLenS K) (tCons (tOp (rIxT K) (tVar 5) (tC (.int 2))) tNil)) σ H5 (.int (c.data.length : Int)) := fun e5 hσ => by
      have q := ev_lenR (K := K) (er_ix (K := K) (i := 2) (er_var hσ (rc4.ex e5)) ev_c rfl)
      rw [List.length_map] at q
      exact q
    refine q_aug rfl (l1 (Ex.refl H4) rfl) fun H5 e5 => ?_
    refine q_aug rfl (l2 e5 rfl) fun H6 e6 => ?_
    have e46 := e5.trans e6
    refine q_when (b := false) (et_is (et_or (et_test (ev_op (ev_var rfl) ev_c rv_I0)) fun _ => et_test (ev_op (ev_var rfl) ev_c rv_I0)) (by
      have z1 : ¬ ((10 : Int) < ((sumsOf (cs.take i)).length : Int) + (c.sums.length : Int)) := by omega
      have z2 : ¬ ((24 : Int) < ((dataOf (cs.take i)).length : Int) + (c.data.length : Int)) := by omega
      rw [decide_eq_false z1, decide_eq_false z2]; rfl)) (fun z => (nomatch z)) fun _ H7 e7 => ?_
    have e47 := e46.trans e7
    have hlst := es_lcT1 (K := K) (te := tCall (pSp (rPair K)) [] C8.E0 (tCons (tVar 6) (tCons (tVar 1) tNil))) (g := gName 6) (vs := [6]) (tl := tOp (rIxT K) (tVar 5) (tC (.int 2)))
      (σ := [some (.ref a), some (.ref l), some (.int (((sumsOf (cs.take i)).length : Int) + (c.sums.length : Int))), some (.int (((dataOf (cs.take i)).length : Int) + (c.data.length : Int))), some (.int (i : Int)), some (.ref b), u]) (H := H7)
      (ev_op (ev_var rfl) ev_c (rv_ixT (K := K) (i := 2) (st_of (e47 _ _ hb)) rfl)) (e47 _ _ hda) (by rw [rds.len, List.length_map]; omega)
      (fun j => [some (.ref a), some (.ref l), some (.int (((sumsOf (cs.take i)).length : Int) + (c.sums.length : Int))), some (.int (((dataOf (cs.take i)).length : Int) + (c.data.length : Int))), some (.int (i : Int)), some (.ref b), ds[j]?]) (fun _ => .bool true) (fun _ _ => rfl) (fun j x H8 R hj e8 r => by rw [hj] at r; exact r)
      (fun j x H8 hj e8 => by
        obtain ⟨d, hd, rd⟩ := rds.at hj
        rw [List.getElem?_map] at hd
        obtain ⟨p, hp, rfl⟩ := Option.map_eq_some_iff.mp hd
        exact er_ev (ev_pc (vs := [x, .ref l]) (z := .bl true) (ea_cons (ev_var (by rw [hj]; rfl)) (ea_cons (ev_var rfl) ea_nil)) fun H9 e9 => ⟨x, l, p, sumsOf cs, rfl, rd.ex ((e47.trans e8).trans e9), ex_l (((e4.trans e47).trans e8).trans e9) hl, G.prs c cm p (List.mem_of_getElem? hp), rfl⟩) (.bl true))
    rw [map_bool] at hlst
    refine s_when (b := false) (et_is (et_not (et_B (ev_allR (K := K) hlst))) (by rw [all_true]; rfl)) (fun z => (nomatch z)) fun _ H8 e8 => ?_
    refine ⟨⟨some (.int (i : Int)), some (.ref b), u, ?_⟩, (e4.trans e47).trans e8⟩
    rw [esum, edat]
    rfl
end
end K30
end
section
set_option Elab.async false
set_option linter.all false
set_option maxRecDepth 100000
set_option maxHeartbeats 4000000
namespace K30
open PySem PySem.Spec PyProof.Rows L2 Evl TX
open C8 (Cal pe_c pe_gc)
theorem rg {α β : Type} (F : α → β) (d : α) : ∀ xs : List α, (List.range xs.length).map (fun i => F (xs.getD i d)) = xs.map F
  | [] => rfl
  | x :: xs => by
    rw [List.length_cons, List.range_succ_eq_map, List.map_cons, List.map_map]
    exact congrArg (F x :: ·) (rg F d xs)
theorem rgf {α β : Type} (F : α → List β) (d : α) (xs : List α) : (List.range xs.length).flatMap (fun i => F (xs.getD i d)) = xs.flatMap F := by
  have e := rg F d xs
  rw [List.flatMap_def, e, ← List.flatMap_def]
def c0 : Col := ⟨Str.empty, [], []⟩
theorem getc {cs : List Col} {i : Nat} (h : i < cs.length) : cs[i]? = some (cs.getD i c0) := by rw [List.getD_eq_getElem?_getD, List.getElem?_eq_getElem h]; rfl
/-- where the columns' parts stand -/
structure Fc (H : Hp) (xs : List V) (cs : List Col) (F : Nat → Addr × Addr × Addr × List V) : Prop where
  at_ : ∀ i, i < cs.length → xs[i]? = some (.ref (F i).1)
  col : ∀ i, i < cs.length → H (F i).1 = some (.tup [.str (cs.getD i c0).nm, .ref (F i).2.1, .ref (F i).2.2.1])
  sm : ∀ i, i < cs.length → H (F i).2.1 = some (.tup ((cs.getD i c0).sums.map V.str))
  dt : ∀ i, i < cs.length → H (F i).2.2.1 = some (.tup (F i).2.2.2)
  rp : ∀ i, i < cs.length → Reps H (F i).2.2.2 ((cs.getD i c0).data.map pairD)
theorem Fc.ex {H H' : Hp} {xs : List V} {cs : List Col} {F : Nat → Addr × Addr × Addr × List V} (f : Fc H xs cs F) (e : Ex H H') : Fc H' xs cs F :=
  ⟨f.at_, fun i hi => e _ _ (f.col i hi), fun i hi => e _ _ (f.sm i hi), fun i hi => e _ _ (f.dt i hi), fun i hi => (f.rp i hi).ex e⟩
theorem Reps.fc {H : Hp} {xs : List V} {cs : List Col} (r : Reps H xs (cs.map colD)) : ∃ F, Fc H xs cs F := by
  have q : ∀ i, ∃ y : Addr × Addr × Addr × List V, i < cs.length → xs[i]? = some (.ref y.1) ∧ H y.1 = some (.tup [.str (cs.getD i c0).nm, .ref y.2.1, .ref y.2.2.1]) ∧ H y.2.1 = some (.tup ((cs.getD i c0).sums.map V.str)) ∧ H y.2.2.1 = some (.tup y.2.2.2) ∧ Reps H y.2.2.2 ((cs.getD i c0).data.map pairD) := fun i => by
    by_cases hi : i < cs.length
    · obtain ⟨x, hx, rx⟩ := r.get (i := i) (d := colD (cs.getD i c0)) (by rw [List.getElem?_map, getc hi]; rfl)
      obtain ⟨a, s, d, ds, rfl, h1, h2, h3, h4⟩ := Rep.col rx
      exact ⟨(a, s, d, ds), fun _ => ⟨hx, h1, h2, h3, h4⟩⟩
    · exact ⟨(0, 0, 0, []), fun z => absurd z hi⟩
  obtain ⟨F, hF⟩ := Classical.skolem.mp q
  exact ⟨F, fun i hi => (hF i hi).1, fun i hi => (hF i hi).2.1, fun i hi => (hF i hi).2.2.1, fun i hi => (hF i hi).2.2.2.1, fun i hi => (hF i hi).2.2.2.2⟩
theorem Good.c_sums {cs : List Col} (G : Good cs) {i : Nat} (h : i < cs.length) : (cs.getD i c0).sums.length ≤ 10 := by
  have q := sums_take cs i _ (getc h)
  have l := Nat.le_trans (flat_sub (f := (·.sums)) cs (i + 1)).length_le G.slen
  have l2 : (sumsOf (cs.take (i + 1))).length ≤ 10 := l
  rw [q, List.length_append] at l2
  omega
theorem Good.c_data {cs : List Col} (G : Good cs) {i : Nat} (h : i < cs.length) : (cs.getD i c0).data.length ≤ 24 := by
  have q := data_take cs i _ (getc h)
  have l := Nat.le_trans (flat_sub (f := (·.data)) cs (i + 1)).length_le G.dlen
  have l2 : (dataOf (cs.take (i + 1))).length ≤ 24 := l
  rw [q, List.length_append] at l2
  omega
section
variable {P : Program} {w : World} {K : PySem.W.Frag} {mg : Str → Option Value} {base : Heap} {f : Addr} {fd : FuncData}
abbrev sc_check_columns_N : List Str := ["columns", "column", "word", "sums"]
theorem sc_check_columns : FnScope sc_check_columns_N ["columns"] (defScope s_check_columns) := ⟨rfl, rfl, rfl, by decide +kernel, rfl, by decide +kernel, by decide +kernel⟩
theorem ok_cols (F : FnP K "check_columns" s_check_columns f fd) (T : Tops mg) (C_check_forms : Cal P w K mg base 3 "check_forms" (pSp rCols) []) (C_check_contents : Cal P w K mg base 3 "check_contents" (pSp (rCols2 K)) []) : FnOk P w K mg base CX0 4 f fd ["columns"] (pSp rCols) := by
  refine F.ok sc_check_columns (fun vs H Q E h => ?_) (fun cdv A outer s H vs Q E hr h => ?_)
  · obtain ⟨z, ⟨v, cs, rfl, _⟩, _⟩ := h; rfl
  · obtain ⟨z, ⟨v, cs, rfl, r, G, rfl⟩, k⟩ := h
    refine ⟨_, PSs.nox (pss_cons (ps_if (PW.pt (pw_or (pt_not (pt_val (pe_callB call_isi (by rfl) T.n_isinstance (by decide +kernel) (pa_cons (pv 0) (pa_cons (pe_bltn (v := .ty "tuple") (by rfl) T.n_tuple (by decide +kernel) rfl) pa_nil))))) (pw_or1 (pt_not (pt_truth (pv 0) (by intro _; rfl))))))
  (pss_one ps_dead)
  pss_nil)
  (pss_cons (ps_expr (pe_c C_check_forms hr (by decide) rfl (pa_cons (pv 0) pa_nil)))
  (pss_cons (ps_setLc2 (i := 3) (own := [("column", 1), ("word", 2)]) (vs1 := [2]) (wi1 := (iTup K (tOp (rIxT K) (tVar 1) (tC (.int 1))))) (tt := tYes) (tt1 := tYes) (g := gName 1) (g1 := gName 2) rfl sc_check_columns.nd rfl rfl (sw_true rfl rfl rfl (by decide +kernel)) (pi_tup (pv 0)) (blkOk_by (own := [("column", 1), ("word", 2)]) (N := sc_check_columns_N) (sc := defScope s_check_columns) (by decide +kernel)) (by decide) (fun _ _ _ _ _ => (pg_name (i := 1) sc_check_columns.nd rfl (.inl rfl))) (fun _ _ _ _ _ => pts_nil) (fun _ _ _ _ _ => (pi_tup (pe_ix (r := rIxT K) ix_tup (pv 1) pe_int (fun _ _ => rfl)))) (fun _ _ _ _ _ => (pg_name (i := 2) sc_check_columns.nd rfl (.inl rfl))) (fun _ _ _ _ _ => pts_nil) (fun _ _ _ _ _ => (pv 2)))
  (pss_cons (ps_if (pt_not (pt_truth (pv 3) (by intro _; rfl)))
  (pss_one ps_dead)
  pss_nil)
  (pss_one (ps_expr (pe_c C_check_contents hr (by decide) rfl (pa_cons (pv 0) (pa_cons (pv 3) pa_nil))))))))), ?_⟩
    obtain ⟨a, xs, rfl, ha, rs⟩ := Rep.tup_inv r
    obtain ⟨F, hF⟩ := Reps.fc rs
    have lx : xs.length = cs.length := by rw [rs.len, List.length_map]
    have l8 := G.len
    have nx : xs.isEmpty = false := by
      cases xs with
      | nil => exact absurd (List.eq_nil_of_length_eq_zero lx.symm) G.ne
      | cons _ _ => rfl
    refine q_when (b := false) (et_is (et_or (et_not (et_B (ev_isi (K := K) (t := "tuple") (u := "tuple") (b := true) (ev_var rfl) ev_c (ty_tup ha) (by decide +kernel)))) fun _ => et_not (et_tupT (K := K) (ev_var rfl) ha)) (by rw [nx]; rfl)) (fun z => (nomatch z)) fun _ H1 e1 => ?_
    refine q_drop (ev_pc (z := .non) (ea_cons (ev_var rfl) ea_nil) fun H2 e2 => ⟨_, cs, rfl, r.ex (e1.trans e2), G, rfl⟩) fun H2 e2 => ?_
    have e12 := e1.trans e2
    have F2 := hF.ex e12
    have two : Two [some (.ref a), none, none, none] H2 (Itt K a) cs.length (fun H => SqT K H a xs) (YAt xs) (iTup K (tVar 0)) (iTup K (tOp (rIxT K) (tVar 1) (tC (.int 1)))) (gName 1) (gName 2) [1, 2] [2] (fun i => Itt K (F i).2.1) (fun i => (cs.getD i c0).sums.length) (fun i H => SqT K H (F i).2.1 ((cs.getD i c0).sums.map V.str)) (fun i => YAt ((cs.getD i c0).sums.map V.str))
        (fun i => [some (.ref a), some (.ref (F i).1), none, none]) (fun i j => [some (.ref a), some (.ref (F i).1), some (.str ((cs.getD i c0).sums.getD j Str.empty)), none]) := {
      W := by rw [← lx]; exact walk_tup
      W1 := fun i hi => by
        have q := walk_tup (K := K) (a := (F i).2.1) (xs := (cs.getD i c0).sums.map V.str)
        rw [List.length_map] at q
        exact q
      lim := ⟨by omega, fun i hi => by have := G.c_sums hi; omega⟩
      go := fun H3 e3 R q => ⟨.ref a, rfl, a, rfl, ⟨xs, st_of ((e12.trans e3) _ _ ha)⟩, q H3 (Ex.refl H3) (st_of ((e12.trans e3) _ _ ha))⟩
      keep := fun H3 H4 e q => ex_t e q
      wp := fun _ _ => rfl
      tg := fun i x H3 H4 R hi e3 _ ⟨e4, hx⟩ q => by
        subst e4
        rw [hF.at_ i hi] at hx
        cases hx
        exact q _ (Ex.refl _)
      go1 := fun i H3 hi e3 R q => ⟨.ref (F i).1, rfl, (F i).1, _, 1, .ref (F i).2.1, rfl, rfl, st_of (e3 _ _ (F2.col i hi)), rfl, _, rfl, ⟨_, st_of (e3 _ _ (F2.sm i hi))⟩, q H3 (Ex.refl H3)⟩
      keep1 := fun i H3 hi e3 => st_of (e3 _ _ (F2.sm i hi))
      wp1 := fun _ _ _ _ => rfl
      tg1 := fun i j x H3 H4 R hi hj e3 _ ⟨e4, hx⟩ q => by
        subst e4
        rw [List.getElem?_map, List.getElem?_eq_getElem hj] at hx
        cases hx
        have q2 := q _ (Ex.refl _)
        rw [List.getD_eq_getElem?_getD, List.getElem?_eq_getElem hj] at q2
        exact q2 }
    have hl := es_lc2 (te := tVar 2) two (fun i j => .str ((cs.getD i c0).sums.getD j Str.empty)) fun i j H3 hi hj e3 => er_str (ev_var rfl)
    have el : ((List.range cs.length).flatMap fun i => (List.range (cs.getD i c0).sums.length).map fun j => PyData.str ((cs.getD i c0).sums.getD j Str.empty)) = (sumsOf cs).map PyData.str := by
      have q : ∀ c : Col, (List.range c.sums.length).map (fun j => PyData.str (c.sums.getD j Str.empty)) = c.sums.map PyData.str := fun c => rg PyData.str Str.empty c.sums
      simp only [q]
      rw [rgf (fun c : Col => c.sums.map PyData.str) c0 cs]
      unfold sumsOf
      rw [List.map_flatMap]
    rw [el] at hl
    refine q_asgL (el_es hl) fun l H3 _ e3 h3 => ?_
    have ns : ((sumsOf cs).map V.str).isEmpty = false := by
      cases h : sumsOf cs with
      | nil => exact absurd h G.sne
      | cons _ _ => rfl
    refine q_when (b := false) (et_is (et_not (et_lstT (K := K) (ev_var rfl) h3)) (by rw [ns]; rfl)) (fun z => (nomatch z)) fun _ H4 e4 => ?_
    exact s_drop (ev_pc (z := .non) (ea_cons (ev_var rfl) (ea_cons (ev_var rfl) ea_nil)) fun H5 e5 => ⟨_, l, cs, rfl, r.ex (((e12.trans e3).trans e4).trans e5), sq_of ((e4.trans e5) _ _ h3), G, rfl⟩) fun H5 e5 => k H5 (((e12.trans e3).trans e4).trans e5)
end
end K30
end
section
set_option Elab.async false
set_option linter.all false
set_option maxRecDepth 100000
set_option maxHeartbeats 4000000
namespace K30
open PySem PySem.Spec PyProof.Rows L2 Evl TX
open C8 (Cal pe_c pe_gc)
def firstOf (cs : List Col) (i : Nat) : Int := ((dataOf (cs.take i)).length : Int)
def sumC (w : Str) : PyData := .tuple [.str "sum", .str w]
def datC (n : Int) : PyData := .tuple [.str "datum", .int n]
def cellsC (first : Int) (c : Col) : List PyData := c.sums.map sumC ++ (List.range c.data.length).map fun j : Nat => datC (first + (j : Int))
def cellsAt (cs : List Col) (i : Nat) : List PyData := cellsC (firstOf cs i) (cs.getD i c0)
/-- the cells by their columns, a dict -/
def CellsD (H : Hp) (p : Addr) (cs : List Col) : Prop := ∃ zs : List V, H p = some (.dK (zs.zipIdx.map fun z => (.inr (cs.getD z.2 c0).nm, z.1))) ∧ Reps H zs ((List.range cs.length).map fun i => .tuple (cellsAt cs i))
def cSp : Sp := fun vs H Q _ => ∃ (v : V) (cs : List Col), vs = [v] ∧ Rep H v (colsD cs) ∧ Good cs ∧ ∀ p H', H p = none → Ex H H' → CellsD H' p cs → Q (.ref p) H'
theorem first_succ (cs : List Col) {i : Nat} (h : i < cs.length) : firstOf cs (i + 1) = firstOf cs i + ((cs.getD i c0).data.length : Int) := by
  unfold firstOf
  rw [data_take cs i _ (getc h), List.length_append]
  omega
theorem nms_ne {cs : List Col} (G : Good cs) {i j : Nat} (hi : i < cs.length) (hj : j < cs.length) (h : (cs.getD i c0).nm = (cs.getD j c0).nm) : i = j := by
  have q1 : (cs.map (·.nm))[i]? = some (cs.getD i c0).nm := by rw [List.getElem?_map, getc hi]; rfl
  have q2 : (cs.map (·.nm))[j]? = some (cs.getD j c0).nm := by rw [List.getElem?_map, getc hj]; rfl
  obtain ⟨b1, c1⟩ := List.getElem?_eq_some_iff.mp q1
  obtain ⟨b2, c2⟩ := List.getElem?_eq_some_iff.mp q2
  exact (List.getElem_inj G.nd).mp (c1.trans (h.trans c2.symm))
section
variable {P : Program} {w : World} {K : PySem.W.Frag} {mg : Str → Option Value} {base : Heap} {f : Addr} {fd : FuncData}
abbrev sc_cells_by_column_N : List Str := ["columns", "found", "first", "name", "sums", "data", "word", "at"]
theorem sc_cells_by_column : FnScope sc_cells_by_column_N ["columns"] (defScope s_cells_by_column) := ⟨rfl, rfl, rfl, by decide +kernel, rfl, by decide +kernel, by decide +kernel⟩
theorem ok_cbc (F : FnP K "cells_by_column" s_cells_by_column f fd) (T : Tops mg)  : FnOk P w K mg base CX0 1 f fd ["columns"] cSp := by
  refine F.ok sc_cells_by_column (fun vs H Q E h => ?_) (fun cdv A outer s H vs Q E hr h => ?_)
  · obtain ⟨v, cs, rfl, _⟩ := h; rfl
  · obtain ⟨v, cs, rfl, r, G, k⟩ := h
    have hu1 := Nat.lt_of_le_of_lt (Nat.add_le_add_left (by decide : 1 ≤ 64) _) hr.units
    refine ⟨_, PSs.nox (pss_cons (ps_set (i := 1) sc_cells_by_column.nd rfl (.inl rfl) pe_dnewK)
  (pss_cons (ps_set (i := 2) sc_cells_by_column.nd rfl (.inr rfl) pe_int)
  (pss_cons (ps_for PassesOwn.never rfl (pi_tup (pv 0)) (pg_tup rfl (pgs_cons (pg_name (i := 3) sc_cells_by_column.nd rfl (.inl rfl)) (pgs_cons (pg_name (i := 4) sc_cells_by_column.nd rfl (.inl rfl)) (pgs_cons (pg_name (i := 5) sc_cells_by_column.nd rfl (.inl rfl)) pgs_nil))))
  (pss_cons (ps_dput hu1 (pv 1) (pv 3) (pe_callTy call_tuple_of (by rfl) T.n_tuple (by decide +kernel) (pa_cons (pe_op op_cat (pe_lc (own := [("word", 6)]) (g := gName 6) (tt := tYes) rfl sc_cells_by_column.nd (pi_tup (pv 4)) (blkOk_by (own := [("word", 6)]) (N := sc_cells_by_column_N) (sc := defScope s_cells_by_column) (by decide +kernel)) (fun _ _ _ _ _ => (pg_name (i := 6) sc_cells_by_column.nd rfl (.inl rfl))) (fun _ _ _ _ _ => pts_nil) (fun _ _ _ _ _ => (pe_tup (pa_cons pe_str (pa_cons (pv 6) pa_nil))))) (pe_lc (own := [("at", 7)]) (g := gName 7) (tt := tYes) rfl sc_cells_by_column.nd (pi_range1 rfl T.n_range (pa_cons (pe_callB call_len_seq (by rfl) T.n_len PySem.boot_len (pa_cons (pv 5) pa_nil)) pa_nil)) (blkOk_by (own := [("at", 7)]) (N := sc_cells_by_column_N) (sc := defScope s_cells_by_column) (by decide +kernel)) (fun _ _ _ _ _ => (pg_name (i := 7) sc_cells_by_column.nd rfl (.inl rfl))) (fun _ _ _ _ _ => pts_nil) (fun _ _ _ _ _ => (pe_tup (pa_cons pe_str (pa_cons (pe_op op_add (pv 2) (pv 7)) pa_nil)))))) pa_nil)) rfl)
  (pss_one (ps_aug (i := 2) sc_cells_by_column.nd rfl (.inr rfl) (pe_callB call_len_seq (by rfl) T.n_len PySem.boot_len (pa_cons (pv 5) pa_nil)) ip_add))))
  (pss_one (ps_ret (pv 1)))))), ?_⟩
    obtain ⟨a, xs, rfl, ha, rs⟩ := Rep.tup_inv r
    obtain ⟨F, hF⟩ := Reps.fc rs
    have lx : xs.length = cs.length := by rw [rs.len, List.length_map]
    have l8 := G.len
    refine fun p hp => ?_
    have x1 := Ex.new (o := .dK []) hp
    refine q_asg ev_c fun H2 e2 => ?_
    have e02 := x1.trans e2
    have h2p : H2 p = some (.dK []) := e2 _ _ upd_same
    refine q_forT (K := K) (a := a) (xs := xs) (ev_var rfl) (st_of (e02 _ _ ha)) (fun i σ' H' => (∃ n s d w t, σ' = [some (.ref a), some (.ref p), some (.int (firstOf cs i)), n, s, d, w, t]) ∧ Ex H H' ∧ ∃ zs : List V, H' p = some (.dK (zs.zipIdx.map fun z => (.inr (cs.getD z.2 c0).nm, z.1))) ∧ Reps H' zs ((List.range i).map fun i => .tuple (cellsAt cs i)))
      (fun H3 e3 => ⟨⟨none, none, none, none, none, rfl⟩, e02.trans e3, [], e3 _ _ h2p, .nil⟩) (fun i σ' H' _ q => st_of (q.2.1 _ _ ha)) ?_ ?_
    · rintro i x σ' H3 hx ⟨⟨n, s, d, w, t, rfl⟩, e3, zs, hz, rz⟩
      have lt : i < cs.length := by have := (List.getElem?_eq_some_iff.mp hx).1; omega
      rw [hF.at_ i lt] at hx
      cases hx
      have F3 := hF.ex e3
      refine g_three (K := K) (F3.col i lt) ?_
      have lz : zs.length = i := by rw [rz.len, List.length_map, List.length_range]
      have ls := G.c_sums lt
      have ld := G.c_data lt
      have s1 := es_lcT1 (K := K) (te := tTup (tCons (tC (.str "sum")) (tCons (tVar 6) tNil))) (g := gName 6) (vs := [6]) (tl := tVar 4)
        (σ := [some (.ref a), some (.ref p), some (.int (firstOf cs i)), some (.str (cs.getD i c0).nm), some (.ref (F i).2.1), some (.ref (F i).2.2.1), w, t]) (H := H3) (ev_var rfl) (F3.sm i lt) (by rw [List.length_map]; omega)
        (fun j => [some (.ref a), some (.ref p), some (.int (firstOf cs i)), some (.str (cs.getD i c0).nm), some (.ref (F i).2.1), some (.ref (F i).2.2.1), some (.str ((cs.getD i c0).sums.getD j Str.empty)), t]) (fun j => sumC ((cs.getD i c0).sums.getD j Str.empty)) (fun _ _ => rfl)
        (fun j y H4 R hj e4 q => by
          rw [List.getElem?_map] at hj
          obtain ⟨z, h1, h2⟩ := Option.map_eq_some_iff.mp hj
          have e : (cs.getD i c0).sums.getD j Str.empty = z := List.getD_eq_getElem?_getD.trans (by rw [h1]; rfl)
          rw [e] at q
          subst h2
          exact q)
        (fun j y H4 hj e4 => er_tup (era_cons (er_str ev_c) (era_cons (er_str (ev_var rfl)) era_nil)) (Nat.le_of_ble_eq_true rfl))
      have s2 := es_lcR (te := tTup (tCons (tC (.str "datum")) (tCons (tOp (rI0 fun i j => .int (i + j)) (tVar 2) (tVar 7)) tNil))) (t := tYes) (g := gName 7) (vs := [7]) (ta := tCons (tCB (rLenS K) (tCons (tVar 5) tNil)) tNil) (n := ((cs.getD i c0).data.length : Int))
        (σ := [some (.ref a), some (.ref p), some (.int (firstOf cs i)), some (.str (cs.getD i c0).nm), some (.ref (F i).2.1), some (.ref (F i).2.2.1), w, t]) (H := H3)
        (by
          have q := ev_lenR (K := K) (er_var (σ := [some (.ref a), some (.ref p), some (.int (firstOf cs i)), some (.str (cs.getD i c0).nm), some (.ref (F i).2.1), some (.ref (F i).2.2.1), w, t]) (i := 5) rfl (Rep.tup (F3.dt i lt) (F3.rp i lt)))
          rw [List.length_map] at q
          exact ea_cons q ea_nil) ⟨by omega, by omega⟩
        (fun j => [some (.ref a), some (.ref p), some (.int (firstOf cs i)), some (.str (cs.getD i c0).nm), some (.ref (F i).2.1), some (.ref (F i).2.2.1), w, some (.int (j : Int))]) (fun _ => true) (fun j => datC (firstOf cs i + (j : Int))) (fun _ _ => rfl)
        (fun j H4 R hj e4 q => q) (fun _ H4 _ _ H5 _ Q q => q H5 (Ex.refl H5)) (fun j H4 hj e4 _ => er_tup (era_cons (er_str ev_c) (era_cons (er_int (ev_op (ev_var rfl) (ev_var rfl) rv_I0)) era_nil)) (Nat.le_of_ble_eq_true rfl))
      rw [TX.filter_all, Int.toNat_natCast] at s2
      rw [List.length_map] at s1
      have e1 : ((List.range (cs.getD i c0).sums.length).map fun j => sumC ((cs.getD i c0).sums.getD j Str.empty)) = (cs.getD i c0).sums.map sumC := rg sumC Str.empty _
      rw [e1] at s1
      refine q_dputR (d := .tuple (cellsAt cs i)) (er_tuple (K := K) (es_cat s1 s2 (by rw [List.length_map, List.length_map, List.length_range]; omega))) (ev_var rfl) (ev_var rfl) hz (by rw [List.length_map, List.length_zipIdx]; omega) fun v H4 e4 rv h4 => ?_
      have eput : putK (zs.zipIdx.map fun z => ((.inr (cs.getD z.2 c0).nm : Key), z.1)) (.inr (cs.getD i c0).nm) v = (zs ++ [v]).zipIdx.map fun z => ((.inr (cs.getD z.2 c0).nm : Key), z.1) := by
        rw [put_new, List.zipIdx_append, List.map_append, lz]
        · simp
        · intro q hq z
          obtain ⟨u, hu, rfl⟩ := List.mem_map.mp hq
          have u2 := List.mem_zipIdx hu
          have := nms_ne G (i := u.2) (j := i) (by omega) lt (Sum.inr.inj z)
          omega
      have h5 : (upd H4 p (.dK (putK (zs.zipIdx.map fun z => ((.inr (cs.getD z.2 c0).nm : Key), z.1)) (.inr (cs.getD i c0).nm) v))) p = some (.dK ((zs ++ [v]).zipIdx.map fun z => ((.inr (cs.getD z.2 c0).nm : Key), z.1))) := by rw [upd_same, eput]
      have x5 : Ex H (upd H4 p (.dK (putK (zs.zipIdx.map fun z => ((.inr (cs.getD z.2 c0).nm : Key), z.1)) (.inr (cs.getD i c0).nm) v))) := Ex.mut (e3.trans e4) hp
      have t5 : Tx H4 (upd H4 p (.dK (putK (zs.zipIdx.map fun z => ((.inr (cs.getD z.2 c0).nm : Key), z.1)) (.inr (cs.getD i c0).nm) v))) := Tx.dK h4
      have r5 := ((rz.ex e4).on t5).app (.cons (rv.on t5) .nil)
      have F5 := F3.ex e4
      generalize upd H4 p (.dK (putK (zs.zipIdx.map fun z => ((.inr (cs.getD z.2 c0).nm : Key), z.1)) (.inr (cs.getD i c0).nm) v)) = H5 at h5 x5 t5 r5 ⊢
      have q := ev_lenR (K := K) (er_var (H := H5) (σ := [some (.ref a), some (.ref p), some (.int (firstOf cs i)), some (.str (cs.getD i c0).nm), some (.ref (F i).2.1), some (.ref (F i).2.2.1), w, t]) (i := 5) rfl (Rep.tup (t5 _ _ (F5.dt i lt)) ((F5.rp i lt).on t5)))
      rw [List.length_map] at q
      refine s_aug rfl q fun H6 e6 => ⟨⟨some (.str (cs.getD i c0).nm), some (.ref (F i).2.1), some (.ref (F i).2.2.1), w, t, ?_⟩, x5.trans e6, zs ++ [v], e6 _ _ h5, ?_⟩
      · rw [first_succ cs lt]
        rfl
      · rw [List.range_succ, List.map_append]
        exact r5.ex e6
    · rintro σ' H3 ⟨⟨n, s, d, w, t, rfl⟩, e3, zs, hz, rz⟩
      rw [lx] at rz
      exact s_ret (ev_var rfl) fun H4 e4 => k p H4 hp (e3.trans e4) ⟨zs, e4 _ _ hz, rz.ex e4⟩
end
def dcScope (st : Stmt) : Scope := match defBody st with
  | [.Return (some (.DictComp _ _ _ sc _)) _] => sc
  | _ => defScope st
def p0 : Str × Str := (Str.empty, Str.empty)
def inPair (w : Str) (p : Str × Str) : Bool := inV (.str w) [.str p.1, .str p.2]
def numsOf (w : Str) (ps : List (Str × Str)) : List Int := ((List.range ps.length).filter fun j => inPair w (ps.getD j p0)).map fun j : Nat => (j : Int)
/-- numbers by names, a dict -/
def IntsD (H : Hp) (p : Addr) (S : List Str) (f : Str → Int) : Prop := ∃ zs : List V, H p = some (.dK (zs.zipIdx.map fun z => (.inr (S.getD z.2 Str.empty), z.1))) ∧ Reps H zs ((List.range S.length).map fun i => .int (f (S.getD i Str.empty)))
theorem range_getD {α : Type} (xs : List α) (d : α) : (List.range xs.length).map (fun i => xs.getD i d) = xs := by
  have q := rg (fun x : α => x) d xs
  rw [List.map_id'] at q
  exact q
section
variable {P : Program} {w : World} {K : PySem.W.Frag} {mg : Str → Option Value} {base : Heap} {f : Addr} {fd : FuncData}
end
end K30
end
section
set_option Elab.async false
set_option linter.all false
set_option maxRecDepth 100000
set_option maxHeartbeats 4000000
namespace K30
open PySem PySem.Spec PyProof.Rows L2 Evl TX
open C8 (Cal pe_c pe_gc)
def Kd.sh : Kd → Str
  | .bits => "bits" | .plain => "plain" | .dial m => Str.ofString (toString m)
def colLines (c : Col) : List Str := (("column " : Str) ++ c.nm) :: (c.sums.map (fun w => ("sum " : Str) ++ w) ++ c.data.map fun p => ("datum " : Str) ++ p.1 ++ (" " : Str) ++ p.2)
def linesOf (k : Kd) (cs : List Col) : List Str := (("kind " : Str) ++ k.sh) :: cs.flatMap colLines
def rLines : List V → Hp → PyData → Prop := fun vs H d => ∃ (k : Kd) (v : V) (cs : List Col), vs = [k.v, v] ∧ k.ok ∧ Rep H v (colsD cs) ∧ Good cs ∧ d = .tuple ((linesOf k cs).map PyData.str)
theorem name_len {z : Str} (h : isName z = true) : z.length ≤ 8 := (of_decide_eq_true (Bool.and_eq_true_iff.mp h).1).2
theorem lines_succ (k : Kd) (cs : List Col) {i : Nat} (h : i < cs.length) : linesOf k (cs.take (i + 1)) = linesOf k (cs.take i) ++ colLines (cs.getD i c0) := by
  unfold linesOf
  rw [List.take_succ, getc h, List.flatMap_append]
  simp
theorem Good.mem {cs : List Col} {i : Nat} (h : i < cs.length) : cs.getD i c0 ∈ cs := List.mem_of_getElem? (getc h)
theorem sum_name {cs : List Col} (G : Good cs) {w : Str} (h : w ∈ sumsOf cs) : isName w = true := by
  obtain ⟨c, hc, hw⟩ := List.mem_flatMap.mp h
  exact G.sms c hc w hw
section
variable {P : Program} {w : World} {K : PySem.W.Frag} {mg : Str → Option Value} {base : Heap} {f : Addr} {fd : FuncData}
abbrev sc_lines_of_N : List Str := ["kind", "columns", "lines", "name", "sums", "data", "word", "one", "other"]
theorem sc_lines_of : FnScope sc_lines_of_N ["kind", "columns"] (defScope s_lines_of) := ⟨rfl, rfl, rfl, by decide +kernel, rfl, by decide +kernel, by decide +kernel⟩
theorem ok_lines (F : FnP K "lines_of" s_lines_of f fd) (T : Tops mg)  : FnOk P w K mg base CX0 1 f fd ["kind", "columns"] (dSp rLines) := by
  refine F.ok sc_lines_of (fun vs H Q E h => ?_) (fun cdv A outer s H vs Q E hr h => ?_)
  · obtain ⟨d, ⟨kd, v, cs, rfl, _⟩, _⟩ := h; rfl
  · obtain ⟨d, ⟨kd, v, cs, rfl, hk, r, G, rfl⟩, k⟩ := h
    refine ⟨_, PSs.nox (pss_cons (ps_set (i := 2) sc_lines_of.nd rfl (.inl rfl) (pe_lst (pa_cons (pe_joined (.cons pe_str (.cons (pe_fmt (pv 0)) .nil))) pa_nil)))
  (pss_cons (ps_for PassesOwn.never rfl (pi_tup (pv 1)) (pg_tup rfl (pgs_cons (pg_name (i := 3) sc_lines_of.nd rfl (.inl rfl)) (pgs_cons (pg_name (i := 4) sc_lines_of.nd rfl (.inl rfl)) (pgs_cons (pg_name (i := 5) sc_lines_of.nd rfl (.inl rfl)) pgs_nil))))
  (pss_cons (ps_expr (pe_bm PySem.F.plainAttrs_list PySem.F.slot_list_append PySem.F.type_list_append mt_append (pv 2) (pa_cons (pe_joined (.cons pe_str (.cons (pe_fmt (pv 3)) .nil))) pa_nil)))
  (pss_cons (ps_expr (pe_bm PySem.F.plainAttrs_list PySem.F.slot_list_extend PySem.F.type_list_extend mt_extend (pv 2) (pa_cons (pe_lc (own := [("word", 6)]) (g := gName 6) (tt := tYes) rfl sc_lines_of.nd (pi_tup (pv 4)) (blkOk_by (own := [("word", 6)]) (N := sc_lines_of_N) (sc := defScope s_lines_of) (by decide +kernel)) (fun _ _ _ _ _ => (pg_name (i := 6) sc_lines_of.nd rfl (.inl rfl))) (fun _ _ _ _ _ => pts_nil) (fun _ _ _ _ _ => (pe_joined (.cons pe_str (.cons (pe_fmt (pv 6)) .nil))))) pa_nil)))
  (pss_one (ps_expr (pe_bm PySem.F.plainAttrs_list PySem.F.slot_list_extend PySem.F.type_list_extend mt_extend (pv 2) (pa_cons (pe_lc (own := [("one", 7), ("other", 8)]) (g := gTup K 2 (gCons (gName 7) (gCons (gName 8) gNil))) (tt := tYes) rfl sc_lines_of.nd (pi_tup (pv 5)) (blkOk_by (own := [("one", 7), ("other", 8)]) (N := sc_lines_of_N) (sc := defScope s_lines_of) (by decide +kernel)) (fun _ _ _ _ _ => (pg_tup rfl (pgs_cons (pg_name (i := 7) sc_lines_of.nd rfl (.inl rfl)) (pgs_cons (pg_name (i := 8) sc_lines_of.nd rfl (.inl rfl)) pgs_nil)))) (fun _ _ _ _ _ => pts_nil) (fun _ _ _ _ _ => (pe_joined (.cons pe_str (.cons (pe_fmt (pv 7)) (.cons pe_str (.cons (pe_fmt (pv 8)) .nil))))))) pa_nil)))))))
  (pss_one (ps_ret (pe_callTy call_tuple_of (by rfl) T.n_tuple (by decide +kernel) (pa_cons (pv 2) pa_nil)))))), ?_⟩
    obtain ⟨a, xs, rfl, ha, rs⟩ := Rep.tup_inv r
    obtain ⟨F, hF⟩ := Reps.fc rs
    have lx : xs.length = cs.length := by rw [rs.len, List.length_map]
    have l8 := G.len
    have hkind : Ev (fun σ H Q => tJs [tC (.str "kind "), tFmt (tVar 0)] Str.empty σ H fun out H1 => Q (.str out) H1) [some kd.v, some (.ref a), none, none, none, none, none, none, none] H (.str (("kind " : Str) ++ kd.sh)) := by
      cases kd with
      | bits => exact ev_js2 ev_c (ev_fmtS (ev_var rfl) (by decide +kernel)) (by decide +kernel)
      | plain => exact ev_js2 ev_c (ev_fmtS (ev_var rfl) (by decide +kernel)) (by decide +kernel)
      | dial m =>
        obtain ⟨m1, m2⟩ := hk
        have lm : (Str.ofString (toString m)).length ≤ 10 := toString_length_le (k := 10) (by omega) (by decide) (by omega)
        refine ev_js2 ev_c (ev_fmtI (ev_var rfl) ?_) (by have e : (Str.ofString "kind ").length = 5 := by decide +kernel
                                                         show (Str.ofString "kind ").length + (Str.ofString (toString m)).length ≤ 10000
                                                         omega)
        have : m.natAbs ≤ 1000000000 := by omega
        exact Nat.lt_trans ((Nat.log2_lt (by omega)).mpr (Nat.lt_of_le_of_lt this (by decide : 1000000000 < 2 ^ 31))) (by decide : 31 < 1920)
    refine q_asgL (el_lst (ea_cons hkind ea_nil) (Nat.le_of_ble_eq_true rfl)) fun l H1 hl e1 h1 => ?_
    refine q_forT (K := K) (a := a) (xs := xs) (ev_var rfl) (st_of (e1 _ _ ha)) (fun i σ' H' => (∃ n s d w o t, σ' = [some kd.v, some (.ref a), some (.ref l), n, s, d, w, o, t]) ∧ Ex H H' ∧ H' l = some (.lst ((linesOf kd (cs.take i)).map V.str)) ∧ (linesOf kd (cs.take i)).length ≤ 1 + 35 * i)
      (fun H2 e2 => ⟨⟨none, none, none, none, none, none, rfl⟩, e1.trans e2, e2 _ _ h1, Nat.le_refl _⟩) (fun i σ' H' _ q => st_of (q.2.1 _ _ ha)) ?_ ?_
    · rintro i x σ' H3 hx ⟨⟨n, s, d, w, o, t, rfl⟩, e3, h3, z3⟩
      have lt : i < cs.length := by have := (List.getElem?_eq_some_iff.mp hx).1; omega
      rw [hF.at_ i lt] at hx
      cases hx
      have F3 := hF.ex e3
      have cm : cs.getD i c0 ∈ cs := Good.mem lt
      have ls := G.c_sums lt
      have ld := G.c_data lt
      refine g_three (K := K) (F3.col i lt) ?_
      have ln := name_len (G.nms _ cm)
      refine q_app (v := .str (("column " : Str) ++ (cs.getD i c0).nm)) h3 (ev_var rfl) (ev_js2 ev_c (ev_fmtS (ev_var rfl) (by omega)) (by
        have e : (Str.ofString "column ").length = 7 := by decide +kernel
        show (Str.ofString "column ").length + _ ≤ 10000
        omega)) (by rw [List.length_map]; omega) fun H4 e4 => ?_
      have h5 : (upd H4 l (.lst ((linesOf kd (cs.take i)).map V.str ++ [.str (("column " : Str) ++ (cs.getD i c0).nm)]))) l = some (.lst ((linesOf kd (cs.take i)).map V.str ++ [.str (("column " : Str) ++ (cs.getD i c0).nm)])) := upd_same
      have x5 : Ex H (upd H4 l (.lst ((linesOf kd (cs.take i)).map V.str ++ [.str (("column " : Str) ++ (cs.getD i c0).nm)]))) := Ex.mut (e3.trans e4) hl
      generalize upd H4 l (.lst ((linesOf kd (cs.take i)).map V.str ++ [.str (("column " : Str) ++ (cs.getD i c0).nm)])) = H5 at h5 x5 ⊢
      have F5 := hF.ex x5
      have s1 := es_lcT1 (K := K) (te := fun σ H Q => tJs [tC (.str "sum "), tFmt (tVar 6)] Str.empty σ H fun out H1 => Q (.str out) H1) (g := gName 6) (vs := [6]) (tl := tVar 4)
        (σ := [some kd.v, some (.ref a), some (.ref l), some (.str (cs.getD i c0).nm), some (.ref (F i).2.1), some (.ref (F i).2.2.1), w, o, t]) (H := H5) (ev_var rfl) (F5.sm i lt) (by rw [List.length_map]; omega)
        (fun j => [some kd.v, some (.ref a), some (.ref l), some (.str (cs.getD i c0).nm), some (.ref (F i).2.1), some (.ref (F i).2.2.1), some (.str ((cs.getD i c0).sums.getD j Str.empty)), o, t]) (fun j => .str (("sum " : Str) ++ (cs.getD i c0).sums.getD j Str.empty)) (fun _ _ => rfl)
        (fun j y H6 R hj e6 q => by
          rw [List.getElem?_map] at hj
          obtain ⟨z, h1, h2⟩ := Option.map_eq_some_iff.mp hj
          have e : (cs.getD i c0).sums.getD j Str.empty = z := List.getD_eq_getElem?_getD.trans (by rw [h1]; rfl)
          rw [e] at q
          subst h2
          exact q)
        (fun j y H6 hj e6 => by
          rw [List.getElem?_map] at hj
          obtain ⟨z, h1, h2⟩ := Option.map_eq_some_iff.mp hj
          have e : (cs.getD i c0).sums.getD j Str.empty = z := List.getD_eq_getElem?_getD.trans (by rw [h1]; rfl)
          have lz := name_len (G.sms _ cm z (List.mem_of_getElem? h1))
          rw [e]
          exact er_str (ev_js2 ev_c (ev_fmtS (ev_var rfl) (by omega)) (by
            have e : (Str.ofString "sum ").length = 4 := by decide +kernel
            show (Str.ofString "sum ").length + _ ≤ 10000
            omega)))
      rw [List.length_map] at s1
      have e1 : ((List.range (cs.getD i c0).sums.length).map fun j => PyData.str (("sum " : Str) ++ (cs.getD i c0).sums.getD j Str.empty)) = ((cs.getD i c0).sums.map fun w => ("sum " : Str) ++ w).map PyData.str := by
        rw [List.map_map]
        exact rg (fun w => PyData.str (("sum " : Str) ++ w)) Str.empty _
      rw [e1] at s1
      refine q_extL h5 (ev_var rfl) (el_es s1) (by rw [List.length_append, List.length_map, List.length_map, List.length_map, List.length_singleton]; omega) fun H6 e6 => ?_
      have h7 := @upd_same H6 l (.lst ((linesOf kd (cs.take i)).map V.str ++ [V.str (("column " : Str) ++ (cs.getD i c0).nm)] ++ ((cs.getD i c0).sums.map fun w => ("sum " : Str) ++ w).map V.str))
      have x7 : Ex H (upd H6 l (.lst ((linesOf kd (cs.take i)).map V.str ++ [V.str (("column " : Str) ++ (cs.getD i c0).nm)] ++ ((cs.getD i c0).sums.map fun w => ("sum " : Str) ++ w).map V.str))) := Ex.mut (x5.trans e6) hl
      generalize upd H6 l (.lst ((linesOf kd (cs.take i)).map V.str ++ [V.str (("column " : Str) ++ (cs.getD i c0).nm)] ++ ((cs.getD i c0).sums.map fun w => ("sum " : Str) ++ w).map V.str)) = H7 at h7 x7 ⊢
      have F7 := hF.ex x7
      have lds : (F i).2.2.2.length = (cs.getD i c0).data.length := by rw [(F7.rp i lt).len, List.length_map]
      have s2 := es_lcT1 (K := K) (te := fun σ H Q => tJs [tC (.str "datum "), tFmt (tVar 7), tC (.str " "), tFmt (tVar 8)] Str.empty σ H fun out H1 => Q (.str out) H1) (g := gTup K 2 (gCons (gName 7) (gCons (gName 8) gNil))) (vs := [7, 8]) (tl := tVar 5)
        (σ := [some kd.v, some (.ref a), some (.ref l), some (.str (cs.getD i c0).nm), some (.ref (F i).2.1), some (.ref (F i).2.2.1), w, o, t]) (H := H7) (ev_var rfl) (F7.dt i lt) (by omega)
        (fun j => [some kd.v, some (.ref a), some (.ref l), some (.str (cs.getD i c0).nm), some (.ref (F i).2.1), some (.ref (F i).2.2.1), w, some (.str ((cs.getD i c0).data.getD j p0).1), some (.str ((cs.getD i c0).data.getD j p0).2)])
        (fun j => .str (("datum " : Str) ++ ((cs.getD i c0).data.getD j p0).1 ++ (" " : Str) ++ ((cs.getD i c0).data.getD j p0).2)) (fun _ _ => rfl)
        (fun j y H8 R hj e8 q => by
          obtain ⟨dd, hd, rd⟩ := (F7.rp i lt).at hj
          rw [List.getElem?_map] at hd
          obtain ⟨pr, h1, rfl⟩ := Option.map_eq_some_iff.mp hd
          obtain ⟨c, rfl, hc⟩ := Rep.prt (rd.ex e8)
          have ep : (cs.getD i c0).data.getD j p0 = pr := List.getD_eq_getElem?_getD.trans (by rw [h1]; rfl)
          rw [ep] at q
          exact g_two (K := K) hc q)
        (fun j y H8 hj e8 => by
          obtain ⟨dd, hd, rd⟩ := (F7.rp i lt).at hj
          rw [List.getElem?_map] at hd
          obtain ⟨pr, h1, rfl⟩ := Option.map_eq_some_iff.mp hd
          have ep : (cs.getD i c0).data.getD j p0 = pr := List.getD_eq_getElem?_getD.trans (by rw [h1]; rfl)
          obtain ⟨m1, m2, _⟩ := G.prs _ cm pr (List.mem_of_getElem? h1)
          have z1 := name_len (sum_name G m1)
          have z2 := name_len (sum_name G m2)
          rw [ep]
          exact er_str (ev_js4 ev_c (ev_fmtS (ev_var rfl) (by omega)) ev_c (ev_fmtS (ev_var rfl) (by omega)) (by
            have e : (Str.ofString "datum ").length = 6 := by decide +kernel
            have e2 : (Str.ofString " ").length = 1 := by decide +kernel
            show (Str.ofString "datum ").length + pr.1.length + (Str.ofString " ").length + pr.2.length ≤ 10000
            omega)))
      rw [lds] at s2
      have e2 : ((List.range (cs.getD i c0).data.length).map fun j => PyData.str (("datum " : Str) ++ ((cs.getD i c0).data.getD j p0).1 ++ (" " : Str) ++ ((cs.getD i c0).data.getD j p0).2)) = ((cs.getD i c0).data.map fun p => ("datum " : Str) ++ p.1 ++ (" " : Str) ++ p.2).map PyData.str := by
        rw [List.map_map]
        exact rg (fun p : Str × Str => PyData.str (("datum " : Str) ++ p.1 ++ (" " : Str) ++ p.2)) p0 _
      rw [e2] at s2
      have eall : (linesOf kd (cs.take i)).map V.str ++ [V.str (("column " : Str) ++ (cs.getD i c0).nm)] ++ ((cs.getD i c0).sums.map fun w => ("sum " : Str) ++ w).map V.str ++ ((cs.getD i c0).data.map fun p => ("datum " : Str) ++ p.1 ++ (" " : Str) ++ p.2).map V.str = (linesOf kd (cs.take (i + 1))).map V.str := by
        rw [lines_succ kd cs lt, List.map_append]
        unfold colLines
        simp
      refine TX.s_extL h7 (ev_var rfl) (el_es s2) (by simp only [List.length_append, List.length_map, List.length_singleton]; omega) fun H8 e8 => ⟨⟨some (.str (cs.getD i c0).nm), some (.ref (F i).2.1), some (.ref (F i).2.2.1), w, o, t, rfl⟩, Ex.mut (x7.trans e8) hl, ?_, ?_⟩
      · rw [upd_same, eall]
      · rw [lines_succ kd cs lt, List.length_append]
        unfold colLines
        simp only [List.length_append, List.length_map, List.length_cons]
        omega
    · rintro σ' H3 ⟨⟨n, s, d, w, o, t, rfl⟩, e3, h3, _⟩
      rw [lx, List.take_length] at h3
      refine s_retR (d := .tuple ((linesOf kd cs).map PyData.str)) (fun H4 e4 Q q => ⟨.ref l, rfl, l, _, rfl, .inl ⟨sq_of (e4 _ _ h3), fun p hp => q (.ref p) _ (Ex.new hp) (.tup upd_same (Reps.ofStrs _))⟩⟩) fun v H4 e4 rv => k v H4 (e3.trans e4) rv
end
end K30
end
section
set_option Elab.async false
set_option linter.all false
set_option maxRecDepth 100000
set_option maxHeartbeats 4000000
namespace K30
open PySem PySem.Spec PyProof.Rows L2 Evl TX
open C8 (Cal pe_c pe_gc)
def fNames : List Str := ["_kind", "_columns", "_names", "_sums", "_data", "_cells_of", "_cells", "_column_of", "_lines"]
def fz (vs : List V) : List (Str × V) := fNames.zip vs
/-- what the class of tables is asked -/
structure ClT (K : PySem.W.Frag) (C : Addr) : Prop where
  cl : Cls K C
  no : ∀ f ∈ fNames, NoAttr K C f
def cellsL (cs : List Col) : List PyData := (List.range cs.length).flatMap (cellsAt cs)
def nmsD (cs : List Col) : PyData := .tuple (cs.map fun c => PyData.str c.nm)
/-- a tuple whose object is known -/
def TupF (H : Hp) (v : V) (ds : List PyData) : Prop := ∃ (a : Addr) (ob : Obj) (xs : List V), v = .ref a ∧ H a = some (.frz ob (.tup xs)) ∧ ob.cls = .type "tuple" ∧ ob.dict = none ∧ Reps H xs ds
theorem TupF.ex {H H' : Hp} {v : V} {ds : List PyData} (h : TupF H v ds) (e : Ex H H') : TupF H' v ds := let ⟨a, ob, xs, h1, h2, h3, h4, h5⟩ := h; ⟨a, ob, xs, h1, e _ _ h2, h3, h4, h5.ex e⟩
theorem stF {K : PySem.W.Frag} {H : Hp} {a : Addr} {ob : Obj} {xs : List V} (h : H a = some (.frz ob (.tup xs))) : SqT K H a xs := .inl (.inr ⟨ob, h⟩)
theorem opCB0_ {r : List V → Hp → VK → Prop} {t : TA} {σ : L2.St} {H : Hp} {Q : VK} (h : t σ H fun vs H1 => r vs H1 Q) : tCB r t σ H Q := h
theorem ev_lenF {K : PySem.W.Frag} {te : TE} {σ : L2.St} {H : Hp} {a : Addr} {xs : List V} (h : Ev te σ H (.ref a)) (hx : SqT K H a xs) : Ev (tCB (rLenS K) (tCons te tNil)) σ H (.int (xs.length : Int)) := fun H1 e Q q => h H1 e _ fun H2 e2 => ⟨a, xs, rfl, .inr (ex_t (e.trans e2) hx), q H2 e2⟩
/-- a comprehension over a tuple that stays -/
theorem es_lcF1 {K : PySem.W.Frag} {te tl : TE} {σ : L2.St} {H : Hp} {g : TG} {vs : List Nat} {a : Addr} {xs : List V} (h : Ev tl σ H (.ref a)) (hx : SqT K H a xs) (hn : xs.length ≤ 40000) (st : Nat → L2.St) (D : Nat → PyData) (hw : ∀ i, i < xs.length → wipe (st i) vs = wipe σ vs)
    (hg : ∀ i x H1 (R : L2.St → Hp → Prop), xs[i]? = some x → Ex H H1 → R (st i) H1 → g x (wipe σ vs) H1 R)
    (he : ∀ i x H1, xs[i]? = some x → Ex H H1 → EvR te (st i) H1 (D i)) : EvS (tLc (iTup K tl) g tYes te vs) σ H ((List.range xs.length).map D) := by
  have q := es_lc (te := te) (t := tYes) (g := g) (vs := vs) (wi := iTup K tl) (σ := σ) (H := H) (walk_tup (K := K) (a := a) (xs := xs)) hn st (fun _ => true) D (fun H1 e R k => h H1 e _ fun H2 e2 => have q := ex_t (e.trans e2) hx; ⟨a, rfl, ⟨xs, q⟩, k H2 e2 q⟩) (fun H1 H2 e q => ex_t e q) hw
    (fun i x H1 H2 R hi e _ hy k => by
      obtain ⟨rfl, hy⟩ := hy
      exact hg i x _ R hy e (k _ (Ex.refl _)))
    (fun _ H1 _ _ H2 _ Q k => k H2 (Ex.refl H2)) (fun i H1 hi e _ => he i _ H1 (List.getElem?_eq_getElem hi) e)
  rw [TX.filter_all] at q
  exact q
/-- a table -/
structure TabAt (H : Hp) (C a : Addr) (k : Kd) (cs : List Col) : Prop where
  ex : ∃ (dx : Addr) (v1 v2 v3 v4 v6 v9 : V) (p q : Addr) (kvs : List (List Key × V)), H a = some (.ins C dx (fz [k.v, v1, v2, v3, v4, .ref p, v6, .ref q, v9])) ∧ Rep H v1 (colsD cs) ∧ Rep H v2 (nmsD cs) ∧ Rep H v3 (.tuple ((sumsOf cs).map PyData.str)) ∧ Rep H v4 (.tuple ((dataOf cs).map pairD)) ∧
    CellsD H p cs ∧ TupF H v6 (cellsL cs) ∧ H q = some (.dT kvs) ∧ Rep H v9 (.tuple ((linesOf k cs).map PyData.str))
structure Mid (H0 H : Hp) (a C dx : Addr) (fs : List (Str × V)) : Prop where
  at_ : H a = some (.ins C dx fs)
  but : ∀ b o, b ≠ a → H0 b = some o → H b = some o
theorem Mid.put {H0 H H1 : Hp} {a C dx : Addr} {fs fs' : List (Str × V)} {f : Str} {v : V} (m : Mid H0 H a C dx fs) (e : Ex H H1) (h : putF f v fs = fs') : Mid H0 (upd H1 a (.ins C dx (putF f v fs))) a C dx fs' :=
  ⟨by rw [upd_same, h], fun b o hb h0 => by rw [upd_ne hb]; exact e _ _ (m.but b o hb h0)⟩
theorem Mid.tx {H0 H H1 : Hp} {a C dx : Addr} {fs : List (Str × V)} {o : HO} (m : Mid H0 H a C dx fs) (e : Ex H H1) : TX.Tx H (upd H1 a o) := (Tx.ex e).trans (Tx.ins (e _ _ m.at_))
theorem Mid.ex {H0 H H1 : Hp} {a C dx : Addr} {fs : List (Str × V)} (m : Mid H0 H a C dx fs) (e : Ex H H1) : Mid H0 H1 a C dx fs := ⟨e _ _ m.at_, fun b o hb h0 => e _ _ (m.but b o hb h0)⟩
theorem keep_dK {H0 H H1 : Hp} {a C dx p : Addr} {fs : List (Str × V)} {o : HO} {kvs : List (Key × V)} (m : Mid H0 H a C dx fs) (e : Ex H H1) (h : H p = some (.dK kvs)) : (upd H1 a o) p = some (.dK kvs) := by
  rw [upd_ne (fun z => by have q := m.at_; rw [← z, h] at q; cases q)]
  exact e _ _ h
theorem keep_dT {H0 H H1 : Hp} {a C dx p : Addr} {fs : List (Str × V)} {o : HO} {kvs : List (List Key × V)} (m : Mid H0 H a C dx fs) (e : Ex H H1) (h : H p = some (.dT kvs)) : (upd H1 a o) p = some (.dT kvs) := by
  rw [upd_ne (fun z => by have q := m.at_; rw [← z, h] at q; cases q)]
  exact e _ _ h
theorem TupF.put {H0 H H1 : Hp} {a C dx : Addr} {fs : List (Str × V)} {o : HO} {v : V} {ds : List PyData} (m : Mid H0 H a C dx fs) (e : Ex H H1) (h : TupF H v ds) : TupF (upd H1 a o) v ds := by
  obtain ⟨p, ob, xs, h1, h2, h3, h4, h5⟩ := h
  refine ⟨p, ob, xs, h1, ?_, h3, h4, h5.on (m.tx e)⟩
  rw [upd_ne (fun z => by have q := m.at_; rw [← z, h2] at q; cases q)]
  exact e _ _ h2
theorem CellsD.put {H0 H H1 : Hp} {a C dx p : Addr} {fs : List (Str × V)} {o : HO} {cs : List Col} (m : Mid H0 H a C dx fs) (e : Ex H H1) (h : CellsD H p cs) : CellsD (upd H1 a o) p cs := by
  obtain ⟨zs, h1, h2⟩ := h
  exact ⟨zs, keep_dK m e h1, h2.on (m.tx e)⟩
theorem CellsD.ex {H H1 : Hp} {p : Addr} {cs : List Col} (e : Ex H H1) (h : CellsD H p cs) : CellsD H1 p cs := by
  obtain ⟨zs, h1, h2⟩ := h
  exact ⟨zs, e _ _ h1, h2.ex e⟩
theorem Fc.on {H H' : Hp} {xs : List V} {cs : List Col} {F : Nat → Addr × Addr × Addr × List V} (f : Fc H xs cs F) (t : TX.Tx H H') : Fc H' xs cs F :=
  ⟨f.at_, fun i hi => t _ _ (f.col i hi), fun i hi => t _ _ (f.sm i hi), fun i hi => t _ _ (f.dt i hi), fun i hi => (f.rp i hi).on t⟩
/-- where the columns' cells stand -/
theorem CellsD.fc {H : Hp} {p : Addr} {cs : List Col} (h : CellsD H p cs) : ∃ (T : Nat → Addr × List V) (zs : List V), H p = some (.dK (zs.zipIdx.map fun z => (.inr (cs.getD z.2 c0).nm, z.1))) ∧ zs.length = cs.length ∧ ∀ i, i < cs.length → zs[i]? = some (.ref (T i).1) ∧ H (T i).1 = some (.tup (T i).2) ∧ Reps H (T i).2 (cellsAt cs i) := by
  obtain ⟨zs, h1, h2⟩ := h
  have lz : zs.length = cs.length := by rw [h2.len, List.length_map, List.length_range]
  have q : ∀ i, ∃ y : Addr × List V, i < cs.length → zs[i]? = some (.ref y.1) ∧ H y.1 = some (.tup y.2) ∧ Reps H y.2 (cellsAt cs i) := fun i => by
    by_cases hi : i < cs.length
    · obtain ⟨x, hx, rx⟩ := h2.get (i := i) (d := .tuple (cellsAt cs i)) (by rw [List.getElem?_map, List.getElem?_range hi]; rfl)
      obtain ⟨t, ys, rfl, ht, rt⟩ := rx.tup_inv
      exact ⟨(t, ys), fun _ => ⟨hx, ht, rt⟩⟩
    · exact ⟨(0, []), fun z => absurd z hi⟩
  obtain ⟨T, hT⟩ := Classical.skolem.mp q
  exact ⟨T, zs, h1, lz, hT⟩
theorem cells_val {cs : List Col} (G : Good cs) {zs : List V} (lz : zs.length = cs.length) {i : Nat} (hi : i < cs.length) {v : V} (h : zs[i]? = some v) : valV (zs.zipIdx.map fun z => ((.inr (cs.getD z.2 c0).nm : Key), z.1)) (.inr (cs.getD i c0).nm) = some v := by
  refine val_at (i := i) ?_ ?_
  · rw [List.nodup_iff_pairwise_ne, List.pairwise_iff_getElem]
    intro j k hj hk hjk e
    simp only [List.length_map, List.length_zipIdx] at hj hk
    simp only [List.getElem_map, List.getElem_zipIdx, Nat.zero_add] at e
    have := nms_ne G (i := j) (j := k) (by omega) (by omega) (Sum.inr.inj e)
    omega
  · rw [List.getElem?_map, List.getElem?_zipIdx, h]
    simp
theorem cellsAt_len {cs : List Col} (G : Good cs) {i : Nat} (hi : i < cs.length) : (cellsAt cs i).length ≤ 34 := by
  unfold cellsAt cellsC
  rw [List.length_append, List.length_map, List.length_map, List.length_range]
  have := G.c_sums hi
  have := G.c_data hi
  omega
def tSp (C : Addr) : Sp := fun vs H Q _ => ∃ (a dx : Addr) (k : Kd) (v : V) (cs : List Col), vs = [.ref a, k.v, v] ∧ k.ok ∧ Rep H v (colsD cs) ∧ Good cs ∧ H a = some (.ins C dx []) ∧ ∀ H', (∀ b o, b ≠ a → H b = some o → H' b = some o) → TabAt H' C a k cs → Q .non H'
/-- [word for name, sums, data in columns for word in sums], [.. for pair in data] -/
theorem two_sums {K : PySem.W.Frag} {a : Addr} {xs : List V} {cs : List Col} {F : Nat → Addr × Addr × Addr × List V} {H : Hp} {s k x8 : Option V} (G : Good cs) (lx : xs.length = cs.length) (ha : H a = some (.tup xs)) (hF : Fc H xs cs F) :
    Two [s, k, some (.ref a), none, none, none, none, none, x8] H (Itt K a) cs.length (fun H => SqT K H a xs) (YAt xs) (iTup K (tVar 2)) (iTup K (tVar 4)) (gTup K 3 (gCons (gName 3) (gCons (gName 4) (gCons (gName 5) gNil)))) (gName 6) [3, 4, 5, 6] [6] (fun i => Itt K (F i).2.1) (fun i => (cs.getD i c0).sums.length)
      (fun i H => SqT K H (F i).2.1 ((cs.getD i c0).sums.map V.str)) (fun i => YAt ((cs.getD i c0).sums.map V.str))
    (fun i => [s, k, some (.ref a), some (.str (cs.getD i c0).nm), some (.ref (F i).2.1), some (.ref (F i).2.2.1), none, none, x8]) (fun i j => [s, k, some (.ref a), some (.str (cs.getD i c0).nm), some (.ref (F i).2.1), some (.ref (F i).2.2.1), some (.str ((cs.getD i c0).sums.getD j Str.empty)), none, x8]) := {
  W := by rw [← lx]; exact walk_tup
  W1 := fun i hi => by
    have q := walk_tup (K := K) (a := (F i).2.1) (xs := (cs.getD i c0).sums.map V.str)
    rw [List.length_map] at q
    exact q
  lim := ⟨by have := G.len; omega, fun i hi => by have := G.c_sums hi; omega⟩
  go := fun H3 e3 R q => ⟨.ref a, rfl, a, rfl, ⟨xs, st_of (e3 _ _ ha)⟩, q H3 (Ex.refl H3) (st_of (e3 _ _ ha))⟩
  keep := fun H3 H4 e q => ex_t e q
  wp := fun _ _ => rfl
  tg := fun i x H3 H4 R hi e3 _ ⟨e4, hx⟩ q => by
    subst e4
    rw [hF.at_ i hi] at hx
    cases hx
    exact g_three (K := K) (e3 _ _ (hF.col i hi)) (q _ (Ex.refl _))
  go1 := fun i H3 hi e3 R q => ⟨.ref (F i).2.1, rfl, _, rfl, ⟨_, st_of (e3 _ _ (hF.sm i hi))⟩, q H3 (Ex.refl H3)⟩
  keep1 := fun i H3 hi e3 => st_of (e3 _ _ (hF.sm i hi))
  wp1 := fun _ _ _ _ => rfl
  tg1 := fun i j x H3 H4 R hi hj e3 _ ⟨e4, hx⟩ q => by
    subst e4
    rw [List.getElem?_map, List.getElem?_eq_getElem hj] at hx
    cases hx
    have q2 := q _ (Ex.refl _)
    have e : (cs.getD i c0).sums.getD j Str.empty = (cs.getD i c0).sums[j] := List.getD_eq_getElem?_getD.trans (by rw [List.getElem?_eq_getElem hj]; rfl)
    rw [e] at q2
    exact q2 }
theorem two_data {K : PySem.W.Frag} {a : Addr} {xs : List V} {cs : List Col} {F : Nat → Addr × Addr × Addr × List V} {H : Hp} {s k x8 : Option V} (G : Good cs) (lx : xs.length = cs.length) (ha : H a = some (.tup xs)) (hF : Fc H xs cs F) :
    Two [s, k, some (.ref a), none, none, none, none, none, x8] H (Itt K a) cs.length (fun H => SqT K H a xs) (YAt xs) (iTup K (tVar 2)) (iTup K (tVar 5)) (gTup K 3 (gCons (gName 3) (gCons (gName 4) (gCons (gName 5) gNil)))) (gName 7) [3, 4, 5, 7] [7] (fun i => Itt K (F i).2.2.1) (fun i => (F i).2.2.2.length)
      (fun i H => SqT K H (F i).2.2.1 (F i).2.2.2) (fun i => YAt (F i).2.2.2)
    (fun i => [s, k, some (.ref a), some (.str (cs.getD i c0).nm), some (.ref (F i).2.1), some (.ref (F i).2.2.1), none, none, x8]) (fun i j => [s, k, some (.ref a), some (.str (cs.getD i c0).nm), some (.ref (F i).2.1), some (.ref (F i).2.2.1), none, (F i).2.2.2[j]?, x8]) := {
  W := by rw [← lx]; exact walk_tup
  W1 := fun i hi => walk_tup
  lim := ⟨by have := G.len; omega, fun i hi => by have := G.c_data hi; rw [(hF.rp i hi).len, List.length_map]; omega⟩
  go := fun H3 e3 R q => ⟨.ref a, rfl, a, rfl, ⟨xs, st_of (e3 _ _ ha)⟩, q H3 (Ex.refl H3) (st_of (e3 _ _ ha))⟩
  keep := fun H3 H4 e q => ex_t e q
  wp := fun _ _ => rfl
  tg := fun i x H3 H4 R hi e3 _ ⟨e4, hx⟩ q => by
    subst e4
    rw [hF.at_ i hi] at hx
    cases hx
    exact g_three (K := K) (e3 _ _ (hF.col i hi)) (q _ (Ex.refl _))
  go1 := fun i H3 hi e3 R q => ⟨.ref (F i).2.2.1, rfl, _, rfl, ⟨_, st_of (e3 _ _ (hF.dt i hi))⟩, q H3 (Ex.refl H3)⟩
  keep1 := fun i H3 hi e3 => st_of (e3 _ _ (hF.dt i hi))
  wp1 := fun _ _ _ _ => rfl
  tg1 := fun i j x H3 H4 R hi hj e3 _ ⟨e4, hx⟩ q => by
    subst e4
    have q2 := q _ (Ex.refl _)
    rw [hx] at q2
    exact q2 }
end K30
end
section
set_option Elab.async false
set_option linter.all false
set_option maxRecDepth 100000
set_option maxHeartbeats 4000000
namespace K30
open PySem PySem.Spec PyProof.Rows L2 Evl TX
open C8 (Cal pe_c pe_gc)
abbrev FnM (K : PySem.W.Frag) (x q : Str) (st : Stmt) (f : Addr) (fd : FuncData) : Prop := FunD K x q (defArgs st) (defBody st) (defScope st) [] [] f fd
/-- [cell for name in self._names for cell in self._cells_of[name]] -/
theorem two_cells {K : PySem.W.Frag} {C a b dx n p : Addr} {k : V} {v1 v3 v4 : V} {fs : List (Str × V)} {cs : List Col} {H : Hp} {Tf : Nat → Addr × List V} {zs : List V} {s8 : V} (G : Good cs) (cl : ClT K C) (ha : H a = some (.ins C dx fs)) (l2 : fs.lookup ("_names" : Str) = some (V.ref n)) (l5 : fs.lookup ("_cells_of" : Str) = some (V.ref p))
    (hn : H n = some (.tup (cs.map fun c => V.str c.nm))) (hp : H p = some (.dK (zs.zipIdx.map fun z => (.inr (cs.getD z.2 c0).nm, z.1)))) (lz : zs.length = cs.length) (hT : ∀ i, i < cs.length → zs[i]? = some (.ref (Tf i).1) ∧ H (Tf i).1 = some (.tup (Tf i).2) ∧ Reps H (Tf i).2 (cellsAt cs i)) :
    Two [some (.ref a), some k, some s8, none, none, none, none, none, none] H (Itt K n) cs.length (fun H => SqT K H n (cs.map fun c => V.str c.nm)) (YAt (cs.map fun c => V.str c.nm)) (iTup K (tFld K (tVar 0) "_names")) (iTup K (tDGet (tFld K (tVar 0) "_cells_of") (tVar 3))) (gName 3) (gName 8) [3, 8] [8] (fun i => Itt K (Tf i).1) (fun i => (Tf i).2.length)
      (fun i H => SqT K H (Tf i).1 (Tf i).2) (fun i => YAt (Tf i).2)
    (fun i => [some (.ref a), some k, some s8, some (.str (cs.getD i c0).nm), none, none, none, none, none]) (fun i j => [some (.ref a), some k, some s8, some (.str (cs.getD i c0).nm), none, none, none, none, (Tf i).2[j]?]) := {
  W := by
    have q := walk_tup (K := K) (a := n) (xs := cs.map fun c => V.str c.nm)
    rw [List.length_map] at q
    exact q
  W1 := fun i hi => walk_tup
  lim := ⟨by have := G.len; omega, fun i hi => by have := cellsAt_len G hi; rw [(hT i hi).2.2.len]; omega⟩
  go := fun H3 e3 R q => ev_fld (K := K) (ev_var (i := 0) rfl) (e3 _ _ ha) cl.cl (cl.no _ (by decide +kernel)) l2 H3 (Ex.refl H3) _ fun H4 e4 => ⟨n, rfl, ⟨_, st_of ((e3.trans e4) _ _ hn)⟩, q H4 e4 (st_of ((e3.trans e4) _ _ hn))⟩
  keep := fun H3 H4 e q => ex_t e q
  wp := fun _ _ => rfl
  tg := fun i x H3 H4 R hi e3 _ ⟨e4, hx⟩ q => by
    subst e4
    rw [List.getElem?_map, getc hi] at hx
    cases hx
    exact q _ (Ex.refl _)
  go1 := fun i H3 hi e3 R q => ev_dget (ev_fld (K := K) (ev_var (i := 0) rfl) (e3 _ _ ha) cl.cl (cl.no _ (by decide +kernel)) l5) (ev_var (i := 3) rfl) (e3 _ _ hp) (cells_val G lz hi (hT i hi).1) H3 (Ex.refl H3) _ fun H4 e4 => ⟨_, rfl, ⟨_, st_of ((e3.trans e4) _ _ (hT i hi).2.1)⟩, q H4 e4⟩
  keep1 := fun i H3 hi e3 => st_of (e3 _ _ (hT i hi).2.1)
  wp1 := fun _ _ _ _ => rfl
  tg1 := fun i j x H3 H4 R hi hj e3 _ ⟨e4, hx⟩ q => by
    subst e4
    have q2 := q _ (Ex.refl _)
    rw [hx] at q2
    exact q2 }
def keyOf : PyData → List Key
  | .tuple [.str a, .str b] => [.inr a, .inr b]
  | .tuple [.str a, .int n] => [.inr a, .inl n]
  | _ => []
theorem cell_form {cs : List Col} {i : Nat} {d : PyData} (h : d ∈ cellsAt cs i) : (∃ w, d = sumC w) ∨ ∃ n, d = datC n := by
  unfold cellsAt cellsC at h
  rcases List.mem_append.mp h with h | h
  · obtain ⟨w, _, rfl⟩ := List.mem_map.mp h
    exact .inl ⟨w, rfl⟩
  · obtain ⟨j, _, rfl⟩ := List.mem_map.mp h
    exact .inr ⟨_, rfl⟩
theorem cell_key {H : Hp} {x : V} {d : PyData} (r : Rep H x d) (h : (∃ w, d = sumC w) ∨ ∃ n, d = datC n) : ∃ b, x = .ref b ∧ H b = some (.tup ((keyOf d).map kV)) := by
  rcases h with ⟨w, rfl⟩ | ⟨n, rfl⟩
  · obtain ⟨a, y, z, rfl, h, h1, h2⟩ := Rep.two r
    rw [h1.str_inv, h2.str_inv] at h
    exact ⟨a, rfl, h⟩
  · obtain ⟨a, y, z, rfl, h, h1, h2⟩ := Rep.two r
    rw [h1.str_inv, h2.int_inv] at h
    exact ⟨a, rfl, h⟩
theorem names_rep {H : Hp} {cs : List Col} {v : V} (r : Rep H v (nmsD cs)) : ∃ n, v = .ref n ∧ H n = some (.tup (cs.map fun c => V.str c.nm)) := by
  obtain ⟨n, xs, rfl, h, rs⟩ := Rep.tup_inv r
  have q : Reps H xs ((cs.map (·.nm)).map PyData.str) := by rw [List.map_map]; exact rs
  rw [q.strs, List.map_map] at h
  exact ⟨n, rfl, h⟩
section
variable {P : Program} {w : World} {K : PySem.W.Frag} {mg : Str → Option Value} {base : Heap} {f : Addr} {fd : FuncData}
abbrev sc_Table_init_N : List Str := ["self", "kind", "columns", "name", "sums", "data", "word", "pair", "cell"]
theorem sc_Table_init : FnScope sc_Table_init_N ["self", "kind", "columns"] (defScope s_Table_init) := ⟨rfl, rfl, rfl, by decide +kernel, rfl, by decide +kernel, by decide +kernel⟩
theorem ok_tinit (F : FnM K "__init__" "Table.__init__" s_Table_init f fd) (T : Tops mg) (C_is_kind : Cal P w K mg base 3 "is_kind" (pSp rKind) []) (C_check_columns : Cal P w K mg base 4 "check_columns" (pSp rCols) []) (C_cells_by_column : Cal P w K mg base 1 "cells_by_column" cSp []) (C_lines_of : Cal P w K mg base 1 "lines_of" (dSp rLines) []) {C : Addr} (cl : ClT K C) : FnOk P w K mg base CX0 5 f fd ["self", "kind", "columns"] (tSp C) := by
  refine F.ok sc_Table_init (fun vs H Q E h => ?_) (fun cdv A outer s H vs Q E hr h => ?_)
  · obtain ⟨a, dx, kd, v, cs, rfl, _⟩ := h; rfl
  · obtain ⟨a, dx, kd, v, cs, rfl, hk, r, G, ha, k⟩ := h
    have hu1 := Nat.lt_of_le_of_lt (Nat.add_le_add_left (by decide : 1 ≤ 64) _) hr.units
    refine ⟨_, PSs.nox (pss_cons (ps_if (pt_not (pt_val (pe_c C_is_kind hr (by decide) rfl (pa_cons (pv 1) pa_nil))))
  (pss_one ps_dead)
  pss_nil)
  (pss_cons (ps_expr (pe_c C_check_columns hr (by decide) rfl (pa_cons (pv 2) pa_nil)))
  (pss_cons (ps_fld (pv 0) (pv 1) rfl)
  (pss_cons (ps_fld (pv 0) (pv 2) rfl)
  (pss_cons (ps_fld (pv 0) (pe_callTy call_tuple_of (by rfl) T.n_tuple (by decide +kernel) (pa_cons (pe_lc (own := [("name", 3), ("sums", 4), ("data", 5)]) (g := gTup K 3 (gCons (gName 3) (gCons (gName 4) (gCons (gName 5) gNil)))) (tt := tYes) rfl sc_Table_init.nd (pi_tup (pv 2)) (blkOk_by (own := [("name", 3), ("sums", 4), ("data", 5)]) (N := sc_Table_init_N) (sc := defScope s_Table_init) (by decide +kernel)) (fun _ _ _ _ _ => (pg_tup rfl (pgs_cons (pg_name (i := 3) sc_Table_init.nd rfl (.inl rfl)) (pgs_cons (pg_name (i := 4) sc_Table_init.nd rfl (.inl rfl)) (pgs_cons (pg_name (i := 5) sc_Table_init.nd rfl (.inl rfl)) pgs_nil))))) (fun _ _ _ _ _ => pts_nil) (fun _ _ _ _ _ => (pv 3))) pa_nil)) rfl)
  (pss_cons (ps_fld (pv 0) (pe_callTy call_tuple_of (by rfl) T.n_tuple (by decide +kernel) (pa_cons (pe_lc2 (own := [("name", 3), ("sums", 4), ("data", 5), ("word", 6)]) (vs1 := [6]) (wi1 := (iTup K (tVar 4))) (tt := tYes) (tt1 := tYes) (g := gTup K 3 (gCons (gName 3) (gCons (gName 4) (gCons (gName 5) gNil)))) (g1 := gName 6) rfl sc_Table_init.nd (pi_tup (pv 2)) (blkOk_by (own := [("name", 3), ("sums", 4), ("data", 5), ("word", 6)]) (N := sc_Table_init_N) (sc := defScope s_Table_init) (by decide +kernel)) (by decide) (fun _ _ _ _ _ => (pg_tup rfl (pgs_cons (pg_name (i := 3) sc_Table_init.nd rfl (.inl rfl)) (pgs_cons (pg_name (i := 4) sc_Table_init.nd rfl (.inl rfl)) (pgs_cons (pg_name (i := 5) sc_Table_init.nd rfl (.inl rfl)) pgs_nil))))) (fun _ _ _ _ _ => pts_nil) (fun _ _ _ _ _ => (pi_tup (pv 4))) (fun _ _ _ _ _ => (pg_name (i := 6) sc_Table_init.nd rfl (.inl rfl))) (fun _ _ _ _ _ => pts_nil) (fun _ _ _ _ _ => (pv 6))) pa_nil)) rfl)
  (pss_cons (ps_fld (pv 0) (pe_callTy call_tuple_of (by rfl) T.n_tuple (by decide +kernel) (pa_cons (pe_lc2 (own := [("name", 3), ("sums", 4), ("data", 5), ("pair", 7)]) (vs1 := [7]) (wi1 := (iTup K (tVar 5))) (tt := tYes) (tt1 := tYes) (g := gTup K 3 (gCons (gName 3) (gCons (gName 4) (gCons (gName 5) gNil)))) (g1 := gName 7) rfl sc_Table_init.nd (pi_tup (pv 2)) (blkOk_by (own := [("name", 3), ("sums", 4), ("data", 5), ("pair", 7)]) (N := sc_Table_init_N) (sc := defScope s_Table_init) (by decide +kernel)) (by decide) (fun _ _ _ _ _ => (pg_tup rfl (pgs_cons (pg_name (i := 3) sc_Table_init.nd rfl (.inl rfl)) (pgs_cons (pg_name (i := 4) sc_Table_init.nd rfl (.inl rfl)) (pgs_cons (pg_name (i := 5) sc_Table_init.nd rfl (.inl rfl)) pgs_nil))))) (fun _ _ _ _ _ => pts_nil) (fun _ _ _ _ _ => (pi_tup (pv 5))) (fun _ _ _ _ _ => (pg_name (i := 7) sc_Table_init.nd rfl (.inl rfl))) (fun _ _ _ _ _ => pts_nil) (fun _ _ _ _ _ => (pv 7))) pa_nil)) rfl)
  (pss_cons (ps_fld (pv 0) (pe_c C_cells_by_column hr (by decide) rfl (pa_cons (pv 2) pa_nil)) rfl)
  (pss_cons (ps_fld (pv 0) (pe_callTy BB.call_tupleF (by rfl) T.n_tuple (by decide +kernel) (pa_cons (pe_lc2 (own := [("name", 3), ("cell", 8)]) (vs1 := [8]) (wi1 := (iTup K (tDGet (tFld K (tVar 0) "_cells_of") (tVar 3)))) (tt := tYes) (tt1 := tYes) (g := gName 3) (g1 := gName 8) rfl sc_Table_init.nd (pi_tup (pe_fld (pv 0) rfl)) (blkOk_by (own := [("name", 3), ("cell", 8)]) (N := sc_Table_init_N) (sc := defScope s_Table_init) (by decide +kernel)) (by decide) (fun _ _ _ _ _ => (pg_name (i := 3) sc_Table_init.nd rfl (.inl rfl))) (fun _ _ _ _ _ => pts_nil) (fun _ _ _ _ _ => (pi_tup (pe_dget hu1 (pe_fld (pv 0) rfl) (pv 3) (fun _ _ => rfl)))) (fun _ _ _ _ _ => (pg_name (i := 8) sc_Table_init.nd rfl (.inl rfl))) (fun _ _ _ _ _ => pts_nil) (fun _ _ _ _ _ => (pv 8))) pa_nil)) rfl)
  (pss_cons (ps_fld (pv 0) (D2.pe_dc2 (own := [("name", 3), ("cell", 8)]) (vs1 := [8]) (wi1 := (iTup K (tDGet (tFld K (tVar 0) "_cells_of") (tVar 3)))) (g := gName 3) (g1 := gName 8) rfl hu1 sc_Table_init.nd (pi_tup (pe_fld (pv 0) rfl)) (blkOk_by (own := [("name", 3), ("cell", 8)]) (N := sc_Table_init_N) (sc := defScope s_Table_init) (by decide +kernel)) (by decide) (fun _ _ _ _ _ => (pg_name (i := 3) sc_Table_init.nd rfl (.inl rfl))) (fun _ _ _ _ _ => (pi_tup (pe_dget hu1 (pe_fld (pv 0) rfl) (pv 3) (fun _ _ => rfl)))) (fun _ _ _ _ _ => (pg_name (i := 8) sc_Table_init.nd rfl (.inl rfl))) (fun _ _ _ _ _ => (pv 8)) (fun _ _ _ _ _ => (pv 3))) rfl)
  (pss_one (ps_fld (pv 0) (pe_c C_lines_of hr (by decide) rfl (pa_cons (pv 1) (pa_cons (pv 2) pa_nil))) rfl)))))))))))), ?_⟩
    obtain ⟨b, xs, rfl, hb, rs⟩ := Rep.tup_inv r
    obtain ⟨F, hF⟩ := Reps.fc rs
    have lx : xs.length = cs.length := by rw [rs.len, List.length_map]
    have l8 := G.len
    refine q_when (b := false) (et_is (et_not (et_B (ev_pc (z := .bl true) (ea_cons (ev_var rfl) ea_nil) fun _ _ => ⟨kd, rfl, hk, rfl⟩))) rfl) (fun z => (nomatch z)) fun _ H1 e1 => ?_
    refine q_drop (ev_pc (z := .non) (ea_cons (ev_var rfl) ea_nil) fun H2 e2 => ⟨_, cs, rfl, r.ex (e1.trans e2), G, rfl⟩) fun H2 e2 => ?_
    have m2 : Mid H H2 a C dx (fz []) := ⟨(e1.trans e2) _ _ ha, fun b o _ h => (e1.trans e2) _ _ h⟩
    have r2 := r.ex (e1.trans e2)
    have b2 := (e1.trans e2) _ _ hb
    have F2 := hF.ex (e1.trans e2)
    -- the kind, the columns
    refine q_fld (K := K) (ev_var rfl) (ev_var rfl) m2.at_ cl.cl (cl.no _ (by decide +kernel)) (by decide) fun H3 e3 => ?_
    have t := m2.tx (o := .ins C dx (putF "_kind" kd.v (fz []))) e3
    have m3 := m2.put (f := "_kind") (v := kd.v) (fs' := fz [kd.v]) e3 rfl
    have r3 := r2.on t
    have b3 := t _ _ b2
    have F3 := F2.on t
    clear t
    generalize upd H3 a (.ins C dx (putF "_kind" kd.v (fz []))) = H3 at m3 r3 b3 F3 ⊢
    refine q_fld (K := K) (ev_var rfl) (ev_var rfl) m3.at_ cl.cl (cl.no _ (by decide +kernel)) (by show 1 < 1000; decide) fun H4 e4 => ?_
    have t := m3.tx (o := .ins C dx (putF "_columns" (.ref b) (fz [kd.v]))) e4
    have m4 := m3.put (f := "_columns") (v := .ref b) (fs' := fz [kd.v, .ref b]) e4 rfl
    have r4 := r3.on t
    have b4 := t _ _ b3
    have F4 := F3.on t
    clear t
    generalize upd H4 a (.ins C dx (putF "_columns" (.ref b) (fz [kd.v]))) = H4 at m4 r4 b4 F4 ⊢
    -- the names
    have s5 := es_lcT1 (K := K) (te := tVar 3) (g := gTup K 3 (gCons (gName 3) (gCons (gName 4) (gCons (gName 5) gNil)))) (vs := [3, 4, 5]) (tl := tVar 2) (σ := [some (.ref a), some kd.v, some (.ref b), none, none, none, none, none, none]) (H := H4) (ev_var rfl) b4 (by omega)
      (fun i => [some (.ref a), some kd.v, some (.ref b), some (.str (cs.getD i c0).nm), some (.ref (F i).2.1), some (.ref (F i).2.2.1), none, none, none]) (fun i => .str (cs.getD i c0).nm) (fun _ _ => rfl)
      (fun i x H5 R hx e5 q => by
        have lt : i < cs.length := by have := (List.getElem?_eq_some_iff.mp hx).1; omega
        rw [F4.at_ i lt] at hx
        cases hx
        exact g_three (K := K) (e5 _ _ (F4.col i lt)) q) (fun i x H5 hx e5 => er_str (ev_var rfl))
    rw [lx] at s5
    have e5 : ((List.range cs.length).map fun i => PyData.str (cs.getD i c0).nm) = cs.map fun c => PyData.str c.nm := rg (fun c : Col => PyData.str c.nm) c0 cs
    rw [e5] at s5
    clear e5
    refine q_fldR (K := K) (d := nmsD cs) (er_tuple (K := K) s5) (ev_var rfl) m4.at_ cl.cl (cl.no _ (by decide +kernel)) (by show 2 < 1000; decide) fun v2 H5 e5 rv h5 => ?_
    obtain ⟨nn, rfl, hn⟩ := names_rep rv
    have t := m4.tx (o := .ins C dx (putF "_names" (.ref nn) (fz [kd.v, .ref b]))) e5
    have t' : TX.Tx H5 (upd H5 a (.ins C dx (putF "_names" (.ref nn) (fz [kd.v, .ref b])))) := Tx.ins h5
    have m5 := m4.put (f := "_names") (v := .ref nn) (fs' := fz [kd.v, .ref b, .ref nn]) e5 rfl
    have r5 := r4.on t
    have b5 := t _ _ b4
    have F5 := F4.on t
    have rn := rv.on t'
    clear t t' rv hn h5 s5
    generalize upd H5 a (.ins C dx (putF "_names" (.ref nn) (fz [kd.v, .ref b]))) = H5 at m5 r5 b5 F5 rn ⊢
    -- the sums
    have s6 := es_lc2 (te := tVar 6) (two_sums (K := K) (s := some (.ref a)) (k := some kd.v) (x8 := none) G lx b5 F5) (fun i j => .str ((cs.getD i c0).sums.getD j Str.empty)) fun i j H6 hi hj e6 => er_str (ev_var rfl)
    have e6 : ((List.range cs.length).flatMap fun i => (List.range (cs.getD i c0).sums.length).map fun j => PyData.str ((cs.getD i c0).sums.getD j Str.empty)) = (sumsOf cs).map PyData.str := by
      have q : ∀ c : Col, (List.range c.sums.length).map (fun j => PyData.str (c.sums.getD j Str.empty)) = c.sums.map PyData.str := fun c => rg PyData.str Str.empty c.sums
      simp only [q]
      rw [rgf (fun c : Col => c.sums.map PyData.str) c0 cs]
      unfold sumsOf
      rw [List.map_flatMap]
    rw [e6] at s6
    clear e6
    refine q_fldR (K := K) (d := .tuple ((sumsOf cs).map PyData.str)) (er_tuple (K := K) s6) (ev_var rfl) m5.at_ cl.cl (cl.no _ (by decide +kernel)) (by show 3 < 1000; decide) fun v3 H6 e6 rv h6 => ?_
    have t := m5.tx (o := .ins C dx (putF "_sums" v3 (fz [kd.v, .ref b, .ref nn]))) e6
    have t' : TX.Tx H6 (upd H6 a (.ins C dx (putF "_sums" v3 (fz [kd.v, .ref b, .ref nn])))) := Tx.ins h6
    have m6 := m5.put (f := "_sums") (v := v3) (fs' := fz [kd.v, .ref b, .ref nn, v3]) e6 rfl
    have r6 := r5.on t
    have b6 := t _ _ b5
    have F6 := F5.on t
    have rn6 := rn.on t
    have rs6 := rv.on t'
    clear t t' rv h6 s6
    generalize upd H6 a (.ins C dx (putF "_sums" v3 (fz [kd.v, .ref b, .ref nn]))) = H6 at m6 r6 b6 F6 rn6 rs6 ⊢
    -- the data
    have s7 := es_lc2 (te := tVar 7) (two_data (K := K) (s := some (.ref a)) (k := some kd.v) (x8 := none) G lx b6 F6) (fun i j => pairD ((cs.getD i c0).data.getD j p0)) fun i j H7 hi hj e7 => by
      obtain ⟨x, hx⟩ : ∃ x, (F i).2.2.2[j]? = some x := ⟨_, List.getElem?_eq_getElem hj⟩
      obtain ⟨d, hd, rd⟩ := (F6.rp i hi).at hx
      rw [List.getElem?_map] at hd
      obtain ⟨pr, h1, rfl⟩ := Option.map_eq_some_iff.mp hd
      have ep : (cs.getD i c0).data.getD j p0 = pr := List.getD_eq_getElem?_getD.trans (by rw [h1]; rfl)
      rw [ep]
      exact er_var (v := x) (by rw [hx]; rfl) (rd.ex e7)
    have e7 : ((List.range cs.length).flatMap fun i => (List.range (F i).2.2.2.length).map fun j => pairD ((cs.getD i c0).data.getD j p0)) = (dataOf cs).map pairD := by
      have q : ∀ i ∈ List.range cs.length, ((List.range (F i).2.2.2.length).map fun j => pairD ((cs.getD i c0).data.getD j p0)) = (cs.getD i c0).data.map pairD := fun i hi => by
        have l : (F i).2.2.2.length = (cs.getD i c0).data.length := by rw [(F6.rp i (List.mem_range.mp hi)).len, List.length_map]
        rw [l]
        exact rg pairD p0 _
      rw [List.flatMap_def, List.map_congr_left q, ← List.flatMap_def, rgf (fun c : Col => c.data.map pairD) c0 cs]
      unfold dataOf
      rw [List.map_flatMap]
    rw [e7] at s7
    clear e7
    refine q_fldR (K := K) (d := .tuple ((dataOf cs).map pairD)) (er_tuple (K := K) s7) (ev_var rfl) m6.at_ cl.cl (cl.no _ (by decide +kernel)) (by show 4 < 1000; decide) fun v4 H7 e7 rv h7 => ?_
    have t := m6.tx (o := .ins C dx (putF "_data" v4 (fz [kd.v, .ref b, .ref nn, v3]))) e7
    have t' : TX.Tx H7 (upd H7 a (.ins C dx (putF "_data" v4 (fz [kd.v, .ref b, .ref nn, v3])))) := Tx.ins h7
    have m7 := m6.put (f := "_data") (v := v4) (fs' := fz [kd.v, .ref b, .ref nn, v3, v4]) e7 rfl
    have r7 := r6.on t
    have rn7 := rn6.on t
    have rs7 := rs6.on t
    have rd7 := rv.on t'
    clear t t' rv h7 s7 F6 F5 F4 F3 F2 b6 b5 b4 b3 b2
    generalize upd H7 a (.ins C dx (putF "_data" v4 (fz [kd.v, .ref b, .ref nn, v3]))) = H7 at m7 r7 rn7 rs7 rd7 ⊢
    -- the cells by column
    refine ⟨.ref b, rfl, .ref b, cs, rfl, r7, G, fun p H8 hp8 e8 cd => ?_⟩
    refine ⟨.ref a, rfl, a, C, dx, _, rfl, e8 _ _ m7.at_, cl.cl, cl.no _ (by decide +kernel), by show 5 < 1000; decide, ?_⟩
    have t := m7.tx (o := .ins C dx (putF "_cells_of" (.ref p) (fz [kd.v, .ref b, .ref nn, v3, v4]))) e8
    have m8 := m7.put (f := "_cells_of") (v := .ref p) (fs' := fz [kd.v, .ref b, .ref nn, v3, v4, .ref p]) e8 rfl
    have r8 := r7.on t
    have rn8 := rn7.on t
    have rs8 := rs7.on t
    have rd8 := rd7.on t
    have cd8 := CellsD.put (o := .ins C dx (putF "_cells_of" (.ref p) (fz [kd.v, .ref b, .ref nn, v3, v4]))) (m7.ex e8) (Ex.refl H8) cd
    clear t cd
    generalize upd H8 a (.ins C dx (putF "_cells_of" (.ref p) (fz [kd.v, .ref b, .ref nn, v3, v4]))) = H8 at m8 r8 rn8 rs8 rd8 cd8 ⊢
    -- the cells
    obtain ⟨n2, en, hn8⟩ := names_rep rn8
    obtain rfl : nn = n2 := V.ref.inj en
    obtain ⟨Tf, zs, hz, lz, hT⟩ := cd8.fc
    have two8 := two_cells (K := K) (k := kd.v) (b := b) (s8 := .ref b) (v1 := .non) (v3 := .non) (v4 := .non) G cl m8.at_ rfl rfl hn8 hz lz hT
    have s9 := es_lc2 (te := tVar 8) two8 (fun i j => (cellsAt cs i).getD j .none) fun i j H9 hi hj e9 => by
      obtain ⟨x, hx⟩ : ∃ x, (Tf i).2[j]? = some x := ⟨_, List.getElem?_eq_getElem hj⟩
      obtain ⟨d, hd, rd⟩ := (hT i hi).2.2.at hx
      have ep : (cellsAt cs i).getD j .none = d := List.getD_eq_getElem?_getD.trans (by rw [hd]; rfl)
      rw [ep]
      exact er_var (v := x) (by rw [hx]; rfl) (rd.ex e9)
    have e9 : ((List.range cs.length).flatMap fun i => (List.range (Tf i).2.length).map fun j => (cellsAt cs i).getD j .none) = cellsL cs := by
      have q : ∀ i ∈ List.range cs.length, ((List.range (Tf i).2.length).map fun j => (cellsAt cs i).getD j .none) = cellsAt cs i := fun i hi => by
        rw [(hT i (List.mem_range.mp hi)).2.2.len]
        exact range_getD _ _
      unfold cellsL
      rw [List.flatMap_def, List.map_congr_left q, ← List.flatMap_def]
    rw [e9] at s9
    clear e9
    refine fld_open (K := K) (opCB0_ (cons_ (s9 H8 (Ex.refl H8) _ fun pt xt H81 hpt e81 hx8 rx8 => nil_ ⟨pt, xt, rfl, sq_of hx8, fun l ob hl oc od => ?_⟩)))
    have e9 : Ex H8 (upd H81 l (.frz ob (.tup xt))) := e81.trans (Ex.new hl)
    have rv : TupF (upd H81 l (.frz ob (.tup xt))) (.ref l) (cellsL cs) := ⟨l, ob, xt, rfl, upd_same, oc, od, rx8.ex (Ex.new hl)⟩
    obtain ⟨v6, hv6⟩ : ∃ v6 : V, v6 = .ref l := ⟨_, rfl⟩
    rw [← hv6] at rv ⊢
    generalize upd H81 l (.frz ob (.tup xt)) = H9 at e9 rv ⊢
    have h9 := e9 _ _ m8.at_
    refine ⟨.ref a, rfl, a, C, dx, _, rfl, h9, cl.cl, cl.no _ (by decide +kernel), by show 6 < 1000; decide, ?_⟩
    clear hv6 e81 hx8 rx8 hl oc od hpt
    have t := m8.tx (o := .ins C dx (putF "_cells" v6 (fz [kd.v, .ref b, .ref nn, v3, v4, .ref p]))) e9
    have cd9 := CellsD.put (o := .ins C dx (putF "_cells" v6 (fz [kd.v, .ref b, .ref nn, v3, v4, .ref p]))) m8 e9 cd8
    have m9 := m8.put (f := "_cells") (v := v6) (fs' := fz [kd.v, .ref b, .ref nn, v3, v4, .ref p, v6]) e9 rfl
    have r9 := r8.on t
    have rn9 := rn8.on t
    have rs9 := rs8.on t
    have rd9 := rd8.on t
    have rc9 := TupF.put (o := .ins C dx (putF "_cells" v6 (fz [kd.v, .ref b, .ref nn, v3, v4, .ref p]))) (m8.ex e9) (Ex.refl H9) rv
    clear t rv h9 s9 two8 hz hT lz zs Tf hn8
    generalize upd H9 a (.ins C dx (putF "_cells" v6 (fz [kd.v, .ref b, .ref nn, v3, v4, .ref p]))) = H9 at m9 r9 rn9 rs9 rd9 cd9 rc9 ⊢
    -- the columns of the cells
    obtain ⟨n2, en, hn9⟩ := names_rep rn9
    obtain rfl : nn = n2 := V.ref.inj en
    obtain ⟨Tf, zs, hz, lz, hT⟩ := cd9.fc
    have two9 := two_cells (K := K) (k := kd.v) (b := b) (s8 := .ref b) (v1 := .non) (v3 := .non) (v4 := .non) G cl m9.at_ rfl rfl hn9 hz lz hT
    refine fld_open (K := K) (ed_dc2 (tk := tVar 8) (tv := tVar 3) two9 (Ks := fun i j => keyOf ((cellsAt cs i).getD j .none)) (Z := fun i _ => .str (cs.getD i c0).nm) (fun i j H10 hi hj e10 Q0 q => ?_) (fun i j H10 hi hj e10 => ev_var rfl) H9 (Ex.refl H9) _ fun q kvs H10 hq10 e10 hq => ?_)
    · obtain ⟨x, hx⟩ : ∃ x, (Tf i).2[j]? = some x := ⟨_, List.getElem?_eq_getElem hj⟩
      obtain ⟨d, hd, rd⟩ := (hT i hi).2.2.at hx
      have ep : (cellsAt cs i).getD j .none = d := List.getD_eq_getElem?_getD.trans (by rw [hd]; rfl)
      obtain ⟨y, rfl, hy⟩ := cell_key (rd.ex e10) (cell_form (List.mem_of_getElem? hd))
      exact ⟨.ref y, by rw [hx]; rfl, q y H10 (Ex.refl H10) (by rw [ep]; exact hy)⟩
    clear two9 hz hT lz zs Tf hn9
    refine ⟨.ref a, rfl, a, C, dx, _, rfl, e10 _ _ m9.at_, cl.cl, cl.no _ (by decide +kernel), by show 7 < 1000; decide, ?_⟩
    have t := m9.tx (o := .ins C dx (putF "_column_of" (.ref q) (fz [kd.v, .ref b, .ref nn, v3, v4, .ref p, v6]))) e10
    have cd10 := CellsD.put (o := .ins C dx (putF "_column_of" (.ref q) (fz [kd.v, .ref b, .ref nn, v3, v4, .ref p, v6]))) m9 e10 cd9
    have hq11 := keep_dT (o := .ins C dx (putF "_column_of" (.ref q) (fz [kd.v, .ref b, .ref nn, v3, v4, .ref p, v6]))) (m9.ex e10) (Ex.refl H10) hq
    have m10 := m9.put (f := "_column_of") (v := .ref q) (fs' := fz [kd.v, .ref b, .ref nn, v3, v4, .ref p, v6, .ref q]) e10 rfl
    have r10 := r9.on t
    have rn10 := rn9.on t
    have rs10 := rs9.on t
    have rd10 := rd9.on t
    have rc10 := TupF.put (o := .ins C dx (putF "_column_of" (.ref q) (fz [kd.v, .ref b, .ref nn, v3, v4, .ref p, v6]))) m9 e10 rc9
    clear t hq
    generalize upd H10 a (.ins C dx (putF "_column_of" (.ref q) (fz [kd.v, .ref b, .ref nn, v3, v4, .ref p, v6]))) = H10 at m10 r10 rn10 rs10 rd10 cd10 rc10 hq11 ⊢
    -- the lines
    refine fld_open1 (K := K) ?_
    refine er_dc (R := rLines) (E := C8.E0) (d := .tuple ((linesOf kd cs).map PyData.str)) (ea_cons (ev_var rfl) (ea_cons (ev_var rfl) ea_nil)) (fun H14 e14 => ⟨kd, .ref b, cs, rfl, hk, r10.ex e14, G, rfl⟩) H10 (Ex.refl H10) _ fun v9 H14 e14 rl => ?_
    refine ⟨.ref a, rfl, a, C, dx, _, rfl, e14 _ _ m10.at_, cl.cl, cl.no _ (by decide +kernel), by show 8 < 1000; decide, ?_⟩
    have t := m10.tx (o := .ins C dx (putF "_lines" v9 (fz [kd.v, .ref b, .ref nn, v3, v4, .ref p, v6, .ref q]))) e14
    have t' : TX.Tx H14 (upd H14 a (.ins C dx (putF "_lines" v9 (fz [kd.v, .ref b, .ref nn, v3, v4, .ref p, v6, .ref q])))) := Tx.ins (e14 _ _ m10.at_)
    have m14 := m10.put (f := "_lines") (v := v9) (fs' := fz [kd.v, .ref b, .ref nn, v3, v4, .ref p, v6, .ref q, v9]) e14 rfl
    exact k _ m14.but ⟨dx, .ref b, .ref nn, v3, v4, v6, v9, p, q, kvs, m14.at_, r10.on t, rn10.on t, rs10.on t, rd10.on t, CellsD.put m10 e14 cd10, TupF.put m10 e14 rc10, keep_dT m10 e14 hq11, rl.on t'⟩
end
end K30
end
section
set_option Elab.async false
set_option linter.all false
set_option maxRecDepth 100000
set_option maxHeartbeats 4000000
namespace K30
open PySem PySem.Spec PyProof.Rows L2 Evl TX
open C8 (Cal pe_c pe_gc)
theorem q_asgO {σ : L2.St} {H : Hp} {te : TE} {D : Ends} {tz : TS} {i : Nat} (h : te σ H fun v H1 => tz D (σ.set i (some v)) H1) : tSeq (tAsg te (gName i)) tz D σ H := h
theorem callO_ {sp : Sp} {dvs : List V} {E : XK} {t : TA} {σ : L2.St} {H : Hp} {Q : VK} (h : t σ H fun vs H1 => sp (vs ++ dvs) H1 Q E) : tCall sp dvs E t σ H Q := h
theorem TabAt.keep {H H' : Hp} {C a : Addr} {k : Kd} {cs : List Col} (t : TabAt H C a k cs) (e : Ex H H') : TabAt H' C a k cs := by
  obtain ⟨dx, v1, v2, v3, v4, v6, v9, p, q, kvs, h0, h1, h2, h3, h4, h5, h6, h7, h9⟩ := t.ex
  exact ⟨dx, v1, v2, v3, v4, v6, v9, p, q, kvs, e _ _ h0, h1.ex e, h2.ex e, h3.ex e, h4.ex e, h5.ex e, h6.ex e, e _ _ h7, h9.ex e⟩
/-- the value that data values give a cell -/
def told (k : Kd) (cs : List Col) (ns : List Int) : PyData → Int
  | .tuple [.str _, .str s] => tog k ((numsOf s (dataOf cs)).map fun j => ns.getD j.toNat 0)
  | .tuple [.str _, .int n] => ns.getD n.toNat 0
  | _ => 0
/-- what is a cell -/
def isCell (cs : List Col) (d : PyData) : Prop := (∃ s, d = sumC s ∧ s ∈ sumsOf cs) ∨ ∃ n : Int, d = datC n ∧ 0 ≤ n ∧ n.toNat < (dataOf cs).length
theorem numsOf_lt {s : Str} {ps : List (Str × Str)} {j : Int} (h : j ∈ numsOf s ps) : 0 ≤ j ∧ j.toNat < ps.length := by
  unfold numsOf at h
  obtain ⟨i, hi, rfl⟩ := List.mem_map.mp h
  have := List.mem_range.mp (List.mem_filter.mp hi).1
  exact ⟨Int.natCast_nonneg i, by simpa using this⟩
theorem numsOf_len (s : Str) (ps : List (Str × Str)) : (numsOf s ps).length ≤ ps.length := by
  unfold numsOf
  rw [List.length_map]
  exact Nat.le_trans (List.length_filter_le _ _) (by rw [List.length_range]; exact Nat.le_refl _)
theorem at_ints {ns : List Int} {j : Int} (h0 : 0 ≤ j) (h : j.toNat < ns.length) : atI (ns.map V.int) j = some (.int (ns.getD j.toNat 0)) := by
  have e := atI_nat (xs := ns.map V.int) (j := j.toNat) (v := .int (ns.getD j.toNat 0)) (by rw [List.getElem?_map, List.getElem?_eq_getElem h, List.getD_eq_getElem?_getD, List.getElem?_eq_getElem h]; rfl)
  rw [Int.toNat_of_nonneg h0] at e
  exact e
theorem told_sum (k : Kd) (cs : List Col) (ns : List Int) (s : Str) : told k cs ns (sumC s) = tog k ((((List.range (dataOf cs).length).filter fun j => inPair s ((dataOf cs).getD j p0)).map fun j => ns.getD j 0)) := by
  show tog k ((numsOf s (dataOf cs)).map fun j => ns.getD j.toNat 0) = _
  unfold numsOf
  rw [List.map_map]
  congr 1
theorem IntsD.at {H : Hp} {p : Addr} {S : List Str} {g : Str → Int} (h : IntsD H p S g) (nd : S.Nodup) {s : Str} (hs : s ∈ S) : ∃ (kvs : List (Key × V)), H p = some (.dK kvs) ∧ valV kvs (.inr s) = some (.int (g s)) := by
  obtain ⟨zs, h1, h2⟩ := h
  obtain ⟨i, hi, e⟩ := List.mem_iff_getElem.mp hs
  have key : S.getD i Str.empty = s := by rw [List.getD_eq_getElem?_getD, List.getElem?_eq_getElem hi]; exact e
  have lz : zs.length = S.length := by rw [h2.len, List.length_map, List.length_range]
  obtain ⟨x, hx, rx⟩ := h2.get (i := i) (d := .int (g s)) (by
    rw [List.getElem?_map, List.getElem?_range hi]
    show some (PyData.int (g (S.getD i Str.empty))) = _
    rw [key])
  obtain rfl := rx.int_inv
  refine ⟨_, h1, val_at (i := i) ?_ ?_⟩
  · rw [List.nodup_iff_pairwise_ne, List.pairwise_iff_getElem]
    intro j k hj hk hjk e
    simp only [List.length_map, List.length_zipIdx] at hj hk
    simp only [List.getElem_map, List.getElem_zipIdx, Nat.zero_add] at e
    have e1 := Sum.inr.inj e
    rw [List.getD_eq_getElem?_getD, List.getD_eq_getElem?_getD, List.getElem?_eq_getElem (by omega : j < S.length), List.getElem?_eq_getElem (by omega : k < S.length)] at e1
    have := (List.getElem_inj nd).mp e1
    omega
  · rw [List.getElem?_map, List.getElem?_zipIdx, hx]
    show some ((.inr (S.getD (0 + i) Str.empty) : Key), V.int (g s)) = _
    rw [Nat.zero_add, key]
theorem IntsD.ex {H H' : Hp} {p : Addr} {S : List Str} {g : Str → Int} (h : IntsD H p S g) (e : Ex H H') : IntsD H' p S g := by
  obtain ⟨zs, h1, h2⟩ := h
  exact ⟨zs, e _ _ h1, h2.ex e⟩
theorem walk_zipT {K : PySem.W.Frag} {a b : Addr} {xs ys : List V} (hl : xs.length = ys.length) : Walk (RZ.ItzT K a b) xs.length (fun H => SqT K H a xs ∧ SqT K H b ys) (YPair (fun i => xs[i]?) (fun i => ys[i]?)) :=
  ⟨fun i H hi q => ⟨xs, ys, xs[i], ys[i], q.1, q.2, by simp [hi], by simp [hl ▸ hi]⟩, fun H q => ⟨xs, ys, q.1, q.2, .inl (Nat.le_refl _)⟩, fun i H v H2 _ q ⟨T, x, y, h1, h2, h3, h4, h5⟩ => ⟨T, x, y, h1, h2, h3, h4 xs q.1, h5 ys q.2⟩⟩
def fullL (k : Kd) (cs : List Col) (ns : List Int) : List Int := (cellsL cs).map (told k cs ns)
theorem flat_le {α β : Type} {f : α → List β} {m : Nat} : ∀ {l : List α}, (∀ x ∈ l, (f x).length ≤ m) → (l.flatMap f).length ≤ l.length * m
  | [], _ => Nat.zero_le _
  | x :: l, h => by
    rw [List.flatMap_cons, List.length_append, List.length_cons, Nat.succ_mul]
    have := h x (List.mem_cons_self ..)
    have := flat_le (l := l) fun y hy => h y (List.mem_cons_of_mem _ hy)
    omega
theorem cellsL_len {cs : List Col} (G : Good cs) : (cellsL cs).length ≤ 1000 := by
  have q : (cellsL cs).length ≤ (List.range cs.length).length * 34 := flat_le fun i hi => cellsAt_len G (List.mem_range.mp hi)
  rw [List.length_range] at q
  have := G.len
  omega
theorem data_cut {cs : List Col} {i : Nat} (h : i < cs.length) : dataOf cs = dataOf (cs.take i) ++ ((cs.getD i c0).data ++ dataOf (cs.drop (i + 1))) := by
  have e : cs = cs.take i ++ (cs.getD i c0 :: cs.drop (i + 1)) := by
    have g : cs.getD i c0 = cs[i] := by rw [List.getD_eq_getElem?_getD, List.getElem?_eq_getElem h]; rfl
    rw [g, ← List.drop_eq_getElem_cons h, List.take_append_drop]
  have q : dataOf (cs.take i ++ (cs.getD i c0 :: cs.drop (i + 1))) = dataOf (cs.take i) ++ ((cs.getD i c0).data ++ dataOf (cs.drop (i + 1))) := by
    unfold dataOf
    rw [List.flatMap_append, List.flatMap_cons]
  rw [← e] at q
  exact q
theorem cell_is {cs : List Col} {d : PyData} (h : d ∈ cellsL cs) : isCell cs d := by
  obtain ⟨i, hi, h⟩ := List.mem_flatMap.mp h
  have lt := List.mem_range.mp hi
  unfold cellsAt cellsC at h
  rcases List.mem_append.mp h with h | h
  · obtain ⟨w, hw, rfl⟩ := List.mem_map.mp h
    exact .inl ⟨w, rfl, List.mem_flatMap.mpr ⟨_, Good.mem lt, hw⟩⟩
  · obtain ⟨j, hj, rfl⟩ := List.mem_map.mp h
    have hj := List.mem_range.mp hj
    have q := congrArg List.length (data_cut lt)
    rw [List.length_append, List.length_append] at q
    refine .inr ⟨_, rfl, ?_, ?_⟩
    · unfold firstOf
      omega
    · unfold firstOf
      omega
theorem ns_at {ns : List Int} {i : Nat} {x : V} (h : (ns.map V.int)[i]? = some x) : ∃ n, ns[i]? = some n ∧ x = .int n := by
  rw [List.getElem?_map] at h
  obtain ⟨n, h1, h2⟩ := Option.map_eq_some_iff.mp h
  exact ⟨n, h1, h2.symm⟩
theorem at_one {x y : V} : atI [x, y] 1 = some y := rfl
theorem at_zero {x y : V} : atI [x, y] 0 = some x := rfl
def rCT (C : Addr) : List V → Hp → PyData → Prop := fun vs H d => ∃ (a p : Addr) (k : Kd) (cs : List Col) (ns : List Int), vs = [.ref a, .ref p] ∧ TabAt H C a k cs ∧ k.ok ∧ Good cs ∧ H p = some (.tup (ns.map V.int)) ∧ ns.length = (dataOf cs).length ∧ d = .tuple ((fullL k cs ns).map PyData.int)
def dcScopeC (st : Stmt) : Scope := match defBody st with
  | .Assign _ (.DictComp _ _ _ sc _) _ :: _ => sc
  | _ => defScope st
section
variable {P : Program} {w : World} {K : PySem.W.Frag} {mg : Str → Option Value} {base : Heap} {f : Addr} {fd : FuncData}
end
end K30
end
section
set_option Elab.async false
set_option linter.all false
set_option maxRecDepth 100000
set_option maxHeartbeats 4000000
namespace K30
open PySem PySem.Spec PyProof.Rows L2 Evl TX
open C8 (Cal pe_c pe_gc)
def b30 : Int := 1000000000000000000000000000000
def b32 : Int := 100000000000000000000000000000000
def rChkV (C : Addr) : List V → Hp → V → Prop := fun vs H z => ∃ (a p : Addr) (k : Kd) (cs : List Col) (ns : List Int), vs = [.ref a, .ref p] ∧ TabAt H C a k cs ∧ H p = some (.tup (ns.map V.int)) ∧ ns.length = (dataOf cs).length ∧ (∀ n ∈ ns, okV k n b30 = true) ∧ z = .non
def rFull (C : Addr) : List V → Hp → PyData → Prop := fun vs H d => ∃ (a p : Addr) (k : Kd) (cs : List Col) (ns : List Int), vs = [.ref a, .ref p] ∧ TabAt H C a k cs ∧ k.ok ∧ Good cs ∧ H p = some (.tup (ns.map V.int)) ∧ ns.length = (dataOf cs).length ∧ (∀ n ∈ ns, okV k n b30 = true) ∧ d = .tuple ((fullL k cs ns).map PyData.int)
section
variable {P : Program} {w : World} {K : PySem.W.Frag} {mg : Str → Option Value} {base : Heap} {f : Addr} {fd : FuncData}
end
end K30
end
section
set_option Elab.async false
set_option linter.all false
set_option maxRecDepth 100000
set_option maxHeartbeats 4000000
namespace K30
open PySem PySem.Spec PyProof.Rows L2 Evl TX
open C8 (Cal pe_c pe_gc)
/-- a chart: lists of a kind and of columns; j: the jar -/
structure ChartAt (H : Hp) (j l : Addr) (k : Kd) (cs : List Col) (f : Addr) (F : Nat → Addr × Addr × Addr × List V) : Prop where
  hl : H l = some (.lst [k.v, .ref f])
  hf : H f = some (.lst ((List.range cs.length).map fun i => V.ref (F i).1))
  col : ∀ i, i < cs.length → H (F i).1 = some (.lst [.str (cs.getD i c0).nm, .ref (F i).2.1, .ref (F i).2.2.1])
  sm : ∀ i, i < cs.length → H (F i).2.1 = some (.lst ((cs.getD i c0).sums.map V.str))
  dt : ∀ i, i < cs.length → H (F i).2.2.1 = some (.lst (F i).2.2.2)
  rp : ∀ i, i < cs.length → Reps H (F i).2.2.2 ((cs.getD i c0).data.map pairD)
  off : l ≠ j ∧ f ≠ j ∧ ∀ i, i < cs.length → (F i).1 ≠ j ∧ (F i).2.1 ≠ j ∧ (F i).2.2.1 ≠ j
theorem ChartAt.ex {H H' : Hp} {j l f : Addr} {k : Kd} {cs : List Col} {F : Nat → Addr × Addr × Addr × List V} (c : ChartAt H j l k cs f F) (e : Ex H H') : ChartAt H' j l k cs f F :=
  ⟨e _ _ c.hl, e _ _ c.hf, fun i h => e _ _ (c.col i h), fun i h => e _ _ (c.sm i h), fun i h => e _ _ (c.dt i h), fun i h => (c.rp i h).ex e, c.off⟩
def Chart (H : Hp) (l : Addr) (k : Kd) (cs : List Col) : Prop := ∃ (j f : Addr) (F : Nat → Addr × Addr × Addr × List V), ChartAt H j l k cs f F
theorem rng_at {n i : Nat} {F : Nat → Addr × Addr × Addr × List V} {x : V} (h : ((List.range n).map fun i => V.ref (F i).1)[i]? = some x) : i < n ∧ x = .ref (F i).1 := by
  rw [List.getElem?_map] at h
  obtain ⟨m, h1, h2⟩ := Option.map_eq_some_iff.mp h
  obtain ⟨lt, e⟩ := List.getElem?_eq_some_iff.mp h1
  rw [List.length_range] at lt
  rw [List.getElem_range] at e
  exact ⟨lt, by rw [← h2, e]⟩
def rPairsL : List V → Hp → List PyData → Prop := fun vs H ds => ∃ (l : Addr) (k : Kd) (cs : List Col), vs = [.ref l] ∧ Chart H l k cs ∧ Good cs ∧ ds = (dataOf cs).map pairD
def rPlacesL : List V → Hp → List PyData → Prop := fun vs H ds => ∃ (l : Addr) (k : Kd) (cs : List Col), vs = [.ref l] ∧ Chart H l k cs ∧ Good cs ∧ ds = cellsL cs
theorem data_le {cs : List Col} (G : Good cs) (i : Nat) : (dataOf (cs.take i)).length ≤ 24 := Nat.le_trans (flat_sub cs i).length_le G.dlen
theorem cells_take {cs : List Col} (G : Good cs) {i : Nat} (h : i ≤ cs.length) : ((List.range i).flatMap (cellsAt cs)).length ≤ 1000 := by
  have q : ((List.range i).flatMap (cellsAt cs)).length ≤ (List.range i).length * 34 := flat_le fun x hx => cellsAt_len G (by have := List.mem_range.mp hx; omega)
  rw [List.length_range] at q
  have := G.len
  omega
section
variable {P : Program} {w : World} {K : PySem.W.Frag} {mg : Str → Option Value} {base : Heap} {f : Addr} {fd : FuncData}
end
end K30
end
section
set_option Elab.async false
set_option linter.all false
set_option maxRecDepth 100000
set_option maxHeartbeats 4000000
namespace K30
open PySem PySem.Spec PyProof.Rows L2 Evl TX
open C8 (Cal pe_c pe_gc)
theorem tog_bits (ns : List Int) : tog .bits ns = ns.foldl (fun a b => Builtin.bitXor a b) 0 := rfl
/-- what the law puts together, number by number -/
def acc (k : Kd) (ns : List Int) : Int := match k with
  | .bits => ns.foldl (fun a b => Builtin.bitXor a b) 0
  | _ => ns.sum
theorem acc_succ (k : Kd) (ns : List Int) (n : Int) : acc k (ns ++ [n]) = match k with
  | .bits => Builtin.bitXor (acc k ns) n
  | _ => acc k ns + n := by
  cases k with
  | bits => show (ns ++ [n]).foldl _ 0 = _; rw [List.foldl_append]; rfl
  | plain => show (ns ++ [n]).sum = ns.sum + n; rw [List.sum_append]; simp
  | dial m => show (ns ++ [n]).sum = ns.sum + n; rw [List.sum_append]; simp
theorem Chart.ex {H H1 : Hp} {l : Addr} {k : Kd} {cs : List Col} (c : Chart H l k cs) (e : Ex H H1) : Chart H1 l k cs := let ⟨j, f, F, h⟩ := c; ⟨j, f, F, h.ex e⟩
def rWhole (K : PySem.W.Frag) : List V → Hp → List PyData → Prop := fun vs H ds => ∃ (l p : Addr) (k : Kd) (cs : List Col) (ns : List Int), vs = [.ref l, .ref p] ∧ Chart H l k cs ∧ k.ok ∧ Good cs ∧ SqA K H p (ns.map V.int) ∧ ns.length = (dataOf cs).length ∧ ds = (fullL k cs ns).map PyData.int
def isBits : Kd → Bool
  | .bits => true | .plain => false | .dial _ => false
theorem kd_eq (k : Kd) : decide (k.v = .str "bits") = isBits k := by
  cases k with
  | bits => decide +kernel
  | plain => decide +kernel
  | dial m => exact decide_eq_false (fun z => nomatch z)
theorem kd_scal (k : Kd) (w : Str) : scal k.v (.str w) = true := by cases k <;> rfl
section
variable {P : Program} {w : World} {K : PySem.W.Frag} {mg : Str → Option Value} {base : Heap} {f : Addr} {fd : FuncData}
end
end K30
end
section
set_option Elab.async false
set_option linter.all false
set_option maxRecDepth 100000
set_option maxHeartbeats 4000000
namespace K30
open PySem PySem.Spec PyProof.Rows L2 Evl TX
open C8 (Cal pe_c pe_gc)
theorem same_put {H H' : Hp} {D : Addr} {o : HO} (hD : H D = none) (s : Same H H') : Same H (upd H' D o) := fun b u e => by rw [upd_ne (ne_of_none e hD)]; exact s b u e
theorem same_new {H : Hp} {a : Addr} {o : HO} (h : H a = none) : Same H (upd H a o) := fun b u e => by rw [upd_ne (ne_of_none e h)]; exact e
/-- all that was tracked but what stands at j is as it was -/
def But (j : Addr) (H H' : Hp) : Prop := ∀ b o, b ≠ j → H b = some o → H' b = some o
theorem But.refl (j : Addr) (H : Hp) : But j H H := fun _ _ _ e => e
theorem But.trans {j : Addr} {H H1 H2 : Hp} (a : But j H H1) (b : But j H1 H2) : But j H H2 := fun c o h e => b c o h (a c o h e)
theorem But.of {j : Addr} {H H' : Hp} (s : Same H H') : But j H H' := fun b o _ e => s b o e
theorem But.at_j (j : Addr) (H : Hp) (o : HO) : But j H (upd H j o) := fun b u h e => by rw [upd_ne h]; exact e
/-- a draw's jar: three whole numbers -/
def jar (a b c : Int) : HO := .lst [.int a, .int b, .int c]
def JarAt (H : Hp) (j : Addr) : Prop := ∃ a b c, H j = some (jar a b c)
theorem JarAt.on {H H' : Hp} {j : Addr} (x : JarAt H j) (s : Same H H') : JarAt H' j := let ⟨a, b, c, e⟩ := x; ⟨a, b, c, s _ _ e⟩
/-- a draw below t -/
def spDip : Sp := fun vs H Q _ => ∃ (j : Addr) (t : Int), vs = [.ref j, .int t] ∧ JarAt H j ∧ 0 < t ∧ t < 1000000000 ∧ ∀ (d : Int) (H' : Hp), JarAt H' j → But j H H' → 0 ≤ d → d < t → Q (.int d) H'
section
variable {P : Program} {w : World} {K : PySem.W.Frag} {mg : Str → Option Value} {base : Heap} {f : Addr} {fd : FuncData}
/-! ### one of some things -/
def spOne : Sp := fun vs H Q _ => ∃ (j l : Addr) (xs : List V), vs = [.ref j, .ref l] ∧ JarAt H j ∧ H l = some (.lst xs) ∧ l ≠ j ∧ 0 < xs.length ∧ xs.length < 1000 ∧
  ∀ (v : V) (H' : Hp), v ∈ xs → JarAt H' j → But j H H' → Q v H'
/-! ### a turn's jar -/
def spJar (K : PySem.W.Frag) : Sp := fun vs H Q _ => ∃ (a : Addr) (ns : List Int) (t : Int), vs = [.ref a, .int t] ∧ SqL K H a (ns.map V.int) ∧ ns.length ≤ 63 ∧ 0 ≤ t ∧ t < 1000 ∧
  ∀ (p : Addr) (H' : Hp), H p = none → Same H H' → JarAt H' p → Q (.ref p) H'
theorem cut_ints (ns : List Int) (m : Int) : ∀ (i : Nat) (x : V), (cutV (ns.map V.int) none (some 5) ++ [V.int m])[i]? = some x → ∃ z, x = .int z := fun i x h => by
  have hm := List.mem_of_getElem? h
  rcases List.mem_append.mp hm with h1 | h1
  · have h2 : x ∈ ns.map V.int := List.mem_of_mem_drop (List.mem_of_mem_take h1)
    obtain ⟨z, _, e⟩ := List.mem_map.mp h2
    exact ⟨z, e.symm⟩
  · exact ⟨m, by simpa using h1⟩

end
theorem But.ex {j : Addr} {H H' : Hp} (e : Ex H H') : But j H H' := fun b o _ h => e _ _ h
theorem But.mut {j : Addr} {H H' : Hp} {D : Addr} {o : HO} (b : But j H H') (hD : H D = none) : But j H (upd H' D o) := fun a u n h => by
  rw [upd_ne (fun z => by rw [z, hD] at h; cases h)]
  exact b a u n h
theorem JarAt.ex {H H' : Hp} {j : Addr} (x : JarAt H j) (e : Ex H H') : JarAt H' j := let ⟨a, b, c, h⟩ := x; ⟨a, b, c, e _ _ h⟩
theorem JarAt.ne {H : Hp} {j p : Addr} (x : JarAt H j) (h : H p = none) : p ≠ j := fun z => by
  obtain ⟨a, b, c, e⟩ := x
  rw [z, e] at h
  cases h
theorem JarAt.put {H : Hp} {j p : Addr} {o : HO} (x : JarAt H j) (h : p ≠ j) : JarAt (upd H p o) j := let ⟨a, b, c, e⟩ := x; ⟨a, b, c, by rw [upd_ne h.symm]; exact e⟩
theorem But.tx {j : Addr} {H H' : Hp} (b : But j H H') (x : JarAt H j) : TX.Tx H H' := fun a xs h => b a _ (fun z => by
  obtain ⟨p, q, r, e⟩ := x
  rw [z, e] at h
  cases h) h
theorem fresh_but {j p : Addr} {H H' : Hp} (b : But j H H') (x : JarAt H' j) (h : H' p = none) : H p = none := by
  have n := x.ne h
  cases e : H p with
  | none => rfl
  | some o => rw [b _ _ n e] at h; cases h
section
variable {K : PySem.W.Frag} {σ : L2.St} {H : Hp} {ta tb tx : TE} {j : Addr} {i : Nat} {Q : VK} {E : XK} {D : Ends} {tz : TS} {a b : Nat} {xs ys : List V}
/-- a draw from the jar -/
theorem dip_ {t : Int} (hv : σ[i]? = some (some (.ref j))) (hj : JarAt H j) (h : Ev tx σ H (.int t)) (h0 : 0 < t) (h1 : t < 1000000000) (k : ∀ (d : Int) H', JarAt H' j → But j H H' → 0 ≤ d → d < t → Q (.int d) H') : tCall spDip [] E (tCons (tVar i) (tCons tx tNil)) σ H Q :=
  ⟨.ref j, hv, h H (Ex.refl H) _ fun H1 e1 => ⟨j, t, rfl, hj.ex e1, h0, h1, fun d H' x y => k d H' x ((But.ex e1).trans y)⟩⟩
/-- one of a new list -/
theorem one_ (hv : σ[i]? = some (some (.ref j))) (hj : JarAt H j) (h : EvL tx σ H xs) (h0 : 0 < xs.length) (h1 : xs.length < 1000) (k : ∀ v H', v ∈ xs → JarAt H' j → But j H H' → Q v H') : tCall spOne [] E (tCons (tVar i) (tCons tx tNil)) σ H Q :=
  ⟨.ref j, hv, h H (Ex.refl H) _ fun p H1 hp e1 hx => ⟨j, p, xs, rfl, hj.ex e1, hx, hj.ne hp, h0, h1, fun v H' m x y => k v H' m x ((But.ex e1).trans y)⟩⟩
/-- one of a list that stands -/
theorem oneV_ {l : Addr} (hv : σ[i]? = some (some (.ref j))) (hj : JarAt H j) (h : Ev tx σ H (.ref l)) (hl : H l = some (.lst xs)) (hn : l ≠ j) (h0 : 0 < xs.length) (h1 : xs.length < 1000) (k : ∀ v H', v ∈ xs → JarAt H' j → But j H H' → Q v H') : tCall spOne [] E (tCons (tVar i) (tCons tx tNil)) σ H Q :=
  ⟨.ref j, hv, h H (Ex.refl H) _ fun H1 e1 => ⟨j, l, xs, rfl, hj.ex e1, e1 _ _ hl, hn, h0, h1, fun v H' m x y => k v H' m x ((But.ex e1).trans y)⟩⟩
theorem q_par {ta : TA} (h : ta σ H fun vs H1 => ∃ v w, vs = [v, w] ∧ tz D ((σ.set a (some v)).set b (some w)) H1) : tSeq (tPar a b ta) tz D σ H := h
theorem q_parLL (h1 : EvL ta σ H xs) (h2 : EvL tb σ H ys) (k : ∀ p q H1, H p = none → H q = none → p ≠ q → Ex H H1 → H1 p = some (.lst xs) → H1 q = some (.lst ys) → tz D ((σ.set a (some (.ref p))).set b (some (.ref q))) H1) : tSeq (tPar a b (tCons ta (tCons tb tNil))) tz D σ H :=
  h1 H (Ex.refl H) _ fun p H1 hp e1 hx => h2 H1 e1 _ fun q H2 hq e2 hy => ⟨_, _, rfl, k p q H2 hp (fresh_back e1 hq) (fun z => by rw [← z, hx] at hq; cases hq) (e1.trans e2) (e2 _ _ hx) hy⟩
end
def menu : List Str := ["p", "q", "r", "s", "t", "u", "kind", "column", "sum", "datum", "bits", "plain", "a", "b", "ab", "zzzzzzzz", "rr", "none"]
def labs (s g : Nat) : List Str := (List.range 18).map fun k => menu.getD ((s + g * k) % 18) Str.empty
structure LabsOk (zs : List Str) : Prop where
  len : zs.length = 18
  nd : zs.Nodup
  nm : ∀ z ∈ zs, isName z = true
def labsB (zs : List Str) : Bool := decide (zs.length = 18) && decide zs.Nodup && zs.all isName
theorem labs_all : ((List.range 18).all fun s => [1, 5, 7, 11].all fun g => labsB (labs s g)) = true := by decide +kernel
theorem labs_ok {s g : Nat} (hs : s < 18) (hg : g ∈ [1, 5, 7, 11]) : LabsOk (labs s g) := by
  have h := List.all_eq_true.mp (List.all_eq_true.mp labs_all s (List.mem_range.mpr hs)) g hg
  have h1 := Bool.and_eq_true_iff.mp h
  have h2 := Bool.and_eq_true_iff.mp h1.1
  exact ⟨of_decide_eq_true h2.1, of_decide_eq_true h2.2, fun z hz => List.all_eq_true.mp h1.2 z hz⟩
def spLabels : Sp := fun vs H Q _ => ∃ j : Addr, vs = [.ref j] ∧ JarAt H j ∧ ∀ p zs H', H p = none → p ≠ j → But j H H' → JarAt H' j → H' p = some (.lst (zs.map V.str)) → LabsOk zs → Q (.ref p) H'
def spKind : Sp := fun vs H Q _ => ∃ j : Addr, vs = [.ref j] ∧ JarAt H j ∧ ∀ (k : Kd) H', k.ok → But j H H' → JarAt H' j → Q k.v H'
section
variable {P : Program} {w : World} {K : PySem.W.Frag} {mg : Str → Option Value} {base : Heap} {f : Addr} {fd : FuncData}
end
end K30
end
section
set_option Elab.async false
set_option linter.all false
set_option maxRecDepth 100000
set_option maxHeartbeats 4000000
namespace K30
open PySem PySem.Spec PyProof.Rows L2 Evl TX
open C8 (Cal pe_c pe_gc)
open MN
abbrev FF : Type := Nat → Addr × Addr × Addr × List V
/-- columns being built, all new behind H0 -/
structure Build (H0 H : Hp) (j fo : Addr) (cs : List Col) (F : FF) : Prop where
  jar : JarAt H0 j
  fo0 : H0 fo = none
  hf : H fo = some (.lst ((List.range cs.length).map fun i => V.ref (F i).1))
  col : ∀ i, i < cs.length → H (F i).1 = some (.lst [.str (cs.getD i c0).nm, .ref (F i).2.1, .ref (F i).2.2.1])
  sm : ∀ i, i < cs.length → H (F i).2.1 = some (.lst ((cs.getD i c0).sums.map V.str))
  dt : ∀ i, i < cs.length → H (F i).2.2.1 = some (.lst (F i).2.2.2)
  rp : ∀ i, i < cs.length → Reps H (F i).2.2.2 ((cs.getD i c0).data.map pairD)
  new : ∀ i, i < cs.length → H0 (F i).1 = none ∧ H0 (F i).2.1 = none ∧ H0 (F i).2.2.1 = none
  n1 : ∀ i, i < cs.length → (F i).1 ≠ fo ∧ (F i).2.1 ≠ fo ∧ (F i).2.2.1 ≠ fo
  n2 : ∀ i m, i < cs.length → m < cs.length → (F i).2.1 ≠ (F m).1 ∧ (F i).2.2.1 ≠ (F m).1 ∧ (F i).2.1 ≠ (F m).2.2.1
  n3 : ∀ i m, i < cs.length → m < cs.length → i ≠ m → (F i).2.1 ≠ (F m).2.1 ∧ (F i).2.2.1 ≠ (F m).2.2.1
section
variable {H0 H H' : Hp} {j fo : Addr} {cs : List Col} {F : FF}
theorem Build.but (B : Build H0 H j fo cs F) (b : But j H H') (x : JarAt H j) : Build H0 H' j fo cs F where
  jar := B.jar
  fo0 := B.fo0
  hf := b _ _ (B.jar.ne B.fo0) B.hf
  col := fun i h => b _ _ (B.jar.ne (B.new i h).1) (B.col i h)
  sm := fun i h => b _ _ (B.jar.ne (B.new i h).2.1) (B.sm i h)
  dt := fun i h => b _ _ (B.jar.ne (B.new i h).2.2) (B.dt i h)
  rp := fun i h => (B.rp i h).on (b.tx x)
  new := B.new
  n1 := B.n1
  n2 := B.n2
  n3 := B.n3
theorem setc {i m : Nat} {c : Col} (h : i < cs.length) : (cs.set i c).getD m c0 = if m = i then c else cs.getD m c0 := by
  by_cases e : m = i
  · rw [if_pos e, e, List.getD_eq_getElem?_getD, List.getElem?_set_self h]
    rfl
  · rw [if_neg e, List.getD_eq_getElem?_getD, List.getElem?_set_ne (Ne.symm e), ← List.getD_eq_getElem?_getD]
def addS (c : Col) (w : Str) : Col := ⟨c.nm, c.sums ++ [w], c.data⟩
def addD (c : Col) (p : Str × Str) : Col := ⟨c.nm, c.sums, c.data ++ [p]⟩
theorem Build.sum (B : Build H0 H j fo cs F) {i : Nat} (h : i < cs.length) (w : Str) :
    Build H0 (upd H (F i).2.1 (.lst ((cs.getD i c0).sums.map V.str ++ [.str w]))) j fo (cs.set i (addS (cs.getD i c0) w)) F where
  jar := B.jar
  fo0 := B.fo0
  hf := by rw [upd_ne (B.n1 i h).2.1.symm, List.length_set]; exact B.hf
  col := fun m hm => by
    rw [List.length_set] at hm
    rw [upd_ne (B.n2 i m h hm).1.symm, setc h]
    by_cases e : m = i
    · rw [if_pos e, e]; exact B.col i h
    · rw [if_neg e]; exact B.col m hm
  sm := fun m hm => by
    rw [List.length_set] at hm
    rw [setc h]
    by_cases e : m = i
    · rw [if_pos e, e, upd_same]
      show _ = some (HO.lst (((cs.getD i c0).sums ++ [w]).map V.str))
      rw [List.map_append]
      rfl
    · rw [if_neg e, upd_ne (B.n3 m i hm h e).1]; exact B.sm m hm
  dt := fun m hm => by
    rw [List.length_set] at hm
    rw [upd_ne (B.n2 i m h hm).2.2.symm]
    exact B.dt m hm
  rp := fun m hm => by
    rw [List.length_set] at hm
    rw [setc h]
    have q := (B.rp m hm).on (Tx.put (o := HO.lst ((cs.getD i c0).sums.map V.str ++ [.str w])) (B.sm i h))
    by_cases e : m = i
    · rw [if_pos e, e]
      rw [e] at q
      exact q
    · rw [if_neg e]; exact q
  new := fun m hm => B.new m (by rw [List.length_set] at hm; exact hm)
  n1 := fun m hm => B.n1 m (by rw [List.length_set] at hm; exact hm)
  n2 := fun m k hm hk => by rw [List.length_set] at hm hk; exact B.n2 m k hm hk
  n3 := fun m k hm hk => by rw [List.length_set] at hm hk; exact B.n3 m k hm hk
def putFF (F : FF) (i : Nat) (v : V) : FF := fun m => if m = i then ((F i).1, (F i).2.1, (F i).2.2.1, (F i).2.2.2 ++ [v]) else F m
theorem put1 (F : FF) (i : Nat) (v : V) (m : Nat) : (putFF F i v m).1 = (F m).1 ∧ (putFF F i v m).2.1 = (F m).2.1 ∧ (putFF F i v m).2.2.1 = (F m).2.2.1 := by
  unfold putFF
  by_cases e : m = i
  · rw [if_pos e, e]; exact ⟨rfl, rfl, rfl⟩
  · rw [if_neg e]; exact ⟨rfl, rfl, rfl⟩
theorem Build.pair (B : Build H0 H j fo cs F) {i : Nat} (h : i < cs.length) {v : V} {p : Str × Str} (r : Rep H v (pairD p)) :
    Build H0 (upd H (F i).2.2.1 (HO.lst ((F i).2.2.2 ++ [v]))) j fo (cs.set i (addD (cs.getD i c0) p)) (putFF F i v) where
  jar := B.jar
  fo0 := B.fo0
  hf := by
    rw [upd_ne (B.n1 i h).2.2.symm, List.length_set, B.hf]
    simp only [(put1 F i v _).1]
  col := fun m hm => by
    rw [List.length_set] at hm
    rw [(put1 F i v m).1, (put1 F i v m).2.1, (put1 F i v m).2.2, upd_ne (B.n2 i m h hm).2.1.symm, setc h]
    by_cases e : m = i
    · rw [if_pos e, e]; exact B.col i h
    · rw [if_neg e]; exact B.col m hm
  sm := fun m hm => by
    rw [List.length_set] at hm
    rw [(put1 F i v m).2.1, upd_ne (B.n2 m i hm h).2.2, setc h]
    by_cases e : m = i
    · rw [if_pos e, e]; exact B.sm i h
    · rw [if_neg e]; exact B.sm m hm
  dt := fun m hm => by
    rw [List.length_set] at hm
    rw [(put1 F i v m).2.2]
    by_cases e : m = i
    · rw [e, upd_same]
      unfold putFF
      rw [if_pos rfl]
    · rw [upd_ne (B.n3 m i hm h e).2, B.dt m hm]
      unfold putFF
      rw [if_neg e]
  rp := fun m hm => by
    rw [List.length_set] at hm
    rw [setc h]
    have t : TX.Tx H (upd H (F i).2.2.1 (HO.lst ((F i).2.2.2 ++ [v]))) := Tx.put (B.dt i h)
    by_cases e : m = i
    · rw [if_pos e, e]
      unfold putFF
      rw [if_pos rfl]
      show Reps _ ((F i).2.2.2 ++ [v]) (((cs.getD i c0).data ++ [p]).map pairD)
      rw [List.map_append]
      exact ((B.rp i h).app (.cons r .nil)).on t
    · rw [if_neg e]
      unfold putFF
      rw [if_neg e]
      exact (B.rp m hm).on t
  new := fun m hm => by rw [List.length_set] at hm; rw [(put1 F i v m).1, (put1 F i v m).2.1, (put1 F i v m).2.2]; exact B.new m hm
  n1 := fun m hm => by rw [List.length_set] at hm; rw [(put1 F i v m).1, (put1 F i v m).2.1, (put1 F i v m).2.2]; exact B.n1 m hm
  n2 := fun m k hm hk => by rw [List.length_set] at hm hk; rw [(put1 F i v m).2.1, (put1 F i v m).2.2, (put1 F i v k).1, (put1 F i v k).2.2]; exact B.n2 m k hm hk
  n3 := fun m k hm hk => by rw [List.length_set] at hm hk; rw [(put1 F i v m).2.1, (put1 F i v m).2.2, (put1 F i v k).2.1, (put1 F i v k).2.2]; exact B.n3 m k hm hk
/-- a new column -/
structure ColNew (H0 H : Hp) (fo c s d : Addr) (nm : Str) : Prop where
  hc : H c = some (.lst [.str nm, .ref s, .ref d])
  hs : H s = some (.lst [])
  hd : H d = some (.lst [])
  ne : c ≠ s ∧ c ≠ d ∧ s ≠ d
  no : H0 c = none ∧ H0 s = none ∧ H0 d = none
theorem Build.add (B : Build H0 H j fo cs F) {H1 H2 : Hp} (e : Ex H H1) (eh : ∀ a, H a = none → H0 a = none) {c s d : Addr} {nm : Str} (N : ColNew H H1 fo c s d nm) (h2 : H2 = upd H1 fo (.lst ((List.range cs.length).map (fun i => V.ref (F i).1) ++ [.ref c]))) :
    Build H0 H2 j fo (cs ++ [Col.mk nm [] []]) (fun i => if i < cs.length then F i else (c, s, d, [])) := by
  have off : ∀ {a b : Addr} {o : HO}, H a = some o → H b = none → b ≠ a := fun h1 h3 z => by rw [z, h1] at h3; cases h3
  have nf : c ≠ fo ∧ s ≠ fo ∧ d ≠ fo := ⟨off B.hf N.no.1, off B.hf N.no.2.1, off B.hf N.no.2.2⟩
  have gd : ∀ i, i < cs.length → (cs ++ [Col.mk nm [] []]).getD i c0 = cs.getD i c0 := fun i h => by rw [List.getD_eq_getElem?_getD, List.getElem?_append_left h, ← List.getD_eq_getElem?_getD]
  have gn : (cs ++ [Col.mk nm [] []]).getD cs.length c0 = Col.mk nm [] [] := by rw [List.getD_eq_getElem?_getD, List.getElem?_append_right (Nat.le_refl _)]; simp
  have ln : ∀ i, i < (cs ++ [Col.mk nm [] []]).length → i < cs.length ∨ i = cs.length := fun i h => by rw [List.length_append] at h; have : ([Col.mk nm [] []]).length = 1 := rfl; omega
  have fl : ∀ i, i < cs.length → (if i < cs.length then F i else (c, s, d, [])) = F i := fun i h => if_pos h
  have fn : (if cs.length < cs.length then F cs.length else (c, s, d, [])) = (c, s, d, []) := if_neg (Nat.lt_irrefl _)
  have t : TX.Tx H H2 := by rw [h2]; exact (Tx.ex e).trans (Tx.put (e _ _ B.hf))
  refine ⟨B.jar, B.fo0, ?_, ?_, ?_, ?_, ?_, ?_, ?_, ?_, ?_⟩
  · rw [h2, upd_same, List.length_append]
    show _ = some (HO.lst ((List.range (cs.length + 1)).map _))
    rw [List.range_succ, List.map_append]
    congr 3
    · refine List.map_congr_left fun i hi => ?_
      rw [fl i (List.mem_range.mp hi)]
    · show [V.ref c] = [V.ref (if cs.length < cs.length then F cs.length else (c, s, d, [])).1]
      rw [fn]
  · intro i h
    rcases ln i h with h | rfl
    · simp only [fl i h, gd i h]
      rw [h2, upd_ne (B.n1 i h).1]
      exact e _ _ (B.col i h)
    · simp only [fn, gn]
      rw [h2, upd_ne nf.1]
      exact N.hc
  · intro i h
    rcases ln i h with h | rfl
    · simp only [fl i h, gd i h]
      rw [h2, upd_ne (B.n1 i h).2.1]
      exact e _ _ (B.sm i h)
    · simp only [fn, gn]
      rw [h2, upd_ne nf.2.1]
      exact N.hs
  · intro i h
    rcases ln i h with h | rfl
    · simp only [fl i h, gd i h]
      rw [h2, upd_ne (B.n1 i h).2.2]
      exact e _ _ (B.dt i h)
    · simp only [fn]
      rw [h2, upd_ne nf.2.2]
      exact N.hd
  · intro i h
    rcases ln i h with h | rfl
    · simp only [fl i h, gd i h]
      exact (B.rp i h).on t
    · simp only [fn, gn]
      exact .nil
  · intro i h
    rcases ln i h with h | rfl
    · simp only [fl i h]
      exact B.new i h
    · simp only [fn]
      exact ⟨eh _ N.no.1, eh _ N.no.2.1, eh _ N.no.2.2⟩
  · intro i h
    rcases ln i h with h | rfl
    · simp only [fl i h]
      exact B.n1 i h
    · simp only [fn]
      exact nf
  · intro i m h hm
    rcases ln i h with h | rfl <;> rcases ln m hm with hm | rfl
    · simp only [fl i h, fl m hm]
      exact B.n2 i m h hm
    · simp only [fl i h, fn]
      exact ⟨(off (B.sm i h) N.no.1).symm, (off (B.dt i h) N.no.1).symm, (off (B.sm i h) N.no.2.2).symm⟩
    · simp only [fl m hm, fn]
      exact ⟨off (B.col m hm) N.no.2.1, off (B.col m hm) N.no.2.2, off (B.dt m hm) N.no.2.1⟩
    · simp only [fn]
      exact ⟨N.ne.1.symm, N.ne.2.1.symm, N.ne.2.2⟩
  · intro i m h hm ne
    rcases ln i h with h | rfl <;> rcases ln m hm with hm | rfl
    · simp only [fl i h, fl m hm]
      exact B.n3 i m h hm ne
    · simp only [fl i h, fn]
      exact ⟨(off (B.sm i h) N.no.2.1).symm, (off (B.dt i h) N.no.2.2).symm⟩
    · simp only [fl m hm, fn]
      exact ⟨off (B.sm m hm) N.no.2.1, off (B.dt m hm) N.no.2.2⟩
    · exact absurd rfl ne
end
/-! what the columns hold together -/
theorem set_cut {cs : List Col} {i : Nat} (h : i < cs.length) (c : Col) : cs.set i c = cs.take i ++ c :: cs.drop (i + 1) := List.set_eq_take_append_cons_drop.trans (if_pos h)
theorem cs_cut {cs : List Col} {i : Nat} (h : i < cs.length) : cs = cs.take i ++ cs.getD i c0 :: cs.drop (i + 1) := by
  have g : cs.getD i c0 = cs[i] := by rw [List.getD_eq_getElem?_getD, List.getElem?_eq_getElem h]; rfl
  rw [g, ← List.drop_eq_getElem_cons h, List.take_append_drop]
theorem sums_set {cs : List Col} {i : Nat} (h : i < cs.length) (w : Str) : (sumsOf (cs.set i (addS (cs.getD i c0) w))).Perm (sumsOf cs ++ [w]) := by
  have e1 : sumsOf (cs.set i (addS (cs.getD i c0) w)) = sumsOf (cs.take i) ++ ((cs.getD i c0).sums ++ [w] ++ sumsOf (cs.drop (i + 1))) := by
    rw [set_cut h]; unfold sumsOf; rw [List.flatMap_append, List.flatMap_cons]; rfl
  have e2 : sumsOf cs = sumsOf (cs.take i) ++ ((cs.getD i c0).sums ++ sumsOf (cs.drop (i + 1))) := by
    have q : sumsOf (cs.take i ++ cs.getD i c0 :: cs.drop (i + 1)) = sumsOf (cs.take i) ++ ((cs.getD i c0).sums ++ sumsOf (cs.drop (i + 1))) := by unfold sumsOf; rw [List.flatMap_append, List.flatMap_cons]
    rw [← cs_cut h] at q
    exact q
  rw [e1, e2]
  simp only [List.append_assoc]
  exact (List.perm_append_comm.append_left _).append_left _
theorem data_setS {cs : List Col} {i : Nat} (h : i < cs.length) (w : Str) : dataOf (cs.set i (addS (cs.getD i c0) w)) = dataOf cs := by
  have q : dataOf (cs.take i ++ cs.getD i c0 :: cs.drop (i + 1)) = dataOf (cs.set i (addS (cs.getD i c0) w)) := by
    rw [set_cut h]; unfold dataOf; rw [List.flatMap_append, List.flatMap_append, List.flatMap_cons, List.flatMap_cons]; rfl
  rw [← cs_cut h] at q
  exact q.symm
theorem sums_setD {cs : List Col} {i : Nat} (h : i < cs.length) (p : Str × Str) : sumsOf (cs.set i (addD (cs.getD i c0) p)) = sumsOf cs := by
  have q : sumsOf (cs.take i ++ cs.getD i c0 :: cs.drop (i + 1)) = sumsOf (cs.set i (addD (cs.getD i c0) p)) := by
    rw [set_cut h]; unfold sumsOf; rw [List.flatMap_append, List.flatMap_append, List.flatMap_cons, List.flatMap_cons]; rfl
  rw [← cs_cut h] at q
  exact q.symm
theorem data_set {cs : List Col} {i : Nat} (h : i < cs.length) (p : Str × Str) : (dataOf (cs.set i (addD (cs.getD i c0) p))).Perm (dataOf cs ++ [p]) := by
  have e1 : dataOf (cs.set i (addD (cs.getD i c0) p)) = dataOf (cs.take i) ++ ((cs.getD i c0).data ++ [p] ++ dataOf (cs.drop (i + 1))) := by
    rw [set_cut h]; unfold dataOf; rw [List.flatMap_append, List.flatMap_cons]; rfl
  have e2 : dataOf cs = dataOf (cs.take i) ++ ((cs.getD i c0).data ++ dataOf (cs.drop (i + 1))) := data_cut h
  rw [e1, e2]
  simp only [List.append_assoc]
  exact (List.perm_append_comm.append_left _).append_left _
theorem nms_set {cs : List Col} {i : Nat} (h : i < cs.length) {c : Col} (e : c.nm = (cs.getD i c0).nm) : (cs.set i c).map (·.nm) = cs.map (·.nm) := by
  have q : (cs.take i ++ cs.getD i c0 :: cs.drop (i + 1)).map (·.nm) = (cs.set i c).map (·.nm) := by
    rw [set_cut h, List.map_append, List.map_append, List.map_cons, List.map_cons, e]
  rw [← cs_cut h] at q
  exact q.symm
end K30
end
section
set_option Elab.async false
set_option linter.all false
set_option maxRecDepth 100000
set_option maxHeartbeats 4000000
namespace K30
open PySem PySem.Spec PyProof.Rows L2 Evl TX
open C8 (Cal pe_c pe_gc)
open MN
section
variable {K : PySem.W.Frag} {σ : L2.St} {H : Hp} {ta tb te tu' : TE} {tu tz : TS} {D : Ends} {j : Nat}
theorem q_forP {ta : TA} {P : Int → Hp → Prop} (h : ∀ Q : List V → Hp → Prop, (∀ n H1, P n H1 → Q [.int n] H1) → ta σ H Q) (hn : ∀ n H1, P n H1 → 0 ≤ n ∧ n ≤ 100000) (Pv : Int → Nat → L2.St → Hp → Prop) (h0 : ∀ n H1, P n H1 → Pv n 0 σ H1)
    (hs : ∀ n (i : Nat) σ' H', (i : Int) < n → Pv n i σ' H' → tu { D with nx := Pv n (i + 1), ct := Pv n (i + 1), bk := tz D } (σ'.set j (some (.int (i : Int)))) H') (hd : ∀ (n : Nat) σ' H', Pv (n : Int) n σ' H' → tz D σ' H') : tSeq (tFor (iRng1 ta) (gName j) tu) tz D σ H :=
  h _ fun n H1 p => by
    have b := hn n H1 p
    refine ⟨n, rfl, by omega, by omega, for_range (D := { D with nx := tz D }) (lo := 0) (n := n.toNat) (Pv n) (h0 n H1 p) (fun i σ' H' hi q => ?_) (fun σ' H' q => ?_)⟩
    · have e0 : (0 : Int) + (i : Int) = (i : Int) := Int.zero_add _
      show tu { D with nx := Pv n (i + 1), ct := Pv n (i + 1), bk := tz D } (σ'.set j (some (.int ((0 : Int) + (i : Int))))) H'
      rw [e0]
      exact hs n i σ' H' (by omega) q
    · have e1 : ((n.toNat : Nat) : Int) = n := Int.toNat_of_nonneg b.1
      exact hd n.toNat σ' H' (by rw [e1]; exact q)
end
section
variable {K : PySem.W.Frag} {σ : L2.St} {H0 H : Hp} {j fo : Addr} {cs : List Col} {F : FF} {Q : VK} {E : XK}
/-- found[dip(jar, many)][1], [2] -/
theorem recvS (B : Build H0 H j fo cs F) (hj : JarAt H j) (s0 : σ[0]? = some (some (.ref j))) (s5 : σ[5]? = some (some (.int (cs.length : Int)))) (s7 : σ[7]? = some (some (.ref fo))) (h0 : 0 < cs.length) (h8 : cs.length ≤ 8)
    (k : ∀ i H', i < cs.length → JarAt H' j → But j H H' → Q (.ref (F i).2.1) H') : tOp (rIx K) (tOp (rIx K) (tVar 7) (tCall spDip [] E (tCons (tVar 0) (tCons (tVar 5) tNil)))) (tC (.int 1)) σ H Q :=
  ⟨_, s7, dip_ s0 hj (ev_var s5) (by omega) (by omega) fun d H' j2 b2 d0 d1 => by
    have B2 := B.but b2 hj
    have lt : d.toNat < cs.length := by omega
    have e : atI ((List.range cs.length).map fun i => V.ref (F i).1) d = some (.ref (F d.toNat).1) := by
      have q := atI_nat (xs := (List.range cs.length).map fun i => V.ref (F i).1) (j := d.toNat) (v := .ref (F d.toNat).1) (by rw [List.getElem?_map, List.getElem?_range lt]; rfl)
      rw [Int.toNat_of_nonneg d0] at q
      exact q
    exact .inl ⟨fo, _, d, _, rfl, rfl, sq_of B2.hf, e, .inl ⟨_, _, 1, .ref (F d.toNat).2.1, rfl, rfl, sq_of (B2.col _ lt), rfl, k _ H' lt j2 b2⟩⟩⟩
theorem recvD (B : Build H0 H j fo cs F) (hj : JarAt H j) (s0 : σ[0]? = some (some (.ref j))) (s5 : σ[5]? = some (some (.int (cs.length : Int)))) (s7 : σ[7]? = some (some (.ref fo))) (h0 : 0 < cs.length) (h8 : cs.length ≤ 8)
    (k : ∀ i H', i < cs.length → JarAt H' j → But j H H' → Q (.ref (F i).2.2.1) H') : tOp (rIx K) (tOp (rIx K) (tVar 7) (tCall spDip [] E (tCons (tVar 0) (tCons (tVar 5) tNil)))) (tC (.int 2)) σ H Q :=
  ⟨_, s7, dip_ s0 hj (ev_var s5) (by omega) (by omega) fun d H' j2 b2 d0 d1 => by
    have B2 := B.but b2 hj
    have lt : d.toNat < cs.length := by omega
    have e : atI ((List.range cs.length).map fun i => V.ref (F i).1) d = some (.ref (F d.toNat).1) := by
      have q := atI_nat (xs := (List.range cs.length).map fun i => V.ref (F i).1) (j := d.toNat) (v := .ref (F d.toNat).1) (by rw [List.getElem?_map, List.getElem?_range lt]; rfl)
      rw [Int.toNat_of_nonneg d0] at q
      exact q
    exact .inl ⟨fo, _, d, _, rfl, rfl, sq_of B2.hf, e, .inl ⟨_, _, 2, .ref (F d.toNat).2.2.1, rfl, rfl, sq_of (B2.col _ lt), rfl, k _ H' lt j2 b2⟩⟩⟩
end
def bare (zs : List Str) (n : Nat) : List Col := (zs.take n).map fun z => Col.mk z [] []
theorem bare_sums (zs : List Str) (n : Nat) : sumsOf (bare zs n) = [] := by
  unfold sumsOf bare
  rw [List.flatMap_map]
  exact List.flatMap_eq_nil_iff.mpr fun _ _ => rfl
theorem bare_data (zs : List Str) (n : Nat) : dataOf (bare zs n) = [] := by
  unfold dataOf bare
  rw [List.flatMap_map]
  exact List.flatMap_eq_nil_iff.mpr fun _ _ => rfl
theorem bare_nms (zs : List Str) (n : Nat) : (bare zs n).map (·.nm) = zs.take n := by
  unfold bare
  rw [List.map_map]
  exact List.map_id' _
theorem bare_len {zs : List Str} {n : Nat} (h : n ≤ zs.length) : (bare zs n).length = n := by
  unfold bare
  rw [List.length_map, List.length_take]
  omega
theorem bare_succ {zs : List Str} {n : Nat} (h : n < zs.length) : bare zs (n + 1) = bare zs n ++ [Col.mk (zs.getD n Str.empty) [] []] := by
  unfold bare
  rw [List.take_succ, List.map_append, List.getD_eq_getElem?_getD, List.getElem?_eq_getElem h]
  rfl
theorem pair_ok {T : List Str} {x y : Str} (hx : x ∈ T) (hy : y ∈ T) (ne : x ≠ y) : pairOk T (if less y x then y else x, if less x y then y else x) := by
  have tri : ∀ a b : List Nat, a < b ∨ a = b ∨ b < a := fun a b => by
    by_cases h : a < b
    · exact .inl h
    · by_cases h2 : b < a
      · exact .inr (.inr h2)
      · exact .inr (.inl (List.le_antisymm h2 h))
  unfold less pairOk
  rcases tri x.cps.toList y.cps.toList with h | h | h
  · have h2 : ¬ y.cps.toList < x.cps.toList := fun z => absurd h (List.lt_asymm z)
    rw [decide_eq_false h2, decide_eq_true h]
    exact ⟨hx, hy, h⟩
  · exact absurd (by cases x; cases y; exact congrArg Str.mk (Array.toList_inj.mp h)) ne
  · have h2 : ¬ x.cps.toList < y.cps.toList := fun z => absurd h (List.lt_asymm z)
    rw [decide_eq_true h, decide_eq_false h2]
    exact ⟨hy, hx, h⟩
/-- what the building keeps -/
structure Kept (zs T : List Str) (mn : Nat) (n : Nat) (cs : List Col) : Prop where
  nms : cs.map (·.nm) = zs.take mn
  sms : (sumsOf cs).Perm T
  prs : ∀ p ∈ dataOf cs, pairOk T p
  len : (dataOf cs).length ≤ n
theorem Kept.good {zs T : List Str} {mn n : Nat} {cs : List Col} (Kp : Kept zs T mn n cs) (ok : LabsOk zs) (h1 : 1 ≤ mn) (h8 : mn ≤ 8) (hT : T.Sublist zs) (t1 : 1 ≤ T.length) (t10 : T.length ≤ 10) (n24 : n ≤ 24) : Good cs := by
  have lc : cs.length = mn := by
    have q := congrArg List.length Kp.nms
    rw [List.length_map, List.length_take, ok.len] at q
    omega
  refine ⟨fun z => ?_, by omega, fun c hc => ?_, fun c hc w hw => ?_, ?_, Kp.sms.nodup_iff.mpr (ok.nd.sublist hT), fun z => ?_, by rw [Kp.sms.length_eq]; exact t10, Nat.le_trans Kp.len n24, fun c hc p hp => ?_⟩
  · rw [z] at lc
    simp at lc
    omega
  · exact ok.nm _ (List.mem_of_mem_take (by rw [← Kp.nms]; exact List.mem_map.mpr ⟨c, hc, rfl⟩))
  · exact ok.nm _ (hT.subset (Kp.sms.mem_iff.mp (List.mem_flatMap.mpr ⟨c, hc, hw⟩)))
  · rw [Kp.nms]
    exact ok.nd.sublist (List.take_sublist _ _)
  · have q := Kp.sms.length_eq
    rw [z] at q
    simp at q
    omega
  · have q := Kp.prs p (List.mem_flatMap.mpr ⟨c, hc, hp⟩)
    exact ⟨Kp.sms.mem_iff.mpr q.1, Kp.sms.mem_iff.mpr q.2.1, q.2.2⟩
end K30
end
section
set_option Elab.async false
set_option linter.all false
set_option maxRecDepth 100000
set_option maxHeartbeats 4000000
namespace K30
open PySem PySem.Spec PyProof.Rows L2 Evl TX
open C8 (Cal pe_c pe_gc)
open MN
def spChart : Sp := fun vs H Q _ => ∃ (j : Addr) (m s d : Int), vs = [.ref j, .int m, .int s, .int d] ∧ JarAt H j ∧ (1 ≤ m ∧ m ≤ 8) ∧ (1 ≤ s ∧ s ≤ 10) ∧ (0 ≤ d ∧ d ≤ 24) ∧ ∀ l k cs f F H', But j H H' → JarAt H' j → ChartAt H' j l k cs f F → k.ok → Good cs → Q (.ref l) H'
theorem sums_le {cs : List Col} {i : Nat} (h : i < cs.length) : (cs.getD i c0).sums.length ≤ (sumsOf cs).length := by
  have q : (sumsOf (cs.take i ++ cs.getD i c0 :: cs.drop (i + 1))).length = (sumsOf (cs.take i)).length + ((cs.getD i c0).sums.length + (sumsOf (cs.drop (i + 1))).length) := by unfold sumsOf; rw [List.flatMap_append, List.flatMap_cons, List.length_append, List.length_append]
  rw [← cs_cut h] at q
  omega
theorem datas_le {cs : List Col} {i : Nat} (h : i < cs.length) : (cs.getD i c0).data.length ≤ (dataOf cs).length := by
  have q := congrArg List.length (data_cut h)
  rw [List.length_append, List.length_append] at q
  omega
theorem Build.chart {H0 H : Hp} {j fo : Addr} {cs : List Col} {F : FF} (B : Build H0 H j fo cs F) {l : Addr} {k : Kd} (hl : H l = some (.lst [k.v, .ref fo])) (n : l ≠ j) : ChartAt H j l k cs fo F :=
  ⟨hl, B.hf, B.col, B.sm, B.dt, B.rp, n, B.jar.ne B.fo0, fun i h => ⟨B.jar.ne (B.new i h).1, B.jar.ne (B.new i h).2.1, B.jar.ne (B.new i h).2.2⟩⟩
theorem Build.ex {H0 H H' : Hp} {j fo : Addr} {cs : List Col} {F : FF} (B : Build H0 H j fo cs F) (e : Ex H H') : Build H0 H' j fo cs F :=
  ⟨B.jar, B.fo0, e _ _ B.hf, fun i h => e _ _ (B.col i h), fun i h => e _ _ (B.sm i h), fun i h => e _ _ (B.dt i h), fun i h => (B.rp i h).ex e, B.new, B.n1, B.n2, B.n3⟩
theorem strs_at {zs : List Str} {i : Nat} (h : i < zs.length) : atI (zs.map V.str) (i : Int) = some (.str (zs.getD i Str.empty)) :=
  atI_nat (by rw [List.getElem?_map, List.getD_eq_getElem?_getD, List.getElem?_eq_getElem h]; rfl)
section
variable {K : PySem.W.Frag} {σ : L2.St} {H : Hp} {tb te : TE} {Q : VK} {QO : Option Int → Hp → Prop} {r : R2} {x : V}
theorem part_ (h : te σ H fun x H1 => ∃ i, x = .int i ∧ QO (some i) H1) : tPart te σ H QO := h
theorem opC_ (h : tb σ H fun y H2 => r x y H2 Q) : tOp r (tC x) tb σ H Q := h
end
section
variable {P : Program} {w : World} {K : PySem.W.Frag} {mg : Str → Option Value} {base : Heap} {f : Addr} {fd : FuncData}
end
end K30
end
section
set_option Elab.async false
set_option linter.all false
set_option maxRecDepth 100000
set_option maxHeartbeats 4000000
namespace K30
open PySem PySem.Spec PyProof.Rows L2 Evl TX
open C8 (Cal pe_c pe_gc)
def spMade (C : Addr) : Sp := fun vs H Q _ => ∃ (l : Addr) (k : Kd) (cs : List Col), vs = [.ref l] ∧ Chart H l k cs ∧ k.ok ∧ Good cs ∧ ∀ a H', H a = none → Ex H H' → TabAt H' C a k cs → Q (.ref a) H'
def spNumber : Sp := fun vs H Q _ => ∃ (j : Addr) (k : Kd), vs = [.ref j, k.v] ∧ JarAt H j ∧ k.ok ∧ ∀ (n : Int) H', okV k n b30 = true → JarAt H' j → But j H H' → Q (.int n) H'
def spNumbers : Sp := fun vs H Q _ => ∃ (j l f : Addr) (k : Kd) (cs : List Col) (F : Nat → Addr × Addr × Addr × List V), vs = [.ref j, .ref l] ∧ ChartAt H j l k cs f F ∧ JarAt H j ∧ k.ok ∧ Good cs ∧ ∀ (p : Addr) (ns : List Int) H', H p = none → But j H H' → JarAt H' j → H' p = some (.lst (ns.map V.int)) → ns.length = (dataOf cs).length → (∀ n ∈ ns, okV k n b30 = true) → Q (.ref p) H'
theorem atI_mem {xs : List V} {w : Int} (h0 : 0 ≤ w) (h : w < (xs.length : Int)) : ∃ x, atI xs w = some x ∧ x ∈ xs := by
  have lt : w.toNat < xs.length := by omega
  have q := atI_nat (xs := xs) (j := w.toNat) (List.getElem?_eq_getElem lt)
  rw [Int.toNat_of_nonneg h0] at q
  exact ⟨_, q, List.getElem_mem lt⟩
theorem ok_bits {n : Int} (h0 : 0 ≤ n) (h1 : n ≤ 1152921504606846975) : okV .bits n b30 = true := by
  show (decide _ && decide _) = true
  rw [decide_eq_true h0, decide_eq_true h1]
  rfl
theorem ok_plain {n : Int} (h0 : -1000000000000000000000000000000 ≤ n) (h1 : n ≤ 1000000000000000000000000000000) : okV .plain n b30 = true := by
  show (decide _ && decide _) = true
  rw [decide_eq_true (show -b30 ≤ n from h0), decide_eq_true (show n ≤ b30 from h1)]
  rfl
theorem ok_dial {n m : Int} (h0 : 0 ≤ n) (h1 : n ≤ m - 1) : okV (.dial m) n b30 = true := by
  show (decide _ && decide _) = true
  rw [decide_eq_true h0, decide_eq_true h1]
  rfl
theorem asg_ {te : TE} {i : Nat} {D : Ends} {σ : L2.St} {H : Hp} (h : te σ H fun v H1 => D.nx (σ.set i (some v)) H1) : tAsg te (gName i) D σ H := h
theorem opCB_ {r : List V → Hp → VK → Prop} {t : TA} {σ : L2.St} {H : Hp} {Q : VK} (h : t σ H fun vs H1 => r vs H1 Q) : tCB r t σ H Q := h
theorem make_ {C : Addr} {sp : Sp} {dvs : List V} {E : XK} {t : TA} {σ : L2.St} {H : Hp} {Q : VK} (h : t σ H fun vs H1 => ∀ x dx, H1 x = none → H1 dx = none → dx ≠ x → sp (.ref x :: (vs ++ dvs)) (upd (upd H1 dx (.own x)) x (.ins C dx [])) (fun v H2 => v = .non ∧ Q (.ref x) H2) E) : tMake C sp dvs E t σ H Q := h
section
variable {P : Program} {w : World} {K : PySem.W.Frag} {mg : Str → Option Value} {base : Heap} {f : Addr} {fd : FuncData}
end
end K30
end
section
set_option Elab.async false
set_option linter.all false
set_option maxRecDepth 100000
set_option maxHeartbeats 4000000
namespace K30
open PySem PySem.Spec PyProof.Rows L2 Evl TX
open C8 (Cal pe_c pe_gc)
/-- whether a cell is a datum -/
def isDat : PyData → Bool
  | .tuple [.str a, .int _] => decide (V.str a = .str "datum")
  | .tuple [.str a, .str _] => decide (V.str a = .str "datum")
  | _ => false
theorem dat_sum (s : Str) : isDat (sumC s) = false := by show decide (V.str "sum" = V.str "datum") = false; decide +kernel
theorem dat_dat (n : Int) : isDat (datC n) = true := by show decide (V.str "datum" = V.str "datum") = true; decide +kernel
/-- the values that stand at the data -/
def datV (cs : List Col) (vs : List Int) : List Int := ((List.range (cellsL cs).length).filter fun i => isDat ((cellsL cs).getD i .none)).map fun i => vs.getD i 0
def rightB (k : Kd) (cs : List Col) (vs : List Int) : Bool := decide (fullL k cs (datV cs vs) = vs)
theorem range_split (a b : Nat) : List.range (a + b) = List.range a ++ (List.range b).map fun j => a + j := by
  rw [List.range_eq_range', List.range_eq_range', List.range_eq_range', ← List.range'_append_1]
  congr 1
  rw [List.map_add_range']
  simp
theorem dat_cells (cs : List Col) : ∀ i, i ≤ cs.length → ((List.range i).flatMap (cellsAt cs)).filter isDat = (List.range (dataOf (cs.take i)).length).map fun n : Nat => datC (n : Int)
  | 0, _ => rfl
  | i + 1, h => by
    have lt : i < cs.length := h
    rw [List.range_succ, List.flatMap_append, List.filter_append, dat_cells cs i (Nat.le_of_succ_le h), data_take cs i _ (getc lt), List.length_append, range_split, List.map_append]
    congr 1
    have e : [i].flatMap (cellsAt cs) = cellsAt cs i := by simp
    rw [e]
    unfold cellsAt cellsC
    rw [List.filter_append]
    have e1 : ((cs.getD i c0).sums.map sumC).filter isDat = [] := List.filter_eq_nil_iff.mpr fun d hd => by
      obtain ⟨s, _, rfl⟩ := List.mem_map.mp hd
      rw [dat_sum]
      decide
    have e2 : ((List.range (cs.getD i c0).data.length).map fun j : Nat => datC (firstOf cs i + (j : Int))).filter isDat = (List.range (cs.getD i c0).data.length).map fun j : Nat => datC (firstOf cs i + (j : Int)) := List.filter_eq_self.mpr fun d hd => by
      obtain ⟨j, _, rfl⟩ := List.mem_map.mp hd
      exact dat_dat _
    rw [e1, e2, List.nil_append, List.map_map]
    refine List.map_congr_left fun j _ => ?_
    show datC (firstOf cs i + (j : Int)) = datC (((dataOf (cs.take i)).length + j : Nat) : Int)
    unfold firstOf
    rw [Int.natCast_add]
theorem dat_all (cs : List Col) : (cellsL cs).filter isDat = (List.range (dataOf cs).length).map fun n : Nat => datC (n : Int) := by
  have q := dat_cells cs cs.length (Nat.le_refl _)
  rw [List.take_length] at q
  exact q
theorem filter_at {α : Type} (f : α → Bool) (d : α) (xs : List α) : ((List.range xs.length).filter fun i => f (xs.getD i d)).map (fun i => xs.getD i d) = xs.filter f := by
  have q := range_getD xs d
  have e : xs.filter f = ((List.range xs.length).map fun i => xs.getD i d).filter f := by rw [q]
  rw [e, List.filter_map]
  rfl
theorem datV_len (cs : List Col) (vs : List Int) : (datV cs vs).length = (dataOf cs).length := by
  unfold datV
  rw [List.length_map]
  have q := congrArg List.length (filter_at isDat .none (cellsL cs))
  rw [dat_all, List.length_map, List.length_map, List.length_range] at q
  exact q
theorem datV_full (k : Kd) (cs : List Col) (ns : List Int) (h : ns.length = (dataOf cs).length) : datV cs (fullL k cs ns) = ns := by
  have e : datV cs (fullL k cs ns) = (((List.range (cellsL cs).length).filter fun i => isDat ((cellsL cs).getD i .none)).map fun i => (cellsL cs).getD i .none).map (told k cs ns) := by
    unfold datV
    rw [List.map_map]
    refine List.map_congr_left fun i hi => ?_
    have lt := List.mem_range.mp (List.mem_filter.mp hi).1
    unfold fullL
    show (((cellsL cs).map (told k cs ns)).getD i 0) = told k cs ns ((cellsL cs).getD i .none)
    rw [List.getD_eq_getElem?_getD, List.getD_eq_getElem?_getD, List.getElem?_map, List.getElem?_eq_getElem lt]
    rfl
  rw [e, filter_at, dat_all, List.map_map, ← h]
  exact range_getD ns 0
theorem right_full (k : Kd) (cs : List Col) (ns : List Int) (h : ns.length = (dataOf cs).length) : rightB k cs (fullL k cs ns) = true := by
  unfold rightB
  rw [datV_full k cs ns h]
  exact decide_eq_true rfl
theorem lay_ints : ∀ ns : List Int, PyData.canLayAll0 (ns.map PyData.int) = true ∧ PyData.depthAll (ns.map PyData.int) = 0
  | [] => ⟨by rw [List.map_nil, PyData.canLayAll0], by rw [List.map_nil, PyData.depthAll]⟩
  | n :: r => by
    have q := lay_ints r
    refine ⟨?_, ?_⟩
    · rw [List.map_cons, PyData.canLayAll0, PyData.canLay0, q.1]; rfl
    · rw [List.map_cons, PyData.depthAll, PyData.depth, q.2]; rfl
theorem shaped_ints (ns : List Int) : SeqAt.shaped (.tuple (ns.map PyData.int)) = true := by
  unfold SeqAt.shaped
  rw [PyData.canLay0, (lay_ints ns).1, PyData.depth, (lay_ints ns).2]
  decide
theorem eqv_ints (ns ms : List Int) : PyData.eqv (.tuple (ns.map PyData.int)) (.tuple (ms.map PyData.int)) = decide (ns = ms) := by
  rw [PyData.eqv]
  exact PySem.W.ked_eqvAll ns ms
end K30
end
section
set_option Elab.async false
set_option linter.all false
set_option maxRecDepth 100000
set_option maxHeartbeats 4000000
namespace K30
open PySem PySem.Spec PyProof.Rows L2 Evl TX
open C8 (Cal pe_c pe_gc)
def rLawRight : List V → Hp → V → Prop := fun xs H z => ∃ (l p : Addr) (k : Kd) (cs : List Col) (vs : List Int), xs = [.ref l, .ref p] ∧ Chart H l k cs ∧ k.ok ∧ Good cs ∧ H p = some (.tup (vs.map V.int)) ∧ vs.length = (cellsL cs).length ∧ z = .bl (rightB k cs vs)
section
variable {P : Program} {w : World} {K : PySem.W.Frag} {mg : Str → Option Value} {base : Heap} {f : Addr} {fd : FuncData}
end
end K30
end
section
set_option Elab.async false
set_option linter.all false
set_option maxRecDepth 100000
set_option maxHeartbeats 4000000
namespace K30
open PySem PySem.Spec PyProof.Rows L2 Evl TX
open C8 (Cal pe_c pe_gc)
def bd (d : PyData) : Int := if isDat d = true then b30 else b32
def rChkC (C : Addr) : List V → Hp → V → Prop := fun xs H z => ∃ (a p : Addr) (k : Kd) (cs : List Col) (vs : List Int), xs = [.ref a, .ref p] ∧ TabAt H C a k cs ∧ Good cs ∧ H p = some (.tup (vs.map V.int)) ∧ vs.length = (cellsL cs).length ∧ (∀ i, i < vs.length → okV k (vs.getD i 0) (bd ((cellsL cs).getD i .none)) = true) ∧ z = .non
def rRight (C : Addr) : List V → Hp → V → Prop := fun xs H z => ∃ (a p : Addr) (k : Kd) (cs : List Col) (vs : List Int), xs = [.ref a, .ref p] ∧ TabAt H C a k cs ∧ k.ok ∧ Good cs ∧ H p = some (.tup (vs.map V.int)) ∧ vs.length = (cellsL cs).length ∧ (∀ i, i < vs.length → okV k (vs.getD i 0) (bd ((cellsL cs).getD i .none)) = true) ∧ z = .bl (rightB k cs vs)
theorem g_ez {K : PySem.W.Frag} {σ : L2.St} {H : Hp} {i j k : Nat} {U T : Addr} {n x y : V} {Q : L2.St → Hp → Prop} (hU : H U = some (.tup [n, .ref T])) (hT : H T = some (.tup [x, y])) (q : Q (((σ.set i (some n)).set j (some x)).set k (some y)) H) :
    gTup K 2 (gCons (gName i) (gCons (gTup K 2 (gCons (gName j) (gCons (gName k) gNil))) gNil)) (.ref U) σ H Q := ⟨U, _, rfl, st_of hU, rfl, n, _, rfl, .ref T, _, rfl, T, _, rfl, st_of hT, rfl, x, _, rfl, y, _, rfl, rfl, rfl, q⟩
theorem g_zn {K : PySem.W.Frag} {σ : L2.St} {H : Hp} {i j k : Nat} {U T : Addr} {n x y : V} {Q : L2.St → Hp → Prop} (hU : H U = some (.tup [.ref T, n])) (hT : H T = some (.tup [x, y])) (q : Q (((σ.set i (some x)).set j (some y)).set k (some n)) H) :
    gTup K 2 (gCons (gTup K 2 (gCons (gName i) (gCons (gName j) gNil))) (gCons (gName k) gNil)) (.ref U) σ H Q := ⟨U, _, rfl, st_of hU, rfl, .ref T, _, rfl, T, _, rfl, st_of hT, rfl, x, _, rfl, y, _, rfl, rfl, n, _, rfl, rfl, q⟩
theorem cell_two {cs : List Col} {H : Hp} {x : V} {d : PyData} (r : Rep H x d) (h : isCell cs d) : ∃ b y z, x = .ref b ∧ (keyOf d).map kV = [y, z] ∧ H b = some (.tup [y, z]) ∧ scal y (.str "datum") = true ∧ decide (y = .str "datum") = isDat d := by
  rcases h with ⟨s, rfl, _⟩ | ⟨n, rfl, _⟩
  · obtain ⟨b, y, z, rfl, hb, r1, r2⟩ := Rep.two r
    obtain rfl := r1.str_inv
    obtain rfl := r2.str_inv
    exact ⟨b, _, _, rfl, rfl, hb, rfl, rfl⟩
  · obtain ⟨b, y, z, rfl, hb, r1, r2⟩ := Rep.two r
    obtain rfl := r1.str_inv
    obtain rfl := r2.int_inv
    exact ⟨b, _, _, rfl, rfl, hb, rfl, rfl⟩
def rDA (C : Addr) : List V → Hp → PyData → Prop := fun xs H d => ∃ (a p : Addr) (k : Kd) (cs : List Col) (vs : List Int), xs = [.ref a, .ref p] ∧ TabAt H C a k cs ∧ Good cs ∧ H p = some (.tup (vs.map V.int)) ∧ vs.length = (cellsL cs).length ∧ d = .tuple ((datV cs vs).map PyData.int)
section
variable {P : Program} {w : World} {K : PySem.W.Frag} {mg : Str → Option Value} {base : Heap} {f : Addr} {fd : FuncData}
variable {C : Addr}
end
end K30
end
section
set_option Elab.async false
set_option linter.all false
set_option maxRecDepth 100000
set_option maxHeartbeats 4000000
namespace K30
open PySem PySem.Spec PyProof.Rows L2 Evl TX
open C8 (Cal pe_c pe_gc)
theorem xor_ok {x y : Int} (x0 : 0 ≤ x) (y0 : 0 ≤ y) (x1 : x < 2 ^ 60) (y1 : y < 2 ^ 60) : 0 ≤ Builtin.bitXor x y ∧ Builtin.bitXor x y < 2 ^ 60 := by
  obtain ⟨a, rfl⟩ := Int.eq_ofNat_of_zero_le x0
  obtain ⟨b, rfl⟩ := Int.eq_ofNat_of_zero_le y0
  have a1 : a < 2 ^ 60 := by have q : ((a : Nat) : Int) < ((2 ^ 60 : Nat) : Int) := x1; exact Int.ofNat_lt.mp q
  have b1 : b < 2 ^ 60 := by have q : ((b : Nat) : Int) < ((2 ^ 60 : Nat) : Int) := y1; exact Int.ofNat_lt.mp q
  have eo : Builtin.bitOr (a : Int) (b : Int) = ((a ||| b : Nat) : Int) := by
    have na : Builtin.bitNot (a : Int) = -(a : Int) - 1 := rfl
    have nb : Builtin.bitNot (b : Int) = -(b : Int) - 1 := rfl
    unfold Builtin.bitOr Builtin.bitAnd
    rw [na, nb, decide_eq_false (show ¬ (0 : Int) ≤ -(a : Int) - 1 by omega), decide_eq_false (show ¬ (0 : Int) ≤ -(b : Int) - 1 by omega)]
    show Builtin.bitNot (Builtin.bitNot (((Builtin.bitNot (-(a : Int) - 1)).toNat ||| (Builtin.bitNot (-(b : Int) - 1)).toNat : Nat) : Int)) = _
    have ea : (Builtin.bitNot (-(a : Int) - 1)).toNat = a := by unfold Builtin.bitNot; omega
    have eb : (Builtin.bitNot (-(b : Int) - 1)).toNat = b := by unfold Builtin.bitNot; omega
    rw [ea, eb]
    unfold Builtin.bitNot
    omega
  have ea : Builtin.bitAnd (a : Int) (b : Int) = ((a &&& b : Nat) : Int) := by
    unfold Builtin.bitAnd
    rw [decide_eq_true x0, decide_eq_true y0]
    rfl
  have l1 : a ||| b < 2 ^ 60 := Nat.or_lt_two_pow a1 b1
  have l2 : a &&& b ≤ a := Nat.and_le_left
  have l3 : a ≤ a ||| b := Nat.left_le_or
  unfold Builtin.bitXor
  rw [eo, ea]
  have q : ((a ||| b : Nat) : Int) < ((2 ^ 60 : Nat) : Int) := Int.ofNat_lt.mpr l1
  have q2 : ((2 ^ 60 : Nat) : Int) = 2 ^ 60 := rfl
  rw [q2] at q
  refine ⟨?_, ?_⟩ <;> omega
theorem bits_inv {n b : Int} (h : okV .bits n b = true) : 0 ≤ n ∧ n < 2 ^ 60 := by
  have h1 := Bool.and_eq_true_iff.mp h
  have h2 := of_decide_eq_true h1.1
  have h3 := of_decide_eq_true h1.2
  exact ⟨h2, by omega⟩
theorem bits_of {n b : Int} (h : 0 ≤ n ∧ n < 2 ^ 60) : okV .bits n b = true := by
  show (decide _ && decide _) = true
  rw [decide_eq_true h.1, decide_eq_true (show n ≤ 1152921504606846975 by omega)]
  rfl
theorem xor_fold : ∀ {ns : List Int} {a : Int}, (∀ n ∈ ns, 0 ≤ n ∧ n < 2 ^ 60) → (0 ≤ a ∧ a < 2 ^ 60) → 0 ≤ ns.foldl (fun a b => Builtin.bitXor a b) a ∧ ns.foldl (fun a b => Builtin.bitXor a b) a < 2 ^ 60
  | [], _, _, h => h
  | n :: r, a, hn, h => xor_fold (ns := r) (fun m hm => hn m (List.mem_cons_of_mem _ hm)) (xor_ok h.1 (hn n (List.mem_cons_self ..)).1 h.2 (hn n (List.mem_cons_self ..)).2)
theorem sum_fold {b : Int} : ∀ {ns : List Int}, (∀ n ∈ ns, -b ≤ n ∧ n ≤ b) → -(b * (ns.length : Int)) ≤ ns.sum ∧ ns.sum ≤ b * (ns.length : Int)
  | [], _ => by simp
  | n :: r, h => by
    have q := sum_fold (b := b) (ns := r) fun m hm => h m (List.mem_cons_of_mem _ hm)
    have hn := h n (List.mem_cons_self ..)
    have e : ((n :: r).length : Int) = (r.length : Int) + 1 := by simp
    have s : (n :: r).sum = n + r.sum := List.sum_cons
    have m : b * ((r.length : Int) + 1) = b * (r.length : Int) + b := by rw [Int.mul_add, Int.mul_one]
    rw [e, s, m]
    omega
theorem plain_inv {n b : Int} (h : okV .plain n b = true) : -b ≤ n ∧ n ≤ b := by
  have h1 := Bool.and_eq_true_iff.mp h
  exact ⟨of_decide_eq_true h1.1, of_decide_eq_true h1.2⟩
/-- what is put together is a value again -/
theorem tog_ok {k : Kd} (hk : k.ok) {ns : List Int} (hl : ns.length ≤ 24) (h : ∀ n ∈ ns, okV k n b30 = true) : okV k (tog k ns) b32 = true := by
  cases k with
  | bits => exact bits_of (xor_fold (fun n hn => bits_inv (h n hn)) ⟨Int.le_refl 0, by decide⟩)
  | plain =>
    have q := sum_fold (b := b30) fun n hn => plain_inv (h n hn)
    have l : b30 * (ns.length : Int) ≤ b30 * 24 := Int.mul_le_mul_of_nonneg_left (by omega) (by decide)
    have e : b30 * 24 ≤ b32 := by decide
    show (decide (-b32 ≤ ns.sum) && decide (ns.sum ≤ b32)) = true
    rw [decide_eq_true (show -b32 ≤ ns.sum by omega), decide_eq_true (show ns.sum ≤ b32 by omega)]
    rfl
  | dial m =>
    have m0 : (0 : Int) < m := by have := hk.1; omega
    have q1 := Int.emod_nonneg ns.sum (show m ≠ 0 by omega)
    have q2 := Int.emod_lt_of_pos ns.sum m0
    show (decide (0 ≤ ns.sum % m) && decide (ns.sum % m ≤ m - 1)) = true
    rw [decide_eq_true q1, decide_eq_true (show ns.sum % m ≤ m - 1 by omega)]
    rfl
theorem getD_ok {k : Kd} {ns : List Int} {b : Int} (h : ∀ n ∈ ns, okV k n b = true) {i : Nat} (hi : i < ns.length) : okV k (ns.getD i 0) b = true := by
  rw [List.getD_eq_getElem?_getD, List.getElem?_eq_getElem hi]
  exact h _ (List.getElem_mem hi)
theorem told_ok {k : Kd} (hk : k.ok) {cs : List Col} (G : Good cs) {ns : List Int} (hl : ns.length = (dataOf cs).length) (h : ∀ n ∈ ns, okV k n b30 = true) {d : PyData} (hd : isCell cs d) : okV k (told k cs ns d) (bd d) = true := by
  have ld : (dataOf cs).length ≤ 24 := G.dlen
  rcases hd with ⟨s, rfl, _⟩ | ⟨n, rfl, n0, n1⟩
  · have e : bd (sumC s) = b32 := by unfold bd; rw [dat_sum]; rfl
    rw [e]
    refine tog_ok hk (by rw [List.length_map]; exact Nat.le_trans (numsOf_len _ _) ld) fun m hm => ?_
    obtain ⟨j, hj, rfl⟩ := List.mem_map.mp hm
    exact getD_ok h (by have := (numsOf_lt hj).2; omega)
  · have e : bd (datC n) = b30 := by unfold bd; rw [dat_dat]; rfl
    rw [e]
    exact getD_ok h (by omega)
theorem full_ok {k : Kd} (hk : k.ok) {cs : List Col} (G : Good cs) {ns : List Int} (hl : ns.length = (dataOf cs).length) (h : ∀ n ∈ ns, okV k n b30 = true) : ∀ i, i < (fullL k cs ns).length → okV k ((fullL k cs ns).getD i 0) (bd ((cellsL cs).getD i .none)) = true := fun i hi => by
  unfold fullL at hi ⊢
  rw [List.length_map] at hi
  rw [List.getD_eq_getElem?_getD, List.getElem?_map, List.getD_eq_getElem?_getD, List.getElem?_eq_getElem hi]
  exact told_ok hk G hl h (cell_is (List.getElem_mem hi))
end K30
end
section
set_option Elab.async false
set_option linter.all false
set_option maxRecDepth 100000
set_option maxHeartbeats 4000000
namespace K30
open PySem PySem.Spec PyProof.Rows L2 Evl TX
open C8 (Cal pe_c pe_gc)
theorem int_len {n : Int} (h : n.natAbs < 10 ^ 33) : (PyData.int n).shown.length ≤ 34 := by
  have q := int_text_length_le10 (k := 33) (by decide) h
  rw [PyData.shown]
  show (Str.ofString (toString n)).length ≤ 34
  rw [PySem.ofString_length]
  exact q
theorem piled_ints : ∀ {ns : List Int}, (∀ n ∈ ns, n.natAbs < 10 ^ 33) → piled (PyData.shownAll (ns.map PyData.int)) ≤ 36 * ns.length ∧ (PyData.shownAll (ns.map PyData.int)).length = ns.length
  | [], _ => by rw [List.map_nil, PyData.shownAll]; exact ⟨Nat.le_refl _, rfl⟩
  | n :: r, h => by
    have q := piled_ints (ns := r) fun m hm => h m (List.mem_cons_of_mem _ hm)
    have l := int_len (h n (List.mem_cons_self ..))
    rw [List.map_cons, PyData.shownAll, piled_cons, List.length_cons, List.length_cons]
    omega
theorem tup_len {ns : List Int} (h : ∀ n ∈ ns, n.natAbs < 10 ^ 33) : (PyData.tuple (ns.map PyData.int)).shown.length ≤ 36 * ns.length + 4 := by
  obtain ⟨q1, q2⟩ := piled_ints h
  rw [PyData.shown]
  unfold tupleText
  rw [strLen_append, strLen_append]
  have e1 : ((("(" : String) : Str)).length = 1 := rfl
  have e3 : (((if (PyData.shownAll (ns.map PyData.int)).length == 1 then ",)" else ")" : String) : Str)).length ≤ 2 := by split <;> decide
  have e2 : (Str.join ", " (PyData.shownAll (ns.map PyData.int))).length ≤ piled (PyData.shownAll (ns.map PyData.int)) := by
    by_cases z : PyData.shownAll (ns.map PyData.int) = []
    · rw [z]
      exact Nat.le_refl 0
    · have := join_length_add _ z
      omega
  omega
theorem showable_ints : ∀ {ns : List Int}, (∀ n ∈ ns, n.natAbs < 10 ^ 33) → PyData.showableAll (ns.map PyData.int) = true ∧ PyData.hasDictAll (ns.map PyData.int) = false
  | [], _ => by rw [List.map_nil, PyData.showableAll, PyData.hasDictAll]; exact ⟨rfl, rfl⟩
  | n :: r, h => by
    have q := showable_ints (ns := r) fun m hm => h m (List.mem_cons_of_mem _ hm)
    have l : n.natAbs.log2 < 1920 := by
      by_cases z : n.natAbs = 0
      · rw [z]; decide
      · exact (Nat.log2_lt z).mpr (Nat.lt_trans (h n (List.mem_cons_self ..)) (by decide +kernel))
    rw [List.map_cons, PyData.showableAll, PyData.hasDictAll, PyData.showable, PyData.hasDict, q.1, q.2, decide_eq_true l]
    exact ⟨rfl, rfl⟩
/-- [t, t] of ints, shown -/
theorem two_shown {ns : List Int} (h : ∀ n ∈ ns, n.natAbs < 10 ^ 33) (hl : ns.length ≤ 1000) :
    (PyData.list [.tuple (ns.map PyData.int), .tuple (ns.map PyData.int)]).showable = true ∧ (PyData.list [.tuple (ns.map PyData.int), .tuple (ns.map PyData.int)]).depth ≤ 60 ∧ (PyData.list [.tuple (ns.map PyData.int), .tuple (ns.map PyData.int)]).hasDict = false ∧ (PyData.list [.tuple (ns.map PyData.int), .tuple (ns.map PyData.int)]).shown.length ≤ sizeLine := by
  obtain ⟨s1, s2⟩ := showable_ints h
  have t := tup_len h
  refine ⟨?_, ?_, ?_, ?_⟩
  · rw [PyData.showable, PyData.showableAll, PyData.showableAll, PyData.showableAll, PyData.showable, s1]; rfl
  · rw [PyData.depth, PyData.depthAll, PyData.depthAll, PyData.depthAll, PyData.depth, (lay_ints ns).2]; decide
  · rw [PyData.hasDict, PyData.hasDictAll, PyData.hasDictAll, PyData.hasDictAll, PyData.hasDict, s2]; rfl
  · rw [PyData.shown, PyData.shownAll, PyData.shownAll, PyData.shownAll]
    generalize (PyData.tuple (ns.map PyData.int)).shown = z at t
    have e : (listText [z, z]).length ≤ 2 * z.length + 10 := by
      show (((("[" : Str) ++ (if (0 : Nat) > 0 then ", " else "" : String) ++ z) ++ (if (0 + 1 : Nat) > 0 then ", " else "" : String) ++ z) ++ "]").length ≤ _
      rw [strLen_append, strLen_append, strLen_append, strLen_append, strLen_append]
      have a1 : ((("[" : String) : Str)).length = 1 := rfl
      have a2 : ((("]" : String) : Str)).length = 1 := rfl
      have a3 : (((if (0 : Nat) > 0 then ", " else "" : String) : Str)).length = 0 := by decide
      have a4 : (((if (0 + 1 : Nat) > 0 then ", " else "" : String) : Str)).length = 2 := by decide
      omega
    have s : 100000 ≤ sizeLine := by decide
    omega
theorem ok_abs {k : Kd} (hk : k.ok) {n b : Int} (hb : b ≤ b32) (h : okV k n b = true) : n.natAbs < 10 ^ 33 := by
  have e : ((10 ^ 33 : Nat) : Int) = 1000000000000000000000000000000000 := by decide
  have g : (n.natAbs : Int) < ((10 ^ 33 : Nat) : Int) := by
    rw [e]
    have b32e : b32 = 100000000000000000000000000000000 := rfl
    cases k with
    | bits => have := bits_inv h; omega
    | plain => have := plain_inv h; omega
    | dial m =>
      have h1 := Bool.and_eq_true_iff.mp h
      have h2 := of_decide_eq_true h1.1
      have h3 := of_decide_eq_true h1.2
      have := hk.2
      omega
  exact Int.ofNat_lt.mp g
theorem full_abs {k : Kd} (hk : k.ok) {cs : List Col} (G : Good cs) {ns : List Int} (hl : ns.length = (dataOf cs).length) (h : ∀ n ∈ ns, okV k n b30 = true) : ∀ n ∈ fullL k cs ns, n.natAbs < 10 ^ 33 := fun n hn => by
  unfold fullL at hn
  obtain ⟨d, hd, rfl⟩ := List.mem_map.mp hn
  exact ok_abs hk (b := bd d) (by unfold bd; split <;> decide) (told_ok hk G hl h (cell_is hd))
end K30
end
section
set_option Elab.async false
set_option linter.all false
set_option maxRecDepth 100000
set_option maxHeartbeats 4000000
namespace K30
open PySem PySem.Spec PyProof.Rows L2 Evl TX
open C8 (Cal pe_c pe_gc)
open RP GL
theorem TabAt.but {H H' : Hp} {C a j : Addr} {k : Kd} {cs : List Col} (t : TabAt H C a k cs) (b : But j H H') (x : JarAt H j) : TabAt H' C a k cs := by
  have tx := b.tx x
  obtain ⟨p, q, r, hj⟩ := x
  have off : ∀ {c : Addr} {o : HO}, H c = some o → (∀ xs, o ≠ .lst xs) → H' c = some o := fun e n => b _ _ (fun z => by rw [z, hj] at e; cases e; exact n _ rfl) e
  obtain ⟨dx, v1, v2, v3, v4, v6, v9, p5, q7, kvs, h0, h1, h2, h3, h4, ⟨zs, c1, c2⟩, ⟨a6, o6, x6, g1, g2, g3, g4, g5⟩, h7, h9⟩ := t.ex
  exact ⟨dx, v1, v2, v3, v4, v6, v9, p5, q7, kvs, off h0 (fun _ z => nomatch z), h1.on tx, h2.on tx, h3.on tx, h4.on tx, ⟨zs, off c1 (fun _ z => nomatch z), c2.on tx⟩, ⟨a6, o6, x6, g1, off g2 (fun _ z => nomatch z), g3, g4, g5.on tx⟩, off h7 (fun _ z => nomatch z), h9.on tx⟩
theorem ChartAt.but {H H' : Hp} {j l f : Addr} {k : Kd} {cs : List Col} {F : Nat → Addr × Addr × Addr × List V} (c : ChartAt H j l k cs f F) (b : But j H H') (x : JarAt H j) : ChartAt H' j l k cs f F :=
  ⟨b _ _ c.off.1 c.hl, b _ _ c.off.2.1 c.hf, fun i h => b _ _ (c.off.2.2 i h).1 (c.col i h), fun i h => b _ _ (c.off.2.2 i h).2.1 (c.sm i h), fun i h => b _ _ (c.off.2.2 i h).2.2 (c.dt i h), fun i h => (c.rp i h).on (b.tx x), c.off⟩
section
variable {K : PySem.W.Frag} {σ : L2.St} {H H' : Hp} {te tb : TE} {ds : List PyData} {d : PyData} {v z : V} {D : Ends} {tu tz : TS}
/-- o.m(..) that gives data -/
theorem er_mtD {a C dx : Addr} {fs : List (Str × V)} {m : Str} {E : XK} {R : List V → Hp → PyData → Prop} {t : TA} {vs : List V} (h : Ev te σ H (.ref a)) (ha : H a = some (.ins C dx fs)) (l : fs.lookup m = none) (hv : EvA t σ H vs) (hr : ∀ H1, Ex H H1 → R (.ref a :: vs) H1 d) : EvR (tMeth C m (dSp R) [] E te t) σ H d := fun H1 e Q q =>
  h H1 e _ fun H2 e2 => ⟨a, dx, fs, rfl, (e.trans e2) _ _ ha, l, hv H2 (e.trans e2) _ fun H3 e3 => ⟨d, by rw [List.append_nil]; exact hr H3 ((e.trans e2).trans e3), fun v H4 e4 r => q v H4 ((e2.trans e3).trans e4) r⟩⟩
theorem er_mtKD {a C dx : Addr} {fs : List (Str × V)} {m : Str} {E : XK} {R : List V → Hp → PyData → Prop} {t : TA} {vs : List V} {n : Nat} (h : Ev te σ H (.ref a)) (ha : H a = some (.ins C dx fs)) (l : fs.lookup m = none) (hv : EvA t σ H vs) (hn : vs.length = n) (hr : ∀ H1, Ex H H1 → R (.ref a :: vs) H1 d) : EvR (tMethK C m (dSp R) n E te t) σ H d := fun H1 e Q q =>
  h H1 e _ fun H2 e2 => ⟨a, dx, fs, rfl, (e.trans e2) _ _ ha, l, hv H2 (e.trans e2) _ fun H3 e3 => ⟨hn, d, hr H3 ((e.trans e2).trans e3), fun v H4 e4 r => q v H4 ((e2.trans e3).trans e4) r⟩⟩
theorem ev_mtK {a C dx : Addr} {fs : List (Str × V)} {m : Str} {E : XK} {R : List V → Hp → V → Prop} {t : TA} {vs : List V} {n : Nat} (h : Ev te σ H (.ref a)) (ha : H a = some (.ins C dx fs)) (l : fs.lookup m = none) (hv : EvA t σ H vs) (hn : vs.length = n) (hr : ∀ H1, Ex H H1 → R (.ref a :: vs) H1 z) : Ev (tMethK C m (pSp R) n E te t) σ H z := fun H1 e Q q =>
  h H1 e _ fun H2 e2 => ⟨a, dx, fs, rfl, (e.trans e2) _ _ ha, l, hv H2 (e.trans e2) _ fun H3 e3 => ⟨hn, z, hr H3 ((e.trans e2).trans e3), fun H4 e4 => q H4 ((e2.trans e3).trans e4)⟩⟩
/-- repr of a new list of data -/
theorem ev_reprS (h : EvS te σ H ds) (s : (PyData.list ds).showable = true ∧ (PyData.list ds).depth ≤ 60 ∧ (PyData.list ds).hasDict = false ∧ (PyData.list ds).shown.length ≤ sizeLine) : Ev (tCB (rRepr K) (tCons te tNil)) σ H (.str (PyData.list ds).shown) := fun H1 a Q q =>
  h H1 a _ fun p xs H2 _ b hp rs => ⟨.ref p, .list ds, rfl, .dp (.lst (sq_of hp) rs.dp) s.2.2.1, s.1, s.2.1, s.2.2.2, q H2 b⟩
/-- repr of a truth -/
theorem ev_reprB {b : Bool} (h : Ev te σ H (.bl b)) : Ev (tCB (rRepr K) (tCons te tNil)) σ H (.str (PyData.bool b).shown) := fun H1 a Q q =>
  h H1 a _ fun H2 e2 => ⟨.bl b, .bool b, rfl, .dp (.bl b) (by rw [PyData.hasDict]), by rw [PyData.showable], by rw [PyData.depth]; decide, by cases b <;> decide, q H2 e2⟩
end
end K30
end
section
set_option Elab.async false
set_option linter.all false
set_option maxRecDepth 100000
set_option maxHeartbeats 4000000
namespace K30
open PySem PySem.Spec PyProof.Rows L2 Evl TX
open C8 (Cal pe_c pe_gc)
/-! ### what is put together: sums of rows -/
def tog2 (k : Kd) (x y : Int) : Int := tog k [x, y]
/-- a number that the kind has -/
def inK : Kd → Int → Prop
  | .bits, n => 0 ≤ n
  | .plain, _ => True
  | .dial m, n => 0 ≤ n ∧ n < m
theorem okV_inK {k : Kd} {n b : Int} (h : okV k n b = true) : inK k n := by
  cases k with
  | bits => exact (bits_inv h).1
  | plain => trivial
  | dial m =>
    have h1 := Bool.and_eq_true_iff.mp h
    have h2 := of_decide_eq_true h1.1
    have h3 := of_decide_eq_true h1.2
    exact ⟨h2, by omega⟩
theorem xor_cast (a b : Nat) : Builtin.bitXor (a : Int) (b : Int) = ((a ^^^ b : Nat) : Int) := by
  have q := Bits.bitXor_pp (x := (a : Int)) (y := (b : Int)) (Int.natCast_nonneg a) (Int.natCast_nonneg b)
  rw [Int.toNat_natCast, Int.toNat_natCast] at q
  exact q
theorem fold_cast : ∀ (ns : List Nat) (a : Nat), (ns.map fun n : Nat => (n : Int)).foldl (fun a b => Builtin.bitXor a b) (a : Int) = ((ns.foldl (fun a b => a ^^^ b) a : Nat) : Int)
  | [], _ => rfl
  | n :: r, a => by
    rw [List.map_cons, List.foldl_cons, List.foldl_cons, xor_cast]
    exact fold_cast r _
theorem fold_two (L : List Nat) (f g : Nat → Nat) : ∀ x y : Nat, (L.map fun j => f j ^^^ g j).foldl (fun a b => a ^^^ b) (x ^^^ y) = (L.map f).foldl (fun a b => a ^^^ b) x ^^^ (L.map g).foldl (fun a b => a ^^^ b) y := by
  induction L with
  | nil => intro x y; rfl
  | cons j r ih =>
    intro x y
    rw [List.map_cons, List.map_cons, List.map_cons, List.foldl_cons, List.foldl_cons, List.foldl_cons]
    have e : x ^^^ y ^^^ (f j ^^^ g j) = (x ^^^ f j) ^^^ (y ^^^ g j) := by
      rw [Nat.xor_assoc, Nat.xor_assoc]
      congr 1
      rw [← Nat.xor_assoc, ← Nat.xor_assoc, Nat.xor_comm y (f j)]
    rw [e]
    exact ih _ _
theorem sum_two (L : List Nat) (f g : Nat → Int) : (L.map fun j => f j + g j).sum = (L.map f).sum + (L.map g).sum := by
  induction L with
  | nil => rfl
  | cons j r ih => rw [List.map_cons, List.map_cons, List.map_cons, List.sum_cons, List.sum_cons, List.sum_cons, ih]; omega
theorem sum_mod (m : Int) (L : List Nat) (f : Nat → Int) : (L.map fun j => f j % m).sum % m = (L.map f).sum % m := by
  induction L with
  | nil => rfl
  | cons j r ih =>
    rw [List.map_cons, List.map_cons, List.sum_cons, List.sum_cons, Int.add_emod, ih, Int.emod_emod_of_dvd _ (Int.dvd_refl m), ← Int.add_emod]
theorem tog2_bits (x y : Nat) : tog2 .bits (x : Int) (y : Int) = ((x ^^^ y : Nat) : Int) := by
  show Builtin.bitXor (Builtin.bitXor 0 (x : Int)) (y : Int) = _
  have e : Builtin.bitXor 0 (x : Int) = (x : Int) := by
    have q := xor_cast 0 x
    rw [Nat.zero_xor] at q
    exact q
  rw [e, xor_cast]
theorem tog2_plain (x y : Int) : tog2 .plain x y = x + y := by show [x, y].sum = _; simp
theorem tog2_dial (m x y : Int) : tog2 (.dial m) x y = (x + y) % m := by show [x, y].sum % m = _; simp
theorem tog_two {k : Kd} (L : List Nat) (f g : Nat → Int) (hf : ∀ j ∈ L, inK k (f j)) (hg : ∀ j ∈ L, inK k (g j)) : tog k (L.map fun j => tog2 k (f j) (g j)) = tog2 k (tog k (L.map f)) (tog k (L.map g)) := by
  cases k with
  | bits =>
    have ef : ∀ h : Nat → Int, (∀ j ∈ L, inK .bits (h j)) → L.map h = (L.map fun j => (h j).toNat).map fun n : Nat => (n : Int) := fun h hh => by
      rw [List.map_map]
      exact List.map_congr_left fun j hj => (Int.toNat_of_nonneg (hh j hj)).symm
    have e2 : L.map (fun j => tog2 .bits (f j) (g j)) = (L.map fun j => (f j).toNat ^^^ (g j).toNat).map fun n : Nat => (n : Int) := by
      rw [List.map_map]
      refine List.map_congr_left fun j hj => ?_
      have q := tog2_bits (f j).toNat (g j).toNat
      rw [Int.toNat_of_nonneg (hf j hj), Int.toNat_of_nonneg (hg j hj)] at q
      exact q
    rw [e2, ef f hf, ef g hg, tog_bits, tog_bits, tog_bits]
    have c1 := fold_cast (L.map fun j => (f j).toNat ^^^ (g j).toNat) 0
    have c2 := fold_cast (L.map fun j => (f j).toNat) 0
    have c3 := fold_cast (L.map fun j => (g j).toNat) 0
    have z : ((0 : Nat) : Int) = 0 := rfl
    rw [z] at c1 c2 c3
    rw [c1, c2, c3, tog2_bits]
    have q := fold_two L (fun j => (f j).toNat) (fun j => (g j).toNat) 0 0
    rw [Nat.xor_self] at q
    exact congrArg Int.ofNat q
  | plain =>
    have e : L.map (fun j => tog2 .plain (f j) (g j)) = L.map fun j => f j + g j := List.map_congr_left fun j _ => tog2_plain _ _
    rw [e, tog2_plain]
    exact sum_two L f g
  | dial m =>
    have e : L.map (fun j => tog2 (.dial m) (f j) (g j)) = L.map fun j => (f j + g j) % m := List.map_congr_left fun j _ => tog2_dial _ _ _
    rw [e, tog2_dial]
    show (L.map fun j => (f j + g j) % m).sum % m = ((L.map f).sum % m + (L.map g).sum % m) % m
    rw [sum_mod m L (fun j => f j + g j), sum_two, Int.add_emod]
theorem tog2_zero {k : Kd} {x : Int} (h : inK k x) : tog2 k x 0 = x := by
  cases k with
  | bits =>
    have q := tog2_bits x.toNat 0
    rw [Int.toNat_of_nonneg h, Nat.xor_zero, Int.toNat_of_nonneg h] at q
    exact q
  | plain => rw [tog2_plain]; omega
  | dial m => rw [tog2_dial, Int.add_zero]; exact Int.emod_eq_of_lt h.1 h.2
theorem tog2_ne {k : Kd} (hk : k.ok) {x : Int} (h : inK k x) : tog2 k x 1 ≠ x := by
  cases k with
  | bits =>
    intro e
    have q := tog2_bits x.toNat 1
    have o : (((1 : Nat) : Int)) = 1 := rfl
    rw [Int.toNat_of_nonneg h, o, e] at q
    have q2 : x.toNat = x.toNat ^^^ 1 := by omega
    have q3 : x.toNat ^^^ x.toNat = x.toNat ^^^ (x.toNat ^^^ 1) := by rw [← q2]
    rw [← Nat.xor_assoc, Nat.xor_self, Nat.zero_xor] at q3
    cases q3
  | plain => rw [tog2_plain]; omega
  | dial m =>
    rw [tog2_dial]
    have m3 := hk.1
    obtain ⟨h0, h1⟩ := h
    intro e
    by_cases c : x + 1 < m
    · rw [Int.emod_eq_of_lt (by omega) c] at e
      omega
    · have e1 : x + 1 = m := by omega
      rw [e1, Int.emod_self] at e
      omega
theorem tog2_inK {k : Kd} (hk : k.ok) {x y : Int} (hx : inK k x) (hy : inK k y) : inK k (tog2 k x y) := by
  cases k with
  | bits =>
    have q := tog2_bits x.toNat y.toNat
    rw [Int.toNat_of_nonneg hx, Int.toNat_of_nonneg hy] at q
    rw [q]
    exact Int.natCast_nonneg _
  | plain => trivial
  | dial m =>
    rw [tog2_dial]
    have m3 := hk.1
    exact ⟨Int.emod_nonneg _ (by omega), Int.emod_lt_of_pos _ (by omega)⟩
theorem inK_small {k : Kd} (hk : k.ok) {x : Int} (h0 : 0 ≤ x) (h1 : x ≤ 1) : inK k x := by
  cases k with
  | bits => exact h0
  | plain => trivial
  | dial m => have := hk.1; exact ⟨h0, by omega⟩
/-- two rows put together -/
def both (k : Kd) (n : Nat) (a b : Nat → Int) : List Int := (List.range n).map fun i => tog2 k (a i) (b i)
theorem rng_getD {n i : Nat} {f : Nat → Int} (h : i < n) : ((List.range n).map f).getD i 0 = f i := by
  rw [List.getD_eq_getElem?_getD, List.getElem?_map, List.getElem?_range h]
  rfl
theorem told_both {k : Kd} {cs : List Col} {a b : List Int} (ha : a.length = (dataOf cs).length) (hb : b.length = (dataOf cs).length) (ia : ∀ x ∈ a, inK k x) (ib : ∀ x ∈ b, inK k x) {d : PyData} (hd : isCell cs d) :
    told k cs (both k (dataOf cs).length (fun i => a.getD i 0) fun i => b.getD i 0) d = tog2 k (told k cs a d) (told k cs b d) := by
  have at_ : ∀ {l : List Int}, l.length = (dataOf cs).length → (∀ x ∈ l, inK k x) → ∀ {j : Nat}, j < (dataOf cs).length → inK k (l.getD j 0) := fun {l} hl hi j hj => by
    rw [List.getD_eq_getElem?_getD, List.getElem?_eq_getElem (by omega)]
    exact hi _ (List.getElem_mem _)
  rcases hd with ⟨s, rfl, _⟩ | ⟨n, rfl, n0, n1⟩
  · rw [told_sum, told_sum, told_sum]
    generalize hL : (List.range (dataOf cs).length).filter (fun j => inPair s ((dataOf cs).getD j p0)) = L
    have lt : ∀ j ∈ L, j < (dataOf cs).length := fun j hj => by rw [← hL] at hj; exact List.mem_range.mp (List.mem_filter.mp hj).1
    rw [← tog_two L (fun j => a.getD j 0) (fun j => b.getD j 0) (fun j hj => at_ ha ia (lt j hj)) (fun j hj => at_ hb ib (lt j hj))]
    congr 1
    exact List.map_congr_left fun j hj => rng_getD (lt j hj)
  · show (both k _ _ _).getD n.toNat 0 = _
    exact rng_getD n1
theorem full_both {k : Kd} {cs : List Col} {a b : List Int} (ha : a.length = (dataOf cs).length) (hb : b.length = (dataOf cs).length) (ia : ∀ x ∈ a, inK k x) (ib : ∀ x ∈ b, inK k x) :
    fullL k cs (both k (dataOf cs).length (fun i => a.getD i 0) fun i => b.getD i 0) = (cellsL cs).map fun d => tog2 k (told k cs a d) (told k cs b d) :=
  List.map_congr_left fun d hd => told_both ha hb ia ib (cell_is hd)
theorem tog_zeros (k : Kd) {α : Type} (L : List α) : tog k (L.map fun _ => (0 : Int)) = 0 := by
  have e : ∀ L : List α, (L.map fun _ => (0 : Int)).sum = 0 := fun L => by
    induction L with
    | nil => rfl
    | cons x r ih => rw [List.map_cons, List.sum_cons, ih]; rfl
  cases k with
  | bits =>
    show (L.map fun _ => (0 : Int)).foldl _ 0 = 0
    induction L with
    | nil => rfl
    | cons x r ih =>
      rw [List.map_cons, List.foldl_cons]
      have z : Builtin.bitXor 0 0 = 0 := rfl
      rw [z]
      exact ih
  | plain => exact e L
  | dial m => show _ % m = 0; rw [e L]; exact Int.zero_emod m
theorem zero_getD (n i : Nat) : (List.replicate n (0 : Int)).getD i 0 = 0 := by
  rw [List.getD_eq_getElem?_getD, List.getElem?_replicate]
  split <;> rfl
theorem told_zero (k : Kd) (cs : List Col) {d : PyData} (hd : isCell cs d) : told k cs (List.replicate (dataOf cs).length 0) d = 0 := by
  rcases hd with ⟨s, rfl, _⟩ | ⟨n, rfl, n0, n1⟩
  · rw [told_sum]
    have e : (((List.range (dataOf cs).length).filter fun j => inPair s ((dataOf cs).getD j p0)).map fun j => (List.replicate (dataOf cs).length (0 : Int)).getD j 0) = ((List.range (dataOf cs).length).filter fun j => inPair s ((dataOf cs).getD j p0)).map fun _ => (0 : Int) := List.map_congr_left fun j _ => zero_getD _ _
    rw [e]
    exact tog_zeros k _
  · exact zero_getD _ _
theorem full_zero (k : Kd) (cs : List Col) : fullL k cs (List.replicate (dataOf cs).length 0) = List.replicate (cellsL cs).length 0 := by
  have e : fullL k cs (List.replicate (dataOf cs).length 0) = (cellsL cs).map fun _ => (0 : Int) := List.map_congr_left fun d hd => told_zero k cs (cell_is hd)
  rw [e]
  exact List.map_const'
/-! ### one datum changed -/
def one1 (n a : Nat) : List Int := (List.range n).map fun j => if j = a then 1 else 0
/-- what a datum's change touches -/
def touched (cs : List Col) (a : Nat) : PyData → Bool
  | .tuple [.str _, .str s] => inPair s ((dataOf cs).getD a p0)
  | .tuple [.str _, .int n] => decide (n.toNat = a)
  | _ => false
theorem tog_one {k : Kd} (hk : k.ok) (L : List Nat) (nd : L.Nodup) (a : Nat) : tog k (L.map fun j => if j = a then (1 : Int) else 0) = if a ∈ L then 1 else 0 := by
  have s0 : ∀ L : List Nat, a ∉ L → L.map (fun j => if j = a then (1 : Int) else 0) = L.map fun _ => (0 : Int) := fun L h => List.map_congr_left fun j hj => if_neg fun (z : j = a) => h (z ▸ hj)
  by_cases h : a ∈ L
  · rw [if_pos h]
    obtain ⟨L1, L2, rfl⟩ := List.append_of_mem h
    have n1 : a ∉ L1 := fun z => (List.nodup_append.mp nd).2.2 a z a (List.mem_cons_self ..) rfl
    have n2 : a ∉ L2 := (List.nodup_cons.mp (List.nodup_append.mp nd).2.1).1
    rw [List.map_append, List.map_cons, s0 L1 n1, s0 L2 n2, if_pos rfl]
    have su : ((L1.map fun _ => (0 : Int)) ++ 1 :: L2.map fun _ => (0 : Int)).sum = 1 := by
      rw [List.sum_append, List.sum_cons]
      have z1 := tog_zeros .plain L1
      have z2 := tog_zeros .plain L2
      have e1 : (L1.map fun _ => (0 : Int)).sum = 0 := z1
      have e2 : (L2.map fun _ => (0 : Int)).sum = 0 := z2
      rw [e1, e2]
      rfl
    cases k with
    | bits =>
      show ((L1.map fun _ => (0 : Int)) ++ 1 :: L2.map fun _ => (0 : Int)).foldl _ 0 = 1
      have z1 := tog_zeros .bits L1
      rw [tog_bits] at z1
      rw [List.foldl_append, z1, List.foldl_cons]
      have o : Builtin.bitXor 0 1 = 1 := by decide
      rw [o]
      clear nd h n1 n2 s0 su z1
      induction L2 with
      | nil => rfl
      | cons x r ih =>
        rw [List.map_cons, List.foldl_cons]
        have o : Builtin.bitXor 1 0 = 1 := by decide
        rw [o]
        exact ih
    | plain => exact su
    | dial m =>
      show _ % m = 1
      rw [su]
      have := hk.1
      exact Int.emod_eq_of_lt (by decide) (by omega)
  · rw [if_neg h, s0 L h]
    exact tog_zeros k L
theorem told_one {k : Kd} (hk : k.ok) {cs : List Col} {a : Nat} (ha : a < (dataOf cs).length) {d : PyData} (hd : isCell cs d) : told k cs (one1 (dataOf cs).length a) d = if touched cs a d then 1 else 0 := by
  rcases hd with ⟨s, rfl, _⟩ | ⟨n, rfl, n0, n1⟩
  · rw [told_sum]
    generalize hL : (List.range (dataOf cs).length).filter (fun j => inPair s ((dataOf cs).getD j p0)) = L
    have lt : ∀ j ∈ L, j < (dataOf cs).length := fun j hj => by rw [← hL] at hj; exact List.mem_range.mp (List.mem_filter.mp hj).1
    have nd : L.Nodup := by rw [← hL]; exact List.nodup_range.filter _
    have e : (L.map fun j => (one1 (dataOf cs).length a).getD j 0) = L.map fun j => if j = a then (1 : Int) else 0 := List.map_congr_left fun j hj => rng_getD (lt j hj)
    rw [e, tog_one hk L nd a]
    have t : touched cs a (sumC s) = inPair s ((dataOf cs).getD a p0) := rfl
    rw [t]
    have m : a ∈ L ↔ inPair s ((dataOf cs).getD a p0) = true := by
      rw [← hL, List.mem_filter]
      exact ⟨fun h => h.2, fun h => ⟨List.mem_range.mpr ha, h⟩⟩
    by_cases h : a ∈ L
    · rw [if_pos h, if_pos (m.mp h)]
    · rw [if_neg h, if_neg (fun z => h (m.mpr z))]
  · show (one1 _ a).getD n.toNat 0 = _
    have t : touched cs a (datC n) = decide (n.toNat = a) := rfl
    rw [t]
    show ((List.range _).map _).getD n.toNat 0 = _
    rw [rng_getD n1]
    by_cases h : n.toNat = a
    · rw [if_pos h, if_pos (decide_eq_true h)]
    · rw [if_neg h, if_neg (by rw [decide_eq_false h]; decide)]
theorem set_both {k : Kd} {cs : List Col} {ns : List Int} (hl : ns.length = (dataOf cs).length) (hi : ∀ x ∈ ns, inK k x) {a : Nat} (ha : a < ns.length) :
    ns.set a (tog2 k (ns.getD a 0) 1) = both k (dataOf cs).length (fun i => ns.getD i 0) fun i => (one1 (dataOf cs).length a).getD i 0 := by
  refine List.ext_getElem? fun i => ?_
  unfold both one1
  by_cases hi2 : i < ns.length
  · rw [List.getElem?_set, List.getElem?_map, List.getElem?_range (by omega)]
    show _ = some (tog2 k (ns.getD i 0) (((List.range (dataOf cs).length).map fun j => if j = a then (1 : Int) else 0).getD i 0))
    rw [rng_getD (by omega)]
    by_cases e : a = i
    · rw [if_pos e, if_pos ha, if_pos e.symm, e]
    · rw [if_neg e, if_neg (Ne.symm e), List.getElem?_eq_getElem hi2]
      have g : ns.getD i 0 = ns[i] := by rw [List.getD_eq_getElem?_getD, List.getElem?_eq_getElem hi2]; rfl
      rw [g]
      exact congrArg some (tog2_zero (hi _ (List.getElem_mem _))).symm
  · rw [List.getElem?_eq_none (by rw [List.length_set]; omega), List.getElem?_eq_none (by rw [List.length_map, List.length_range]; omega)]
/-! ### the order of texts -/
theorem rising_pair : ∀ {l : List Str} {p : Str}, risingS p l = true → (p :: l).Pairwise (fun a b => ¬ b.cps.toList < a.cps.toList)
  | [], p, _ => List.pairwise_singleton _ _
  | x :: r, p, h => by
    obtain ⟨h1, h2⟩ := Bool.and_eq_true_iff.mp (show (!ltCps x.cps.toList p.cps.toList && risingS x r) = true from h)
    have h3 := rising_pair h2
    rw [ltCps_eq] at h1
    have h4 : ¬ x.cps.toList < p.cps.toList := by simpa using h1
    refine List.pairwise_cons.mpr ⟨fun b hb => ?_, h3⟩
    rcases List.mem_cons.mp hb with rfl | hb
    · exact h4
    · have h5 := (List.pairwise_cons.mp h3).1 b hb
      exact List.le_trans (show p.cps.toList ≤ x.cps.toList from h4) (show x.cps.toList ≤ b.cps.toList from h5)
theorem sorted_pair {l : List Str} (h : sortedS l = true) : l.Pairwise (fun a b => ¬ b.cps.toList < a.cps.toList) := by
  cases l with
  | nil => exact .nil
  | cons x r => exact rising_pair h
theorem sorted_same : ∀ {l m : List Str}, l.Perm m → l.Pairwise (fun a b => ¬ b.cps.toList < a.cps.toList) → m.Pairwise (fun a b => ¬ b.cps.toList < a.cps.toList) → l = m
  | [], m, h, _, _ => (List.perm_nil.mp h.symm).symm
  | x :: l, [], h, _, _ => absurd (List.perm_nil.mp h) (by simp)
  | x :: l, y :: m, h, h1, h2 => by
    obtain ⟨a1, b1⟩ := List.pairwise_cons.mp h1
    obtain ⟨a2, b2⟩ := List.pairwise_cons.mp h2
    have e : x = y := by
      by_cases c : x = y
      · exact c
      · have m1 : y ∈ l := by
          rcases List.mem_cons.mp (h.mem_iff.mpr (List.mem_cons_self ..)) with z | z
          · exact absurd z.symm c
          · exact z
        have m2 : x ∈ m := by
          rcases List.mem_cons.mp (h.mem_iff.mp (List.mem_cons_self ..)) with z | z
          · exact absurd z c
          · exact z
        have q := List.le_antisymm (show x.cps.toList ≤ y.cps.toList from a1 y m1) (show y.cps.toList ≤ x.cps.toList from a2 x m2)
        cases x; cases y
        exact congrArg Str.mk (Array.toList_inj.mp q)
    subst e
    rw [sorted_same (List.perm_cons x |>.mp h) b1 b2]
end K30
end
section
set_option Elab.async false
set_option linter.all false
set_option maxRecDepth 100000
set_option maxHeartbeats 4000000
namespace K30
open PySem PySem.Spec PyProof.Rows L2 Evl TX
open C8 (Cal pe_c pe_gc)
open PyData
open PySem.Builtin.Str (reprChar)
/-! ### the cells that a datum's change touches -/
theorem inPair_eq (s : Str) (p : Str × Str) : inPair s p = decide (s = p.1 ∨ s = p.2) := by
  unfold inPair inV
  show ((p.1 == s) || ((p.2 == s) || false)) = _
  refine Bool.eq_iff_iff.mpr ⟨fun h => ?_, fun h => ?_⟩
  · rcases Bool.or_eq_true_iff.mp h with h | h
    · exact decide_eq_true (.inl (beq_iff_eq.mp h).symm)
    · rcases Bool.or_eq_true_iff.mp h with h | h
      · exact decide_eq_true (.inr (beq_iff_eq.mp h).symm)
      · cases h
  · rcases of_decide_eq_true h with rfl | rfl
    · exact Bool.or_eq_true_iff.mpr (.inl (beq_iff_eq.mpr rfl))
    · exact Bool.or_eq_true_iff.mpr (.inr (Bool.or_eq_true_iff.mpr (.inl (beq_iff_eq.mpr rfl))))
theorem pick_two {S : List Str} (nd : S.Nodup) {p q : Str} (hp : p ∈ S) (hq : q ∈ S) (ne : p ≠ q) : (S.filter fun s => decide (s = p ∨ s = q)).Perm [p, q] := by
  have h1 := List.perm_cons_erase hp
  have hq2 : q ∈ S.erase p := (List.mem_erase_of_ne (Ne.symm ne)).mpr hq
  have h2 := List.perm_cons_erase hq2
  have h3 : S.Perm (p :: q :: (S.erase p).erase q) := h1.trans (h2.cons p)
  have nd3 := h3.nodup_iff.mp nd
  obtain ⟨n1, nd4⟩ := List.nodup_cons.mp nd3
  obtain ⟨n2, _⟩ := List.nodup_cons.mp nd4
  have e : ((S.erase p).erase q).filter (fun s => decide (s = p ∨ s = q)) = [] := List.filter_eq_nil_iff.mpr fun s hs => by
    intro z
    rcases of_decide_eq_true z with rfl | rfl
    · exact n1 (List.mem_cons_of_mem _ hs)
    · exact n2 hs
  have h4 := h3.filter fun s => decide (s = p ∨ s = q)
  rw [List.filter_cons_of_pos (by simp), List.filter_cons_of_pos (by simp), e] at h4
  exact h4
theorem sum_cells (cs : List Col) : ∀ i, i ≤ cs.length → ((List.range i).flatMap (cellsAt cs)).filter (fun d => !isDat d) = (sumsOf (cs.take i)).map sumC
  | 0, _ => rfl
  | i + 1, h => by
    have lt : i < cs.length := h
    rw [List.range_succ, List.flatMap_append, List.filter_append, sum_cells cs i (Nat.le_of_succ_le h), sums_take cs i _ (getc lt), List.map_append]
    congr 1
    have e : [i].flatMap (cellsAt cs) = cellsAt cs i := by simp
    rw [e]
    unfold cellsAt cellsC
    rw [List.filter_append]
    have e1 : ((cs.getD i c0).sums.map sumC).filter (fun d => !isDat d) = (cs.getD i c0).sums.map sumC := List.filter_eq_self.mpr fun d hd => by
      obtain ⟨s, _, rfl⟩ := List.mem_map.mp hd
      rw [dat_sum]
      rfl
    have e2 : ((List.range (cs.getD i c0).data.length).map fun j : Nat => datC (firstOf cs i + (j : Int))).filter (fun d => !isDat d) = [] := List.filter_eq_nil_iff.mpr fun d hd => by
      obtain ⟨j, _, rfl⟩ := List.mem_map.mp hd
      rw [dat_dat]
      decide
    rw [e1, e2, List.append_nil]
theorem sum_all (cs : List Col) : (cellsL cs).filter (fun d => !isDat d) = (sumsOf cs).map sumC := by
  have q := sum_cells cs cs.length (Nat.le_refl _)
  rw [List.take_length] at q
  exact q
theorem touched_perm {cs : List Col} (G : Good cs) {a : Nat} (ha : a < (dataOf cs).length) : ((cellsL cs).filter (touched cs a)).Perm [datC (a : Int), sumC ((dataOf cs).getD a p0).1, sumC ((dataOf cs).getD a p0).2] := by
  have hg : (dataOf cs).getD a p0 = (dataOf cs)[a] := by rw [List.getD_eq_getElem?_getD, List.getElem?_eq_getElem ha]; rfl
  have hm : (dataOf cs)[a] ∈ dataOf cs := List.getElem_mem ha
  obtain ⟨c, hc, hp⟩ := List.mem_flatMap.mp hm
  obtain ⟨m1, m2, lt⟩ := G.prs c hc _ hp
  rw [← hg] at m1 m2 lt
  have ne : ((dataOf cs).getD a p0).1 ≠ ((dataOf cs).getD a p0).2 := fun z => by rw [z] at lt; exact absurd lt (List.lt_irrefl _)
  have h1 := (List.filter_append_perm isDat (cellsL cs)).symm
  rw [dat_all, sum_all] at h1
  have h2 := h1.filter (touched cs a)
  rw [List.filter_append] at h2
  refine h2.trans ?_
  have e1 : ((List.range (dataOf cs).length).map fun n : Nat => datC (n : Int)).filter (touched cs a) = [datC (a : Int)] := by
    rw [List.filter_map]
    have e : (touched cs a ∘ fun n : Nat => datC (n : Int)) = fun n => n == a := by
      funext n
      show decide ((n : Int).toNat = a) = (n == a)
      rw [Int.toNat_natCast]
      rfl
    rw [e]
    have q : (List.range (dataOf cs).length).filter (fun n => n == a) = [a] := by
      have qq := List.filter_beq (l := List.range (dataOf cs).length) a
      rw [List.nodup_range.count, if_pos (List.mem_range.mpr ha)] at qq
      exact qq
    rw [q]
    rfl
  have e2 : (((sumsOf cs).map sumC).filter (touched cs a)).Perm [sumC ((dataOf cs).getD a p0).1, sumC ((dataOf cs).getD a p0).2] := by
    rw [List.filter_map]
    have e : (touched cs a ∘ sumC) = fun s => decide (s = ((dataOf cs).getD a p0).1 ∨ s = ((dataOf cs).getD a p0).2) := by
      funext s
      exact inPair_eq s _
    rw [e]
    exact (pick_two G.snd m1 m2 ne).map sumC
  rw [e1]
  exact e2.append_left _
/-! ### cells, shown and compared -/
def SgOk (x : Str) : Prop := ∀ c ∈ x.cps.toList, c < 0x110000
theorem SgOk.app {x y : Str} (h : SgOk x) (g : SgOk y) : SgOk (x ++ y) := fun c hc => by
  have e : (x ++ y).cps = x.cps ++ y.cps := rfl
  rw [e, Array.toList_append] at hc
  rcases List.mem_append.mp hc with z | z
  · exact h c z
  · exact g c z
theorem SgOk.strOk {x : Str} (h : SgOk x) : PyData.strOk x = true := by
  unfold PyData.strOk
  rw [Array.all_eq_true']
  intro c hc
  exact decide_eq_true (h c (Array.mem_toList_iff.mpr hc))
theorem name_sg {z : Str} (h : isName z = true) : ∀ c ∈ z.cps.toList, 97 ≤ c ∧ c ≤ 122 := fun c hc => of_decide_eq_true (List.all_eq_true.mp (Bool.and_eq_true_iff.mp h).2 c hc)
theorem chars_ok : ∀ q ∈ [34, 39], ∀ c, c < 123 → 97 ≤ c → ∀ d ∈ reprChar q c, d < 0x110000 := by decide +kernel
theorem repr_sg {z : Str} (h : isName z = true) : SgOk (reprText z) := by
  have hq : reprQuote z ∈ [34, 39] := by unfold reprQuote; split <;> decide
  have q39 : reprQuote z < 0x110000 := by unfold reprQuote; split <;> decide
  have hn := name_sg h
  have go : ∀ (l : List Nat) (acc : Array Nat), (∀ c ∈ l, 97 ≤ c ∧ c ≤ 122) → (∀ d ∈ acc.toList, d < 0x110000) → ∀ d ∈ (l.foldl (fun out c => out ++ (reprChar (reprQuote z) c).toArray) acc).toList, d < 0x110000 := by
    intro l
    induction l with
    | nil => intro acc _ ha; exact ha
    | cons c r ih =>
      intro acc hc ha
      rw [List.foldl_cons]
      refine ih _ (fun x hx => hc x (List.mem_cons_of_mem _ hx)) fun d hd => ?_
      rw [Array.toList_append] at hd
      rcases List.mem_append.mp hd with z1 | z1
      · exact ha d z1
      · have := hc c (List.mem_cons_self ..)
        exact chars_ok _ hq c (by omega) this.1 d (by simpa using z1)
  intro c hc
  unfold reprText at hc
  have ef := Array.foldl_toList (fun (out : Array Nat) c => out ++ (reprChar (reprQuote z) c).toArray) (init := #[reprQuote z]) (xs := z.cps)
  rw [Array.toList_push, ← ef] at hc
  rcases List.mem_append.mp hc with z1 | z1
  · exact go _ _ hn (fun d hd => by
      have e : d = reprQuote z := by simpa using hd
      rw [e]
      exact q39) c z1
  · rw [List.mem_singleton.mp z1]; exact q39
theorem repr_len {z : Str} (h : isName z = true) : (reprText z).length ≤ 82 := by
  have q := StrLaws.reprText_len z fun c hc => Nat.lt_of_le_of_lt (name_sg h c hc).2 (by decide)
  have := name_len h
  omega
theorem num_sg : ∀ n : Nat, n < 24 → (Str.ofString (toString (n : Int))).cps.toList.all (fun c => decide (c < 0x110000)) = true ∧ (Str.ofString (toString (n : Int))).length ≤ 2 := by decide +kernel
theorem word_sg : SgOk (reprText "sum") ∧ SgOk (reprText "datum") ∧ (reprText "sum").length ≤ 82 ∧ (reprText "datum").length ≤ 82 := ⟨repr_sg (by decide +kernel), repr_sg (by decide +kernel), repr_len (by decide +kernel), repr_len (by decide +kernel)⟩
theorem pair_text (a b : Str) : tupleText [a, b] = ((("(" : Str) ++ Str.join ", " [a, b]) ++ (")" : Str)) := rfl
theorem two_text {a b : Str} (ha : SgOk a) (hb : SgOk b) (la : a.length ≤ 82) (lb : b.length ≤ 82) : SgOk (tupleText [a, b]) ∧ (tupleText [a, b]).length ≤ 200 := by
  refine ⟨?_, ?_⟩
  · rw [pair_text]
    have e : Str.join ", " [a, b] = (a ++ (", " : Str)) ++ b := rfl
    rw [e]
    exact ((SgOk.app (fun c hc => by revert c; decide +kernel) ((ha.app (fun c hc => by revert c; decide +kernel)).app hb)).app (fun c hc => by revert c; decide +kernel))
  · have q := tupleText_len_le [a, b]
    simp only [List.map_cons, List.map_nil, List.sum_cons, List.sum_nil, List.length_cons, List.length_nil] at q
    omega
structure CellOk (d : PyData) : Prop where
  sh : d.showable = true ∧ d.depth ≤ 60 ∧ d.hasDict = false ∧ d.shown.length ≤ 200
  sg : SgOk d.shown
  lay : d.canLay0 = true ∧ d.depth ≤ 1
theorem cell_ok {cs : List Col} (G : Good cs) {d : PyData} (h : isCell cs d) : CellOk d := by
  rcases h with ⟨s, rfl, hs⟩ | ⟨n, rfl, n0, n1⟩
  · have hn := sum_name G hs
    have e : (sumC s).shown = tupleText [reprText "sum", reprText s] := by
      unfold sumC
      rw [PyData.shown, PyData.shownAll, PyData.shownAll, PyData.shownAll, PyData.shown, PyData.shown]
    have q := two_text word_sg.1 (repr_sg hn) word_sg.2.2.1 (repr_len hn)
    have st : PyData.strOk s = true := SgOk.strOk fun c hc => by have := name_sg hn c hc; omega
    refine ⟨⟨?_, ?_, ?_, by rw [e]; exact q.2⟩, by rw [e]; exact q.1, ?_, ?_⟩
    · unfold sumC; rw [PyData.showable, PyData.showableAll, PyData.showableAll, PyData.showableAll, PyData.showable, PyData.showable]; rfl
    · unfold sumC; rw [PyData.depth, PyData.depthAll, PyData.depthAll, PyData.depthAll, PyData.depth, PyData.depth]; decide
    · unfold sumC; rw [PyData.hasDict, PyData.hasDictAll, PyData.hasDictAll, PyData.hasDictAll, PyData.hasDict, PyData.hasDict]; rfl
    · unfold sumC; rw [PyData.canLay0, PyData.canLayAll0, PyData.canLayAll0, PyData.canLayAll0, PyData.canLay0, PyData.canLay0, st]; decide +kernel
    · unfold sumC; rw [PyData.depth, PyData.depthAll, PyData.depthAll, PyData.depthAll, PyData.depth, PyData.depth]; decide
  · obtain ⟨m, rfl⟩ := Int.eq_ofNat_of_zero_le n0
    have m24 : m < 24 := by have := G.dlen; rw [Int.toNat_natCast] at n1; omega
    have e : (datC (m : Int)).shown = tupleText [reprText "datum", Str.ofString (toString (m : Int))] := by
      unfold datC
      rw [PyData.shown, PyData.shownAll, PyData.shownAll, PyData.shownAll, PyData.shown, PyData.shown]
    have nn := num_sg m m24
    have q := two_text word_sg.2.1 (fun c hc => of_decide_eq_true (List.all_eq_true.mp nn.1 c hc)) word_sg.2.2.2 (Nat.le_trans nn.2 (by decide))
    have lg : decide ((m : Int).natAbs.log2 < 1920) = true := by
      refine decide_eq_true ?_
      rw [Int.natAbs_natCast]
      by_cases z : m = 0
      · rw [z]; decide
      · exact Nat.lt_trans ((Nat.log2_lt z).mpr (Nat.lt_trans m24 (by decide : 24 < 2 ^ 5))) (by decide)
    refine ⟨⟨?_, ?_, ?_, by rw [e]; exact q.2⟩, by rw [e]; exact q.1, ?_, ?_⟩
    · unfold datC; rw [PyData.showable, PyData.showableAll, PyData.showableAll, PyData.showableAll, PyData.showable, PyData.showable, lg]; rfl
    · unfold datC; rw [PyData.depth, PyData.depthAll, PyData.depthAll, PyData.depthAll, PyData.depth, PyData.depth]; decide
    · unfold datC; rw [PyData.hasDict, PyData.hasDictAll, PyData.hasDictAll, PyData.hasDictAll, PyData.hasDict, PyData.hasDict]; rfl
    · unfold datC; rw [PyData.canLay0, PyData.canLayAll0, PyData.canLayAll0, PyData.canLayAll0, PyData.canLay0, PyData.canLay0]; decide +kernel
    · unfold datC; rw [PyData.depth, PyData.depthAll, PyData.depthAll, PyData.depthAll, PyData.depth, PyData.depth]; decide
theorem eqv_cell {cs : List Col} {d e : PyData} (h : isCell cs d) (g : isCell cs e) (q : PyData.eqv d e = true) : d = e := by
  rcases h with ⟨s, rfl, _⟩ | ⟨n, rfl, _, _⟩ <;> rcases g with ⟨t, rfl, _⟩ | ⟨m, rfl, _, _⟩
  · unfold sumC at q ⊢
    simp only [PyData.eqv, PyData.eqvAll, Bool.and_eq_true, beq_iff_eq, and_true] at q
    rw [q.2]
  · unfold sumC datC at q
    simp only [PyData.eqv, PyData.eqvAll, Bool.and_eq_true, Bool.false_and, Bool.and_false] at q
    cases q
  · unfold sumC datC at q
    simp only [PyData.eqv, PyData.eqvAll, Bool.and_eq_true, Bool.false_and, Bool.and_false] at q
    cases q
  · unfold datC at q ⊢
    simp only [PyData.eqv, PyData.eqvAll, Bool.and_eq_true, beq_iff_eq, and_true] at q
    rw [q.2]
theorem eqv_self_cell {cs : List Col} {d : PyData} (h : isCell cs d) : PyData.eqv d d = true := by
  rcases h with ⟨s, rfl, _⟩ | ⟨n, rfl, _, _⟩
  · unfold sumC; simp [PyData.eqv, PyData.eqvAll]
  · unfold datC; simp [PyData.eqv, PyData.eqvAll]
/-- lists of texts compared -/
theorem lay_strs : ∀ {ss : List Str}, (∀ s ∈ ss, SgOk s) → PyData.canLayAll0 (ss.map PyData.str) = true ∧ PyData.depthAll (ss.map PyData.str) = 0
  | [], _ => ⟨by rw [List.map_nil, PyData.canLayAll0], by rw [List.map_nil, PyData.depthAll]⟩
  | s :: r, h => by
    have q := lay_strs (ss := r) fun x hx => h x (List.mem_cons_of_mem _ hx)
    have st := (h s (List.mem_cons_self ..)).strOk
    refine ⟨?_, ?_⟩
    · rw [List.map_cons, PyData.canLayAll0, PyData.canLay0, q.1, st]; rfl
    · rw [List.map_cons, PyData.depthAll, PyData.depth, q.2]; rfl
theorem shaped_strs {ss : List Str} (h : ∀ s ∈ ss, SgOk s) : SeqAt.shaped (.list (ss.map PyData.str)) = true := by
  unfold SeqAt.shaped
  rw [PyData.canLay0, (lay_strs h).1, PyData.depth, (lay_strs h).2]
  decide
theorem eqvAll_strs : ∀ ss : List Str, PyData.eqvAll (ss.map PyData.str) (ss.map PyData.str) = true
  | [] => by rw [List.map_nil, PyData.eqvAll]
  | s :: r => by rw [List.map_cons, PyData.eqvAll, eqvAll_strs r, PyData.eqv]; simp
theorem eqv_strs (ss : List Str) : PyData.eqv (.list (ss.map PyData.str)) (.list (ss.map PyData.str)) = true := by rw [PyData.eqv]; exact eqvAll_strs ss
theorem lay_cells : ∀ {ds : List PyData}, (∀ d ∈ ds, CellOk d) → PyData.canLayAll0 ds = true ∧ PyData.depthAll ds ≤ 1
  | [], _ => ⟨by rw [PyData.canLayAll0], by rw [PyData.depthAll]; decide⟩
  | d :: r, h => by
    have q := lay_cells (ds := r) fun x hx => h x (List.mem_cons_of_mem _ hx)
    have l := (h d (List.mem_cons_self ..)).lay
    refine ⟨?_, ?_⟩
    · rw [PyData.canLayAll0, q.1, l.1]; rfl
    · rw [PyData.depthAll]; exact Nat.max_le.mpr ⟨l.2, q.2⟩
theorem shaped_cells {ds : List PyData} (h : ∀ d ∈ ds, CellOk d) : SeqAt.shaped (.list ds) = true := by
  unfold SeqAt.shaped
  rw [PyData.canLay0, (lay_cells h).1, PyData.depth]
  have := (lay_cells h).2
  exact Bool.and_eq_true_iff.mpr ⟨rfl, decide_eq_true (by omega)⟩
theorem shaped_cell {d : PyData} (h : CellOk d) : SeqAt.shaped d = true := by
  unfold SeqAt.shaped
  rw [h.lay.1]
  have := h.lay.2
  exact Bool.and_eq_true_iff.mpr ⟨rfl, decide_eq_true (by omega)⟩
end K30
end
section
set_option Elab.async false
set_option linter.all false
set_option maxRecDepth 100000
set_option maxHeartbeats 4000000
namespace K30
open PySem PySem.Spec PyProof.Rows L2 Evl TX
open C8 (Cal pe_c pe_gc)
open RP
theorem cells_pos {cs : List Col} (G : Good cs) : 0 < (cellsL cs).length := by
  obtain ⟨w, hw⟩ := List.exists_mem_of_ne_nil _ G.sne
  obtain ⟨c, hc, hw⟩ := List.mem_flatMap.mp hw
  obtain ⟨i, hi, rfl⟩ := List.mem_iff_getElem.mp hc
  have e : cs.getD i c0 = cs[i] := by rw [List.getD_eq_getElem?_getD, List.getElem?_eq_getElem hi]; rfl
  exact List.length_pos_of_mem (List.mem_flatMap.mpr ⟨i, List.mem_range.mpr hi, List.mem_append_left _ (List.mem_map.mpr ⟨w, by rw [e]; exact hw, rfl⟩)⟩ : sumC w ∈ cellsL cs)
section
variable {K : PySem.W.Frag} {H : Hp} {a b : Addr} {xs ys : List V} {lo hi : Option Int} {Q : VK}
theorem sl_ (hd : H a = some (.tup xs)) (k : ∀ q H', Ex H H' → H' q = some (.tup (cutV xs lo hi)) → Q (.ref q) H') : rSlA K (.ref a) lo hi H Q :=
  ⟨a, xs, rfl, st_of hd, fun e => k a H (Ex.refl H) (by
    have c : cutV xs lo hi = xs := by unfold cutV; rw [e.1, e.2, List.drop_zero, Nat.sub_zero, List.take_length]
    rw [c]
    exact hd), fun _ p hp => k p _ (Ex.new hp) upd_same⟩
theorem cat_ (ha : H a = some (.tup xs)) (hb : H b = some (.tup ys)) (hz : xs.length + ys.length ≤ 10000) (k : ∀ q H', Ex H H' → H' q = some (.tup (xs ++ ys)) → Q (.ref q) H') : rCatA K (.ref a) (.ref b) H Q :=
  ⟨a, b, xs, ys, rfl, rfl, st_of ha, st_of hb, sz_of (by omega), fun e => k b H (Ex.refl H) (by rw [e]; exact hb), fun _ e => k a H (Ex.refl H) (by rw [e, List.append_nil]; exact ha), fun _ _ p hp => k p _ (Ex.new hp) upd_same⟩
end
theorem cut_to (vs : List Int) (n : Nat) : cutV (vs.map V.int) none (some (n : Int)) = (vs.take n).map V.int := by
  unfold cutV
  rw [HT.sIx_none, HT.sIx_nat, List.drop_zero, Nat.sub_zero, List.map_take, List.length_map]
  by_cases h : n ≤ vs.length
  · rw [Nat.min_eq_left h]
  · rw [Nat.min_eq_right (by omega), List.take_of_length_le (by rw [List.length_map]; omega), List.take_of_length_le (by rw [List.length_map]; omega)]
theorem cut_from (vs : List Int) (n : Nat) : cutV (vs.map V.int) (some (n : Int)) none = (vs.drop n).map V.int := by
  unfold cutV
  rw [HT.sIx_none, HT.sIx_nat, List.map_drop, List.length_map]
  by_cases h : n ≤ vs.length
  · rw [Nat.min_eq_left h, List.take_of_length_le (by rw [List.length_drop, List.length_map]; omega)]
  · rw [Nat.min_eq_right (by omega), List.drop_of_length_le (by rw [List.length_map]; omega), List.drop_of_length_le (by rw [List.length_map]; omega), List.take_nil]
theorem small_ok {k : Kd} (hk : k.ok) {x : Int} (h0 : 0 ≤ x) (h2 : x ≤ 2) (d : PyData) : okV k x (bd d) = true := by
  have hb : 2 ≤ bd d := by unfold bd; split <;> decide
  cases k with
  | bits => exact bits_of ⟨h0, by omega⟩
  | plain =>
    show (decide _ && decide _) = true
    rw [decide_eq_true (show -bd d ≤ x by omega), decide_eq_true (show x ≤ bd d by omega)]
    rfl
  | dial m =>
    have := hk.1
    show (decide _ && decide _) = true
    rw [decide_eq_true h0, decide_eq_true (show x ≤ m - 1 by omega)]
    rfl
theorem set_getD {vs : List Int} {a i : Nat} {x : Int} (h : a < vs.length) : (vs.set a x).getD i 0 = if i = a then x else vs.getD i 0 := by
  by_cases e : i = a
  · rw [if_pos e, e, List.getD_eq_getElem?_getD, List.getElem?_set_self h]
    rfl
  · rw [if_neg e, List.getD_eq_getElem?_getD, List.getElem?_set_ne (Ne.symm e), ← List.getD_eq_getElem?_getD]
theorem nop_ {σ : L2.St} {H : Hp} {QO : Option Int → Hp → Prop} (h : QO none H) : tNoPart σ H QO := h
theorem tup_ {t : TA} {σ : L2.St} {H : Hp} {Q : VK} (h : t σ H fun xs H1 => xs.length ≤ sizeLine ∧ ∀ p, H1 p = none → Q (.ref p) (upd H1 p (.tup xs))) : tTup t σ H Q := h
theorem rv_nb {a b : Bool} {H : Hp} : RV (fun x y H Q => ∃ a b, x = .bl a ∧ y = .bl b ∧ Q (.bl (!decide (a = b))) H) (.bl a) (.bl b) H (.bl (!decide (a = b))) := fun H1 _ Q q => ⟨a, b, rfl, rfl, q H1 (Ex.refl H1)⟩
end K30
end
section
set_option Elab.async false
set_option linter.all false
set_option maxRecDepth 100000
set_option maxHeartbeats 4000000
namespace K30
open PySem PySem.Spec PyProof.Rows L2 Evl TX
open C8 (Cal pe_c pe_gc)
open RP GL
section
variable {K : PySem.W.Frag} {σ : L2.St} {H H' : Hp} {ta tb te tu : TE} {ds es : List PyData} {d e : PyData} {v z : V} {D : Ends} {tz : TS} {g : TG} {t : TA}
theorem q_tupO (h : t σ H fun xs H1 => xs.length ≤ sizeLine ∧ ∀ p, H1 p = none → g (.ref p) σ (upd H1 p (.tup xs)) fun σ2 H2 => tz D σ2 H2) : tSeq (tAsg (tTup t) g) tz D σ H := h
theorem ev_neS (ha : EvS ta σ H ds) (hb : EvS tb σ H es) (sd : SeqAt.shaped (.list ds) = true) (se : SeqAt.shaped (.list es) = true) : Ev (tOp (rNeD K) ta tb) σ H (.bl (!PyData.eqv (.list ds) (.list es))) := fun H1 e Q q =>
  ha H1 e _ fun p xs H2 hp e2 hx rx => hb H2 (e.trans e2) _ fun r ys H3 hr e3 hy ry => ⟨.list ds, .list es, .lst (sq_of (e3 _ _ hx)) (rx.ex e3).dp, .lst (sq_of hy) ry.dp, sd, se, q H3 (e2.trans e3)⟩
theorem ev_neR (ha : EvR ta σ H d) (hb : EvR tb σ H e) (sd : SeqAt.shaped d = true) (se : SeqAt.shaped e = true) : Ev (tOp (rNeD K) ta tb) σ H (.bl (!PyData.eqv d e)) := fun H1 e1 Q q =>
  ha H1 e1 _ fun v H2 e2 rv => hb H2 (e1.trans e2) _ fun w H3 e3 rw_ => ⟨d, e, (rv.ex e3).dp, rw_.dp, sd, se, q H3 (e2.trans e3)⟩
/-- list(a tuple) -/
theorem es_listR (h : EvR te σ H (.tuple ds)) : EvS (tCB (rListS K) (tCons te tNil)) σ H ds := fun H1 e Q q =>
  h H1 e _ fun v H2 e2 rv => by
    obtain ⟨p, xs, rfl, hp, rs⟩ := Rep.tup_inv rv
    exact ⟨p, xs, rfl, .inr (st_of hp), fun l hl => q l xs _ (fresh_back e2 hl) (e2.trans (Ex.new hl)) upd_same (rs.ex (Ex.new hl))⟩
theorem er_repr (h : EvR te σ H d) (s : d.showable = true ∧ d.depth ≤ 60 ∧ d.hasDict = false ∧ d.shown.length ≤ sizeLine) : EvR (tCB (rRepr K) (tCons te tNil)) σ H (.str d.shown) := fun H1 a Q q =>
  h H1 a _ fun v H2 b rv => ⟨v, d, rfl, .dp rv.dp s.2.2.1, s.1, s.2.1, s.2.2.2, q _ H2 b (.str _)⟩
theorem ev_neSort {xs zs : List Str} (ha : EvS ta σ H (xs.map PyData.str)) (hb : EvS tb σ H (zs.map PyData.str)) (lx : xs.length < 64) (pm : xs.Perm zs) (sg : ∀ s ∈ xs, SgOk s) : Ev (tOp (rNeD K) (tCB (rSortedS K) (tCons ta tNil)) (tCB (rSortedS K) (tCons tb tNil))) σ H (.bl false) := fun H1 e Q q =>
  ha H1 e _ fun p ps H2 hp e2 hx rx => by
    obtain rfl := rx.strs
    refine ⟨p, xs, rfl, sq_of hx, lx, fun ys l py sy hl => ?_⟩
    refine hb _ ((e.trans e2).trans (Ex.new hl)) _ fun r rs H3 hr e3 hy ry => ?_
    obtain rfl := ry.strs
    refine ⟨r, zs, rfl, sq_of hy, by rw [← pm.length_eq]; exact lx, fun ws m pw sw hm => ?_⟩
    have ew : ys = ws := sorted_same (py.trans (pm.trans pw.symm)) (sorted_pair sy) (sorted_pair sw)
    subst ew
    have sgy : ∀ s ∈ ys, SgOk s := fun s hs => sg s (py.mem_iff.mp hs)
    have h1 := (e3.trans (Ex.new (o := HO.lst (ys.map V.str)) hm)) l _ upd_same
    refine ⟨.list (ys.map PyData.str), .list (ys.map PyData.str), .lst (sq_of h1) (Reps.ofStrs ys).dp, .lst (sq_of upd_same) (Reps.ofStrs ys).dp, shaped_strs sgy, shaped_strs sgy, ?_⟩
    rw [eqv_strs]
    exact q _ (((e2.trans (Ex.new hl)).trans e3).trans (Ex.new hm))
theorem ev_inD {l : Addr} {xs : List V} (h : EvR ta σ H d) (hl : Ev tb σ H (.ref l)) (hx : H l = some (.lst xs)) (rs : Reps H xs ds) (sd : SeqAt.shaped d = true) (se : SeqAt.shaped (.list ds) = true) : Ev (tOp (rInD K) ta tb) σ H (.bl (ds.any fun z => PyData.eqv z d)) := fun H1 e Q q =>
  h H1 e _ fun v H2 e2 rv => hl H2 (e.trans e2) _ fun H3 e3 => ⟨d, ds, (rv.ex e3).dp, .lst (sq_of (((e.trans e2).trans e3) _ _ hx)) (rs.ex ((e.trans e2).trans e3)).dp, sd, se, q H3 (e2.trans e3)⟩
/-- o.m(a new tuple of ints) -/
theorem er_mtU {a C dx : Addr} {fs : List (Str × V)} {m : Str} {E : XK} {R : List V → Hp → PyData → Prop} {ns : List Int} (h : Ev te σ H (.ref a)) (ha : H a = some (.ins C dx fs)) (l : fs.lookup m = none) (hu : EvR tu σ H (.tuple (ns.map PyData.int))) (hr : ∀ p H1, Ex H H1 → H1 p = some (.tup (ns.map V.int)) → R [.ref a, .ref p] H1 d) :
    EvR (tMeth C m (dSp R) [] E te (tCons tu tNil)) σ H d := fun H1 e Q q =>
  h H1 e _ fun H2 e2 => ⟨a, dx, fs, rfl, (e.trans e2) _ _ ha, l, hu H2 (e.trans e2) _ fun v H3 e3 rv => by
    obtain ⟨p, xs, rfl, hp, rx⟩ := Rep.tup_inv rv
    obtain rfl := rx.ints
    exact nil_ ⟨d, hr p H3 ((e.trans e2).trans e3) hp, fun v H4 e4 r => q v H4 ((e2.trans e3).trans e4) r⟩⟩
/-- (x,) * n -/
theorem er_rep1 {x : V} {dx : PyData} {n : Nat} (h : Ev ta σ H x) (rx : ∀ H1, Ex H H1 → Rep H1 x dx) (hn : Ev tb σ H (.int (n : Int))) (hz : n ≤ 1000) : EvR (tOp (BA.rRepA K) (tTup (tCons ta tNil)) tb) σ H (.tuple (List.replicate n dx)) := fun H1 e Q q =>
  h H1 e _ fun H2 e2 => ⟨by show 1 ≤ sizeLine; decide, fun p hp => hn _ ((e.trans e2).trans (Ex.new hp)) _ fun H3 e3 => by
    have e12 := (e2.trans (Ex.new hp)).trans e3
    have hp3 : H3 p = some (.tup [x]) := e3 _ _ upd_same
    refine ⟨p, (n : Int), x, rfl, rfl, st_of hp3, Int.natCast_nonneg n, by omega, fun h1 => ?_, fun _ r hr => ?_⟩
    · have n1 : n = 1 := by omega
      subst n1
      exact q (.ref p) H3 e12 (.tup hp3 (.cons (rx _ (e.trans e12)) .nil))
    · refine q (.ref r) _ (e12.trans (Ex.new hr)) (.tup upd_same ?_)
      rw [Int.toNat_natCast]
      have rr := rx _ ((e.trans e12).trans (Ex.new hr : Ex H3 (upd H3 r (HO.tup (List.replicate (Int.toNat (n : Int)) x)))))
      rw [Int.toNat_natCast] at rr
      clear hn hz q
      have go : ∀ m : Nat, Reps (upd H3 r (HO.tup (List.replicate n x))) (List.replicate m x) (List.replicate m dx) := fun m => by
        induction m with
        | zero => exact .nil
        | succ k ih => exact .cons rr ih
      exact go n⟩
theorem eqvAll_ints : ∀ ns ms : List Int, PyData.eqv (.list (ns.map PyData.int)) (.list (ms.map PyData.int)) = decide (ns = ms) := fun ns ms => by
  rw [PyData.eqv]
  exact PySem.W.ked_eqvAll ns ms
theorem shaped_intsL (ns : List Int) : SeqAt.shaped (.list (ns.map PyData.int)) = true := by
  unfold SeqAt.shaped
  rw [PyData.canLay0, (lay_ints ns).1, PyData.depth, (lay_ints ns).2]
  decide
end
end K30
end
section
set_option Elab.async false
set_option linter.all false
set_option maxRecDepth 100000
set_option maxHeartbeats 4000000
namespace K30
open PySem PySem.Spec PyProof.Rows L2 Evl TX
open C8 (Cal pe_c pe_gc)
abbrev rInt1 : List V → Hp → VK → Prop := fun xs H Q => (∃ i, xs = [.int i] ∧ Q (.int i) H) ∨ ∃ k, xs = [.bl k] ∧ Q (.int (if k then 1 else 0)) H
theorem cut_intsW (ns : List Int) {a b : Option Int} : ∀ (i : Nat) (x : V), (cutV (ns.map V.int) a b)[i]? = some x → ∃ z, x = .int z := fun i x h => by
  have hm := List.mem_of_getElem? h
  have h2 : x ∈ ns.map V.int := List.mem_of_mem_drop (List.mem_of_mem_take hm)
  obtain ⟨z, _, e⟩ := List.mem_map.mp h2
  exact ⟨z, e.symm⟩
theorem JarAt.mk {H : Hp} {j : Addr} {a b c : Int} (h : H j = some (jar a b c)) : JarAt H j := ⟨a, b, c, h⟩
section
variable {P : Program} {w : World} {K : PySem.W.Frag} {mg : Str → Option Value} {base : Heap} {f : Addr} {fd : FuncData}
abbrev sc_law_spring_N : List Str := ["_law_script", "_law_k", "_law_cell", "_law_held", "_law_each", "_law_digits"]
theorem sc_law_spring : FnScope sc_law_spring_N ["_law_script", "_law_k"] (defScope s_law_spring) := ⟨rfl, rfl, rfl, by decide +kernel, rfl, by decide +kernel, by decide +kernel⟩
theorem ok_spring (F : FnP K "_law_spring" s_law_spring f fd) (T : Tops mg)  : FnOk P w K mg base CX0 1 f fd ["_law_script", "_law_k"] (spJar K) := by
  refine F.ok sc_law_spring (fun vs H Q E h => ?_) (fun cdv A outer s H vs Q E hr h => ?_)
  · obtain ⟨a, ns, t, rfl, _⟩ := h; rfl
  · obtain ⟨a, ns, t, rfl, ha, hl, h0, h1, k⟩ := h
    refine ⟨_, PSs.nox (pss_cons (ps_par (i := 2) (j := 3) (by rfl) sc_law_spring.nd rfl rfl (by decide) rfl rfl (pa_cons (pe_ifExp (pt_cmpR op_lt (pv 1) (pe_callB call_len_seq (by rfl) T.n_len PySem.boot_len (pa_cons (pv 0) pa_nil)) (nomark _)) (pe_callTy call_int1 (by rfl) T.n_int (by decide +kernel) (pa_cons (pe_ix ix_list (pv 0) (pv 1) (fun _ _ => rfl)) pa_nil)) pe_int) (pa_cons (pe_op op_add (pe_op op_mul pe_int (pe_op op_add (pv 1) pe_int)) pe_int) pa_nil)) (by rfl))
  (pss_cons (ps_for PassesOwn.never rfl (pi_list (pe_slice sl_list (pv 0) po_none (po_some pe_int))) (pg_name (i := 4) sc_law_spring.nd rfl (.inl rfl))
  (pss_one (ps_set (i := 3) sc_law_spring.nd rfl (.inl rfl) (pe_op op_mod (pe_callTy call_int1 (by rfl) T.n_int (by decide +kernel) (pa_cons (pe_op op_add (pe_op op_add (pe_op op_mul (pv 3) pe_int) (pe_op op_mod (pe_callTy call_int1 (by rfl) T.n_int (by decide +kernel) (pa_cons (pv 4) pa_nil)) pe_int)) (pe_op op_mul pe_int (pv 1))) pa_nil)) pe_int))))
  (pss_cons (ps_set (i := 5) sc_law_spring.nd rfl (.inl rfl) (pe_ifExp (PW.pt (pw_or (pt_cmpR op_lt (pv 2) pe_int (nomark _)) (pw_or1 (pt_cmpR op_ge (pv 2) (pe_op op_pow pe_int pe_int) (nomark _))))) (pe_callB call_abs (by rfl) T.n_abs (by decide +kernel) (pa_cons (pv 2) pa_nil)) pe_int))
  (pss_one (ps_ret (pe_lst (pa_cons (pv 5) (pa_cons (pe_op op_mod (pe_callTy call_int1 (by rfl) T.n_int (by decide +kernel) (pa_cons (pe_op op_add (pv 3) (pe_op op_mul pe_int (pe_op op_mod (pe_callTy call_int1 (by rfl) T.n_int (by decide +kernel) (pa_cons (pv 2) pa_nil)) pe_int))) pa_nil)) pe_int) (pa_cons pe_int pa_nil))))))))), ?_⟩
    have lenm : (ns.map V.int).length = ns.length := List.length_map _
    obtain ⟨m, hm⟩ : ∃ m : Int, m = if t < (ns.length : Int) then ns.getD t.toNat 0 else 0 := ⟨_, rfl⟩
    refine q_par (cons_ (ev_ (v := .int m) (ev_if (b := decide (t < ((ns.map V.int).length : Int))) (et_test (ev_op (ev_var rfl) (ev_len (ev_var rfl) ha) rv_I0)) (fun hb => ?_) (fun hb => ?_)) fun H1 e1 => cons_ (ev_ (v := .int (52391 * (t + 2) + 11)) (ev_op (ev_op ev_c (ev_op (ev_var rfl) ev_c rv_I0) (rv_I (.inl ⟨by decide, by decide⟩))) ev_c rv_I0) fun H2 e2 => nil_ ⟨_, _, rfl, ?_⟩)))
    · have lt : t < (ns.length : Int) := by rw [lenm] at hb; exact of_decide_eq_true hb
      rw [if_pos lt] at hm
      refine ev_cb (z := .int m) (ea_cons (ev_op (ev_var rfl) (ev_var rfl) (rv_ixL ha ?_)) ea_nil) fun H1 _ Q q => .inl ⟨_, rfl, q H1 (Ex.refl H1)⟩
      have lt2 : t.toNat < ns.length := by omega
      have e := atI_nat (xs := ns.map V.int) (j := t.toNat) (v := .int m) (by rw [List.getElem?_map, List.getElem?_eq_getElem lt2, hm, List.getD_eq_getElem?_getD, List.getElem?_eq_getElem lt2]; rfl)
      rw [Int.toNat_of_nonneg h0] at e
      exact e
    · have ge : ¬ t < (ns.length : Int) := by rw [lenm] at hb; exact of_decide_eq_false hb
      rw [if_neg ge] at hm
      rw [hm]
      exact ev_c
    have ha2 : SqL K H2 a (ns.map V.int) := ex_l (e1.trans e2) ha
    refine q_forNLn (xs := cutV (ns.map V.int) none (some 8)) (el_sl (ev_var rfl) eo_none (eo_some ev_c) ha2)
      (fun p i σ' H' => ∃ (z : Int) (v : Option V), σ' = [some (.ref a), some (.int t), some (.int m), some (.int z), v, none] ∧ Ex H2 H' ∧ H' p = some (.lst (cutV (ns.map V.int) none (some 8))))
      (fun p H3 _ e3 h3 => ⟨_, none, rfl, e3, h3⟩) (fun p i σ' H' _ ⟨_, _, _, _, h3⟩ => sq_of h3) ?_ ?_
    · rintro p i x σ' H' hi ⟨z, v, rfl, e3, h3⟩
      obtain ⟨y, rfl⟩ := cut_intsW ns i x hi
      refine s_asg (ev_op (ev_cb (z := .int (z * 40087 + y % 1000151 + 29 * t)) (ea_cons (ev_op (ev_op (ev_op (ev_var rfl) ev_c (rv_I (.inr ⟨by decide, by decide⟩))) (ev_op (ev_cb (z := .int y) (ea_cons (ev_var rfl) ea_nil) fun H1 _ Q q => .inl ⟨_, rfl, q H1 (Ex.refl H1)⟩) ev_c (rv_I (by show (0 : Int) < 1000151; decide))) rv_I0) (ev_op ev_c (ev_var rfl) (rv_I (.inl ⟨by decide, by decide⟩))) rv_I0) ea_nil) fun H1 _ Q q => .inl ⟨_, rfl, q H1 (Ex.refl H1)⟩) ev_c (rv_I (by show (0 : Int) < 2147483423; decide))) fun H4 e4 => ?_
      exact ⟨_, _, rfl, e3.trans e4, e4 _ _ h3⟩
    · rintro p σ' H' ⟨z, v, rfl, e3, h3⟩
      refine q_asg (v := .int (if (decide (m < 0) || decide ((10 : Int) ^ (16 : Int).toNat ≤ m)) = true then (if m < 0 then -m else m) else 0)) (ev_if (b := decide (m < 0) || decide ((10 : Int) ^ (16 : Int).toNat ≤ m))
        (et_or (et_test (ev_op (ev_var rfl) ev_c rv_I0)) (fun _ => et_test (ev_op (ev_var rfl) (ev_op ev_c ev_c (rv_I ⟨by decide, by decide, by decide⟩)) rv_I0)))
        (fun hb => ev_is (ev_cb (z := .int (if m < 0 then -m else m)) (ea_cons (ev_var rfl) ea_nil) fun H1 _ Q q => ⟨_, rfl, q H1 (Ex.refl H1)⟩) (by rw [if_pos hb])) (fun hb => ev_is ev_c (by rw [if_neg (by rw [hb]; exact Bool.false_ne_true)]))) fun H4 e4 => ?_
      refine s_retL (el_lst (ea_cons (ev_var rfl) (ea_cons (ev_op (ev_cb (z := .int (z + 70451 * (m % 999907))) (ea_cons (ev_op (ev_var rfl) (ev_op ev_c (ev_op (ev_cb (z := .int m) (ea_cons (ev_var rfl) ea_nil) fun H1 _ Q q => .inl ⟨_, rfl, q H1 (Ex.refl H1)⟩) ev_c (rv_I (by show (0 : Int) < 999907; decide))) (rv_I (.inl ⟨by decide, by decide⟩))) rv_I0) ea_nil) fun H1 _ Q q => .inl ⟨_, rfl, q H1 (Ex.refl H1)⟩) ev_c (rv_I (by show (0 : Int) < 2147483423; decide))) (ea_cons ev_c ea_nil))) (Nat.le_of_ble_eq_true rfl)) fun q H5 hq e5 h5 => ?_
      exact k q H5 (fresh_back (((e1.trans e2).trans e3).trans e4) hq) ((((e1.trans e2).trans e3).trans e4).trans e5) ⟨_, _, _, h5⟩
abbrev sc_law_num_N : List Str := ["_law_well", "_law_top", "_law_figure", "_law_base"]
theorem sc_law_num : FnScope sc_law_num_N ["_law_well", "_law_top"] (defScope s_law_num) := ⟨rfl, rfl, rfl, by decide +kernel, rfl, by decide +kernel, by decide +kernel⟩
theorem ok_num (F : FnP K "_law_num" s_law_num f fd) (T : Tops mg)  : FnOk P w K mg base CX0 1 f fd ["_law_well", "_law_top"] spDip := by
  refine F.ok sc_law_num (fun vs H Q E h => ?_) (fun cdv A outer s H vs Q E hr h => ?_)
  · obtain ⟨j, t, rfl, _⟩ := h; rfl
  · obtain ⟨j, t, rfl, ⟨a, b, c, hj⟩, ht, ht2, k⟩ := h
    refine ⟨_, PSs.nox (pss_cons (ps_if (pt_cmpR op_gt (pe_ix ix_list (pv 0) pe_int (fun _ _ => rfl)) pe_int (nomark _))
  (pss_cons (ps_set (i := 2) sc_law_num.nd rfl (.inl rfl) (pe_op op_mod (pe_callTy call_int1 (by rfl) T.n_int (by decide +kernel) (pa_cons (pe_ix ix_list (pv 0) pe_int (fun _ _ => rfl)) pa_nil)) (pv 1)))
  (pss_cons (ps_asg (pe_op op_fdiv (pe_ix ix_list (pv 0) pe_int (fun _ _ => rfl)) (pv 1)) (pg_sub (pv 0) pe_int set_list))
  (pss_one (ps_ret (pv 2)))))
  pss_nil)
  (pss_cons (ps_asg (pe_op op_add (pe_ix ix_list (pv 0) pe_int (fun _ _ => rfl)) pe_int) (pg_sub (pv 0) pe_int set_list))
  (pss_cons (ps_set (i := 3) sc_law_num.nd rfl (.inl rfl) (pe_op op_mod (pe_callTy call_int1 (by rfl) T.n_int (by decide +kernel) (pa_cons (pe_op op_add (pe_ix ix_list (pv 0) pe_int (fun _ _ => rfl)) (pe_op op_mul pe_int (pe_ix ix_list (pv 0) pe_int (fun _ _ => rfl)))) pa_nil)) pe_int))
  (pss_cons (ps_asg (pe_op op_mod (pe_callTy call_int1 (by rfl) T.n_int (by decide +kernel) (pa_cons (pe_op op_add (pe_op op_add (pe_op op_mul (pv 3) (pe_op op_add (pe_op op_mod (pe_callTy call_int1 (by rfl) T.n_int (by decide +kernel) (pa_cons (pv 3) pa_nil)) pe_int) pe_int)) (pe_op op_mul pe_int (pe_ix ix_list (pv 0) pe_int (fun _ _ => rfl)))) pe_int) pa_nil)) pe_int) (pg_sub (pv 0) pe_int set_list))
  (pss_one (ps_ret (pe_op op_mod (pe_op op_fdiv (pe_callTy call_int1 (by rfl) T.n_int (by decide +kernel) (pa_cons (pe_ix ix_list (pv 0) pe_int (fun _ _ => rfl)) pa_nil)) pe_int) (pv 1)))))))), ?_⟩
    have rd : ∀ {σ : L2.St} {H1 : Hp} {a b c : Int} (n : Nat) {v : V}, σ[0]? = some (some (.ref j)) → H1 j = some (jar a b c) → ([.int a, .int b, .int c] : List V)[n]? = some v → Ev (tOp (rIxL K) (tVar 0) (tC (.int (n : Int)))) σ H1 v := by intro σ H1 a b c n v s0 h hn; exact ev_op (ev_var s0) ev_c (rv_ixL (sq_of h) (atI_nat hn))
    have int1 : ∀ {z : Int} {t : TE} {σ : L2.St} {H1 : Hp}, Ev t σ H1 (.int z) → Ev (tCB rInt1 (tCons t tNil)) σ H1 (.int z) := fun h => ev_cb (ea_cons h ea_nil) fun H1 _ Q q => .inl ⟨_, rfl, q H1 (Ex.refl H1)⟩
    refine q_when (b := decide (a > 0)) (et_test (ev_op (rd 0 rfl hj rfl) ev_c rv_I0)) (fun hb H1 e1 => ?_) (fun hb H1 e1 => ?_)
    · refine q_asg (ev_op (int1 (rd 0 rfl (e1 _ _ hj) rfl)) (ev_var rfl) (rv_I ht)) fun H2 e2 => ?_
      have h2 := (e1.trans e2) _ _ hj
      refine q_setL (j := 0) h2 (ev_op (rd 0 rfl h2 rfl) (ev_var rfl) (rv_I ⟨ht, by omega⟩)) (ev_var rfl) ev_c (by show 0 < 3; decide) fun H3 e3 => ?_
      have h3 := e3 _ _ h2
      refine s_ret (ev_var rfl) fun H4 e4 => ?_
      refine k _ H4 ⟨_, _, _, e4 _ _ upd_same⟩ ?_ (Int.emod_nonneg _ (by omega)) (Int.emod_lt_of_pos _ ht)
      exact ((But.ex ((e1.trans e2).trans e3)).trans (But.at_j j H3 _)).trans (But.ex e4)
    · have h1 := e1 _ _ hj
      refine q_setL (j := 2) h1 (ev_op (rd 2 rfl h1 rfl) ev_c rv_I0) (ev_var rfl) ev_c (by show 2 < 3; decide) fun H2 e2 => ?_
      have g2 : (upd H2 j (.lst (([.int a, .int b, .int c] : List V).set 2 (.int (c + 1))))) j = some (jar a b (c + 1)) := upd_same
      have b2 : But j H (upd H2 j (.lst (([.int a, .int b, .int c] : List V).set 2 (.int (c + 1))))) := (But.ex (e1.trans e2)).trans (But.at_j j H2 _)
      generalize upd H2 j (.lst (([.int a, .int b, .int c] : List V).set 2 (.int (c + 1)))) = H3 at g2 b2 ⊢
      refine q_asg (ev_op (int1 (ev_op (rd 1 rfl g2 rfl) (ev_op ev_c (rd 2 rfl g2 rfl) (rv_I (.inl ⟨by decide, by decide⟩))) rv_I0)) ev_c (rv_I (by show (0 : Int) < 2147483423; decide))) fun H4 e4 => ?_
      have g4 := e4 _ _ g2
      have q0 := Int.emod_nonneg (b + 64019 * (c + 1)) (show (2147483423 : Int) ≠ 0 by decide)
      have q1 := Int.emod_lt_of_pos (b + 64019 * (c + 1)) (show (0 : Int) < 2147483423 by decide)
      generalize (b + 64019 * (c + 1)) % 2147483423 = bs at q0 q1 ⊢
      refine q_setL (j := 1) g4 (ev_op (int1 (ev_op (ev_op (ev_op (ev_var rfl) (ev_op (ev_op (int1 (ev_var rfl)) ev_c (rv_I (by show (0 : Int) < 40009; decide))) ev_c rv_I0) (rv_I (.inl ⟨by omega, by omega⟩))) (ev_op ev_c (rd 2 rfl g4 rfl) (rv_I (.inl ⟨by decide, by decide⟩))) rv_I0) ev_c rv_I0)) ev_c (rv_I (by show (0 : Int) < 2147483423; decide))) (ev_var rfl) ev_c (by show 1 < 3; decide) fun H5 e5 => ?_
      refine s_ret (ev_op (ev_op (int1 (ev_op (ev_var rfl) ev_c (rv_ixL (sq_of upd_same) (atI_nat (j := 1) rfl)))) ev_c (rv_I ⟨by decide, by decide⟩)) (ev_var rfl) (rv_I ht)) fun H6 e6 => ?_
      refine k _ H6 ⟨_, _, _, e6 _ _ upd_same⟩ ?_ (Int.emod_nonneg _ (by omega)) (Int.emod_lt_of_pos _ ht)
      exact ((b2.trans (But.ex (e4.trans e5))).trans (But.at_j j H5 _)).trans (But.ex e6)
abbrev sc_law_any_of_N : List Str := ["_law_well", "_law_some"]
theorem sc_law_any_of : FnScope sc_law_any_of_N ["_law_well", "_law_some"] (defScope s_law_any_of) := ⟨rfl, rfl, rfl, by decide +kernel, rfl, by decide +kernel, by decide +kernel⟩
theorem ok_anyof (F : FnP K "_law_any_of" s_law_any_of f fd) (T : Tops mg) (C_law_num : Cal P w K mg base 1 "_law_num" spDip []) : FnOk P w K mg base CX0 2 f fd ["_law_well", "_law_some"] spOne := by
  refine F.ok sc_law_any_of (fun vs H Q E h => ?_) (fun cdv A outer s H vs Q E hr h => ?_)
  · obtain ⟨j, l, xs, rfl, _⟩ := h; rfl
  · obtain ⟨j, l, xs, rfl, hj, hl, hne, h0, h1, k⟩ := h
    refine ⟨_, PSs.nox (pss_one (ps_ret (pe_ix ix_list (pv 1) (pe_c C_law_num hr (by decide) rfl (pa_cons (pv 0) (pa_cons (pe_callB call_len_seq (by rfl) T.n_len PySem.boot_len (pa_cons (pv 1) pa_nil)) pa_nil))) (fun _ _ => rfl)))), ?_⟩
    refine ⟨_, rfl, _, rfl, _, rfl, l, _, rfl, .inl (SqL.of hl), j, _, rfl, hj, by omega, by omega, fun d H' hj' hb hd0 hd1 => ?_⟩
    have hl' : H' l = some (.lst xs) := hb l _ hne hl
    have lt : d.toNat < xs.length := by omega
    refine ⟨l, xs, d, xs[d.toNat], rfl, rfl, SqL.of hl', ?_, k _ H' (List.getElem_mem lt) hj' hb⟩
    have e := atI_nat (xs := xs) (j := d.toNat) (List.getElem?_eq_getElem lt)
    rw [Int.toNat_of_nonneg hd0] at e
    exact e
end
end K30
end
section
set_option Elab.async false
set_option linter.all false
set_option maxRecDepth 100000
set_option maxHeartbeats 4000000
namespace K30
open PySem PySem.Spec PyProof.Rows L2 Evl TX
open C8 (Cal pe_c pe_gc)
open MN
/-- a store: a list of a kind and of columns, the columns told as data -/
structure StoreAt (H : Hp) (j l : Addr) (k : Kd) (cs : List Col) (fo : Addr) (xs : List V) : Prop where
  hl : H l = some (.lst [k.v, .ref fo])
  hf : H fo = some (.lst xs)
  rp : Reps H xs (cs.map colD)
  off : l ≠ j ∧ fo ≠ j
theorem StoreAt.ex {H H' : Hp} {j l fo : Addr} {k : Kd} {cs : List Col} {xs : List V} (S : StoreAt H j l k cs fo xs) (e : Ex H H') : StoreAt H' j l k cs fo xs := ⟨e _ _ S.hl, e _ _ S.hf, S.rp.ex e, S.off⟩
theorem StoreAt.but {H H' : Hp} {j l fo : Addr} {k : Kd} {cs : List Col} {xs : List V} (S : StoreAt H j l k cs fo xs) (b : But j H H') (x : JarAt H j) : StoreAt H' j l k cs fo xs := ⟨b _ _ S.off.1 S.hl, b _ _ S.off.2 S.hf, S.rp.on (b.tx x), S.off⟩
def spStore : Sp := fun vs H Q _ => ∃ (j kl : Addr) (wd mo : Int) (ks : List Kd), vs = [.ref j, .ref kl, .int wd, .int mo] ∧ JarAt H j ∧ H kl = some (.lst (ks.map Kd.v)) ∧ kl ≠ j ∧ (∀ k ∈ ks, k.ok) ∧ (0 < ks.length ∧ ks.length < 1000) ∧ (2 ≤ wd ∧ wd ≤ 5) ∧ (0 ≤ mo ∧ mo ≤ 20) ∧
  ∀ l k cs fo xs H', But j H H' → JarAt H' j → StoreAt H' j l k cs fo xs → k.ok → k ∈ ks → Good cs → ((dataOf cs).length : Int) ≤ mo → Q (.ref l) H'
def menusT : List (List Str) := [["p", "q", "r", "s", "t"], ["b", "a", "sum", "zz", "one"]]
def menusL : List (List Str) := [["one", "two", "far", "p"], ["sum", "datum", "kind", "a"]]
theorem menusT_ok : ∀ m ∈ menusT, m.length = 5 ∧ m.Nodup ∧ m.all isName = true := by decide +kernel
theorem menusL_ok : ∀ m ∈ menusL, m.length = 4 ∧ m.Nodup ∧ m.all isName = true := by decide +kernel
theorem filt_two {α : Type} (f : α → Nat) (L : Nat) : ∀ l : List α, ((l.filter fun x => decide (f x < L)) ++ l.filter fun x => decide (f x = L)).Perm (l.filter fun x => decide (f x < L + 1))
  | [] => .refl _
  | x :: l => by
    have ih := filt_two f L l
    rcases Nat.lt_trichotomy (f x) L with h | h | h
    · have a : decide (f x < L) = true := decide_eq_true h
      have b : decide (f x = L) = false := decide_eq_false (by omega)
      have c : decide (f x < L + 1) = true := decide_eq_true (by omega)
      simp only [List.filter_cons, a, b, c, if_true, Bool.false_eq_true, if_false]
      exact ih.cons x
    · have a : decide (f x < L) = false := decide_eq_false (by omega)
      have b : decide (f x = L) = true := decide_eq_true h
      have c : decide (f x < L + 1) = true := decide_eq_true (by omega)
      simp only [List.filter_cons, a, b, c, if_true, Bool.false_eq_true, if_false]
      exact List.perm_middle.trans (ih.cons x)
    · have a : decide (f x < L) = false := decide_eq_false (by omega)
      have b : decide (f x = L) = false := decide_eq_false (by omega)
      have c : decide (f x < L + 1) = false := decide_eq_false (by omega)
      simp only [List.filter_cons, a, b, c, Bool.false_eq_true, if_false]
      exact ih
theorem part_perm {α : Type} (f : α → Nat) (l : List α) : ∀ L, ((List.range L).flatMap fun q => l.filter fun x => decide (f x = q)).Perm (l.filter fun x => decide (f x < L))
  | 0 => by
    have e : (l.filter fun x => decide (f x < 0)) = [] := List.filter_eq_nil_iff.mpr fun x _ => by simp
    rw [e]
    exact .refl _
  | L + 1 => by
    rw [List.range_succ, List.flatMap_append]
    have e : ([L].flatMap fun q => l.filter fun x => decide (f x = q)) = l.filter fun x => decide (f x = L) := by simp
    rw [e]
    exact ((part_perm f l L).append_right _).trans (filt_two f L l)
theorem part_all {α : Type} {f : α → Nat} {l : List α} {L : Nat} (h : ∀ x ∈ l, f x < L) : ((List.range L).flatMap fun q => l.filter fun x => decide (f x = q)).Perm l := by
  have q := part_perm f l L
  have e : (l.filter fun x => decide (f x < L)) = l := List.filter_eq_self.mpr fun x hx => decide_eq_true (h x hx)
  rw [e] at q
  exact q
def colW (ts : List Str) (hs : List Nat) (ps : List (Nat × (Str × Str))) (lb : List Str) (q : Nat) : Col :=
  ⟨lb.getD q Str.empty, ((List.range ts.length).filter fun m => decide (hs.getD m 0 = q)).map fun m => ts.getD m Str.empty, (ps.filter fun z => decide (z.1 = q)).map (·.2)⟩
def colsW (ts : List Str) (hs : List Nat) (ps : List (Nat × (Str × Str))) (lb : List Str) : List Col := (List.range lb.length).map (colW ts hs ps lb)
theorem sumsW {ts : List Str} {hs : List Nat} {ps : List (Nat × (Str × Str))} {lb : List Str} (h : ∀ m, m < ts.length → hs.getD m 0 < lb.length) : (sumsOf (colsW ts hs ps lb)).Perm ts := by
  have e : sumsOf (colsW ts hs ps lb) = ((List.range lb.length).flatMap fun q => (List.range ts.length).filter fun m => decide (hs.getD m 0 = q)).map fun m => ts.getD m Str.empty := by
    unfold sumsOf colsW
    rw [List.flatMap_map, List.map_flatMap]
    rfl
  rw [e]
  have q := (part_all (f := fun m => hs.getD m 0) (l := List.range ts.length) (L := lb.length) fun m hm => h m (List.mem_range.mp hm)).map fun m => ts.getD m Str.empty
  have e2 : ((List.range ts.length).map fun m => ts.getD m Str.empty) = ts := range_getD ts Str.empty
  rw [e2] at q
  exact q
theorem dataW {ts : List Str} {hs : List Nat} {ps : List (Nat × (Str × Str))} {lb : List Str} (h : ∀ z ∈ ps, z.1 < lb.length) : (dataOf (colsW ts hs ps lb)).Perm (ps.map (·.2)) := by
  have e : dataOf (colsW ts hs ps lb) = ((List.range lb.length).flatMap fun q => ps.filter fun z => decide (z.1 = q)).map (·.2) := by
    unfold dataOf colsW
    rw [List.flatMap_map, List.map_flatMap]
    rfl
  rw [e]
  exact (part_all (f := fun z : Nat × (Str × Str) => z.1) h).map _
theorem goodW {ts : List Str} {hs : List Nat} {ps : List (Nat × (Str × Str))} {lb : List Str} (l1 : 1 ≤ lb.length) (l8 : lb.length ≤ 8) (t1 : 1 ≤ ts.length) (t10 : ts.length ≤ 10) (ln : ∀ z ∈ lb, isName z = true) (ld : lb.Nodup) (tn : ∀ z ∈ ts, isName z = true) (td : ts.Nodup)
    (hh : ∀ m, m < ts.length → hs.getD m 0 < lb.length) (hp : ∀ z ∈ ps, z.1 < lb.length ∧ pairOk ts z.2) (lp : ps.length ≤ 24) : Good (colsW ts hs ps lb) := by
  have sp := sumsW (ps := ps) hh
  have dp := dataW (ts := ts) (hs := hs) (ps := ps) (lb := lb) fun z hz => (hp z hz).1
  have en : (colsW ts hs ps lb).map (·.nm) = lb := by
    unfold colsW
    rw [List.map_map]
    exact range_getD lb Str.empty
  have lc : (colsW ts hs ps lb).length = lb.length := by unfold colsW; rw [List.length_map, List.length_range]
  refine ⟨fun z => ?_, by omega, fun c hc => ?_, fun c hc w hw => ?_, by rw [en]; exact ld, sp.nodup_iff.mpr td, fun z => ?_, by rw [sp.length_eq]; exact t10, by rw [dp.length_eq, List.length_map]; exact lp, fun c hc p hp2 => ?_⟩
  · rw [z] at lc
    simp at lc
    omega
  · exact ln _ (by rw [← en]; exact List.mem_map.mpr ⟨c, hc, rfl⟩)
  · exact tn _ (sp.mem_iff.mp (List.mem_flatMap.mpr ⟨c, hc, hw⟩))
  · have q := sp.length_eq
    rw [z] at q
    simp at q
    omega
  · obtain ⟨z, hz, rfl⟩ := List.mem_map.mp (dp.mem_iff.mp (List.mem_flatMap.mpr ⟨c, hc, hp2⟩))
    have q := (hp z hz).2
    exact ⟨sp.mem_iff.mpr q.1, sp.mem_iff.mpr q.2.1, q.2.2⟩
theorem cut_front (zs : List Str) (n : Nat) : cutV (zs.map V.str) none (some (n : Int)) = (zs.take n).map V.str := by
  unfold cutV
  rw [HT.sIx_nat, List.length_map]
  show ((zs.map V.str).drop 0).take (min n zs.length - 0) = _
  rw [List.drop_zero, Nat.sub_zero, ← List.map_take]
  by_cases h : n ≤ zs.length
  · rw [Nat.min_eq_left h]
  · rw [Nat.min_eq_right (by omega), List.take_of_length_le (Nat.le_refl _), List.take_of_length_le (by omega)]
section
variable {K : PySem.W.Frag} {σ : L2.St} {H : Hp} {te ta tb tt : TE} {tl th : TO} {Q : VK} {r : V → Option Int → Option Int → Hp → VK → Prop} {j : Addr} {E E2 : XK} {mA mB : List Str} {t : Int}
theorem slc_ (h : te σ H fun x H1 => tl σ H1 fun l H2 => th σ H2 fun u H3 => r x l u H3 Q) : tSl r te tl th σ H Q := h
theorem npt_ {QO : Option Int → Hp → Prop} (h : QO none H) : tNoPart σ H QO := h
/-- the front of one of two menus -/
theorem menu_ (ha : EvL ta σ H (mA.map V.str)) (hb : EvL tb σ H (mB.map V.str)) (hv : σ[0]? = some (some (.ref j))) (hj : JarAt H j) (ht : ∀ H1, Ev tt σ H1 (.int t)) (t0 : 0 < t) (t1 : t < 1000000000)
    (k : ∀ (p : Addr) (m : List Str) (d : Nat) (H1 : Hp), m ∈ [mA, mB] → (d : Int) < t → H p = none → p ≠ j → But j H H1 → JarAt H1 j → H1 p = some (.lst ((m.take (2 + d)).map V.str)) → Q (.ref p) H1) :
    tSl (rSlL K) (tCall spOne [] E (tCons (tVar 0) (tCons (tLst (tCons ta (tCons tb tNil))) tNil))) tNoPart (tPart (tOp (rI0 fun i j => .int (i + j)) (tC (.int 2)) (tCall spDip [] E2 (tCons (tVar 0) (tCons tt tNil))))) σ H Q := by
  refine slc_ (callO_ (cons_ ⟨.ref j, hv, cons_ (lst_ (cons_ (ha H (Ex.refl H) _ fun La H1 hLa e1 h1 => cons_ (hb H1 e1 _ fun Lb H2 hLb e2 h2 => nil_ ⟨by show 2 ≤ sizeLine; decide, fun LO hLO => nil_ ?_⟩))))⟩))
  have e12 := e1.trans e2
  have e3 : Ex H (upd H2 LO (.lst [.ref La, .ref Lb])) := e12.trans (Ex.new hLO)
  have nA := hj.ne hLa
  have nB := (hj.ex e1).ne hLb
  refine ⟨j, LO, [.ref La, .ref Lb], rfl, hj.ex e3, upd_same, (hj.ex e12).ne hLO, by show 0 < 2; decide, by show 2 < 1000; decide, fun v H3 hv3 j3 b3 => ?_⟩
  refine npt_ (part_ (opC_ (dip_ hv j3 (ht H3) t0 t1 fun d H4 j4 b4 d0 d1 => ⟨2, d, rfl, rfl, 2 + d, rfl, ?_⟩)))
  have gA : H4 La = some (.lst (mA.map V.str)) := b4 _ _ nA (b3 _ _ nA ((Ex.new hLO) _ _ (e2 _ _ h1)))
  have gB : H4 Lb = some (.lst (mB.map V.str)) := b4 _ _ nB (b3 _ _ nB ((Ex.new hLO) _ _ h2))
  obtain ⟨dn, rfl⟩ := Int.eq_ofNat_of_zero_le d0
  have b04 : But j H H4 := ((But.ex e3).trans b3).trans b4
  obtain ⟨L, m, rfl, hm, hL⟩ : ∃ (L : Addr) (m : List Str), v = .ref L ∧ m ∈ [mA, mB] ∧ H4 L = some (.lst (m.map V.str)) := by
    simp only [List.mem_cons, List.not_mem_nil, or_false] at hv3
    rcases hv3 with rfl | rfl
    · exact ⟨La, mA, rfl, by simp, gA⟩
    · exact ⟨Lb, mB, rfl, by simp, gB⟩
  refine ⟨L, _, rfl, sq_of hL, fun p hp => ?_⟩
  have e5 : (2 + (dn : Int)) = ((2 + dn : Nat) : Int) := by omega
  rw [e5, cut_front]
  exact k p m dn _ hm d1 (fresh_but b04 j4 hp) (j4.ne hp) (b04.trans (But.ex (Ex.new hp))) (j4.ex (Ex.new hp)) upd_same
end
def psD (z : Nat × (Str × Str)) : PyData := .tuple [.int (z.1 : Int), pairD z.2]
/-- the second thing of a pair in a list -/
def sndV (H : Hp) (pv : List V) (m : Nat) : V := match pv[m]? with
  | some (.ref c) => (match H c with
    | some (.tup [_, y]) => y
    | _ => V.non)
  | _ => V.non
section
variable {P : Program} {w : World} {K : PySem.W.Frag} {mg : Str → Option Value} {base : Heap} {f : Addr} {fd : FuncData}
abbrev sc_law_draw_store_N : List Str := ["_law_well", "_law_kinds", "_law_wide", "_law_most", "_law_tags", "_law_labels", "_law_tag", "_law_holds", "_law_pairs", "_law_columns", "_law_k", "_law_at", "_law_gap", "_law_other", "_law_j", "_law_sums", "_law_place", "_law_pair"]
theorem sc_law_draw_store : FnScope sc_law_draw_store_N ["_law_well", "_law_kinds", "_law_wide", "_law_most"] (defScope s_law_draw_store) := ⟨rfl, rfl, rfl, by decide +kernel, rfl, by decide +kernel, by decide +kernel⟩
theorem ok_store (F : FnP K "_law_draw_store" s_law_draw_store f fd) (T : Tops mg) (C_law_num : Cal P w K mg base 1 "_law_num" spDip []) (C_law_any_of : Cal P w K mg base 2 "_law_any_of" spOne []) : FnOk P w K mg base CX0 3 f fd ["_law_well", "_law_kinds", "_law_wide", "_law_most"] spStore := by
  refine F.ok sc_law_draw_store (fun vs H Q E h => ?_) (fun cdv A outer s H vs Q E hr h => ?_)
  · obtain ⟨j, kl, wd, mo, ks, rfl, _⟩ := h; rfl
  · obtain ⟨j, kl, wd, mo, ks, rfl, hj, hkl, nkj, hks, kl1, wd1, mo1, k⟩ := h
    refine ⟨_, PSs.nox (pss_cons (ps_set (i := 4) sc_law_draw_store.nd rfl (.inr rfl) (pe_slice sl_list (pe_c C_law_any_of hr (by decide) rfl (pa_cons (pv 0) (pa_cons (pe_lst (pa_cons (pe_lst (pa_cons pe_str (pa_cons pe_str (pa_cons pe_str (pa_cons pe_str (pa_cons pe_str pa_nil)))))) (pa_cons (pe_lst (pa_cons pe_str (pa_cons pe_str (pa_cons pe_str (pa_cons pe_str (pa_cons pe_str pa_nil)))))) pa_nil))) pa_nil))) po_none (po_some (pe_op op_add pe_int (pe_c C_law_num hr (by decide) rfl (pa_cons (pv 0) (pa_cons (pe_op op_sub (pv 2) pe_int) pa_nil)))))))
  (pss_cons (ps_set (i := 5) sc_law_draw_store.nd rfl (.inr rfl) (pe_slice sl_list (pe_c C_law_any_of hr (by decide) rfl (pa_cons (pv 0) (pa_cons (pe_lst (pa_cons (pe_lst (pa_cons pe_str (pa_cons pe_str (pa_cons pe_str (pa_cons pe_str pa_nil))))) (pa_cons (pe_lst (pa_cons pe_str (pa_cons pe_str (pa_cons pe_str (pa_cons pe_str pa_nil))))) pa_nil))) pa_nil))) po_none (po_some (pe_op op_add pe_int (pe_c C_law_num hr (by decide) rfl (pa_cons (pv 0) (pa_cons pe_int pa_nil)))))))
  (pss_cons (ps_asg (pe_tup (pa_cons (pe_lc (own := [("_law_tag", 6)]) (g := gName 6) (tt := tYes) rfl sc_law_draw_store.nd (pi_list (pv 4)) (blkOk_by (own := [("_law_tag", 6)]) (N := sc_law_draw_store_N) (sc := defScope s_law_draw_store) (by decide +kernel)) (fun _ _ _ _ _ => (pg_name (i := 6) sc_law_draw_store.nd rfl (.inl rfl))) (fun _ _ _ _ _ => pts_nil) (fun _ _ _ _ _ => (pe_c C_law_num hr (by decide) rfl (pa_cons (pv 0) (pa_cons (pe_callB (call_len_seq : CallR _ (.builtin "len") (rLenS K)) (by rfl) T.n_len PySem.boot_len (pa_cons (pv 5) pa_nil)) pa_nil))))) (pa_cons (pe_lst pa_nil) (pa_cons (pe_lst pa_nil) pa_nil)))) (pg_tup rfl (pgs_cons (pg_name (i := 7) sc_law_draw_store.nd rfl (.inr rfl)) (pgs_cons (pg_name (i := 8) sc_law_draw_store.nd rfl (.inl rfl)) (pgs_cons (pg_name (i := 9) sc_law_draw_store.nd rfl (.inl rfl)) pgs_nil)))))
  (pss_cons (ps_for PassesOwn.never rfl (pi_range1 rfl T.n_range (pa_cons (pe_c C_law_num hr (by decide) rfl (pa_cons (pv 0) (pa_cons (pe_op op_add (pv 3) pe_int) pa_nil))) pa_nil)) (pg_name (i := 10) sc_law_draw_store.nd rfl (.inr rfl))
  (pss_cons (ps_par (i := 11) (j := 12) (by rfl) sc_law_draw_store.nd rfl rfl (by decide) rfl rfl (pa_cons (pe_c C_law_num hr (by decide) rfl (pa_cons (pv 0) (pa_cons (pe_callB (call_len_seq : CallR _ (.builtin "len") (rLenS K)) (by rfl) T.n_len PySem.boot_len (pa_cons (pv 4) pa_nil)) pa_nil))) (pa_cons (pe_op op_add pe_int (pe_c C_law_num hr (by decide) rfl (pa_cons (pv 0) (pa_cons (pe_op op_sub (pe_callB (call_len_seq : CallR _ (.builtin "len") (rLenS K)) (by rfl) T.n_len PySem.boot_len (pa_cons (pv 4) pa_nil)) pe_int) pa_nil)))) pa_nil)) (by rfl))
  (pss_cons (ps_set (i := 13) sc_law_draw_store.nd rfl (.inl rfl) (pe_op op_mod (pe_callTy call_int1 (by rfl) T.n_int (by decide +kernel) (pa_cons (pe_op op_add (pv 11) (pv 12)) pa_nil)) (pe_callB (call_len_seq : CallR _ (.builtin "len") (rLenS K)) (by rfl) T.n_len PySem.boot_len (pa_cons (pv 4) pa_nil))))
  (pss_one (ps_expr (pe_bm PySem.F.plainAttrs_list PySem.F.slot_list_append PySem.F.type_list_append mt_append (pv 8) (pa_cons (pe_tup (pa_cons (pe_c C_law_num hr (by decide) rfl (pa_cons (pv 0) (pa_cons (pe_callB (call_len_seq : CallR _ (.builtin "len") (rLenS K)) (by rfl) T.n_len PySem.boot_len (pa_cons (pv 5) pa_nil)) pa_nil))) (pa_cons (pe_tup (pa_cons (pe_callB (MN.call_minS rfl) (by rfl) T.n_min (by decide +kernel) (pa_cons (pe_ix (ix_seq : IxR _ (rIx K)) (pv 4) (pv 11) (fun _ _ => rfl)) (pa_cons (pe_ix (ix_seq : IxR _ (rIx K)) (pv 4) (pv 13) (fun _ _ => rfl)) pa_nil))) (pa_cons (pe_callB (MN.call_maxS rfl) (by rfl) T.n_max (by decide +kernel) (pa_cons (pe_ix (ix_seq : IxR _ (rIx K)) (pv 4) (pv 11) (fun _ _ => rfl)) (pa_cons (pe_ix (ix_seq : IxR _ (rIx K)) (pv 4) (pv 13) (fun _ _ => rfl)) pa_nil))) pa_nil))) pa_nil))) pa_nil)))))))
  (pss_cons (ps_for PassesOwn.never rfl (pi_range1 rfl T.n_range (pa_cons (pe_callB (call_len_seq : CallR _ (.builtin "len") (rLenS K)) (by rfl) T.n_len PySem.boot_len (pa_cons (pv 5) pa_nil)) pa_nil)) (pg_name (i := 10) sc_law_draw_store.nd rfl (.inr rfl))
  (pss_cons (ps_set (i := 15) sc_law_draw_store.nd rfl (.inl rfl) (pe_callTy (call_tuple_of : CallR _ (.type "tuple") (rTupS K)) (by rfl) T.n_tuple (by decide +kernel) (pa_cons (pe_lc (own := [("_law_j", 14)]) (g := gName 14) rfl sc_law_draw_store.nd (pi_range1 rfl T.n_range (pa_cons (pe_callB (call_len_seq : CallR _ (.builtin "len") (rLenS K)) (by rfl) T.n_len PySem.boot_len (pa_cons (pv 4) pa_nil)) pa_nil)) (blkOk_by (own := [("_law_j", 14)]) (N := sc_law_draw_store_N) (sc := defScope s_law_draw_store) (by decide +kernel)) (fun _ _ _ _ _ => (pg_name (i := 14) sc_law_draw_store.nd rfl (.inl rfl))) (fun _ _ _ _ _ => (pts_one (pt_cmpR op_eq (pe_ix (ix_seq : IxR _ (rIx K)) (pv 7) (pv 14) (fun _ _ => rfl)) (pv 10) (nomark _)))) (fun _ _ _ _ _ => (pe_ix (ix_seq : IxR _ (rIx K)) (pv 4) (pv 14) (fun _ _ => rfl)))) pa_nil)))
  (pss_one (ps_expr (pe_bm PySem.F.plainAttrs_list PySem.F.slot_list_append PySem.F.type_list_append mt_append (pv 9) (pa_cons (pe_tup (pa_cons (pe_ix (ix_seq : IxR _ (rIx K)) (pv 5) (pv 10) (fun _ _ => rfl)) (pa_cons (pv 15) (pa_cons (pe_callTy (call_tuple_of : CallR _ (.type "tuple") (rTupS K)) (by rfl) T.n_tuple (by decide +kernel) (pa_cons (pe_lc (own := [("_law_place", 16), ("_law_pair", 17)]) (g := gTup K 2 (gCons (gName 16) (gCons (gName 17) gNil))) rfl sc_law_draw_store.nd (pi_list (pv 8)) (blkOk_by (own := [("_law_place", 16), ("_law_pair", 17)]) (N := sc_law_draw_store_N) (sc := defScope s_law_draw_store) (by decide +kernel)) (fun _ _ _ _ _ => (pg_tup rfl (pgs_cons (pg_name (i := 16) sc_law_draw_store.nd rfl (.inl rfl)) (pgs_cons (pg_name (i := 17) sc_law_draw_store.nd rfl (.inl rfl)) pgs_nil)))) (fun _ _ _ _ _ => (pts_one (pt_cmpR op_eq (pv 16) (pv 10) (nomark _)))) (fun _ _ _ _ _ => (pv 17))) pa_nil)) pa_nil)))) pa_nil))))))
  (pss_one (ps_ret (pe_lst (pa_cons (pe_c C_law_any_of hr (by decide) rfl (pa_cons (pv 0) (pa_cons (pv 1) pa_nil))) (pa_cons (pv 9) pa_nil)))))))))), ?_⟩
    -- the tags
    refine q_asgO (menu_ (mA := ["p", "q", "r", "s", "t"]) (mB := ["b", "a", "sum", "zz", "one"]) (t := wd - 1) (el_lst (ea_cons ev_c (ea_cons ev_c (ea_cons ev_c (ea_cons ev_c (ea_cons ev_c ea_nil))))) (Nat.le_of_ble_eq_true rfl)) (el_lst (ea_cons ev_c (ea_cons ev_c (ea_cons ev_c (ea_cons ev_c (ea_cons ev_c ea_nil))))) (Nat.le_of_ble_eq_true rfl)) rfl hj (fun H1 => ev_op (ev_var rfl) ev_c rv_I0) (by omega) (by omega) fun tg mt dt H1 hmt hdt htg ntj b1 j1 h1 => ?_)
    refine q_asgO (menu_ (mA := ["one", "two", "far", "p"]) (mB := ["sum", "datum", "kind", "a"]) (t := 3) (el_lst (ea_cons ev_c (ea_cons ev_c (ea_cons ev_c (ea_cons ev_c ea_nil)))) (Nat.le_of_ble_eq_true rfl)) (el_lst (ea_cons ev_c (ea_cons ev_c (ea_cons ev_c (ea_cons ev_c ea_nil)))) (Nat.le_of_ble_eq_true rfl)) rfl j1 (fun H2 => ev_c) (by decide) (by decide) fun lb ml dl H2 hml hdl hlb nlj b2 j2 h2 => ?_)
    obtain ⟨m1, m2, m3⟩ := menusT_ok mt hmt
    obtain ⟨n1, n2, n3⟩ := menusL_ok ml hml
    obtain ⟨ts, hts⟩ : ∃ ts, ts = mt.take (2 + dt) := ⟨_, rfl⟩
    obtain ⟨ls, hls⟩ : ∃ ls, ls = ml.take (2 + dl) := ⟨_, rfl⟩
    have tl1 : 2 ≤ ts.length ∧ ts.length ≤ 5 := by rw [hts, List.length_take]; omega
    have ll1 : 2 ≤ ls.length ∧ ls.length ≤ 4 := by rw [hls, List.length_take]; omega
    have tn : ∀ z ∈ ts, isName z = true := fun z hz => List.all_eq_true.mp m3 z (List.mem_of_mem_take (by rw [← hts]; exact hz))
    have ln : ∀ z ∈ ls, isName z = true := fun z hz => List.all_eq_true.mp n3 z (List.mem_of_mem_take (by rw [← hls]; exact hz))
    have td : ts.Nodup := by rw [hts]; exact m2.sublist (List.take_sublist _ _)
    have ld : ls.Nodup := by rw [hls]; exact n2.sublist (List.take_sublist _ _)
    rw [← hts] at h1
    rw [← hls] at h2
    have h1 := b2 _ _ ntj h1
    have hk2 := b2 _ _ nkj (b1 _ _ nkj hkl)
    have b02 := b1.trans b2
    clear m1 m2 m3 n1 n2 n3 hts hls hmt hml hdt hdl htg hlb b1 j1 hj hkl
    have lt0 : (ts.map V.str).length = ts.length := List.length_map _
    have lb0 : (ls.map V.str).length = ls.length := List.length_map _
    -- where the sums stand
    refine q_tupO (cons_ ?_)
    refine ⟨.ref tg, rfl, tg, rfl, ⟨_, sq_of h1⟩, fun hl hhl => ?_⟩
    have nhj := j2.ne hhl
    have nht : hl ≠ tg := fun z => by rw [z, h1] at hhl; cases hhl
    have nhb : hl ≠ lb := fun z => by rw [z, h2] at hhl; cases hhl
    have nhk : hl ≠ kl := fun z => by rw [z, hk2] at hhl; cases hhl
    refine lc_it (walk_list (K := K) (a := tg) (xs := ts.map V.str)) (fun i H' => JarAt H' j ∧ But j H2 H' ∧ H' tg = some (.lst (ts.map V.str)) ∧ H' lb = some (.lst (ls.map V.str)) ∧ ∃ hs : List Nat, H' hl = some (.lst (hs.map fun n : Nat => V.int (n : Int))) ∧ hs.length = i ∧ ∀ n ∈ hs, n < ls.length)
      ⟨j2.put nhj, (But.refl j H2).mut hhl, by rw [upd_ne nht.symm]; exact h1, by rw [upd_ne nhb.symm]; exact h2, [], upd_same, rfl, fun n h => absurd h List.not_mem_nil⟩ (fun i H' _ p => sq_of p.2.2.1) ?_ ?_
    · rintro i x Ha Hb hi ⟨ja, ba, gt, gb, hs, hh, lh, oh⟩ ⟨rfl, _⟩
      refine ⟨rfl, ?_⟩
      show tCall spDip [] C8.E0 (tCons (tVar 0) (tCons (tCB (rLenS K) (tCons (tVar 5) tNil)) tNil)) [some (.ref j), some (.ref kl), some (.int wd), some (.int mo), some (.ref tg), some (.ref lb), some x, none, none, none, none, none, none, none, none, none, none, none] Hb fun y H4 => ∃ acc, H4 hl = some (.lst acc) ∧ acc.length < sizeLine ∧ JarAt (upd H4 hl (.lst (acc ++ [y]))) j ∧ But j H2 (upd H4 hl (.lst (acc ++ [y]))) ∧ (upd H4 hl (.lst (acc ++ [y]))) tg = some (.lst (ts.map V.str)) ∧ (upd H4 hl (.lst (acc ++ [y]))) lb = some (.lst (ls.map V.str)) ∧ ∃ hs : List Nat, (upd H4 hl (.lst (acc ++ [y]))) hl = some (.lst (hs.map fun n : Nat => V.int (n : Int))) ∧ hs.length = i + 1 ∧ ∀ n ∈ hs, n < ls.length
      refine dip_ rfl ja (ev_is (ev_len (ev_var rfl) (sq_of gb)) (by rw [lb0])) (by omega) (by omega) fun d H4 j4 b4 d0 d1 => ?_
      obtain ⟨dn, rfl⟩ := Int.eq_ofNat_of_zero_le d0
      refine ⟨_, b4 _ _ nhj hh, sz_lt (by rw [List.length_map]; omega), j4.put nhj, (ba.trans b4).mut hhl, by rw [upd_ne nht.symm]; exact b4 _ _ ntj gt, by rw [upd_ne nhb.symm]; exact b4 _ _ nlj gb, hs ++ [dn], by rw [upd_same, List.map_append]; rfl, by rw [List.length_append, lh]; rfl, fun n hn => ?_⟩
      rcases List.mem_append.mp hn with h | h
      · exact oh n h
      · rw [List.mem_singleton.mp h]; omega
    rintro H3 ⟨j3, b3, gt, gb, hs, hh, lh, oh⟩
    rw [lt0] at lh
    refine cons_ (lst_ (nil_ ⟨by show 0 ≤ sizeLine; decide, fun pl hpl => cons_ (lst_ (nil_ ⟨by show 0 ≤ sizeLine; decide, fun cl hcl => nil_ ⟨by show 3 ≤ sizeLine; decide, fun p hp => g_three (K := K) upd_same ?_⟩⟩))⟩))
    have npc : cl ≠ pl := fun z => by rw [z, upd_same] at hcl; cases hcl
    have hcl3 : H3 cl = none := by rw [upd_ne npc] at hcl; exact hcl
    have e4 : Ex H3 (upd (upd (upd H3 pl (.lst [])) cl (.lst [])) p (.tup [.ref hl, .ref pl, .ref cl])) := ((Ex.new hpl).trans (Ex.new hcl)).trans (Ex.new hp)
    have gp : (upd (upd (upd H3 pl (.lst [])) cl (.lst [])) p (.tup [.ref hl, .ref pl, .ref cl])) pl = some (.lst []) := ((Ex.new hcl).trans (Ex.new hp)) _ _ upd_same
    have gc : (upd (upd (upd H3 pl (.lst [])) cl (.lst [])) p (.tup [.ref hl, .ref pl, .ref cl])) cl = some (.lst []) := (Ex.new hp) _ _ upd_same
    generalize upd (upd (upd H3 pl (.lst [])) cl (.lst [])) p (.tup [.ref hl, .ref pl, .ref cl]) = H4 at e4 gp gc ⊢
    have offs : ∀ {a b : Addr} {o : HO}, H3 a = some o → H3 b = none → b ≠ a := fun h1 h3 z => by rw [z, h1] at h3; cases h3
    have nph := offs hh hpl
    have npt := offs gt hpl
    have npl := offs gb hpl
    have nch := offs hh hcl3
    have nct := offs gt hcl3
    have ncl := offs gb hcl3
    have npj := j3.ne hpl
    have ncj := j3.ne hcl3
    have hk3 := b3 _ _ nkj hk2
    have npk := offs hk3 hpl
    have nck := offs hk3 hcl3
    have b04 := (b02.trans b3).trans (But.ex e4)
    have pl0 : H pl = none := fresh_but (b02.trans b3) j3 hpl
    have cl0 : H cl = none := fresh_but (b02.trans b3) j3 hcl3
    have j4 := j3.ex e4
    have gt := e4 _ _ gt
    have gb := e4 _ _ gb
    have hh := e4 _ _ hh
    have hk4 := e4 _ _ hk3
    clear hcl hp e4 hpl hcl3 offs b3 j3 hhl b02 h1 h2 hk2 hk3 j2
    have hhs : ∀ m, m < ts.length → hs.getD m 0 < ls.length := fun m hm => by
      rw [List.getD_eq_getElem?_getD, List.getElem?_eq_getElem (by omega : m < hs.length)]
      exact oh _ (List.getElem_mem _)
    -- the pairs
    refine q_forP (P := fun n H' => (0 ≤ n ∧ n ≤ mo) ∧ JarAt H' j ∧ But j H4 H') (fun QL hQ => cons_ (dip_ rfl j4 (ev_op (ev_var rfl) ev_c rv_I0) (by omega) (by omega) fun n H5 j5 b5 n0 n1 => nil_ (hQ n H5 ⟨⟨n0, by omega⟩, j5, b5⟩))) (fun n H' p => by have := p.1; omega)
      (fun n i σ' H' => ∃ y10 y11 y12 y13, ∃ (ps : List (Nat × (Str × Str))) (pv : List V), σ' = [some (.ref j), some (.ref kl), some (.int wd), some (.int mo), some (.ref tg), some (.ref lb), none, some (.ref hl), some (.ref pl), some (.ref cl), y10, y11, y12, y13, none, none, none, none] ∧ n ≤ mo ∧ JarAt H' j ∧ But j H H' ∧ H' tg = some (.lst (ts.map V.str)) ∧ H' lb = some (.lst (ls.map V.str)) ∧ H' hl = some (.lst (hs.map fun n : Nat => V.int (n : Int))) ∧ H' kl = some (.lst (ks.map Kd.v)) ∧ H' cl = some (.lst []) ∧ H' pl = some (.lst pv) ∧ Reps H' pv (ps.map psD) ∧ ps.length = i ∧ ∀ z ∈ ps, z.1 < ls.length ∧ pairOk ts z.2)
      (fun n H' p => ⟨none, none, none, none, [], [], rfl, p.1.2, p.2.1, b04.trans p.2.2, p.2.2 _ _ ntj gt, p.2.2 _ _ nlj gb, p.2.2 _ _ nhj hh, p.2.2 _ _ nkj hk4, p.2.2 _ _ ncj gc, p.2.2 _ _ npj gp, .nil, rfl, fun z h => absurd h List.not_mem_nil⟩) ?_ ?_
    · rintro n i σ' H5 hi ⟨y10, y11, y12, y13, ps, pv, rfl, hnm, j5, b5, gt, gb, hh, hk5, gc, gp, rp, lp, op⟩
      refine q_par (cons_ (dip_ rfl j5 (ev_is (ev_len (ev_var rfl) (sq_of gt)) (by rw [lt0])) (by omega) (by omega) fun a H6 j6 b6 a0 a1 => ?_))
      have gt6 := b6 _ _ ntj gt
      refine cons_ (opC_ (dip_ rfl j6 (ev_op (ev_is (ev_len (ev_var rfl) (sq_of gt6)) (by rw [lt0])) ev_c rv_I0) (by omega) (by omega) fun g H7 j7 b7 g0 g1 => ⟨1, g, rfl, rfl, nil_ ⟨_, _, rfl, ?_⟩⟩))
      have gt7 := b7 _ _ ntj gt6
      obtain ⟨an, rfl⟩ := Int.eq_ofNat_of_zero_le a0
      obtain ⟨gn, rfl⟩ := Int.eq_ofNat_of_zero_le g0
      refine q_asg (v := .int (((an : Int) + (1 + (gn : Int))) % (ts.length : Int))) (ev_op (ev_cb (z := .int ((an : Int) + (1 + (gn : Int)))) (ea_cons (ev_op (ev_var rfl) (ev_var rfl) rv_I0) ea_nil) fun H8 _ Q q => .inl ⟨_, rfl, q H8 (Ex.refl H8)⟩) (ev_is (ev_len (ev_var rfl) (sq_of gt7)) (by rw [lt0])) (rv_I (by show (0 : Int) < (ts.length : Int); omega))) fun H8 e8 => ?_
      obtain ⟨ob, hob⟩ : ∃ ob : Nat, ob = (an + (1 + gn)) % ts.length := ⟨_, rfl⟩
      have eob : ((an : Int) + (1 + (gn : Int))) % (ts.length : Int) = (ob : Int) := by
        have q : (an : Int) + (1 + (gn : Int)) = ((an + (1 + gn) : Nat) : Int) := by omega
        rw [hob, q]
        rfl
      rw [eob]
      have lob : ob < ts.length := by rw [hob]; exact Nat.mod_lt _ (by omega)
      have nob : an ≠ ob := fun z => by
        rw [hob] at z
        by_cases c : an + (1 + gn) < ts.length
        · rw [Nat.mod_eq_of_lt c] at z; omega
        · have q : (an + (1 + gn)) % ts.length = an + (1 + gn) - ts.length := by
            rw [Nat.mod_eq_sub_mod (by omega), Nat.mod_eq_of_lt (by omega)]
          rw [q] at z; omega
      have lan : an < ts.length := by omega
      have b57 := b6.trans b7
      have b58 := b57.trans (But.ex e8)
      have j8 := j7.ex e8
      have gp8 := b58 _ _ npj gp
      have rp8 := (rp.on (b57.tx j5)).ex e8
      have gt8 := e8 _ _ gt7
      have gb8 := b58 _ _ nlj gb
      refine ⟨_, rfl, ⟨Or.inl ⟨rfl, _, sq_of gp8⟩, cons_ ?_⟩⟩
      have nx : ts.getD an Str.empty ≠ ts.getD ob Str.empty := fun z => by
        rw [List.getD_eq_getElem?_getD, List.getD_eq_getElem?_getD, List.getElem?_eq_getElem lan, List.getElem?_eq_getElem lob] at z
        have z2 : ts[an] = ts[ob] := z
        have q1 := td.idxOf_getElem an lan
        have q2 := td.idxOf_getElem ob lob
        rw [z2, q2] at q1
        exact nob q1.symm
      have mx : ∀ q, q < ts.length → ts.getD q Str.empty ∈ ts := fun q hq => by
        rw [List.getD_eq_getElem?_getD, List.getElem?_eq_getElem hq]
        exact List.getElem_mem _
      have ok2 := pair_ok (mx an lan) (mx ob lob) nx
      obtain ⟨pp, hpp⟩ : ∃ pp : Str × Str, pp = (if less (ts.getD ob Str.empty) (ts.getD an Str.empty) then ts.getD ob Str.empty else ts.getD an Str.empty, if less (ts.getD an Str.empty) (ts.getD ob Str.empty) then ts.getD ob Str.empty else ts.getD an Str.empty) := ⟨_, rfl⟩
      rw [← hpp] at ok2
      refine tup_ (cons_ (dip_ rfl j8 (ev_is (ev_len (ev_var rfl) (sq_of gb8)) (by rw [lb0])) (by omega) (by omega) fun c H9 j9 b9 c0 c1 => ?_))
      obtain ⟨cn, rfl⟩ := Int.eq_ofNat_of_zero_le c0
      have gt9 := b9 _ _ ntj gt8
      have er := er_tup (σ := [some (.ref j), some (.ref kl), some (.int wd), some (.int mo), some (.ref tg), some (.ref lb), none, some (.ref hl), some (.ref pl), some (.ref cl), some (.int (i : Int)), some (.int (an : Int)), some (.int (1 + (gn : Int))), some (.int (ob : Int)), none, none, none, none]) (H := H9) (ds := [.str (if less (ts.getD ob Str.empty) (ts.getD an Str.empty) then ts.getD ob Str.empty else ts.getD an Str.empty), .str (if less (ts.getD an Str.empty) (ts.getD ob Str.empty) then ts.getD ob Str.empty else ts.getD an Str.empty)])
        (era_cons (er_str (ev_cb (r := fun xs H Q => ∃ x y, xs = [V.str x, V.str y] ∧ Q (V.str (if less y x = true then y else x)) H) (ea_cons (ev_op (r := rIx K) (ta := tVar 4) (tb := tVar 11) (ev_var rfl) (ev_var rfl) (rv_ixA (.inl gt9) (strs_at lan))) (ea_cons (ev_op (r := rIx K) (ta := tVar 4) (tb := tVar 13) (ev_var rfl) (ev_var rfl) (rv_ixA (.inl gt9) (strs_at lob))) ea_nil)) fun H10 e10 Q q => ⟨_, _, rfl, q H10 (Ex.refl _)⟩))
        (era_cons (er_str (ev_cb (r := fun xs H Q => ∃ x y, xs = [V.str x, V.str y] ∧ Q (V.str (if less x y = true then y else x)) H) (ea_cons (ev_op (r := rIx K) (ta := tVar 4) (tb := tVar 11) (ev_var rfl) (ev_var rfl) (rv_ixA (.inl gt9) (strs_at lan))) (ea_cons (ev_op (r := rIx K) (ta := tVar 4) (tb := tVar 13) (ev_var rfl) (ev_var rfl) (rv_ixA (.inl gt9) (strs_at lob))) ea_nil)) fun H10 e10 Q q => ⟨_, _, rfl, q H10 (Ex.refl _)⟩)) era_nil)) (Nat.le_of_ble_eq_true rfl)
      refine cons_ (er H9 (Ex.refl H9) _ fun v H10 e10 rv => nil_ ⟨by show 2 ≤ sizeLine; decide, fun q hq => nil_ ⟨pl, pv, .ref q, rfl, rfl, ?_, sz_lt (by have := rp.len; rw [List.length_map] at this; omega), ?_⟩⟩)
      · exact (Ex.new hq) _ _ (e10 _ _ (b9 _ _ npj gp8))
      have e11 : Ex H10 (upd H10 q (.tup [.int (cn : Int), v])) := Ex.new hq
      have rq : Rep (upd H10 q (.tup [.int (cn : Int), v])) (.ref q) (psD (cn, pp)) := by
        rw [hpp]
        exact Rep.tup upd_same (.cons (.int _) (.cons (rv.ex e11) .nil))
      have rp11 := (((rp8.on (b9.tx j8)).ex e10).ex e11)
      have b511 := ((b58.trans b9).trans (But.ex e10)).trans (But.ex e11)
      have gpl : (upd H10 q (.tup [.int (cn : Int), v])) pl = some (.lst pv) := e11 _ _ (e10 _ _ (b9 _ _ npj gp8))
      have j11 := (j9.ex e10).ex e11
      generalize upd H10 q (.tup [.int (cn : Int), v]) = H11 at e11 rq rp11 b511 gpl j11 ⊢
      refine ⟨_, _, _, _, ps ++ [(cn, pp)], pv ++ [.ref q], rfl, hnm, j11.put npj, (b5.trans b511).mut pl0, by rw [upd_ne npt.symm]; exact b511 _ _ ntj gt, by rw [upd_ne npl.symm]; exact b511 _ _ nlj gb, by rw [upd_ne nph.symm]; exact b511 _ _ nhj hh, by rw [upd_ne npk.symm]; exact b511 _ _ nkj hk5, by rw [upd_ne npc]; exact b511 _ _ ncj gc, upd_same, ?_, by rw [List.length_append, lp]; rfl, fun z hz => ?_⟩
      · rw [List.map_append]
        exact (rp11.app (.cons rq .nil)).on (Tx.put gpl)
      · rcases List.mem_append.mp hz with h | h
        · exact op z h
        · rw [List.mem_singleton.mp h]
          exact ⟨by show cn < ls.length; omega, ok2⟩
    rintro n σ' H5 ⟨y10, y11, y12, y13, ps, pv, rfl, hnm, j5, b5, gt, gb, hh, hk5, gc, gp, rp, lp, op⟩
    have lps : (ps.length : Int) ≤ mo := by omega
    clear b04 j4 hk4
    -- the columns
    refine q_forR1 (n := (ls.length : Int)) (ea_cons (ev_is (ev_len (ev_var rfl) (sq_of gb)) (by rw [lb0])) ea_nil) (by omega) (fun i σ' H' => ∃ y10 y11 y12 y13 y15, ∃ cv : List V, σ' = [some (.ref j), some (.ref kl), some (.int wd), some (.int mo), some (.ref tg), some (.ref lb), none, some (.ref hl), some (.ref pl), some (.ref cl), y10, y11, y12, y13, none, y15, none, none] ∧ (JarAt H' j ∧ But j H H' ∧ H' tg = some (.lst (ts.map V.str)) ∧ H' lb = some (.lst (ls.map V.str)) ∧ H' hl = some (.lst (hs.map fun n : Nat => V.int (n : Int))) ∧ H' kl = some (.lst (ks.map Kd.v)) ∧ H' pl = some (.lst pv) ∧ Reps H' pv (ps.map psD)) ∧ H' cl = some (.lst cv) ∧ Reps H' cv (((List.range i).map (colW ts hs ps ls)).map colD)) ?_ ?_ ?_
    · intro H6 e6
      exact ⟨_, _, _, _, none, [], rfl, ⟨j5.ex e6, b5.trans (But.ex e6), e6 _ _ gt, e6 _ _ gb, e6 _ _ hh, e6 _ _ hk5, e6 _ _ gp, rp.ex e6⟩, e6 _ _ gc, .nil⟩
    · rintro i σ' H6 hi ⟨y10, y11, y12, y13, y15, cv, rfl, ⟨j6, b6, gt, gb, hh, hk6, gp, rp⟩, gc, rc⟩
      have li : i < ls.length := by omega
      -- its sums
      have s1 := es_lcR (te := tOp (rIx K) (tVar 4) (tVar 14)) (t := tTest (tOp rEq (tOp (rIx K) (tVar 7) (tVar 14)) (tVar 10))) (g := gName 14) (vs := [14]) (ta := tCons (tCB (rLenS K) (tCons (tVar 4) tNil)) tNil) (σ := [some (.ref j), some (.ref kl), some (.int wd), some (.int mo), some (.ref tg), some (.ref lb), none, some (.ref hl), some (.ref pl), some (.ref cl), some (.int (i : Int)), y11, y12, y13, none, y15, none, none]) (H := H6) (n := (ts.length : Int))
        (ea_cons (ev_is (ev_len (ev_var rfl) (sq_of gt)) (by rw [lt0])) ea_nil) (by omega) (fun m => [some (.ref j), some (.ref kl), some (.int wd), some (.int mo), some (.ref tg), some (.ref lb), none, some (.ref hl), some (.ref pl), some (.ref cl), some (.int (i : Int)), y11, y12, y13, some (.int (m : Int)), y15, none, none]) (fun m => decide (hs.getD m 0 = i)) (fun m => .str (ts.getD m Str.empty)) (fun _ _ => rfl) (fun m H7 R hm e7 q => q)
        (fun m H7 hm e7 => et_is (et_test (ev_op (ev_op (ev_var rfl) (ev_var rfl) (rv_ixA (.inl (e7 _ _ hh)) (atI_nat (v := .int ((hs.getD m 0 : Nat) : Int)) (by rw [List.getElem?_map, List.getD_eq_getElem?_getD, List.getElem?_eq_getElem (by omega : m < hs.length)]; rfl)))) (ev_var rfl) (rv_eq rfl))) (by
          refine decide_eq_decide.mpr ⟨fun h => ?_, fun h => by rw [h]⟩
          have q := V.int.inj h
          omega))
        (fun m H7 hm e7 _ => er_str (ev_op (ev_var rfl) (ev_var rfl) (rv_ixA (.inl (e7 _ _ gt)) (strs_at (by omega)))))
      rw [Int.toNat_natCast] at s1
      refine q_asgR (d := .tuple (((colW ts hs ps ls i).sums).map PyData.str)) (er_tuple (K := K) (by
        have e : ((colW ts hs ps ls i).sums).map PyData.str = ((List.range ts.length).filter fun m => decide (hs.getD m 0 = i)).map fun m => PyData.str (ts.getD m Str.empty) := by
          show ((((List.range ts.length).filter _).map _).map _) = _
          rw [List.map_map]
          rfl
        rw [e]
        exact s1)) fun sv H7 e7 rs => ?_
      -- its data
      have rp7 := rp.ex e7
      have lpv : pv.length = ps.length := by rw [rp.len, List.length_map]
      have s2 := es_lcL (K := K) (te := tVar 17) (t := tTest (tOp rEq (tVar 16) (tVar 10))) (g := gTup K 2 (gCons (gName 16) (gCons (gName 17) gNil))) (vs := [16, 17]) (tl := tVar 8) (σ := [some (.ref j), some (.ref kl), some (.int wd), some (.int mo), some (.ref tg), some (.ref lb), none, some (.ref hl), some (.ref pl), some (.ref cl), some (.int (i : Int)), y11, y12, y13, none, some sv, none, none]) (H := H7) (a := pl) (xs := pv) (ev_var rfl) (e7 _ _ gp) (by omega)
        (fun m => [some (.ref j), some (.ref kl), some (.int wd), some (.int mo), some (.ref tg), some (.ref lb), none, some (.ref hl), some (.ref pl), some (.ref cl), some (.int (i : Int)), y11, y12, y13, none, some sv, some (.int (((ps.getD m (0, p0)).1 : Nat) : Int)), some (sndV H7 pv m)]) (fun m => decide ((ps.getD m (0, p0)).1 = i)) (fun m => pairD (ps.getD m (0, p0)).2) (fun _ _ => rfl)
        (fun m x H8 R hx e8 q => by
          obtain ⟨d, hd, rd⟩ := rp7.at hx
          rw [List.getElem?_map] at hd
          obtain ⟨z, hz, rfl⟩ := Option.map_eq_some_iff.mp hd
          obtain ⟨c, x1, x2, rfl, hc, r1, r2⟩ := Rep.two rd
          obtain rfl := r1.int_inv
          have ez : ps.getD m (0, p0) = z := by rw [List.getD_eq_getElem?_getD, hz]; rfl
          have e2 : sndV H7 pv m = x2 := by
            unfold sndV
            rw [hx]
            show (match H7 c with | some (.tup [_, y]) => y | _ => V.non) = x2
            rw [hc]
          rw [ez, e2] at q
          exact g_two (K := K) (e8 _ _ hc) q)
        (fun m x H8 hx e8 => et_is (et_test (ev_op (ev_var rfl) (ev_var rfl) (rv_eq rfl))) (by
          refine decide_eq_decide.mpr ⟨fun h => ?_, fun h => by rw [h]⟩
          have q := V.int.inj h
          omega))
        (fun m x H8 hx e8 _ => by
          obtain ⟨d, hd, rd⟩ := rp7.at hx
          rw [List.getElem?_map] at hd
          obtain ⟨z, hz, rfl⟩ := Option.map_eq_some_iff.mp hd
          have ez : ps.getD m (0, p0) = z := by rw [List.getD_eq_getElem?_getD, hz]; rfl
          obtain ⟨c, y1, y2, rfl, hc, r1, r2⟩ := Rep.two rd
          have e2 : sndV H7 pv m = y2 := by
            unfold sndV
            rw [hx]
            show (match H7 c with | some (.tup [_, y]) => y | _ => V.non) = y2
            rw [hc]
          rw [ez]
          exact er_var (by show some (some (sndV H7 pv m)) = _; rw [e2]) (r2.ex e8))
      rw [lpv] at s2
      have e8 : ((List.range ps.length).filter fun m => decide ((ps.getD m (0, p0)).1 = i)).map (fun m => pairD (ps.getD m (0, p0)).2) = (colW ts hs ps ls i).data.map pairD := by
        show _ = ((ps.filter fun z => decide (z.1 = i)).map (·.2)).map pairD
        rw [List.map_map]
        have q := range_getD ps (0, p0)
        have q2 : (ps.filter fun z => decide (z.1 = i)).map (pairD ∘ fun z => z.2) = ((((List.range ps.length).map fun m => ps.getD m (0, p0)).filter fun z => decide (z.1 = i)).map (pairD ∘ fun z => z.2)) := by rw [q]
        rw [q2, List.filter_map, List.map_map]
        rfl
      rw [e8] at s2
      refine ⟨_, rfl, ⟨Or.inl ⟨rfl, _, sq_of (e7 _ _ gc)⟩, cons_ ?_⟩⟩
      have er := er_tup (ds := [.str (ls.getD i Str.empty), .tuple (((colW ts hs ps ls i).sums).map PyData.str), .tuple ((colW ts hs ps ls i).data.map pairD)]) (era_cons (er_str (ev_op (r := rIx K) (ta := tVar 5) (tb := tVar 10) (σ := [some (.ref j), some (.ref kl), some (.int wd), some (.int mo), some (.ref tg), some (.ref lb), none, some (.ref hl), some (.ref pl), some (.ref cl), some (.int (i : Int)), y11, y12, y13, none, some sv, none, none]) (H := H7) (ev_var rfl) (ev_var rfl) (rv_ixA (.inl (e7 _ _ gb)) (strs_at li)))) (era_cons (er_var (i := 15) rfl rs) (era_cons (er_tuple (K := K) s2) era_nil))) (Nat.le_of_ble_eq_true rfl)
      refine er H7 (Ex.refl H7) _ fun v H8 e8 rv => nil_ ⟨cl, cv, v, rfl, rfl, e8 _ _ (e7 _ _ gc), sz_lt (by rw [rc.len, List.length_map, List.length_map, List.length_range]; omega), ?_⟩
      have e68 := e7.trans e8
      have gcl := e68 _ _ gc
      have tx : TX.Tx H8 (upd H8 cl (.lst (cv ++ [v]))) := Tx.put gcl
      refine ⟨_, _, _, _, some sv, cv ++ [v], rfl, ⟨(j6.ex e68).put ncj, (b6.trans (But.ex e68)).mut cl0, by rw [upd_ne nct.symm]; exact e68 _ _ gt, by rw [upd_ne ncl.symm]; exact e68 _ _ gb, by rw [upd_ne nch.symm]; exact e68 _ _ hh, by rw [upd_ne nck.symm]; exact e68 _ _ hk6, by rw [upd_ne npc.symm]; exact e68 _ _ gp, (rp.ex e68).on tx⟩, upd_same, ?_⟩
      rw [List.range_succ, List.map_append, List.map_append]
      exact ((rc.ex e68).app (.cons rv .nil)).on tx
    · rintro σ' H6 ⟨y10, y11, y12, y13, y15, cv, rfl, ⟨j6, b6, gt, gb, hh, hk6, gp, rp⟩, gc, rc⟩
      rw [Int.toNat_natCast] at rc
      refine ret_ (lst_ (cons_ (oneV_ rfl j6 (ev_var rfl) hk6 nkj (by rw [List.length_map]; exact kl1.1) (by rw [List.length_map]; exact kl1.2) fun v H7 hv j7 b7 => cons_ (var_ rfl (nil_ ⟨by show 2 ≤ sizeLine; decide, fun l hl2 => ?_⟩)))))
      obtain ⟨kd, hkd, rfl⟩ := List.mem_map.mp hv
      have e8 : Ex H7 (upd H7 l (.lst [kd.v, .ref cl])) := Ex.new hl2
      exact k l kd (colsW ts hs ps ls) cl cv _ ((b6.trans b7).trans (But.ex e8)) (j7.ex e8) ⟨upd_same, e8 _ _ (b7 _ _ ncj gc), (rc.on (b7.tx j6)).ex e8, j7.ne hl2, ncj⟩ (hks kd hkd) hkd (goodW (by omega) (by omega) (by omega) (by omega) ln ld tn td hhs op (by omega)) (by
        have dp := dataW (ts := ts) (hs := hs) (ps := ps) (lb := ls) fun z hz => (op z hz).1
        rw [dp.length_eq, List.length_map]
        exact lps)
end
end K30
end
section
set_option Elab.async false
set_option linter.all false
set_option maxRecDepth 100000
set_option maxHeartbeats 4000000
namespace K30
open PySem PySem.Spec PyProof.Rows L2 Evl TX
open C8 (Cal pe_c pe_gc)
def rSpanL : List V → Hp → List PyData → Prop := fun vs H ds => ∃ (f : Addr) (xs : List V) (cs : List Col), vs = [.ref f] ∧ H f = some (.lst xs) ∧ Reps H xs (cs.map colD) ∧ Good cs ∧ ds = cellsL cs
def rTiesL : List V → Hp → List PyData → Prop := fun vs H ds => ∃ (f : Addr) (xs : List V) (cs : List Col), vs = [.ref f] ∧ H f = some (.lst xs) ∧ Reps H xs (cs.map colD) ∧ Good cs ∧ ds = (dataOf cs).map pairD
def rFilled (K : PySem.W.Frag) : List V → Hp → PyData → Prop := fun vs H d => ∃ (j l p : Addr) (k : Kd) (cs : List Col) (f : Addr) (xs : List V) (ns : List Int), vs = [.ref l, .ref p] ∧ StoreAt H j l k cs f xs ∧ k.ok ∧ Good cs ∧ H p = some (.lst (ns.map V.int)) ∧ ns.length = (dataOf cs).length ∧ d = .tuple ((fullL k cs ns).map PyData.int)
def spBuilt (C : Addr) : Sp := fun vs H Q _ => ∃ (j l : Addr) (k : Kd) (cs : List Col) (f : Addr) (xs : List V), vs = [.ref l] ∧ StoreAt H j l k cs f xs ∧ k.ok ∧ Good cs ∧ ∀ a H', H a = none → Ex H H' → TabAt H' C a k cs → Q (.ref a) H'
theorem rep_col {H : Hp} {x : V} {c : Col} (r : Rep H x (colD c)) : ∃ (t s d : Addr) (dx : List V), x = .ref t ∧ H t = some (.tup [.str c.nm, .ref s, .ref d]) ∧ H s = some (.tup (c.sums.map V.str)) ∧ H d = some (.tup dx) ∧ Reps H dx (c.data.map pairD) := by
  obtain ⟨t, xs, rfl, ht, r⟩ := Rep.tup_inv r
  obtain ⟨a, xs, rfl, ra, r⟩ := r.cons_inv
  obtain ⟨b, xs, rfl, rb, r⟩ := r.cons_inv
  obtain ⟨c, xs, rfl, rc, r⟩ := r.cons_inv
  obtain rfl := r.nil_inv
  obtain rfl := ra.str_inv
  obtain ⟨s, sx, rfl, hs, rs⟩ := Rep.tup_inv rb
  obtain rfl := rs.strs
  obtain ⟨d, dx, rfl, hd, rd⟩ := Rep.tup_inv rc
  exact ⟨t, s, d, dx, rfl, ht, hs, hd, rd⟩
theorem reps_col {H : Hp} {xs : List V} {cs : List Col} (r : Reps H xs (cs.map colD)) {i : Nat} {x : V} (hx : xs[i]? = some x) : i < cs.length ∧ Rep H x (colD (cs.getD i c0)) := by
  obtain ⟨d, hd, rd⟩ := r.at hx
  rw [List.getElem?_map] at hd
  obtain ⟨c, hc, rfl⟩ := Option.map_eq_some_iff.mp hd
  have e : cs.getD i c0 = c := by rw [List.getD_eq_getElem?_getD, hc]; rfl
  rw [e]
  exact ⟨(List.getElem?_eq_some_iff.mp hc).1, rd⟩
theorem EvQ_of {te : TE} {σ : L2.St} {H : Hp} {p : Addr} {xs : List V} {ds : List PyData} (h : Ev te σ H (.ref p)) (hp : H p = some (.lst xs)) (rs : Reps H xs ds) : EvQ te σ H ds := fun H1 a Q q => h H1 a _ fun H2 a2 => q p xs H2 a2 ((a.trans a2) _ _ hp) (rs.ex (a.trans a2))
theorem q_par3W {σ : L2.St} {H : Hp} {D : Ends} {ta : TA} {tz : TS} {a b c : Nat} (h : ta σ H fun vs H1 => ∃ u v w, vs = [u, v, w] ∧ tz D (((σ.set a (some u)).set b (some v)).set c (some w)) H1) : tSeq (tPar3 a b c ta) tz D σ H := h
section
variable {P : Program} {w : World} {K : PySem.W.Frag} {mg : Str → Option Value} {base : Heap} {f : Addr} {fd : FuncData}
abbrev sc_law_ties_N : List Str := ["_law_columns", "_law_found", "_law_label", "_law_sums", "_law_data"]
theorem sc_law_ties : FnScope sc_law_ties_N ["_law_columns"] (defScope s_law_ties) := ⟨rfl, rfl, rfl, by decide +kernel, rfl, by decide +kernel, by decide +kernel⟩
theorem ok_ties (F : FnP K "_law_ties" s_law_ties f fd) (T : Tops mg)  : FnOk P w K mg base CX0 1 f fd ["_law_columns"] (lSp rTiesL) := by
  refine F.ok sc_law_ties (fun vs H Q E h => ?_) (fun cdv A outer s H vs Q E hr h => ?_)
  · obtain ⟨d, ⟨f0, xs0, cs, rfl, _⟩, _⟩ := h; rfl
  · obtain ⟨d, ⟨f0, xs0, cs, rfl, hf, rp, G, rfl⟩, k⟩ := h
    refine ⟨_, PSs.nox (pss_cons (ps_set (i := 1) sc_law_ties.nd rfl (.inl rfl) (pe_lst pa_nil))
  (pss_cons (ps_for PassesOwn.never rfl (pi_list (pv 0)) (pg_tup rfl (pgs_cons (pg_name (i := 2) sc_law_ties.nd rfl (.inl rfl)) (pgs_cons (pg_name (i := 3) sc_law_ties.nd rfl (.inl rfl)) (pgs_cons (pg_name (i := 4) sc_law_ties.nd rfl (.inl rfl)) pgs_nil))))
  (pss_one (ps_set (i := 1) sc_law_ties.nd rfl (.inl rfl) (pe_op op_cat (pv 1) (pe_callTy (call_list_of : CallR _ (.type "list") (rListS K)) (by rfl) T.n_list (by decide +kernel) (pa_cons (pv 4) pa_nil))))))
  (pss_one (ps_ret (pv 1))))), ?_⟩
    refine q_asgL (el_lst ea_nil (Nat.le_of_ble_eq_true rfl)) fun p1 H1 hp1 e1 h1 => ?_
    refine q_forL (K := K) (a := f0) (ev_var rfl) (sq_of (e1 _ _ hf)) (fun i σ' H' => ∃ p xs y z u, σ' = [some (.ref f0), some (.ref p), y, z, u] ∧ Ex H1 H' ∧ H p = none ∧ H' p = some (.lst xs) ∧ Reps H' xs ((dataOf (cs.take i)).map pairD))
      (fun H2 e2 => ⟨p1, [], none, none, none, rfl, e2, hp1, e2 _ _ h1, .nil⟩) (fun i σ' H' _ ⟨_, _, _, _, _, _, q, _⟩ => sq_of (q _ _ (e1 _ _ hf))) ?_ ?_
    · rintro i x σ' H3 hx ⟨p, xs, y, z, u, rfl, e3, hp, h3, rs⟩
      obtain ⟨lt, rc⟩ := reps_col rp hx
      obtain ⟨t, s, d, dx, rfl, ht, hs, hd, rd⟩ := rep_col (rc.ex (e1.trans e3))
      refine g_three (K := K) ht ?_
      have ed := data_take cs i _ (getc lt)
      have ld := data_le G (i + 1)
      rw [ed, List.length_append] at ld
      refine s_asgS (es_catQ (eq_var rfl h3 rs) (es_listR (K := K) (er_var rfl (Rep.tup hd rd))).q (by rw [List.length_map, List.length_map]; omega)) fun q zs H4 hq e4 h4 r4 => ?_
      refine ⟨q, zs, _, _, _, rfl, e3.trans e4, fresh_back (e1.trans e3) hq, h4, ?_⟩
      rw [ed, List.map_append]
      exact r4
    · rintro σ' H3 ⟨p, xs, y, z, u, rfl, e3, hp, h3, rs⟩
      have lx : xs0.length = cs.length := by rw [rp.len, List.length_map]
      rw [lx, List.take_length] at rs
      exact s_ret (ev_var rfl) fun H4 e4 => k p xs H4 hp ((e1.trans e3).trans e4) (e4 _ _ h3) (rs.ex e4)
abbrev sc_law_span_N : List Str := ["_law_columns", "_law_found", "_law_many", "_law_label", "_law_sums", "_law_data", "_law_tag", "_law_k"]
theorem sc_law_span : FnScope sc_law_span_N ["_law_columns"] (defScope s_law_span) := ⟨rfl, rfl, rfl, by decide +kernel, rfl, by decide +kernel, by decide +kernel⟩
theorem ok_span (F : FnP K "_law_span" s_law_span f fd) (T : Tops mg)  : FnOk P w K mg base CX0 1 f fd ["_law_columns"] (lSp rSpanL) := by
  refine F.ok sc_law_span (fun vs H Q E h => ?_) (fun cdv A outer s H vs Q E hr h => ?_)
  · obtain ⟨d, ⟨f0, xs0, cs, rfl, _⟩, _⟩ := h; rfl
  · obtain ⟨d, ⟨f0, xs0, cs, rfl, hf, rp, G, rfl⟩, k⟩ := h
    refine ⟨_, PSs.nox (pss_cons (ps_asg (pe_tup (pa_cons (pe_lst pa_nil) (pa_cons pe_int pa_nil))) (pg_tup rfl (pgs_cons (pg_name (i := 1) sc_law_span.nd rfl (.inl rfl)) (pgs_cons (pg_name (i := 2) sc_law_span.nd rfl (.inr rfl)) pgs_nil))))
  (pss_cons (ps_for PassesOwn.never rfl (pi_list (pv 0)) (pg_tup rfl (pgs_cons (pg_name (i := 3) sc_law_span.nd rfl (.inl rfl)) (pgs_cons (pg_name (i := 4) sc_law_span.nd rfl (.inl rfl)) (pgs_cons (pg_name (i := 5) sc_law_span.nd rfl (.inl rfl)) pgs_nil))))
  (pss_cons (ps_set (i := 1) sc_law_span.nd rfl (.inl rfl) (pe_op op_cat (pe_op op_cat (pv 1) (pe_lc (own := [("_law_tag", 6)]) (g := gName 6) (tt := tYes) rfl sc_law_span.nd (pi_tup (pv 4)) (blkOk_by (own := [("_law_tag", 6)]) (N := sc_law_span_N) (sc := defScope s_law_span) (by decide +kernel)) (fun _ _ _ _ _ => (pg_name (i := 6) sc_law_span.nd rfl (.inl rfl))) (fun _ _ _ _ _ => pts_nil) (fun _ _ _ _ _ => (pe_tup (pa_cons pe_str (pa_cons (pv 6) pa_nil)))))) (pe_lc (own := [("_law_k", 7)]) (g := gName 7) (tt := tYes) rfl sc_law_span.nd (pi_range1 rfl T.n_range (pa_cons (pe_callB (call_len_seq : CallR _ (.builtin "len") (rLenS K)) (by rfl) T.n_len PySem.boot_len (pa_cons (pv 5) pa_nil)) pa_nil)) (blkOk_by (own := [("_law_k", 7)]) (N := sc_law_span_N) (sc := defScope s_law_span) (by decide +kernel)) (fun _ _ _ _ _ => (pg_name (i := 7) sc_law_span.nd rfl (.inl rfl))) (fun _ _ _ _ _ => pts_nil) (fun _ _ _ _ _ => (pe_tup (pa_cons pe_str (pa_cons (pe_op op_add (pv 2) (pv 7)) pa_nil)))))))
  (pss_one (ps_set (i := 2) sc_law_span.nd rfl (.inr rfl) (pe_op op_add (pv 2) (pe_callB (call_len_seq : CallR _ (.builtin "len") (rLenS K)) (by rfl) T.n_len PySem.boot_len (pa_cons (pv 5) pa_nil)))))))
  (pss_one (ps_ret (pv 1))))), ?_⟩
    refine q_tupLV (K := K) (el_lst ea_nil (Nat.le_of_ble_eq_true rfl)) ev_c fun p1 H1 hp1 e1 h1 => ?_
    refine q_forL (K := K) (a := f0) (ev_var rfl) (sq_of (e1 _ _ hf)) (fun i σ' H' => ∃ p xs y z u, σ' = [some (.ref f0), some (.ref p), some (.int (firstOf cs i)), y, z, u, none, none] ∧ Ex H1 H' ∧ H p = none ∧ H' p = some (.lst xs) ∧ Reps H' xs ((List.range i).flatMap (cellsAt cs)))
      (fun H2 e2 => ⟨p1, [], none, none, none, rfl, e2, hp1, e2 _ _ h1, .nil⟩) (fun i σ' H' _ ⟨_, _, _, _, _, _, q, _⟩ => sq_of (q _ _ (e1 _ _ hf))) ?_ ?_
    · rintro i x σ' H3 hx ⟨p, xs, y, z, u, rfl, e3, hp, h3, rs⟩
      obtain ⟨lt, rc⟩ := reps_col rp hx
      obtain ⟨t, s, d, dx, rfl, ht, hs, hd, rd⟩ := rep_col (rc.ex (e1.trans e3))
      refine g_three (K := K) ht ?_
      have lc := cells_take G (i := i + 1) lt
      rw [List.range_succ, List.flatMap_append, List.length_append] at lc
      have lc2 : ((List.range i).flatMap (cellsAt cs)).length + (cellsAt cs i).length ≤ 1000 := by
        have : ([i].flatMap (cellsAt cs)).length = (cellsAt cs i).length := by simp
        omega
      unfold cellsAt cellsC at lc2
      rw [List.length_append, List.length_map, List.length_map, List.length_range] at lc2
      have ldx : dx.length = (cs.getD i c0).data.length := by rw [rd.len, List.length_map]
      have s1 := es_lcT1 (K := K) (te := tTup (tCons (tC (.str "sum")) (tCons (tVar 6) tNil))) (g := gName 6) (vs := [6]) (tl := tVar 4) (σ := [some (.ref f0), some (.ref p), some (.int (firstOf cs i)), some (.str (cs.getD i c0).nm), some (.ref s), some (.ref d), none, none]) (H := H3) (a := s) (xs := (cs.getD i c0).sums.map V.str)
        (ev_var rfl) hs (by rw [List.length_map]; omega) (fun m => [some (.ref f0), some (.ref p), some (.int (firstOf cs i)), some (.str (cs.getD i c0).nm), some (.ref s), some (.ref d), ((cs.getD i c0).sums.map V.str)[m]?, none]) (fun m => sumC ((cs.getD i c0).sums.getD m Str.empty)) (fun _ _ => rfl)
        (fun m x H5 R hx e5 q => by rw [hx] at q; exact q) (fun m x H5 hx e5 => by
          have hx' := hx
          rw [List.getElem?_map] at hx
          obtain ⟨w, hw, rfl⟩ := Option.map_eq_some_iff.mp hx
          have ew : (cs.getD i c0).sums.getD m Str.empty = w := by rw [List.getD_eq_getElem?_getD, hw]; rfl
          rw [ew]
          exact er_tup (era_cons (er_str ev_c) (era_cons (er_str (ev_var (by rw [hx']; rfl))) era_nil)) (Nat.le_of_ble_eq_true rfl))
      have q1 : ((List.range ((cs.getD i c0).sums.map V.str).length).map fun m => sumC ((cs.getD i c0).sums.getD m Str.empty)) = (cs.getD i c0).sums.map sumC := by rw [List.length_map]; exact rg sumC Str.empty _
      rw [q1] at s1
      have s2 := es_lcR1 (te := tTup (tCons (tC (.str "datum")) (tCons (tOp rAdd (tVar 2) (tVar 7)) tNil))) (g := gName 7) (vs := [7]) (ta := tCons (tCB (rLenS K) (tCons (tVar 5) tNil)) tNil) (σ := [some (.ref f0), some (.ref p), some (.int (firstOf cs i)), some (.str (cs.getD i c0).nm), some (.ref s), some (.ref d), none, none]) (H := H3) (n := (dx.length : Int))
        (ea_cons (ev_is (ev_lenR (K := K) (er_var rfl (Rep.tup hd rd))) (by rw [← rd.len])) ea_nil) (by omega) (fun m => [some (.ref f0), some (.ref p), some (.int (firstOf cs i)), some (.str (cs.getD i c0).nm), some (.ref s), some (.ref d), none, some (.int (m : Int))]) (fun m => datC (firstOf cs i + (m : Int))) (fun _ _ => rfl)
        (fun m H5 R hx e5 q => q) (fun m H5 hx e5 => er_tup (era_cons (er_str ev_c) (era_cons (er_int (ev_op (ev_var rfl) (ev_var rfl) rv_I0)) era_nil)) (Nat.le_of_ble_eq_true rfl))
      rw [Int.toNat_natCast, ldx] at s2
      refine q_asgS (es_catQ (es_catQ (eq_var rfl h3 rs) s1.q (by rw [List.length_map]; omega)).q s2.q (by rw [List.length_append, List.length_map, List.length_map, List.length_range]; omega)) fun p5 xs5 H5 hp5 e5 h5 r5 => ?_
      refine s_asg (ev_op (ev_var rfl) (ev_is (ev_lenR (K := K) (er_var rfl ((Rep.tup hd rd).ex e5))) (by rw [← rd.len])) rv_I0) fun H6 e6 => ?_
      refine ⟨p5, xs5, some (.str (cs.getD i c0).nm), some (.ref s), some (.ref d), ?_, e3.trans (e5.trans e6), fresh_back (e1.trans e3) hp5, e6 _ _ h5, ?_⟩
      · have ef : firstOf cs (i + 1) = firstOf cs i + (dx.length : Int) := by
          unfold firstOf
          rw [data_take cs i _ (getc lt), List.length_append, ldx]
          omega
        rw [ef]
        rfl
      · rw [List.range_succ, List.flatMap_append]
        have e7 : [i].flatMap (cellsAt cs) = cellsAt cs i := by simp
        rw [e7]
        unfold cellsAt cellsC
        rw [← List.append_assoc]
        exact r5.ex e6
    · rintro σ' H3 ⟨p, xs, y, z, u, rfl, e3, hp, h3, rs⟩
      have lx : xs0.length = cs.length := by rw [rp.len, List.length_map]
      rw [lx] at rs
      exact s_ret (ev_var rfl) fun H4 e4 => k p xs H4 hp ((e1.trans e3).trans e4) (e4 _ _ h3) (rs.ex e4)
abbrev sc_law_built_N : List Str := ["_law_store"]
theorem sc_law_built : FnScope sc_law_built_N ["_law_store"] (defScope s_law_built) := ⟨rfl, rfl, rfl, by decide +kernel, rfl, by decide +kernel, by decide +kernel⟩
theorem ok_built (F : FnP K "_law_built" s_law_built f fd) (T : Tops mg) {C : Addr} (M_Table : C8.Mak P w K mg base 5 "Table" C (tSp C) [])  : FnOk P w K mg base CX0 7 f fd ["_law_store"] (spBuilt C) := by
  refine F.ok sc_law_built (fun vs H Q E h => ?_) (fun cdv A outer s H vs Q E hr h => ?_)
  · obtain ⟨j, l, kd, cs, f0, xs0, rfl, _⟩ := h; rfl
  · obtain ⟨j, l, kd, cs, f0, xs0, rfl, S0, hk, G, k⟩ := h
    refine ⟨_, PSs.nox (pss_one (ps_ret (C8.pe_mk M_Table hr (by decide) rfl (pa_cons (pe_ix (ix_seq : IxR _ (rIx K)) (pv 0) pe_int (fun _ _ => rfl)) (pa_cons (pe_callTy (call_tuple_of : CallR _ (.type "tuple") (rTupS K)) (by rfl) T.n_tuple (by decide +kernel) (pa_cons (pe_ix (ix_seq : IxR _ (rIx K)) (pv 0) pe_int (fun _ _ => rfl)) pa_nil)) pa_nil))))), ?_⟩
    refine ret_ ?_
    refine make_ (cons_ (ev_ (ev_op (ev_var rfl) ev_c (rv_ixA (.inl S0.hl) at_zero)) fun H2 e2 => cons_ ?_))
    have et : EvR (tCB (rTupS K) (tCons (tOp (rIx K) (tVar 0) (tC (.int 1))) tNil)) [some (.ref l)] H2 (colsD cs) := er_tupleQ (EvQ_of (ev_op (ev_var rfl) ev_c (rv_ixA (.inl (e2 _ _ S0.hl)) at_one)) (S0.ex e2).hf (S0.ex e2).rp)
    refine et H2 (Ex.refl H2) _ fun v H3 e3 rv => nil_ (fun x dx hx hdx ne => ?_)
    have e4 : Ex H3 (upd (upd H3 dx (.own x)) x (.ins C dx [])) := (Ex.new hdx).trans (Ex.new (by rw [upd_ne ne.symm]; exact hx))
    refine ⟨x, dx, kd, v, cs, rfl, hk, rv.ex e4, G, upd_same, fun H5 b5 tab => ⟨rfl, k x H5 (fresh_back (e2.trans e3) hx) (fun b o hb => ?_) tab⟩⟩
    have hb3 := (e2.trans e3) _ _ hb
    exact b5 b o (fun z => by rw [z, hx] at hb3; cases hb3) (e4 _ _ hb3)
end
end K30
end
section
set_option Elab.async false
set_option linter.all false
set_option maxRecDepth 100000
set_option maxHeartbeats 4000000
namespace K30
open PySem PySem.Spec PyProof.Rows L2 Evl TX
open C8 (Cal pe_c pe_gc)
/-! ### the mirror of the nets -/
def hasC (lost : List PyData) (d : PyData) : Bool := lost.any fun z => decide (keyOf z = keyOf d)
def goneD (lost : List PyData) : List (List Key × V) := lost.foldl (fun a d => putK a (keyOf d) (.bl true)) []
theorem gone_from : ∀ (lost : List PyData) (acc : List (List Key × V)) (k : List Key), (valV (lost.foldl (fun a d => putK a (keyOf d) (.bl true)) acc) k).isSome = ((valV acc k).isSome || lost.any fun z => decide (keyOf z = k))
  | [], acc, k => by simp
  | d :: r, acc, k => by
    show (valV (r.foldl (fun a d => putK a (keyOf d) (.bl true)) (putK acc (keyOf d) (.bl true))) k).isSome = _
    rw [gone_from r, valV_put, List.any_cons]
    by_cases e : k = keyOf d
    · rw [if_pos e, decide_eq_true e.symm]
      simp
    · rw [if_neg e, decide_eq_false (fun z => e z.symm)]
      simp
theorem gone_has (lost : List PyData) (d : PyData) : (valV (goneD lost) (keyOf d)).isSome = hasC lost d := by
  unfold goneD hasC
  rw [gone_from]
  simp [valV_nil]
theorem gone_len : ∀ (lost : List PyData) (acc : List (List Key × V)), (lost.foldl (fun a d => putK a (keyOf d) (.bl true)) acc).length ≤ acc.length + lost.length
  | [], acc => by simp
  | d :: r, acc => by
    have q := gone_len r (putK acc (keyOf d) (.bl true))
    have q2 := length_putK acc (keyOf d) (V.bl true)
    show (r.foldl (fun a d => putK a (keyOf d) (.bl true)) (putK acc (keyOf d) (.bl true))).length ≤ _
    rw [List.length_cons]
    omega
def netP (cs : List Col) (lost : List PyData) : List (Nat × Str × Str) := ((List.range (dataOf cs).length).filter fun n : Nat => hasC lost (datC (n : Int))).map fun n => (n, (dataOf cs).getD n p0)
def netS (cs : List Col) (lost : List PyData) : List Str := (sumsOf cs).filter fun s => !hasC lost (sumC s)
def netL (ps : List (Nat × Str × Str)) (s : Str) : List Nat := ps.flatMap fun z => ([z.2.1, z.2.2].filter fun t => decide (t = s)).map fun _ => z.1
def acrossP (z : Str × Str) (s : Str) : Str := if s = z.1 then z.2 else z.1
/-- colours by fuel: what waits, and what is told -/
def walkN (ps : List (Nat × Str × Str)) (ss : List Str) : Nat → List Str → List (Str × Int) → List (Str × Int)
  | 0, _, cl => cl
  | n + 1, ws, cl => match ws.getLast? with
    | none => cl
    | some s =>
      let st := (netL ps s).foldl (fun (a : List Str × List (Str × Int)) m =>
        let o := acrossP (((ps.find? fun z => z.1 = m).map (·.2)).getD p0) s
        if ss.contains o && !(a.2.any fun q => q.1 = o) then (a.1 ++ [o], a.2 ++ [(o, -(((a.2.find? fun q => q.1 = s).map (·.2)).getD 0))]) else a) (ws.dropLast, cl)
      walkN ps ss n st.1 st.2
def colN (ps : List (Nat × Str × Str)) (ss : List Str) (start : Str) : List (Str × Int) := walkN ps ss (ss.length + 1) [start] [(start, 1)]
section
variable {K : PySem.W.Frag} {σ : L2.St} {H : Hp} {tk tv : TE}
/-- {t: True for t in xs}, the tuples told -/
theorem ed_dcT {J : It} {n : Nat} {G : Hp → Prop} {Y : Nat → Hp → V → Hp → Prop} {wi : TI} {g : TG} {vs : List Nat} (W : Walk J n G Y) (hn : n ≤ 900) (st : Nat → L2.St) (D : Nat → PyData)
    (hwi : ∀ H1, Ex H H1 → ∀ R : It → Hp → Prop, (∀ H2, Ex H1 H2 → G H2 → R J H2) → wi σ H1 R) (hG : ∀ H1 H2, Ex H1 H2 → G H1 → G H2) (hw : ∀ i, i < n → wipe (st i) vs = wipe σ vs)
    (hg : ∀ i x H1 H2 (R : L2.St → Hp → Prop), i < n → Ex H H1 → G H1 → Y i H1 x H2 → (∀ H3, Ex H1 H3 → R (st i) H3) → g x (wipe σ vs) H2 R)
    (hk : ∀ i H1, i < n → Ex H H1 → ∀ Q : VK, (∀ b H2, Ex H1 H2 → H2 b = some (.tup ((keyOf (D i)).map kV)) → Q (.ref b) H2) → tk (st i) H1 Q) (he : ∀ i H1, i < n → Ex H H1 → Ev tv (st i) H1 (.bl true)) :
    ∀ H0, Ex H H0 → ∀ Q : VK, (∀ p H2, H0 p = none → Ex H0 H2 → H2 p = some (.dT (goneD ((List.range n).map D))) → Q (.ref p) H2) → BE.tDcT wi g tk tv vs σ H0 Q := fun H0 e Q q => hwi H0 e _ fun H1 e1 gg Dl hD => by
  let Pv : Nat → Hp → Prop := fun i H' => Ex H1 H' ∧ H' Dl = some (.dT (goneD ((List.range i).map D)))
  refine ⟨fun i m H' => m = n - i ∧ i ≤ n ∧ Pv i H', ⟨n, by simp, Nat.zero_le _, Ex.new hD, upd_same⟩, ?_⟩
  rintro i m H2 ⟨rfl, hi, e2, ha⟩
  have g2 := hG H1 H2 e2 gg
  by_cases lt : i < n
  · refine .inr ⟨W.goes i H2 lt g2, Pv (i + 1), fun H3 p => ⟨n - (i + 1), by omega, rfl, lt, p⟩, fun x H3 hy => hg i x H2 H3 _ lt ((e.trans e1).trans e2) g2 (W.yields i H2 x H3 lt g2 hy) fun H4 e4 => ⟨hw i lt, ?_⟩⟩
    have x4 := ((e.trans e1).trans e2).trans e4
    refine hk i H4 lt x4 _ fun b H5 e5 hb => he i H5 lt (x4.trans e5) H5 (Ex.refl H5) _ fun H6 e6 => ?_
    have h6 := e6 _ _ (e5 _ _ (e4 _ _ ha))
    have ll := gone_len ((List.range i).map D) []
    rw [List.length_map, List.length_range] at ll
    refine ⟨_, keyOf (D i), b, rfl, h6, e6 _ _ hb, sz_lt (by unfold goneD; simp only [List.length_nil] at ll; omega), Ex.mut (((e2.trans e4).trans e5).trans e6) hD, ?_⟩
    rw [upd_same, List.range_succ, List.map_append]
    unfold goneD
    rw [List.foldl_append]
    rfl
  · obtain rfl : i = n := by omega
    refine .inl ⟨W.stops H2 g2, q Dl H2 ?_ (e1.trans e2) ha⟩
    cases h : H0 Dl with
    | none => rfl
    | some o => exact absurd (e1 _ _ h) (by rw [hD]; exact fun z => nomatch z)
end
end K30
end
section
set_option Elab.async false
set_option linter.all false
set_option maxRecDepth 100000
set_option maxHeartbeats 4000000
namespace K30
open PySem PySem.Spec PyProof.Rows L2 Evl TX
open C8 (Cal pe_c pe_gc)
section
variable {K : PySem.W.Frag} {σ : L2.St} {H : Hp} {tk tv ty td : TE} {tt : TT}
/-- a cell in a dict with tuple keys -/
theorem et_din {g : Addr} {kvs : List (List Key × V)} {d : PyData} (hy : EvR ty σ H d) (hf : (∃ w, d = sumC w) ∨ ∃ n, d = datC n) (hd : Ev td σ H (.ref g)) (hg : H g = some (.dT kvs)) : EvT (tB (tDIn ty td)) σ H (valV kvs (keyOf d)).isSome := fun H1 e Q q =>
  hy H1 e _ fun v H2 e2 rv => hd H2 (e.trans e2) _ fun H3 e3 => by
    obtain ⟨b, rfl, hb⟩ := cell_key (rv.ex e3) hf
    exact ⟨g, _, rfl, DGet.t (((e.trans e2).trans e3) _ _ hg) hb, _, rfl, q H3 (e2.trans e3)⟩
theorem et_dnotin {g : Addr} {kvs : List (List Key × V)} {d : PyData} (hy : EvR ty σ H d) (hf : (∃ w, d = sumC w) ∨ ∃ n, d = datC n) (hd : Ev td σ H (.ref g)) (hg : H g = some (.dT kvs)) : EvT (tB (tDNotIn ty td)) σ H (!(valV kvs (keyOf d)).isSome) := fun H1 e Q q =>
  hy H1 e _ fun v H2 e2 rv => hd H2 (e.trans e2) _ fun H3 e3 => by
    obtain ⟨b, rfl, hb⟩ := cell_key (rv.ex e3) hf
    exact ⟨g, _, rfl, DGet.t (((e.trans e2).trans e3) _ _ hg) hb, _, rfl, q H3 (e2.trans e3)⟩
theorem keyV_inj : ∀ {a b : Key}, kV a = kV b → a = b
  | .inl i, .inl j, h => by rw [V.int.inj h]
  | .inr i, .inr j, h => by rw [V.str.inj h]
  | .inl i, .inr j, h => nomatch h
  | .inr i, .inl j, h => nomatch h
/-- a dict comprehension with an if, keys of both kinds, its values told -/
theorem ed_dcG {J : It} {n : Nat} {G : Hp → Prop} {Y : Nat → Hp → V → Hp → Prop} {wi : TI} {g : TG} {vs : List Nat} (W : Walk J n G Y) (hn : n ≤ 900) (st : Nat → L2.St) (f : Nat → Bool) (ky : Nat → Key) (vv : Nat → V) (nd : (((List.range n).filter f).map ky).Nodup)
    (hwi : ∀ H1, Ex H H1 → ∀ R : It → Hp → Prop, (∀ H2, Ex H1 H2 → G H2 → R J H2) → wi σ H1 R) (hG : ∀ H1 H2, Ex H1 H2 → G H1 → G H2) (hw : ∀ i, i < n → wipe (st i) vs = wipe σ vs)
    (hg : ∀ i x H1 H2 (R : L2.St → Hp → Prop), i < n → Ex H H1 → G H1 → Y i H1 x H2 → (∀ H3, Ex H1 H3 → R (st i) H3) → g x (wipe σ vs) H2 R)
    (ht : ∀ i H1, i < n → Ex H H1 → EvT tt (st i) H1 (f i)) (hk : ∀ i H1, i < n → Ex H H1 → f i = true → Ev tk (st i) H1 (kV (ky i))) (he : ∀ i H1, i < n → Ex H H1 → f i = true → Ev tv (st i) H1 (vv i)) :
    ∀ H0, Ex H H0 → ∀ Q : VK, (∀ p H2, H0 p = none → Ex H0 H2 → H2 p = some (.dK (((List.range n).filter f).map fun i => (ky i, vv i))) → Q (.ref p) H2) → tDc wi g tt tk tv vs σ H0 Q := fun H0 e Q q => hwi H0 e _ fun H1 e1 gg Dl hD => by
  let Pv : Nat → Hp → Prop := fun i H' => Ex H1 H' ∧ H' Dl = some (.dK (((List.range i).filter f).map fun i => (ky i, vv i)))
  refine ⟨fun i m H' => m = n - i ∧ i ≤ n ∧ Pv i H', ⟨n, by simp, Nat.zero_le _, Ex.new hD, upd_same⟩, ?_⟩
  rintro i m H2 ⟨rfl, hi, e2, ha⟩
  have g2 := hG H1 H2 e2 gg
  by_cases lt : i < n
  · refine .inr ⟨W.goes i H2 lt g2, Pv (i + 1), fun H3 p => ⟨n - (i + 1), by omega, rfl, lt, p⟩, fun x H3 hy => hg i x H2 H3 _ lt ((e.trans e1).trans e2) g2 (W.yields i H2 x H3 lt g2 hy) fun H4 e4 => ⟨hw i lt, ?_⟩⟩
    have x4 := ((e.trans e1).trans e2).trans e4
    refine ht i H4 lt x4 H4 (Ex.refl H4) _ fun H5 e5 => ?_
    have x5 := x4.trans e5
    cases hf : f i with
    | false =>
      show Ex H1 H5 ∧ _
      refine ⟨(e2.trans e4).trans e5, ?_⟩
      rw [List.range_succ, List.filter_append, List.map_append, List.filter_cons, if_neg (by rw [hf]; decide)]
      show H5 Dl = some (.dK (_ ++ []))
      rw [List.append_nil]
      exact e5 _ _ (e4 _ _ ha)
    | true =>
      show tk (st i) H5 _
      refine hk i H5 lt x5 hf H5 (Ex.refl H5) _ fun H6 e6 => he i H6 lt (x5.trans e6) hf H6 (Ex.refl H6) _ fun H7 e7 => ?_
      have h7 := e7 _ _ (e6 _ _ (e5 _ _ (e4 _ _ ha)))
      have ll : ((List.range i).filter f).length ≤ i := by have := List.length_filter_le f (List.range i); rw [List.length_range] at this; exact this
      refine ⟨_, ky i, rfl, h7, sz_lt (by rw [List.length_map]; omega), Ex.mut ((((e2.trans e4).trans e5).trans e6).trans e7) hD, ?_⟩
      rw [upd_same, put_new]
      · rw [List.range_succ, List.filter_append, List.map_append, List.filter_cons, if_pos hf]
        rfl
      · intro z hz ez
        obtain ⟨m, hm, rfl⟩ := List.mem_map.mp hz
        have sub : ((List.range (i + 1)).filter f).Sublist ((List.range n).filter f) := (List.range_sublist.mpr lt).filter f
        have nd2 := nd.sublist (sub.map ky)
        rw [List.range_succ, List.filter_append, List.map_append, List.filter_cons, if_pos hf] at nd2
        exact (List.nodup_append.mp nd2).2.2 (ky m) (List.mem_map.mpr ⟨m, hm, rfl⟩) (ky i) (by simp) ez
  · obtain rfl : i = n := by omega
    refine .inl ⟨W.stops H2 g2, q Dl H2 ?_ (e1.trans e2) ha⟩
    cases h : H0 Dl with
    | none => rfl
    | some o => exact absurd (e1 _ _ h) (by rw [hD]; exact fun z => nomatch z)
/-- {k: [] ..}: new lists, all apart -/
theorem ed_dcL {J : It} {n : Nat} {G : Hp → Prop} {Y : Nat → Hp → V → Hp → Prop} {wi : TI} {g : TG} {vs : List Nat} (W : Walk J n G Y) (hn : n ≤ 900) (st : Nat → L2.St) (f : Nat → Bool) (ky : Nat → Key) (nd : (((List.range n).filter f).map ky).Nodup)
    (hwi : ∀ H1, Ex H H1 → ∀ R : It → Hp → Prop, (∀ H2, Ex H1 H2 → G H2 → R J H2) → wi σ H1 R) (hG : ∀ H1 H2, Ex H1 H2 → G H1 → G H2) (hw : ∀ i, i < n → wipe (st i) vs = wipe σ vs)
    (hg : ∀ i x H1 H2 (R : L2.St → Hp → Prop), i < n → Ex H H1 → G H1 → Y i H1 x H2 → (∀ H3, Ex H1 H3 → R (st i) H3) → g x (wipe σ vs) H2 R)
    (ht : ∀ i H1, i < n → Ex H H1 → EvT tt (st i) H1 (f i)) (hk : ∀ i H1, i < n → Ex H H1 → f i = true → Ev tk (st i) H1 (kV (ky i))) :
    ∀ H0, Ex H H0 → ∀ Q : VK, (∀ p (la : List Addr) H2, H0 p = none → Ex H0 H2 → la.length = ((List.range n).filter f).length → la.Nodup → p ∉ la → (∀ a ∈ la, H0 a = none ∧ H2 a = some (.lst [])) → H2 p = some (.dK ((((List.range n).filter f).map ky).zip (la.map V.ref))) → Q (.ref p) H2) → tDc wi g tt tk (tLst tNil) vs σ H0 Q := fun H0 e Q q => hwi H0 e _ fun H1 e1 gg Dl hD => by
  let Pv : Nat → Hp → Prop := fun i H' => Ex H1 H' ∧ ∃ la : List Addr, la.length = ((List.range i).filter f).length ∧ la.Nodup ∧ Dl ∉ la ∧ (∀ a ∈ la, H1 a = none ∧ H' a = some (.lst [])) ∧ H' Dl = some (.dK ((((List.range i).filter f).map ky).zip (la.map V.ref)))
  refine ⟨fun i m H' => m = n - i ∧ i ≤ n ∧ Pv i H', ⟨n, by simp, Nat.zero_le _, Ex.new hD, [], rfl, .nil, List.not_mem_nil, fun a h => absurd h List.not_mem_nil, upd_same⟩, ?_⟩
  rintro i m H2 ⟨rfl, hi, e2, la, ll0, ln, lD, le, ha⟩
  have g2 := hG H1 H2 e2 gg
  by_cases lt : i < n
  · refine .inr ⟨W.goes i H2 lt g2, Pv (i + 1), fun H3 p => ⟨n - (i + 1), by omega, rfl, lt, p⟩, fun x H3 hy => hg i x H2 H3 _ lt ((e.trans e1).trans e2) g2 (W.yields i H2 x H3 lt g2 hy) fun H4 e4 => ⟨hw i lt, ?_⟩⟩
    have x4 := ((e.trans e1).trans e2).trans e4
    refine ht i H4 lt x4 H4 (Ex.refl H4) _ fun H5 e5 => ?_
    have x5 := x4.trans e5
    have e25 := e4.trans e5
    cases hf : f i with
    | false =>
      show Ex H1 H5 ∧ _
      refine ⟨e2.trans e25, la, ?_, ln, lD, fun a h => ⟨(le a h).1, e25 _ _ (le a h).2⟩, ?_⟩
      · rw [List.range_succ, List.filter_append, List.length_append, List.filter_cons, if_neg (by rw [hf]; decide)]
        exact ll0
      · rw [List.range_succ, List.filter_append, List.map_append, List.filter_cons, if_neg (by rw [hf]; decide)]
        show H5 Dl = some (.dK ((_ ++ []).zip _))
        rw [List.append_nil]
        exact e25 _ _ ha
    | true =>
      show tk (st i) H5 _
      refine hk i H5 lt x5 hf H5 (Ex.refl H5) _ fun H6 e6 => lst_ (nil_ ⟨by show 0 ≤ sizeLine; decide, fun a hA => ?_⟩)
      have e26 := e25.trans e6
      have h6 := e26 _ _ ha
      have naD : a ≠ Dl := fun z => by rw [z, h6] at hA; cases hA
      have nal : a ∉ la := fun z => by rw [e26 _ _ (le a z).2] at hA; cases hA
      have l2 : ((List.range i).filter f).length ≤ i := by have := List.length_filter_le f (List.range i); rw [List.length_range] at this; exact this
      have e27 : Ex H2 (upd H6 a (.lst [])) := e26.trans (Ex.new hA)
      refine ⟨_, ky i, rfl, e27 _ _ ha, sz_lt (by rw [List.length_zip, List.length_map]; omega), Ex.mut (e2.trans e27) hD, la ++ [a], ?_, ?_, ?_, ?_, ?_⟩
      · rw [List.range_succ, List.filter_append, List.length_append, List.length_append, List.filter_cons, if_pos hf, ll0]
        rfl
      · rw [List.nodup_append]
        exact ⟨ln, by simp, fun x hx y hy => by rw [List.mem_singleton.mp hy]; exact fun z => nal (z ▸ hx)⟩
      · intro z
        rcases List.mem_append.mp z with z | z
        · exact lD z
        · exact naD (List.mem_singleton.mp z).symm
      · intro b hb
        rcases List.mem_append.mp hb with h | h
        · exact ⟨(le b h).1, by rw [upd_ne (fun z => lD (by rw [← z]; exact h))]; exact e27 _ _ (le b h).2⟩
        · rw [List.mem_singleton.mp h]
          exact ⟨fresh_back (e2.trans e26) hA, by rw [upd_ne naD]; exact upd_same⟩
      · rw [upd_same, put_new]
        · rw [List.range_succ, List.filter_append, List.map_append, List.map_append, List.filter_cons, if_pos hf, List.zip_append (by rw [List.length_map, List.length_map, ll0])]
          rfl
        · intro z hz ez
          have hm := (List.of_mem_zip hz).1
          obtain ⟨m, hm, em⟩ := List.mem_map.mp hm
          have sub : ((List.range (i + 1)).filter f).Sublist ((List.range n).filter f) := (List.range_sublist.mpr lt).filter f
          have nd2 := nd.sublist (sub.map ky)
          rw [List.range_succ, List.filter_append, List.map_append, List.filter_cons, if_pos hf] at nd2
          exact (List.nodup_append.mp nd2).2.2 (ky m) (List.mem_map.mpr ⟨m, hm, rfl⟩) (ky i) (by simp) (em.trans ez)
  · obtain rfl : i = n := by omega
    refine .inl ⟨W.stops H2 g2, q Dl la H2 ?_ (e1.trans e2) ll0 ln lD (fun a h => ⟨?_, (le a h).2⟩) ha⟩
    · cases h : H0 Dl with
      | none => rfl
      | some o => exact absurd (e1 _ _ h) (by rw [hD]; exact fun z => nomatch z)
    · cases h2 : H0 a with
      | none => rfl
      | some o => exact absurd (e1 _ _ h2) (by rw [(le a h).1]; exact fun z => nomatch z)
end
end K30
end
section
set_option Elab.async false
set_option linter.all false
set_option maxRecDepth 100000
set_option maxHeartbeats 4000000
namespace K30
open PySem PySem.Spec PyProof.Rows L2 Evl TX
open C8 (Cal pe_c pe_gc)
section
variable {K : PySem.W.Frag} {D : Ends} {σ : L2.St} {H : Hp}
/-- the lists of a net, told by what they hold -/
def LnsAt (H : Hp) (la : List Addr) (ss : List Str) (c : Str → List Nat) : Prop := ∀ i, i < ss.length → H (la.getD i 0) = some (.lst ((c (ss.getD i Str.empty)).map fun n : Nat => V.int (n : Int)))
theorem getD_ne {α : Type} [DecidableEq α] {xs : List α} {z : α} (nd : xs.Nodup) {i j : Nat} (hi : i < xs.length) (hj : j < xs.length) (h : j ≠ i) : xs.getD j z ≠ xs.getD i z := by
  rw [List.getD_eq_getElem?_getD, List.getD_eq_getElem?_getD, List.getElem?_eq_getElem hi, List.getElem?_eq_getElem hj]
  exact fun e => h ((List.getElem_inj nd).mp e)
theorem getD_mem {α : Type} {xs : List α} {z : α} {i : Nat} (hi : i < xs.length) : xs.getD i z ∈ xs := by
  rw [List.getD_eq_getElem?_getD, List.getElem?_eq_getElem hi]
  exact List.getElem_mem hi
theorem one_line {l : Addr} {la : List Addr} {ss : List Str} {c : Str → List Nat} {s : Str} {n : Nat} (hl : H l = some (.dK ((ss.map fun s => (.inr s : Key)).zip (la.map V.ref)))) (ll : la.length = ss.length) (nd : ss.Nodup) (lnd : la.Nodup) (L : LnsAt H la ss c)
    (e8 : σ[8]? = some (some (.str s))) (e9 : σ[9]? = some (some (.ref l))) (e5 : σ[5]? = some (some (.int (n : Int)))) (sm : ∀ s, (c s).length < 1000)
    (k : ∀ H', (∀ b o, b ∉ la → H b = some o → H' b = some o) → LnsAt H' la ss (fun t => c t ++ if t = s then [n] else []) → D.nx σ H') :
    tIfS (tB (tDIn (tVar 8) (tVar 9))) (tDrop (tBM K "list" rAppend (tDGet (tVar 9) (tVar 8)) (tCons (tVar 5) tNil))) tNext D σ H := by
  refine ⟨_, e8, _, e9, l, _, rfl, DGet.k (k := .inr s) hl, _, rfl, ?_⟩
  by_cases hs : s ∈ ss
  · obtain ⟨i, hi, ei⟩ := List.mem_iff_getElem.mp hs
    have gi : ss.getD i Str.empty = s := by rw [List.getD_eq_getElem?_getD, List.getElem?_eq_getElem hi]; exact ei
    have hil : i < la.length := by omega
    have v : valV ((ss.map fun s => (.inr s : Key)).zip (la.map V.ref)) (.inr s) = some (.ref (la.getD i 0)) := by
      refine val_at (i := i) ?_ ?_
      · rw [List.map_fst_zip (by simp only [List.length_map]; omega)]
        rw [List.nodup_iff_pairwise_ne] at nd ⊢
        rw [List.pairwise_map]
        exact nd.imp fun h z => h (Sum.inr.inj z)
      · rw [List.getElem?_zip_eq_some]
        refine ⟨by rw [List.getElem?_map, List.getElem?_eq_getElem hi, ei]; rfl, by rw [List.getElem?_map, List.getD_eq_getElem?_getD, List.getElem?_eq_getElem hil]; rfl⟩
    rw [v]
    refine ⟨_, e9, _, e8, l, .ref (la.getD i 0), rfl, by rw [← v]; exact DGet.k (k := .inr s) hl, ?_⟩
    refine ⟨.inl ⟨rfl, _, sq_of (L i hi)⟩, _, e5, _, _, _, rfl, rfl, L i hi, sz_lt (by rw [List.length_map]; have := sm (ss.getD i Str.empty); omega), ?_⟩
    refine k _ (fun b o hb e => ?_) fun j hj => ?_
    · rw [upd_ne (fun z => hb (by rw [z]; exact getD_mem hil))]
      exact e
    · by_cases hji : j = i
      · subst hji
        rw [upd_same]
        dsimp only
        rw [if_pos gi, List.map_append]
        rfl
      · rw [upd_ne (getD_ne lnd hil (by omega) hji), L j hj]
        dsimp only
        rw [if_neg (fun z => getD_ne (z := Str.empty) nd hi hj hji (z.trans gi.symm)), List.append_nil]
  · have v : valV ((ss.map fun s => (.inr s : Key)).zip (la.map V.ref)) (.inr s) = none := by
      cases h : valV ((ss.map fun s => (.inr s : Key)).zip (la.map V.ref)) (.inr s) with
      | none => rfl
      | some x =>
        have m := valV_in h
        rw [List.map_fst_zip (by simp only [List.length_map]; omega)] at m
        obtain ⟨t, ht, e⟩ := List.mem_map.mp m
        exact absurd (Sum.inr.inj e ▸ ht) hs
    rw [v]
    exact k H (fun _ _ _ e => e) fun j hj => by
      rw [L j hj]
      dsimp only
      rw [if_neg (fun z => hs (by rw [← z]; exact getD_mem hj)), List.append_nil]
theorem set8 {a b : L2.St} {i j : Nat} (h : a.set i none = b.set i none) (hj : j ≠ i) : a[j]? = b[j]? := by
  have e := congrArg (fun z : L2.St => z[j]?) h
  simp only [List.getElem?_set_ne (Ne.symm hj)] at e
  exact e
theorem pair_lines {l q : Addr} {la : List Addr} {ss : List Str} {c : Str → List Nat} {s1 s2 : Str} {n : Nat} (hl : H l = some (.dK ((ss.map fun s => (.inr s : Key)).zip (la.map V.ref)))) (hla : l ∉ la) (hq : H q = some (.tup [.str s1, .str s2])) (hqa : q ∉ la) (ll : la.length = ss.length) (nd : ss.Nodup) (lnd : la.Nodup) (L : LnsAt H la ss c)
    (e6 : σ[6]? = some (some (.ref q))) (e9 : σ[9]? = some (some (.ref l))) (e5 : σ[5]? = some (some (.int (n : Int)))) (l8 : 8 < σ.length) (sm : ∀ s, (c s).length < 900)
    (k : ∀ σ' H', σ'.set 8 none = σ.set 8 none → (∀ b o, b ∉ la → H b = some o → H' b = some o) → LnsAt H' la ss (fun t => c t ++ ([s1, s2].filter fun s => decide (s = t)).map fun _ => n) → D.nx σ' H') :
    tFor (iTup K (tVar 6)) (gName 8) (tIfS (tB (tDIn (tVar 8) (tVar 9))) (tDrop (tBM K "list" rAppend (tDGet (tVar 9) (tVar 8)) (tCons (tVar 5) tNil))) tNext) D σ H := by
  refine ⟨_, e6, q, rfl, ⟨_, st_of hq⟩, fun i m σ' H' => m = 2 - i ∧ i ≤ 2 ∧ σ'.set 8 none = σ.set 8 none ∧ (∀ b o, b ∉ la → H b = some o → H' b = some o) ∧ LnsAt H' la ss (fun t => c t ++ (([s1, s2].take i).filter fun s => decide (s = t)).map fun _ => n), ⟨2, rfl, by omega, rfl, fun _ _ _ e => e, fun j hj => by rw [L j hj]; simp⟩, ?_⟩
  rintro i m σ' H' ⟨rfl, hi, hs, he, L'⟩
  have W := walk_tup (K := K) (a := q) (xs := [V.str s1, V.str s2])
  have g2 : SqT K H' q [.str s1, .str s2] := st_of (he _ _ hqa hq)
  by_cases lt : i < 2
  · refine .inr ⟨W.goes i H' lt g2, fun σ3 H3 => i + 1 ≤ 2 ∧ σ3.set 8 none = σ.set 8 none ∧ (∀ b o, b ∉ la → H b = some o → H3 b = some o) ∧ LnsAt H3 la ss (fun t => c t ++ (([s1, s2].take (i + 1)).filter fun s => decide (s = t)).map fun _ => n), fun σ3 H3 p => ⟨2 - (i + 1), by omega, rfl, p⟩, fun x H4 hy => ?_⟩
    obtain ⟨rfl, hx⟩ := W.yields i H' x H4 lt g2 hy
    have len : σ'.length = σ.length := by have := congrArg List.length hs; simpa using this
    have ss8 : ∀ v, (σ'.set 8 (some v)).set 8 none = σ.set 8 none := fun v => by rw [List.set_set]; exact hs
    obtain ⟨s, hsx, rfl⟩ : ∃ s, [s1, s2][i]? = some s ∧ x = .str s := by
      have : i = 0 ∨ i = 1 := by omega
      rcases this with rfl | rfl
      · exact ⟨s1, rfl, (Option.some.inj hx).symm⟩
      · exact ⟨s2, rfl, (Option.some.inj hx).symm⟩
    refine one_line (c := fun t => c t ++ (([s1, s2].take i).filter fun s => decide (s = t)).map fun _ => n) (s := s) (n := n) (he _ _ hla hl) ll nd lnd L' (by rw [List.getElem?_set_self (by omega)]) ?_ ?_ (fun t => ?_) fun H5 k5 L5 => ⟨by omega, ss8 _, fun b o hb e => k5 b o hb (he b o hb e), fun j hj => ?_⟩
    · rw [List.getElem?_set_ne (by decide), set8 hs (by decide)]
      exact e9
    · rw [List.getElem?_set_ne (by decide), set8 hs (by decide)]
      exact e5
    · rw [List.length_append, List.length_map]
      have a := List.length_filter_le (fun s => decide (s = t)) ([s1, s2].take i)
      have b := List.length_take_le i [s1, s2]
      have := sm t
      omega
    · rw [L5 j hj]
      dsimp only
      have t : (([s1, s2].take (i + 1)).filter fun s => decide (s = ss.getD j Str.empty)).map (fun _ => n) = ((([s1, s2].take i).filter fun s => decide (s = ss.getD j Str.empty)).map fun _ => n) ++ if ss.getD j Str.empty = s then [n] else [] := by
        rw [List.take_succ, hsx, List.filter_append, List.map_append]
        congr 1
        by_cases e : ss.getD j Str.empty = s
        · rw [if_pos e]
          show ([s].filter fun s => decide (s = ss.getD j Str.empty)).map (fun _ => n) = [n]
          rw [List.filter_cons, if_pos (decide_eq_true e.symm)]
          rfl
        · rw [if_neg e]
          show ([s].filter fun s => decide (s = ss.getD j Str.empty)).map (fun _ => n) = []
          rw [List.filter_cons, if_neg (fun z => e (of_decide_eq_true z).symm)]
          rfl
      rw [t, List.append_assoc]
  · obtain rfl : i = 2 := by omega
    exact .inl ⟨W.stops H' g2, k σ' H' hs he L'⟩
theorem netL_len (t : Str) : ∀ ps : List (Nat × Str × Str), (netL ps t).length ≤ 2 * ps.length
  | [] => by simp [netL]
  | z :: r => by
    have ih := netL_len t r
    show ((([z.2.1, z.2.2].filter fun s => decide (s = t)).map fun _ => z.1) ++ netL r t).length ≤ _
    rw [List.length_append, List.length_map]
    have a := List.length_filter_le (fun s => decide (s = t)) [z.2.1, z.2.2]
    have b : [z.2.1, z.2.2].length = 2 := rfl
    rw [List.length_cons]
    omega
theorem netL_snoc (ps : List (Nat × Str × Str)) (z : Nat × Str × Str) (t : Str) : netL (ps ++ [z]) t = netL ps t ++ ([z.2.1, z.2.2].filter fun s => decide (s = t)).map fun _ => z.1 := by
  unfold netL
  rw [List.flatMap_append]
  simp only [List.flatMap_cons, List.flatMap_nil, List.append_nil]
theorem net_lines {p l : Addr} {od : Obj} {la : List Addr} {ss : List Str} {is : List Nat} {dd : List V} {ds : List (Str × Str)} (hp : H p = some (.frz od (.dK (is.map fun i : Nat => ((.inl (i : Int) : Key), dd.getD i .non))))) (hpa : p ∉ la) (hpl : p ≠ l)
    (hl : H l = some (.dK ((ss.map fun s => (.inr s : Key)).zip (la.map V.ref)))) (hla : l ∉ la) (hq : ∀ i ∈ is, ∃ q, dd.getD i .non = .ref q ∧ q ∉ la ∧ q ≠ p ∧ H q = some (.tup [.str (ds.getD i p0).1, .str (ds.getD i p0).2])) (hn : is.length ≤ 24)
    (ll : la.length = ss.length) (nd : ss.Nodup) (lnd : la.Nodup) (L : LnsAt H la ss fun _ => []) (e7 : σ[7]? = some (some (.ref p))) (e9 : σ[9]? = some (some (.ref l))) (l10 : 9 < σ.length)
    (k : ∀ σ' H', ((σ'.set 8 none).set 6 none).set 5 none = ((σ.set 8 none).set 6 none).set 5 none → H' p = H p → (∀ b o, b ∉ la → H b = some o → H' b = some o) → LnsAt H' la ss (netL (is.map fun i => (i, ds.getD i p0))) → D.nx σ' H') :
    tFor (iItems (tVar 7)) (gTup K 2 (gCons (gName 5) (gCons (gName 6) gNil))) (tFor (iTup K (tVar 6)) (gName 8) (tIfS (tB (tDIn (tVar 8) (tVar 9))) (tDrop (tBM K "list" rAppend (tDGet (tVar 9) (tVar 8)) (tCons (tVar 5) tNil))) tNext)) D σ H := by
  refine ⟨_, e7, p, od, _, rfl, hp, fun i m σ' H' => m = is.length - i ∧ i ≤ is.length ∧ ((σ'.set 8 none).set 6 none).set 5 none = ((σ.set 8 none).set 6 none).set 5 none ∧ (∀ b o, b ∉ la → H b = some o → H' b = some o) ∧ LnsAt H' la ss (netL ((is.take i).map fun i => (i, ds.getD i p0))), ⟨is.length, rfl, by omega, rfl, fun _ _ _ e => e, fun j hj => L j hj⟩, ?_⟩
  rintro i m σ' H' ⟨rfl, hi, hs, he, L'⟩
  have W := walk_items (d := p) (o := od) (kvs := is.map fun i : Nat => ((.inl (i : Int) : Key), dd.getD i .non))
  rw [List.length_map] at W
  have hp' := he _ _ hpa hp
  by_cases lt : i < is.length
  · refine .inr ⟨W.goes i H' lt hp', fun σ3 H3 => i + 1 ≤ is.length ∧ ((σ3.set 8 none).set 6 none).set 5 none = ((σ.set 8 none).set 6 none).set 5 none ∧ (∀ b o, b ∉ la → H b = some o → H3 b = some o) ∧ LnsAt H3 la ss (netL ((is.take (i + 1)).map fun i => (i, ds.getD i p0))), fun σ3 H3 q => ⟨is.length - (i + 1), by omega, rfl, q⟩, fun v H4 yl => ?_⟩
    obtain ⟨T, x, y, rfl, hT, rfl, hx, hy⟩ := W.yields i H' v H4 lt hp' yl
    dsimp only at hx hy
    rw [List.getElem?_map, List.getElem?_eq_getElem lt] at hx hy
    obtain rfl : kV (.inl (is[i] : Int) : Key) = x := Option.some.inj hx
    obtain rfl : dd.getD is[i] .non = y := Option.some.inj hy
    obtain ⟨q, eq, hqa, _, hqH⟩ := hq is[i] (List.getElem_mem lt)
    have len : σ'.length = σ.length := by have := congrArg List.length hs; simpa using this
    have g9 : σ'[9]? = σ[9]? := by
      have e := congrArg (fun z : L2.St => z[9]?) hs
      simpa using e
    have keepT : ∀ b o, H' b = some o → (upd H' T (.tup [kV (.inl (is[i] : Int) : Key), dd.getD is[i] .non])) b = some o := fun b o e => by
      rw [upd_ne (fun z => by rw [z, hT] at e; exact nomatch e)]
      exact e
    refine g_two (K := K) upd_same ?_
    refine pair_lines (q := q) (l := l) (la := la) (ss := ss) (c := netL ((is.take i).map fun i => (i, ds.getD i p0))) (n := is[i]) (keepT _ _ (he _ _ hla hl)) hla (keepT _ _ (he _ _ hqa hqH)) hqa ll nd lnd (fun j hj => keepT _ _ (L' j hj)) ?_ ?_ ?_ ?_ (fun t => ?_) fun σ5 H5 s5 k5 L5 => ⟨by omega, ?_, fun b o hb e => k5 b o hb (keepT b o (he b o hb e)), ?_⟩
    · rw [eq, List.getElem?_set_self (by rw [List.length_set]; omega)]
    · rw [List.getElem?_set_ne (by decide), List.getElem?_set_ne (by decide), g9]
      exact e9
    · rw [List.getElem?_set_ne (by decide), List.getElem?_set_self (by omega)]
      rfl
    · rw [List.length_set, List.length_set]
      omega
    · have := netL_len t ((is.take i).map fun i => (i, ds.getD i p0))
      rw [List.length_map] at this
      have := List.length_take_le i is
      omega
    · rw [s5, ← hs]
      refine List.ext_getElem? fun j => ?_
      by_cases h5 : 5 = j
      · subst h5
        simp [List.getElem?_set]
      · by_cases h6 : 6 = j
        · subst h6
          simp [List.getElem?_set]
        · by_cases h8 : 8 = j
          · subst h8
            simp [List.getElem?_set]
          · simp only [List.getElem?_set_ne h5, List.getElem?_set_ne h6, List.getElem?_set_ne h8]
    · have e : (is.take (i + 1)).map (fun i => (i, ds.getD i p0)) = (is.take i).map (fun i => (i, ds.getD i p0)) ++ [(is[i], ds.getD is[i] p0)] := by
        rw [List.take_succ, List.getElem?_eq_getElem lt, List.map_append]
        rfl
      rw [e]
      intro j hj
      rw [L5 j hj, netL_snoc]
  · obtain rfl : i = is.length := by omega
    rw [List.take_length] at L'
    exact .inl ⟨W.stops H' hp', k σ' H' hs (hp'.trans hp.symm) he L'⟩
end
end K30
end
section
set_option Elab.async false
set_option linter.all false
set_option maxRecDepth 100000
set_option maxHeartbeats 4000000
namespace K30
open PySem PySem.Spec PyProof.Rows L2 Evl TX
open C8 (Cal pe_c pe_gc)
theorem cell_kinds {cs : List Col} {d : PyData} (h : isCell cs d) : (∃ w, d = sumC w) ∨ ∃ n, d = datC n := by
  rcases h with ⟨s, rfl, _⟩ | ⟨n, rfl, _⟩
  · exact .inl ⟨s, rfl⟩
  · exact .inr ⟨n, rfl⟩
theorem range_filter {α : Type} (f : α → Bool) (xs : List α) (z : α) : ((List.range xs.length).filter fun i => f (xs.getD i z)).map (fun i => xs.getD i z) = xs.filter f := by
  conv => rhs; rw [← range_getD xs z, List.filter_map]
  rfl
structure ClN (K : PySem.W.Frag) (C : Addr) : Prop where
  cl : Cls K C
  no : ∀ f ∈ (["pairs", "lines_at"] : List Str), NoAttr K C f
structure NetAt (H : Hp) (C a : Addr) (ps : List (Nat × Str × Str)) (ss : List Str) : Prop where
  ex : ∃ (dx p l : Addr) (pv : List V) (la : List Addr), H a = some (.ins C dx [("pairs", .ref p), ("lines_at", .ref l)]) ∧ pv.length = ps.length ∧ H p = some (.dK ((ps.map fun z => (.inl (z.1 : Int) : Key)).zip pv)) ∧ Reps H pv (ps.map fun z => pairD z.2) ∧
    la.length = ss.length ∧ Rd H l (.dK ((ss.map fun s => (.inr s : Key)).zip (la.map V.ref))) ∧ ∀ i, i < ss.length → H (la.getD i 0) = some (.lst ((netL ps (ss.getD i Str.empty)).map fun n : Nat => V.int (n : Int)))
def NetPl (H : Hp) (C a : Addr) : Prop := ∃ (dx p l : Addr) (kvs : List (Key × V)), H a = some (.ins C dx [("pairs", .ref p), ("lines_at", .ref l)]) ∧ H l = some (.dK kvs) ∧ p ≠ l
def nSp (C CN : Addr) : Sp := fun vs H Q _ => ∃ (a dx t lo : Addr) (k : Kd) (cs : List Col) (lx : List V) (lost : List PyData), vs = [.ref a, .ref t, .ref lo] ∧ H a = some (.ins CN dx []) ∧ TabAt H C t k cs ∧ Good cs ∧ H lo = some (.lst lx) ∧ Reps H lx lost ∧ lost.length ≤ 40 ∧ (∀ d ∈ lost, isCell cs d) ∧
  ∀ H', (∀ b o, b ≠ a → H b = some o → H' b = some o) → NetAt H' CN a (netP cs lost) (netS cs lost) → NetPl H' CN a → Q .non H'
section
variable {P : Program} {w : World} {K : PySem.W.Frag} {mg : Str → Option Value} {base : Heap} {f : Addr} {fd : FuncData}
variable {C CN : Addr}
abbrev sc_Net_init_N : List Str := ["self", "table", "lost", "cell", "gone", "number", "pair", "pairs", "name", "lines_at"]
theorem sc_Net_init : FnScope sc_Net_init_N ["self", "table", "lost"] (defScope s_Net_init) := ⟨rfl, rfl, rfl, by decide +kernel, rfl, by decide +kernel, by decide +kernel⟩
theorem ok_ninit (F : FnM K "__init__" "Net.__init__" s_Net_init f fd) (T : Tops mg)  (clN : ClN K CN) (P_data : Prp P w K mg base 1 C "data" (getSp C "_data")) (P_sums : Prp P w K mg base 1 C "sums" (getSp C "_sums"))  : FnOk P w K mg base CX0 3 f fd ["self", "table", "lost"] (nSp C CN) := by
  refine F.ok sc_Net_init (fun vs H Q E h => ?_) (fun cdv A outer s H vs Q E hr h => ?_)
  · obtain ⟨a, dx, t, lo, kd, cs, lx, lost, rfl, _⟩ := h; rfl
  · obtain ⟨a, dx, t, lo, kd, cs, lx, lost, rfl, ha, tab, G, hlo, rl, ll, ic, k⟩ := h
    have hu1 := Nat.lt_of_le_of_lt (Nat.add_le_add_left (by decide : 1 ≤ 64) _) hr.units
    refine ⟨_, PSs.nox (pss_cons (ps_set (i := 4) sc_Net_init.nd rfl (.inr rfl) (BE.pe_dcT (own := [("cell", 3)]) (g := gName 3) rfl hu1 sc_Net_init.nd (pi_list (pv 2)) (blkOk_by (own := [("cell", 3)]) (N := sc_Net_init_N) (sc := defScope s_Net_init) (by decide +kernel)) (fun _ _ _ _ _ => (pg_name (i := 3) sc_Net_init.nd rfl (.inl rfl))) (fun _ _ _ _ _ => (pv 3)) (fun _ _ _ _ _ => pe_bl)))
  (pss_cons (BF.ps_setDc (i := 7) (own := [("number", 5), ("pair", 6)]) (g := gTup K 2 (gCons (gName 5) (gCons (gName 6) gNil))) rfl sc_Net_init.nd rfl rfl (BF.sw_trueD rfl rfl rfl (by decide +kernel)) (ET.pi_enumT (by rfl) T.n_enumerate (pa_cons (pe_prp P_data hr (pv 1)) pa_nil)) (blkOk_by (own := [("number", 5), ("pair", 6)]) (N := sc_Net_init_N) (sc := defScope s_Net_init) (by decide +kernel)) (fun _ _ _ _ _ => (pg_tup rfl (pgs_cons (pg_name (i := 5) sc_Net_init.nd rfl (.inl rfl)) (pgs_cons (pg_name (i := 6) sc_Net_init.nd rfl (.inl rfl)) pgs_nil)))) (fun _ _ _ _ _ => (pts_one (pt_cmp (pc_din hu1 (pe_tup (pa_cons pe_str (pa_cons (pv 5) pa_nil))) (pv 4))))) (fun _ _ _ _ _ => (pv 5)) (fun _ _ _ _ _ => (pv 6)))
  (pss_cons (BF.ps_setDc (i := 9) (own := [("name", 8)]) (g := gName 8) rfl sc_Net_init.nd rfl rfl (BF.sw_trueD rfl rfl rfl (by decide +kernel)) (pi_tup (pe_prp P_sums hr (pv 1))) (blkOk_by (own := [("name", 8)]) (N := sc_Net_init_N) (sc := defScope s_Net_init) (by decide +kernel)) (fun _ _ _ _ _ => (pg_name (i := 8) sc_Net_init.nd rfl (.inl rfl))) (fun _ _ _ _ _ => (pts_one (pt_cmp (pc_dnotin hu1 (pe_tup (pa_cons pe_str (pa_cons (pv 8) pa_nil))) (pv 4))))) (fun _ _ _ _ _ => (pv 8)) (fun _ _ _ _ _ => (pe_lst pa_nil)))
  (pss_cons (ps_lock (ps_for PassesOwn.never rfl (pi_items (pv 7)) (pg_tup rfl (pgs_cons (pg_name (i := 5) sc_Net_init.nd rfl (.inl rfl)) (pgs_cons (pg_name (i := 6) sc_Net_init.nd rfl (.inl rfl)) pgs_nil)))
  (pss_one (ps_for PassesOwn.never rfl (pi_tup (pv 6)) (pg_name (i := 8) sc_Net_init.nd rfl (.inl rfl))
  (pss_one (ps_if (pt_cmp (pc_din hu1 (pv 8) (pv 9)))
  (pss_one (ps_expr (pe_bm PySem.F.plainAttrs_list PySem.F.slot_list_append PySem.F.type_list_append mt_append (pe_dget hu1 (pv 9) (pv 8) (fun _ _ => rfl)) (pa_cons (pv 5) pa_nil))))
  pss_nil))))))
  (pss_cons (ps_fld (pv 0) (pv 7) rfl)
  (pss_one (ps_fld (pv 0) (pv 9) rfl))))))), ?_⟩
    obtain ⟨tx, v1, v2, v3, v4, v6, v9, p5, q7, kv0, h0, h1, h2, h3, h4, h5, h6, h7, h9⟩ := tab.ex
    obtain ⟨su, ss0, rfl, hsu, rsu⟩ := Rep.tup_inv h3
    obtain rfl := rsu.strs
    obtain ⟨da, dd, rfl, hda, rda⟩ := Rep.tup_inv h4
    have ld : (dataOf cs).length ≤ 24 := G.dlen
    have ls : (sumsOf cs).length ≤ 10 := G.slen
    have ldd : dd.length = (dataOf cs).length := by rw [rda.len, List.length_map]
    have llx : lx.length = lost.length := rl.len
    -- what is gone
    refine q_asgO (ed_dcT (tk := tVar 3) (tv := tC (.bl true)) (walk_list (K := K) (a := lo) (xs := lx)) (by omega) (fun i => [some (.ref a), some (.ref t), some (.ref lo), lx[i]?, none, none, none, none, none, none]) (fun i => lost.getD i .none)
      (fun H1 e R q => ⟨.ref lo, rfl, lo, rfl, ⟨_, sq_of (e _ _ hlo)⟩, q H1 (Ex.refl H1) (sq_of (e _ _ hlo))⟩) (fun H1 H2 e q => ex_l e q) (fun _ _ => rfl)
      (fun i x H1 H2 R hi e _ ⟨e3, hx⟩ q => by
        subst e3
        have q2 := q _ (Ex.refl _)
        rw [hx] at q2
        exact q2)
      (fun i H1 hi e Q0 q => by
        obtain ⟨x, hx⟩ : ∃ x, lx[i]? = some x := ⟨_, List.getElem?_eq_getElem hi⟩
        obtain ⟨d, hd, rd⟩ := rl.at hx
        have ed : lost.getD i .none = d := by rw [List.getD_eq_getElem?_getD, hd]; rfl
        rw [ed] at q
        obtain ⟨y, rfl, hy⟩ := cell_key (rd.ex e) (cell_kinds (ic d (List.mem_of_getElem? hd)))
        exact ⟨.ref y, by rw [hx]; rfl, q y H1 (Ex.refl H1) hy⟩)
      (fun i H1 hi e => ev_c) H (Ex.refl H) _ fun g H1 hg0 e1 hg => ?_)
    rw [llx, range_getD] at hg
    -- the data that are lost
    refine q_asgO (ed_dcG (tk := tVar 5) (tv := tVar 6) (ET.walk_et (K := K) (a := da) (xs := dd)) (by omega) (fun i => [some (.ref a), some (.ref t), some (.ref lo), none, some (.ref g), some (.int (i : Int)), dd[i]?, none, none, none]) (fun i => hasC lost (datC (i : Int))) (fun i => .inl (i : Int)) (fun i => dd.getD i .non) ?_
      (fun H2 e R q => cons_ (ev_ (ev_prop (ev_var rfl) ((e1.trans e) _ _ h0) rfl) fun H3 e3 => nil_ ⟨da, dd, rfl, st_of (((e1.trans e).trans e3) _ _ hda), q H3 e3 (st_of (((e1.trans e).trans e3) _ _ hda))⟩)) (fun H1 H2 e q => ex_t e q) (fun _ _ => rfl) ?_ ?_ (fun i H2 hi e _ => ev_var rfl) ?_ H1 (Ex.refl H1) _ fun p H2 hp0 e2 hp => ?_)
    · refine List.Nodup.sublist ((List.filter_sublist (l := List.range dd.length)).map _) ?_
      rw [List.nodup_iff_pairwise_ne, List.pairwise_map]
      exact (List.nodup_iff_pairwise_ne.mp List.nodup_range).imp fun h z => h (by have := Sum.inl.inj z; omega)
    · intro i x H2 H3 R hi e _ hy q
      obtain ⟨U, y, z, rfl, hU, rfl, e1', e2'⟩ := hy
      cases (Option.some.inj e1')
      have q2 := q _ (Ex.new (o := HO.tup [.int (i : Int), z]) hU)
      have hz : dd[i]? = some z := e2'
      rw [hz] at q2
      exact g_two (K := K) upd_same q2
    · intro i H2 hi e
      rw [← gone_has]
      exact et_din (er_tup (ds := [.str "datum", .int (i : Int)]) (era_cons (er_str ev_c) (era_cons (er_int (ev_var rfl)) era_nil)) (Nat.le_of_ble_eq_true rfl)) (.inr ⟨_, rfl⟩) (ev_var rfl) (e _ _ hg)
    · intro i H2 hi e _
      exact ev_var (by
        show some (dd[i]?) = _
        rw [List.getD_eq_getElem?_getD, List.getElem?_eq_getElem hi]
        rfl)
    -- the sums that are left
    have W0 : Walk (Itt K su) (sumsOf cs).length (fun H => SqT K H su ((sumsOf cs).map V.str)) (YAt ((sumsOf cs).map V.str)) := by
      have q := walk_tup (K := K) (a := su) (xs := (sumsOf cs).map V.str)
      rw [List.length_map] at q
      exact q
    have e12 := e1.trans e2
    refine q_asgO (ed_dcL (tk := tVar 8) W0 (by omega) (fun i => [some (.ref a), some (.ref t), some (.ref lo), none, some (.ref g), none, none, some (.ref p), some (.str ((sumsOf cs).getD i Str.empty)), none]) (fun i => !hasC lost (sumC ((sumsOf cs).getD i Str.empty))) (fun i => .inr ((sumsOf cs).getD i Str.empty)) ?_
      (fun H3 e R q => ev_prop (ev_var (i := 1) rfl) ((e12.trans e) _ _ h0) rfl H3 (Ex.refl H3) _ fun H4 e4 => ⟨su, rfl, ⟨_, st_of (((e12.trans e).trans e4) _ _ hsu)⟩, q H4 e4 (st_of (((e12.trans e).trans e4) _ _ hsu))⟩) (fun H1 H2 e q => ex_t e q) (fun _ _ => rfl)
      (fun i x H1 H2 R hi e _ ⟨e3, hx⟩ q => by
        subst e3
        rw [List.getElem?_map, List.getElem?_eq_getElem hi] at hx
        cases hx
        have q2 := q _ (Ex.refl _)
        rw [show (sumsOf cs).getD i Str.empty = (sumsOf cs)[i] from List.getD_eq_getElem?_getD.trans (by rw [List.getElem?_eq_getElem hi]; rfl)] at q2
        exact q2)
      (fun i H3 hi e => by
        rw [← gone_has]
        exact et_dnotin (er_tup (ds := [.str "sum", .str ((sumsOf cs).getD i Str.empty)]) (era_cons (er_str ev_c) (era_cons (er_str (ev_var rfl)) era_nil)) (Nat.le_of_ble_eq_true rfl)) (.inl ⟨_, rfl⟩) (ev_var rfl) ((e2.trans e) _ _ hg))
      (fun i H3 hi e _ => ev_var rfl) H2 (Ex.refl H2) _ fun l la H3 hl0 e3 lla lnd lpn lne hl => ?_)
    · refine List.Nodup.sublist ((List.filter_sublist (l := List.range (sumsOf cs).length)).map _) ?_
      rw [show ((List.range (sumsOf cs).length).map fun i => ((.inr ((sumsOf cs).getD i Str.empty)) : Key)) = (((List.range (sumsOf cs).length).map fun i => (sumsOf cs).getD i Str.empty).map Sum.inr) from by rw [List.map_map]; rfl, range_getD]
      have nd := G.snd
      rw [List.nodup_iff_pairwise_ne] at nd ⊢
      rw [List.pairwise_map]
      exact nd.imp fun h z => h (Sum.inr.inj z)
    -- the lines at them
    have sE : ((List.range (sumsOf cs).length).filter fun i => !hasC lost (sumC ((sumsOf cs).getD i Str.empty))).map (fun i => (sumsOf cs).getD i Str.empty) = netS cs lost := by
      unfold netS
      rw [← range_filter (fun s => !hasC lost (sumC s)) (sumsOf cs) Str.empty]
    generalize hfs : ((List.range (sumsOf cs).length).filter fun i => !hasC lost (sumC ((sumsOf cs).getD i Str.empty))) = fs at hl lla sE
    have kE : (fs.map fun i => ((.inr ((sumsOf cs).getD i Str.empty)) : Key)) = (netS cs lost).map Sum.inr := by rw [← sE, List.map_map]; rfl
    rw [kE] at hl
    have lss : la.length = (netS cs lost).length := by rw [lla, ← sE, List.length_map]
    have nds : (netS cs lost).Nodup := G.snd.filter _
    rw [ldd] at hp
    generalize his : ((List.range (dataOf cs).length).filter fun i : Nat => hasC lost (datC (i : Int))) = is at hp
    have hin : ∀ i ∈ is, i < (dataOf cs).length := fun i h => by rw [← his] at h; exact List.mem_range.mp (List.mem_filter.mp h).1
    have lis : is.length ≤ 24 := by
      have := List.length_filter_le (fun i : Nat => hasC lost (datC (i : Int))) (List.range (dataOf cs).length)
      rw [his, List.length_range] at this
      omega
    have hpE : netP cs lost = is.map fun n => (n, (dataOf cs).getD n p0) := by rw [← his]; rfl
    have hp3 := e3 _ _ hp
    have pla : p ∉ la := fun z => by have := (lne p z).1; rw [hp] at this; exact nomatch this
    have npl : p ≠ l := fun z => by rw [z, hl0] at hp; exact nomatch hp
    have prs : ∀ i ∈ is, ∃ q, dd.getD i .non = .ref q ∧ H q = some (.tup [.str ((dataOf cs).getD i p0).1, .str ((dataOf cs).getD i p0).2]) := fun i h => by
      have lt := hin i h
      obtain ⟨x, hx, rx⟩ := rda.get (i := i) (d := pairD ((dataOf cs).getD i p0)) (by rw [List.getElem?_map, List.getD_eq_getElem?_getD, List.getElem?_eq_getElem lt]; rfl)
      obtain ⟨q, rfl, hq⟩ := Rep.prt rx
      exact ⟨q, by rw [List.getD_eq_getElem?_getD, hx]; rfl, hq⟩
    have nH : ∀ b o, H b = some o → b ∉ la ∧ b ≠ p ∧ b ≠ l := fun b o h => by
      refine ⟨fun z => ?_, fun z => ?_, fun z => ?_⟩
      · have := (lne b z).1
        rw [e12 _ _ h] at this
        exact nomatch this
      · rw [z] at h
        rw [e1 _ _ h] at hp0
        exact nomatch hp0
      · rw [z] at h
        rw [e12 _ _ h] at hl0
        exact nomatch hl0
    refine ⟨p, .dK _, hp3, trivial, fun od => net_lines (p := p) (l := l) (od := od) (la := la) (ss := netS cs lost) (is := is) (dd := dd) (ds := dataOf cs) upd_same pla npl (by rw [upd_ne (Ne.symm npl)]; exact hl) lpn (fun i h => ?_) lis lss nds lnd (fun i hi => ?_) rfl rfl (Nat.le_of_ble_eq_true rfl) fun σ' H4 hs kp ke L4 => ⟨kp.trans upd_same, ?_⟩⟩
    · obtain ⟨q, eq, hq⟩ := prs i h
      exact ⟨q, eq, (nH q _ hq).1, (nH q _ hq).2.1, by rw [upd_ne (nH q _ hq).2.1]; exact (e12.trans e3) _ _ hq⟩
    · have m : la.getD i 0 ∈ la := getD_mem (by omega)
      rw [upd_ne (fun z => pla (by rw [← z]; exact m))]
      exact (lne _ m).2
    have gs : ∀ j, j ≠ 8 → j ≠ 6 → j ≠ 5 → σ'[j]? = ((((L2.start sc_Net_init_N [.ref a, .ref t, .ref lo]).set 4 (some (.ref g))).set 7 (some (.ref p))).set 9 (some (.ref l)))[j]? := fun j h8 h6 h5 => by
      have e := congrArg (fun z : L2.St => z[j]?) hs
      simp only [List.getElem?_set_ne (Ne.symm h8), List.getElem?_set_ne (Ne.symm h6), List.getElem?_set_ne (Ne.symm h5)] at e
      exact e
    have keep : ∀ b o, b ≠ p → b ∉ la → H3 b = some o → (upd H4 p (.dK (is.map fun i : Nat => ((.inl (i : Int) : Key), dd.getD i .non)))) b = some o := fun b o hb hba h => by
      rw [upd_ne hb]
      exact ke b o hba (by rw [upd_ne hb]; exact h)
    have h5a : (upd H4 p (.dK (is.map fun i : Nat => ((.inl (i : Int) : Key), dd.getD i .non)))) a = some (.ins CN dx []) := keep _ _ (nH a _ ha).2.1 (nH a _ ha).1 ((e12.trans e3) _ _ ha)
    show tSeq (sFld K (tVar 0) (tVar 7) "pairs") (sFld K (tVar 0) (tVar 9) "lines_at") _ σ' _
    refine fld_open (K := K) ?_
    refine ⟨_, gs 7 (by decide) (by decide) (by decide), _, gs 0 (by decide) (by decide) (by decide), a, CN, dx, _, rfl, h5a, clN.cl, clN.no _ (by decide +kernel), by show 0 < 1000; decide, ?_⟩
    refine fld_open1 (K := K) ?_
    refine ⟨_, gs 9 (by decide) (by decide) (by decide), _, gs 0 (by decide) (by decide) (by decide), a, CN, dx, _, rfl, upd_same, clN.cl, clN.no _ (by decide +kernel), by show 1 < 1000; decide, ?_⟩
    have fin : ∀ b o, b ≠ a → (upd H4 p (.dK (is.map fun i : Nat => ((.inl (i : Int) : Key), dd.getD i .non)))) b = some o → (upd (upd (upd H4 p (.dK (is.map fun i : Nat => ((.inl (i : Int) : Key), dd.getD i .non)))) a (.ins CN dx (putF "pairs" (.ref p) []))) a (.ins CN dx (putF "lines_at" (.ref l) (putF "pairs" (.ref p) [])))) b = some o := fun b o hb h => by
      rw [upd_ne hb, upd_ne hb]
      exact h
    have nap : p ≠ a := Ne.symm (nH a _ ha).2.1
    have nal : l ≠ a := Ne.symm (nH a _ ha).2.2
    refine k _ (fun b o hb e => fin b o hb (keep b o (nH b _ e).2.1 (nH b _ e).1 ((e12.trans e3) _ _ e))) ⟨dx, p, l, is.map fun i => dd.getD i .non, la, upd_same, by rw [hpE, List.length_map, List.length_map], fin _ _ nap (by rw [upd_same, hpE, List.map_map, List.zip_map']; rfl), ?_, lss, .inl (fin _ _ nal (keep _ _ (Ne.symm npl) lpn hl)), fun i hi => ?_⟩ ⟨dx, p, l, _, upd_same, fin _ _ nal (keep _ _ (Ne.symm npl) lpn hl), npl⟩
    · have R : ∀ js : List Nat, (∀ i ∈ js, i < (dataOf cs).length) → Reps H (js.map fun i => dd.getD i .non) (js.map fun i => pairD ((dataOf cs).getD i p0)) := by
        intro js
        induction js with
        | nil => exact fun _ => .nil
        | cons i r ih =>
          intro h
          refine .cons ?_ (ih fun j hj => h j (List.mem_cons_of_mem _ hj))
          have lt := h i List.mem_cons_self
          obtain ⟨x, hx, rx⟩ := rda.get (i := i) (d := pairD ((dataOf cs).getD i p0)) (by rw [List.getElem?_map, List.getD_eq_getElem?_getD, List.getElem?_eq_getElem lt]; rfl)
          dsimp only
          rw [List.getD_eq_getElem?_getD, hx]
          exact rx
      rw [hpE, List.map_map]
      exact Reps.on (fun b xs h => fin b _ (fun z => by rw [z, ha] at h; exact nomatch h) (keep b _ (nH b _ h).2.1 (nH b _ h).1 ((e12.trans e3) _ _ h))) (R is hin)
    · have m : la.getD i 0 ∈ la := getD_mem (by omega)
      refine fin _ _ (fun z => (nH a _ ha).1 (by rw [← z]; exact m)) ?_
      rw [upd_ne (fun z => pla (by rw [← z]; exact m)), hpE]
      exact L4 i hi
def nSpT (C CN : Addr) : Sp := fun vs H Q _ => ∃ (a dx t lo : Addr) (k : Kd) (cs : List Col) (lx : List V) (lost : List PyData), vs = [.ref a, .ref t, .ref lo] ∧ H a = some (.ins CN dx []) ∧ TabAt H C t k cs ∧ Good cs ∧ H lo = some (.tup lx) ∧ Reps H lx lost ∧ lost.length ≤ 40 ∧ (∀ d ∈ lost, isCell cs d) ∧
  ∀ H', (∀ b o, b ≠ a → H b = some o → H' b = some o) → NetAt H' CN a (netP cs lost) (netS cs lost) → NetPl H' CN a → Q .non H'
theorem ok_ninitT (F : FnM K "__init__" "Net.__init__" s_Net_init f fd) (T : Tops mg)  (clN : ClN K CN) (P_data : Prp P w K mg base 1 C "data" (getSp C "_data")) (P_sums : Prp P w K mg base 1 C "sums" (getSp C "_sums"))  : FnOk P w K mg base CX0 3 f fd ["self", "table", "lost"] (nSpT C CN) := by
  refine F.ok sc_Net_init (fun vs H Q E h => ?_) (fun cdv A outer s H vs Q E hr h => ?_)
  · obtain ⟨a, dx, t, lo, kd, cs, lx, lost, rfl, _⟩ := h; rfl
  · obtain ⟨a, dx, t, lo, kd, cs, lx, lost, rfl, ha, tab, G, hlo, rl, ll, ic, k⟩ := h
    have hu1 := Nat.lt_of_le_of_lt (Nat.add_le_add_left (by decide : 1 ≤ 64) _) hr.units
    refine ⟨_, PSs.nox (pss_cons (ps_set (i := 4) sc_Net_init.nd rfl (.inr rfl) (BE.pe_dcT (own := [("cell", 3)]) (g := gName 3) rfl hu1 sc_Net_init.nd (pi_tup (pv 2)) (blkOk_by (own := [("cell", 3)]) (N := sc_Net_init_N) (sc := defScope s_Net_init) (by decide +kernel)) (fun _ _ _ _ _ => (pg_name (i := 3) sc_Net_init.nd rfl (.inl rfl))) (fun _ _ _ _ _ => (pv 3)) (fun _ _ _ _ _ => pe_bl)))
  (pss_cons (BF.ps_setDc (i := 7) (own := [("number", 5), ("pair", 6)]) (g := gTup K 2 (gCons (gName 5) (gCons (gName 6) gNil))) rfl sc_Net_init.nd rfl rfl (BF.sw_trueD rfl rfl rfl (by decide +kernel)) (ET.pi_enumT (by rfl) T.n_enumerate (pa_cons (pe_prp P_data hr (pv 1)) pa_nil)) (blkOk_by (own := [("number", 5), ("pair", 6)]) (N := sc_Net_init_N) (sc := defScope s_Net_init) (by decide +kernel)) (fun _ _ _ _ _ => (pg_tup rfl (pgs_cons (pg_name (i := 5) sc_Net_init.nd rfl (.inl rfl)) (pgs_cons (pg_name (i := 6) sc_Net_init.nd rfl (.inl rfl)) pgs_nil)))) (fun _ _ _ _ _ => (pts_one (pt_cmp (pc_din hu1 (pe_tup (pa_cons pe_str (pa_cons (pv 5) pa_nil))) (pv 4))))) (fun _ _ _ _ _ => (pv 5)) (fun _ _ _ _ _ => (pv 6)))
  (pss_cons (BF.ps_setDc (i := 9) (own := [("name", 8)]) (g := gName 8) rfl sc_Net_init.nd rfl rfl (BF.sw_trueD rfl rfl rfl (by decide +kernel)) (pi_tup (pe_prp P_sums hr (pv 1))) (blkOk_by (own := [("name", 8)]) (N := sc_Net_init_N) (sc := defScope s_Net_init) (by decide +kernel)) (fun _ _ _ _ _ => (pg_name (i := 8) sc_Net_init.nd rfl (.inl rfl))) (fun _ _ _ _ _ => (pts_one (pt_cmp (pc_dnotin hu1 (pe_tup (pa_cons pe_str (pa_cons (pv 8) pa_nil))) (pv 4))))) (fun _ _ _ _ _ => (pv 8)) (fun _ _ _ _ _ => (pe_lst pa_nil)))
  (pss_cons (ps_lock (ps_for PassesOwn.never rfl (pi_items (pv 7)) (pg_tup rfl (pgs_cons (pg_name (i := 5) sc_Net_init.nd rfl (.inl rfl)) (pgs_cons (pg_name (i := 6) sc_Net_init.nd rfl (.inl rfl)) pgs_nil)))
  (pss_one (ps_for PassesOwn.never rfl (pi_tup (pv 6)) (pg_name (i := 8) sc_Net_init.nd rfl (.inl rfl))
  (pss_one (ps_if (pt_cmp (pc_din hu1 (pv 8) (pv 9)))
  (pss_one (ps_expr (pe_bm PySem.F.plainAttrs_list PySem.F.slot_list_append PySem.F.type_list_append mt_append (pe_dget hu1 (pv 9) (pv 8) (fun _ _ => rfl)) (pa_cons (pv 5) pa_nil))))
  pss_nil))))))
  (pss_cons (ps_fld (pv 0) (pv 7) rfl)
  (pss_one (ps_fld (pv 0) (pv 9) rfl))))))), ?_⟩
    obtain ⟨tx, v1, v2, v3, v4, v6, v9, p5, q7, kv0, h0, h1, h2, h3, h4, h5, h6, h7, h9⟩ := tab.ex
    obtain ⟨su, ss0, rfl, hsu, rsu⟩ := Rep.tup_inv h3
    obtain rfl := rsu.strs
    obtain ⟨da, dd, rfl, hda, rda⟩ := Rep.tup_inv h4
    have ld : (dataOf cs).length ≤ 24 := G.dlen
    have ls : (sumsOf cs).length ≤ 10 := G.slen
    have ldd : dd.length = (dataOf cs).length := by rw [rda.len, List.length_map]
    have llx : lx.length = lost.length := rl.len
    -- what is gone
    refine q_asgO (ed_dcT (tk := tVar 3) (tv := tC (.bl true)) (walk_tup (K := K) (a := lo) (xs := lx)) (by omega) (fun i => [some (.ref a), some (.ref t), some (.ref lo), lx[i]?, none, none, none, none, none, none]) (fun i => lost.getD i .none)
      (fun H1 e R q => ⟨.ref lo, rfl, lo, rfl, ⟨_, st_of (e _ _ hlo)⟩, q H1 (Ex.refl H1) (st_of (e _ _ hlo))⟩) (fun H1 H2 e q => ex_t e q) (fun _ _ => rfl)
      (fun i x H1 H2 R hi e _ ⟨e3, hx⟩ q => by
        subst e3
        have q2 := q _ (Ex.refl _)
        rw [hx] at q2
        exact q2)
      (fun i H1 hi e Q0 q => by
        obtain ⟨x, hx⟩ : ∃ x, lx[i]? = some x := ⟨_, List.getElem?_eq_getElem hi⟩
        obtain ⟨d, hd, rd⟩ := rl.at hx
        have ed : lost.getD i .none = d := by rw [List.getD_eq_getElem?_getD, hd]; rfl
        rw [ed] at q
        obtain ⟨y, rfl, hy⟩ := cell_key (rd.ex e) (cell_kinds (ic d (List.mem_of_getElem? hd)))
        exact ⟨.ref y, by rw [hx]; rfl, q y H1 (Ex.refl H1) hy⟩)
      (fun i H1 hi e => ev_c) H (Ex.refl H) _ fun g H1 hg0 e1 hg => ?_)
    rw [llx, range_getD] at hg
    -- the data that are lost
    refine q_asgO (ed_dcG (tk := tVar 5) (tv := tVar 6) (ET.walk_et (K := K) (a := da) (xs := dd)) (by omega) (fun i => [some (.ref a), some (.ref t), some (.ref lo), none, some (.ref g), some (.int (i : Int)), dd[i]?, none, none, none]) (fun i => hasC lost (datC (i : Int))) (fun i => .inl (i : Int)) (fun i => dd.getD i .non) ?_
      (fun H2 e R q => cons_ (ev_ (ev_prop (ev_var rfl) ((e1.trans e) _ _ h0) rfl) fun H3 e3 => nil_ ⟨da, dd, rfl, st_of (((e1.trans e).trans e3) _ _ hda), q H3 e3 (st_of (((e1.trans e).trans e3) _ _ hda))⟩)) (fun H1 H2 e q => ex_t e q) (fun _ _ => rfl) ?_ ?_ (fun i H2 hi e _ => ev_var rfl) ?_ H1 (Ex.refl H1) _ fun p H2 hp0 e2 hp => ?_)
    · refine List.Nodup.sublist ((List.filter_sublist (l := List.range dd.length)).map _) ?_
      rw [List.nodup_iff_pairwise_ne, List.pairwise_map]
      exact (List.nodup_iff_pairwise_ne.mp List.nodup_range).imp fun h z => h (by have := Sum.inl.inj z; omega)
    · intro i x H2 H3 R hi e _ hy q
      obtain ⟨U, y, z, rfl, hU, rfl, e1', e2'⟩ := hy
      cases (Option.some.inj e1')
      have q2 := q _ (Ex.new (o := HO.tup [.int (i : Int), z]) hU)
      have hz : dd[i]? = some z := e2'
      rw [hz] at q2
      exact g_two (K := K) upd_same q2
    · intro i H2 hi e
      rw [← gone_has]
      exact et_din (er_tup (ds := [.str "datum", .int (i : Int)]) (era_cons (er_str ev_c) (era_cons (er_int (ev_var rfl)) era_nil)) (Nat.le_of_ble_eq_true rfl)) (.inr ⟨_, rfl⟩) (ev_var rfl) (e _ _ hg)
    · intro i H2 hi e _
      exact ev_var (by
        show some (dd[i]?) = _
        rw [List.getD_eq_getElem?_getD, List.getElem?_eq_getElem hi]
        rfl)
    -- the sums that are left
    have W0 : Walk (Itt K su) (sumsOf cs).length (fun H => SqT K H su ((sumsOf cs).map V.str)) (YAt ((sumsOf cs).map V.str)) := by
      have q := walk_tup (K := K) (a := su) (xs := (sumsOf cs).map V.str)
      rw [List.length_map] at q
      exact q
    have e12 := e1.trans e2
    refine q_asgO (ed_dcL (tk := tVar 8) W0 (by omega) (fun i => [some (.ref a), some (.ref t), some (.ref lo), none, some (.ref g), none, none, some (.ref p), some (.str ((sumsOf cs).getD i Str.empty)), none]) (fun i => !hasC lost (sumC ((sumsOf cs).getD i Str.empty))) (fun i => .inr ((sumsOf cs).getD i Str.empty)) ?_
      (fun H3 e R q => ev_prop (ev_var (i := 1) rfl) ((e12.trans e) _ _ h0) rfl H3 (Ex.refl H3) _ fun H4 e4 => ⟨su, rfl, ⟨_, st_of (((e12.trans e).trans e4) _ _ hsu)⟩, q H4 e4 (st_of (((e12.trans e).trans e4) _ _ hsu))⟩) (fun H1 H2 e q => ex_t e q) (fun _ _ => rfl)
      (fun i x H1 H2 R hi e _ ⟨e3, hx⟩ q => by
        subst e3
        rw [List.getElem?_map, List.getElem?_eq_getElem hi] at hx
        cases hx
        have q2 := q _ (Ex.refl _)
        rw [show (sumsOf cs).getD i Str.empty = (sumsOf cs)[i] from List.getD_eq_getElem?_getD.trans (by rw [List.getElem?_eq_getElem hi]; rfl)] at q2
        exact q2)
      (fun i H3 hi e => by
        rw [← gone_has]
        exact et_dnotin (er_tup (ds := [.str "sum", .str ((sumsOf cs).getD i Str.empty)]) (era_cons (er_str ev_c) (era_cons (er_str (ev_var rfl)) era_nil)) (Nat.le_of_ble_eq_true rfl)) (.inl ⟨_, rfl⟩) (ev_var rfl) ((e2.trans e) _ _ hg))
      (fun i H3 hi e _ => ev_var rfl) H2 (Ex.refl H2) _ fun l la H3 hl0 e3 lla lnd lpn lne hl => ?_)
    · refine List.Nodup.sublist ((List.filter_sublist (l := List.range (sumsOf cs).length)).map _) ?_
      rw [show ((List.range (sumsOf cs).length).map fun i => ((.inr ((sumsOf cs).getD i Str.empty)) : Key)) = (((List.range (sumsOf cs).length).map fun i => (sumsOf cs).getD i Str.empty).map Sum.inr) from by rw [List.map_map]; rfl, range_getD]
      have nd := G.snd
      rw [List.nodup_iff_pairwise_ne] at nd ⊢
      rw [List.pairwise_map]
      exact nd.imp fun h z => h (Sum.inr.inj z)
    -- the lines at them
    have sE : ((List.range (sumsOf cs).length).filter fun i => !hasC lost (sumC ((sumsOf cs).getD i Str.empty))).map (fun i => (sumsOf cs).getD i Str.empty) = netS cs lost := by
      unfold netS
      rw [← range_filter (fun s => !hasC lost (sumC s)) (sumsOf cs) Str.empty]
    generalize hfs : ((List.range (sumsOf cs).length).filter fun i => !hasC lost (sumC ((sumsOf cs).getD i Str.empty))) = fs at hl lla sE
    have kE : (fs.map fun i => ((.inr ((sumsOf cs).getD i Str.empty)) : Key)) = (netS cs lost).map Sum.inr := by rw [← sE, List.map_map]; rfl
    rw [kE] at hl
    have lss : la.length = (netS cs lost).length := by rw [lla, ← sE, List.length_map]
    have nds : (netS cs lost).Nodup := G.snd.filter _
    rw [ldd] at hp
    generalize his : ((List.range (dataOf cs).length).filter fun i : Nat => hasC lost (datC (i : Int))) = is at hp
    have hin : ∀ i ∈ is, i < (dataOf cs).length := fun i h => by rw [← his] at h; exact List.mem_range.mp (List.mem_filter.mp h).1
    have lis : is.length ≤ 24 := by
      have := List.length_filter_le (fun i : Nat => hasC lost (datC (i : Int))) (List.range (dataOf cs).length)
      rw [his, List.length_range] at this
      omega
    have hpE : netP cs lost = is.map fun n => (n, (dataOf cs).getD n p0) := by rw [← his]; rfl
    have hp3 := e3 _ _ hp
    have pla : p ∉ la := fun z => by have := (lne p z).1; rw [hp] at this; exact nomatch this
    have npl : p ≠ l := fun z => by rw [z, hl0] at hp; exact nomatch hp
    have prs : ∀ i ∈ is, ∃ q, dd.getD i .non = .ref q ∧ H q = some (.tup [.str ((dataOf cs).getD i p0).1, .str ((dataOf cs).getD i p0).2]) := fun i h => by
      have lt := hin i h
      obtain ⟨x, hx, rx⟩ := rda.get (i := i) (d := pairD ((dataOf cs).getD i p0)) (by rw [List.getElem?_map, List.getD_eq_getElem?_getD, List.getElem?_eq_getElem lt]; rfl)
      obtain ⟨q, rfl, hq⟩ := Rep.prt rx
      exact ⟨q, by rw [List.getD_eq_getElem?_getD, hx]; rfl, hq⟩
    have nH : ∀ b o, H b = some o → b ∉ la ∧ b ≠ p ∧ b ≠ l := fun b o h => by
      refine ⟨fun z => ?_, fun z => ?_, fun z => ?_⟩
      · have := (lne b z).1
        rw [e12 _ _ h] at this
        exact nomatch this
      · rw [z] at h
        rw [e1 _ _ h] at hp0
        exact nomatch hp0
      · rw [z] at h
        rw [e12 _ _ h] at hl0
        exact nomatch hl0
    refine ⟨p, .dK _, hp3, trivial, fun od => net_lines (p := p) (l := l) (od := od) (la := la) (ss := netS cs lost) (is := is) (dd := dd) (ds := dataOf cs) upd_same pla npl (by rw [upd_ne (Ne.symm npl)]; exact hl) lpn (fun i h => ?_) lis lss nds lnd (fun i hi => ?_) rfl rfl (Nat.le_of_ble_eq_true rfl) fun σ' H4 hs kp ke L4 => ⟨kp.trans upd_same, ?_⟩⟩
    · obtain ⟨q, eq, hq⟩ := prs i h
      exact ⟨q, eq, (nH q _ hq).1, (nH q _ hq).2.1, by rw [upd_ne (nH q _ hq).2.1]; exact (e12.trans e3) _ _ hq⟩
    · have m : la.getD i 0 ∈ la := getD_mem (by omega)
      rw [upd_ne (fun z => pla (by rw [← z]; exact m))]
      exact (lne _ m).2
    have gs : ∀ j, j ≠ 8 → j ≠ 6 → j ≠ 5 → σ'[j]? = ((((L2.start sc_Net_init_N [.ref a, .ref t, .ref lo]).set 4 (some (.ref g))).set 7 (some (.ref p))).set 9 (some (.ref l)))[j]? := fun j h8 h6 h5 => by
      have e := congrArg (fun z : L2.St => z[j]?) hs
      simp only [List.getElem?_set_ne (Ne.symm h8), List.getElem?_set_ne (Ne.symm h6), List.getElem?_set_ne (Ne.symm h5)] at e
      exact e
    have keep : ∀ b o, b ≠ p → b ∉ la → H3 b = some o → (upd H4 p (.dK (is.map fun i : Nat => ((.inl (i : Int) : Key), dd.getD i .non)))) b = some o := fun b o hb hba h => by
      rw [upd_ne hb]
      exact ke b o hba (by rw [upd_ne hb]; exact h)
    have h5a : (upd H4 p (.dK (is.map fun i : Nat => ((.inl (i : Int) : Key), dd.getD i .non)))) a = some (.ins CN dx []) := keep _ _ (nH a _ ha).2.1 (nH a _ ha).1 ((e12.trans e3) _ _ ha)
    show tSeq (sFld K (tVar 0) (tVar 7) "pairs") (sFld K (tVar 0) (tVar 9) "lines_at") _ σ' _
    refine fld_open (K := K) ?_
    refine ⟨_, gs 7 (by decide) (by decide) (by decide), _, gs 0 (by decide) (by decide) (by decide), a, CN, dx, _, rfl, h5a, clN.cl, clN.no _ (by decide +kernel), by show 0 < 1000; decide, ?_⟩
    refine fld_open1 (K := K) ?_
    refine ⟨_, gs 9 (by decide) (by decide) (by decide), _, gs 0 (by decide) (by decide) (by decide), a, CN, dx, _, rfl, upd_same, clN.cl, clN.no _ (by decide +kernel), by show 1 < 1000; decide, ?_⟩
    have fin : ∀ b o, b ≠ a → (upd H4 p (.dK (is.map fun i : Nat => ((.inl (i : Int) : Key), dd.getD i .non)))) b = some o → (upd (upd (upd H4 p (.dK (is.map fun i : Nat => ((.inl (i : Int) : Key), dd.getD i .non)))) a (.ins CN dx (putF "pairs" (.ref p) []))) a (.ins CN dx (putF "lines_at" (.ref l) (putF "pairs" (.ref p) [])))) b = some o := fun b o hb h => by
      rw [upd_ne hb, upd_ne hb]
      exact h
    have nap : p ≠ a := Ne.symm (nH a _ ha).2.1
    have nal : l ≠ a := Ne.symm (nH a _ ha).2.2
    refine k _ (fun b o hb e => fin b o hb (keep b o (nH b _ e).2.1 (nH b _ e).1 ((e12.trans e3) _ _ e))) ⟨dx, p, l, is.map fun i => dd.getD i .non, la, upd_same, by rw [hpE, List.length_map, List.length_map], fin _ _ nap (by rw [upd_same, hpE, List.map_map, List.zip_map']; rfl), ?_, lss, .inl (fin _ _ nal (keep _ _ (Ne.symm npl) lpn hl)), fun i hi => ?_⟩ ⟨dx, p, l, _, upd_same, fin _ _ nal (keep _ _ (Ne.symm npl) lpn hl), npl⟩
    · have R : ∀ js : List Nat, (∀ i ∈ js, i < (dataOf cs).length) → Reps H (js.map fun i => dd.getD i .non) (js.map fun i => pairD ((dataOf cs).getD i p0)) := by
        intro js
        induction js with
        | nil => exact fun _ => .nil
        | cons i r ih =>
          intro h
          refine .cons ?_ (ih fun j hj => h j (List.mem_cons_of_mem _ hj))
          have lt := h i List.mem_cons_self
          obtain ⟨x, hx, rx⟩ := rda.get (i := i) (d := pairD ((dataOf cs).getD i p0)) (by rw [List.getElem?_map, List.getD_eq_getElem?_getD, List.getElem?_eq_getElem lt]; rfl)
          dsimp only
          rw [List.getD_eq_getElem?_getD, hx]
          exact rx
      rw [hpE, List.map_map]
      exact Reps.on (fun b xs h => fin b _ (fun z => by rw [z, ha] at h; exact nomatch h) (keep b _ (nH b _ h).2.1 (nH b _ h).1 ((e12.trans e3) _ _ h))) (R is hin)
    · have m : la.getD i 0 ∈ la := getD_mem (by omega)
      refine fin _ _ (fun z => (nH a _ ha).1 (by rw [← z]; exact m)) ?_
      rw [upd_ne (fun z => pla (by rw [← z]; exact m)), hpE]
      exact L4 i hi
end
end K30
end
section
set_option Elab.async false
set_option linter.all false
set_option maxRecDepth 100000
set_option maxHeartbeats 4000000
namespace K30
open PySem PySem.Spec PyProof.Rows L2 Evl TX
open C8 (Cal pe_c pe_gc)
def acSp (CN : Addr) : Sp := fun vs H Q _ => ∃ (a : Addr) (ps : List (Nat × Str × Str)) (ss : List Str) (i n : Nat) (z : Str × Str) (s : Str), vs = [.ref a, .int (n : Int), .str s] ∧ NetAt H CN a ps ss ∧ (ps.map (·.1)).Nodup ∧ ps[i]? = some (n, z) ∧ (∀ H', Ex H H' → Q (.str (acrossP z s)) H')
theorem NetAt.at {H : Hp} {C a : Addr} {ps : List (Nat × Str × Str)} {ss : List Str} (h : NetAt H C a ps ss) (nd : (ps.map (·.1)).Nodup) {i n : Nat} {z : Str × Str} (hi : ps[i]? = some (n, z)) : ∃ (dx p l q : Addr) (kvs : List (Key × V)), H a = some (.ins C dx [("pairs", .ref p), ("lines_at", .ref l)]) ∧ H p = some (.dK kvs) ∧ valV kvs (.inl (n : Int)) = some (.ref q) ∧ H q = some (.tup [.str z.1, .str z.2]) := by
  obtain ⟨dx, p, l, pv, la, h1, lp, h2, rp, _⟩ := h.ex
  obtain ⟨x, hx, rx⟩ := rp.get (i := i) (d := pairD z) (by rw [List.getElem?_map, hi]; rfl)
  obtain ⟨q, rfl, hq⟩ := Rep.prt rx
  refine ⟨dx, p, l, q, _, h1, h2, ?_, hq⟩
  refine val_at (i := i) ?_ ?_
  · rw [List.map_fst_zip (by rw [List.length_map]; omega)]
    rw [show (ps.map fun z => (.inl (z.1 : Int) : Key)) = (ps.map (·.1)).map fun n : Nat => (.inl (n : Int) : Key) from by rw [List.map_map]; rfl]
    rw [List.nodup_iff_pairwise_ne] at nd ⊢
    rw [List.pairwise_map]
    exact nd.imp fun h z => h (by have := Sum.inl.inj z; omega)
  · rw [List.getElem?_zip_eq_some]
    exact ⟨by rw [List.getElem?_map, hi]; rfl, hx⟩
section
variable {P : Program} {w : World} {K : PySem.W.Frag} {mg : Str → Option Value} {base : Heap} {f : Addr} {fd : FuncData}
variable {CN : Addr}
abbrev sc_Net_across_N : List Str := ["self", "number", "name", "one", "other"]
theorem sc_Net_across : FnScope sc_Net_across_N ["self", "number", "name"] (defScope s_Net_across) := ⟨rfl, rfl, rfl, by decide +kernel, rfl, by decide +kernel, by decide +kernel⟩
theorem ok_across (F : FnM K "across" "Net.across" s_Net_across f fd) (T : Tops mg)  (clN : ClN K CN)  : FnOk P w K mg base CX0 1 f fd ["self", "number", "name"] (acSp CN) := by
  refine F.ok sc_Net_across (fun vs H Q E h => ?_) (fun cdv A outer s H vs Q E hr h => ?_)
  · obtain ⟨a, ps, ss, i, n, z, s, rfl, _⟩ := h; rfl
  · obtain ⟨a, ps, ss, i, n, z, s, rfl, N, nd, hi, k⟩ := h
    have hu1 := Nat.lt_of_le_of_lt (Nat.add_le_add_left (by decide : 1 ≤ 64) _) hr.units
    refine ⟨_, PSs.nox (pss_cons (ps_asg (pe_dget hu1 (pe_fld (pv 0) rfl) (pv 1) (fun _ _ => rfl)) (pg_tup rfl (pgs_cons (pg_name (i := 3) sc_Net_across.nd rfl (.inl rfl)) (pgs_cons (pg_name (i := 4) sc_Net_across.nd rfl (.inl rfl)) pgs_nil))))
  (pss_one (ps_ret (pe_ifExp (pt_cmpR op_eq (pv 2) (pv 3) (nomark _)) (pv 4) (pv 3))))), ?_⟩
    obtain ⟨dx, p, l, q, kvs, ha, hp, hv, hq⟩ := N.at nd hi
    refine ⟨_, rfl, a, CN, dx, _, _, rfl, ha, clN.cl, clN.no _ (by decide +kernel), rfl, _, rfl, p, _, rfl, by rw [← hv]; exact DGet.k (k := .inl (n : Int)) hp, q, _, rfl, st_of hq, rfl, _, _, rfl, _, _, rfl, rfl, ?_⟩
    refine ⟨_, rfl, _, rfl, rfl, decide (V.str s = V.str z.1), rfl, ?_⟩
    by_cases e : s = z.1
    · rw [decide_eq_true (by rw [e])]
      dsimp only
      rw [if_pos rfl]
      refine ⟨_, rfl, ?_⟩
      have q := k H (Ex.refl H)
      rw [show acrossP z s = z.2 from if_pos e] at q
      exact q
    · rw [decide_eq_false (fun h => e (V.str.inj h))]
      dsimp only
      rw [if_neg (by decide)]
      refine ⟨_, rfl, ?_⟩
      have q := k H (Ex.refl H)
      rw [show acrossP z s = z.1 from if_neg e] at q
      exact q
end
end K30
end
section
set_option Elab.async false
set_option linter.all false
set_option maxRecDepth 100000
set_option maxHeartbeats 4000000
namespace K30
open PySem PySem.Spec PyProof.Rows L2 Evl TX
open C8 (Cal pe_c pe_gc)
section
variable {K : PySem.W.Frag} {σ : L2.St} {H : Hp} {D : Ends} {tz : TS} {ta tb td ty tl te : TE} {v : V} {ds : List PyData}
theorem ev_dgetK {p : Addr} {kvs : List (Key × V)} {k : Key} (hd : Ev td σ H (.ref p)) (hy : Ev ty σ H (kV k)) (hp : H p = some (.dK kvs)) (hv : valV kvs k = some v) : Ev (tDGet td ty) σ H v := fun H1 e Q q =>
  hd H1 e _ fun H2 e2 => hy H2 (e.trans e2) _ fun H3 e3 => ⟨p, v, rfl, by rw [← hv]; exact DGet.k (((e.trans e2).trans e3) _ _ hp), q H3 (e2.trans e3)⟩
theorem ev_dinK {g : Addr} {kvs : List (Key × V)} {k : Key} (hy : Ev ty σ H (kV k)) (hd : Ev td σ H (.ref g)) (hg : H g = some (.dK kvs)) : Ev (tDIn ty td) σ H (.bl (valV kvs k).isSome) := fun H1 e Q q =>
  hy H1 e _ fun H2 e2 => hd H2 (e.trans e2) _ fun H3 e3 => ⟨g, _, rfl, DGet.k (((e.trans e2).trans e3) _ _ hg), q H3 (e2.trans e3)⟩
theorem ev_dnotinK {g : Addr} {kvs : List (Key × V)} {k : Key} (hy : Ev ty σ H (kV k)) (hd : Ev td σ H (.ref g)) (hg : H g = some (.dK kvs)) : Ev (tDNotIn ty td) σ H (.bl (!(valV kvs k).isSome)) := fun H1 e Q q =>
  hy H1 e _ fun H2 e2 => hd H2 (e.trans e2) _ fun H3 e3 => ⟨g, _, rfl, DGet.k (((e.trans e2).trans e3) _ _ hg), q H3 (e2.trans e3)⟩
theorem ev_dgetR {p : Addr} {kvs : List (Key × V)} {k : Key} (hd : Ev td σ H (.ref p)) (hy : Ev ty σ H (kV k)) (hp : Rd H p (.dK kvs)) (hv : valV kvs k = some v) : Ev (tDGet td ty) σ H v := fun H1 e Q q =>
  hd H1 e _ fun H2 e2 => hy H2 (e.trans e2) _ fun H3 e3 => ⟨p, v, rfl, by rw [← hv]; exact .inl ⟨kvs, k, ex_rd ((e.trans e2).trans e3) hp, rfl, rfl⟩, q H3 (e2.trans e3)⟩
theorem ev_dinR {g : Addr} {kvs : List (Key × V)} {k : Key} (hy : Ev ty σ H (kV k)) (hd : Ev td σ H (.ref g)) (hg : Rd H g (.dK kvs)) : Ev (tDIn ty td) σ H (.bl (valV kvs k).isSome) := fun H1 e Q q =>
  hy H1 e _ fun H2 e2 => hd H2 (e.trans e2) _ fun H3 e3 => ⟨g, _, rfl, .inl ⟨kvs, k, ex_rd ((e.trans e2).trans e3) hg, rfl, rfl⟩, q H3 (e2.trans e3)⟩
theorem ev_anyR {bs : List Bool} (h : EvS te σ H (bs.map PyData.bool)) : Ev (tCB (rAny K) (tCons te tNil)) σ H (.bl (bs.any id)) := fun H1 a Q q =>
  h H1 a _ fun p xs H2 _ b hp rs => ⟨p, bs, rfl, by rw [← rs.bools]; exact sq_of hp, q H2 b⟩
theorem unlock_ex {H H1 : Hp} {p : Addr} {u o : HO} (hp : H p = some u) (e : Ex (upd H p o) H1) : Ex H (upd H1 p u) := fun a x ha => by
  by_cases z : a = p
  · subst z
    rw [hp] at ha
    cases ha
    exact upd_same
  · rw [upd_ne z]
    exact e a x (by rw [upd_ne z]; exact ha)
/-- name = [..] while the dict that it goes over is locked -/
theorem q_lockS {i : Nat} {p : Addr} {u : HO} (hp : H p = some u) (mu : Mut (some u)) (h : ∀ od, EvS te σ (upd H p (.frz od u)) ds) (k : ∀ q xs H1, H q = none → Ex H H1 → H1 q = some (.lst xs) → Reps H1 xs ds → tz D (σ.set i (some (.ref q))) H1) : tSeq (tLock (tAsg te (gName i))) tz D σ H :=
  ⟨p, u, hp, mu, fun od => h od _ (Ex.refl _) _ fun q xs H1 hq e hx rs => by
    have nq : q ≠ p := fun z => by rw [z, upd_same] at hq; exact nomatch hq
    have hf : H1 p = some (.frz od u) := e _ _ upd_same
    refine ⟨hf, k q xs _ (by rw [upd_ne nq] at hq; exact hq) (unlock_ex hp e) (by rw [upd_ne nq]; exact hx) (rs.on fun b ys hb => ?_)⟩
    rw [upd_ne (fun z => by rw [z, hf] at hb; exact nomatch hb)]
    exact hb⟩
theorem inV_int {n : Int} (zs : List Int) : inV (.int n) (zs.map V.int) = zs.any fun z => decide (z = n) := by
  unfold inV
  rw [List.any_map]
  refine congrArg (fun f => List.any zs f) (funext fun z => ?_)
  show (z == n) = decide (z = n)
  rfl
/-! ### parts -/
def inC (cl : List (Str × Int)) (s : Str) : Bool := cl.any fun q => decide (q.1 = s)
def colOf (cl : List (Str × Int)) (s : Str) : Int := ((cl.find? fun q => decide (q.1 = s)).map (·.2)).getD 0
def kvC (cl : List (Str × Int)) : List (Key × V) := cl.map fun q => ((.inr q.1 : Key), V.int q.2)
theorem kvC_get (s : Str) : ∀ cl : List (Str × Int), valV (kvC cl) (.inr s) = if inC cl s then some (.int (colOf cl s)) else none
  | [] => rfl
  | q :: r => by
    have ih := kvC_get s r
    show valV (((.inr q.1 : Key), V.int q.2) :: kvC r) (.inr s) = _
    by_cases e : q.1 = s
    · rw [valV_pos (by rw [e])]
      have i1 : inC (q :: r) s = true := by
        unfold inC
        rw [List.any_cons, decide_eq_true e]
        rfl
      have i2 : colOf (q :: r) s = q.2 := by
        unfold colOf
        rw [List.find?_cons, decide_eq_true e]
        rfl
      rw [i1, i2]
      rfl
    · rw [valV_neg (fun z => e (Sum.inr.inj z)), ih]
      have i1 : inC (q :: r) s = inC r s := by
        unfold inC
        rw [List.any_cons, decide_eq_false e]
        rfl
      have i2 : colOf (q :: r) s = colOf r s := by
        unfold colOf
        rw [List.find?_cons, decide_eq_false e]
      rw [i1, i2]
theorem kvC_in (cl : List (Str × Int)) (s : Str) : (valV (kvC cl) (.inr s)).isSome = inC cl s := by
  rw [kvC_get]
  cases inC cl s <;> rfl
theorem kvC_at {cl : List (Str × Int)} {s : Str} (h : inC cl s = true) : valV (kvC cl) (.inr s) = some (.int (colOf cl s)) := by
  rw [kvC_get, if_pos h]
def z0 : Nat × Str × Str := (0, p0)
def partL (ps : List (Nat × Str × Str)) (cl : List (Str × Int)) : List (Nat × Str × Str) := ps.filter fun z => inC cl z.2.1 || inC cl z.2.2
def partS (ps : List (Nat × Str × Str)) (cl : List (Str × Int)) : List (Nat × Str × Str) := (partL ps cl).filter fun z => !(inC cl z.2.1 && inC cl z.2.2)
def partI (ps : List (Nat × Str × Str)) (cl : List (Str × Int)) : List (Nat × Str × Str) := (partL ps cl).filter fun z => inC cl z.2.1 && inC cl z.2.2
def partT (ps : List (Nat × Str × Str)) (cl : List (Str × Int)) : Bool := (partI ps cl).all fun z => !decide (colOf cl z.2.1 = colOf cl z.2.2)
theorem nod_eq {ps : List (Nat × Str × Str)} (nd : (ps.map (·.1)).Nodup) {x y : Nat × Str × Str} (hx : x ∈ ps) (hy : y ∈ ps) (e : x.1 = y.1) : x = y := by
  rw [List.nodup_iff_pairwise_ne, List.pairwise_map] at nd
  induction ps with
  | nil => exact nomatch hx
  | cons z r ih =>
    obtain ⟨n1, n2⟩ := List.pairwise_cons.mp nd
    rcases List.mem_cons.mp hx with rfl | hx'
    · rcases List.mem_cons.mp hy with rfl | hy'
      · rfl
      · exact absurd e (n1 _ hy')
    · rcases List.mem_cons.mp hy with rfl | hy'
      · exact absurd e.symm (n1 _ hx')
      · exact ih n2 hx' hy'
theorem stub_in {ps : List (Nat × Str × Str)} (nd : (ps.map (·.1)).Nodup) {cl : List (Str × Int)} {z : Nat × Str × Str} (hz : z ∈ partL ps cl) : ((partS ps cl).map fun y => (y.1 : Int)).any (fun y => decide (y = (z.1 : Int))) = !(inC cl z.2.1 && inC cl z.2.2) := by
  have hz0 : z ∈ ps := (List.mem_filter.mp hz).1
  cases h : (inC cl z.2.1 && inC cl z.2.2) with
  | false => exact List.any_eq_true.mpr ⟨z.1, List.mem_map.mpr ⟨z, List.mem_filter.mpr ⟨hz, by rw [h]; rfl⟩, rfl⟩, decide_eq_true rfl⟩
  | true =>
    refine List.any_eq_false.mpr fun n hn e => ?_
    obtain ⟨y, hy, rfl⟩ := List.mem_map.mp hn
    have q := List.mem_filter.mp hy
    have ey : y = z := nod_eq nd (List.mem_filter.mp q.1).1 hz0 (by have := of_decide_eq_true e; omega)
    rw [ey, h] at q
    exact nomatch q.2
theorem pairs_at {ps : List (Nat × Str × Str)} {pv : List V} (nd : (ps.map (·.1)).Nodup) (rp : Reps H pv (ps.map fun z => pairD z.2)) {z : Nat × Str × Str} (hz : z ∈ ps) : ∃ q, valV ((ps.map fun z => (.inl (z.1 : Int) : Key)).zip pv) (.inl (z.1 : Int)) = some (.ref q) ∧ H q = some (.tup [.str z.2.1, .str z.2.2]) := by
  obtain ⟨i, hi, ei⟩ := List.mem_iff_getElem.mp hz
  have hi' : ps[i]? = some z := by rw [List.getElem?_eq_getElem hi, ei]
  obtain ⟨x, hx, rx⟩ := rp.get (i := i) (d := pairD z.2) (by rw [List.getElem?_map, hi']; rfl)
  obtain ⟨q, rfl, hq⟩ := Rep.prt rx
  have lp : pv.length = ps.length := by rw [rp.len, List.length_map]
  refine ⟨q, val_at (i := i) ?_ ?_, hq⟩
  · rw [List.map_fst_zip (by rw [List.length_map]; omega)]
    rw [show (ps.map fun z => (.inl (z.1 : Int) : Key)) = (ps.map (·.1)).map fun n : Nat => (.inl (n : Int) : Key) from by rw [List.map_map]; rfl]
    rw [List.nodup_iff_pairwise_ne] at nd ⊢
    rw [List.pairwise_map]
    exact nd.imp fun h z => h (by have := Sum.inl.inj z; omega)
  · rw [List.getElem?_zip_eq_some]
    exact ⟨by rw [List.getElem?_map, hi']; rfl, hx⟩
/-- [name in colours for name in a pair] -/
theorem names_in {q c : Addr} {s1 s2 : Str} {cl : List (Str × Int)} (h : Ev tl σ H (.ref q)) (hq : H q = some (.tup [.str s1, .str s2])) (hc : H c = some (.dK (kvC cl))) (e2 : σ[2]? = some (some (.ref c))) (l : 5 < σ.length) :
    EvS (tLc (iTup K tl) (gName 5) tYes (tDIn (tVar 5) (tVar 2)) [5]) σ H ([inC cl s1, inC cl s2].map PyData.bool) := by
  refine es_lcT1 (K := K) h hq (Nat.le_of_ble_eq_true rfl) (fun j => σ.set 5 ((some ((.str ([s1, s2].getD j Str.empty)))))) (fun j => .bool (inC cl ([s1, s2].getD j Str.empty))) (fun j hj => ?_) (fun j x H1 R hx e r => ?_) fun j x H1 hx e => ?_
  · show (σ.set 5 _).set 5 none = σ.set 5 none
    rw [List.set_set]
  · show R ((σ.set 5 none).set 5 (some x)) H1
    rw [List.set_set]
    have : x = .str ([s1, s2].getD j Str.empty) := by
      match j, hx with
      | 0, hx => exact (Option.some.inj hx).symm
      | 1, hx => exact (Option.some.inj hx).symm
    rw [this]
    exact r
  · refine er_ev (v := .bl (inC cl ([s1, s2].getD j Str.empty))) ?_ (.bl _)
    have q := ev_dinK (k := .inr ([s1, s2].getD j Str.empty)) (ev_var (σ := σ.set 5 (some (.str ([s1, s2].getD j Str.empty)))) (i := 5) (by rw [List.getElem?_set_self l]; rfl)) (ev_var (i := 2) (by rw [List.getElem?_set_ne (by decide)]; exact e2)) (e _ _ hc)
    rw [kvC_in] at q
    exact q
end
end K30
end
section
set_option Elab.async false
set_option linter.all false
set_option maxRecDepth 100000
set_option maxHeartbeats 4000000
namespace K30
open PySem PySem.Spec PyProof.Rows L2 Evl TX
open C8 (Cal pe_c pe_gc)
def lcScopeAt (st : Stmt) (i : Nat) : Scope := match (defBody st)[i]? with
  | some (.Assign _ (.ListComp _ _ sc _) _) => sc
  | _ => defScope st
theorem nats_of {H : Hp} : ∀ {zs : List (Nat × Str × Str)} {vs : List V}, Reps H vs (zs.map fun z => .int (z.1 : Int)) → vs = zs.map fun z => V.int (z.1 : Int)
  | [], _, r => r.nil_inv
  | z :: zs, _, r => by
    obtain ⟨x, xs, rfl, h, q⟩ := r.cons_inv
    rw [h.int_inv, nats_of q]; rfl
theorem ofNats {H : Hp} : ∀ (zs : List (Nat × Str × Str)), Reps H (zs.map fun z => V.int (z.1 : Int)) (zs.map fun z => .int (z.1 : Int))
  | [] => .nil
  | z :: zs => .cons (.int _) (ofNats zs)
structure ClP (K : PySem.W.Frag) (C : Addr) : Prop where
  cl : Cls K C
  no : ∀ f ∈ (["colours", "lines", "stubs", "is_two_sided"] : List Str), NoAttr K C f
def PartAt (H : Hp) (C a : Addr) (ps : List (Nat × Str × Str)) (cl : List (Str × Int)) : Prop := ∃ (dx c l s : Addr), H a = some (.ins C dx [("colours", .ref c), ("lines", .ref l), ("stubs", .ref s), ("is_two_sided", .bl (partT ps cl))]) ∧ H c = some (.dK (kvC cl)) ∧
  H l = some (.tup ((partL ps cl).map fun z => V.int (z.1 : Int))) ∧ H s = some (.tup ((partS ps cl).map fun z => V.int (z.1 : Int)))
def ptSp (CN CP : Addr) : Sp := fun vs H Q _ => ∃ (a dx n c : Addr) (ps : List (Nat × Str × Str)) (ss : List Str) (cl : List (Str × Int)), vs = [.ref a, .ref n, .ref c] ∧ H a = some (.ins CP dx []) ∧ NetAt H CN n ps ss ∧ (ps.map (·.1)).Nodup ∧ ps.length ≤ 24 ∧ H c = some (.dK (kvC cl)) ∧ cl ≠ [] ∧
  ∀ H', (∀ b o, b ≠ a → H b = some o → H' b = some o) → PartAt H' CP a ps cl → Q .non H'
section
variable {P : Program} {w : World} {K : PySem.W.Frag} {mg : Str → Option Value} {base : Heap} {f : Addr} {fd : FuncData}
variable {CN CP : Addr}
abbrev sc_Part_init_N : List Str := ["self", "net", "colours", "number", "pair", "name", "lines", "stubs", "inner", "one", "other"]
theorem sc_Part_init : FnScope sc_Part_init_N ["self", "net", "colours"] (defScope s_Part_init) := ⟨rfl, rfl, rfl, by decide +kernel, rfl, by decide +kernel, by decide +kernel⟩
theorem ok_ptinit (F : FnM K "__init__" "Part.__init__" s_Part_init f fd) (T : Tops mg)  (clN : ClN K CN) (clP : ClP K CP)  : FnOk P w K mg base CX0 1 f fd ["self", "net", "colours"] (ptSp CN CP) := by
  refine F.ok sc_Part_init (fun vs H Q E h => ?_) (fun cdv A outer s H vs Q E hr h => ?_)
  · obtain ⟨a, dx, n, c, ps, ss, cl, rfl, _⟩ := h; rfl
  · obtain ⟨a, dx, n, c, ps, ss, cl, rfl, ha, N, nd, lps, hc, hcl, k⟩ := h
    have hu1 := Nat.lt_of_le_of_lt (Nat.add_le_add_left (by decide : 1 ≤ 64) _) hr.units
    refine ⟨_, PSs.nox (pss_cons (ps_fld (pv 0) (pv 2) rfl)
  (pss_cons (ps_lock (ps_setLc (i := 6) (own := [("number", 3), ("pair", 4)]) (g := gTup K 2 (gCons (gName 3) (gCons (gName 4) gNil))) rfl sc_Part_init.nd rfl rfl (sw_true rfl rfl rfl (by decide +kernel)) (pi_items (pe_fld (pv 1) rfl)) (blkOk_by (own := [("number", 3), ("pair", 4)]) (N := sc_Part_init_N) (sc := defScope s_Part_init) (by decide +kernel)) (fun _ _ _ _ _ => (pg_tup rfl (pgs_cons (pg_name (i := 3) sc_Part_init.nd rfl (.inl rfl)) (pgs_cons (pg_name (i := 4) sc_Part_init.nd rfl (.inl rfl)) pgs_nil)))) (fun _ _ _ _ _ => (pts_one (pt_val (pe_callB (r := rAny K) (cr_any rfl) (by rfl) T.n_any (by decide +kernel) (pa_cons (pe_lc (wi := (iTup K (tVar 4))) (own := [("name", 5)]) (g := gName 5) (tt := tYes) rfl sc_Part_init.nd (pi_tup (pv 4)) (blkOk_by (own := [("name", 5)]) (N := sc_Part_init_N) (sc := relS (lcScopeAt s_Part_init 1) (defScope s_Part_init)) (by decide +kernel)) (fun _ _ _ _ _ => (pg_name (i := 5) sc_Part_init.nd rfl (.inl rfl))) (fun _ _ _ _ _ => pts_nil) (fun _ _ _ _ _ => (pe_cmp (pc_din hu1 (pv 5) (pv 2))))) pa_nil))))) (fun _ _ _ _ _ => (pv 3))))
  (pss_cons (ps_set (i := 7) sc_Part_init.nd rfl (.inr rfl) (pe_lc (own := [("number", 3)]) (g := gName 3) rfl sc_Part_init.nd (pi_list (pv 6)) (blkOk_by (own := [("number", 3)]) (N := sc_Part_init_N) (sc := defScope s_Part_init) (by decide +kernel)) (fun _ _ _ _ _ => (pg_name (i := 3) sc_Part_init.nd rfl (.inl rfl))) (fun _ _ _ _ _ => (pts_one (pt_not (pt_val (pe_callB (r := rAll K) (cr_all rfl) (by rfl) T.n_all (by decide +kernel) (pa_cons (pe_lc (wi := (iTup K (tDGet (tFld K (tVar 1) "pairs") (tVar 3)))) (own := [("name", 5)]) (g := gName 5) (tt := tYes) rfl sc_Part_init.nd (pi_tup (pe_dget hu1 (pe_fld (pv 1) rfl) (pv 3) (fun _ _ => rfl))) (blkOk_by (own := [("name", 5)]) (N := sc_Part_init_N) (sc := relS (lcScopeAt s_Part_init 2) (defScope s_Part_init)) (by decide +kernel)) (fun _ _ _ _ _ => (pg_name (i := 5) sc_Part_init.nd rfl (.inl rfl))) (fun _ _ _ _ _ => pts_nil) (fun _ _ _ _ _ => (pe_cmp (pc_din hu1 (pv 5) (pv 2))))) pa_nil)))))) (fun _ _ _ _ _ => (pv 3))))
  (pss_cons (ps_setLc (i := 8) (te := tDGet (tFld K (tVar 1) "pairs") (tVar 3)) (own := [("number", 3)]) (g := gName 3) rfl sc_Part_init.nd rfl rfl (sw_true rfl rfl rfl (by decide +kernel)) (pi_list (pv 6)) (blkOk_by (own := [("number", 3)]) (N := sc_Part_init_N) (sc := defScope s_Part_init) (by decide +kernel)) (fun _ _ _ _ _ => (pg_name (i := 3) sc_Part_init.nd rfl (.inl rfl))) (fun _ _ _ _ _ => (pts_one (pt_cmpR (op_notIn_seq : OpR _ _ (rIn K true)) (pv 3) (pv 7) rfl))) (fun _ _ _ _ _ => (pe_dget hu1 (pe_fld (pv 1) rfl) (pv 3) (fun _ _ => rfl))))
  (pss_cons (ps_fld (pv 0) (pe_callTy call_tuple_of (by rfl) T.n_tuple (by decide +kernel) (pa_cons (pv 6) pa_nil)) rfl)
  (pss_cons (ps_fld (pv 0) (pe_callTy call_tuple_of (by rfl) T.n_tuple (by decide +kernel) (pa_cons (pv 7) pa_nil)) rfl)
  (pss_one (ps_fld (pv 0) (pe_callB (cr_all rfl) (by rfl) T.n_all (by decide +kernel) (pa_cons (pe_lc (own := [("one", 9), ("other", 10)]) (g := gTup K 2 (gCons (gName 9) (gCons (gName 10) gNil))) (tt := tYes) rfl sc_Part_init.nd (pi_list (pv 8)) (blkOk_by (own := [("one", 9), ("other", 10)]) (N := sc_Part_init_N) (sc := defScope s_Part_init) (by decide +kernel)) (fun _ _ _ _ _ => (pg_tup rfl (pgs_cons (pg_name (i := 9) sc_Part_init.nd rfl (.inl rfl)) (pgs_cons (pg_name (i := 10) sc_Part_init.nd rfl (.inl rfl)) pgs_nil)))) (fun _ _ _ _ _ => pts_nil) (fun _ _ _ _ _ => (pe_cmpR op_ne (pe_dget hu1 (pv 2) (pv 9) (fun _ _ => rfl)) (pe_dget hu1 (pv 2) (pv 10) (fun _ _ => rfl)) (nomark _)))) pa_nil)) rfl)))))))), ?_⟩
    obtain ⟨dxn, p, l, pv, la, hn, lp, hp, rp, lla, hl, hL⟩ := N.ex
    have nna : n ≠ a := fun z => by rw [z, ha] at hn; simp at hn
    have npa : p ≠ a := fun z => by rw [z, ha] at hp; exact nomatch hp
    have nca : c ≠ a := fun z => by rw [z, ha] at hc; exact nomatch hc
    have npc : c ≠ p := fun z => by
      rw [z, hp] at hc
      have e := HO.dK.inj (Option.some.inj hc)
      cases cl with
      | nil => exact hcl rfl
      | cons q r =>
        cases ps with
        | nil => exact nomatch e
        | cons y ys =>
          cases pv with
          | nil => exact nomatch e
          | cons x xs => exact nomatch (Prod.mk.inj (List.cons.inj e).1).1
    refine q_fld (ev_var rfl) (ev_var rfl) ha clP.cl (clP.no _ (by decide +kernel)) (Nat.le_of_ble_eq_true rfl) fun H1 e1 => ?_
    have K0 : ∀ b o, b ≠ a → H b = some o → (upd H1 a (.ins CP dx (putF "colours" (.ref c) []))) b = some o := fun b o hb h => by
      rw [upd_ne hb]
      exact e1 _ _ h
    have ha2 : (upd H1 a (.ins CP dx (putF "colours" (.ref c) []))) a = some (.ins CP dx [("colours", .ref c)]) := upd_same
    have hn2 := K0 _ _ nna hn
    have hp2 := K0 _ _ npa hp
    have hc2 := K0 _ _ nca hc
    have T0 : Tx H (upd H1 a (.ins CP dx (putF "colours" (.ref c) []))) := fun b ys h => K0 b _ (fun z => by rw [z, ha] at h; exact nomatch h) h
    have rp2 : Reps _ pv (ps.map fun z => pairD z.2) := rp.on T0
    generalize upd H1 a (.ins CP dx (putF "colours" (.ref c) [])) = H2 at *
    have lz : ((ps.map fun z => (.inl (z.1 : Int) : Key)).zip pv).length = ps.length := by rw [List.length_zip, List.length_map, lp, Nat.min_self]
    -- the lines
    have L1 : ∀ od, EvS (tLc (iItems (tFld K (tVar 1) "pairs")) (gTup K 2 (gCons (gName 3) (gCons (gName 4) gNil))) (tTest (tCB (rAny K) (tCons (tLc (iTup K (tVar 4)) (gName 5) tYes (tDIn (tVar 5) (tVar 2)) [5]) tNil))) (tVar 3) [3, 4]) [some (.ref a), some (.ref n), some (.ref c), none, none, none, none, none, none, none, none] (upd H2 p (.frz od (.dK ((ps.map fun z => (.inl (z.1 : Int) : Key)).zip pv)))) ((partL ps cl).map fun z => .int (z.1 : Int)) := fun od => by
      have W := walk_items (d := p) (o := od) (kvs := (ps.map fun z => (.inl (z.1 : Int) : Key)).zip pv)
      rw [lz] at W
      have hc3 : (upd H2 p (.frz od (.dK ((ps.map fun z => (.inl (z.1 : Int) : Key)).zip pv)))) c = some (.dK (kvC cl)) := by rw [upd_ne npc]; exact hc2
      have rp3 : Reps (upd H2 p (.frz od (.dK ((ps.map fun z => (.inl (z.1 : Int) : Key)).zip pv)))) pv (ps.map fun z => pairD z.2) := rp2.on (Tx.dK hp2)
      have prs : ∀ i, i < ps.length → ∃ q, pv[i]? = some (.ref q) ∧ (upd H2 p (.frz od (.dK ((ps.map fun z => (.inl (z.1 : Int) : Key)).zip pv)))) q = some (.tup [.str (ps.getD i z0).2.1, .str (ps.getD i z0).2.2]) := fun i hi => by
        obtain ⟨x, hx, rx⟩ := rp3.get (i := i) (d := pairD (ps.getD i z0).2) (by rw [List.getElem?_map, List.getD_eq_getElem?_getD, List.getElem?_eq_getElem hi]; rfl)
        obtain ⟨q, rfl, hq⟩ := Rep.prt rx
        exact ⟨q, hx, hq⟩
      have q := es_lc (t := tTest (tCB (rAny K) (tCons (tLc (iTup K (tVar 4)) (gName 5) tYes (tDIn (tVar 5) (tVar 2)) [5]) tNil))) (te := tVar 3) (σ := [some (.ref a), some (.ref n), some (.ref c), none, none, none, none, none, none, none, none]) (vs := [3, 4]) (g := gTup K 2 (gCons (gName 3) (gCons (gName 4) gNil))) W (by omega) (fun i => [some (.ref a), some (.ref n), some (.ref c), some (.int ((ps.getD i z0).1 : Int)), pv[i]?, none, none, none, none, none, none]) (fun i => inC cl (ps.getD i z0).2.1 || inC cl (ps.getD i z0).2.2) (fun i => .int ((ps.getD i z0).1 : Int))
        (wi := iItems (tFld K (tVar 1) "pairs"))
        (fun H3 e R k => ev_fld (ev_var (i := 1) rfl) (e _ _ (by rw [upd_ne (fun z => by rw [z, hp2] at hn2; exact nomatch hn2)]; exact hn2)) clN.cl (clN.no _ (by decide +kernel)) rfl H3 (Ex.refl H3) _ fun H4 e4 => ⟨p, od, _, rfl, e4 _ _ (e _ _ upd_same), k H4 e4 (e4 _ _ (e _ _ upd_same))⟩) (fun H1 H2 e h => e _ _ h) (fun _ _ => rfl) ?_ ?_ ?_
      · have e : (((List.range ps.length).filter fun i => inC cl (ps.getD i z0).2.1 || inC cl (ps.getD i z0).2.2).map fun i => PyData.int ((ps.getD i z0).1 : Int)) = (partL ps cl).map fun z => .int (z.1 : Int) := by
          unfold partL
          rw [← range_filter (fun z : Nat × Str × Str => inC cl z.2.1 || inC cl z.2.2) ps z0, List.map_map]
          rfl
        rw [← e]
        exact q
      · intro i x H3 H4 R hi e _ hy k
        obtain ⟨U, y, z, rfl, hU, rfl, e1', e2'⟩ := hy
        have k2 := k _ (Ex.new (o := HO.tup [y, z]) hU)
        refine g_two (K := K) upd_same ?_
        dsimp only at e1' e2'
        have zk : ((ps.map fun z => (.inl (z.1 : Int) : Key)).zip pv)[i]? = some (.inl ((ps.getD i z0).1 : Int), z) := by
          obtain ⟨kv, hkv, ekv⟩ := Option.map_eq_some_iff.mp e2'
          have h3 := List.getElem?_zip_eq_some.mp (hkv.trans (show some kv = some (kv.1, kv.2) from rfl))
          rw [hkv]
          have h4 := h3.1
          rw [List.getElem?_map, List.getElem?_eq_getElem hi] at h4
          rw [List.getD_eq_getElem?_getD, List.getElem?_eq_getElem hi, ← ekv]
          exact congrArg some (Prod.ext (Option.some.inj h4).symm rfl)
        rw [zk] at e1'
        obtain rfl : V.int ((ps.getD i z0).1 : Int) = y := Option.some.inj e1'
        have hz : pv[i]? = some z := (List.getElem?_zip_eq_some.mp zk).2
        rw [hz] at k2
        exact k2
      · intro i H3 hi e
        obtain ⟨q, hx, hq⟩ := prs i hi
        have t := et_test (ev_anyR (K := K) (names_in (K := K) (σ := [some (.ref a), some (.ref n), some (.ref c), some (.int ((ps.getD i z0).1 : Int)), pv[i]?, none, none, none, none, none, none]) (tl := tVar 4) (H := H3) (ev_var (by show some (pv[i]?) = _; rw [hx])) (e _ _ hq) (e _ _ hc3) rfl (Nat.le_of_ble_eq_true rfl)))
        refine et_is t ?_
        show ((inC cl (ps.getD i z0).2.1 : Bool) || ((inC cl (ps.getD i z0).2.2 : Bool) || false)) = _
        rw [Bool.or_false]
      · intro i H3 hi e _
        exact er_int (ev_var rfl)
    refine q_lockS hp2 trivial L1 fun ql xl H3 hql e3 hxl rl => ?_
    obtain rfl := nats_of rl
    -- the stubs
    have hn3 := e3 _ _ hn2
    have hp3 := e3 _ _ hp2
    have hc3 := e3 _ _ hc2
    have rp3 := rp2.ex e3
    have lL : (partL ps cl).length ≤ ps.length := List.length_filter_le ..
    have atL : ∀ i, i < (partL ps cl).length → ((partL ps cl).getD i z0) ∈ partL ps cl ∧ ((partL ps cl).map fun z => V.int (z.1 : Int))[i]? = some (.int (((partL ps cl).getD i z0).1 : Int)) := fun i hi => by
      rw [List.getD_eq_getElem?_getD, List.getElem?_map, List.getElem?_eq_getElem hi]
      exact ⟨List.getElem_mem hi, rfl⟩
    have lM : ((partL ps cl).map fun z => V.int (z.1 : Int)).length = (partL ps cl).length := List.length_map ..
    have inL : ∀ z, z ∈ partL ps cl → z ∈ ps := fun z h => (List.mem_filter.mp h).1
    refine q_asgS (ds := (partS ps cl).map fun z => .int (z.1 : Int)) ?_ fun qs xs H4 hqs e4 hxs rs => ?_
    · have q := es_lcL (K := K) (tl := tVar 6) (g := gName 3) (t := tNot (tTest (tCB (rAll K) (tCons (tLc (iTup K (tDGet (tFld K (tVar 1) "pairs") (tVar 3))) (gName 5) tYes (tDIn (tVar 5) (tVar 2)) [5]) tNil)))) (te := tVar 3) (vs := [3]) (σ := [some (.ref a), some (.ref n), some (.ref c), none, none, none, some (.ref ql), none, none, none, none]) (H := H3) (ev_var rfl) hxl (by omega) (fun i => [some (.ref a), some (.ref n), some (.ref c), some (.int (((partL ps cl).getD i z0).1 : Int)), none, none, some (.ref ql), none, none, none, none]) (fun i => !(inC cl ((partL ps cl).getD i z0).2.1 && inC cl ((partL ps cl).getD i z0).2.2)) (fun i => .int (((partL ps cl).getD i z0).1 : Int)) (fun _ _ => rfl) ?_ ?_ ?_
      · have e : (((List.range ((partL ps cl).map fun z => V.int (z.1 : Int)).length).filter fun i => !(inC cl ((partL ps cl).getD i z0).2.1 && inC cl ((partL ps cl).getD i z0).2.2)).map fun i => PyData.int (((partL ps cl).getD i z0).1 : Int)) = (partS ps cl).map fun z => .int (z.1 : Int) := by
          unfold partS
          rw [lM, ← range_filter (fun z : Nat × Str × Str => !(inC cl z.2.1 && inC cl z.2.2)) (partL ps cl) z0, List.map_map]
          rfl
        rw [← e]
        exact q
      · intro i x H4 R hx e r
        have hi : i < (partL ps cl).length := by
          have := (List.getElem?_eq_some_iff.mp hx).1
          omega
        rw [(atL i hi).2] at hx
        rw [← Option.some.inj hx]
        exact r
      · intro i x H4 hx e
        have hi : i < (partL ps cl).length := by
          have := (List.getElem?_eq_some_iff.mp hx).1
          omega
        obtain ⟨q, hv, hq⟩ := pairs_at nd (rp3.ex e) (inL _ (atL i hi).1)
        have t := et_not (et_test (ev_allR (K := K) (names_in (K := K) (σ := [some (.ref a), some (.ref n), some (.ref c), some (.int (((partL ps cl).getD i z0).1 : Int)), none, none, some (.ref ql), none, none, none, none]) (tl := tDGet (tFld K (tVar 1) "pairs") (tVar 3)) (H := H4) (ev_dgetK (k := .inl (((partL ps cl).getD i z0).1 : Int)) (ev_fld (ev_var (i := 1) rfl) (e _ _ hn3) clN.cl (clN.no _ (by decide +kernel)) rfl) (ev_var (i := 3) rfl) (e _ _ hp3) hv) hq (e _ _ hc3) rfl (Nat.le_of_ble_eq_true rfl))))
        refine et_is t ?_
        show (!((inC cl ((partL ps cl).getD i z0).2.1 : Bool) && ((inC cl ((partL ps cl).getD i z0).2.2 : Bool) && true))) = _
        rw [Bool.and_true]
      · intro i x H4 hx e _
        exact er_int (ev_var rfl)
    obtain rfl := nats_of rs
    -- the lines without a stub
    have hn4 := e4 _ _ hn3
    have hp4 := e4 _ _ hp3
    have hc4 := e4 _ _ hc3
    have rp4 := rp3.ex e4
    refine q_asgS (ds := (partI ps cl).map fun z => pairD z.2) ?_ fun qi xi H5 hqi e5 hxi ri => ?_
    · have q := es_lcL (K := K) (tl := tVar 6) (g := gName 3) (t := tTest (tOp (rIn K true) (tVar 3) (tVar 7))) (te := tDGet (tFld K (tVar 1) "pairs") (tVar 3)) (vs := [3]) (σ := [some (.ref a), some (.ref n), some (.ref c), none, none, none, some (.ref ql), some (.ref qs), none, none, none]) (H := H4) (ev_var rfl) (e4 _ _ hxl) (by omega) (fun i => [some (.ref a), some (.ref n), some (.ref c), some (.int (((partL ps cl).getD i z0).1 : Int)), none, none, some (.ref ql), some (.ref qs), none, none, none]) (fun i => inC cl ((partL ps cl).getD i z0).2.1 && inC cl ((partL ps cl).getD i z0).2.2) (fun i => pairD ((partL ps cl).getD i z0).2) (fun _ _ => rfl) ?_ ?_ ?_
      · have e : (((List.range ((partL ps cl).map fun z => V.int (z.1 : Int)).length).filter fun i => inC cl ((partL ps cl).getD i z0).2.1 && inC cl ((partL ps cl).getD i z0).2.2).map fun i => pairD ((partL ps cl).getD i z0).2) = (partI ps cl).map fun z => pairD z.2 := by
          unfold partI
          rw [lM, ← range_filter (fun z : Nat × Str × Str => inC cl z.2.1 && inC cl z.2.2) (partL ps cl) z0, List.map_map]
          rfl
        rw [← e]
        exact q
      · intro i x H5 R hx e r
        have hi : i < (partL ps cl).length := by
          have := (List.getElem?_eq_some_iff.mp hx).1
          omega
        rw [(atL i hi).2] at hx
        rw [← Option.some.inj hx]
        exact r
      · intro i x H5 hx e
        have hi : i < (partL ps cl).length := by
          have := (List.getElem?_eq_some_iff.mp hx).1
          omega
        have hst : H5 qs = some (.lst (((partS ps cl).map fun z => (z.1 : Int)).map V.int)) := by
          rw [List.map_map]
          exact e _ _ hxs
        have t := ev_op (ta := tVar 3) (tb := tVar 7) (σ := [some (.ref a), some (.ref n), some (.ref c), some (.int (((partL ps cl).getD i z0).1 : Int)), none, none, some (.ref ql), some (.ref qs), none, none, none]) (H := H5) (ev_var (v := .int (((partL ps cl).getD i z0).1 : Int)) rfl) (ev_var rfl) (rv_niL (K := K) (p := qs) (sq_of hst) rfl (by rw [List.all_map]; exact List.all_eq_true.mpr fun _ _ => rfl))
        refine et_is (et_test t) ?_
        rw [inV_int, stub_in nd (atL i hi).1, Bool.not_not]
      · intro i x H5 hx e _
        have hi : i < (partL ps cl).length := by
          have := (List.getElem?_eq_some_iff.mp hx).1
          omega
        obtain ⟨q, hv, hq⟩ := pairs_at nd (rp4.ex e) (inL _ (atL i hi).1)
        exact er_ev (ev_dgetK (k := .inl (((partL ps cl).getD i z0).1 : Int)) (ev_fld (ev_var (i := 1) rfl) (e _ _ hn4) clN.cl (clN.no _ (by decide +kernel)) rfl) (ev_var (i := 3) rfl) (e _ _ hp4) hv) (.tup hq (.cons (.str _) (.cons (.str _) .nil)))
    have e25 := (e3.trans e4).trans e5
    have ha5 := e25 _ _ ha2
    have hc5 := e25 _ _ hc2
    -- the fields
    refine q_fldR (d := .tuple ((partL ps cl).map fun z => .int (z.1 : Int))) (er_tupleQ (eq_var rfl (e5 _ _ (e4 _ _ hxl)) (ofNats _))) (ev_var rfl) ha5 clP.cl (clP.no _ (by decide +kernel)) (Nat.le_of_ble_eq_true rfl) fun v1 H6 e6 r1 ha6 => ?_
    obtain ⟨a1, x1, rfl, h1, rr1⟩ := r1.tup_inv
    obtain rfl := nats_of rr1
    have K6 : ∀ b o, b ≠ a → H5 b = some o → (upd H6 a (.ins CP dx (putF "lines" (.ref a1) [("colours", .ref c)]))) b = some o := fun b o hb h => by
      rw [upd_ne hb]
      exact e6 _ _ h
    have n1 : a1 ≠ a := fun z => by rw [z, ha6] at h1; exact nomatch h1
    have nqs : qs ≠ a := fun z => by rw [z, e3 _ _ ha2] at hqs; exact nomatch hqs
    have nqi : qi ≠ a := fun z => by rw [z, e4 _ _ (e3 _ _ ha2)] at hqi; exact nomatch hqi
    have h1' : (upd H6 a (.ins CP dx (putF "lines" (.ref a1) [("colours", .ref c)]))) a1 = some (.tup ((partL ps cl).map fun z => V.int (z.1 : Int))) := by
      rw [upd_ne n1]
      exact h1
    have ha7 : (upd H6 a (.ins CP dx (putF "lines" (.ref a1) [("colours", .ref c)]))) a = some (.ins CP dx [("colours", .ref c), ("lines", .ref a1)]) := upd_same
    have hs7 := K6 _ _ nqs (e5 _ _ hxs)
    have hi7 := K6 _ _ nqi hxi
    have hc7 := K6 _ _ nca hc5
    have ri7 : Reps (upd H6 a (.ins CP dx (putF "lines" (.ref a1) [("colours", .ref c)]))) xi _ := ri.on fun b ys h => K6 b _ (fun z => by rw [z, ha5] at h; exact nomatch h) h
    generalize upd H6 a (.ins CP dx (putF "lines" (.ref a1) [("colours", .ref c)])) = H7 at *
    refine q_fldR (d := .tuple ((partS ps cl).map fun z => .int (z.1 : Int))) (er_tupleQ (eq_var rfl hs7 (ofNats _))) (ev_var rfl) ha7 clP.cl (clP.no _ (by decide +kernel)) (Nat.le_of_ble_eq_true rfl) fun v2 H8 e8 r2 ha8 => ?_
    obtain ⟨a2, x2, rfl, h2, rr2⟩ := r2.tup_inv
    obtain rfl := nats_of rr2
    have K8 : ∀ b o, b ≠ a → H7 b = some o → (upd H8 a (.ins CP dx (putF "stubs" (.ref a2) [("colours", .ref c), ("lines", .ref a1)]))) b = some o := fun b o hb h => by
      rw [upd_ne hb]
      exact e8 _ _ h
    have n2 : a2 ≠ a := fun z => by rw [z, ha8] at h2; exact nomatch h2
    have h2' : (upd H8 a (.ins CP dx (putF "stubs" (.ref a2) [("colours", .ref c), ("lines", .ref a1)]))) a2 = some (.tup ((partS ps cl).map fun z => V.int (z.1 : Int))) := by
      rw [upd_ne n2]
      exact h2
    have h1'' := K8 _ _ n1 h1'
    have ha9 : (upd H8 a (.ins CP dx (putF "stubs" (.ref a2) [("colours", .ref c), ("lines", .ref a1)]))) a = some (.ins CP dx [("colours", .ref c), ("lines", .ref a1), ("stubs", .ref a2)]) := upd_same
    have hi9 := K8 _ _ nqi hi7
    have hc9 := K8 _ _ nca hc7
    have ri9 : Reps (upd H8 a (.ins CP dx (putF "stubs" (.ref a2) [("colours", .ref c), ("lines", .ref a1)]))) xi _ := ri7.on fun b ys h => K8 b _ (fun z => by rw [z, ha7] at h; exact nomatch h) h
    generalize upd H8 a (.ins CP dx (putF "stubs" (.ref a2) [("colours", .ref c), ("lines", .ref a1)])) = H9 at *
    refine fld_open1 (K := K) (ev_ (v := .bl (partT ps cl)) ?_ fun H10 e10 => ?_)
    · have lI : xi.length = (partI ps cl).length := by rw [ri.len, List.length_map]
      have lI2 : (partI ps cl).length ≤ (partL ps cl).length := List.length_filter_le ..
      have q := ev_allR (K := K) (bs := (List.range xi.length).map fun i => !decide (colOf cl ((partI ps cl).getD i z0).2.1 = colOf cl ((partI ps cl).getD i z0).2.2)) (te := tLc (iList K (tVar 8)) (gTup K 2 (gCons (gName 9) (gCons (gName 10) gNil))) tYes (tOp rNe (tDGet (tVar 2) (tVar 9)) (tDGet (tVar 2) (tVar 10))) [9, 10]) (σ := [some (.ref a), some (.ref n), some (.ref c), none, none, none, some (.ref ql), some (.ref qs), some (.ref qi), none, none]) (H := H9) (by
        rw [List.map_map]
        refine es_lcL1 (K := K) (ev_var rfl) hi9 (by omega) (fun i => [some (.ref a), some (.ref n), some (.ref c), none, none, none, some (.ref ql), some (.ref qs), some (.ref qi), some (.str ((partI ps cl).getD i z0).2.1), some (.str ((partI ps cl).getD i z0).2.2)]) _ (fun _ _ => rfl) ?_ ?_
        · intro i x H10 R hx e r
          obtain ⟨d, hd, rd⟩ := ri9.at hx
          have hi : i < (partI ps cl).length := by
            have := (List.getElem?_eq_some_iff.mp hx).1
            omega
          rw [List.getElem?_map, List.getElem?_eq_getElem hi] at hd
          obtain rfl := Option.some.inj hd
          obtain ⟨q, rfl, hq⟩ := Rep.prt rd
          refine g_two (K := K) (e _ _ hq) ?_
          have eg : (partI ps cl).getD i z0 = (partI ps cl)[i] := by rw [List.getD_eq_getElem?_getD, List.getElem?_eq_getElem hi]; rfl
          rw [eg] at r
          exact r
        · intro i x H10 hx e
          have hi : i < (partI ps cl).length := by
            have := (List.getElem?_eq_some_iff.mp hx).1
            omega
          have mem : (partI ps cl).getD i z0 ∈ partI ps cl := by rw [List.getD_eq_getElem?_getD, List.getElem?_eq_getElem hi]; exact List.getElem_mem hi
          have both := Bool.and_eq_true_iff.mp (List.mem_filter.mp mem).2
          refine er_ev (v := .bl (!decide (colOf cl ((partI ps cl).getD i z0).2.1 = colOf cl ((partI ps cl).getD i z0).2.2))) ?_ (.bl _)
          refine ev_is (ev_op (ev_dgetK (k := .inr ((partI ps cl).getD i z0).2.1) (ev_var rfl) (ev_var rfl) (e _ _ hc9) (kvC_at both.1)) (ev_dgetK (k := .inr ((partI ps cl).getD i z0).2.2) (ev_var rfl) (ev_var rfl) (e _ _ hc9) (kvC_at both.2)) (rv_ne rfl)) ?_
          congr 2
          exact decide_eq_decide.mpr ⟨fun h => V.int.inj h, fun h => by rw [h]⟩)
      refine ev_is q ?_
      rw [List.all_map, lI]
      unfold partT
      congr 1
      conv => rhs; rw [← range_getD (partI ps cl) z0, List.all_map]
      rfl
    refine ⟨_, rfl, a, CP, dx, _, rfl, e10 _ _ ha9, clP.cl, clP.no _ (by decide +kernel), Nat.le_of_ble_eq_true rfl, ?_⟩
    have kp : ∀ b o, b ≠ a → H10 b = some o → (upd H10 a (.ins CP dx (putF "is_two_sided" (.bl (partT ps cl)) [("colours", .ref c), ("lines", .ref a1), ("stubs", .ref a2)]))) b = some o := fun b o hb h => by
      rw [upd_ne hb]
      exact h
    refine k _ (fun b o hb h => kp b o hb (e10 _ _ (K8 _ _ hb (K6 _ _ hb (e25 _ _ (K0 _ _ hb h)))))) ⟨dx, c, a1, a2, upd_same, kp _ _ nca (e10 _ _ hc9), kp _ _ n1 (e10 _ _ h1''), kp _ _ n2 (e10 _ _ h2')⟩
end
end K30
end
section
set_option Elab.async false
set_option linter.all false
set_option maxRecDepth 100000
set_option maxHeartbeats 4000000
namespace K30
open PySem PySem.Spec PyProof.Rows L2 Evl TX
open C8 (Cal pe_c pe_gc)
def stepN (ps : List (Nat × Str × Str)) (ss : List Str) (s : Str) (a : List Str × List (Str × Int)) (m : Nat) : List Str × List (Str × Int) :=
  if ss.contains (acrossP (((ps.find? fun z => decide (z.1 = m)).map (·.2)).getD p0) s) && !(inC a.2 (acrossP (((ps.find? fun z => decide (z.1 = m)).map (·.2)).getD p0) s)) then (a.1 ++ [acrossP (((ps.find? fun z => decide (z.1 = m)).map (·.2)).getD p0) s], a.2 ++ [(acrossP (((ps.find? fun z => decide (z.1 = m)).map (·.2)).getD p0) s, -(colOf a.2 s))]) else a
theorem walk_nil (ps : List (Nat × Str × Str)) (ss : List Str) (cl : List (Str × Int)) : ∀ m, walkN ps ss m [] cl = cl
  | 0 => rfl
  | _ + 1 => rfl
theorem walk_step {ps : List (Nat × Str × Str)} {ss : List Str} {cl : List (Str × Int)} {ws : List Str} {s : Str} (h : ws.getLast? = some s) (m : Nat) : walkN ps ss (m + 1) ws cl = walkN ps ss m ((netL ps s).foldl (stepN ps ss s) (ws.dropLast, cl)).1 ((netL ps s).foldl (stepN ps ss s) (ws.dropLast, cl)).2 := by
  conv => lhs; unfold walkN
  rw [h]
  rfl
theorem find_nod {ps : List (Nat × Str × Str)} (nd : (ps.map (·.1)).Nodup) {i : Nat} {z : Nat × Str × Str} (h : ps[i]? = some z) : ps.find? (fun y => decide (y.1 = z.1)) = some z := by
  have hz := List.mem_of_getElem? h
  cases q : ps.find? (fun y => decide (y.1 = z.1)) with
  | none => exact absurd (List.find?_eq_none.mp q z hz) (by simp)
  | some y =>
    have h2 : decide (y.1 = z.1) = true := List.find?_some (p := fun y : Nat × Str × Str => decide (y.1 = z.1)) q
    exact congrArg some (nod_eq nd (List.mem_of_find?_eq_some q) hz (of_decide_eq_true h2))
theorem netL_mem {ps : List (Nat × Str × Str)} {s : Str} {n : Nat} (h : n ∈ netL ps s) : ∃ (i : Nat) (z : Nat × Str × Str), ps[i]? = some z ∧ z.1 = n := by
  obtain ⟨z, hz, hn⟩ := List.mem_flatMap.mp h
  obtain ⟨t, _, e⟩ := List.mem_map.mp hn
  obtain ⟨i, hi, ei⟩ := List.mem_iff_getElem.mp hz
  exact ⟨i, z, List.getElem?_eq_some_iff.mpr ⟨hi, ei⟩, e⟩
def unc (ss : List Str) (cl : List (Str × Int)) : Nat := (ss.filter fun s => !inC cl s).length
theorem inC_snoc (cl : List (Str × Int)) (o t : Str) (i : Int) : inC (cl ++ [(o, i)]) t = (inC cl t || decide (o = t)) := by
  unfold inC
  rw [List.any_append]
  simp
theorem unc_add {ss : List Str} {cl : List (Str × Int)} {o : Str} (i : Int) (ho : o ∈ ss) (hc : inC cl o = false) : unc ss (cl ++ [(o, i)]) + 1 ≤ unc ss cl := by
  unfold unc
  have e : (ss.filter fun s => !inC (cl ++ [(o, i)]) s) = ((ss.filter fun s => !inC cl s).filter fun s => !decide (o = s)) := by
    rw [List.filter_filter]
    congr 1
    funext t
    rw [inC_snoc, Bool.not_or, Bool.and_comm]
  rw [e]
  refine List.length_filter_lt_length_iff_exists.mpr ⟨o, List.mem_filter.mpr ⟨ho, by rw [hc]; rfl⟩, ?_⟩
  simp
theorem NetAt.ex2 {H H' : Hp} {C a : Addr} {ps : List (Nat × Str × Str)} {ss : List Str} (h : NetAt H C a ps ss) (e : Ex H H') : NetAt H' C a ps ss := by
  obtain ⟨dx, p, l, pv, la, h1, h2, h3, h4, h5, h6, h7⟩ := h.ex
  exact ⟨dx, p, l, pv, la, e _ _ h1, h2, e _ _ h3, h4.ex e, h5, ex_rd e h6, fun i hi => e _ _ (h7 i hi)⟩
theorem NetAt.lines {H : Hp} {C a : Addr} {ps : List (Nat × Str × Str)} {ss : List Str} (h : NetAt H C a ps ss) (nd : ss.Nodup) : ∃ (dx p l : Addr) (kvs : List (Key × V)), H a = some (.ins C dx [("pairs", .ref p), ("lines_at", .ref l)]) ∧ Rd H l (.dK kvs) ∧ (∀ s, (valV kvs (.inr s)).isSome = ss.contains s) ∧
    ∀ s, s ∈ ss → ∃ b, valV kvs (.inr s) = some (.ref b) ∧ H b = some (.lst ((netL ps s).map fun n : Nat => V.int (n : Int))) := by
  obtain ⟨dx, p, l, pv, la, h1, h2, h3, h4, h5, h6, h7⟩ := h.ex
  have ndk : ((((ss.map fun s => (.inr s : Key)).zip (la.map V.ref))).map (·.1)).Nodup := by
    rw [List.map_fst_zip (by simp only [List.length_map]; omega)]
    rw [List.nodup_iff_pairwise_ne] at nd ⊢
    rw [List.pairwise_map]
    exact nd.imp fun h z => h (Sum.inr.inj z)
  have at_ : ∀ s, s ∈ ss → ∃ b, valV ((ss.map fun s => (.inr s : Key)).zip (la.map V.ref)) (.inr s) = some (.ref b) ∧ H b = some (.lst ((netL ps s).map fun n : Nat => V.int (n : Int))) := fun s hs => by
    obtain ⟨i, hi, ei⟩ := List.mem_iff_getElem.mp hs
    have hil : i < la.length := by omega
    have gi : ss.getD i Str.empty = s := by rw [List.getD_eq_getElem?_getD, List.getElem?_eq_getElem hi]; exact ei
    refine ⟨la.getD i 0, val_at (i := i) ndk ?_, by rw [h7 i hi, gi]⟩
    rw [List.getElem?_zip_eq_some]
    exact ⟨by rw [List.getElem?_map, List.getElem?_eq_getElem hi, ei]; rfl, by rw [List.getElem?_map, List.getD_eq_getElem?_getD, List.getElem?_eq_getElem hil]; rfl⟩
  refine ⟨dx, p, l, _, h1, h6, fun s => ?_, at_⟩
  by_cases hs : s ∈ ss
  · obtain ⟨b, e, _⟩ := at_ s hs
    rw [e]
    exact (List.contains_iff_mem.mpr hs).symm
  · rw [show ss.contains s = false from Bool.eq_false_iff.mpr fun z => hs (List.contains_iff_mem.mp z)]
    cases h : valV ((ss.map fun s => (.inr s : Key)).zip (la.map V.ref)) (.inr s) with
    | none => rfl
    | some x =>
      have m := valV_in h
      rw [List.map_fst_zip (by simp only [List.length_map]; omega)] at m
      obtain ⟨t, ht, e⟩ := List.mem_map.mp m
      exact absurd (Sum.inr.inj e ▸ ht) hs
theorem kvC_put {cl : List (Str × Int)} {o : Str} {i : Int} (h : inC cl o = false) : putK (kvC cl) (.inr o) (.int i) = kvC (cl ++ [(o, i)]) := by
  rw [put_new]
  · unfold kvC
    rw [List.map_append]
    rfl
  · intro p hp e
    obtain ⟨q, hq, rfl⟩ := List.mem_map.mp hp
    have : inC cl o = true := List.any_eq_true.mpr ⟨q, hq, decide_eq_true (Sum.inr.inj e)⟩
    rw [h] at this
    exact nomatch this
def PaW (H : Hp) (n c wl : Addr) (st : Str) (ps : List (Nat × Str × Str)) (ss : List Str) (m : Nat) (σ : L2.St) (H' : Hp) : Prop := ∃ (ws : List Str) (cl : List (Str × Int)) (y4 y5 y6 : Option V), σ = [some (.ref n), some (.str st), some (.ref c), some (.ref wl), y4, y5, y6] ∧ Ex H H' ∧ H' c = some (.dK (kvC cl)) ∧ H' wl = some (.lst (ws.map V.str)) ∧
  walkN ps ss m ws cl = colN ps ss st ∧ ws.length + unc ss cl ≤ m ∧ (∀ s ∈ ws, s ∈ ss ∧ inC cl s = true) ∧ cl.length + unc ss cl ≤ ss.length ∧ cl ≠ [] ∧ m ≤ 11
def PaF (H : Hp) (n c wl : Addr) (st s : Str) (ps : List (Nat × Str × Str)) (ss : List Str) (a0 : List Str × List (Str × Int)) (m' : Nat) (i : Nat) (σ : L2.St) (H' : Hp) : Prop := ∃ (ws : List Str) (cl : List (Str × Int)) (y5 y6 : Option V), σ = [some (.ref n), some (.str st), some (.ref c), some (.ref wl), some (.str s), y5, y6] ∧ Ex H H' ∧ H' c = some (.dK (kvC cl)) ∧ H' wl = some (.lst (ws.map V.str)) ∧
  ((netL ps s).take i).foldl (stepN ps ss s) a0 = (ws, cl) ∧ inC cl s = true ∧ ws.length + unc ss cl ≤ m' ∧ (∀ t ∈ ws, t ∈ ss ∧ inC cl t = true) ∧ cl.length + unc ss cl ≤ ss.length ∧ cl ≠ []
def paSp (CN CP : Addr) : Sp := fun vs H Q _ => ∃ (n : Addr) (ps : List (Nat × Str × Str)) (ss : List Str) (st : Str), vs = [.ref n, .str st] ∧ NetAt H CN n ps ss ∧ (ps.map (·.1)).Nodup ∧ ss.Nodup ∧ ps.length ≤ 24 ∧ ss.length ≤ 10 ∧ st ∈ ss ∧ ∀ a H', H a = none → Ex H H' → PartAt H' CP a ps (colN ps ss st) → Q (.ref a) H'
section
variable {P : Program} {w : World} {K : PySem.W.Frag} {mg : Str → Option Value} {base : Heap} {f : Addr} {fd : FuncData}
variable {CN CP : Addr}
abbrev sc_part_at_N : List Str := ["net", "start", "colours", "waiting", "name", "number", "other"]
theorem sc_part_at : FnScope sc_part_at_N ["net", "start"] (defScope s_part_at) := ⟨rfl, rfl, rfl, by decide +kernel, rfl, by decide +kernel, by decide +kernel⟩
theorem ok_part_at (F : FnP K "part_at" s_part_at f fd) (T : Tops mg) (M_across : C8.Met P w K mg base 1 CN "across" (acSp CN) []) (M_Part : C8.Mak P w K mg base 1 "Part" CP (ptSp CN CP) []) (clN : ClN K CN)  : FnOk P w K mg base CX0 6 f fd ["net", "start"] (paSp CN CP) := by
  refine F.ok sc_part_at (fun vs H Q E h => ?_) (fun cdv A outer s H vs Q E hr h => ?_)
  · obtain ⟨n, ps, ss, st, rfl, _⟩ := h; rfl
  · obtain ⟨n, ps, ss, st, rfl, N, nd, nds, lps, lss, hst, k⟩ := h
    have hu1 := Nat.lt_of_le_of_lt (Nat.add_le_add_left (by decide : 1 ≤ 64) _) hr.units
    refine ⟨_, PSs.nox (pss_cons (ps_set (i := 2) sc_part_at.nd rfl (.inl rfl) (pe_disp (pps_cons (pv 1) pe_int pps_nil) rfl rfl (fun z => nomatch z) (by decide)))
  (pss_cons (ps_set (i := 3) sc_part_at.nd rfl (.inl rfl) (pe_lst (pa_cons (pv 1) pa_nil)))
  (pss_cons (ps_while PassesOwn.never (pt_truth (pv 3) (by intro _; rfl))
  (pss_cons (ps_set (i := 4) sc_part_at.nd rfl (.inl rfl) (pe_bm0 PySem.F.plainAttrs_list PySem.F.slot_list_pop PySem.F.type_list_pop mt_pop (pv 3)))
  (pss_one (ps_for PassesOwn.never rfl (pi_list (pe_dget hu1 (pe_fld (pv 0) rfl) (pv 4) (fun _ _ => rfl))) (pg_name (i := 5) sc_part_at.nd rfl (.inl rfl))
  (pss_cons (ps_set (i := 6) sc_part_at.nd rfl (.inl rfl) (C8.pe_mt M_across hr (by decide) (pv 0) (pa_cons (pv 5) (pa_cons (pv 4) pa_nil))))
  (pss_one (ps_if (PW.pt (pw_and (pt_cmp (pc_din hu1 (pv 6) (pe_fld (pv 0) rfl))) (pw_and1 (pt_cmp (pc_dnotin hu1 (pv 6) (pv 2))))))
  (pss_cons (ps_dput hu1 (pv 2) (pv 6) (pe_un un_neg (pe_dget hu1 (pv 2) (pv 4) (fun _ _ => rfl))) rfl)
  (pss_one (ps_expr (pe_bm PySem.F.plainAttrs_list PySem.F.slot_list_append PySem.F.type_list_append mt_append (pv 3) (pa_cons (pv 6) pa_nil)))))
  pss_nil)))))))
  (pss_one (ps_ret (C8.pe_mk M_Part hr (by decide) rfl (pa_cons (pv 0) (pa_cons (pv 2) pa_nil)))))))), ?_⟩
    refine q_asgO (fun c hcn => ⟨_, rfl, upd_same, [(.inr st, .int 1)], rfl, Nat.le_of_ble_eq_true rfl, ?_⟩)
    have ec : Ex H (upd (upd H c (.dK [])) c (.dK (mergeK [] [(.inr st, .int 1)]))) := Ex.mut (Ex.new hcn) hcn
    have hc1 : (upd (upd H c (.dK [])) c (.dK (mergeK [] [(.inr st, .int 1)]))) c = some (.dK (kvC [(st, 1)])) := upd_same
    generalize upd (upd H c (.dK [])) c (.dK (mergeK [] [(.inr st, .int 1)])) = H1 at *
    refine q_asgL (el_lst (ea_cons (ev_var rfl) ea_nil) (Nat.le_of_ble_eq_true rfl)) fun wl H2 hwl e2 hw2 => ?_
    have hwl0 : H wl = none := fresh_back ec hwl
    have u0 := unc_add (cl := []) 1 hst rfl
    have u1 : unc ss [] = ss.length := by
      unfold unc
      rw [List.filter_eq_self.mpr]
      intro _ _
      rfl
    rw [u1] at u0
    refine q_while (PaW H n c wl st ps ss) (ss.length + 1) ⟨[st], [(st, 1)], none, none, none, rfl, ec.trans e2, e2 _ _ hc1, hw2, rfl, by show 1 + unc ss ([] ++ [(st, 1)]) ≤ _; omega, fun s hs => ?_, by show 1 + unc ss ([] ++ [(st, 1)]) ≤ _; omega, (fun z => nomatch z), by omega⟩ ?_
    · rw [List.mem_singleton.mp hs]
      exact ⟨hst, by unfold inC; simp⟩
    · rintro m σ' H3 ⟨ws, cl, y4, y5, y6, rfl, e3, hc3, hw3, hwk, hm, hws, hcl, hne, m11⟩
      refine ⟨_, et_lstT (K := K) (ev_var rfl) hw3, fun hb H4 e4 => ⟨fun σ2 H2 => ∃ m', m' < m ∧ PaW H n c wl st ps ss m' σ2 H2, fun _ _ z => z, ?_⟩, fun hb H4 e4 => ?_⟩
      · have wne : ws ≠ [] := fun z => by
          rw [z] at hb
          exact nomatch hb
        obtain ⟨s, hs⟩ : ∃ s, ws.getLast? = some s := by
          cases h : ws.getLast? with
          | none => exact absurd (List.getLast?_eq_none_iff.mp h) wne
          | some s => exact ⟨s, rfl⟩
        have lpos : 0 < ws.length := List.length_pos_iff.mpr wne
        have smem : s ∈ ws := List.mem_of_getLast? hs
        obtain ⟨sss, sc⟩ := hws s smem
        have ls : (ws.map V.str)[(ws.map V.str).length - 1]? = some (.str s) := by
          rw [← List.getLast?_eq_getElem?, List.getLast?_map, hs]
          rfl
        have dl : (ws.map V.str).dropLast = ws.dropLast.map V.str := List.map_dropLast.symm
        obtain ⟨m', rfl⟩ : ∃ m', m = m' + 1 := ⟨m - 1, by omega⟩
        rw [walk_step hs] at hwk
        refine q_asgO ⟨_, rfl, .inl ⟨rfl, _, sq_of (e4 _ _ hw3)⟩, wl, _, _, rfl, rfl, e4 _ _ hw3, ls, ?_⟩
        rw [dl]
        have ncw : c ≠ wl := fun z => by rw [z, hw3] at hc3; exact nomatch hc3
        have e5 : Ex H (upd H4 wl (.lst (ws.dropLast.map V.str))) := Ex.mut (e3.trans e4) hwl0
        have hc5 : (upd H4 wl (.lst (ws.dropLast.map V.str))) c = some (.dK (kvC cl)) := by rw [upd_ne ncw]; exact e4 _ _ hc3
        have hw5 : (upd H4 wl (.lst (ws.dropLast.map V.str))) wl = some (.lst (ws.dropLast.map V.str)) := upd_same
        generalize upd H4 wl (.lst (ws.dropLast.map V.str)) = H5 at *
        obtain ⟨dx, p, l, kvs, hn, hl, hin, hat⟩ := N.lines nds
        obtain ⟨b, hb1, hb2⟩ := hat s sss
        have lnet : (netL ps s).length ≤ 48 := by have := netL_len s ps; omega
        refine s_forLn (K := K) (a := b) (xs := (netL ps s).map fun n : Nat => V.int (n : Int)) (ev_dgetR (k := .inr s) (ev_fld (ev_var (i := 0) rfl) (e5 _ _ hn) clN.cl (clN.no _ (by decide +kernel)) rfl) (ev_var (i := 4) rfl) (ex_rd e5 hl) hb1) (sq_of (e5 _ _ hb2))
          (PaF H n c wl st s ps ss (ws.dropLast, cl) m') (fun H6 e6 => ⟨ws.dropLast, cl, y5, y6, rfl, e5.trans e6, e6 _ _ hc5, e6 _ _ hw5, rfl, sc, ?_, fun t ht => hws t (List.dropLast_subset _ ht), hcl, hne⟩) (fun i σ6 H6 _ p => ?_) ?_ ?_
        · rw [List.length_dropLast]
          omega
        · obtain ⟨_, _, _, _, _, e6, _⟩ := p
          exact sq_of (e6 _ _ hb2)
        · rintro i x σ6 H6 hx ⟨w1, c1, z5, z6, rfl, e6, hc6, hw6, hf6, sc6, hm6, hws6, hcl6, hne6⟩
          have hi : i < (netL ps s).length := by
            have := (List.getElem?_eq_some_iff.mp hx).1
            rw [List.length_map] at this
            exact this
          rw [List.getElem?_map, List.getElem?_eq_getElem hi] at hx
          obtain rfl : V.int ((netL ps s)[i] : Int) = x := Option.some.inj hx
          obtain ⟨j, z, hz, ez⟩ := netL_mem (List.getElem_mem hi)
          have fd := find_nod nd hz
          have N6 := N.ex2 e6
          show tSeq (tAsg _ _) _ _ _ _
          refine q_asgO ⟨_, rfl, n, dx, _, rfl, e6 _ _ hn, rfl, ?_⟩
          refine cons_ (var_ rfl (cons_ (var_ rfl (nil_ ?_))))
          refine ⟨n, ps, ss, j, z.1, z.2, s, by rw [ez]; rfl, N6, nd, hz, fun H7 e7 => ?_⟩
          have stp : stepN ps ss s (w1, c1) (netL ps s)[i] = if ss.contains (acrossP z.2 s) && !(inC c1 (acrossP z.2 s)) then (w1 ++ [acrossP z.2 s], c1 ++ [(acrossP z.2 s, -(colOf c1 s))]) else (w1, c1) := by
            unfold stepN
            rw [← ez, fd]
            rfl
          have tk : ((netL ps s).take (i + 1)).foldl (stepN ps ss s) (ws.dropLast, cl) = stepN ps ss s (w1, c1) (netL ps s)[i] := by
            rw [List.take_succ, List.getElem?_eq_getElem hi, List.foldl_append, hf6]
            rfl
          generalize acrossP z.2 s = o at *
          refine s_when (b := ss.contains o && !(inC c1 o)) ?_ (fun hb H8 e8 => ?_) fun hb H8 e8 => ?_
          · have t1 := et_B (ev_dinR (ty := tVar 6) (td := tFld K (tVar 0) "lines_at") (σ := [some (.ref n), some (.str st), some (.ref c), some (.ref wl), some (.str s), some (.int ((netL ps s)[i] : Int)), some (.str o)]) (H := H7) (k := .inr o) (ev_var rfl) (ev_fld (ev_var (i := 0) rfl) (e7 _ _ (e6 _ _ hn)) clN.cl (clN.no _ (by decide +kernel)) rfl) (ex_rd e7 (ex_rd e6 hl)))
            have t2 := et_B (ev_dnotinK (ty := tVar 6) (td := tVar 2) (σ := [some (.ref n), some (.str st), some (.ref c), some (.ref wl), some (.str s), some (.int ((netL ps s)[i] : Int)), some (.str o)]) (H := H7) (k := .inr o) (ev_var rfl) (ev_var rfl) (e7 _ _ hc6))
            rw [hin] at t1
            rw [kvC_in] at t2
            exact et_and t1 fun _ => t2
          · rw [hb, if_pos rfl] at stp
            obtain ⟨b1, b2⟩ := Bool.and_eq_true_iff.mp hb
            have oss : o ∈ ss := List.contains_iff_mem.mp b1
            have oc : inC c1 o = false := by
              cases h : inC c1 o with
              | false => rfl
              | true => rw [h] at b2; exact nomatch b2
            have ua := unc_add (-(colOf c1 s)) oss oc
            have e78 := e7.trans e8
            refine q_dputR (d := .int (-(colOf c1 s))) (er_int (ev_un (ev_dgetK (k := .inr s) (ev_var (i := 2) rfl) (ev_var (i := 4) rfl) (e78 _ _ hc6) (kvC_at sc6)) ru_neg)) (ev_var rfl) (ev_var rfl) (e78 _ _ hc6) (by unfold kvC; rw [List.length_map]; omega) fun v H9 e9 rv hc9 => ?_
            obtain rfl := rv.int_inv
            rw [kvC_put oc]
            have ncw6 : wl ≠ c := fun z => ncw z.symm
            have hw9 : (upd H9 c (.dK (kvC (c1 ++ [(o, -(colOf c1 s))])))) wl = some (.lst (w1.map V.str)) := by
              rw [upd_ne ncw6]
              exact e9 _ _ (e78 _ _ hw6)
            have hc10 : (upd H9 c (.dK (kvC (c1 ++ [(o, -(colOf c1 s))])))) c = some (.dK (kvC (c1 ++ [(o, -(colOf c1 s))]))) := upd_same
            have e10 : Ex H (upd H9 c (.dK (kvC (c1 ++ [(o, -(colOf c1 s))])))) := Ex.mut ((e6.trans e78).trans e9) hcn
            generalize upd H9 c (.dK (kvC (c1 ++ [(o, -(colOf c1 s))]))) = H10 at *
            refine s_app hw9 (ev_var rfl) (ev_var rfl) (by rw [List.length_map]; omega) fun H11 e11 => ?_
            refine ⟨w1 ++ [o], c1 ++ [(o, -(colOf c1 s))], _, _, rfl, Ex.mut (e10.trans e11) hwl0, by rw [upd_ne ncw]; exact e11 _ _ hc10, by rw [upd_same, List.map_append]; rfl, tk.trans stp, ?_, ?_, ?_, ?_, fun z => by simp at z⟩
            · rw [inC_snoc, sc6]
              rfl
            · rw [List.length_append, List.length_singleton]
              omega
            · intro t ht
              rcases List.mem_append.mp ht with h | h
              · obtain ⟨h1, h2⟩ := hws6 t h
                exact ⟨h1, by rw [inC_snoc, h2]; rfl⟩
              · rw [List.mem_singleton.mp h]
                exact ⟨oss, by rw [inC_snoc, decide_eq_true rfl, Bool.or_true]⟩
            · rw [List.length_append, List.length_singleton]
              omega
          · rw [hb, if_neg (by decide)] at stp
            exact ⟨w1, c1, _, _, rfl, e6.trans (e7.trans e8), (e7.trans e8) _ _ hc6, (e7.trans e8) _ _ hw6, tk.trans stp, sc6, hm6, hws6, hcl6, hne6⟩
        · rintro σ6 H6 ⟨w1, c1, z5, z6, rfl, e6, hc6, hw6, hf6, sc6, hm6, hws6, hcl6, hne6⟩
          rw [List.length_map, List.take_length] at hf6
          rw [hf6] at hwk
          exact ⟨m', Nat.lt_succ_self _, w1, c1, _, _, _, rfl, e6, hc6, hw6, hwk, hm6, hws6, hcl6, hne6, by omega⟩
      · have we : ws = [] := by
          cases ws with
          | nil => rfl
          | cons _ _ => exact nomatch hb
        rw [we, walk_nil] at hwk
        refine ret_ (make_ (cons_ (var_ rfl (cons_ (var_ rfl (nil_ fun x dx hx hdx ne => ?_))))))
        have e5 : Ex H4 (upd (upd H4 dx (.own x)) x (.ins CP dx [])) := (Ex.new hdx).trans (Ex.new (by rw [upd_ne ne.symm]; exact hx))
        have xc : c ≠ x := fun z => by rw [← z, e4 _ _ hc3] at hx; exact nomatch hx
        refine ⟨x, dx, n, c, ps, ss, cl, rfl, upd_same, N.ex2 ((e3.trans e4).trans e5), nd, lps, e5 _ _ (e4 _ _ hc3), hne, fun H6 b6 pa => ⟨rfl, k x H6 (fresh_back (e3.trans e4) hx) (fun b o hb => ?_) (by rw [← hwk]; exact pa)⟩⟩
        have hb4 := (e3.trans e4) _ _ hb
        exact b6 b o (fun z => by rw [z, hx] at hb4; exact nomatch hb4) (e5 _ _ hb4)
end
end K30
end
section
set_option Elab.async false
set_option linter.all false
set_option maxRecDepth 100000
set_option maxHeartbeats 4000000
namespace K30
open PySem PySem.Spec PyProof.Rows L2 Evl TX
open C8 (Cal pe_c pe_gc)
theorem eqv_key {cs : List Col} {d e : PyData} (h : isCell cs d) (g : isCell cs e) : PyData.eqv d e = decide (keyOf d = keyOf e) := by
  by_cases q : keyOf d = keyOf e
  · have e2 : d = e := by
      rcases h with ⟨s, rfl, _⟩ | ⟨n, rfl, _, _⟩ <;> rcases g with ⟨t, rfl, _⟩ | ⟨m, rfl, _, _⟩
      · unfold sumC keyOf at q
        simp at q
        rw [q]
      · unfold sumC datC keyOf at q
        simp at q
      · unfold sumC datC keyOf at q
        simp at q
      · unfold datC keyOf at q
        simp at q
        rw [q]
    rw [e2, eqv_self_cell g, decide_eq_true rfl]
  · rw [decide_eq_false q]
    cases h2 : PyData.eqv d e with
    | false => rfl
    | true => exact absurd (congrArg keyOf (eqv_cell h g h2)) q
def lostB (lost : List PyData) (cell : PyData) : List PyData := lost.filter fun d => !decide (keyOf d = keyOf cell)
def endsD (cs : List Col) : PyData → List Str
  | .tuple [_, .str w] => [w]
  | .tuple [_, .int n] => [((dataOf cs).getD n.toNat p0).1, ((dataOf cs).getD n.toNat p0).2]
  | _ => []
theorem ends_len (cs : List Col) (d : PyData) : (endsD cs d).length ≤ 2 := by
  unfold endsD
  split <;> simp
theorem rd_on {H H' : Hp} {a l CG dx : Addr} {fs : List (Str × V)} {kvs : List (Key × V)} (ha : H a = some (.ins CG dx fs)) (k : ∀ b o, b ≠ a → H b = some o → H' b = some o) (h : Rd H l (.dK kvs)) : Rd H' l (.dK kvs) := by
  have n : l ≠ a := fun z => by
    rcases h with h | ⟨o, h⟩
    · rw [z, ha] at h; exact nomatch h
    · rw [z, ha] at h; exact nomatch h
  rcases h with h | ⟨o, h⟩
  · exact .inl (k _ _ n h)
  · exact .inr ⟨o, k _ _ n h⟩
theorem NetAt.on {H H' : Hp} {C n a CG dx : Addr} {fs : List (Str × V)} {ps : List (Nat × Str × Str)} {ss : List Str} (h : NetAt H C n ps ss) (na : n ≠ a) (ha : H a = some (.ins CG dx fs)) (k : ∀ b o, b ≠ a → H b = some o → H' b = some o) : NetAt H' C n ps ss := by
  obtain ⟨dn, p, l, pv, la, h1, h2, h3, h4, h5, h6, h7⟩ := h.ex
  exact ⟨dn, p, l, pv, la, k _ _ na h1, h2, k _ _ (fun z => by rw [z, ha] at h3; exact nomatch h3) h3, h4.on fun b xs hb => k _ _ (fun z => by rw [z, ha] at hb; exact nomatch hb) hb, h5, rd_on ha k h6,
    fun i hi => k _ _ (fun z => by have q := h7 i hi; rw [z, ha] at q; exact nomatch q) (h7 i hi)⟩
theorem er_ifT {σ : L2.St} {H : Hp} {t : TT} {ta tb : TE} {b : Bool} {d : PyData} (h : EvT t σ H b) (h1 : b = true → EvR ta σ H d) (h2 : b = false → EvR tb σ H d) : EvR (tIf t ta tb) σ H d := fun H1 e Q q => h H1 e _ fun H2 e2 => by
  cases b with
  | true => exact h1 rfl H2 (e.trans e2) _ fun v H3 e3 r => q v H3 (e2.trans e3) r
  | false => exact h2 rfl H2 (e.trans e2) _ fun v H3 e3 r => q v H3 (e2.trans e3) r
structure ClG (K : PySem.W.Frag) (C : Addr) : Prop where
  cl : Cls K C
  no : ∀ f ∈ (["net", "ends"] : List Str), NoAttr K C f
def GapAt (H : Hp) (CN C a : Addr) (ps : List (Nat × Str × Str)) (ss es : List Str) : Prop := ∃ (dx n t : Addr), H a = some (.ins C dx [("net", .ref n), ("ends", .ref t)]) ∧ NetAt H CN n ps ss ∧ H t = some (.tup (es.map V.str))
def endsG (cs : List Col) (lost : List PyData) (cell : PyData) : List Str := (endsD cs cell).filter fun s => (netS cs (lostB lost cell)).contains s
def gSp (C CN CG : Addr) : Sp := fun vs H Q _ => ∃ (a dx t lo : Addr) (ce : V) (k : Kd) (cs : List Col) (lx : List V) (lost : List PyData) (cell : PyData), vs = [.ref a, .ref t, .ref lo, ce] ∧ H a = some (.ins CG dx []) ∧ TabAt H C t k cs ∧ Good cs ∧ H lo = some (.tup lx) ∧ Reps H lx lost ∧ lost.length ≤ 40 ∧ (∀ d ∈ lost, isCell cs d) ∧ Rep H ce cell ∧ isCell cs cell ∧
  ∀ H', (∀ b o, b ≠ a → H b = some o → H' b = some o) → GapAt H' CN CG a (netP cs (lostB lost cell)) (netS cs (lostB lost cell)) (endsG cs lost cell) → Q .non H'
section
variable {P : Program} {w : World} {K : PySem.W.Frag} {mg : Str → Option Value} {base : Heap} {f : Addr} {fd : FuncData}
variable {C CN CG : Addr}
abbrev sc_Gap_init_N : List Str := ["self", "table", "lost", "cell", "what", "which", "other", "net", "pair", "name"]
theorem sc_Gap_init : FnScope sc_Gap_init_N ["self", "table", "lost", "cell"] (defScope s_Gap_init) := ⟨rfl, rfl, rfl, by decide +kernel, rfl, by decide +kernel, by decide +kernel⟩
theorem ok_ginit (F : FnM K "__init__" "Gap.__init__" s_Gap_init f fd) (T : Tops mg)  (clN : ClN K CN) (clG : ClG K CG) (M_Net : C8.Mak P w K mg base 3 "Net" CN (nSp C CN) []) (P_data : Prp P w K mg base 1 C "data" (getSp C "_data"))  : FnOk P w K mg base CX0 5 f fd ["self", "table", "lost", "cell"] (gSp C CN CG) := by
  refine F.ok sc_Gap_init (fun vs H Q E h => ?_) (fun cdv A outer s H vs Q E hr h => ?_)
  · obtain ⟨a, dx, t, lo, ce, kd, cs, lx, lost, cell, rfl, _⟩ := h; rfl
  · obtain ⟨a, dx, t, lo, ce, kd, cs, lx, lost, cell, rfl, ha, tab, G, hlo, rl, ll, ics, rce, ic, k⟩ := h
    have hu1 := Nat.lt_of_le_of_lt (Nat.add_le_add_left (by decide : 1 ≤ 64) _) hr.units
    refine ⟨_, PSs.nox (pss_cons (ps_asg (pv 3) (pg_tup rfl (pgs_cons (pg_name (i := 4) sc_Gap_init.nd rfl (.inl rfl)) (pgs_cons (pg_name (i := 5) sc_Gap_init.nd rfl (.inl rfl)) pgs_nil))))
  (pss_cons (ps_set (i := 7) sc_Gap_init.nd rfl (.inr rfl) (C8.pe_mk M_Net hr (by decide) rfl (pa_cons (pv 1) (pa_cons (pe_lc (own := [("other", 6)]) (g := gName 6) rfl sc_Gap_init.nd (pi_tup (pv 2)) (blkOk_by (own := [("other", 6)]) (N := sc_Gap_init_N) (sc := defScope s_Gap_init) (by decide +kernel)) (fun _ _ _ _ _ => (pg_name (i := 6) sc_Gap_init.nd rfl (.inl rfl))) (fun _ _ _ _ _ => (pts_one (pt_cmpR (op_neD hr.units : OpR _ _ (rNeD K)) (pv 6) (pv 3) (nomark _)))) (fun _ _ _ _ _ => (pv 6))) pa_nil))))
  (pss_cons (ps_set (i := 8) sc_Gap_init.nd rfl (.inl rfl) (pe_ifExp (pt_cmpR op_eq (pv 4) pe_str (nomark _)) (pe_tup (pa_cons (pv 5) pa_nil)) (pe_ix ix_tup (pe_prp P_data hr (pv 1)) (pv 5) (fun _ _ => rfl))))
  (pss_cons (ps_fld (pv 0) (pv 7) rfl)
  (pss_one (ps_fld (pv 0) (pe_callTy call_tuple_of (by rfl) T.n_tuple (by decide +kernel) (pa_cons (pe_lc (tt := tB (tDIn (tVar 9) (tFld K (tVar 7) "lines_at"))) (own := [("name", 9)]) (g := gName 9) rfl sc_Gap_init.nd (pi_tup (pv 8)) (blkOk_by (own := [("name", 9)]) (N := sc_Gap_init_N) (sc := defScope s_Gap_init) (by decide +kernel)) (fun _ _ _ _ _ => (pg_name (i := 9) sc_Gap_init.nd rfl (.inl rfl))) (fun _ _ _ _ _ => (pts_one (pt_cmp (pc_din hu1 (pv 9) (pe_fld (pv 7) rfl))))) (fun _ _ _ _ _ => (pv 9))) pa_nil)) rfl)))))), ?_⟩
    obtain ⟨ce, x4, x5, rfl, hce⟩ : ∃ (b : Addr) (u v : V), ce = .ref b ∧ H b = some (.tup [u, v]) := by
      rcases ic with ⟨s, rfl, _⟩ | ⟨m, rfl, _, _⟩
      · obtain ⟨b, u, v, e, hb, _⟩ := rce.two
        exact ⟨b, u, v, e, hb⟩
      · obtain ⟨b, u, v, e, hb, _⟩ := rce.two
        exact ⟨b, u, v, e, hb⟩
    obtain ⟨tx, v1, v2, v3, v4, v6, v9, p5, q7, kv0, h0, h1, h2, h3, h4, h5, h6, h7, h9⟩ := tab.ex
    obtain ⟨da, dd, rfl, hda, rda⟩ := Rep.tup_inv h4
    refine q_unp2 (K := K) (ev_var rfl) hce fun H1 e1 => ?_
    -- the net without the cell
    have s1 := es_lcT (K := K) (tl := tVar 2) (g := gName 6) (t := tTest (tOp (rNeD K) (tVar 6) (tVar 3))) (te := tVar 6) (vs := [6]) (σ := [some (.ref a), some (.ref t), some (.ref lo), some (.ref ce), some x4, some x5, none, none, none, none]) (H := H1) (ev_var rfl) (e1 _ _ hlo) (by rw [rl.len]; omega) (fun i => [some (.ref a), some (.ref t), some (.ref lo), some (.ref ce), some x4, some x5, lx[i]?, none, none, none]) (fun i => !decide (keyOf (lost.getD i .none) = keyOf cell)) (fun i => lost.getD i .none) (fun _ _ => rfl)
      (fun i x H2 R hx e r => by
        rw [hx] at r
        exact r)
      (fun i x H2 hx e => by
        obtain ⟨d, hd, rd⟩ := (rl.ex (e1.trans e)).at hx
        have ed : lost.getD i .none = d := by rw [List.getD_eq_getElem?_getD, hd]; rfl
        rw [ed]
        have id := ics d (List.mem_of_getElem? hd)
        refine et_is (et_test (ev_neR (K := K) (er_var (d := d) (by show some (lx[i]?) = _; rw [hx]) rd) (er_var (d := cell) rfl (rce.ex (e1.trans e))) (shaped_cell (cell_ok G id)) (shaped_cell (cell_ok G ic)))) ?_
        rw [eqv_key id ic])
      (fun i x H2 hx e _ => by
        obtain ⟨d, hd, rd⟩ := (rl.ex (e1.trans e)).at hx
        have ed : lost.getD i .none = d := by rw [List.getD_eq_getElem?_getD, hd]; rfl
        rw [ed]
        exact er_var (by show some (lx[i]?) = _; rw [hx]) rd)
    have eL : (((List.range lx.length).filter fun i => !decide (keyOf (lost.getD i .none) = keyOf cell)).map fun i => lost.getD i .none) = lostB lost cell := by
      rw [rl.len, range_filter (fun d => !decide (keyOf d = keyOf cell)) lost .none]
      rfl
    rw [eL] at s1
    have lB : (lostB lost cell).length ≤ lost.length := List.length_filter_le ..
    refine q_asgO (make_ (cons_ (var_ rfl (cons_ (s1 H1 (Ex.refl H1) _ fun q xs H2 hq e2 hxs rs => nil_ fun n dn hn hdn ne => ?_)))))
    have e3 : Ex H2 (upd (upd H2 dn (.own n)) n (.ins CN dn [])) := (Ex.new hdn).trans (Ex.new (by rw [upd_ne ne.symm]; exact hn))
    have e13 := (e1.trans e2).trans e3
    have tab3 : TabAt (upd (upd H2 dn (.own n)) n (.ins CN dn [])) C t kd cs := tab.keep e13
    refine ⟨n, dn, t, q, kd, cs, xs, lostB lost cell, rfl, upd_same, tab3, G, e3 _ _ hxs, rs.ex e3, by omega, fun d hd => ics d (List.mem_filter.mp hd).1, fun H4 b4 N _ => ⟨rfl, ?_⟩⟩
    have e4 : Ex H H4 := fun b o hb => by
      have hb2 := (e1.trans e2) _ _ hb
      exact b4 b o (fun z => by rw [z, hn] at hb2; exact nomatch hb2) (e3 _ _ hb2)
    have nan : n ≠ a := fun z => by
      have := (e1.trans e2) _ _ ha
      rw [← z, hn] at this
      exact nomatch this
    -- the sums at which it stood
    have pr : EvR (tIf (tTest (tOp rEq (tVar 4) (tC (.str "sum")))) (tTup (tCons (tVar 5) tNil)) (tOp (rIxT K) (tProp C (getSp C "_data") [] C8.E0 (tVar 1)) (tVar 5))) [some (.ref a), some (.ref t), some (.ref lo), some (.ref ce), some x4, some x5, none, some (.ref n), none, none] H4 (.tuple ((endsD cs cell).map PyData.str)) := by
      have rce4 := rce.ex e4
      have hce4 := e4 _ _ hce
      rcases ic with ⟨s, rfl, hs⟩ | ⟨m, rfl, m0, m1⟩
      · obtain ⟨b, u, v, e, hb, ru, rv⟩ := rce4.two
        cases e
        rw [hce4] at hb
        obtain ⟨rfl, rfl⟩ : x4 = u ∧ x5 = v := by simpa using hb
        obtain rfl := ru.str_inv
        obtain rfl := rv.str_inv
        exact er_ifT (b := true) (et_is (et_test (ev_op (ev_var rfl) ev_c (rv_eq rfl))) rfl) (fun _ => er_tup (era_cons (er_str (ev_var rfl)) era_nil) (Nat.le_of_ble_eq_true rfl)) (fun z => nomatch z)
      · obtain ⟨b, u, v, e, hb, ru, rv⟩ := rce4.two
        cases e
        rw [hce4] at hb
        obtain ⟨rfl, rfl⟩ : x4 = u ∧ x5 = v := by simpa using hb
        obtain rfl := ru.str_inv
        obtain rfl := rv.int_inv
        have hdm : (((dataOf cs).map pairD))[m.toNat]? = some (pairD ((dataOf cs).getD m.toNat p0)) := by
          rw [List.getElem?_map, List.getD_eq_getElem?_getD, List.getElem?_eq_getElem m1]
          rfl
        refine er_ifT (b := false) (et_is (et_test (ev_op (ev_var rfl) ev_c (rv_eq rfl))) rfl) (fun z => nomatch z) fun _ => ?_
        have er := er_ix (K := K) (i := m.toNat) (ta := tProp C (getSp C "_data") [] C8.E0 (tVar 1)) (tb := tVar 5) (σ := [some (.ref a), some (.ref t), some (.ref lo), some (.ref ce), some (.str "datum"), some (.int m), none, some (.ref n), none, none]) (H := H4) (er_ev (ev_prop (ev_var rfl) (e4 _ _ h0) rfl) (.tup (e4 _ _ hda) (rda.ex e4))) (ev_var (by show some (some (V.int m)) = _; rw [Int.toNat_of_nonneg m0])) hdm
        exact er
    refine q_asgR pr fun v8 H5 e5 r8 => ?_
    obtain ⟨pa, px, rfl, hpa, rpx⟩ := r8.tup_inv
    obtain rfl := rpx.strs
    have e45 := e4.trans e5
    have ha5 := e45 _ _ ha
    -- the fields
    refine q_fld (ev_var rfl) (ev_var rfl) ha5 clG.cl (clG.no _ (by decide +kernel)) (Nat.le_of_ble_eq_true rfl) fun H6 e6 => ?_
    have K6 : ∀ b o, b ≠ a → H5 b = some o → (upd H6 a (.ins CG dx (putF "net" (.ref n) []))) b = some o := fun b o hb h => by
      rw [upd_ne hb]
      exact e6 _ _ h
    have ha7 : (upd H6 a (.ins CG dx (putF "net" (.ref n) []))) a = some (.ins CG dx [("net", .ref n)]) := upd_same
    have N7 := (N.ex2 e5).on nan ha5 K6
    have hpa7 := K6 _ _ (fun z => by rw [z, ha5] at hpa; exact nomatch hpa) hpa
    generalize upd H6 a (.ins CG dx (putF "net" (.ref n) [])) = H7 at *
    refine fld_open1 (K := K) ?_
    obtain ⟨dn2, pp, ll, kvs, hn7, hl7, hin, _⟩ := N7.lines (G.snd.filter _)
    have lE := ends_len cs cell
    have s2 := es_lcT (K := K) (tl := tVar 8) (g := gName 9) (t := tB (tDIn (tVar 9) (tFld K (tVar 7) "lines_at"))) (te := tVar 9) (vs := [9]) (σ := [some (.ref a), some (.ref t), some (.ref lo), some (.ref ce), some x4, some x5, none, some (.ref n), some (.ref pa), none]) (H := H7) (ev_var rfl) hpa7 (by rw [List.length_map]; omega) (fun i => [some (.ref a), some (.ref t), some (.ref lo), some (.ref ce), some x4, some x5, none, some (.ref n), some (.ref pa), some (.str ((endsD cs cell).getD i Str.empty))]) (fun i => (netS cs (lostB lost cell)).contains ((endsD cs cell).getD i Str.empty)) (fun i => .str ((endsD cs cell).getD i Str.empty)) (fun _ _ => rfl)
      (fun i x H8 R hx e r => by
        rw [List.getElem?_map] at hx
        obtain ⟨y, hy, rfl⟩ := Option.map_eq_some_iff.mp hx
        have ey : (endsD cs cell).getD i Str.empty = y := by rw [List.getD_eq_getElem?_getD, hy]; rfl
        rw [ey] at r
        exact r)
      (fun i x H8 hx e => by
        have q := et_B (ev_dinR (ty := tVar 9) (td := tFld K (tVar 7) "lines_at") (σ := [some (.ref a), some (.ref t), some (.ref lo), some (.ref ce), some x4, some x5, none, some (.ref n), some (.ref pa), some (.str ((endsD cs cell).getD i Str.empty))]) (H := H8) (k := .inr ((endsD cs cell).getD i Str.empty)) (ev_var rfl) (ev_fld (ev_var (i := 7) rfl) (e _ _ hn7) clN.cl (clN.no _ (by decide +kernel)) rfl) (ex_rd e hl7))
        rw [hin] at q
        exact q)
      (fun i x H8 hx e _ => er_str (ev_var rfl))
    rw [List.length_map] at s2
    have eE : (((List.range (endsD cs cell).length).filter fun i => (netS cs (lostB lost cell)).contains ((endsD cs cell).getD i Str.empty)).map fun i => PyData.str ((endsD cs cell).getD i Str.empty)) = ((endsD cs cell).filter fun s => (netS cs (lostB lost cell)).contains s).map PyData.str := by
      rw [← range_filter (fun s => (netS cs (lostB lost cell)).contains s) (endsD cs cell) Str.empty, List.map_map]
      rfl
    rw [eE] at s2
    refine er_tuple s2 H7 (Ex.refl H7) _ fun v9 H8 e8 r9 => ?_
    obtain ⟨ea, ex, rfl, hea, rex⟩ := r9.tup_inv
    obtain rfl := rex.strs
    refine ⟨_, rfl, a, CG, dx, _, rfl, e8 _ _ ha7, clG.cl, clG.no _ (by decide +kernel), Nat.le_of_ble_eq_true rfl, ?_⟩
    have K9 : ∀ b o, b ≠ a → H8 b = some o → (upd H8 a (.ins CG dx (putF "ends" (.ref ea) [("net", .ref n)]))) b = some o := fun b o hb h => by
      rw [upd_ne hb]
      exact h
    have ha8 := e8 _ _ ha7
    exact k _ (fun b o hb h => K9 b o hb (e8 _ _ (K6 b o hb (e45 _ _ h)))) ⟨dx, n, ea, upd_same, (N7.ex2 e8).on nan ha8 K9, K9 _ _ (fun z => by rw [z, ha8] at hea; exact nomatch hea) hea⟩
end
end K30
end
section
set_option Elab.async false
set_option linter.all false
set_option maxRecDepth 100000
set_option maxHeartbeats 4000000
namespace K30
open PySem PySem.Spec PyProof.Rows L2 Evl TX
open C8 (Cal pe_c pe_gc)
def wordK : Kd → Str
  | .bits => "bits"
  | .plain => "plain"
  | .dial m => if m % 2 = 0 then "even" else "odd"
def rWord : List V → Hp → V → Prop := fun vs _ z => ∃ k : Kd, vs = [k.v] ∧ k.ok ∧ z = .str (wordK k)
def toldN (wd : Str) (ps : List (Nat × Str × Str)) (ss es : List Str) : List Str → Option (List (Str × Int) × Int)
  | [] => none
  | e :: r =>
    if (!(partS ps (colN ps ss e)).isEmpty) || (!(partT ps (colN ps ss e)) && !decide (wd = "bits")) then toldN wd ps ss es r
    else if decide ((es.map (colOf (colN ps ss e))).sum = 1) || (decide ((es.map (colOf (colN ps ss e))).sum = 2) && (decide (wd = "odd") || decide (wd = "plain"))) then some (colN ps ss e, (es.map (colOf (colN ps ss e))).sum) else toldN wd ps ss es r
def ToldV (H : Hp) (v : V) : Option (List (Str × Int) × Int) → Prop
  | none => v = .non
  | some r => ∃ q c : Addr, v = .ref q ∧ H q = some (.tup [.ref c, .int r.2]) ∧ H c = some (.dK (kvC r.1))
theorem colOf_out {cl : List (Str × Int)} {s : Str} (h : inC cl s = false) : colOf cl s = 0 := by
  unfold colOf
  rw [List.find?_eq_none.mpr]
  · rfl
  · intro x hx
    exact List.any_eq_false.mp h x hx
theorem kvC_getD (cl : List (Str × Int)) (s : Str) : (valV (kvC cl) (.inr s)).getD (.int 0) = .int (colOf cl s) := by
  rw [kvC_get]
  cases h : inC cl s with
  | true => rfl
  | false =>
    rw [colOf_out h]
    rfl
theorem ev_sumR {K : PySem.W.Frag} {σ : L2.St} {H : Hp} {te : TE} {ns : List Int} (h : EvS te σ H (ns.map PyData.int)) : Ev (tCB (rSum K) (tCons te tNil)) σ H (.int ns.sum) := fun H1 a Q q =>
  h H1 a _ fun p xs H2 _ b hp rs => ⟨p, ns, rfl, by rw [← rs.ints]; exact sq_of hp, q H2 b⟩
theorem ev_dget2K {σ : L2.St} {H : Hp} {td ty tx : TE} {z : V} {p : Addr} {kvs : List (Key × V)} {k : Key} (hd : Ev td σ H (.ref p)) (hy : Ev ty σ H (kV k)) (hx : Ev tx σ H z) (hp : H p = some (.dK kvs)) : Ev (tDGet2 td ty tx) σ H ((valV kvs k).getD z) := fun H1 e Q q =>
  hd H1 e _ fun H2 e2 => ⟨p, rfl, .inl ⟨kvs, .inl ((e.trans e2) _ _ hp)⟩, hy H2 (e.trans e2) _ fun H3 e3 => hx H3 ((e.trans e2).trans e3) _ fun H4 e4 => ⟨_, DGet.k ((((e.trans e2).trans e3).trans e4) _ _ hp), q H4 ((e2.trans e3).trans e4)⟩⟩
def TbF (H : Hp) (wd : Str) (g : Addr) (ps : List (Nat × Str × Str)) (ss es : List Str) (i : Nat) (σ : L2.St) (H' : Hp) : Prop := ∃ y2 y3 y5 : Option V, σ = [some (.str wd), some (.ref g), y2, y3, none, y5] ∧ Ex H H' ∧ toldN wd ps ss es (es.drop i) = toldN wd ps ss es es
def tbSp (CN CG : Addr) : Sp := fun vs H Q _ => ∃ (wd : Str) (g : Addr) (ps : List (Nat × Str × Str)) (ss es : List Str), vs = [.str wd, .ref g] ∧ GapAt H CN CG g ps ss es ∧ (ps.map (·.1)).Nodup ∧ ss.Nodup ∧ ps.length ≤ 24 ∧ ss.length ≤ 10 ∧ (∀ e ∈ es, e ∈ ss) ∧ es.length ≤ 2 ∧
  ∀ v H', Ex H H' → ToldV H' v (toldN wd ps ss es es) → Q v H'
section
variable {P : Program} {w : World} {K : PySem.W.Frag} {mg : Str → Option Value} {base : Heap} {f : Addr} {fd : FuncData}
variable {C CN CP CG : Addr}
abbrev sc_word_of_N : List Str := ["kind"]
theorem sc_word_of : FnScope sc_word_of_N ["kind"] (defScope s_word_of) := ⟨rfl, rfl, rfl, by decide +kernel, rfl, by decide +kernel, by decide +kernel⟩
theorem ok_wordof (F : FnP K "word_of" s_word_of f fd) (T : Tops mg)  : FnOk P w K mg base CX0 1 f fd ["kind"] (pSp rWord) := by
  refine F.ok sc_word_of (fun vs H Q E h => ?_) (fun cdv A outer s H vs Q E hr h => ?_)
  · obtain ⟨z, ⟨i, rfl, _⟩, _⟩ := h; rfl
  · obtain ⟨z, ⟨kd, rfl, hk, rfl⟩, k⟩ := h
    refine ⟨_, PSs.nox (pss_cons (ps_if (pt_val (pe_callB call_isi (by rfl) T.n_isinstance (by decide +kernel) (pa_cons (pv 0) (pa_cons (pe_bltn (v := .ty "str") (by rfl) T.n_str (by decide +kernel) rfl) pa_nil))))
  (pss_one (ps_ret (pv 0)))
  pss_nil)
  (pss_one (ps_ret (pe_ifExp (pt_cmpR op_eq (pe_op op_mod (pv 0) pe_int) pe_int (nomark _)) (pe_gc (by rfl) T.c_EVEN) (pe_gc (by rfl) T.c_ODD))))), ?_⟩
    cases kd with
    | bits =>
      refine q_if (b := true) (et_B (ev_isi (K := K) (t := "str") (u := "str") (ev_var rfl) ev_c (fun _ _ => .str _) (by decide +kernel))) (fun _ H1 e1 => ?_) (fun z => (nomatch z))
      exact s_ret (ev_var rfl) fun H2 e2 => k H2 (e1.trans e2)
    | plain =>
      refine q_if (b := true) (et_B (ev_isi (K := K) (t := "str") (u := "str") (ev_var rfl) ev_c (fun _ _ => .str _) (by decide +kernel))) (fun _ H1 e1 => ?_) (fun z => (nomatch z))
      exact s_ret (ev_var rfl) fun H2 e2 => k H2 (e1.trans e2)
    | dial m =>
      refine q_when (b := false) (et_B (ev_isi (K := K) (t := "int") (u := "str") (ev_var rfl) ev_c (fun _ _ => .int _) (by decide +kernel))) (fun z => (nomatch z)) (fun _ H1 e1 => ?_)
      refine s_ret (v := .str (wordK (.dial m))) (ev_if (b := decide (m % 2 = 0)) (et_is (et_test (ev_op (ev_op (z := .int (m % 2)) (ev_var rfl) ev_c (rv_val fun H2 e2 Q q => ⟨_, _, rfl, rfl, (show (0 : Int) < 2 by decide), q⟩)) ev_c (rv_eq rfl))) ?_) (fun h => ?_) fun h => ?_) fun H2 e2 => k H2 (e1.trans e2)
      · exact decide_eq_decide.mpr ⟨fun h => V.int.inj h, fun h => by rw [h]⟩
      · rw [show wordK (.dial m) = "even" from if_pos (of_decide_eq_true h)]
        exact ev_c
      · rw [show wordK (.dial m) = "odd" from if_neg (of_decide_eq_false h)]
        exact ev_c
abbrev sc_told_by_N : List Str := ["word", "gap", "end", "part", "name", "times"]
theorem sc_told_by : FnScope sc_told_by_N ["word", "gap"] (defScope s_told_by) := ⟨rfl, rfl, rfl, by decide +kernel, rfl, by decide +kernel, by decide +kernel⟩
theorem ok_toldby (F : FnP K "told_by" s_told_by f fd) (T : Tops mg) (C_part_at : Cal P w K mg base 6 "part_at" (paSp CN CP) []) (clP : ClP K CP) (clG : ClG K CG)  : FnOk P w K mg base CX0 7 f fd ["word", "gap"] (tbSp CN CG) := by
  refine F.ok sc_told_by (fun vs H Q E h => ?_) (fun cdv A outer s H vs Q E hr h => ?_)
  · obtain ⟨wd, g, ps, ss, es, rfl, _⟩ := h; rfl
  · obtain ⟨wd, g, ps, ss, es, rfl, ⟨dxg, n, t, hg, N, ht⟩, nd, nds, lps, lss, hes, les, k⟩ := h
    have hu1 := Nat.lt_of_le_of_lt (Nat.add_le_add_left (by decide : 1 ≤ 64) _) hr.units
    refine ⟨_, PSs.nox (pss_cons (ps_for PassesOwn.never rfl (pi_tup (pe_fld (pv 1) rfl)) (pg_name (i := 2) sc_told_by.nd rfl (.inl rfl))
  (pss_cons (ps_set (i := 3) sc_told_by.nd rfl (.inr rfl) (pe_c C_part_at hr (by decide) rfl (pa_cons (pe_fld (pv 1) rfl) (pa_cons (pv 2) pa_nil))))
  (pss_cons (ps_set (i := 5) sc_told_by.nd rfl (.inl rfl) (pe_callB (cr_sum rfl) (by rfl) T.n_sum (by decide +kernel) (pa_cons (pe_lc (te := tDGet2 (tFld K (tVar 3) "colours") (tVar 4) (tC (.int 0))) (own := [("name", 4)]) (g := gName 4) (tt := tYes) rfl sc_told_by.nd (pi_tup (pe_fld (pv 1) rfl)) (blkOk_by (own := [("name", 4)]) (N := sc_told_by_N) (sc := defScope s_told_by) (by decide +kernel)) (fun _ _ _ _ _ => (pg_name (i := 4) sc_told_by.nd rfl (.inl rfl))) (fun _ _ _ _ _ => pts_nil) (fun _ _ _ _ _ => (pe_dget2 hu1 (pe_fld (pv 3) rfl) (pv 4) pe_int ⟨rfl, rfl, rfl, rfl⟩))) pa_nil)))
  (pss_cons (ps_if (PW.pt (pw_or (pt_truth (pe_fld (pv 3) rfl) (by intro _; rfl)) (pw_or1 (PW.pt (pw_and (pt_not (pt_val (pe_fld (pv 3) rfl))) (pw_and1 (pt_cmpR op_ne (pv 0) (pe_gc (by rfl) T.c_BITS) (nomark _))))))))
  (pss_one ps_continue)
  pss_nil)
  (pss_one (ps_if (PW.pt (pw_or (pt_cmpR op_eq (pv 5) pe_int (nomark _)) (pw_or1 (PW.pt (pw_and (pt_cmpR op_eq (pv 5) pe_int (nomark _)) (pw_and1 (pt_cmpR (op_in_seq : OpR _ _ (rIn K false)) (pv 0) (pe_tup (pa_cons (pe_gc (by rfl) T.c_ODD) (pa_cons (pe_gc (by rfl) T.c_PLAIN) pa_nil))) rfl)))))))
  (pss_one (ps_ret (pe_tup (pa_cons (pe_fld (pv 3) rfl) (pa_cons (pv 5) pa_nil)))))
  pss_nil))))))
  (pss_one (ps_ret pe_non))), ?_⟩
    refine q_forT (K := K) (a := t) (xs := es.map V.str) (ev_fld (ev_var (i := 1) rfl) hg clG.cl (clG.no _ (by decide +kernel)) rfl) (st_of ht) (TbF H wd g ps ss es) (fun H1 e1 => ⟨none, none, none, rfl, e1, rfl⟩) (fun i σ' H' _ p => ?_) ?_ ?_
    · obtain ⟨_, _, _, _, e, _⟩ := p
      exact st_of (e _ _ ht)
    · rintro i x σ' H1 hx ⟨y2, y3, y5, rfl, e1, hd⟩
      rw [List.getElem?_map] at hx
      obtain ⟨e, he, rfl⟩ := Option.map_eq_some_iff.mp hx
      have hi := (List.getElem?_eq_some_iff.mp he).1
      have dr : es.drop i = e :: es.drop (i + 1) := by
        rw [List.drop_eq_getElem_cons hi, (List.getElem?_eq_some_iff.mp he).2]
      rw [dr] at hd
      have ess := hes e (List.mem_of_getElem? he)
      show tSeq (tAsg _ _) _ _ _ _
      refine q_asgO (cons_ (ev_ (ev_fld (ev_var (i := 1) rfl) (e1 _ _ hg) clG.cl (clG.no _ (by decide +kernel)) rfl) fun H2 e2 => cons_ (var_ rfl (nil_ ⟨n, ps, ss, e, rfl, N.ex2 (e1.trans e2), nd, nds, lps, lss, ess, fun a H3 ha0 e3 pa => ?_⟩))))
      obtain ⟨dxp, c, l, s, hp, hc, hl, hs⟩ := pa
      have e13 := (e1.trans e2).trans e3
      have hsum := ev_sumR (K := K) (ns := es.map (colOf (colN ps ss e))) (te := tLc (iTup K (tFld K (tVar 1) "ends")) (gName 4) tYes (tDGet2 (tFld K (tVar 3) "colours") (tVar 4) (tC (.int 0))) [4]) (σ := [some (.str wd), some (.ref g), some (.str e), some (.ref a), none, y5]) (H := H3) (by
        have q := es_lcT1 (K := K) (tl := tFld K (tVar 1) "ends") (g := gName 4) (te := tDGet2 (tFld K (tVar 3) "colours") (tVar 4) (tC (.int 0))) (vs := [4]) (σ := [some (.str wd), some (.ref g), some (.str e), some (.ref a), none, y5]) (H := H3) (xs := es.map V.str) (ev_fld (ev_var (i := 1) rfl) (e13 _ _ hg) clG.cl (clG.no _ (by decide +kernel)) rfl) (e13 _ _ ht) (by rw [List.length_map]; omega) (fun j => [some (.str wd), some (.ref g), some (.str e), some (.ref a), some (.str (es.getD j Str.empty)), y5]) (fun j => .int (colOf (colN ps ss e) (es.getD j Str.empty))) (fun _ _ => rfl) ?_ ?_
        · rw [List.length_map] at q
          rw [List.map_map, ← rg (PyData.int ∘ colOf (colN ps ss e)) Str.empty es]
          exact q
        · intro j x H4 R hx e4 r
          rw [List.getElem?_map] at hx
          obtain ⟨y, hy, rfl⟩ := Option.map_eq_some_iff.mp hx
          have ey : es.getD j Str.empty = y := by rw [List.getD_eq_getElem?_getD, hy]; rfl
          rw [ey] at r
          exact r
        · intro j x H4 hx e4
          refine er_int ?_
          rw [← kvC_getD]
          exact ev_dget2K (k := .inr (es.getD j Str.empty)) (ev_fld (ev_var (i := 3) rfl) (e4 _ _ hp) clP.cl (clP.no _ (by decide +kernel)) rfl) (ev_var (i := 4) rfl) ev_c (e4 _ _ hc))
      refine q_asg hsum fun H4 e4 => ?_
      have e14 := e13.trans e4
      have hp4 := e4 _ _ hp
      refine q_when (b := (!(partS ps (colN ps ss e)).isEmpty) || (!(partT ps (colN ps ss e)) && !decide (wd = "bits"))) ?_ (fun hb H5 e5 => ?_) fun hb H5 e5 => ?_
      · refine et_or (a := !(partS ps (colN ps ss e)).isEmpty) ?_ fun _ => et_and (et_not ?_) fun _ => ?_
        · have q := et_tupT (K := K) (te := tFld K (tVar 3) "stubs") (σ := [some (.str wd), some (.ref g), some (.str e), some (.ref a), none, some (.int (es.map (colOf (colN ps ss e))).sum)]) (H := H4) (ev_fld (ev_var (i := 3) rfl) hp4 clP.cl (clP.no _ (by decide +kernel)) rfl) (e4 _ _ hs)
          rw [List.isEmpty_map] at q
          exact q
        · exact fun H5 e5 Q q => ev_fld (K := K) (ev_var (i := 3) rfl) (e5 _ _ hp4) clP.cl (clP.no _ (by decide +kernel)) rfl H5 (Ex.refl H5) _ fun H6 e6 => ⟨_, rfl, q H6 e6⟩
        · refine et_is (et_test (ev_op (ev_var rfl) ev_c (rv_ne rfl))) ?_
          congr 1
          exact decide_eq_decide.mpr ⟨fun h => V.str.inj h, fun h => by rw [h]⟩
      · refine ⟨_, _, _, rfl, e14.trans e5, ?_⟩
        rw [← hd, toldN, if_pos hb]
      · refine s_when (b := decide ((es.map (colOf (colN ps ss e))).sum = 1) || (decide ((es.map (colOf (colN ps ss e))).sum = 2) && (decide (wd = "odd") || decide (wd = "plain")))) ?_ (fun hb2 H6 e6 => ?_) fun hb2 H6 e6 => ?_
        · refine et_or ?_ fun _ => et_and ?_ fun _ => ?_
          · refine et_is (et_test (ev_op (ev_var rfl) ev_c (rv_eq rfl))) ?_
            exact decide_eq_decide.mpr ⟨fun h => V.int.inj h, fun h => by rw [h]⟩
          · refine et_is (et_test (ev_op (ev_var rfl) ev_c (rv_eq rfl))) ?_
            exact decide_eq_decide.mpr ⟨fun h => V.int.inj h, fun h => by rw [h]⟩
          · refine et_is (et_test (ev_opU (ev_var rfl) (eu_tup (ea_cons ev_c (ea_cons ev_c ea_nil)) (Nat.le_of_ble_eq_true rfl)) fun p H7 hp7 _ => rv_isT (K := K) (st_of hp7) rfl rfl)) ?_
            have q : ∀ a : Str, (a == wd) = decide (wd = a) := fun a => by
              by_cases h : wd = a
              · rw [decide_eq_true h, h]
                exact beq_self_eq_true a
              · rw [decide_eq_false h]
                exact beq_eq_false_iff_ne.mpr fun z => h z.symm
            show ((("odd" : Str) == wd) || ((("plain" : Str) == wd) || false)) = _
            rw [Bool.or_false, q, q]
        · refine ret_ (cons_ (ev_ (ev_fld (ev_var (i := 3) rfl) (e6 _ _ (e5 _ _ hp4)) clP.cl (clP.no _ (by decide +kernel)) rfl) fun H7 e7 => cons_ (var_ rfl (nil_ ⟨Nat.le_of_ble_eq_true rfl, fun q hq => ?_⟩))))
          have e47 := (e5.trans e6).trans e7
          refine k _ _ ((e14.trans e47).trans (Ex.new hq)) ?_
          rw [← hd, toldN, if_neg (by rw [hb]; decide), if_pos hb2]
          exact ⟨q, c, rfl, upd_same, Ex.new hq _ _ (e47 _ _ (e4 _ _ hc))⟩
        · refine ⟨_, _, _, rfl, (e14.trans e5).trans e6, ?_⟩
          rw [← hd, toldN, if_neg (by rw [hb]; decide), if_neg (by rw [hb2]; decide)]
    · rintro σ' H1 ⟨y2, y3, y5, rfl, e1, hd⟩
      rw [List.length_map, List.drop_length] at hd
      refine ret_ (k _ _ e1 ?_)
      rw [← hd]
      rfl
end
end K30
end
section
set_option Elab.async false
set_option linter.all false
set_option maxRecDepth 100000
set_option maxHeartbeats 4000000
namespace K30
open PySem PySem.Spec PyProof.Rows L2 Evl TX
open C8 (Cal pe_c pe_gc)
def rIsCell (C : Addr) : List V → Hp → V → Prop := fun vs H z => ∃ (a : Addr) (k : Kd) (cs : List Col) (v : V) (d : PyData), vs = [.ref a, v] ∧ TabAt H C a k cs ∧ Rep H v d ∧ isCell cs d ∧ z = .bl true
def rChkTb (C : Addr) : List V → Hp → V → Prop := fun vs H z => ∃ (a : Addr) (k : Kd) (cs : List Col), vs = [.ref a] ∧ TabAt H C a k cs ∧ z = .non
def distC : List PyData → Bool
  | [] => true
  | d :: r => !hasC r d && distC r
def LostAt (H : Hp) (lo : Addr) (cs : List Col) (lost : List PyData) : Prop := ∃ lx, H lo = some (.tup lx) ∧ Reps H lx lost ∧ lost.length ≤ 40 ∧ (∀ d ∈ lost, isCell cs d)
theorem LostAt.ex {H H' : Hp} {lo : Addr} {cs : List Col} {lost : List PyData} (h : LostAt H lo cs lost) (e : Ex H H') : LostAt H' lo cs lost := by
  obtain ⟨lx, h1, h2, h3, h4⟩ := h
  exact ⟨lx, e _ _ h1, h2.ex e, h3, h4⟩
def rChkL (C ed : Addr) : List V → Hp → V → Prop := fun vs H z => ∃ (a lo : Addr) (k : Kd) (cs : List Col) (lost : List PyData), vs = [.ref a, .ref lo, .ref ed] ∧ TabAt H C a k cs ∧ LostAt H lo cs lost ∧ (lost.map keyOf).Nodup ∧ z = .non
def comesB (k : Kd) (cs : List Col) (lost : List PyData) (cell : PyData) : Bool := (toldN (wordK k) (netP cs (lostB lost cell)) (netS cs (lostB lost cell)) (endsG cs lost cell) (endsG cs lost cell)).isSome
def rComes (C : Addr) : List V → Hp → V → Prop := fun vs H z => ∃ (a lo : Addr) (v : V) (k : Kd) (cs : List Col) (lost : List PyData) (cell : PyData), vs = [.ref a, .ref lo, v] ∧ TabAt H C a k cs ∧ k.ok ∧ Good cs ∧ LostAt H lo cs lost ∧ Rep H v cell ∧ isCell cs cell ∧ z = .bl (comesB k cs lost cell)
def firstS : PyData → Str
  | .tuple (.str a :: _) => a
  | _ => Str.empty
def allB (k : Kd) (cs : List Col) (lost : List PyData) : Bool := (lost.filter fun d => decide (firstS d = "datum")).all (comesB k cs lost)
def rAllB (C : Addr) : List V → Hp → V → Prop := fun vs H z => ∃ (a lo : Addr) (k : Kd) (cs : List Col) (lost : List PyData), vs = [.ref a, .ref lo] ∧ TabAt H C a k cs ∧ k.ok ∧ Good cs ∧ LostAt H lo cs lost ∧ z = .bl (allB k cs lost)
def rCB (C : Addr) : List V → Hp → V → Prop := fun vs H z => ∃ (a lo : Addr) (k : Kd) (cs : List Col) (lost : List PyData), vs = [.ref a, .ref lo] ∧ TabAt H C a k cs ∧ k.ok ∧ Good cs ∧ LostAt H lo cs lost ∧ (lost.map keyOf).Nodup ∧ z = .bl (allB k cs lost)
def backL (k : Kd) (cs : List Col) (lost : List PyData) : List PyData := (cellsL cs).filter fun d => (lost.any fun z => PyData.eqv z d) && comesB k cs lost d
def rBack (C : Addr) : List V → Hp → PyData → Prop := fun vs H d => ∃ (a lo : Addr) (k : Kd) (cs : List Col) (lost : List PyData), vs = [.ref a, .ref lo] ∧ TabAt H C a k cs ∧ k.ok ∧ Good cs ∧ LostAt H lo cs lost ∧ (lost.map keyOf).Nodup ∧ d = .tuple (backL k cs lost)
theorem netP_nd (cs : List Col) (lost : List PyData) : ((netP cs lost).map (·.1)).Nodup := by
  unfold netP
  rw [List.map_map]
  have e : ((·.1) ∘ fun n : Nat => (n, (dataOf cs).getD n p0)) = id := rfl
  rw [e, List.map_id]
  exact List.Nodup.sublist List.filter_sublist List.nodup_range
theorem netP_len {cs : List Col} (G : Good cs) (lost : List PyData) : (netP cs lost).length ≤ 24 := by
  unfold netP
  rw [List.length_map]
  have := List.length_filter_le (fun n : Nat => hasC lost (datC (n : Int))) (List.range (dataOf cs).length)
  rw [List.length_range] at this
  have := G.dlen
  omega
theorem netS_len {cs : List Col} (G : Good cs) (lost : List PyData) : (netS cs lost).length ≤ 10 := by
  have := List.length_filter_le (fun s => !hasC lost (sumC s)) (sumsOf cs)
  have := G.slen
  unfold netS
  omega
abbrev FnPd (K : PySem.W.Frag) (x : Str) (st : Stmt) (ed : Addr) (f : Addr) (fd : FuncData) : Prop := FunD K x x (defArgs st) (defBody st) (defScope st) [.ref ed] [] f fd
section
variable {P : Program} {w : World} {K : PySem.W.Frag} {mg : Str → Option Value} {base : Heap} {f : Addr} {fd : FuncData}
variable {C CN CG ed : Addr}
abbrev sc_is_cell_N : List Str := ["table", "cell", "what", "which"]
theorem sc_is_cell : FnScope sc_is_cell_N ["table", "cell"] (defScope s_is_cell) := ⟨rfl, rfl, rfl, by decide +kernel, rfl, by decide +kernel, by decide +kernel⟩
theorem ok_iscell (F : FnP K "is_cell" s_is_cell f fd) (T : Tops mg) (C_is_integer : Cal P w K mg base 1 "is_integer" (pSp rInt) [])(P_sums : Prp P w K mg base 1 C "sums" (getSp C "_sums")) (P_data : Prp P w K mg base 1 C "data" (getSp C "_data"))  : FnOk P w K mg base CX0 3 f fd ["table", "cell"] (pSp (rIsCell C)) := by
  refine F.ok sc_is_cell (fun vs H Q E h => ?_) (fun cdv A outer s H vs Q E hr h => ?_)
  · obtain ⟨z, ⟨a, kd, cs, v, d, rfl, _⟩, _⟩ := h; rfl
  · obtain ⟨z, ⟨a, kd, cs, v, d, rfl, tab, rd, ic, rfl⟩, k⟩ := h
    refine ⟨_, PSs.nox (pss_cons (ps_if (PW.pt (pw_or (pt_not (pt_val (pe_callB call_isi (by rfl) T.n_isinstance (by decide +kernel) (pa_cons (pv 1) (pa_cons (pe_bltn (v := .ty "tuple") (by rfl) T.n_tuple (by decide +kernel) rfl) pa_nil))))) (pw_or1 (pt_cmpR op_ne (pe_callB call_len_seq (by rfl) T.n_len PySem.boot_len (pa_cons (pv 1) pa_nil)) pe_int (nomark _)))))
  (pss_one (ps_ret pe_bl))
  pss_nil)
  (pss_cons (ps_asg (pv 1) (pg_tup rfl (pgs_cons (pg_name (i := 2) sc_is_cell.nd rfl (.inl rfl)) (pgs_cons (pg_name (i := 3) sc_is_cell.nd rfl (.inl rfl)) pgs_nil))))
  (pss_cons (ps_if (pt_not (pt_val (pe_callB call_isi (by rfl) T.n_isinstance (by decide +kernel) (pa_cons (pv 2) (pa_cons (pe_bltn (v := .ty "str") (by rfl) T.n_str (by decide +kernel) rfl) pa_nil)))))
  (pss_one (ps_ret pe_bl))
  pss_nil)
  (pss_cons (ps_if (pt_cmpR op_eq (pv 2) pe_str (nomark _))
  (pss_one (ps_ret (pe_and (pe_callB call_isi (by rfl) T.n_isinstance (by decide +kernel) (pa_cons (pv 3) (pa_cons (pe_bltn (v := .ty "str") (by rfl) T.n_str (by decide +kernel) rfl) pa_nil))) (pe_one (pe_cmpR (op_in_seq : OpR _ _ (rIn K false)) (pv 3) (pe_prp P_sums hr (pv 0)) rfl)))))
  pss_nil)
  (pss_one (ps_ret (pe_and (pe_cmpR op_eq (pv 2) pe_str (nomark _)) (pe_and (pe_c C_is_integer hr (by decide) rfl (pa_cons (pv 3) pa_nil)) (pe_one (pe_chain op_le op_lt pe_int (pv 3) (pe_callB call_len_seq (by rfl) T.n_len PySem.boot_len (pa_cons (pe_prp P_data hr (pv 0)) pa_nil)))))))))))), ?_⟩
    obtain ⟨tx, v1, v2, v3, v4, v6, v9, p5, q7, kv0, h0, h1, h2, h3, h4, h5, h6, h7, h9⟩ := tab.ex
    obtain ⟨su, sv, rfl, hsu, rsu⟩ := Rep.tup_inv h3
    obtain rfl := rsu.strs
    obtain ⟨da, dd, rfl, hda, rda⟩ := Rep.tup_inv h4
    rcases ic with ⟨s, rfl, hs⟩ | ⟨m, rfl, m0, m1⟩
    · obtain ⟨b, x, y, rfl, hb, rx, ry⟩ := rd.two
      obtain rfl := rx.str_inv
      obtain rfl := ry.str_inv
      refine q_when (b := false) (et_is (et_or (et_not (et_B (ev_isi (K := K) (t := "tuple") (u := "tuple") (b := true) (ev_var rfl) ev_c (ty_tup hb) (by decide +kernel)))) fun _ => et_test (ev_op (ev_lenF (K := K) (ev_var rfl) (st_of hb)) ev_c (rv_ne rfl))) rfl) (fun z => nomatch z) fun _ H1 e1 => ?_
      refine q_unp2 (K := K) (ev_var rfl) (e1 _ _ hb) fun H2 e2 => ?_
      refine q_when (b := false) (et_is (et_not (et_B (ev_isi (K := K) (t := "str") (u := "str") (b := true) (ev_var rfl) ev_c (fun _ _ => .str _) (by decide +kernel)))) rfl) (fun z => nomatch z) fun _ H3 e3 => ?_
      have e13 := (e1.trans e2).trans e3
      refine q_if (b := true) (et_is (et_test (ev_op (ev_var rfl) ev_c (rv_eq rfl))) rfl) (fun _ H4 e4 => ?_) (fun z => nomatch z)
      have e14 := e13.trans e4
      refine s_ret (ev_is (ev_andV (a := true) (b := true) (ev_isi (K := K) (t := "str") (u := "str") (b := true) (ev_var rfl) ev_c (fun _ _ => .str _) (by decide +kernel)) fun _ => ev_is (ev_op (ev_var rfl) (ev_prop (ev_var rfl) (e14 _ _ h0) rfl) (rv_isT (K := K) (st_of (e14 _ _ hsu)) rfl (by rw [List.all_map]; exact List.all_eq_true.mpr fun _ _ => rfl))) (by rw [inV_str hs])) rfl) fun H5 e5 => k H5 (e14.trans e5)
    · obtain ⟨b, x, y, rfl, hb, rx, ry⟩ := rd.two
      obtain rfl := rx.str_inv
      obtain rfl := ry.int_inv
      refine q_when (b := false) (et_is (et_or (et_not (et_B (ev_isi (K := K) (t := "tuple") (u := "tuple") (b := true) (ev_var rfl) ev_c (ty_tup hb) (by decide +kernel)))) fun _ => et_test (ev_op (ev_lenF (K := K) (ev_var rfl) (st_of hb)) ev_c (rv_ne rfl))) rfl) (fun z => nomatch z) fun _ H1 e1 => ?_
      refine q_unp2 (K := K) (ev_var rfl) (e1 _ _ hb) fun H2 e2 => ?_
      refine q_when (b := false) (et_is (et_not (et_B (ev_isi (K := K) (t := "str") (u := "str") (b := true) (ev_var rfl) ev_c (fun _ _ => .str _) (by decide +kernel)))) rfl) (fun z => nomatch z) fun _ H3 e3 => ?_
      refine q_when (b := false) (et_is (et_test (ev_op (ev_var rfl) ev_c (rv_eq rfl))) (by decide +kernel)) (fun z => nomatch z) fun _ H4 e4 => ?_
      have e14 := ((e1.trans e2).trans e3).trans e4
      refine s_ret (ev_is (ev_andV (a := true) (b := true) (ev_is (ev_op (ev_var rfl) ev_c (rv_eq rfl)) rfl) fun _ => ev_andV (a := true) (b := true) (ev_pc (ea_cons (ev_var rfl) ea_nil) fun _ _ => ⟨m, rfl, rfl⟩) fun _ => ev_is (ev_chain (a := true) (b := true) (y := .int m) (z := .int dd.length) ev_c (ev_var rfl) (ev_lenF (K := K) (ev_prop (ev_var rfl) (e14 _ _ h0) rfl) (st_of (e14 _ _ hda))) (?_) fun _ => ?_) rfl) rfl) fun H5 e5 => k H5 (e14.trans e5)
      · intro H5 e5 Q q
        refine ⟨_, _, rfl, rfl, ?_⟩
        dsimp only
        rw [decide_eq_true m0]
        exact q H5 (Ex.refl H5)
      · have ld : dd.length = (dataOf cs).length := by rw [rda.len, List.length_map]
        intro H5 e5 Q q
        refine ⟨_, _, rfl, rfl, ?_⟩
        dsimp only
        rw [decide_eq_true (show m < (dd.length : Int) by omega)]
        exact q H5 (Ex.refl H5)

abbrev sc_check_table_N : List Str := ["table"]
theorem sc_check_table : FnScope sc_check_table_N ["table"] (defScope s_check_table) := ⟨rfl, rfl, rfl, by decide +kernel, rfl, by decide +kernel, by decide +kernel⟩
theorem ok_chktb (F : FnP K "check_table" s_check_table f fd) (T : Tops mg) (M_isT : IsT K mg "Table" C)  : FnOk P w K mg base CX0 1 f fd ["table"] (pSp (rChkTb C)) := by
  refine F.ok sc_check_table (fun vs H Q E h => ?_) (fun cdv A outer s H vs Q E hr h => ?_)
  · obtain ⟨z, ⟨a, kd, cs, rfl, _⟩, _⟩ := h; rfl
  · obtain ⟨z, ⟨a, kd, cs, rfl, tab, rfl⟩, k⟩ := h
    refine ⟨_, PSs.nox (pss_one (ps_if (pt_not (pt_val (pe_callB (C8.call_isC M_isT.ic) (by rfl) T.n_isinstance (by decide +kernel) (pa_cons (pv 0) (pa_cons (C8.pe_gc (v := .ref C) (by rfl) ⟨_, M_isT.gl, rfl⟩) pa_nil)))))
  (pss_one ps_dead)
  pss_nil)), ?_⟩
    obtain ⟨dx, v1, v2, v3, v4, v6, v9, p5, q7, kvs, h0, _⟩ := tab.ex
    exact s_when (b := false) (et_is (et_not (et_B (ev_cb (z := .bl true) (ea_cons (ev_var rfl) (ea_cons ev_c ea_nil)) fun H1 e1 Q q => ⟨a, dx, _, rfl, e1 _ _ h0, q H1 (Ex.refl H1)⟩))) rfl) (fun z => (nomatch z)) fun _ H1 e1 => k H1 e1
abbrev sc_check_lost_N : List Str := ["table", "lost", "gone", "cell", "before", "index"]
theorem sc_check_lost : FnScope sc_check_lost_N ["table", "lost", "gone"] (defScope s_check_lost) := ⟨rfl, rfl, rfl, by decide +kernel, rfl, by decide +kernel, by decide +kernel⟩
theorem ok_chklost (F : FnPd K "check_lost" s_check_lost ed f fd) (T : Tops mg) (C_is_cell : Cal P w K mg base 3 "is_cell" (pSp (rIsCell C)) [])(hed : ∀ H : Hp, SqT K H ed [])  : FnOk P w K mg base CX0 4 f fd ["table", "lost", "gone"] (pSp (rChkL C ed)) := by
  refine F.ok sc_check_lost (fun vs H Q E h => ?_) (fun cdv A outer s H vs Q E hr h => ?_)
  · obtain ⟨z, ⟨a, lo, kd, cs, lost, rfl, _⟩, _⟩ := h; rfl
  · obtain ⟨z, ⟨a, lo, kd, cs, lost, rfl, tab, ⟨lx, hlo, rl, ll, ics⟩, dist, rfl⟩, k⟩ := h
    have hu1 := Nat.lt_of_le_of_lt (Nat.add_le_add_left (by decide : 1 ≤ 64) _) hr.units
    refine ⟨_, PSs.nox (pss_cons (ps_if (pt_not (pt_val (pe_callB call_isi (by rfl) T.n_isinstance (by decide +kernel) (pa_cons (pv 1) (pa_cons (pe_bltn (v := .ty "tuple") (by rfl) T.n_tuple (by decide +kernel) rfl) pa_nil)))))
  (pss_one ps_dead)
  pss_nil)
  (pss_cons (BF.ps_setDcT (i := 4) (own := [("cell", 3)]) (g := gName 3) rfl hu1 sc_check_lost.nd rfl rfl (BF.sw_trueD rfl rfl rfl (by decide +kernel)) (pi_tup (pv 2)) (blkOk_by (own := [("cell", 3)]) (N := sc_check_lost_N) (sc := defScope s_check_lost) (by decide +kernel)) (fun _ _ _ _ _ => (pg_name (i := 3) sc_check_lost.nd rfl (.inl rfl))) (fun _ _ _ _ _ => (pv 3)) (fun _ _ _ _ _ => pe_bl))
  (pss_one (ps_for PassesOwn.never rfl (ET.pi_enumT (by rfl) T.n_enumerate (pa_cons (pv 1) pa_nil)) (pg_tup rfl (pgs_cons (pg_name (i := 5) sc_check_lost.nd rfl (.inl rfl)) (pgs_cons (pg_name (i := 3) sc_check_lost.nd rfl (.inl rfl)) pgs_nil)))
  (pss_cons (ps_if (PW.pt (pw_or (pt_not (pt_val (pe_c C_is_cell hr (by decide) rfl (pa_cons (pv 0) (pa_cons (pv 3) pa_nil))))) (pw_or1 (pt_cmp (pc_din hu1 (pv 3) (pv 4))))))
  (pss_one ps_dead)
  pss_nil)
  (pss_one (ps_dput hu1 (pv 4) (pv 3) pe_bl rfl))))))), ?_⟩
    have lll := rl.len
    refine q_when (b := false) (et_is (et_not (et_B (ev_isi (K := K) (t := "tuple") (u := "tuple") (b := true) (ev_var rfl) ev_c (ty_tup hlo) (by decide +kernel)))) rfl) (fun z => nomatch z) fun _ H1 e1 => ?_
    refine q_asgO (ed_dcT (tk := tVar 3) (tv := tC (.bl true)) (walk_tup (K := K) (a := ed) (xs := [])) (Nat.zero_le _) (fun _ => []) (fun _ => .none) (fun H2 e R q => ⟨.ref ed, rfl, ed, rfl, ⟨_, hed H2⟩, q H2 (Ex.refl H2) (hed H2)⟩) (fun H1 H2 e q => ex_t e q) (fun i hi => absurd hi (Nat.not_lt_zero i)) (fun i _ _ _ _ hi => absurd hi (Nat.not_lt_zero i)) (fun i _ hi => absurd hi (Nat.not_lt_zero i)) (fun i _ hi => absurd hi (Nat.not_lt_zero i)) H1 (Ex.refl H1) _ fun b H2 hb0 e2 hb => ?_)
    have hb00 : H b = none := fresh_back e1 hb0
    refine s_forE (K := K) (a := lo) (xs := lx) (ea_cons (ev_var rfl) ea_nil) ((e1.trans e2) _ _ hlo) (fun i σ' H' => ∃ y3 y5 : Option V, σ' = [some (.ref a), some (.ref lo), some (.ref ed), y3, some (.ref b), y5] ∧ Ex H H' ∧ H' b = some (.dT (goneD (lost.take i)))) (fun H3 e3 => ⟨none, none, rfl, (e1.trans e2).trans e3, e3 _ _ hb⟩) (fun i σ' H' _ p => ?_) ?_ ?_
    · obtain ⟨_, _, _, e, _⟩ := p
      exact e _ _ hlo
    · rintro i x σ' H3 H4 hx ⟨y3, y5, rfl, e3, h3⟩ e34
      obtain ⟨d, hd, rd⟩ := rl.at hx
      have id := ics d (List.mem_of_getElem? hd)
      have hi := (List.getElem?_eq_some_iff.mp hd).1
      have e4 := e3.trans e34
      obtain ⟨y, rfl, hy⟩ := cell_key rd (cell_kinds id)
      have no : hasC (lost.take i) d = false := by
        refine List.any_eq_false.mpr fun z hz ez => ?_
        have ez := of_decide_eq_true ez
        obtain ⟨j, hj, ej⟩ := List.mem_iff_getElem.mp hz
        rw [List.length_take] at hj
        rw [List.getElem_take] at ej
        have nd := List.nodup_iff_pairwise_ne.mp dist
        have q := List.pairwise_iff_getElem.mp nd j i (by rw [List.length_map]; omega) (by rw [List.length_map]; omega) (by omega)
        rw [List.getElem_map, List.getElem_map, ej] at q
        rw [(List.getElem?_eq_some_iff.mp hd).2] at q
        exact q ez
      show tSeq _ _ _ _ _
      refine q_when (b := false) (et_is (et_or (et_not (et_test (ev_pc (z := .bl true) (ea_cons (ev_var rfl) (ea_cons (ev_var rfl) ea_nil)) fun H5 e5 => ⟨a, kd, cs, _, d, rfl, tab.keep (e4.trans e5), rd.ex (e4.trans e5), id, rfl⟩))) fun _ => et_din (er_var (d := d) rfl (rd.ex e4)) (cell_kinds id) (ev_var rfl) (e34 _ _ h3)) (by rw [gone_has, no]; rfl)) (fun z => nomatch z) fun _ H5 e5 => ?_
      have e35 := e34.trans e5
      refine ⟨_, rfl, _, rfl, b, _, rfl, DPut.t (k := keyOf d) (e35 _ _ h3) ((e4.trans e5) _ _ hy) ?_, ?_⟩
      · have := gone_len (lost.take i) []
        rw [List.length_take] at this
        refine sz_lt ?_
        unfold goneD
        simp only [List.length_nil] at this
        omega
      · refine ⟨_, _, rfl, Ex.mut (e4.trans e5) hb00, ?_⟩
        rw [upd_same, List.take_succ, hd]
        unfold goneD
        rw [List.foldl_append]
        rfl
    · rintro σ' H3 ⟨y3, y5, rfl, e3, h3⟩
      exact k H3 e3
end
end K30
end
section
set_option Elab.async false
set_option linter.all false
set_option maxRecDepth 100000
set_option maxHeartbeats 4000000
namespace K30
open PySem PySem.Spec PyProof.Rows L2 Evl TX
open C8 (Cal pe_c pe_gc)
theorem shaped_cellsU {ds : List PyData} (h : ∀ d ∈ ds, CellOk d) : SeqAt.shaped (.tuple ds) = true := by
  unfold SeqAt.shaped
  rw [PyData.canLay0, (lay_cells h).1, PyData.depth]
  have := (lay_cells h).2
  exact Bool.and_eq_true_iff.mpr ⟨rfl, decide_eq_true (by omega)⟩
theorem es_lcF {K : PySem.W.Frag} {te tl : TE} {t : TT} {σ : L2.St} {H : Hp} {g : TG} {vs : List Nat} {a : Addr} {xs : List V} (h : Ev tl σ H (.ref a)) (hx : SqT K H a xs) (hn : xs.length ≤ 40000) (st : Nat → L2.St) (f : Nat → Bool) (D : Nat → PyData) (hw : ∀ i, i < xs.length → wipe (st i) vs = wipe σ vs)
    (hg : ∀ i x H1 (R : L2.St → Hp → Prop), xs[i]? = some x → Ex H H1 → R (st i) H1 → g x (wipe σ vs) H1 R)
    (ht : ∀ i x H1, xs[i]? = some x → Ex H H1 → EvT t (st i) H1 (f i)) (he : ∀ i x H1, xs[i]? = some x → Ex H H1 → f i = true → EvR te (st i) H1 (D i)) : EvS (tLc (iTup K tl) g t te vs) σ H (((List.range xs.length).filter f).map D) :=
  es_lc (walk_tup (K := K) (a := a) (xs := xs)) hn st f D (fun H1 e R k => h H1 e _ fun H2 e2 => have q := ex_t (e.trans e2) hx; ⟨a, rfl, ⟨xs, q⟩, k H2 e2 q⟩) (fun H1 H2 e q => ex_t e q) hw
    (fun i x H1 H2 R hi e _ hy k => by
      obtain ⟨rfl, hy⟩ := hy
      exact hg i x _ R hy e (k _ (Ex.refl _)))
    (fun i H1 hi e => ht i _ H1 (List.getElem?_eq_getElem hi) e) (fun i H1 hi e hf => he i _ H1 (List.getElem?_eq_getElem hi) e hf)
theorem ev_pcD {R : List V → Hp → V → Prop} {σ : L2.St} {H : Hp} {E : XK} {ta : TA} {vs dvs : List V} {z : V} (h : EvA ta σ H vs) (hr : ∀ H1, Ex H H1 → R (vs ++ dvs) H1 z) : Ev (tCall (pSp R) dvs E ta) σ H z := fun H1 e Q q =>
  h H1 e _ fun H2 e2 => ⟨z, hr H2 (e.trans e2), fun H3 e3 => q H3 (e2.trans e3)⟩
section
variable {P : Program} {w : World} {K : PySem.W.Frag} {mg : Str → Option Value} {base : Heap} {f : Addr} {fd : FuncData}
variable {C CN CP CG ed : Addr}
abbrev sc_does_come_back_N : List Str := ["table", "lost", "cell"]
theorem sc_does_come_back : FnScope sc_does_come_back_N ["table", "lost", "cell"] (defScope s_does_come_back) := ⟨rfl, rfl, rfl, by decide +kernel, rfl, by decide +kernel, by decide +kernel⟩
theorem ok_dcb (F : FnP K "does_come_back" s_does_come_back f fd) (T : Tops mg) (C_word_of : Cal P w K mg base 1 "word_of" (pSp rWord) []) (C_told_by : Cal P w K mg base 7 "told_by" (tbSp CN CG) [])(M_Gap : C8.Mak P w K mg base 5 "Gap" CG (gSp C CN CG) []) (P_kind : Prp P w K mg base 1 C "kind" (getSp C "_kind"))  : FnOk P w K mg base CX0 8 f fd ["table", "lost", "cell"] (pSp (rComes C)) := by
  refine F.ok sc_does_come_back (fun vs H Q E h => ?_) (fun cdv A outer s H vs Q E hr h => ?_)
  · obtain ⟨z, ⟨a, lo, v, kd, cs, lost, cell, rfl, _⟩, _⟩ := h; rfl
  · obtain ⟨z, ⟨a, lo, v, kd, cs, lost, cell, rfl, tab, hk, G, ⟨lx, hlo, rl, ll, ics⟩, rv, ic, rfl⟩, k⟩ := h
    refine ⟨_, PSs.nox (pss_one (ps_ret (pe_cmpR op_notN (pe_c C_told_by hr (by decide) rfl (pa_cons (pe_c C_word_of hr (by decide) rfl (pa_cons (pe_prp P_kind hr (pv 0)) pa_nil)) (pa_cons (C8.pe_mk M_Gap hr (by decide) rfl (pa_cons (pv 0) (pa_cons (pv 1) (pa_cons (pv 2) pa_nil)))) pa_nil))) pe_non rfl))), ?_⟩
    obtain ⟨tx, v1, v2, v3, v4, v6, v9, p5, q7, kv0, h0, h1, h2, h3, h4, h5, h6, h7, h9⟩ := tab.ex
    refine ret_ (op_ (cons_ (ev_ (ev_pc (z := .str (wordK kd)) (ea_cons (ev_prop (ev_var rfl) h0 rfl) ea_nil) fun H1 e1 => ⟨kd, rfl, hk, rfl⟩) fun H1 e1 => cons_ (make_ (cons_ (var_ rfl (cons_ (var_ rfl (cons_ (var_ rfl (nil_ fun g dg hg hdg ne => ?_))))))))))) 
    have e2 : Ex H (upd (upd H1 dg (.own g)) g (.ins CG dg [])) := (e1.trans (Ex.new hdg)).trans (Ex.new (by rw [upd_ne ne.symm]; exact hg))
    refine ⟨g, dg, a, lo, v, kd, cs, lx, lost, cell, rfl, upd_same, tab.keep e2, G, e2 _ _ hlo, rl.ex e2, ll, ics, rv.ex e2, ic, fun H3 b3 gp => ⟨rfl, nil_ ?_⟩⟩
    have e3 : Ex H H3 := fun b o hb => b3 b o (fun z => by have := e1 _ _ hb; rw [z, hg] at this; exact nomatch this) (e2 _ _ hb)
    refine ⟨wordK kd, g, netP cs (lostB lost cell), netS cs (lostB lost cell), endsG cs lost cell, rfl, gp, netP_nd _ _, G.snd.filter _, netP_len G _, netS_len G _, fun e he => ?_, ?_, fun v H4 e4 told => ⟨rfl, ?_⟩⟩
    · exact List.contains_iff_mem.mp (List.mem_filter.mp he).2
    · have := ends_len cs cell
      have := List.length_filter_le (fun s => (netS cs (lostB lost cell)).contains s) (endsD cs cell)
      unfold endsG
      omega
    · have q := k H4 (e3.trans e4)
      unfold comesB at q
      cases h : toldN (wordK kd) (netP cs (lostB lost cell)) (netS cs (lostB lost cell)) (endsG cs lost cell) (endsG cs lost cell) with
      | none =>
        rw [h] at told q
        rw [show v = .non from told]
        exact q
      | some r =>
        rw [h] at told q
        obtain ⟨b, c, rfl, _⟩ := told
        exact q
abbrev sc_back_N : List Str := ["table", "lost", "cell"]
theorem sc_back : FnScope sc_back_N ["table", "lost"] (defScope s_back) := ⟨rfl, rfl, rfl, by decide +kernel, rfl, by decide +kernel, by decide +kernel⟩
theorem ok_back (F : FnP K "back" s_back f fd) (T : Tops mg) (C_check_table : Cal P w K mg base 1 "check_table" (pSp (rChkTb C)) []) (C_does_come_back : Cal P w K mg base 8 "does_come_back" (pSp (rComes C)) [])(C_check_lost : Cal P w K mg base 4 "check_lost" (pSp (rChkL C ed)) [.ref ed]) (P_cells : Prp P w K mg base 1 C "cells" (getSp C "_cells"))  : FnOk P w K mg base CX0 10 f fd ["table", "lost"] (dSp (rBack C)) := by
  refine F.ok sc_back (fun vs H Q E h => ?_) (fun cdv A outer s H vs Q E hr h => ?_)
  · obtain ⟨d, ⟨a, lo, kd, cs, lost, rfl, _⟩, _⟩ := h; rfl
  · obtain ⟨d, ⟨a, lo, kd, cs, lost, rfl, tab, hk, G, la, dist, rfl⟩, k⟩ := h
    have hu65 := Nat.lt_of_le_of_lt (Nat.add_le_add (Nat.le_add_right _ (16 * 9)) (by decide : 65 ≤ 200)) hr.un
    refine ⟨_, PSs.nox (pss_cons (ps_expr (pe_c C_check_table hr (by decide) rfl (pa_cons (pv 0) pa_nil)))
  (pss_cons (ps_expr (pe_c C_check_lost hr (by decide) rfl (pa_cons (pv 0) (pa_cons (pv 1) pa_nil))))
  (pss_one (ps_ret (pe_callTy call_tuple_of (by rfl) T.n_tuple (by decide +kernel) (pa_cons (pe_lc (own := [("cell", 2)]) (g := gName 2) rfl sc_back.nd (pi_tup (pe_prp P_cells hr (pv 0))) (blkOk_by (own := [("cell", 2)]) (N := sc_back_N) (sc := defScope s_back) (by decide +kernel)) (fun _ _ _ _ _ => (pg_name (i := 2) sc_back.nd rfl (.inl rfl))) (fun _ _ _ _ _ => (pts_one (PW.pt (pw_and (pt_cmpR (BG.op_inU hu65 : OpR _ _ (BG.rInU K)) (pv 2) (pv 1) rfl) (pw_and1 (pt_val (pe_c C_does_come_back hr (by decide) rfl (pa_cons (pv 0) (pa_cons (pv 1) (pa_cons (pv 2) pa_nil)))))))))) (fun _ _ _ _ _ => (pv 2))) pa_nil)))))), ?_⟩
    obtain ⟨tx, v1, v2, v3, v4, v6, v9, p5, q7, kv0, h0, h1, h2, h3, h4, h5, h6, h7, h9⟩ := tab.ex
    obtain ⟨ca, ob, cx, rfl, hca, _, _, rca⟩ := h6
    obtain ⟨lx, hlo, rl, ll, ics⟩ := id la
    refine q_drop (v := .non) (ev_pc (ea_cons (ev_var rfl) ea_nil) fun H1 e1 => ⟨a, kd, cs, rfl, tab.keep e1, rfl⟩) fun H1 e1 => ?_
    refine q_drop (v := .non) (ev_pcD (ea_cons (ev_var rfl) (ea_cons (ev_var rfl) ea_nil)) fun H2 e2 => ⟨a, lo, kd, cs, lost, rfl, tab.keep (e1.trans e2), la.ex (e1.trans e2), dist, rfl⟩) fun H2 e2 => ?_
    have e12 := e1.trans e2
    have lcl := cellsL_len G
    have shL : SeqAt.shaped (.tuple lost) = true := shaped_cellsU fun d hd => cell_ok G (ics d hd)
    have q := es_lcF (K := K) (tl := tProp C (getSp C "_cells") [] C8.E0 (tVar 0)) (g := gName 2) (t := tAnd (tTest (tOp (BG.rInU K) (tVar 2) (tVar 1))) (tTest (tCall (pSp (rComes C)) [] C8.E0 (tCons (tVar 0) (tCons (tVar 1) (tCons (tVar 2) tNil)))))) (te := tVar 2) (vs := [2]) (σ := [some (.ref a), some (.ref lo), none]) (H := H2) (ev_prop (ev_var rfl) (e12 _ _ h0) rfl) (.inl (.inr ⟨ob, e12 _ _ hca⟩)) (by rw [rca.len]; omega) (fun i => [some (.ref a), some (.ref lo), cx[i]?]) (fun i => (lost.any fun z => PyData.eqv z ((cellsL cs).getD i .none)) && comesB kd cs lost ((cellsL cs).getD i .none)) (fun i => (cellsL cs).getD i .none) (fun _ _ => rfl)
      (fun i x H3 R hx e r => by
        rw [hx] at r
        exact r)
      (fun i x H3 hx e => by
        have e13 := e12.trans e
        obtain ⟨d, hd, rd⟩ := (rca.ex e13).at hx
        have ed : (cellsL cs).getD i .none = d := by rw [List.getD_eq_getElem?_getD, hd]; rfl
        rw [ed]
        have id := cell_is (List.mem_of_getElem? hd)
        refine et_and (et_test (BG.ev_inU (K := K) (er_var (d := d) (by show some (cx[i]?) = _; rw [hx]) rd) (er_var rfl (.tup (e13 _ _ hlo) (rl.ex e13))) (shaped_cell (cell_ok G id)) shL)) fun _ => et_test (ev_pc (z := .bl (comesB kd cs lost d)) (ea_cons (ev_var rfl) (ea_cons (ev_var rfl) (ea_cons (ev_var (by show some (cx[i]?) = _; rw [hx])) ea_nil))) fun H4 e4 => ⟨a, lo, x, kd, cs, lost, d, rfl, tab.keep (e13.trans e4), hk, G, la.ex (e13.trans e4), rd.ex e4, id, rfl⟩))
      (fun i x H3 hx e _ => by
        have e13 := e12.trans e
        obtain ⟨d, hd, rd⟩ := (rca.ex e13).at hx
        have ed : (cellsL cs).getD i .none = d := by rw [List.getD_eq_getElem?_getD, hd]; rfl
        rw [ed]
        exact er_var (by show some (cx[i]?) = _; rw [hx]) rd)
    rw [rca.len, range_filter (fun d => (lost.any fun z => PyData.eqv z d) && comesB kd cs lost d) (cellsL cs) .none] at q
    refine s_retR (er_tuple q) fun v H3 e3 rv => k v H3 (e12.trans e3) rv
end
end K30
end
section
set_option Elab.async false
set_option linter.all false
set_option maxRecDepth 100000
set_option maxHeartbeats 4000000
namespace K30
open PySem PySem.Spec PyProof.Rows L2 Evl TX
open C8 (Cal pe_c pe_gc)
theorem any_has {cs : List Col} {d : PyData} (g : isCell cs d) : ∀ {lost : List PyData}, (∀ x ∈ lost, isCell cs x) → (lost.any fun z => PyData.eqv z d) = hasC lost d
  | [], _ => rfl
  | x :: r, h => by
    unfold hasC
    rw [List.any_cons, List.any_cons, eqv_key (h x List.mem_cons_self) g, any_has g fun y hy => h y (List.mem_cons_of_mem _ hy)]
    rfl
theorem back_has {k : Kd} {cs : List Col} {lost : List PyData} (h : ∀ x ∈ lost, isCell cs x) : backL k cs lost = (cellsL cs).filter fun d => hasC lost d && comesB k cs lost d := by
  unfold backL
  refine List.filter_congr fun d hd => ?_
  rw [any_has (cell_is hd) h]
theorem told_lay : ∀ {ls : List (List PyData)}, (∀ l ∈ ls, ∀ d ∈ l, CellOk d) → PyData.canLayAll0 (ls.map PyData.tuple) = true ∧ PyData.depthAll (ls.map PyData.tuple) ≤ 2
  | [], _ => ⟨by rw [List.map_nil, PyData.canLayAll0], by rw [List.map_nil, PyData.depthAll]; decide⟩
  | l :: r, h => by
    have q := told_lay (ls := r) fun x hx => h x (List.mem_cons_of_mem _ hx)
    have c := lay_cells (h l List.mem_cons_self)
    refine ⟨?_, ?_⟩
    · rw [List.map_cons, PyData.canLayAll0, q.1, PyData.canLay0, c.1]; rfl
    · rw [List.map_cons, PyData.depthAll, PyData.depth]
      exact Nat.max_le.mpr ⟨by have := c.2; omega, q.2⟩
theorem told_sh {ls : List (List PyData)} (h : ∀ l ∈ ls, ∀ d ∈ l, CellOk d) : SeqAt.shaped (.list (ls.map PyData.tuple)) = true := by
  unfold SeqAt.shaped
  rw [PyData.canLay0, (told_lay h).1, PyData.depth]
  have := (told_lay h).2
  exact Bool.and_eq_true_iff.mpr ⟨rfl, decide_eq_true (by omega)⟩
theorem eqv_selfs {cs : List Col} : ∀ {l : List PyData}, (∀ d ∈ l, isCell cs d) → PyData.eqvAll l l = true
  | [], _ => by rw [PyData.eqvAll]
  | d :: r, h => by rw [PyData.eqvAll, eqv_self_cell (h d List.mem_cons_self), eqv_selfs fun x hx => h x (List.mem_cons_of_mem _ hx)]; rfl
theorem eqv_told {cs : List Col} : ∀ {ls : List (List PyData)}, (∀ l ∈ ls, ∀ d ∈ l, isCell cs d) → PyData.eqvAll (ls.map PyData.tuple) (ls.map PyData.tuple) = true
  | [], _ => by rw [List.map_nil, PyData.eqvAll]
  | l :: r, h => by rw [List.map_cons, PyData.eqvAll, PyData.eqv, eqv_selfs (h l List.mem_cons_self), eqv_told fun x hx => h x (List.mem_cons_of_mem _ hx)]; rfl
end K30
end
section
set_option Elab.async false
set_option linter.all false
set_option maxRecDepth 100000
set_option maxHeartbeats 4000000
namespace K30
open PySem PySem.Spec PyProof.Rows L2 Evl TX
open C8 (Cal pe_c pe_gc)
theorem reps_take {H : Hp} : ∀ {vs : List V} {ds : List PyData}, Reps H vs ds → ∀ n, Reps H (vs.take n) (ds.take n)
  | _, _, .nil, n => by rw [List.take_nil, List.take_nil]; exact .nil
  | _, _, .cons h r, 0 => .nil
  | _, _, .cons h r, n + 1 => .cons h (reps_take r n)
theorem reps_drop {H : Hp} : ∀ {vs : List V} {ds : List PyData}, Reps H vs ds → ∀ n, Reps H (vs.drop n) (ds.drop n)
  | _, _, .nil, n => by rw [List.drop_nil, List.drop_nil]; exact .nil
  | _, _, .cons h r, 0 => .cons h r
  | _, _, .cons h r, n + 1 => reps_drop r n
theorem cutG_to (xs : List V) (n : Nat) : cutV xs none (some (n : Int)) = xs.take n := by
  unfold cutV
  rw [HT.sIx_none, HT.sIx_nat, List.drop_zero, Nat.sub_zero]
  by_cases h : n ≤ xs.length
  · rw [Nat.min_eq_left h]
  · rw [Nat.min_eq_right (by omega), List.take_of_length_le (Nat.le_refl _), List.take_of_length_le (by omega)]
theorem cutG_from (xs : List V) (n : Nat) : cutV xs (some (n : Int)) none = xs.drop n := by
  unfold cutV
  rw [HT.sIx_none, HT.sIx_nat]
  by_cases h : n ≤ xs.length
  · rw [Nat.min_eq_left h, List.take_of_length_le (by rw [List.length_drop]; omega)]
  · rw [Nat.min_eq_right (by omega), List.drop_of_length_le (Nat.le_refl _), List.drop_of_length_le (by omega), List.take_nil]
section
variable {K : PySem.W.Frag} {σ : L2.St} {H : Hp} {ta tb te tu ty : TE} {ds es : List PyData} {d : PyData} {E : XK}
theorem er_slTo (n : Nat) (h : EvR te σ H (.tuple ds)) : EvR (tSl (rSlA K) te tNoPart (tPart (tC (.int (n : Int))))) σ H (.tuple (ds.take n)) := fun H1 e Q q =>
  h H1 e _ fun v H2 e2 rv => by
    obtain ⟨a, xs, rfl, ha, rx⟩ := rv.tup_inv
    exact ⟨_, rfl, sl_ ha fun p H3 e3 hp => q _ H3 (e2.trans e3) (.tup hp (by rw [cutG_to]; exact (reps_take rx n).ex e3))⟩
theorem er_slFrom (n : Nat) (h : EvR te σ H (.tuple ds)) : EvR (tSl (rSlA K) te (tPart (tC (.int (n : Int)))) tNoPart) σ H (.tuple (ds.drop n)) := fun H1 e Q q =>
  h H1 e _ fun v H2 e2 rv => by
    obtain ⟨a, xs, rfl, ha, rx⟩ := rv.tup_inv
    exact ⟨_, rfl, sl_ ha fun p H3 e3 hp => q _ H3 (e2.trans e3) (.tup hp (by rw [cutG_from]; exact (reps_drop rx n).ex e3))⟩
theorem er_catR (ha : EvR ta σ H (.tuple ds)) (hb : EvR tb σ H (.tuple es)) (hz : ds.length + es.length ≤ 10000) : EvR (tOp (rCatA K) ta tb) σ H (.tuple (ds ++ es)) := fun H1 e Q q =>
  ha H1 e _ fun v H2 e2 rv => hb H2 (e.trans e2) _ fun w H3 e3 rw_ => by
    obtain ⟨a, xs, rfl, h1, rx⟩ := rv.tup_inv
    obtain ⟨b, ys, rfl, h2, ry⟩ := rw_.tup_inv
    exact cat_ (e3 _ _ h1) h2 (by rw [rx.len, ry.len]; exact hz) fun p H4 e4 hp => q _ H4 ((e2.trans e3).trans e4) (.tup hp (((rx.ex e3).app ry).ex e4))
theorem ev_neQ (ha : EvQ ta σ H ds) (hb : EvS tb σ H es) (sd : SeqAt.shaped (.list ds) = true) (se : SeqAt.shaped (.list es) = true) : Ev (tOp (rNeD K) ta tb) σ H (.bl (!PyData.eqv (.list ds) (.list es))) := fun H1 e Q q =>
  ha H1 e _ fun p xs H2 e2 hx rx => hb H2 (e.trans e2) _ fun r ys H3 hr e3 hy ry => ⟨.list ds, .list es, .lst (sq_of (e3 _ _ hx)) (rx.ex e3).dp, .lst (sq_of hy) ry.dp, sd, se, q H3 (e2.trans e3)⟩
theorem ev_neTF {a : Addr} {xs : List V} (ha : Ev ta σ H (.ref a)) (hx : SqT K H a xs) (rx : Reps H xs ds) (hb : EvR tb σ H d) (sd : SeqAt.shaped (.tuple ds) = true) (se : SeqAt.shaped d = true) : Ev (tOp (rNeD K) ta tb) σ H (.bl (!PyData.eqv (.tuple ds) d)) := fun H1 e Q q =>
  ha H1 e _ fun H2 e2 => hb H2 (e.trans e2) _ fun w H3 e3 rw_ => ⟨.tuple ds, d, .tup (ex_t ((e.trans e2).trans e3) hx) (rx.ex ((e.trans e2).trans e3)).dp, rw_.dp, sd, se, q H3 (e2.trans e3)⟩
theorem ev_mtUq {a C dx : Addr} {fs : List (Str × V)} {m : Str} {R : List V → Hp → V → Prop} {z : V} {ns : List Int} (h : Ev ta σ H (.ref a)) (ha : H a = some (.ins C dx fs)) (l : fs.lookup m = none) (hu : EvR tu σ H (.tuple (ns.map PyData.int))) (hr : ∀ p H1, Ex H H1 → H1 p = some (.tup (ns.map V.int)) → R [.ref a, .ref p] H1 z) :
    Ev (tMeth C m (pSp R) [] E ta (tCons tu tNil)) σ H z := fun H1 e Q q =>
  h H1 e _ fun H2 e2 => ⟨a, dx, fs, rfl, (e.trans e2) _ _ ha, l, hu H2 (e.trans e2) _ fun v H3 e3 rv => by
    obtain ⟨p, xs, rfl, hp, rx⟩ := Rep.tup_inv rv
    obtain rfl := rx.ints
    exact nil_ ⟨z, hr p H3 ((e.trans e2).trans e3) hp, fun H4 e4 => q H4 ((e2.trans e3).trans e4)⟩⟩
theorem er_get4 {k1 k2 k3 k4 k : Key} {d1 d2 d3 d4 : PyData} {t1 t2 t3 t4 : TE} (h1 : EvR t1 σ H d1) (h2 : EvR t2 σ H d2) (h3 : EvR t3 σ H d3) (h4 : EvR t4 σ H d4) (hy : Ev ty σ H (kV k))
    (sel : (if k = k4 then some d4 else if k = k3 then some d3 else if k = k2 then some d2 else if k = k1 then some d1 else none) = some d) :
    EvR (tDGet (tDisp [(tC (kV k1), t1), (tC (kV k2), t2), (tC (kV k3), t3), (tC (kV k4), t4)]) ty) σ H d := fun H0 e Q q => fun p hp => by
  have e0 : Ex H0 (upd H0 p (.dK [])) := Ex.new hp
  refine h1 _ (e.trans e0) _ fun v1 H1 e1 r1 => h2 _ ((e.trans e0).trans e1) _ fun v2 H2 e2 r2 => h3 _ (((e.trans e0).trans e1).trans e2) _ fun v3 H3 e3 r3 => h4 _ ((((e.trans e0).trans e1).trans e2).trans e3) _ fun v4 H4 e4 r4 => ?_
  have hp4 : H4 p = some (.dK []) := e4 _ _ (e3 _ _ (e2 _ _ (e1 _ _ upd_same)))
  refine ⟨hp4, [(k1, v1), (k2, v2), (k3, v3), (k4, v4)], rfl, Nat.le_of_ble_eq_true rfl, ?_⟩
  have e5 : Ex H0 (upd H4 p (.dK (mergeK [] [(k1, v1), (k2, v2), (k3, v3), (k4, v4)]))) := Ex.mut ((((e0.trans e1).trans e2).trans e3).trans e4) hp
  refine hy _ (e.trans e5) _ fun H6 e6 => ?_
  have hp6 := e6 _ _ (upd_same : (upd H4 p (.dK (mergeK [] [(k1, v1), (k2, v2), (k3, v3), (k4, v4)]))) p = _)
  have tx : Tx H4 H6 := (Tx.dK hp4).trans (.ex e6)
  have val : valV (mergeK [] [(k1, v1), (k2, v2), (k3, v3), (k4, v4)]) k = if k = k4 then some v4 else if k = k3 then some v3 else if k = k2 then some v2 else if k = k1 then some v1 else none := by
    show valV (putK (putK (putK (putK [] k1 v1) k2 v2) k3 v3) k4 v4) k = _
    rw [valV_put, valV_put, valV_put, valV_put]
    rfl
  have fin : ∃ v, valV (mergeK [] [(k1, v1), (k2, v2), (k3, v3), (k4, v4)]) k = some v ∧ Rep H6 v d := by
    rw [val]
    by_cases c4 : k = k4
    · rw [if_pos c4] at sel ⊢
      exact ⟨v4, rfl, by rw [← Option.some.inj sel]; exact r4.on tx⟩
    · rw [if_neg c4] at sel ⊢
      by_cases c3 : k = k3
      · rw [if_pos c3] at sel ⊢
        exact ⟨v3, rfl, by rw [← Option.some.inj sel]; exact (r3.ex e4).on tx⟩
      · rw [if_neg c3] at sel ⊢
        by_cases c2 : k = k2
        · rw [if_pos c2] at sel ⊢
          exact ⟨v2, rfl, by rw [← Option.some.inj sel]; exact ((r2.ex e3).ex e4).on tx⟩
        · rw [if_neg c2] at sel ⊢
          by_cases c1 : k = k1
          · rw [if_pos c1] at sel ⊢
            exact ⟨v1, rfl, by rw [← Option.some.inj sel]; exact (((r1.ex e2).ex e3).ex e4).on tx⟩
          · rw [if_neg c1] at sel
            exact nomatch sel
  obtain ⟨v, hv, rv⟩ := fin
  exact ⟨p, v, rfl, by rw [← hv]; exact DGet.k hp6, q v H6 (e5.trans e6) rv⟩
theorem er_back {C a : Addr} {kd : Kd} {cs : List Col} {lost : List PyData} (h1 : Ev ta σ H (.ref a)) (tab : TabAt H C a kd cs) (hk : kd.ok) (G : Good cs) (h2 : EvR tb σ H (.tuple lost)) (ll : lost.length ≤ 40) (ics : ∀ d ∈ lost, isCell cs d) (nd : (lost.map keyOf).Nodup) :
    EvR (tCall (dSp (rBack C)) [] E (tCons ta (tCons tb tNil))) σ H (.tuple (backL kd cs lost)) := fun H1 e Q q =>
  h1 H1 e _ fun H2 e2 => h2 H2 (e.trans e2) _ fun v H3 e3 rv => by
    obtain ⟨lo, lx, rfl, hlo, rl⟩ := rv.tup_inv
    exact nil_ ⟨_, ⟨a, lo, kd, cs, lost, rfl, tab.keep ((e.trans e2).trans e3), hk, G, ⟨lx, hlo, rl, ll, ics⟩, nd, rfl⟩, fun v H4 e4 r => q v H4 ((e2.trans e3).trans e4) r⟩
theorem ev_comes {C a : Addr} {kd : Kd} {cs : List Col} {lost : List PyData} (h1 : Ev ta σ H (.ref a)) (tab : TabAt H C a kd cs) (hk : kd.ok) (G : Good cs) (h2 : EvR tb σ H (.tuple lost)) (ll : lost.length ≤ 40) (ics : ∀ d ∈ lost, isCell cs d) (nd : (lost.map keyOf).Nodup) :
    Ev (tCall (pSp (rCB C)) [] E (tCons ta (tCons tb tNil))) σ H (.bl (allB kd cs lost)) := fun H1 e Q q =>
  h1 H1 e _ fun H2 e2 => h2 H2 (e.trans e2) _ fun v H3 e3 rv => by
    obtain ⟨lo, lx, rfl, hlo, rl⟩ := rv.tup_inv
    exact nil_ ⟨_, ⟨a, lo, kd, cs, lost, rfl, tab.keep ((e.trans e2).trans e3), hk, G, ⟨lx, hlo, rl, ll, ics⟩, nd, rfl⟩, fun H4 e4 => q H4 ((e2.trans e3).trans e4)⟩
end
end K30
end
section
set_option Elab.async false
set_option linter.all false
set_option maxRecDepth 100000
set_option maxHeartbeats 4000000
namespace K30
open PySem PySem.Spec PyProof.Rows L2 Evl TX
open C8 (Cal pe_c pe_gc)
theorem s_appR {K : PySem.W.Frag} {σ : L2.St} {H : Hp} {D : Ends} {ta te : TE} {d : PyData} {l : Addr} {xs : List V} (hl : H l = some (.lst xs)) (ha : Ev ta σ H (.ref l)) (h : EvR te σ H d) (hz : xs.length < 100000) (k : ∀ v H1, Ex H H1 → Rep H1 v d → H1 l = some (.lst xs) → D.nx σ (upd H1 l (.lst (xs ++ [v])))) :
    tDrop (tBM K "list" rAppend ta (tCons te tNil)) D σ H := ha H (Ex.refl H) _ fun H1 e1 =>
  ⟨Or.inl ⟨rfl, xs, sq_of (e1 l _ hl)⟩, h H1 e1 _ fun v H2 e2 rv => ⟨l, xs, v, rfl, rfl, e2 l _ (e1 l _ hl), sz_lt hz, k v H2 (e1.trans e2) rv (e2 l _ (e1 l _ hl))⟩⟩
def redV : Kd → Int → Int
  | .bits, i => i % 2
  | .plain, i => i
  | .dial m, i => i % m
def rRd : List V → Hp → V → Prop := fun vs _ z => ∃ (k : Kd) (i : Int), vs = [k.v, .int i] ∧ k.ok ∧ z = .int (redV k i)
def pairF (z : PyData × Int) : PyData := .tuple [z.1, .int z.2]
def colourD (cs : List Col) (cl : List (Str × Int)) (d : PyData) : Int := ((endsD cs d).map (colOf cl)).sum
def facK (k : Kd) (cs : List Col) (cl : List (Str × Int)) (sc : Int) (d : PyData) : Int := redV k (if firstS d = "sum" then colourD cs cl d * sc else -(colourD cs cl d) * sc)
def lfL (k : Kd) (cs : List Col) (lost : List PyData) (cl : List (Str × Int)) (sc : Int) (ds : List PyData) : List (PyData × Int) := (ds.filter fun d => !decide (facK k cs cl sc d = 0) && !(lost.any fun z => PyData.eqv z d)).map fun d => (d, facK k cs cl sc d)
def smallC (cl : List (Str × Int)) : Prop := ∀ s, -1 ≤ colOf cl s ∧ colOf cl s ≤ 1
def rLf (C : Addr) : List V → Hp → PyData → Prop := fun vs H d => ∃ (a lo c : Addr) (sc : Int) (k : Kd) (cs : List Col) (lost : List PyData) (cl : List (Str × Int)), vs = [.ref a, .ref lo, .ref c, .int sc] ∧ TabAt H C a k cs ∧ k.ok ∧ Good cs ∧ LostAt H lo cs lost ∧ H c = some (.dK (kvC cl)) ∧ smallC cl ∧ (-1000000000 ≤ sc ∧ sc ≤ 1000000000) ∧ d = .tuple ((lfL k cs lost cl sc (cellsL cs)).map pairF)
def rWorth (K : PySem.W.Frag) : List V → Hp → V → Prop := fun vs H z => ∃ (k : Kd) (va : Addr) (v1 : V) (kvs : List (List Key × V)) (fs : List (PyData × Int)) (vv : PyData → Int), vs = [k.v, v1, .ref va] ∧ k.ok ∧ Rep H v1 (.tuple (fs.map pairF)) ∧ H va = some (.dT kvs) ∧ fs.length ≤ 1000 ∧ (∀ z ∈ fs, ((∃ w, z.1 = sumC w) ∨ ∃ n, z.1 = datC n) ∧ valV kvs (keyOf z.1) = some (.int (vv z.1)) ∧ -(2 ^ 64) < z.2 ∧ z.2 < 2 ^ 64) ∧ z = .int (tog k (fs.map fun z => z.2 * vv z.1))
theorem er_pairE {K : PySem.W.Frag} {C tb ce : Addr} {σ : L2.St} {H : Hp} {i j t : Nat} {x4 x5 : V} {kd : Kd} {cs : List Col} {cell : PyData} (hi : σ[i]? = some (some x4)) (hj : σ[j]? = some (some x5)) (ht : σ[t]? = some (some (.ref tb))) (rce : Rep H (.ref ce) cell) (hce : H ce = some (.tup [x4, x5])) (ic : isCell cs cell) (tab : TabAt H C tb kd cs) :
    EvR (tIf (tTest (tOp rEq (tVar i) (tC (.str "sum")))) (tTup (tCons (tVar j) tNil)) (tOp (rIxT K) (tProp C (getSp C "_data") [] C8.E0 (tVar t)) (tVar j))) σ H (.tuple ((endsD cs cell).map PyData.str)) := by
  obtain ⟨tx, v1, v2, v3, v4, v6, v9, p5, q7, kv0, h0, h1, h2, h3, h4, h5, h6, h7, h9⟩ := tab.ex
  obtain ⟨da, dd, rfl, hda, rda⟩ := Rep.tup_inv h4
  rcases ic with ⟨s, rfl, hs⟩ | ⟨m, rfl, m0, m1⟩
  · obtain ⟨b, u, v, e, hb, ru, rv⟩ := rce.two
    cases e
    rw [hce] at hb
    obtain ⟨rfl, rfl⟩ : x4 = u ∧ x5 = v := by simpa using hb
    obtain rfl := ru.str_inv
    obtain rfl := rv.str_inv
    exact er_ifT (b := true) (et_is (et_test (ev_op (ev_var hi) ev_c (rv_eq rfl))) rfl) (fun _ => er_tup (era_cons (er_str (ev_var hj)) era_nil) (Nat.le_of_ble_eq_true rfl)) (fun z => nomatch z)
  · obtain ⟨b, u, v, e, hb, ru, rv⟩ := rce.two
    cases e
    rw [hce] at hb
    obtain ⟨rfl, rfl⟩ : x4 = u ∧ x5 = v := by simpa using hb
    obtain rfl := ru.str_inv
    obtain rfl := rv.int_inv
    have hdm : (((dataOf cs).map pairD))[m.toNat]? = some (pairD ((dataOf cs).getD m.toNat p0)) := by
      rw [List.getElem?_map, List.getD_eq_getElem?_getD, List.getElem?_eq_getElem m1]
      rfl
    refine er_ifT (b := false) (et_is (et_test (ev_op (ev_var hi) ev_c (rv_eq rfl))) rfl) (fun z => nomatch z) fun _ => ?_
    exact er_ix (K := K) (i := m.toNat) (er_ev (ev_prop (ev_var ht) h0 rfl) (.tup hda rda)) (ev_var (by rw [hj, Int.toNat_of_nonneg m0])) hdm
theorem smallSum {cl : List (Str × Int)} (h : smallC cl) : ∀ es : List Str, -(es.length : Int) ≤ (es.map (colOf cl)).sum ∧ (es.map (colOf cl)).sum ≤ (es.length : Int)
  | [] => ⟨by simp, by simp⟩
  | e :: r => by
    have q := smallSum h r
    have c := h e
    rw [List.map_cons, List.sum_cons, List.length_cons]
    omega
theorem colour_small {cs : List Col} {cl : List (Str × Int)} (h : smallC cl) (d : PyData) : -2 ≤ colourD cs cl d ∧ colourD cs cl d ≤ 2 := by
  have q := smallSum h (endsD cs d)
  have l := ends_len cs d
  unfold colourD
  omega
def LfW (H : Hp) (a lo c fl : Addr) (sc : Int) (k : Kd) (cs : List Col) (lost : List PyData) (cl : List (Str × Int)) (i : Nat) (σ : L2.St) (H' : Hp) : Prop := ∃ (y5 y6 y7 y8 y10 y11 : Option V) (xs : List V), σ = [some (.ref a), some (.ref lo), some (.ref c), some (.int sc), some (.ref fl), y5, y6, y7, y8, none, y10, y11] ∧ Ex H H' ∧ H' fl = some (.lst xs) ∧ Reps H' xs ((lfL k cs lost cl sc ((cellsL cs).take i)).map pairF)
section
variable {P : Program} {w : World} {K : PySem.W.Frag} {mg : Str → Option Value} {base : Heap} {f : Addr} {fd : FuncData}
variable {C : Addr}
end
end K30
end
section
set_option Elab.async false
set_option linter.all false
set_option maxRecDepth 100000
set_option maxHeartbeats 4000000
namespace K30
open PySem PySem.Spec PyProof.Rows L2 Evl TX
open C8 (Cal pe_c pe_gc)
theorem colOf_small {cl : List (Str × Int)} (h : ∀ q ∈ cl, -1 ≤ q.2 ∧ q.2 ≤ 1) : smallC cl := fun s => by
  unfold colOf
  cases e : cl.find? fun q => decide (q.1 = s) with
  | none => exact ⟨by decide, by decide⟩
  | some q => exact h q (List.mem_of_find?_eq_some e)
theorem step_small {ps : List (Nat × Str × Str)} {ss : List Str} {s : Str} : ∀ (ns : List Nat) (a : List Str × List (Str × Int)), (∀ q ∈ a.2, -1 ≤ q.2 ∧ q.2 ≤ 1) → ∀ q ∈ (ns.foldl (stepN ps ss s) a).2, -1 ≤ q.2 ∧ q.2 ≤ 1
  | [], _, h => h
  | n :: r, a, h => by
    rw [List.foldl_cons]
    refine step_small r _ ?_
    unfold stepN
    split
    · intro q hq
      rcases List.mem_append.mp hq with z | z
      · exact h q z
      · rw [List.mem_singleton.mp z]
        have c := colOf_small h s
        exact ⟨by dsimp only; omega, by dsimp only; omega⟩
    · exact h
theorem walk_small {ps : List (Nat × Str × Str)} {ss : List Str} : ∀ (m : Nat) (ws : List Str) (cl : List (Str × Int)), (∀ q ∈ cl, -1 ≤ q.2 ∧ q.2 ≤ 1) → ∀ q ∈ walkN ps ss m ws cl, -1 ≤ q.2 ∧ q.2 ≤ 1
  | 0, _, _, h => h
  | m + 1, ws, cl, h => by
    cases e : ws.getLast? with
    | none =>
      rw [List.getLast?_eq_none_iff.mp e, walk_nil]
      exact h
    | some s =>
      rw [walk_step e]
      exact walk_small m _ _ (step_small _ _ h)
theorem col_small (ps : List (Nat × Str × Str)) (ss : List Str) (s : Str) : smallC (colN ps ss s) := colOf_small (walk_small _ _ _ fun q hq => by
  rw [List.mem_singleton.mp hq]
  exact ⟨(by decide : (-1 : Int) ≤ 1), (by decide : (1 : Int) ≤ 1)⟩)
theorem told_is {wd : Str} {ps : List (Nat × Str × Str)} {ss es : List Str} : ∀ {r : List Str} {x : List (Str × Int) × Int}, toldN wd ps ss es r = some x → (∃ e ∈ r, x.1 = colN ps ss e) ∧ (x.2 = 1 ∨ (x.2 = 2 ∧ (wd = "odd" ∨ wd = "plain")))
  | [], _, h => nomatch h
  | e :: r, x, h => by
    rw [toldN] at h
    split at h
    · obtain ⟨⟨e', he, q⟩, t⟩ := told_is h
      exact ⟨⟨e', List.mem_cons_of_mem _ he, q⟩, t⟩
    · split at h
      · rename_i c
        cases (Option.some.inj h)
        refine ⟨⟨e, List.mem_cons_self, rfl⟩, ?_⟩
        rcases Bool.or_eq_true_iff.mp c with c | c
        · exact .inl (of_decide_eq_true c)
        · obtain ⟨c1, c2⟩ := Bool.and_eq_true_iff.mp c
          refine .inr ⟨of_decide_eq_true c1, ?_⟩
          rcases Bool.or_eq_true_iff.mp c2 with c2 | c2
          · exact .inl (of_decide_eq_true c2)
          · exact .inr (of_decide_eq_true c2)
      · obtain ⟨⟨e', he, q⟩, t⟩ := told_is h
        exact ⟨⟨e', List.mem_cons_of_mem _ he, q⟩, t⟩
def fstAt (H : Hp) (fx : List V) (i : Nat) : Option V := match fx[i]? with
  | some (.ref b) => (match H b with
    | some (.tup (u :: _)) => some u
    | _ => none)
  | _ => none
theorem fst_at {H : Hp} {fx : List V} {i : Nat} {b : Addr} {u w : V} (h : fx[i]? = some (.ref b)) (hb : H b = some (.tup [u, w])) : fstAt H fx i = some u := by
  unfold fstAt
  rw [h]
  dsimp only
  rw [hb]
theorem ev_dgetT {σ : L2.St} {H : Hp} {td ty : TE} {p b : Addr} {kvs : List (List Key × V)} {k : List Key} {v : V} (hd : Ev td σ H (.ref p)) (hy : Ev ty σ H (.ref b)) (hb : H b = some (.tup (k.map kV))) (hp : H p = some (.dT kvs)) (hv : valV kvs k = some v) : Ev (tDGet td ty) σ H v := fun H1 e Q q =>
  hd H1 e _ fun H2 e2 => hy H2 (e.trans e2) _ fun H3 e3 => ⟨p, v, rfl, by rw [← hv]; exact DGet.t (((e.trans e2).trans e3) _ _ hp) (((e.trans e2).trans e3) _ _ hb), q H3 (e2.trans e3)⟩
theorem s_retO_ {te : TE} {D : Ends} {σ : L2.St} {H : Hp} (h : te σ H fun v H1 => D.rt v H1) : tRet te D σ H := h
def toldC (k : Kd) (cs : List Col) (lost : List PyData) (cell : PyData) : Option (List (Str × Int) × Int) := toldN (wordK k) (netP cs (lostB lost cell)) (netS cs (lostB lost cell)) (endsG cs lost cell) (endsG cs lost cell)
def isPlain : Kd → Bool
  | .plain => true
  | _ => false
def dialOf : Kd → Int
  | .dial m => m
  | _ => 0
def recK (k : Kd) (cs : List Col) (lost : List PyData) (cell : PyData) : Option (Int × List (PyData × Int)) := match toldC k cs lost cell with
  | none => none
  | some (cl, t) => if firstS cell = "sum" then some (1, lfL k cs lost cl (-1) (cellsL cs)) else if (decide (t = 1) || isPlain k) = true then some (t, lfL k cs lost cl 1 (cellsL cs)) else some (1, lfL k cs lost cl ((dialOf k + 1) / 2) (cellsL cs))
def recD : Option (Int × List (PyData × Int)) → PyData
  | none => .none
  | some (m, fs) => .tuple [.int m, .tuple (fs.map pairF)]
def valD (k : Kd) (cs : List Col) (lost : List PyData) (cell : PyData) (vv : PyData → Int) : PyData := match recK k cs lost cell with
  | none => .none
  | some (m, fs) => .int (tog k (fs.map fun z => z.2 * vv z.1) / m)
def rRecF (C : Addr) : List V → Hp → PyData → Prop := fun vs H d => ∃ (a lo : Addr) (v : V) (k : Kd) (cs : List Col) (lost : List PyData) (cell : PyData), vs = [.ref a, .ref lo, v] ∧ TabAt H C a k cs ∧ k.ok ∧ Good cs ∧ LostAt H lo cs lost ∧ Rep H v cell ∧ isCell cs cell ∧ d = recD (recK k cs lost cell)
def ValsAt (H : Hp) (va : Addr) (cs : List Col) (vv : PyData → Int) : Prop := ∃ kvs : List (List Key × V), H va = some (.dT kvs) ∧ ∀ d ∈ cellsL cs, valV kvs (keyOf d) = some (.int (vv d))
theorem ValsAt.ex {H H' : Hp} {va : Addr} {cs : List Col} {vv : PyData → Int} (h : ValsAt H va cs vv) (e : Ex H H') : ValsAt H' va cs vv := let ⟨kvs, h1, h2⟩ := h; ⟨kvs, e _ _ h1, h2⟩
def rVB (C : Addr) : List V → Hp → PyData → Prop := fun vs H d => ∃ (a lo va : Addr) (v : V) (k : Kd) (cs : List Col) (lost : List PyData) (cell : PyData) (vv : PyData → Int), vs = [.ref a, .ref lo, v, .ref va] ∧ TabAt H C a k cs ∧ k.ok ∧ Good cs ∧ LostAt H lo cs lost ∧ Rep H v cell ∧ isCell cs cell ∧ ValsAt H va cs vv ∧ d = valD k cs lost cell vv
theorem red_small {k : Kd} (hk : k.ok) {i : Int} (h : -(2 ^ 63) < i ∧ i < 2 ^ 63) : -(2 ^ 64) < redV k i ∧ redV k i < 2 ^ 64 := by
  cases k with
  | bits => exact ⟨by show -(2 ^ 64) < i % 2; omega, by show i % 2 < 2 ^ 64; omega⟩
  | plain => exact ⟨by show -(2 ^ 64) < i; omega, by show i < 2 ^ 64; omega⟩
  | dial m =>
    have h1 := hk.1
    have h2 := hk.2
    have e1 := Int.emod_nonneg i (show m ≠ 0 by omega)
    have e2 := Int.emod_lt_of_pos i (show (0 : Int) < m by omega)
    exact ⟨by show -(2 ^ 64) < i % m; omega, by show i % m < 2 ^ 64; omega⟩
theorem fac_small {k : Kd} (hk : k.ok) {cs : List Col} {cl : List (Str × Int)} (sm : smallC cl) {sc : Int} (hs : -1000000000 ≤ sc ∧ sc ≤ 1000000000) (d : PyData) : -(2 ^ 64) < facK k cs cl sc d ∧ facK k cs cl sc d < 2 ^ 64 := by
  have c := colour_small (cs := cs) sm d
  have bnd : ∀ x : Int, -2 ≤ x → x ≤ 2 → -(2 ^ 63) < x * sc ∧ x * sc < 2 ^ 63 := fun x h1 h2 => by
    have : x = -2 ∨ x = -1 ∨ x = 0 ∨ x = 1 ∨ x = 2 := by omega
    rcases this with rfl | rfl | rfl | rfl | rfl <;> omega
  unfold facK
  refine red_small hk ?_
  split
  · exact bnd _ c.1 c.2
  · exact bnd _ (by omega) (by omega)
theorem lf_ok {k : Kd} (hk : k.ok) {cs : List Col} (G : Good cs) {lost : List PyData} {cl : List (Str × Int)} (sm : smallC cl) {sc : Int} (hs : -1000000000 ≤ sc ∧ sc ≤ 1000000000) : (lfL k cs lost cl sc (cellsL cs)).length ≤ 1000 ∧ ∀ z ∈ lfL k cs lost cl sc (cellsL cs), z.1 ∈ cellsL cs ∧ -(2 ^ 64) < z.2 ∧ z.2 < 2 ^ 64 := by
  refine ⟨?_, fun z hz => ?_⟩
  · unfold lfL
    rw [List.length_map]
    have := List.length_filter_le (fun d => !decide (facK k cs cl sc d = 0) && !(lost.any fun z => PyData.eqv z d)) (cellsL cs)
    have := cellsL_len G
    omega
  · obtain ⟨d, hd, rfl⟩ := List.mem_map.mp hz
    exact ⟨(List.mem_filter.mp hd).1, fac_small hk sm hs d⟩
theorem half_ok {k : Kd} (hk : k.ok) : -1000000000 ≤ (dialOf k + 1) / 2 ∧ (dialOf k + 1) / 2 ≤ 1000000000 := by
  cases k with
  | bits => exact ⟨by decide, by decide⟩
  | plain => exact ⟨by decide, by decide⟩
  | dial m =>
    have h1 := hk.1
    have h2 := hk.2
    exact ⟨by show -1000000000 ≤ (m + 1) / 2; omega, by show (m + 1) / 2 ≤ 1000000000; omega⟩
theorem rec_ok {k : Kd} (hk : k.ok) {cs : List Col} (G : Good cs) {lost : List PyData} {cell : PyData} {m : Int} {fs : List (PyData × Int)} (h : recK k cs lost cell = some (m, fs)) : (m = 1 ∨ m = 2) ∧ fs.length ≤ 1000 ∧ ∀ z ∈ fs, z.1 ∈ cellsL cs ∧ -(2 ^ 64) < z.2 ∧ z.2 < 2 ^ 64 := by
  unfold recK at h
  cases q : toldC k cs lost cell with
  | none => rw [q] at h; exact nomatch h
  | some x =>
    obtain ⟨cl, t⟩ := x
    rw [q] at h
    obtain ⟨⟨e, _, ec⟩, et⟩ := told_is q
    have sm : smallC cl := by
      have : cl = colN _ _ e := ec
      rw [this]
      exact col_small _ _ _
    dsimp only at h et
    split at h
    · cases (Option.some.inj h)
      exact ⟨.inl rfl, lf_ok hk G sm ⟨by decide, by decide⟩⟩
    · split at h
      · cases (Option.some.inj h)
        refine ⟨?_, lf_ok hk G sm ⟨by decide, by decide⟩⟩
        rcases et with et | et
        · exact .inl et
        · exact .inr et.1
      · cases (Option.some.inj h)
        exact ⟨.inl rfl, lf_ok hk G sm (half_ok hk)⟩
theorem rv_isN {x : V} {H : Hp} : RV (fun x y H Q => y = V.non ∧ Q (V.bl (decide (x = .non))) H) x .non H (.bl (decide (x = .non))) := fun H1 _ Q q => ⟨rfl, q H1 (Ex.refl H1)⟩
section
variable {P : Program} {w : World} {K : PySem.W.Frag} {mg : Str → Option Value} {base : Heap} {f : Addr} {fd : FuncData}
variable {C CN CP CG : Addr}
end
end K30
end
section
set_option Elab.async false
set_option linter.all false
set_option maxRecDepth 100000
set_option maxHeartbeats 4000000
namespace K30
open PySem PySem.Spec PyProof.Rows L2 Evl TX
open C8 (Cal pe_c pe_gc)
section
variable {P : Program} {w : World} {K : PySem.W.Frag} {mg : Str → Option Value} {base : Heap} {f : Addr} {fd : FuncData}
variable {C CN CP CG : Addr}
end
end K30
end
section
set_option Elab.async false
set_option linter.all false
set_option maxRecDepth 100000
set_option maxHeartbeats 4000000
namespace K30
open PySem PySem.Spec PyProof.Rows L2 Evl TX
open C8 (Cal pe_c pe_gc)
def partsF (ps : List (Nat × Str × Str)) (ss : List Str) (acc : List (List (Str × Int))) (s : Str) : List (List (Str × Int)) := if acc.any (fun cl => inC cl s) then acc else acc ++ [colN ps ss s]
def partsN (ps : List (Nat × Str × Str)) (ss : List Str) : List (List (Str × Int)) := ss.foldl (partsF ps ss) []
inductive PartsAt (H : Hp) (CP : Addr) (ps : List (Nat × Str × Str)) : List Addr → List (List (Str × Int)) → Prop
  | nil : PartsAt H CP ps [] []
  | cons {a : Addr} {as : List Addr} {cl : List (Str × Int)} {cls : List (List (Str × Int))} : PartAt H CP a ps cl → PartsAt H CP ps as cls → PartsAt H CP ps (a :: as) (cl :: cls)
theorem PartAt.ex {H H' : Hp} {C a : Addr} {ps : List (Nat × Str × Str)} {cl : List (Str × Int)} (h : PartAt H C a ps cl) (e : Ex H H') : PartAt H' C a ps cl := by
  obtain ⟨dx, c, l, s, h1, h2, h3, h4⟩ := h
  exact ⟨dx, c, l, s, e _ _ h1, e _ _ h2, e _ _ h3, e _ _ h4⟩
theorem PartsAt.ex {H H' : Hp} {C : Addr} {ps : List (Nat × Str × Str)} {as : List Addr} {cls : List (List (Str × Int))} (h : PartsAt H C ps as cls) (e : Ex H H') : PartsAt H' C ps as cls := by
  induction h with
  | nil => exact .nil
  | cons h _ ih => exact .cons (h.ex e) ih
theorem PartsAt.snoc {H : Hp} {C a : Addr} {ps : List (Nat × Str × Str)} {as : List Addr} {cls : List (List (Str × Int))} {cl : List (Str × Int)} (h : PartsAt H C ps as cls) (q : PartAt H C a ps cl) : PartsAt H C ps (as ++ [a]) (cls ++ [cl]) := by
  induction h with
  | nil => exact .cons q .nil
  | cons h _ ih => exact .cons h ih
theorem PartsAt.len {H : Hp} {C : Addr} {ps : List (Nat × Str × Str)} {as : List Addr} {cls : List (List (Str × Int))} (h : PartsAt H C ps as cls) : as.length = cls.length := by
  induction h with
  | nil => rfl
  | cons _ _ ih => exact congrArg (· + 1) ih
theorem PartsAt.at {H : Hp} {C : Addr} {ps : List (Nat × Str × Str)} {as : List Addr} {cls : List (List (Str × Int))} (h : PartsAt H C ps as cls) : ∀ {i : Nat}, i < cls.length → ∃ a, as[i]? = some a ∧ PartAt H C a ps (cls.getD i []) := by
  induction h with
  | nil => exact fun h => absurd h (Nat.not_lt_zero _)
  | cons h _ ih =>
    intro i hi
    cases i with
    | zero => exact ⟨_, rfl, h⟩
    | succ j =>
      obtain ⟨a, h1, h2⟩ := ih (i := j) (by rw [List.length_cons] at hi; omega)
      exact ⟨a, h1, h2⟩
/-- a part, seen through the unlocking of a dict of the net -/
theorem PartAt.unl {H : Hp} {C a l : Addr} {ps : List (Nat × Str × Str)} {cl : List (Str × Int)} {od : Obj} {u v : HO} (h : PartAt H C a ps cl) (hl : H l = some (.frz od u)) : PartAt (upd H l v) C a ps cl := by
  obtain ⟨dx, c, m, s, h1, h2, h3, h4⟩ := h
  have n : ∀ b o, H b = some o → (∀ od u, o ≠ .frz od u) → (upd H l v) b = some o := fun b o hb ho => by
    rw [upd_ne (fun z => by rw [z, hl] at hb; exact ho od u (Option.some.inj hb).symm)]
    exact hb
  exact ⟨dx, c, m, s, n _ _ h1 (fun _ _ z => nomatch z), n _ _ h2 (fun _ _ z => nomatch z), n _ _ h3 (fun _ _ z => nomatch z), n _ _ h4 (fun _ _ z => nomatch z)⟩
theorem PartsAt.unl {H : Hp} {C l : Addr} {ps : List (Nat × Str × Str)} {as : List Addr} {cls : List (List (Str × Int))} {od : Obj} {u v : HO} (h : PartsAt H C ps as cls) (hl : H l = some (.frz od u)) : PartsAt (upd H l v) C ps as cls := by
  induction h with
  | nil => exact .nil
  | cons h _ ih => exact .cons (h.unl hl) ih
theorem lock_ex {H H1 : Hp} {l : Addr} {o : HO} (e : Ex H H1) : Ex (upd H l o) (upd H1 l o) := fun b x hb => by
  by_cases z : b = l
  · subst z
    rw [upd_same] at hb ⊢
    exact hb
  · rw [upd_ne z] at hb ⊢
    exact e b x hb
theorem PartAt.lput {H : Hp} {C a l : Addr} {ps : List (Nat × Str × Str)} {cl : List (Str × Int)} {xs : List V} {v : HO} (hl : H l = some (.lst xs)) (h : PartAt H C a ps cl) : PartAt (upd H l v) C a ps cl := by
  obtain ⟨dx, c, m, s, h1, h2, h3, h4⟩ := h
  have n : ∀ b o, H b = some o → (∀ xs, o ≠ .lst xs) → (upd H l v) b = some o := fun b o hb ho => by
    rw [upd_ne (fun z => by rw [z, hl] at hb; exact ho xs (Option.some.inj hb).symm)]
    exact hb
  exact ⟨dx, c, m, s, n _ _ h1 (fun _ z => nomatch z), n _ _ h2 (fun _ z => nomatch z), n _ _ h3 (fun _ z => nomatch z), n _ _ h4 (fun _ z => nomatch z)⟩
theorem PartsAt.lput {H : Hp} {C l : Addr} {ps : List (Nat × Str × Str)} {as : List Addr} {cls : List (List (Str × Int))} {xs : List V} {v : HO} (hl : H l = some (.lst xs)) (h : PartsAt H C ps as cls) : PartsAt (upd H l v) C ps as cls := by
  induction h with
  | nil => exact .nil
  | cons h _ ih => exact .cons (h.lput hl) ih
theorem parts_len (ps : List (Nat × Str × Str)) (ss : List Str) : ∀ (ns : List Str) (acc : List (List (Str × Int))), (ns.foldl (partsF ps ss) acc).length ≤ acc.length + ns.length
  | [], _ => by simp
  | n :: r, acc => by
    rw [List.foldl_cons]
    have q := parts_len ps ss r (partsF ps ss acc n)
    have l : (partsF ps ss acc n).length ≤ acc.length + 1 := by
      unfold partsF
      split
      · omega
      · rw [List.length_append]; simp
    rw [List.length_cons]
    omega
theorem parts_in (ps : List (Nat × Str × Str)) (ss : List Str) : ∀ (ns : List Str) (acc : List (List (Str × Int))), (∀ cl ∈ acc, ∃ s, cl = colN ps ss s) → ∀ cl ∈ ns.foldl (partsF ps ss) acc, ∃ s, cl = colN ps ss s
  | [], _, h => h
  | n :: r, acc, h => by
    rw [List.foldl_cons]
    refine parts_in ps ss r _ ?_
    unfold partsF
    split
    · exact h
    · intro cl hc
      rcases List.mem_append.mp hc with z | z
      · exact h cl z
      · exact ⟨n, List.mem_singleton.mp z⟩
def apSp (CN CP : Addr) : Sp := fun vs H Q _ => ∃ (n : Addr) (ps : List (Nat × Str × Str)) (ss : List Str), vs = [.ref n] ∧ NetAt H CN n ps ss ∧ NetPl H CN n ∧ (ps.map (·.1)).Nodup ∧ ss.Nodup ∧ ps.length ≤ 24 ∧ ss.length ≤ 10 ∧ ∀ (l : Addr) (as : List Addr) H', H l = none → Ex H H' → H' l = some (.lst (as.map V.ref)) → PartsAt H' CP ps as (partsN ps ss) → Q (.ref l) H'
def ApW (HL : Hp) (n fl : Addr) (CP : Addr) (ps : List (Nat × Str × Str)) (ss : List Str) (i : Nat) (σ : L2.St) (H' : Hp) : Prop := ∃ (y2 : Option V) (as : List Addr), σ = [some (.ref n), some (.ref fl), y2, none] ∧ Ex HL H' ∧ H' fl = some (.lst (as.map V.ref)) ∧ PartsAt H' CP ps as ((ss.take i).foldl (partsF ps ss) [])
theorem NetAt.lock {H : Hp} {C n l : Addr} {ps : List (Nat × Str × Str)} {ss : List Str} {od : Obj} {kvs : List (Key × V)} (h : NetAt H C n ps ss) {dx p : Addr} (hn : H n = some (.ins C dx [("pairs", .ref p), ("lines_at", .ref l)])) (hl : H l = some (.dK kvs)) (npl : p ≠ l) : NetAt (upd H l (.frz od (.dK kvs))) C n ps ss := by
  obtain ⟨dx2, p2, l2, pv, la, h1, h2, h3, h4, h5, h6, h7⟩ := h.ex
  rw [hn] at h1
  have e := Option.some.inj h1
  have e3 := HO.ins.inj e
  obtain rfl := e3.2.1
  have e2 := e3.2.2
  simp only [List.cons.injEq, Prod.mk.injEq, V.ref.injEq, true_and, and_true] at e2
  obtain ⟨rfl, rfl⟩ := e2
  have n1 : n ≠ l := fun z => by rw [z, hl] at hn; exact nomatch hn
  refine ⟨dx, p, l, pv, la, by rw [upd_ne n1]; exact hn, h2, by rw [upd_ne npl]; exact h3, h4.on (Tx.dK hl), h5, ?_, fun i hi => ?_⟩
  · rcases h6 with h6 | ⟨o, h6⟩
    · rw [hl] at h6
      have := HO.dK.inj (Option.some.inj h6)
      rw [← this]
      exact .inr ⟨od, upd_same⟩
    · rw [hl] at h6
      exact nomatch h6
  · rw [upd_ne (fun z => by have q := h7 i hi; rw [z, hl] at q; exact nomatch q)]
    exact h7 i hi
def canB (k : Kd) (cs : List Col) (lost : List PyData) (vv : PyData → Int) (cl : List (Str × Int)) : Bool := (!(partS (netP cs lost) cl).isEmpty) ||
  (if (partT (netP cs lost) cl || decide (wordK k = "bits")) = true then decide (tog k ((lfL k cs lost cl 1 (cellsL cs)).map fun z => z.2 * vv z.1) = 0) else decide (wordK k = "odd") || decide (tog k ((lfL k cs lost cl 1 (cellsL cs)).map fun z => z.2 * vv z.1) % 2 = 0))
def canR (k : Kd) (cs : List Col) (lost : List PyData) (vv : PyData → Int) : Bool := (partsN (netP cs lost) (netS cs lost)).all (canB k cs lost vv)
def rCanB (C CP : Addr) : List V → Hp → V → Prop := fun vs H z => ∃ (a lo pa va : Addr) (k : Kd) (cs : List Col) (lost : List PyData) (cl : List (Str × Int)) (vv : PyData → Int), vs = [.ref a, .ref lo, .ref pa, .ref va] ∧ TabAt H C a k cs ∧ k.ok ∧ Good cs ∧ LostAt H lo cs lost ∧ PartAt H CP pa (netP cs lost) cl ∧ smallC cl ∧ ValsAt H va cs vv ∧ z = .bl (canB k cs lost vv cl)
def rCanR (C : Addr) : List V → Hp → V → Prop := fun vs H z => ∃ (a lo va : Addr) (k : Kd) (cs : List Col) (lost : List PyData) (vv : PyData → Int), vs = [.ref a, .ref lo, .ref va] ∧ TabAt H C a k cs ∧ k.ok ∧ Good cs ∧ LostAt H lo cs lost ∧ ValsAt H va cs vv ∧ z = .bl (canR k cs lost vv)
section
variable {P : Program} {w : World} {K : PySem.W.Frag} {mg : Str → Option Value} {base : Heap} {f : Addr} {fd : FuncData}
variable {C CN CP CG : Addr}
end
end K30
end
section
set_option Elab.async false
set_option linter.all false
set_option maxRecDepth 100000
set_option maxHeartbeats 4000000
namespace K30
open PySem PySem.Spec PyProof.Rows L2 Evl TX
open C8 (Cal pe_c pe_gc)
theorem bits_word {k : Kd} : decide (k.v = .str "bits") = decide (wordK k = "bits") := by
  cases k with
  | bits => rfl
  | plain => show decide (V.str "plain" = V.str "bits") = decide (("plain" : Str) = "bits"); decide +kernel
  | dial m =>
    rw [decide_eq_false (fun z => nomatch z)]
    refine (decide_eq_false ?_).symm
    show ¬ (if m % 2 = 0 then ("even" : Str) else "odd") = "bits"
    split
    · decide +kernel
    · decide +kernel
theorem GapAt.ex {H H' : Hp} {CN C a : Addr} {ps : List (Nat × Str × Str)} {ss es : List Str} (h : GapAt H CN C a ps ss es) (e : Ex H H') : GapAt H' CN C a ps ss es := by
  obtain ⟨dx, n, t, h1, h2, h3⟩ := h
  exact ⟨dx, n, t, e _ _ h1, h2.ex2 e, e _ _ h3⟩
def rC1 (C : Addr) : List V → Hp → V → Prop := fun vs H z => ∃ (a lo : Addr) (v : V) (k : Kd) (cs : List Col) (lost : List PyData) (cell : PyData), vs = [.ref a, .ref lo, v] ∧ TabAt H C a k cs ∧ Good cs ∧ LostAt H lo cs lost ∧ Rep H v cell ∧ isCell cs cell ∧ (lost.any fun z => PyData.eqv z cell) = true ∧ z = .non
def rRec (C : Addr) : List V → Hp → PyData → Prop := fun vs H d => ∃ (a lo : Addr) (v : V) (k : Kd) (cs : List Col) (lost : List PyData) (cell : PyData), vs = [.ref a, .ref lo, v] ∧ TabAt H C a k cs ∧ k.ok ∧ Good cs ∧ LostAt H lo cs lost ∧ (lost.map keyOf).Nodup ∧ Rep H v cell ∧ isCell cs cell ∧ (lost.any fun z => PyData.eqv z cell) = true ∧ d = recD (recK k cs lost cell)
def kindsL (cs : List Col) (lost : List PyData) (cell : PyData) : List Str := words4.filter fun wd => (toldN wd (netP cs (lostB lost cell)) (netS cs (lostB lost cell)) (endsG cs lost cell) (endsG cs lost cell)).isSome
def rKB (C : Addr) : List V → Hp → PyData → Prop := fun vs H d => ∃ (a lo : Addr) (v : V) (k : Kd) (cs : List Col) (lost : List PyData) (cell : PyData), vs = [.ref a, .ref lo, v] ∧ TabAt H C a k cs ∧ k.ok ∧ Good cs ∧ LostAt H lo cs lost ∧ (lost.map keyOf).Nodup ∧ Rep H v cell ∧ isCell cs cell ∧ (lost.any fun z => PyData.eqv z cell) = true ∧ d = .tuple ((kindsL cs lost cell).map PyData.str)
theorem told_some {H : Hp} {v : V} {o : Option (List (Str × Int) × Int)} (h : ToldV H v o) : (!decide (v = .non)) = o.isSome := by
  cases o with
  | none =>
    have e : v = .non := h
    rw [e]
    rfl
  | some r =>
    obtain ⟨q, c, rfl, _⟩ := h
    rfl
theorem rv_notN {x : V} {H : Hp} : RV (fun x y H Q => y = V.non ∧ Q (V.bl (!decide (x = .non))) H) x .non H (.bl (!decide (x = .non))) := fun H1 _ Q q => ⟨rfl, q H1 (Ex.refl H1)⟩
section
variable {P : Program} {w : World} {K : PySem.W.Frag} {mg : Str → Option Value} {base : Heap} {f : Addr} {fd : FuncData}
variable {C CN CP CG ed wdA : Addr}
abbrev sc_check_one_lost_N : List Str := ["table", "lost", "cell"]
theorem sc_check_one_lost : FnScope sc_check_one_lost_N ["table", "lost", "cell"] (defScope s_check_one_lost) := ⟨rfl, rfl, rfl, by decide +kernel, rfl, by decide +kernel, by decide +kernel⟩
theorem ok_chk1 (F : FnP K "check_one_lost" s_check_one_lost f fd) (T : Tops mg) (C_is_cell : Cal P w K mg base 3 "is_cell" (pSp (rIsCell C)) []) : FnOk P w K mg base CX0 4 f fd ["table", "lost", "cell"] (pSp (rC1 C)) := by
  refine F.ok sc_check_one_lost (fun vs H Q E h => ?_) (fun cdv A outer s H vs Q E hr h => ?_)
  · obtain ⟨z, ⟨a, lo, v, kd, cs, lost, cell, rfl, _⟩, _⟩ := h; rfl
  · obtain ⟨z, ⟨a, lo, v, kd, cs, lost, cell, rfl, tab, G, la, rv, ic, hin, rfl⟩, k⟩ := h
    have hu65 := Nat.lt_of_le_of_lt (Nat.add_le_add (Nat.le_add_right _ (16 * 3)) (by decide : 65 ≤ 200)) hr.un
    refine ⟨_, PSs.nox (pss_one (ps_if (PW.pt (pw_or (pt_not (pt_val (pe_c C_is_cell hr (by decide) rfl (pa_cons (pv 0) (pa_cons (pv 2) pa_nil))))) (pw_or1 (pt_cmpR (BG.op_notInU hu65 : OpR _ _ (BG.rNotInU K)) (pv 2) (pv 1) rfl))))
  (pss_one ps_dead)
  pss_nil)), ?_⟩
    obtain ⟨lx, hlo, rl, ll, ics⟩ := id la
    have shL : SeqAt.shaped (.tuple lost) = true := shaped_cellsU fun d hd => cell_ok G (ics d hd)
    refine s_when (b := false) (et_is (et_or (a := false) (et_is (et_not (et_test (ev_pc (z := .bl true) (ea_cons (ev_var rfl) (ea_cons (ev_var rfl) ea_nil)) fun H1 e1 => ⟨a, kd, cs, v, cell, rfl, tab.keep e1, rv.ex e1, ic, rfl⟩))) rfl) fun _ => et_test (BG.ev_notInU (K := K) (er_var (d := cell) rfl rv) (er_var rfl (.tup hlo rl)) (shaped_cell (cell_ok G ic)) shL)) (by rw [hin]; rfl)) (fun z => nomatch z) fun _ H1 e1 => k H1 e1
abbrev sc_kinds_back_N : List Str := ["table", "lost", "cell", "gap", "word"]
theorem sc_kinds_back : FnScope sc_kinds_back_N ["table", "lost", "cell"] (defScope s_kinds_back) := ⟨rfl, rfl, rfl, by decide +kernel, rfl, by decide +kernel, by decide +kernel⟩
theorem ok_kindsb (F : FnP K "kinds_back" s_kinds_back f fd) (T : Tops mg) (C_check_table : Cal P w K mg base 1 "check_table" (pSp (rChkTb C)) []) (C_check_one_lost : Cal P w K mg base 4 "check_one_lost" (pSp (rC1 C)) []) (C_told_by : Cal P w K mg base 7 "told_by" (tbSp CN CG) [])(C_check_lost : Cal P w K mg base 4 "check_lost" (pSp (rChkL C ed)) [.ref ed]) (M_Gap : C8.Mak P w K mg base 5 "Gap" CG (gSp C CN CG) []) (hwd : ∀ H : Hp, SqT K H wdA (words4.map V.str)) (gwd : mg "WORDS" = some (.ref wdA))  : FnOk P w K mg base CX0 9 f fd ["table", "lost", "cell"] (dSp (rKB C)) := by
  refine F.ok sc_kinds_back (fun vs H Q E h => ?_) (fun cdv A outer s H vs Q E hr h => ?_)
  · obtain ⟨d, ⟨a, lo, v, kd, cs, lost, cell, rfl, _⟩, _⟩ := h; rfl
  · obtain ⟨d, ⟨a, lo, v, kd, cs, lost, cell, rfl, tab, hk, G, la, dist, rv, ic, hin, rfl⟩, k⟩ := h
    refine ⟨_, PSs.nox (pss_cons (ps_expr (pe_c C_check_table hr (by decide) rfl (pa_cons (pv 0) pa_nil)))
  (pss_cons (ps_expr (pe_c C_check_lost hr (by decide) rfl (pa_cons (pv 0) (pa_cons (pv 1) pa_nil))))
  (pss_cons (ps_expr (pe_c C_check_one_lost hr (by decide) rfl (pa_cons (pv 0) (pa_cons (pv 1) (pa_cons (pv 2) pa_nil)))))
  (pss_cons (ps_set (i := 3) sc_kinds_back.nd rfl (.inr rfl) (C8.pe_mk M_Gap hr (by decide) rfl (pa_cons (pv 0) (pa_cons (pv 1) (pa_cons (pv 2) pa_nil)))))
  (pss_one (ps_ret (pe_callTy call_tuple_of (by rfl) T.n_tuple (by decide +kernel) (pa_cons (pe_lc (own := [("word", 4)]) (g := gName 4) rfl sc_kinds_back.nd (pi_tup (C8.pe_gc (v := .ref wdA) (by rfl) ⟨_, gwd, rfl⟩)) (blkOk_by (own := [("word", 4)]) (N := sc_kinds_back_N) (sc := defScope s_kinds_back) (by decide +kernel)) (fun _ _ _ _ _ => (pg_name (i := 4) sc_kinds_back.nd rfl (.inl rfl))) (fun _ _ _ _ _ => (pts_one (pt_cmpR op_notN (pe_c C_told_by hr (by decide) rfl (pa_cons (pv 4) (pa_cons (pv 3) pa_nil))) pe_non rfl))) (fun _ _ _ _ _ => (pv 4))) pa_nil)))))))), ?_⟩
    obtain ⟨lx, hlo, rl, ll, ics⟩ := id la
    refine q_drop (v := .non) (ev_pc (ea_cons (ev_var rfl) ea_nil) fun H1 e1 => ⟨a, kd, cs, rfl, tab.keep e1, rfl⟩) fun H1 e1 => ?_
    refine q_drop (v := .non) (ev_pcD (ea_cons (ev_var rfl) (ea_cons (ev_var rfl) ea_nil)) fun H2 e2 => ⟨a, lo, kd, cs, lost, rfl, tab.keep (e1.trans e2), la.ex (e1.trans e2), dist, rfl⟩) fun H2 e2 => ?_
    have e12 := e1.trans e2
    refine q_drop (v := .non) (ev_pc (ea_cons (ev_var rfl) (ea_cons (ev_var rfl) (ea_cons (ev_var rfl) ea_nil))) fun H3 e3 => ⟨a, lo, v, kd, cs, lost, cell, rfl, tab.keep (e12.trans e3), G, la.ex (e12.trans e3), rv.ex (e12.trans e3), ic, hin, rfl⟩) fun H3 e3 => ?_
    have e13 := e12.trans e3
    refine q_asgO (make_ (cons_ (var_ rfl (cons_ (var_ rfl (cons_ (var_ rfl (nil_ fun g dg hg hdg ne => ?_))))))))
    have e4 : Ex H (upd (upd H3 dg (.own g)) g (.ins CG dg [])) := (e13.trans (Ex.new hdg)).trans (Ex.new (by rw [upd_ne ne.symm]; exact hg))
    refine ⟨g, dg, a, lo, v, kd, cs, lx, lost, cell, rfl, upd_same, tab.keep e4, G, e4 _ _ hlo, rl.ex e4, ll, ics, rv.ex e4, ic, fun H5 b5 gp => ⟨rfl, ?_⟩⟩
    have e5 : Ex H H5 := fun b o hb => b5 b o (fun z => by have := e13 _ _ hb; rw [z, hg] at this; exact nomatch this) (e4 _ _ hb)
    have q := es_lcF (K := K) (tl := tC (.ref wdA)) (g := gName 4) (t := tTest (tOp (fun x y H Q => y = V.non ∧ Q (V.bl (!decide (x = .non))) H) (tCall (tbSp CN CG) [] C8.E0 (tCons (tVar 4) (tCons (tVar 3) tNil))) (tC .non))) (te := tVar 4) (vs := [4]) (σ := [some (.ref a), some (.ref lo), some v, some (.ref g), none]) (H := H5) (a := wdA) (xs := words4.map V.str) ev_c (hwd H5) (Nat.le_of_ble_eq_true rfl) (fun j => [some (.ref a), some (.ref lo), some v, some (.ref g), some (.str (words4.getD j Str.empty))]) (fun j => (toldN (words4.getD j Str.empty) (netP cs (lostB lost cell)) (netS cs (lostB lost cell)) (endsG cs lost cell) (endsG cs lost cell)).isSome) (fun j => .str (words4.getD j Str.empty)) (fun _ _ => rfl) (fun j x H6 R hx e r => by
        rw [List.getElem?_map] at hx
        obtain ⟨y, hy, rfl⟩ := Option.map_eq_some_iff.mp hx
        have ey : words4.getD j Str.empty = y := by rw [List.getD_eq_getElem?_getD, hy]; rfl
        rw [ey] at r
        exact r) (fun j x H6 hx e H7 e7 Q qq => by
        refine op_ (callO_ (cons_ (var_ rfl (cons_ (var_ rfl (nil_ ⟨_, g, netP cs (lostB lost cell), netS cs (lostB lost cell), endsG cs lost cell, rfl, (gp.ex e).ex e7, netP_nd _ _, G.snd.filter _, netP_len G _, netS_len G _, fun e he => ?_, ?_, fun v8 H8 e8 told => ⟨rfl, _, rfl, ?_⟩⟩))))))
        · exact List.contains_iff_mem.mp (List.mem_filter.mp he).2
        · have := ends_len cs cell
          have := List.length_filter_le (fun s => (netS cs (lostB lost cell)).contains s) (endsD cs cell)
          unfold endsG
          omega
        · rw [told_some told]
          exact qq H8 e8) (fun j x H6 hx e _ => er_str (ev_var rfl))
    have ek : (((List.range words4.length).filter fun j => (toldN (words4.getD j Str.empty) (netP cs (lostB lost cell)) (netS cs (lostB lost cell)) (endsG cs lost cell) (endsG cs lost cell)).isSome).map fun j => PyData.str (words4.getD j Str.empty)) = (kindsL cs lost cell).map PyData.str := by
      unfold kindsL
      rw [← range_filter (fun wd => (toldN wd (netP cs (lostB lost cell)) (netS cs (lostB lost cell)) (endsG cs lost cell) (endsG cs lost cell)).isSome) words4 Str.empty, List.map_map]
      rfl
    rw [List.length_map, ek] at q
    exact s_retR (er_tuple q) fun v9 H9 e9 r9 => k v9 H9 (e5.trans e9) r9
end
end K30
end
section
set_option Elab.async false
set_option linter.all false
set_option maxRecDepth 100000
set_option maxHeartbeats 4000000
namespace K30
open PySem PySem.Spec PyProof.Rows L2 Evl TX
open C8 (Cal pe_c pe_gc)
def dictD (zs : List (PyData × V)) : List (List Key × V) := zs.foldl (fun a z => putK a (keyOf z.1) z.2) []
theorem dict_from : ∀ (zs : List (PyData × V)) (acc : List (List Key × V)) (k : List Key), (∀ z ∈ zs, keyOf z.1 ≠ k) → valV (zs.foldl (fun a z => putK a (keyOf z.1) z.2) acc) k = valV acc k
  | [], _, _, _ => rfl
  | z :: r, acc, k, h => by
    rw [List.foldl_cons, dict_from r _ k fun y hy => h y (List.mem_cons_of_mem _ hy), valV_put, if_neg (fun e => h z List.mem_cons_self e.symm)]
theorem dict_at : ∀ (zs : List (PyData × V)) (acc : List (List Key × V)), (zs.map fun z => keyOf z.1).Nodup → ∀ z ∈ zs, valV (zs.foldl (fun a z => putK a (keyOf z.1) z.2) acc) (keyOf z.1) = some z.2
  | [], _, _, _, h => nomatch h
  | y :: r, acc, nd, z, hz => by
    obtain ⟨n1, n2⟩ := List.nodup_cons.mp nd
    rw [List.foldl_cons]
    rcases List.mem_cons.mp hz with rfl | hz'
    · rw [dict_from r _ _ fun x hx e => n1 (List.mem_map.mpr ⟨x, hx, e⟩), valV_put, if_pos rfl]
    · exact dict_at r _ n2 z hz'
theorem dict_len : ∀ (zs : List (PyData × V)) (acc : List (List Key × V)), (zs.foldl (fun a z => putK a (keyOf z.1) z.2) acc).length ≤ acc.length + zs.length
  | [], acc => by simp
  | z :: r, acc => by
    have q := dict_len r (putK acc (keyOf z.1) z.2)
    have q2 := length_putK acc (keyOf z.1) z.2
    rw [List.foldl_cons, List.length_cons]
    omega
theorem key_dat {a b : Int} (h : keyOf (datC a) = keyOf (datC b)) : a = b := by simpa [keyOf, datC] using h
theorem key_sum {a b : Str} (h : keyOf (sumC a) = keyOf (sumC b)) : a = b := by simpa [keyOf, sumC] using h
theorem key_ds {a : Int} {b : Str} : keyOf (datC a) ≠ keyOf (sumC b) := by simp [keyOf, datC, sumC]
theorem cells_nd {cs : List Col} (G : Good cs) : ((cellsL cs).map keyOf).Nodup := by
  have pm := (List.filter_append_perm isDat (cellsL cs)).map keyOf
  refine pm.nodup_iff.mp ?_
  have h1 : (cellsL cs).filter isDat = (List.range (dataOf cs).length).map fun n : Nat => datC (n : Int) := by
    have q := dat_cells cs cs.length (Nat.le_refl _)
    rw [List.take_length] at q
    exact q
  have h2 : (cellsL cs).filter (fun d => !isDat d) = (sumsOf cs).map sumC := by
    have q := sum_cells cs cs.length (Nat.le_refl _)
    rw [List.take_length] at q
    exact q
  rw [h1, h2, List.map_append, List.map_map, List.map_map, List.nodup_append]
  refine ⟨?_, ?_, ?_⟩
  · rw [List.nodup_iff_pairwise_ne, List.pairwise_map]
    exact (List.nodup_iff_pairwise_ne.mp List.nodup_range).imp fun h z => h (by have := key_dat z; omega)
  · rw [List.nodup_iff_pairwise_ne, List.pairwise_map]
    exact (List.nodup_iff_pairwise_ne.mp G.snd).imp fun h z => h (key_sum z)
  · intro x hx y hy e
    obtain ⟨n, _, rfl⟩ := List.mem_map.mp hx
    obtain ⟨s, _, rfl⟩ := List.mem_map.mp hy
    exact key_ds e
def vvL (cs : List Col) (vs : List Int) (d : PyData) : Int := match valV (dictD ((cellsL cs).zip (vs.map V.int))) (keyOf d) with
  | some (.int n) => n
  | _ => 0
theorem vv_at {cs : List Col} (G : Good cs) {vs : List Int} (l : vs.length = (cellsL cs).length) {i : Nat} {d : PyData} (hd : (cellsL cs)[i]? = some d) : valV (dictD ((cellsL cs).zip (vs.map V.int))) (keyOf d) = some (.int (vs.getD i 0)) ∧ vvL cs vs d = vs.getD i 0 := by
  have hi := (List.getElem?_eq_some_iff.mp hd).1
  have nd : (((cellsL cs).zip (vs.map V.int)).map fun z => keyOf z.1).Nodup := by
    have e : ((cellsL cs).zip (vs.map V.int)).map (fun z => keyOf z.1) = (((cellsL cs).zip (vs.map V.int)).map (·.1)).map keyOf := by rw [List.map_map]; rfl
    rw [e, List.map_fst_zip (by rw [List.length_map]; omega)]
    exact cells_nd G
  have hz : ((cellsL cs).zip (vs.map V.int))[i]? = some (d, .int (vs.getD i 0)) := by
    rw [List.getElem?_zip_eq_some]
    refine ⟨hd, ?_⟩
    rw [List.getElem?_map, List.getD_eq_getElem?_getD, List.getElem?_eq_getElem (by omega)]
    rfl
  have q := dict_at _ [] nd _ (List.mem_of_getElem? hz)
  dsimp only at q
  refine ⟨q, ?_⟩
  unfold vvL
  have q2 : valV (dictD ((cellsL cs).zip (vs.map V.int))) (keyOf d) = some (.int (vs.getD i 0)) := q
  rw [q2]
def restD (k : Kd) (cs : List Col) (lost : List PyData) (vs : List Int) : PyData := .tuple ((cellsL cs).map fun d => if (lost.any fun z => PyData.eqv z d) = true then valD k cs lost d (vvL cs vs) else .int (vvL cs vs d))
def rRest (C : Addr) : List V → Hp → PyData → Prop := fun us H d => ∃ (a lo p : Addr) (k : Kd) (cs : List Col) (lost : List PyData) (vs : List Int), us = [.ref a, .ref lo, .ref p] ∧ TabAt H C a k cs ∧ k.ok ∧ Good cs ∧ LostAt H lo cs lost ∧ (lost.map keyOf).Nodup ∧ H p = some (.tup (vs.map V.int)) ∧ vs.length = (cellsL cs).length ∧ (∀ i, i < vs.length → okV k (vs.getD i 0) (bd ((cellsL cs).getD i .none)) = true) ∧ canR k cs lost (vvL cs vs) = true ∧ d = restD k cs lost vs
section
variable {K : PySem.W.Frag} {σ : L2.St} {H : Hp} {tk tv : TE}
/-- {t: v for ..}, keys that are cells -/
theorem ed_dcTv {J : It} {n : Nat} {G : Hp → Prop} {Y : Nat → Hp → V → Hp → Prop} {wi : TI} {g : TG} {vs : List Nat} (W : Walk J n G Y) (hn : n ≤ 1000) (st : Nat → L2.St) (D : Nat → PyData) (vv : Nat → V)
    (hwi : ∀ H1, Ex H H1 → ∀ R : It → Hp → Prop, (∀ H2, Ex H1 H2 → G H2 → R J H2) → wi σ H1 R) (hG : ∀ H1 H2, Ex H1 H2 → G H1 → G H2) (hw : ∀ i, i < n → wipe (st i) vs = wipe σ vs)
    (hg : ∀ i x H1 H2 (R : L2.St → Hp → Prop), i < n → Ex H H1 → G H1 → Y i H1 x H2 → (∀ H3, Ex H1 H3 → R (st i) H3) → g x (wipe σ vs) H2 R)
    (hk : ∀ i H1, i < n → Ex H H1 → ∀ Q : VK, (∀ b H2, Ex H1 H2 → H2 b = some (.tup ((keyOf (D i)).map kV)) → Q (.ref b) H2) → tk (st i) H1 Q) (he : ∀ i H1, i < n → Ex H H1 → Ev tv (st i) H1 (vv i)) :
    ∀ H0, Ex H H0 → ∀ Q : VK, (∀ p H2, H0 p = none → Ex H0 H2 → H2 p = some (.dT (dictD ((List.range n).map fun i => (D i, vv i)))) → Q (.ref p) H2) → BE.tDcT wi g tk tv vs σ H0 Q := fun H0 e Q q => hwi H0 e _ fun H1 e1 gg Dl hD => by
  let Pv : Nat → Hp → Prop := fun i H' => Ex H1 H' ∧ H' Dl = some (.dT (dictD ((List.range i).map fun i => (D i, vv i))))
  refine ⟨fun i m H' => m = n - i ∧ i ≤ n ∧ Pv i H', ⟨n, by simp, Nat.zero_le _, Ex.new hD, upd_same⟩, ?_⟩
  rintro i m H2 ⟨rfl, hi, e2, ha⟩
  have g2 := hG H1 H2 e2 gg
  by_cases lt : i < n
  · refine .inr ⟨W.goes i H2 lt g2, Pv (i + 1), fun H3 p => ⟨n - (i + 1), by omega, rfl, lt, p⟩, fun x H3 hy => hg i x H2 H3 _ lt ((e.trans e1).trans e2) g2 (W.yields i H2 x H3 lt g2 hy) fun H4 e4 => ⟨hw i lt, ?_⟩⟩
    have x4 := ((e.trans e1).trans e2).trans e4
    refine hk i H4 lt x4 _ fun b H5 e5 hb => he i H5 lt (x4.trans e5) H5 (Ex.refl H5) _ fun H6 e6 => ?_
    have h6 := e6 _ _ (e5 _ _ (e4 _ _ ha))
    have ll := dict_len ((List.range i).map fun i => (D i, vv i)) []
    rw [List.length_map, List.length_range] at ll
    refine ⟨_, keyOf (D i), b, rfl, h6, e6 _ _ hb, sz_lt (by unfold dictD; simp only [List.length_nil] at ll; omega), Ex.mut (((e2.trans e4).trans e5).trans e6) hD, ?_⟩
    rw [upd_same, List.range_succ, List.map_append]
    unfold dictD
    rw [List.foldl_append]
    rfl
  · obtain rfl : i = n := by omega
    refine .inl ⟨W.stops H2 g2, q Dl H2 ?_ (e1.trans e2) ha⟩
    cases h : H0 Dl with
    | none => rfl
    | some o => exact absurd (e1 _ _ h) (by rw [hD]; exact fun z => nomatch z)
end
section
variable {P : Program} {w : World} {K : PySem.W.Frag} {mg : Str → Option Value} {base : Heap} {f : Addr} {fd : FuncData}
variable {C CN CP CG ed : Addr}
end
end K30
end
section
set_option Elab.async false
set_option linter.all false
set_option maxRecDepth 100000
set_option maxHeartbeats 4000000
namespace K30
open PySem PySem.Spec PyProof.Rows L2 Evl TX
open C8 (Cal pe_c pe_gc)
/-! ### sums -/
theorem sum_addF {α : Type} (f g : α → Int) : ∀ l : List α, (l.map fun x => f x + g x).sum = (l.map f).sum + (l.map g).sum
  | [] => rfl
  | x :: l => by
    rw [List.map_cons, List.map_cons, List.map_cons, List.sum_cons, List.sum_cons, List.sum_cons, sum_addF f g l]
    omega
theorem sum_congF {α : Type} {f g : α → Int} {l : List α} (h : ∀ x ∈ l, f x = g x) : (l.map f).sum = (l.map g).sum := congrArg List.sum (List.map_congr_left h)
theorem sum_scale {α : Type} (c : Int) (f : α → Int) : ∀ l : List α, (l.map fun x => c * f x).sum = c * (l.map f).sum
  | [] => by simp
  | x :: l => by
    rw [List.map_cons, List.map_cons, List.sum_cons, List.sum_cons, sum_scale c f l, Int.mul_add]
theorem sum_zeroF {α : Type} {f : α → Int} {l : List α} (h : ∀ x ∈ l, f x = 0) : (l.map f).sum = 0 := by
  induction l with
  | nil => rfl
  | cons x l ih =>
    rw [List.map_cons, List.sum_cons, h x List.mem_cons_self, ih fun y hy => h y (List.mem_cons_of_mem _ hy)]
    rfl
theorem sum_filt {α : Type} (p : α → Bool) (f : α → Int) : ∀ l : List α, ((l.filter p).map f).sum = (l.map fun x => if p x = true then f x else 0).sum
  | [] => rfl
  | x :: l => by
    rw [List.filter_cons, List.map_cons, List.sum_cons, ← sum_filt p f l]
    cases h : p x with
    | true => rw [if_pos rfl, if_pos rfl, List.map_cons, List.sum_cons]
    | false => rw [if_neg (by decide), if_neg (by decide), Int.zero_add]
theorem sum_swap {α β : Type} (F : α → β → Int) (m : List β) : ∀ l : List α, (l.map fun x => (m.map fun y => F x y).sum).sum = (m.map fun y => (l.map fun x => F x y).sum).sum
  | [] => (sum_zeroF (l := m) (f := fun y => ((([] : List α).map fun x => F x y).sum)) fun y _ => rfl).symm
  | x :: l => by
    rw [List.map_cons, List.sum_cons, sum_swap F m l, ← sum_addF]
    exact sum_congF fun y _ => by rw [List.map_cons, List.sum_cons]
theorem sum_modc {α : Type} (M : Int) {f g : α → Int} : ∀ {l : List α}, (∀ x ∈ l, f x % M = g x % M) → (l.map f).sum % M = (l.map g).sum % M
  | [], _ => rfl
  | x :: l, h => by
    rw [List.map_cons, List.map_cons, List.sum_cons, List.sum_cons, Int.add_emod, h x List.mem_cons_self, sum_modc M fun y hy => h y (List.mem_cons_of_mem _ hy), ← Int.add_emod]
theorem sum_pick {α : Type} [DecidableEq α] (a : α → Int) (u : α) : ∀ {S : List α}, S.Nodup → (S.map fun s => if s = u then a s else 0).sum = if u ∈ S then a u else 0
  | [], _ => rfl
  | s :: S, nd => by
    obtain ⟨n1, n2⟩ := List.nodup_cons.mp nd
    rw [List.map_cons, List.sum_cons, sum_pick a u n2]
    by_cases e : s = u
    · subst e
      rw [if_pos rfl, if_neg n1, if_pos List.mem_cons_self, Int.add_zero]
    · rw [if_neg e, Int.zero_add]
      by_cases q : u ∈ S
      · rw [if_pos q, if_pos (List.mem_cons_of_mem _ q)]
      · rw [if_neg q, if_neg fun z => (List.mem_cons.mp z).elim (fun z => e z.symm) q]
/-! ### all cells: sums and data -/
theorem cells_sum_to (cs : List Col) (f : PyData → Int) : ∀ i, i ≤ cs.length → (((List.range i).flatMap (cellsAt cs)).map f).sum = ((sumsOf (cs.take i)).map fun s => f (sumC s)).sum + ((List.range (dataOf (cs.take i)).length).map fun n : Nat => f (datC (n : Int))).sum
  | 0, _ => by
    rw [List.take_zero]
    rfl
  | i + 1, h => by
    have lt : i < cs.length := h
    rw [List.range_succ, List.flatMap_append, List.map_append, List.sum_append, cells_sum_to cs f i (by omega), sums_take cs i _ (getc lt), data_take cs i _ (getc lt), List.map_append, List.sum_append, List.length_append, List.range_add, List.map_append, List.sum_append]
    have e : [i].flatMap (cellsAt cs) = cellsAt cs i := by simp
    rw [e]
    unfold cellsAt cellsC
    rw [List.map_append, List.sum_append, List.map_map, List.map_map, List.map_map]
    have e2 : ((fun n : Nat => f (datC (n : Int))) ∘ fun x : Nat => (dataOf (cs.take i)).length + x) = (f ∘ fun j : Nat => datC (firstOf cs i + (j : Int))) := by
      funext x
      show f (datC (((dataOf (cs.take i)).length + x : Nat) : Int)) = f (datC (firstOf cs i + (x : Int)))
      rw [Int.natCast_add]
      rfl
    rw [e2]
    have e3 : (f ∘ sumC) = fun s => f (sumC s) := rfl
    rw [e3]
    omega
theorem cells_sum (cs : List Col) (f : PyData → Int) : ((cellsL cs).map f).sum = ((sumsOf cs).map fun s => f (sumC s)).sum + ((List.range (dataOf cs).length).map fun n : Nat => f (datC (n : Int))).sum := by
  have q := cells_sum_to cs f cs.length (Nat.le_refl _)
  rw [List.take_length] at q
  exact q
/-- what some numbers for the data come to in a cell -/
def valX (cs : List Col) (x : Nat → Int) : PyData → Int
  | .tuple [.str _, .str s] => (((List.range (dataOf cs).length).filter fun j => inPair s ((dataOf cs).getD j p0)).map x).sum
  | .tuple [.str _, .int n] => x n.toNat
  | _ => 0
theorem pair_at {cs : List Col} (G : Good cs) {n : Nat} (h : n < (dataOf cs).length) : ((dataOf cs).getD n p0).1 ∈ sumsOf cs ∧ ((dataOf cs).getD n p0).2 ∈ sumsOf cs ∧ ((dataOf cs).getD n p0).1 ≠ ((dataOf cs).getD n p0).2 := by
  have hm : (dataOf cs).getD n p0 ∈ dataOf cs := by
    rw [List.getD_eq_getElem?_getD, List.getElem?_eq_getElem h]
    exact List.getElem_mem h
  obtain ⟨c, hc, hp⟩ := List.mem_flatMap.mp hm
  obtain ⟨a, b, l⟩ := G.prs c hc _ hp
  exact ⟨a, b, fun z => by rw [z] at l; exact absurd l (List.lt_irrefl _)⟩
/-- what stands at the sums stands at the data -/
theorem sums_data {cs : List Col} (G : Good cs) (c : Str → Int) (x : Nat → Int) : ((sumsOf cs).map fun s => c s * valX cs x (sumC s)).sum = ((List.range (dataOf cs).length).map fun n => (c ((dataOf cs).getD n p0).1 + c ((dataOf cs).getD n p0).2) * x n).sum := by
  have e : ∀ s ∈ sumsOf cs, c s * valX cs x (sumC s) = ((List.range (dataOf cs).length).map fun n => if inPair s ((dataOf cs).getD n p0) = true then c s * x n else 0).sum := fun s _ => by
    show c s * (((List.range (dataOf cs).length).filter fun j => inPair s ((dataOf cs).getD j p0)).map x).sum = _
    rw [sum_filt, ← sum_scale]
    refine sum_congF fun n _ => ?_
    split
    · rfl
    · rw [Int.mul_zero]
  rw [sum_congF e, sum_swap]
  refine sum_congF fun n hn => ?_
  obtain ⟨h1, h2, h3⟩ := pair_at G (List.mem_range.mp hn)
  generalize (dataOf cs).getD n p0 = p at h1 h2 h3 ⊢
  have e2 : ∀ s ∈ sumsOf cs, (if inPair s p = true then c s * x n else 0) = (if s = p.1 then c s * x n else 0) + (if s = p.2 then c s * x n else 0) := fun s _ => by
    rw [inPair_eq]
    by_cases a : s = p.1
    · have b : ¬ s = p.2 := fun z => h3 (a.symm.trans z)
      rw [if_pos (decide_eq_true (.inl a)), if_pos a, if_neg b, Int.add_zero]
    · by_cases b : s = p.2
      · rw [if_pos (decide_eq_true (.inr b)), if_neg a, if_pos b, Int.zero_add]
      · rw [if_neg (by rw [decide_eq_false fun z => z.elim a b]; decide), if_neg a, if_neg b]
        rfl
  rw [sum_congF e2, sum_addF, sum_pick (fun s => c s * x n) p.1 G.snd, sum_pick (fun s => c s * x n) p.2 G.snd, if_pos h1, if_pos h2, Int.add_mul]
/-- what is left tells what is lost -/
theorem left_lost {cs : List Col} (G : Good cs) (L : PyData → Bool) (c : Str → Int) (x : Nat → Int) :
    ((sumsOf cs).map fun s => if L (sumC s) = true then 0 else c s * valX cs x (sumC s)).sum + ((List.range (dataOf cs).length).map fun n : Nat => if L (datC (n : Int)) = true then 0 else -((c ((dataOf cs).getD n p0).1 + c ((dataOf cs).getD n p0).2) * x n)).sum
    = ((List.range (dataOf cs).length).map fun n : Nat => if L (datC (n : Int)) = true then (c ((dataOf cs).getD n p0).1 + c ((dataOf cs).getD n p0).2) * x n else 0).sum - ((sumsOf cs).map fun s => if L (sumC s) = true then c s * valX cs x (sumC s) else 0).sum := by
  have h1 : ((sumsOf cs).map fun s => if L (sumC s) = true then 0 else c s * valX cs x (sumC s)).sum + ((sumsOf cs).map fun s => if L (sumC s) = true then c s * valX cs x (sumC s) else 0).sum = ((sumsOf cs).map fun s => c s * valX cs x (sumC s)).sum := by
    rw [← sum_addF]
    exact sum_congF fun s _ => by split <;> omega
  have h2 : ((List.range (dataOf cs).length).map fun n : Nat => if L (datC (n : Int)) = true then (c ((dataOf cs).getD n p0).1 + c ((dataOf cs).getD n p0).2) * x n else 0).sum = ((List.range (dataOf cs).length).map fun n : Nat => if L (datC (n : Int)) = true then 0 else -((c ((dataOf cs).getD n p0).1 + c ((dataOf cs).getD n p0).2) * x n)).sum + ((List.range (dataOf cs).length).map fun n => (c ((dataOf cs).getD n p0).1 + c ((dataOf cs).getD n p0).2) * x n).sum := by
    rw [← sum_addF]
    exact sum_congF fun s _ => by split <;> omega
  have h3 := sums_data G c x
  omega
/-! ### colours -/
def OkC (ss : List Str) (cl : List (Str × Int)) : Prop := ∀ q ∈ cl, q.1 ∈ ss ∧ (q.2 = 1 ∨ q.2 = -1)
theorem okc_of {ss : List Str} {cl : List (Str × Int)} (h : OkC ss cl) {s : Str} (hs : inC cl s = true) : s ∈ ss ∧ (colOf cl s = 1 ∨ colOf cl s = -1) := by
  unfold colOf
  cases e : cl.find? fun q => decide (q.1 = s) with
  | none =>
    obtain ⟨q, hq, hd⟩ := List.any_eq_true.mp hs
    exact absurd hd (List.find?_eq_none.mp e q hq)
  | some q =>
    obtain ⟨h1, h2⟩ := h q (List.mem_of_find?_eq_some e)
    have h3 : decide (q.1 = s) = true := List.find?_some (p := fun q : Str × Int => decide (q.1 = s)) e
    rw [← of_decide_eq_true h3]
    exact ⟨h1, h2⟩
theorem okc_step {ps : List (Nat × Str × Str)} {ss : List Str} {s : Str} : ∀ (ns : List Nat) (a : List Str × List (Str × Int)), (OkC ss a.2 ∧ inC a.2 s = true ∧ ∀ t ∈ a.1, inC a.2 t = true) → (OkC ss (ns.foldl (stepN ps ss s) a).2 ∧ inC (ns.foldl (stepN ps ss s) a).2 s = true ∧ ∀ t ∈ (ns.foldl (stepN ps ss s) a).1, inC (ns.foldl (stepN ps ss s) a).2 t = true)
  | [], _, h => h
  | n :: r, a, h => by
    rw [List.foldl_cons]
    refine okc_step r _ ?_
    unfold stepN
    split
    · rename_i hb
      obtain ⟨b1, b2⟩ := Bool.and_eq_true_iff.mp hb
      generalize acrossP (((ps.find? fun z => decide (z.1 = n)).map (·.2)).getD p0) s = o at b1 b2 ⊢
      obtain ⟨h1, h2, h3⟩ := h
      refine ⟨fun q hq => ?_, ?_, fun t ht => ?_⟩
      · rcases List.mem_append.mp hq with z | z
        · exact h1 q z
        · rw [List.mem_singleton.mp z]
          refine ⟨List.contains_iff_mem.mp b1, ?_⟩
          rcases (okc_of h1 h2).2 with e | e
          · exact .inr (by show -colOf a.2 s = -1; rw [e])
          · exact .inl (by show -colOf a.2 s = 1; rw [e]; rfl)
      · rw [inC_snoc, h2]
        rfl
      · rw [inC_snoc]
        rcases List.mem_append.mp ht with z | z
        · rw [h3 t z]
          rfl
        · rw [List.mem_singleton.mp z, decide_eq_true rfl, Bool.or_true]
    · exact h
theorem okc_walk {ps : List (Nat × Str × Str)} {ss : List Str} : ∀ (m : Nat) (ws : List Str) (cl : List (Str × Int)), OkC ss cl → (∀ t ∈ ws, inC cl t = true) → OkC ss (walkN ps ss m ws cl)
  | 0, _, _, h, _ => h
  | m + 1, ws, cl, h, hw => by
    cases e : ws.getLast? with
    | none =>
      rw [List.getLast?_eq_none_iff.mp e, walk_nil]
      exact h
    | some s =>
      rw [walk_step e]
      obtain ⟨a, _, b⟩ := okc_step (ps := ps) (ss := ss) (s := s) (netL ps s) (ws.dropLast, cl) ⟨h, hw s (List.mem_of_getLast? e), fun t ht => hw t (List.dropLast_subset _ ht)⟩
      exact okc_walk m _ _ a b
theorem okc_col (ps : List (Nat × Str × Str)) {ss : List Str} {s : Str} (h : s ∈ ss) : OkC ss (colN ps ss s) := okc_walk _ _ _ (fun q hq => by
  rw [List.mem_singleton.mp hq]
  exact ⟨h, .inl rfl⟩) fun t ht => by
  rw [List.mem_singleton.mp ht]
  unfold inC
  simp
theorem told_full {wd : Str} {ps : List (Nat × Str × Str)} {ss es : List Str} : ∀ {r : List Str} {x : List (Str × Int) × Int}, toldN wd ps ss es r = some x → (∃ e ∈ r, x.1 = colN ps ss e) ∧ (x.2 = 1 ∨ (x.2 = 2 ∧ (wd = "odd" ∨ wd = "plain"))) ∧ partS ps x.1 = [] ∧ (partT ps x.1 = true ∨ wd = "bits") ∧ x.2 = (es.map (colOf x.1)).sum
  | [], _, h => nomatch h
  | e :: r, x, h => by
    rw [toldN] at h
    split at h
    · obtain ⟨⟨e', he, q⟩, t⟩ := told_full h
      exact ⟨⟨e', List.mem_cons_of_mem _ he, q⟩, t⟩
    · rename_i h0
      split at h
      · rename_i c
        cases (Option.some.inj h)
        obtain ⟨a1, a2⟩ := Bool.or_eq_false_iff.mp (Bool.eq_false_iff.mpr h0)
        refine ⟨⟨e, List.mem_cons_self, rfl⟩, ?_, ?_, ?_, rfl⟩
        · rcases Bool.or_eq_true_iff.mp c with c | c
          · exact .inl (of_decide_eq_true c)
          · obtain ⟨c1, c2⟩ := Bool.and_eq_true_iff.mp c
            refine .inr ⟨of_decide_eq_true c1, ?_⟩
            rcases Bool.or_eq_true_iff.mp c2 with c2 | c2
            · exact .inl (of_decide_eq_true c2)
            · exact .inr (of_decide_eq_true c2)
        · exact List.isEmpty_iff.mp (by cases q : (partS ps (colN ps ss e)).isEmpty with | true => rfl | false => rw [q] at a1; exact nomatch a1)
        · rcases Bool.and_eq_false_iff.mp a2 with z | z
          · exact .inl (by cases q : partT ps (colN ps ss e) with | true => rfl | false => rw [q] at z; exact nomatch z)
          · exact .inr (by cases q : decide (wd = "bits") with | true => exact of_decide_eq_true q | false => rw [q] at z; exact nomatch z)
      · obtain ⟨⟨e', he, q⟩, t⟩ := told_full h
        exact ⟨⟨e', List.mem_cons_of_mem _ he, q⟩, t⟩
theorem line_even {ps : List (Nat × Str × Str)} {ss : List Str} {cl : List (Str × Int)} (ok : OkC ss cl) (h1 : partS ps cl = []) {z : Nat × Str × Str} (hz : z ∈ ps) : (colOf cl z.2.1 + colOf cl z.2.2) % 2 = 0 ∧ (partT ps cl = true → colOf cl z.2.1 + colOf cl z.2.2 = 0) := by
  by_cases a : (inC cl z.2.1 || inC cl z.2.2) = true
  · have hl : z ∈ partL ps cl := List.mem_filter.mpr ⟨hz, a⟩
    have b : (inC cl z.2.1 && inC cl z.2.2) = true := by
      cases q : (inC cl z.2.1 && inC cl z.2.2) with
      | true => rfl
      | false =>
        have : z ∈ partS ps cl := List.mem_filter.mpr ⟨hl, by rw [q]; rfl⟩
        rw [h1] at this
        exact nomatch this
    obtain ⟨b1, b2⟩ := Bool.and_eq_true_iff.mp b
    have c1 := (okc_of ok b1).2
    have c2 := (okc_of ok b2).2
    refine ⟨by omega, fun ht => ?_⟩
    have q := List.all_eq_true.mp ht z (List.mem_filter.mpr ⟨hl, b⟩)
    have ne : ¬ colOf cl z.2.1 = colOf cl z.2.2 := fun e => by rw [decide_eq_true e] at q; exact nomatch q
    omega
  · obtain ⟨a1, a2⟩ := Bool.or_eq_false_iff.mp (Bool.eq_false_iff.mpr a)
    rw [colOf_out a1, colOf_out a2]
    exact ⟨rfl, fun _ => rfl⟩
theorem lostB_has (lost : List PyData) (cell d : PyData) : hasC (lostB lost cell) d = (hasC lost d && !decide (keyOf d = keyOf cell)) := by
  unfold hasC lostB
  rw [List.any_filter]
  by_cases e : keyOf d = keyOf cell
  · rw [decide_eq_true e, Bool.not_true, Bool.and_false]
    refine List.any_eq_false.mpr fun z _ h => ?_
    obtain ⟨h1, h2⟩ := Bool.and_eq_true_iff.mp h
    rw [decide_eq_true ((of_decide_eq_true h2).trans e)] at h1
    exact nomatch h1
  · rw [decide_eq_false e, Bool.not_false, Bool.and_true]
    congr 1
    funext z
    by_cases f : keyOf z = keyOf d
    · rw [decide_eq_true f, Bool.and_true, decide_eq_false (fun g => e (f.symm.trans g))]
      rfl
    · rw [decide_eq_false f, Bool.and_false]
def modK : Kd → Int
  | .bits => 2
  | .plain => 0
  | .dial m => m
theorem red_mod (k : Kd) (i : Int) : redV k i = i % modK k := by
  cases k with
  | bits => rfl
  | plain => exact (Int.emod_zero i).symm
  | dial m => rfl
theorem keyS_is {s : Str} {d : PyData} (h : keyOf (sumC s) = keyOf d) (hd : (∃ w, d = sumC w) ∨ ∃ n, d = datC n) : d = sumC s := by
  rcases hd with ⟨w, rfl⟩ | ⟨n, rfl⟩
  · have e : ([.inr "sum", .inr s] : List Key) = [.inr "sum", .inr w] := h
    simp only [List.cons.injEq, and_true, true_and, Sum.inr.injEq] at e
    rw [e]
  · have e : ([.inr "sum", .inr s] : List Key) = [.inr "datum", .inl n] := h
    exact absurd (Sum.inr.inj (List.cons.inj e).1) (by decide +kernel)
theorem keyD_is {i : Int} {d : PyData} (h : keyOf (datC i) = keyOf d) (hd : (∃ w, d = sumC w) ∨ ∃ n, d = datC n) : d = datC i := by
  rcases hd with ⟨w, rfl⟩ | ⟨n, rfl⟩
  · have e : ([.inr "datum", .inl i] : List Key) = [.inr "sum", .inr w] := h
    exact absurd (Sum.inr.inj (List.cons.inj e).1) (by decide +kernel)
  · have e : ([.inr "datum", .inl i] : List Key) = [.inr "datum", .inl n] := h
    simp only [List.cons.injEq, and_true, true_and, Sum.inl.injEq] at e
    rw [e]
/-- what the cells that are left come to, each as often as it is told -/
theorem fac_sum {k : Kd} {cs : List Col} (G : Good cs) {lost : List PyData} (hl : ∀ d ∈ lost, isCell cs d) (cl : List (Str × Int)) (sc : Int) (x : Nat → Int) :
    (((lfL k cs lost cl sc (cellsL cs)).map fun z => z.2 * valX cs x z.1).sum) % modK k = (sc * (((List.range (dataOf cs).length).map fun n : Nat => if hasC lost (datC (n : Int)) = true then (colOf cl ((dataOf cs).getD n p0).1 + colOf cl ((dataOf cs).getD n p0).2) * x n else 0).sum - ((sumsOf cs).map fun s => if hasC lost (sumC s) = true then colOf cl s * valX cs x (sumC s) else 0).sum)) % modK k := by
  rw [← left_lost G (hasC lost) (colOf cl) x, Int.mul_add, ← sum_scale, ← sum_scale]
  unfold lfL
  rw [List.map_map, sum_filt]
  have e1 : ((cellsL cs).map fun d => if (!decide (facK k cs cl sc d = 0) && !(lost.any fun z => PyData.eqv z d)) = true then ((fun z : PyData × Int => z.2 * valX cs x z.1) ∘ fun d => (d, facK k cs cl sc d)) d else 0).sum % modK k
      = ((cellsL cs).map fun d => if hasC lost d = true then 0 else (if firstS d = "sum" then colourD cs cl d * sc else -(colourD cs cl d) * sc) * valX cs x d).sum % modK k := by
    refine sum_modc _ fun d hd => ?_
    rw [any_has (cell_is hd) hl]
    show (if (!decide (facK k cs cl sc d = 0) && !hasC lost d) = true then facK k cs cl sc d * valX cs x d else 0) % modK k = _
    cases hh : hasC lost d with
    | true => rw [Bool.not_true, Bool.and_false, if_neg (by decide), if_pos rfl]
    | false =>
      rw [if_neg (by decide : ¬ false = true)]
      have ef : (if (!decide (facK k cs cl sc d = 0) && !false) = true then facK k cs cl sc d * valX cs x d else 0) = facK k cs cl sc d * valX cs x d := by
        by_cases z : facK k cs cl sc d = 0
        · rw [decide_eq_true z, if_neg (by decide), z, Int.zero_mul]
        · rw [decide_eq_false z]
          exact if_pos rfl
      rw [ef]
      unfold facK
      rw [red_mod, Int.mul_emod, Int.emod_emod_of_dvd _ (Int.dvd_refl _), ← Int.mul_emod]
  rw [e1, cells_sum]
  congr 2
  · refine sum_congF fun s _ => ?_
    by_cases h : hasC lost (sumC s) = true
    · rw [if_pos h, if_pos h, Int.mul_zero]
    · rw [if_neg h, if_neg h]
      show (if firstS (sumC s) = "sum" then colourD cs cl (sumC s) * sc else _) * _ = _
      rw [if_pos (by rfl : firstS (sumC s) = "sum")]
      have : colourD cs cl (sumC s) = colOf cl s := by
        show (([s] : List Str).map (colOf cl)).sum = _
        simp
      rw [this, Int.mul_comm (colOf cl s) sc, Int.mul_assoc]
  · refine sum_congF fun n _ => ?_
    by_cases h : hasC lost (datC (n : Int)) = true
    · rw [if_pos h, if_pos h, Int.mul_zero]
    · rw [if_neg h, if_neg h]
      rw [if_neg (by show ¬ ("datum" : Str) = "sum"; decide +kernel)]
      have : colourD cs cl (datC (n : Int)) = colOf cl ((dataOf cs).getD n p0).1 + colOf cl ((dataOf cs).getD n p0).2 := by
        show (([((dataOf cs).getD (n : Int).toNat p0).1, ((dataOf cs).getD (n : Int).toNat p0).2] : List Str).map (colOf cl)).sum = _
        simp
      have e4 : valX cs x (datC (n : Int)) = x n := rfl
      rw [this, e4, Int.neg_mul, Int.neg_mul, Int.mul_neg, Int.mul_comm _ sc, Int.mul_assoc]
theorem ends_col {cs : List Col} {lost : List PyData} {cell : PyData} {cl : List (Str × Int)} (ok : OkC (netS cs (lostB lost cell)) cl) : ((endsG cs lost cell).map (colOf cl)).sum = ((endsD cs cell).map (colOf cl)).sum := by
  unfold endsG
  rw [sum_filt]
  refine sum_congF fun s _ => ?_
  by_cases h : (netS cs (lostB lost cell)).contains s = true
  · rw [if_pos h]
  · rw [if_neg h]
    refine (colOf_out ?_).symm
    cases q : inC cl s with
    | false => rfl
    | true => exact absurd (List.contains_iff_mem.mpr (okc_of ok q).1) h
theorem netP_in {cs : List Col} {lost : List PyData} {n : Nat} (h : n < (dataOf cs).length) (hh : hasC lost (datC (n : Int)) = true) : (n, (dataOf cs).getD n p0) ∈ netP cs lost :=
  List.mem_map.mpr ⟨n, List.mem_filter.mpr ⟨List.mem_range.mpr h, hh⟩, rfl⟩
theorem word_bits {k : Kd} (h : wordK k = "bits") : k = .bits := by
  cases k with
  | bits => rfl
  | plain => exact absurd (show ("plain" : Str) = "bits" from h) (by decide +kernel)
  | dial m =>
    have h2 : (if m % 2 = 0 then ("even" : Str) else "odd") = "bits" := h
    split at h2
    · exact absurd h2 (by decide +kernel)
    · exact absurd h2 (by decide +kernel)
/-- the recipe, in numbers -/
theorem rec_core {k : Kd} {cs : List Col} (G : Good cs) {lost : List PyData} (hl : ∀ d ∈ lost, isCell cs d) {cell : PyData} (ic : isCell cs cell) (hc : hasC lost cell = true) {cl : List (Str × Int)} {t : Int} (h : toldC k cs lost cell = some (cl, t)) (sc : Int) (x : Nat → Int) :
    (((lfL k cs lost cl sc (cellsL cs)).map fun z => z.2 * valX cs x z.1).sum) % modK k = (sc * (if firstS cell = "sum" then -(valX cs x cell) else t * valX cs x cell)) % modK k := by
  obtain ⟨⟨e, he, ec⟩, ht, h1, h2, hs⟩ := told_full h
  dsimp only at ec ht h1 h2 hs
  have ess : e ∈ netS cs (lostB lost cell) := List.contains_iff_mem.mp (List.mem_filter.mp he).2
  have ok : OkC (netS cs (lostB lost cell)) cl := by rw [ec]; exact okc_col _ ess
  rw [ends_col ok] at hs
  rw [fac_sum G hl]
  have ld : ∀ n, n < (dataOf cs).length → hasC (lostB lost cell) (datC (n : Int)) = true → (colOf cl ((dataOf cs).getD n p0).1 + colOf cl ((dataOf cs).getD n p0).2) % modK k = 0 := fun n hn hh => by
    obtain ⟨a, b⟩ := line_even ok h1 (netP_in hn hh)
    rcases h2 with h2 | h2
    · have := b h2
      dsimp only at this
      rw [this, Int.zero_emod]
    · rw [word_bits h2]
      exact a
  have lsum : ∀ s, hasC lost (sumC s) = true → keyOf (sumC s) ≠ keyOf cell → colOf cl s = 0 := fun s h3 h4 => by
    refine colOf_out ?_
    cases q : inC cl s with
    | false => rfl
    | true =>
      have z := (List.mem_filter.mp (okc_of ok q).1).2
      rw [lostB_has, h3, decide_eq_false h4] at z
      exact nomatch z
  rcases ic with ⟨s0, rfl, hs0⟩ | ⟨n0, rfl, n00, n01⟩
  · have fs : firstS (sumC s0) = "sum" := rfl
    rw [if_pos fs]
    have t1 : colOf cl s0 = 1 := by
      have e0 : ((endsD cs (sumC s0)).map (colOf cl)).sum = colOf cl s0 := by
        show (([s0] : List Str).map (colOf cl)).sum = _
        simp
      rw [e0] at hs
      have sm : smallC cl := by rw [ec]; exact col_small _ _ _
      have := sm s0
      omega
    have eS : ((sumsOf cs).map fun s => if hasC lost (sumC s) = true then colOf cl s * valX cs x (sumC s) else 0).sum = valX cs x (sumC s0) := by
      have e2 : ∀ s ∈ sumsOf cs, (if hasC lost (sumC s) = true then colOf cl s * valX cs x (sumC s) else 0) = if s = s0 then valX cs x (sumC s) else 0 := fun s _ => by
        by_cases q : s = s0
        · rw [q, if_pos hc, if_pos rfl, t1, Int.one_mul]
        · rw [if_neg q]
          split
          · rename_i hh
            rw [lsum s hh (fun z => q (by
              have := keyS_is z (.inl ⟨s0, rfl⟩)
              unfold sumC at this
              simp only [PyData.tuple.injEq, List.cons.injEq, PyData.str.injEq, and_true, true_and] at this
              exact this.symm)), Int.zero_mul]
          · rfl
      rw [sum_congF e2, sum_pick (fun s => valX cs x (sumC s)) s0 G.snd, if_pos hs0]
    rw [eS]
    have eD : ((List.range (dataOf cs).length).map fun n : Nat => if hasC lost (datC (n : Int)) = true then (colOf cl ((dataOf cs).getD n p0).1 + colOf cl ((dataOf cs).getD n p0).2) * x n else 0).sum % modK k = 0 % modK k := by
      have q := sum_modc (modK k) (f := fun n : Nat => if hasC lost (datC (n : Int)) = true then (colOf cl ((dataOf cs).getD n p0).1 + colOf cl ((dataOf cs).getD n p0).2) * x n else 0) (g := fun _ => (0 : Int)) (l := List.range (dataOf cs).length) fun n hn => by
        show (if hasC lost (datC (n : Int)) = true then (colOf cl ((dataOf cs).getD n p0).1 + colOf cl ((dataOf cs).getD n p0).2) * x n else 0) % modK k = 0 % modK k
        split
        · rename_i hh
          have hk : keyOf (datC (n : Int)) ≠ keyOf (sumC s0) := fun z => by
            have := keyS_is z.symm (.inr ⟨_, rfl⟩)
            unfold sumC datC at this
            simp only [PyData.tuple.injEq, List.cons.injEq, reduceCtorEq, and_false, false_and] at this
          rw [Int.mul_emod, ld n (List.mem_range.mp hn) (by rw [lostB_has, hh, decide_eq_false hk]; rfl), Int.zero_mul]
        · rfl
      rw [q, sum_zeroF fun _ _ => rfl]
    rw [Int.mul_emod, Int.sub_emod, eD, ← Int.sub_emod, ← Int.mul_emod, Int.zero_sub]
  · have fd : ¬ firstS (datC n0) = "sum" := by show ¬ ("datum" : Str) = "sum"; decide +kernel
    rw [if_neg fd]
    obtain ⟨m, rfl⟩ := Int.eq_ofNat_of_zero_le n00
    rw [Int.toNat_natCast] at n01
    have e0 : ((endsD cs (datC (m : Int))).map (colOf cl)).sum = colOf cl ((dataOf cs).getD m p0).1 + colOf cl ((dataOf cs).getD m p0).2 := by
      show (([((dataOf cs).getD (m : Int).toNat p0).1, ((dataOf cs).getD (m : Int).toNat p0).2] : List Str).map (colOf cl)).sum = _
      simp
    rw [e0] at hs
    have eS : ((sumsOf cs).map fun s => if hasC lost (sumC s) = true then colOf cl s * valX cs x (sumC s) else 0).sum = 0 := sum_zeroF fun s _ => by
      split
      · rename_i hh
        rw [lsum s hh (fun z => by
          have := keyS_is z (.inr ⟨_, rfl⟩)
          unfold sumC datC at this
          simp only [PyData.tuple.injEq, List.cons.injEq, reduceCtorEq, and_false, false_and] at this), Int.zero_mul]
      · rfl
    rw [eS, Int.sub_zero]
    have eD : ((List.range (dataOf cs).length).map fun n : Nat => if hasC lost (datC (n : Int)) = true then (colOf cl ((dataOf cs).getD n p0).1 + colOf cl ((dataOf cs).getD n p0).2) * x n else 0).sum % modK k = (t * x m) % modK k := by
      have q := sum_modc (modK k) (f := fun n : Nat => if hasC lost (datC (n : Int)) = true then (colOf cl ((dataOf cs).getD n p0).1 + colOf cl ((dataOf cs).getD n p0).2) * x n else 0) (g := fun n => if n = m then t * x n else 0) (l := List.range (dataOf cs).length) fun n hn => by
        by_cases e : n = m
        · subst e
          show (if hasC lost (datC (n : Int)) = true then _ else 0) % modK k = (if n = n then t * x n else 0) % modK k
          rw [if_pos hc, if_pos rfl, hs]
        · show (if hasC lost (datC (n : Int)) = true then (colOf cl ((dataOf cs).getD n p0).1 + colOf cl ((dataOf cs).getD n p0).2) * x n else 0) % modK k = (if n = m then t * x n else 0) % modK k
          rw [if_neg e]
          split
          · rename_i hh
            have hk : keyOf (datC (n : Int)) ≠ keyOf (datC (m : Int)) := fun z => by
              have := keyD_is z (.inr ⟨_, rfl⟩)
              unfold datC at this
              simp only [PyData.tuple.injEq, List.cons.injEq, PyData.int.injEq, and_true, true_and] at this
              omega
            rw [Int.mul_emod, ld n (List.mem_range.mp hn) (by rw [lostB_has, hh, decide_eq_false hk]; rfl), Int.zero_mul]
          · rfl
      rw [q, sum_pick (fun n => t * x n) m List.nodup_range, if_pos (List.mem_range.mpr n01)]
    have ev : valX cs x (datC (m : Int)) = x m := rfl
    rw [ev, Int.mul_emod, eD, ← Int.mul_emod]
def bitI (i : Nat) (v : Int) : Int := if v.toNat.testBit i = true then 1 else 0
theorem bit_fold (i : Nat) : ∀ (l : List Nat) (a : Nat), bitI i ((l.foldl (fun a b => a ^^^ b) a : Nat) : Int) % 2 = (bitI i (a : Int) + (l.map fun n : Nat => bitI i (n : Int)).sum) % 2
  | [], a => by
    show bitI i (a : Int) % 2 = (bitI i (a : Int) + 0) % 2
    rw [Int.add_zero]
  | b :: l, a => by
    rw [List.foldl_cons, bit_fold i l, List.map_cons, List.sum_cons]
    have e : bitI i ((a ^^^ b : Nat) : Int) % 2 = (bitI i (a : Int) + bitI i (b : Int)) % 2 := by
      unfold bitI
      rw [Int.toNat_natCast, Int.toNat_natCast, Int.toNat_natCast, Nat.testBit_xor]
      cases a.testBit i <;> cases b.testBit i <;> rfl
    omega
theorem natsI_of : ∀ {l : List Int}, (∀ x ∈ l, 0 ≤ x) → ∃ ns : List Nat, l = ns.map fun n : Nat => (n : Int)
  | [], _ => ⟨[], rfl⟩
  | x :: l, h => by
    obtain ⟨ns, e⟩ := natsI_of fun y hy => h y (List.mem_cons_of_mem x hy)
    obtain ⟨n, en⟩ := Int.eq_ofNat_of_zero_le (h x List.mem_cons_self)
    exact ⟨n :: ns, by rw [e, en]; rfl⟩
theorem bit_tog (i : Nat) {l : List Int} (h : ∀ x ∈ l, 0 ≤ x) : 0 ≤ tog .bits l ∧ bitI i (tog .bits l) % 2 = (l.map (bitI i)).sum % 2 := by
  obtain ⟨ns, rfl⟩ := natsI_of h
  have e : tog .bits (ns.map fun n : Nat => (n : Int)) = ((ns.foldl (fun a b => a ^^^ b) 0 : Nat) : Int) := fold_cast ns 0
  rw [e]
  refine ⟨Int.natCast_nonneg _, ?_⟩
  rw [bit_fold, List.map_map]
  have z : bitI i ((0 : Nat) : Int) = 0 := by unfold bitI; simp
  rw [z, Int.zero_add]
  rfl
theorem bit_ext {a b : Int} (ha : 0 ≤ a) (hb : 0 ≤ b) (h : ∀ i, bitI i a % 2 = bitI i b % 2) : a = b := by
  obtain ⟨m, rfl⟩ := Int.eq_ofNat_of_zero_le ha
  obtain ⟨n, rfl⟩ := Int.eq_ofNat_of_zero_le hb
  refine congrArg Int.ofNat (Nat.eq_of_testBit_eq fun i => ?_)
  have q := h i
  unfold bitI at q
  rw [Int.toNat_natCast, Int.toNat_natCast] at q
  cases e : m.testBit i <;> cases f : n.testBit i <;> first | rfl | (rw [e, f] at q; exact absurd q (by decide))
theorem told_X {k : Kd} {cs : List Col} {ns : List Int} (hb : k ≠ .bits) {d : PyData} (hd : (∃ w, d = sumC w) ∨ ∃ n, d = datC n) : told k cs ns d % modK k = valX cs (fun j => ns.getD j 0) d % modK k := by
  rcases hd with ⟨s, rfl⟩ | ⟨n, rfl⟩
  · rw [told_sum]
    show tog k _ % _ = (((List.range (dataOf cs).length).filter fun j => inPair s ((dataOf cs).getD j p0)).map fun j => ns.getD j 0).sum % _
    generalize (((List.range (dataOf cs).length).filter fun j => inPair s ((dataOf cs).getD j p0)).map fun j => ns.getD j 0) = l
    cases k with
    | bits => exact absurd rfl hb
    | plain => rfl
    | dial m => exact Int.emod_emod_of_dvd _ (Int.dvd_refl _)
  · rfl
theorem inK_nn {n : Int} (h : inK .bits n) : 0 ≤ n := h
theorem getD_nn {ns : List Int} (h : ∀ n ∈ ns, 0 ≤ n) (j : Nat) : 0 ≤ ns.getD j 0 := by
  rw [List.getD_eq_getElem?_getD]
  cases e : ns[j]? with
  | none => exact Int.le_refl _
  | some x => exact h x (List.mem_of_getElem? e)
theorem told_bit {cs : List Col} {ns : List Int} (h : ∀ n ∈ ns, 0 ≤ n) {d : PyData} (hd : (∃ w, d = sumC w) ∨ ∃ n, d = datC n) : 0 ≤ told .bits cs ns d ∧ ∀ i, bitI i (told .bits cs ns d) % 2 = valX cs (fun j => bitI i (ns.getD j 0)) d % 2 := by
  rcases hd with ⟨s, rfl⟩ | ⟨n, rfl⟩
  · rw [told_sum]
    have nn : ∀ x ∈ (((List.range (dataOf cs).length).filter fun j => inPair s ((dataOf cs).getD j p0)).map fun j => ns.getD j 0), 0 ≤ x := fun x hx => by
      obtain ⟨j, _, rfl⟩ := List.mem_map.mp hx
      exact getD_nn h j
    refine ⟨(bit_tog 0 nn).1, fun i => ?_⟩
    rw [(bit_tog i nn).2, List.map_map]
    rfl
  · exact ⟨getD_nn h _, fun i => rfl⟩
theorem told_small {m : Int} {cs : List Col} {ns : List Int} (m0 : 0 < m) (hn : ∀ n ∈ ns, 0 ≤ n ∧ n < m) {d : PyData} (hd : (∃ w, d = sumC w) ∨ ∃ n, d = datC n) : told (.dial m) cs ns d % m = told (.dial m) cs ns d := by
  rcases hd with ⟨s, rfl⟩ | ⟨n, rfl⟩
  · rw [told_sum]
    exact Int.emod_emod_of_dvd _ (Int.dvd_refl _)
  · show ns.getD n.toNat 0 % m = ns.getD n.toNat 0
    rw [List.getD_eq_getElem?_getD]
    cases e : ns[n.toNat]? with
    | none => exact Int.zero_emod _
    | some x =>
      obtain ⟨a, b⟩ := hn x (List.mem_of_getElem? e)
      exact Int.emod_eq_of_lt a b
theorem rec_fs {k : Kd} {cs : List Col} {lost : List PyData} {cell : PyData} {m : Int} {fs : List (PyData × Int)} (h : recK k cs lost cell = some (m, fs)) : ∃ (cl : List (Str × Int)) (t sc : Int), toldC k cs lost cell = some (cl, t) ∧ fs = lfL k cs lost cl sc (cellsL cs) ∧
    ((firstS cell = "sum" ∧ m = 1 ∧ sc = -1) ∨ (firstS cell ≠ "sum" ∧ m = t ∧ sc = 1 ∧ (t = 1 ∨ k = .plain)) ∨ (firstS cell ≠ "sum" ∧ m = 1 ∧ t = 2 ∧ ∃ M, k = .dial M ∧ M % 2 = 1 ∧ sc = (M + 1) / 2)) := by
  unfold recK at h
  cases q : toldC k cs lost cell with
  | none => rw [q] at h; exact nomatch h
  | some x =>
    obtain ⟨cl, t⟩ := x
    rw [q] at h
    obtain ⟨_, et⟩ := told_is q
    dsimp only at h et
    split at h
    · rename_i hs
      cases (Option.some.inj h)
      exact ⟨cl, t, -1, rfl, rfl, .inl ⟨hs, rfl, rfl⟩⟩
    · rename_i hs
      split at h
      · rename_i hb
        cases (Option.some.inj h)
        refine ⟨cl, _, 1, rfl, rfl, .inr (.inl ⟨hs, rfl, rfl, ?_⟩)⟩
        rcases Bool.or_eq_true_iff.mp hb with z | z
        · exact .inl (of_decide_eq_true z)
        · cases k with
          | plain => exact .inr rfl
          | bits => exact nomatch z
          | dial m => exact nomatch z
      · rename_i hb
        cases (Option.some.inj h)
        obtain ⟨h1, h2⟩ := Bool.or_eq_false_iff.mp (Bool.eq_false_iff.mpr hb)
        have nt := of_decide_eq_false h1
        rcases et with et | ⟨et, ew⟩
        · exact absurd et nt
        · cases k with
          | plain => exact nomatch h2
          | bits => rcases ew with z | z <;> exact absurd (show ("bits" : Str) = _ from z) (by decide +kernel)
          | dial M =>
            have ho : M % 2 = 1 := by
              have ew2 : (if M % 2 = 0 then ("even" : Str) else "odd") = "odd" ∨ (if M % 2 = 0 then ("even" : Str) else "odd") = "plain" := ew
              by_cases e : M % 2 = 0
              · rw [if_pos e] at ew2
                rcases ew2 with z | z <;> exact absurd z (by decide +kernel)
              · omega
            exact ⟨cl, t, _, rfl, rfl, .inr (.inr ⟨hs, rfl, et, M, rfl, ho, rfl⟩)⟩
theorem lf_mem {k : Kd} {cs : List Col} {lost : List PyData} {cl : List (Str × Int)} {sc : Int} {z : PyData × Int} (h : z ∈ lfL k cs lost cl sc (cellsL cs)) : z.1 ∈ cellsL cs ∧ (lost.any fun y => PyData.eqv y z.1) = false ∧ z.2 = facK k cs cl sc z.1 ∧ z.2 ≠ 0 := by
  obtain ⟨d, hd, rfl⟩ := List.mem_map.mp h
  obtain ⟨h1, h2⟩ := List.mem_filter.mp hd
  obtain ⟨a, b⟩ := Bool.and_eq_true_iff.mp h2
  refine ⟨h1, ?_, rfl, fun e => ?_⟩
  · cases q : (lost.any fun y => PyData.eqv y d) with
    | false => rfl
    | true => rw [q] at b; exact nomatch b
  · dsimp only at e
    rw [decide_eq_true e] at a
    exact nomatch a
/-- a recipe gives the cell, times the divisor -/
theorem rec_sound {k : Kd} (hk : k.ok) {cs : List Col} (G : Good cs) {lost : List PyData} (hl : ∀ d ∈ lost, isCell cs d) {cell : PyData} (ic : isCell cs cell) (hc : hasC lost cell = true) {ns : List Int} (hn : ∀ n ∈ ns, okV k n b30 = true) {m : Int} {fs : List (PyData × Int)} (h : recK k cs lost cell = some (m, fs)) :
    tog k (fs.map fun z => z.2 * told k cs ns z.1) = (if isPlain k = true then m * told k cs ns cell else told k cs ns cell) := by
  obtain ⟨cl, t, sc, hT, rfl, hcase⟩ := rec_fs h
  have icd : (∃ w, cell = sumC w) ∨ ∃ n, cell = datC n := cell_kinds ic
  have core := rec_core G hl ic hc hT sc
  have mem := fun z (hz : z ∈ lfL k cs lost cl sc (cellsL cs)) => lf_mem hz
  have kinds := fun z hz => cell_kinds (cell_is (mem z hz).1)
  cases k with
  | plain =>
    rw [if_pos (show isPlain Kd.plain = true from rfl)]
    have q := core fun j => ns.getD j 0
    have e0 : ∀ i : Int, i % modK .plain = i := Int.emod_zero
    rw [e0, e0] at q
    have eX : ∀ d, ((∃ w, d = sumC w) ∨ ∃ n, d = datC n) → told .plain cs ns d = valX cs (fun j => ns.getD j 0) d := fun d hd => by
      have := told_X (k := .plain) (cs := cs) (ns := ns) (fun z => nomatch z) hd
      rw [e0, e0] at this
      exact this
    show ((lfL .plain cs lost cl sc (cellsL cs)).map fun z => z.2 * told .plain cs ns z.1).sum = _
    rw [sum_congF fun z hz => by rw [eX z.1 (kinds z hz)], q, eX cell icd]
    rcases hcase with ⟨a, rfl, rfl⟩ | ⟨a, rfl, rfl, _⟩ | ⟨_, _, _, M, z, _⟩
    · rw [if_pos a, Int.neg_mul, Int.one_mul, Int.neg_neg, Int.one_mul]
    · rw [if_neg a, Int.one_mul]
    · exact nomatch z
  | dial M =>
    have m0 : 0 < M := by have := hk.1; omega
    have hs : ∀ n ∈ ns, 0 ≤ n ∧ n < M := fun n h2 => by
      have := hn n h2
      obtain ⟨a, b⟩ := Bool.and_eq_true_iff.mp (show (decide (0 ≤ n) && decide (n ≤ M - 1)) = true from this)
      have := of_decide_eq_true a
      have := of_decide_eq_true b
      omega
    rw [if_neg (show ¬ isPlain (Kd.dial M) = true from fun z => nomatch z)]
    have q := core fun j => ns.getD j 0
    show ((lfL (.dial M) cs lost cl sc (cellsL cs)).map fun z => z.2 * told (.dial M) cs ns z.1).sum % M = _
    have e1 : ((lfL (.dial M) cs lost cl sc (cellsL cs)).map fun z => z.2 * told (.dial M) cs ns z.1).sum % M = ((lfL (.dial M) cs lost cl sc (cellsL cs)).map fun z => z.2 * valX cs (fun j => ns.getD j 0) z.1).sum % M := sum_modc M fun z hz => by
      have := told_X (k := .dial M) (cs := cs) (ns := ns) (fun z => nomatch z) (kinds z hz)
      rw [Int.mul_emod, show told (.dial M) cs ns z.1 % M = valX cs (fun j => ns.getD j 0) z.1 % M from this, ← Int.mul_emod]
    rw [e1, show _ % M = _ from q]
    have eC : told (.dial M) cs ns cell = valX cs (fun j => ns.getD j 0) cell % M := by
      rw [← told_small m0 hs icd]
      exact told_X (k := .dial M) (fun z => nomatch z) icd
    rw [eC]
    show _ % M = _
    rcases hcase with ⟨a, rfl, rfl⟩ | ⟨a, rfl, rfl, z⟩ | ⟨a, rfl, rfl, M', z, ho, rfl⟩
    · rw [if_pos a, Int.neg_mul, Int.one_mul, Int.neg_neg]
    · rcases z with rfl | z
      · rw [if_neg a, Int.one_mul, Int.one_mul]
      · exact nomatch z
    · cases z
      rw [if_neg a, ← Int.mul_assoc]
      have : (M + 1) / 2 * 2 = M + 1 := by omega
      rw [this, Int.add_mul, Int.one_mul, Int.add_emod, Int.mul_emod_right, Int.zero_add, Int.emod_emod_of_dvd _ (Int.dvd_refl _)]
  | bits =>
    have hnn : ∀ n ∈ ns, 0 ≤ n := fun n h2 => inK_nn (okV_inK (hn n h2))
    rw [if_neg (show ¬ isPlain Kd.bits = true from fun z => nomatch z)]
    have f1 : ∀ z ∈ lfL .bits cs lost cl sc (cellsL cs), z.2 = 1 := fun z hz => by
      obtain ⟨_, _, e, ne⟩ := mem z hz
      have : z.2 = (if firstS z.1 = "sum" then colourD cs cl z.1 * sc else -(colourD cs cl z.1) * sc) % 2 := e
      omega
    have e1 : ((lfL .bits cs lost cl sc (cellsL cs)).map fun z => z.2 * told .bits cs ns z.1) = (lfL .bits cs lost cl sc (cellsL cs)).map fun z => told .bits cs ns z.1 := List.map_congr_left fun z hz => by rw [f1 z hz, Int.one_mul]
    rw [e1]
    have nn : ∀ x ∈ (lfL .bits cs lost cl sc (cellsL cs)).map fun z => told .bits cs ns z.1, 0 ≤ x := fun x hx => by
      obtain ⟨z, hz, rfl⟩ := List.mem_map.mp hx
      exact (told_bit hnn (kinds z hz)).1
    refine bit_ext (bit_tog 0 nn).1 (told_bit hnn icd).1 fun i => ?_
    rw [(bit_tog i nn).2, (told_bit hnn icd).2 i, List.map_map]
    have q := core fun j => bitI i (ns.getD j 0)
    have e2 : ((lfL .bits cs lost cl sc (cellsL cs)).map ((bitI i) ∘ fun z => told .bits cs ns z.1)).sum % 2 = ((lfL .bits cs lost cl sc (cellsL cs)).map fun z => z.2 * valX cs (fun j => bitI i (ns.getD j 0)) z.1).sum % 2 := sum_modc 2 fun z hz => by
      rw [f1 z hz, Int.one_mul]
      exact (told_bit hnn (kinds z hz)).2 i
    refine e2.trans (q.trans ?_)
    show _ % (2 : Int) = _
    rcases hcase with ⟨a, rfl, rfl⟩ | ⟨a, rfl, rfl, z⟩ | ⟨_, _, _, M, z, _⟩
    · rw [if_pos a, Int.neg_mul, Int.one_mul, Int.neg_neg]
    · rcases z with rfl | z
      · rw [if_neg a, Int.one_mul, Int.one_mul]
      · exact nomatch z
    · exact nomatch z
end K30
end
section
set_option Elab.async false
set_option linter.all false
set_option maxRecDepth 100000
set_option maxHeartbeats 4000000
namespace K30
open PySem PySem.Spec PyProof.Rows L2 Evl TX
open C8 (Cal pe_c pe_gc)
/-! ### what may be changed: flows -/
def bnd (ps : List (Nat × Str × Str)) (x : Nat → Int) (t : Str) : Int := (ps.map fun z => if inPair t z.2 = true then x z.1 else 0).sum
theorem bnd_add (ps : List (Nat × Str × Str)) (x y : Nat → Int) (t : Str) : bnd ps (fun n => x n + y n) t = bnd ps x t + bnd ps y t := by
  unfold bnd
  rw [← sum_addF]
  exact sum_congF fun z _ => by
    show (if inPair t z.2 = true then x z.1 + y z.1 else 0) = (if inPair t z.2 = true then x z.1 else 0) + (if inPair t z.2 = true then y z.1 else 0)
    split <;> omega
theorem no2 {u a b : Str} (h : ¬ (u = a ∨ u = b)) : ¬ decide (u = a ∨ u = b) = true := by
  rw [decide_eq_false h]
  decide
theorem bnd_mul (ps : List (Nat × Str × Str)) (c : Int) (x : Nat → Int) (t : Str) : bnd ps (fun n => c * x n) t = c * bnd ps x t := by
  unfold bnd
  rw [← sum_scale]
  refine sum_congF fun z _ => ?_
  split
  · rfl
  · rw [Int.mul_zero]
theorem bnd_one {ps : List (Nat × Str × Str)} (nd : (ps.map (·.1)).Nodup) {z : Nat × Str × Str} (hz : z ∈ ps) (c : Int) (t : Str) : bnd ps (fun n => if n = z.1 then c else 0) t = if inPair t z.2 = true then c else 0 := by
  have e : bnd ps (fun n => if n = z.1 then c else 0) t = ((ps.map (·.1)).map fun n => if n = z.1 then (if inPair t z.2 = true then c else 0) else 0).sum := by
    unfold bnd
    rw [List.map_map]
    refine sum_congF fun y hy => ?_
    show (if inPair t y.2 = true then (if y.1 = z.1 then c else 0) else 0) = (if y.1 = z.1 then (if inPair t z.2 = true then c else 0) else 0)
    by_cases h : y.1 = z.1
    · rw [nod_eq nd hy hz h]
      split <;> simp
    · rw [if_neg h, if_neg h]
      split <;> rfl
  rw [e, sum_pick (fun _ => if inPair t z.2 = true then c else 0) z.1 nd, if_pos (List.mem_map.mpr ⟨z, hz, rfl⟩)]
theorem netL_full {ps : List (Nat × Str × Str)} {s : Str} {n : Nat} (h : n ∈ netL ps s) : ∃ z ∈ ps, z.1 = n ∧ (z.2.1 = s ∨ z.2.2 = s) := by
  obtain ⟨z, hz, hn⟩ := List.mem_flatMap.mp h
  obtain ⟨t, ht, e⟩ := List.mem_map.mp hn
  obtain ⟨h1, h2⟩ := List.mem_filter.mp ht
  have h2 := of_decide_eq_true h2
  simp only [List.mem_cons, List.not_mem_nil, or_false] at h1
  exact ⟨z, hz, e, h1.elim (fun q => .inl (q.symm.trans h2)) fun q => .inr (q.symm.trans h2)⟩
theorem netL_of {ps : List (Nat × Str × Str)} {s : Str} {z : Nat × Str × Str} (hz : z ∈ ps) (h : z.2.1 = s ∨ z.2.2 = s) : z.1 ∈ netL ps s := by
  refine List.mem_flatMap.mpr ⟨z, hz, List.mem_map.mpr ⟨s, List.mem_filter.mpr ⟨?_, decide_eq_true rfl⟩, rfl⟩⟩
  rcases h with h | h
  · rw [h]; exact List.mem_cons_self
  · rw [h]; exact List.mem_cons_of_mem _ List.mem_cons_self
theorem across_is {z : Str × Str} {s : Str} (hs : z.1 = s ∨ z.2 = s) (ne : z.1 ≠ z.2) : acrossP z s ≠ s ∧ ∀ t, (t = z.1 ∨ t = z.2) ↔ (t = s ∨ t = acrossP z s) := by
  unfold acrossP
  rcases hs with h | h
  · subst h
    rw [if_pos rfl]
    exact ⟨fun e => ne e.symm, fun t => Iff.rfl⟩
  · subst h
    rw [if_neg fun e => ne e.symm]
    exact ⟨ne, fun t => Or.comm⟩
theorem col_old {cl : List (Str × Int)} {o t : Str} {i : Int} (h : inC cl t = true) : colOf (cl ++ [(o, i)]) t = colOf cl t := by
  unfold colOf
  rw [List.find?_append]
  cases e : cl.find? fun q => decide (q.1 = t) with
  | some q => rfl
  | none =>
    obtain ⟨q, hq, hd⟩ := List.any_eq_true.mp h
    exact absurd hd (List.find?_eq_none.mp e q hq)
theorem col_new {cl : List (Str × Int)} {o : Str} {i : Int} (h : inC cl o = false) : colOf (cl ++ [(o, i)]) o = i := by
  unfold colOf
  rw [List.find?_append]
  have e : (cl.find? fun q => decide (q.1 = o)) = none := List.find?_eq_none.mpr fun q hq => List.any_eq_false.mp h q hq
  rw [e]
  simp
/-- a tree of ways from e to all that is coloured: F s the flow to s -/
structure Tree (ps : List (Nat × Str × Str)) (e : Str) (cl : List (Str × Int)) (F : Str → Nat → Int) (kp : Nat → Int) : Prop where
  root : inC cl e = true ∧ colOf cl e = 1
  sup : ∀ s n, F s n ≠ 0 → ∃ z ∈ ps, z.1 = n ∧ inC cl z.2.1 = true ∧ inC cl z.2.2 = true ∧ colOf cl z.2.1 + colOf cl z.2.2 = 0
  one : ∀ s n, F s n = 0 ∨ F s n = kp n
  kap : ∀ n, kp n = 1 ∨ kp n = -1
  bd : ∀ s, inC cl s = true → ∀ t, bnd ps (F s) t = (if t = s then colOf cl s else 0) - (if t = e then 1 else 0)
def HasTree (ps : List (Nat × Str × Str)) (ss : List Str) (e : Str) (cl : List (Str × Int)) : Prop := OkC ss cl ∧ ∃ F kp, Tree ps e cl F kp
def Net0 (ps : List (Nat × Str × Str)) : Prop := (ps.map (·.1)).Nodup ∧ ∀ z ∈ ps, z.2.1 ≠ z.2.2
theorem step_is {ps : List (Nat × Str × Str)} {ss : List Str} {s : Str} {n : Nat} (N : Net0 ps) (hn : n ∈ netL ps s) (a : List Str × List (Str × Int)) : ∃ z ∈ ps, z.1 = n ∧ (z.2.1 = s ∨ z.2.2 = s) ∧
    stepN ps ss s a n = if ss.contains (acrossP z.2 s) && !(inC a.2 (acrossP z.2 s)) then (a.1 ++ [acrossP z.2 s], a.2 ++ [(acrossP z.2 s, -(colOf a.2 s))]) else a := by
  obtain ⟨z, hz, e, h⟩ := netL_full hn
  obtain ⟨i, hi, ei⟩ := List.mem_iff_getElem.mp hz
  have fd := find_nod N.1 (List.getElem?_eq_some_iff.mpr ⟨hi, ei⟩)
  refine ⟨z, hz, e, h, ?_⟩
  unfold stepN
  rw [← e, fd]
  rfl
theorem tree_step {ps : List (Nat × Str × Str)} {ss : List Str} {s e : Str} {n : Nat} (N : Net0 ps) (hn : n ∈ netL ps s) {a : List Str × List (Str × Int)} (hs : inC a.2 s = true) (h : HasTree ps ss e a.2) : HasTree ps ss e (stepN ps ss s a n).2 := by
  obtain ⟨z, hz, ez, hzs, st⟩ := step_is (ss := ss) N hn a
  rw [st]
  split
  · rename_i hb
    obtain ⟨b1, b2⟩ := Bool.and_eq_true_iff.mp hb
    obtain ⟨ne, hio⟩ := across_is hzs (N.2 z hz)
    generalize acrossP z.2 s = o at b1 b2 ne hio ⊢
    obtain ⟨ok, F, kp, T⟩ := h
    have oc : inC a.2 o = false := by
      cases q : inC a.2 o with
      | false => rfl
      | true => rw [q] at b2; exact nomatch b2
    have cs := (okc_of ok hs).2
    have F0 : ∀ t, F t z.1 = 0 := fun t => by
      by_cases q : F t z.1 = 0
      · exact q
      · obtain ⟨y, hy, ey, h1, h2, _⟩ := T.sup t z.1 q
        rw [nod_eq N.1 hy hz ey] at h1 h2
        rcases (hio o).mpr (.inr rfl) with q | q
        · rw [← q, oc] at h1; exact nomatch h1
        · rw [← q, oc] at h2; exact nomatch h2
    refine ⟨fun q hq => ?_, fun t m => if t = o then F s m + (if m = z.1 then -(colOf a.2 s) else 0) else F t m, fun m => if m = z.1 then -(colOf a.2 s) else kp m, ?_, fun t m hne => ?_, fun t m => ?_, fun m => ?_, fun t ht u => ?_⟩
    · rcases List.mem_append.mp hq with q2 | q2
      · exact ok q q2
      · rw [List.mem_singleton.mp q2]
        refine ⟨List.contains_iff_mem.mp b1, ?_⟩
        rcases cs with c | c
        · exact .inr (by show -colOf a.2 s = -1; rw [c])
        · exact .inl (by show -colOf a.2 s = 1; rw [c]; rfl)
    · exact ⟨by rw [inC_snoc, T.root.1]; rfl, by rw [col_old T.root.1]; exact T.root.2⟩
    · have old : ∀ t m, F t m ≠ 0 → ∃ y ∈ ps, y.1 = m ∧ inC (a.2 ++ [(o, -(colOf a.2 s))]) y.2.1 = true ∧ inC (a.2 ++ [(o, -(colOf a.2 s))]) y.2.2 = true ∧ colOf (a.2 ++ [(o, -(colOf a.2 s))]) y.2.1 + colOf (a.2 ++ [(o, -(colOf a.2 s))]) y.2.2 = 0 := fun t m hq => by
        obtain ⟨y, hy, ey, h1, h2, h3⟩ := T.sup t m hq
        exact ⟨y, hy, ey, by rw [inC_snoc, h1]; rfl, by rw [inC_snoc, h2]; rfl, by rw [col_old h1, col_old h2]; exact h3⟩
      by_cases et : t = o
      · rw [if_pos et] at hne
        by_cases em : m = z.1
        · have i1 : inC (a.2 ++ [(o, -(colOf a.2 s))]) s = true := by rw [inC_snoc, hs]; rfl
          have i2 : inC (a.2 ++ [(o, -(colOf a.2 s))]) o = true := by rw [inC_snoc, decide_eq_true rfl, Bool.or_true]
          have c1 : colOf (a.2 ++ [(o, -(colOf a.2 s))]) s = colOf a.2 s := col_old hs
          have c2 : colOf (a.2 ++ [(o, -(colOf a.2 s))]) o = -(colOf a.2 s) := col_new oc
          have hne12 := N.2 z hz
          refine ⟨z, hz, em.symm, ?_, ?_, ?_⟩
          · rcases (hio z.2.1).mp (.inl rfl) with q | q
            · rw [q]; exact i1
            · rw [q]; exact i2
          · rcases (hio z.2.2).mp (.inr rfl) with q | q
            · rw [q]; exact i1
            · rw [q]; exact i2
          · rcases (hio z.2.1).mp (.inl rfl) with q | q <;> rcases (hio z.2.2).mp (.inr rfl) with q' | q'
            · exact absurd (q.trans q'.symm) hne12
            · rw [q, q', c1, c2]; omega
            · rw [q, q', c1, c2]; omega
            · exact absurd (q.trans q'.symm) hne12
        · rw [if_neg em, Int.add_zero] at hne
          exact old s m hne
      · rw [if_neg et] at hne
        exact old t m hne
    · by_cases em : m = z.1
      · by_cases et : t = o
        · rw [if_pos et, if_pos em, if_pos em, em, F0, Int.zero_add]; exact .inr rfl
        · rw [if_neg et, em, F0]; exact .inl rfl
      · by_cases et : t = o
        · rw [if_pos et, if_neg em, if_neg em, Int.add_zero]; exact T.one s m
        · rw [if_neg et, if_neg em]; exact T.one t m
    · by_cases em : m = z.1
      · rw [if_pos em]; rcases cs with c | c <;> rw [c] <;> simp
      · rw [if_neg em]; exact T.kap m
    · by_cases et : t = o
      · subst et
        have e1 : (fun m => if t = t then F s m + (if m = z.1 then -(colOf a.2 s) else 0) else F t m) = fun m => F s m + (if m = z.1 then -(colOf a.2 s) else 0) := funext fun m => if_pos rfl
        rw [e1, bnd_add, bnd_one N.1 hz, T.bd s hs u, col_new oc, inPair_eq]
        by_cases u1 : u = s
        · have u2 : ¬ u = t := fun q => ne (q.symm.trans u1)
          rw [if_pos u1, if_neg u2, if_pos (decide_eq_true ((hio u).mpr (.inl u1)))]
          omega
        · by_cases u2 : u = t
          · rw [if_neg u1, if_pos u2, if_pos (decide_eq_true ((hio u).mpr (.inr u2)))]
            omega
          · rw [if_neg u1, if_neg u2, if_neg (no2 fun q => ((hio u).mp q).elim u1 u2)]
            omega
      · have e1 : (fun m => if t = o then F s m + (if m = z.1 then -(colOf a.2 s) else 0) else F t m) = F t := funext fun m => if_neg et
        have it : inC a.2 t = true := by
          rw [inC_snoc, decide_eq_false fun q => et q.symm, Bool.or_false] at ht
          exact ht
        rw [e1, T.bd t it u, col_old it]
  · exact h
theorem inC_step {ps : List (Nat × Str × Str)} {ss : List Str} {s t : Str} {n : Nat} {a : List Str × List (Str × Int)} (h : inC a.2 t = true) : inC (stepN ps ss s a n).2 t = true := by
  unfold stepN
  split
  · rw [inC_snoc, h]; rfl
  · exact h
theorem inC_fold {ps : List (Nat × Str × Str)} {ss : List Str} {s t : Str} : ∀ (ns : List Nat) {a : List Str × List (Str × Int)}, inC a.2 t = true → inC (ns.foldl (stepN ps ss s) a).2 t = true
  | [], _, h => h
  | n :: r, a, h => by
    rw [List.foldl_cons]
    exact inC_fold r (inC_step h)
theorem tree_fold {ps : List (Nat × Str × Str)} {ss : List Str} {s e : Str} (N : Net0 ps) : ∀ (ns : List Nat) {a : List Str × List (Str × Int)}, (∀ n ∈ ns, n ∈ netL ps s) → inC a.2 s = true → HasTree ps ss e a.2 → HasTree ps ss e (ns.foldl (stepN ps ss s) a).2
  | [], _, _, _, h => h
  | n :: r, a, hn, hs, h => by
    rw [List.foldl_cons]
    exact tree_fold N r (fun m hm => hn m (List.mem_cons_of_mem _ hm)) (inC_step hs) (tree_step N (hn n List.mem_cons_self) hs h)
/-- what waits is coloured; what is coloured waits or is done -/
theorem ws_fold {ps : List (Nat × Str × Str)} {ss : List Str} {s : Str} : ∀ (ns : List Nat) (a : List Str × List (Str × Int)), (∀ t ∈ a.1, inC a.2 t = true) → (∀ t ∈ (ns.foldl (stepN ps ss s) a).1, inC (ns.foldl (stepN ps ss s) a).2 t = true) ∧ (∀ t ∈ a.1, t ∈ (ns.foldl (stepN ps ss s) a).1) ∧
    (∀ t, inC (ns.foldl (stepN ps ss s) a).2 t = true → inC a.2 t = true ∨ t ∈ (ns.foldl (stepN ps ss s) a).1) ∧ (ns.foldl (stepN ps ss s) a).1.length + unc ss (ns.foldl (stepN ps ss s) a).2 ≤ a.1.length + unc ss a.2
  | [], a, h => ⟨h, fun _ z => z, fun _ z => .inl z, Nat.le_refl _⟩
  | n :: r, a, h => by
    rw [List.foldl_cons]
    have st : (∀ t ∈ (stepN ps ss s a n).1, inC (stepN ps ss s a n).2 t = true) ∧ (∀ t ∈ a.1, t ∈ (stepN ps ss s a n).1) ∧ (∀ t, inC (stepN ps ss s a n).2 t = true → inC a.2 t = true ∨ t ∈ (stepN ps ss s a n).1) ∧ (stepN ps ss s a n).1.length + unc ss (stepN ps ss s a n).2 ≤ a.1.length + unc ss a.2 := by
      unfold stepN
      split
      · rename_i hb
        obtain ⟨b1, b2⟩ := Bool.and_eq_true_iff.mp hb
        generalize acrossP (((ps.find? fun z => decide (z.1 = n)).map (·.2)).getD p0) s = o at b1 b2 ⊢
        have oc : inC a.2 o = false := by
          cases q : inC a.2 o with
          | false => rfl
          | true => rw [q] at b2; exact nomatch b2
        refine ⟨fun t ht => ?_, fun t ht => List.mem_append_left _ ht, fun t ht => ?_, ?_⟩
        · rw [inC_snoc]
          rcases List.mem_append.mp ht with q | q
          · rw [h t q]; rfl
          · rw [List.mem_singleton.mp q, decide_eq_true rfl, Bool.or_true]
        · rw [inC_snoc] at ht
          rcases Bool.or_eq_true_iff.mp ht with q | q
          · exact .inl q
          · exact .inr (List.mem_append_right _ (List.mem_singleton.mpr (of_decide_eq_true q).symm))
        · have := unc_add (-(colOf a.2 s)) (List.contains_iff_mem.mp b1) oc
          show (a.1 ++ [o]).length + unc ss (a.2 ++ [(o, -(colOf a.2 s))]) ≤ _
          rw [List.length_append, List.length_singleton]
          omega
      · exact ⟨h, fun _ z => z, fun _ z => .inl z, Nat.le_refl _⟩
    obtain ⟨s1, s2, s3, s4⟩ := st
    obtain ⟨r1, r2, r3, r4⟩ := ws_fold r (stepN ps ss s a n) s1
    refine ⟨r1, fun t ht => r2 t (s2 t ht), fun t ht => ?_, by omega⟩
    rcases r3 t ht with q | q
    · rcases s3 t q with q | q
      · exact .inl q
      · exact .inr (r2 t q)
    · exact .inr q
def DoneC (ps : List (Nat × Str × Str)) (ss : List Str) (cl : List (Str × Int)) (s : Str) : Prop := ∀ z ∈ ps, (z.2.1 = s ∨ z.2.2 = s) → acrossP z.2 s ∈ ss → inC cl (acrossP z.2 s) = true
theorem done_fold {ps : List (Nat × Str × Str)} {ss : List Str} {s : Str} (N : Net0 ps) : ∀ (ns : List Nat) (a : List Str × List (Str × Int)), (∀ n ∈ ns, n ∈ netL ps s) → ∀ z ∈ ps, z.1 ∈ ns → acrossP z.2 s ∈ ss → inC (ns.foldl (stepN ps ss s) a).2 (acrossP z.2 s) = true
  | [], _, _, _, _, h, _ => nomatch h
  | n :: r, a, hn, z, hz, h, ho => by
    rw [List.foldl_cons]
    by_cases e : z.1 = n
    · refine inC_fold r ?_
      obtain ⟨y, hy, ey, _, st⟩ := step_is (ss := ss) N (hn n List.mem_cons_self) a
      rw [nod_eq N.1 hy hz (ey.trans e.symm)] at st
      rw [st]
      cases q : inC a.2 (acrossP z.2 s) with
      | true =>
        rw [Bool.not_true, Bool.and_false]
        exact q
      | false =>
        rw [List.contains_iff_mem.mpr ho]
        show inC (a.2 ++ [_]) _ = true
        rw [inC_snoc, decide_eq_true rfl, Bool.or_true]
    · exact done_fold N r _ (fun m hm => hn m (List.mem_cons_of_mem _ hm)) z hz ((List.mem_cons.mp h).resolve_left e) ho
theorem last_split {l : List Str} {s : Str} (h : l.getLast? = some s) {t : Str} (ht : t ∈ l) : t ∈ l.dropLast ∨ t = s := by
  have ne : l ≠ [] := fun z => by rw [z] at ht; exact nomatch ht
  rw [List.getLast?_eq_some_getLast ne] at h
  rw [← List.dropLast_concat_getLast ne] at ht
  rcases List.mem_append.mp ht with q | q
  · exact .inl q
  · exact .inr ((List.mem_singleton.mp q).trans (Option.some.inj h))
theorem walk_all {ps : List (Nat × Str × Str)} {ss : List Str} {e : Str} (N : Net0 ps) : ∀ (m : Nat) (ws : List Str) (cl : List (Str × Int)), HasTree ps ss e cl → (∀ t ∈ ws, inC cl t = true) → (∀ t, inC cl t = true → t ∈ ws ∨ DoneC ps ss cl t) → ws.length + unc ss cl ≤ m →
    HasTree ps ss e (walkN ps ss m ws cl) ∧ ∀ t, inC (walkN ps ss m ws cl) t = true → DoneC ps ss (walkN ps ss m ws cl) t
  | 0, ws, cl, h, hw, hd, hm => ⟨h, fun t ht => (hd t ht).resolve_left fun z => by
      have : ws = [] := List.length_eq_zero_iff.mp (by omega)
      rw [this] at z
      exact nomatch z⟩
  | m + 1, ws, cl, h, hw, hd, hm => by
    cases q : ws.getLast? with
    | none =>
      have e0 := List.getLast?_eq_none_iff.mp q
      rw [e0, walk_nil]
      exact ⟨h, fun t ht => (hd t ht).resolve_left fun z => by rw [e0] at z; exact nomatch z⟩
    | some s =>
      rw [walk_step q]
      have hs := hw s (List.mem_of_getLast? q)
      obtain ⟨w1, w2, w3, w4⟩ := ws_fold (ps := ps) (ss := ss) (s := s) (netL ps s) (ws.dropLast, cl) fun t ht => hw t (List.dropLast_subset _ ht)
      refine walk_all N m _ _ (tree_fold N (netL ps s) (a := (ws.dropLast, cl)) (fun _ z => z) hs h) w1 (fun t ht => ?_) ?_
      · rcases w3 t ht with c | c
        · rcases hd t c with c | c
          · rcases last_split q c with c | c
            · exact .inl (w2 t c)
            · subst c
              exact .inr fun z hz hzs ho => done_fold N (netL ps t) (ws.dropLast, cl) (fun _ z => z) z hz (netL_of hz hzs) ho
          · exact .inr fun z hz hzs ho => inC_fold (netL ps s) (a := (ws.dropLast, cl)) (c z hz hzs ho)
        · exact .inl c
      · have ne : ws ≠ [] := fun z => by rw [z] at q; exact nomatch q
        have := List.length_pos_iff.mpr ne
        have l1 : ws.dropLast.length = ws.length - 1 := List.length_dropLast
        have w4' : _ ≤ ws.dropLast.length + unc ss cl := w4
        omega
theorem col_all {ps : List (Nat × Str × Str)} {ss : List Str} {e : Str} (N : Net0 ps) (he : e ∈ ss) : HasTree ps ss e (colN ps ss e) ∧ ∀ t, inC (colN ps ss e) t = true → DoneC ps ss (colN ps ss e) t := by
  have i1 : inC [(e, (1 : Int))] e = true := by unfold inC; simp
  have c1 : colOf [(e, (1 : Int))] e = 1 := by unfold colOf; simp
  refine walk_all N _ _ _ ⟨fun q hq => ?_, fun _ _ => 0, fun _ => 1, ⟨i1, c1⟩, fun s n h => absurd rfl h, fun _ _ => .inl rfl, fun _ => .inl rfl, fun s hs t => ?_⟩ (fun t ht => ?_) (fun t ht => .inl ?_) ?_
  · rw [List.mem_singleton.mp hq]; exact ⟨he, .inl rfl⟩
  · have es : s = e := by
      unfold inC at hs
      simp at hs
      exact hs.symm
    subst es
    have z : bnd ps (fun _ => 0) t = 0 := by
      unfold bnd
      exact sum_zeroF fun y _ => by split <;> rfl
    rw [z, c1]
    split <;> rfl
  · rw [List.mem_singleton.mp ht]; exact i1
  · unfold inC at ht
    simp at ht
    rw [ht]
    exact List.mem_cons_self
  · have u0 := unc_add (cl := []) 1 he rfl
    have u1 : unc ss [] = ss.length := by
      unfold unc
      rw [List.filter_eq_self.mpr]
      intro _ _
      rfl
    show 1 + unc ss ([] ++ [(e, 1)]) ≤ ss.length + 1
    omega
/-- a set that no line leaves has all that is coloured or none of it -/
theorem con_step {ps : List (Nat × Str × Str)} {ss : List Str} {s e : Str} {S : Str → Prop} (N : Net0 ps) (hS : ∀ z ∈ ps, z.2.1 ∈ ss → z.2.2 ∈ ss → (S z.2.1 ↔ S z.2.2)) (hss : s ∈ ss) : ∀ (ns : List Nat) (a : List Str × List (Str × Int)), (∀ n ∈ ns, n ∈ netL ps s) → inC a.2 s = true → (∀ t, inC a.2 t = true → (S t ↔ S e)) → ∀ t, inC (ns.foldl (stepN ps ss s) a).2 t = true → (S t ↔ S e)
  | [], _, _, _, h => h
  | n :: r, a, hn, hs, h => by
    rw [List.foldl_cons]
    refine con_step N hS hss r _ (fun m hm => hn m (List.mem_cons_of_mem _ hm)) (inC_step hs) fun t ht => ?_
    obtain ⟨z, hz, ez, hzs, st⟩ := step_is (ss := ss) N (hn n List.mem_cons_self) a
    rw [st] at ht
    split at ht
    · rename_i hb
      obtain ⟨b1, _⟩ := Bool.and_eq_true_iff.mp hb
      obtain ⟨ne, hio⟩ := across_is hzs (N.2 z hz)
      rw [inC_snoc] at ht
      rcases Bool.or_eq_true_iff.mp ht with q | q
      · exact h t q
      · have q := of_decide_eq_true q
        have om := List.contains_iff_mem.mp b1
        rw [q] at om hio
        refine Iff.trans ?_ (h s hs)
        have mem : ∀ u, u = s ∨ u = t → u ∈ ss := fun u hu => hu.elim (fun z => z ▸ hss) fun z => z ▸ om
        have k := hS z hz (mem _ ((hio _).mp (.inl rfl))) (mem _ ((hio _).mp (.inr rfl)))
        have ne2 := N.2 z hz
        rcases (hio z.2.1).mp (.inl rfl) with u1 | u1 <;> rcases (hio z.2.2).mp (.inr rfl) with u2 | u2
        · exact absurd (u1.trans u2.symm) ne2
        · rw [u1, u2] at k; exact k.symm
        · rw [u1, u2] at k; exact k
        · exact absurd (u1.trans u2.symm) ne2
    · exact h t ht
theorem con_walk {ps : List (Nat × Str × Str)} {ss : List Str} {e : Str} {S : Str → Prop} (N : Net0 ps) (hS : ∀ z ∈ ps, z.2.1 ∈ ss → z.2.2 ∈ ss → (S z.2.1 ↔ S z.2.2)) : ∀ (m : Nat) (ws : List Str) (cl : List (Str × Int)), OkC ss cl → (∀ t ∈ ws, inC cl t = true) → (∀ t, inC cl t = true → (S t ↔ S e)) → ∀ t, inC (walkN ps ss m ws cl) t = true → (S t ↔ S e)
  | 0, _, _, _, _, h => h
  | m + 1, ws, cl, ok, hw, h => by
    cases q : ws.getLast? with
    | none =>
      rw [List.getLast?_eq_none_iff.mp q, walk_nil]
      exact h
    | some s =>
      rw [walk_step q]
      have hs := hw s (List.mem_of_getLast? q)
      obtain ⟨a, _, b⟩ := okc_step (ps := ps) (ss := ss) (s := s) (netL ps s) (ws.dropLast, cl) ⟨ok, hs, fun t ht => hw t (List.dropLast_subset _ ht)⟩
      exact con_walk N hS m _ _ a b (con_step N hS (okc_of ok hs).1 (netL ps s) (ws.dropLast, cl) (fun _ z => z) hs h)
theorem con_col {ps : List (Nat × Str × Str)} {ss : List Str} {e : Str} {S : Str → Prop} (N : Net0 ps) (he : e ∈ ss) (hS : ∀ z ∈ ps, z.2.1 ∈ ss → z.2.2 ∈ ss → (S z.2.1 ↔ S z.2.2)) : ∀ t, inC (colN ps ss e) t = true → (S t ↔ S e) :=
  con_walk N hS _ _ _ (fun q hq => by rw [List.mem_singleton.mp hq]; exact ⟨he, .inl rfl⟩) (fun t ht => by rw [List.mem_singleton.mp ht]; unfold inC; simp) fun t ht => by
    unfold inC at ht
    simp at ht
    rw [ht]
/-- the coloured ones are closed -/
theorem col_closed {ps : List (Nat × Str × Str)} {ss : List Str} {cl : List (Str × Int)} (N : Net0 ps) (h : ∀ t, inC cl t = true → DoneC ps ss cl t) : ∀ z ∈ ps, z.2.1 ∈ ss → z.2.2 ∈ ss → (inC cl z.2.1 = true ↔ inC cl z.2.2 = true) := fun z hz h1 h2 => by
  have ne := N.2 z hz
  have a1 : acrossP z.2 z.2.1 = z.2.2 := if_pos rfl
  have a2 : acrossP z.2 z.2.2 = z.2.1 := if_neg fun q => ne q.symm
  refine ⟨fun q => ?_, fun q => ?_⟩
  · have := h _ q z hz (.inl rfl)
    rw [a1] at this
    exact this h2
  · have := h _ q z hz (.inr rfl)
    rw [a2] at this
    exact this h1
theorem told_none {wd : Str} {ps : List (Nat × Str × Str)} {ss es : List Str} : ∀ {r : List Str}, toldN wd ps ss es r = none → ∀ e ∈ r, (partS ps (colN ps ss e) ≠ [] ∨ (partT ps (colN ps ss e) = false ∧ wd ≠ "bits")) ∨ ((es.map (colOf (colN ps ss e))).sum ≠ 1 ∧ ((es.map (colOf (colN ps ss e))).sum = 2 → wd ≠ "odd" ∧ wd ≠ "plain"))
  | [], _, _, he => nomatch he
  | e0 :: r, h, e, he => by
    rw [toldN] at h
    split at h
    · rename_i c
      rcases List.mem_cons.mp he with q | q
      · subst q
        left
        rcases Bool.or_eq_true_iff.mp c with c | c
        · left
          intro z
          rw [z] at c
          exact nomatch c
        · right
          obtain ⟨c1, c2⟩ := Bool.and_eq_true_iff.mp c
          refine ⟨?_, fun z => ?_⟩
          · cases q : partT ps (colN ps ss e) with
            | false => rfl
            | true => rw [q] at c1; exact nomatch c1
          · rw [decide_eq_true z] at c2
            exact nomatch c2
      · exact told_none h e q
    · split at h
      · exact nomatch h
      · rename_i c
        rcases List.mem_cons.mp he with q | q
        · subst q
          right
          obtain ⟨c1, c2⟩ := Bool.or_eq_false_iff.mp (Bool.eq_false_iff.mpr c)
          refine ⟨of_decide_eq_false c1, fun e2 => ?_⟩
          rw [decide_eq_true e2, Bool.true_and] at c2
          obtain ⟨d1, d2⟩ := Bool.or_eq_false_iff.mp c2
          exact ⟨of_decide_eq_false d1, of_decide_eq_false d2⟩
        · exact told_none h e q
def SupC (ps : List (Nat × Str × Str)) (cl : List (Str × Int)) (y : Nat → Int) : Prop := ∀ n, y n ≠ 0 → ∃ z ∈ ps, z.1 = n ∧ (inC cl z.2.1 = true ∨ inC cl z.2.2 = true)
theorem flow_stub {ps : List (Nat × Str × Str)} {ss : List Str} {e : Str} {cl : List (Str × Int)} {F : Str → Nat → Int} {kp : Nat → Int} (N : Net0 ps) (ok : OkC ss cl) (T : Tree ps e cl F kp) (hd : ∀ t, inC cl t = true → DoneC ps ss cl t) (h : partS ps cl ≠ []) :
    ∃ y : Nat → Int, SupC ps cl y ∧ (∀ t ∈ ss, bnd ps y t = -(if t = e then 1 else 0)) ∧ (∀ n, -1 ≤ y n ∧ y n ≤ 1) ∧ ∀ s n, -2 ≤ 2 * y n - F s n ∧ 2 * y n - F s n ≤ 2 := by
  obtain ⟨z, hz⟩ := List.exists_mem_of_ne_nil _ h
  obtain ⟨hl, hb⟩ := List.mem_filter.mp hz
  obtain ⟨hzp, ha⟩ := List.mem_filter.mp hl
  obtain ⟨s, o, hzs, hs, ho, hor⟩ : ∃ s o, (z.2.1 = s ∨ z.2.2 = s) ∧ inC cl s = true ∧ inC cl o = false ∧ acrossP z.2 s = o := by
    have ne := N.2 z hzp
    cases h1 : inC cl z.2.1 with
    | true =>
      cases h2 : inC cl z.2.2 with
      | true => rw [h1, h2] at hb; exact nomatch hb
      | false => exact ⟨z.2.1, z.2.2, .inl rfl, h1, h2, if_pos rfl⟩
    | false =>
      cases h2 : inC cl z.2.2 with
      | true => exact ⟨z.2.2, z.2.1, .inr rfl, h2, h1, if_neg fun q => ne q.symm⟩
      | false => rw [h1, h2] at ha; exact nomatch ha
  obtain ⟨ne, hio⟩ := across_is hzs (N.2 z hzp)
  rw [hor] at ne hio
  have oss : o ∉ ss := fun q => by
    have := hd s hs z hzp hzs (by rw [hor]; exact q)
    rw [hor, ho] at this
    exact nomatch this
  have cs := (okc_of ok hs).2
  have F0 : ∀ t, F t z.1 = 0 := fun t => by
    by_cases q : F t z.1 = 0
    · exact q
    · obtain ⟨y, hy, ey, h1, h2, _⟩ := T.sup t z.1 q
      rw [nod_eq N.1 hy hzp ey] at h1 h2
      rcases (hio o).mpr (.inr rfl) with q | q
      · rw [← q, ho] at h1; exact nomatch h1
      · rw [← q, ho] at h2; exact nomatch h2
  refine ⟨fun n => F s n + (if n = z.1 then -(colOf cl s) else 0), fun n hn => ?_, fun t ht => ?_, fun n => ?_, fun u n => ?_⟩
  · dsimp only at hn
    by_cases q : n = z.1
    · refine ⟨z, hzp, q.symm, ?_⟩
      rcases hzs with r | r
      · exact .inl (by rw [r]; exact hs)
      · exact .inr (by rw [r]; exact hs)
    · rw [if_neg q, Int.add_zero] at hn
      obtain ⟨y, hy, ey, h1, _⟩ := T.sup s n hn
      exact ⟨y, hy, ey, .inl h1⟩
  · rw [bnd_add, bnd_one N.1 hzp, T.bd s hs t, inPair_eq]
    by_cases u1 : t = s
    · rw [if_pos u1, if_pos (decide_eq_true ((hio t).mpr (.inl u1)))]
      omega
    · have u2 : ¬ t = o := fun q => oss (q ▸ ht)
      rw [if_neg u1, if_neg (no2 fun q => ((hio t).mp q).elim u1 u2)]
      omega
  · have k := T.kap n
    dsimp only
    by_cases q : n = z.1
    · rw [if_pos q, q, F0]; omega
    · rw [if_neg q]
      have := T.one s n
      omega
  · have k := T.kap n
    dsimp only
    by_cases q : n = z.1
    · rw [if_pos q, q, F0, F0]; omega
    · rw [if_neg q]
      have := T.one s n
      have := T.one u n
      omega
theorem flow_odd {ps : List (Nat × Str × Str)} {ss : List Str} {e : Str} {cl : List (Str × Int)} {F : Str → Nat → Int} {kp : Nat → Int} (N : Net0 ps) (ok : OkC ss cl) (T : Tree ps e cl F kp) (h : partT ps cl = false) :
    ∃ y : Nat → Int, SupC ps cl y ∧ (∀ t ∈ ss, bnd ps y t = -(if t = e then 2 else 0)) ∧ (∀ n, -2 ≤ y n ∧ y n ≤ 2) ∧ ∀ s n, -2 ≤ y n - F s n ∧ y n - F s n ≤ 2 := by
  obtain ⟨z, hz, hzc⟩ := List.all_eq_false.mp h
  obtain ⟨hl, hb⟩ := List.mem_filter.mp hz
  obtain ⟨hzp, _⟩ := List.mem_filter.mp hl
  obtain ⟨h1, h2⟩ := Bool.and_eq_true_iff.mp hb
  have ec : colOf cl z.2.1 = colOf cl z.2.2 := by
    by_cases q : colOf cl z.2.1 = colOf cl z.2.2
    · exact q
    · rw [decide_eq_false q] at hzc; exact absurd rfl hzc
  have ne := N.2 z hzp
  have cs := (okc_of ok h1).2
  have F0 : ∀ t, F t z.1 = 0 := fun t => by
    by_cases q : F t z.1 = 0
    · exact q
    · obtain ⟨y, hy, ey, _, _, h3⟩ := T.sup t z.1 q
      rw [nod_eq N.1 hy hzp ey] at h3
      omega
  refine ⟨fun n => F z.2.1 n + (F z.2.2 n + (if n = z.1 then -(colOf cl z.2.1) else 0)), fun n hn => ?_, fun t ht => ?_, fun n => ?_, fun u n => ?_⟩
  · dsimp only at hn
    by_cases q : n = z.1
    · exact ⟨z, hzp, q.symm, .inl h1⟩
    · rw [if_neg q, Int.add_zero] at hn
      by_cases q1 : F z.2.1 n = 0
      · rw [q1, Int.zero_add] at hn
        obtain ⟨y, hy, ey, h1, _⟩ := T.sup _ n hn
        exact ⟨y, hy, ey, .inl h1⟩
      · obtain ⟨y, hy, ey, h1, _⟩ := T.sup _ n q1
        exact ⟨y, hy, ey, .inl h1⟩
  · rw [bnd_add, bnd_add, bnd_one N.1 hzp, T.bd _ h1 t, T.bd _ h2 t, inPair_eq]
    by_cases u1 : t = z.2.1
    · have u2 : ¬ t = z.2.2 := fun q => ne (u1.symm.trans q)
      rw [if_pos u1, if_neg u2, if_pos (decide_eq_true (.inl u1))]
      split <;> omega
    · by_cases u2 : t = z.2.2
      · rw [if_neg u1, if_pos u2, if_pos (decide_eq_true (.inr u2))]
        split <;> omega
      · rw [if_neg u1, if_neg u2, if_neg (no2 (a := z.2.1) (b := z.2.2) fun q => q.elim u1 u2)]
        split <;> omega
  · have k := T.kap n
    dsimp only
    by_cases q : n = z.1
    · rw [if_pos q, q, F0, F0]; omega
    · rw [if_neg q]
      have := T.one z.2.1 n
      have := T.one z.2.2 n
      omega
  · have k := T.kap n
    dsimp only
    by_cases q : n = z.1
    · rw [if_pos q, q, F0, F0, F0]; omega
    · rw [if_neg q]
      have := T.one z.2.1 n
      have := T.one z.2.2 n
      have := T.one u n
      omega
/-- what fails at an end: a flow of one, or of two, away from it -/
theorem flow_away {ps : List (Nat × Str × Str)} {ss : List Str} {e : Str} {cl : List (Str × Int)} {F : Str → Nat → Int} {kp : Nat → Int} {wd : Str} (N : Net0 ps) (ok : OkC ss cl) (T : Tree ps e cl F kp) (hd : ∀ t, inC cl t = true → DoneC ps ss cl t) (h : partS ps cl ≠ [] ∨ (partT ps cl = false ∧ wd ≠ "bits")) :
    ((∃ y : Nat → Int, SupC ps cl y ∧ (∀ t ∈ ss, bnd ps y t = -(if t = e then 1 else 0)) ∧ ∀ n, -1 ≤ y n ∧ y n ≤ 1) ∨ wd ≠ "bits") ∧
    ∃ y : Nat → Int, SupC ps cl y ∧ (∀ t ∈ ss, bnd ps y t = -(if t = e then 2 else 0)) ∧ (∀ n, -2 ≤ y n ∧ y n ≤ 2) ∧ ∀ s n, -2 ≤ y n - F s n ∧ y n - F s n ≤ 2 := by
  rcases h with h | ⟨h, hw⟩
  · obtain ⟨y, h1, h2, h3, h4⟩ := flow_stub N ok T hd h
    refine ⟨.inl ⟨y, h1, h2, h3⟩, fun n => 2 * y n, fun n hn => h1 n fun z => hn (by show 2 * y n = 0; rw [z]; rfl), fun t ht => ?_, fun n => ?_, h4⟩
    · rw [bnd_mul, h2 t ht]
      split <;> rfl
    · have := h3 n
      dsimp only
      omega
  · exact ⟨.inr hw, flow_odd N ok T h⟩
theorem valX_bnd {cs : List Col} {lost : List PyData} {y : Nat → Int} (h : ∀ n, y n ≠ 0 → ∃ z ∈ netP cs lost, z.1 = n) (s : Str) : valX cs y (sumC s) = bnd (netP cs lost) y s := by
  show (((List.range (dataOf cs).length).filter fun j => inPair s ((dataOf cs).getD j p0)).map y).sum = _
  unfold bnd netP
  rw [List.map_map, sum_filt, sum_filt]
  refine sum_congF fun n hn => ?_
  show (if inPair s ((dataOf cs).getD n p0) = true then y n else 0) = (if hasC lost (datC (n : Int)) = true then (if inPair s ((dataOf cs).getD n p0) = true then y n else 0) else 0)
  by_cases q : hasC lost (datC (n : Int)) = true
  · rw [if_pos q]
  · rw [if_neg q]
    have : y n = 0 := by
      by_cases z : y n = 0
      · exact z
      · obtain ⟨w, hw, e⟩ := h n z
        obtain ⟨m, hm, rfl⟩ := List.mem_map.mp hw
        have e : m = n := e
        have h2 := (List.mem_filter.mp hm).2
        rw [e] at h2
        exact absurd h2 q
    rw [this]
    split <;> rfl
theorem valX_add {cs : List Col} {x y : Nat → Int} {d : PyData} (hd : (∃ w, d = sumC w) ∨ ∃ n, d = datC n) : valX cs (fun n => x n + y n) d = valX cs x d + valX cs y d := by
  rcases hd with ⟨s, rfl⟩ | ⟨n, rfl⟩
  · exact sum_addF x y _
  · rfl
theorem valX_one {cs : List Col} {n : Nat} (h : n < (dataOf cs).length) (a : Int) (s : Str) : valX cs (fun m => if m = n then a else 0) (sumC s) = if inPair s ((dataOf cs).getD n p0) = true then a else 0 := by
  show (((List.range (dataOf cs).length).filter fun j => inPair s ((dataOf cs).getD j p0)).map fun m => if m = n then a else 0).sum = _
  rw [sum_filt]
  have e : ∀ m ∈ List.range (dataOf cs).length, (if inPair s ((dataOf cs).getD m p0) = true then (if m = n then a else 0) else 0) = if m = n then (if inPair s ((dataOf cs).getD m p0) = true then a else 0) else 0 := fun m _ => by
    by_cases q : m = n
    · rw [if_pos q, if_pos q]
    · rw [if_neg q, if_neg q]
      split <;> rfl
  rw [sum_congF e, sum_pick (fun m => if inPair s ((dataOf cs).getD m p0) = true then a else 0) n List.nodup_range, if_pos (List.mem_range.mpr h)]
theorem net0 {cs : List Col} (G : Good cs) (lost : List PyData) : Net0 (netP cs lost) := ⟨netP_nd cs lost, fun z hz => by
  obtain ⟨m, hm, rfl⟩ := List.mem_map.mp hz
  exact (pair_at G (List.mem_range.mp (List.mem_filter.mp hm).1)).2.2⟩
theorem mod_ne {k : Kd} (hk : k.ok) {a : Int} (h0 : 0 < a) (h3 : a < 3) (hb : k = .bits → a = 1) : a % modK k ≠ 0 ∧ (-a) % modK k ≠ 0 := by
  cases k with
  | bits =>
    rw [hb rfl]
    exact ⟨by decide, by decide⟩
  | plain =>
    have e0 : ∀ i : Int, i % modK .plain = i := Int.emod_zero
    rw [e0, e0]
    exact ⟨by omega, by omega⟩
  | dial m =>
    have h := hk.1
    have e : a % m = a := Int.emod_eq_of_lt (by omega) (by omega)
    refine ⟨by show a % m ≠ 0; omega, fun z => ?_⟩
    have d : m ∣ -a := Int.dvd_of_emod_eq_zero z
    have d2 := Int.emod_eq_zero_of_dvd (Int.dvd_neg.mp d)
    omega
theorem has_lostB {lost : List PyData} {cell d : PyData} (h : hasC (lostB lost cell) d = true) : hasC lost d = true := by
  rw [lostB_has] at h
  exact (Bool.and_eq_true_iff.mp h).1
/-- the amount c at a datum, y elsewhere -/
theorem gone_fin {k : Kd} {cs : List Col} {lost : List PyData} {m : Nat} (hm : m < (dataOf cs).length) (hc : hasC lost (datC (m : Int)) = true) (c : Int) (y : Nat → Int) (sup : ∀ n, y n ≠ 0 → ∃ z ∈ netP cs (lostB lost (datC (m : Int))), z.1 = n)
    (bd : ∀ s ∈ netS cs (lostB lost (datC (m : Int))), ((if s = ((dataOf cs).getD m p0).1 ∨ s = ((dataOf cs).getD m p0).2 then c else 0) + bnd (netP cs (lostB lost (datC (m : Int)))) y s) % modK k = 0) (c0 : c % modK k ≠ 0) (hb : k = .plain → (-2 ≤ c ∧ c ≤ 2) ∧ ∀ n, -2 ≤ y n ∧ y n ≤ 2) :
    ∃ x : Nat → Int, (∀ n, x n ≠ 0 → n < (dataOf cs).length ∧ hasC lost (datC (n : Int)) = true) ∧ (∀ s ∈ sumsOf cs, hasC lost (sumC s) = false → valX cs x (sumC s) % modK k = 0) ∧ valX cs x (datC (m : Int)) % modK k ≠ 0 ∧ (k = .plain → ∀ n, -2 ≤ x n ∧ x n ≤ 2) := by
  have ym : y m = 0 := by
    by_cases z : y m = 0
    · exact z
    · obtain ⟨w, hw, e⟩ := sup m z
      obtain ⟨j, hj, rfl⟩ := List.mem_map.mp hw
      have e : j = m := e
      have h2 := (List.mem_filter.mp hj).2
      rw [e, lostB_has, decide_eq_true rfl, Bool.not_true, Bool.and_false] at h2
      exact nomatch h2
  refine ⟨fun n => (if n = m then c else 0) + y n, fun n hn => ?_, fun s hs hl => ?_, ?_, fun e n => ?_⟩
  · dsimp only at hn
    by_cases q : n = m
    · rw [q]; exact ⟨hm, hc⟩
    · rw [if_neg q, Int.zero_add] at hn
      obtain ⟨w, hw, e⟩ := sup n hn
      obtain ⟨j, hj, rfl⟩ := List.mem_map.mp hw
      have e : j = n := e
      obtain ⟨h1, h2⟩ := List.mem_filter.mp hj
      rw [e] at h1 h2
      exact ⟨List.mem_range.mp h1, has_lostB h2⟩
  · rw [valX_add (.inl ⟨s, rfl⟩), valX_one hm, valX_bnd sup, inPair_eq]
    have q := bd s (List.mem_filter.mpr ⟨hs, by rw [lostB_has, hl]; rfl⟩)
    by_cases u : s = ((dataOf cs).getD m p0).1 ∨ s = ((dataOf cs).getD m p0).2
    · rw [if_pos u] at q
      rw [if_pos (decide_eq_true u)]
      exact q
    · rw [if_neg u] at q
      rw [if_neg (by rw [decide_eq_false u]; decide)]
      exact q
  · show ((if m = m then c else 0) + y m) % modK k ≠ 0
    rw [if_pos rfl, ym, Int.add_zero]
    exact c0
  · obtain ⟨h1, h2⟩ := hb e
    have := h2 n
    show -2 ≤ (if n = m then c else 0) + y n ∧ (if n = m then c else 0) + y n ≤ 2
    by_cases q : n = m
    · rw [if_pos q, q, ym]; omega
    · rw [if_neg q]; omega
theorem sup_in {ps : List (Nat × Str × Str)} {cl : List (Str × Int)} {y : Nat → Int} (h : SupC ps cl y) : ∀ n, y n ≠ 0 → ∃ z ∈ ps, z.1 = n := fun n hn => let ⟨z, h1, h2, _⟩ := h n hn; ⟨z, h1, h2⟩
/-- an end of the lost datum that is left, the other one not -/
theorem away_one {k : Kd} (hk : k.ok) {ps : List (Nat × Str × Str)} {ss : List Str} {u v : Str} (N : Net0 ps) (hu : u ∈ ss) (hv : v ∉ ss) (h : partS ps (colN ps ss u) ≠ [] ∨ (partT ps (colN ps ss u) = false ∧ wordK k ≠ "bits")) :
    ∃ (c : Int) (y : Nat → Int), (∀ n, y n ≠ 0 → ∃ z ∈ ps, z.1 = n) ∧ (∀ s ∈ ss, ((if s = u ∨ s = v then c else 0) + bnd ps y s) % modK k = 0) ∧ c % modK k ≠ 0 ∧ ((-2 ≤ c ∧ c ≤ 2) ∧ ∀ n, -2 ≤ y n ∧ y n ≤ 2) := by
  obtain ⟨⟨ok, F, kp, T⟩, hd⟩ := col_all N hu
  obtain ⟨a, y2, s2, b2, m2, _⟩ := flow_away N ok T hd h
  have pick : ∀ (c : Int) (y : Nat → Int), (∀ t ∈ ss, bnd ps y t = -(if t = u then c else 0)) → ∀ s ∈ ss, ((if s = u ∨ s = v then c else 0) + bnd ps y s) % modK k = 0 := fun c y hy s hs => by
    rw [hy s hs]
    by_cases q : s = u
    · rw [if_pos (.inl q), if_pos q, Int.add_right_neg, Int.zero_emod]
    · rw [if_neg (fun z => z.elim q fun z => hv (z ▸ hs)), if_neg q]
      exact Int.zero_emod _
  rcases a with ⟨y, s1, b1, m1⟩ | hw
  · exact ⟨1, y, sup_in s1, pick 1 y b1, (mod_ne hk (by decide) (by decide) fun _ => rfl).1, ⟨by decide, by decide⟩, fun n => by have := m1 n; omega⟩
  · exact ⟨2, y2, sup_in s2, pick 2 y2 b2, (mod_ne hk (by decide) (by decide) fun z => absurd (by rw [z]; rfl) hw).1, ⟨by decide, by decide⟩, m2⟩
/-- both ends in one part -/
theorem away_two {k : Kd} (hk : k.ok) {ps : List (Nat × Str × Str)} {ss : List Str} {u v : Str} (N : Net0 ps) (hu : u ∈ ss) (ne : u ≠ v) (huv : inC (colN ps ss u) v = true)
    (h : (partS ps (colN ps ss u) ≠ [] ∨ (partT ps (colN ps ss u) = false ∧ wordK k ≠ "bits")) ∨ (colOf (colN ps ss u) u + colOf (colN ps ss u) v = 2 → wordK k ≠ "odd" ∧ wordK k ≠ "plain")) :
    ∃ (c : Int) (y : Nat → Int), (∀ n, y n ≠ 0 → ∃ z ∈ ps, z.1 = n) ∧ (∀ s ∈ ss, ((if s = u ∨ s = v then c else 0) + bnd ps y s) % modK k = 0) ∧ c % modK k ≠ 0 ∧ (k = .plain → (-2 ≤ c ∧ c ≤ 2) ∧ ∀ n, -2 ≤ y n ∧ y n ≤ 2) := by
  obtain ⟨⟨ok, F, kp, T⟩, hd⟩ := col_all N hu
  have r := T.root.2
  have cv := (okc_of ok huv).2
  have sF : ∀ n, F v n ≠ 0 → ∃ z ∈ ps, z.1 = n := fun n hn => let ⟨z, h1, h2, _⟩ := T.sup v n hn; ⟨z, h1, h2⟩
  have mF : ∀ n, -1 ≤ F v n ∧ F v n ≤ 1 := fun n => by
    have := T.one v n
    have := T.kap n
    omega
  have one : (1 : Int) % modK k ≠ 0 := (mod_ne hk (by decide) (by decide) fun _ => rfl).1
  rcases cv with cv | cv
  · by_cases kb : k = .bits
    · subst kb
      refine ⟨1, F v, sF, fun s hs => ?_, one, fun z => nomatch z⟩
      rw [T.bd v huv s, cv]
      show _ % (2 : Int) = 0
      by_cases q : s = u
      · have q2 : ¬ s = v := fun z => ne (q.symm.trans z)
        rw [if_pos (.inl q), if_neg q2, if_pos q]
        rfl
      · by_cases q2 : s = v
        · rw [if_pos (.inr q2), if_pos q2, if_neg q]
          rfl
        · rw [if_neg (fun z => z.elim q q2), if_neg q2, if_neg q]
          rfl
    · rcases h with h | h
      · obtain ⟨_, y2, s2, b2, m2, d2⟩ := flow_away N ok T hd h
        refine ⟨1, fun n => y2 n + (-1) * F v n, fun n hn => ?_, fun s hs => ?_, one, fun _ => ⟨⟨by decide, by decide⟩, fun n => by have := d2 v n; dsimp only; omega⟩⟩
        · dsimp only at hn
          by_cases z : y2 n = 0
          · rw [z] at hn
            exact sF n fun q => hn (by rw [q]; rfl)
          · exact sup_in s2 n z
        · rw [bnd_add, bnd_mul, b2 s hs, T.bd v huv s, cv]
          have : (if s = u ∨ s = v then (1 : Int) else 0) + (-(if s = u then 2 else 0) + -1 * ((if s = v then 1 else 0) - if s = u then 1 else 0)) = 0 := by
            by_cases q : s = u
            · have q2 : ¬ s = v := fun z => ne (q.symm.trans z)
              rw [if_pos (.inl q), if_neg q2, if_pos q, if_pos q]
              rfl
            · by_cases q2 : s = v
              · rw [if_pos (.inr q2), if_pos q2, if_neg q, if_neg q]
                rfl
              · rw [if_neg (fun z => z.elim q q2), if_neg q2, if_neg q, if_neg q]
                rfl
          rw [this, Int.zero_emod]
      · obtain ⟨w1, w2⟩ := h (by omega)
        cases k with
        | bits => exact absurd rfl kb
        | plain => exact absurd rfl w2
        | dial M =>
          have ev : M % 2 = 0 := by
            by_cases e : M % 2 = 0
            · exact e
            · exact absurd (show (if M % 2 = 0 then ("even" : Str) else "odd") = "odd" from if_neg e) w1
          obtain ⟨hh, eM⟩ : ∃ hh : Int, M = 2 * hh := ⟨M / 2, by omega⟩
          have h3 := hk.1
          refine ⟨hh, fun n => hh * F v n, fun n hn => sF n fun q => hn (by show hh * F v n = 0; rw [q, Int.mul_zero]), fun s hs => ?_, ?_, fun z => nomatch z⟩
          · rw [bnd_mul, T.bd v huv s, cv]
            show _ % M = 0
            by_cases q : s = u
            · have q2 : ¬ s = v := fun z => ne (q.symm.trans z)
              rw [if_pos (.inl q), if_neg q2, if_pos q]
              have : hh + hh * (0 - 1) = 0 := by omega
              rw [this, Int.zero_emod]
            · by_cases q2 : s = v
              · rw [if_pos (.inr q2), if_pos q2, if_neg q]
                have : hh + hh * (1 - 0) = M := by omega
                rw [this, Int.emod_self]
              · rw [if_neg (fun z => z.elim q q2), if_neg q2, if_neg q]
                simp
          · show hh % M ≠ 0
            rw [Int.emod_eq_of_lt (by omega) (by omega)]
            omega
  · refine ⟨1, F v, sF, fun s hs => ?_, one, fun _ => ⟨⟨by decide, by decide⟩, fun n => by have := mF n; omega⟩⟩
    rw [T.bd v huv s, cv]
    have : (if s = u ∨ s = v then (1 : Int) else 0) + ((if s = v then -1 else 0) - if s = u then 1 else 0) = 0 := by
      by_cases q : s = u
      · have q2 : ¬ s = v := fun z => ne (q.symm.trans z)
        rw [if_pos (.inl q), if_neg q2, if_pos q]
        rfl
      · by_cases q2 : s = v
        · rw [if_pos (.inr q2), if_pos q2, if_neg q]
          rfl
        · rw [if_neg (fun z => z.elim q q2), if_neg q2, if_neg q]
          rfl
    rw [this, Int.zero_emod]
/-- both ends left, in two parts -/
theorem away_apart {k : Kd} (hk : k.ok) {ps : List (Nat × Str × Str)} {ss : List Str} {u v : Str} (N : Net0 ps) (hu : u ∈ ss) (hv : v ∈ ss) (ne : u ≠ v) (huv : inC (colN ps ss u) v = false)
    (h1 : partS ps (colN ps ss u) ≠ [] ∨ (partT ps (colN ps ss u) = false ∧ wordK k ≠ "bits")) (h2 : partS ps (colN ps ss v) ≠ [] ∨ (partT ps (colN ps ss v) = false ∧ wordK k ≠ "bits")) :
    ∃ (c : Int) (y : Nat → Int), (∀ n, y n ≠ 0 → ∃ z ∈ ps, z.1 = n) ∧ (∀ s ∈ ss, ((if s = u ∨ s = v then c else 0) + bnd ps y s) % modK k = 0) ∧ c % modK k ≠ 0 ∧ ((-2 ≤ c ∧ c ≤ 2) ∧ ∀ n, -2 ≤ y n ∧ y n ≤ 2) := by
  obtain ⟨⟨ok, F, kp, T⟩, hd⟩ := col_all N hu
  obtain ⟨⟨ok', F', kp', T'⟩, hd'⟩ := col_all N hv
  obtain ⟨a, y2, s2, b2, m2, _⟩ := flow_away N ok T hd h1
  obtain ⟨a', y2', s2', b2', m2', _⟩ := flow_away N ok' T' hd' h2
  have pick : ∀ (c : Int) (y y' : Nat → Int), (∀ t ∈ ss, bnd ps y t = -(if t = u then c else 0)) → (∀ t ∈ ss, bnd ps y' t = -(if t = v then c else 0)) → ∀ s ∈ ss, ((if s = u ∨ s = v then c else 0) + bnd ps (fun n => y n + y' n) s) % modK k = 0 := fun c y y' hy hy' s hs => by
    rw [bnd_add, hy s hs, hy' s hs]
    have : (if s = u ∨ s = v then c else 0) + (-(if s = u then c else 0) + -(if s = v then c else 0)) = 0 := by
      by_cases q : s = u
      · have q2 : ¬ s = v := fun z => ne (q.symm.trans z)
        rw [if_pos (.inl q), if_neg q2, if_pos q]
        omega
      · by_cases q2 : s = v
        · rw [if_pos (.inr q2), if_pos q2, if_neg q]
          omega
        · rw [if_neg (fun z => z.elim q q2), if_neg q2, if_neg q]
          rfl
    rw [this, Int.zero_emod]
  have sup : ∀ (y y' : Nat → Int), SupC ps (colN ps ss u) y → SupC ps (colN ps ss v) y' → ∀ n, y n + y' n ≠ 0 → ∃ z ∈ ps, z.1 = n := fun y y' q q' n hn => by
    by_cases z : y n = 0
    · exact sup_in q' n fun z' => hn (by rw [z, z']; rfl)
    · exact sup_in q n z
  have two : wordK k ≠ "bits" → ∃ (c : Int) (y : Nat → Int), (∀ n, y n ≠ 0 → ∃ z ∈ ps, z.1 = n) ∧ (∀ s ∈ ss, ((if s = u ∨ s = v then c else 0) + bnd ps y s) % modK k = 0) ∧ c % modK k ≠ 0 ∧ ((-2 ≤ c ∧ c ≤ 2) ∧ ∀ n, -2 ≤ y n ∧ y n ≤ 2) := fun hw => by
    refine ⟨2, fun n => y2 n + y2' n, sup _ _ s2 s2', pick 2 y2 y2' b2 b2', (mod_ne hk (by decide) (by decide) fun z => absurd (by rw [z]; rfl) hw).1, ⟨by decide, by decide⟩, fun n => ?_⟩
    have z1 := m2 n
    have z2 := m2' n
    show -2 ≤ y2 n + y2' n ∧ y2 n + y2' n ≤ 2
    by_cases q : y2 n = 0
    · omega
    · by_cases q' : y2' n = 0
      · omega
      · exfalso
        obtain ⟨z, hz, ez, hc⟩ := s2 n q
        obtain ⟨z', hz', ez', hc'⟩ := s2' n q'
        rw [nod_eq N.1 hz' hz (ez'.trans ez.symm)] at hc'
        have cl := col_closed N hd
        have key : ∀ t, inC (colN ps ss v) t = true → inC (colN ps ss u) t = true → False := fun t h1 h2 => by
          have := (con_col (S := fun t => inC (colN ps ss u) t = true) N hv cl t h1).mp h2
          rw [huv] at this
          exact nomatch this
        have cz : z.2.1 ∈ ss → z.2.2 ∈ ss → (inC (colN ps ss u) z.2.1 = true ↔ inC (colN ps ss u) z.2.2 = true) := cl z hz
        rcases hc with hc | hc <;> rcases hc' with hc' | hc'
        · exact key _ hc' hc
        · exact key _ hc' ((cz (okc_of ok hc).1 (okc_of ok' hc').1).mp hc)
        · exact key _ hc' ((cz (okc_of ok' hc').1 (okc_of ok hc).1).mpr hc)
        · exact key _ hc' hc
  rcases a with ⟨y, s1, b1, m1⟩ | hw
  · rcases a' with ⟨y', s1', b1', m1'⟩ | hw
    · exact ⟨1, fun n => y n + y' n, sup _ _ s1 s1', pick 1 y y' b1 b1', (mod_ne hk (by decide) (by decide) fun _ => rfl).1, ⟨by decide, by decide⟩, fun n => by have := m1 n; have := m1' n; show -2 ≤ y n + y' n ∧ y n + y' n ≤ 2; omega⟩
    · exact two hw
  · exact two hw
/-- what does not come back can be changed -/
theorem gone_x {k : Kd} (hk : k.ok) {cs : List Col} (G : Good cs) {lost : List PyData} {cell : PyData} (ic : isCell cs cell) (hc : hasC lost cell = true) (h : toldC k cs lost cell = none) :
    ∃ x : Nat → Int, (∀ n, x n ≠ 0 → n < (dataOf cs).length ∧ hasC lost (datC (n : Int)) = true) ∧ (∀ s ∈ sumsOf cs, hasC lost (sumC s) = false → valX cs x (sumC s) % modK k = 0) ∧ valX cs x cell % modK k ≠ 0 ∧ (k = .plain → ∀ n, -2 ≤ x n ∧ x n ≤ 2) := by
  have N := net0 G (lostB lost cell)
  have tn := told_none h
  have root : ∀ e ∈ netS cs (lostB lost cell), colOf (colN (netP cs (lostB lost cell)) (netS cs (lostB lost cell)) e) e = 1 := fun e he => by
    obtain ⟨⟨_, _, _, T⟩, _⟩ := col_all N he
    exact T.root.2
  rcases ic with ⟨s0, rfl, hs0⟩ | ⟨n0, rfl, n00, n01⟩
  · have m0 : s0 ∈ netS cs (lostB lost (sumC s0)) := List.mem_filter.mpr ⟨hs0, by rw [lostB_has, decide_eq_true rfl, Bool.not_true, Bool.and_false]; rfl⟩
    have es : endsG cs lost (sumC s0) = [s0] := by
      show ([s0] : List Str).filter _ = [s0]
      rw [List.filter_cons, if_pos (List.contains_iff_mem.mpr m0)]
      rfl
    rw [es] at tn
    have t0 := tn s0 List.mem_cons_self
    have t1 : partS (netP cs (lostB lost (sumC s0))) (colN (netP cs (lostB lost (sumC s0))) (netS cs (lostB lost (sumC s0))) s0) ≠ [] ∨ (partT (netP cs (lostB lost (sumC s0))) (colN (netP cs (lostB lost (sumC s0))) (netS cs (lostB lost (sumC s0))) s0) = false ∧ wordK k ≠ "bits") := by
      refine t0.resolve_right fun z => z.1 ?_
      rw [List.map_cons, List.map_nil, List.sum_cons, root s0 m0]
      rfl
    obtain ⟨⟨ok, F, kp, T⟩, hd⟩ := col_all N m0
    obtain ⟨a, y2, s2, b2, m2, _⟩ := flow_away N ok T hd t1
    have go : ∀ (c : Int) (y : Nat → Int), (∀ n, y n ≠ 0 → ∃ z ∈ netP cs (lostB lost (sumC s0)), z.1 = n) → (∀ t ∈ netS cs (lostB lost (sumC s0)), bnd (netP cs (lostB lost (sumC s0))) y t = -(if t = s0 then c else 0)) → (-c) % modK k ≠ 0 → (∀ n, -2 ≤ y n ∧ y n ≤ 2) →
        ∃ x : Nat → Int, (∀ n, x n ≠ 0 → n < (dataOf cs).length ∧ hasC lost (datC (n : Int)) = true) ∧ (∀ s ∈ sumsOf cs, hasC lost (sumC s) = false → valX cs x (sumC s) % modK k = 0) ∧ valX cs x (sumC s0) % modK k ≠ 0 ∧ (k = .plain → ∀ n, -2 ≤ x n ∧ x n ≤ 2) := fun c y sp by_ hc0 mm => by
      refine ⟨y, fun n hn => ?_, fun s hs hl => ?_, ?_, fun _ => mm⟩
      · obtain ⟨w, hw, e⟩ := sp n hn
        obtain ⟨j, hj, rfl⟩ := List.mem_map.mp hw
        have e : j = n := e
        obtain ⟨h1, h2⟩ := List.mem_filter.mp hj
        rw [e] at h1 h2
        exact ⟨List.mem_range.mp h1, has_lostB h2⟩
      · rw [valX_bnd sp, by_ s (List.mem_filter.mpr ⟨hs, by rw [lostB_has, hl]; rfl⟩), if_neg fun z => by rw [z, hc] at hl; exact nomatch hl]
        exact Int.zero_emod _
      · rw [valX_bnd sp, by_ s0 m0, if_pos rfl]
        exact hc0
    rcases a with ⟨y, s1, b1, m1⟩ | hw
    · exact go 1 y (sup_in s1) b1 (mod_ne hk (by decide) (by decide) fun _ => rfl).2 fun n => by have := m1 n; omega
    · exact go 2 y2 (sup_in s2) b2 (mod_ne hk (by decide) (by decide) fun z => absurd (by rw [z]; rfl) hw).2 m2
  · obtain ⟨m, rfl⟩ := Int.eq_ofNat_of_zero_le n00
    rw [Int.toNat_natCast] at n01
    have ne := (pair_at G n01).2.2
    have eE : endsG cs lost (datC (m : Int)) = [((dataOf cs).getD m p0).1, ((dataOf cs).getD m p0).2].filter fun s => (netS cs (lostB lost (datC (m : Int)))).contains s := rfl
    have fin := fun c y sup bd c0 hb => gone_fin (k := k) (lost := lost) n01 hc c y sup bd c0 hb
    generalize ((dataOf cs).getD m p0).1 = a at ne eE fin
    generalize ((dataOf cs).getD m p0).2 = b at ne eE fin
    generalize netS cs (lostB lost (datC (m : Int))) = ss at *
    generalize netP cs (lostB lost (datC (m : Int))) = ps at *
    rw [eE] at tn
    have or_c : ∀ s : Str, (s = a ∨ s = b) = (s = b ∨ s = a) := fun s => propext Or.comm
    by_cases ha : a ∈ ss
    · by_cases hb : b ∈ ss
      · have es : [a, b].filter (fun s => ss.contains s) = [a, b] := by
          rw [List.filter_cons, if_pos (List.contains_iff_mem.mpr ha), List.filter_cons, if_pos (List.contains_iff_mem.mpr hb)]
          rfl
        rw [es] at tn
        have ta := tn a List.mem_cons_self
        have tb := tn b (List.mem_cons_of_mem _ List.mem_cons_self)
        have sm : ∀ cl : List (Str × Int), (([a, b] : List Str).map (colOf cl)).sum = colOf cl a + colOf cl b := fun cl => by simp
        rw [sm] at ta tb
        cases hab : inC (colN ps ss a) b with
        | true =>
          obtain ⟨c, y, h1, h2, h3, h4⟩ := away_two hk N ha ne hab (ta.imp id fun z => z.2)
          exact fin c y h1 h2 h3 h4
        | false =>
          cases hba : inC (colN ps ss b) a with
          | true =>
            obtain ⟨c, y, h1, h2, h3, h4⟩ := away_two hk N hb (fun z => ne z.symm) hba (tb.imp id fun z e => z.2 (by omega))
            exact fin c y h1 (fun s hs => by have := h2 s hs; simp only [or_c]; exact this) h3 h4
          | false =>
            have xa := ta.resolve_right fun z => z.1 (by rw [root a ha, colOf_out hab]; rfl)
            have xb := tb.resolve_right fun z => z.1 (by rw [root b hb, colOf_out hba]; rfl)
            obtain ⟨c, y, h1, h2, h3, h4⟩ := away_apart hk N ha hb ne hab xa xb
            exact fin c y h1 h2 h3 fun _ => h4
      · have es : [a, b].filter (fun s => ss.contains s) = [a] := by
          rw [List.filter_cons, if_pos (List.contains_iff_mem.mpr ha), List.filter_cons, if_neg fun z => hb (List.contains_iff_mem.mp z)]
          rfl
        rw [es] at tn
        obtain ⟨c, y, h1, h2, h3, h4⟩ := away_one hk N ha hb ((tn a List.mem_cons_self).resolve_right fun z => z.1 (by rw [List.map_cons, List.map_nil, List.sum_cons, root a ha]; rfl))
        exact fin c y h1 h2 h3 fun _ => h4
    · by_cases hb : b ∈ ss
      · have es : [a, b].filter (fun s => ss.contains s) = [b] := by
          rw [List.filter_cons, if_neg fun z => ha (List.contains_iff_mem.mp z), List.filter_cons, if_pos (List.contains_iff_mem.mpr hb)]
          rfl
        rw [es] at tn
        obtain ⟨c, y, h1, h2, h3, h4⟩ := away_one hk N hb ha ((tn b List.mem_cons_self).resolve_right fun z => z.1 (by rw [List.map_cons, List.map_nil, List.sum_cons, root b hb]; rfl))
        exact fin c y h1 (fun s hs => by have := h2 s hs; simp only [or_c]; exact this) h3 fun _ => h4
      · refine fin 1 (fun _ => 0) (fun n h => absurd rfl h) (fun s hs => ?_) (mod_ne hk (by decide) (by decide) fun _ => rfl).1 fun _ => ⟨⟨by decide, by decide⟩, fun n => ⟨by decide, by decide⟩⟩
        have z : bnd ps (fun _ => 0) s = 0 := by
          unfold bnd
          exact sum_zeroF fun y _ => by split <;> rfl
        rw [z, if_neg fun q => q.elim (fun q => ha (q ▸ hs)) fun q => hb (q ▸ hs)]
        exact Int.zero_emod _
end K30
end
section
set_option Elab.async false
set_option linter.all false
set_option maxRecDepth 100000
set_option maxHeartbeats 4000000
namespace K30
open PySem PySem.Spec PyProof.Rows L2 Evl TX
open C8 (Cal pe_c pe_gc)
theorem sum_ones {α : Type} : ∀ l : List α, (l.map fun _ => (1 : Int)).sum = (l.length : Int)
  | [] => rfl
  | x :: l => by
    rw [List.map_cons, List.sum_cons, sum_ones l, List.length_cons]
    omega
theorem cells_34 {cs : List Col} (G : Good cs) : (cellsL cs).length ≤ 34 := by
  have q := cells_sum cs fun _ => 1
  rw [sum_ones, sum_ones, sum_ones, List.length_range] at q
  have := G.slen
  have := G.dlen
  omega
open PyData
open PySem.Builtin.Str (reprChar)
open RP GL
/-! ### cells by their texts -/
theorem cpsT (x y : Str) : (x ++ y).cps.toList = x.cps.toList ++ y.cps.toList := by
  have e : (x ++ y).cps = x.cps ++ y.cps := rfl
  rw [e, Array.toList_append]
theorem str_ext {x y : Str} (h : x.cps.toList = y.cps.toList) : x = y := by
  cases x
  cases y
  exact congrArg Str.mk (Array.toList_inj.mp h)
theorem two_cps (a b : Str) : (tupleText [a, b]).cps.toList = [40] ++ ((a.cps.toList ++ [44, 32]) ++ b.cps.toList) ++ [41] := by
  rw [pair_text, cpsT, cpsT]
  have e : Str.join ", " [a, b] = (a ++ (", " : Str)) ++ b := rfl
  rw [e, cpsT, cpsT]
  rfl
theorem char_self : ∀ c, c < 123 → 97 ≤ c → reprChar 39 c = [c] := by decide +kernel
theorem name_text {z : Str} (h : isName z = true) : (reprText z).cps.toList = [39] ++ z.cps.toList ++ [39] := by
  have hn := name_sg h
  have hq : reprQuote z = 39 := by
    unfold reprQuote
    refine if_neg fun q => ?_
    have q1 := (Bool.and_eq_true_iff.mp q).1
    have := hn 39 (Array.mem_toList_iff.mpr (Array.contains_iff_mem.mp q1))
    omega
  have go : ∀ (l : List Nat) (acc : Array Nat), (∀ c ∈ l, 97 ≤ c ∧ c ≤ 122) → (l.foldl (fun out c => out ++ (reprChar 39 c).toArray) acc).toList = acc.toList ++ l := by
    intro l
    induction l with
    | nil => intro acc _; simp
    | cons c r ih =>
      intro acc hc
      have hc0 := hc c List.mem_cons_self
      rw [List.foldl_cons, ih _ fun x hx => hc x (List.mem_cons_of_mem _ hx), char_self c (by omega) hc0.1, Array.toList_append]
      simp
  unfold reprText
  have ef := Array.foldl_toList (fun (out : Array Nat) c => out ++ (reprChar (reprQuote z) c).toArray) (init := #[reprQuote z]) (xs := z.cps)
  rw [Array.toList_push, ← ef, hq, go _ _ hn]
theorem nums_apart : ∀ m, m < 24 → ∀ n, n < 24 → Str.ofString (toString ((m : Nat) : Int)) = Str.ofString (toString ((n : Nat) : Int)) → m = n := by decide +kernel
theorem sum_text (s : Str) : (sumC s).shown = tupleText [reprText "sum", reprText s] := by
  unfold sumC
  rw [PyData.shown, PyData.shownAll, PyData.shownAll, PyData.shownAll, PyData.shown, PyData.shown]
theorem dat_text (m : Nat) : (datC (m : Int)).shown = tupleText [reprText "datum", Str.ofString (toString (m : Int))] := by
  unfold datC
  rw [PyData.shown, PyData.shownAll, PyData.shownAll, PyData.shownAll, PyData.shown, PyData.shown]
theorem sum_dat (s : Str) (m : Nat) : (sumC s).shown ≠ (datC (m : Int)).shown := fun h => by
  have q := congrArg (fun z : Str => z.cps.toList) ((sum_text s).symm.trans (h.trans (dat_text m)))
  have q : (tupleText [reprText "sum", reprText s]).cps.toList = (tupleText [reprText "datum", Str.ofString (toString (m : Int))]).cps.toList := q
  rw [two_cps, two_cps] at q
  have e1 : (reprText "sum").cps.toList = [39, 115, 117, 109, 39] := by decide +kernel
  have e2 : (reprText "datum").cps.toList = [39, 100, 97, 116, 117, 109, 39] := by decide +kernel
  rw [e1, e2] at q
  simp at q
theorem cell_shown {cs : List Col} (G : Good cs) {d e : PyData} (h : isCell cs d) (g : isCell cs e) (q : d.shown = e.shown) : d = e := by
  rcases h with ⟨s, rfl, hs⟩ | ⟨n, rfl, n0, n1⟩ <;> rcases g with ⟨t, rfl, ht⟩ | ⟨m, rfl, m0, m1⟩
  · rw [sum_text, sum_text] at q
    have q := congrArg (fun z : Str => z.cps.toList) q
    rw [two_cps, two_cps] at q
    have q2 := List.append_cancel_right q
    have q3 := List.append_cancel_left (List.append_cancel_left q2)
    rw [name_text (sum_name G hs), name_text (sum_name G ht)] at q3
    rw [str_ext (List.append_cancel_left (List.append_cancel_right q3))]
  · obtain ⟨k, rfl⟩ := Int.eq_ofNat_of_zero_le m0
    exact absurd q (sum_dat s k)
  · obtain ⟨k, rfl⟩ := Int.eq_ofNat_of_zero_le n0
    exact absurd q.symm (sum_dat t k)
  · obtain ⟨k, rfl⟩ := Int.eq_ofNat_of_zero_le n0
    obtain ⟨j, rfl⟩ := Int.eq_ofNat_of_zero_le m0
    have l := G.dlen
    rw [Int.toNat_natCast] at n1 m1
    rw [dat_text, dat_text] at q
    have q := congrArg (fun z : Str => z.cps.toList) q
    rw [two_cps, two_cps] at q
    have q2 := List.append_cancel_right q
    have q3 := List.append_cancel_left (List.append_cancel_left q2)
    rw [nums_apart k (by omega) j (by omega) (str_ext q3)]
theorem sub_at {α : Type} {x : α} {r : List α} : ∀ {l : List α}, (x :: r).Sublist l → ∃ k, l[k]? = some x ∧ r.Sublist (l.drop (k + 1))
  | y :: l, h => by
    cases h with
    | cons _ h =>
      obtain ⟨k, h1, h2⟩ := sub_at h
      exact ⟨k + 1, h1, h2⟩
    | cons_cons _ h => exact ⟨0, rfl, h⟩
/-- how often a datum is in a cell -/
def cntX (cs : List Col) (d : PyData) (k : Nat) : Int := valX cs (fun n => if n = k then 1 else 0) d
theorem cnt_small {cs : List Col} {d : PyData} (ic : isCell cs d) {k : Nat} (hk : k < (dataOf cs).length) : cntX cs d k = 0 ∨ cntX cs d k = 1 := by
  rcases ic with ⟨s, rfl, _⟩ | ⟨n, rfl, _, _⟩
  · unfold cntX
    rw [valX_one hk]
    split
    · exact .inr rfl
    · exact .inl rfl
  · show (if n.toNat = k then (1 : Int) else 0) = 0 ∨ (if n.toNat = k then (1 : Int) else 0) = 1
    split
    · exact .inr rfl
    · exact .inl rfl
theorem sub_mod {a b : Int} {k : Kd} (h : a % modK k = b % modK k) : redV k (a - b) = 0 := by
  rw [red_mod]
  exact Int.emod_eq_emod_iff_emod_sub_eq_zero.mp h
/-- a recipe holds each datum as often as its cell, times the divisor -/
theorem rec_each {k : Kd} {cs : List Col} (G : Good cs) {lost : List PyData} (hl : ∀ d ∈ lost, isCell cs d) {cell : PyData} (ic : isCell cs cell) (hc : hasC lost cell = true) {m : Int} {fs : List (PyData × Int)} (h : recK k cs lost cell = some (m, fs)) (x : Nat → Int) :
    redV k ((fs.map fun z => z.2 * valX cs x z.1).sum - m * valX cs x cell) = 0 := by
  obtain ⟨cl, t, sc, hT, rfl, hcase⟩ := rec_fs h
  refine sub_mod ((rec_core G hl ic hc hT sc x).trans ?_)
  rcases hcase with ⟨a, rfl, rfl⟩ | ⟨a, rfl, rfl, z⟩ | ⟨a, rfl, rfl, M, rfl, ho, rfl⟩
  · rw [if_pos a, Int.neg_mul, Int.one_mul, Int.neg_neg, Int.one_mul]
  · rw [if_neg a, Int.one_mul]
  · rw [if_neg a, ← Int.mul_assoc]
    have : (M + 1) / 2 * 2 = M + 1 := by omega
    rw [this, Int.add_mul]
    show (M * _ + _) % M = _ % M
    rw [Int.add_emod, Int.mul_emod_right, Int.zero_add, Int.emod_emod_of_dvd _ (Int.dvd_refl _)]
theorem rec_order {k : Kd} {cs : List Col} (G : Good cs) {lost : List PyData} (hl : ∀ d ∈ lost, isCell cs d) {cell : PyData} {m : Int} {fs : List (PyData × Int)} (h : recK k cs lost cell = some (m, fs)) :
    (fs.map (·.1)).Sublist ((cellsL cs).filter fun d => !(lost.any fun z => PyData.eqv z d)) := by
  obtain ⟨cl, t, sc, hT, rfl, hcase⟩ := rec_fs h
  unfold lfL
  rw [List.map_map]
  have e : ((·.1) ∘ fun d => (d, facK k cs cl sc d) : PyData → PyData) = id := rfl
  rw [e, List.map_id, ← List.filter_filter]
  exact List.filter_sublist
theorem rec_bounds {k : Kd} (hk : k.ok) {cs : List Col} (G : Good cs) {lost : List PyData} {cell : PyData} {m : Int} {fs : List (PyData × Int)} (h : recK k cs lost cell = some (m, fs)) :
    (1 ≤ m ∧ m ≤ (if isPlain k = true then 2 else 1)) ∧ ∀ z ∈ fs, z.2 ≠ 0 ∧ (k = .bits → z.2 = 1) ∧ ∀ M, k = .dial M → 1 ≤ z.2 ∧ z.2 ≤ M - 1 := by
  obtain ⟨hm, _, _⟩ := rec_ok hk G h
  obtain ⟨cl, t, sc, hT, rfl, hcase⟩ := rec_fs h
  refine ⟨⟨by omega, ?_⟩, fun z hz => ?_⟩
  · rcases hcase with ⟨a, rfl, rfl⟩ | ⟨a, rfl, rfl, z⟩ | ⟨a, rfl, rfl, M, rfl, ho, rfl⟩
    · split <;> omega
    · rcases z with rfl | rfl
      · split <;> omega
      · rw [if_pos (show isPlain Kd.plain = true from rfl)]
        omega
    · split <;> omega
  · obtain ⟨_, _, e, ne⟩ := lf_mem hz
    refine ⟨ne, fun kb => ?_, fun M kM => ?_⟩
    · subst kb
      have : z.2 = (if firstS z.1 = "sum" then colourD cs cl z.1 * sc else -(colourD cs cl z.1) * sc) % 2 := e
      clear e hcase
      generalize (if firstS z.1 = "sum" then colourD cs cl z.1 * sc else -(colourD cs cl z.1) * sc) = q at this
      omega
    · subst kM
      have e : z.2 = (if firstS z.1 = "sum" then colourD cs cl z.1 * sc else -(colourD cs cl z.1) * sc) % M := e
      have h1 := hk.1
      clear hcase
      generalize (if firstS z.1 = "sum" then colourD cs cl z.1 * sc else -(colourD cs cl z.1) * sc) = q at e
      have := Int.emod_nonneg q (show M ≠ 0 by omega)
      have := Int.emod_lt_of_pos q (show (0 : Int) < M by omega)
      omega
open PyData
open RP GL
/-! ### what can be shown -/
structure ShOk (d : PyData) (n p : Nat) : Prop where
  sh : d.showable = true
  nd : d.hasDict = false
  dp : d.depth ≤ p
  ln : d.shown.length ≤ n
theorem ShOk.mono {d : PyData} {n p n' p' : Nat} (h : ShOk d n p) (hn : n ≤ n') (hp : p ≤ p') : ShOk d n' p' := ⟨h.sh, h.nd, Nat.le_trans h.dp hp, Nat.le_trans h.ln hn⟩
theorem ShOk.repr {d : PyData} {n p : Nat} (h : ShOk d n p) (hn : n ≤ 100000) (hp : p ≤ 60) : d.showable = true ∧ d.depth ≤ 60 ∧ d.hasDict = false ∧ d.shown.length ≤ sizeLine := ⟨h.sh, Nat.le_trans h.dp hp, h.nd, Nat.le_trans h.ln (Nat.le_trans hn (by decide))⟩
theorem sh_all {n p : Nat} : ∀ {ds : List PyData}, (∀ d ∈ ds, ShOk d n p) → PyData.showableAll ds = true ∧ PyData.hasDictAll ds = false ∧ PyData.depthAll ds ≤ p ∧ piled (PyData.shownAll ds) ≤ (n + 2) * ds.length ∧ (PyData.shownAll ds).length = ds.length
  | [], _ => by rw [PyData.showableAll, PyData.hasDictAll, PyData.depthAll, PyData.shownAll]; exact ⟨rfl, rfl, Nat.zero_le _, Nat.le_refl _, rfl⟩
  | d :: r, h => by
    obtain ⟨a, b, c, e, f⟩ := sh_all (ds := r) fun m hm => h m (List.mem_cons_of_mem _ hm)
    have o := h d List.mem_cons_self
    have l := o.ln
    rw [PyData.showableAll, PyData.hasDictAll, PyData.depthAll, PyData.shownAll, a, b, o.sh, o.nd, piled_cons, List.length_cons, List.length_cons, Nat.mul_succ]
    exact ⟨rfl, rfl, Nat.max_le.mpr ⟨o.dp, c⟩, by omega, by omega⟩
theorem sh_tup {n p : Nat} {ds : List PyData} (h : ∀ d ∈ ds, ShOk d n p) : ShOk (.tuple ds) ((n + 2) * ds.length + 4) (p + 1) := by
  obtain ⟨a, b, c, e, f⟩ := sh_all h
  refine ⟨by rw [PyData.showable, a], by rw [PyData.hasDict, b], by rw [PyData.depth]; omega, ?_⟩
  rw [PyData.shown]
  unfold tupleText
  rw [strLen_append, strLen_append]
  have e1 : ((("(" : String) : Str)).length = 1 := rfl
  have e3 : (((if (PyData.shownAll ds).length == 1 then ",)" else ")" : String) : Str)).length ≤ 2 := by split <;> decide
  have e2 : (Str.join ", " (PyData.shownAll ds)).length ≤ piled (PyData.shownAll ds) := by
    by_cases z : PyData.shownAll ds = []
    · rw [z]
      exact Nat.le_refl 0
    · have := join_length_add _ z
      omega
  omega
theorem list_text : ∀ (zs : List Str) (acc : Str) (k : Nat), (zs.foldl (fun (a : Str × Nat) z => (a.1 ++ (if a.2 > 0 then ", " else "" : String) ++ z, a.2 + 1)) (acc, k)).1.length ≤ acc.length + piled zs
  | [], acc, k => Nat.le_add_right _ _
  | z :: r, acc, k => by
    rw [List.foldl_cons, piled_cons]
    have q := list_text r (acc ++ (if k > 0 then ", " else "" : String) ++ z) (k + 1)
    rw [strLen_append, strLen_append] at q
    have a3 : (((if k > 0 then ", " else "" : String) : Str)).length ≤ 2 := by split <;> decide
    dsimp only
    omega
theorem sh_int {i : Int} (h : i.natAbs < 10 ^ 33) : ShOk (.int i) 34 0 := by
  have l : i.natAbs.log2 < 1920 := by
    by_cases z : i.natAbs = 0
    · rw [z]; decide
    · exact (Nat.log2_lt z).mpr (Nat.lt_trans h (by decide +kernel))
  exact ⟨by rw [PyData.showable, decide_eq_true l], by rw [PyData.hasDict], by rw [PyData.depth]; exact Nat.le_refl _, int_len h⟩
theorem sh_none : ShOk .none 4 0 := ⟨by rw [PyData.showable], by rw [PyData.hasDict], by rw [PyData.depth]; exact Nat.le_refl _, by rw [PyData.shown]; decide⟩
theorem sh_cell {cs : List Col} (G : Good cs) {d : PyData} (h : isCell cs d) : ShOk d 200 1 := ⟨(cell_ok G h).sh.1, (cell_ok G h).sh.2.2.1, (cell_ok G h).lay.2, (cell_ok G h).sh.2.2.2⟩
theorem sh_rec {k : Kd} (hk : k.ok) {cs : List Col} (G : Good cs) {lost : List PyData} {cell : PyData} : ShOk (recD (recK k cs lost cell)) 30000 4 := by
  cases h : recK k cs lost cell with
  | none => exact sh_none.mono (by decide) (by decide)
  | some r =>
    obtain ⟨m, fs⟩ := r
    obtain ⟨hm, hl, hf⟩ := rec_ok hk G h
    obtain ⟨cl, t, sc, hT, efs, hcase⟩ := rec_fs h
    have l34 : fs.length ≤ 34 := by
      rw [efs]
      unfold lfL
      rw [List.length_map]
      exact Nat.le_trans (List.length_filter_le _ _) (cells_34 G)
    have o1 : ∀ d ∈ fs.map pairF, ShOk d 408 2 := fun d hd => by
      obtain ⟨z, hz, rfl⟩ := List.mem_map.mp hd
      obtain ⟨zc, z1, z2⟩ := hf z hz
      refine (sh_tup (n := 200) (p := 1) (ds := [z.1, .int z.2]) fun e he => ?_).mono (by show (200 + 2) * 2 + 4 ≤ 408; decide) (by decide)
      simp only [List.mem_cons, List.not_mem_nil, or_false] at he
      rcases he with rfl | rfl
      · exact sh_cell G (cell_is zc)
      · refine (sh_int ?_).mono (by decide) (by decide)
        omega
    have o2 := sh_tup o1
    rw [List.length_map] at o2
    refine (sh_tup (n := 410 * 34 + 4) (p := 3) (ds := [.int m, .tuple (fs.map pairF)]) fun e he => ?_).mono (by show (410 * 34 + 4 + 2) * 2 + 4 ≤ 30000; decide) (by decide)
    simp only [List.mem_cons, List.not_mem_nil, or_false] at he
    rcases he with rfl | rfl
    · refine (sh_int ?_).mono (by decide) (by decide)
      rcases hm with rfl | rfl <;> decide
    · refine o2.mono ?_ (by decide)
      have := Nat.mul_le_mul_left 410 l34
      omega
end K30
end
section
set_option Elab.async false
set_option linter.all false
set_option maxRecDepth 100000
set_option maxHeartbeats 4000000
namespace K30
open PySem PySem.Spec PyProof.Rows L2 Evl TX
open C8 (Cal pe_c pe_gc)
open RP GL
def spRight : Sp := fun vs H Q _ => ∃ j, vs = [.ref j] ∧ JarAt H j ∧ ∀ H', But j H H' → Q (.bl true) H'
def spLose : Sp := fun vs H Q _ => ∃ (j p : Addr) (sh : Int) (xs : List V) (ds : List PyData), vs = [.ref j, .ref p, .int sh] ∧ JarAt H j ∧ H p = some (.lst xs) ∧ Reps H xs ds ∧ p ≠ j ∧ (0 < sh ∧ sh < 1000000000) ∧ ds.length ≤ 900 ∧
  ∀ v es fs H', But j H H' → JarAt H' j → Rep H' v (.tuple es) → es.Perm fs → fs.Sublist ds → Q v H'
section
variable {K : PySem.W.Frag} {σ : L2.St} {H : Hp} {te : TE} {tu tw : TS} {D : Ends}
theorem s_ifR (h : te σ H fun v H1 => ∃ b, v = .bl b ∧ (if b = true then tu D σ H1 else tw D σ H1)) : tIfS (tTest te) tu tw D σ H := h
def rIns : V → List V → Hp → VK → Prop := fun x vs H Q => ∃ (l : Addr) (xs : List V) (i : Int) (y : V), x = .ref l ∧ vs = [.int i, y] ∧ H l = some (.lst xs) ∧ xs.length < sizeLine ∧ 0 ≤ i ∧ i < 2 ^ 63 ∧ Q .non (upd H l (.lst (xs.take i.toNat ++ [y] ++ xs.drop i.toNat)))
theorem es_nil : EvS (tLst tNil) σ H [] := fun H1 e Q q => lst_ (nil_ ⟨by show 0 ≤ sizeLine; decide, fun p hp => q p [] _ hp (Ex.new hp) upd_same .nil⟩)
theorem s_ins {ta : TE} {tas : TA} {l : Addr} {xs : List V} (ha : Ev ta σ H (.ref l)) (hl : H l = some (.lst xs)) (h : ∀ H1, Ex H H1 → tas σ H1 fun vs H2 => rIns (.ref l) vs H2 fun _ H3 => D.nx σ H3) :
    tDrop (tBM K "list" (fun x vs H Q => ∃ (l : Addr) (xs : List V) (i : Int) (y : V), x = .ref l ∧ vs = [.int i, y] ∧ H l = some (.lst xs) ∧ xs.length < sizeLine ∧ 0 ≤ i ∧ i < 2 ^ 63 ∧ Q .non (upd H l (.lst (xs.take i.toNat ++ [y] ++ xs.drop i.toNat)))) ta tas) D σ H := ha H (Ex.refl H) _ fun H1 e1 => ⟨Or.inl ⟨rfl, xs, sq_of (e1 l _ hl)⟩, h H1 e1⟩
end
def rCnt : List V → Hp → V → Prop := fun vs H z => ∃ (du : Addr) (dx : List V) (x : V) (cs : List Col) (d : PyData) (k : Nat), vs = [.ref du, x, .int (k : Int)] ∧ H du = some (.lst dx) ∧ Reps H dx ((dataOf cs).map pairD) ∧ Rep H x d ∧ isCell cs d ∧ k < (dataOf cs).length ∧ z = .int (cntX cs d k)
section
variable {P : Program} {w : World} {K : PySem.W.Frag} {mg : Str → Option Value} {base : Heap} {f : Addr} {fd : FuncData}
variable {C CN CP CG ed : Addr}
abbrev sc_law_lose_N : List Str := ["_law_well", "_law_spots", "_law_share", "_law_found", "_law_spot"]
theorem sc_law_lose : FnScope sc_law_lose_N ["_law_well", "_law_spots", "_law_share"] (defScope s_law_lose) := ⟨rfl, rfl, rfl, by decide +kernel, rfl, by decide +kernel, by decide +kernel⟩
theorem ok_lose (F : FnP K "_law_lose" s_law_lose f fd) (T : Tops mg) (C_law_num : Cal P w K mg base 1 "_law_num" spDip []) : FnOk P w K mg base CX0 2 f fd ["_law_well", "_law_spots", "_law_share"] spLose := by
  refine F.ok sc_law_lose (fun vs H Q E h => ?_) (fun cdv A outer s H vs Q E hr h => ?_)
  · obtain ⟨j, p, sh, xs, ds, rfl, _⟩ := h; rfl
  · obtain ⟨j, p, sh, xs, ds, rfl, hj, hp, rp, npj, hsh, hl, k⟩ := h
    refine ⟨_, PSs.nox (pss_cons (ps_set (i := 3) sc_law_lose.nd rfl (.inl rfl) (pe_lst pa_nil))
  (pss_cons (ps_for PassesOwn.never rfl (pi_list (pv 1)) (pg_name (i := 4) sc_law_lose.nd rfl (.inl rfl))
  (pss_one (ps_if (pt_cmpR op_eq (pe_c C_law_num hr (by decide) rfl (pa_cons (pv 0) (pa_cons (pv 2) pa_nil))) pe_int (nomark _))
  (pss_one (ps_expr (pe_bm PySem.F.plainAttrs_list PySem.F.slot_list_insert PySem.F.type_list_insert mt_insert (pv 3) (pa_cons (pe_c C_law_num hr (by decide) rfl (pa_cons (pv 0) (pa_cons (pe_op op_add (pe_callB (call_len_seq : CallR _ (.builtin "len") (rLenS K)) (by rfl) T.n_len PySem.boot_len (pa_cons (pv 3) pa_nil)) pe_int) pa_nil))) (pa_cons (pv 4) pa_nil)))))
  pss_nil)))
  (pss_one (ps_ret (pe_callTy (call_tuple_of : CallR _ (.type "tuple") (rTupS K)) (by rfl) T.n_tuple (by decide +kernel) (pa_cons (pv 3) pa_nil)))))), ?_⟩
    refine q_asgL (xs := []) (el_lst ea_nil (Nat.le_of_ble_eq_true rfl)) fun fl H1 hfl e1 hl1 => ?_
    have njf : fl ≠ j := hj.ne hfl
    have npf : p ≠ fl := fun z => by rw [z, hfl] at hp; exact nomatch hp
    refine q_forL (K := K) (a := p) (xs := xs) (ev_var rfl) (sq_of (e1 _ _ hp)) (fun i σ' H' => ∃ (ys : List V) (es fs : List PyData) (y : Option V), σ' = [some (.ref j), some (.ref p), some (.int sh), some (.ref fl), y] ∧ But j H H' ∧ JarAt H' j ∧ H' fl = some (.lst ys) ∧ Reps H' ys es ∧ es.Perm fs ∧ fs.Sublist (ds.take i))
      (fun H2 e2 => ⟨[], [], [], none, rfl, But.ex (e1.trans e2), hj.ex (e1.trans e2), e2 _ _ hl1, .nil, .refl _, by simp⟩) (fun i σ' H' _ p => by
        obtain ⟨_, _, _, _, _, b, _⟩ := p
        exact sq_of (b _ _ npj hp)) ?_ ?_
    · rintro i x σ' H2 hx ⟨ys, es, fs, y, rfl, b2, j2, hf2, ry, pm, sl⟩
      obtain ⟨d, hd, rd⟩ := (rp.on (b2.tx hj)).at hx
      have tk : ds.take (i + 1) = ds.take i ++ [d] := by rw [List.take_succ, hd]; rfl
      have les : es.length ≤ 1000 := by
        have q1 := pm.length_eq
        have q2 := sl.length_le
        rw [List.length_take] at q2
        omega
      have lys : ys.length = es.length := ry.len
      refine s_ifR (op_ (dip_ rfl j2 (ev_var rfl) hsh.1 hsh.2 fun d' H3 j3 b3 d0 d1 => ?_))
      refine ⟨rfl, _, rfl, ?_⟩
      have hf3 := b3 _ _ njf hf2
      by_cases hz : V.int d' = V.int 0
      · rw [if_pos (decide_eq_true hz)]
        refine s_ins (K := K) (ev_var rfl) hf3 fun H4 e4 => ?_
        refine cons_ (dip_ rfl (j3.ex e4) (ev_op (ev_len (ev_var (i := 3) (v := .ref fl) rfl) (sq_of (e4 _ _ hf3))) ev_c rv_I0) (by omega) (by omega) fun t H5 j5 b5 t0 t1 => cons_ (var_ rfl (nil_ ⟨fl, ys, t, x, rfl, rfl, b5 _ _ njf (e4 _ _ hf3), sz_lt (by omega), t0, by omega, ?_⟩)))
        have b25 := (b3.trans (But.ex e4)).trans b5
        have hf5 := b5 _ _ njf (e4 _ _ hf3)
        have ry5 := ry.on (b25.tx j2)
        have rd5 := rd.on (b25.tx j2)
        refine ⟨_, es.take t.toNat ++ [d] ++ es.drop t.toNat, fs ++ [d], some x, rfl, (b2.trans b25).mut hfl, j5.put njf, upd_same, ?_, ?_, ?_⟩
        · exact (((reps_take ry5 t.toNat).on (Tx.put hf5)).app (.cons (rd5.on (Tx.put hf5)) .nil)).app ((reps_drop ry5 t.toNat).on (Tx.put hf5))
        · have q : (es.take t.toNat ++ [d] ++ es.drop t.toNat).Perm (d :: (es.take t.toNat ++ es.drop t.toNat)) := by
            rw [List.append_assoc]
            exact List.perm_middle
          rw [List.take_append_drop] at q
          exact q.trans ((pm.cons d).trans (List.perm_append_comm (l₁ := [d]) (l₂ := fs)))
        · rw [tk]
          exact sl.append (List.Sublist.refl _)
      · rw [if_neg (by rw [decide_eq_false hz]; decide)]
        refine ⟨ys, es, fs, some x, rfl, b2.trans b3, j3, hf3, ry.on (b3.tx j2), pm, ?_⟩
        rw [tk]
        exact sl.trans (List.sublist_append_left _ _)
    · rintro σ' H2 ⟨ys, es, fs, y, rfl, b2, j2, hf2, ry, pm, sl⟩
      rw [rp.len, List.take_length] at sl
      exact s_retR (er_tupleQ (eq_var rfl hf2 ry)) fun v H3 e3 rv => k v es fs H3 (b2.trans (But.ex e3)) (j2.ex e3) rv pm sl
end
end K30
end
section
set_option Elab.async false
set_option linter.all false
set_option maxRecDepth 100000
set_option maxHeartbeats 4000000
namespace K30
open PySem PySem.Spec PyProof.Rows L2 Evl TX
open C8 (Cal pe_c pe_gc)
def goodE (wd : Str) (ps : List (Nat × Str × Str)) (ss es : List Str) (e : Str) : Bool := (partS ps (colN ps ss e)).isEmpty && (partT ps (colN ps ss e) || decide (wd = "bits")) && (decide ((es.map (colOf (colN ps ss e))).sum = 1) || (decide ((es.map (colOf (colN ps ss e))).sum = 2) && (decide (wd = "odd") || decide (wd = "plain"))))
theorem told_any {wd : Str} {ps : List (Nat × Str × Str)} {ss es : List Str} : ∀ r : List Str, (toldN wd ps ss es r).isSome = r.any (goodE wd ps ss es)
  | [] => rfl
  | e :: r => by
    rw [toldN, List.any_cons, ← told_any r]
    unfold goodE
    cases h1 : (partS ps (colN ps ss e)).isEmpty <;> cases h2 : partT ps (colN ps ss e) <;> cases h3 : decide (wd = "bits") <;> cases h4 : (decide ((es.map (colOf (colN ps ss e))).sum = 1) || (decide ((es.map (colOf (colN ps ss e))).sum = 2) && (decide (wd = "odd") || decide (wd = "plain")))) <;> simp [h4]
theorem sum_ends {ps : List (Nat × Str × Str)} {ss es : List Str} (N : Net0 ps) (hes : ∀ e ∈ es, e ∈ ss) (nd : es.Nodup) (ln : es.length ≤ 2) {u v : Str} (hu : u ∈ es) (hv : v ∈ es) (s1 : (es.map (colOf (colN ps ss u))).sum = 1) (s2 : (es.map (colOf (colN ps ss v))).sum = 2) : False := by
  obtain ⟨⟨oku, _, _, Tu⟩, hdu⟩ := col_all N (hes u hu)
  obtain ⟨⟨okv, _, _, Tv⟩, _⟩ := col_all N (hes v hv)
  have cu := Tu.root
  have cv := Tv.root
  have key : ∀ u v : Str, u ≠ v → u ∈ ss → v ∈ ss → (colOf (colN ps ss u) u + colOf (colN ps ss u) v = 1) → (colOf (colN ps ss v) u + colOf (colN ps ss v) v = 2) → False := fun u v ne mu mv q1 q2 => by
    obtain ⟨⟨oku, _, _, Tu⟩, hdu⟩ := col_all N mu
    obtain ⟨⟨okv, _, _, Tv⟩, _⟩ := col_all N mv
    rw [Tu.root.2] at q1
    rw [Tv.root.2] at q2
    have iv : inC (colN ps ss v) u = true := by
      cases h : inC (colN ps ss v) u with
      | true => rfl
      | false =>
        rw [colOf_out h] at q2
        exact absurd q2 (by decide)
    have := (con_col (S := fun t => inC (colN ps ss u) t = true) N mv (col_closed N hdu) u iv).mp Tu.root.1
    have c := (okc_of oku this).2
    rcases c with c | c
    · rw [c] at q1; exact absurd q1 (by decide)
    · rw [c] at q1; exact absurd q1 (by decide)
  match es, hu, hv, s1, s2, nd, ln, hes with
  | [], hu, _, _, _, _, _, _ => exact nomatch hu
  | [a], hu, hv, s1, s2, _, _, _ =>
    rw [List.mem_singleton.mp hv] at s2 cv
    rw [List.map_cons, List.map_nil, List.sum_cons, cv.2] at s2
    exact absurd s2 (by decide)
  | [a, b], hu, hv, s1, s2, nd, _, hes =>
    have ne : a ≠ b := fun z => (List.nodup_cons.mp nd).1 (z ▸ List.mem_singleton.mpr rfl)
    rw [List.map_cons, List.map_cons, List.map_nil, List.sum_cons, List.sum_cons, List.sum_nil, Int.add_zero] at s1 s2
    have ma := hes a List.mem_cons_self
    have mb := hes b (List.mem_cons_of_mem _ List.mem_cons_self)
    simp only [List.mem_cons, List.not_mem_nil, or_false] at hu hv
    rcases hu with rfl | rfl <;> rcases hv with rfl | rfl
    · rw [s1] at s2; exact absurd s2 (by decide)
    · exact key _ _ ne ma mb s1 s2
    · exact key _ _ ne.symm mb ma (by rw [Int.add_comm]; exact s1) (by rw [Int.add_comm]; exact s2)
    · rw [s1] at s2; exact absurd s2 (by decide)
  | _ :: _ :: _ :: _, _, _, _, _, _, ln, _ => exact absurd ln (by simp)
def tellB (cs : List Col) (lost : List PyData) (cell : PyData) (wd : Str) : Bool := (toldN wd (netP cs (lostB lost cell)) (netS cs (lostB lost cell)) (endsG cs lost cell) (endsG cs lost cell)).isSome
theorem tell_odd (cs : List Col) (lost : List PyData) (cell : PyData) : tellB cs lost cell "odd" = tellB cs lost cell "plain" := by
  unfold tellB
  rw [told_any, told_any]
  refine congrArg (fun g => (endsG cs lost cell).any g) ?_
  funext e
  unfold goodE
  have e1 : decide (("odd" : Str) = "bits") = false := by decide +kernel
  have e2 : decide (("plain" : Str) = "bits") = false := by decide +kernel
  have e3 : decide (("odd" : Str) = "odd") = true := by decide +kernel
  have e4 : decide (("plain" : Str) = "plain") = true := by decide +kernel
  rw [e1, e2, e3, e4, Bool.true_or, Bool.or_true]
theorem ends_nd {cs : List Col} (G : Good cs) {lost : List PyData} {cell : PyData} (ic : isCell cs cell) : (endsG cs lost cell).Nodup := by
  refine List.Nodup.sublist List.filter_sublist ?_
  rcases ic with ⟨s, rfl, _⟩ | ⟨n, rfl, n0, n1⟩
  · exact List.nodup_cons.mpr ⟨List.not_mem_nil, .nil⟩
  · have := (pair_at G n1).2.2
    exact List.nodup_cons.mpr ⟨fun z => this (List.mem_singleton.mp z), List.nodup_cons.mpr ⟨List.not_mem_nil, .nil⟩⟩
theorem tell_even {cs : List Col} (G : Good cs) {lost : List PyData} {cell : PyData} (ic : isCell cs cell) : tellB cs lost cell "even" = (tellB cs lost cell "bits" && tellB cs lost cell "plain") := by
  have N := net0 G (lostB lost cell)
  have nd := ends_nd G (lost := lost) ic
  have sub : ∀ e ∈ endsG cs lost cell, e ∈ netS cs (lostB lost cell) := fun e he => List.contains_iff_mem.mp (List.mem_filter.mp he).2
  have ln : (endsG cs lost cell).length ≤ 2 := Nat.le_trans (List.length_filter_le _ _) (ends_len cs cell)
  unfold tellB
  rw [told_any, told_any, told_any]
  generalize endsG cs lost cell = es at *
  generalize netP cs (lostB lost cell) = ps at *
  generalize netS cs (lostB lost cell) = ss at *
  have e1 : decide (("even" : Str) = "bits") = false := by decide +kernel
  have e2 : decide (("plain" : Str) = "bits") = false := by decide +kernel
  have e3 : decide (("even" : Str) = "odd") = false := by decide +kernel
  have e4 : decide (("plain" : Str) = "plain") = true := by decide +kernel
  have e5 : decide (("even" : Str) = "plain") = false := by decide +kernel
  have e6 : decide (("bits" : Str) = "bits") = true := by decide +kernel
  have e7 : decide (("bits" : Str) = "odd") = false := by decide +kernel
  have e8 : decide (("bits" : Str) = "plain") = false := by decide +kernel
  have ge : ∀ e, goodE "even" ps ss es e = true ↔ (partS ps (colN ps ss e)).isEmpty = true ∧ partT ps (colN ps ss e) = true ∧ (es.map (colOf (colN ps ss e))).sum = 1 := fun e => by
    unfold goodE
    rw [e1, e3, e5]
    simp [and_assoc]
  have gb : ∀ e, goodE "bits" ps ss es e = true ↔ (partS ps (colN ps ss e)).isEmpty = true ∧ (es.map (colOf (colN ps ss e))).sum = 1 := fun e => by
    unfold goodE
    rw [e6, e7, e8]
    simp
  have gp : ∀ e, goodE "plain" ps ss es e = true ↔ (partS ps (colN ps ss e)).isEmpty = true ∧ partT ps (colN ps ss e) = true ∧ ((es.map (colOf (colN ps ss e))).sum = 1 ∨ (es.map (colOf (colN ps ss e))).sum = 2) := fun e => by
    unfold goodE
    rw [e2, e4]
    simp [and_assoc]
  rw [Bool.eq_iff_iff, Bool.and_eq_true, List.any_eq_true, List.any_eq_true, List.any_eq_true]
  constructor
  · rintro ⟨e, he, h⟩
    obtain ⟨h1, h2, h3⟩ := (ge e).mp h
    exact ⟨⟨e, he, (gb e).mpr ⟨h1, h3⟩⟩, ⟨e, he, (gp e).mpr ⟨h1, h2, .inl h3⟩⟩⟩
  · rintro ⟨⟨u, hu, h⟩, ⟨v, hv, h'⟩⟩
    obtain ⟨_, h3⟩ := (gb u).mp h
    obtain ⟨q1, q2, q3⟩ := (gp v).mp h'
    rcases q3 with q3 | q3
    · exact ⟨v, hv, (ge v).mpr ⟨q1, q2, q3⟩⟩
    · exact (sum_ends N sub nd ln hu hv h3 q3).elim
theorem comes_tell (k : Kd) (cs : List Col) (lost : List PyData) (cell : PyData) : comesB k cs lost cell = tellB cs lost cell (wordK k) := rfl
theorem kinds_is (cs : List Col) (lost : List PyData) (cell : PyData) : kindsL cs lost cell = words4.filter (tellB cs lost cell) := rfl
section
variable {K : PySem.W.Frag} {σ : L2.St} {H : Hp} {te tl : TE}
/-- a list of lists made by a comprehension over a list that stays -/
theorem ell_lcL {g : TG} {vs : List Nat} {a : Addr} {xs : List V} {Q : VK} (h : Ev tl σ H (.ref a)) (hx : H a = some (.lst xs)) (hn : xs.length ≤ 40000) (st : Nat → L2.St) (D : Nat → List PyData) (hw : ∀ i, i < xs.length → wipe (st i) vs = wipe σ vs)
    (hg : ∀ i x H1 (R : L2.St → Hp → Prop), xs[i]? = some x → Ex H H1 → R (st i) H1 → g x (wipe σ vs) H1 R)
    (he : ∀ i x H1, xs[i]? = some x → Ex H H1 → EvS te (st i) H1 (D i))
    (q : ∀ (p : Addr) (ps : List Addr) H1, H p = none → Ex H H1 → H1 p = some (.lst (ps.map V.ref)) → ps.length = xs.length → (∀ k r, ps[k]? = some r → ∃ ys, H1 r = some (.lst ys) ∧ Reps H1 ys (D k)) → Q (.ref p) H1) : tLc (iList K tl) g tYes te vs σ H Q :=
  h H (Ex.refl H) _ fun H1 e1 => have s1 := sq_of (K := K) (e1 _ _ hx); ⟨a, rfl, ⟨xs, s1⟩, fun Dl hD => lc_it (walk_list (K := K) (a := a) (xs := xs)) (fun i H' => Ex H1 H' ∧ ∃ ps : List Addr, H' Dl = some (.lst (ps.map V.ref)) ∧ ps.length = i ∧ ∀ k r, ps[k]? = some r → r ≠ Dl ∧ ∃ ys, H' r = some (.lst ys) ∧ Reps H' ys (D k)) ⟨Ex.new hD, [], upd_same, rfl, fun k r z => nomatch z⟩ (fun i H' _ p => ex_l p.1 s1)
    (fun i x H9 H' hi ⟨p1, ps, p2, p3, p4⟩ hy => by
      obtain ⟨rfl, hxi⟩ := hy
      refine hg i _ _ _ hxi (e1.trans p1) ⟨hw i hi, ?_⟩
      show te (st i) H' fun y H5 => ∃ acc, H5 Dl = some (.lst acc) ∧ acc.length < sizeLine ∧ Ex H1 (upd H5 Dl (.lst (acc ++ [y]))) ∧ ∃ qs : List Addr, (upd H5 Dl (.lst (acc ++ [y]))) Dl = some (.lst (qs.map V.ref)) ∧ qs.length = i + 1 ∧ ∀ k r, qs[k]? = some r → r ≠ Dl ∧ ∃ ys, (upd H5 Dl (.lst (acc ++ [y]))) r = some (.lst ys) ∧ Reps (upd H5 Dl (.lst (acc ++ [y]))) ys (D k)
      refine he i _ H' hxi (e1.trans p1) H' (Ex.refl H') _ fun r ys H5 hr e5 h5 r5 => ?_
      have hd : H5 Dl = some (.lst (ps.map V.ref)) := e5 _ _ p2
      have ne : r ≠ Dl := fun z => by rw [z, p2] at hr; exact nomatch hr
      refine ⟨_, hd, sz_lt (by rw [List.length_map]; omega), Ex.mut (p1.trans e5) hD, ps ++ [r], ?_, by rw [List.length_append, p3]; rfl, fun k u hu => ?_⟩
      · rw [List.map_append]
        exact upd_same
      · have put : Reps (upd H5 Dl (.lst (ps.map V.ref ++ [V.ref r]))) ys (D i) := r5.on (Tx.put hd)
        by_cases hk : k < ps.length
        · rw [List.getElem?_append_left hk] at hu
          obtain ⟨n1, zs, h1, h2⟩ := p4 k u hu
          exact ⟨n1, zs, by rw [upd_ne n1]; exact e5 _ _ h1, (h2.ex e5).on (Tx.put hd)⟩
        · rw [List.getElem?_append_right (by omega)] at hu
          have k0 : k = i := by
            have := (List.getElem?_eq_some_iff.mp hu).1
            rw [List.length_singleton] at this
            omega
          subst k0
          rw [p3, Nat.sub_self] at hu
          have : r = u := Option.some.inj hu
          subst this
          exact ⟨ne, ys, by rw [upd_ne ne]; exact h5, put⟩)
    (fun H' ⟨p1, ps, p2, p3, p4⟩ => q Dl ps H' (match h : H Dl with
      | none => rfl
      | some o => absurd (e1 _ _ h) (by rw [hD]; exact fun z => nomatch z)) (e1.trans p1) p2 p3 fun k r hr => (p4 k r hr).2)⟩
end
theorem any_const {b c : Bool} : ∀ {ds : List PyData}, ds ≠ [] → (∀ d ∈ ds, d = .bool b) → (ds.any fun z => PyData.eqv z (.bool c)) = (b == c)
  | [], h, _ => absurd rfl h
  | d :: r, _, h => by
    obtain rfl := h d List.mem_cons_self
    rw [List.any_cons]
    have e : PyData.eqv (.bool b) (.bool c) = (b == c) := by cases b <;> cases c <;> rfl
    rw [e]
    by_cases hr : r = []
    · rw [hr, List.any_nil, Bool.or_false]
    · rw [any_const hr fun d hd => h d (List.mem_cons_of_mem _ hd), Bool.or_self]
theorem any_word {f : Str → Bool} {w : Str} : ∀ {l : List Str}, w ∈ l → (((l.filter f).map PyData.str).any fun z => PyData.eqv z (.str w)) = f w := fun {l} hw => by
  have es : ∀ a b : Str, PyData.eqv (.str a) (.str b) = decide (a = b) := fun a b => rfl
  rw [Bool.eq_iff_iff, List.any_eq_true]
  constructor
  · rintro ⟨d, hd, e⟩
    obtain ⟨u, hu, rfl⟩ := List.mem_map.mp hd
    rw [es] at e
    have := of_decide_eq_true e
    subst this
    exact (List.mem_filter.mp hu).2
  · intro h
    exact ⟨_, List.mem_map.mpr ⟨w, List.mem_filter.mpr ⟨hw, h⟩, rfl⟩, by rw [es]; exact decide_eq_true rfl⟩
def ksG (nr : Int) : List (List Kd) := [[.bits], [.dial 4, .dial 6, .dial 1000000000, .dial (nr + 4)], [.dial 3, .dial 5, .dial 999999999, .dial (nr + 3)], [.plain]]
theorem wordD {m : Int} : wordK (.dial m) = (if m % 2 = 0 then ("even" : Str) else "odd") := rfl
theorem ksG_ok {nr : Int} (h0 : 0 ≤ nr) (h1 : nr ≤ 800000000) (h2 : nr % 2 = 0) : ∀ (k : Nat) (g : List Kd), (ksG nr)[k]? = some g → g ≠ [] ∧ g.length ≤ 4 ∧ ∀ x ∈ g, x.ok ∧ words4[k]? = some (wordK x)
  | 0, _, rfl => ⟨fun z => (nomatch z), by decide, fun x hx => by obtain rfl := List.mem_singleton.mp hx; exact ⟨trivial, rfl⟩⟩
  | 1, _, rfl => ⟨fun z => (nomatch z), by show 4 ≤ 4; decide, fun x hx => by
    simp only [List.mem_cons, List.not_mem_nil, or_false] at hx
    have e : ∀ m : Int, m % 2 = 0 → words4[1]? = some (wordK (.dial m)) := fun m h => by rw [wordD, if_pos h]; rfl
    rcases hx with rfl | rfl | rfl | rfl
    · exact ⟨⟨by decide, by decide⟩, e _ (by decide)⟩
    · exact ⟨⟨by decide, by decide⟩, e _ (by decide)⟩
    · exact ⟨⟨by decide, by decide⟩, e _ (by decide)⟩
    · exact ⟨⟨by omega, by omega⟩, e _ (by omega)⟩⟩
  | 2, _, rfl => ⟨fun z => (nomatch z), by show 4 ≤ 4; decide, fun x hx => by
    simp only [List.mem_cons, List.not_mem_nil, or_false] at hx
    have e : ∀ m : Int, m % 2 ≠ 0 → words4[2]? = some (wordK (.dial m)) := fun m h => by rw [wordD, if_neg h]; rfl
    rcases hx with rfl | rfl | rfl | rfl
    · exact ⟨⟨by decide, by decide⟩, e _ (by decide)⟩
    · exact ⟨⟨by decide, by decide⟩, e _ (by decide)⟩
    · exact ⟨⟨by decide, by decide⟩, e _ (by decide)⟩
    · exact ⟨⟨by omega, by omega⟩, e _ (by omega)⟩⟩
  | 3, _, rfl => ⟨fun z => (nomatch z), by decide, fun x hx => by obtain rfl := List.mem_singleton.mp hx; exact ⟨trivial, rfl⟩⟩
  | k + 4, _, h => nomatch h
theorem sum_nn {α : Type} {f : α → Int} : ∀ {l : List α}, (∀ x ∈ l, 0 ≤ f x) → 0 ≤ (l.map f).sum
  | [], _ => Int.le_refl _
  | x :: l, h => by
    rw [List.map_cons, List.sum_cons]
    have := h x List.mem_cons_self
    have := sum_nn fun y hy => h y (List.mem_cons_of_mem x hy)
    omega
theorem sum_ge {α : Type} {f : α → Int} : ∀ {l : List α}, (∀ x ∈ l, 0 ≤ f x) → ∀ a ∈ l, f a ≤ (l.map f).sum
  | x :: l, h, a, ha => by
    rw [List.map_cons, List.sum_cons]
    have h0 := h x List.mem_cons_self
    have h1 := sum_nn fun y hy => h y (List.mem_cons_of_mem x hy)
    rcases List.mem_cons.mp ha with rfl | ha
    · omega
    · have := sum_ge (fun y hy => h y (List.mem_cons_of_mem x hy)) a ha
      omega
theorem cell_mem {cs : List Col} {d : PyData} (ic : isCell cs d) : d ∈ cellsL cs := by
  let f : PyData → Int := fun z => if keyOf z = keyOf d then 1 else 0
  have nn : ∀ z, 0 ≤ f z := fun z => by
    show 0 ≤ (if keyOf z = keyOf d then (1 : Int) else 0)
    split <;> decide
  have f1 : f d = 1 := if_pos rfl
  have q := cells_sum cs f
  have pos : 1 ≤ ((cellsL cs).map f).sum := by
    rw [q]
    have n1 := sum_nn (l := sumsOf cs) (f := fun s => f (sumC s)) fun s _ => nn _
    have n2 := sum_nn (l := List.range (dataOf cs).length) (f := fun n : Nat => f (datC (n : Int))) fun n _ => nn _
    rcases ic with ⟨s, rfl, hs⟩ | ⟨n, rfl, n0, n1'⟩
    · have := sum_ge (l := sumsOf cs) (f := fun s => f (sumC s)) (fun s _ => nn _) s hs
      have e : f (sumC s) ≤ ((sumsOf cs).map fun s => f (sumC s)).sum := this
      rw [f1] at e
      omega
    · obtain ⟨m, rfl⟩ := Int.eq_ofNat_of_zero_le n0
      rw [Int.toNat_natCast] at n1'
      have e : f (datC (m : Int)) ≤ ((List.range (dataOf cs).length).map fun n : Nat => f (datC (n : Int))).sum := sum_ge (l := List.range (dataOf cs).length) (f := fun n : Nat => f (datC (n : Int))) (fun n _ => nn _) m (List.mem_range.mpr n1')
      rw [f1] at e
      omega
  by_cases h : ∃ z ∈ cellsL cs, keyOf z = keyOf d
  · obtain ⟨z, hz, e⟩ := h
    have : z = d := by
      have iz := cell_is hz
      exact eqv_cell iz ic (by rw [eqv_key iz ic, decide_eq_true e])
    exact this ▸ hz
  · have : ((cellsL cs).map f).sum = 0 := sum_zeroF fun z hz => if_neg fun e => h ⟨z, hz, e⟩
    omega
theorem in_back {k : Kd} {cs : List Col} {lost : List PyData} (ics : ∀ d ∈ lost, isCell cs d) {cell : PyData} (ic : isCell cs cell) (hh : hasC lost cell = true) : ((backL k cs lost).any fun z => PyData.eqv z cell) = tellB cs lost cell (wordK k) := by
  have hm := cell_mem ic
  rw [Bool.eq_iff_iff, List.any_eq_true]
  constructor
  · rintro ⟨d, hd, e⟩
    obtain ⟨h1, h2⟩ := List.mem_filter.mp hd
    have := eqv_cell (cell_is h1) ic e
    subst this
    exact (Bool.and_eq_true_iff.mp h2).2
  · intro h
    refine ⟨cell, List.mem_filter.mpr ⟨hm, ?_⟩, eqv_self_cell ic⟩
    rw [any_has ic ics, hh]
    exact h
end K30
end
section
set_option Elab.async false
set_option linter.all false
set_option maxRecDepth 100000
set_option maxHeartbeats 4000000
namespace K30
open PySem PySem.Spec PyProof.Rows L2 Evl TX
open C8 (Cal pe_c pe_gc)
open RP GL
theorem shaped_rep (b : Bool) : ∀ n : Nat, n ≤ 4 → SeqAt.shaped (.list (List.replicate n (.bool b))) = true
  | 0, _ => by cases b <;> decide +kernel
  | 1, _ => by cases b <;> decide +kernel
  | 2, _ => by cases b <;> decide +kernel
  | 3, _ => by cases b <;> decide +kernel
  | 4, _ => by cases b <;> decide +kernel
  | n + 5, h => absurd h (by omega)
theorem sg_words : ∀ w ∈ words4, SgOk w := by
  unfold SgOk
  decide +kernel
theorem shaped_word : ∀ w ∈ words4, SeqAt.shaped (.str w) = true := by decide +kernel
theorem sh_word : ∀ w ∈ words4, ShOk (.str w) 10 0 := fun w hw => by
  have h : ∀ w ∈ words4, (PyData.str w).showable = true ∧ (PyData.str w).hasDict = false ∧ (PyData.str w).depth ≤ 0 ∧ (PyData.str w).shown.length ≤ 10 := by decide +kernel
  exact ⟨(h w hw).1, (h w hw).2.1, (h w hw).2.2.1, (h w hw).2.2.2⟩
theorem sh_kinds {ws : List Str} (h : ∀ w ∈ ws, w ∈ words4) (l : ws.length ≤ 4) : ShOk (.tuple (ws.map PyData.str)) 60 1 := by
  refine (sh_tup (n := 10) (p := 0) fun d hd => ?_).mono ?_ (Nat.le_refl _)
  · obtain ⟨w, hw, rfl⟩ := List.mem_map.mp hd
    exact sh_word w (h w hw)
  · rw [List.length_map]
    omega
section
variable {σ : L2.St} {H : Hp} {C j fo lo l : Addr} {kd : Kd} {cs : List Col} {lost : List PyData} {xs : List V} {v : V} {cell : PyData}
/-- what comes back with another kind -/
theorem er_bb (v9 : σ[9]? = some (some kd.v)) (v3 : σ[3]? = some (some (.ref fo))) (v5 : σ[5]? = some (some (.ref lo))) (hf : H fo = some (.lst xs)) (rp : Reps H xs (cs.map colD)) (nf : fo ≠ j) (hj : JarAt H j) (hk : kd.ok) (G : Good cs) (la : LostAt H lo cs lost) (dist : (lost.map keyOf).Nodup) :
    EvR (tCall (dSp (rBack C)) [] C8.E0 (tCons (tCall (spBuilt C) [] C8.E0 (tCons (tLst (tCons (tVar 9) (tCons (tVar 3) tNil))) tNil)) (tCons (tVar 5) tNil))) σ H (.tuple (backL kd cs lost)) := fun H1 e Q q =>
  callO_ (cons_ (callO_ (cons_ (lst_ (cons_ (var_ v9 (cons_ (var_ v3 (nil_ ⟨by show 2 ≤ sizeLine; decide, fun l hl => nil_ ⟨j, l, kd, cs, fo, xs, rfl, ⟨upd_same, (Ex.new hl) _ _ (e _ _ hf), (rp.ex e).ex (Ex.new hl), (hj.ex e).ne hl, nf⟩, hk, G, fun a H3 ha e3 tab => cons_ (var_ v5 (nil_ ⟨_, ⟨a, lo, kd, cs, lost, rfl, tab, hk, G, la.ex (e.trans ((Ex.new hl).trans e3)), dist, rfl⟩, fun v H4 e4 r => q v H4 (((Ex.new hl).trans e3).trans e4) r⟩))⟩⟩)))))))))
theorem er_kb {k1 : Kd} (v2 : σ[2]? = some (some (.ref l))) (v5 : σ[5]? = some (some (.ref lo))) (v11 : σ[11]? = some (some v)) (S : StoreAt H j l k1 cs fo xs) (hk : k1.ok) (G : Good cs) (la : LostAt H lo cs lost) (dist : (lost.map keyOf).Nodup) (rv : Rep H v cell) (ic : isCell cs cell) (hin : (lost.any fun z => PyData.eqv z cell) = true) :
    EvR (tCall (dSp (rKB C)) [] C8.E0 (tCons (tCall (spBuilt C) [] C8.E0 (tCons (tVar 2) tNil)) (tCons (tVar 5) (tCons (tVar 11) tNil)))) σ H (.tuple ((kindsL cs lost cell).map PyData.str)) := fun H1 e Q q =>
  callO_ (cons_ (callO_ (cons_ (var_ v2 (nil_ ⟨j, l, k1, cs, fo, xs, rfl, S.ex e, hk, G, fun a H3 ha e3 tab => cons_ (var_ v5 (cons_ (var_ v11 (nil_ ⟨_, ⟨a, lo, v, k1, cs, lost, cell, rfl, tab, hk, G, la.ex (e.trans e3), dist, rv.ex (e.trans e3), ic, hin, rfl⟩, fun v H4 e4 r => q v H4 (e3.trans e4) r⟩))))⟩)))))
theorem es_castN {te : TE} {ds es : List PyData} (h : EvS te σ H ds) (e : ds = es) : EvS te σ H es := by
  rw [← e]
  exact h
end
section
variable {P : Program} {w : World} {K : PySem.W.Frag} {mg : Str → Option Value} {base : Heap} {f : Addr} {fd : FuncData}
variable {C CN CP CG ed : Addr}
abbrev sc_law_right_N : List Str := ["_law_well", "_law_turn", "_law_store", "_law_columns", "_law_spots", "_law_lost", "_law_near", "_law_groups", "_law_group", "_law_kind", "_law_told", "_law_spot", "_law_due", "_law_k", "_law_found", "_law_seen"]
theorem sc_law_right : FnScope sc_law_right_N ["_law_well"] (defScope s_law_right) := ⟨rfl, rfl, rfl, by decide +kernel, rfl, by decide +kernel, by decide +kernel⟩
theorem ok_right (F : FnP K "_law_right" s_law_right f fd) (T : Tops mg) (C_law_num : Cal P w K mg base 1 "_law_num" spDip []) (C_law_draw_store : Cal P w K mg base 3 "_law_draw_store" spStore []) (C_law_built : Cal P w K mg base 7 "_law_built" (spBuilt C) []) (C_law_span : Cal P w K mg base 1 "_law_span" (lSp rSpanL) []) (C_law_lose : Cal P w K mg base 2 "_law_lose" spLose []) (C_back : Cal P w K mg base 10 "back" (dSp (rBack C)) []) (C_kinds_back : Cal P w K mg base 9 "kinds_back" (dSp (rKB C)) [])  : GL.FnG P w K mg base CX0 11 f fd ["_law_well"] spRight := by
  refine GL.FnG.body F sc_law_right (fun vs H Q E h => ?_) (fun cdv A outer s H vs Q E g hr h => ?_)
  · obtain ⟨j, rfl, _⟩ := h; rfl
  · obtain ⟨j, rfl, hj, k⟩ := h
    have hu := hr.units
    have hu65 := Nat.lt_of_le_of_lt (Nat.add_le_add (Nat.le_add_right _ (16 * 10)) (by decide : 65 ≤ 200)) hr.un
    refine ⟨_, PSs.nox (pss_cons (ps_for PassesOwn.never rfl (pi_range1 rfl T.n_range (pa_cons pe_int pa_nil)) (pg_name (i := 1) sc_law_right.nd rfl (.inl rfl))
  (pss_cons (ps_set (i := 2) sc_law_right.nd rfl (.inl rfl) (pe_c C_law_draw_store hr (by decide) rfl (pa_cons (pv 0) (pa_cons (pe_lst (pa_cons pe_str (pa_cons pe_str (pa_cons pe_int (pa_cons pe_int (pa_cons pe_int (pa_cons pe_int (pa_cons (pe_op op_pow pe_int pe_int) (pa_cons (pe_op op_sub (pe_op op_pow pe_int pe_int) pe_int) pa_nil))))))))) (pa_cons pe_int (pa_cons pe_int pa_nil))))))
  (pss_cons (ps_asg (pe_tup (pa_cons (pe_ix (ix_seq : IxR _ (rIx K)) (pv 2) pe_int (fun _ _ => rfl)) (pa_cons (pe_c C_law_span hr (by decide) rfl (pa_cons (pe_ix (ix_seq : IxR _ (rIx K)) (pv 2) pe_int (fun _ _ => rfl)) pa_nil)) pa_nil))) (pg_tup rfl (pgs_cons (pg_name (i := 3) sc_law_right.nd rfl (.inr rfl)) (pgs_cons (pg_name (i := 4) sc_law_right.nd rfl (.inl rfl)) pgs_nil))))
  (pss_cons (ps_asg (pe_tup (pa_cons (pe_c C_law_lose hr (by decide) rfl (pa_cons (pv 0) (pa_cons (pv 4) (pa_cons (pe_op op_add pe_int (pe_c C_law_num hr (by decide) rfl (pa_cons (pv 0) (pa_cons pe_int pa_nil)))) pa_nil)))) (pa_cons (pe_op op_mul pe_int (pe_c C_law_num hr (by decide) rfl (pa_cons (pv 0) (pa_cons (pe_op op_mul pe_int (pe_op op_pow pe_int pe_int)) pa_nil)))) pa_nil))) (pg_tup rfl (pgs_cons (pg_name (i := 5) sc_law_right.nd rfl (.inr rfl)) (pgs_cons (pg_name (i := 6) sc_law_right.nd rfl (.inl rfl)) pgs_nil))))
  (pss_cons (ps_set (i := 7) sc_law_right.nd rfl (.inl rfl) (pe_lst (pa_cons (pe_lst (pa_cons pe_str pa_nil)) (pa_cons (pe_lst (pa_cons pe_int (pa_cons pe_int (pa_cons (pe_op op_pow pe_int pe_int) (pa_cons (pe_op op_add (pv 6) pe_int) pa_nil))))) (pa_cons (pe_lst (pa_cons pe_int (pa_cons pe_int (pa_cons (pe_op op_sub (pe_op op_pow pe_int pe_int) pe_int) (pa_cons (pe_op op_add (pv 6) pe_int) pa_nil))))) (pa_cons (pe_lst (pa_cons pe_str pa_nil)) pa_nil))))))
  (pss_cons (ps_setLc (i := 10) (own := [("_law_group", 8)]) (g := gName 8) (tt := tYes) rfl sc_law_right.nd rfl rfl (sw_true rfl rfl rfl (by decide +kernel)) (pi_list (pv 7)) (blkOk_by (own := [("_law_group", 8)]) (N := sc_law_right_N) (sc := defScope s_law_right) (by decide +kernel)) (fun _ _ _ _ _ => (pg_name (i := 8) sc_law_right.nd rfl (.inl rfl))) (fun _ _ _ _ _ => pts_nil) (fun _ _ _ _ _ => (pe_lc (wi := (iList K (tVar 8))) (own := [("_law_kind", 9)]) (g := gName 9) (tt := tYes) rfl sc_law_right.nd (pi_list (pv 8)) (blkOk_by (own := [("_law_kind", 9)]) (N := sc_law_right_N) (sc := { kind := ScopeKind.function, names := [(".0", NameKind.local), ("_law_group", NameKind.local), ("_law_columns", NameKind.cell), ("_law_lost", NameKind.cell)], isGenerator := false, isCoroutine := false }) (by decide +kernel)) (fun _ _ _ _ _ => (pg_name (i := 9) sc_law_right.nd rfl (.inl rfl))) (fun _ _ _ _ _ => pts_nil) (fun _ _ _ _ _ => (pe_c C_back hr (by decide) rfl (pa_cons (pe_c C_law_built hr (by decide) rfl (pa_cons (pe_lst (pa_cons (pv 9) (pa_cons (pv 3) pa_nil))) pa_nil)) (pa_cons (pv 5) pa_nil)))))))
  (pss_one (ps_for PassesOwn.never rfl (pi_tup (pv 5)) (pg_name (i := 11) sc_law_right.nd rfl (.inr rfl))
  (pss_cons (ps_set (i := 12) sc_law_right.nd rfl (.inl rfl) (pe_lst pa_nil))
  (pss_cons (ps_for PassesOwn.never rfl (pi_range1 rfl T.n_range (pa_cons pe_int pa_nil)) (pg_name (i := 13) sc_law_right.nd rfl (.inl rfl))
  (pss_cons (ps_setLc (i := 15) (own := [("_law_found", 14)]) (g := gName 14) (tt := tYes) rfl sc_law_right.nd rfl rfl (sw_true rfl rfl rfl (by decide +kernel)) (pi_list (pe_ix (ix_list : IxR _ (rIxL K)) (pv 10) (pv 13) (fun _ _ => rfl))) (blkOk_by (own := [("_law_found", 14)]) (N := sc_law_right_N) (sc := defScope s_law_right) (by decide +kernel)) (fun _ _ _ _ _ => (pg_name (i := 14) sc_law_right.nd rfl (.inl rfl))) (fun _ _ _ _ _ => pts_nil) (fun _ _ _ _ _ => (pe_cmpR (BG.op_inU hu65 : OpR _ _ (BG.rInU K)) (pv 11) (pv 14) rfl)))
  (pss_cons (ps_if (PW.pt (pw_and (pt_cmpR (op_inD hu65 : OpR _ _ (rInD K)) pe_bl (pv 15) rfl) (pw_and1 (pt_cmpR (op_inD hu65 : OpR _ _ (rInD K)) pe_bl (pv 15) rfl))))
  (pss_one (ps_ret pe_bl))
  pss_nil)
  (pss_one (ps_set (i := 12) sc_law_right.nd rfl (.inl rfl) (pe_op op_cat (pv 12) (pe_op op_rep (pe_lst (pa_cons (pe_ix (ix_list : IxR _ (rIxL K)) (pe_lst (pa_cons pe_str (pa_cons pe_str (pa_cons pe_str (pa_cons pe_str pa_nil))))) (pv 13) (fun _ _ => rfl)) pa_nil)) (pe_callTy call_int1 (by rfl) T.n_int (by decide +kernel) (pa_cons (pe_cmpR (op_inD hu65 : OpR _ _ (rInD K)) pe_bl (pv 15) rfl) pa_nil)))))))))
  (pss_cons (ps_if (pt_cmpR op_ne (pe_callB (call_repr g hu) (by rfl) T.n_repr (by decide +kernel) (pa_cons (pe_c C_kinds_back hr (by decide) rfl (pa_cons (pe_c C_law_built hr (by decide) rfl (pa_cons (pv 2) pa_nil)) (pa_cons (pv 5) (pa_cons (pv 11) pa_nil)))) pa_nil)) (pe_callB (call_repr g hu) (by rfl) T.n_repr (by decide +kernel) (pa_cons (pe_callTy (call_tuple_of : CallR _ (.type "tuple") (rTupS K)) (by rfl) T.n_tuple (by decide +kernel) (pa_cons (pv 12) pa_nil)) pa_nil)) (nomark _))
  (pss_one (ps_ret pe_bl))
  pss_nil)
  (pss_one (ps_if (PW.pt (pw_or (pt_cmpR op_ne (pe_cmpR (op_inD hu65 : OpR _ _ (rInD K)) pe_str (pv 12) rfl) (pe_cmpR (op_inD hu65 : OpR _ _ (rInD K)) pe_str (pv 12) rfl) (nomark _)) (pw_or1 (pt_cmpR op_ne (pe_cmpR (op_inD hu65 : OpR _ _ (rInD K)) pe_str (pv 12) rfl) (pe_and (pe_cmpR (op_inD hu65 : OpR _ _ (rInD K)) pe_str (pv 12) rfl) (pe_one (pe_cmpR (op_inD hu65 : OpR _ _ (rInD K)) pe_str (pv 12) rfl))) (nomark _)))))
  (pss_one (ps_ret pe_bl))
  pss_nil)))))))))))))
  (pss_one (ps_ret pe_bl))), ?_⟩
    generalize hHZ : H = HZ at hj k ⊢
    
    refine q_forR1 (n := 2) (ea_cons ev_c ea_nil) (by decide) (fun i σ' H' => ∃ y1 y2 y3 y4 y5 y6 y7 y10 y11 y12 y13 y15 : Option V, σ' = [some (.ref j), y1, y2, y3, y4, y5, y6, y7, none, none, y10, y11, y12, y13, none, y15] ∧ JarAt H' j ∧ But j HZ H') (fun H1 e1 => ⟨none, none, none, none, none, none, none, none, none, none, none, none, rfl, hj.ex e1, But.ex e1⟩) ?_ ?_
    · rintro i σ' H hi ⟨y1, y2, y3, y4, y5, y6, y7, y10, y11, y12, y13, y15, rfl, hj, bZ⟩
      refine q_asgO (callO_ (cons_ (var_ rfl (cons_ (lst_ (consC_ (consC_ (consC_ (consC_ (consC_ (consC_ (cons_ (ev_ (v := .int 1000000000) (ev_is (ev_op ev_c ev_c (rv_I ⟨by decide, by decide, by decide⟩)) (congrArg V.int (by decide))) fun H2 e2 => cons_ (ev_ (v := .int 999999999) (ev_is (ev_op (ev_op ev_c ev_c (rv_I ⟨by decide, by decide, by decide⟩)) ev_c rv_I0) (congrArg V.int (by decide))) fun H3 e3 => nil_ ⟨by show 8 ≤ sizeLine; decide, fun kl hkl => consC_ (consC_ (nil_ ?_))⟩))))))))))))))
      have e23 := e2.trans e3
      have ekl : Ex H3 (upd H3 kl (.lst [.str "bits", .str "plain", .int 3, .int 4, .int 12, .int 9, .int 1000000000, .int 999999999])) := Ex.new hkl
      refine ⟨j, kl, 5, 10, [.bits, .plain, .dial 3, .dial 4, .dial 12, .dial 9, .dial 1000000000, .dial 999999999], rfl, (hj.ex e23).ex ekl, upd_same, (hj.ex e23).ne hkl, ?_, ⟨by show 0 < 8; decide, by show 8 < 1000; decide⟩, ⟨by decide, by decide⟩, ⟨by decide, by decide⟩, fun l kd cs fo xs H4 b4 j4 S4 hk _ G ld => ?_⟩
      · intro k hk
        simp only [List.mem_cons, List.not_mem_nil, or_false] at hk
        rcases hk with rfl | rfl | rfl | rfl | rfl | rfl | rfl | rfl
        · trivial
        · trivial
        · exact ⟨by decide, by decide⟩
        · exact ⟨by decide, by decide⟩
        · exact ⟨by decide, by decide⟩
        · exact ⟨by decide, by decide⟩
        · exact ⟨by decide, by decide⟩
        · exact ⟨by decide, by decide⟩
      have b04 : But j H H4 := (But.ex (e23.trans ekl)).trans b4
      clear b4 ekl hkl e23 e2 e3
      refine q_tupO (cons_ (ev_ (v := .ref fo) (ev_op (ev_var rfl) ev_c (rv_ixA (.inl S4.hl) at_one)) fun H6 e6 => cons_ (es_ (es_pc (R := rSpanL) (ds := cellsL cs) (ea_cons (ev_op (ev_var rfl) ev_c (rv_ixA (.inl (S4.ex e6).hl) at_one)) ea_nil) fun H7 e7 => ⟨fo, xs, cs, rfl, ((S4.ex e6).ex e7).hf, ((S4.ex e6).ex e7).rp, G, rfl⟩) fun sp sx H8 hsp e7 h8 r8 => nil_ ⟨by show 2 ≤ sizeLine; decide, fun p0 hp0 => g_two (K := K) upd_same ?_⟩)))
      have ep : Ex H8 (upd H8 p0 (.tup [.ref fo, .ref sp])) := Ex.new hp0
      have S8 := ((S4.ex e6).ex e7).ex ep
      have j8 := ((j4.ex e6).ex e7).ex ep
      have b08 : But j H (upd H8 p0 (.tup [.ref fo, .ref sp])) := b04.trans (But.ex ((e6.trans e7).trans ep))
      have nsp : sp ≠ j := (j4.ex e6).ne hsp
      have h8 := ep _ _ h8
      have r8 := r8.ex ep
      clear ep hp0
      generalize upd H8 p0 (.tup [.ref fo, .ref sp]) = H8 at *
      have lc := cells_34 G
      have lsx : sx.length = (cellsL cs).length := r8.len
      clear hsp e6 e7 j4 b04 S4
      refine q_tupO (cons_ (callO_ (cons_ (var_ rfl (cons_ (var_ rfl (cons_ (opC_ (dip_ rfl j8 ev_c (by decide) (by decide) fun sh H9 j9 b9 sh0 sh1 => ⟨1, sh, rfl, rfl, nil_ ⟨j, sp, 1 + sh, sx, cellsL cs, rfl, j9, b9 _ _ nsp h8, r8.on (b9.tx j8), nsp, ⟨by omega, by omega⟩, by omega, fun v lost fs0 HB bB9 jB rv pm sl => ?_⟩⟩)))))))))
      refine cons_ (opC_ (dip_ (t := 400000000) rfl jB (ev_is (w := .int 400000000) (ev_op ev_c (ev_is (w := .int 100000000) (ev_op ev_c ev_c (rv_I ⟨by decide, by decide, by decide⟩)) (congrArg V.int (by decide))) (rv_I (.inl ⟨by decide, by decide⟩))) (congrArg V.int (by decide))) (by decide) (by decide) fun nr HC jC bC n0 n1 => ⟨2, nr, rfl, rfl, .inl ⟨by decide, by decide⟩, nil_ ⟨by show 2 ≤ sizeLine; decide, fun p1 hp1 => g_two (K := K) upd_same ?_⟩⟩))
      have epC : Ex HC (upd HC p1 (.tup [v, .int (2 * nr)])) := Ex.new hp1
      have bC := bC.trans (But.ex epC)
      have jC := jC.ex epC
      clear epC hp1
      generalize upd HC p1 (.tup [v, .int (2 * nr)]) = HC at *
      obtain ⟨lo, lx, rfl, hloB, rloB⟩ := rv.tup_inv
      have nlo : lo ≠ j := fun z => by
        obtain ⟨p, q, r, h⟩ := jB
        rw [z, h] at hloB
        exact nomatch hloB
      have hlo : HC lo = some (.tup lx) := bC _ _ nlo hloB
      have rlo : Reps HC lx lost := rloB.on (bC.tx jB)
      have bBC := (b9.trans bB9).trans bC
      have S := S8.but bBC j8
      have ics : ∀ d ∈ lost, isCell cs d := fun d hd => cell_is (sl.subset (pm.mem_iff.mp hd))
      have ll : lost.length ≤ 40 := by
        have q1 := pm.length_eq
        have q2 := sl.length_le
        omega
      have dist : (lost.map keyOf).Nodup := (pm.map keyOf).nodup_iff.mpr (List.Nodup.sublist (sl.map keyOf) (cells_nd G))
      have shL : SeqAt.shaped (.tuple lost) = true := shaped_cellsU fun d hd => cell_ok G (ics d hd)
      have b0C := b08.trans bBC
      have la : LostAt HC lo cs lost := ⟨lx, hlo, rlo, ll, ics⟩
      clear S8 h8 r8 j8 b9 bB9 j9 bBC rv hloB rloB bC jB b08
      -- the kinds
      refine q_asgO (lst_ (cons_ (lst_ (consC_ (nil_ ⟨by show 1 ≤ sizeLine; decide, fun g0 hg0 => ?_⟩)))))
      refine cons_ (lst_ (consC_ (consC_ (cons_ (ev_ (v := .int 1000000000) (ev_is (ev_op ev_c ev_c (rv_I ⟨by decide, by decide, by decide⟩)) (congrArg V.int (by decide))) fun H2 e2 => cons_ (ev_ (v := .int (2 * nr + 4)) (ev_op (ev_var rfl) ev_c rv_I0) fun H3 e3 => nil_ ⟨by show 4 ≤ sizeLine; decide, fun g1 hg1 => ?_⟩))))))
      refine cons_ (lst_ (consC_ (consC_ (cons_ (ev_ (v := .int 999999999) (ev_is (ev_op (ev_op ev_c ev_c (rv_I ⟨by decide, by decide, by decide⟩)) ev_c rv_I0) (congrArg V.int (by decide))) fun H4 e4 => cons_ (ev_ (v := .int (2 * nr + 3)) (ev_op (ev_var rfl) ev_c rv_I0) fun H5 e5 => nil_ ⟨by show 4 ≤ sizeLine; decide, fun g2 hg2 => ?_⟩))))))
      refine cons_ (lst_ (consC_ (nil_ ⟨by show 1 ≤ sizeLine; decide, fun g3 hg3 => nil_ ⟨by show 4 ≤ sizeLine; decide, fun gl hgl => ?_⟩⟩)))
      have f1 : Ex HC (upd HC g0 (.lst [.str "bits"])) := Ex.new hg0
      have k0 : (upd HC g0 (.lst [.str "bits"])) g0 = some (.lst (([.bits] : List Kd).map Kd.v)) := upd_same
      generalize upd HC g0 (.lst [.str "bits"]) = X0 at *
      have f2 : Ex H3 (upd H3 g1 (.lst [.int 4, .int 6, .int 1000000000, .int (2 * nr + 4)])) := Ex.new hg1
      have k1 : (upd H3 g1 (.lst [.int 4, .int 6, .int 1000000000, .int (2 * nr + 4)])) g1 = some (.lst (([.dial 4, .dial 6, .dial 1000000000, .dial (2 * nr + 4)] : List Kd).map Kd.v)) := upd_same
      generalize upd H3 g1 (.lst [.int 4, .int 6, .int 1000000000, .int (2 * nr + 4)]) = X1 at *
      have f3 : Ex H5 (upd H5 g2 (.lst [.int 3, .int 5, .int 999999999, .int (2 * nr + 3)])) := Ex.new hg2
      have k2 : (upd H5 g2 (.lst [.int 3, .int 5, .int 999999999, .int (2 * nr + 3)])) g2 = some (.lst (([.dial 3, .dial 5, .dial 999999999, .dial (2 * nr + 3)] : List Kd).map Kd.v)) := upd_same
      generalize upd H5 g2 (.lst [.int 3, .int 5, .int 999999999, .int (2 * nr + 3)]) = X2 at *
      have f4 : Ex X2 (upd X2 g3 (.lst [.str "plain"])) := Ex.new hg3
      have k3 : (upd X2 g3 (.lst [.str "plain"])) g3 = some (.lst (([.plain] : List Kd).map Kd.v)) := upd_same
      generalize upd X2 g3 (.lst [.str "plain"]) = X3 at *
      have f5 : Ex X3 (upd X3 gl (.lst [.ref g0, .ref g1, .ref g2, .ref g3])) := Ex.new hgl
      have k4 : (upd X3 gl (.lst [.ref g0, .ref g1, .ref g2, .ref g3])) gl = some (.lst [.ref g0, .ref g1, .ref g2, .ref g3]) := upd_same
      generalize upd X3 gl (.lst [.ref g0, .ref g1, .ref g2, .ref g3]) = HG at *
      have h3G := f4.trans f5
      have h2G := ((f3.trans h3G))
      have h1G := (e4.trans e5).trans h2G
      have h0G := ((e2.trans e3).trans f2).trans h1G
      have eG : Ex HC HG := f1.trans h0G
      have gs : ∀ (i : Nat) (x : V), ([.ref g0, .ref g1, .ref g2, .ref g3] : List V)[i]? = some x → ∃ r g, x = .ref r ∧ (ksG (2 * nr))[i]? = some g ∧ HG r = some (.lst (g.map Kd.v)) := fun i x hx => by
        match i, hx with
        | 0, rfl => exact ⟨g0, _, rfl, rfl, h0G _ _ k0⟩
        | 1, rfl => exact ⟨g1, _, rfl, rfl, h1G _ _ k1⟩
        | 2, rfl => exact ⟨g2, _, rfl, rfl, h3G _ _ k2⟩
        | 3, rfl => exact ⟨g3, _, rfl, rfl, f5 _ _ k3⟩
        | i + 4, h => exact nomatch h
      have gok := ksG_ok (nr := 2 * nr) (by omega) (by omega) (by omega)
      have SG := S.ex eG
      have jG := jC.ex eG
      have b0G := b0C.trans (But.ex eG)
      have hloG := eG _ _ hlo
      have rloG := rlo.ex eG
      have laG := la.ex eG
      clear f1 k0 f2 k1 f3 k2 f4 k3 f5 h3G h2G h1G h0G e2 e3 e4 e5 hg0 hg1 hg2 hg3 hgl S jC b0C hlo rlo la eG
      -- what comes back
      refine q_asgO (ell_lcL (K := K) (tl := tVar 7) (g := gName 8) (vs := [8]) (a := gl) (xs := [.ref g0, .ref g1, .ref g2, .ref g3]) (ev_var rfl) k4 (Nat.le_of_ble_eq_true rfl) (fun n => [some (.ref j), some (.int (i : Int)), some (.ref l), some (.ref fo), some (.ref sp), some (.ref lo), some (.int (2 * nr)), some (.ref gl), ([.ref g0, .ref g1, .ref g2, .ref g3] : List V)[n]?, none, y10, y11, y12, y13, none, y15]) (fun n => ((ksG (2 * nr)).getD n []).map fun k => PyData.tuple (backL k cs lost)) (fun _ _ => rfl) (fun n x H1 R hx _ r => by rw [hx] at r; exact r) (fun n x H1 hx e1 => ?_) fun tl tps HT _ eT hT lT pT => ?_)
      · obtain ⟨r, g, rfl, hg, hr0⟩ := gs n x hx
        obtain ⟨_, glen, gm⟩ := gok n g hg
        have eg : (ksG (2 * nr)).getD n [] = g := by rw [List.getD_eq_getElem?_getD, hg]; rfl
        show EvS _ [some (.ref j), some (.int (i : Int)), some (.ref l), some (.ref fo), some (.ref sp), some (.ref lo), some (.int (2 * nr)), some (.ref gl), ([.ref g0, .ref g1, .ref g2, .ref g3] : List V)[n]?, none, y10, y11, y12, y13, none, y15] H1 _
        rw [eg, hx]
        have q := es_lcL1 (K := K) (tl := tVar 8) (g := gName 9) (te := tCall (dSp (rBack C)) [] C8.E0 (tCons (tCall (spBuilt C) [] C8.E0 (tCons (tLst (tCons (tVar 9) (tCons (tVar 3) tNil))) tNil)) (tCons (tVar 5) tNil))) (vs := [9]) (σ := [some (.ref j), some (.int (i : Int)), some (.ref l), some (.ref fo), some (.ref sp), some (.ref lo), some (.int (2 * nr)), some (.ref gl), some (.ref r), none, y10, y11, y12, y13, none, y15]) (H := H1) (a := r) (xs := g.map Kd.v) (ev_var rfl) (e1 _ _ hr0) (by rw [List.length_map]; omega) (fun m => [some (.ref j), some (.int (i : Int)), some (.ref l), some (.ref fo), some (.ref sp), some (.ref lo), some (.int (2 * nr)), some (.ref gl), some (.ref r), (g.map Kd.v)[m]?, y10, y11, y12, y13, none, y15]) (fun m => PyData.tuple (backL (g.getD m .bits) cs lost)) (fun _ _ => rfl) (fun m y H2 R hy _ r => by rw [hy] at r; exact r) (fun m y H2 hy e2 => by
          rw [List.getElem?_map] at hy
          obtain ⟨kd2, hk2, rfl⟩ := Option.map_eq_some_iff.mp hy
          have ek : g.getD m .bits = kd2 := by rw [List.getD_eq_getElem?_getD, hk2]; rfl
          rw [ek]
          have e12 := e1.trans e2
          exact er_bb (kd := kd2) (j := j) (fo := fo) (lo := lo) (xs := xs) (by show some ((g.map Kd.v)[m]?) = _; rw [List.getElem?_map, hk2]; rfl) rfl rfl (e12 _ _ SG.hf) (SG.rp.ex e12) SG.off.2 (jG.ex e12) (gm kd2 (List.mem_of_getElem? hk2)).1 G (laG.ex e12) dist)
        have er : (List.range (g.map Kd.v).length).map (fun m => PyData.tuple (backL (g.getD m .bits) cs lost)) = g.map fun k => PyData.tuple (backL k cs lost) := by
          rw [List.length_map]
          exact rg (fun k => PyData.tuple (backL k cs lost)) .bits g
        rw [er] at q
        exact q
      have ST := SG.ex eT
      have jT := jG.ex eT
      have b0T := b0G.trans (But.ex eT)
      have hloT := eT _ _ hloG
      have rloT := rloG.ex eT
      have laT := laG.ex eT
      have lT : tps.length = 4 := lT
      clear SG jG b0G hloG rloG laG gs k4
      refine s_forT (K := K) (a := lo) (xs := lx) (ev_var rfl) (st_of hloT) (fun m σ' H' => ∃ y11 y12 y13 y15 : Option V, σ' = [some (.ref j), some (.int (i : Int)), some (.ref l), some (.ref fo), some (.ref sp), some (.ref lo), some (.int (2 * nr)), some (.ref gl), none, none, some (.ref tl), y11, y12, y13, none, y15] ∧ Ex HT H') (fun H1 e1 => ⟨_, _, _, _, rfl, e1⟩) (fun m σ' H' _ p => ?_) ?_ ?_
      · obtain ⟨_, _, _, _, _, e⟩ := p
        exact st_of (e _ _ hloT)
      · rintro m x σ' H12 hx ⟨y11', y12', y13', y15', rfl, e12⟩
        obtain ⟨cell, hcell, rx0⟩ := rloT.at hx
        have rx := rx0.ex e12
        have hmem := List.mem_of_getElem? hcell
        have ic := ics cell hmem
        have hhas : hasC lost cell = true := List.any_eq_true.mpr ⟨cell, hmem, decide_eq_true rfl⟩
        have hin : (lost.any fun z => PyData.eqv z cell) = true := by rw [any_has ic ics]; exact hhas
        have shc := shaped_cell (cell_ok G ic)
        show tSeq _ _ _ [some (.ref j), some (.int (i : Int)), some (.ref l), some (.ref fo), some (.ref sp), some (.ref lo), some (.int (2 * nr)), some (.ref gl), none, none, some (.ref tl), some x, y12', y13', none, y15'] H12
        refine q_asgS es_nil0 fun d0 dx0 H13 _ e13 hd0 rd0 => ?_
        refine q_forR1 (n := 4) (ea_cons ev_c ea_nil) (by decide) (fun q σ' H' => ∃ (dl : Addr) (dx : List V) (y13 y15 : Option V), σ' = [some (.ref j), some (.int (i : Int)), some (.ref l), some (.ref fo), some (.ref sp), some (.ref lo), some (.int (2 * nr)), some (.ref gl), none, none, some (.ref tl), some x, some (.ref dl), y13, none, y15] ∧ Ex H13 H' ∧ H' dl = some (.lst dx) ∧ Reps H' dx (((words4.take q).filter (tellB cs lost cell)).map PyData.str)) (fun H1 e1 => ⟨d0, dx0, _, _, rfl, e1, e1 _ _ hd0, rd0.ex e1⟩) ?_ ?_
        · rintro q σ' H14 hq ⟨dl, dx, y13, y15, rfl, e14, hdl, rdl⟩
          have hq : q < 4 := by omega
          have eT14 := (e12.trans e13).trans e14
          obtain ⟨tp, htp⟩ : ∃ tp, tps[q]? = some tp := ⟨tps[q]'(by omega), List.getElem?_eq_getElem (by omega)⟩
          obtain ⟨g, hg⟩ : ∃ g, (ksG (2 * nr))[q]? = some g := ⟨(ksG (2 * nr))[q]'(by show q < 4; omega), List.getElem?_eq_getElem _⟩
          obtain ⟨gne, glen, gm⟩ := gok q g hg
          have eg : (ksG (2 * nr)).getD q [] = g := by rw [List.getD_eq_getElem?_getD, hg]; rfl
          obtain ⟨ty, hty, rty⟩ := pT q tp htp
          rw [eg] at rty
          obtain ⟨wd, hwd⟩ : ∃ wd, words4[q]? = some wd := ⟨words4[q]'(by show q < 4; omega), List.getElem?_eq_getElem _⟩
          have gmw : ∀ k ∈ g, wordK k = wd := fun k hk => Option.some.inj ((gm k hk).2.symm.trans hwd)
          have rx14 := rx.ex (e13.trans e14)
          obtain ⟨tb, htb⟩ : ∃ tb, tb = tellB cs lost cell wd := ⟨_, rfl⟩
          have hT14 := eT14 _ _ hT
          show tSeq _ _ _ [some (.ref j), some (.int (i : Int)), some (.ref l), some (.ref fo), some (.ref sp), some (.ref lo), some (.int (2 * nr)), some (.ref gl), none, none, some (.ref tl), some x, some (.ref dl), some (.int (q : Int)), none, y15] H14
          refine q_asgS (ds := List.replicate g.length (.bool tb)) (es_castN (es_lcDL1 (K := K) (j := 14) (vs := [14]) (ds := g.map fun k => PyData.tuple (backL k cs lost)) (eq_ixA (i := (q : Int)) (ev_var rfl) (ev_var rfl) hT14 (atI_nat (by rw [List.getElem?_map, htp]; rfl)) (eT14 _ _ hty) (rty.ex eT14)) (by rw [List.length_map]; omega) (fun _ => .bool tb) (fun _ => rfl) fun d hd v H15 e15 rv => ?_) ?_) fun sn snx H15 _ e15 hsn rsn => ?_
          · obtain ⟨k, hk, rfl⟩ := List.mem_map.mp hd
            have q1 := in_back (k := k) ics ic hhas
            rw [gmw k hk, ← htb] at q1
            have q2 := BG.ev_inU (K := K) (σ := [some (.ref j), some (.int (i : Int)), some (.ref l), some (.ref fo), some (.ref sp), some (.ref lo), some (.int (2 * nr)), some (.ref gl), none, none, some (.ref tl), some x, some (.ref dl), some (.int (q : Int)), some v, y15]) (H := H15) (er_var (i := 11) rfl (rx14.ex e15)) (er_var (i := 14) rfl rv) shc (shaped_cellsU fun d hd => cell_ok G (cell_is (List.mem_filter.mp hd).1))
            rw [q1] at q2
            exact er_ev q2 (.bl _)
          · rw [List.map_map]
            exact List.eq_replicate_iff.mpr ⟨by rw [List.length_map], fun b hb => by obtain ⟨_, _, rfl⟩ := List.mem_map.mp hb; rfl⟩
          have gl0 : 0 < g.length := List.length_pos_iff.mpr gne
          have shs := shaped_rep tb g.length glen
          have seen : ∀ (c : Bool) {H16 : Hp} {σ : L2.St}, Ex H15 H16 → σ[15]? = some (some (.ref sn)) → Ev (tOp (rInD K) (tC (.bl c)) (tVar 15)) σ H16 (.bl (tb == c)) := fun c {H16} {σ} e s => by
            have z := ev_inQ (K := K) (σ := σ) (H := H16) (d := .bool c) (er_ev (ev_c (v := .bl c)) (.bl c)) (EvQ_fix (ev_var s) (e _ _ hsn) (rsn.ex e)) (by cases c <;> decide +kernel) shs
            rw [any_const (b := tb) (fun z => by have := congrArg List.length z; rw [List.length_replicate] at this; exact absurd this (by show g.length ≠ 0; omega)) fun d hd => (List.eq_of_mem_replicate hd)] at z
            exact z
          refine q_when (b := false) (et_is (et_and (a := tb == true) (b := tb == false) (et_test (seen true (Ex.refl _) rfl)) fun _ => et_test (seen false (Ex.refl _) rfl)) (by cases tb <;> rfl)) (fun z => nomatch z) fun _ H16 e16 => ?_
          have e46 := e15.trans e16
          have ld : (((words4.take q).filter (tellB cs lost cell)).map PyData.str).length ≤ 4 := by
            rw [List.length_map]
            exact Nat.le_trans (List.length_filter_le _ _) (by rw [List.length_take]; show min q 4 ≤ 4; omega)
          refine s_asgS (es_catQ (EvQ_fix (ev_var rfl) (e46 _ _ hdl) (rdl.ex e46)) (es_rep (b := tb) (d := .str wd) (er_ixQ (i := q) (es_lst (ds := words4.map PyData.str) (era_cons (er_str ev_c) (era_cons (er_str ev_c) (era_cons (er_str ev_c) (era_cons (er_str ev_c) era_nil)))) (Nat.le_of_ble_eq_true rfl)).q (ev_var rfl) (by rw [List.getElem?_map, hwd]; rfl)) fun H17 e17 => ev_intB (ev_is (seen true (e16.trans e17) rfl) (by cases tb <;> rfl))).q (Nat.le_trans (Nat.add_le_add ld (show (if tb then [PyData.str wd] else []).length ≤ 1 by cases tb <;> exact Nat.le_of_ble_eq_true rfl)) (by decide))) fun dl2 dx2 H17 _ e17 hdl2 rdl2 => ?_
          refine ⟨dl2, dx2, _, _, rfl, (e14.trans e46).trans e17, hdl2, ?_⟩
          have tk : words4.take (q + 1) = words4.take q ++ [wd] := by rw [List.take_succ, hwd]; rfl
          rw [tk, List.filter_append, List.map_append]
          have ew : (([wd] : List Str).filter (tellB cs lost cell)).map PyData.str = if tb then [.str wd] else [] := by
            rw [List.filter_cons, ← htb]
            cases tb <;> rfl
          rw [ew]
          exact rdl2
        · rintro σ' H14 ⟨dl, dx, y13, y15, rfl, e14, hdl, rdl⟩
          have e4 : words4.take 4 = words4 := rfl
          have rdl : Reps H14 dx ((kindsL cs lost cell).map PyData.str) := by rw [kinds_is]; exact rdl
          have eT14 := (e12.trans e13).trans e14
          have rx14 := rx.ex (e13.trans e14)
          have hkw : ∀ w ∈ kindsL cs lost cell, w ∈ words4 := fun w hw => (List.mem_filter.mp hw).1
          have sh := (sh_kinds hkw (Nat.le_trans (List.length_filter_le _ _) (Nat.le_refl 4))).repr (by decide) (by decide)
          have shs : SeqAt.shaped (.list ((kindsL cs lost cell).map PyData.str)) = true := shaped_strs fun w hw => sg_words w (hkw w hw)
          have inq : ∀ {w : Str} {H16 : Hp} {σ : L2.St}, w ∈ words4 → Ex H14 H16 → σ[12]? = some (some (.ref dl)) → Ev (tOp (rInD K) (tC (.str w)) (tVar 12)) σ H16 (.bl (tellB cs lost cell w)) := fun {w} {H16} {σ} hw e s => by
            have z := ev_inQ (K := K) (σ := σ) (H := H16) (d := .str w) (er_str (ev_c (v := .str w))) (EvQ_fix (ev_var s) (e _ _ hdl) (rdl.ex e)) (shaped_word w hw) shs
            rw [kinds_is, any_word hw] at z
            exact z
          refine q_when (b := false) (et_is (et_test (ev_op (er_repr (er_kb (C := C) (j := j) (l := l) (lo := lo) (v := x) rfl rfl rfl (ST.ex eT14) hk G (laT.ex eT14) dist rx14 ic hin) sh).str (er_repr (er_tupleQ (EvQ_fix (ev_var rfl) hdl rdl)) sh).str (rv_ne rfl))) (by rw [decide_eq_true rfl]; rfl)) (fun z => nomatch z) fun _ H16 e16 => ?_
          have to := tell_odd cs lost cell
          have te := tell_even G (lost := lost) ic
          have w0 : ("bits" : Str) ∈ words4 := by decide +kernel
          have w1 : ("even" : Str) ∈ words4 := by decide +kernel
          have w2 : ("odd" : Str) ∈ words4 := by decide +kernel
          have w3 : ("plain" : Str) ∈ words4 := by decide +kernel
          refine s_when (b := false) (et_is (et_or (a := false) (b := false) (et_is (et_test (ev_op (inq w2 e16 rfl) (inq w3 e16 rfl) (rv_ne rfl))) (by rw [to, decide_eq_true rfl]; rfl)) fun _ => et_is (et_test (ev_op (inq w1 (e16.trans (Ex.refl _)) rfl) (ev_andV (inq w0 (e16.trans (Ex.refl _)) rfl) fun _ => inq w3 (e16.trans (Ex.refl _)) rfl) (rv_ne rfl))) (by rw [te, decide_eq_true rfl]; rfl)) rfl) (fun z => nomatch z) fun _ H17 e17 => ?_
          exact ⟨_, _, _, _, rfl, (((e12.trans e13).trans e14).trans e16).trans e17⟩
      · rintro σ' H12 ⟨y11', y12', y13', y15', rfl, e12⟩
        exact ⟨_, _, _, _, _, _, _, _, _, _, _, _, rfl, jT.ex e12, (bZ.trans b0T).trans (But.ex e12)⟩
    · rintro σ' H14 ⟨y1, y2, y3, y4, y5, y6, y7, y10, y11, y12, y13, y15, rfl, j14, b14⟩
      exact s_ret ev_c fun H15 e15 => k H15 (b14.trans (But.ex e15))
end
end K30
end
section
set_option Elab.async false
set_option linter.all false
set_option maxRecDepth 100000
set_option maxHeartbeats 4000000
namespace K30
open PySem PySem.Spec PyProof.Rows L2 Evl TX
open C8 (Cal pe_c pe_gc)
open RP GL
section
variable {K : PySem.W.Frag} {σ : L2.St} {H : Hp}
/-- one turn: a jar, all errors with what it draws -/
theorem ev_turn {a : Addr} {ns : List Int} {t : Int} {i j : Nat} {E1 E2 : XK} (h0 : σ[i]? = some (some (.ref a))) (h1 : σ[j]? = some (some (.int t))) (ha : SqL K H a (ns.map V.int)) (hn : ns.length ≤ 63) (ht : 0 ≤ t ∧ t < 1000) :
    Ev (tCall spRight [] E1 (tCons (tCall (spJar K) [] E2 (tCons (tVar i) (tCons (tVar j) tNil))) tNil)) σ H (.bl true) := fun H1 e Q q =>
  ⟨.ref a, h0, .int t, h1, a, ns, t, rfl, ex_l e ha, hn, ht.1, ht.2, fun p H2 n2 s2 hj => ⟨p, rfl, hj, fun H3 b3 => q H3 fun b o hb => b3 b o (fun z => by
    rw [z, n2] at hb
    cases hb) (s2 b o hb)⟩⟩
end
def spLaw (K : PySem.W.Frag) : Sp := fun vs H Q _ => ∃ (a : Addr) (ns : List Int), vs = [.ref a] ∧ SqL K H a (ns.map V.int) ∧ ns.length ≤ 63 ∧ ∀ H', Q (.bl true) H'
/-- a def under no repr, by its name -/
structure CalG (P : Program) (w : World) (K : PySem.W.Frag) (mg : Str → Option Value) (base : Heap) (k : Nat) (x : Str) (sp : Sp) : Prop where
  ok : ∃ (f : Addr) (fd : FuncData) (ps : List Str), FnG P w K mg base CX0 k f fd ps sp ∧ mg x = some (.ref f) ∧ PySem.W.keepIn K (.ref f) = true ∧ Binds K fd ps []
theorem pe_cg {X : Cx} {k j : Nat} {x : Str} {sp : Sp} {p pos : Pos} {e : Expr} {es : List Expr} {t : TA} (c : CalG X.prog X.w X.K X.mg X.base k x sp) (g : X.A.guards = some []) (hr : Room j X.A) (hk : k ≤ j) (hg : Gl X x) (hx : Passes CX0 X C8.E0) (ha : PA X (e :: es) t)
    (hdb : (x == ("__debug__" : Str)) = false := by decide) (he : starEach (e :: es) X.env = (false, eval e X.env) :: starEach es X.env := by rfl) (hpl : (backTo pos (starEach es X.env)).any (·.1) = false := by rfl) :
    PE X (.Call (.Name x p) (e :: es) [] pos) (tCall sp [] C8.E0 t) := by
  obtain ⟨f, fd, ps, F, h1, h2, h3⟩ := c.ok
  exact pe_g g F (hr.mono hk) hg h1 h2 h3 .nil hx ha hdb he hpl
section
variable {P : Program} {w : World} {K : PySem.W.Frag} {mg : Str → Option Value} {base : Heap} {f : Addr} {fd : FuncData}
abbrev sc_law_N : List Str := ["_law_script", "_law_k"]
theorem sc_law : FnScope sc_law_N ["_law_script"] (defScope s_law) := ⟨rfl, rfl, rfl, by decide +kernel, rfl, by decide +kernel, by decide +kernel⟩
theorem ok_law (F : FnP K "law" s_law f fd) (T : Tops mg) (C_law_spring : Cal P w K mg base 1 "_law_spring" (spJar K) []) (C_law_right : CalG P w K mg base 11 "_law_right" spRight) : GL.FnG P w K mg base CX0 12 f fd ["_law_script"] (spLaw K) := by
  refine GL.FnG.body F sc_law (fun vs H Q E h => ?_) (fun cdv A outer s H vs Q E g hr h => ?_)
  · obtain ⟨a, ns, rfl, _⟩ := h
    rfl
  · obtain ⟨a, ns, rfl, ha, hn, k⟩ := h
    refine ⟨_, PSs.nox (pss_cons (ps_for PassesOwn.never rfl (pi_range1 rfl T.n_range (pa_cons (pe_callB (call_max2 rfl) (by rfl) T.n_max (by decide +kernel) (pa_cons pe_int (pa_cons (pe_callB (call_min2 rfl) (by rfl) T.n_min (by decide +kernel) (pa_cons (pe_callB call_len_seq (by rfl) T.n_len PySem.boot_len (pa_cons (pv 0) pa_nil)) (pa_cons pe_int pa_nil))) pa_nil))) pa_nil)) (pg_name (i := 1) sc_law.nd rfl (.inl rfl))
  (pss_one (ps_if (pt_not (pt_val (pe_cg C_law_right g hr (by decide) rfl pass0 (pa_cons (pe_c C_law_spring hr (by decide) rfl (pa_cons (pv 0) (pa_cons (pv 1) pa_nil))) pa_nil))))
  (pss_one (ps_ret pe_bl))
  pss_nil)))
  (pss_one (ps_ret pe_bl))), ?_⟩
    obtain ⟨n, en, hn0, hn6⟩ : ∃ n : Int, n = (if (if (5 : Int) < (ns.length : Int) then 5 else (ns.length : Int)) > 1 then (if (5 : Int) < (ns.length : Int) then 5 else (ns.length : Int)) else 1) ∧ 0 ≤ n ∧ n ≤ 5 := ⟨_, rfl, by split <;> split <;> omega, by split <;> split <;> omega⟩
    have hEn : EvA (tCons (tCB (fun xs H Q => ∃ i j, xs = [V.int i, V.int j] ∧ Q (.int (if j > i then j else i)) H) (tCons (tC (.int 1)) (tCons (tCB (fun xs H Q => ∃ i j, xs = [V.int i, V.int j] ∧ Q (.int (if j < i then j else i)) H) (tCons (tCB (rLenS K) (tCons (tVar 0) tNil)) (tCons (tC (.int 5)) tNil))) tNil))) tNil) [some (V.ref a), none] H [.int n] := by
      rw [en]
      exact ea_cons (ev_cb (ea_cons ev_c (ea_cons (ev_cb (ea_cons (ev_len (ev_var rfl) ha) (ea_cons ev_c ea_nil)) fun H1 e Q q => ⟨_, _, rfl, by rw [List.length_map]; exact q H1 (Ex.refl H1)⟩) ea_nil)) fun H1 e Q q => ⟨_, _, rfl, q H1 (Ex.refl H1)⟩) ea_nil
    refine q_forR1 (n := n) hEn ⟨hn0, by omega⟩ (fun i σ' H' => ∃ y, σ' = [some (.ref a), y] ∧ Ex H H') (fun H1 e1 => ⟨none, rfl, e1⟩) ?_ ?_
    · rintro i σ' H1 hi ⟨y, rfl, e1⟩
      exact s_when (b := false) (et_is (et_not (et_B (ev_turn (K := K) (i := 0) (j := 1) rfl rfl (ex_l e1 ha) hn ⟨by omega, by omega⟩))) rfl) (fun z => (nomatch z)) fun _ H2 e2 => ⟨_, rfl, e1.trans e2⟩
    · rintro σ' H1 ⟨y, rfl, e1⟩
      exact s_ret ev_c fun H2 e2 => k H2
end
end K30
end
section
set_option Elab.async false
set_option linter.all false
set_option maxRecDepth 100000
set_option maxHeartbeats 0
namespace K30
open PySem PySem.Spec PyProof.Rows L2 Evl TX
open C8 (Cal pe_c pe_gc)
open GL
section
variable {P : Program} {w : World} {K : PySem.W.Frag} {mg : Str → Option Value} {base h : Heap}
theorem tops_of (X : K.In h) (G : h.Ns mainGlobals mg) (c : He.SaysD fa fn K) : Tops mg where
  n_len := He.free_ok X G (c.fact 33 (f := .free "len") rfl)
  n_int := He.free_ok X G (c.fact 34 (f := .free "int") rfl)
  n_bool := He.free_ok X G (c.fact 35 (f := .free "bool") rfl)
  n_str := He.free_ok X G (c.fact 36 (f := .free "str") rfl)
  n_tuple := He.free_ok X G (c.fact 37 (f := .free "tuple") rfl)
  n_list := He.free_ok X G (c.fact 38 (f := .free "list") rfl)
  n_dict := He.free_ok X G (c.fact 39 (f := .free "dict") rfl)
  n_set := He.free_ok X G (c.fact 40 (f := .free "set") rfl)
  n_abs := He.free_ok X G (c.fact 41 (f := .free "abs") rfl)
  n_divmod := He.free_ok X G (c.fact 42 (f := .free "divmod") rfl)
  n_isinstance := He.free_ok X G (c.fact 43 (f := .free "isinstance") rfl)
  n_repr := He.free_ok X G (c.fact 44 (f := .free "repr") rfl)
  n_range := He.free_ok X G (c.fact 45 (f := .free "range") rfl)
  n_enumerate := He.free_ok X G (c.fact 46 (f := .free "enumerate") rfl)
  n_zip := He.free_ok X G (c.fact 47 (f := .free "zip") rfl)
  n_all := He.free_ok X G (c.fact 48 (f := .free "all") rfl)
  n_any := He.free_ok X G (c.fact 49 (f := .free "any") rfl)
  n_min := He.free_ok X G (c.fact 50 (f := .free "min") rfl)
  n_max := He.free_ok X G (c.fact 51 (f := .free "max") rfl)
  n_sum := He.free_ok X G (c.fact 52 (f := .free "sum") rfl)
  c_MOST_LETTERS := let ⟨t, e⟩ := He.int_ok X G (c.fact 53 (f := .int "MOST_LETTERS" 8) rfl); ⟨_, e, ⟨t, rfl⟩⟩
  c_MOST_COLUMNS := let ⟨t, e⟩ := He.int_ok X G (c.fact 54 (f := .int "MOST_COLUMNS" 8) rfl); ⟨_, e, ⟨t, rfl⟩⟩
  c_MOST_SUMS := let ⟨t, e⟩ := He.int_ok X G (c.fact 55 (f := .int "MOST_SUMS" 10) rfl); ⟨_, e, ⟨t, rfl⟩⟩
  c_MOST_DATA := let ⟨t, e⟩ := He.int_ok X G (c.fact 56 (f := .int "MOST_DATA" 24) rfl); ⟨_, e, ⟨t, rfl⟩⟩
  c_MOST_DIAL := let ⟨t, e⟩ := He.int_ok X G (c.fact 57 (f := .int "MOST_DIAL" 1000000000) rfl); ⟨_, e, ⟨t, rfl⟩⟩
  c_LEAST_DIAL := let ⟨t, e⟩ := He.int_ok X G (c.fact 58 (f := .int "LEAST_DIAL" 3) rfl); ⟨_, e, ⟨t, rfl⟩⟩
  c_BITS := let ⟨t, e⟩ := He.str_ok X G (c.fact 59 (f := .str "BITS" "bits") rfl); ⟨_, e, ⟨t, rfl⟩⟩
  c_PLAIN := let ⟨t, e⟩ := He.str_ok X G (c.fact 60 (f := .str "PLAIN" "plain") rfl); ⟨_, e, ⟨t, rfl⟩⟩
  c_EVEN := let ⟨t, e⟩ := He.str_ok X G (c.fact 61 (f := .str "EVEN" "even") rfl); ⟨_, e, ⟨t, rfl⟩⟩
  c_ODD := let ⟨t, e⟩ := He.str_ok X G (c.fact 62 (f := .str "ODD" "odd") rfl); ⟨_, e, ⟨t, rfl⟩⟩
theorem clt_of (c : He.SaysD fa fn K) : ClT K (He.ga K "Table") := by
  refine ⟨He.cls_ok (c.fact 63 (f := .cls "Table") rfl), fun f hf => ?_⟩
  have hf2 : f ∈ (["_kind", "_columns", "_names", "_sums", "_data", "_cells_of", "_cells", "_column_of", "_lines"] : List Str) := hf
  simp only [List.mem_cons, List.not_mem_nil, or_false] at hf2
  rcases hf2 with rfl | rfl | rfl | rfl | rfl | rfl | rfl | rfl | rfl
  · exact He.noat_ok (c.fact 64 (f := .noat "Table" "_kind") rfl)
  · exact He.noat_ok (c.fact 65 (f := .noat "Table" "_columns") rfl)
  · exact He.noat_ok (c.fact 66 (f := .noat "Table" "_names") rfl)
  · exact He.noat_ok (c.fact 67 (f := .noat "Table" "_sums") rfl)
  · exact He.noat_ok (c.fact 68 (f := .noat "Table" "_data") rfl)
  · exact He.noat_ok (c.fact 69 (f := .noat "Table" "_cells_of") rfl)
  · exact He.noat_ok (c.fact 70 (f := .noat "Table" "_cells") rfl)
  · exact He.noat_ok (c.fact 71 (f := .noat "Table" "_column_of") rfl)
  · exact He.noat_ok (c.fact 72 (f := .noat "Table" "_lines") rfl)
theorem clN_of (c : He.SaysD fa fn K) : ClN K (He.ga K "Net") := by
  refine ⟨He.cls_ok (c.fact 76 (f := .cls "Net") rfl), fun f hf => ?_⟩
  have hf2 : f ∈ (["pairs", "lines_at"] : List Str) := hf
  simp only [List.mem_cons, List.not_mem_nil, or_false] at hf2
  rcases hf2 with rfl | rfl
  · exact He.noat_ok (c.fact 77 (f := .noat "Net" "pairs") rfl)
  · exact He.noat_ok (c.fact 78 (f := .noat "Net" "lines_at") rfl)
theorem clP_of (c : He.SaysD fa fn K) : ClP K (He.ga K "Part") := by
  refine ⟨He.cls_ok (c.fact 82 (f := .cls "Part") rfl), fun f hf => ?_⟩
  have hf2 : f ∈ (["colours", "lines", "stubs", "is_two_sided"] : List Str) := hf
  simp only [List.mem_cons, List.not_mem_nil, or_false] at hf2
  rcases hf2 with rfl | rfl | rfl | rfl
  · exact He.noat_ok (c.fact 83 (f := .noat "Part" "colours") rfl)
  · exact He.noat_ok (c.fact 84 (f := .noat "Part" "lines") rfl)
  · exact He.noat_ok (c.fact 85 (f := .noat "Part" "stubs") rfl)
  · exact He.noat_ok (c.fact 86 (f := .noat "Part" "is_two_sided") rfl)
theorem clG_of (c : He.SaysD fa fn K) : ClG K (He.ga K "Gap") := by
  refine ⟨He.cls_ok (c.fact 89 (f := .cls "Gap") rfl), fun f hf => ?_⟩
  have hf2 : f ∈ (["net", "ends"] : List Str) := hf
  simp only [List.mem_cons, List.not_mem_nil, or_false] at hf2
  rcases hf2 with rfl | rfl
  · exact He.noat_ok (c.fact 90 (f := .noat "Gap" "net") rfl)
  · exact He.noat_ok (c.fact 91 (f := .noat "Gap" "ends") rfl)
theorem cal_of {x : Str} {params : Arguments} {body : List Stmt} {scope : Scope} {k : Nat} {ps : List Str} {sp : Sp} {f : Addr} {fd : FuncData} (j : Nat) (F : FunD K x x params body scope [] [] f fd) (O : FnOk P w K mg base CX0 k f fd ps sp) (hg : mg x = some (.ref f)) (hk : k ≤ j)
    (hb : ∀ (kV doc pm : Value) (an : Option Addr) (cdv ct : Value) (us : List Value), us.length = ps.length → bindArgs (PySem.W.fnOf x x params body scope .none kV doc pm an cdv ct) ⟨us, []⟩ = pure (ps.zip us)) : Cal P w K mg base j x sp [] :=
  ⟨f, fd, ps, [], O.mono hk, hg, F.kp, F.bindsN hb, .nil⟩
theorem pr_of {m q f : Str} {st : Stmt} {p1 p2 p3 : Pos} {k : Nat} (b : prB K m q = true) (e : prV K m = prVal (m, q, st)) (S : FnScope ["self"] ["self"] (defScope st)) (hb : defBody st = [.Return (some (.Attribute (.Name "self" p1) f p2)) p3]) (c : Cls K (He.ga K "Table")) (n : NoAttr K (He.ga K "Table") f)
    (hbi : ∀ (kV doc pm : Value) (an : Option Addr) (cdv ct : Value) (us : List Value), us.length = 1 → bindArgs (PySem.W.fnOf m q (defArgs st) (defBody st) (defScope st) .none kV doc pm an cdv ct) ⟨us, []⟩ = pure ((["self"] : List Str).zip us)) : Prp P w K mg base 1 (He.ga K "Table") m (getSp (He.ga K "Table") f) := by
  obtain ⟨b1, b⟩ := Bool.and_eq_true_iff.mp b
  obtain ⟨b2, b⟩ := Bool.and_eq_true_iff.mp b
  obtain ⟨b3, b⟩ := Bool.and_eq_true_iff.mp b
  obtain ⟨b4, b5⟩ := Bool.and_eq_true_iff.mp b
  have hrec : ∃ rest, PySem.W.recIn K (He.ma K (He.ga K "Table") m) "property" = some (.ref (gAd K m) :: rest) := by
    unfold gAd
    cases r : PySem.W.recIn K (He.ma K (He.ga K "Table") m) "property" with
    | none => rw [r] at b4; cases b4
    | some l =>
      rw [r] at b4
      cases l with
      | nil => cases b4
      | cons v l => cases v with
        | ref g => exact ⟨l, rfl⟩
        | _ => cases b4
  unfold prV at e
  cases q2 : K.lookup (gAd K m) with
  | none => rw [q2] at b5; cases b5
  | some o =>
    obtain ⟨oc, od, dt, osl⟩ := o
    rw [q2] at b5 e
    cases dt with
    | func fd =>
      obtain ⟨n1, n2, n3, n4, n5, n6, n7, n8, n9, n10, n11, n12, n13, n14, n15⟩ := fd
      have e2 : (some (n1, n2, n3, n4, n5, n6, n7, n8, n15) : He.FnV) = some (m, q, defArgs st, .stmts (defBody st), defScope st, mainGlobals, [], .none, builtinsNs) := e
      simp only [Option.some.injEq, Prod.mk.injEq] at e2
      obtain ⟨h1, h2, h3, h4, h5, h6, h7, h8, h9⟩ := e2
      subst h1 h2 h3 h4 h5 h6 h7 h8 h9
      exact ⟨_, gAd K n1, _, ["self"], c, ⟨of_decide_eq_true b1, of_decide_eq_true b2, of_decide_eq_true b3, hrec⟩, fn_getter (k := 0) q2 b5 S rfl hb c n, fun s us _ hl => .of_eq (by rw [List.append_nil]; exact hbi _ _ _ _ _ _ us (by rw [List.append_nil] at hl; exact hl))⟩
    | _ => cases b5
theorem kbn_of {m q x k1 : Str} {params : Arguments} {body : List Stmt} {scope : Scope} {f : Addr} {fd : FuncData} (F : FunD K m q params body scope [] [] f fd)
    (hb : ∀ (kV doc pm : Value) (an : Option Addr) (cdv ct u v : Value), bindArgs (PySem.W.fnOf m q params body scope .none kV doc pm an cdv ct) ⟨[u], [(k1, v)]⟩ = pure [(x, u), (k1, v)]) : KBn K fd [x, k1] 1 [k1] (fun us ws => us ++ ws) (fun vs zs => vs ++ zs) := by
  refine ⟨fun s us ws _ l1 l2 => ?_, fun r1 r2 => r1.append r2⟩
  match us, ws, l1, l2 with
  | [u], [v], _, _ =>
    obtain ⟨oc, od, dV, kV, doc, pm, an, cdv, ct, osl, rfl, lk, hcd, hD, hK⟩ := F.ex
    rcases hD with ⟨_, rfl⟩ | ⟨e, _⟩
    · exact .of_eq (hb _ _ _ _ _ _ u v)
    · exact absurd rfl e
theorem facts (X : K.In h) (G : h.Ns mainGlobals mg) {f : Addr} (hfa : mg ("law" : Str) = some (.ref f)) (c : He.SaysD fa fn K) (o : prAll K = true) (ov : (prs.map fun t => prV K t.1) = prs.map prVal) :
    ∃ fd : FuncData, (∀ (s : Shared) (v : Value), BindsTo s fd ⟨[v], []⟩ [("_law_script", v)]) ∧ ∀ base : Heap, K.In base → base.Ns mainGlobals mg → FnG P w K mg base CX0 12 f fd ["_law_script"] (spLaw K) := by
  obtain ⟨fd0, F0⟩ := c.def_ 0 (d := dG "is_integer" s_is_integer) rfl
  have g0 := He.glo_ok X G (c.fact 0 (f := .glo "is_integer") rfl)
  obtain ⟨fd1, F1⟩ := c.def_ 1 (d := dG "is_between" s_is_between) rfl
  have g1 := He.glo_ok X G (c.fact 1 (f := .glo "is_between") rfl)
  obtain ⟨fd2, F2⟩ := c.def_ 2 (d := dG "is_kind" s_is_kind) rfl
  have g2 := He.glo_ok X G (c.fact 2 (f := .glo "is_kind") rfl)
  obtain ⟨fd3, F3⟩ := c.def_ 3 (d := dG "is_name" s_is_name) rfl
  have g3 := He.glo_ok X G (c.fact 3 (f := .glo "is_name") rfl)
  obtain ⟨fd4, F4⟩ := c.def_ 4 (d := dG "has_repeats" s_has_repeats) rfl
  have g4 := He.glo_ok X G (c.fact 4 (f := .glo "has_repeats") rfl)
  obtain ⟨fd5, F5⟩ := c.def_ 5 (d := dG "has_form" s_has_form) rfl
  have g5 := He.glo_ok X G (c.fact 5 (f := .glo "has_form") rfl)
  obtain ⟨fd6, F6⟩ := c.def_ 6 (d := dG "is_pair" s_is_pair) rfl
  have g6 := He.glo_ok X G (c.fact 6 (f := .glo "is_pair") rfl)
  obtain ⟨fd7, F7⟩ := c.def_ 7 (d := dG "check_forms" s_check_forms) rfl
  have g7 := He.glo_ok X G (c.fact 7 (f := .glo "check_forms") rfl)
  obtain ⟨fd8, F8⟩ := c.def_ 8 (d := dG "check_contents" s_check_contents) rfl
  have g8 := He.glo_ok X G (c.fact 8 (f := .glo "check_contents") rfl)
  obtain ⟨fd9, F9⟩ := c.def_ 9 (d := dG "check_columns" s_check_columns) rfl
  have g9 := He.glo_ok X G (c.fact 9 (f := .glo "check_columns") rfl)
  obtain ⟨fd10, F10⟩ := c.def_ 10 (d := dG "cells_by_column" s_cells_by_column) rfl
  have g10 := He.glo_ok X G (c.fact 10 (f := .glo "cells_by_column") rfl)
  obtain ⟨fd11, F11⟩ := c.def_ 11 (d := dG "lines_of" s_lines_of) rfl
  have g11 := He.glo_ok X G (c.fact 11 (f := .glo "lines_of") rfl)
  obtain ⟨fd12, F12⟩ := c.def_ 12 (d := dG "_law_spring" s_law_spring) rfl
  have g12 := He.glo_ok X G (c.fact 12 (f := .glo "_law_spring") rfl)
  obtain ⟨fd13, F13⟩ := c.def_ 13 (d := dG "_law_num" s_law_num) rfl
  have g13 := He.glo_ok X G (c.fact 13 (f := .glo "_law_num") rfl)
  obtain ⟨fd14, F14⟩ := c.def_ 14 (d := dG "_law_any_of" s_law_any_of) rfl
  have g14 := He.glo_ok X G (c.fact 14 (f := .glo "_law_any_of") rfl)
  obtain ⟨fd15, F15⟩ := c.def_ 15 (d := dG "_law_draw_store" s_law_draw_store) rfl
  have g15 := He.glo_ok X G (c.fact 15 (f := .glo "_law_draw_store") rfl)
  obtain ⟨fd16, F16⟩ := c.def_ 16 (d := dG "_law_ties" s_law_ties) rfl
  have g16 := He.glo_ok X G (c.fact 16 (f := .glo "_law_ties") rfl)
  obtain ⟨fd17, F17⟩ := c.def_ 17 (d := dG "_law_span" s_law_span) rfl
  have g17 := He.glo_ok X G (c.fact 17 (f := .glo "_law_span") rfl)
  obtain ⟨fd18, F18⟩ := c.def_ 18 (d := dG "_law_built" s_law_built) rfl
  have g18 := He.glo_ok X G (c.fact 18 (f := .glo "_law_built") rfl)
  obtain ⟨fd19, F19⟩ := c.def_ 19 (d := dG "part_at" s_part_at) rfl
  have g19 := He.glo_ok X G (c.fact 19 (f := .glo "part_at") rfl)
  obtain ⟨fd20, F20⟩ := c.def_ 20 (d := dG "word_of" s_word_of) rfl
  have g20 := He.glo_ok X G (c.fact 20 (f := .glo "word_of") rfl)
  obtain ⟨fd21, F21⟩ := c.def_ 21 (d := dG "told_by" s_told_by) rfl
  have g21 := He.glo_ok X G (c.fact 21 (f := .glo "told_by") rfl)
  obtain ⟨fd22, F22⟩ := c.def_ 22 (d := dG "is_cell" s_is_cell) rfl
  have g22 := He.glo_ok X G (c.fact 22 (f := .glo "is_cell") rfl)
  obtain ⟨fd23, F23⟩ := c.def_ 23 (d := dG "check_table" s_check_table) rfl
  have g23 := He.glo_ok X G (c.fact 23 (f := .glo "check_table") rfl)
  obtain ⟨fd24, F24⟩ := c.def_ 24 (d := dD "check_lost" s_check_lost) rfl
  have g24 := He.glo_ok X G (c.fact 24 (f := .glo "check_lost") rfl)
  obtain ⟨fd25, F25⟩ := c.def_ 25 (d := dG "does_come_back" s_does_come_back) rfl
  have g25 := He.glo_ok X G (c.fact 25 (f := .glo "does_come_back") rfl)
  obtain ⟨fd26, F26⟩ := c.def_ 26 (d := dG "back" s_back) rfl
  have g26 := He.glo_ok X G (c.fact 26 (f := .glo "back") rfl)
  obtain ⟨fd27, F27⟩ := c.def_ 27 (d := dG "check_one_lost" s_check_one_lost) rfl
  have g27 := He.glo_ok X G (c.fact 27 (f := .glo "check_one_lost") rfl)
  obtain ⟨fd28, F28⟩ := c.def_ 28 (d := dG "kinds_back" s_kinds_back) rfl
  have g28 := He.glo_ok X G (c.fact 28 (f := .glo "kinds_back") rfl)
  obtain ⟨fd29, F29⟩ := c.def_ 29 (d := dG "_law_lose" s_law_lose) rfl
  have g29 := He.glo_ok X G (c.fact 29 (f := .glo "_law_lose") rfl)
  obtain ⟨fd30, F30⟩ := c.def_ 30 (d := dG "_law_right" s_law_right) rfl
  have g30 := He.glo_ok X G (c.fact 30 (f := .glo "_law_right") rfl)
  obtain ⟨fd31, F31⟩ := c.def_ 31 (d := dG "law" s_law) rfl
  have g31 := He.glo_ok X G (c.fact 31 (f := .glo "law") rfl)
  obtain ⟨fd32, F32⟩ := c.def_ 32 (d := dM "__init__" "Table.__init__" s_Table_init) rfl
  obtain ⟨fd33, F33⟩ := c.def_ 33 (d := dX "Net" "__init__" "Net.__init__" s_Net_init) rfl
  obtain ⟨fd34, F34⟩ := c.def_ 34 (d := dX "Net" "across" "Net.across" s_Net_across) rfl
  obtain ⟨fd35, F35⟩ := c.def_ 35 (d := dX "Part" "__init__" "Part.__init__" s_Part_init) rfl
  obtain ⟨fd36, F36⟩ := c.def_ 36 (d := dX "Gap" "__init__" "Gap.__init__" s_Gap_init) rfl
  have gX_Net := He.glo_ok X G (c.fact 75 (f := .glo "Net") rfl)
  have clN := clN_of c
  have gX_Part := He.glo_ok X G (c.fact 81 (f := .glo "Part") rfl)
  have clP := clP_of c
  have gX_Gap := He.glo_ok X G (c.fact 88 (f := .glo "Gap") rfl)
  have clG := clG_of c
  have gT := He.glo_ok X G (c.fact 32 (f := .glo "Table") rfl)
  have e := hfa.symm.trans g31
  cases e
  have bL := FunD.bindsA (ps := ["_law_script"]) F31 fun _ _ _ _ _ _ us hl => match us, hl with | [_], _ => rfl
  refine ⟨fd31, fun s v => bL s [v] rfl, fun base _ _ => ?_⟩
  have T := tops_of X G c
  have cl := clt_of c
  have ovL : [prV K "cells", prV K "data", prV K "kind", prV K "sums"] = [prVal ("cells", "Table.cells", s_Table_cells), prVal ("data", "Table.data", s_Table_data), prVal ("kind", "Table.kind", s_Table_kind), prVal ("sums", "Table.sums", s_Table_sums)] := ov
  simp only [List.cons.injEq, and_true] at ovL
  obtain ⟨v_cells, v_data, v_kind, v_sums⟩ := ovL
  have oo : ∀ t ∈ prs, prB K t.1 t.2.1 = true := List.all_eq_true.mp (Bool.and_eq_true_iff.mp (Bool.and_eq_true_iff.mp o).1).1
  have hed : ∀ H : Hp, SqT K H (edA K) [] := ed_sq (Bool.and_eq_true_iff.mp (Bool.and_eq_true_iff.mp o).2).1
  have hwd : ∀ H : Hp, SqT K H (He.ga K "WORDS") (words4.map L2.V.str) := wd_sq (Bool.and_eq_true_iff.mp (Bool.and_eq_true_iff.mp o).2).2
  have gwd := He.glo_ok X G (c.fact 74 (f := .glo "WORDS") rfl)
  obtain ⟨ic1, ic⟩ := Bool.and_eq_true_iff.mp (Bool.and_eq_true_iff.mp (Bool.and_eq_true_iff.mp o).1).2
  obtain ⟨ic2, ic⟩ := Bool.and_eq_true_iff.mp ic
  obtain ⟨ic3, ic⟩ := Bool.and_eq_true_iff.mp ic
  obtain ⟨ic4, ic5⟩ := Bool.and_eq_true_iff.mp ic
  have M_isT : IsT K mg "Table" (He.ga K "Table") := ⟨⟨cl.cl, of_decide_eq_true ic1, of_decide_eq_true ic2, of_decide_eq_true ic3, of_decide_eq_true ic4, of_decide_eq_true ic5⟩, gT⟩
  have P_cells : Prp P w K mg base 1 (He.ga K "Table") "cells" (getSp (He.ga K "Table") "_cells") := pr_of (q := "Table.cells") (st := s_Table_cells) (k := 0) (oo ("cells", "Table.cells", s_Table_cells) (by unfold prs; simp)) v_cells ⟨rfl, rfl, rfl, by decide +kernel, rfl, by decide +kernel, by decide +kernel⟩ rfl cl.cl (cl.no _ (by decide +kernel)) fun _ _ _ _ _ _ us hl => match us, hl with | [_], _ => rfl
  have P_data : Prp P w K mg base 1 (He.ga K "Table") "data" (getSp (He.ga K "Table") "_data") := pr_of (q := "Table.data") (st := s_Table_data) (k := 0) (oo ("data", "Table.data", s_Table_data) (by unfold prs; simp)) v_data ⟨rfl, rfl, rfl, by decide +kernel, rfl, by decide +kernel, by decide +kernel⟩ rfl cl.cl (cl.no _ (by decide +kernel)) fun _ _ _ _ _ _ us hl => match us, hl with | [_], _ => rfl
  have P_kind : Prp P w K mg base 1 (He.ga K "Table") "kind" (getSp (He.ga K "Table") "_kind") := pr_of (q := "Table.kind") (st := s_Table_kind) (k := 0) (oo ("kind", "Table.kind", s_Table_kind) (by unfold prs; simp)) v_kind ⟨rfl, rfl, rfl, by decide +kernel, rfl, by decide +kernel, by decide +kernel⟩ rfl cl.cl (cl.no _ (by decide +kernel)) fun _ _ _ _ _ _ us hl => match us, hl with | [_], _ => rfl
  have P_sums : Prp P w K mg base 1 (He.ga K "Table") "sums" (getSp (He.ga K "Table") "_sums") := pr_of (q := "Table.sums") (st := s_Table_sums) (k := 0) (oo ("sums", "Table.sums", s_Table_sums) (by unfold prs; simp)) v_sums ⟨rfl, rfl, rfl, by decide +kernel, rfl, by decide +kernel, by decide +kernel⟩ rfl cl.cl (cl.no _ (by decide +kernel)) fun _ _ _ _ _ _ us hl => match us, hl with | [_], _ => rfl
  have C_is_integer : Cal P w K mg base 1 "is_integer" (pSp rInt) [] := cal_of 1 F0 (ok_int F0 T) g0 (by decide) fun _ _ _ _ _ _ us hl => match us, hl with | [_], _ => rfl
  have C_is_name : Cal P w K mg base 1 "is_name" (pSp rName) [] := cal_of 1 F3 (ok_name F3 T) g3 (by decide) fun _ _ _ _ _ _ us hl => match us, hl with | [_], _ => rfl
  have C_has_repeats : Cal P w K mg base 1 "has_repeats" (pSp (rRep K)) [] := cal_of 1 F4 (ok_reps F4 T) g4 (by decide) fun _ _ _ _ _ _ us hl => match us, hl with | [_], _ => rfl
  have C_is_pair : Cal P w K mg base 1 "is_pair" (pSp (rPair K)) [] := cal_of 1 F6 (ok_pair F6 T) g6 (by decide) fun _ _ _ _ _ _ us hl => match us, hl with | [_, _], _ => rfl
  have C_cells_by_column : Cal P w K mg base 1 "cells_by_column" cSp [] := cal_of 1 F10 (ok_cbc F10 T) g10 (by decide) fun _ _ _ _ _ _ us hl => match us, hl with | [_], _ => rfl
  have C_lines_of : Cal P w K mg base 1 "lines_of" (dSp rLines) [] := cal_of 1 F11 (ok_lines F11 T) g11 (by decide) fun _ _ _ _ _ _ us hl => match us, hl with | [_, _], _ => rfl
  have C_law_spring : Cal P w K mg base 1 "_law_spring" (spJar K) [] := cal_of 1 F12 (ok_spring F12 T) g12 (by decide) fun _ _ _ _ _ _ us hl => match us, hl with | [_, _], _ => rfl
  have C_law_num : Cal P w K mg base 1 "_law_num" spDip [] := cal_of 1 F13 (ok_num F13 T) g13 (by decide) fun _ _ _ _ _ _ us hl => match us, hl with | [_, _], _ => rfl
  have C_law_ties : Cal P w K mg base 1 "_law_ties" (lSp rTiesL) [] := cal_of 1 F16 (ok_ties F16 T) g16 (by decide) fun _ _ _ _ _ _ us hl => match us, hl with | [_], _ => rfl
  have C_law_span : Cal P w K mg base 1 "_law_span" (lSp rSpanL) [] := cal_of 1 F17 (ok_span F17 T) g17 (by decide) fun _ _ _ _ _ _ us hl => match us, hl with | [_], _ => rfl
  have M_Net : C8.Mak P w K mg base 3 "Net" (He.ga K "Net") (nSp (He.ga K "Table") (He.ga K "Net")) [] := ⟨_, fd33, ["self", "table", "lost"], [], He.mkr_ok (c.fact 79 (f := .mkr "Net") rfl), ok_ninit F33 T clN P_data P_sums, gX_Net, F33.bindsN (fun _ _ _ _ _ _ us hl => match us, hl with | [_, _, _], _ => rfl), .nil⟩
  have M_NetT : C8.Mak P w K mg base 3 "Net" (He.ga K "Net") (nSpT (He.ga K "Table") (He.ga K "Net")) [] := ⟨_, fd33, ["self", "table", "lost"], [], He.mkr_ok (c.fact 79 (f := .mkr "Net") rfl), ok_ninitT F33 T clN P_data P_sums, gX_Net, F33.bindsN (fun _ _ _ _ _ _ us hl => match us, hl with | [_, _, _], _ => rfl), .nil⟩
  have M_across : C8.Met P w K mg base 1 (He.ga K "Net") "across" (acSp (He.ga K "Net")) [] := ⟨_, fd34, ["self", "number", "name"], [], clN.cl, (He.meth_ok (c.fact 80 (f := .meth "Net" "across") rfl)), ok_across (mg := mg) (w := w) (P := P) (base := base) F34 T clN, F34.bindsN (fun _ _ _ _ _ _ us hl => match us, hl with | [_, _, _], _ => rfl), .nil⟩
  have M_Part : C8.Mak P w K mg base 1 "Part" (He.ga K "Part") (ptSp (He.ga K "Net") (He.ga K "Part")) [] := ⟨_, fd35, ["self", "net", "colours"], [], He.mkr_ok (c.fact 87 (f := .mkr "Part") rfl), ok_ptinit F35 T clN clP, gX_Part, F35.bindsN (fun _ _ _ _ _ _ us hl => match us, hl with | [_, _, _], _ => rfl), .nil⟩
  have C_word_of : Cal P w K mg base 1 "word_of" (pSp rWord) [] := cal_of 1 F20 (ok_wordof F20 T) g20 (by decide) fun _ _ _ _ _ _ us hl => match us, hl with | [_], _ => rfl
  have C_check_table : Cal P w K mg base 1 "check_table" (pSp (rChkTb (He.ga K "Table"))) [] := cal_of 1 F23 (ok_chktb F23 T M_isT) g23 (by decide) fun _ _ _ _ _ _ us hl => match us, hl with | [_], _ => rfl
  have C_is_between : Cal P w K mg base 2 "is_between" (pSp rBetw) [] := cal_of 2 F1 (ok_betw F1 T C_is_integer) g1 (by decide) fun _ _ _ _ _ _ us hl => match us, hl with | [_, _, _], _ => rfl
  have C_has_form : Cal P w K mg base 2 "has_form" (pSp rForm) [] := cal_of 2 F5 (ok_form F5 T C_is_name) g5 (by decide) fun _ _ _ _ _ _ us hl => match us, hl with | [_], _ => rfl
  have C_check_contents : Cal P w K mg base 3 "check_contents" (pSp (rCols2 K)) [] := cal_of 3 F8 (ok_contents F8 T C_is_pair) g8 (by decide) fun _ _ _ _ _ _ us hl => match us, hl with | [_, _], _ => rfl
  have C_law_any_of : Cal P w K mg base 2 "_law_any_of" spOne [] := cal_of 2 F14 (ok_anyof F14 T C_law_num) g14 (by decide) fun _ _ _ _ _ _ us hl => match us, hl with | [_, _], _ => rfl
  have C_part_at : Cal P w K mg base 6 "part_at" (paSp (He.ga K "Net") (He.ga K "Part")) [] := cal_of 6 F19 (ok_part_at F19 T M_across M_Part clN) g19 (by decide) fun _ _ _ _ _ _ us hl => match us, hl with | [_, _], _ => rfl
  have M_Gap : C8.Mak P w K mg base 5 "Gap" (He.ga K "Gap") (gSp (He.ga K "Table") (He.ga K "Net") (He.ga K "Gap")) [] := ⟨_, fd36, ["self", "table", "lost", "cell"], [], He.mkr_ok (c.fact 92 (f := .mkr "Gap") rfl), ok_ginit F36 T clN clG M_Net P_data, gX_Gap, F36.bindsN (fun _ _ _ _ _ _ us hl => match us, hl with | [_, _, _, _], _ => rfl), .nil⟩
  have C_is_cell : Cal P w K mg base 3 "is_cell" (pSp (rIsCell (He.ga K "Table"))) [] := cal_of 3 F22 (ok_iscell F22 T C_is_integer P_sums P_data) g22 (by decide) fun _ _ _ _ _ _ us hl => match us, hl with | [_, _], _ => rfl
  have C_law_lose : Cal P w K mg base 2 "_law_lose" spLose [] := cal_of 2 F29 (ok_lose F29 T C_law_num) g29 (by decide) fun _ _ _ _ _ _ us hl => match us, hl with | [_, _, _], _ => rfl
  have C_is_kind : Cal P w K mg base 3 "is_kind" (pSp rKind) [] := cal_of 3 F2 (ok_kind F2 T C_is_between) g2 (by decide) fun _ _ _ _ _ _ us hl => match us, hl with | [_], _ => rfl
  have C_check_forms : Cal P w K mg base 3 "check_forms" (pSp rCols) [] := cal_of 3 F7 (ok_forms F7 T C_has_form C_has_repeats) g7 (by decide) fun _ _ _ _ _ _ us hl => match us, hl with | [_], _ => rfl
  have C_law_draw_store : Cal P w K mg base 3 "_law_draw_store" spStore [] := cal_of 3 F15 (ok_store F15 T C_law_num C_law_any_of) g15 (by decide) fun _ _ _ _ _ _ us hl => match us, hl with | [_, _, _, _], _ => rfl
  have C_told_by : Cal P w K mg base 7 "told_by" (tbSp (He.ga K "Net") (He.ga K "Gap")) [] := cal_of 7 F21 (ok_toldby F21 T C_part_at clP clG) g21 (by decide) fun _ _ _ _ _ _ us hl => match us, hl with | [_, _], _ => rfl
  obtain ⟨ds24, vd24, bd24⟩ := F24.binds1 (ps := ["table", "lost", "gone"]) 2 0 (fun z => nomatch z) rfl (fun _ _ _ _ _ _ _ us its l1 l2 => match us, its, l1, l2 with | [_, _], [_], _, _ => ⟨_, rfl, rfl⟩)
  have C_check_lost : Cal P w K mg base 4 "check_lost" (pSp (rChkL (He.ga K "Table") (edA K))) [.ref (edA K)] := ⟨_, fd24, ["table", "lost", "gone"], ds24, ok_chklost F24 T C_is_cell hed, g24, F24.kp, bd24, vd24⟩
  have C_check_one_lost : Cal P w K mg base 4 "check_one_lost" (pSp (rC1 (He.ga K "Table"))) [] := cal_of 4 F27 (ok_chk1 F27 T C_is_cell) g27 (by decide) fun _ _ _ _ _ _ us hl => match us, hl with | [_, _, _], _ => rfl
  have C_check_columns : Cal P w K mg base 4 "check_columns" (pSp rCols) [] := cal_of 4 F9 (ok_cols F9 T C_check_forms C_check_contents) g9 (by decide) fun _ _ _ _ _ _ us hl => match us, hl with | [_], _ => rfl
  have C_does_come_back : Cal P w K mg base 8 "does_come_back" (pSp (rComes (He.ga K "Table"))) [] := cal_of 8 F25 (ok_dcb F25 T C_word_of C_told_by M_Gap P_kind) g25 (by decide) fun _ _ _ _ _ _ us hl => match us, hl with | [_, _, _], _ => rfl
  have C_kinds_back : Cal P w K mg base 9 "kinds_back" (dSp (rKB (He.ga K "Table"))) [] := cal_of 9 F28 (ok_kindsb F28 T C_check_table C_check_one_lost C_told_by C_check_lost M_Gap hwd gwd) g28 (by decide) fun _ _ _ _ _ _ us hl => match us, hl with | [_, _, _], _ => rfl
  have M_Table : C8.Mak P w K mg base 5 "Table" (He.ga K "Table") (tSp (He.ga K "Table")) [] := ⟨_, fd32, ["self", "kind", "columns"], [], He.mkr_ok (c.fact 73 (f := .mkr "Table") rfl), ok_tinit F32 T C_is_kind C_check_columns C_cells_by_column C_lines_of cl, gT, F32.bindsN (fun _ _ _ _ _ _ us hl => match us, hl with | [_, _, _], _ => rfl), .nil⟩
  have C_back : Cal P w K mg base 10 "back" (dSp (rBack (He.ga K "Table"))) [] := cal_of 10 F26 (ok_back F26 T C_check_table C_does_come_back C_check_lost P_cells) g26 (by decide) fun _ _ _ _ _ _ us hl => match us, hl with | [_, _], _ => rfl
  have C_law_built : Cal P w K mg base 7 "_law_built" (spBuilt (He.ga K "Table")) [] := cal_of 7 F18 (ok_built F18 T M_Table) g18 (by decide) fun _ _ _ _ _ _ us hl => match us, hl with | [_], _ => rfl
  have C_law_right : CalG P w K mg base 11 "_law_right" spRight := ⟨_, _, ["_law_well"], ok_right F30 T C_law_num C_law_draw_store C_law_built C_law_span C_law_lose C_back C_kinds_back, g30, F30.kp, F30.bindsN fun _ _ _ _ _ _ us hl => match us, hl with | [_], _ => rfl⟩
  exact ok_law F31 T C_law_spring C_law_right
end
end K30
end
set_option Elab.async false
set_option linter.all false
set_option maxRecDepth 100000
set_option maxHeartbeats 0
namespace K30
open PySem PySem.Spec PyProof.Rows L2 Evl TX
open C8 (Cal pe_c pe_gc)
end K30
open PySem PySem.W PySem.Calls PyProof.Rows
theorem PySem.Challenge.cw_pairsums_k30_whole_kinds_that_bring_back_holds : PySem.Challenge.rw_pairsums_k30_whole_kinds_that_bring_back.Holds := by
  w_on; o_law
  refine HandSHeadRun.head_any (r := OpenLaw.row PySem.Challenge.rw_pairsums_k30_whole_kinds_that_bring_back) (q := view (OpenLaw.row PySem.Challenge.rw_pairsums_k30_whole_kinds_that_bring_back).prog [68]) (H := K30.hk) (ob := K30.ob) (M := 60000) (loose := K30.names) (d := HandSHeadRun.topDef (OpenLaw.row PySem.Challenge.rw_pairsums_k30_whole_kinds_that_bring_back).prog 68) (kwd := []) K30.ob_eq
    (by kernel_rfl) (fun s => by kernel_rfl) K30.run (by kernel_rfl) (by kernel_rfl) (by kernel_rfl) (by rfl) (by first | assumption | decide +kernel) (by decide +kernel) ⟨rfl, rfl, rfl, rfl, rfl, by decide +kernel⟩ ?hw ?hc
  case hw => w_witness2
  case hc =>
    refine GL.walk (l := PySem.Challenge.rw_pairsums_k30_whole_kinds_that_bring_back) (n := 63) (k := 12) (x := "_law_script") (CX := L2.CX0) rfl (by decide) (by kernel_rfl) ⟨rfl, by decide, by decide⟩ ?F (fun _ _ _ _ z => z)
    intro w mg fa h Y G hmg0
    obtain ⟨K, KX, c, o, ov⟩ := Y
    have hmg : mg ("law" : PySem.Str) = some (.ref fa) := by
      have e : (HandSHeadRun.topDef (OpenLaw.row PySem.Challenge.rw_pairsums_k30_whole_kinds_that_bring_back).prog 68).name = ("law" : PySem.Str) := by kernel_rfl
      rw [← e]
      exact hmg0
    obtain ⟨fd, hb, hF⟩ := K30.facts (P := (PySem.Challenge.rw_pairsums_k30_whole_kinds_that_bring_back).prog) (w := w) KX G hmg c o ov
    exact ⟨K, fd, K30.spLaw K, KX, hb, fun H a ns hl _ hS => ⟨a, ns, rfl, hS, hl, fun _ => rfl⟩, hF⟩
namespace K30
end K30
